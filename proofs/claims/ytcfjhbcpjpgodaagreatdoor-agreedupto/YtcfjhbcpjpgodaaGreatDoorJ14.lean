/- Proved here: what errors.Is answers where its target is a sentinel of errors.New's make: true at that very sentinel, false at nil, false at another such sentinel; it leaves the world as it was. -/
import Derived.Test.YtcfjhbcpjpgodaaGreatDoorChecked
import Derived.WalkKit
import Derived.LaidEql
import Derived.Stop.Asserts
import Derived.RowKitTokens
import Derived.Test.YtcfjhbcpjpgodaaGreatDoorBase
import Derived.Stop.LaidErr
import Derived.Below
import Derived.LaidOnce
namespace Go.Proofs.YtcfjhbcpjpgodaaGreatDoor
open Go.RowKit Go.Extern.Stop Go.Stop Go.Extern
variable{es:List Addr}{w w' W:World}{nm:String}{f:Field}
theorem Tryz.isTypeOf(v:Value)(w:World):(Extern.ReflectliteType.typeOf #[.iface 294 v]).run Tryz.prog w=.ok (.iface 211 (.agg #[.pointer (some ⟨16,294,none⟩)])) w:=by kernel_rfl
def comparableM:Array Value→Sem Value:=Extern.ReflectliteType.method fun t=>do Extern.Rtype.noPackHeld "Comparable" t;pure (.bool (←typeInfo t).comparable)
theorem Tryz.isComparable(w:World):(comparableM #[.agg #[.pointer (some ⟨16,294,none⟩)]]).run Tryz.prog w=.ok (.bool true) w:=by kernel_rfl
theorem Tryz.isMethodComparable(v:Value)(w:World):(Go.method 423 211 v "Comparable").run Tryz.prog w=.ok (239,v) w:=by kernel_rfl
theorem Tryz.isComp:(Tryz.prog.info? 294).map (·.comparable)=some true:=by kernel_rfl
theorem Tryz.isSize:(Tryz.prog.info? 312).map (·.size)=some 1:=by kernel_rfl
theorem Tryz.noIsE(v:Value)(xT:TypeId)(w:World):(Instr.typeAssert (.iface 294 v) xT 213 true).run Tryz.prog w=.ok (.tuple #[.nilIface,.bool false]) w:=run_typeAssert_lacksB Tryz.underlying213 (by kernel_rfl) (by kernel_rfl) v xT w
theorem Tryz.noUnwrapE(v:Value)(xT:TypeId)(w:World):(Instr.typeAssert (.iface 294 v) xT 216 true).run Tryz.prog w=.ok (.tuple #[.nilIface,.bool false]) w:=run_typeAssert_lacksB Tryz.underlying216 (by kernel_rfl) (by kernel_rfl) v xT w
theorem Tryz.noUnwrapsE(v:Value)(xT:TypeId)(w:World):(Instr.typeAssert (.iface 294 v) xT 218 true).run Tryz.prog w=.ok (.tuple #[.nilIface,.bool false]) w:=run_typeAssert_lacksB Tryz.underlying218 (by kernel_rfl) (by kernel_rfl) v xT w
theorem is_same(a:Addr)(w:World):
 Calls Tryz.prog 30 #[.iface 294 (.pointer (some a)),.iface 294 (.pointer (some a))] w fun e w'=>e=.returned (.bool true)∧w'=w:=by
 obtain⟨i,hi,hcmp⟩:=Option.map_eq_some_iff.1 Tryz.isComp;obtain⟨j,hj,hjs⟩:=Option.map_eq_some_iff.1 Tryz.isSize;have h8:=@run_callFunc_extern Tryz.prog 83 _ Extern.ReflectliteType.typeOf Tryz.func83 (by kernel_rfl) (by kernel_rfl) (by kernel_rfl) (by kernel_rfl);have h32:=@run_callFunc_extern Tryz.prog 239 _ comparableM Tryz.func239 (by kernel_rfl) (by kernel_rfl) (by kernel_rfl) (by kernel_rfl);have tT:=Tryz.isTypeOf;have cT:=Tryz.isComparable;have mR:=Tryz.isMethodComparable;have heq:=run_eql_iface_ptr_same (P:=Tryz.prog) w a Tryz.underlying42 Tryz.underlying294 hi hcmp hj;go_enter Tryz.func30,Tryz.ntmps30;go_wp2;refine wp_loop_rounds 1 ?_;rw[rounds_succ];go_wp2;go_ret;exact⟨rfl,rfl⟩
theorem is_nil(b:Addr)(w:World):
 Calls Tryz.prog 30 #[.nilIface,.iface 294 (.pointer (some b))] w fun e w'=>e=.returned (.bool false)∧w'=w:=by
 have hn:=run_eql_iface_nil_left (P:=Tryz.prog) w 294 (.pointer (some b)) Tryz.underlying42;go_enter Tryz.func30,Tryz.ntmps30;go_wp2;go_ret;exact⟨rfl,rfl⟩
theorem is_other(a b:Addr)(ca cb:Array Value)(ta tb:TypeId)(w:World)(hne:a≠b)(ha:w.heap[a.block]? =some (.cells ca ta (0,0)))(hb:w.heap[b.block]? =some (.cells cb tb (0,0))):
 Calls Tryz.prog 30 #[.iface 294 (.pointer (some a)),.iface 294 (.pointer (some b))] w fun e w'=>e=.returned (.bool false)∧w'=w:=by
 obtain⟨i,hi,hcmp⟩:=Option.map_eq_some_iff.1 Tryz.isComp;obtain⟨j,hj,hjs⟩:=Option.map_eq_some_iff.1 Tryz.isSize;have h8:=@run_callFunc_extern Tryz.prog 83 _ Extern.ReflectliteType.typeOf Tryz.func83 (by kernel_rfl) (by kernel_rfl) (by kernel_rfl) (by kernel_rfl);have h32:=@run_callFunc_extern Tryz.prog 239 _ comparableM Tryz.func239 (by kernel_rfl) (by kernel_rfl) (by kernel_rfl) (by kernel_rfl);have tT:=Tryz.isTypeOf;have cT:=Tryz.isComparable;have mR:=Tryz.isMethodComparable;have nE:=Tryz.noIsE;have uE:=Tryz.noUnwrapE;have vE:=Tryz.noUnwrapsE;have heq:=run_eql_iface_ptr_other (P:=Tryz.prog) w Tryz.underlying42 Tryz.underlying294 hi hcmp hj (by rw[hjs];decide) hne ha hb;go_enter Tryz.func30,Tryz.ntmps30;go_wp2;refine wp_loop_rounds 1 ?_;rw[rounds_succ];go_wp2;go_ret;exact⟨rfl,rfl⟩
structure SentIn (tp:TypeId) (gs:List Nat) (es:List Addr) (w:World):Prop where
 len:es.length=gs.length
 nodup:es.Nodup
 cell:∀(i g:Nat) (a:Addr),gs[i]? =some g→es[i]? =some a→w.cell? ⟨g,0,none⟩=some (.iface tp (.pointer (some a)))
 blk:∀a,a∈es→∃c t,w.heap[a.block]? =some (.cells c t (0,0))
theorem SentIn.later{tp:TypeId}{gs:List Nat}(h:SentIn tp gs es w)(hb:Below w.heap.size w w'):SentIn tp gs es w':=by
 refine⟨h.len,h.nodup,fun i g a hg ha=>?_,fun a ha=>?_⟩
 .have hc:=h.cell i g a hg ha;rw[hb.cell (p:=⟨g,0,none⟩) (World.block_lt_of_cell? _ _ hc)];exact hc
 obtain⟨c,t,hc⟩:=h.blk a ha;refine⟨c,t,?_⟩;have hlt:a.block<w.heap.size:=by
  rcases Nat.lt_or_ge a.block w.heap.size with h'|h'
  .exact h'
  simp[Array.getElem?_eq_none h'] at hc
 rw[hb.block _ hlt];exact hc
theorem sents_of_vars{P:Program}{ti tp te ts:TypeId}{ms:Array (String×TypeId)}
 (hi:P.underlying ti=some (.interface ms)) (hrow:∀u,P.typeName? 3 u=some nm→u=tp)
 (hp:P.underlying tp=some (.pointer te)) (he:P.underlying te=some (.struct #[f])) (hft:f.type=ts) (hfo:f.offset=0) (hs:P.underlying ts=some .string) (hc:P.cellsOf te=1) (hcs:P.cellsOf ts=1)
 (r:List (String×DataW Unit)):
 ∀(ls:List (String×List UInt8)) (gs:List Nat) (ps:List MemPlace),ls.map (fun x=>P.globalNamed x.1)=gs.map some→(∀g,g∈gs→(P.globals[g]?).map (·.type)=some ti)→
  DataW.LaidVars P W (ls.map (fun x=>(x.1,.iface nm (.ptr (.agg [.lit (.string x.2)]))))++r) ps→
  (∀b off,MemPlace.cell b off∈ps→(∃c t,W.heap[b]? =some (.cells c t (0,0)))∧∀u v,W.cell? ⟨b,off,none⟩=some (.iface u v)→Value.okWide P W .any 0 u v)→
  ∃es:List Addr,es.length=gs.length∧(es.map fun a=>MemPlace.cell a.block a.off).Sublist ps∧
   (∀(i g:Nat) (a:Addr),gs[i]? =some g→es[i]? =some a→W.cell? ⟨g,0,none⟩=some (.iface tp (.pointer (some a))))∧∀a,a∈es→∃c t,W.heap[a.block]? =some (.cells c t (0,0)):=by
 intro ls;induction ls with
 |nil=>
  intro gs ps hg _ _ _;cases gs with
  |nil=>exact⟨[],rfl,by simp,by simp,by simp⟩
  |cons g gs=>simp at hg
 |cons x ls ih=>
  intro gs ps hg ht hv hrows;cases gs with
  |nil=>simp at hg
  |cons g gs=>
   simp only[List.map_cons,List.cons.injEq] at hg;obtain⟨hg0,hgs⟩:=hg;obtain⟨g0,t0,cs0,f0,p0,q0,hg0',ht0',hv0,hd0,hq,e0⟩:=hv;obtain rfl:=Option.some.inj (hg0.symm.trans hg0');have ht0:=ht g (by simp);obtain rfl:=Option.some.inj (ht0.symm.trans ht0');subst e0;obtain⟨l0⟩:=cs0;have ok0:∀u v,l0=[.iface u v]→Value.okWide P W .any 0 u v:=fun u v e=>by
    subst e;exact(hrows g 0 (by simp[MemPlace.row])).2 u v (by simpa using World.var?_cell hg0' hv0 0)
   obtain⟨a0,s0,rfl,hc0,hs0,hz0,rfl⟩:=errorString_of_trod hi hrow hp he hft hfo hs hc hcs hd0 ok0;obtain⟨es,hlen,hsub,hcell,hblk⟩:=ih gs q0 hgs (fun g hm=>ht g (by simp[hm])) hq (fun b off hm=>hrows b off (by simp[hm]));refine⟨a0::es,by simp[hlen],?_,?_,?_⟩
   .have e1:MemPlace.row a0 1=[MemPlace.cell a0.block a0.off]:=by simp[MemPlace.row]
    rw[e1];simp only[List.map_cons,List.append_assoc,List.singleton_append];exact(List.Sublist.cons_cons _ hsub).trans (List.sublist_append_right _ _)
   .intro i g' a hi' ha;cases i with
    |zero=>
     simp only[List.getElem?_cons_zero,Option.some.injEq] at hi' ha;subst hi';subst ha;simpa using World.var?_cell hg0' hv0 0
    |succ i=>exact hcell i g' a (by simpa using hi') (by simpa using ha)
   intro a ha;rcases List.mem_cons.1 ha with rfl|ha
   .exact (hrows a.block a.off (by simp[MemPlace.row])).1
   exact hblk a ha
theorem sents_of_laid{P:Program}{ti tp te ts:TypeId}{ms:Array (String×TypeId)}
 (hi:P.underlying ti=some (.interface ms)) (hrow:∀u,P.typeName? 3 u=some nm→u=tp)
 (hp:P.underlying tp=some (.pointer te)) (he:P.underlying te=some (.struct #[f])) (hft:f.type=ts) (hfo:f.offset=0) (hs:P.underlying ts=some .string) (hc:P.cellsOf te=1) (hcs:P.cellsOf ts=1)
 (r:List (String×DataW Unit)) (ls:List (String×List UInt8)) (gs:List Nat) (hg:ls.map (fun x=>P.globalNamed x.1)=gs.map some) (ht:∀g,g∈gs→(P.globals[g]?).map (·.type)=some ti)
 (h:laidMet P (ls.map (fun x=>(x.1,.iface nm (.ptr (.agg [.lit (.string x.2)]))))++r) W):∃es,SentIn tp gs es W:=by
 obtain⟨ps,hv,hnd,hrows⟩:=h;obtain⟨es,hlen,hsub,hcell,hblk⟩:=sents_of_vars hi hrow hp he hft hfo hs hc hcs r ls gs ps hg ht hv hrows;refine⟨es,hlen,?_,hcell,hblk⟩;have h1:=List.Nodup.sublist hsub hnd;rw[List.Nodup,List.pairwise_map] at h1;exact h1.imp fun hne e=>hne (by rw[e])
theorem Tryz.star: "*" ++ "errors.errorString" = "*errors.errorString" :=by decide
theorem Tryz.rowE(u:TypeId)(h:Tryz.prog.typeName? 3 u=some "*errors.errorString"):u=294:=
 typeName_ptr_named (nm:= "errors.errorString") (by rw[Tryz.star];kernel_rfl) (by kernel_rfl) (by decide) u (by rw[Tryz.star];exact h)
theorem Tryz.cellsE:Tryz.prog.cellsOf 312=1:=by kernel_rfl
theorem Tryz.cellsS:Tryz.prog.cellsOf 9=1:=by kernel_rfl
def sentNames:List (String×List UInt8):=[("synod/api.ErrArg",[119,104,97,116,32,109,97,121,32,110,111,116,32,98,101]),("synod/api.ErrForm",[110,111,32,102,114,97,109,101]),("synod/api.ErrSeal",[110,111,116,32,115,105,103,110,101,100,32,98,121,32,105,116,115,32,115,101,110,100,101,114]),("synod/api.ErrPast",[111,102,32,97,32,104,101,105,103,104,116,32,116,104,97,116,32,105,115,32,100,101,99,105,100,101,100]),("synod/api.ErrFar",[111,102,32,97,32,104,101,105,103,104,116,32,111,114,32,114,111,117,110,100,32,116,111,111,32,102,97,114,32,97,119,97,121]),("synod/api.ErrOutsider",[102,114,111,109,32,111,110,101,32,119,104,111,32,104,97,115,32,110,111,32,115,97,121,32,105,110,32,116,104,105,115]),("synod/api.ErrKnown",[107,110,111,119,110,32,97,108,114,101,97,100,121]),("synod/api.ErrMany",[109,111,114,101,32,116,104,97,110,32,111,110,101,32,109,97,121,32,115,97,121]),("synod/api.ErrFull",[109,111,114,101,32,116,104,97,110,32,109,97,121,32,119,97,105,116]),("synod/api.ErrCert",[110,111,32,99,101,114,116,105,102,105,99,97,116,101]),("synod/api.ErrNone",[110,111,116,104,105,110,103,32,116,104,101,114,101]),("synod/api.ErrRecord",[110,111,32,103,111,111,100,32,114,101,99,111,114,100,32,111,114,32,98,108,111,99,107])]
def sentGs:List Nat:=[1,2,3,0,4,5,6,7,8,9,10,11]
theorem Tryz.sentG:sentNames.map (fun x=>Tryz.prog.globalNamed x.1)=sentGs.map some:=by kernel_rfl
theorem Tryz.sentT(g:Nat)(h:g∈sentGs):(Tryz.prog.globals[g]?).map (·.type)=some 42:=by
 have ha:(sentGs.all fun g=>(Tryz.prog.globals[g]?).map (·.type)==some 42)=true:=by kernel_rfl
 simpa using List.all_eq_true.1 ha g h
def Sent(es:List Addr)(w:World):Prop:=SentIn 294 sentGs es w
theorem Sent.later(h:Sent es w)(hb:Below w.heap.size w w'):Sent es w':=SentIn.later h hb
theorem sent_of_laid(r:List (String×DataW Unit)){W:World}(h:laidMet Tryz.prog (sentNames.map (fun x=>(x.1,.iface "*errors.errorString" (.ptr (.agg [.lit (.string x.2)]))))++r) W):∃es,Sent es W:=
 sents_of_laid Tryz.underlying42 Tryz.rowE Tryz.underlying294 Tryz.underlying312 rfl rfl Tryz.underlying9 Tryz.cellsE Tryz.cellsS r sentNames sentGs Tryz.sentG Tryz.sentT h
end Go.Proofs.YtcfjhbcpjpgodaaGreatDoor

import Derived.Conc.LoneSelect
import Derived.Test.YtcfjhbcpjpgodaaGreatDoorChecked
import Derived.WalkKit
import Derived.Stop.Asserts
import Derived.RowKitTokens
import Derived.Deep.RegionHeld
import Derived.Test.YtcfjhbcpjpgodaaGreatDoorJ7
import Derived.Lib.BufferWrite
import Derived.BigQuiet
import Derived.Test.YtcfjhbcpjpgodaaGreatDoorJ12
import Derived.Test.YtcfjhbcpjpgodaaGreatDoorMarks
namespace Go.Proofs.YtcfjhbcpjpgodaaGreatDoor
set_option maxRecDepth 100000
set_option maxHeartbeats 0
set_option linter.all false
section
open Go.Conc Go.RowKit Proofs.Tryz
variable{cb:Nat}{w w':World}
def ku:Code->Code| .seq _ b=>b|c=>c
def Vg:Code->Code| .seq a _=>a|c=>c
def qJ:Code->Code| .block _ c=>c|c=>c
def vJ:Code->Code| .loop c=>c|c=>c
def Zr(out:List zgW)(f:zgW):List zgW:=if out.length<100 then out++[f] else out
def zam(fr:Nat->zgW):List zgW->Nat->Nat->List zgW
 |out,_,0=>out
 |out,i,m+1=>zam fr (Zr out (fr i)) (i+1) m
def bufA(out:List zgW):Array Value:=(out.map Value.string).toArray
theorem G7(out:List zgW)(f:zgW):(bufA out).push (sA f)=bufA (out++[f]):=by simp[bufA]
theorem ZV(out:List zgW):(bufA out).size=out.length:=by simp[bufA]
def qx(w:World)(cb:Nat)(out:List zgW):Prop:=∃s r,w.heap[cb]? =some (.chan 100 (bufA out) false s r false)
structure qg (cb:Nat) (w w':World):Prop where
 os:w'.os=w.os
 tape:w'.tape=w.tape
 output:w'.output=w.output
 size:w'.heap.size=w.heap.size
 block:∀k,k≠cb->w'.heap[k]? =w.heap[k]?
theorem qg.refl(cb:Nat)(w:World):qg cb w w:=⟨rfl,rfl,rfl,rfl,λ_ _=>rfl⟩
theorem qg.trans{w'':World}(h:qg cb w w')(h':qg cb w' w''):qg cb w w'':=⟨h'.os.trans h.os,h'.tape.trans h.tape,h'.output.trans h.output,h'.size.trans h.size,λk hk=>(h'.block k hk).trans (h.block k hk)⟩
theorem qg.set(w:World)(c cap:Nat)(buf:Array Value)(cl:Bool)(s r:Nat)(tm:Bool):qg c w (w.setChan c cap buf cl s r tm):=
 ⟨rfl,rfl,rfl,size_setChan w c cap buf cl s r tm,λk hk=>by simp only[World.setChan];rw[Array.getElem?_setIfInBounds_ne (by omega)]⟩
theorem qg.cell(h:qg cb w w'){b o:Nat}{v:Value}(hc:w.cell? (aA b o)=some v)(hb:b≠cb):w'.cell? (aA b o)=some v:=(zgw (w:=w) (a:=(aA b o)) (h.block b hb)).trans hc
def Kw(cs:List Frame)(cb:Nat)(out:List zgW)(w0:World)(g':Goroutine)(w':World):Prop:=∃e fr,g'=G fr cs/\(e=.returned (.tuple #[])/\qx w' cb out/\qg cb w0 w')/\fr.fn=91/\fr.leaving prog w' e
theorem zaR(LB:Code)(hLB:LB=vJ (qJ (ku (Tryz.f91.body.getD .skip))))(pb off cb n cap i:Nat)(ad:Option Addr)(out:List zgW)(h:¬(i:Int)<n)(cs:List Frame)(w0 W:World)(hch:qx W cb out)(ho:qg cb w0 W)(j2 j3 j4 j5 j9 j10 j11 j12 j13 j14 j15 j16 j17 j18 j19 j20:Value):
 LoneTo prog (Kw cs cb out w0) (G ((base 91).at ⟨#[pA pb off,.slice ad n cap,j2,j3,j4,j5,.slice ad n cap,iA n,iA i,j9,j10,j11,j12,j13,j14,j15,j16,j17,j18,j19,j20],[]⟩ [.code LB,.inLoop LB,.inBlock 0]) cs) W:=by
 subst hLB;refine LoneTo.goes (n:=20) ?_;simp only[Tryz.f91,Option.getD_some,ku,qJ,vJ]
 s_c stepG_seq
 s_reg
 s_op
 s_c stepG_region_end
 s_c stepG_seq
 s_cond false
 s_exit
 s_c stepG_end
 s_stop
 exact LoneTo.done ⟨.returned (.tuple #[]),_,rfl,⟨rfl,hch,ho⟩,rfl,rfl,rfl,rfl,_,func91,by simp[results,Tryz.f91,Frame.at]⟩
theorem zaQ(LB:Code)(hLB:LB=vJ (qJ (ku (Tryz.f91.body.getD .skip))))(pb off cb n cap:Nat)(ad:Option Addr)(fr:Nat->zgW)(hn:n<=1000000000)(cs:List Frame)(w0:World)(hpb:pb≠cb):
 ∀(m i:Nat) (out:List zgW) (W:World) (j2 j3 j4 j5 j9 j10 j11 j12 j13 j14 j15 j16 j17 j18 j19 j20:Value),i+m=n->qx W cb out->qg cb w0 W->W.cell? (aA pb off)=some (.chan (some cb))->
  (∀k,k<n->∃b o,ad=some (aA b o)/\b≠cb/\W.cell? (aA b (o+k))=some (sA (fr k)))->
  LoneTo prog (Kw cs cb (zam fr out i m) w0) (G ((base 91).at ⟨#[pA pb off,.slice ad n cap,j2,j3,j4,j5,.slice ad n cap,iA n,iA i,j9,j10,j11,j12,j13,j14,j15,j16,j17,j18,j19,j20],[]⟩ [.code LB,.inLoop LB,.inBlock 0]) cs) W:=by
 intro m;induction m with
 |zero=>
  intro i out W j2 j3 j4 j5 j9 j10 j11 j12 j13 j14 j15 j16 j17 j18 j19 j20 hi ah ho _ _;exact zaR LB hLB pb off cb n cap i ad out (by omega) cs w0 W ah ho _ _ _ _ _ _ _ _ _ _ _ _ _ _ _ _
 |succ m ih=>
  intro i out W j2 j3 j4 j5 j9 j10 j11 j12 j13 j14 j15 j16 j17 j18 j19 j20 hi ah ho ak hl;have h:(i:Int)<n:=by omega
  have aj:i<n:=by omega
  have hw1:IntKind.i64.wrap ((i:Int)+1)=(i:Int)+1:=wrap_small ((i:Int)+1) (by omega) (by omega);have e2:((i+1:Nat):Int)=(i:Int)+1:=by omega
  obtain⟨b,o,rfl,hb,hce⟩:=hl i aj;obtain⟨s,r,ae⟩:=ah;have goal:∀(out':List zgW) (W':World) (k2 k3 k4 k5 k9 k10 k11 k12 k13 k14 k15 k16 k17 k18 k19 k20:Value),out'=Zr out (fr i)->qx W' cb out'->qg cb W W'->
   LoneTo prog (Kw cs cb (zam fr out i (m+1)) w0) (G ((base 91).at ⟨#[pA pb off,.slice (some (aA b o)) n cap,k2,k3,k4,k5,.slice (some (aA b o)) n cap,iA n,iA ((i:Int)+1),k9,k10,k11,k12,k13,k14,k15,k16,k17,k18,k19,k20],[]⟩ [.code LB,.inLoop LB,.inBlock 0]) cs) W':=by
   intro out' W' k2 k3 k4 k5 k9 k10 k11 k12 k13 k14 k15 k16 k17 k18 k19 k20 eo ag af;have h1:=ih (i+1) out' W' k2 k3 k4 k5 k9 k10 k11 k12 k13 k14 k15 k16 k17 k18 k19 k20 (by omega) ag (ho.trans af) (af.cell ak hpb) (λk hk=>by
    obtain⟨b',o',e',ai,al⟩:=hl k hk;exact⟨b',o',e',ai,af.cell al ai⟩)
   rw[e2] at h1;show LoneTo prog (Kw cs cb (zam fr (Zr out (fr i)) (i+1) m) w0) _ W';rw[<-eo];exact h1
  by_cases aa:out.length<100;focus
   have ep:Zr out (fr i)=out++[fr i]:=zgT aa;have ab:=λk2 k3 k4 k5 k9 k10 k11 k12 k13 k14 k15 k16 k17 k18 k19 k20=>goal (out++[fr i]) (W.setChan cb 100 (bufA (out++[fr i])) false (s+1) r false) k2 k3 k4 k5 k9 k10 k11 k12 k13 k14 k15 k16 k17 k18 k19 k20 ep.symm ⟨s+1,r,heap_setChan W cb 100 _ false (s+1) r false (by rcases Nat.lt_or_ge cb W.heap.size with h'|h';exact h';simp[Array.getElem?_eq_none h'] at ae)⟩ (qg.set W cb 100 _ false (s+1) r false);clear goal ih hl;subst hLB;refine LoneTo.goes (n:=60) ?_;simp only[Tryz.f91,Option.getD_some,ku,qJ,vJ]
   s_c stepG_seq
   s_reg
   s_op
   s_c stepG_region_end
   s_c stepG_seq
   s_cond true
   s_c stepG_skip
   s_c stepG_seq
   s_c stepG_block
   s_c stepG_seq
   s_reg
   s_op
   s_op
   s_op
   s_c stepG_region_end
   s_c stepG_seq
   s_c stepG_seq
   s_reg
   s_op
   s_op
   s_op
   s_op
   s_c stepG_region_end
   s_reg
   s_op
   s_c stepG_region_end
   s_c stepG_seq
   s_reg
   s_stop
   refine LoneTo.step (step_lone_select_send_room (c:=cb) (cap:=100) (buf:=bufA out) (s:=s) (r:=r) (tm:=false) (stepG_comm (cases:=#[scase cb (sA (fr i)) (sA ⟨#[]⟩)]) (blocking:=false) (shape:=.select) (w':=W) rfl rfl (by decide) (by simp[go_sem,execOp,scase,Act.eval])) ae (by rw[ZV];exact aa)) ?_;rw[Frame.finish_at,G7]
   walk_nrm
   refine LoneTo.goes (n:=40) ?_
   s_op
   s_op
   s_c stepG_region_end
   s_c stepG_block
   s_cond true
  rotate_left;focus
   have ep:Zr out (fr i)=out:=zgU aa;have ab:=λk2 k3 k4 k5 k9 k10 k11 k12 k13 k14 k15 k16 k17 k18 k19 k20=>goal out W k2 k3 k4 k5 k9 k10 k11 k12 k13 k14 k15 k16 k17 k18 k19 k20 ep.symm ⟨s,r,ae⟩ (qg.refl cb W);clear goal ih hl;subst hLB;refine LoneTo.goes (n:=60) ?_;simp only[Tryz.f91,Option.getD_some,ku,qJ,vJ]
   s_c stepG_seq
   s_reg
   s_op
   s_c stepG_region_end
   s_c stepG_seq
   s_cond true
   s_c stepG_skip
   s_c stepG_seq
   s_c stepG_block
   s_c stepG_seq
   s_reg
   s_op
   s_op
   s_op
   s_c stepG_region_end
   s_c stepG_seq
   s_c stepG_seq
   s_reg
   s_op
   s_op
   s_op
   s_op
   s_c stepG_region_end
   s_reg
   s_op
   s_c stepG_region_end
   s_c stepG_seq
   s_reg
   s_stop
   refine LoneTo.step (step_lone_select_send_full (c:=cb) (cap:=100) (buf:=bufA out) (s:=s) (r:=r) (tm:=false) (stepG_comm (cases:=#[scase cb (sA (fr i)) (sA ⟨#[]⟩)]) (blocking:=false) (shape:=.select) (w':=W) rfl rfl (by decide) (by simp[go_sem,execOp,scase,Act.eval])) ae (by rw[ZV];omega)) ?_;rw[Frame.finish_at]
   walk_nrm
   refine LoneTo.goes (n:=40) ?_
   s_op
   s_op
   s_c stepG_region_end
   s_c stepG_block
   s_cond false
  rotate_left;all_goals
   s_c stepG_skip
   s_c stepG_inBlock
   s_c stepG_inBlock
   s_reg
   s_op
   s_op
   s_c stepG_region_end
   s_c stepG_inLoop
   s_stop
   exact ab _ _ _ _ _ _ _ _ _ _ _ _ _ _ _ _
theorem Kb(pb off cb n cap:Nat)(ad:Option Addr)(fr:Nat->zgW)(out:List zgW)(w:World)(hn:n<=1000000000)(hpb:pb≠cb)(hch:qx w cb out)(hcp:w.cell? (aA pb off)=some (.chan (some cb)))
 (hl:∀k,k<n->∃b o,ad=some (aA b o)/\b≠cb/\w.cell? (aA b (o+k))=some (sA (fr k))):
 Calls prog 91 #[pA pb off,.slice ad n cap] w λe w'=>e=.returned (.tuple #[])/\qx w' cb (zam fr out 0 n)/\qg cb w w':=by
 refine calls_of_loneTo λcs=>?_;have e:Frame.enter prog 91 #[pA pb off,.slice ad n cap] .normal=(base 91).at ⟨#[pA pb off,.slice ad n cap,undef,undef,undef,undef,undef,undef,undef,undef,undef,undef,undef,undef,undef,undef,undef,undef,undef,undef,undef],[]⟩ [.code (Tryz.f91.body.getD .skip)]:=by
  simp[Frame.enter,Frame.at,func91,base,Tryz.f91]
 rw[e];have aa:=λj2 j3 j4 j5 j9 j10 j11 j12 j13 j14 j15 j16 j17 j18 j19 j20=>zaQ _ rfl pb off cb n cap ad fr hn cs w hpb n 0 out w j2 j3 j4 j5 j9 j10 j11 j12 j13 j14 j15 j16 j17 j18 j19 j20 (by omega) hch (qg.refl cb w) hcp hl;refine LoneTo.goes (n:=20) ?_;simp only[Tryz.f91,Option.getD_some,ku,qJ,vJ] at aa ⊢
 s_c stepG_seq
 s_reg
 s_op
 s_op
 s_op
 s_c stepG_region_end
 s_c stepG_block
 s_c stepG_loop
 s_stop
 exact aa _ _ _ _ _ _ _ _ _ _ _ _ _ _ _ _
end
section
open Go.RowKit Go.Extern.Stop Go.Stop Go.Extern Proofs.Tryz
theorem Tryz.zeg(v:Value)(w:World):(Extern.ReflectliteType.typeOf #[.iface 294 v]).run prog w=.ok (.iface 211 (.agg #[.pointer (some ⟨16,294,none⟩)])) w:=by kernel_rfl
def qn:Array Value->Sem Value:=Extern.ReflectliteType.method λt=>do Extern.Rtype.noPackHeld "Comparable" t;pure (.bool (<-typeInfo t).comparable)
theorem Tryz.zdN(w:World):(qn #[.agg #[.pointer (some ⟨16,294,none⟩)]]).run prog w=.ok (.bool true) w:=by kernel_rfl
theorem Tryz.zdu(v:Value)(w:World):(Go.method 423 211 v "Comparable").run prog w=.ok (239,v) w:=by kernel_rfl
theorem Tryz.zeH:(prog.info? 294).map (·.comparable)=some true:=by kernel_rfl
theorem Tryz.zeG:(prog.info? 312).map (·.size)=some 1:=by kernel_rfl
theorem Tryz.zfX(v:Value)(xT:TypeId)(w:World):(Instr.typeAssert (.iface 294 v) xT 213 true).run prog w=.ok (.tuple #[.nilIface,.bool false]) w:=run_typeAssert_lacksB underlying213 (by kernel_rfl) (by kernel_rfl) v xT w
theorem Tryz.zey(v:Value)(xT:TypeId)(w:World):(Instr.typeAssert (.iface 294 v) xT 216 true).run prog w=.ok (.tuple #[.nilIface,.bool false]) w:=run_typeAssert_lacksB underlying216 (by kernel_rfl) (by kernel_rfl) v xT w
theorem Tryz.zep(v:Value)(xT:TypeId)(w:World):(Instr.typeAssert (.iface 294 v) xT 218 true).run prog w=.ok (.tuple #[.nilIface,.bool false]) w:=run_typeAssert_lacksB underlying218 (by kernel_rfl) (by kernel_rfl) v xT w
theorem GH(a:Addr)(w:World):
 Calls prog 30 #[.iface 294 (.pointer (some a)),.iface 294 (.pointer (some a))] w λe w'=>e=.returned (.bool true)/\w'=w:=by
 obtain⟨i,hi,aa⟩:=Option.map_eq_some_iff.1 Tryz.zeH;obtain⟨j,hj,hjs⟩:=Option.map_eq_some_iff.1 Tryz.zeG;have h8:=@run_callFunc_extern prog 83 _ Extern.ReflectliteType.typeOf func83 (by kernel_rfl) (by kernel_rfl) (by kernel_rfl) (by kernel_rfl);have h32:=@run_callFunc_extern prog 239 _ qn func239 (by kernel_rfl) (by kernel_rfl) (by kernel_rfl) (by kernel_rfl);have tT:=Tryz.zeg;have cT:=Tryz.zdN;have mR:=Tryz.zdu;have heq:=run_eql_iface_ptr_same (P:=prog) w a underlying42 underlying294 hi aa hj;go_enter func30,ntmps30;go_wp2;refine wp_loop_rounds 1 ?_;rw[rounds_succ];go_wp2;go_ret;exact⟨rfl,rfl⟩
theorem zcp(b:Addr)(w:World):
 Calls prog 30 #[.nilIface,.iface 294 (.pointer (some b))] w λe w'=>e=.returned (.bool false)/\w'=w:=by
 have hn:=run_eql_iface_nil_left (P:=prog) w 294 (.pointer (some b)) underlying42;go_enter func30,ntmps30;go_wp2;go_ret;exact⟨rfl,rfl⟩
theorem Va(a b:Addr)(ca cb:Array Value)(ta tb:TypeId)(w:World)(hne:a≠b)(ha:w.heap[a.block]? =some (.cells ca ta (0,0)))(hb:w.heap[b.block]? =some (.cells cb tb (0,0))):
 Calls prog 30 #[.iface 294 (.pointer (some a)),.iface 294 (.pointer (some b))] w λe w'=>e=.returned (.bool false)/\w'=w:=by
 obtain⟨i,hi,aa⟩:=Option.map_eq_some_iff.1 Tryz.zeH;obtain⟨j,hj,ab⟩:=Option.map_eq_some_iff.1 Tryz.zeG;have h8:=@run_callFunc_extern prog 83 _ Extern.ReflectliteType.typeOf func83 (by kernel_rfl) (by kernel_rfl) (by kernel_rfl) (by kernel_rfl);have h32:=@run_callFunc_extern prog 239 _ qn func239 (by kernel_rfl) (by kernel_rfl) (by kernel_rfl) (by kernel_rfl);have tT:=Tryz.zeg;have cT:=Tryz.zdN;have mR:=Tryz.zdu;have nE:=Tryz.zfX;have uE:=Tryz.zey;have vE:=Tryz.zep;have heq:=run_eql_iface_ptr_other (P:=prog) w underlying42 underlying294 hi aa hj (by rw[ab];decide) hne ha hb;go_enter func30,ntmps30;go_wp2;refine wp_loop_rounds 1 ?_;rw[rounds_succ];go_wp2;go_ret;exact⟨rfl,rfl⟩
end
section
def Ya(l:Nat->Bool):Nat->Nat
 |0=>0
 |n+1=>Ya l n+if l n then 0 else 1
def came(l:Nat->Bool)(i:Nat):Nat->Bool:=λj=>if j=i then true else l j
theorem VV(l l':Nat->Bool)(n:Nat)(h:∀j,j<n->l j=l' j):Ya l n=Ya l' n:=by
 induction n with
 |zero=>rfl
 |succ n ih=>simp only[Ya];rw[ih (λj hj=>h j (by omega)),h n (by omega)]
theorem VW(l:Nat->Bool)(i n:Nat)(hi:i<n)(h:l i=false):Ya (came l i) n+1=Ya l n:=by
 induction n with
 |zero=>omega
 |succ n ih=>
  simp only[Ya];by_cases e:i=n
  .subst e;rw[VV (came l i) l i (λj hj=>by simp[came];omega)];simp[came,h]
  have:=ih (by omega);have e2:came l i n=l n:=by simp only[came];rw[zgU (λh=>e h.symm)]
  rw[e2];omega
theorem VU(l:Nat->Bool)(n:Nat)(h:Ya l n=0):∀i,i<n->l i=true:=by
 induction n with
 |zero=>intro i hi;omega
 |succ n ih=>
  simp only[Ya] at h;intro i hi;by_cases e:i=n
  .subst e;cases hl:l i with
   |true=>rfl
   |false=>simp[hl] at h
  exact ih (by omega) i (by omega)
section
variable{P:Program}{ops:Array Oper}{Q:Exit->Act->World->Prop}{md:Region.Mode}
def XA(listed:Array Bool):Nat->Bool:=λi=>listed.getD i true
theorem JH(listed:Array Bool)(i:Nat):XA (listed.setIfInBounds i true)=came (XA listed) i:=by
 funext j;unfold XA came;by_cases h:j=i
 .subst h;rw[zgT rfl];by_cases aa:j<listed.size
  .simp [aa]
  simp only[Array.getD_eq_getD_getElem?];rw[Array.getElem?_eq_none (by simp;omega)];rfl
 rw[zgU h,getD_set_ne true (λe=>h e.symm)]
theorem vL(listed:Array Bool)(j:Nat)(hj:j<listed.size):listed.getD j false=XA listed j:=by
 unfold XA;simp[hj]
def Kk(ops:Array Oper):Bool:=(List.range ops.size).all λi=>((ops[i]?).map λo=>o.after.all λe=>decide (e.on<i)).getD true
theorem ZH(h:Kk ops=true){i:Nat}{o:Oper}(ho:ops[i]? =some o):∀e∈o.after,e.on<i:=by
 have hi:i<ops.size:=(Array.getElem?_eq_some_iff.1 ho).1;have:=List.all_eq_true.1 h i (List.mem_range.2 hi);rw[ho] at this;simp only[Option.map_some,Option.getD_some,Array.all_eq_true_iff_forall_mem] at this;exact λe he=>zgF (this e he)
theorem Y9(hb:Kk ops=true)(listed:Array Bool)(hs:listed.size=ops.size)(h:Region.ready md ops listed=[]):∀i,i<ops.size->XA listed i=true:=by
 intro i;induction i using Nat.strongRecOn with
 |ind i ih=>
  intro hi;cases hl:XA listed i with
  |true=>rfl
  |false=>
   have:i∈Region.ready md ops listed:=mem_ready.2 ⟨hl,ops[i],Array.getElem?_eq_getElem hi,λe he _=>by
    have aa:=ZH hb (Array.getElem?_eq_getElem hi) e he;rw[vL listed e.on (by omega)];exact ih e.on aa (by omega)⟩
   rw[h] at this;cases this
theorem Ye(hb:Kk ops=true)(I:(Nat->Bool)->Act->World->Prop)
 (hstep:∀(l:Nat->Bool) (a:Act) (w:World) (i:Nat) (o:Oper),I l a w->l i=false->ops[i]? =some o->(∀e∈o.after,Region.binds md e=true->l e.on=true)->
  ∀K':Act->World->Prop,Shut (∀a' w',I (came l i) a' w'->K' a' w')->if Region.wanted o (yielded ops a.tmps)=true then Oper.wp P o a w K' Q else K' (a.put o.dst undef) w)
 (hend:∀(l:Nat->Bool) (a:Act) (w:World),I l a w->(∀i,i<ops.size->l i=true)->Q .normal a w):
 ∀(fuel:Nat) (listed:Array Bool) (a:Act) (w:World),listed.size=ops.size->Ya (XA listed) ops.size<=fuel->I (XA listed) a w->wpAnyH P md ops Q (λ_=>True) fuel listed a w:=by
 intro fuel;induction fuel with
 |zero=>
  intro listed a w hs hf hI;have aa:=VU _ _ (Nat.le_zero.1 hf);refine⟨?_,hend _ a w hI aa⟩;cases hr:Region.ready md ops listed with
  |nil=>rfl
  |cons j rs=>
   have hj:j∈Region.ready md ops listed:=by rw[hr];simp
   obtain⟨h0,o,ho,_⟩:=mem_ready.1 hj;have:=aa j (Array.getElem?_eq_some_iff.1 ho).1;unfold XA at this;rw[h0] at this;cases this
 |succ fuel ih=>
  intro listed a w hs hf hI;refine⟨λhr=>hend _ a w hI (Y9 hb listed hs hr),λi hi=>?_⟩;obtain⟨h0,o,ho,aa⟩:=mem_ready.1 hi;have ab:i<ops.size:=(Array.getElem?_eq_some_iff.1 ho).1;refine wpOp_step ho (λK' hK=>hstep (XA listed) a w i o hI h0 ho (λe he ad=>?_) K' (λa' w' ae=>hK a' w' ⟨trivial,?_⟩))
  .have h1:=ZH hb ho e he;rw[<-vL listed e.on (by omega)];exact aa e he ad
  refine ih (listed.setIfInBounds i true) a' w' (by simpa using hs) ?_ (by rw[JH];exact ae);rw[JH];have:=VW (XA listed) i ops.size ab h0;omega
end
end
section
open Go.Conc Go.RowKit Proofs.Tryz
section
variable{P:Program}
theorem KK{main:Bool}{fr c:Frame}{cs:List Frame}{w:World}{fn:Func}{v:Value}(hm:fr.mode=.returning)(hn:fr.kind=.normal)(hd:fr.defers=[])(hf:P.funcs[fr.fn]? =some fn)
 (hr:(results fn fr.tmps).run P w=.ok v w):∃es,stepG P main (G fr (c::cs)) w=.go (G (c.finish v) cs) w es:=by
 simp[G,stepG,unwind,doReturn,hm,hn,hd,hf,hr,GStep.after]
theorem KE{o:Oper}{a:Act}{K:Act->World->Prop}{w w':World}{v y v':Value}{s x:Operand}{t:TypeId}(ho:o.op=.call { callee:=.builtin .append,args:=#[s,x],argTypes:=#[t,t] })(hs:a.eval s=v)(hx:a.eval x=y)
 (hr:(Builtin.append_ #[t,t] o.type #[v,y]).run P w=.ok v' w') (h:K (a.put o.dst v') w'):uponK o a K ((execOp a.eval o).run P w):=by
 unfold execOp;simp only[ho,resolve,invoke,builtin,Sem.run_bind,Sem.run_pure,Result.andThen_ok,List.map_toArray,List.map_cons,List.map_nil,hs,hx,hr];exact h
theorem QQ{o:Oper}{a:Act}{K:Act->World->Prop}{w w':World}{v v':Value}{x:Operand}{t:TypeId}(ho:o.op=.call { callee:=.builtin .close,args:=#[x],argTypes:=#[t] })(hx:a.eval x=v)
 (hr:(Builtin.close_ #[t] o.type #[v]).run P w=.ok v' w') (h:K (a.put o.dst v') w'):uponK o a K ((execOp a.eval o).run P w):=by
 unfold execOp;simp only[ho,resolve,invoke,builtin,Sem.run_bind,Sem.run_pure,Result.andThen_ok,List.map_toArray,List.map_cons,List.map_nil,hx,hr];exact h
theorem LoneTo.zf4{Q:Goroutine->World->Prop}{b:Frame}{a:Act}{ops:Array Oper}{i:Nat}{rest:List Nat}{k:List Item}{cs:List Frame}{w:World}{o:Oper}{f:FuncId}{fn:Func}{c:Code}{args:Array Operand}{ats:Array TypeId}{R:Ending->World->Prop}{vs:Array Value}
 (ho:ops[i]? =some o) (hw:Region.wanted o (yielded ops a.tmps)=true) (hk:b.kind≠.early) (hop:o.op=.call { callee:=.value (.func f),args,argTypes:=ats })
 (hf:P.funcs[f]? =some fn) (hname:(fn.name== "runtime.NumGoroutine")=false) (hb:fn.body=some c)
 (hvs:args.map a.eval=vs) (hC:Calls P f vs w R) (hR:∀e w',R e w'->∃v,e=.returned v/\LoneTo P Q (G (b.at (a.put o.dst v) (.inRegion ops rest::k)) cs) w'):
 LoneTo P Q (G (b.at a (.inRegion ops (i::rest)::k)) cs) w:=by
 subst hvs;have ah:fn.body.isNone=false:=by rw[hb];rfl
 have h1:=stepG_enter (main:=true) (cs:=cs) (k:=k) (rest:=rest) ho hw hk (run_call_body (w:=w) hop hf hname ah);refine LoneTo.step (step_solo_go rfl h1) ?_;obtain⟨e,w',fr,hr,aa,hfn,hl⟩:=hC (b.at a (.inRegion ops (i::rest)::k)::cs);obtain⟨v,rfl,af⟩:=hR e w' hr;obtain⟨hm,hd,hn,fn',ag,ab⟩:=hl;obtain⟨es,h2⟩:=KK (P:=P) (main:=true) (c:=b.at a (.inRegion ops (i::rest)::k)) (cs:=cs) hm hn hd ag ab;have ad:Steps P (solo (G (Frame.enter P f (args.map a.eval) .normal) (b.at a (.inRegion ops (i::rest)::k)::cs)) w) (solo (G fr (b.at a (.inRegion ops (i::rest)::k)::cs)) w'):=aa;have h3:LoneTo P Q (G fr (b.at a (.inRegion ops (i::rest)::k)::cs)) w':=by
  refine LoneTo.step (step_solo_go rfl h2) ?_;rw[Frame.finish_at];have e:((ops[i]?).bind (·.dst))=o.dst:=by rw[ho];rfl
  rw[e];exact af
 obtain⟨g2,w2,ae,hq⟩:=h3;exact⟨g2,w2,ad.trans ae,hq⟩
end
theorem Tryz.zd3:(prog.info? 9).map (λi=>(i.zero,i.size,i.bytes))=some (some (sA zgV),1,16):=by kernel_rfl
theorem Tryz.zgh(w:World):(Instr.makeChan 119 (iA 100)).run prog w=.ok (.chan (some w.heap.size)) (w.alloc (.chan 100 #[] false 0 0 false)):=by
 obtain⟨i,hi,hz,hs,hb⟩:=info_parts Tryz.zd3;simpa using run_makeChan (P:=prog) (w:=w) underlying119 hi .i64 100 (by omega) (by rw[hb];omega)
theorem Tryz.zfH:(prog.info? 121).map (·.size)=some 1:=by kernel_rfl
theorem YN(w:World):Calls prog 53 #[] w λe w'=>∃nc,w.heap.size<=nc/\e=.returned (.agg #[.chan (some nc)])/\qx w' nc []/\BW w w':=by
 have hmc:=Tryz.zgh;go_enter func53,ntmps53;go_wp2;have q0:((w.alloc (.cells #[.chan (some (w.heap.size+1))] 121)).alloc (.chan 100 #[] false 0 0 false)).heap[w.heap.size]? =some (.cells #[.chan (some (w.heap.size+1))] 121 (0,0)):=by
  rw[zg2 _ _ w.heap.size (by simp)];exact zgr w _
 have q1:((w.alloc (.cells #[.chan (some (w.heap.size+1))] 121)).alloc (.chan 100 #[] false 0 0 false)).heap[w.heap.size+1]? =some (.chan 100 (bufA []) false 0 0 false):=by
  have h:=zgr (w.alloc (.cells #[.chan (some (w.heap.size+1))] 121)) (.chan 100 #[] false 0 0 false);simpa [bufA] using h
 exact zgJ (v:=.agg #[.chan (some (w.heap.size+1))]) (kW results53 _ _ w.heap.size 121 _ _ rfl q0 underlying121 rfl Tryz.zfH) rfl ⟨_,Nat.le_succ _,rfl,⟨0,0,q1⟩,(bwA w).alloc (by simp) _⟩
def zct(pb off cb:Nat)(C:Array Value)(t:TypeId)(out:List zgW)(w:World)(e:Ending)(w':World):Prop:=
 ∃v nc,e=.returned v/\w'.ownsRow w.heap.size 9 1 v out.length (out.map .string)/\w.heap.size<=nc/\qx w' nc []/\(∀g,v.ownBlock=some g->g≠nc)/\
  w'.heap[pb]? =some (.cells (C.setIfInBounds off (.chan (some nc))) t (0,0))/\w'.os=w.os/\w'.tape=w.tape/\w'.output=w.output/\w.heap.size<=w'.heap.size/\∀k,k<w.heap.size->k≠cb->k≠pb->w'.heap[k]? =w.heap[k]?
structure Xz (cb:Nat) (w w':World):Prop where
 os:w'.os=w.os
 tape:w'.tape=w.tape
 output:w'.output=w.output
 size:w.heap.size<=w'.heap.size
 block:∀k,k<w.heap.size->k≠cb->w'.heap[k]? =w.heap[k]?
theorem Xz.trans{cb:Nat}{w w' w'':World}(h:Xz cb w w')(h':Xz cb w' w''):Xz cb w w'':=⟨h'.os.trans h.os,h'.tape.trans h.tape,h'.output.trans h.output,zgu h.size h'.size,λk hk hn=>(h'.block k (zgt hk h.size) hn).trans (h.block k hk hn)⟩
theorem Xz.only{cb:Nat}{w w':World}(h:qg cb w w'):Xz cb w w':=⟨h.os,h.tape,h.output,by rw[h.size];exact zgp _,λk _ hn=>h.block k hn⟩
theorem G8(out:List zgW)(i:Nat)(h:i<out.length):(bufA (out.drop i)).extract 1 (bufA (out.drop i)).size=bufA (out.drop (i+1)):=by
 unfold bufA;rw[List.drop_eq_getElem_cons h];apply Array.toList_inj.1;simp;rw[List.take_of_length_le (by simp;omega)]
theorem Xr(out:List zgW)(i:Nat)(h:i<out.length):(bufA (out.drop i)).getD 0 undef=sA (out.getD i zgV):=by
 unfold bufA;rw[List.drop_eq_getElem_cons h,zgz,zgy h];simp;rw[zgy h];rfl
theorem XM(LB AF:Code)(hLB:LB=vJ (qJ (ku (Vg (ku (ku (ku (Tryz.f85.body.getD .skip))))))))(pb off cb:Nat)(out:List zgW)(hlen:out.length<=100)(cs:List Frame)(w0:World)(hcb0:cb<w0.heap.size)(Q:Goroutine->World->Prop)
 (hex:∀(W:World) (v j1 j2 j4 j5 j6 j7 j8 j9 j10 j11 j13 j14 j15 j16 j17 j18 j19 j20 j21 j22 j23:Value),W.ownsRow w0.heap.size 9 1 v out.length (out.map .string)->Xz cb w0 W->
  LoneTo prog Q (G ((base 85).at ⟨#[pA pb off,j1,j2,v,j4,j5,j6,j7,j8,j9,j10,j11,.chan (some cb),j13,j14,j15,j16,j17,j18,j19,j20,j21,j22,j23],[]⟩ [.code AF]) cs) W):
 ∀(m i:Nat) (W:World) (v j1 j2 j4 j5 j6 j7 j8 j9 j10 j11 j13 j14 j15 j16 j17 j18 j19 j20 j21 j22 j23:Value),i+m=out.length->(∃s r,W.heap[cb]? =some (.chan 100 (bufA (out.drop i)) true s r false))->W.ownsRow w0.heap.size 9 1 v i ((out.take i).map .string)->Xz cb w0 W->
  LoneTo prog Q (G ((base 85).at ⟨#[pA pb off,j1,j2,v,j4,j5,j6,j7,j8,j9,j10,j11,.chan (some cb),j13,j14,j15,j16,j17,j18,j19,j20,j21,j22,j23],[]⟩ [.code LB,.inLoop LB,.inBlock 0,.code AF]) cs) W:=by
 intro m;induction m with
 |zero=>
  intro i W v j1 j2 j4 j5 j6 j7 j8 j9 j10 j11 j13 j14 j15 j16 j17 j18 j19 j20 j21 j22 j23 hi aq ad hb;obtain⟨s,r,aj⟩:=aq;have av:i=out.length:=by omega
  have hd:bufA (out.drop i)=#[]:=by rw[av,List.drop_length];rfl
  rw[hd] at aj;have aa:W.ownsRow w0.heap.size 9 1 v out.length (out.map .string):=by rw[av,zg7] at ad;exact ad
  have ai:=λj1 j2 j4 j5 j6 j7 j8 j9 j10 j11 j13 j14 j15 j16 j17 j18 j19 j20 j21 j22 j23=>hex W v j1 j2 j4 j5 j6 j7 j8 j9 j10 j11 j13 j14 j15 j16 j17 j18 j19 j20 j21 j22 j23 aa hb;clear hex ad aa;subst hLB;refine LoneTo.goes (n:=10) ?_;simp only[Tryz.f85,Option.getD_some,ku,Vg,qJ,vJ]
  s_c stepG_seq
  s_reg
  s_stop
  refine LoneTo.step (step_lone_recv_shut true (c:=cb) (z:=sA ⟨#[]⟩) (cap:=100) (s:=s) (r:=r) (tm:=false) (stepG_comm (cases:=#[rcase cb (sA ⟨#[]⟩)]) (blocking:=true) (shape:=.recv true) (w':=W) rfl rfl (by decide) (by simp[go_sem,execOp,rcase,Act.eval])) aj) ?_;rw[Frame.finish_at];simp only[got,if_true]
  walk_nrm
  refine LoneTo.goes (n:=20) ?_
  s_op
  s_c stepG_region_end
  s_c stepG_seq
  s_cond false
  s_exit
  s_stop
  exact ai _ _ _ _ _ _ _ _ _ _ _ _ _ _ _ _ _ _ _ _ _
 |succ m ih=>
  intro i W v j1 j2 j4 j5 j6 j7 j8 j9 j10 j11 j13 j14 j15 j16 j17 j18 j19 j20 j21 j22 j23 hi aq ad hb;obtain⟨s,r,aj⟩:=aq;have ak:i<out.length:=by omega
  obtain⟨f,hf⟩:=gen (out.getD i zgV);obtain⟨W1,al⟩:=gen (W.setChan cb 100 (bufA (out.drop (i+1))) true s (r+1) false);have aF:cb<W.heap.size:=zgt hcb0 hb.size;have an:qg cb W W1:=by rw[al];exact qg.set W cb 100 _ true s (r+1) false
  have ax:W1.heap[cb]? =some (.chan 100 (bufA (out.drop (i+1))) true s (r+1) false):=by rw[al];exact heap_setChan W cb 100 _ true s (r+1) false aF
  have ah:W1.ownsRow w0.heap.size 9 1 v i ((out.take i).map .string):=zb ad (λg e _=>an.block g (λe2=>by have:=(ad.lt g e).1;omega));have ae:Xz cb w0 W1:=hb.trans (Xz.only an);obtain⟨i9,aE,aD,aC,aB⟩:=info_parts Tryz.zd3;have aa:(W1.alloc (.cells #[sA f] 9)).ownsRow w0.heap.size 9 1 v i ((out.take i).map .string):=zb ah (λg _ hg=>zg2 W1 _ g hg);obtain⟨v',w',hr,ag,ab,-,-⟩:=run_append_own_at (P:=prog) (W1.alloc (.cells #[sA f] 9)) w0.heap.size 30 30 9 i9 (sA zgV) 1 16 underlying30 aE aD aC aB rfl (by decide) v i ((out.take i).map .string) aa (nA W1 0) 1 1 [sA f] rfl (λj u hj=>by
   match j,hj with
   |0,hj=>simp at hj;subst hj;simp[Addr.add]) (λu hu=>by simp at hu;subst hu;rfl) (by unfold maxLen;omega) (by omega) (by have:=ae.size;simp;omega)
  have af:w'.ownsRow w0.heap.size 9 1 v' (i+1) ((out.take (i+1)).map .string):=by
   have e:out.take (i+1)=out.take i++[f]:=by
    rw[<-List.take_append_getElem ak,hf,zgz,zgy ak];rfl
   rw[e,List.map_append];exact ag
  have az:Xz cb w0 w':=by
   refine⟨ab.os.trans ae.os,ab.tape.trans ae.tape,ab.output.trans ae.output,zgu ae.size (zgu (by simp) ab.size),λk hk hn=>?_⟩;have ao:k<W1.heap.size:=zgt hk ae.size;rw[ab.block k (by simp;omega) (λe=>by have:=(aa.lt k e.symm).1;omega),zg2 W1 _ k ao];exact ae.block k hk hn
  have aw:w'.heap[cb]? =some (.chan 100 (bufA (out.drop (i+1))) true s (r+1) false):=by
   have ao:cb<W1.heap.size:=zgt hcb0 ae.size;rw[ab.block cb (by simp;omega) (λe=>by have:=(aa.lt cb e.symm).1;omega),zg2 W1 _ cb ao];exact ax
  have ai:=λj1 j2 j4 j5 j6 j7 j8 j9 j10 j11 j13 j14 j15 j16 j17 j18 j19 j20 j21 j22 j23=>ih (i+1) w' v' j1 j2 j4 j5 j6 j7 j8 j9 j10 j11 j13 j14 j15 j16 j17 j18 j19 j20 j21 j22 j23 (by omega) ⟨s,r+1,aw⟩ af az;have ar:=Xr out i ak;rw[<-hf] at ar;have ay:=G8 out i ak;have au:0<(bufA (out.drop i)).size:=by rw[ZV,List.length_drop];omega
  clear hex ih ad ah aa ag af ab hb ae az ax aw an hf;subst hLB;refine LoneTo.goes (n:=10) ?_;simp only[Tryz.f85,Option.getD_some,ku,Vg,qJ,vJ]
  s_c stepG_seq
  s_reg
  s_stop
  refine LoneTo.step (step_lone_recv_buf true (c:=cb) (z:=sA ⟨#[]⟩) (cap:=100) (buf:=bufA (out.drop i)) (closed:=true) (s:=s) (r:=r) (tm:=false) (stepG_comm (cases:=#[rcase cb (sA ⟨#[]⟩)]) (blocking:=true) (shape:=.recv true) (w':=W) rfl rfl (by decide) (by simp[go_sem,execOp,rcase,Act.eval])) aj au) ?_;rw[Frame.finish_at,ay,ar,<-al];clear al ay ar aj au;simp only[got,if_true]
  walk_nrm
  refine LoneTo.goes (n:=40) ?_
  s_op
  s_c stepG_region_end
  s_c stepG_seq
  s_cond true
  s_c stepG_skip
  s_c stepG_block
  s_c stepG_seq
  s_reg
  s_op
  s_op
  s_c stepG_region_end
  s_reg
  s_op
  s_op
  s_op
  s_in
  refine goes_oper_k rfl rfl (by decide) λK hK=>?_;refine KE rfl rfl rfl hr (hK _ _ ⟨trivial,?_⟩);clear hK K
  walk_nrm
  s_op
  s_c stepG_region_end
  s_c stepG_inBlock
  s_c stepG_inLoop
  s_stop
  exact ai _ _ _ _ _ _ _ _ _ _ _ _ _ _ _ _ _ _ _ _ _
theorem zav(pb off cb:Nat)(C:Array Value)(t:TypeId)(out:List zgW)(w:World)(hlen:out.length<=100)(hq:w.heap[pb]? =some (.cells C t (0,0)))(hC:C[off]? =some (.chan (some cb)))(hch:qx w cb out):
 Calls prog 85 #[pA pb off] w (zct pb off cb C t out w):=by
 obtain⟨s,r,al⟩:=hch;have aq:pb≠cb:=λe=>by rw[e,al] at hq;cases hq
 have au:cb<w.heap.size:=zj al;have ao:pb<w.heap.size:=zj hq;have aB:w.cell? (aA pb off)=some (.chan (some cb)):=(zgs w pb off _ _ _ hq).trans hC;refine calls_of_loneTo (λcs=>?_) (by rintro _ ⟨_,_,h,_⟩;cases h);have e:Frame.enter prog 85 #[pA pb off] .normal=(base 85).at ⟨#[pA pb off,undef,undef,undef,undef,undef,undef,undef,undef,undef,undef,undef,undef,undef,undef,undef,undef,undef,undef,undef,undef,undef,undef,undef],[]⟩ [.code (Tryz.f85.body.getD .skip)]:=by
  simp[Frame.enter,Frame.at,func85,base,Tryz.f85]
 rw[e];obtain⟨W1,ag⟩:=gen (w.setChan cb 100 (bufA out) true s r false);have ai:qg cb w W1:=by rw[ag];exact qg.set w cb 100 _ true s r false
 have av:W1.heap[cb]? =some (.chan 100 (bufA out) true s r false):=by rw[ag];exact heap_setChan w cb 100 _ true s r false au
 have hc2:W1.cell? (aA pb off)=some (.chan (some cb)):=ai.cell aB aq;have ar:∀(W:World) (v j1 j2 j4 j5 j6 j7 j8 j9 j10 j11 j13 j14 j15 j16 j17 j18 j19 j20 j21 j22 j23:Value),W.ownsRow w.heap.size 9 1 v out.length (out.map .string)->Xz cb w W->
  LoneTo prog (λg' w'=>∃e fr,g'=G fr cs/\zct pb off cb C t out w e w'/\fr.fn=85/\fr.leaving prog w' e) (G ((base 85).at ⟨#[pA pb off,j1,j2,v,j4,j5,j6,j7,j8,j9,j10,j11,.chan (some cb),j13,j14,j15,j16,j17,j18,j19,j20,j21,j22,j23],[]⟩ [.code (ku (ku (ku (ku (Tryz.f85.body.getD .skip)))))]) cs) W:=by
  intro W v j1 j2 j4 j5 j6 j7 j8 j9 j10 j11 j13 j14 j15 j16 j17 j18 j19 j20 j21 j22 j23 af hb;refine LoneTo.goes (n:=10) ?_;simp only[Tryz.f85,Option.getD_some,ku]
  s_c stepG_seq
  s_reg
  s_op
  s_stop
  refine LoneTo.zf4 rfl rfl (by decide) rfl func53 (by kernel_rfl) rfl (vs:=#[]) (by simp) (YN W) λe w3 hR=>?_;obtain⟨nc,ax,rfl,ak,ae⟩:=hR;refine⟨_,rfl,?_⟩;have ah:w3.heap[pb]? =some (.cells C t (0,0)):=(ae.block pb (zgt ao hb.size)).trans ((hb.block pb ao aq).trans hq);have c3:w3.cell? (aA pb off)=some (.chan (some cb)):=(zgs w3 pb off _ _ _ ah).trans hC;have f3:w3.frozen? (aA pb off)=false:=by simp[World.frozen?,ah]
  have aj:w.heap.size<=nc:=zgu hb.size ax
  walk_nrm
  refine LoneTo.goes (n:=20) ?_
  s_op
  s_op
  s_c stepG_region_end
  s_c stepG_seq
  s_reg
  s_op
  s_op
  s_c stepG_region_end
  s_c stepG_ret'
  s_stop
  have ab:=zd w3 pb off (.chan (some nc));have aw:nc≠pb:=by omega
  have an:∀g,v.ownBlock=some g->w.heap.size<=g/\g<W.heap.size:=λg hg=>af.lt g hg;refine LoneTo.done ⟨.returned v,_,rfl,⟨v,nc,rfl,?_,aj,?_,?_,?_,?_,?_,?_,?_,?_⟩,rfl,rfl,rfl,rfl,_,func85,by simp[results,Tryz.f85,Frame.at]⟩
  .exact zb (zb af (λg _ hg=>ae.block g hg)) (λg hg _=>ab.block g (by have:=(an g hg).1;omega))
  .obtain ⟨s3,r3,h3⟩:=ak
   exact⟨s3,r3,(ab.block nc aw).trans h3⟩
  .exact λg hg=>by have:=(an g hg).2;omega
  .simp [World.setCell,Array.getElem?_modify,ah]
  .rw [ab.os,ae.os,hb.os]
  .rw [ab.tape,ae.tape,hb.tape]
  .rw [ab.output,ae.output,hb.output]
  .rw [ab.size];exact zgu hb.size ae.size
  .intro k hk az ay;rw[ab.block k ay,ae.block k (zgt hk hb.size),hb.block k hk az]
 have aa:=λj1 j2 j4 j5 j6 j7 j8 j9 j10 j11 j13 j14 j15 j16 j17 j18 j19 j20 j21 j22 j23=>XM _ _ rfl pb off cb out hlen cs w au _ ar out.length 0 W1 (.slice none 0 0) j1 j2 j4 j5 j6 j7 j8 j9 j10 j11 j13 j14 j15 j16 j17 j18 j19 j20 j21 j22 j23 (by omega) ⟨s,r,av⟩ (zgQ _ _ _ _) (Xz.only ai);have ad:∀ats ty,(Builtin.close_ ats ty #[.chan (some cb)]).run prog w=.ok (.tuple #[]) W1:=λats ty=>by rw[ag];exact run_close_open (P:=prog) (w:=w) ats ty al
 clear ar ag ai av;refine LoneTo.goes (n:=40) ?_;simp only[Tryz.f85,Option.getD_some,ku,Vg,qJ,vJ] at aa ⊢
 s_c stepG_seq
 s_reg
 s_op
 s_c stepG_region_end
 s_c stepG_seq
 s_reg
 s_op
 s_op
 s_op
 s_op
 s_in
 refine goes_oper_k rfl rfl (by decide) λK hK=>?_;refine QQ rfl rfl (ad _ _) (hK _ _ ⟨trivial,?_⟩);clear hK K
 walk_nrm
 s_c stepG_region_end
 s_c stepG_seq
 s_reg
 s_op
 s_c stepG_region_end
 s_c stepG_seq
 s_c stepG_seq
 s_reg
 s_op
 s_op
 s_op
 s_op
 s_c stepG_region_end
 s_c stepG_block
 s_c stepG_loop
 s_stop
 exact aa _ _ _ _ _ _ _ _ _ _ _ _ _ _ _ _ _ _ _ _ _
end
section
open Go.RowKit Go.Extern.Stop Go.Stop Go.Extern Proofs.Tryz
variable{es:List Addr}{w:World}
theorem Jp(hS:Sent es w)(i j:Nat)(a b:Addr)(hi:es[i]? =some a)(hj:es[j]? =some b)(t:Bool)(ht:t=decide (i=j)):
 Calls prog 30 #[.iface 294 (.pointer (some a)),.iface 294 (.pointer (some b))] w λe w'=>e=.returned (bA t)/\w'=w:=by
 subst ht;by_cases h:i=j
 .subst h;rw[hi] at hj;obtain rfl:=zg6 hj;simpa using GH a w
 obtain⟨ca,ta,ha⟩:=hS.blk a (List.mem_of_getElem? hi);obtain⟨cb,tb,hb⟩:=hS.blk b (List.mem_of_getElem? hj);have af:a≠b:=by
  rintro rfl;have hn:=hS.nodup;obtain⟨ae,ad⟩:=List.getElem?_eq_some_iff.1 hi;obtain⟨ab,aa⟩:=List.getElem?_eq_some_iff.1 hj;rw[List.Nodup,List.pairwise_iff_getElem] at hn;rcases Nat.lt_or_gt_of_ne h with h'|h'
  .exact hn i j ae ab h' (ad.trans aa.symm)
  exact hn j i ab ae h' (aa.trans ad.symm)
 simpa [h] using Va a b ca cb ta tb w af ha hb
def y9(k j:Nat):Int:=if k<j then(k:Int)+1 else 99
theorem zan(a0 a1 a2 a3 a4 a5 a6 a7 a8 a9 a10 a11 a:Addr)(k:Nat)(w:World)(hS:Sent [a0,a1,a2,a3,a4,a5,a6,a7,a8,a9,a10,a11] w)(hk:[a0,a1,a2,a3,a4,a5,a6,a7,a8,a9,a10,a11][k]? =some a):
 Calls prog 15 #[.iface 294 (.pointer (some a))] w λe w'=>e=.returned (iA (k+1))/\BW w w':=by
 have c0:=hS.cell 0 _ _ rfl rfl;have c1:=hS.cell 1 _ _ rfl rfl;have c2:=hS.cell 2 _ _ rfl rfl;have c3:=hS.cell 3 _ _ rfl rfl;have c4:=hS.cell 4 _ _ rfl rfl;have c5:=hS.cell 5 _ _ rfl rfl;have c6:=hS.cell 6 _ _ rfl rfl;have c7:=hS.cell 7 _ _ rfl rfl;have c8:=hS.cell 8 _ _ rfl rfl;have c9:=hS.cell 9 _ _ rfl rfl;have c10:=hS.cell 10 _ _ rfl rfl;have c11:=hS.cell 11 _ _ rfl rfl;obtain⟨hK,ai⟩:=ze hk hS;clear hk hS;go_enter func15,ntmps15;go_wp2;go_loopw [4,5] (λn i wr=>∃j:Nat,j<=12/\i=iA j/\n=iA (y9 k j)/\(∀j,j<12->wr.cell? (nA w j)=some (.iface 294 (.pointer (some ([a0,a1,a2,a3,a4,a5,a6,a7,a8,a9,a10,a11].getD j a0)))))/\BW w wr) (λ_ i _=>12-(intOf i).toNat)
 case atStart=>
  refine⟨0,by omega,rfl,rfl,?_,bwA _⟩;intro j hj;match j,hj with
  |0,_|1,_|2,_|3,_|4,_|5,_|6,_|7,_|8,_|9,_|10,_|11,_=>simp
 obtain⟨j,hj,rfl,hn,aa,hb⟩:=hrel;have ae:=zc (ai.o.later hb);by_cases af:j<12
 .have hc:=aa j af;have ad:[a0,a1,a2,a3,a4,a5,a6,a7,a8,a9,a10,a11][j]? =some ([a0,a1,a2,a3,a4,a5,a6,a7,a8,a9,a10,a11].getD j a0):=by
   rw[zgz,zgy (by simpa using af)];rfl
  generalize [a0,a1,a2,a3,a4,a5,a6,a7,a8,a9,a10,a11].getD j a0=b at hc ad;obtain⟨hJ,ah⟩:=ze ad aa;clear aa ad;rcases Nat.lt_trichotomy j k with ab|ab|ab;focus
   have e1:y9 k j=99:=by unfold y9;rw[zgU (by omega)]
   have e2:Hid (y9 k (j+1)=99):=by unfold Hid y9;rw[zgU (by omega)]
   rw[e1] at hn;clear e1;subst hn;go_wp2_with (go_at_call 30;refine(Jp ae.o k j _ _ hK.o hJ.o false (by simp;omega)).mono ?_;rintro e w' ⟨rfl,rfl⟩)
  rotate_left;focus
   subst ab;have e1:y9 j j=99:=by unfold y9;rw[zgU (by omega)]
   have e2:Hid (y9 j (j+1)=(j:Int)+1):=by unfold Hid y9;rw[zgT (by omega)]
   rw[e1] at hn;clear e1;subst hn;go_wp2_with (go_at_call 30;refine(Jp ae.o j j _ _ hK.o hJ.o true (by simp)).mono ?_;rintro e w' ⟨rfl,rfl⟩)
  rotate_left;focus
   have e1:y9 k j=(k:Int)+1:=by unfold y9;rw[zgT (by omega)]
   have e2:Hid (y9 k (j+1)=(k:Int)+1):=by unfold Hid y9;rw[zgT (by omega)]
   rw[e1] at hn;clear e1;subst hn;go_wp2_with (go_at_call 30;refine(Jp ae.o k j _ _ hK.o hJ.o false (by simp;omega)).mono ?_;rintro e w' ⟨rfl,rfl⟩)
  rotate_left;all_goals
   go_roundw
   case rel=>exact⟨j+1,by omega,by go_num,by rw[e2.o],ah.o,hb⟩
   simp[intOf];omega
 have ag:k<12:=by simpa using(List.getElem?_eq_some_iff.1 hK.o).1
 have e1:y9 k j=(k:Int)+1:=by unfold y9;rw[zgT (by omega)]
 rw[e1] at hn;clear e1;subst hn;go_wp2;go_ret;exact⟨rfl,hb⟩
theorem KC(hS:Sent es w):
 Calls prog 15 #[.nilIface] w λe w'=>e=.returned (iA 0)/\BW w w':=by
 match es,hS.len with
 | [a0,a1,a2,a3,a4,a5,a6,a7,a8,a9,a10,a11],_=>
 have c0:=hS.cell 0 _ _ rfl rfl;have c1:=hS.cell 1 _ _ rfl rfl;have c2:=hS.cell 2 _ _ rfl rfl;have c3:=hS.cell 3 _ _ rfl rfl;have c4:=hS.cell 4 _ _ rfl rfl;have c5:=hS.cell 5 _ _ rfl rfl;have c6:=hS.cell 6 _ _ rfl rfl;have c7:=hS.cell 7 _ _ rfl rfl;have c8:=hS.cell 8 _ _ rfl rfl;have c9:=hS.cell 9 _ _ rfl rfl;have c10:=hS.cell 10 _ _ rfl rfl;have c11:=hS.cell 11 _ _ rfl rfl;clear hS;go_enter func15,ntmps15;go_wp2;go_ret;exact⟨rfl,bwA _⟩
theorem xL(hS:Sent es w)(k:Nat)(a:Addr)(hk:es[k]? =some a):
 Calls prog 15 #[.iface 294 (.pointer (some a))] w λe w'=>e=.returned (iA (k+1))/\BW w w':=by
 match es,hS.len with
 | [a0,a1,a2,a3,a4,a5,a6,a7,a8,a9,a10,a11],_=>exact zan a0 a1 a2 a3 a4 a5 a6 a7 a8 a9 a10 a11 a k w hS hk
end
section
open Go.RowKit Proofs.Tryz
theorem yJ(K H R F V:Int)(nl:Bool)(s:zgW)(w:World)(hs:s.size<=maxLen):
 Calls prog 139 #[.agg #[iA K,iA H,iA R,iA F,iA V,bA nl,sA s]] w λe w'=>e=.returned (bA (hasB K H R F V nl s.size))/\BW w w':=by
 unfold maxLen at hs;by_cases h1:H<0
 .go_enter func139,ntmps139;go_wp2;go_ret;exact⟨yv (by simp[hasB]<;>omega),bwA _⟩
 by_cases h2:12<=H
 .go_enter func139,ntmps139;go_wp2;go_ret;exact⟨yv (by simp[hasB]<;>omega),bwA _⟩
 by_cases h3:R<0
 .go_enter func139,ntmps139;go_wp2;go_ret;exact⟨yv (by simp[hasB]<;>omega),bwA _⟩
 by_cases h4:255<R
 .go_enter func139,ntmps139;go_wp2;go_ret;exact⟨yv (by simp[hasB]<;>omega),bwA _⟩
 by_cases h5:F<0
 .go_enter func139,ntmps139;go_wp2;go_ret;exact⟨yv (by simp[hasB]<;>omega),bwA _⟩
 by_cases h6:8<=F
 .go_enter func139,ntmps139;go_wp2;go_ret;exact⟨yv (by simp[hasB]<;>omega),bwA _⟩
 by_cases h7:24<(s.size:Int)
 .go_enter func139,ntmps139;go_wp2;go_ret;exact⟨yv (by simp[hasB]<;>omega),bwA _⟩
 by_cases k1:K=1
 .subst k1;cases nl with
  |true=>
   go_enter func139,ntmps139;go_wp2;go_ret;exact⟨yv (by simp[hasB]<;>omega),bwA _⟩
  |false=>
   by_cases v1: -1<=V
   .by_cases v2:V<R
    .have v2':¬R<=V:=by omega
     go_enter func139,ntmps139;go_wp2;go_ret;exact⟨yv (by simp[hasB]<;>omega),bwA _⟩
    go_enter func139,ntmps139;go_wp2;go_ret;exact⟨yv (by simp[hasB]<;>omega),bwA _⟩
   go_enter func139,ntmps139;go_wp2;go_ret;exact⟨yv (by simp[hasB]<;>omega),bwA _⟩
 have k1':(K==1)=false:=by simpa using k1
 by_cases k23:K=2\/K=3
 .by_cases v0:V=0
  .subst v0;cases nl with
   |false=>
    rcases k23 with k|k;focus
     subst k
    rotate_left;focus
     subst k
    rotate_left;all_goals
     clear k1';go_enter func139,ntmps139;go_wp2;go_ret;exact⟨yv (by simp[hasB]<;>omega),bwA _⟩
   |true=>
    rcases k23 with k|k;focus
     subst k
    rotate_left;focus
     subst k
    rotate_left;all_goals
     clear k1';go_enter func139,ntmps139;go_wp2;go_ret;refine⟨yv ?_,bwA _⟩;rw[gy];exact Za _ _ _ _ _ (by omega) (by omega) (by omega) (by omega) (by omega) (by omega) (by omega) (by omega)
  have v0':(V==0)=false:=by simpa using v0
  rcases k23 with k|k;focus
   subst k
  rotate_left;focus
   subst k
  rotate_left;all_goals
   clear k1';go_enter func139,ntmps139;go_wp2;go_ret;exact⟨yv (by simp[hasB]<;>omega),bwA _⟩
 have k2:(K==2)=false:=by simp;omega
 have k3:(K==3)=false:=by simp;omega
 go_enter func139,ntmps139;go_wp2;go_ret;exact⟨yv (by simp[hasB]<;>omega),bwA _⟩
theorem gd(K H R F V:Int)(nl:Bool)(s:zgW)(w:World)(h:hasB K H R F V nl s.size=true):
 Calls prog 140 #[.agg #[iA K,iA H,iA R,iA F,iA V,bA nl,sA s]] w λe w'=>e=.returned (.int .u8 (yS K V nl))/\BW w w':=by
 have h':=zgF h;clear h;by_cases k1:K=1
 .subst k1;have v1: -1<=V:=by omega
  have v2:V<255:=by omega
  clear h';go_enter func140,ntmps140;go_wp2;go_ret;refine⟨Q5 ?_,bwA _⟩;simp[yS]
 have k1':(K==1)=false:=by simpa using k1
 clear h';cases nl
 .go_enter func140,ntmps140;go_wp2;go_ret;exact⟨Q5 (by simp[yS,k1]),bwA _⟩
 go_enter func140,ntmps140;go_wp2;go_ret;exact⟨Q5 (by simp[yS,k1]),bwA _⟩
theorem Tryz.zes:(prog.info? 5).map (λi=>(i.size,i.bytes,i.zero))=some (1,1,some (.int .u8 0)):=by kernel_rfl
theorem VJ(s:zgW):strOfNums (s.data.toList.map λb=>(b.toNat:Int))=s:=by
 apply ByteArray.ext;apply Array.toList_inj.1;show(List.map _ _).toArray.toList=_;rw[List.toList_toArray,List.map_map]
 conv=>rhs;rw[<-List.map_id s.data.toList]
 apply List.map_congr_left;intro x _;simp
theorem Ji(a b:List Int):strOfNums (a++b)=strOfNums a++strOfNums b:=by
 apply ByteArray.ext;apply Array.toList_inj.1;simp[strOfNums]
theorem vy(W:World)(g:Nat)(Y:Array Value)(K H R F m:Int)(s:zgW)(hg:W.heap[g]? =some (.cells Y 5 (0,0)))
 (hY:Y.toList=[.int .u8 K,.int .u8 H,.int .u8 R,.int .u8 F,.int .u8 m,.int .u8 s.size]++Lib.byteCells s.data.toList):
 (convert 153 9 (.slice (some (aA g 0)) (6+s.size) (6+s.size))).run prog W=.ok (sA (yt K H R F m s)) W:=by
 have h:=run_convert_bytes_arg (P:=prog) W 153 5 underlying153 underlying5 g 0 (6+s.size) (6+s.size) ([K,H,R,F,m,s.size]++s.data.toList.map λb=>(b.toNat:Int)) (by simp;omega) (λi hi=>by
  have e:Y.toList[i]? =some (.int .u8 (([K,H,R,F,m,(s.size:Int)]++s.data.toList.map λb=>(b.toNat:Int)).getD i 0)):=by
   rw[hY];have e2:[Value.int .u8 K,.int .u8 H,.int .u8 R,.int .u8 F,.int .u8 m,.int .u8 s.size]++Lib.byteCells s.data.toList=([K,H,R,F,m,(s.size:Int)]++s.data.toList.map λb=>(b.toNat:Int)).map (Value.int .u8):=by
    simp[Lib.byteCells]
   rw[e2,List.getElem?_map,zgz];have aa:i<([K,H,R,F,m,(s.size:Int)]++s.data.toList.map λb=>(b.toNat:Int)).length:=by simp;omega
   rw[zgy aa];rfl
  rw[zg0];simp only[World.cell?,hg];rw[<-zg8];exact e) 9 underlying9
 rw[h,Ji,VJ];rfl
theorem QY(M:Array Value)(n:Nat)(z a0 a1 a2 a3 a4 a5:Value)(h:M.toList=List.replicate (6+n) z):
 ((((((M.setIfInBounds 0 a0).setIfInBounds 1 a1).setIfInBounds 2 a2).setIfInBounds 3 a3).setIfInBounds 4 a4).setIfInBounds 5 a5).toList=[a0,a1,a2,a3,a4,a5]++List.replicate n z:=by
 have e:List.replicate (6+n) z=z::z::z::z::z::z::List.replicate n z:=by rw[Nat.add_comm];rfl
 simp only[Array.toList_setIfInBounds,h,e];rfl
theorem KB(H R F V:Int)(s:zgW)(w:World)(hs:s.size<=24)(h1:0<=H)(h2:H<12)(h3:0<=R)(h4:R<=255)(h5:0<=F)(h6:F<8)(h7: -1<=V)(h8:V<R):
 Calls prog 101 #[.agg #[iA 1,iA H,iA R,iA F,iA V,bA false,sA s]] w λe w'=>e=.returned (.tuple #[sA (yt 1 H R F (V+1) s),.nilIface])/\BW w w':=by
 have hy:Hid (hasB 1 H R F V false s.size=true):=by unfold Hid;simp[hasB]<;>omega
 obtain⟨i0,hi,ai⟩:=Option.map_eq_some_iff.1 Tryz.zes;have aq:i0.size=1:=congrArg (·.1) ai;have ao:i0.bytes=1:=congrArg (·.2.1) ai;have ar:i0.zero=some (.int .u8 0):=congrArg (·.2.2) ai;obtain⟨M,hM⟩:=gen (madeCells (Value.int .u8 0).cells (((6+(s.size:Int)).toNat)*i0.size));have al:M.toList=List.replicate (6+s.size) (.int .u8 0):=by
  rw[hM];show(madeCells #[Value.int .u8 0] _).toList=_;rw[toList_madeCells_one,aq]
  congr 1
  omega
 have ax:∀W:World,(Instr.makeSlice 153 (iA (6+(s.size:Int))) (iA (6+(s.size:Int)))).run prog W=.ok (.slice (some (nA W 0)) (6+s.size) (6+s.size)) (W.alloc (.cells M 5)):=λW=>by
  have h:=run_make (P:=prog) W 153 5 i0 (.int .u8 0) underlying153 hi ar .i64 .i64 (6+(s.size:Int)) (6+(s.size:Int)) (by omega) (by omega) (by rw[ao];omega) (by omega);rw[<-hM] at h;rw[h];have e:(6+(s.size:Int)).toNat=6+s.size:=by omega
  rw[e]
 have ae:∀i,i<6->M[i]? =some (.int .u8 0):=λi h=>by
  rw[<-zg8,al,List.getElem?_replicate,zgT (by omega)]
 have m0:=ae 0 (by omega);have m1:=ae 1 (by omega);have m2:=ae 2 (by omega);have m3:=ae 3 (by omega);have m4:=ae 4 (by omega);have m5:=ae 5 (by omega);have az:=zc al;clear hM ae ar aq ao ai hi al;go_enter func101,ntmps101;go_wp2_with fail
 refine(yJ 1 H R F V false s _ (by unfold maxLen;omega)).mono ?_;rw[hy.o];rintro e w1 ⟨rfl,aj⟩;have hc:=λo=>aj.cell (p:=(nA w o)) (by simp);have q0:w1.cell? (nA w 0)=some (iA 1):=by rw[hc];simp
 have q1:w1.cell? (nA w 1)=some (iA H):=by rw[hc];simp
 have q2:w1.cell? (nA w 2)=some (iA R):=by rw[hc];simp
 have q3:w1.cell? (nA w 3)=some (iA F):=by rw[hc];simp
 have q4:w1.cell? (nA w 4)=some (iA V):=by rw[hc];simp
 have q5:w1.cell? (nA w 5)=some (bA false):=by rw[hc];simp
 have q6:w1.cell? (nA w 6)=some (sA s):=by rw[hc];simp
 have au:w.heap.size<w1.heap.size:=by have:=aj.size;simp at this;omega
 have HB:=zc aj;clear hc aj;go_wp2;obtain⟨C,hC⟩:∃C,C=((((((M.setIfInBounds 0 (Value.int IntKind.u8 1)).setIfInBounds 1 (Value.int IntKind.u8 H)).setIfInBounds 2 (Value.int IntKind.u8 R)).setIfInBounds 3 (Value.int IntKind.u8 F)).setIfInBounds 4 (Value.int IntKind.u8 ((V+1)))).setIfInBounds 5 (Value.int IntKind.u8 s.size)):=⟨_,rfl⟩;rw[<-hC];have aw:C.toList=[Value.int .u8 1,.int .u8 H,.int .u8 R,.int .u8 F,.int .u8 ((V+1)),.int .u8 s.size]++List.replicate s.size (.int .u8 0):=by rw[hC];exact QY M _ _ _ _ _ _ _ _ az
 have HC:=zc aw;clear hC aw m0 m1 m2 m3 m4 m5 ax;obtain⟨W10,aa⟩:∃W,W=(w1.alloc (Obj.cells C 5)).alloc (Obj.cells #[Value.int IntKind.i64 1,Value.int IntKind.i64 H,Value.int IntKind.i64 R,Value.int IntKind.i64 F,Value.int IntKind.i64 V,Value.bool false,Value.string s] 57):=⟨_,rfl⟩;have ad:W10.heap[w1.heap.size]? =some (.cells C 5 (0,0)):=by rw[aa,zg2 _ _ _ (by simp)];exact zgr w1 _
 have r6:W10.cell? (nA w 6)=some (sA s):=by rw[aa];rw[zgw (w:=w1) (by rw[zg2 _ _ _ (by simp;omega),zg2 _ _ _ au])];exact q6
 have ag:BW w W10:=by
  rw[aa];exact(((bwA w).trans (HB.o.mono (by simp))).alloc (zgI au) _).alloc (by simp;omega) _
 have ah:=zc ag;rw[<-aa];clear aa ag q0 q1 q2 q3 q4 q5 q6;by_cases hn:s=zgV
 .have hn':(s=zgV)=True:=by simp[hn]
  have hz:s.size=0:=by rw[hn];rfl
  have ay:=vy W10.drew w1.heap.size C 1 H R F ((V+1)) s ad (by rw[HC.o,hz];simp[Lib.byteCells,hn]);have ak:=Lib.run_copy_empty_string (P:=prog) W10.drew 153 9 3 5 (some (nA w1 0)) s.size s.size s underlying153 (by kernel_rfl) hz;clear hn hz
  go_region
  go_wp2;go_ret2;exact⟨rfl,ah.o.drew⟩
 have ak:=Lib.run_copy_row_string (P:=prog) W10.drew 153 9 3 5 w1.heap.size 6 s.size s.size s C 5 underlying153 (by kernel_rfl) ad (zgp _) (by rw[<-Array.length_toList,HC.o];simp;omega);obtain⟨Y,hY⟩:∃Y,Y=(C.toList.take 6++Lib.byteCells s.data.toList++C.toList.drop (6+s.size)).toArray:=⟨_,rfl⟩;rw[<-hY] at ak;have av:Y.toList=[Value.int .u8 1,.int .u8 H,.int .u8 R,.int .u8 F,.int .u8 ((V+1)),.int .u8 s.size]++Lib.byteCells s.data.toList:=by
  rw[hY,HC.o,List.toList_toArray,List.drop_of_length_le (by simp;omega)];simp
 obtain⟨W11,ab⟩:=gen (W10.drew.setRow w1.heap.size Y);rw[<-ab] at ak;have af:W11.heap[w1.heap.size]? =some (.cells Y 5 (0,0)):=by rw[ab];exact setRow_heap _ _ C _ 5 (0,0) ad
 have ay:=vy W11 w1.heap.size Y 1 H R F ((V+1)) s af av;have an:Hid (Below w.heap.size W10.drew W11):=by
  rw[ab];exact⟨rfl,rfl,rfl,by simp,λk hk=>setRow_other _ _ _ _ (by omega)⟩
 clear ab hY av af
 go_region
 go_wp2;go_ret2;exact⟨rfl,ah.o.drew.trans an.o⟩
theorem KA(K H R F:Int)(s:zgW)(w:World)(hs:s.size<=24)(h1:0<=H)(h2:H<12)(h3:0<=R)(h4:R<=255)(h5:0<=F)(h6:F<8)(k0:2<=K)(k1:K<=3):
 Calls prog 101 #[.agg #[iA K,iA H,iA R,iA F,iA 0,bA false,sA s]] w λe w'=>e=.returned (.tuple #[sA (yt K H R F 0 s),.nilIface])/\BW w w':=by
 have hy:Hid (hasB K H R F 0 false s.size=true):=by unfold Hid;simp[hasB]<;>omega
 have k2:(K==1)=false:=by simp;omega
 obtain⟨i0,hi,ai⟩:=Option.map_eq_some_iff.1 Tryz.zes;have aq:i0.size=1:=congrArg (·.1) ai;have ao:i0.bytes=1:=congrArg (·.2.1) ai;have ar:i0.zero=some (.int .u8 0):=congrArg (·.2.2) ai;obtain⟨M,hM⟩:=gen (madeCells (Value.int .u8 0).cells (((6+(s.size:Int)).toNat)*i0.size));have al:M.toList=List.replicate (6+s.size) (.int .u8 0):=by
  rw[hM];show(madeCells #[Value.int .u8 0] _).toList=_;rw[toList_madeCells_one,aq]
  congr 1
  omega
 have ax:∀W:World,(Instr.makeSlice 153 (iA (6+(s.size:Int))) (iA (6+(s.size:Int)))).run prog W=.ok (.slice (some (nA W 0)) (6+s.size) (6+s.size)) (W.alloc (.cells M 5)):=λW=>by
  have h:=run_make (P:=prog) W 153 5 i0 (.int .u8 0) underlying153 hi ar .i64 .i64 (6+(s.size:Int)) (6+(s.size:Int)) (by omega) (by omega) (by rw[ao];omega) (by omega);rw[<-hM] at h;rw[h];have e:(6+(s.size:Int)).toNat=6+s.size:=by omega
  rw[e]
 have ae:∀i,i<6->M[i]? =some (.int .u8 0):=λi h=>by
  rw[<-zg8,al,List.getElem?_replicate,zgT (by omega)]
 have m0:=ae 0 (by omega);have m1:=ae 1 (by omega);have m2:=ae 2 (by omega);have m3:=ae 3 (by omega);have m4:=ae 4 (by omega);have m5:=ae 5 (by omega);have az:=zc al;clear hM ae ar aq ao ai hi al;go_enter func101,ntmps101;go_wp2_with fail
 refine(yJ K H R F 0 false s _ (by unfold maxLen;omega)).mono ?_;rw[hy.o];rintro e w1 ⟨rfl,aj⟩;have hc:=λo=>aj.cell (p:=(nA w o)) (by simp);have q0:w1.cell? (nA w 0)=some (iA K):=by rw[hc];simp
 have q1:w1.cell? (nA w 1)=some (iA H):=by rw[hc];simp
 have q2:w1.cell? (nA w 2)=some (iA R):=by rw[hc];simp
 have q3:w1.cell? (nA w 3)=some (iA F):=by rw[hc];simp
 have q4:w1.cell? (nA w 4)=some (iA 0):=by rw[hc];simp
 have q5:w1.cell? (nA w 5)=some (bA false):=by rw[hc];simp
 have q6:w1.cell? (nA w 6)=some (sA s):=by rw[hc];simp
 have au:w.heap.size<w1.heap.size:=by have:=aj.size;simp at this;omega
 have HB:=zc aj;clear hc aj;go_wp2;obtain⟨C,hC⟩:∃C,C=((((((M.setIfInBounds 0 (Value.int IntKind.u8 K)).setIfInBounds 1 (Value.int IntKind.u8 H)).setIfInBounds 2 (Value.int IntKind.u8 R)).setIfInBounds 3 (Value.int IntKind.u8 F)).setIfInBounds 4 (Value.int IntKind.u8 (0))).setIfInBounds 5 (Value.int IntKind.u8 s.size)):=⟨_,rfl⟩;rw[<-hC];have aw:C.toList=[Value.int .u8 K,.int .u8 H,.int .u8 R,.int .u8 F,.int .u8 (0),.int .u8 s.size]++List.replicate s.size (.int .u8 0):=by rw[hC];exact QY M _ _ _ _ _ _ _ _ az
 have HC:=zc aw;clear hC aw m0 m1 m2 m3 m4 m5 ax;obtain⟨W10,aa⟩:∃W,W=(w1.alloc (Obj.cells C 5)).alloc (Obj.cells #[Value.int IntKind.i64 K,Value.int IntKind.i64 H,Value.int IntKind.i64 R,Value.int IntKind.i64 F,Value.int IntKind.i64 0,Value.bool false,Value.string s] 57):=⟨_,rfl⟩;have ad:W10.heap[w1.heap.size]? =some (.cells C 5 (0,0)):=by rw[aa,zg2 _ _ _ (by simp)];exact zgr w1 _
 have r6:W10.cell? (nA w 6)=some (sA s):=by rw[aa];rw[zgw (w:=w1) (by rw[zg2 _ _ _ (by simp;omega),zg2 _ _ _ au])];exact q6
 have ag:BW w W10:=by
  rw[aa];exact(((bwA w).trans (HB.o.mono (by simp))).alloc (zgI au) _).alloc (by simp;omega) _
 have ah:=zc ag;rw[<-aa];clear aa ag q0 q1 q2 q3 q4 q5 q6;by_cases hn:s=zgV
 .have hn':(s=zgV)=True:=by simp[hn]
  have hz:s.size=0:=by rw[hn];rfl
  have ay:=vy W10.drew w1.heap.size C K H R F (0) s ad (by rw[HC.o,hz];simp[Lib.byteCells,hn]);have ak:=Lib.run_copy_empty_string (P:=prog) W10.drew 153 9 3 5 (some (nA w1 0)) s.size s.size s underlying153 (by kernel_rfl) hz;clear hn hz
  go_region
  go_wp2;go_ret2;exact⟨rfl,ah.o.drew⟩
 have ak:=Lib.run_copy_row_string (P:=prog) W10.drew 153 9 3 5 w1.heap.size 6 s.size s.size s C 5 underlying153 (by kernel_rfl) ad (zgp _) (by rw[<-Array.length_toList,HC.o];simp;omega);obtain⟨Y,hY⟩:∃Y,Y=(C.toList.take 6++Lib.byteCells s.data.toList++C.toList.drop (6+s.size)).toArray:=⟨_,rfl⟩;rw[<-hY] at ak;have av:Y.toList=[Value.int .u8 K,.int .u8 H,.int .u8 R,.int .u8 F,.int .u8 (0),.int .u8 s.size]++Lib.byteCells s.data.toList:=by
  rw[hY,HC.o,List.toList_toArray,List.drop_of_length_le (by simp;omega)];simp
 obtain⟨W11,ab⟩:=gen (W10.drew.setRow w1.heap.size Y);rw[<-ab] at ak;have af:W11.heap[w1.heap.size]? =some (.cells Y 5 (0,0)):=by rw[ab];exact setRow_heap _ _ C _ 5 (0,0) ad
 have ay:=vy W11 w1.heap.size Y K H R F (0) s af av;have an:Hid (Below w.heap.size W10.drew W11):=by
  rw[ab];exact⟨rfl,rfl,rfl,by simp,λk hk=>setRow_other _ _ _ _ (by omega)⟩
 clear ab hY av af
 go_region
 go_wp2;go_ret2;exact⟨rfl,ah.o.drew.trans an.o⟩
theorem Kz(K H R F:Int)(s:zgW)(w:World)(hs:s.size<=24)(h1:0<=H)(h2:H<12)(h3:0<=R)(h4:R<=255)(h5:0<=F)(h6:F<8)(k0:2<=K)(k1:K<=3)(hz0:s.size=0):
 Calls prog 101 #[.agg #[iA K,iA H,iA R,iA F,iA 0,bA true,sA s]] w λe w'=>e=.returned (.tuple #[sA (yt K H R F 1 s),.nilIface])/\BW w w':=by
 have hy:Hid (hasB K H R F 0 true s.size=true):=by
  unfold Hid;rw[<-Za K H R F s.size h1 h2 h3 h4 h5 h6 hs (by omega)];simpa using hz0
 clear hz0;have k2:(K==1)=false:=by simp;omega
 obtain⟨i0,hi,ai⟩:=Option.map_eq_some_iff.1 Tryz.zes;have aq:i0.size=1:=congrArg (·.1) ai;have ao:i0.bytes=1:=congrArg (·.2.1) ai;have hz0:i0.zero=some (.int .u8 0):=congrArg (·.2.2) ai;obtain⟨M,hM⟩:=gen (madeCells (Value.int .u8 0).cells (((6+(s.size:Int)).toNat)*i0.size));have al:M.toList=List.replicate (6+s.size) (.int .u8 0):=by
  rw[hM];show(madeCells #[Value.int .u8 0] _).toList=_;rw[toList_madeCells_one,aq]
  congr 1
  omega
 have aw:∀W:World,(Instr.makeSlice 153 (iA (6+(s.size:Int))) (iA (6+(s.size:Int)))).run prog W=.ok (.slice (some (nA W 0)) (6+s.size) (6+s.size)) (W.alloc (.cells M 5)):=λW=>by
  have h:=run_make (P:=prog) W 153 5 i0 (.int .u8 0) underlying153 hi hz0 .i64 .i64 (6+(s.size:Int)) (6+(s.size:Int)) (by omega) (by omega) (by rw[ao];omega) (by omega);rw[<-hM] at h;rw[h];have e:(6+(s.size:Int)).toNat=6+s.size:=by omega
  rw[e]
 have ae:∀i,i<6->M[i]? =some (.int .u8 0):=λi h=>by
  rw[<-zg8,al,List.getElem?_replicate,zgT (by omega)]
 have m0:=ae 0 (by omega);have m1:=ae 1 (by omega);have m2:=ae 2 (by omega);have m3:=ae 3 (by omega);have m4:=ae 4 (by omega);have m5:=ae 5 (by omega);have ay:=zc al;clear hM ae hz0 aq ao ai hi al;go_enter func101,ntmps101;go_wp2_with fail
 refine(yJ K H R F 0 true s _ (by unfold maxLen;omega)).mono ?_;rw[hy.o];rintro e w1 ⟨rfl,aj⟩;have hc:=λo=>aj.cell (p:=(nA w o)) (by simp);have q0:w1.cell? (nA w 0)=some (iA K):=by rw[hc];simp
 have q1:w1.cell? (nA w 1)=some (iA H):=by rw[hc];simp
 have q2:w1.cell? (nA w 2)=some (iA R):=by rw[hc];simp
 have q3:w1.cell? (nA w 3)=some (iA F):=by rw[hc];simp
 have q4:w1.cell? (nA w 4)=some (iA 0):=by rw[hc];simp
 have q5:w1.cell? (nA w 5)=some (bA true):=by rw[hc];simp
 have q6:w1.cell? (nA w 6)=some (sA s):=by rw[hc];simp
 have ar:w.heap.size<w1.heap.size:=by have:=aj.size;simp at this;omega
 have HB:=zc aj;clear hc aj;go_wp2;obtain⟨C,hC⟩:∃C,C=((((((M.setIfInBounds 0 (Value.int IntKind.u8 K)).setIfInBounds 1 (Value.int IntKind.u8 H)).setIfInBounds 2 (Value.int IntKind.u8 R)).setIfInBounds 3 (Value.int IntKind.u8 F)).setIfInBounds 4 (Value.int IntKind.u8 (1))).setIfInBounds 5 (Value.int IntKind.u8 s.size)):=⟨_,rfl⟩;rw[<-hC];have av:C.toList=[Value.int .u8 K,.int .u8 H,.int .u8 R,.int .u8 F,.int .u8 (1),.int .u8 s.size]++List.replicate s.size (.int .u8 0):=by rw[hC];exact QY M _ _ _ _ _ _ _ _ ay
 have HC:=zc av;clear hC av m0 m1 m2 m3 m4 m5 aw;obtain⟨W10,aa⟩:∃W,W=(w1.alloc (Obj.cells C 5)).alloc (Obj.cells #[Value.int IntKind.i64 K,Value.int IntKind.i64 H,Value.int IntKind.i64 R,Value.int IntKind.i64 F,Value.int IntKind.i64 0,Value.bool true,Value.string s] 57):=⟨_,rfl⟩;have ad:W10.heap[w1.heap.size]? =some (.cells C 5 (0,0)):=by rw[aa,zg2 _ _ _ (by simp)];exact zgr w1 _
 have r6:W10.cell? (nA w 6)=some (sA s):=by rw[aa];rw[zgw (w:=w1) (by rw[zg2 _ _ _ (by simp;omega),zg2 _ _ _ ar])];exact q6
 have ag:BW w W10:=by
  rw[aa];exact(((bwA w).trans (HB.o.mono (by simp))).alloc (zgI ar) _).alloc (by simp;omega) _
 have ah:=zc ag;rw[<-aa];clear aa ag q0 q1 q2 q3 q4 q5 q6;by_cases hn:s=zgV
 .have hn':(s=zgV)=True:=by simp[hn]
  have hz:s.size=0:=by rw[hn];rfl
  have ax:=vy W10.drew w1.heap.size C K H R F (1) s ad (by rw[HC.o,hz];simp[Lib.byteCells,hn]);have ak:=Lib.run_copy_empty_string (P:=prog) W10.drew 153 9 3 5 (some (nA w1 0)) s.size s.size s underlying153 (by kernel_rfl) hz;clear hn hz
  go_region
  go_wp2;go_ret2;exact⟨rfl,ah.o.drew⟩
 have ak:=Lib.run_copy_row_string (P:=prog) W10.drew 153 9 3 5 w1.heap.size 6 s.size s.size s C 5 underlying153 (by kernel_rfl) ad (zgp _) (by rw[<-Array.length_toList,HC.o];simp;omega);obtain⟨Y,hY⟩:∃Y,Y=(C.toList.take 6++Lib.byteCells s.data.toList++C.toList.drop (6+s.size)).toArray:=⟨_,rfl⟩;rw[<-hY] at ak;have au:Y.toList=[Value.int .u8 K,.int .u8 H,.int .u8 R,.int .u8 F,.int .u8 (1),.int .u8 s.size]++Lib.byteCells s.data.toList:=by
  rw[hY,HC.o,List.toList_toArray,List.drop_of_length_le (by simp;omega)];simp
 obtain⟨W11,ab⟩:=gen (W10.drew.setRow w1.heap.size Y);rw[<-ab] at ak;have af:W11.heap[w1.heap.size]? =some (.cells Y 5 (0,0)):=by rw[ab];exact setRow_heap _ _ C _ 5 (0,0) ad
 have ax:=vy W11 w1.heap.size Y K H R F (1) s af au;have an:Hid (Below w.heap.size W10.drew W11):=by
  rw[ab];exact⟨rfl,rfl,rfl,by simp,λk hk=>setRow_other _ _ _ _ (by omega)⟩
 clear ab hY au af
 go_region
 go_wp2;go_ret2;exact⟨rfl,ah.o.drew.trans an.o⟩
def xB(b:Addr)(ok:Bool):Value:=if ok=true then .nilIface else eA b
theorem gW{a b:zgW}{u v:Value}(h:a=b)(h':u=v):Ending.returned (.tuple #[sA a,u])=.returned (.tuple #[sA b,v]):=by rw[h,h']
theorem YW(K H R F V:Int)(nl:Bool)(s:zgW)(b:Addr)(w:World)(hs:s.size<=maxLen)(hb:w.cell? (aA 2 0)=some (eA b))(h:hasB K H R F V nl s.size=false):
 Calls prog 101 #[.agg #[iA K,iA H,iA R,iA F,iA V,bA nl,sA s]] w λe w'=>e=.returned (.tuple #[sA ⟨#[]⟩,eA b])/\BW w w':=by
 have HH:=zc h;have ab:=zgx _ _ hb;clear h;go_enter func101,ntmps101;go_wp2_with fail
 refine(yJ K H R F V nl s _ hs).mono ?_;rw[HH.o];rintro e w1 ⟨rfl,aa⟩;have hc:w1.cell? (aA 2 0)=some (eA b):=by
  rw[aa.cell (p:=(aA 2 0)) (by simp at ab ⊢;omega)];exact cell?_alloc_old _ hb
 have HB:=zc aa;clear aa;go_wp2;go_quiet (fail)
 go_wp2;go_ret2;exact⟨rfl,zgZ ((bwA w).trans (HB.o.mono (by simp))) _⟩
theorem vH(K H R F V:Int)(nl:Bool)(s:zgW)(b:Addr)(w:World)(hs:s.size<=maxLen)(hb:w.cell? (aA 2 0)=some (eA b)):
 Calls prog 101 #[.agg #[iA K,iA H,iA R,iA F,iA V,bA nl,sA s]] w λe w'=>e=.returned (.tuple #[sA (encS K H R F V nl s),xB b (hasB K H R F V nl s.size)])/\BW w w':=by
 by_cases h:hasB K H R F V nl s.size=true
 .have h':=zgF h;obtain⟨h1,h2,h3,h4,h5,h6,h7,h8⟩:=h';rcases h8 with⟨rfl,rfl,v1,v2⟩|⟨hk,rfl,hn⟩
  .refine (KB H R F V s w h7 h1 h2 h3 h4 h5 h6 v1 v2).mono ?_
   rintro e w' ⟨rfl,hB⟩;exact⟨gW (by rw[qF h];rfl) (by rw[h];rfl),hB⟩
  have aa:K≠1:=by omega
  cases nl
  .refine (KA K H R F s w h7 h1 h2 h3 h4 h5 h6 (by omega) (by omega)).mono ?_
   rintro e w' ⟨rfl,hB⟩;exact⟨gW (by rw[qF h];simp[yS,aa]) (by rw[h];rfl),hB⟩
  refine(Kz K H R F s w h7 h1 h2 h3 h4 h5 h6 (by omega) (by omega) (by simpa using hn)).mono ?_;rintro e w' ⟨rfl,hB⟩;exact⟨gW (by rw[qF h];simp[yS,aa]) (by rw[h];rfl),hB⟩
 have h':hasB K H R F V nl s.size=false:=by simpa using h
 refine(YW K H R F V nl s b w hs hb h').mono ?_;rintro e w' ⟨rfl,hB⟩;exact⟨gW (yy h').symm (by rw[h'];rfl),hB⟩
theorem Zh(K H R F V:Int)(nl:Bool)(s:zgW)(b:Addr)(w:World)(hs:s.size<=maxLen)(hb:w.cell? (aA 2 0)=some (eA b)):
 Calls prog 50 #[.agg #[iA K,iA H,iA R,iA F,iA V,bA nl,sA s]] w λe w'=>e=.returned (.tuple #[sA (encS K H R F V nl s),xB b (hasB K H R F V nl s.size)])/\BW w w':=by
 have aa:=λo=>cell?_alloc_old o hb;go_enter func50,ntmps50;go_wp2_with fail
 refine(vH K H R F V nl s b _ hs (aa _)).mono ?_;rintro e w1 ⟨rfl,hB⟩;go_wp2;go_ret2;exact⟨rfl,(bwA w).trans (hB.mono (by simp))⟩
theorem Qc(x:Nat->Int)(w:World)(hx:Dom x):
 Calls prog 24 #[.agg (regA x)] w λe w'=>∃p r,e=.returned (.agg #[p,sA (nameB (memb x 26)),r])/\w'.ownsRow w.heap.size 3 1 p 8 (vC x 8)/\w'.ownsRow w.heap.size 3 1 r (memb x 26).length (jE x (memb x 26))/\BW w w':=by
 obtain⟨i3,hi,aN,aM,aL⟩:=info_parts Tryz.zeh;have HX:=zc hx;clear hx;go_enter func24,ntmps24;go_wp2;go_loopw [4] (λi wr=>∃(k:Nat) (v:Value),k<=8/\i=iA k/\RegAt wr w.heap.size 49 x/\zV wr (w.heap.size+1) (.slice none 0 0) zgV (.slice none 0 0)/\zV wr (w.heap.size+1+1) v zgV (.slice none 0 0)/\wr.ownsRow (w.heap.size+1+1+1) 3 1 v k (vC x k)/\BW w wr) (λi _=>8-(intOf i).toNat)
 case atStart=>
  refine⟨0,.slice none 0 0,by omega,rfl,?_,?_,?_,zgQ _ _ _ _,?_⟩
  .exact ((RegAt.alloc w 49 x).below (bwA _)).below (bwA _)
  .have h:zV ((w.alloc (.cells (regA x) 49)).alloc (.cells #[.slice none 0 0,sA zgV,.slice none 0 0] 72)) (w.alloc (.cells (regA x) 49)).heap.size (.slice none 0 0) zgV (.slice none 0 0):=zgr (w.alloc (.cells (regA x) 49)) _;have e:(w.alloc (.cells (regA x) 49)).heap.size=w.heap.size+1:=by simp
   rw[e] at h;exact h.block (zg2 ((w.alloc (.cells (regA x) 49)).alloc (.cells #[.slice none 0 0,sA zgV,.slice none 0 0] 72)) (.cells #[.slice none 0 0,sA zgV,.slice none 0 0] 72) (w.heap.size+1) h.lt)
  .have h:zV (((w.alloc (.cells (regA x) 49)).alloc (.cells #[.slice none 0 0,sA zgV,.slice none 0 0] 72)).alloc (.cells #[.slice none 0 0,sA zgV,.slice none 0 0] 72)) ((w.alloc (.cells (regA x) 49)).alloc (.cells #[.slice none 0 0,sA zgV,.slice none 0 0] 72)).heap.size (.slice none 0 0) zgV (.slice none 0 0):=zgr ((w.alloc (.cells (regA x) 49)).alloc (.cells #[.slice none 0 0,sA zgV,.slice none 0 0] 72)) _;have e:((w.alloc (.cells (regA x) 49)).alloc (.cells #[.slice none 0 0,sA zgV,.slice none 0 0] 72)).heap.size=w.heap.size+1+1:=by simp
   rw[e] at h;exact h
  exact((bwA w).alloc (by simp) _).alloc (by simp;omega) _
 obtain⟨k,v,hk,rfl,hr,aP,aj,ho,hb⟩:=hrel;obtain⟨HR,aS,ai,HO,HB⟩:=kY hr aP aj ho hb;have aR:=aj.cell.1;have a6:=aj.frozen 0;have aB:∀o,cE (wr.alloc o) (w.heap.size+1+1) 0 v:=λo=>(((zgq wr.heap.size wr).alloc (zgp _) o).cell (p:=(aA (w.heap.size+1+1) 0)) (by exact aj.lt)).trans aR;clear hr aP aj ho hb;by_cases ao:k=8
 .have aU:Hid (wr.ownsRow (w.heap.size+1+1+1) 3 1 v 8 (vC x 8)):=by have:=HO.o;rw[ao] at this;exact this
  have hge:¬(k:Int)<8:=by omega
  clear ao HO hk;obtain⟨k8,ao⟩:=gen k;subst ao;have HO:=aU;go_wp2;clear aR a6 aB aU;obtain⟨w8,aY⟩:=gen wr;subst aY;go_loopw [5] (λi ws=>∃(k:Nat) (rv:Value),k<=26/\i=iA k/\But w8.heap.size (w.heap.size+1+1) w8 ws/\zV ws (w.heap.size+1+1) v (nameB (memb x k)) rv/\ws.ownsRow w8.heap.size 3 1 rv (memb x k).length (jE x (memb x k))) (λi _=>26-(intOf i).toNat)
  case atStart=>exact⟨0,.slice none 0 0,by omega,rfl,But.refl _ _ _,ai.o,zgQ _ _ _ _⟩
  obtain⟨k,rv,hk,rfl,ah,aO,aQ⟩:=hrel;have ax:=ai.o.lt;obtain⟨af,ad,ag⟩:=zC ah aO aQ;have aT:=zc (ah.reg HR.o (by omega) (by omega));have al:=zc (aS.o.block (ah.block (w.heap.size+1) (by omega) (by omega)));have aG:=zc (ah.own HO.o (zgp _) (by omega));have aX:=zc (HB.o.trans (ah.below (B':=w.heap.size) (by omega) (by omega)));clear ah aO aQ;by_cases ay:k=26
  .subst ay;obtain⟨pp,pc,rfl⟩:=zl aG;obtain⟨rp,rc,rfl⟩:=zl ag;go_wp2_with (first|(refine zg4 rfl 72 _ rfl (w.heap.size+1+1) rfl 72 _ (0,0) _ ad.o underlying72 rfl Tryz.zdO ?_)|(refine zi rfl 72 _ _ rfl (w.heap.size+1) _ rfl rfl 72 _ al.o rfl (by simp[Value.oneCell']) Tryz.zdO ?_;intro w5 hq ho))
   exact zgJ (v:=.agg #[.slice pp 8 pc,sA (nameB (memb x 26)),.slice rp (memb x 26).length rc]) (results_cell_row results24 _ _ (w.heap.size+1) 72 _ (0,0) _ rfl hq underlying72 rfl Tryz.zdO) rfl ⟨_,_,rfl,yU ((But.zdS (B:=wr.heap.size) ho).own aG.o (zgp _) (by omega)) (by omega),yU ((But.zdS (B:=wr.heap.size) ho).own ag.o (zgp _) (by omega)) (by omega),aX.o.trans (ho.below (by omega))⟩
  have aZ:(k:Int)<26:=by omega
  have a7:=aT.o.cell (8+k) (by omega);by_cases ak:0<x (8+k)
  .have aV:=zc (J5 x k ak);have hml:=jh x k;obtain⟨nm,an⟩:=gen (nameB (memb x k));rw[<-an] at ad;obtain⟨ch,aq⟩:=gen (strOfNums [(k:Int)+97]);obtain⟨nn,av⟩:=gen (nm++ch);have a8:∀W:World,(convert 153 9 (.slice (some (nA W 0)) 1 1)).run prog (W.alloc (.cells #[.int .u8 (97+(k:Int))] 5))=.ok (sA ch) (W.alloc (.cells #[.int .u8 (97+(k:Int))] 5)):=λW=>by
    rw[aq,Int.add_comm (k:Int) 97];exact zcT W _
   have aC:∀W:World,(Op.stringOp .add nm ch).run prog W=.ok (sA nn) W:=λW=>by
    rw[run_string_add_sum W nm ch (by rw[an,aq,VR,strOfNums_size];simp;omega),av]
   have bg:Hid (nn=nameB (memb x (k+1))):=by unfold Hid;rw[av,an,aq,Qh,aV.o]
   have ba:∀o,cE (wr.alloc o) (w.heap.size+1+1) 1 (sA nm):=λo=>(((zgq wr.heap.size wr).alloc (zgp _) o).cell (p:=(aA (w.heap.size+1+1) 1)) (by exact ad.o.lt)).trans ad.o.cell.2.1;have az:=ad.o.cell.2.1;have a1:∀o,(wr.alloc o).frozen? (aA (w.heap.size+1+1) 1)=false:=λo=>(((zgq wr.heap.size wr).alloc (zgp _) o).frozen (p:=(aA (w.heap.size+1+1) 1)) (by exact ad.o.lt)).trans (ad.o.frozen 1);clear an aq av;go_wp2_with fail
   have aw:w8.heap.size<=wr.heap.size:=af.o.size;have ar:Hid (zV ((wr.alloc (.cells #[.int .u8 (97+(k:Int))] 5)).setCell (aA (w.heap.size+1+1) 1) (sA nn)) (w.heap.size+1+1) v nn rv):=(ad.o.block (zg2 wr _ (w.heap.size+1+1) ad.o.lt)).zga nn;have ae:Hid (But w8.heap.size (w.heap.size+1+1) w8 ((wr.alloc (.cells #[.int .u8 (97+(k:Int))] 5)).setCell (aA (w.heap.size+1+1) 1) (sA nn))):=(af.o.trans (But.zeo ((zgq _ wr).alloc aw _))).trans (But.zdS (zd _ _ _ _));have aJ:Hid (((wr.alloc (.cells #[.int .u8 (97+(k:Int))] 5)).setCell (aA (w.heap.size+1+1) 1) (sA nn)).ownsRow w8.heap.size 3 1 rv (memb x k).length (jE x (memb x k))):=(But.zdS (B:=(wr.alloc (.cells #[.int .u8 (97+(k:Int))] 5)).heap.size) (zd _ _ _ _)).own (ag.o.alloc _) (zgp _) ax;have aF:=zc (ae.o.reg HR.o (by omega) (by omega));have au:w8.heap.size<=((wr.alloc (.cells #[.int .u8 (97+(k:Int))] 5)).setCell (aA (w.heap.size+1+1) 1) (sA nn)).heap.size:=ae.o.size;generalize ((wr.alloc (.cells #[.int .u8 (97+(k:Int))] 5)).setCell (aA (w.heap.size+1+1) 1) (sA nn))=W5 at ar ae aJ aF au ⊢;have bc:=ar.o.cell.2.2;have bb:∀o,cE (W5.alloc o) (w.heap.size+1+1) 2 rv:=λo=>(((zgq W5.heap.size W5).alloc (zgp _) o).cell (p:=(aA (w.heap.size+1+1) 2)) (by exact ar.o.lt)).trans bc;clear ba az a1 a8 aC ad af ag aT al aG aX a7;refine rgd (S:=λW=>RegAt W w.heap.size 49 x) aF.o.drew λhH=>?_;refine zx [0,2,3,4,5] hH (λx h=>h.cell (8+k) (by omega)) ?_;refine gn 1 6 (λK hK=>?_) λK hK=>?_;focus
    go_simp;refine hK.out _ _ hH λhH=>?_;clear hK K;refine zp 6 λK hK=>?_;go_simp;refine hK.out _ _ (hH.below (bwA _)) λhH=>?_
   rotate_left;focus
    go_simp;refine hK.out _ _ (hH.below (bwA _)) λhH=>?_;clear hK K;refine zp 1 λK hK=>?_;go_simp;refine hK.out _ _ hH λhH=>?_
   rotate_left;all_goals
    clear hK K;refine zp 7 λK hK=>?_;rw[zgT (by rfl)];refine wp_append_own _ _ _ 22 rfl w8.heap.size 3 i3 (iA 0) 1 8 underlying22 hi aN aM aL rfl (by decide) rv (memb x k).length (jE x (memb x k)) rfl (aJ.o.drew.alloc _) (nA W5 0) 1 1 [iA (x (8+k))] rfl rfl ?_ ?_ (by unfold maxLen;omega) (by omega) (by simp;omega) ?_
    .intro j u hj;match j,hj with
     |0,hj=>simp at hj;subst hj;simp[Addr.add]
    .intro u hu;simp at hu;subst hu;rfl
    intro v' w6 aa ab _;obtain⟨p',c',rfl⟩:=zl aa;have aH:=zc aa;have aK:Hid (Below w8.heap.size W5 w6):=((zgq _ _).drew.alloc (by simp;omega) _).grown ab (by simp;omega) (λj hj=>(aJ.o.lt j hj).1);clear aa ab;have bd:=zc (aF.o.later aK.o (by omega));have aD:=zc (ar.o.block (aK.o.block (w.heap.size+1+1) (by omega)));have hf6:=aD.o.frozen 2;have hc6:=aD.o.cell.2.2;refine hK.out _ _ bd λhH=>?_;clear hK K;refine zx [8] hH (λ_ h=>h) ?_;refine zp 9 λK hK=>?_;go_simp;refine hK.out _ _ (hH.only (zd w6 (w.heap.size+1+1) 2 (.slice p' ((memb x k).length+1) c')) (by omega)) λhH=>?_;clear hK K;refine dnr ?_;go_wp2;go_roundw
    case rel=>exact⟨k+1,.slice p' ((memb x k).length+1) c',by omega,by go_num,(ae.o.trans (But.zeo aK.o)).trans (But.zdS (zd _ _ _ _)),by rw[<-bg.o];exact aD.o.zf9 _,(But.zdS (B:=w6.heap.size) (zd w6 (w.heap.size+1+1) 2 (.slice p' ((memb x k).length+1) c'))).own (by rw[aV.o,gg,zgE];exact aH.o) (zgp _) (by omega)⟩
    simp[intOf];omega
  have aW:=zc (Gy x k ak);go_wp2;go_roundw
  case rel=>exact⟨k+1,rv,by omega,by go_num,af.o,by rw[aW.o];exact ad,by rw[aW.o];exact ag⟩
  simp[intOf];omega
 have aZ:(k:Int)<8:=by omega
 go_wp2_with fail
 refine rgd (S:=λW=>RegAt W w.heap.size 49 x) HR.o.drew λhH=>?_;refine zx [0,2,3,4,5] hH (λx h=>h.cell k (by omega)) ?_;refine gn 1 6 (λK hK=>?_) λK hK=>?_;focus
  go_simp;refine hK.out _ _ hH λhH=>?_;clear hK K;refine zp 6 λK hK=>?_;go_simp;refine hK.out _ _ (hH.below (bwA _)) λhH=>?_
 rotate_left;focus
  go_simp;refine hK.out _ _ (hH.below (bwA _)) λhH=>?_;clear hK K;refine zp 1 λK hK=>?_;go_simp;refine hK.out _ _ hH λhH=>?_
 rotate_left;all_goals
  clear hK K;refine zp 7 λK hK=>?_;rw[zgT (by rfl)];refine wp_append_own _ _ _ 22 rfl (w.heap.size+1+1+1) 3 i3 (iA 0) 1 8 underlying22 hi aN aM aL rfl (by decide) v k (vC x k) rfl (HO.o.drew.alloc _) (nA wr 0) 1 1 [iA (x k)] rfl rfl ?_ ?_ (by unfold maxLen;omega) (by omega) (by have:=ai.o.lt;simp;omega) ?_
  .intro j u hj;match j,hj with
   |0,hj=>simp at hj;subst hj;simp[Addr.add]
  .intro u hu;simp at hu;subst hu;rfl
  intro v' w3 aa ab _;obtain⟨p',c',rfl⟩:=zl aa;have ag:=zc aa;have af:Hid (Below (w.heap.size+1+1+1) wr w3):=((zgq _ _).drew.alloc (by have:=ai.o.lt;simp;omega) _).grown ab (by have:=ai.o.lt;simp;omega) (λj hj=>(HO.o.lt j hj).1);clear aa ab;have bf:=zc (HR.o.later af.o (by omega));have aE:=zc (ai.o.block (af.o.block (w.heap.size+1+1) (by omega)));have hf3:=aE.o.frozen 0;have hc3:=aE.o.cell.1;refine hK.out _ _ bf λhH=>?_;clear hK K;refine zx [8] hH (λ_ h=>h) ?_;refine zp 9 λK hK=>?_;go_simp;refine hK.out _ _ (hH.only (zd w3 (w.heap.size+1+1) 0 (.slice p' (k+1) c')) (by omega)) λhH=>?_;clear hK K;refine dnr ?_;go_wp2;go_roundw
  case rel=>exact⟨k+1,.slice p' (k+1) c',by omega,by go_num,hH,(aS.o.block (af.o.block (w.heap.size+1) (by omega))).block ((zd w3 (w.heap.size+1+1) 0 (.slice p' (k+1) c')).block (w.heap.size+1) (by omega)),aE.o.zgk (.slice p' (k+1) c'),(But.zdS (B:=w3.heap.size) (zd w3 (w.heap.size+1+1) 0 (.slice p' (k+1) c'))).own (by rw[Gf];exact ag.o) (zgp _) (by omega),(HB.o.trans (af.o.mono (by omega))).trans ((zd _ _ _ _).below (by omega))⟩
  simp[intOf];omega
variable{w:World}{n e:Nat}{M:Value}
theorem J6(k:Nat)(w:World)(hk:k<=1000000000):
 Calls prog 66 #[iA k] w λe w'=>e=.returned (iA (-7000-(k:Int)))/\w'=w:=by
 go_enter func66,ntmps66;go_wp2;go_ret;exact⟨rfl,rfl⟩
def zaj(w:World)(v:Value)(n:Nat)(M:Value):Prop:=∃p c,v=.slice p n c/\kG w w.heap.size p n (λ_=>M)
theorem zaj.own{v:Value}{base:Nat}(h:w.ownsRow base e 1 v n (List.replicate n M)):zaj w v n M:=by
 rcases h.2 with⟨rfl,rfl⟩|⟨g,cap,cur,rfl,hb,hg,hnc,hcm,hcs,ht⟩
 .exact ⟨none,0,rfl,λi hi=>by omega⟩
 refine⟨_,cap,rfl,λi hi=>⟨g,0,rfl,?_,?_⟩⟩
 .rcases Nat.lt_or_ge g w.heap.size with h'|h'
  .exact h'
  simp[Array.getElem?_eq_none h'] at hg
 rw[zgs w g (0+i) _ e _ hg,zg0];have e1:(cur.toList.take (n*1))[i]? =(List.replicate n M)[i]? :=by rw[ht]
 rw[zg5,zgT (by omega),List.getElem?_replicate,zgT hi] at e1;rw[<-zg8,e1]
theorem Gg{base g cap k:Nat}{ys:List Value}(h:w.ownsRow base e 1 (.slice (some (aA g 0)) n cap) n ys)(hk:k<n):
 w.cell? (aA g k)=ys[k]? /\w.frozen? (aA g k)=false/\(w.setCell (aA g k) M).ownsRow base e 1 (.slice (some (aA g 0)) n cap) n (ys.set k M):=by
 rcases h.2 with⟨e1,_⟩|⟨g',cap',cur,e1,hb,hg,aa,ad,ab,ht⟩
 .cases e1
 cases e1;refine⟨?_,by simp[World.frozen?,hg],by simpa using h.1,zgS ⟨g,cap,cur.setIfInBounds k M,rfl,hb,?_,aa,ad,by simpa using ab,?_⟩⟩
 .rw [zgs w g k _ e _ hg,<-ht,zg5,zgT (by omega),zg8]
 .simp [World.setCell,Array.getElem?_modify,hg]
 rw[<-ht,Array.toList_setIfInBounds,List.take_set]
theorem Qu(xs:List Value)(M:Value)(k n:Nat)(hn:xs.length=n)(hk:k<n):(List.replicate k M++xs.drop k).set k M=List.replicate (k+1) M++xs.drop (k+1):=by
 rw[List.set_append_right _ _ (by simp)];rw[List.length_replicate,Nat.sub_self,List.drop_eq_getElem_cons (by omega),List.set_cons_zero,List.replicate_succ',List.append_assoc];rfl
end
section
open Go.RowKit
variable{x y:Option Nat}{B n:Nat}{w w':World}{v M:Value}
def zN(x y:Option Nat)(B:Nat)(w:World)(v:Value)(n:Nat)(M:Value):Prop:=∃p c,v=.slice p n c/\∀i,i<n->∃b o,p=some (aA b o)/\b<w.heap.size/\(some b≠x/\(some b=y\/B<=b))/\w.cell? (aA b (o+i))=some M
theorem zN.less{B':Nat}(h:zN x y B w v n M)(hB:B'<=B):zN x y B' w v n M:=by
 obtain⟨p,c,e,hl⟩:=h;refine⟨p,c,e,λi hi=>?_⟩;obtain⟨b,o,e1,hb,hx,hc⟩:=hl i hi;exact⟨b,o,e1,hb,⟨hx.1,hx.2.imp id (zgu hB)⟩,hc⟩
theorem zN.own{base e:Nat}(h:w.ownsRow base e 1 v n (List.replicate n M))(hx:∀g,v.ownBlock=some g->some g≠x)(hy:∀g,v.ownBlock=some g->some g=y\/B<=g):zN x y B w v n M:=by
 obtain⟨p,c,rfl,hl⟩:=zaj.own h;refine⟨p,c,rfl,λi hi=>?_⟩;obtain⟨b,o,rfl,hb,hc⟩:=hl i hi;exact⟨b,o,rfl,hb,⟨hx b rfl,hy b rfl⟩,hc⟩
theorem zN.later(h:zN x y B w v n M)(hs:w.heap.size<=w'.heap.size)(hc:∀b j,some b≠x->w.cell? (aA b j)=some M->w'.cell? (aA b j)=some M):zN x y B w' v n M:=by
 obtain⟨p,c,rfl,hl⟩:=h;refine⟨p,c,rfl,λi hi=>?_⟩;obtain⟨b,o,e,hb,hx,aa⟩:=hl i hi;exact⟨b,o,e,by omega,hx,hc _ _ hx.1 aa⟩
theorem zN.both{x':Option Nat}(h:zN x y B w v n M)(hg:w.grownBy w' x)(hat:x'=x\/x'=some w.heap.size):zN x' y B w' v n M:=by
 obtain⟨p,c,rfl,hl⟩:=h;refine⟨p,c,rfl,λi hi=>?_⟩;obtain⟨b,o,e,hb,hx,aa⟩:=hl i hi;refine⟨b,o,e,by have:=hg.size;omega,⟨?_,hx.2⟩,?_⟩
 .rcases hat with rfl|rfl
  .exact hx.1
  intro e2;cases e2;omega
 rw[<-aa];exact zgw (w:=w) (a:=(aA b (o+i))) (hg.block b hb hx.1)
def q8(B:Nat)(W:World)(v:Value)(k:Nat)(C:Array Value)(t:TypeId):Prop:=∃g,v=.slice (some (aA g 0)) k k/\B<=g/\W.heap[g]? =some (.cells C t (0,0))
theorem q8.kept{W W':World}{k:Nat}{C:Array Value}{t:TypeId}(h:q8 B W v k C t)(hb:∀g,B<=g->g<W.heap.size->W'.heap[g]? =W.heap[g]?):q8 B W' v k C t:=by
 obtain⟨g,e,hB,hg⟩:=h;refine⟨g,e,hB,?_⟩;have aa:g<W.heap.size:=by
  rcases Nat.lt_or_ge g W.heap.size with h'|h'
  .exact h'
  simp[Array.getElem?_eq_none h'] at hg
 rw[hb g hB aa];exact hg
theorem q8.alloc(W:World)(hB:B<=W.heap.size)(k:Nat)(C:Array Value)(t:TypeId):q8 B (W.alloc (.cells C t)) (.slice (some (aA W.heap.size 0)) k k) k C t:=⟨W.heap.size,rfl,hB,zgr W _⟩
structure zbq (bk base:Nat) (lv v:Value) (w0:World):Prop where
 bv:∀g,v.ownBlock=some g->base<=g/\g<w0.heap.size
 bl:∀g,lv.ownBlock=some g->(g<w0.heap.size/\g≠bk)/\v.ownBlock≠some g
 bb:bk<base
 bw:base<=w0.heap.size

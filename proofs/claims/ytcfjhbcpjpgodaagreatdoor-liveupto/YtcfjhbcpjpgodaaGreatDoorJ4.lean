import Derived.Stop.LaidErr
import Derived.LaidOnce
import Derived.Test.YtcfjhbcpjpgodaaGreatDoorJ1
import Derived.Lib.SplitLaws
namespace Go.Proofs.YtcfjhbcpjpgodaaGreatDoor
open Go.RowKit
section
open Proofs.Tryz
variable{es:List Addr}{w w' W:World}{nm:String}{f:Field}
structure SentIn (tp:TypeId) (gs:List Nat) (es:List Addr) (w:World):Prop where
 len:es.length=gs.length
 nodup:es.Nodup
 cell:∀(i g:Nat) (a:Addr),gs[i]? =some g->es[i]? =some a->w.cell? (aA g 0)=some (.iface tp (.pointer (some a)))
 blk:∀a,a∈es->∃c t,w.heap[a.block]? =some (.cells c t (0,0))
theorem SentIn.later{tp:TypeId}{gs:List Nat}(h:SentIn tp gs es w)(hb:BW w w'):SentIn tp gs es w':=by
 refine⟨h.len,h.nodup,λi g a hg ha=>?_,λa ha=>?_⟩
 .have hc:=h.cell i g a hg ha;rw[hb.cell (p:=(aA g 0)) (zjI _ _ hc)];exact hc
 obtain⟨c,t,hc⟩:=h.blk a ha;refine⟨c,t,?_⟩;have aa:a.block<w.heap.size:=by
  rcases Nat.lt_or_ge a.block w.heap.size with h'|h'
  .exact h'
  simp[Array.getElem?_eq_none h'] at hc
 rw[hb.block _ aa];exact hc
theorem K7{P:Program}{ti tp te ts:TypeId}{ms:Array (String×TypeId)}
 (hi:P.underlying ti=some (.interface ms)) (hrow:∀u,P.typeName? 3 u=some nm->u=tp)
 (hp:P.underlying tp=some (.pointer te)) (he:P.underlying te=some (.struct #[f])) (hft:f.type=ts) (hfo:f.offset=0) (hs:P.underlying ts=some .string) (hc:P.cellsOf te=1) (hcs:P.cellsOf ts=1)
 (r:List (String×DataW Unit)):
 ∀(ls:List (String×List UInt8)) (gs:List Nat) (ps:List MemPlace),ls.map (λx=>P.globalNamed x.1)=gs.map some->(∀g,g∈gs->(P.globals[g]?).map (·.type)=some ti)->
  DataW.LaidVars P W (ls.map (λx=>(x.1,.iface nm (.ptr (.agg [.lit (.string x.2)]))))++r) ps->
  (∀b off,MemPlace.cell b off∈ps->(∃c t,W.heap[b]? =some (.cells c t (0,0)))/\∀u v,W.cell? (aA b off)=some (.iface u v)->Value.okWide P W .any 0 u v)->
  ∃es:List Addr,es.length=gs.length/\(es.map λa=>MemPlace.cell a.block a.off).Sublist ps/\
   (∀(i g:Nat) (a:Addr),gs[i]? =some g->es[i]? =some a->W.cell? (aA g 0)=some (.iface tp (.pointer (some a))))/\∀a,a∈es->∃c t,W.heap[a.block]? =some (.cells c t (0,0)):=by
 intro ls;induction ls with
 |nil=>
  intro gs ps hg _ _ _;cases gs with
  |nil=>exact⟨[],rfl,by simp,by simp,by simp⟩
  |cons g gs=>simp at hg
 |cons x ls ih=>
  intro gs ps hg ht hv aa;cases gs with
  |nil=>simp at hg
  |cons g gs=>
   simp only[List.map_cons,List.cons.injEq] at hg;obtain⟨an,al⟩:=hg;obtain⟨g0,t0,cs0,f0,p0,q0,ad,af,aj,ao,hq,e0⟩:=hv;obtain rfl:=zkd (an.symm.trans ad);have ak:=ht g (by simp);obtain rfl:=zkd (ak.symm.trans af);subst e0;obtain⟨l0⟩:=cs0;have ok0:∀u v,l0=[.iface u v]->Value.okWide P W .any 0 u v:=λu v e=>by
    subst e;exact(aa g 0 (by simp[MemPlace.row])).2 u v (by simpa using World.var?_cell ad aj 0)
   obtain⟨a0,s0,rfl,hc0,hs0,hz0,rfl⟩:=errorString_of_trod hi hrow hp he hft hfo hs hc hcs ao ok0;obtain⟨es,hlen,ag,ae,ai⟩:=ih gs q0 al (λg hm=>ht g (by simp[hm])) hq (λb off hm=>aa b off (by simp[hm]));refine⟨a0::es,by simp[hlen],?_,?_,?_⟩
   .have e1:MemPlace.row a0 1=[MemPlace.cell a0.block a0.off]:=by simp[MemPlace.row]
    rw[e1];simp only[List.map_cons,List.append_assoc,List.singleton_append];exact(List.Sublist.cons_cons _ ag).trans (List.sublist_append_right _ _)
   .intro i g' a ah ha;cases i with
    |zero=>
     simp only[List.getElem?_cons_zero,Option.some.injEq] at ah ha;subst ah;subst ha;simpa using World.var?_cell ad aj 0
    |succ i=>exact ae i g' a (by simpa using ah) (by simpa using ha)
   intro a ha;rcases List.mem_cons.1 ha with rfl|ha
   .exact (aa a.block a.off (by simp[MemPlace.row])).1
   exact ai a ha
theorem K8{P:Program}{ti tp te ts:TypeId}{ms:Array (String×TypeId)}
 (hi:P.underlying ti=some (.interface ms)) (hrow:∀u,P.typeName? 3 u=some nm->u=tp)
 (hp:P.underlying tp=some (.pointer te)) (he:P.underlying te=some (.struct #[f])) (hft:f.type=ts) (hfo:f.offset=0) (hs:P.underlying ts=some .string) (hc:P.cellsOf te=1) (hcs:P.cellsOf ts=1)
 (r:List (String×DataW Unit)) (ls:List (String×List UInt8)) (gs:List Nat) (hg:ls.map (λx=>P.globalNamed x.1)=gs.map some) (ht:∀g,g∈gs->(P.globals[g]?).map (·.type)=some ti)
 (h:laidMet P (ls.map (λx=>(x.1,.iface nm (.ptr (.agg [.lit (.string x.2)]))))++r) W):∃es,SentIn tp gs es W:=by
 obtain⟨ps,hv,ah,aa⟩:=h;obtain⟨es,hlen,ae,ad,af⟩:=K7 hi hrow hp he hft hfo hs hc hcs r ls gs ps hg ht hv aa;refine⟨es,hlen,?_,ad,af⟩;have h1:=List.Nodup.sublist ae ah;rw[List.Nodup,List.pairwise_map] at h1;exact h1.imp λag e=>ag (by rw[e])
theorem Tryz.star: "*" ++ "errors.errorString" = "*errors.errorString" :=by decide
theorem Tryz.zjt(u:TypeId)(h:prog.typeName? 3 u=some "*errors.errorString"):u=294:=
 typeName_ptr_named (nm:= "errors.errorString") (by rw[Tryz.star];kernel_rfl) (by kernel_rfl) (by decide) u (by rw[Tryz.star];exact h)
theorem Tryz.zi0:prog.cellsOf 312=1:=by kernel_rfl
theorem Tryz.ziY:prog.cellsOf 9=1:=by kernel_rfl
def vo:List (String×List UInt8):=[("synod/api.ErrArg",[119,104,97,116,32,109,97,121,32,110,111,116,32,98,101]),("synod/api.ErrForm",[110,111,32,102,114,97,109,101]),("synod/api.ErrSeal",[110,111,116,32,115,105,103,110,101,100,32,98,121,32,105,116,115,32,115,101,110,100,101,114]),("synod/api.ErrPast",[111,102,32,97,32,104,101,105,103,104,116,32,116,104,97,116,32,105,115,32,100,101,99,105,100,101,100]),("synod/api.ErrFar",[111,102,32,97,32,104,101,105,103,104,116,32,111,114,32,114,111,117,110,100,32,116,111,111,32,102,97,114,32,97,119,97,121]),("synod/api.ErrOutsider",[102,114,111,109,32,111,110,101,32,119,104,111,32,104,97,115,32,110,111,32,115,97,121,32,105,110,32,116,104,105,115]),("synod/api.ErrKnown",[107,110,111,119,110,32,97,108,114,101,97,100,121]),("synod/api.ErrMany",[109,111,114,101,32,116,104,97,110,32,111,110,101,32,109,97,121,32,115,97,121]),("synod/api.ErrFull",[109,111,114,101,32,116,104,97,110,32,109,97,121,32,119,97,105,116]),("synod/api.ErrCert",[110,111,32,99,101,114,116,105,102,105,99,97,116,101]),("synod/api.ErrNone",[110,111,116,104,105,110,103,32,116,104,101,114,101]),("synod/api.ErrRecord",[110,111,32,103,111,111,100,32,114,101,99,111,114,100,32,111,114,32,98,108,111,99,107])]
def qt:List Nat:=[1,2,3,0,4,5,6,7,8,9,10,11]
theorem Tryz.zjb:vo.map (λx=>prog.globalNamed x.1)=qt.map some:=by kernel_rfl
theorem Tryz.zja(g:Nat)(h:g∈qt):(prog.globals[g]?).map (·.type)=some 42:=by
 have ha:(qt.all λg=>(prog.globals[g]?).map (·.type)==some 42)=true:=by kernel_rfl
 simpa using List.all_eq_true.1 ha g h
def Sent(es:List Addr)(w:World):Prop:=SentIn 294 qt es w
theorem Sent.later(h:Sent es w)(hb:BW w w'):Sent es w':=SentIn.later h hb
theorem Ji(r:List (String×DataW Unit)){W:World}(h:laidMet prog (vo.map (λx=>(x.1,.iface "*errors.errorString" (.ptr (.agg [.lit (.string x.2)]))))++r) W):∃es,Sent es W:=
 K8 underlying42 Tryz.zjt underlying294 underlying312 rfl rfl underlying9 Tryz.zi0 Tryz.ziY r vo qt Tryz.zjb Tryz.zja h
end
def comma:zj5:=⟨#[44]⟩
theorem Gt(b:zj5)(i:Nat)(h:i<b.size)(hc:b.data.toList[i]? ≠some 44):byt b i≠44:=by
 intro e;apply hc;have hl:i<b.data.toList.length:=by simpa using h
 unfold byt at e;rw[zjK,zjJ hl] at e;rw[zjJ hl];have e2:(b.data.toList[i]).toNat=44:=by simp only[Option.getD_some] at e;omega
 congr 1
 exact UInt8.toNat_inj.1 e2
theorem Xg(b:zj5)(i:Nat)(hc:b.data.toList[i]? =some 44):i<b.size/\byt b i=44:=by
 have hl:=(List.getElem?_eq_some_iff.1 hc).1;refine⟨by simpa using hl,?_⟩;unfold byt;rw[zjK,hc];rfl
theorem vF(b:zj5)(fr i:Nat):∀j,i+j<=b.size->(∀k,i<=k->k<i+j->byt b k≠44)->qb b fr i=qb b fr (i+j)
 |0,_,_=>rfl
 |j+1,h,hn=>by
  rw[vF b fr i j (by omega) (λk h1 h2=>hn k h1 (by omega)),gO b fr (i+j) (by omega) (hn _ (by omega) (by omega))];rfl
theorem Ko(b:zj5)(m fr i:Nat)(h:m+i<=b.size):(b.extract m b.size).extract fr i=b.extract (m+fr) (m+i):=by
 apply ByteArray.ext;apply Array.ext';rw[Lib.extract_data,Lib.extract_data,Lib.extract_data,List.drop_take,List.drop_drop,List.take_take]
 congr 1
 omega
theorem zeE(b:zj5)(m:Nat)(hm:m<=b.size):∀(n fr i:Nat),b.size+1-(m+i)=n->qb (b.extract m b.size) fr i=qb b (m+fr) (m+i):=by
 intro n;induction n using Nat.strongRecOn with
 |_ n ih=>
  intro fr i hn;have hz:=GF b m b.size (zjA _);rcases Nat.lt_trichotomy (m+i) b.size with h|h|h
  .have hb:byt (b.extract m b.size) i=byt b (m+i):=zcc b m b.size i h;by_cases hc:byt b (m+i)=44
   .rw [xw _ fr i (by omega) (by rw[hb];exact hc),xw b _ (m+i) h hc,Ko b m fr i (by omega),ih (b.size+1-(m+(i+1))) (by omega) (i+1) (i+1) rfl];rfl
   rw[gO _ fr i (by omega) (by rw[hb];exact hc),gO b _ (m+i) h hc,ih (b.size+1-(m+(i+1))) (by omega) fr (i+1) rfl];rfl
  .have e:i=(b.extract m b.size).size:=by omega
   rw[h];have h1:=jV (b.extract m b.size) fr;rw[<-e] at h1;rw[h1,jV,kA _ _ (i+1) (by omega),kA b _ (b.size+1) (by omega),Ko b m fr i (by omega),h]
  rw[kA _ _ _ (by omega),kA b _ _ h]
theorem Yd(b:zj5):Lib.indexB b comma=Lib.indexByte b.data.toList 44:=Lib.index_one _ _
theorem x8(b:zj5)(h:Lib.indexB b comma= -1):qb b 0 0=[b]:=by
 rw[Yd] at h;rw[vF b 0 0 b.size (by omega) (λk _ hk=>Gt b k (by omega) (Lib.indexByte_none h k)),zj8,jV,kA _ _ _ (by omega)]
 congr 1
 apply ByteArray.ext;apply Array.ext';rw[Lib.extract_data,List.drop_zero,List.take_of_length_le (by simp)]
theorem vD(b:zj5)(i:Nat)(h:Lib.indexB b comma=i):qb b 0 0=b.extract 0 i::qb (b.extract (i+1) b.size) 0 0:=by
 rw[Yd] at h;obtain⟨h1,h2⟩:=Lib.indexByte_some h;obtain⟨h3,h4⟩:=Xg b i h1;rw[zeE b (i+1) (by omega) _ 0 0 rfl,vF b 0 0 i (by omega) (λk _ hk=>Gt b k (by omega) (h2 k (by omega))),zj8,xw b 0 i h3 h4]
theorem zdz(b:zj5):1<=(qb b 0 0).length:=by
 rcases Lib.indexB_cases b comma with h|⟨i,h,_⟩
 .rw [x8 b h];simp
 rw[vD b i h];simp
theorem Gs(b:zj5):∀(n fr i:Nat),b.size+1-i=n->(qb b fr i).length<=n:=by
 intro n;induction n with
 |zero=>intro fr i hn;rw[kA b fr i (by omega)];simp
 |succ n ih=>
  intro fr i hn;rcases Nat.lt_trichotomy i b.size with h|h|h
  .by_cases hc:byt b i=44
   .rw [xw b fr i h hc];have:=ih (i+1) (i+1) (by omega);simp only[List.length_cons];omega
   rw[gO b fr i h hc];have:=ih fr (i+1) (by omega);omega
  .rw [h,jV,kA _ _ _ (by omega)];simp
  omega
theorem KA:comma.size=1:=rfl
theorem YY:∀(k:Nat) (s:zj5),(qb s 0 0).length<=k+1->Lib.splitB comma 0 k s=qb s 0 0
 |0,s,h=>by
  rcases Lib.indexB_cases s comma with hi|⟨i,hi,_⟩
  .rw [Lib.splitB_miss comma 0 0 s hi,x8 s hi]
  .rw [vD s i hi,List.length_cons] at h;have:=zdz (s.extract (i+1) s.size);omega
 |k+1,s,h=>by
  rcases Lib.indexB_cases s comma with hi|⟨i,hi,_⟩
  .rw [Lib.splitB_miss comma 0 _ s hi,x8 s hi]
  .rw [vD s i hi,List.length_cons] at h;rw[Lib.splitB_hit comma 0 k s i hi,vD s i hi,KA,YY k _ (by omega)];rfl
theorem ZT:∀(k:Nat) (s:zj5),k+1<=(qb s 0 0).length->(Lib.splitB comma 0 k s).length=k+1
 |0,s,_=>rfl
 |k+1,s,h=>by
  rcases Lib.indexB_cases s comma with hi|⟨i,hi,_⟩
  .rw [x8 s hi] at h;simp at h
  .rw [vD s i hi,List.length_cons] at h;rw[Lib.splitB_hit comma 0 k s i hi,KA,List.length_cons,ZT k _ (by omega)]
theorem GE(b:zj5)(h:(qb b 0 0).length<=3):Lib.splitB comma 0 (min 4 (b.size+1)-1) b=qb b 0 0:=by
 apply YY;have:=Gs b (b.size+1) 0 0 rfl;omega
theorem Vs(b:zj5)(h:3<(qb b 0 0).length):(Lib.splitB comma 0 (min 4 (b.size+1)-1) b).length=4:=by
 have h1:=Gs b (b.size+1) 0 0 rfl;have h2:min 4 (b.size+1)-1=3:=by omega
 rw[h2];exact ZT 3 b (by omega)
section
variable{es:List Addr}{w:World}
def zew(i:Nat):Bool:=i==0||i==1||i==2||i==9||i==11
structure gm (es:List Addr) (w:World):Prop where
 len:es.length=qt.length
 nodup:es.Nodup
 cellF:∀(i g:Nat) (a:Addr),qt[i]? =some g->es[i]? =some a->zew i=true->w.cell? (aA g 0)=some (eA a)
 blk:∀a,a∈es->∃c t,w.heap[a.block]? =some (.cells c t (0,0))
theorem gm.cell(h:gm es w)(i g:Nat)(a:Addr)(hg:qt[i]? =some g)(ha:es[i]? =some a)(hi:zew i=true:=by decide):w.cell? (aA g 0)=some (eA a):=h.cellF i g a hg ha hi
theorem gm.of(h:Sent es w):gm es w:=⟨h.len,h.nodup,λi g a hg ha _=>h.cell i g a hg ha,h.blk⟩
theorem gm.later{w':World}(h:gm es w)(hb:BW w w'):gm es w':=by
 refine⟨h.len,h.nodup,λi g a hg ha hi=>?_,λa ha=>?_⟩
 .have hc:=h.cellF i g a hg ha hi;rw[hb.cell (p:=(aA g 0)) (zjI _ _ hc)];exact hc
 obtain⟨c,t,hc⟩:=h.blk a ha;refine⟨c,t,?_⟩;rw[hb.block _ (zg hc)];exact hc
def zdq(i:Nat):Bool:=i==0||i==1||i==2||i==11
structure zaH (es:List Addr) (w:World):Prop where
 len:es.length=qt.length
 nodup:es.Nodup
 cellF:∀(i g:Nat) (a:Addr),qt[i]? =some g->es[i]? =some a->zdq i=true->w.cell? (aA g 0)=some (eA a)
 blk:∀a,a∈es->∃c t,w.heap[a.block]? =some (.cells c t (0,0))
theorem zaH.cell(h:zaH es w)(i g:Nat)(a:Addr)(hg:qt[i]? =some g)(ha:es[i]? =some a)(hi:zdq i=true:=by decide):w.cell? (aA g 0)=some (eA a):=h.cellF i g a hg ha hi
theorem gm.four(h:gm es w):zaH es w:=⟨h.len,h.nodup,λi g a hg ha hi=>h.cellF i g a hg ha (by unfold zdq at hi;unfold zew;simp only[Bool.or_eq_true] at hi ⊢;rcases hi with((h1|h1)|h1)|h1<;>simp[h1]),h.blk⟩

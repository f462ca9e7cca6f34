import Derived.Test.YtcfjhbcpjpgodaaGreatDoorJ2
import Derived.Lib.RabinKarpLaws
import Derived.Stop.LaidErr
import Derived.LaidOnce
namespace Go.Proofs.YtcfjhbcpjpgodaaGreatDoor
open Go.RowKit
set_option maxRecDepth 100000
set_option maxHeartbeats 0
set_option linter.all false
section
open Proofs.Tryz
theorem K3(K H R F V:Int)(nl:Bool)(s:zgW)(w:World)(hs:s.size<=maxLen)(h:K<1\/3<K\/H<0\/12<=H\/R<0\/255<R\/F<0\/8<=F\/24<(s.size:Int)):
 Calls prog 58 #[.agg #[iA K,iA H,iA R,iA F,iA V,bA nl,sA s]] w λe w'=>e=.returned (.tuple #[sA (encS K H R F V nl s),bA (hasB K H R F V nl s.size)])/\BW w w':=by
 unfold maxLen at hs;by_cases c0:K<1
 .clear h;go_enter func58,ntmps58;go_wp2;go_ret2;exact⟨yC (yy (by simp[hasB]<;>omega)).symm (by simp[hasB]<;>omega),bwA _⟩
 by_cases c1:3<K
 .clear h;go_enter func58,ntmps58;go_wp2;go_ret2;exact⟨yC (yy (by simp[hasB]<;>omega)).symm (by simp[hasB]<;>omega),bwA _⟩
 by_cases c2:H<0
 .clear h;go_enter func58,ntmps58;go_wp2;go_ret2;exact⟨yC (yy (by simp[hasB]<;>omega)).symm (by simp[hasB]<;>omega),bwA _⟩
 by_cases c3:12<=H
 .clear h;go_enter func58,ntmps58;go_wp2;go_ret2;exact⟨yC (yy (by simp[hasB]<;>omega)).symm (by simp[hasB]<;>omega),bwA _⟩
 by_cases c4:R<0
 .clear h;go_enter func58,ntmps58;go_wp2;go_ret2;exact⟨yC (yy (by simp[hasB]<;>omega)).symm (by simp[hasB]<;>omega),bwA _⟩
 by_cases c5:255<R
 .clear h;go_enter func58,ntmps58;go_wp2;go_ret2;exact⟨yC (yy (by simp[hasB]<;>omega)).symm (by simp[hasB]<;>omega),bwA _⟩
 by_cases c6:F<0
 .clear h;go_enter func58,ntmps58;go_wp2;go_ret2;exact⟨yC (yy (by simp[hasB]<;>omega)).symm (by simp[hasB]<;>omega),bwA _⟩
 by_cases c7:8<=F
 .clear h;go_enter func58,ntmps58;go_wp2;go_ret2;exact⟨yC (yy (by simp[hasB]<;>omega)).symm (by simp[hasB]<;>omega),bwA _⟩
 have c8:24<(s.size:Int):=by omega
 clear h;go_enter func58,ntmps58;go_wp2;go_ret2;exact⟨yC (yy (by simp[hasB]<;>omega)).symm (by simp[hasB]<;>omega),bwA _⟩
theorem Y7(H R F V:Int)(nl:Bool)(s:zgW)(w:World)(hs:s.size<=24)(h1:0<=H)(h2:H<12)(h3:0<=R)(h4:R<=255)(h5:0<=F)(h6:F<8)(hV:V<=9223372036854775807)(hU: -9223372036854775808<=V):
 Calls prog 58 #[.agg #[iA 1,iA H,iA R,iA F,iA V,bA nl,sA s]] w λe w'=>e=.returned (.tuple #[sA (encS 1 H R F V nl s),bA (hasB 1 H R F V nl s.size)])/\BW w w':=by
 have hf:=zbj V R h3 h4;have hg:=Xh V;by_cases h7: -1<=V
 .by_cases h8:V<R
  .clear hf hV hg hU;have h8':V+1<=R:=by omega
   have ad:0<=V+1:=by omega
   have ab:=zcr w;have aa:=zbF;cases nl
   .have hy:Hid (hasB 1 H R F V false s.size=true):=by unfold Hid;simp[hasB]<;>omega
    go_enter func58,ntmps58;go_wp2;go_ret2;exact⟨yC (qF hy.o).symm hy.o.symm,(bwA _).alloc (by simp) _⟩
   clear ab aa;go_enter func58,ntmps58;go_wp2;go_ret2;exact⟨yC (yy (by simp[hasB]<;>omega)).symm (by simp[hasB]<;>omega),bwA _⟩
  rcases hf (by omega) hV with hw|hw;focus
   clear hf hV hg hU
  rotate_left;focus
   clear hf hV hg hU;have hw':0<=wrap64 (V+1):=by omega
  rotate_left;all_goals
   cases nl;focus
    go_enter func58,ntmps58
   rotate_left;focus
    go_enter func58,ntmps58
   rotate_left;all_goals
    go_wp2;go_ret2;exact⟨yC (yy (by simp[hasB]<;>omega)).symm (by simp[hasB]<;>omega),bwA _⟩
 have hw:=hg (by omega) hU;clear hf hV hg hU;cases nl;focus
  go_enter func58,ntmps58
 rotate_left;focus
  go_enter func58,ntmps58
 rotate_left;all_goals
  go_wp2;go_ret2;exact⟨yC (yy (by simp[hasB]<;>omega)).symm (by simp[hasB]<;>omega),bwA _⟩
structure Parts (t:zgW) (k0 k1 k2 k3 k4 k5:Int) (s:zgW):Prop where
 whole:t=strOfNums [k0,k1,k2,k3,k4,k5]++s
 size:t.size=6+s.size
 at0:∀W:World,(Instr.index 9 (sA t) (iA 0)).run prog W=.ok (.int .u8 k0) W
 at1:∀W:World,(Instr.index 9 (sA t) (iA 1)).run prog W=.ok (.int .u8 k1) W
 at2:∀W:World,(Instr.index 9 (sA t) (iA 2)).run prog W=.ok (.int .u8 k2) W
 at3:∀W:World,(Instr.index 9 (sA t) (iA 3)).run prog W=.ok (.int .u8 k3) W
 at4:∀W:World,(Instr.index 9 (sA t) (iA 4)).run prog W=.ok (.int .u8 k4) W
 at5:∀W:World,(Instr.index 9 (sA t) (iA 5)).run prog W=.ok (.int .u8 k5) W
 rest:∀W:World,(Instr.slice 9 (sA t) (some (iA 6)) none none).run prog W=.ok (sA s) W
 b0:0<=k0/\k0<=255
 b1:0<=k1/\k1<=255
 b2:0<=k2/\k2<=255
 b3:0<=k3/\k3<=255
 b4:0<=k4/\k4<=255
 b5:0<=k5/\k5<=255
theorem vq(t:zgW)(i:Nat)(h:i<t.size)(W:World):(Instr.index 9 (sA t) (iA i)).run prog W=.ok (.int .u8 (t[i].toNat:Int)) W:=by
 rw[run_index_string _ _ _ _ _ underlying9];simp[h]
theorem JZ(t:zgW)(h:6<=t.size):Parts t (t[0].toNat:Int) (t[1].toNat:Int) (t[2].toNat:Int) (t[3].toNat:Int) (t[4].toNat:Int) (t[5].toNat:Int) (t.extract 6 t.size):=by
 have hb:∀x:UInt8,0<=(x.toNat:Int)/\(x.toNat:Int)<=255:=λx=>by have:=x.toNat_lt;omega
 refine⟨?_,?_,vq t 0 (by omega),vq t 1 (by omega),vq t 2 (by omega),vq t 3 (by omega),vq t 4 (by omega),vq t 5 (by omega),?_,hb _,hb _,hb _,hb _,hb _,hb _⟩
 .apply ByteArray.ext;apply Array.toList_inj.1;rw[ByteArray.data_append,Array.toList_append,Lib.extract_data,strOfNums_data];have hl:6<=t.data.toList.length:=by rw[<-Lib.size_eq];exact h
  have e:t.data.toList=t.data.toList.take 6++t.data.toList.drop 6:=(List.take_append_drop _ _).symm;rw[List.take_of_length_le (by simp)]
  conv=>lhs;rw[e]
  congr 1
  apply List.ext_getElem?;intro i;by_cases hi:i<6
  .rw [List.getElem?_take_of_lt hi,byte_at t i (by omega)];match i,hi with
   |0,_|1,_|2,_|3,_|4,_|5,_=>simp
  rw[List.getElem?_eq_none (by simp;omega),List.getElem?_eq_none (by simp;omega)]
 .simp;omega
 intro W;rw[run_slice_string_from_if _ _ _ _ _ underlying9];have h6:(6:Int)<=(t.size:Int):=by omega
 simp[h6]
theorem zaS(t:zgW)(h:6<=t.size):∃k0 k1 k2 k3 k4 k5 s,Parts t k0 k1 k2 k3 k4 k5 s:=⟨_,_,_,_,_,_,_,JZ t h⟩
theorem vX(t:zgW)(i:Nat)(h:i<t.size):byt t i=(t[i].toNat:Int):=by
 unfold byt;have hl:i<t.data.toList.length:=by simpa using h
 rw[zgz,zgy hl];rfl
theorem Qe(t:zgW)(h:6<=t.size):Parts t (byt t 0) (byt t 1) (byt t 2) (byt t 3) (byt t 4) (byt t 5) (t.extract 6 t.size):=by
 rw[vX t 0 (by omega),vX t 1 (by omega),vX t 2 (by omega),vX t 3 (by omega),vX t 4 (by omega),vX t 5 (by omega)];exact JZ t h
theorem ofNat_inj(a b:Int)(ha:0<=a)(ha':a<=255)(hb:0<=b)(hb':b<=255)(h:UInt8.ofNat a.toNat=UInt8.ofNat b.toNat):a=b:=by
 have h':=congrArg UInt8.toNat h;simp only[UInt8.toNat_ofNat'] at h';omega
theorem zbf(k0 k1 k2 k3 k4 k5 M:Int)(s:zgW)(h0:0<=M)(h1:M<=255)(h2:0<=k4)(h3:k4<=255)(h4:0<=k5)(h5:k5<=255)(hs:s.size<=255):
 yt k0 k1 k2 k3 M s=strOfNums [k0,k1,k2,k3,k4,k5]++s↔M=k4/\(s.size:Int)=k5:=by
 constructor
 .intro h;have h':=congrArg (λx:zgW=>x.data.toList) h;simp only[yt,ByteArray.data_append,Array.toList_append,strOfNums_data,List.map_cons,List.map_nil,List.cons_append,List.nil_append,List.cons.injEq,true_and,and_true] at h';exact⟨ofNat_inj _ _ h0 h1 h2 h3 h'.1,ofNat_inj _ _ (by omega) (by omega) h4 h5 h'.2⟩
 rintro⟨rfl,rfl⟩;rfl
def vOf(k0 k4:Int):Int:=if k0=1 then k4-1 else 0
def nlOf(k0 k4:Int):Bool:=if k0=1 then false else decide (k4=1)
def qB(k0 k1 k2 k3 k4 k5:Int)(n:Nat):Bool:=hasB k0 k1 k2 k3 (vOf k0 k4) (nlOf k0 k4) n&&decide (yS k0 (vOf k0 k4) (nlOf k0 k4)=k4)&&decide ((n:Int)=k5)
def QA(k0 k1 k2 k3 k4 k5:Int)(s:zgW):Value:=
 if qB k0 k1 k2 k3 k4 k5 s.size=true then .agg #[iA k0,iA k1,iA k2,iA k3,iA (vOf k0 k4),bA (nlOf k0 k4),sA s]
 else .agg mA
theorem VS{K H R F V:Int}{nl:Bool}{n:Nat}(h:hasB K H R F V nl n=true):0<=yS K V nl/\yS K V nl<=255:=by
 have h':=zgF h;unfold yS;split
 .omega
 split<;>omega
theorem xZ{t:zgW}{k0 k1 k2 k3 k4 k5:Int}{s:zgW}(hp:Parts t k0 k1 k2 k3 k4 k5 s)(h:hasB k0 k1 k2 k3 (vOf k0 k4) (nlOf k0 k4) s.size=true):
 (encS k0 k1 k2 k3 (vOf k0 k4) (nlOf k0 k4) s=t)↔qB k0 k1 k2 k3 k4 k5 s.size=true:=by
 have hb:=VS h;have h24:s.size<=24:=(zgF h).2.2.2.2.2.2.1;rw[qF h,hp.whole,zbf _ _ _ _ _ _ _ _ hb.1 hb.2 hp.b4.1 hp.b4.2 hp.b5.1 hp.b5.2 (by omega)];unfold qB;rw[h];simp
end
section
theorem yw{P:Program}{fn:Func}{p q:Tmp}{ty:TypeId}(h:fn.results=#[.cell p ty,.tmp q])(tmps:Array Value)(w:World)(g:Nat)(t:TypeId)(cs:Array Value)(d:TypeDesc)(v:Value)
 (hp:tmps.getD p undef=pA g 0) (hq:tmps.getD q undef=v) (hg:w.heap[g]? =some (.cells cs t (0,0)))
 (hu:P.underlying ty=some d) (hd:d.isRow=true) (hi:(P.info? ty).map (·.size)=some cs.size):
 (results fn tmps).run P w=.ok (.tuple #[.agg cs,v]) w:=by
 have ab:tmps[p]?.getD undef=pA g 0:=by simpa using hp
 have aa:tmps[q]?.getD undef=v:=by simpa using hq
 simp[results,h,ab,aa,asAddr,run_loadVar_row w g t ty cs (0,0) d hg hu (by cases d<;>simp_all) hi]
theorem kW{P:Program}{fn:Func}{p:Tmp}{ty:TypeId}(h:fn.results=#[.cell p ty])(tmps:Array Value)(w:World)(g:Nat)(t:TypeId)(cs:Array Value)(d:TypeDesc)
 (hp:tmps.getD p undef=pA g 0) (hg:w.heap[g]? =some (.cells cs t (0,0)))
 (hu:P.underlying ty=some d) (hd:d.isRow=true) (hi:(P.info? ty).map (·.size)=some cs.size):
 (results fn tmps).run P w=.ok (.agg cs) w:=by
 have aa:tmps[p]?.getD undef=pA g 0:=by simpa using hp
 simp[results,h,aa,asAddr,run_loadVar_row w g t ty cs (0,0) d hg hu (by cases d<;>simp_all) hi]
section
variable{P:Program}
theorem zf{ops:Array Oper}{rest:List Oper}{op:Oper}{a:Act}{Q:Exit->Act->World->Prop}(hgd:op.guard=none)(ty:TypeId)(p y:Operand)(ho:op.op=.store ty p y)
 (w1:World) (D:Array Value) (hp:a.eval p=pA w1.heap.size 0) (hy:a.eval y=.agg D) (t:TypeId) (C:Array Value) (hC:C.size=D.size) (h1:∀v∈D.toList,v.oneCell'=true) (hi:(P.info? ty).map (·.size)=some D.size)
 (h:∀w',w'.heap[w1.heap.size]? =some (.cells D t (0,0))->BW w1 w'->w'.heap.size=w1.heap.size+1->wpList P ops Q rest (a.put op.dst undef) w'):wpList P ops Q (op::rest) a (w1.alloc (.cells C t)):=
 zi hgd ty p y ho w1.heap.size D hp hy t C (zgr w1 _) hC h1 hi λw' hq ho=>h w' hq ((bwA w1).trans (ho.below (zgp _))) (by rw[ho.size];simp)
end
end
section
open Proofs.Tryz
theorem Tryz.zd9:(prog.info? 190).map (·.size)=some 8:=by kernel_rfl
def kj(b:Nat->Bool):Array Value:=#[bA (b 0),bA (b 1),bA (b 2),bA (b 3),bA (b 4),bA (b 5),bA (b 6),bA (b 7)]
def zak(b:Nat->Bool)(f:Nat):Nat->Bool:=λi=>if i=f then true else b i
theorem QE(b:Nat->Bool)(f:Nat)(h:f<8):(kj b).setIfInBounds f (bA true)=kj (zak b f):=by
 match f,h with
 |0,_|1,_|2,_|3,_|4,_|5,_|6,_|7,_=>simp[kj,zak]
theorem xG(b:Nat->Bool)(f:Nat)(h:f<8):(kj b)[f]? =some (bA (b f)):=by
 match f,h with
 |0,_|1,_|2,_|3,_|4,_|5,_|6,_|7,_=>simp[kj]
theorem zq{w:World}{g:Nat}{C:Array Value}{t:TypeId}(h:w.heap[g]? =some (.cells C t (0,0)))(i:Nat):w.frozen? (aA g i)=false:=by simp[World.frozen?,h]
theorem Jr(b:Nat->Bool)(k:Nat)(h:k<8)(W:World):(Instr.index 190 (.agg (kj b)) (iA k)).run prog W=.ok (bA (b k)) W:=by
 have h2:0<=(k:Int)/\(k:Int)<((8:Nat):Int):=by omega
 have hg:=xG b k h;simp[Instr.index,run_underlying underlying190,asIntOf,go_sem,Tryz.sizeOf4,Tryz.isAgg4,hg,h]
variable{es:List Addr}{w w' W:World}{nm:String}{f:Field}
structure SentIn (tp:TypeId) (gs:List Nat) (es:List Addr) (w:World):Prop where
 len:es.length=gs.length
 nodup:es.Nodup
 cell:∀(i g:Nat) (a:Addr),gs[i]? =some g->es[i]? =some a->w.cell? (aA g 0)=some (.iface tp (.pointer (some a)))
 blk:∀a,a∈es->∃c t,w.heap[a.block]? =some (.cells c t (0,0))
theorem SentIn.later{tp:TypeId}{gs:List Nat}(h:SentIn tp gs es w)(hb:BW w w'):SentIn tp gs es w':=by
 refine⟨h.len,h.nodup,λi g a hg ha=>?_,λa ha=>?_⟩
 .have hc:=h.cell i g a hg ha;rw[hb.cell (p:=(aA g 0)) (zgx _ _ hc)];exact hc
 obtain⟨c,t,hc⟩:=h.blk a ha;refine⟨c,t,?_⟩;have aa:a.block<w.heap.size:=by
  rcases Nat.lt_or_ge a.block w.heap.size with h'|h'
  .exact h'
  simp[Array.getElem?_eq_none h'] at hc
 rw[hb.block _ aa];exact hc
theorem Y3{P:Program}{ti tp te ts:TypeId}{ms:Array (String×TypeId)}
 (hi:P.underlying ti=some (.interface ms)) (hrow:∀u,P.typeName? 3 u=some nm->u=tp)
 (hp:P.underlying tp=some (.pointer te)) (he:P.underlying te=some (.struct #[f])) (hft:f.type=ts) (hfo:f.offset=0) (hs:P.underlying ts=some .string) (hc:P.cellsOf te=1) (hcs:P.cellsOf ts=1)
 (r:List (String×DataW Unit)):
 ∀(ls:List (String×List UInt8)) (gs:List Nat) (ps:List MemPlace),ls.map (λx=>P.globalNamed x.1)=gs.map some->(∀g,g∈gs->(P.globals[g]?).map (·.type)=some ti)->
  DataW.LaidVars P W (ls.map (λx=>(x.1,.iface nm (.ptr (.agg [.lit (.string x.2)]))))++r) ps->
  (∀b off,MemPlace.cell b off∈ps->(∃c t,W.heap[b]? =some (.cells c t (0,0)))/\∀u v,W.cell? (aA b off)=some (.iface u v)->Value.okWide P W .any 0 u v)->
  ∃es:List Addr,es.length=gs.length/\(es.map λa=>MemPlace.cell a.block a.off).Sublist ps/\
   (∀(i g:Nat) (a:Addr),gs[i]? =some g->es[i]? =some a->W.cell? (aA g 0)=some (.iface tp (.pointer (some a))))/\∀a,a∈es->∃c t,W.heap[a.block]? =some (.cells c t (0,0)):=by
 intro ls;induction ls with
 |nil=>
  intro gs ps hg _ _ _;cases gs with
  |nil=>exact⟨[],rfl,by simp,by simp,by simp⟩
  |cons g gs=>simp at hg
 |cons x ls ih=>
  intro gs ps hg ht hv aa;cases gs with
  |nil=>simp at hg
  |cons g gs=>
   simp only[List.map_cons,List.cons.injEq] at hg;obtain⟨al,ak⟩:=hg;obtain⟨g0,t0,cs0,f0,p0,q0,ab,ae,ai,an,hq,e0⟩:=hv;obtain rfl:=zg6 (al.symm.trans ab);have aj:=ht g (by simp);obtain rfl:=zg6 (aj.symm.trans ae);subst e0;obtain⟨l0⟩:=cs0;have ok0:∀u v,l0=[.iface u v]->Value.okWide P W .any 0 u v:=λu v e=>by
    subst e;exact(aa g 0 (by simp[MemPlace.row])).2 u v (by simpa using World.var?_cell ab ai 0)
   obtain⟨a0,s0,rfl,hc0,hs0,hz0,rfl⟩:=errorString_of_trod hi hrow hp he hft hfo hs hc hcs an ok0;obtain⟨es,hlen,af,ad,ah⟩:=ih gs q0 ak (λg hm=>ht g (by simp[hm])) hq (λb off hm=>aa b off (by simp[hm]));refine⟨a0::es,by simp[hlen],?_,?_,?_⟩
   .have e1:MemPlace.row a0 1=[MemPlace.cell a0.block a0.off]:=by simp[MemPlace.row]
    rw[e1];simp only[List.map_cons,List.append_assoc,List.singleton_append];exact(List.Sublist.cons_cons _ af).trans (List.sublist_append_right _ _)
   .intro i g' a ag ha;cases i with
    |zero=>
     simp only[List.getElem?_cons_zero,Option.some.injEq] at ag ha;subst ag;subst ha;simpa using World.var?_cell ab ai 0
    |succ i=>exact ad i g' a (by simpa using ag) (by simpa using ha)
   intro a ha;rcases List.mem_cons.1 ha with rfl|ha
   .exact (aa a.block a.off (by simp[MemPlace.row])).1
   exact ah a ha
theorem Y4{P:Program}{ti tp te ts:TypeId}{ms:Array (String×TypeId)}
 (hi:P.underlying ti=some (.interface ms)) (hrow:∀u,P.typeName? 3 u=some nm->u=tp)
 (hp:P.underlying tp=some (.pointer te)) (he:P.underlying te=some (.struct #[f])) (hft:f.type=ts) (hfo:f.offset=0) (hs:P.underlying ts=some .string) (hc:P.cellsOf te=1) (hcs:P.cellsOf ts=1)
 (r:List (String×DataW Unit)) (ls:List (String×List UInt8)) (gs:List Nat) (hg:ls.map (λx=>P.globalNamed x.1)=gs.map some) (ht:∀g,g∈gs->(P.globals[g]?).map (·.type)=some ti)
 (h:laidMet P (ls.map (λx=>(x.1,.iface nm (.ptr (.agg [.lit (.string x.2)]))))++r) W):∃es,SentIn tp gs es W:=by
 obtain⟨ps,hv,ag,aa⟩:=h;obtain⟨es,hlen,ad,ab,ae⟩:=Y3 hi hrow hp he hft hfo hs hc hcs r ls gs ps hg ht hv aa;refine⟨es,hlen,?_,ab,ae⟩;have h1:=List.Nodup.sublist ad ag;rw[List.Nodup,List.pairwise_map] at h1;exact h1.imp λaf e=>af (by rw[e])
theorem Tryz.star: "*" ++ "errors.errorString" = "*errors.errorString" :=by decide
theorem Tryz.zgl(u:TypeId)(h:prog.typeName? 3 u=some "*errors.errorString"):u=294:=
 typeName_ptr_named (nm:= "errors.errorString") (by rw[Tryz.star];kernel_rfl) (by kernel_rfl) (by decide) u (by rw[Tryz.star];exact h)
theorem Tryz.zf3:prog.cellsOf 312=1:=by kernel_rfl
theorem Tryz.zf1:prog.cellsOf 9=1:=by kernel_rfl
def jD:List (String×List UInt8):=[("synod/api.ErrArg",[119,104,97,116,32,109,97,121,32,110,111,116,32,98,101]),("synod/api.ErrForm",[110,111,32,102,114,97,109,101]),("synod/api.ErrSeal",[110,111,116,32,115,105,103,110,101,100,32,98,121,32,105,116,115,32,115,101,110,100,101,114]),("synod/api.ErrPast",[111,102,32,97,32,104,101,105,103,104,116,32,116,104,97,116,32,105,115,32,100,101,99,105,100,101,100]),("synod/api.ErrFar",[111,102,32,97,32,104,101,105,103,104,116,32,111,114,32,114,111,117,110,100,32,116,111,111,32,102,97,114,32,97,119,97,121]),("synod/api.ErrOutsider",[102,114,111,109,32,111,110,101,32,119,104,111,32,104,97,115,32,110,111,32,115,97,121,32,105,110,32,116,104,105,115]),("synod/api.ErrKnown",[107,110,111,119,110,32,97,108,114,101,97,100,121]),("synod/api.ErrMany",[109,111,114,101,32,116,104,97,110,32,111,110,101,32,109,97,121,32,115,97,121]),("synod/api.ErrFull",[109,111,114,101,32,116,104,97,110,32,109,97,121,32,119,97,105,116]),("synod/api.ErrCert",[110,111,32,99,101,114,116,105,102,105,99,97,116,101]),("synod/api.ErrNone",[110,111,116,104,105,110,103,32,116,104,101,114,101]),("synod/api.ErrRecord",[110,111,32,103,111,111,100,32,114,101,99,111,114,100,32,111,114,32,98,108,111,99,107])]
def kS:List Nat:=[1,2,3,0,4,5,6,7,8,9,10,11]
theorem Tryz.zgc:jD.map (λx=>prog.globalNamed x.1)=kS.map some:=by kernel_rfl
theorem Tryz.zgb(g:Nat)(h:g∈kS):(prog.globals[g]?).map (·.type)=some 42:=by
 have ha:(kS.all λg=>(prog.globals[g]?).map (·.type)==some 42)=true:=by kernel_rfl
 simpa using List.all_eq_true.1 ha g h
def Sent(es:List Addr)(w:World):Prop:=SentIn 294 kS es w
theorem Sent.later(h:Sent es w)(hb:BW w w'):Sent es w':=SentIn.later h hb
theorem KX(r:List (String×DataW Unit)){W:World}(h:laidMet prog (jD.map (λx=>(x.1,.iface "*errors.errorString" (.ptr (.agg [.lit (.string x.2)]))))++r) W):∃es,Sent es W:=
 Y4 underlying42 Tryz.zgl underlying294 underlying312 rfl rfl underlying9 Tryz.zf3 Tryz.zf1 r jD kS Tryz.zgc Tryz.zgb h
end
section
variable{es:List Addr}{w:World}
def zcq(i:Nat):Bool:=i==0||i==1||i==2||i==9||i==11
structure zah (es:List Addr) (w:World):Prop where
 len:es.length=kS.length
 nodup:es.Nodup
 cellF:∀(i g:Nat) (a:Addr),kS[i]? =some g->es[i]? =some a->zcq i=true->w.cell? (aA g 0)=some (eA a)
 blk:∀a,a∈es->∃c t,w.heap[a.block]? =some (.cells c t (0,0))
theorem zah.of(h:Sent es w):zah es w:=⟨h.len,h.nodup,λi g a hg ha _=>h.cell i g a hg ha,h.blk⟩
def zbg(i:Nat):Bool:=i==0||i==1||i==2||i==11
structure Xx (es:List Addr) (w:World):Prop where
 len:es.length=kS.length
 nodup:es.Nodup
 cellF:∀(i g:Nat) (a:Addr),kS[i]? =some g->es[i]? =some a->zbg i=true->w.cell? (aA g 0)=some (eA a)
 blk:∀a,a∈es->∃c t,w.heap[a.block]? =some (.cells c t (0,0))
theorem Xx.cell(h:Xx es w)(i g:Nat)(a:Addr)(hg:kS[i]? =some g)(ha:es[i]? =some a)(hi:zbg i=true:=by decide):w.cell? (aA g 0)=some (eA a):=h.cellF i g a hg ha hi
theorem zah.four(h:zah es w):Xx es w:=⟨h.len,h.nodup,λi g a hg ha hi=>h.cellF i g a hg ha (by unfold zbg at hi;unfold zcq;simp only[Bool.or_eq_true] at hi ⊢;rcases hi with((h1|h1)|h1)|h1<;>simp[h1]),h.blk⟩
end
section
open Proofs.Tryz
theorem XZ(w:World):
 Calls prog 11 #[.slice none 0 0] w λe w'=>e=.returned (.slice none 0 0)/\w'=w:=by
 have hnl:∀W:World,(binOp .eql 22 (.slice none 0 0) (.slice none 0 0)).run prog W=.ok (bA true) W:=λW=>Km _ _ underlying22 _ _ _ W;go_enter func11,ntmps11;go_wp2;go_ret;exact⟨rfl,rfl⟩
theorem X0(g:Nat->Int)(b o n cap:Nat)(w:World)(hn:n<=1099511627776)(hl:kG w w.heap.size (some (aA b o)) n (λi=>iA (g i))):
 Calls prog 11 #[.slice (some (aA b o)) n cap] w λe w'=>(∃gb c,e=.returned (.slice (some (aA gb 0)) n c)/\w'.ownsRow w.heap.size 3 1 (.slice (some (aA gb 0)) (n+8) c) (n+8) (VA (λi=>iA (g i)) n (iA (-77))))/\BW w w':=by
 obtain⟨i3,hi,ai,ah,ag⟩:=info_parts Tryz.zeh;have HN:Hid (∀j u,((List.range n).map λi=>Value.int .i64 (g i))[j]? =some u->w.cell? (((aA b o):Addr).add j)=some u):=λj u hj=>by
  by_cases h:j<n
  .obtain ⟨b',o',e,_,hc⟩:=hl j h
   cases e;simp[h] at hj;subst hj;rw[addr_add];exact hc
  rw[List.getElem?_eq_none (by simp;omega)] at hj;cases hj
 have HO:Hid (∀u∈(List.range n).map λi=>Value.int .i64 (g i),u.oneCell'=true):=λu hu=>by
  simp only[List.mem_map] at hu;obtain⟨i,_,rfl⟩:=hu;rfl
 clear hl;have aj:∀W:World,(binOp .eql 22 (.slice (some (aA b o)) n cap) (.slice none 0 0)).run prog W=.ok (bA false) W:=λW=>Km _ _ underlying22 _ _ _ W;go_enter func11,ntmps11;go_wp2_with (first
  |(at_builtin;refine wpList_append_own _ rfl (.const (.slice none 0 0)) (.tmp 5) 22 rfl w.heap.size 3 i3 (iA 0) 1 8 underlying22 hi ai ah ag rfl (by decide) _ 0 [] rfl (zgQ _ _ _ _) (aA b o) n cap ((List.range n).map λi=>iA (g i)) rfl (by simp) HN.o HO.o (by unfold maxLen;omega) (by omega) (zgp _) ?_;intro v1 w1 ad aa af)
  |(at_builtin;refine wpList_append_own _ rfl (.tmp 6) (.tmp 7) 22 rfl w.heap.size 3 i3 (iA 0) 1 8 underlying22 hi ai ah ag rfl (by decide) v1 (0+n) _ rfl (ad.alloc _) (nA w1 0) 8 8 (zg1 8 (iA (-77))) rfl rfl ?c1 ?c2 (by unfold maxLen;omega) (by omega) (by have:=aa.size;simp;omega) ?_)
  |go_in)
 case c1=>
  intro j u hj;match j,hj with
  |0,hj|1,hj|2,hj|3,hj|4,hj|5,hj|6,hj|7,hj=>simp at hj;subst hj;rw[addr_add,zgs _ _ _ _ _ _ (zgr w1 _)];rfl
  |j+8,hj=>simp at hj
 case c2=>
  intro u hu;have:=List.eq_of_mem_replicate hu;subst this;rfl
 intro v2 w2 ab ae _;have HB:Hid (BW w w2):=(((zgq _ w).grown aa (zgp _) (λk hk=>by cases hk)).alloc aa.size _).grown ae (by have:=aa.size;simp;omega) (λk hk=>(ad.lt k hk).1);have ak:Hid (w2.ownsRow w.heap.size 3 1 v2 (n+8) (VA (λi=>iA (g i)) n (iA (-77)))):=ab;rcases ab.2 with⟨_,h0⟩|⟨gb,c,cur,rfl,_,_,hnc,hcm,_,_⟩
 .omega
 have hc1:(n:Int)<=c:=by omega
 have hc2:n<=c:=by omega
 clear ad aa ae ab af aj;go_wp2;go_ret;exact⟨⟨gb,c,rfl,ak⟩,HB⟩
end
section
section
variable{P:Program}
theorem jt{ops:Array Oper}{rest:List Oper}{op:Oper}{a:Act}{w:World}{Q:Exit->Act->World->Prop}(hgd:op.guard=none)(t:TypeId)(x:Operand)(lo hi mx:Option Operand)(ho:op.op=.slice t x lo hi mx)(vx v:Value)(vl vh vm:Option Value)
 (hx:a.eval x=vx) (hl:lo.map a.eval=vl) (hh:hi.map a.eval=vh) (hm:mx.map a.eval=vm) (hr:(Instr.sliceAt t vx vl vh vm).run P w=.ok v w) (h:wpList P ops Q rest (a.put op.dst v) w):wpList P ops Q (op::rest) a w:=
 wpList_plain hgd λ_ hK=>by
  unfold Oper.wp execOp;simp only[ho,hx,hl,hh,hm,hr,Sem.run_bind,Sem.run_pure,Result.andThen_ok];exact hK _ _ h
end
theorem zaf(p:Option Addr):p.map (λa=>a.add 0)=p:=by cases p<;>simp[Addr.add]

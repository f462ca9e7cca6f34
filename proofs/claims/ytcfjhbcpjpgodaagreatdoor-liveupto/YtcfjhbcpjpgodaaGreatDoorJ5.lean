import Derived.Test.YtcfjhbcpjpgodaaGreatDoorBase
import Derived.Lib.RabinKarpLaws
import Derived.BigQuiet
namespace Go.Proofs.YtcfjhbcpjpgodaaGreatDoor
open Go.RowKit
def hasB(K H R F V:Int)(nl:Bool)(n:Nat):Bool:=
 decide (0<=H/\H<12/\0<=R/\R<=255/\0<=F/\F<8/\n<=24/\((K=1/\nl=false/\-1<=V/\V<R)\/((K=2\/K=3)/\V=0/\(nl=false\/n=0))))
theorem JL(s:zj5):s.toList.isEmpty=decide (s.size=0):=by
 rw[ByteArray.toList_eq,Bool.eq_iff_iff,List.isEmpty_iff,decide_eq_true_eq,<-List.length_eq_zero_iff];simp
theorem Gb(K H R F:Int)(n:Nat)(h1:0<=H)(h2:H<12)(h3:0<=R)(h4:R<=255)(h5:0<=F)(h6:F<8)(_h7:n<=24)(hk:K=2\/K=3):decide (n=0)=hasB K H R F 0 true n:=by
 unfold hasB;rw[decide_eq_decide];simp;omega
theorem yt{a b:Bool}(h:a=b):Ending.returned (bA a)=.returned (bA b):=by rw[h]
def jh(K V:Int)(nl:Bool):Int:=if K=1 then V+1 else if nl then 1 else 0
theorem VC{k:IntKind}{a b:Int}(h:a=b):Ending.returned (.int k a)=.returned (.int k b):=by rw[h]
section
variable{K H R F V:Int}{nl:Bool}{s:zj5}
def yM(K H R F M:Int)(s:zj5):zj5:=strOfNums [K,H,R,F,M,s.size]++s
theorem zfl(x0 x1 x2 x3 x4 x5:Int):(strOfNums [x0,x1,x2,x3,x4,x5]).size=6:=strOfNums_size _
def Gm(K H R F V:Int)(nl:Bool)(s:zj5):zj5:=if hasB K H R F V nl s.size=true then yM K H R F (jh K V nl) s else⟨#[]⟩
theorem ZI(h:hasB K H R F V nl s.size=true):Gm K H R F V nl s=yM K H R F (jh K V nl) s:=by unfold Gm;rw[zj2 h]
theorem zbZ(h:hasB K H R F V nl s.size=false):Gm K H R F V nl s=⟨#[]⟩:=by unfold Gm;rw[zj3 (by simp[h])]
end
section
open Proofs.Tryz
structure zcn (t:zj5) (k0 k1 k2 k3 k4 k5:Int) (s:zj5):Prop where
 whole:t=strOfNums [k0,k1,k2,k3,k4,k5]++s
 size:t.size=6+s.size
 at0:∀W:World,(Instr.index 9 (sA t) (iA 0)).run prog W=.ok (.int .u8 k0) W
 at1:∀W:World,(Instr.index 9 (sA t) (iA 1)).run prog W=.ok (.int .u8 k1) W
 at2:∀W:World,(Instr.index 9 (sA t) (iA 2)).run prog W=.ok (.int .u8 k2) W
 at3:∀W:World,(Instr.index 9 (sA t) (iA 3)).run prog W=.ok (.int .u8 k3) W
 at4:∀W:World,(Instr.index 9 (sA t) (iA 4)).run prog W=.ok (.int .u8 k4) W
 at5:∀W:World,(Instr.index 9 (sA t) (iA 5)).run prog W=.ok (.int .u8 k5) W
 rest:∀W:World,(Instr.slice 9 (sA t) (some (iA 6)) none none).run prog W=.ok (sA s) W
 b0:0<=k0/\k0<=255
 b1:0<=k1/\k1<=255
 b2:0<=k2/\k2<=255
 b3:0<=k3/\k3<=255
 b4:0<=k4/\k4<=255
 b5:0<=k5/\k5<=255
theorem vV(t:zj5)(i:Nat)(h:i<t.size)(W:World):(Instr.index 9 (sA t) (iA i)).run prog W=.ok (.int .u8 (t[i].toNat:Int)) W:=by
 rw[run_index_string _ _ _ _ _ underlying9];simp[h]
theorem zcU(t:zj5)(h:6<=t.size):zcn t (t[0].toNat:Int) (t[1].toNat:Int) (t[2].toNat:Int) (t[3].toNat:Int) (t[4].toNat:Int) (t[5].toNat:Int) (t.extract 6 t.size):=by
 have hb:∀x:UInt8,0<=(x.toNat:Int)/\(x.toNat:Int)<=255:=λx=>by have:=x.toNat_lt;omega
 refine⟨?_,?_,vV t 0 (by omega),vV t 1 (by omega),vV t 2 (by omega),vV t 3 (by omega),vV t 4 (by omega),vV t 5 (by omega),?_,hb _,hb _,hb _,hb _,hb _,hb _⟩
 .apply ByteArray.ext;apply Array.toList_inj.1;rw[ByteArray.data_append,Array.toList_append,Lib.extract_data,strOfNums_data];have hl:6<=t.data.toList.length:=by rw[<-Lib.size_eq];exact h
  have e:t.data.toList=t.data.toList.take 6++t.data.toList.drop 6:=(List.take_append_drop _ _).symm;rw[List.take_of_length_le (by simp)]
  conv=>lhs;rw[e]
  congr 1
  apply List.ext_getElem?;intro i;by_cases hi:i<6
  .rw [List.getElem?_take_of_lt hi,byte_at t i (by omega)];match i,hi with
   |0,_|1,_|2,_|3,_|4,_|5,_=>simp
  rw[List.getElem?_eq_none (by simp;omega),List.getElem?_eq_none (by simp;omega)]
 .simp;omega
 intro W;rw[run_slice_string_from_if _ _ _ _ _ underlying9];have h6:(6:Int)<=(t.size:Int):=by omega
 simp[h6]
theorem gR(t:zj5)(i:Nat)(h:i<t.size):byt t i=(t[i].toNat:Int):=by
 unfold byt;have hl:i<t.data.toList.length:=by simpa using h
 rw[zjK,zjJ hl];rfl
theorem zbl(t:zj5)(h:6<=t.size):zcn t (byt t 0) (byt t 1) (byt t 2) (byt t 3) (byt t 4) (byt t 5) (t.extract 6 t.size):=by
 rw[gR t 0 (by omega),gR t 1 (by omega),gR t 2 (by omega),gR t 3 (by omega),gR t 4 (by omega),gR t 5 (by omega)];exact zcU t h
def vOf(k0 k4:Int):Int:=if k0=1 then k4-1 else 0
def nlOf(k0 k4:Int):Bool:=if k0=1 then false else decide (k4=1)
def Zh(k0 k1 k2 k3 k4 k5:Int)(n:Nat):Bool:=hasB k0 k1 k2 k3 (vOf k0 k4) (nlOf k0 k4) n&&decide (jh k0 (vOf k0 k4) (nlOf k0 k4)=k4)&&decide ((n:Int)=k5)
def zeC(k0 k1 k2 k3 k4 k5:Int)(s:zj5):Value:=
 if Zh k0 k1 k2 k3 k4 k5 s.size=true then .agg #[iA k0,iA k1,iA k2,iA k3,iA (vOf k0 k4),bA (nlOf k0 k4),sA s]
 else .agg mA
end
theorem zeD{k0 k1 k2 k3 k4 k5:Int}{n:Nat}(h:hasB k0 k1 k2 k3 (vOf k0 k4) (nlOf k0 k4) n=false):Zh k0 k1 k2 k3 k4 k5 n=false:=by
 unfold Zh;rw[h];rfl
structure kE where
 k:Int
 h:Int
 r:Int
 f:Int
 v:Int
 nl:Bool
 s:zj5
def kE.cells(m:kE):Array Value:=#[iA m.k,iA m.h,iA m.r,iA m.f,iA m.v,bA m.nl,sA m.s]
def XZ:kE:=⟨0,0,0,0,0,false,⟨#[]⟩⟩
def zM(t:zj5):Bool:=decide (6<=t.size)&&Zh (byt t 0) (byt t 1) (byt t 2) (byt t 3) (byt t 4) (byt t 5) (t.extract 6 t.size).size
def decV(t:zj5):kE:=if zM t then⟨byt t 0,byt t 1,byt t 2,byt t 3,vOf (byt t 0) (byt t 4),nlOf (byt t 0) (byt t 4),t.extract 6 t.size⟩ else XZ
theorem qQ{t:zj5}(h:zM t=true):0<=(decV t).h/\(decV t).h<12/\0<=(decV t).r/\(decV t).r<=255/\0<=(decV t).f/\(decV t).f<8/\(decV t).s.size<=24/\1<=(decV t).k/\(decV t).k<=3:=by
 have h2:=h;unfold zM Zh at h2;simp only[Bool.and_eq_true] at h2;have h3:=zjP h2.2.1.1;unfold decV;rw[zj2 h];simp only
 omega
section
theorem yu{P:Program}{fn:Func}{p q:Tmp}{ty:TypeId}(h:fn.results=#[.cell p ty,.tmp q])(tmps:Array Value)(w:World)(g:Nat)(t:TypeId)(cs:Array Value)(d:TypeDesc)(v:Value)
 (hp:tmps.getD p undef=pA g 0) (hq:tmps.getD q undef=v) (hg:w.heap[g]? =some (.cells cs t (0,0)))
 (hu:P.underlying ty=some d) (hd:d.isRow=true) (hi:(P.info? ty).map (·.size)=some cs.size):
 (results fn tmps).run P w=.ok (.tuple #[.agg cs,v]) w:=by
 have ad:tmps[p]?.getD undef=pA g 0:=by simpa using hp
 have aa:tmps[q]?.getD undef=v:=by simpa using hq
 simp[results,h,ad,aa,asAddr,run_loadVar_row w g t ty cs (0,0) d hg hu (by cases d<;>simp_all) hi]
theorem kx{P:Program}{fn:Func}{p:Tmp}{ty:TypeId}(h:fn.results=#[.cell p ty])(tmps:Array Value)(w:World)(g:Nat)(t:TypeId)(cs:Array Value)(d:TypeDesc)
 (hp:tmps.getD p undef=pA g 0) (hg:w.heap[g]? =some (.cells cs t (0,0)))
 (hu:P.underlying ty=some d) (hd:d.isRow=true) (hi:(P.info? ty).map (·.size)=some cs.size):
 (results fn tmps).run P w=.ok (.agg cs) w:=by
 have aa:tmps[p]?.getD undef=pA g 0:=by simpa using hp
 simp[results,h,aa,asAddr,run_loadVar_row w g t ty cs (0,0) d hg hu (by cases d<;>simp_all) hi]
section
variable{P:Program}
theorem zh{ops:Array Oper}{rest:List Oper}{op:Oper}{a:Act}{Q:Exit->Act->World->Prop}(hgd:op.guard=none)(ty:TypeId)(p y:Operand)(ho:op.op=.store ty p y)
 (w1:World) (D:Array Value) (hp:a.eval p=pA w1.heap.size 0) (hy:a.eval y=.agg D) (t:TypeId) (C:Array Value) (hC:C.size=D.size) (h1:∀v∈D.toList,v.oneCell'=true) (hi:(P.info? ty).map (·.size)=some D.size)
 (h:∀w',w'.heap[w1.heap.size]? =some (.cells D t (0,0))->BW w1 w'->w'.heap.size=w1.heap.size+1->wpList P ops Q rest (a.put op.dst undef) w'):wpList P ops Q (op::rest) a (w1.alloc (.cells C t)):=
 zd hgd ty p y ho w1.heap.size D hp hy t C (zjC w1 _) hC h1 hi λw' hq ho=>h w' hq ((bwA w1).trans (ho.below (zjA _))) (by rw[ho.size];simp)
end
end
section
structure Ext (w:World) where
 W:World
 b:BW w W
theorem Ext.ne(w:World):Nonempty (Ext w):=⟨⟨w,zjB _ w⟩⟩
def Ext.of{w W:World}(h:BW w W):Ext w:=⟨W,h⟩
theorem Ext.cell{w:World}{p:Addr}{v:Value}(h:w.cell? p=some v)(u:Ext w):u.W.cell? p=some v:=(u.b.cell (zjI _ _ h)).trans h
theorem Ext.range{w:World}{b o:Nat}{l:List Value}(h:w.rangeAt b o l)(u:Ext w):u.W.rangeAt b o l:=λj v hv=>Ext.cell (h j v hv) u
section
variable{P:Program}
theorem Calls.ext{f:FuncId}{args:Array Value}{w:World}(u:Ext w){v:Value}(h:Calls P f args u.W λe w'=>e=.returned v/\Below u.W.heap.size u.W w'):Calls P f args u.W λe w''=>e=.returned v/\∃u':Ext w,w''=u'.W:=
 h.mono λ_ w' ⟨he,hb⟩=>⟨he,⟨w',u.b.trans (hb.mono u.b.size)⟩,rfl⟩
theorem Calls.zhq{f:FuncId}{args:Array Value}{w:World}(u:Ext w){v:Value}(h:Calls P f args u.W λe w'=>e=.returned v/\w'=u.W):Calls P f args u.W λe w''=>e=.returned v/\∃u':Ext w,w''=u'.W:=
 h.mono λ_ _ ⟨he,hb⟩=>⟨he,u,hb⟩
theorem zP{id:Nat}{Q:Exit->Act->World->Prop}{a:Act}{w:World}{l:List Oper}(hm:P.follows .mixedOrders=true)(hB:Region.lexB .any l.toArray=true)
 (h:wpQuiet P l.toArray (λw'=>∃u:Ext w,w'=u.W) (λa'=>∀w',(∃u:Ext w,w'=u.W)->Q .normal a' w') l a):(Code.region id l.toArray true).wp P Q a w:=
 wp_region_quiet (C:=λw'=>∃u:Ext w,w'=u.W) hm hB ⟨⟨w.drew,(zjB _ w).drew⟩,rfl⟩ (by simpa using h)
theorem zW{o:Oper}{a:Act}{w:World}{K:Act->Prop}(d:Option Tmp)(hd:o.dst=d)(ty:TypeId)(x:Operand)(ho:o.op=.load ty x)(b off:Nat)(hx:a.eval x=pA b off)(cs:List Value)(t:TypeDesc)(hS:∀u:Ext w,u.W.rangeAt b off cs)
 (hu:P.underlying ty=some t) (ht:t.isRow=true) (hi:(P.info? ty).map (·.size)=some cs.length) (hk:K (a.put d (.agg cs.toArray))):o.quiet P a (λw'=>∃u:Ext w,w'=u.W) K:=by
 subst hd;refine⟨_,λW hW=>?_,hk⟩;obtain⟨u,rfl⟩:=hW;unfold Oper.quietAt execOp;simp only[ho,hx,Instr.loadAt,Instr.sureAddr,Sem.run_bind,Sem.run_pure,Result.andThen_ok,run_loadVar_mid u.W b off ty cs t (hS u) hu ht hi];exact⟨rfl,rfl⟩

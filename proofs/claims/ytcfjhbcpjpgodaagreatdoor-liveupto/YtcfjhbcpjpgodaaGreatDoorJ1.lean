import Derived.Test.YtcfjhbcpjpgodaaGreatDoorBase
namespace Go.Proofs.YtcfjhbcpjpgodaaGreatDoor
open Go.RowKit
section
variable{w:World}{g:Nat}{x:Nat->Int}
def yU(x:Nat->Int):List Value:=(List.range 34).map λi=>iA (x i)
def regA(x:Nat->Int):Array Value:=(yU x).toArray
theorem zj(x:Nat->Int):(regA x).size=34:=by simp[regA,yU]
theorem Qc(x:Nat->Int)(i:Nat)(h:i<34):(regA x)[i]? =some (iA (x i)):=by
 simp[regA,yU,h]
def upd(x:Nat->Int)(k:Nat)(v:Int):Nat->Int:=λi=>if i=k then v else x i
theorem zcu(x:Nat->Int)(k:Nat)(v:Int):upd x k v k=v:=by simp[upd]
theorem vk(x:Nat->Int)(k i:Nat)(v:Int)(h:i≠k):upd x k v i=x i:=by simp[upd,h]
theorem zcO(x:Nat->Int)(k:Nat)(v:Int)(h:k<34):(regA x).setIfInBounds k (iA v)=regA (upd x k v):=by
 apply Array.ext_getElem?;intro i;by_cases hi:i<34
 .rw [Qc _ i hi,Array.getElem?_setIfInBounds];by_cases e:k=i
  .subst e;rw[zj2 rfl,zj2 (by rw[zj];exact h),zcu]
  rw[zj3 e,Qc _ i hi,vk _ _ _ _ (λh=>e h.symm)]
 rw[Array.getElem?_eq_none (by simp[zj];omega),Array.getElem?_eq_none (by rw[zj];omega)]
def RegAt(w:World)(g:Nat)(t:TypeId)(x:Nat->Int):Prop:=w.heap[g]? =some (.cells (regA x) t (0,0))
theorem RegAt.lt{t:TypeId}(h:RegAt w g t x):g<w.heap.size:=by
 rcases Nat.lt_or_ge g w.heap.size with h'|h'
 .exact h'
 unfold RegAt at h;simp[Array.getElem?_eq_none h'] at h
theorem RegAt.alloc(w:World)(t:TypeId)(x:Nat->Int):RegAt (w.alloc (.cells (regA x) t)) w.heap.size t x:=zjC w _
theorem RegAt.later{w':World}{B:Nat}{t:TypeId}(h:RegAt w g t x)(hb:Below B w w')(hg:g<B):RegAt w' g t x:=by
 unfold RegAt at h ⊢;rw[hb.block g hg];exact h
theorem RegAt.cell{t:TypeId}(h:RegAt w g t x)(i:Nat)(hi:i<34):w.cell? (aA g i)=some (iA (x i)):=by
 rw[zjD w g i _ t _ h,Qc x i hi]
theorem RegAt.frozen{t:TypeId}(h:RegAt w g t x)(i:Nat):w.frozen? (aA g i)=false:=by
 unfold RegAt at h;simp[World.frozen?,h]
theorem RegAt.set{t:TypeId}(h:RegAt w g t x)(k:Nat)(v:Int)(hk:k<34):RegAt (w.setCell (aA g k) (iA v)) g t (upd x k v):=by
 unfold RegAt at h ⊢;rw[<-zcO x k v hk];simp[World.setCell,Array.getElem?_modify,h]
def sumTo(x:Nat->Int):Nat->Int
 |0=>0
 |n+1=>sumTo x n+x n
theorem kJ(x:Nat->Int)(n:Nat)(h:∀i,i<n->0<=x i/\x i<=9):0<=sumTo x n/\sumTo x n<=9*n:=by
 induction n with
 |zero=>simp[sumTo]
 |succ n ih=>
  have h1:=ih λi hi=>h i (by omega);have h2:=h n (by omega);simp only[sumTo];omega
end
def qY(n:Nat)(c0 c1 c2:Int):Bool:=
 decide ((n=2/\c0=108/\97<=c1/\c1<=122)\/(n=3/\(c0=106\/c0=114)/\97<=c1/\c1<=122/\49<=c2/\c2<=57)\/(n=3/\c0=118/\48<=c1/\c1<=55/\48<=c2/\c2<=57))
def yN(t:zj5):Bool:=qY t.size (byt t 0) (byt t 1) (byt t 2)
def Xb(b:zj5):Nat->Nat->Nat->List zj5
 |0,_,_=>[]
 |n+1,fr,i=>if i<b.size then(if byt b i=44 then b.extract fr i::Xb b n (i+1) (i+1) else Xb b n fr (i+1)) else if i=b.size then [b.extract fr i] else []
def qb(b:zj5)(fr i:Nat):List zj5:=Xb b (b.size+1-i) fr i
theorem gO(b:zj5)(fr i:Nat)(h:i<b.size)(h2:byt b i≠44):qb b fr i=qb b fr (i+1):=by
 unfold qb;rw[show b.size+1-i=(b.size+1-(i+1))+1 by omega,Xb,zj2 h,zj3 h2]
theorem xw(b:zj5)(fr i:Nat)(h:i<b.size)(h2:byt b i=44):qb b fr i=b.extract fr i::qb b (i+1) (i+1):=by
 unfold qb;rw[show b.size+1-i=(b.size+1-(i+1))+1 by omega,Xb,zj2 h,zj2 h2]
theorem kA(b:zj5)(fr i:Nat)(h:b.size<i):qb b fr i=[]:=by
 unfold qb;rw[show b.size+1-i=0 by omega,Xb]
theorem jV(b:zj5)(fr:Nat):qb b fr b.size=b.extract fr b.size::qb b (b.size+1) (b.size+1):=by
 rw[kA b _ (b.size+1) (by omega)];unfold qb;rw[show b.size+1-b.size=0+1 by omega,Xb,zj3 (by omega),zj2 rfl]
theorem zcc(b:zj5)(fr i j:Nat)(h:fr+j<i):byt (b.extract fr i) j=byt b (fr+j):=by
 unfold byt;rw[Lib.extract_data];rw[zjK,zjK,zkc,zj2 (by omega),List.getElem?_drop]
theorem GF(b:zj5)(fr i:Nat)(h:i<=b.size):(b.extract fr i).size=i-fr:=by
 simp[ByteArray.size_extract];omega
def votes:List zj5->Nat
 | []=>0
 |t::l=>votes l+if byt t 0=118 then 1 else 0
theorem jb(a:List zj5)(t:zj5):votes (a++[t])=votes a+if byt t 0=118 then 1 else 0:=by
 induction a with
 |nil=>simp[votes]
 |cons x l ih=>simp only[List.cons_append,votes,ih];omega
theorem Xs(a:List zj5):votes a<=a.length:=by
 induction a with
 |nil=>simp[votes]
 |cons x l ih=>simp only[votes,List.length_cons];split<;>omega
def qs(b:zj5):List zj5×Bool:=
 if b.size=0 then([],true) else if(qb b 0 0).all yN then(qb b 0 0,decide ((qb b 0 0).length<=3)&&decide (votes (qb b 0 0)<2)) else([],false)
theorem Vp(b:zj5)(done:List zj5)(hb:b.size≠0)(h:qb b 0 0=done)(hf:done.all yN=true):qs b=(done,decide (done.length<=3)&&decide (votes done<2)):=by
 unfold qs;rw[zj3 hb,h,zj2 hf]
theorem JA{b:zj5}(h:¬b.size=0):(b.toList==[])=false:=by
 apply Bool.eq_false_iff.2;intro e;have e1:b.toList=[]:=by simpa using e
 have e2:b.toList.length=b.size:=by rw[ByteArray.toList_eq];simp
 rw[e1] at e2;exact h e2.symm
section
open Proofs.Tryz
theorem RegAt.only{w w':World}{g g':Nat}{t:TypeId}{x:Nat->Int}(h:RegAt w g t x)(ho:kq g' w w')(hg:g≠g'):RegAt w' g t x:=by
 unfold RegAt at h ⊢;rw[ho.block g hg];exact h
theorem RegAt.drew{w:World}{g:Nat}{t:TypeId}{x:Nat->Int}(h:RegAt w g t x):RegAt w.drew g t x:=h
theorem RegAt.below{w w':World}{g:Nat}{t:TypeId}{x:Nat->Int}(h:RegAt w g t x)(hb:BW w w'):RegAt w' g t x:=h.later hb h.lt
theorem XK(x:Nat->Int):∀v∈(regA x).toList,v.oneCell'=true:=by
 intro v hv;simp only[regA,yU,List.toList_toArray,List.mem_map] at hv;obtain⟨i,_,rfl⟩:=hv;rfl
section
variable{P:Program}
theorem run_storeVar_row(w:World)(g:Nat)(t ty:TypeId)(C:Array Value)(x:Nat->Int)(hg:w.heap[g]? =some (.cells C t (0,0)))(hC:C.size=34)(hi:(P.info? ty).map (·.size)=some 34):
 (storeVar ty (aA g 0) (.agg (regA x))).run P w=.ok () (w.setRow g (regA x)):=by
 have h:=run_storeCells_at P g 0 t (regA x).toList 0 C w hg (by simp[zj,hC]) (XK x);have e:(C.toList.take (0+0)++(regA x).toList++C.toList.drop (0+0+(regA x).toList.length)).toArray=regA x:=by
  rw[Nat.add_zero,List.take_zero,List.nil_append,List.drop_of_length_le (by simp[zj,hC]),List.append_nil,Array.toArray_toList]
 rw[e] at h;cases hq:P.info? ty with
 |none=>simp[hq] at hi
 |some i=>
  have hs:i.size=34:=by simpa [hq] using hi
  simp[storeVar,sizeOf,typeInfo,hq,Value.cells,hs,zj,h]
theorem zX{op:Oper}{a:Act}{w:World}{K:Act->World->Prop}{Q:Exit->Act->World->Prop}(ty:TypeId)(p y:Operand)(ho:op.op=.store ty p y)
 (g:Nat) (x:Nat->Int) (hp:a.eval p=pA g 0) (hy:a.eval y=.agg (regA x)) (t:TypeId) (C:Array Value) (hg:w.heap[g]? =some (.cells C t (0,0))) (hC:C.size=34) (hi:(P.info? ty).map (·.size)=some 34)
 (h:∀w',RegAt w' g t x->kq g w w'->K (a.put op.dst undef) w'):op.wp P a w K Q:=by
 unfold Oper.wp execOp;simp only[ho,hp,hy,Instr.storeAt,Instr.sureAddr,Sem.run_bind,Sem.run_pure,Result.andThen_ok,run_storeVar_row w g t ty C x hg hC hi];exact h _ (setRow_heap _ _ C _ t (0,0) hg) (y9 _ _ _)
theorem zp{ops:Array Oper}{rest:List Oper}{op:Oper}{a:Act}{w:World}{Q:Exit->Act->World->Prop}(hgd:op.guard=none)(ty:TypeId)(p y:Operand)(ho:op.op=.store ty p y)
 (g:Nat) (x:Nat->Int) (hp:a.eval p=pA g 0) (hy:a.eval y=.agg (regA x)) (t:TypeId) (C:Array Value) (hg:w.heap[g]? =some (.cells C t (0,0))) (hC:C.size=34) (hi:(P.info? ty).map (·.size)=some 34)
 (h:∀w',RegAt w' g t x->kq g w w'->wpList P ops Q rest (a.put op.dst undef) w'):wpList P ops Q (op::rest) a w:=
 wpList_plain hgd λ_ hK=>zX ty p y ho g x hp hy t C hg hC hi λw' h1 h2=>hK _ _ (h w' h1 h2)
theorem zr{ops:Array Oper}{rest:List Oper}{op:Oper}{a:Act}{w:World}{Q:Exit->Act->World->Prop}(hgd:op.guard=none)(ty:TypeId)(p:Operand)(ho:op.op=.load ty p)
 (g:Nat) (hp:a.eval p=pA g 0) (t:TypeId) (x:Nat->Int) (d:TypeDesc) (hg:RegAt w g t x) (hu:P.underlying ty=some d) (hd:d.isRow=true) (hi:(P.info? ty).map (·.size)=some 34)
 (h:wpList P ops Q rest (a.put op.dst (.agg (regA x))) w):wpList P ops Q (op::rest) a w:=
 zkb hgd ty p ho g hp t (regA x) (0,0) d hg hu (by cases d<;>simp_all) (by rw[zj];exact hi) h
theorem RegAt.range{w:World}{g:Nat}{t:TypeId}{x:Nat->Int}(h:RegAt w g t x):w.rangeAt g 0 (yU x):=λj v hv=>by
 have hj:j<34:=by have:=(List.getElem?_eq_some_iff.1 hv).1;simpa [yU] using this
 rw[zj8,h.cell j hj];have:(yU x)[j]? =some (iA (x j)):=by simp[yU,hj]
 rw[this] at hv;exact hv
theorem qH{ops:Array Oper}{S:World->Prop}{op:Oper}{a:Act}(hw:Region.wanted op (yielded ops a.tmps)=true)(ty:TypeId)(p:Operand)(ho:op.op=.load ty p)
 (g:Nat) (hp:a.eval p=pA g 0) (t:TypeId) (x:Nat->Int) (d:TypeDesc) (hS:∀w,S w->RegAt w g t x) (hu:P.underlying ty=some d) (hd:d.isRow=true) (hi:(P.info? ty).map (·.size)=some 34):
 YieldsIf P ops S op (.agg (regA x)) a:=
 zka hw ty p ho g 0 hp (yU x) d (λw h=>(hS w h).range) hu hd (by rw[hi];simp[yU])
end
theorem zZ{P:Program}{fn:Func}{p q:Tmp}{ty:TypeId}(h:fn.results=#[.cell p ty,.tmp q])(tmps:Array Value)(w:World)(g:Nat)(t:TypeId)(x:Nat->Int)(d:TypeDesc)(v:Value)
 (hp:tmps.getD p undef=pA g 0) (hq:tmps.getD q undef=v) (hg:RegAt w g t x)
 (hu:P.underlying ty=some d) (hd:d.isRow=true) (hi:(P.info? ty).map (·.size)=some 34):
 (results fn tmps).run P w=.ok (.tuple #[.agg (regA x),v]) w:=by
 have ad:tmps[p]?.getD undef=pA g 0:=by simpa using hp
 have aa:tmps[q]?.getD undef=v:=by simpa using hq
 simp[results,h,ad,aa,asAddr,run_loadVar_row w g t ty (regA x) (0,0) d hg hu (by cases d<;>simp_all) (by rw[zj];exact hi)]
theorem gV{P:Program}{fn:Func}{p:Tmp}{ty:TypeId}(h:fn.results=#[.cell p ty])(tmps:Array Value)(w:World)(g:Nat)(t:TypeId)(x:Nat->Int)(d:TypeDesc)
 (hp:tmps.getD p undef=pA g 0) (hg:RegAt w g t x)
 (hu:P.underlying ty=some d) (hd:d.isRow=true) (hi:(P.info? ty).map (·.size)=some 34):
 (results fn tmps).run P w=.ok (.agg (regA x)) w:=
 results_cell_row h tmps w g t (regA x) (0,0) d hp hg hu (by cases d<;>simp_all) (by rw[zj];exact hi)
theorem Tryz.zfG:(prog.info? 116).map (·.size)=some 34:=by kernel_rfl
theorem Tryz.zgZ:(prog.info? 46).map (·.size)=some 8:=by kernel_rfl
theorem Tryz.zhW:(prog.info? 47).map (·.size)=some 26:=by kernel_rfl
def yk:Nat->Int:=λ_=>0
theorem yV:(#[iA 0,iA 0,iA 0,iA 0,iA 0,iA 0,iA 0,iA 0,iA 0,iA 0,iA 0,iA 0,iA 0,iA 0,iA 0,iA 0,iA 0,iA 0,iA 0,iA 0,iA 0,iA 0,iA 0,iA 0,iA 0,iA 0,iA 0,iA 0,iA 0,iA 0,iA 0,iA 0,iA 0,iA 0]:Array Value)=regA yk:=by kernel_rfl
theorem Tryz.zgA:(prog.info? 190).map (·.size)=some 8:=by kernel_rfl
def kB(b:Nat->Bool):Array Value:=#[bA (b 0),bA (b 1),bA (b 2),bA (b 3),bA (b 4),bA (b 5),bA (b 6),bA (b 7)]
def zdZ(b:Nat->Bool)(f:Nat):Nat->Bool:=λi=>if i=f then true else b i
theorem Va(b:Nat->Bool)(f:Nat)(h:f<8):(kB b).setIfInBounds f (bA true)=kB (zdZ b f):=by
 match f,h with
 |0,_|1,_|2,_|3,_|4,_|5,_|6,_|7,_=>simp[kB,zdZ]
theorem gh(b:Nat->Bool)(f:Nat)(h:f<8):(kB b)[f]? =some (bA (b f)):=by
 match f,h with
 |0,_|1,_|2,_|3,_|4,_|5,_|6,_|7,_=>simp[kB]
theorem zt{w:World}{g:Nat}{C:Array Value}{t:TypeId}(h:w.heap[g]? =some (.cells C t (0,0)))(i:Nat):w.frozen? (aA g i)=false:=by simp[World.frozen?,h]
theorem VO(b:Nat->Bool)(k:Nat)(h:k<8)(W:World):(Instr.index 190 (.agg (kB b)) (iA k)).run prog W=.ok (bA (b k)) W:=by
 have h2:0<=(k:Int)/\(k:Int)<((8:Nat):Int):=by omega
 have hg:=gh b k h;simp[Instr.index,run_underlying underlying190,asIntOf,go_sem,Tryz.sizeOf4,Tryz.isAgg4,hg,h]

import Derived.Test.YtcfjhbcpjpgodaaGreatDoorBase
namespace Go.Proofs.YtcfjhbcpjpgodaaGreatDoor
open Go.RowKit
set_option maxRecDepth 100000
set_option maxHeartbeats 0
set_option linter.all false
def hasB(K H R F V:Int)(nl:Bool)(n:Nat):Bool:=
 decide (0<=H/\H<12/\0<=R/\R<=255/\0<=F/\F<8/\n<=24/\((K=1/\nl=false/\-1<=V/\V<R)\/((K=2\/K=3)/\V=0/\(nl=false\/n=0))))
theorem gy(s:zgW):s.toList.isEmpty=decide (s.size=0):=by
 rw[ByteArray.toList_eq,Bool.eq_iff_iff,List.isEmpty_iff,decide_eq_true_eq,<-List.length_eq_zero_iff];simp
theorem Za(K H R F:Int)(n:Nat)(h1:0<=H)(h2:H<12)(h3:0<=R)(h4:R<=255)(h5:0<=F)(h6:F<8)(_h7:n<=24)(hk:K=2\/K=3):decide (n=0)=hasB K H R F 0 true n:=by
 unfold hasB;rw[decide_eq_decide];simp;omega
theorem yv{a b:Bool}(h:a=b):Ending.returned (bA a)=.returned (bA b):=by rw[h]
def yS(K V:Int)(nl:Bool):Int:=if K=1 then V+1 else if nl then 1 else 0
theorem Q5{k:IntKind}{a b:Int}(h:a=b):Ending.returned (.int k a)=.returned (.int k b):=by rw[h]
section
open Proofs.Tryz
variable{K H R F V:Int}{nl:Bool}{s:zgW}
def yt(K H R F M:Int)(s:zgW):zgW:=strOfNums [K,H,R,F,M,s.size]++s
theorem zcr(w:World)(o:Obj)(x0 x1 x2 x3 x4 x5:Int):
 (convert 153 9 (.slice (some (aA (w.heap.size+1) 0)) 6 6)).run prog ((w.alloc o).alloc (.cells #[.int .u8 x0,.int .u8 x1,.int .u8 x2,.int .u8 x3,.int .u8 x4,.int .u8 x5] 5))=
  .ok (sA (strOfNums [x0,x1,x2,x3,x4,x5])) ((w.alloc o).alloc (.cells #[.int .u8 x0,.int .u8 x1,.int .u8 x2,.int .u8 x3,.int .u8 x4,.int .u8 x5] 5)):=
 run_convert_bytes_arg _ 153 5 underlying153 underlying5 (w.heap.size+1) 0 6 6 [x0,x1,x2,x3,x4,x5] rfl (λi hi=>by
  match i,hi with
  |0,_|1,_|2,_|3,_|4,_|5,_=>simp) 9 underlying9
theorem zbF(x0 x1 x2 x3 x4 x5:Int):(strOfNums [x0,x1,x2,x3,x4,x5]).size=6:=strOfNums_size _
def encS(K H R F V:Int)(nl:Bool)(s:zgW):zgW:=if hasB K H R F V nl s.size=true then yt K H R F (yS K V nl) s else⟨#[]⟩
theorem qF(h:hasB K H R F V nl s.size=true):encS K H R F V nl s=yt K H R F (yS K V nl) s:=by unfold encS;rw[zgT h]
theorem yy(h:hasB K H R F V nl s.size=false):encS K H R F V nl s=⟨#[]⟩:=by unfold encS;rw[zgU (by simp[h])]
theorem yC{a b:zgW}{c d:Bool}(h:a=b)(h':c=d):Ending.returned (.tuple #[sA a,bA c])=.returned (.tuple #[sA b,bA d]):=by rw[h,h']
theorem Xh(V:Int)(h:V< -1)(hU: -9223372036854775808<=V):wrap64 (V+1)<0:=by
 unfold wrap64;omega
theorem zbj(V R:Int)(h3:0<=R)(h4:R<=255)(h:R<=V)(hV:V<=9223372036854775807):wrap64 (V+1)<0\/R<wrap64 (V+1):=by
 unfold wrap64;omega
end
section
variable{w:World}{g:Nat}{x:Nat->Int}
def yd(x:Nat->Int):List Value:=(List.range 34).map λi=>iA (x i)
def regA(x:Nat->Int):Array Value:=(yd x).toArray
theorem zg(x:Nat->Int):(regA x).size=34:=by simp[regA,yd]
theorem qD(x:Nat->Int)(i:Nat)(h:i<34):(regA x)[i]? =some (iA (x i)):=by
 simp[regA,yd,h]
def upd(x:Nat->Int)(k:Nat)(v:Int):Nat->Int:=λi=>if i=k then v else x i
theorem JG(x:Nat->Int)(k:Nat)(v:Int):upd x k v k=v:=by simp[upd]
theorem KF(x:Nat->Int)(k i:Nat)(v:Int)(h:i≠k):upd x k v i=x i:=by simp[upd,h]
theorem xp(x:Nat->Int)(k:Nat)(v:Int)(h:k<34):(regA x).setIfInBounds k (iA v)=regA (upd x k v):=by
 apply Array.ext_getElem?;intro i;by_cases hi:i<34
 .rw [qD _ i hi,Array.getElem?_setIfInBounds];by_cases e:k=i
  .subst e;rw[zgT rfl,zgT (by rw[zg];exact h),JG]
  rw[zgU e,qD _ i hi,KF _ _ _ _ (λh=>e h.symm)]
 rw[Array.getElem?_eq_none (by simp[zg];omega),Array.getElem?_eq_none (by rw[zg];omega)]
def RegAt(w:World)(g:Nat)(t:TypeId)(x:Nat->Int):Prop:=w.heap[g]? =some (.cells (regA x) t (0,0))
theorem RegAt.lt{t:TypeId}(h:RegAt w g t x):g<w.heap.size:=by
 rcases Nat.lt_or_ge g w.heap.size with h'|h'
 .exact h'
 unfold RegAt at h;simp[Array.getElem?_eq_none h'] at h
theorem RegAt.alloc(w:World)(t:TypeId)(x:Nat->Int):RegAt (w.alloc (.cells (regA x) t)) w.heap.size t x:=zgr w _
theorem RegAt.later{w':World}{B:Nat}{t:TypeId}(h:RegAt w g t x)(hb:Below B w w')(hg:g<B):RegAt w' g t x:=by
 unfold RegAt at h ⊢;rw[hb.block g hg];exact h
theorem RegAt.cell{t:TypeId}(h:RegAt w g t x)(i:Nat)(hi:i<34):w.cell? (aA g i)=some (iA (x i)):=by
 rw[zgs w g i _ t _ h,qD x i hi]
theorem RegAt.frozen{t:TypeId}(h:RegAt w g t x)(i:Nat):w.frozen? (aA g i)=false:=by
 unfold RegAt at h;simp[World.frozen?,h]
theorem RegAt.set{t:TypeId}(h:RegAt w g t x)(k:Nat)(v:Int)(hk:k<34):RegAt (w.setCell (aA g k) (iA v)) g t (upd x k v):=by
 unfold RegAt at h ⊢;rw[<-xp x k v hk];simp[World.setCell,Array.getElem?_modify,h]
def sumTo(x:Nat->Int):Nat->Int
 |0=>0
 |n+1=>sumTo x n+x n
theorem yH(x:Nat->Int)(n:Nat)(h:∀i,i<n->0<=x i/\x i<=9):0<=sumTo x n/\sumTo x n<=9*n:=by
 induction n with
 |zero=>simp[sumTo]
 |succ n ih=>
  have h1:=ih λi hi=>h i (by omega);have h2:=h n (by omega);simp only[sumTo];omega
end
section
open Proofs.Tryz
theorem RegAt.only{w w':World}{g g':Nat}{t:TypeId}{x:Nat->Int}(h:RegAt w g t x)(ho:ko g' w w')(hg:g≠g'):RegAt w' g t x:=by
 unfold RegAt at h ⊢;rw[ho.block g hg];exact h
theorem RegAt.drew{w:World}{g:Nat}{t:TypeId}{x:Nat->Int}(h:RegAt w g t x):RegAt w.drew g t x:=h
theorem RegAt.below{w w':World}{g:Nat}{t:TypeId}{x:Nat->Int}(h:RegAt w g t x)(hb:BW w w'):RegAt w' g t x:=h.later hb h.lt
theorem JS(x:Nat->Int):∀v∈(regA x).toList,v.oneCell'=true:=by
 intro v hv;simp only[regA,yd,List.toList_toArray,List.mem_map] at hv;obtain⟨i,_,rfl⟩:=hv;rfl
section
variable{P:Program}
theorem run_storeVar_row(w:World)(g:Nat)(t ty:TypeId)(C:Array Value)(x:Nat->Int)(hg:w.heap[g]? =some (.cells C t (0,0)))(hC:C.size=34)(hi:(P.info? ty).map (·.size)=some 34):
 (storeVar ty (aA g 0) (.agg (regA x))).run P w=.ok () (w.setRow g (regA x)):=by
 have h:=run_storeCells_at P g 0 t (regA x).toList 0 C w hg (by simp[zg,hC]) (JS x);have e:(C.toList.take (0+0)++(regA x).toList++C.toList.drop (0+0+(regA x).toList.length)).toArray=regA x:=by
  rw[Nat.add_zero,List.take_zero,List.nil_append,List.drop_of_length_le (by simp[zg,hC]),List.append_nil,Array.toArray_toList]
 rw[e] at h;cases hq:P.info? ty with
 |none=>simp[hq] at hi
 |some i=>
  have hs:i.size=34:=by simpa [hq] using hi
  simp[storeVar,sizeOf,typeInfo,hq,Value.cells,hs,zg,h]
theorem zu{op:Oper}{a:Act}{w:World}{K:Act->World->Prop}{Q:Exit->Act->World->Prop}(ty:TypeId)(p y:Operand)(ho:op.op=.store ty p y)
 (g:Nat) (x:Nat->Int) (hp:a.eval p=pA g 0) (hy:a.eval y=.agg (regA x)) (t:TypeId) (C:Array Value) (hg:w.heap[g]? =some (.cells C t (0,0))) (hC:C.size=34) (hi:(P.info? ty).map (·.size)=some 34)
 (h:∀w',RegAt w' g t x->ko g w w'->K (a.put op.dst undef) w'):op.wp P a w K Q:=by
 unfold Oper.wp execOp;simp only[ho,hp,hy,Instr.storeAt,Instr.sureAddr,Sem.run_bind,Sem.run_pure,Result.andThen_ok,run_storeVar_row w g t ty C x hg hC hi];exact h _ (setRow_heap _ _ C _ t (0,0) hg) (yW _ _ _)
theorem zk{ops:Array Oper}{rest:List Oper}{op:Oper}{a:Act}{w:World}{Q:Exit->Act->World->Prop}(hgd:op.guard=none)(ty:TypeId)(p y:Operand)(ho:op.op=.store ty p y)
 (g:Nat) (x:Nat->Int) (hp:a.eval p=pA g 0) (hy:a.eval y=.agg (regA x)) (t:TypeId) (C:Array Value) (hg:w.heap[g]? =some (.cells C t (0,0))) (hC:C.size=34) (hi:(P.info? ty).map (·.size)=some 34)
 (h:∀w',RegAt w' g t x->ko g w w'->wpList P ops Q rest (a.put op.dst undef) w'):wpList P ops Q (op::rest) a w:=
 wpList_plain hgd λ_ hK=>zu ty p y ho g x hp hy t C hg hC hi λw' h1 h2=>hK _ _ (h w' h1 h2)
theorem zn{ops:Array Oper}{rest:List Oper}{op:Oper}{a:Act}{w:World}{Q:Exit->Act->World->Prop}(hgd:op.guard=none)(ty:TypeId)(p:Operand)(ho:op.op=.load ty p)
 (g:Nat) (hp:a.eval p=pA g 0) (t:TypeId) (x:Nat->Int) (d:TypeDesc) (hg:RegAt w g t x) (hu:P.underlying ty=some d) (hd:d.isRow=true) (hi:(P.info? ty).map (·.size)=some 34)
 (h:wpList P ops Q rest (a.put op.dst (.agg (regA x))) w):wpList P ops Q (op::rest) a w:=
 zg4 hgd ty p ho g hp t (regA x) (0,0) d hg hu (by cases d<;>simp_all) (by rw[zg];exact hi) h
theorem RegAt.range{w:World}{g:Nat}{t:TypeId}{x:Nat->Int}(h:RegAt w g t x):w.rangeAt g 0 (yd x):=λj v hv=>by
 have hj:j<34:=by have:=(List.getElem?_eq_some_iff.1 hv).1;simpa [yd] using this
 rw[zg0,h.cell j hj];have:(yd x)[j]? =some (iA (x j)):=by simp[yd,hj]
 rw[this] at hv;exact hv
theorem zv{ops:Array Oper}{S:World->Prop}{op:Oper}{a:Act}(hw:Region.wanted op (yielded ops a.tmps)=true)(ty:TypeId)(p:Operand)(ho:op.op=.load ty p)
 (g:Nat) (hp:a.eval p=pA g 0) (t:TypeId) (x:Nat->Int) (d:TypeDesc) (hS:∀w,S w->RegAt w g t x) (hu:P.underlying ty=some d) (hd:d.isRow=true) (hi:(P.info? ty).map (·.size)=some 34):
 YieldsIf P ops S op (.agg (regA x)) a:=
 zg3 hw ty p ho g 0 hp (yd x) d (λw h=>(hS w h).range) hu hd (by rw[hi];simp[yd])
theorem yD{ops:Array Oper}{S:World->Prop}{op:Oper}{a:Act}(hw:Region.wanted op (yielded ops a.tmps)=true)(ty:TypeId)(p:Operand)(ho:op.op=.load ty p)
 (g:Nat) (hp:a.eval p=pA g 0) (t:TypeId) (x:Nat->Int) (d:TypeDesc) (hS:∀w,S w->RegAt w g t x) (hu:P.underlying ty=some d) (hd:d.isRow=true) (hi:(P.info? ty).map (·.size)=some 8):
 YieldsIf P ops S op (.agg #[iA (x 0),iA (x 1),iA (x 2),iA (x 3),iA (x 4),iA (x 5),iA (x 6),iA (x 7)]) a:=
 zg3 hw ty p ho g 0 hp [iA (x 0),iA (x 1),iA (x 2),iA (x 3),iA (x 4),iA (x 5),iA (x 6),iA (x 7)] d (λw h j v hv=>by
  have hr:=(hS w h).cell;match j,hv with
  |0,hv=>simp at hv;subst hv;exact hr 0 (by omega)
  |1,hv=>simp at hv;subst hv;exact hr 1 (by omega)
  |2,hv=>simp at hv;subst hv;exact hr 2 (by omega)
  |3,hv=>simp at hv;subst hv;exact hr 3 (by omega)
  |4,hv=>simp at hv;subst hv;exact hr 4 (by omega)
  |5,hv=>simp at hv;subst hv;exact hr 5 (by omega)
  |6,hv=>simp at hv;subst hv;exact hr 6 (by omega)
  |7,hv=>simp at hv;subst hv;exact hr 7 (by omega)
  |j+8,hv=>simp at hv) hu hd (by rw[hi];rfl)
end
theorem yE{P:Program}(W:World)(t:TypeId)(x y:Nat->Int):(storeCells (aA W.heap.size 0) (regA y).toList).run P (W.alloc (.cells (regA x) t))=.ok () (W.alloc (.cells (regA y) t)):=by
 have h:=run_storeCells_at P W.heap.size 0 t (regA y).toList 0 (regA x) (W.alloc (.cells (regA x) t)) (zgr W _) (by simp[zg]) (JS y);have e:((regA x).toList.take (0+0)++(regA y).toList++(regA x).toList.drop (0+0+(regA y).toList.length)).toArray=regA y:=by
  rw[Nat.add_zero,List.take_zero,List.nil_append,List.drop_of_length_le (by simp[zg]),List.append_nil,Array.toArray_toList]
 rw[e] at h;rw[h];have e2:(W.alloc (.cells (regA x) t)).setRow W.heap.size (regA y)=W.alloc (.cells (regA y) t):=by
  have e3:((W.alloc (.cells (regA x) t)).setRow W.heap.size (regA y)).heap=W.heap.push (.cells (regA y) t):=by
   apply Array.ext_getElem?;intro i;by_cases hi:i=W.heap.size
   .subst hi;rw[setRow_heap _ _ (regA x) _ t (0,0) (zgr W _)];simp
   rw[setRow_other _ _ _ _ hi,Array.getElem?_push,zgU hi];show(W.heap.push _)[i]? =_;rw[Array.getElem?_push,zgU hi]
  have e4:(W.alloc (.cells (regA x) t)).setRow W.heap.size (regA y)={ W with heap:=((W.alloc (.cells (regA x) t)).setRow W.heap.size (regA y)).heap }:=rfl;rw[e4,e3];rfl
 rw[e2]
theorem zo{P:Program}{fn:Func}{p q:Tmp}{ty:TypeId}(h:fn.results=#[.cell p ty,.tmp q])(tmps:Array Value)(w:World)(g:Nat)(t:TypeId)(x:Nat->Int)(d:TypeDesc)(v:Value)
 (hp:tmps.getD p undef=pA g 0) (hq:tmps.getD q undef=v) (hg:RegAt w g t x)
 (hu:P.underlying ty=some d) (hd:d.isRow=true) (hi:(P.info? ty).map (·.size)=some 34):
 (results fn tmps).run P w=.ok (.tuple #[.agg (regA x),v]) w:=by
 have ab:tmps[p]?.getD undef=pA g 0:=by simpa using hp
 have aa:tmps[q]?.getD undef=v:=by simpa using hq
 simp[results,h,ab,aa,asAddr,run_loadVar_row w g t ty (regA x) (0,0) d hg hu (by cases d<;>simp_all) (by rw[zg];exact hi)]
theorem gh{P:Program}{fn:Func}{p:Tmp}{ty:TypeId}(h:fn.results=#[.cell p ty])(tmps:Array Value)(w:World)(g:Nat)(t:TypeId)(x:Nat->Int)(d:TypeDesc)
 (hp:tmps.getD p undef=pA g 0) (hg:RegAt w g t x)
 (hu:P.underlying ty=some d) (hd:d.isRow=true) (hi:(P.info? ty).map (·.size)=some 34):
 (results fn tmps).run P w=.ok (.agg (regA x)) w:=
 results_cell_row h tmps w g t (regA x) (0,0) d hp hg hu (by cases d<;>simp_all) (by rw[zg];exact hi)
theorem Tryz.zc3:(prog.info? 49).map (·.size)=some 34:=by kernel_rfl
theorem Tryz.zc2:(prog.info? 116).map (·.size)=some 34:=by kernel_rfl
theorem Tryz.zdI:(prog.info? 46).map (·.size)=some 8:=by kernel_rfl
theorem Tryz.zfj:(prog.info? 47).map (·.size)=some 26:=by kernel_rfl
def zA:Nat->Int:=λ_=>0
theorem zX:(#[iA 0,iA 0,iA 0,iA 0,iA 0,iA 0,iA 0,iA 0,iA 0,iA 0,iA 0,iA 0,iA 0,iA 0,iA 0,iA 0,iA 0,iA 0,iA 0,iA 0,iA 0,iA 0,iA 0,iA 0,iA 0,iA 0,iA 0,iA 0,iA 0,iA 0,iA 0,iA 0,iA 0,iA 0]:Array Value)=regA zA:=by kernel_rfl
theorem xP{a b:Int}(h:a=b):Ending.returned (iA a)=.returned (iA b):=by rw[h]
theorem xq(x:Nat->Int)(w:World)(hx:∀i,i<8->0<=x i/\x i<=9):
 Calls prog 194 #[.agg (regA x)] w λe w'=>e=.returned (iA (sumTo x 8))/\BW w w':=by
 have HX:=zc hx;clear hx;go_enter func194,ntmps194;go_wp2
 go_loop [3,4] (λn i=>∃k:Nat,k<=8/\i=iA k/\n=iA (sumTo x k)) (λ_ i=>8-(intOf i).toNat)
 case atStart=>exact⟨0,by omega,rfl,rfl⟩
 obtain⟨k,hk,rfl,rfl⟩:=hrel;by_cases aa:k<8
 .have hg:=qD x k (by omega);have hb:=yH x k (λi hi=>HX.o i (by omega));have hxk:=HX.o k aa;have hk2:(k:Int)<8:=by omega
  go_wp2
  go_round
  case rel=>exact⟨k+1,by omega,by go_num,rfl⟩
  simp[intOf];omega
 obtain rfl:k=8:=by omega
 go_wp2;go_ret;exact⟨rfl,bwA _⟩
def GC(c:Int):Int:=if 97<=c/\c<=122 then c-97 else-1
def XB(c:Int):Int:=if 48<=c/\c<=57 then c-48 else-1
theorem zH(c:Int)(w:World)(h0:0<=c)(h1:c<=255):
 Calls prog 177 #[.int .u8 c] w λe w'=>e=.returned (iA (GC c))/\w'=w:=by
 by_cases ha:c<97
 .go_enter func177,ntmps177;go_wp2;go_ret;exact⟨xP (by unfold GC;rw[zgU (by omega)]),rfl⟩
 by_cases hb:122<c
 .go_enter func177,ntmps177;go_wp2;go_ret;exact⟨xP (by unfold GC;rw[zgU (by omega)]),rfl⟩
 go_enter func177,ntmps177;go_wp2;go_ret;exact⟨xP (by unfold GC;rw[zgT (by omega)]),rfl⟩
theorem zK(c:Int)(w:World)(h0:0<=c)(h1:c<=255):
 Calls prog 178 #[.int .u8 c] w λe w'=>e=.returned (iA (XB c))/\w'=w:=by
 by_cases ha:c<48
 .go_enter func178,ntmps178;go_wp2;go_ret;exact⟨xP (by unfold XB;rw[zgU (by omega)]),rfl⟩
 by_cases hb:57<c
 .go_enter func178,ntmps178;go_wp2;go_ret;exact⟨xP (by unfold XB;rw[zgU (by omega)]),rfl⟩
 go_enter func178,ntmps178;go_wp2;go_ret;exact⟨xP (by unfold XB;rw[zgT (by omega)]),rfl⟩
variable{c:Int}
def yn(n:Nat)(c0 c1 c2:Int):Bool:=
 decide ((n=2/\c0=108/\97<=c1/\c1<=122)\/(n=3/\(c0=106\/c0=114)/\97<=c1/\c1<=122/\49<=c2/\c2<=57)\/(n=3/\c0=118/\48<=c1/\c1<=55/\48<=c2/\c2<=57))
def z7(t:zgW):Bool:=yn t.size (byt t 0) (byt t 1) (byt t 2)
theorem xw(h:97<=c/\c<=122):GC c=c-97:=by unfold GC;rw[zgT h]
theorem GB(h:¬(97<=c/\c<=122)):GC c= -1:=by unfold GC;rw[zgU h]
theorem jo(h:48<=c/\c<=57):XB c=c-48:=by unfold XB;rw[zgT h]
theorem Jv(h:¬(48<=c/\c<=57)):XB c= -1:=by unfold XB;rw[zgU h]
theorem GU(t:zgW)(w:World)(hs:t.size<=maxLen)(h:t.size<2\/3<t.size)(c0 c1 c2:Int):
 Calls prog 124 #[sA t] w λe w'=>e=.returned (bA (yn t.size c0 c1 c2))/\w'=w:=by
 unfold maxLen at hs;by_cases h2:(t.size:Int)<2
 .clear h;go_enter func124,ntmps124;go_wp2;go_ret;exact⟨zS (by simp[yn]<;>omega),rfl⟩
 have h3:3<(t.size:Int):=by omega
 clear h;go_enter func124,ntmps124;go_wp2;go_ret;exact⟨zS (by simp[yn]<;>omega),rfl⟩
theorem zbi(t:zgW)(c0 c1 c2:Int)(w:World)(hz:t.size=2)(b0:0<=c0/\c0<=255)(b1:0<=c1/\c1<=255)(_b2:0<=c2/\c2<=255)
 (a0:∀W:World,(Instr.index 9 (sA t) (iA 0)).run prog W=.ok (.int .u8 c0) W) (a1:∀W:World,(Instr.index 9 (sA t) (iA 1)).run prog W=.ok (.int .u8 c1) W):
 Calls prog 124 #[sA t] w λe w'=>e=.returned (bA (yn 2 c0 c1 c2))/\w'=w:=by
 have z1:¬(t.size:Int)<2:=by omega
 have z2:¬3<(t.size:Int):=by omega
 have z3:((t.size:Int)==2)=true:=by simp;omega
 have z4:((t.size:Int)==3)=false:=by simp;omega
 clear hz;by_cases k:c0=108
 .subst k;by_cases l1:97<=c1/\c1<=122;focus
   have e1:=xw l1
  rotate_left;focus
   have e1:=GB l1
  rotate_left;all_goals
   go_enter func124,ntmps124;go_wp2_with (first|(go_at_call 177;refine(zH _ _ (by omega) (by omega)).mono ?_;rintro e w1 ⟨rfl,rfl⟩)|(go_at_call 178;refine(zK _ _ (by omega) (by omega)).mono ?_;rintro e w1 ⟨rfl,rfl⟩))
   go_ret;exact⟨zS (by simp[yn]<;>omega),rfl⟩
 by_cases k2:c0=106
 .subst k2;go_enter func124,ntmps124;go_wp2_with (first|(go_at_call 177;refine(zH _ _ (by omega) (by omega)).mono ?_;rintro e w1 ⟨rfl,rfl⟩)|(go_at_call 178;refine(zK _ _ (by omega) (by omega)).mono ?_;rintro e w1 ⟨rfl,rfl⟩))
  go_ret;exact⟨zS (by simp[yn]<;>omega),rfl⟩
 by_cases k3:c0=114
 .subst k3;go_enter func124,ntmps124;go_wp2_with (first|(go_at_call 177;refine(zH _ _ (by omega) (by omega)).mono ?_;rintro e w1 ⟨rfl,rfl⟩)|(go_at_call 178;refine(zK _ _ (by omega) (by omega)).mono ?_;rintro e w1 ⟨rfl,rfl⟩))
  go_ret;exact⟨zS (by simp[yn]<;>omega),rfl⟩
 by_cases k4:c0=118
 .subst k4;go_enter func124,ntmps124;go_wp2_with (first|(go_at_call 177;refine(zH _ _ (by omega) (by omega)).mono ?_;rintro e w1 ⟨rfl,rfl⟩)|(go_at_call 178;refine(zK _ _ (by omega) (by omega)).mono ?_;rintro e w1 ⟨rfl,rfl⟩))
  go_ret;exact⟨zS (by simp[yn]<;>omega),rfl⟩
 have j1:(c0==108)=false:=by simpa using k
 have j2:(c0==106)=false:=by simpa using k2
 have j3:(c0==114)=false:=by simpa using k3
 have j4:(c0==118)=false:=by simpa using k4
 go_enter func124,ntmps124;go_wp2_with (first|(go_at_call 177;refine(zH _ _ (by omega) (by omega)).mono ?_;rintro e w1 ⟨rfl,rfl⟩)|(go_at_call 178;refine(zK _ _ (by omega) (by omega)).mono ?_;rintro e w1 ⟨rfl,rfl⟩))
 go_ret;exact⟨zS (by simp[yn]<;>omega),rfl⟩
theorem Xe(t:zgW)(c0 c1 c2:Int)(w:World)(hz:t.size=3)(b0:0<=c0/\c0<=255)(b1:0<=c1/\c1<=255)(b2:0<=c2/\c2<=255)
 (a0:∀W:World,(Instr.index 9 (sA t) (iA 0)).run prog W=.ok (.int .u8 c0) W) (a1:∀W:World,(Instr.index 9 (sA t) (iA 1)).run prog W=.ok (.int .u8 c1) W) (a2:∀W:World,(Instr.index 9 (sA t) (iA 2)).run prog W=.ok (.int .u8 c2) W):
 Calls prog 124 #[sA t] w λe w'=>e=.returned (bA (yn 3 c0 c1 c2))/\w'=w:=by
 have z1:¬(t.size:Int)<2:=by omega
 have z2:¬3<(t.size:Int):=by omega
 have z3:((t.size:Int)==2)=false:=by simp;omega
 have z4:((t.size:Int)==3)=true:=by simp;omega
 clear hz;by_cases k:c0=108
 .subst k;go_enter func124,ntmps124;go_wp2_with (first|(go_at_call 177;refine(zH _ _ (by omega) (by omega)).mono ?_;rintro e w1 ⟨rfl,rfl⟩)|(go_at_call 178;refine(zK _ _ (by omega) (by omega)).mono ?_;rintro e w1 ⟨rfl,rfl⟩))
  go_ret;exact⟨zS (by simp[yn]<;>omega),rfl⟩
 by_cases k2:c0=106\/c0=114
 .rcases k2 with rfl|rfl;all_goals
   by_cases l1:97<=c1/\c1<=122
   .have e1:=xw l1;by_cases d2:48<=c2/\c2<=57
    .have e2:=jo d2;by_cases d3:49<=c2
     .have d4:1<=c2-48:=by omega
      go_enter func124,ntmps124;go_wp2_with (first|(go_at_call 177;refine(zH _ _ (by omega) (by omega)).mono ?_;rintro e w1 ⟨rfl,rfl⟩)|(go_at_call 178;refine(zK _ _ (by omega) (by omega)).mono ?_;rintro e w1 ⟨rfl,rfl⟩))
      go_ret;exact⟨zS (by simp[yn]<;>omega),rfl⟩
     .have d4:¬1<=c2-48:=by omega
      have DD:Hid (c2<49):=by unfold Hid;omega
      go_enter func124,ntmps124;go_wp2_with (first|(go_at_call 177;refine(zH _ _ (by omega) (by omega)).mono ?_;rintro e w1 ⟨rfl,rfl⟩)|(go_at_call 178;refine(zK _ _ (by omega) (by omega)).mono ?_;rintro e w1 ⟨rfl,rfl⟩))
      go_ret;exact⟨zS (by have:=DD.o;unfold Hid at this;unfold yn;rw[decide_eq_decide];omega),rfl⟩
    .have e2:=Jv d2;have DD:Hid (c2<48\/57<c2):=by unfold Hid;omega
     go_enter func124,ntmps124;go_wp2_with (first|(go_at_call 177;refine(zH _ _ (by omega) (by omega)).mono ?_;rintro e w1 ⟨rfl,rfl⟩)|(go_at_call 178;refine(zK _ _ (by omega) (by omega)).mono ?_;rintro e w1 ⟨rfl,rfl⟩))
     go_ret;exact⟨zS (by have:=DD.o;simp[yn]<;>omega),rfl⟩
   .have e1:=GB l1;go_enter func124,ntmps124;go_wp2_with (first|(go_at_call 177;refine(zH _ _ (by omega) (by omega)).mono ?_;rintro e w1 ⟨rfl,rfl⟩)|(go_at_call 178;refine(zK _ _ (by omega) (by omega)).mono ?_;rintro e w1 ⟨rfl,rfl⟩))
    go_ret;exact⟨zS (by simp[yn]<;>omega),rfl⟩
 have k3:¬c0=114:=λh=>k2 (zgS h);replace k2:¬c0=106:=λh=>k2 (zgR h);by_cases k4:c0=118
 .subst k4;by_cases l1:48<=c1/\c1<=57
  .have e1:=jo l1;by_cases l2:c1<=55
   .have l3:c1-48<8:=by omega
    by_cases d2:48<=c2/\c2<=57
    .have e2:=jo d2;go_enter func124,ntmps124;go_wp2_with (first|(go_at_call 177;refine(zH _ _ (by omega) (by omega)).mono ?_;rintro e w1 ⟨rfl,rfl⟩)|(go_at_call 178;refine(zK _ _ (by omega) (by omega)).mono ?_;rintro e w1 ⟨rfl,rfl⟩))
     go_ret;exact⟨zS (by simp[yn]<;>omega),rfl⟩
    have e2:=Jv d2;have DD:Hid (c2<48\/57<c2):=by unfold Hid;omega
    go_enter func124,ntmps124;go_wp2_with (first|(go_at_call 177;refine(zH _ _ (by omega) (by omega)).mono ?_;rintro e w1 ⟨rfl,rfl⟩)|(go_at_call 178;refine(zK _ _ (by omega) (by omega)).mono ?_;rintro e w1 ⟨rfl,rfl⟩))
    go_ret;exact⟨zS (by have:=DD.o;simp[yn]<;>omega),rfl⟩
   have l3:¬c1-48<8:=by omega
   go_enter func124,ntmps124;go_wp2_with (first|(go_at_call 177;refine(zH _ _ (by omega) (by omega)).mono ?_;rintro e w1 ⟨rfl,rfl⟩)|(go_at_call 178;refine(zK _ _ (by omega) (by omega)).mono ?_;rintro e w1 ⟨rfl,rfl⟩))
   go_ret;exact⟨zS (by simp[yn]<;>omega),rfl⟩
  have e1:=Jv l1;go_enter func124,ntmps124;go_wp2_with (first|(go_at_call 177;refine(zH _ _ (by omega) (by omega)).mono ?_;rintro e w1 ⟨rfl,rfl⟩)|(go_at_call 178;refine(zK _ _ (by omega) (by omega)).mono ?_;rintro e w1 ⟨rfl,rfl⟩))
  go_ret;exact⟨zS (by simp[yn]<;>omega),rfl⟩
 have j1:(c0==108)=false:=by simpa using k
 have j2:(c0==106)=false:=by simpa using k2
 have j3:(c0==114)=false:=by simpa using k3
 have j4:(c0==118)=false:=by simpa using k4
 go_enter func124,ntmps124;go_wp2_with (first|(go_at_call 177;refine(zH _ _ (by omega) (by omega)).mono ?_;rintro e w1 ⟨rfl,rfl⟩)|(go_at_call 178;refine(zK _ _ (by omega) (by omega)).mono ?_;rintro e w1 ⟨rfl,rfl⟩))
 go_ret;exact⟨zS (by simp[yn]<;>omega),rfl⟩
theorem jj(t:zgW)(w:World)(hs:t.size<=maxLen):
 Calls prog 124 #[sA t] w λe w'=>e=.returned (bA (z7 t))/\w'=w:=by
 by_cases h:t.size<2\/3<t.size
 .exact GU t w hs h _ _ _
 by_cases h2:t.size=2
 .have:=zbi t (byt t 0) (byt t 1) (byt t 2) w h2 (qs _ _) (qs _ _) (qs _ _) (zY t 0 (by omega)) (zY t 1 (by omega))
  unfold z7;rw[h2];exact this
 have h3:t.size=3:=by omega
 have:=Xe t (byt t 0) (byt t 1) (byt t 2) w h3 (qs _ _) (qs _ _) (qs _ _) (zY t 0 (by omega)) (zY t 1 (by omega)) (zY t 2 (by omega));unfold z7;rw[h3];exact this

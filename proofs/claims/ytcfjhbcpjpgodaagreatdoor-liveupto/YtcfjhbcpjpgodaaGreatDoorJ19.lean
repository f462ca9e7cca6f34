import Derived.Test.YtcfjhbcpjpgodaaGreatDoorJ14
import Derived.Test.YtcfjhbcpjpgodaaGreatDoorJ13
import Derived.Stop.LaidErr
import Derived.Lib.SlBuf
namespace Go.Proofs.YtcfjhbcpjpgodaaGreatDoor
open Go.RowKit
set_option maxRecDepth 100000
set_option maxHeartbeats 0
set_option linter.all false
section
open Proofs.Tryz
structure zU where
 n:Int
 h:Int
 r:Int
 due:Int
 beg:Int
def kS:zU:=⟨0,0,0,0,0⟩
def zU.cells(e:zU):Array Value:=#[iA e.n,iA e.h,iA e.r,iA e.due,iA e.beg]
theorem Tryz.ziB:(prog.info? 223).map (λi=>(i.zero,i.size,i.bytes))=some (some (.agg #[iA 0,iA 0,iA 0,iA 0,iA 0]),5,40):=by kernel_rfl
theorem Tryz.zf6:(prog.info? 223).map (·.size)=some 5:=by kernel_rfl
def qj(l:List zU):List Value:=l.flatMap λm=>m.cells.toList
theorem Vo(l:List zU)(m:zU):qj (l++[m])=qj l++m.cells.toList:=by simp[qj]
theorem jL(l:List zU):(qj l).length=l.length*5:=by
 induction l with
 |nil=>rfl
 |cons m l ih=>simp only[qj,List.flatMap_cons,List.length_append,List.length_cons] at ih ⊢;rw[ih];simp[zU.cells];omega
def zdW(w:World)(B:Nat)(p:Option Addr)(n:Nat)(es:Nat->zU):Prop:=∀i,i<n->∃b o,p=some (aA b o)/\b<B/\w.rangeAt b (o+i*5) (es i).cells.toList
theorem zcx(l:List zU)(j:Nat)(hj:j<5):∀i,i<l.length->(qj l)[i*5+j]? =((l.getD i kS).cells.toList)[j]? :=by
 induction l with
 |nil=>intro i hi;simp at hi
 |cons m l ih=>
  intro i hi;have e:qj (m::l)=m.cells.toList++qj l:=by simp[qj]
  have hc:m.cells.toList.length=5:=by simp[zU.cells]
  rw[e];cases i with
  |zero=>
   rw[Nat.zero_mul,zj8,zjN (by omega)];rfl
  |succ i=>
   rw[zjM (by omega),hc,show(i+1)*5+j-5=i*5+j by omega];have h2:=ih i (by simpa using hi);simpa using h2
section
variable{P:Program}
theorem qy{op:Oper}{a:Act}{w:World}{K:Act->World->Prop}{Q:Exit->Act->World->Prop}(ty:TypeId)(p y:Operand)(ho:op.op=.store ty p y)
 (g:Nat) (D:Array Value) (hp:a.eval p=pA g 0) (hy:a.eval y=.agg D) (t:TypeId) (C:Array Value) (hg:w.heap[g]? =some (.cells C t (0,0))) (hC:C.size=D.size) (h1:∀v∈D.toList,v.oneCell'=true) (hi:(P.info? ty).map (·.size)=some D.size)
 (h:∀w',w'.heap[g]? =some (.cells D t (0,0))->kq g w w'->K (a.put op.dst undef) w'):op.wp P a w K Q:=by
 unfold Oper.wp execOp;simp only[ho,hp,hy,Instr.storeAt,Instr.sureAddr,Sem.run_bind,Sem.run_pure,Result.andThen_ok,kL w g t ty C D hg hC h1 hi];exact h _ (setRow_heap _ _ C _ t (0,0) hg) (y9 _ _ _)
end
def zC(a b:zU):Bool:=if a.due=b.due then decide (a.beg<b.beg) else decide (a.due<b.due)
theorem KG(pb off i j:Nat)(l:List zU)(p:Option Addr)(cap:Nat)(w:World)(hc:w.cell? (aA pb off)=some (.slice p l.length cap))(hl:zdW w w.heap.size p l.length (λk=>l.getD k kS))(hi:i<l.length)(hj:j<l.length):
 Calls prog 179 #[pA pb off,iA i,iA j] w λe w'=>e=.returned (bA (zC (l.getD i kS) (l.getD j kS)))/\BW w w':=by
 obtain⟨b,o,rfl,hb,an⟩:=hl i hi;obtain⟨b',o',e',_,al⟩:=hl j hj;cases e';obtain⟨x,hx⟩:=gen (l.getD i kS);obtain⟨y,hy⟩:=gen (l.getD j kS);simp only[<-hx] at an;simp only[<-hy] at al;rw[<-hx,<-hy];obtain⟨n1,h1,r1,d1,b1⟩:=x;obtain⟨n2,h2,r2,d2,b2⟩:=y;have aq:Hid (w.rangeAt b (o+i*5) [iA n1,iA h1,iA r1,iA d1,iA b1]):=an;have ao:Hid (w.rangeAt b (o+j*5) [iA n2,iA h2,iA r2,iA d2,iA b2]):=al;have au:pb<w.heap.size:=zjI _ _ hc;have hi2:(i:Int)<l.length:=by omega
 have hj2:(j:Int)<l.length:=by omega
 clear an al hx hy hl;have ad:Hid (∀W,BW w W->cE W pb off (.slice (some (aA b o)) l.length cap)/\W.rangeAt b (o+i*5) [iA n1,iA h1,iA r1,iA d1,iA b1]/\W.rangeAt b (o+j*5) [iA n2,iA h2,iA r2,iA d2,iA b2]):=λW hW=>
  ⟨(hW.cell (p:=(aA pb off)) (by exact au)).trans hc,λk v hv=>(hW.cell (p:=(aA b (o+i*5+k))) (by exact hb)).trans (aq k v hv),λk v hv=>(hW.cell (p:=(aA b (o+j*5+k))) (by exact hb)).trans (ao k v hv)⟩
 go_enter func179,ntmps179;go_wp2_with fail
 refine rgd (S:=λW=>cE W pb off (.slice (some (aA b o)) l.length cap)/\W.rangeAt b (o+i*5) [iA n1,iA h1,iA r1,iA d1,iA b1]/\W.rangeAt b (o+j*5) [iA n2,iA h2,iA r2,iA d2,iA b2]) (ad _ ((zjB _ w).drew)) λhH=>?_;refine takeN [(0,some 9,pA pb off),(1,some 10,pA pb off),(2,some 11,pA pb off),(3,some 12,.slice (some (aA b o)) l.length cap),(4,some 13,iA i),(5,some 14,pA b (o+i*5)),(6,some 15,.agg #[iA n1,iA h1,iA r1,iA d1,iA b1]),(7,some 16,pA pb off),(8,some 17,pA pb off),(9,some 18,pA pb off),(10,some 19,.slice (some (aA b o)) l.length cap),(11,some 20,iA j),(12,some 21,pA b (o+j*5)),(13,some 22,.agg #[iA n2,iA h2,iA r2,iA d2,iA b2])] _ _ hH (by repeat(first|exact zj7|((first|refine tkc rfl rfl (zka (by rfl) 223 _ rfl b (o+i*5) rfl [iA n1,iA h1,iA r1,iA d1,iA b1] _ (λw h=>h.2.1) underlying223 rfl Tryz.zf6) ?_|refine tkc rfl rfl (zka (by rfl) 223 _ rfl b (o+j*5) rfl [iA n2,iA h2,iA r2,iA d2,iA b2] _ (λw h=>h.2.2) underlying223 rfl Tryz.zf6) ?_|(refine tkc rfl rfl (zj0 ⟨by rfl,λx h=>?_⟩) ?_;focus(have f0:=h.1;go_simp;done)));simp only[AP]))) ?_;simp only[ze,AP,pA];refine Jp 14 15 (λK hK=>?_) λK hK=>?_;focus
  go_simp;refine hK.out _ _ (ad _ ((bwA w).drew)) λhH=>?_;clear hK K;refine zv 15 λK hK=>?_;go_simp;obtain⟨w2,aa⟩:∃z,z=((w.alloc (.cells #[iA 0,iA 0,iA 0,iA 0,iA 0] 223)).alloc (.cells #[iA 0,iA 0,iA 0,iA 0,iA 0] 223)).drew:=⟨_,rfl⟩;have ai:BW w w2:=by rw[aa];exact((bwA w).alloc (by simp) _).drew
  have q0:w2.heap[w.heap.size]? =some (.cells #[iA 0,iA 0,iA 0,iA 0,iA 0] 223 (0,0)):=by
   rw[aa];show((w.alloc (.cells #[iA 0,iA 0,iA 0,iA 0,iA 0] 223)).alloc (.cells #[iA 0,iA 0,iA 0,iA 0,iA 0] 223)).heap[w.heap.size]? =_;rw[zj9 _ _ w.heap.size (by simp)];exact zjC w _
  have q1:w2.heap[w.heap.size+1]? =some (.cells #[iA 0,iA 0,iA 0,iA 0,iA 0] 223 (0,0)):=by
   rw[aa];have h:=zjC (w.alloc (.cells #[iA 0,iA 0,iA 0,iA 0,iA 0] 223)) (.cells #[iA 0,iA 0,iA 0,iA 0,iA 0] 223);rw[World.size_alloc] at h;exact h
  rw[<-aa];refine hK.out _ _ (ad _ ai) λhH=>?_;clear hK K aa;refine zv 16 λK hK=>?_;rw[zj2 (by rfl)];refine qy 223 _ _ rfl w.heap.size #[iA n1,iA h1,iA r1,iA d1,iA b1] rfl rfl 223 _ q0 rfl (by simp[Value.oneCell']) Tryz.zf6 ?_;intro w3 ak ag;have ah:BW w w3:=ai.trans (ag.below (by omega));have q83:cL w3 ((w.heap.size+1)) #[iA 0,iA 0,iA 0,iA 0,iA 0] 223:=(ag.block _ (by omega)).trans q1;refine hK.out _ _ (ad _ ah) λhH=>?_;clear hK K;refine zv 17 λK hK=>?_;rw[zj2 (by rfl)];refine qy 223 _ _ rfl (w.heap.size+1) #[iA n2,iA h2,iA r2,iA d2,iA b2] rfl rfl 223 _ q83 rfl (by simp[Value.oneCell']) Tryz.zf6 ?_;intro w4 ae af;have aj:BW w w4:=ah.trans (af.below (by omega));have q74:cL w4 w.heap.size #[iA n1,iA h1,iA r1,iA d1,iA b1] 223:=(af.block _ (by omega)).trans ak;refine hK.out _ _ (ad _ aj) λhH=>?_;clear hK K hH;refine dnr ?_;simp only[AP,AQ];have c1:cN w4 w 3 (iA d1):=zjD w4 _ 3 _ _ _ q74;have c2:cE w4 ((w.heap.size+1)) 3 (iA d2):=zjD w4 _ 3 _ _ _ ae;have c3:cN w4 w 4 (iA b1):=zjD w4 _ 4 _ _ _ q74;have c4:cE w4 ((w.heap.size+1)) 4 (iA b2):=zjD w4 _ 4 _ _ _ ae
 rotate_left;focus
  go_simp;refine hK.out _ _ (ad _ ((bwA w).drew)) λhH=>?_;clear hK K;refine zv 14 λK hK=>?_;go_simp;obtain⟨w2,aa⟩:∃z,z=((w.alloc (.cells #[iA 0,iA 0,iA 0,iA 0,iA 0] 223)).alloc (.cells #[iA 0,iA 0,iA 0,iA 0,iA 0] 223)).drew:=⟨_,rfl⟩;have ai:BW w w2:=by rw[aa];exact((bwA w).alloc (by simp) _).drew
  have q0:w2.heap[w.heap.size]? =some (.cells #[iA 0,iA 0,iA 0,iA 0,iA 0] 223 (0,0)):=by
   rw[aa];show((w.alloc (.cells #[iA 0,iA 0,iA 0,iA 0,iA 0] 223)).alloc (.cells #[iA 0,iA 0,iA 0,iA 0,iA 0] 223)).heap[w.heap.size]? =_;rw[zj9 _ _ w.heap.size (by simp)];exact zjC w _
  have q1:w2.heap[w.heap.size+1]? =some (.cells #[iA 0,iA 0,iA 0,iA 0,iA 0] 223 (0,0)):=by
   rw[aa];have h:=zjC (w.alloc (.cells #[iA 0,iA 0,iA 0,iA 0,iA 0] 223)) (.cells #[iA 0,iA 0,iA 0,iA 0,iA 0] 223);rw[World.size_alloc] at h;exact h
  rw[<-aa];refine hK.out _ _ (ad _ ai) λhH=>?_;clear hK K aa;refine zv 16 λK hK=>?_;rw[zj2 (by rfl)];refine qy 223 _ _ rfl (w.heap.size+1) #[iA n1,iA h1,iA r1,iA d1,iA b1] rfl rfl 223 _ q1 rfl (by simp[Value.oneCell']) Tryz.zf6 ?_;intro w3 ak ag;have ah:BW w w3:=ai.trans (ag.below (by omega));have q83:cL w3 w.heap.size #[iA 0,iA 0,iA 0,iA 0,iA 0] 223:=(ag.block _ (by omega)).trans q0;refine hK.out _ _ (ad _ ah) λhH=>?_;clear hK K;refine zv 17 λK hK=>?_;rw[zj2 (by rfl)];refine qy 223 _ _ rfl w.heap.size #[iA n2,iA h2,iA r2,iA d2,iA b2] rfl rfl 223 _ q83 rfl (by simp[Value.oneCell']) Tryz.zf6 ?_;intro w4 ae af;have aj:BW w w4:=ah.trans (af.below (by omega));have q74:cL w4 ((w.heap.size+1)) #[iA n1,iA h1,iA r1,iA d1,iA b1] 223:=(af.block _ (by omega)).trans ak;refine hK.out _ _ (ad _ aj) λhH=>?_;clear hK K hH;refine dnr ?_;simp only[AP,AQ];have c1:cE w4 ((w.heap.size+1)) 3 (iA d1):=zjD w4 _ 3 _ _ _ q74;have c2:cN w4 w 3 (iA d2):=zjD w4 _ 3 _ _ _ ae;have c3:cE w4 ((w.heap.size+1)) 4 (iA b1):=zjD w4 _ 4 _ _ _ q74;have c4:cN w4 w 4 (iA b2):=zjD w4 _ 4 _ _ _ ae
 rotate_left;all_goals
  have ar:=zc aj;clear aj ah ai q0 q1 q83 q74 ak ae ag af ad aq ao;by_cases hd:d1=d2
  .subst hd;have qd:(d1 != d1)=false:=by simp
   have qe:(d1==d1)=true:=by simp
   go_wp2;go_ret;exact⟨yz (by simp[zC]),ar.o⟩
  .have qd:(d1 != d2)=true:=by simpa using hd
   have qe:(d1==d2)=false:=by simpa using hd
   go_wp2;go_ret;exact⟨yz (by simp[zC,hd]),ar.o⟩
section
variable{P:Program}
theorem zo{op:Oper}{a:Act}{w:World}{K:Act->World->Prop}{Q:Exit->Act->World->Prop}(ty:TypeId)(p y:Operand)(ho:op.op=.store ty p y)
 (g off:Nat) (D:Array Value) (hp:a.eval p=.pointer (some (aA g off))) (hy:a.eval y=.agg D) (t:TypeId) (C:Array Value) (hg:w.heap[g]? =some (.cells C t (0,0))) (hC:off+D.size<=C.size) (h1:∀v∈D.toList,v.oneCell'=true) (hi:(P.info? ty).map (·.size)=some D.size)
 (h:∀w',w'.heap[g]? =some (.cells (C.toList.take off++D.toList++C.toList.drop (off+D.size)).toArray t (0,0))->kq g w w'->K (a.put op.dst undef) w'):op.wp P a w K Q:=by
 have hs:=run_storeCells_at P g off t D.toList 0 C w hg (by simp;omega) h1;have hr:(storeVar ty (aA g off) (.agg D)).run P w=.ok () (w.setRow g (C.toList.take off++D.toList++C.toList.drop (off+D.size)).toArray):=by
  simp only[Nat.add_zero,Array.length_toList] at hs;cases hq:P.info? ty with
  |none=>simp[hq] at hi
  |some i=>
   have hz:i.size=D.size:=by simpa [hq] using hi
   simp[storeVar,sizeOf,typeInfo,hq,Value.cells,hz,hs]
 unfold Oper.wp execOp;simp only[ho,hp,hy,Instr.storeAt,Instr.sureAddr,Sem.run_bind,Sem.run_pure,Result.andThen_ok,hr];exact h _ (setRow_heap _ _ C _ t (0,0) hg) (y9 _ _ _)
end
def jo(cur:Array Value)(cap:Nat)(l:List zU):Prop:=l.length<=cap/\cap<=maxLen/\cur.size=cap*5/\cur.toList.take (l.length*5)=qj l
def zy(w:World)(g cap:Nat)(l:List zU):Prop:=∃cur,w.heap[g]? =some (.cells cur 223 (0,0))/\jo cur cap l
theorem Xz(x:zU):∀(l:List zU) (k:Nat),k<l.length->qj (l.set k x)=(qj l).take (k*5)++x.cells.toList++(qj l).drop (k*5+5)
 | [],k,h=>by simp at h
 |m::l,0,_=>by
  have hc:m.cells.toList.length=5:=by simp[zU.cells]
  have e:qj (m::l)=m.cells.toList++qj l:=by simp[qj]
  have e2:qj (x::l)=x.cells.toList++qj l:=by simp[qj]
  rw[List.set_cons_zero,e,e2,Nat.zero_mul,List.take_zero,List.nil_append,zj8,List.drop_append_of_le_length (by omega),List.drop_of_length_le (by omega),List.nil_append]
 |m::l,k+1,h=>by
  have hc:m.cells.toList.length=5:=by simp[zU.cells]
  have ih:=Xz x l k (by simpa using h);have e:qj (m::l)=m.cells.toList++qj l:=by simp[qj]
  have e2:qj (m::l.set k x)=m.cells.toList++qj (l.set k x):=by simp[qj]
  rw[List.set_cons_succ,e,e2,ih];have h1:(k+1)*5=m.cells.toList.length+k*5:=by omega
  have h2:(k+1)*5+5=m.cells.toList.length+(k*5+5):=by omega
  rw[h1,List.take_length_add_append,Nat.add_assoc,List.drop_length_add_append];simp[List.append_assoc]
theorem jo.set{cur:Array Value}{cap:Nat}{l:List zU}(h:jo cur cap l)(k:Nat)(x:zU)(hk:k<l.length):jo (cur.toList.take (k*5)++x.cells.toList++cur.toList.drop (k*5+5)).toArray cap (l.set k x):=by
 obtain⟨h1,h2,h3,h4⟩:=h;have hx:x.cells.toList.length=5:=by simp[zU.cells]
 have hk5:k*5+5<=l.length*5:=by
  have:(k+1)*5<=l.length*5:=Nat.mul_le_mul_right 5 (by omega);omega
 have hlc:l.length*5<=cap*5:=Nat.mul_le_mul_right 5 h1;obtain⟨R,hR⟩:=gen (cur.toList.drop (l.length*5));have aa:cur.toList=qj l++R:=by rw[hR,<-h4,List.take_append_drop]
 have ad:(qj l).length=l.length*5:=jL l;refine⟨by simpa using h1,h2,?_,?_⟩
 .simp only[List.size_toArray,List.length_append,List.length_take,List.length_drop,hx,Array.length_toList];omega
 have e:cur.toList.take (k*5)++x.cells.toList++cur.toList.drop (k*5+5)=qj (l.set k x)++R:=by
  rw[aa,Xz x l k hk,List.take_append_of_le_length (by omega),List.drop_append_of_le_length (by omega)];simp[List.append_assoc]
 rw[List.toList_toArray,e,List.length_set,List.take_append_of_le_length (by rw[jL,List.length_set];exact zjA _),List.take_of_length_le (by rw[jL,List.length_set];exact zjA _)]
theorem zy.tims{w:World}{g cap:Nat}{l:List zU}(h:zy w g cap l):zdW w w.heap.size (some (aA g 0)) l.length (λi=>l.getD i kS):=λi hi=>by
 obtain⟨cur,hg,h1,h2,h3,h4⟩:=h;refine⟨g,0,rfl,zg hg,λj v hv=>?_⟩;rw[zjD w g _ _ _ _ hg,zj8];have hj:j<5:=by have:=(List.getElem?_eq_some_iff.1 hv).1;simpa [zU.cells] using this
 have e1:(cur.toList.take (l.length*5))[i*5+j]? =(qj l)[i*5+j]? :=by rw[h4]
 have aa:i*5+j<l.length*5:=by
  have:(i+1)*5<=l.length*5:=Nat.mul_le_mul_right 5 (by omega);omega
 rw[zkc,zj2 aa] at e1;rw[<-zkf,e1,<-hv];exact zcx l j hj i hi
theorem zy.keep{w w':World}{g cap:Nat}{l:List zU}(h:zy w g cap l)(hb:w'.heap[g]? =w.heap[g]?):zy w' g cap l:=by
 obtain⟨cur,hg,h1⟩:=h;exact⟨cur,hb.trans hg,h1⟩
def swapT(l:List zU)(i j:Nat):List zU:=(l.set i (l.getD j kS)).set j (l.getD i kS)
theorem zY(l:List zU)(i j:Nat):(swapT l i j).length=l.length:=by simp[swapT]
def upT:Nat->List zU->Nat->List zU
 |0,l,_=>l
 |f+1,l,i=>if i=0 then l else if zC (l.getD i kS) (l.getD ((i-1) / 2) kS) then upT f (swapT l i ((i-1) / 2)) ((i-1) / 2) else l
theorem Xv{f:Nat}{l:List zU}{i:Nat}(h:i≠0->zC (l.getD i kS) (l.getD ((i-1) / 2) kS)=false):upT f l i=l:=by
 cases f with
 |zero=>rfl
 |succ f=>
  rw[upT];by_cases e:i=0
  .rw [zj2 e]
  rw[zj3 e,h e];rfl
theorem zcv{f:Nat}{l:List zU}{i:Nat}(e:i≠0)(h:zC (l.getD i kS) (l.getD ((i-1) / 2) kS)=true):upT (f+1) l i=upT f (swapT l i ((i-1) / 2)) ((i-1) / 2):=by
 rw[upT,zj3 e,zj2 h]
theorem GH(pb off g n cap i0:Nat)(l0:List zU)(w:World)(hn:n<=1000000000)(hc:w.cell? (aA pb off)=some (.slice (some (aA g 0)) n cap))(hpg:pb≠g)(hln:l0.length=n)(hr:zy w g cap l0)(hi:i0<n):
 Calls prog 200 #[.pointer (some (aA pb off)),iA i0] w λe w'=>e=.returned (.tuple #[])/\zy w' g cap (upT i0 l0 i0)/\zk (λk=>k=g) w w':=by
 obtain⟨HC,HR,a7,a8,HN⟩:=x6 hc hr hln hi hn;have aO:pb<w.heap.size:=zjI _ _ hc;clear hc hr hln hi hn;go_enter func200,ntmps200;go_wp2;go_loopw [1,4] (λiv _ wr=>∃(i:Nat) (l:List zU) (f:Nat),iv=iA i/\i<n/\l.length=n/\upT f l i=upT i0 l0 i0/\i<=f/\zy wr g cap l/\zk (λk=>k=g) w wr) (λiv _ _=>(intOf iv).toNat)
 case atStart=>exact⟨i0,l0,i0,rfl,a8,a7,rfl,zjA _,HR,⟨rfl,rfl,rfl,zjA _,λ_ _ _=>rfl⟩⟩
 obtain⟨i,l,f,rfl,aE,hlen,aK,aQ,ad,hs⟩:=hrel;obtain⟨ay,ah,aa,ag,aG⟩:=x6 aK hlen ad hs aQ;clear aK hlen ad hs aQ;by_cases h0:i=0
 .subst h0;have af:Hid (zy wr g cap (upT i0 l0 i0)):=by
   unfold Hid;rw[<-ay.o,Xv (λh=>absurd rfl h)];exact aa
  go_wp2;first|exact bodyPost_end (v:=.tuple #[]) (by simp[results,results200]) rfl ⟨rfl,af.o,ag.o⟩|exact zjT (v:=.tuple #[]) (by simp[results,results200]) rfl ⟨rfl,af.o,ag.o⟩
 have aD:(0:Int)<i:=by omega
 have hgt:decide ((0:Int)<i)=true:=zjQ aD;obtain⟨p,hp⟩:∃p,p=(i-1) / 2:=⟨_,rfl⟩;have aP:p<i:=by omega
 have hnb:i<=1000000000:=by have:=HN.o;omega
 have aW:Int.tdiv ((i:Int)-1) 2=(p:Int):=by
  have e1:(i:Int)-1=((i-1:Nat):Int):=by omega
  rw[e1,hp];rfl
 obtain⟨HP,aZ⟩:=zn hp aP;have az:Hid (p<n):=Nat.lt_trans aP aE;have aR:wr.cell? (aA pb off)=some (.slice (some (aA g 0)) l.length cap):=by
  rw[ah.o];exact(zjH (w:=w) (a:=(aA pb off)) (ag.o.block pb aO hpg)).trans HC
 have aJ:=zc (KG pb off i p l (some (aA g 0)) cap wr aR aa.o.tims (by rw[ah.o];exact aE) (by rw[ah.o];exact az));obtain⟨bv,aF⟩:=gen (zC (l.getD i kS) (l.getD p kS));rw[<-aF] at aJ;have aH:=zc aF;clear hp aF aR;go_wp2_with fail
 refine aJ.o.mono ?_;rintro e w2 ⟨rfl,aq⟩;have ak:Hid (zk (λk=>k=g) w w2):=⟨aq.os.trans ag.o.os,aq.tape.trans ag.o.tape,aq.output.trans ag.o.output,zjF ag.o.size aq.size,λk hk hn=>(aq.block k (zjE hk ag.o.size)).trans (ag.o.block k hk hn)⟩;have ai:Hid (zy w2 g cap l):=aa.o.keep (aq.block g (by obtain⟨cur,hg,_⟩:=aa.o;exact zg hg));have aw:cE w2 pb off (.slice (some (aA g 0)) n cap):=(zjH (w:=w) (a:=(aA pb off)) (ak.o.block pb aO hpg)).trans HC;clear aq aJ ag aa;cases bv with
 |false=>
  have af:Hid (zy w2 g cap (upT i0 l0 i0)):=by
   unfold Hid;rw[<-ay.o,Xv (λ_=>by rw[<-HP.o];exact aH.o.symm)];exact ai
  go_wp2;first|exact zjT (v:=.tuple #[]) (by simp[results,results200]) rfl ⟨rfl,af.o,ak.o⟩|exact bodyPost_end (v:=.tuple #[]) (by simp[results,results200]) rfl ⟨rfl,af.o,ak.o⟩
 |true=>
  obtain⟨f,rfl⟩:∃f',f=f'+1:=⟨f-1,by have:=aG.o;omega⟩;have ax:Hid (upT f (swapT l i p) p=upT i0 l0 i0):=by
   unfold Hid;rw[<-ay.o,zcv h0 (by rw[<-HP.o];exact aH.o.symm),<-HP]
  have a6:Hid (p<=f):=by have:=aG.o;unfold Hid;omega
  obtain⟨x,hx⟩:=gen (l.getD i kS);obtain⟨y,hy⟩:=gen (l.getD p kS);obtain⟨bI,oI,eI,_,aC⟩:=ai.o.tims i (by rw[ah.o];exact aE);cases eI;obtain⟨bQ,oQ,eQ,_,aB⟩:=ai.o.tims p (by rw[ah.o];exact az);cases eQ;simp only[<-hx,Nat.zero_add] at aC;simp only[<-hy,Nat.zero_add] at aB;obtain⟨n1,h1,r1,d1,b1⟩:=x;obtain⟨n2,h2,r2,d2,b2⟩:=y;obtain⟨HX,HY⟩:=zn hx hy;have aT:Hid (w2.rangeAt g (i*5) [iA n1,iA h1,iA r1,iA d1,iA b1]):=aC;have aS:Hid (w2.rangeAt g (p*5) [iA n2,iA h2,iA r2,iA d2,iA b2]):=aB;have hpn:p<n:=az.o;have aY:(i:Int)<n:=by omega
  have aX:(p:Int)<n:=by omega
  clear hx hy aC aB ay aG aH;go_wp2_with fail
  refine rgd (S:=λW=>cE W pb off (.slice (some (aA g 0)) n cap)) aw λhH=>?_;refine zQ [(0,some 15,pA pb off),(1,some 16,pA pb off),(2,some 17,pA pb off),(3,some 18,.slice (some (aA g 0)) n cap),(4,some 19,iA i),(5,some 20,pA pb off),(6,some 21,pA pb off),(7,some 22,pA pb off),(8,some 23,.slice (some (aA g 0)) n cap),(9,some 24,iA p),(10,some 25,pA pb off),(11,some 26,pA pb off),(12,some 27,pA pb off),(13,some 28,.slice (some (aA g 0)) n cap),(14,some 29,iA p),(15,some 30,pA g (p*5)),(17,some 32,pA pb off),(18,some 33,pA pb off),(19,some 34,pA pb off),(20,some 35,.slice (some (aA g 0)) n cap),(21,some 36,iA i),(22,some 37,pA g (i*5))] _ _ hH (λx h=>h) ?_;simp only[ze,AP,pA];refine Jp 16 23 (λK hK=>?_) λK hK=>?_;focus
   rw[zj2 (by rfl)];refine wp_load_mid 223 _ rfl g (p*5) rfl [iA n2,iA h2,iA r2,iA d2,iA b2] _ aS underlying223 rfl Tryz.zf6 ?_;refine hK.out _ _ aw λhH=>?_;clear hK K;simp only[AP,AQ];refine zv 23 λK hK=>?_;rw[zj2 (by rfl)];refine wp_load_mid 223 _ rfl g (i*5) rfl [iA n1,iA h1,iA r1,iA d1,iA b1] _ aT underlying223 rfl Tryz.zf6 ?_
  rotate_left;focus
   rw[zj2 (by rfl)];refine wp_load_mid 223 _ rfl g (i*5) rfl [iA n1,iA h1,iA r1,iA d1,iA b1] _ aT underlying223 rfl Tryz.zf6 ?_;refine hK.out _ _ aw λhH=>?_;clear hK K;simp only[AP,AQ];refine zv 16 λK hK=>?_;rw[zj2 (by rfl)];refine wp_load_mid 223 _ rfl g (p*5) rfl [iA n2,iA h2,iA r2,iA d2,iA b2] _ aS underlying223 rfl Tryz.zf6 ?_
  rotate_left;all_goals
   refine hK.out _ _ aw λhH=>?_;clear hK K;simp only[AP,AQ];refine y7 [(24,some 39,pA g (i*5))] _ _ hH ?_;simp only[ze,AP,pA];refine zv 25 λK hK=>?_;rw[zj2 (by rfl)];obtain⟨cur,au,ad⟩:=ai.o;refine zo 223 _ _ rfl g (i*5) #[iA n2,iA h2,iA r2,iA d2,iA b2] rfl rfl 223 cur au (by have h3:=ad.2.2.1;have h1:=ad.1;have h2:=ah.o;simp;omega) (by simp[Value.oneCell']) Tryz.zf6 ?_;intro w4 aN an;have aV:zy w4 g cap (l.set i ⟨n2,h2,r2,d2,b2⟩):=⟨_,aN,ad.set i ⟨n2,h2,r2,d2,b2⟩ (by rw[ah.o];omega)⟩;have ao:cE w4 pb off (.slice (some (aA g 0)) n cap):=(zjH (w:=w2) (a:=(aA pb off)) (an.block pb hpg)).trans aw;refine hK.out _ _ ao λhH=>?_;clear hK K;simp only[AP,AQ];refine y7 [(26,some 40,pA g (p*5))] _ _ hH ?_;simp only[ze,AP,pA];refine zv 27 λK hK=>?_;rw[zj2 (by rfl)];obtain⟨cur4,aj,ae⟩:=aV;refine zo 223 _ _ rfl g (p*5) #[iA n1,iA h1,iA r1,iA d1,iA b1] rfl rfl 223 cur4 aj (by have h3:=ae.2.2.1;have h1:=ae.1;have h2:=ah.o;simp only[List.length_set] at h1;simp;omega) (by simp[Value.oneCell']) Tryz.zf6 ?_;intro w5 aM al;have aL:zy w5 g cap ((l.set i ⟨n2,h2,r2,d2,b2⟩).set p ⟨n1,h1,r1,d1,b1⟩):=⟨_,aM,ae.set p ⟨n1,h1,r1,d1,b1⟩ (by rw[List.length_set,ah.o];omega)⟩;have av:cE w5 pb off (.slice (some (aA g 0)) n cap):=(zjH (w:=w4) (a:=(aA pb off)) (al.block pb hpg)).trans ao;refine hK.out _ _ av λhH=>?_;clear hK K hH;refine dnr ?_;simp only[AP,AQ];have aU:Hid (zy w5 g cap (swapT l i p)/\zk (λk=>k=g) w w5):=by
    refine⟨?_,?_⟩
    .unfold swapT;rw[<-HX.o,<-HY.o];exact aL
    .have ar:zk (λk=>k=g) w w4:=⟨an.os.trans ak.o.os,an.tape.trans ak.o.tape,an.output.trans ak.o.output,by rw[an.size];exact ak.o.size,λk hk hn=>(an.block k hn).trans (ak.o.block k hk hn)⟩;exact⟨al.os.trans ar.os,al.tape.trans ar.tape,al.output.trans ar.output,by rw[al.size];exact ar.size,λk hk hn=>(al.block k hn).trans (ar.block k hk hn)⟩
   clear aL av ao an al aN aM au ad aj ae;go_wp2;go_roundw
   case rel=>exact⟨p,swapT l i p,f,rfl,az,by rw[zY];exact ah,ax,a6,aU.o.1,aU.o.2⟩
   case measure=>have:=aZ.o;simp[intOf];omega
variable{l:List zU}{f i:Nat}
def jZ(l:List zU):Nat->Nat->Nat->Nat
 |0,_,m=>m
 |f+1,c,m=>jZ l f (c+1) (if c<l.length/\zC (l.getD c kS) (l.getD m kS)=true then c else m)
def yT(l:List zU)(i:Nat):Nat:=jZ l 2 (2*i+1) i
theorem gK{m:Nat}:∀(f c:Nat),l.length<=c->jZ l f c m=m
 |0,_,_=>rfl
 |f+1,c,h=>by
  rw[jZ,zj3 (by omega)];exact gK f (c+1) (by omega)
def qZ:Nat->List zU->Nat->List zU
 |0,l,_=>l
 |f+1,l,i=>if yT l i=i then l else qZ f (swapT l i (yT l i)) (yT l i)
theorem Ks(h:yT l i=i):qZ f l i=l:=by
 cases f with
 |zero=>rfl
 |succ f=>rw[qZ,zj2 h]
theorem Kt(h:yT l i≠i):qZ (f+1) l i=qZ f (swapT l i (yT l i)) (yT l i):=by rw[qZ,zj3 h]
theorem Jh(pb off g n cap i0:Nat)(l0:List zU)(w:World)(hn:n<=1000000000)(hc:w.cell? (aA pb off)=some (.slice (some (aA g 0)) n cap))(hpg:pb≠g)(hln:l0.length=n)(hr:zy w g cap l0)(hi:i0<=n):
 Calls prog 130 #[.pointer (some (aA pb off)),iA i0] w λe w'=>e=.returned (.tuple #[])/\zy w' g cap (qZ (n-i0) l0 i0)/\zk (λk=>k=g) w w':=by
 obtain⟨HC,HR,bj,bk,HN⟩:=x6 hc hr hln hi hn;have bf:pb<w.heap.size:=zjI _ _ hc;clear hc hr hln hi hn;go_enter func130,ntmps130;go_wp2;go_loopw [1,4,5] (λiv _ _ wr=>∃(i:Nat) (l:List zU) (f:Nat),iv=iA i/\i<=n/\l.length=n/\qZ f l i=qZ (n-i0) l0 i0/\n-i<=f/\zy wr g cap l/\zk (λk=>k=g) w wr) (λiv _ _ _=>n-(intOf iv).toNat)
 case atStart=>exact⟨i0,l0,n-i0,rfl,bk,bj,rfl,zjA _,HR,⟨rfl,rfl,rfl,zjA _,λ_ _ _=>rfl⟩⟩
 obtain⟨wo,bb⟩:=gen wr;subst bb;obtain⟨i,l,f,rfl,bg,hlen,aZ,a6,ad,hs⟩:=hrel;obtain⟨aC,af,ax,aD,aE,HIN⟩:=JQ aZ hlen ad hs a6 bg;have hnb:n<=1000000000:=HN.o;clear aZ hlen ad hs a6;go_wp2;go_loopw [4,5] (λmv cv wr=>∃(c m:Nat),cv=iA c/\mv=iA m/\2*i+1<=c/\c<=2*i+3/\i<=m/\m<c/\(m=i\/m<n)/\jZ l (2*i+3-c) c m=yT l i/\BW wo wr) (λ_ cv _=>2*i+3-(intOf cv).toNat)
 case atStart=>exact⟨2*i+1,i,by go_num,rfl,zjA _,by omega,zjA _,by omega,zj0 rfl,by unfold yT;rw[show 2*i+3-(2*i+1)=2 by omega],zjB _ _⟩
 obtain⟨c,m,rfl,rfl,hc1,hc3,bh,hmc,aP,hle,hb⟩:=hrel;obtain⟨aO,aN,HB⟩:=zS hle aP hb;have ak:Hid (zk (λk=>k=g) w wr):=⟨hb.os.trans aD.o.os,hb.tape.trans aD.o.tape,hb.output.trans aD.o.output,zjF aD.o.size hb.size,λk hk hn=>(hb.block k (zjE hk aD.o.size)).trans (aD.o.block k hk hn)⟩;have ae:Hid (zy wr g cap l):=ax.o.keep (hb.block g (by obtain⟨cur,hg,_⟩:=ax.o;exact zg hg));have ar:cE wr pb off (.slice (some (aA g 0)) n cap):=(zjH (w:=w) (a:=(aA pb off)) (ak.o.block pb bf hpg)).trans HC;clear hle aP hb;by_cases hc2:c<=2*i+2
 .have bd:(c:Int)<=2*(i:Int)+2:=by omega
  by_cases aV:c<n
  .have bc:(c:Int)<n:=by omega
   have aP:m<n:=by omega
   have aY:=zc (KG pb off c m l (some (aA g 0)) cap wr (by rw[af.o];exact ar) ae.o.tims (by rw[af.o];exact aV) (by rw[af.o];exact aP));obtain⟨bv,aQ⟩:=gen (zC (l.getD c kS) (l.getD m kS));rw[<-aQ] at aY;have HBV:=zc aQ;have a8:Hid (jZ l (2*i+3-(c+1)) (c+1) (if bv=true then c else m)=yT l i):=by
    have h:=aO.o;rw[show 2*i+3-c=(2*i+3-(c+1))+1 by omega,jZ] at h;rw[<-aQ] at h;have h2:c<l.length:=by rw[af.o];exact aV
    simp only[h2,true_and] at h;exact h
   clear aQ;go_wp2_with fail
   refine aY.o.mono ?_;rintro e w2 ⟨rfl,a7⟩;have ba:Hid (BW wo w2):=HB.o.trans (a7.mono HB.o.size);clear a7 aY;cases bv with
   |true=>
    go_wp2;go_roundw
    case rel=>exact⟨c+1,c,by go_num,rfl,by omega,by omega,by omega,by omega,zj1 aV,by simpa using a8.o,ba.o⟩
    simp[intOf];omega
   |false=>
    go_wp2;go_roundw
    case rel=>exact⟨c+1,m,by go_num,rfl,by omega,by omega,bh,by omega,aN.o,by simpa using a8.o,ba.o⟩
    simp[intOf];omega
  have bc:¬(c:Int)<n:=by omega
  have aB:Hid (yT l i=m):=by unfold Hid;rw[<-aO.o,gK _ _ (by rw[af.o];omega)]
  by_cases an:m=i
  .have aw:Hid (zy wr g cap (qZ (n-i0) l0 i0)):=by
    unfold Hid;rw[<-aC.o,Ks (by rw[aB.o];exact an)];exact ae
   have qm:((m:Int)==i)=true:=by simp;omega
   clear an;go_wp2;first|exact zjT (v:=.tuple #[]) (by simp[results,results130]) rfl ⟨rfl,aw.o,ak.o⟩|exact bodyPost_end (v:=.tuple #[]) (by simp[results,results130]) rfl ⟨rfl,aw.o,ak.o⟩
  have aJ:m<n:=by
   rcases aN with h|h
   .exact absurd h an
   exact h
  have aU:i<n:=by omega
  have qm:((m:Int)==i)=false:=by simp;omega
  obtain⟨f,rfl⟩:∃f',f=f'+1:=⟨f-1,by have:=aE.o;omega⟩;have au:Hid (qZ f (swapT l i m) m=qZ (n-i0) l0 i0):=by
   unfold Hid;rw[<-aC.o,Kt (by rw[aB.o];exact an),aB]
  have aW:Hid (n-m<=f):=by have:=aE.o;unfold Hid;omega
  have av:=zc aJ;have aX:Hid (i<m):=by unfold Hid;omega
  obtain⟨x,hx⟩:=gen (l.getD i kS);obtain⟨y,hy⟩:=gen (l.getD m kS);obtain⟨bI,oI,eI,_,az⟩:=ae.o.tims i (by rw[af.o];exact aU);cases eI;obtain⟨bQ,oQ,eQ,_,ay⟩:=ae.o.tims m (by rw[af.o];exact aJ);cases eQ;simp only[<-hx,Nat.zero_add] at az;simp only[<-hy,Nat.zero_add] at ay;obtain⟨n1,h1,r1,d1,b1⟩:=x;obtain⟨n2,h2,r2,d2,b2⟩:=y;obtain⟨HX,HY⟩:=zn hx hy;have aL:Hid (wr.rangeAt g (i*5) [iA n1,iA h1,iA r1,iA d1,iA b1]):=az;have aK:Hid (wr.rangeAt g (m*5) [iA n2,iA h2,iA r2,iA d2,iA b2]):=ay;have aT:(i:Int)<n:=by omega
  have aS:(m:Int)<n:=by omega
  clear hx hy az ay aC aE aO HB aN an;go_wp2_with fail
  refine rgd (S:=λW=>cE W pb off (.slice (some (aA g 0)) n cap)) ar λhH=>?_;refine zQ [(0,some 34,pA pb off),(1,some 35,pA pb off),(2,some 36,pA pb off),(3,some 37,.slice (some (aA g 0)) n cap),(4,some 38,iA i),(5,some 39,pA pb off),(6,some 40,pA pb off),(7,some 41,pA pb off),(8,some 42,.slice (some (aA g 0)) n cap),(9,some 43,iA m),(10,some 44,pA pb off),(11,some 45,pA pb off),(12,some 46,pA pb off),(13,some 47,.slice (some (aA g 0)) n cap),(14,some 48,iA m),(15,some 49,pA g (m*5)),(17,some 51,pA pb off),(18,some 52,pA pb off),(19,some 53,pA pb off),(20,some 54,.slice (some (aA g 0)) n cap),(21,some 55,iA i),(22,some 56,pA g (i*5))] _ _ hH (λx h=>h) ?_;simp only[ze,AP,pA];refine Jp 16 23 (λK hK=>?_) λK hK=>?_;focus
   rw[zj2 (by rfl)];refine wp_load_mid 223 _ rfl g (m*5) rfl [iA n2,iA h2,iA r2,iA d2,iA b2] _ aK underlying223 rfl Tryz.zf6 ?_;refine hK.out _ _ ar λhH=>?_;clear hK K;simp only[AP,AQ];refine zv 23 λK hK=>?_;rw[zj2 (by rfl)];refine wp_load_mid 223 _ rfl g (i*5) rfl [iA n1,iA h1,iA r1,iA d1,iA b1] _ aL underlying223 rfl Tryz.zf6 ?_
  rotate_left;focus
   rw[zj2 (by rfl)];refine wp_load_mid 223 _ rfl g (i*5) rfl [iA n1,iA h1,iA r1,iA d1,iA b1] _ aL underlying223 rfl Tryz.zf6 ?_;refine hK.out _ _ ar λhH=>?_;clear hK K;simp only[AP,AQ];refine zv 16 λK hK=>?_;rw[zj2 (by rfl)];refine wp_load_mid 223 _ rfl g (m*5) rfl [iA n2,iA h2,iA r2,iA d2,iA b2] _ aK underlying223 rfl Tryz.zf6 ?_
  rotate_left;all_goals
   refine hK.out _ _ ar λhH=>?_;clear hK K;simp only[AP,AQ];refine y7 [(24,some 58,pA g (i*5))] _ _ hH ?_;simp only[ze,AP,pA];refine zv 25 λK hK=>?_;rw[zj2 (by rfl)];obtain⟨cur,ao,ad⟩:=ae.o;refine zo 223 _ _ rfl g (i*5) #[iA n2,iA h2,iA r2,iA d2,iA b2] rfl rfl 223 cur ao (by have h3:=ad.2.2.1;have h1:=ad.1;have h2:=af.o;simp;omega) (by simp[Value.oneCell']) Tryz.zf6 ?_;intro w4 aH ai;have aR:zy w4 g cap (l.set i ⟨n2,h2,r2,d2,b2⟩):=⟨_,aH,ad.set i ⟨n2,h2,r2,d2,b2⟩ (by rw[af.o];omega)⟩;have aj:cE w4 pb off (.slice (some (aA g 0)) n cap):=(zjH (w:=wr) (a:=(aA pb off)) (ai.block pb hpg)).trans ar;refine hK.out _ _ aj λhH=>?_;clear hK K;simp only[AP,AQ];refine y7 [(26,some 59,pA g (m*5))] _ _ hH ?_;simp only[ze,AP,pA];refine zv 27 λK hK=>?_;rw[zj2 (by rfl)];obtain⟨cur4,ag,aa⟩:=aR;refine zo 223 _ _ rfl g (m*5) #[iA n1,iA h1,iA r1,iA d1,iA b1] rfl rfl 223 cur4 ag (by have h3:=aa.2.2.1;have h1:=aa.1;have h2:=af.o;simp only[List.length_set] at h1;simp;omega) (by simp[Value.oneCell']) Tryz.zf6 ?_;intro w5 aG ah;have aF:zy w5 g cap ((l.set i ⟨n2,h2,r2,d2,b2⟩).set m ⟨n1,h1,r1,d1,b1⟩):=⟨_,aG,aa.set m ⟨n1,h1,r1,d1,b1⟩ (by rw[List.length_set,af.o];omega)⟩;have aq:cE w5 pb off (.slice (some (aA g 0)) n cap):=(zjH (w:=w4) (a:=(aA pb off)) (ah.block pb hpg)).trans aj;refine hK.out _ _ aq λhH=>?_;clear hK K hH;refine dnr ?_;simp only[AP,AQ];have aM:Hid (zy w5 g cap (swapT l i m)/\zk (λk=>k=g) w w5):=by
    refine⟨?_,?_⟩
    .unfold swapT;rw[<-HX.o,<-HY.o];exact aF
    .have al:zk (λk=>k=g) w w4:=⟨ai.os.trans ak.o.os,ai.tape.trans ak.o.tape,ai.output.trans ak.o.output,by rw[ai.size];exact ak.o.size,λk hk hn=>(ai.block k hn).trans (ak.o.block k hk hn)⟩;exact⟨ah.os.trans al.os,ah.tape.trans al.tape,ah.output.trans al.output,by rw[ah.size];exact al.size,λk hk hn=>(ah.block k hn).trans (al.block k hk hn)⟩
   clear aF aq aj ai ah aH aG ao ad ag aa;go_wp2;go_roundw
   case rel=>exact⟨m,swapT l i m,f,rfl,zjS av,by rw[zY];exact af,au,aW,aM.o.1,aM.o.2⟩
   case measure=>have:=av.o;have:=aX.o;simp[intOf];omega
 have bd:¬(c:Int)<=2*(i:Int)+2:=by omega
 have aB:Hid (yT l i=m):=by unfold Hid;rw[<-aO.o,show 2*i+3-c=0 by omega];rfl
 by_cases an:m=i
 .have aw:Hid (zy wr g cap (qZ (n-i0) l0 i0)):=by
   unfold Hid;rw[<-aC.o,Ks (by rw[aB.o];exact an)];exact ae
  have qm:((m:Int)==i)=true:=by simp;omega
  clear an;go_wp2;first|exact zjT (v:=.tuple #[]) (by simp[results,results130]) rfl ⟨rfl,aw.o,ak.o⟩|exact bodyPost_end (v:=.tuple #[]) (by simp[results,results130]) rfl ⟨rfl,aw.o,ak.o⟩
 have aJ:m<n:=by
  rcases aN with h|h
  .exact absurd h an
  exact h
 have aU:i<n:=by omega
 have qm:((m:Int)==i)=false:=by simp;omega
 obtain⟨f,rfl⟩:∃f',f=f'+1:=⟨f-1,by have:=aE.o;omega⟩;have au:Hid (qZ f (swapT l i m) m=qZ (n-i0) l0 i0):=by
  unfold Hid;rw[<-aC.o,Kt (by rw[aB.o];exact an),aB]
 have aW:Hid (n-m<=f):=by have:=aE.o;unfold Hid;omega
 have av:=zc aJ;have aX:Hid (i<m):=by unfold Hid;omega
 obtain⟨x,hx⟩:=gen (l.getD i kS);obtain⟨y,hy⟩:=gen (l.getD m kS);obtain⟨bI,oI,eI,_,az⟩:=ae.o.tims i (by rw[af.o];exact aU);cases eI;obtain⟨bQ,oQ,eQ,_,ay⟩:=ae.o.tims m (by rw[af.o];exact aJ);cases eQ;simp only[<-hx,Nat.zero_add] at az;simp only[<-hy,Nat.zero_add] at ay;obtain⟨n1,h1,r1,d1,b1⟩:=x;obtain⟨n2,h2,r2,d2,b2⟩:=y;obtain⟨HX,HY⟩:=zn hx hy;have aL:Hid (wr.rangeAt g (i*5) [iA n1,iA h1,iA r1,iA d1,iA b1]):=az;have aK:Hid (wr.rangeAt g (m*5) [iA n2,iA h2,iA r2,iA d2,iA b2]):=ay;have aT:(i:Int)<n:=by omega
 have aS:(m:Int)<n:=by omega
 clear hx hy az ay aC aE aO HB aN an;go_wp2_with fail
 refine rgd (S:=λW=>cE W pb off (.slice (some (aA g 0)) n cap)) ar λhH=>?_;refine zQ [(0,some 34,pA pb off),(1,some 35,pA pb off),(2,some 36,pA pb off),(3,some 37,.slice (some (aA g 0)) n cap),(4,some 38,iA i),(5,some 39,pA pb off),(6,some 40,pA pb off),(7,some 41,pA pb off),(8,some 42,.slice (some (aA g 0)) n cap),(9,some 43,iA m),(10,some 44,pA pb off),(11,some 45,pA pb off),(12,some 46,pA pb off),(13,some 47,.slice (some (aA g 0)) n cap),(14,some 48,iA m),(15,some 49,pA g (m*5)),(17,some 51,pA pb off),(18,some 52,pA pb off),(19,some 53,pA pb off),(20,some 54,.slice (some (aA g 0)) n cap),(21,some 55,iA i),(22,some 56,pA g (i*5))] _ _ hH (λx h=>h) ?_;simp only[ze,AP,pA];refine Jp 16 23 (λK hK=>?_) λK hK=>?_;focus
  rw[zj2 (by rfl)];refine wp_load_mid 223 _ rfl g (m*5) rfl [iA n2,iA h2,iA r2,iA d2,iA b2] _ aK underlying223 rfl Tryz.zf6 ?_;refine hK.out _ _ ar λhH=>?_;clear hK K;simp only[AP,AQ];refine zv 23 λK hK=>?_;rw[zj2 (by rfl)];refine wp_load_mid 223 _ rfl g (i*5) rfl [iA n1,iA h1,iA r1,iA d1,iA b1] _ aL underlying223 rfl Tryz.zf6 ?_
 rotate_left;focus
  rw[zj2 (by rfl)];refine wp_load_mid 223 _ rfl g (i*5) rfl [iA n1,iA h1,iA r1,iA d1,iA b1] _ aL underlying223 rfl Tryz.zf6 ?_;refine hK.out _ _ ar λhH=>?_;clear hK K;simp only[AP,AQ];refine zv 16 λK hK=>?_;rw[zj2 (by rfl)];refine wp_load_mid 223 _ rfl g (m*5) rfl [iA n2,iA h2,iA r2,iA d2,iA b2] _ aK underlying223 rfl Tryz.zf6 ?_
 rotate_left;all_goals
  refine hK.out _ _ ar λhH=>?_;clear hK K;simp only[AP,AQ];refine y7 [(24,some 58,pA g (i*5))] _ _ hH ?_;simp only[ze,AP,pA];refine zv 25 λK hK=>?_;rw[zj2 (by rfl)];obtain⟨cur,ao,ad⟩:=ae.o;refine zo 223 _ _ rfl g (i*5) #[iA n2,iA h2,iA r2,iA d2,iA b2] rfl rfl 223 cur ao (by have h3:=ad.2.2.1;have h1:=ad.1;have h2:=af.o;simp;omega) (by simp[Value.oneCell']) Tryz.zf6 ?_;intro w4 aH ai;have aR:zy w4 g cap (l.set i ⟨n2,h2,r2,d2,b2⟩):=⟨_,aH,ad.set i ⟨n2,h2,r2,d2,b2⟩ (by rw[af.o];omega)⟩;have aj:cE w4 pb off (.slice (some (aA g 0)) n cap):=(zjH (w:=wr) (a:=(aA pb off)) (ai.block pb hpg)).trans ar;refine hK.out _ _ aj λhH=>?_;clear hK K;simp only[AP,AQ];refine y7 [(26,some 59,pA g (m*5))] _ _ hH ?_;simp only[ze,AP,pA];refine zv 27 λK hK=>?_;rw[zj2 (by rfl)];obtain⟨cur4,ag,aa⟩:=aR;refine zo 223 _ _ rfl g (m*5) #[iA n1,iA h1,iA r1,iA d1,iA b1] rfl rfl 223 cur4 ag (by have h3:=aa.2.2.1;have h1:=aa.1;have h2:=af.o;simp only[List.length_set] at h1;simp;omega) (by simp[Value.oneCell']) Tryz.zf6 ?_;intro w5 aG ah;have aF:zy w5 g cap ((l.set i ⟨n2,h2,r2,d2,b2⟩).set m ⟨n1,h1,r1,d1,b1⟩):=⟨_,aG,aa.set m ⟨n1,h1,r1,d1,b1⟩ (by rw[List.length_set,af.o];omega)⟩;have aq:cE w5 pb off (.slice (some (aA g 0)) n cap):=(zjH (w:=w4) (a:=(aA pb off)) (ah.block pb hpg)).trans aj;refine hK.out _ _ aq λhH=>?_;clear hK K hH;refine dnr ?_;simp only[AP,AQ];have aM:Hid (zy w5 g cap (swapT l i m)/\zk (λk=>k=g) w w5):=by
   refine⟨?_,?_⟩
   .unfold swapT;rw[<-HX.o,<-HY.o];exact aF
   .have al:zk (λk=>k=g) w w4:=⟨ai.os.trans ak.o.os,ai.tape.trans ak.o.tape,ai.output.trans ak.o.output,by rw[ai.size];exact ak.o.size,λk hk hn=>(ai.block k hn).trans (ak.o.block k hk hn)⟩;exact⟨ah.os.trans al.os,ah.tape.trans al.tape,ah.output.trans al.output,by rw[ah.size];exact al.size,λk hk hn=>(ah.block k hn).trans (al.block k hk hn)⟩
  clear aF aq aj ai ah aH aG ao ad ag aa;go_wp2;go_roundw
  case rel=>exact⟨m,swapT l i m,f,rfl,zjS av,by rw[zY];exact af,au,aW,aM.o.1,aM.o.2⟩
  case measure=>have:=av.o;have:=aX.o;simp[intOf];omega
end
section
open Proofs.Tryz
variable{w:World}{cap:Nat}{l:List zU}
theorem Tryz.zgf:(prog.info? 177).map (·.size)=some 3:=by kernel_rfl
theorem Y9{base n:Nat}{p:Option Addr}(h:w.ownsRow base 223 5 (.slice p n cap) n (qj l))(hl:l.length=n)(hn:0<n):∃g,p=some (aA g 0)/\base<=g/\zy w g cap l:=by
 rcases h.2 with⟨e0,h0⟩|⟨g,cap',cur,e0,hb,hg,aa,ae,ad,ht⟩
 .omega
 cases e0;subst hl;exact⟨g,rfl,hb,cur,hg,aa,ae,ad,ht⟩
theorem YT{base g:Nat}(h:zy w g cap l)(hb:base<=g):w.ownsRow base 223 5 (.slice (some (aA g 0)) l.length cap) l.length (qj l):=by
 obtain⟨cur,hg,h1,h2,h3,h4⟩:=h;exact⟨jL l,zj1 ⟨g,cap,cur,rfl,hb,hg,h1,h2,h3,h4⟩⟩
theorem vM:∀(f:Nat) (l:List zU) (i:Nat),(upT f l i).length=l.length
 |0,_,_=>rfl
 |f+1,l,i=>by
  rw[upT];split
  .rfl
  .split
   .rw [vM f,zY]
   .rfl
def zdX(pb off base:Nat)(C:Array Value)(t:TypeId)(l:List zU)(v:Value)(bg:Int)(x:zU)(w:World)(e:Ending)(w':World):Prop:=
 ∃v',e=.returned (.tuple #[])/\w'.heap[pb]? =some (.cells ((C.setIfInBounds off v').setIfInBounds (off+1) (iA (bg+1))) t (0,0))/\w'.ownsRow base 223 5 v' (l.length+1) (qj (upT l.length (l++[x]) l.length))/\(v'.ownBlock=v.ownBlock\/∀g,v'.ownBlock=some g->w.heap.size<=g)/\zk (λk=>k=pb\/some k=v.ownBlock) w w'
theorem zcj(pb off base:Nat)(C:Array Value)(t:TypeId)(l:List zU)(v:Value)(tn th tr due bg:Int)(w:World)(hq:w.heap[pb]? =some (.cells C t (0,0)))(ht:t≠223)(hc0:C[off]? =some v)(hc1:C[off+1]? =some (iA bg))(hown:w.ownsRow base 223 5 v l.length (qj l))(hbase:base<=w.heap.size)(hlen:l.length<=100000000)(hbg:0<=bg/\bg<=1000000000):
 Calls prog 183 #[pA pb off,.agg #[iA tn,iA th,iA tr],iA due] w (zdX pb off base C t l v bg ⟨tn,th,tr,due,bg⟩ w):=by
 obtain⟨iW,a7,aX,aW,aV⟩:=info_parts Tryz.ziB;obtain⟨p,cap,rfl⟩:=zm hown;have aY:pb<w.heap.size:=zg hq;have aJ:∀g,Value.ownBlock (.slice p l.length cap)=some g->g≠pb:=λg hg e=>by
  subst e;rcases hown.2 with⟨e0,h0⟩|⟨g',cap',cur,e0,hb,aE,_⟩
  .rw [e0] at hg;cases hg
  rw[e0] at hg;cases hg;rw[hq] at aE;exact ht (by simpa using(Obj.cells.inj (zkd aE)).2.1)
 obtain⟨w1,ax⟩:=gen (w.alloc (.cells #[iA tn,iA th,iA tr] 177));have ag:BW w w1:=by rw[ax];exact bwA w
 have az:w1.heap[w.heap.size]? =some (.cells #[iA tn,iA th,iA tr] 177 (0,0)):=by rw[ax];exact zjC w _
 have hz:w1.heap.size=w.heap.size+1:=by rw[ax];simp
 have aH:cL w1 pb C t:=blk hq ag;have c0:cE w1 pb off (.slice p l.length cap):=(zjD w1 pb off _ _ _ aH).trans hc0;have c1:cE w1 pb (off+1) (iA bg):=(zjD w1 pb (off+1) _ _ _ aH).trans hc1;have al:w1.ownsRow base 223 5 (.slice p l.length cap) l.length (qj l):=zb hown (λg _ hg=>ag.block g hg);obtain⟨HZ,aL,bd⟩:=zS hz hown hbg;clear hz hown hbg;go_enter func183,ntmps183;go_wp2_with fail
 rw[<-ax];clear ax;have aP:pb<w1.heap.size:=zjE aY ag.size;have hl2:w.heap.size<w1.heap.size:=zg az;have aF:Hid (∀W,BW w1 W->cE W pb (off+1) (iA bg)/\cL W w.heap.size #[iA tn,iA th,iA tr] 177):=λW hW=>⟨(hW.cell (p:=(aA pb (off+1))) (by exact aP)).trans c1,blk az hW⟩;refine rgd (S:=λW=>cE W pb (off+1) (iA bg)/\cL W w.heap.size #[iA tn,iA th,iA tr] 177) ⟨c1,az⟩ λhH=>?_;refine takeN [(0,some 6,pA pb off),(1,some 7,pA pb off),(2,some 8,pA pb off),(3,some 9,pA pb off),(5,some 11,.agg #[iA tn,iA th,iA tr]),(6,some 12,iA due),(7,some 13,pA pb off),(8,some 14,pA pb off),(9,some 15,pA pb (off+1)),(10,some 16,iA bg),(11,some 17,.agg #[iA tn,iA th,iA tr,iA due,iA bg])] _ _ hH (by repeat(first|exact zj7|((first|refine tkc rfl rfl (zka (by rfl) 177 _ rfl w.heap.size 0 rfl [iA tn,iA th,iA tr] _ (λw h=>yG h.2) underlying177 rfl (by rw[Tryz.zgf];rfl)) ?_|(refine tkc rfl rfl (zj0 ⟨by rfl,λx h=>?_⟩) ?_;focus(have f0:=h.1;go_simp;done)));simp only[AP]))) ?_;simp only[ze,AP,pA];refine wpAnyH_ready (rs:=[4,12]) (by kernel_rfl) (by simp) ?_;have c0':cE w1.drew pb off (.slice p l.length cap):=c0;refine AllReadyH.cons rfl (λK hK=>?_) (AllReadyH.cons rfl (λK hK=>?_) AllReadyH.nil);focus
  go_simp;refine hK.out _ _ (aF _ ((zjB _ w1).drew)) λhH=>?_;clear hK K;refine zv 12 λK hK=>?_
 rotate_left;focus
  go_simp;refine hK.out _ _ (aF _ ((bwA w1).drew)) λhH=>?_;clear hK K;refine zv 4 λK hK=>?_;have c0'':cE (w1.alloc (.cells #[iA tn,iA th,iA tr,iA due,iA bg] 223)) pb off (.slice p l.length cap):=(zjH (w:=w1) (a:=(aA pb off)) (zj9 w1 _ pb aP)).trans c0
 rotate_left;all_goals
  go_simp;obtain⟨w2,aw⟩:∃z,z=(w1.alloc (.cells #[iA tn,iA th,iA tr,iA due,iA bg] 223)).drew:=⟨_,rfl⟩;have af:BW w1 w2:=by rw[aw];exact(bwA w1).drew
  have aM:w2.heap[w1.heap.size]? =some (.cells #[iA tn,iA th,iA tr,iA due,iA bg] 223 (0,0)):=by
   rw[aw];exact zjC w1 _
  have aU:w2.heap.size=w1.heap.size+1:=by rw[aw];show(w1.alloc _).heap.size=_;simp
  rw[<-aw];refine hK.out _ _ (aF _ af) λhH=>?_;clear hK K aw;refine zv 13 λK hK=>?_;rw[zj2 (by rfl)];have ak:w2.ownsRow base 223 5 (.slice p l.length cap) l.length (qj l):=zb al (λg _ hg=>af.block g hg);refine yj _ _ _ 131 rfl base 223 iW (.agg #[iA 0,iA 0,iA 0,iA 0,iA 0]) 5 40 underlying131 a7 aX aW aV rfl (by decide) (.slice p l.length cap) l.length (qj l) rfl ak (nA w1 0) 1 1 [iA tn,iA th,iA tr,iA due,iA bg] rfl rfl ?n1 ?n2 (by unfold maxLen;omega) (by omega) (by omega) ?_
  case n1=>
   intro j u hj;rw[addr_add,zj8,zjD w2 w1.heap.size j _ _ _ aM];simpa using hj
  case n2=>
   intro u hu;simp at hu;rcases hu with rfl|rfl|rfl|rfl|rfl<;>rfl
  intro v3 w3 ae aa ah;have ad:cL w3 pb C t:=(aa.block pb (by omega) (λe=>aJ pb e.symm rfl)).trans (blk aH af);have ar:w3.heap[w.heap.size]? =some (.cells #[iA tn,iA th,iA tr] 177 (0,0)):=(aa.block w.heap.size (by omega) (λe=>by have:=(aL.o.lt _ e.symm).2;omega)).trans (blk az af);have c13:cE w3 pb (off+1) (iA bg):=(zjD w3 pb (off+1) _ _ _ ad).trans hc1;refine hK.out _ _ ⟨c13,ar⟩ λhH=>?_;clear hK K;simp only[AP,AQ];refine y7 [(14,some 20,pA pb off),(15,some 21,pA pb off)] _ _ hH ?_;simp only[ze,AP,pA];have c03:cE w3 pb off (.slice p l.length cap):=(zjD w3 pb off _ _ _ ad).trans hc0;have f03:w3.frozen? (aA pb off)=false:=zt ad off;obtain⟨p3,cap3,rfl⟩:=zm ae;refine zv 16 λK hK=>?_;go_simp;obtain⟨w4,aC⟩:∃z,z=(w3.setCell (aA pb off) (.slice p3 (l.length+1) cap3)):=⟨_,rfl⟩;have an:kq pb w3 w4:=by rw[aC];exact zf w3 pb off _
  have aD:w4.heap[pb]? =some (.cells (C.setIfInBounds off (.slice p3 (l.length+1) cap3)) t (0,0)):=by
   rw[aC];simp[World.setCell,Array.getElem?_modify,ad]
  rw[<-aC];have c14:w4.cell? (aA pb (off+1))=some (iA bg):=by
   rw[zjD w4 pb (off+1) _ _ _ aD,Array.getElem?_setIfInBounds_ne (by omega)];exact hc1
  have ay:cL w4 w.heap.size #[iA tn,iA th,iA tr] 177:=(an.block _ (by omega)).trans ar;refine hK.out _ _ ⟨c14,ay⟩ λhH=>?_;clear hK K hH aC;refine dnr ?_;have aK:off<C.size:=by
   rcases Nat.lt_or_ge off C.size with h|h
   .exact h
   .rw [Array.getElem?_eq_none h] at hc0;cases hc0
  have f14:w4.frozen? (aA pb (off+1))=false:=zt aD (off+1);obtain⟨w5,av⟩:=gen (w4.setCell (aA pb (off+1)) (iA (bg+1)));have aq:kq pb w4 w5:=by rw[av];exact zf w4 pb (off+1) _
  have aG:w5.heap[pb]? =some (.cells ((C.setIfInBounds off (.slice p3 (l.length+1) cap3)).setIfInBounds (off+1) (iA (bg+1))) t (0,0)):=by
   rw[av];simp[World.setCell,Array.getElem?_modify,aD]
  have c05:w5.cell? (aA pb off)=some (.slice p3 (l.length+1) cap3):=by
   rw[zjD w5 pb off _ _ _ aG,Array.getElem?_setIfInBounds_ne (by omega),Array.getElem?_setIfInBounds_self_of_lt aK]
  have aj:w5.ownsRow base 223 5 (.slice p3 (l.length+1) cap3) (l.length+1) (qj (l++[⟨tn,th,tr,due,bg⟩])):=by
   rw[Vo];refine zb (zb ae (λg hg aZ=>an.block g (λe=>?_))) (λg hg aZ=>aq.block g (λe=>?_))<;>(subst e;rcases ah with h|h<;>first|exact aJ _ (h.symm.trans hg) rfl|(have h2:=h.symm.trans hg;cases h2;omega))
  obtain⟨g,rfl,aQ,ai⟩:=Y9 aj (by simp) (by omega);have aO:pb≠g:=λe=>by
   subst e;rcases ah with h|h
   .exact aJ _ (h.symm.trans rfl) rfl
   .have h2:=h.symm.trans (rfl:Value.ownBlock (.slice (some (aA pb 0)) (l.length+1) cap3)=some pb);have h3:=ag.size;have h4:w2.heap.size=pb:=by injection h2
    omega
  have aR:=zc (GH pb off g (l.length+1) cap3 l.length (l++[⟨tn,th,tr,due,bg⟩]) w5 (by omega) c05 aO (by simp) ai (by omega));have au:Hid (zk (λk=>k=pb\/some k=Value.ownBlock (.slice p l.length cap)) w w5):=by
   refine⟨?_,?_,?_,?_,λk hk hn=>?_⟩
   .rw [aq.os,an.os,aa.os,af.os,ag.os]
   .rw [aq.tape,an.tape,aa.tape,af.tape,ag.tape]
   .rw [aq.output,an.output,aa.output,af.output,ag.output]
   .rw [aq.size,an.size];exact zjF ag.size (zjF af.size aa.size)
   .have a6:k<w1.heap.size:=zjE hk ag.size;rw[aq.block k (λe=>hn (zj0 e)),an.block k (λe=>hn (zj0 e)),aa.block k (by omega) (λe=>hn (zj1 e)),af.block k a6,ag.block k hk]
  have aT:Hid (some g=Value.ownBlock (.slice p l.length cap)\/w.heap.size<=g):=by
   rcases ah with h|h
   .exact zj0 h
   .have h2:some g=some w2.heap.size:=h;cases h2;exact zj1 (by omega)
  obtain⟨aS,bc,bb⟩:=zS aG aQ aO;have a8:=bd.o;clear aj ai aG aQ aq an aa ah ae af aM ak ad ar c13 c03 f03 ay aD aF al az;have c05':(w4.setCell (aA pb (off+1)) (iA (bg+1))).cell? (aA pb off)=some (.slice (some (aA g 0)) (l.length+1) cap3):=by rw[<-av];exact c05
  have ba:=zc av;clear av c05;go_wp2_with fail
  rw[<-ba.o];refine aR.o.mono ?_;rintro e w6 ⟨rfl,aN,ao⟩;have aB:Hid (zdX pb off base C t l (.slice p l.length cap) bg ⟨tn,th,tr,due,bg⟩ w (.returned (.tuple #[])) w6):=by
   refine⟨.slice (some (aA g 0)) (l.length+1) cap3,rfl,?_,?_,?_,?_⟩
   .exact (ao.block pb (zg aS) bb).trans aS
   .have h:=YT aN bc;rw[vM,zjO] at h;exact h
   .rcases aT with h|h
    .exact zj0 h
    .exact zj1 (λg' aE=>by cases aE;exact h)
   .refine ⟨ao.os.trans au.o.os,ao.tape.trans au.o.tape,ao.output.trans au.o.output,zjF au.o.size ao.size,λk hk hn=>?_⟩
    rw[ao.block k (zjE hk au.o.size) (λe=>?_)]
    .exact au.o.block k hk hn
    .subst e;rcases aT with h|h
     .exact hn (zj1 h)
     .omega
  clear aN ao aR;go_wp2;first|exact bodyPost_end (v:=.tuple #[]) (by simp[results,results183]) rfl aB.o|exact zjT (v:=.tuple #[]) (by simp[results,results183]) rfl aB.o
end
section
open Proofs.Tryz
def jN(l:List zU):List zU:=qZ (l.length-1) ((l.set 0 (l.getD (l.length-1) kS)).take (l.length-1)) 0
theorem Q6:∀(l:List zU) (k:Nat),qj (l.take k)=(qj l).take (k*5)
 | [],k=>by simp[qj]
 |m::l,0=>by simp[qj]
 |m::l,k+1=>by
  have hc:m.cells.toList.length=5:=by simp[zU.cells]
  have e:qj (m::l)=m.cells.toList++qj l:=by simp[qj]
  have e2:qj (m::l.take k)=m.cells.toList++qj (l.take k):=by simp[qj]
  rw[List.take_succ_cons,e,e2,Q6 l k,show(k+1)*5=m.cells.toList.length+k*5 by omega,List.take_length_add_append]
theorem jo.short{cur:Array Value}{cap:Nat}{l:List zU}(h:jo cur cap l)(k:Nat)(hk:k<=l.length):jo cur cap (l.take k):=by
 obtain⟨h1,h2,h3,h4⟩:=h;have hl:(l.take k).length=k:=by rw[List.length_take];omega
 refine⟨by omega,h2,h3,?_⟩;rw[hl,Q6,<-h4,List.take_take,Nat.min_eq_left (Nat.mul_le_mul_right 5 hk)]
theorem zaF(p:Option Addr):p.map (λa=>a.add 0)=p:=by cases p<;>simp[Addr.add]
theorem Jf(p:Option Addr)(n c r:Nat)(hr:r<=c)(W:World):(Instr.sliceAt 131 (.slice p n c) none (some (iA r)) none).run prog W=.ok (.slice p r c) W:=by
 have h2:=zaF p;simp[Instr.sliceAt,Instr.slice,Instr.sliceBounds,Instr.sliceBound,asIntOf,run_underlying underlying131,Tryz.sizeOf223,hr,h2]
def zfw(pb off g cap:Nat)(C:Array Value)(t:TypeId)(l:List zU)(w:World)(e:Ending)(w':World):Prop:=
 e=.returned (.tuple #[.agg #[iA (l.getD 0 kS).n,iA (l.getD 0 kS).h,iA (l.getD 0 kS).r],bA true])/\w'.heap[pb]? =some (.cells (C.setIfInBounds off (.slice (some (aA g 0)) (l.length-1) cap)) t (0,0))/\zy w' g cap (jN l)/\zk (λk=>k=pb\/k=g) w w'
theorem zbC(pb off:Nat)(p:Option Addr)(cap:Nat)(time:Int)(w:World)(hc:w.cell? (aA pb off)=some (.slice p 0 cap)):
 Calls prog 89 #[pA pb off,iA time] w λe w'=>e=.returned (.tuple #[.agg #[iA 0,iA 0,iA 0],bA false])/\BW w w':=by
 have hpl:pb<w.heap.size:=zjI _ _ hc;have c0:=cell?_alloc_old (.cells #[iA 0,iA 0,iA 0] 177) hc;go_enter func89,ntmps89;go_wp2_with (first|(refine zd rfl 177 _ _ rfl w.heap.size #[iA 0,iA 0,iA 0] rfl rfl 177 _ (zjC w _) rfl (by simp[Value.oneCell']) Tryz.zgf ?_;intro w3 aa ad;have ae:=zc aa;have af:Hid (BW w w3):=(bwA w).trans (ad.below (zjA _));clear aa ad)|fail)
 exact zjT (v:=.tuple #[.agg #[iA 0,iA 0,iA 0],bA false]) (yu results89 _ _ w.heap.size 177 _ _ _ rfl rfl ae underlying177 rfl Tryz.zgf) rfl ⟨rfl,af⟩
theorem G1(pb off g cap:Nat)(l:List zU)(time:Int)(w:World)(hc:w.cell? (aA pb off)=some (.slice (some (aA g 0)) l.length cap))(hr:zy w g cap l)(hl:0<l.length)(hd:time<(l.getD 0 kS).due):
 Calls prog 89 #[pA pb off,iA time] w λe w'=>e=.returned (.tuple #[.agg #[iA 0,iA 0,iA 0],bA false])/\BW w w':=by
 have hpl:pb<w.heap.size:=zjI _ _ hc;have c0:=cell?_alloc_old (.cells #[iA 0,iA 0,iA 0] 177) hc;obtain⟨d1,aa⟩:∃d,d=(l.getD 0 kS).due:=⟨_,rfl⟩;obtain⟨b',o',e',_,ad⟩:=hr.tims 0 hl;cases e';have c3:w.cell? (aA g 3)=some (iA d1):=by rw[aa];have:=ad 3 _ rfl;simpa using this
 have c3':=cell?_alloc_old (.cells #[iA 0,iA 0,iA 0] 177) c3;have ag:time<d1:=by rw[aa];exact hd
 have qd:decide (time<d1)=true:=zjQ ag;have q0:((l.length:Int)==0)=false:=by rw[zjY];omega
 have hl2:(0:Int)<l.length:=by omega
 have hln:¬(l.length:Int)=0:=by omega
 clear hd aa ad hr c3;go_enter func89,ntmps89;go_wp2_with (first|(refine zd rfl 177 _ _ rfl w.heap.size #[iA 0,iA 0,iA 0] rfl rfl 177 _ (zjC w _) rfl (by simp[Value.oneCell']) Tryz.zgf ?_;intro w3 ae af;have ah:=zc ae;have ai:Hid (BW w w3):=(bwA w).trans (af.below (zjA _));clear ae af)|fail)
 exact zjT (v:=.tuple #[.agg #[iA 0,iA 0,iA 0],bA false]) (yu results89 _ _ w.heap.size 177 _ _ _ rfl rfl ah underlying177 rfl Tryz.zgf) rfl ⟨rfl,ai⟩
theorem zc5(pb off g cap:Nat)(C:Array Value)(t:TypeId)(l:List zU)(time:Int)(w:World)(hq:w.heap[pb]? =some (.cells C t (0,0)))(ht:t≠223)(hc0:C[off]? =some (.slice (some (aA g 0)) l.length cap))(hr:zy w g cap l)(hl:0<l.length)(hlen:l.length<=100000000)(hd:(l.getD 0 kS).due<=time):
 Calls prog 89 #[pA pb off,iA time] w (zfw pb off g cap C t l w):=by
 have bd:pb<w.heap.size:=zg hq;have aE:pb≠g:=λe=>by
  subst e;obtain⟨cur,hg,_⟩:=hr;rw[hq] at hg;exact ht (by simpa using(Obj.cells.inj (zkd hg)).2.1)
 have aK:g<w.heap.size:=by obtain⟨cur,hg,_⟩:=hr;exact zg hg
 obtain⟨x,hx⟩:=gen (l.getD 0 kS);obtain⟨y,hy⟩:=gen (l.getD (l.length-1) kS);obtain⟨k,hk⟩:∃k,l.length=k+1:=⟨l.length-1,by omega⟩;have aJ:l.length-1=k:=by omega
 obtain⟨w1,ak⟩:=gen (w.alloc (.cells #[iA 0,iA 0,iA 0] 177));have aF:BW w w1:=by rw[ak];exact bwA w
 have aS:w1.heap.size=w.heap.size+1:=by rw[ak];simp
 have a6:w1.heap[w.heap.size]? =some (.cells #[iA 0,iA 0,iA 0] 177 (0,0)):=by rw[ak];exact zjC w _
 have aG:cL w1 pb C t:=blk hq aF;have aC:zy w1 g cap l:=hr.keep (aF.block g aK);have c0:cE w1 pb off (.slice (some (aA g 0)) l.length cap):=(zjD w1 pb off _ _ _ aG).trans hc0;obtain⟨b',o',e',_,ao⟩:=aC.tims 0 hl;cases e';obtain⟨b',o',e',_,an⟩:=aC.tims k (by omega);cases e';simp only[<-hx,Nat.zero_mul,Nat.zero_add,Nat.add_zero] at ao;rw[aJ] at hy;simp only[<-hy,Nat.zero_add] at an;have aL:x.due<=time:=by rw[hx];exact hd
 obtain⟨n1,h1,r1,d1,b1⟩:=x;obtain⟨n2,h2,r2,d2,b2⟩:=y;have ba:Hid (w1.rangeAt g 0 [iA n1,iA h1,iA r1,iA d1,iA b1]):=ao;have bj:Hid (w1.rangeAt g (k*5) [iA n2,iA h2,iA r2,iA d2,iA b2]):=an;have az:Hid (w1.rangeAt g 0 [iA n1,iA h1,iA r1]):=λj v hv=>by
  have h:=ba.o j v;match j,hv with
  |0,hv=>exact h hv
  |1,hv=>exact h hv
  |2,hv=>exact h hv
 have c3:w1.cell? (aA g 3)=some (iA d1):=by have:=ba.o 3 _ rfl;simpa using this
 have qd:decide (time<d1)=false:=zjR (by simp only at aL;omega);have qd2:¬time<d1:=by simp only at aL;omega
 have q0:((l.length:Int)==0)=false:=by rw[zjY];omega
 have hl2:(0:Int)<l.length:=by omega
 have hln:¬(l.length:Int)=0:=by omega
 have hlk:(l.length:Int)-1=(k:Int):=by omega
 have hkl:(k:Int)<l.length:=by omega
 have c0':(w.alloc (.cells #[iA 0,iA 0,iA 0] 177)).cell? (aA pb off)=some (.slice (some (aA g 0)) l.length cap):=by rw[<-ak];exact c0
 have c3':(w.alloc (.cells #[iA 0,iA 0,iA 0] 177)).cell? (aA g 3)=some (iA d1):=by rw[<-ak];exact c3
 have a7:=zc ak;clear ak;obtain⟨HX,HY,HK,bl,ai,aN,bq,bp⟩:=jR hx hy hk aC aF aS a6 aG;have bb:=zc aJ;clear hx hy hd aL ao an hr hk aJ aC aF aS a6 aG hq;go_enter func89,ntmps89;go_wp2_with (first|(rw[<-a7.o];clear a7 c0' c3';refine zj6 rfl 177 _ rfl g 0 rfl [iA n1,iA h1,iA r1] _ az.o underlying177 rfl Tryz.zgf ?_)|(refine zj6 rfl 177 _ rfl g 0 rfl [iA n1,iA h1,iA r1] _ az.o underlying177 rfl Tryz.zgf ?_)|(refine zh rfl 177 _ _ rfl w1 #[iA n1,iA h1,iA r1] rfl rfl 177 _ rfl (by simp[Value.oneCell']) Tryz.zgf ?_;intro w2 aY aM aR;have bo:=zc aY;have af:=zc aM;have bg:=zc aR;have c02:cE w2 pb off (.slice (some (aA g 0)) l.length cap):=(aM.cell (p:=(aA pb off)) (by exact zjE bd ai.o.size)).trans c0;clear aY aM aR)|fail)

 have au:w2.rangeAt g (k*5) [iA n2,iA h2,iA r2,iA d2,iA b2]:=λj v hv=>(af.o.cell (p:=(aA g (k*5+j))) (by exact zjE aK ai.o.size)).trans (bj j v hv);have aO:=zc au;have ay:Hid (zy w2 g cap l):=bl.o.keep (af.o.block g (zjE aK ai.o.size));have aP:Hid (w2.heap[pb]? =some (.cells C t (0,0))):=blk bp af;clear au;refine rgd (S:=λW=>W.cell? (aA pb off)=some (.slice (some (aA g 0)) l.length cap)) c02 (λhH=>?_);refine zQ [(0,some 39,pA pb off),(1,some 40,pA pb off),(2,some 41,pA pb off),(3,some 42,.slice (some (aA g 0)) l.length cap),(4,some 43,pA pb off),(5,some 44,pA pb off),(6,some 45,pA pb off),(7,some 46,.slice (some (aA g 0)) l.length cap),(8,some 47,iA k),(9,some 48,pA g (k*5))] _ _ hH (λx h=>h) ?_;simp only[ze,AP,pA];refine zv 10 (λK hK=>?_);rw[zj2 (by rfl)];refine wp_load_mid 223 _ rfl g (k*5) rfl [iA n2,iA h2,iA r2,iA d2,iA b2] _ aO underlying223 rfl Tryz.zf6 ?_;refine hK.out _ _ c02 (λhH=>?_);clear hK K;simp only[AP,AQ];refine y7 [(11,some 50,pA g 0)] _ _ hH ?_;simp only[ze,AP,pA];refine zv 12 (λK hK=>?_);rw[zj2 (by rfl)];obtain⟨cur,aw,aa⟩:=ay.o;refine zo 223 _ _ rfl g 0 #[iA n2,iA h2,iA r2,iA d2,iA b2] rfl rfl 223 cur aw (by have h3:=aa.2.2.1;have h1:=aa.1;simp;omega) (by simp[Value.oneCell']) Tryz.zf6 ?_;intro w3 aX ah;have aV:jo _ cap (l.set 0 ⟨n2,h2,r2,d2,b2⟩):=aa.set 0 ⟨n2,h2,r2,d2,b2⟩ hl;have ae:w3.heap[pb]? =some (.cells C t (0,0)):=(ah.block pb aE).trans aP;have c03:w3.cell? (aA pb off)=some (.slice (some (aA g 0)) l.length cap):=(zjD w3 pb off _ _ _ ae).trans hc0;refine hK.out _ _ c03 (λhH=>?_);clear hK K hH;refine dnr ?_;have f03:w3.frozen? (aA pb off)=false:=zt ae off;have bf:k<=cap:=by have h1:=aa.1;have:=HK.o;omega
 have bc:=λW=>Jf (some (aA g 0)) l.length cap k bf W;go_wp2_with fail
 obtain⟨w4,aB⟩:=gen (w3.setCell (aA pb off) (.slice (some (aA g 0)) k cap));have ag:kq pb w3 w4:=by rw[aB];exact zf w3 pb off _
 have aD:w4.heap[pb]? =some (.cells (C.setIfInBounds off (.slice (some (aA g 0)) k cap)) t (0,0)):=by
  rw[aB];simp[World.setCell,Array.getElem?_modify,ae]
 rw[<-aB];clear aB;have aH:off<C.size:=by
  rcases Nat.lt_or_ge off C.size with h|h
  .exact h
  rw[Array.getElem?_eq_none h] at hc0;cases hc0
 have c04:w4.cell? (aA pb off)=some (.slice (some (aA g 0)) k cap):=by
  rw[zjD w4 pb off _ _ _ aD,Array.getElem?_setIfInBounds_self_of_lt aH]
 have av:((l.set 0 ⟨n2,h2,r2,d2,b2⟩).take k).length=k:=by
  have:=HK.o;rw[List.length_take,List.length_set];omega
 have aU:zy w4 g cap ((l.set 0 ⟨n2,h2,r2,d2,b2⟩).take k):=⟨_,(ag.block g (λe=>aE e.symm)).trans aX,aV.short k (by rw[List.length_set];have:=HK.o;omega)⟩;have a8:Hid (Calls prog 130 #[pA pb off,iA 0] w4 λe w'=>e=.returned (.tuple #[])/\zy w' g cap (qZ (k-0) ((l.set 0 ⟨n2,h2,r2,d2,b2⟩).take k) 0)/\zk (λk=>k=g) w4 w'):=Jh pb off g k cap 0 ((l.set 0 ⟨n2,h2,r2,d2,b2⟩).take k) w4 (by have:=HK.o;omega) c04 aE av aU (zjG _);refine a8.o.mono ?_;rintro e w5 ⟨rfl,aT,al⟩;have ar:g≠w.heap.size/\g≠w1.heap.size/\pb≠w.heap.size/\pb≠w1.heap.size:=by have:=aN.o;omega
 have ad:∀j,j<w2.heap.size->j≠g->j≠pb->w5.heap[j]? =w2.heap[j]? :=λj hj n1 n2=>by
  rw[al.block j (by rw[ag.size,ah.size];exact hj) n1,ag.block j n2,ah.block j n1];rfl
 have aj:w.heap.size<w2.heap.size/\w1.heap.size<w2.heap.size:=by have h1:=aN.o;have h2:=bg.o;omega
 have bn:Hid (w5.heap[w1.heap.size]? =some (.cells #[iA n1,iA h1,iA r1] 177 (0,0))):=(ad _ aj.2 (λe=>ar.2.1 e.symm) (λe=>ar.2.2.2 e.symm)).trans bo;have bh:Hid (w5.heap[w.heap.size]? =some (.cells #[iA 0,iA 0,iA 0] 177 (0,0))):=(ad _ aj.1 (λe=>ar.1 e.symm) (λe=>ar.2.2.1 e.symm)).trans (blk bq af);have aQ:Hid (w5.heap[pb]? =some (.cells (C.setIfInBounds off (.slice (some (aA g 0)) k cap)) t (0,0))):=(al.block pb (zg aD) aE).trans aD;have bk:=zc aT;have ax:Hid (zk (λk=>k=pb\/k=g) w w5):=by
  refine⟨?_,?_,?_,?_,λj hj hn=>?_⟩
  .exact al.os.trans (ag.os.trans (ah.os.trans (af.o.os.trans ai.o.os)))
  .exact al.tape.trans (ag.tape.trans (ah.tape.trans (af.o.tape.trans ai.o.tape)))
  .exact al.output.trans (ag.output.trans (ah.output.trans (af.o.output.trans ai.o.output)))
  .have h5:=al.size;rw[ag.size,ah.size] at h5;exact zjF ai.o.size (zjF af.o.size h5)
  rw[ad j (by omega) (λe=>hn (zj1 e)) (λe=>hn (zj0 e)),af.o.block j (by have:=aN.o;omega),ai.o.block j hj]
 clear aT al ad aj a8 aU av c04 aD ag bc f03 c03 ae aV ah aX aw aa;go_wp2_with (first|(refine zkb rfl 177 _ rfl w1.heap.size rfl 177 #[iA n1,iA h1,iA r1] (0,0) _ bn.o underlying177 rfl Tryz.zgf ?_)|(refine zd rfl 177 _ _ rfl w.heap.size #[iA n1,iA h1,iA r1] rfl rfl 177 _ bh.o rfl (by simp[Value.oneCell']) Tryz.zgf ?_;intro w6 aW aZ;have bm:=zc aW;have aq:=zc aZ;clear aW aZ)|fail)
 refine zjT (v:=.tuple #[.agg #[iA n1,iA h1,iA r1],bA true]) (yu results89 _ _ w.heap.size 177 _ _ _ rfl rfl bm underlying177 rfl Tryz.zgf) rfl ⟨?_,?_,?_,?_⟩
 .rw [<-HX.o]
 .rw [bb.o];exact(aq.o.block pb ar.2.2.1).trans aQ
 .unfold jN;rw[bb.o,<-HY.o];exact bk.o.keep (aq.o.block g ar.1)
 refine⟨aq.o.os.trans ax.o.os,aq.o.tape.trans ax.o.tape,aq.o.output.trans ax.o.output,by rw[aq.o.size];exact ax.o.size,λj hj hn=>?_⟩;rw[aq.o.block j (by omega)];exact ax.o.block j hj hn
theorem zci{o:Bool}(x:Nat->Int)(s:zj5)(b:Addr)(m:Int)(z:Nat->Int)(w:World)(hx:Dom x)(hs:s.size<4294967281)(hg:w.cell? ⟨11,0,none⟩=some (.iface 294 (.pointer (some b))))(hm:w.cell? ⟨13,0,none⟩=some (.int .i64 m))(h:(z,o)=zi x s):
 Calls prog 94 #[.agg (regA x),.string s] w λe w'=>e=.returned (.tuple #[.agg (regA (if o then z else yk)),if o then .nilIface else .iface 294 (.pointer (some b))])/\Below w.heap.size w w':=by
 have h1:=qU x s b m w hx hs hg hm;rw[<-h] at h1;cases o<;>exact h1
theorem kO(x:Nat->Int)(s:zj5)(b:Addr)(m:Int)(w:World)(hx:Dom x)(hs:s.size<4294967281)(hg:w.cell? ⟨11,0,none⟩=some (.iface 294 (.pointer (some b))))(hm:w.cell? ⟨13,0,none⟩=some (.int .i64 m)):
 Calls prog 152 #[.agg (regA x),.string s] w λe w'=>e=.returned (.bool (zi x s).2)/\Below w.heap.size w w':=by
 have HR:=zc (RegAt.alloc w 116 x);obtain⟨z,hz⟩:=gen (zi x s);obtain⟨z,o⟩:=z;obtain⟨HZ,HC⟩:=zn hz (zci x s b m z (w.alloc (.cells (regA x) 116)) hx hs (cell?_alloc_old _ hg) (cell?_alloc_old _ hm) hz);have z0:=yV;clear hx hs hg hm hz;cases o with
 |true=>
  go_enter func152,ntmps152;go_wp2_with (first|(refine zr rfl 116 _ rfl w.heap.size rfl 116 x _ HR underlying116 rfl Tryz.zfG ?_)|fail)
  refine HC.o.mono ?_;rintro e w2 ⟨rfl,ae⟩;have aa:Hid (Below w.heap.size w w2):=((zjB _ w).alloc (zjA _) _).trans (ae.mono (by simp));clear ae;simp only[if_true];go_wp2_with (first|(refine zp rfl 116 _ _ rfl w2.heap.size z rfl rfl 116 (regA yk) (zjC w2 _) (zj _) Tryz.zfG ?_;intro w3 af ad;have ag:Hid (Below w.heap.size w w3):=(aa.o.alloc aa.o.size _).trans (ad.below aa.o.size);clear af ad)|fail)
  go_ret;exact⟨by rw[<-HZ.o];rfl,ag⟩
 |false=>
  go_enter func152,ntmps152;go_wp2_with (first|(refine zr rfl 116 _ rfl w.heap.size rfl 116 x _ HR underlying116 rfl Tryz.zfG ?_)|fail)
  refine HC.o.mono ?_;rintro e w2 ⟨rfl,ae⟩;have aa:Hid (Below w.heap.size w w2):=((zjB _ w).alloc (zjA _) _).trans (ae.mono (by simp));clear ae;simp only[Bool.false_eq_true,if_false];go_wp2_with (first|(refine zp rfl 116 _ _ rfl w2.heap.size yk rfl rfl 116 (regA yk) (zjC w2 _) (zj _) Tryz.zfG ?_;intro w3 af ad;have ag:Hid (Below w.heap.size w w3):=(aa.o.alloc aa.o.size _).trans (ad.below aa.o.size);clear af ad)|fail)
  go_ret;exact⟨by rw[<-HZ.o];rfl,ag⟩
def YH(x:Nat->Int)(id:Int):Int:=if 0<=id/\id<8 then x id.toNat else 0
theorem vy(x:Nat->Int)(id:Int)(w:World):
 Calls prog 142 #[.agg (regA x),.int .i64 id] w λe w'=>e=.returned (.int .i64 (YH x id))/\Below w.heap.size w w':=by
 have HR:=zc (RegAt.alloc w 116 x);by_cases hn:id<0
 .have e0:YH x id=0:=by unfold YH;rw[zj3 (by omega)]
  rw[e0];clear e0;go_enter func142,ntmps142;go_wp2;go_ret;exact⟨rfl,(zjB _ w).alloc (zjA _) _⟩
 by_cases h8:8<=id
 .have e0:YH x id=0:=by unfold YH;rw[zj3 (by omega)]
  rw[e0];clear e0;go_enter func142,ntmps142;go_wp2;go_ret;exact⟨rfl,(zjB _ w).alloc (zjA _) _⟩
 obtain⟨i,rfl⟩:∃i:Nat,id=(i:Int):=⟨id.toNat,by omega⟩;have e0:YH x (i:Int)=x i:=by unfold YH;rw[zj2 (by omega)];rfl
 rw[e0];clear e0;have hi8:i<8:=by omega
 have aa:(i:Int)<8:=by omega
 have hc:=HR.o.cell i (by omega);go_enter func142,ntmps142;go_wp2;go_ret;exact⟨rfl,(zjB _ w).alloc (zjA _) _⟩
def idsTo(x:Nat->Int)(k:Nat):List Nat:=(List.range k).filter λi=>decide (0<x i)
def turnOf(x:Nat->Int)(t:Nat):Nat:=(idsTo x 8).getD (t % (idsTo x 8).length) 0
theorem vW(x:Nat->Int)(k:Nat):idsTo x (k+1)=idsTo x k++if 0<x k then [k] else []:=by
 unfold idsTo;rw[List.range_succ,List.filter_append];by_cases h:0<x k
 .rw [zj2 h,List.filter_cons_of_pos (by simpa using h)];rfl
 rw[zj3 h,List.filter_cons_of_neg (by simpa using h)];rfl
theorem Ga(x:Nat->Int)(k:Nat):(idsTo x k).length<=k:=by
 unfold idsTo;have:=List.length_filter_le (λi=>decide (0<x i)) (List.range k);simpa using this
theorem Ja(x:Nat->Int)(hx:Dom x):∀k,idsTo x k=[]->sumTo x k=0
 |0,_=>rfl
 |k+1,h=>by
  rw[vW] at h;have h1:=List.append_eq_nil_iff.1 h;have h2:=Ja x hx k h1.1;have h3:=hx k;have h4:¬0<x k:=λhp=>by rw[zj2 hp] at h1;simp at h1
  simp only[sumTo];omega
theorem zes{x:Nat->Int}(hx:Dom x)(hp:0<sumTo x 8):0<(idsTo x 8).length:=by
 rcases Nat.eq_zero_or_pos (idsTo x 8).length with h|h
 .have:=Ja x hx 8 (List.length_eq_zero_iff.1 h)
  omega
 exact h
def idL(l:List Nat):List Value:=l.map λ(i:Nat)=>Value.int .i64 (i:Int)
theorem Jr(x:Nat->Int)(t:Nat)(w:World)(hx:Dom x)(hp:0<sumTo x 8)(ht:t<=1000000000):
 Calls prog 182 #[.agg (regA x),.int .i64 (t:Int)] w λe w'=>e=.returned (.int .i64 (turnOf x t:Int))/\Below w.heap.size w w':=by
 obtain⟨i3,az,an,al,ak⟩:=info_parts Tryz.zhp;obtain⟨HR,ag,HT⟩:=zS (RegAt.alloc w 116 x) (zes hx hp) ht;clear hx hp ht;go_enter func182,ntmps182;go_wp2_with (refine zj6 rfl 46 _ rfl w.heap.size 0 rfl (gX x 8) _ (Y7 HR) underlying46 rfl (by rw[yH];exact Tryz.zgZ) ?_)
 go_loopw [5,6,7,10] (λv _ _ i wr=>∃k:Nat,k<=8/\i=.int .i64 k/\wr.ownsRow w.heap.size 3 1 v (idsTo x k).length (idL (idsTo x k))/\Below w.heap.size w wr) (λ_ _ _ i _=>8-(intOf i).toNat)
 case atStart=>exact⟨0,by omega,rfl,zjZ _ _ _ _,(zjB _ w).alloc (zjA _) _⟩
 obtain⟨k,hk,rfl,hv,hb⟩:=hrel;obtain⟨HV,HB⟩:=zn hv hb;clear hv hb;by_cases ai:k<8
 .have hg:=JN (gX x 8).toArray k (x k) ai (XQ x 8 k ai);have hk2:(k:Int)<8:=by omega
  have ay:=Ga x k;obtain⟨L,hL⟩:=gen (idsTo x k);rw[<-hL] at HV ay;have aj:=zc hL;clear hL;have ao:w.heap.size<=wr.heap.size:=HB.o.size;by_cases ae:0<x k
  .have HS:Hid (idsTo x (k+1)=L++[k]):=by unfold Hid;rw[vW,zj2 ae,aj.o]
   have av:decide (0<x k)=true:=zjQ ae;go_wp2_with (first|(at_builtin;refine z8 _ rfl _ _ 22 rfl w.heap.size 3 i3 (.int .i64 0) 1 8 underlying22 az an al ak rfl (by decide) _ _ _ rfl (zb HV (λg _ hg=>zj9 wr (.cells #[.int .i64 (k:Int)] 3) g hg)) ⟨wr.heap.size,0,none⟩ 1 1 [.int .i64 (k:Int)] rfl rfl ?c1 ?c2 ?c3 ?c4 ?c5 ?_)|go_in)
   case c1=>
    intro j u hj;match j,hj with
    |0,hj=>simp at hj;subst hj;simp[Addr.add]
   case c2=>first|rfl|(intro u hu;simp at hu;subst hu;rfl)
   case c3=>unfold maxLen;omega
   case c4=>omega
   case c5=>first|omega|(simp;omega)
   intro v4 w4 ad aa aC;have aE:Hid (Below w.heap.size w w4):=(HB.o.alloc ao _).grown aa (by simp;omega) (λk hk=>(HV.o.lt k hk).1);have ah:=zc ad;clear ad aa aC;go_wp2;go_roundw
   case rel=>
    refine⟨k+1,by omega,by go_num,?_,aE.o⟩;rw[HS.o,zjO];unfold idL;rw[List.map_append];exact ah
   simp[intOf];omega
  have HS:Hid (idsTo x (k+1)=L):=by unfold Hid;rw[vW,zj3 ae,aj.o,List.append_nil]
  have av:decide (0<x k)=false:=zjR ae;go_wp2;go_roundw
  case rel=>
   refine⟨k+1,by omega,by go_num,?_,HB.o⟩;rw[HS.o];exact HV
  simp[intOf];omega
 obtain rfl:k=8:=by omega
 obtain⟨vp,vc,rfl⟩:=zm HV;obtain⟨n,hn⟩:∃n,n=(idsTo x 8).length:=⟨_,rfl⟩;have ax:0<n:=by rw[hn];exact ag
 have hn8:n<=8:=by rw[hn];exact Ga x 8
 obtain⟨r,hr⟩:=gen (t % n);have hrn:r<n:=by rw[hr];exact Nat.mod_lt _ ax
 have aB:∃g,vp=some ⟨g,0,none⟩/\wr.cell? ⟨g,r,none⟩=some (.int .i64 (turnOf x t:Int)):=by
  rcases HV.o.2 with⟨_,h0⟩|⟨g,cap,cur,e0,hb,hg,hnc,hcm,hcs,aq⟩
  .omega
  cases e0;refine⟨g,rfl,?_⟩;rw[zjD wr g r _ _ _ hg];have e1:(cur.toList.take ((idsTo x 8).length*1))[r]? =(idL (idsTo x 8))[r]? :=by rw[aq]
  rw[zkc,zj2 (by omega)] at e1;rw[<-zkf,e1];unfold idL turnOf;rw[List.getElem?_map,<-hn,<-hr,zjK,zjJ (by omega)];rfl
 obtain⟨g,rfl,hc⟩:=aB;have au:Int.tmod (t:Int) (n:Int)=(r:Int):=by rw[hr];rfl
 have hnz:((n:Int)==0)=false:=by simp;omega
 have aw:¬(n:Int)=0:=by omega
 have ar:(r:Int)<n:=by omega
 obtain⟨T,af⟩:∃T:Int,T=(turnOf x t:Int):=⟨_,rfl⟩;rw[<-af] at hc;have aD:=zc af;rw[<-hn];clear HV hn hr af;go_wp2;go_ret;exact⟨by rw[<-aD.o];rfl,HB⟩
end
section
variable{x:Nat->Int}
theorem gC(x:Nat->Int)(k:Nat)(v:Int)(n:Nat)(h:n<=k):sumTo (upd x k v) n=sumTo x n:=by
 induction n with
 |zero=>rfl
 |succ n ih=>
  simp only[sumTo];rw[ih (by omega),vk _ _ _ _ (by omega)]
theorem G0{t:zj5}(h:0<sumTo x 8)(hn:(yS x t).2=true):0<sumTo (yS x t).1 8:=by
 unfold yS zbD at hn ⊢;split
 .rename_i e;rw[zj2 e] at hn;have h2:=(Bool.and_eq_true_iff.1 hn).1;exact zjP h2
 split
 .rw [gC _ _ _ _ (by omega)];exact h
 split
 .rw [gC _ _ _ _ (by omega)];exact h
 rw[gC _ _ _ _ (by omega)];exact h
theorem gi:∀(l:List zj5) (x:Nat->Int),0<sumTo x 8->(behindL x l).2=true->0<sumTo (behindL x l).1 8
 | [],_,h,_=>h
 |t::l,x,h,hn=>by
  rw[behindL] at hn ⊢;by_cases e:(yS x t).2=true
  .rw [zj2 e] at hn ⊢;exact gi l _ (G0 h e) hn
  .rw [zj3 e] at hn;cases hn
theorem Zk{b:zj5}(h:0<sumTo x 8)(hn:(zi x b).2=true):0<sumTo (zi x b).1 8:=by
 unfold zi zeR at hn ⊢;split
 .rename_i e;rw[zj2 e] at hn;exact gi _ x h hn
 rename_i e;rw[zj3 e] at hn;cases hn
theorem JT{g:Nat->Int}{n:Nat}(h:(vB g n).2=true):0<sumTo (vB g n).1 8:=by
 unfold vB at h ⊢;split
 .rename_i e;rw[zj2 e] at h;have e8:sumTo (regOf g n) 8=sumTo g n:=by
   have h1:=ZQ g n (8-n);have h2:=e.1;rw[show n+(8-n)=8 by omega] at h1;exact h1
  rw[e8];exact zjP h
 rename_i e;rw[zj3 e] at h;cases h
end
section
open Proofs.Tryz
variable{w:World}{g:Nat}
theorem Tryz.zhZ:(prog.info? 5).map (λi=>(i.zero,i.size,i.bytes))=some (some (.int .u8 0),1,1):=by kernel_rfl
def zcp(x:Nat->Int):List Value:=(List.range 26).map λj=>iA (x (8+j))
def Xf(l:List Nat):List Value:=l.map λ(j:Nat)=>.int .u8 (97+(j:Int))
theorem VB(x:Nat->Int):(zcp x).length=26:=by simp[zcp]
theorem zcL(x:Nat->Int)(i:Nat)(h:i<26):(zcp x).toArray[i]? =some (iA (x (8+i))):=by simp[zcp,h]
theorem J9(l:List Nat)(k:Nat):Xf (l++[k])=Xf l++[.int .u8 (97+(k:Int))]:=by simp[Xf]
theorem GM{t:TypeId}{x:Nat->Int}(h:RegAt w g t x):w.rangeAt g 8 (zcp x):=λj v hv=>by
 have hj:j<26:=by have:=(List.getElem?_eq_some_iff.1 hv).1;simpa [zcp] using this
 rw[h.cell (8+j) (by omega)];have:(zcp x)[j]? =some (iA (x (8+j))):=by simp[zcp,hj]
 rw[this] at hv;exact hv
theorem zbN(C:Array Value)(k:Nat)(v:Int)(hk:k<26)(hg:C[k]? =some (iA v))(W:World):(Instr.index 47 (.agg C) (iA k)).run prog W=.ok (iA v) W:=by
 have h:0<=(k:Int)/\(k:Int)<((26:Nat):Int):=by omega
 simp[Instr.index,run_underlying underlying47,asIntOf,go_sem,Tryz.sizeOf3,Tryz.isAgg3,hg,hk]
theorem zat(w:World)(base:Nat)(v:Value)(l:List Nat)(h:w.ownsRow base 5 1 v l.length (Xf l)):(convert 153 9 v).run prog w=.ok (sA (nameB l)) w:=by
 rcases h.2 with⟨rfl,hn⟩|⟨g,cap,cur,rfl,hb,hg,hnc,hcm,hcs,ht⟩
 .obtain rfl:=List.length_eq_zero_iff.1 hn;exact run_convert_bytes_nil w 153 5 underlying153 underlying5 0 0 9 underlying9
 refine run_convert_bytes_arg w 153 5 underlying153 underlying5 g 0 l.length cap (l.map λ(j:Nat)=>(j:Int)+97) (by simp) (λi hi=>?_) 9 underlying9;rw[zjD w g (0+i) _ _ _ hg,zj8];have e1:(cur.toList.take (l.length*1))[i]? =(Xf l)[i]? :=by rw[ht]
 rw[zkc,zj2 (by omega)] at e1;rw[<-zkf,e1];simp[Xf,hi,Int.add_comm]
theorem Ka{base:Nat}{t:TypeId}{l:List Value}(h:w.heap[g]? =some (.cells l.toArray t (0,0)))(hb:base<=g)(hl:l.length<=maxLen):w.ownsRow base t 1 (.slice (some ⟨g,0,none⟩) l.length l.length) l.length l:=
 ⟨by simp,zj1 ⟨g,l.length,l.toArray,rfl,hb,h,zjA _,hl,by simp,by simp⟩⟩
theorem K2(x:Nat->Int)(w:World)(hx:Dom x):
 Calls prog 76 #[.agg (regA x)] w λe w'=>∃p r,e=.returned (.agg #[p,sA (nameB (memb x 26)),r])/\w'.ownsRow w.heap.size 3 1 p 8 (gX x 8)/\w'.ownsRow w.heap.size 3 1 r (memb x 26).length (xo x (memb x 26))/\(∀g,p.ownBlock=some g->r.ownBlock≠some g)/\BW w w':=by
 obtain⟨i3,hi,aT,aB,aS⟩:=info_parts Tryz.zhp;obtain⟨i5,bf,aH,aG,aF⟩:=info_parts Tryz.zhZ;have bc:∀W:World,(Instr.makeSlice 22 (iA 8) (iA 8)).run prog W=.ok (.slice (some ⟨W.heap.size,0,none⟩) 8 8) (W.alloc (.cells #[iA 0,iA 0,iA 0,iA 0,iA 0,iA 0,iA 0,iA 0] 3)):=λW=>by
  have h:=run_makeSlice (P:=prog) W 22 3 i3 (iA 0) underlying22 hi aT .i64 .i64 8 8 (by decide) (by decide) (by rw[aB];decide) (by rw[aS];decide) (by decide);have e:madeCells (Value.cells (iA 0)) (Int.toNat 8*1)=#[iA 0,iA 0,iA 0,iA 0,iA 0,iA 0,iA 0,iA 0]:=by kernel_rfl
  rw[h,aB,e];rfl
 have HX:=zc hx;clear hx;obtain⟨W,hW⟩:∃W,W=(((w.alloc (.cells (regA x) 116)).alloc (.cells #[.slice none 0 0,sA ⟨#[]⟩,.slice none 0 0] 72)).alloc (.cells #[iA 0,iA 0,iA 0,iA 0,iA 0,iA 0,iA 0,iA 0] 3)):=⟨_,rfl⟩;have e1:(w.alloc (.cells (regA x) 116)).heap.size=w.heap.size+1:=by simp
 have e2:((w.alloc (.cells (regA x) 116)).alloc (.cells #[.slice none 0 0,sA ⟨#[]⟩,.slice none 0 0] 72)).heap.size=w.heap.size+1+1:=by simp
 have aL:W.heap.size=w.heap.size+1+1+1:=by rw[hW];simp
 have HR:Hid (RegAt W w.heap.size 116 x):=by
  unfold Hid;rw[hW];exact((RegAt.alloc w _ x).below (bwA _)).below (bwA _)
 have aZ:Hid (yq W (w.heap.size+1) (.slice none 0 0) zj4 (.slice none 0 0)):=by
  unfold Hid;have h:yq ((w.alloc (.cells (regA x) 116)).alloc (.cells #[.slice none 0 0,sA ⟨#[]⟩,.slice none 0 0] 72)) (w.alloc (.cells (regA x) 116)).heap.size (.slice none 0 0) zj4 (.slice none 0 0):=zjC (w.alloc (.cells (regA x) 116)) _;rw[e1] at h;rw[hW];exact h.block (zj9 _ _ (w.heap.size+1) h.lt)
 have HZ:Hid (W.heap[w.heap.size+1+1]? =some (.cells #[iA 0,iA 0,iA 0,iA 0,iA 0,iA 0,iA 0,iA 0] 3 (0,0))):=by
  unfold Hid;have h:=zjC ((w.alloc (.cells (regA x) 116)).alloc (.cells #[.slice none 0 0,sA ⟨#[]⟩,.slice none 0 0] 72)) (.cells #[iA 0,iA 0,iA 0,iA 0,iA 0,iA 0,iA 0,iA 0] 3);rw[e2] at h;rw[hW];exact h
 have HB:Hid (BW w W):=by
  unfold Hid;rw[hW];exact((bwA w).alloc (by simp) _).alloc (by rw[e2];omega) _
 have bh:=hW.symm;clear hW e1 e2;have a7:=zc (zjC W (.cells #[.slice none 0 0,sA ⟨#[]⟩,.slice none 0 0] 72));go_enter func76,ntmps76;go_wp2_with (refine zd rfl 72 _ _ rfl W.heap.size #[.slice (some ⟨w.heap.size+1+1,0,none⟩) 8 8,sA ⟨#[]⟩,.slice none 0 0] (by rw[aL];rfl) rfl 72 #[.slice none 0 0,sA ⟨#[]⟩,.slice none 0 0] a7.o rfl (by simp[Value.oneCell']) Tryz.zgo ?_;intro w4 hq ho)
 have HQ:Hid (yq w4 (w.heap.size+1+1+1) (.slice (some ⟨w.heap.size+1+1,0,none⟩) 8 8) zj4 (.slice none 0 0)):=by have:=hq;rw[aL] at this;exact this
 have HO:Hid (kq (w.heap.size+1+1+1) (W.alloc (.cells #[.slice none 0 0,sA ⟨#[]⟩,.slice none 0 0] 72)) w4):=by have:=ho;rw[aL] at this;exact this
 clear hq ho a7 bc;have ay:Hid (BW W w4):=(bwA W).trans (HO.o.below (by omega));have aQ:=zc (HR.o.below ay);have ar:=zc (aZ.o.block (ay.o.block (w.heap.size+1) (by omega)));have aM:Hid (cL w4 (w.heap.size+1+1) #[iA 0,iA 0,iA 0,iA 0,iA 0,iA 0,iA 0,iA 0] 3):=(ay.o.block _ (by omega)).trans HZ.o;have aD:Hid (BW w w4):=HB.o.trans (ay.o.mono HB.o.size);clear ay HO HR aZ HZ HB bh;refine rgd (S:=λW'=>yq W' (w.heap.size+1+1+1) (.slice (some ⟨w.heap.size+1+1,0,none⟩) 8 8) zj4 (.slice none 0 0)) HQ λhH=>?_;refine yd [0,1,2,3] hH (λx h=>h.cell.1) ?_;refine zv 4 λK hK=>?_;rw[zj2 (by rfl)];refine Lib.wp_copy_run _ _ _ 22 22 rfl _ _ rfl rfl (run_copy_row (P:=prog) _ 22 22 _ 3 (w.heap.size+1+1) 0 8 8 ⟨w.heap.size,0,none⟩ 8 8 #[iA 0,iA 0,iA 0,iA 0,iA 0,iA 0,iA 0,iA 0] 3 (gX x 8) underlying22 (by rw[hi];simp[aB]) aM.o (by rw[yH];rfl) (λj v hv=>?_) (by rw[yH];decide) (λv hv=>?_)) ?_
 .have hj:j<8:=by have:=(List.getElem?_eq_some_iff.1 hv).1;rwa [yH] at this
  rw[addr_add,zj8];have h:=aQ.o.cell j (by omega);have h2:(gX x 8)[j]? =some (iA (x j)):=by simp[gX,hj]
  rw[h2] at hv;cases hv;exact h
 .simp only[gX,List.mem_map] at hv;obtain⟨i,_,rfl⟩:=hv;rfl
 obtain⟨w5,aC⟩:=gen (w4.drew.setRow (w.heap.size+1+1) ((#[iA 0,iA 0,iA 0,iA 0,iA 0,iA 0,iA 0,iA 0]:Array Value).toList.take 0++gX x 8++(#[iA 0,iA 0,iA 0,iA 0,iA 0,iA 0,iA 0,iA 0]:Array Value).toList.drop (0+(gX x 8).length)).toArray);have aw:Hid (kq (w.heap.size+1+1) w4 w5):=by unfold Hid;rw[aC];exact⟨rfl,rfl,rfl,by simp,λk hk=>setRow_other _ _ _ _ hk⟩
 have bn:Hid (w5.heap[w.heap.size+1+1]? =some (.cells (gX x 8).toArray 3 (0,0))):=by
  unfold Hid;rw[aC,setRow_heap w4.drew _ #[iA 0,iA 0,iA 0,iA 0,iA 0,iA 0,iA 0,iA 0] _ 3 (0,0) aM.o];have e:(#[iA 0,iA 0,iA 0,iA 0,iA 0,iA 0,iA 0,iA 0]:Array Value).toList.drop (0+(gX x 8).length)=[]:=by rw[yH];rfl
  rw[e,List.take_zero,List.nil_append,List.append_nil]
 rw[<-aC];clear aC;have aj:Hid (yq w5 (w.heap.size+1+1+1) (.slice (some ⟨w.heap.size+1+1,0,none⟩) 8 8) zj4 (.slice none 0 0)):=hH.block (aw.o.block _ (by omega));refine hK.out _ _ aj λhH=>?_;clear hK K;refine dnr ?_;have bk:=zc (aQ.o.only aw.o (by omega));have aP:=zc (ar.o.block (aw.o.block (w.heap.size+1) (by omega)));have bo:Hid (BW w w5):=aD.o.trans (aw.o.below (by omega));have hs5:w.heap.size+1+1+1<w5.heap.size:=aj.o.lt;clear HQ aQ ar aM aD aw hH;go_wp2_with (refine zj6 rfl 47 _ rfl w.heap.size 8 rfl (zcp x) _ (GM bk) underlying47 rfl (by rw[VB];exact Tryz.zhW) ?_)
 go_loopw [4,5,6,16] (λnm _ _ i ws=>∃(k:Nat) (rv:Value),k<=26/\i=iA k/\But w5.heap.size (w.heap.size+1+1+1) w5 ws/\yq ws (w.heap.size+1+1+1) (.slice (some ⟨w.heap.size+1+1,0,none⟩) 8 8) zj4 rv/\ws.ownsRow w5.heap.size 5 1 nm (memb x k).length (Xf (memb x k))/\ws.ownsRow w5.heap.size 3 1 rv (memb x k).length (xo x (memb x k))) (λ_ _ _ i _=>26-(intOf i).toNat)
 case atStart=>exact⟨0,.slice none 0 0,by omega,rfl,But.refl _ _ _,aj.o,zjZ _ _ _ _,zjZ _ _ _ _⟩
 obtain⟨k,rv,hk,rfl,aK,aU,hon,aV⟩:=hrel;obtain⟨ax,an,ao,al,aE⟩:=x6 aK aU hon aV aK.size;clear aK aU hon aV;by_cases aq:k=26
 .subst aq;have aO:=zc (aP.o.block (ax.o.block (w.heap.size+1) (by omega) (by omega)));have bl:=zc ((ax.o.block (w.heap.size+1+1) (by omega) (by omega)).trans bn.o);have aD:=zc (bo.o.trans (ax.o.below (B':=w.heap.size) (by omega) (by omega)));have hcv:=zat wr w5.heap.size _ (memb x 26) ao;obtain⟨np,nc,rfl⟩:=zm ao;obtain⟨rp,rc,rfl⟩:=zm al;have hc1:=an.o.cell.2.1;have hf1:=an.o.frozen 1;obtain⟨aY,ah⟩:=zn (an.o.zjs (nameB (memb x 26))) (zf wr (w.heap.size+1+1+1) 1 (sA (nameB (memb x 26))));generalize hgW:wr.setCell ⟨w.heap.size+1+1+1,1,none⟩ (sA (nameB (memb x 26)))=w6 at aY ah;go_wp2_with (first|(refine zkb rfl 72 _ rfl (w.heap.size+1+1+1) rfl 72 _ (0,0) _ aY.o underlying72 rfl Tryz.zgo ?_)|(refine zd rfl 72 _ _ rfl (w.heap.size+1) _ rfl rfl 72 _ (aO.o.block (ah.o.block (w.heap.size+1) (by omega))) rfl (by simp[Value.oneCell']) Tryz.zgo ?_;intro w7 hq ho))
  have aX:∀g,g≠(w.heap.size+1)->g≠(w.heap.size+1+1+1)->w7.heap[g]? =wr.heap[g]? :=λg h1 h2=>(ho.block g h1).trans (ah.o.block g h2);have bm:Hid (w7.heap[w.heap.size+1+1]? =some (.cells (gX x 8).toArray 3 (0,0))):=(aX _ (by omega) (by omega)).trans bl.o;have af:Hid (w7.ownsRow w5.heap.size 3 1 (.slice rp (memb x 26).length rc) (memb x 26).length (xo x (memb x 26))):=zb al.o (λg hg _=>aX g (by have:=(al.o.lt g hg).1;omega) (by have:=(al.o.lt g hg).1;omega));have a6:=zc (Ka (base:=w.heap.size) bm.o (by omega) (by rw[yH];unfold maxLen;omega));rw[yH] at a6;exact zjT (v:=.agg #[.slice (some ⟨w.heap.size+1+1,0,none⟩) 8 8,sA (nameB (memb x 26)),.slice rp (memb x 26).length rc]) (results_cell_row results76 _ _ (w.heap.size+1) 72 _ (0,0) _ rfl hq underlying72 rfl Tryz.zgo) rfl ⟨_,_,rfl,a6.o,vU af.o (by omega),λg e1 e2=>by(have h1:=(af.o.lt g e2).1;have e3:some (w.heap.size+1+1)=some g:=e1;have e4:=zkd e3;omega),(aD.o.trans (ah.o.below (by omega))).trans (ho.below (by omega))⟩
 have hki:(k:Int)<26:=by omega
 have aW:k<26:=by omega
 have bd:=zbN (zcp x).toArray k (x (8+k)) aW (zcL x k aW);clear aq;by_cases ag:0<x (8+k)
 .have a8:=zc (zc9 x k ag);have hml:=xt x k;have hzb:(x (8+k)==0)=false:=by simp;omega
  have hzn:(x (8+k) != 0)=true:=by simp;omega
  clear ag;go_wp2_with (first|(at_builtin;refine wpList_append_own _ rfl _ _ 153 rfl w5.heap.size 5 i5 (.int .u8 0) 1 1 underlying153 bf aH aG aF rfl (by decide) _ _ _ rfl (ao.o.alloc _) ⟨wr.heap.size,0,none⟩ 1 1 [.int .u8 (97+(k:Int))] rfl rfl ?c1 ?c2 ?c3 ?c4 ?c5 ?_)|go_in)
  case c1=>
   intro j u hj;match j,hj with
   |0,hj=>simp at hj;subst hj;simp[Addr.add]
  case c2=>intro u hu;simp at hu;subst hu;rfl
  case c3=>unfold maxLen;omega
  case c4=>omega
  case c5=>have:=aE.o;simp;omega
  intro nm' w6 ai ad _;have av:=zc ai;have az:Hid (∀g,rv.ownBlock=some g->_ ):=xR al ao (by decide);have ak:Hid (w6.ownsRow w5.heap.size 3 1 rv (memb x k).length (xo x (memb x k))):=zb (al.o.alloc (.cells #[.int .u8 (97+(k:Int))] 5)) (λg hg aJ=>ad.block g aJ (λe=>az g hg e.symm));have aR:Hid (Below w5.heap.size wr w6):=((zjB _ wr).alloc aE.o _).grown ad (by have:=aE.o;simp;omega) (λj hj=>(ao.o.lt j hj).1);clear ai ad az;have bj:=zc (an.o.block (aR.o.block (w.heap.size+1+1+1) (by omega)));have bg:=bj.o.cell.2.2;have hs6:w5.heap.size<=w6.heap.size:=zjF aE aR.o.size;go_wp2_with (first|(at_builtin;refine wpList_append_own _ rfl _ _ 22 rfl w5.heap.size 3 i3 (iA 0) 1 8 underlying22 hi aT aB aS rfl (by decide) _ _ _ rfl (ak.o.alloc _) ⟨w6.heap.size,0,none⟩ 1 1 [iA (x (8+k))] rfl rfl ?c1 ?c2 ?c3 ?c4 ?c5 ?_)|go_in)
  case c1=>
   intro j u hj;match j,hj with
   |0,hj=>simp at hj;subst hj;simp[Addr.add]
  case c2=>intro u hu;simp at hu;subst hu;rfl
  case c3=>unfold maxLen;omega
  case c4=>omega
  case c5=>simp;omega
  intro rv' w7 ae aa _;obtain⟨rp,rc,rfl⟩:=zm ae;have af:=zc ae;have az:=zc (xR av ak (by decide));have au:=zc (zb (av.o.alloc (.cells #[iA (x (8+k))] 3)) (λg hg aJ=>aa.block g aJ (λe=>az g hg e.symm)));have bb:Hid (Below w5.heap.size wr w7):=(aR.o.alloc (by omega) _).grown aa (by simp;omega) (λj hj=>(ak.o.lt j hj).1);clear ae aa az bg;have aN:=zc (an.o.block (bb.o.block (w.heap.size+1+1+1) (by omega)));have hc7:=aN.o.cell.2.2;have hf7:=aN.o.frozen 2;go_wp2;go_roundw
  case rel=>
   refine⟨k+1,.slice rp ((memb x k).length+1) rc,by omega,by go_num,(ax.o.trans (But.zig bb.o)).trans (But.ziy (zf _ _ _ _)),aN.o.zjr _,?_,?_⟩
   .exact zb (by rw[a8.o,J9,zjO];exact au.o) (λg hg _=>(zf _ _ _ _).block g (by have:=(au.o.lt g hg).1;omega))
   exact zb (by rw[a8.o,Jl,zjO];exact af.o) (λg hg _=>(zf _ _ _ _).block g (by have:=(af.o.lt g hg).1;omega))
  simp[intOf];omega
 have ba:=zc (zeh x k ag);have hz:x (8+k)=0:=by have:=HX.o (8+k);omega
 rw[hz] at bd;clear ag hz;go_wp2;go_roundw
 case rel=>exact⟨k+1,rv,by omega,by go_num,ax.o,an.o,by rw[ba.o];exact ao,by rw[ba.o];exact al⟩
 simp[intOf];omega

import Derived.Test.YtcfjhbcpjpgodaaGreatDoorJ15
import Derived.Test.YtcfjhbcpjpgodaaGreatDoorJ18
import Derived.Stop.LaidErr
namespace Go.Proofs.YtcfjhbcpjpgodaaGreatDoor
open Go.RowKit Proofs.Tryz
set_option maxRecDepth 100000
set_option maxHeartbeats 0
set_option linter.all false
section
structure yf where
 n:Int
 h:Int
 r:Int
 due:Int
 beg:Int
def kt:yf:=⟨0,0,0,0,0⟩
def yf.cells(e:yf):Array Value:=#[iA e.n,iA e.h,iA e.r,iA e.due,iA e.beg]
theorem Tryz.zfL:(prog.info? 223).map (λi=>(i.zero,i.size,i.bytes))=some (some (.agg #[iA 0,iA 0,iA 0,iA 0,iA 0]),5,40):=by kernel_rfl
theorem Tryz.zdf:(prog.info? 223).map (·.size)=some 5:=by kernel_rfl
def kO(l:List yf):List Value:=l.flatMap λm=>m.cells.toList
theorem QR(l:List yf)(m:yf):kO (l++[m])=kO l++m.cells.toList:=by simp[kO]
theorem ja(l:List yf):(kO l).length=l.length*5:=by
 induction l with
 |nil=>rfl
 |cons m l ih=>simp only[kO,List.flatMap_cons,List.length_append,List.length_cons] at ih ⊢;rw[ih];simp[yf.cells];omega
def zbB(w:World)(B:Nat)(p:Option Addr)(n:Nat)(es:Nat->yf):Prop:=∀i,i<n->∃b o,p=some (aA b o)/\b<B/\w.rangeAt b (o+i*5) (es i).cells.toList
theorem zas(l:List yf)(j:Nat)(hj:j<5):∀i,i<l.length->(kO l)[i*5+j]? =((l.getD i kt).cells.toList)[j]? :=by
 induction l with
 |nil=>intro i hi;simp at hi
 |cons m l ih=>
  intro i hi;have e:kO (m::l)=m.cells.toList++kO l:=by simp[kO]
  have hc:m.cells.toList.length=5:=by simp[yf.cells]
  rw[e];cases i with
  |zero=>
   rw[Nat.zero_mul,zg0,zgD (by omega)];rfl
  |succ i=>
   rw[zgC (by omega),hc,show(i+1)*5+j-5=i*5+j by omega];have h2:=ih i (by simpa using hi);simpa using h2
section
variable{P:Program}
theorem kU{op:Oper}{a:Act}{w:World}{K:Act->World->Prop}{Q:Exit->Act->World->Prop}(ty:TypeId)(p y:Operand)(ho:op.op=.store ty p y)
 (g:Nat) (D:Array Value) (hp:a.eval p=pA g 0) (hy:a.eval y=.agg D) (t:TypeId) (C:Array Value) (hg:w.heap[g]? =some (.cells C t (0,0))) (hC:C.size=D.size) (h1:∀v∈D.toList,v.oneCell'=true) (hi:(P.info? ty).map (·.size)=some D.size)
 (h:∀w',w'.heap[g]? =some (.cells D t (0,0))->ko g w w'->K (a.put op.dst undef) w'):op.wp P a w K Q:=by
 unfold Oper.wp execOp;simp only[ho,hp,hy,Instr.storeAt,Instr.sureAddr,Sem.run_bind,Sem.run_pure,Result.andThen_ok,kB w g t ty C D hg hC h1 hi];exact h _ (setRow_heap _ _ C _ t (0,0) hg) (yW _ _ _)
end
end
def zD(a b:yf):Bool:=if a.due=b.due then decide (a.beg<b.beg) else decide (a.due<b.due)
theorem YP(pb off i j:Nat)(l:List yf)(p:Option Addr)(cap:Nat)(w:World)(hc:w.cell? (aA pb off)=some (.slice p l.length cap))(hl:zbB w w.heap.size p l.length (λk=>l.getD k kt))(hi:i<l.length)(hj:j<l.length):
 Calls prog 179 #[pA pb off,iA i,iA j] w λe w'=>e=.returned (bA (zD (l.getD i kt) (l.getD j kt)))/\BW w w':=by
 obtain⟨b,o,rfl,hb,al⟩:=hl i hi;obtain⟨b',o',e',_,ak⟩:=hl j hj;cases e';obtain⟨x,hx⟩:=gen (l.getD i kt);obtain⟨y,hy⟩:=gen (l.getD j kt);simp only[<-hx] at al;simp only[<-hy] at ak;rw[<-hx,<-hy];obtain⟨n1,h1,r1,d1,b1⟩:=x;obtain⟨n2,h2,r2,d2,b2⟩:=y;have ao:Hid (w.rangeAt b (o+i*5) [iA n1,iA h1,iA r1,iA d1,iA b1]):=al;have an:Hid (w.rangeAt b (o+j*5) [iA n2,iA h2,iA r2,iA d2,iA b2]):=ak;have ar:pb<w.heap.size:=zgx _ _ hc;have hi2:(i:Int)<l.length:=by omega
 have hj2:(j:Int)<l.length:=by omega
 clear al ak hx hy hl;have ab:Hid (∀W,BW w W->cE W pb off (.slice (some (aA b o)) l.length cap)/\W.rangeAt b (o+i*5) [iA n1,iA h1,iA r1,iA d1,iA b1]/\W.rangeAt b (o+j*5) [iA n2,iA h2,iA r2,iA d2,iA b2]):=λW hW=>
  ⟨(hW.cell (p:=(aA pb off)) (by exact ar)).trans hc,λk v hv=>(hW.cell (p:=(aA b (o+i*5+k))) (by exact hb)).trans (ao k v hv),λk v hv=>(hW.cell (p:=(aA b (o+j*5+k))) (by exact hb)).trans (an k v hv)⟩
 go_enter func179,ntmps179;go_wp2_with fail
 refine rgd (S:=λW=>cE W pb off (.slice (some (aA b o)) l.length cap)/\W.rangeAt b (o+i*5) [iA n1,iA h1,iA r1,iA d1,iA b1]/\W.rangeAt b (o+j*5) [iA n2,iA h2,iA r2,iA d2,iA b2]) (ab _ ((zgq _ w).drew)) λhH=>?_;refine takeN [(0,some 9,pA pb off),(1,some 10,pA pb off),(2,some 11,pA pb off),(3,some 12,.slice (some (aA b o)) l.length cap),(4,some 13,iA i),(5,some 14,pA b (o+i*5)),(6,some 15,.agg #[iA n1,iA h1,iA r1,iA d1,iA b1]),(7,some 16,pA pb off),(8,some 17,pA pb off),(9,some 18,pA pb off),(10,some 19,.slice (some (aA b o)) l.length cap),(11,some 20,iA j),(12,some 21,pA b (o+j*5)),(13,some 22,.agg #[iA n2,iA h2,iA r2,iA d2,iA b2])] _ _ hH (by repeat(first|exact zgY|((first|refine tkc rfl rfl (zg3 (by rfl) 223 _ rfl b (o+i*5) rfl [iA n1,iA h1,iA r1,iA d1,iA b1] _ (λw h=>h.2.1) underlying223 rfl Tryz.zdf) ?_|refine tkc rfl rfl (zg3 (by rfl) 223 _ rfl b (o+j*5) rfl [iA n2,iA h2,iA r2,iA d2,iA b2] _ (λw h=>h.2.2) underlying223 rfl Tryz.zdf) ?_|(refine tkc rfl rfl (zgR ⟨by rfl,λx h=>?_⟩) ?_;focus(have f0:=h.1;go_simp;done)));simp only[AP]))) ?_;simp only[zh,AP,pA];refine gn 14 15 (λK hK=>?_) λK hK=>?_;focus
  go_simp;refine hK.out _ _ (ab _ ((bwA w).drew)) λhH=>?_;clear hK K;refine zp 15 λK hK=>?_;go_simp;obtain⟨w2,aa⟩:∃z,z=((w.alloc (.cells #[iA 0,iA 0,iA 0,iA 0,iA 0] 223)).alloc (.cells #[iA 0,iA 0,iA 0,iA 0,iA 0] 223)).drew:=⟨_,rfl⟩;have ah:BW w w2:=by rw[aa];exact((bwA w).alloc (by simp) _).drew
  have q0:w2.heap[w.heap.size]? =some (.cells #[iA 0,iA 0,iA 0,iA 0,iA 0] 223 (0,0)):=by
   rw[aa];show((w.alloc (.cells #[iA 0,iA 0,iA 0,iA 0,iA 0] 223)).alloc (.cells #[iA 0,iA 0,iA 0,iA 0,iA 0] 223)).heap[w.heap.size]? =_;rw[zg2 _ _ w.heap.size (by simp)];exact zgr w _
  have q1:w2.heap[w.heap.size+1]? =some (.cells #[iA 0,iA 0,iA 0,iA 0,iA 0] 223 (0,0)):=by
   rw[aa];have h:=zgr (w.alloc (.cells #[iA 0,iA 0,iA 0,iA 0,iA 0] 223)) (.cells #[iA 0,iA 0,iA 0,iA 0,iA 0] 223);rw[World.size_alloc] at h;exact h
  rw[<-aa];refine hK.out _ _ (ab _ ah) λhH=>?_;clear hK K aa;refine zp 16 λK hK=>?_;rw[zgT (by rfl)];refine kU 223 _ _ rfl w.heap.size #[iA n1,iA h1,iA r1,iA d1,iA b1] rfl rfl 223 _ q0 rfl (by simp[Value.oneCell']) Tryz.zdf ?_;intro w3 aj af;have ag:BW w w3:=ah.trans (af.below (by omega));have q83:cL w3 ((w.heap.size+1)) #[iA 0,iA 0,iA 0,iA 0,iA 0] 223:=(af.block _ (by omega)).trans q1;refine hK.out _ _ (ab _ ag) λhH=>?_;clear hK K;refine zp 17 λK hK=>?_;rw[zgT (by rfl)];refine kU 223 _ _ rfl (w.heap.size+1) #[iA n2,iA h2,iA r2,iA d2,iA b2] rfl rfl 223 _ q83 rfl (by simp[Value.oneCell']) Tryz.zdf ?_;intro w4 ad ae;have ai:BW w w4:=ag.trans (ae.below (by omega));have q74:cL w4 w.heap.size #[iA n1,iA h1,iA r1,iA d1,iA b1] 223:=(ae.block _ (by omega)).trans aj;refine hK.out _ _ (ab _ ai) λhH=>?_;clear hK K hH;refine dnr ?_;simp only[AP,AQ];have c1:cN w4 w 3 (iA d1):=zgs w4 _ 3 _ _ _ q74;have c2:cE w4 ((w.heap.size+1)) 3 (iA d2):=zgs w4 _ 3 _ _ _ ad;have c3:cN w4 w 4 (iA b1):=zgs w4 _ 4 _ _ _ q74;have c4:cE w4 ((w.heap.size+1)) 4 (iA b2):=zgs w4 _ 4 _ _ _ ad
 rotate_left;focus
  go_simp;refine hK.out _ _ (ab _ ((bwA w).drew)) λhH=>?_;clear hK K;refine zp 14 λK hK=>?_;go_simp;obtain⟨w2,aa⟩:∃z,z=((w.alloc (.cells #[iA 0,iA 0,iA 0,iA 0,iA 0] 223)).alloc (.cells #[iA 0,iA 0,iA 0,iA 0,iA 0] 223)).drew:=⟨_,rfl⟩;have ah:BW w w2:=by rw[aa];exact((bwA w).alloc (by simp) _).drew
  have q0:w2.heap[w.heap.size]? =some (.cells #[iA 0,iA 0,iA 0,iA 0,iA 0] 223 (0,0)):=by
   rw[aa];show((w.alloc (.cells #[iA 0,iA 0,iA 0,iA 0,iA 0] 223)).alloc (.cells #[iA 0,iA 0,iA 0,iA 0,iA 0] 223)).heap[w.heap.size]? =_;rw[zg2 _ _ w.heap.size (by simp)];exact zgr w _
  have q1:w2.heap[w.heap.size+1]? =some (.cells #[iA 0,iA 0,iA 0,iA 0,iA 0] 223 (0,0)):=by
   rw[aa];have h:=zgr (w.alloc (.cells #[iA 0,iA 0,iA 0,iA 0,iA 0] 223)) (.cells #[iA 0,iA 0,iA 0,iA 0,iA 0] 223);rw[World.size_alloc] at h;exact h
  rw[<-aa];refine hK.out _ _ (ab _ ah) λhH=>?_;clear hK K aa;refine zp 16 λK hK=>?_;rw[zgT (by rfl)];refine kU 223 _ _ rfl (w.heap.size+1) #[iA n1,iA h1,iA r1,iA d1,iA b1] rfl rfl 223 _ q1 rfl (by simp[Value.oneCell']) Tryz.zdf ?_;intro w3 aj af;have ag:BW w w3:=ah.trans (af.below (by omega));have q83:cL w3 w.heap.size #[iA 0,iA 0,iA 0,iA 0,iA 0] 223:=(af.block _ (by omega)).trans q0;refine hK.out _ _ (ab _ ag) λhH=>?_;clear hK K;refine zp 17 λK hK=>?_;rw[zgT (by rfl)];refine kU 223 _ _ rfl w.heap.size #[iA n2,iA h2,iA r2,iA d2,iA b2] rfl rfl 223 _ q83 rfl (by simp[Value.oneCell']) Tryz.zdf ?_;intro w4 ad ae;have ai:BW w w4:=ag.trans (ae.below (by omega));have q74:cL w4 ((w.heap.size+1)) #[iA n1,iA h1,iA r1,iA d1,iA b1] 223:=(ae.block _ (by omega)).trans aj;refine hK.out _ _ (ab _ ai) λhH=>?_;clear hK K hH;refine dnr ?_;simp only[AP,AQ];have c1:cE w4 ((w.heap.size+1)) 3 (iA d1):=zgs w4 _ 3 _ _ _ q74;have c2:cN w4 w 3 (iA d2):=zgs w4 _ 3 _ _ _ ad;have c3:cE w4 ((w.heap.size+1)) 4 (iA b1):=zgs w4 _ 4 _ _ _ q74;have c4:cN w4 w 4 (iA b2):=zgs w4 _ 4 _ _ _ ad
 rotate_left;all_goals
  have aq:=zc ai;clear ai ag ah q0 q1 q83 q74 aj ad af ae ab ao an;by_cases hd:d1=d2
  .subst hd;have qd:(d1 != d1)=false:=by simp
   have qe:(d1==d1)=true:=by simp
   go_wp2;go_ret;exact⟨zS (by simp[zD]),aq.o⟩
  .have qd:(d1 != d2)=true:=by simpa using hd
   have qe:(d1==d2)=false:=by simpa using hd
   go_wp2;go_ret;exact⟨zS (by simp[zD,hd]),aq.o⟩
section
section
variable{P:Program}
theorem zr{op:Oper}{a:Act}{w:World}{K:Act->World->Prop}{Q:Exit->Act->World->Prop}(ty:TypeId)(p y:Operand)(ho:op.op=.store ty p y)
 (g off:Nat) (D:Array Value) (hp:a.eval p=.pointer (some (aA g off))) (hy:a.eval y=.agg D) (t:TypeId) (C:Array Value) (hg:w.heap[g]? =some (.cells C t (0,0))) (hC:off+D.size<=C.size) (h1:∀v∈D.toList,v.oneCell'=true) (hi:(P.info? ty).map (·.size)=some D.size)
 (h:∀w',w'.heap[g]? =some (.cells (C.toList.take off++D.toList++C.toList.drop (off+D.size)).toArray t (0,0))->ko g w w'->K (a.put op.dst undef) w'):op.wp P a w K Q:=by
 have hs:=run_storeCells_at P g off t D.toList 0 C w hg (by simp;omega) h1;have hr:(storeVar ty (aA g off) (.agg D)).run P w=.ok () (w.setRow g (C.toList.take off++D.toList++C.toList.drop (off+D.size)).toArray):=by
  simp only[Nat.add_zero,Array.length_toList] at hs;cases hq:P.info? ty with
  |none=>simp[hq] at hi
  |some i=>
   have hz:i.size=D.size:=by simpa [hq] using hi
   simp[storeVar,sizeOf,typeInfo,hq,Value.cells,hz,hs]
 unfold Oper.wp execOp;simp only[ho,hp,hy,Instr.storeAt,Instr.sureAddr,Sem.run_bind,Sem.run_pure,Result.andThen_ok,hr];exact h _ (setRow_heap _ _ C _ t (0,0) hg) (yW _ _ _)
end
def qH(cur:Array Value)(cap:Nat)(l:List yf):Prop:=l.length<=cap/\cap<=maxLen/\cur.size=cap*5/\cur.toList.take (l.length*5)=kO l
def zw(w:World)(g cap:Nat)(l:List yf):Prop:=∃cur,w.heap[g]? =some (.cells cur 223 (0,0))/\qH cur cap l
theorem JK(x:yf):∀(l:List yf) (k:Nat),k<l.length->kO (l.set k x)=(kO l).take (k*5)++x.cells.toList++(kO l).drop (k*5+5)
 | [],k,h=>by simp at h
 |m::l,0,_=>by
  have hc:m.cells.toList.length=5:=by simp[yf.cells]
  have e:kO (m::l)=m.cells.toList++kO l:=by simp[kO]
  have e2:kO (x::l)=x.cells.toList++kO l:=by simp[kO]
  rw[List.set_cons_zero,e,e2,Nat.zero_mul,List.take_zero,List.nil_append,zg0,List.drop_append_of_le_length (by omega),List.drop_of_length_le (by omega),List.nil_append]
 |m::l,k+1,h=>by
  have hc:m.cells.toList.length=5:=by simp[yf.cells]
  have ih:=JK x l k (by simpa using h);have e:kO (m::l)=m.cells.toList++kO l:=by simp[kO]
  have e2:kO (m::l.set k x)=m.cells.toList++kO (l.set k x):=by simp[kO]
  rw[List.set_cons_succ,e,e2,ih];have h1:(k+1)*5=m.cells.toList.length+k*5:=by omega
  have h2:(k+1)*5+5=m.cells.toList.length+(k*5+5):=by omega
  rw[h1,List.take_length_add_append,Nat.add_assoc,List.drop_length_add_append];simp[List.append_assoc]
theorem qH.set{cur:Array Value}{cap:Nat}{l:List yf}(h:qH cur cap l)(k:Nat)(x:yf)(hk:k<l.length):qH (cur.toList.take (k*5)++x.cells.toList++cur.toList.drop (k*5+5)).toArray cap (l.set k x):=by
 obtain⟨h1,h2,h3,h4⟩:=h;have hx:x.cells.toList.length=5:=by simp[yf.cells]
 have hk5:k*5+5<=l.length*5:=by
  have:(k+1)*5<=l.length*5:=Nat.mul_le_mul_right 5 (by omega);omega
 have hlc:l.length*5<=cap*5:=Nat.mul_le_mul_right 5 h1;obtain⟨R,hR⟩:=gen (cur.toList.drop (l.length*5));have aa:cur.toList=kO l++R:=by rw[hR,<-h4,List.take_append_drop]
 have ab:(kO l).length=l.length*5:=ja l;refine⟨by simpa using h1,h2,?_,?_⟩
 .simp only[List.size_toArray,List.length_append,List.length_take,List.length_drop,hx,Array.length_toList];omega
 have e:cur.toList.take (k*5)++x.cells.toList++cur.toList.drop (k*5+5)=kO (l.set k x)++R:=by
  rw[aa,JK x l k hk,List.take_append_of_le_length (by omega),List.drop_append_of_le_length (by omega)];simp[List.append_assoc]
 rw[List.toList_toArray,e,List.length_set,List.take_append_of_le_length (by rw[ja,List.length_set];exact zgp _),List.take_of_length_le (by rw[ja,List.length_set];exact zgp _)]
theorem zw.tims{w:World}{g cap:Nat}{l:List yf}(h:zw w g cap l):zbB w w.heap.size (some (aA g 0)) l.length (λi=>l.getD i kt):=λi hi=>by
 obtain⟨cur,hg,h1,h2,h3,h4⟩:=h;refine⟨g,0,rfl,zj hg,λj v hv=>?_⟩;rw[zgs w g _ _ _ _ hg,zg0];have hj:j<5:=by have:=(List.getElem?_eq_some_iff.1 hv).1;simpa [yf.cells] using this
 have e1:(cur.toList.take (l.length*5))[i*5+j]? =(kO l)[i*5+j]? :=by rw[h4]
 have aa:i*5+j<l.length*5:=by
  have:(i+1)*5<=l.length*5:=Nat.mul_le_mul_right 5 (by omega);omega
 rw[zg5,zgT aa] at e1;rw[<-zg8,e1,<-hv];exact zas l j hj i hi
theorem zw.keep{w w':World}{g cap:Nat}{l:List yf}(h:zw w g cap l)(hb:w'.heap[g]? =w.heap[g]?):zw w' g cap l:=by
 obtain⟨cur,hg,h1⟩:=h;exact⟨cur,hb.trans hg,h1⟩
def swapT(l:List yf)(i j:Nat):List yf:=(l.set i (l.getD j kt)).set j (l.getD i kt)
theorem zW(l:List yf)(i j:Nat):(swapT l i j).length=l.length:=by simp[swapT]
def upT:Nat->List yf->Nat->List yf
 |0,l,_=>l
 |f+1,l,i=>if i=0 then l else if zD (l.getD i kt) (l.getD ((i-1) / 2) kt) then upT f (swapT l i ((i-1) / 2)) ((i-1) / 2) else l
theorem JI{f:Nat}{l:List yf}{i:Nat}(h:i≠0->zD (l.getD i kt) (l.getD ((i-1) / 2) kt)=false):upT f l i=l:=by
 cases f with
 |zero=>rfl
 |succ f=>
  rw[upT];by_cases e:i=0
  .rw [zgT e]
  rw[zgU e,h e];rfl
theorem zap{f:Nat}{l:List yf}{i:Nat}(e:i≠0)(h:zD (l.getD i kt) (l.getD ((i-1) / 2) kt)=true):upT (f+1) l i=upT f (swapT l i ((i-1) / 2)) ((i-1) / 2):=by
 rw[upT,zgU e,zgT h]
theorem Vx(pb off g n cap i0:Nat)(l0:List yf)(w:World)(hn:n<=1000000000)(hc:w.cell? (aA pb off)=some (.slice (some (aA g 0)) n cap))(hpg:pb≠g)(hln:l0.length=n)(hr:zw w g cap l0)(hi:i0<n):
 Calls prog 200 #[.pointer (some (aA pb off)),iA i0] w λe w'=>e=.returned (.tuple #[])/\zw w' g cap (upT i0 l0 i0)/\zm (λk=>k=g) w w':=by
 obtain⟨HC,HR,a1,a6,HN⟩:=kY hc hr hln hi hn;have aN:pb<w.heap.size:=zgx _ _ hc;clear hc hr hln hi hn;go_enter func200,ntmps200;go_wp2;go_loopw [1,4] (λiv _ wr=>∃(i:Nat) (l:List yf) (f:Nat),iv=iA i/\i<n/\l.length=n/\upT f l i=upT i0 l0 i0/\i<=f/\zw wr g cap l/\zm (λk=>k=g) w wr) (λiv _ _=>(intOf iv).toNat)
 case atStart=>exact⟨i0,l0,i0,rfl,a6,a1,rfl,zgp _,HR,⟨rfl,rfl,rfl,zgp _,λ_ _ _=>rfl⟩⟩
 obtain⟨i,l,f,rfl,aD,hlen,aJ,aP,ab,hs⟩:=hrel;obtain⟨ax,ag,aa,af,aF⟩:=kY aJ hlen ab hs aP;clear aJ hlen ab hs aP;by_cases h0:i=0
 .subst h0;have ae:Hid (zw wr g cap (upT i0 l0 i0)):=by
   unfold Hid;rw[<-ax.o,JI (λh=>absurd rfl h)];exact aa
  go_wp2;first|exact bodyPost_end (v:=.tuple #[]) (by simp[results,results200]) rfl ⟨rfl,ae.o,af.o⟩|exact zgJ (v:=.tuple #[]) (by simp[results,results200]) rfl ⟨rfl,ae.o,af.o⟩
 have aC:(0:Int)<i:=by omega
 have hgt:decide ((0:Int)<i)=true:=zgG aC;obtain⟨p,hp⟩:∃p,p=(i-1) / 2:=⟨_,rfl⟩;have aO:p<i:=by omega
 have hnb:i<=1000000000:=by have:=HN.o;omega
 have aV:Int.tdiv ((i:Int)-1) 2=(p:Int):=by
  have e1:(i:Int)-1=((i-1:Nat):Int):=by omega
  rw[e1,hp];rfl
 obtain⟨HP,aY⟩:=ze hp aO;have ay:Hid (p<n):=Nat.lt_trans aO aD;have aQ:wr.cell? (aA pb off)=some (.slice (some (aA g 0)) l.length cap):=by
  rw[ag.o];exact(zgw (w:=w) (a:=(aA pb off)) (af.o.block pb aN hpg)).trans HC
 have aH:=zc (YP pb off i p l (some (aA g 0)) cap wr aQ aa.o.tims (by rw[ag.o];exact aD) (by rw[ag.o];exact ay));obtain⟨bv,aE⟩:=gen (zD (l.getD i kt) (l.getD p kt));rw[<-aE] at aH;have aG:=zc aE;clear hp aE aQ;go_wp2_with fail
 refine aH.o.mono ?_;rintro e w2 ⟨rfl,ao⟩;have aj:Hid (zm (λk=>k=g) w w2):=⟨ao.os.trans af.o.os,ao.tape.trans af.o.tape,ao.output.trans af.o.output,zgu af.o.size ao.size,λk hk hn=>(ao.block k (zgt hk af.o.size)).trans (af.o.block k hk hn)⟩;have ah:Hid (zw w2 g cap l):=aa.o.keep (ao.block g (by obtain⟨cur,hg,_⟩:=aa.o;exact zj hg));have av:cE w2 pb off (.slice (some (aA g 0)) n cap):=(zgw (w:=w) (a:=(aA pb off)) (aj.o.block pb aN hpg)).trans HC;clear ao aH af aa;cases bv with
 |false=>
  have ae:Hid (zw w2 g cap (upT i0 l0 i0)):=by
   unfold Hid;rw[<-ax.o,JI (λ_=>by rw[<-HP.o];exact aG.o.symm)];exact ah
  go_wp2;first|exact zgJ (v:=.tuple #[]) (by simp[results,results200]) rfl ⟨rfl,ae.o,aj.o⟩|exact bodyPost_end (v:=.tuple #[]) (by simp[results,results200]) rfl ⟨rfl,ae.o,aj.o⟩
 |true=>
  obtain⟨f,rfl⟩:∃f',f=f'+1:=⟨f-1,by have:=aF.o;omega⟩;have aw:Hid (upT f (swapT l i p) p=upT i0 l0 i0):=by
   unfold Hid;rw[<-ax.o,zap h0 (by rw[<-HP.o];exact aG.o.symm),<-HP]
  have aZ:Hid (p<=f):=by have:=aF.o;unfold Hid;omega
  obtain⟨x,hx⟩:=gen (l.getD i kt);obtain⟨y,hy⟩:=gen (l.getD p kt);obtain⟨bI,oI,eI,_,aB⟩:=ah.o.tims i (by rw[ag.o];exact aD);cases eI;obtain⟨bQ,oQ,eQ,_,az⟩:=ah.o.tims p (by rw[ag.o];exact ay);cases eQ;simp only[<-hx,Nat.zero_add] at aB;simp only[<-hy,Nat.zero_add] at az;obtain⟨n1,h1,r1,d1,b1⟩:=x;obtain⟨n2,h2,r2,d2,b2⟩:=y;obtain⟨HX,HY⟩:=ze hx hy;have aS:Hid (w2.rangeAt g (i*5) [iA n1,iA h1,iA r1,iA d1,iA b1]):=aB;have aR:Hid (w2.rangeAt g (p*5) [iA n2,iA h2,iA r2,iA d2,iA b2]):=az;have hpn:p<n:=ay.o;have aX:(i:Int)<n:=by omega
  have aW:(p:Int)<n:=by omega
  clear hx hy aB az ax aF aG;go_wp2_with fail
  refine rgd (S:=λW=>cE W pb off (.slice (some (aA g 0)) n cap)) av λhH=>?_;refine zZ [(0,some 15,pA pb off),(1,some 16,pA pb off),(2,some 17,pA pb off),(3,some 18,.slice (some (aA g 0)) n cap),(4,some 19,iA i),(5,some 20,pA pb off),(6,some 21,pA pb off),(7,some 22,pA pb off),(8,some 23,.slice (some (aA g 0)) n cap),(9,some 24,iA p),(10,some 25,pA pb off),(11,some 26,pA pb off),(12,some 27,pA pb off),(13,some 28,.slice (some (aA g 0)) n cap),(14,some 29,iA p),(15,some 30,pA g (p*5)),(17,some 32,pA pb off),(18,some 33,pA pb off),(19,some 34,pA pb off),(20,some 35,.slice (some (aA g 0)) n cap),(21,some 36,iA i),(22,some 37,pA g (i*5))] _ _ hH (λx h=>h) ?_;simp only[zh,AP,pA];refine gn 16 23 (λK hK=>?_) λK hK=>?_;focus
   rw[zgT (by rfl)];refine wp_load_mid 223 _ rfl g (p*5) rfl [iA n2,iA h2,iA r2,iA d2,iA b2] _ aR underlying223 rfl Tryz.zdf ?_;refine hK.out _ _ av λhH=>?_;clear hK K;simp only[AP,AQ];refine zp 23 λK hK=>?_;rw[zgT (by rfl)];refine wp_load_mid 223 _ rfl g (i*5) rfl [iA n1,iA h1,iA r1,iA d1,iA b1] _ aS underlying223 rfl Tryz.zdf ?_
  rotate_left;focus
   rw[zgT (by rfl)];refine wp_load_mid 223 _ rfl g (i*5) rfl [iA n1,iA h1,iA r1,iA d1,iA b1] _ aS underlying223 rfl Tryz.zdf ?_;refine hK.out _ _ av λhH=>?_;clear hK K;simp only[AP,AQ];refine zp 16 λK hK=>?_;rw[zgT (by rfl)];refine wp_load_mid 223 _ rfl g (p*5) rfl [iA n2,iA h2,iA r2,iA d2,iA b2] _ aR underlying223 rfl Tryz.zdf ?_
  rotate_left;all_goals
   refine hK.out _ _ av λhH=>?_;clear hK K;simp only[AP,AQ];refine y8 [(24,some 39,pA g (i*5))] _ _ hH ?_;simp only[zh,AP,pA];refine zp 25 λK hK=>?_;rw[zgT (by rfl)];obtain⟨cur,ar,ab⟩:=ah.o;refine zr 223 _ _ rfl g (i*5) #[iA n2,iA h2,iA r2,iA d2,iA b2] rfl rfl 223 cur ar (by have h3:=ab.2.2.1;have h1:=ab.1;have h2:=ag.o;simp;omega) (by simp[Value.oneCell']) Tryz.zdf ?_;intro w4 aM al;have aU:zw w4 g cap (l.set i ⟨n2,h2,r2,d2,b2⟩):=⟨_,aM,ab.set i ⟨n2,h2,r2,d2,b2⟩ (by rw[ag.o];omega)⟩;have an:cE w4 pb off (.slice (some (aA g 0)) n cap):=(zgw (w:=w2) (a:=(aA pb off)) (al.block pb hpg)).trans av;refine hK.out _ _ an λhH=>?_;clear hK K;simp only[AP,AQ];refine y8 [(26,some 40,pA g (p*5))] _ _ hH ?_;simp only[zh,AP,pA];refine zp 27 λK hK=>?_;rw[zgT (by rfl)];obtain⟨cur4,ai,ad⟩:=aU;refine zr 223 _ _ rfl g (p*5) #[iA n1,iA h1,iA r1,iA d1,iA b1] rfl rfl 223 cur4 ai (by have h3:=ad.2.2.1;have h1:=ad.1;have h2:=ag.o;simp only[List.length_set] at h1;simp;omega) (by simp[Value.oneCell']) Tryz.zdf ?_;intro w5 aL ak;have aK:zw w5 g cap ((l.set i ⟨n2,h2,r2,d2,b2⟩).set p ⟨n1,h1,r1,d1,b1⟩):=⟨_,aL,ad.set p ⟨n1,h1,r1,d1,b1⟩ (by rw[List.length_set,ag.o];omega)⟩;have au:cE w5 pb off (.slice (some (aA g 0)) n cap):=(zgw (w:=w4) (a:=(aA pb off)) (ak.block pb hpg)).trans an;refine hK.out _ _ au λhH=>?_;clear hK K hH;refine dnr ?_;simp only[AP,AQ];have aT:Hid (zw w5 g cap (swapT l i p)/\zm (λk=>k=g) w w5):=by
    refine⟨?_,?_⟩
    .unfold swapT;rw[<-HX.o,<-HY.o];exact aK
    .have aq:zm (λk=>k=g) w w4:=⟨al.os.trans aj.o.os,al.tape.trans aj.o.tape,al.output.trans aj.o.output,by rw[al.size];exact aj.o.size,λk hk hn=>(al.block k hn).trans (aj.o.block k hk hn)⟩;exact⟨ak.os.trans aq.os,ak.tape.trans aq.tape,ak.output.trans aq.output,by rw[ak.size];exact aq.size,λk hk hn=>(ak.block k hn).trans (aq.block k hk hn)⟩
   clear aK au an al ak aM aL ar ab ai ad;go_wp2;go_roundw
   case rel=>exact⟨p,swapT l i p,f,rfl,ay,by rw[zW];exact ag,aw,aZ,aT.o.1,aT.o.2⟩
   case measure=>have:=aY.o;simp[intOf];omega
end
section
variable{l:List yf}{f i:Nat}
def jx(l:List yf):Nat->Nat->Nat->Nat
 |0,_,m=>m
 |f+1,c,m=>jx l f (c+1) (if c<l.length/\zD (l.getD c kt) (l.getD m kt)=true then c else m)
def yN(l:List yf)(i:Nat):Nat:=jx l 2 (2*i+1) i
theorem xU{m:Nat}:∀(f c:Nat),l.length<=c->jx l f c m=m
 |0,_,_=>rfl
 |f+1,c,h=>by
  rw[jx,zgU (by omega)];exact xU f (c+1) (by omega)
def qA:Nat->List yf->Nat->List yf
 |0,l,_=>l
 |f+1,l,i=>if yN l i=i then l else qA f (swapT l i (yN l i)) (yN l i)
theorem YG(h:yN l i=i):qA f l i=l:=by
 cases f with
 |zero=>rfl
 |succ f=>rw[qA,zgT h]
theorem YH(h:yN l i≠i):qA (f+1) l i=qA f (swapT l i (yN l i)) (yN l i):=by rw[qA,zgU h]
theorem KW(pb off g n cap i0:Nat)(l0:List yf)(w:World)(hn:n<=1000000000)(hc:w.cell? (aA pb off)=some (.slice (some (aA g 0)) n cap))(hpg:pb≠g)(hln:l0.length=n)(hr:zw w g cap l0)(hi:i0<=n):
 Calls prog 130 #[.pointer (some (aA pb off)),iA i0] w λe w'=>e=.returned (.tuple #[])/\zw w' g cap (qA (n-i0) l0 i0)/\zm (λk=>k=g) w w':=by
 obtain⟨HC,HR,bg,bh,HN⟩:=kY hc hr hln hi hn;have bc:pb<w.heap.size:=zgx _ _ hc;clear hc hr hln hi hn;go_enter func130,ntmps130;go_wp2;go_loopw [1,4,5] (λiv _ _ wr=>∃(i:Nat) (l:List yf) (f:Nat),iv=iA i/\i<=n/\l.length=n/\qA f l i=qA (n-i0) l0 i0/\n-i<=f/\zw wr g cap l/\zm (λk=>k=g) w wr) (λiv _ _ _=>n-(intOf iv).toNat)
 case atStart=>exact⟨i0,l0,n-i0,rfl,bh,bg,rfl,zgp _,HR,⟨rfl,rfl,rfl,zgp _,λ_ _ _=>rfl⟩⟩
 obtain⟨wo,a8⟩:=gen wr;subst a8;obtain⟨i,l,f,rfl,bd,hlen,aY,aZ,ab,hs⟩:=hrel;obtain⟨aB,ae,aw,aC,aD,HIN⟩:=xz aY hlen ab hs aZ bd;have hnb:n<=1000000000:=HN.o;clear aY hlen ab hs aZ;go_wp2;go_loopw [4,5] (λmv cv wr=>∃(c m:Nat),cv=iA c/\mv=iA m/\2*i+1<=c/\c<=2*i+3/\i<=m/\m<c/\(m=i\/m<n)/\jx l (2*i+3-c) c m=yN l i/\BW wo wr) (λ_ cv _=>2*i+3-(intOf cv).toNat)
 case atStart=>exact⟨2*i+1,i,by go_num,rfl,zgp _,by omega,zgp _,by omega,zgR rfl,by unfold yN;rw[show 2*i+3-(2*i+1)=2 by omega],zgq _ _⟩
 obtain⟨c,m,rfl,rfl,hc1,hc3,bf,hmc,aO,hle,hb⟩:=hrel;obtain⟨aN,aM,HB⟩:=zC hle aO hb;have aj:Hid (zm (λk=>k=g) w wr):=⟨hb.os.trans aC.o.os,hb.tape.trans aC.o.tape,hb.output.trans aC.o.output,zgu aC.o.size hb.size,λk hk hn=>(hb.block k (zgt hk aC.o.size)).trans (aC.o.block k hk hn)⟩;have ad:Hid (zw wr g cap l):=aw.o.keep (hb.block g (by obtain⟨cur,hg,_⟩:=aw.o;exact zj hg));have aq:cE wr pb off (.slice (some (aA g 0)) n cap):=(zgw (w:=w) (a:=(aA pb off)) (aj.o.block pb bc hpg)).trans HC;clear hle aO hb;by_cases hc2:c<=2*i+2
 .have bb:(c:Int)<=2*(i:Int)+2:=by omega
  by_cases aU:c<n
  .have ba:(c:Int)<n:=by omega
   have aO:m<n:=by omega
   have aX:=zc (YP pb off c m l (some (aA g 0)) cap wr (by rw[ae.o];exact aq) ad.o.tims (by rw[ae.o];exact aU) (by rw[ae.o];exact aO));obtain⟨bv,aP⟩:=gen (zD (l.getD c kt) (l.getD m kt));rw[<-aP] at aX;have HBV:=zc aP;have a6:Hid (jx l (2*i+3-(c+1)) (c+1) (if bv=true then c else m)=yN l i):=by
    have h:=aN.o;rw[show 2*i+3-c=(2*i+3-(c+1))+1 by omega,jx] at h;rw[<-aP] at h;have h2:c<l.length:=by rw[ae.o];exact aU
    simp only[h2,true_and] at h;exact h
   clear aP;go_wp2_with fail
   refine aX.o.mono ?_;rintro e w2 ⟨rfl,a1⟩;have a7:Hid (BW wo w2):=HB.o.trans (a1.mono HB.o.size);clear a1 aX;cases bv with
   |true=>
    go_wp2;go_roundw
    case rel=>exact⟨c+1,c,by go_num,rfl,by omega,by omega,by omega,by omega,zgS aU,by simpa using a6.o,a7.o⟩
    simp[intOf];omega
   |false=>
    go_wp2;go_roundw
    case rel=>exact⟨c+1,m,by go_num,rfl,by omega,by omega,bf,by omega,aM.o,by simpa using a6.o,a7.o⟩
    simp[intOf];omega
  have ba:¬(c:Int)<n:=by omega
  have az:Hid (yN l i=m):=by unfold Hid;rw[<-aN.o,xU _ _ (by rw[ae.o];omega)]
  by_cases al:m=i
  .have av:Hid (zw wr g cap (qA (n-i0) l0 i0)):=by
    unfold Hid;rw[<-aB.o,YG (by rw[az.o];exact al)];exact ad
   have qm:((m:Int)==i)=true:=by simp;omega
   clear al;go_wp2;first|exact zgJ (v:=.tuple #[]) (by simp[results,results130]) rfl ⟨rfl,av.o,aj.o⟩|exact bodyPost_end (v:=.tuple #[]) (by simp[results,results130]) rfl ⟨rfl,av.o,aj.o⟩
  have aH:m<n:=by
   rcases aM with h|h
   .exact absurd h al
   exact h
  have aT:i<n:=by omega
  have qm:((m:Int)==i)=false:=by simp;omega
  obtain⟨f,rfl⟩:∃f',f=f'+1:=⟨f-1,by have:=aD.o;omega⟩;have ar:Hid (qA f (swapT l i m) m=qA (n-i0) l0 i0):=by
   unfold Hid;rw[<-aB.o,YH (by rw[az.o];exact al),az]
  have aV:Hid (n-m<=f):=by have:=aD.o;unfold Hid;omega
  have au:=zc aH;have aW:Hid (i<m):=by unfold Hid;omega
  obtain⟨x,hx⟩:=gen (l.getD i kt);obtain⟨y,hy⟩:=gen (l.getD m kt);obtain⟨bI,oI,eI,_,ay⟩:=ad.o.tims i (by rw[ae.o];exact aT);cases eI;obtain⟨bQ,oQ,eQ,_,ax⟩:=ad.o.tims m (by rw[ae.o];exact aH);cases eQ;simp only[<-hx,Nat.zero_add] at ay;simp only[<-hy,Nat.zero_add] at ax;obtain⟨n1,h1,r1,d1,b1⟩:=x;obtain⟨n2,h2,r2,d2,b2⟩:=y;obtain⟨HX,HY⟩:=ze hx hy;have aK:Hid (wr.rangeAt g (i*5) [iA n1,iA h1,iA r1,iA d1,iA b1]):=ay;have aJ:Hid (wr.rangeAt g (m*5) [iA n2,iA h2,iA r2,iA d2,iA b2]):=ax;have aS:(i:Int)<n:=by omega
  have aR:(m:Int)<n:=by omega
  clear hx hy ay ax aB aD aN HB aM al;go_wp2_with fail
  refine rgd (S:=λW=>cE W pb off (.slice (some (aA g 0)) n cap)) aq λhH=>?_;refine zZ [(0,some 34,pA pb off),(1,some 35,pA pb off),(2,some 36,pA pb off),(3,some 37,.slice (some (aA g 0)) n cap),(4,some 38,iA i),(5,some 39,pA pb off),(6,some 40,pA pb off),(7,some 41,pA pb off),(8,some 42,.slice (some (aA g 0)) n cap),(9,some 43,iA m),(10,some 44,pA pb off),(11,some 45,pA pb off),(12,some 46,pA pb off),(13,some 47,.slice (some (aA g 0)) n cap),(14,some 48,iA m),(15,some 49,pA g (m*5)),(17,some 51,pA pb off),(18,some 52,pA pb off),(19,some 53,pA pb off),(20,some 54,.slice (some (aA g 0)) n cap),(21,some 55,iA i),(22,some 56,pA g (i*5))] _ _ hH (λx h=>h) ?_;simp only[zh,AP,pA];refine gn 16 23 (λK hK=>?_) λK hK=>?_;focus
   rw[zgT (by rfl)];refine wp_load_mid 223 _ rfl g (m*5) rfl [iA n2,iA h2,iA r2,iA d2,iA b2] _ aJ underlying223 rfl Tryz.zdf ?_;refine hK.out _ _ aq λhH=>?_;clear hK K;simp only[AP,AQ];refine zp 23 λK hK=>?_;rw[zgT (by rfl)];refine wp_load_mid 223 _ rfl g (i*5) rfl [iA n1,iA h1,iA r1,iA d1,iA b1] _ aK underlying223 rfl Tryz.zdf ?_
  rotate_left;focus
   rw[zgT (by rfl)];refine wp_load_mid 223 _ rfl g (i*5) rfl [iA n1,iA h1,iA r1,iA d1,iA b1] _ aK underlying223 rfl Tryz.zdf ?_;refine hK.out _ _ aq λhH=>?_;clear hK K;simp only[AP,AQ];refine zp 16 λK hK=>?_;rw[zgT (by rfl)];refine wp_load_mid 223 _ rfl g (m*5) rfl [iA n2,iA h2,iA r2,iA d2,iA b2] _ aJ underlying223 rfl Tryz.zdf ?_
  rotate_left;all_goals
   refine hK.out _ _ aq λhH=>?_;clear hK K;simp only[AP,AQ];refine y8 [(24,some 58,pA g (i*5))] _ _ hH ?_;simp only[zh,AP,pA];refine zp 25 λK hK=>?_;rw[zgT (by rfl)];obtain⟨cur,an,ab⟩:=ad.o;refine zr 223 _ _ rfl g (i*5) #[iA n2,iA h2,iA r2,iA d2,iA b2] rfl rfl 223 cur an (by have h3:=ab.2.2.1;have h1:=ab.1;have h2:=ae.o;simp;omega) (by simp[Value.oneCell']) Tryz.zdf ?_;intro w4 aG ah;have aQ:zw w4 g cap (l.set i ⟨n2,h2,r2,d2,b2⟩):=⟨_,aG,ab.set i ⟨n2,h2,r2,d2,b2⟩ (by rw[ae.o];omega)⟩;have ai:cE w4 pb off (.slice (some (aA g 0)) n cap):=(zgw (w:=wr) (a:=(aA pb off)) (ah.block pb hpg)).trans aq;refine hK.out _ _ ai λhH=>?_;clear hK K;simp only[AP,AQ];refine y8 [(26,some 59,pA g (m*5))] _ _ hH ?_;simp only[zh,AP,pA];refine zp 27 λK hK=>?_;rw[zgT (by rfl)];obtain⟨cur4,af,aa⟩:=aQ;refine zr 223 _ _ rfl g (m*5) #[iA n1,iA h1,iA r1,iA d1,iA b1] rfl rfl 223 cur4 af (by have h3:=aa.2.2.1;have h1:=aa.1;have h2:=ae.o;simp only[List.length_set] at h1;simp;omega) (by simp[Value.oneCell']) Tryz.zdf ?_;intro w5 aF ag;have aE:zw w5 g cap ((l.set i ⟨n2,h2,r2,d2,b2⟩).set m ⟨n1,h1,r1,d1,b1⟩):=⟨_,aF,aa.set m ⟨n1,h1,r1,d1,b1⟩ (by rw[List.length_set,ae.o];omega)⟩;have ao:cE w5 pb off (.slice (some (aA g 0)) n cap):=(zgw (w:=w4) (a:=(aA pb off)) (ag.block pb hpg)).trans ai;refine hK.out _ _ ao λhH=>?_;clear hK K hH;refine dnr ?_;simp only[AP,AQ];have aL:Hid (zw w5 g cap (swapT l i m)/\zm (λk=>k=g) w w5):=by
    refine⟨?_,?_⟩
    .unfold swapT;rw[<-HX.o,<-HY.o];exact aE
    .have ak:zm (λk=>k=g) w w4:=⟨ah.os.trans aj.o.os,ah.tape.trans aj.o.tape,ah.output.trans aj.o.output,by rw[ah.size];exact aj.o.size,λk hk hn=>(ah.block k hn).trans (aj.o.block k hk hn)⟩;exact⟨ag.os.trans ak.os,ag.tape.trans ak.tape,ag.output.trans ak.output,by rw[ag.size];exact ak.size,λk hk hn=>(ag.block k hn).trans (ak.block k hk hn)⟩
   clear aE ao ai ah ag aG aF an ab af aa;go_wp2;go_roundw
   case rel=>exact⟨m,swapT l i m,f,rfl,zgI au,by rw[zW];exact ae,ar,aV,aL.o.1,aL.o.2⟩
   case measure=>have:=au.o;have:=aW.o;simp[intOf];omega
 have bb:¬(c:Int)<=2*(i:Int)+2:=by omega
 have az:Hid (yN l i=m):=by unfold Hid;rw[<-aN.o,show 2*i+3-c=0 by omega];rfl
 by_cases al:m=i
 .have av:Hid (zw wr g cap (qA (n-i0) l0 i0)):=by
   unfold Hid;rw[<-aB.o,YG (by rw[az.o];exact al)];exact ad
  have qm:((m:Int)==i)=true:=by simp;omega
  clear al;go_wp2;first|exact zgJ (v:=.tuple #[]) (by simp[results,results130]) rfl ⟨rfl,av.o,aj.o⟩|exact bodyPost_end (v:=.tuple #[]) (by simp[results,results130]) rfl ⟨rfl,av.o,aj.o⟩
 have aH:m<n:=by
  rcases aM with h|h
  .exact absurd h al
  exact h
 have aT:i<n:=by omega
 have qm:((m:Int)==i)=false:=by simp;omega
 obtain⟨f,rfl⟩:∃f',f=f'+1:=⟨f-1,by have:=aD.o;omega⟩;have ar:Hid (qA f (swapT l i m) m=qA (n-i0) l0 i0):=by
  unfold Hid;rw[<-aB.o,YH (by rw[az.o];exact al),az]
 have aV:Hid (n-m<=f):=by have:=aD.o;unfold Hid;omega
 have au:=zc aH;have aW:Hid (i<m):=by unfold Hid;omega
 obtain⟨x,hx⟩:=gen (l.getD i kt);obtain⟨y,hy⟩:=gen (l.getD m kt);obtain⟨bI,oI,eI,_,ay⟩:=ad.o.tims i (by rw[ae.o];exact aT);cases eI;obtain⟨bQ,oQ,eQ,_,ax⟩:=ad.o.tims m (by rw[ae.o];exact aH);cases eQ;simp only[<-hx,Nat.zero_add] at ay;simp only[<-hy,Nat.zero_add] at ax;obtain⟨n1,h1,r1,d1,b1⟩:=x;obtain⟨n2,h2,r2,d2,b2⟩:=y;obtain⟨HX,HY⟩:=ze hx hy;have aK:Hid (wr.rangeAt g (i*5) [iA n1,iA h1,iA r1,iA d1,iA b1]):=ay;have aJ:Hid (wr.rangeAt g (m*5) [iA n2,iA h2,iA r2,iA d2,iA b2]):=ax;have aS:(i:Int)<n:=by omega
 have aR:(m:Int)<n:=by omega
 clear hx hy ay ax aB aD aN HB aM al;go_wp2_with fail
 refine rgd (S:=λW=>cE W pb off (.slice (some (aA g 0)) n cap)) aq λhH=>?_;refine zZ [(0,some 34,pA pb off),(1,some 35,pA pb off),(2,some 36,pA pb off),(3,some 37,.slice (some (aA g 0)) n cap),(4,some 38,iA i),(5,some 39,pA pb off),(6,some 40,pA pb off),(7,some 41,pA pb off),(8,some 42,.slice (some (aA g 0)) n cap),(9,some 43,iA m),(10,some 44,pA pb off),(11,some 45,pA pb off),(12,some 46,pA pb off),(13,some 47,.slice (some (aA g 0)) n cap),(14,some 48,iA m),(15,some 49,pA g (m*5)),(17,some 51,pA pb off),(18,some 52,pA pb off),(19,some 53,pA pb off),(20,some 54,.slice (some (aA g 0)) n cap),(21,some 55,iA i),(22,some 56,pA g (i*5))] _ _ hH (λx h=>h) ?_;simp only[zh,AP,pA];refine gn 16 23 (λK hK=>?_) λK hK=>?_;focus
  rw[zgT (by rfl)];refine wp_load_mid 223 _ rfl g (m*5) rfl [iA n2,iA h2,iA r2,iA d2,iA b2] _ aJ underlying223 rfl Tryz.zdf ?_;refine hK.out _ _ aq λhH=>?_;clear hK K;simp only[AP,AQ];refine zp 23 λK hK=>?_;rw[zgT (by rfl)];refine wp_load_mid 223 _ rfl g (i*5) rfl [iA n1,iA h1,iA r1,iA d1,iA b1] _ aK underlying223 rfl Tryz.zdf ?_
 rotate_left;focus
  rw[zgT (by rfl)];refine wp_load_mid 223 _ rfl g (i*5) rfl [iA n1,iA h1,iA r1,iA d1,iA b1] _ aK underlying223 rfl Tryz.zdf ?_;refine hK.out _ _ aq λhH=>?_;clear hK K;simp only[AP,AQ];refine zp 16 λK hK=>?_;rw[zgT (by rfl)];refine wp_load_mid 223 _ rfl g (m*5) rfl [iA n2,iA h2,iA r2,iA d2,iA b2] _ aJ underlying223 rfl Tryz.zdf ?_
 rotate_left;all_goals
  refine hK.out _ _ aq λhH=>?_;clear hK K;simp only[AP,AQ];refine y8 [(24,some 58,pA g (i*5))] _ _ hH ?_;simp only[zh,AP,pA];refine zp 25 λK hK=>?_;rw[zgT (by rfl)];obtain⟨cur,an,ab⟩:=ad.o;refine zr 223 _ _ rfl g (i*5) #[iA n2,iA h2,iA r2,iA d2,iA b2] rfl rfl 223 cur an (by have h3:=ab.2.2.1;have h1:=ab.1;have h2:=ae.o;simp;omega) (by simp[Value.oneCell']) Tryz.zdf ?_;intro w4 aG ah;have aQ:zw w4 g cap (l.set i ⟨n2,h2,r2,d2,b2⟩):=⟨_,aG,ab.set i ⟨n2,h2,r2,d2,b2⟩ (by rw[ae.o];omega)⟩;have ai:cE w4 pb off (.slice (some (aA g 0)) n cap):=(zgw (w:=wr) (a:=(aA pb off)) (ah.block pb hpg)).trans aq;refine hK.out _ _ ai λhH=>?_;clear hK K;simp only[AP,AQ];refine y8 [(26,some 59,pA g (m*5))] _ _ hH ?_;simp only[zh,AP,pA];refine zp 27 λK hK=>?_;rw[zgT (by rfl)];obtain⟨cur4,af,aa⟩:=aQ;refine zr 223 _ _ rfl g (m*5) #[iA n1,iA h1,iA r1,iA d1,iA b1] rfl rfl 223 cur4 af (by have h3:=aa.2.2.1;have h1:=aa.1;have h2:=ae.o;simp only[List.length_set] at h1;simp;omega) (by simp[Value.oneCell']) Tryz.zdf ?_;intro w5 aF ag;have aE:zw w5 g cap ((l.set i ⟨n2,h2,r2,d2,b2⟩).set m ⟨n1,h1,r1,d1,b1⟩):=⟨_,aF,aa.set m ⟨n1,h1,r1,d1,b1⟩ (by rw[List.length_set,ae.o];omega)⟩;have ao:cE w5 pb off (.slice (some (aA g 0)) n cap):=(zgw (w:=w4) (a:=(aA pb off)) (ag.block pb hpg)).trans ai;refine hK.out _ _ ao λhH=>?_;clear hK K hH;refine dnr ?_;simp only[AP,AQ];have aL:Hid (zw w5 g cap (swapT l i m)/\zm (λk=>k=g) w w5):=by
   refine⟨?_,?_⟩
   .unfold swapT;rw[<-HX.o,<-HY.o];exact aE
   .have ak:zm (λk=>k=g) w w4:=⟨ah.os.trans aj.o.os,ah.tape.trans aj.o.tape,ah.output.trans aj.o.output,by rw[ah.size];exact aj.o.size,λk hk hn=>(ah.block k hn).trans (aj.o.block k hk hn)⟩;exact⟨ag.os.trans ak.os,ag.tape.trans ak.tape,ag.output.trans ak.output,by rw[ag.size];exact ak.size,λk hk hn=>(ag.block k hn).trans (ak.block k hk hn)⟩
  clear aE ao ai ah ag aG aF an ab af aa;go_wp2;go_roundw
  case rel=>exact⟨m,swapT l i m,f,rfl,zgI au,by rw[zW];exact ae,ar,aV,aL.o.1,aL.o.2⟩
  case measure=>have:=au.o;have:=aW.o;simp[intOf];omega
end
section
variable{w:World}{cap:Nat}{l:List yf}
theorem Tryz.zdo:(prog.info? 177).map (·.size)=some 3:=by kernel_rfl
theorem Yr{base n:Nat}{p:Option Addr}(h:w.ownsRow base 223 5 (.slice p n cap) n (kO l))(hl:l.length=n)(hn:0<n):∃g,p=some (aA g 0)/\base<=g/\zw w g cap l:=by
 rcases h.2 with⟨e0,h0⟩|⟨g,cap',cur,e0,hb,hg,aa,ad,ab,ht⟩
 .omega
 cases e0;subst hl;exact⟨g,rfl,hb,cur,hg,aa,ad,ab,ht⟩
theorem Yf{base g:Nat}(h:zw w g cap l)(hb:base<=g):w.ownsRow base 223 5 (.slice (some (aA g 0)) l.length cap) l.length (kO l):=by
 obtain⟨cur,hg,h1,h2,h3,h4⟩:=h;exact⟨ja l,zgS ⟨g,cap,cur,rfl,hb,hg,h1,h2,h3,h4⟩⟩
theorem ve:∀(f:Nat) (l:List yf) (i:Nat),(upT f l i).length=l.length
 |0,_,_=>rfl
 |f+1,l,i=>by
  rw[upT];split
  .rfl
  .split
   .rw [ve f,zW]
   .rfl
def zbC(pb off base:Nat)(C:Array Value)(t:TypeId)(l:List yf)(v:Value)(bg:Int)(x:yf)(w:World)(e:Ending)(w':World):Prop:=
 ∃v',e=.returned (.tuple #[])/\w'.heap[pb]? =some (.cells ((C.setIfInBounds off v').setIfInBounds (off+1) (iA (bg+1))) t (0,0))/\w'.ownsRow base 223 5 v' (l.length+1) (kO (upT l.length (l++[x]) l.length))/\(v'.ownBlock=v.ownBlock\/∀g,v'.ownBlock=some g->w.heap.size<=g)/\zm (λk=>k=pb\/some k=v.ownBlock) w w'
theorem zad(pb off base:Nat)(C:Array Value)(t:TypeId)(l:List yf)(v:Value)(tn th tr due bg:Int)(w:World)(hq:w.heap[pb]? =some (.cells C t (0,0)))(ht:t≠223)(hc0:C[off]? =some v)(hc1:C[off+1]? =some (iA bg))(hown:w.ownsRow base 223 5 v l.length (kO l))(hbase:base<=w.heap.size)(hlen:l.length<=100000000)(hbg:0<=bg/\bg<=1000000000):
 Calls prog 183 #[pA pb off,.agg #[iA tn,iA th,iA tr],iA due] w (zbC pb off base C t l v bg ⟨tn,th,tr,due,bg⟩ w):=by
 obtain⟨iW,a1,aW,aV,aU⟩:=info_parts Tryz.zfL;obtain⟨p,cap,rfl⟩:=zl hown;have aX:pb<w.heap.size:=zj hq;have aH:∀g,Value.ownBlock (.slice p l.length cap)=some g->g≠pb:=λg hg e=>by
  subst e;rcases hown.2 with⟨e0,h0⟩|⟨g',cap',cur,e0,hb,aD,_⟩
  .rw [e0] at hg;cases hg
  rw[e0] at hg;cases hg;rw[hq] at aD;exact ht (by simpa using(Obj.cells.inj (zg6 aD)).2.1)
 obtain⟨w1,aw⟩:=gen (w.alloc (.cells #[iA tn,iA th,iA tr] 177));have af:BW w w1:=by rw[aw];exact bwA w
 have ay:w1.heap[w.heap.size]? =some (.cells #[iA tn,iA th,iA tr] 177 (0,0)):=by rw[aw];exact zgr w _
 have hz:w1.heap.size=w.heap.size+1:=by rw[aw];simp
 have aG:cL w1 pb C t:=blk hq af;have c0:cE w1 pb off (.slice p l.length cap):=(zgs w1 pb off _ _ _ aG).trans hc0;have c1:cE w1 pb (off+1) (iA bg):=(zgs w1 pb (off+1) _ _ _ aG).trans hc1;have ak:w1.ownsRow base 223 5 (.slice p l.length cap) l.length (kO l):=zb hown (λg _ hg=>af.block g hg);obtain⟨HZ,aK,bb⟩:=zC hz hown hbg;clear hz hown hbg;go_enter func183,ntmps183;go_wp2_with fail
 rw[<-aw];clear aw;have aO:pb<w1.heap.size:=zgt aX af.size;have hl2:w.heap.size<w1.heap.size:=zj ay;have aE:Hid (∀W,BW w1 W->cE W pb (off+1) (iA bg)/\cL W w.heap.size #[iA tn,iA th,iA tr] 177):=λW hW=>⟨(hW.cell (p:=(aA pb (off+1))) (by exact aO)).trans c1,blk ay hW⟩;refine rgd (S:=λW=>cE W pb (off+1) (iA bg)/\cL W w.heap.size #[iA tn,iA th,iA tr] 177) ⟨c1,ay⟩ λhH=>?_;refine takeN [(0,some 6,pA pb off),(1,some 7,pA pb off),(2,some 8,pA pb off),(3,some 9,pA pb off),(5,some 11,.agg #[iA tn,iA th,iA tr]),(6,some 12,iA due),(7,some 13,pA pb off),(8,some 14,pA pb off),(9,some 15,pA pb (off+1)),(10,some 16,iA bg),(11,some 17,.agg #[iA tn,iA th,iA tr,iA due,iA bg])] _ _ hH (by repeat(first|exact zgY|((first|refine tkc rfl rfl (zg3 (by rfl) 177 _ rfl w.heap.size 0 rfl [iA tn,iA th,iA tr] _ (λw h=>yQ h.2) underlying177 rfl (by rw[Tryz.zdo];rfl)) ?_|(refine tkc rfl rfl (zgR ⟨by rfl,λx h=>?_⟩) ?_;focus(have f0:=h.1;go_simp;done)));simp only[AP]))) ?_;simp only[zh,AP,pA];refine wpAnyH_ready (rs:=[4,12]) (by kernel_rfl) (by simp) ?_;have c0':cE w1.drew pb off (.slice p l.length cap):=c0;refine AllReadyH.cons rfl (λK hK=>?_) (AllReadyH.cons rfl (λK hK=>?_) AllReadyH.nil);focus
  go_simp;refine hK.out _ _ (aE _ ((zgq _ w1).drew)) λhH=>?_;clear hK K;refine zp 12 λK hK=>?_
 rotate_left;focus
  go_simp;refine hK.out _ _ (aE _ ((bwA w1).drew)) λhH=>?_;clear hK K;refine zp 4 λK hK=>?_;have c0'':cE (w1.alloc (.cells #[iA tn,iA th,iA tr,iA due,iA bg] 223)) pb off (.slice p l.length cap):=(zgw (w:=w1) (a:=(aA pb off)) (zg2 w1 _ pb aO)).trans c0
 rotate_left;all_goals
  go_simp;obtain⟨w2,av⟩:∃z,z=(w1.alloc (.cells #[iA tn,iA th,iA tr,iA due,iA bg] 223)).drew:=⟨_,rfl⟩;have ae:BW w1 w2:=by rw[av];exact(bwA w1).drew
  have aL:w2.heap[w1.heap.size]? =some (.cells #[iA tn,iA th,iA tr,iA due,iA bg] 223 (0,0)):=by
   rw[av];exact zgr w1 _
  have aT:w2.heap.size=w1.heap.size+1:=by rw[av];show(w1.alloc _).heap.size=_;simp
  rw[<-av];refine hK.out _ _ (aE _ ae) λhH=>?_;clear hK K av;refine zp 13 λK hK=>?_;rw[zgT (by rfl)];have aj:w2.ownsRow base 223 5 (.slice p l.length cap) l.length (kO l):=zb ak (λg _ hg=>ae.block g hg);refine zQ _ _ _ 131 rfl base 223 iW (.agg #[iA 0,iA 0,iA 0,iA 0,iA 0]) 5 40 underlying131 a1 aW aV aU rfl (by decide) (.slice p l.length cap) l.length (kO l) rfl aj (nA w1 0) 1 1 [iA tn,iA th,iA tr,iA due,iA bg] rfl rfl ?n1 ?n2 (by unfold maxLen;omega) (by omega) (by omega) ?_
  case n1=>
   intro j u hj;rw[addr_add,zg0,zgs w2 w1.heap.size j _ _ _ aL];simpa using hj
  case n2=>
   intro u hu;simp at hu;rcases hu with rfl|rfl|rfl|rfl|rfl<;>rfl
  intro v3 w3 ad aa ag;have ab:cL w3 pb C t:=(aa.block pb (by omega) (λe=>aH pb e.symm rfl)).trans (blk aG ae);have aq:w3.heap[w.heap.size]? =some (.cells #[iA tn,iA th,iA tr] 177 (0,0)):=(aa.block w.heap.size (by omega) (λe=>by have:=(aK.o.lt _ e.symm).2;omega)).trans (blk ay ae);have c13:cE w3 pb (off+1) (iA bg):=(zgs w3 pb (off+1) _ _ _ ab).trans hc1;refine hK.out _ _ ⟨c13,aq⟩ λhH=>?_;clear hK K;simp only[AP,AQ];refine y8 [(14,some 20,pA pb off),(15,some 21,pA pb off)] _ _ hH ?_;simp only[zh,AP,pA];have c03:cE w3 pb off (.slice p l.length cap):=(zgs w3 pb off _ _ _ ab).trans hc0;have f03:w3.frozen? (aA pb off)=false:=zq ab off;obtain⟨p3,cap3,rfl⟩:=zl ad;refine zp 16 λK hK=>?_;go_simp;obtain⟨w4,aB⟩:∃z,z=(w3.setCell (aA pb off) (.slice p3 (l.length+1) cap3)):=⟨_,rfl⟩;have al:ko pb w3 w4:=by rw[aB];exact zd w3 pb off _
  have aC:w4.heap[pb]? =some (.cells (C.setIfInBounds off (.slice p3 (l.length+1) cap3)) t (0,0)):=by
   rw[aB];simp[World.setCell,Array.getElem?_modify,ab]
  rw[<-aB];have c14:w4.cell? (aA pb (off+1))=some (iA bg):=by
   rw[zgs w4 pb (off+1) _ _ _ aC,Array.getElem?_setIfInBounds_ne (by omega)];exact hc1
  have ax:cL w4 w.heap.size #[iA tn,iA th,iA tr] 177:=(al.block _ (by omega)).trans aq;refine hK.out _ _ ⟨c14,ax⟩ λhH=>?_;clear hK K hH aB;refine dnr ?_;have aJ:off<C.size:=by
   rcases Nat.lt_or_ge off C.size with h|h
   .exact h
   .rw [Array.getElem?_eq_none h] at hc0;cases hc0
  have f14:w4.frozen? (aA pb (off+1))=false:=zq aC (off+1);obtain⟨w5,au⟩:=gen (w4.setCell (aA pb (off+1)) (iA (bg+1)));have ao:ko pb w4 w5:=by rw[au];exact zd w4 pb (off+1) _
  have aF:w5.heap[pb]? =some (.cells ((C.setIfInBounds off (.slice p3 (l.length+1) cap3)).setIfInBounds (off+1) (iA (bg+1))) t (0,0)):=by
   rw[au];simp[World.setCell,Array.getElem?_modify,aC]
  have c05:w5.cell? (aA pb off)=some (.slice p3 (l.length+1) cap3):=by
   rw[zgs w5 pb off _ _ _ aF,Array.getElem?_setIfInBounds_ne (by omega),Array.getElem?_setIfInBounds_self_of_lt aJ]
  have ai:w5.ownsRow base 223 5 (.slice p3 (l.length+1) cap3) (l.length+1) (kO (l++[⟨tn,th,tr,due,bg⟩])):=by
   rw[QR];refine zb (zb ad (λg hg aY=>al.block g (λe=>?_))) (λg hg aY=>ao.block g (λe=>?_))<;>(subst e;rcases ag with h|h<;>first|exact aH _ (h.symm.trans hg) rfl|(have h2:=h.symm.trans hg;cases h2;omega))
  obtain⟨g,rfl,aP,ah⟩:=Yr ai (by simp) (by omega);have aN:pb≠g:=λe=>by
   subst e;rcases ag with h|h
   .exact aH _ (h.symm.trans rfl) rfl
   .have h2:=h.symm.trans (rfl:Value.ownBlock (.slice (some (aA pb 0)) (l.length+1) cap3)=some pb);have h3:=af.size;have h4:w2.heap.size=pb:=by injection h2
    omega
  have aQ:=zc (Vx pb off g (l.length+1) cap3 l.length (l++[⟨tn,th,tr,due,bg⟩]) w5 (by omega) c05 aN (by simp) ah (by omega));have ar:Hid (zm (λk=>k=pb\/some k=Value.ownBlock (.slice p l.length cap)) w w5):=by
   refine⟨?_,?_,?_,?_,λk hk hn=>?_⟩
   .rw [ao.os,al.os,aa.os,ae.os,af.os]
   .rw [ao.tape,al.tape,aa.tape,ae.tape,af.tape]
   .rw [ao.output,al.output,aa.output,ae.output,af.output]
   .rw [ao.size,al.size];exact zgu af.size (zgu ae.size aa.size)
   .have aZ:k<w1.heap.size:=zgt hk af.size;rw[ao.block k (λe=>hn (zgR e)),al.block k (λe=>hn (zgR e)),aa.block k (by omega) (λe=>hn (zgS e)),ae.block k aZ,af.block k hk]
  have aS:Hid (some g=Value.ownBlock (.slice p l.length cap)\/w.heap.size<=g):=by
   rcases ag with h|h
   .exact zgR h
   .have h2:some g=some w2.heap.size:=h;cases h2;exact zgS (by omega)
  obtain⟨aR,ba,a8⟩:=zC aF aP aN;have a6:=bb.o;clear ai ah aF aP ao al aa ag ad ae aL aj ab aq c13 c03 f03 ax aC aE ak ay;have c05':(w4.setCell (aA pb (off+1)) (iA (bg+1))).cell? (aA pb off)=some (.slice (some (aA g 0)) (l.length+1) cap3):=by rw[<-au];exact c05
  have a7:=zc au;clear au c05;go_wp2_with fail
  rw[<-a7.o];refine aQ.o.mono ?_;rintro e w6 ⟨rfl,aM,an⟩;have az:Hid (zbC pb off base C t l (.slice p l.length cap) bg ⟨tn,th,tr,due,bg⟩ w (.returned (.tuple #[])) w6):=by
   refine⟨.slice (some (aA g 0)) (l.length+1) cap3,rfl,?_,?_,?_,?_⟩
   .exact (an.block pb (zj aR) a8).trans aR
   .have h:=Yf aM ba;rw[ve,zgE] at h;exact h
   .rcases aS with h|h
    .exact zgR h
    .exact zgS (λg' aD=>by cases aD;exact h)
   .refine ⟨an.os.trans ar.o.os,an.tape.trans ar.o.tape,an.output.trans ar.o.output,zgu ar.o.size an.size,λk hk hn=>?_⟩
    rw[an.block k (zgt hk ar.o.size) (λe=>?_)]
    .exact ar.o.block k hk hn
    .subst e;rcases aS with h|h
     .exact hn (zgS h)
     .omega
  clear aM an aQ;go_wp2;first|exact bodyPost_end (v:=.tuple #[]) (by simp[results,results183]) rfl az.o|exact zgJ (v:=.tuple #[]) (by simp[results,results183]) rfl az.o
end
def xo(l:List yf):List yf:=qA (l.length-1) ((l.set 0 (l.getD (l.length-1) kt)).take (l.length-1)) 0
theorem KG:∀(l:List yf) (k:Nat),kO (l.take k)=(kO l).take (k*5)
 | [],k=>by simp[kO]
 |m::l,0=>by simp[kO]
 |m::l,k+1=>by
  have hc:m.cells.toList.length=5:=by simp[yf.cells]
  have e:kO (m::l)=m.cells.toList++kO l:=by simp[kO]
  have e2:kO (m::l.take k)=m.cells.toList++kO (l.take k):=by simp[kO]
  rw[List.take_succ_cons,e,e2,KG l k,show(k+1)*5=m.cells.toList.length+k*5 by omega,List.take_length_add_append]
theorem qH.short{cur:Array Value}{cap:Nat}{l:List yf}(h:qH cur cap l)(k:Nat)(hk:k<=l.length):qH cur cap (l.take k):=by
 obtain⟨h1,h2,h3,h4⟩:=h;have hl:(l.take k).length=k:=by rw[List.length_take];omega
 refine⟨by omega,h2,h3,?_⟩;rw[hl,KG,<-h4,List.take_take,Nat.min_eq_left (Nat.mul_le_mul_right 5 hk)]
theorem Xw(p:Option Addr):p.map (λa=>a.add 0)=p:=by cases p<;>simp[Addr.add]
theorem KP(p:Option Addr)(n c r:Nat)(hr:r<=c)(W:World):(Instr.sliceAt 131 (.slice p n c) none (some (iA r)) none).run prog W=.ok (.slice p r c) W:=by
 have h2:=Xw p;simp[Instr.sliceAt,Instr.slice,Instr.sliceBounds,Instr.sliceBound,asIntOf,run_underlying underlying131,Tryz.sizeOf223,hr,h2]
def zcX(pb off g cap:Nat)(C:Array Value)(t:TypeId)(l:List yf)(w:World)(e:Ending)(w':World):Prop:=
 e=.returned (.tuple #[.agg #[iA (l.getD 0 kt).n,iA (l.getD 0 kt).h,iA (l.getD 0 kt).r],bA true])/\w'.heap[pb]? =some (.cells (C.setIfInBounds off (.slice (some (aA g 0)) (l.length-1) cap)) t (0,0))/\zw w' g cap (xo l)/\zm (λk=>k=pb\/k=g) w w'
theorem Gv(pb off:Nat)(p:Option Addr)(cap:Nat)(time:Int)(w:World)(hc:w.cell? (aA pb off)=some (.slice p 0 cap)):
 Calls prog 89 #[pA pb off,iA time] w λe w'=>e=.returned (.tuple #[.agg #[iA 0,iA 0,iA 0],bA false])/\BW w w':=by
 have hpl:pb<w.heap.size:=zgx _ _ hc;have c0:=cell?_alloc_old (.cells #[iA 0,iA 0,iA 0] 177) hc;go_enter func89,ntmps89;go_wp2_with (first|(refine zi rfl 177 _ _ rfl w.heap.size #[iA 0,iA 0,iA 0] rfl rfl 177 _ (zgr w _) rfl (by simp[Value.oneCell']) Tryz.zdo ?_;intro w3 aa ab;have ad:=zc aa;have ae:Hid (BW w w3):=(bwA w).trans (ab.below (zgp _));clear aa ab)|fail)
 exact zgJ (v:=.tuple #[.agg #[iA 0,iA 0,iA 0],bA false]) (yw results89 _ _ w.heap.size 177 _ _ _ rfl rfl ad underlying177 rfl Tryz.zdo) rfl ⟨rfl,ae⟩
theorem VP(pb off g cap:Nat)(l:List yf)(time:Int)(w:World)(hc:w.cell? (aA pb off)=some (.slice (some (aA g 0)) l.length cap))(hr:zw w g cap l)(hl:0<l.length)(hd:time<(l.getD 0 kt).due):
 Calls prog 89 #[pA pb off,iA time] w λe w'=>e=.returned (.tuple #[.agg #[iA 0,iA 0,iA 0],bA false])/\BW w w':=by
 have hpl:pb<w.heap.size:=zgx _ _ hc;have c0:=cell?_alloc_old (.cells #[iA 0,iA 0,iA 0] 177) hc;obtain⟨d1,aa⟩:∃d,d=(l.getD 0 kt).due:=⟨_,rfl⟩;obtain⟨b',o',e',_,ab⟩:=hr.tims 0 hl;cases e';have c3:w.cell? (aA g 3)=some (iA d1):=by rw[aa];have:=ab 3 _ rfl;simpa using this
 have c3':=cell?_alloc_old (.cells #[iA 0,iA 0,iA 0] 177) c3;have af:time<d1:=by rw[aa];exact hd
 have qd:decide (time<d1)=true:=zgG af;have q0:((l.length:Int)==0)=false:=by rw[zgP];omega
 have hl2:(0:Int)<l.length:=by omega
 have hln:¬(l.length:Int)=0:=by omega
 clear hd aa ab hr c3;go_enter func89,ntmps89;go_wp2_with (first|(refine zi rfl 177 _ _ rfl w.heap.size #[iA 0,iA 0,iA 0] rfl rfl 177 _ (zgr w _) rfl (by simp[Value.oneCell']) Tryz.zdo ?_;intro w3 ad ae;have ag:=zc ad;have ah:Hid (BW w w3):=(bwA w).trans (ae.below (zgp _));clear ad ae)|fail)
 exact zgJ (v:=.tuple #[.agg #[iA 0,iA 0,iA 0],bA false]) (yw results89 _ _ w.heap.size 177 _ _ _ rfl rfl ag underlying177 rfl Tryz.zdo) rfl ⟨rfl,ah⟩
theorem za0(pb off g cap:Nat)(C:Array Value)(t:TypeId)(l:List yf)(time:Int)(w:World)(hq:w.heap[pb]? =some (.cells C t (0,0)))(ht:t≠223)(hc0:C[off]? =some (.slice (some (aA g 0)) l.length cap))(hr:zw w g cap l)(hl:0<l.length)(hlen:l.length<=100000000)(hd:(l.getD 0 kt).due<=time):
 Calls prog 89 #[pA pb off,iA time] w (zcX pb off g cap C t l w):=by
 have bb:pb<w.heap.size:=zj hq;have aD:pb≠g:=λe=>by
  subst e;obtain⟨cur,hg,_⟩:=hr;rw[hq] at hg;exact ht (by simpa using(Obj.cells.inj (zg6 hg)).2.1)
 have aJ:g<w.heap.size:=by obtain⟨cur,hg,_⟩:=hr;exact zj hg
 obtain⟨x,hx⟩:=gen (l.getD 0 kt);obtain⟨y,hy⟩:=gen (l.getD (l.length-1) kt);obtain⟨k,hk⟩:∃k,l.length=k+1:=⟨l.length-1,by omega⟩;have aH:l.length-1=k:=by omega
 obtain⟨w1,aj⟩:=gen (w.alloc (.cells #[iA 0,iA 0,iA 0] 177));have aE:BW w w1:=by rw[aj];exact bwA w
 have aR:w1.heap.size=w.heap.size+1:=by rw[aj];simp
 have aZ:w1.heap[w.heap.size]? =some (.cells #[iA 0,iA 0,iA 0] 177 (0,0)):=by rw[aj];exact zgr w _
 have aF:cL w1 pb C t:=blk hq aE;have aB:zw w1 g cap l:=hr.keep (aE.block g aJ);have c0:cE w1 pb off (.slice (some (aA g 0)) l.length cap):=(zgs w1 pb off _ _ _ aF).trans hc0;obtain⟨b',o',e',_,an⟩:=aB.tims 0 hl;cases e';obtain⟨b',o',e',_,al⟩:=aB.tims k (by omega);cases e';simp only[<-hx,Nat.zero_mul,Nat.zero_add,Nat.add_zero] at an;rw[aH] at hy;simp only[<-hy,Nat.zero_add] at al;have aK:x.due<=time:=by rw[hx];exact hd
 obtain⟨n1,h1,r1,d1,b1⟩:=x;obtain⟨n2,h2,r2,d2,b2⟩:=y;have a7:Hid (w1.rangeAt g 0 [iA n1,iA h1,iA r1,iA d1,iA b1]):=an;have bg:Hid (w1.rangeAt g (k*5) [iA n2,iA h2,iA r2,iA d2,iA b2]):=al;have ay:Hid (w1.rangeAt g 0 [iA n1,iA h1,iA r1]):=λj v hv=>by
  have h:=a7.o j v;match j,hv with
  |0,hv=>exact h hv
  |1,hv=>exact h hv
  |2,hv=>exact h hv
 have c3:w1.cell? (aA g 3)=some (iA d1):=by have:=a7.o 3 _ rfl;simpa using this
 have qd:decide (time<d1)=false:=zgH (by simp only at aK;omega);have qd2:¬time<d1:=by simp only at aK;omega
 have q0:((l.length:Int)==0)=false:=by rw[zgP];omega
 have hl2:(0:Int)<l.length:=by omega
 have hln:¬(l.length:Int)=0:=by omega
 have hlk:(l.length:Int)-1=(k:Int):=by omega
 have hkl:(k:Int)<l.length:=by omega
 have c0':(w.alloc (.cells #[iA 0,iA 0,iA 0] 177)).cell? (aA pb off)=some (.slice (some (aA g 0)) l.length cap):=by rw[<-aj];exact c0
 have c3':(w.alloc (.cells #[iA 0,iA 0,iA 0] 177)).cell? (aA g 3)=some (iA d1):=by rw[<-aj];exact c3
 have a1:=zc aj;clear aj;obtain⟨HX,HY,HK,bj,ah,aM,bp,bo⟩:=vF hx hy hk aB aE aR aZ aF;have a8:=zc aH;clear hx hy hd aK an al hr hk aH aB aE aR aZ aF hq;go_enter func89,ntmps89;go_wp2_with (first|(rw[<-a1.o];clear a1 c0' c3';refine zgX rfl 177 _ rfl g 0 rfl [iA n1,iA h1,iA r1] _ ay.o underlying177 rfl Tryz.zdo ?_)|(refine zgX rfl 177 _ rfl g 0 rfl [iA n1,iA h1,iA r1] _ ay.o underlying177 rfl Tryz.zdo ?_)|(refine zf rfl 177 _ _ rfl w1 #[iA n1,iA h1,iA r1] rfl rfl 177 _ rfl (by simp[Value.oneCell']) Tryz.zdo ?_;intro w2 aX aL aQ;have bn:=zc aX;have ae:=zc aL;have bd:=zc aQ;have c02:cE w2 pb off (.slice (some (aA g 0)) l.length cap):=(aL.cell (p:=(aA pb off)) (by exact zgt bb ah.o.size)).trans c0;clear aX aL aQ)|fail)

 have ar:w2.rangeAt g (k*5) [iA n2,iA h2,iA r2,iA d2,iA b2]:=λj v hv=>(ae.o.cell (p:=(aA g (k*5+j))) (by exact zgt aJ ah.o.size)).trans (bg j v hv);have aN:=zc ar;have ax:Hid (zw w2 g cap l):=bj.o.keep (ae.o.block g (zgt aJ ah.o.size));have aO:Hid (w2.heap[pb]? =some (.cells C t (0,0))):=blk bo ae;clear ar;refine rgd (S:=λW=>W.cell? (aA pb off)=some (.slice (some (aA g 0)) l.length cap)) c02 (λhH=>?_);refine zZ [(0,some 39,pA pb off),(1,some 40,pA pb off),(2,some 41,pA pb off),(3,some 42,.slice (some (aA g 0)) l.length cap),(4,some 43,pA pb off),(5,some 44,pA pb off),(6,some 45,pA pb off),(7,some 46,.slice (some (aA g 0)) l.length cap),(8,some 47,iA k),(9,some 48,pA g (k*5))] _ _ hH (λx h=>h) ?_;simp only[zh,AP,pA];refine zp 10 (λK hK=>?_);rw[zgT (by rfl)];refine wp_load_mid 223 _ rfl g (k*5) rfl [iA n2,iA h2,iA r2,iA d2,iA b2] _ aN underlying223 rfl Tryz.zdf ?_;refine hK.out _ _ c02 (λhH=>?_);clear hK K;simp only[AP,AQ];refine y8 [(11,some 50,pA g 0)] _ _ hH ?_;simp only[zh,AP,pA];refine zp 12 (λK hK=>?_);rw[zgT (by rfl)];obtain⟨cur,av,aa⟩:=ax.o;refine zr 223 _ _ rfl g 0 #[iA n2,iA h2,iA r2,iA d2,iA b2] rfl rfl 223 cur av (by have h3:=aa.2.2.1;have h1:=aa.1;simp;omega) (by simp[Value.oneCell']) Tryz.zdf ?_;intro w3 aW ag;have aU:qH _ cap (l.set 0 ⟨n2,h2,r2,d2,b2⟩):=aa.set 0 ⟨n2,h2,r2,d2,b2⟩ hl;have ad:w3.heap[pb]? =some (.cells C t (0,0)):=(ag.block pb aD).trans aO;have c03:w3.cell? (aA pb off)=some (.slice (some (aA g 0)) l.length cap):=(zgs w3 pb off _ _ _ ad).trans hc0;refine hK.out _ _ c03 (λhH=>?_);clear hK K hH;refine dnr ?_;have f03:w3.frozen? (aA pb off)=false:=zq ad off;have bc:k<=cap:=by have h1:=aa.1;have:=HK.o;omega
 have ba:=λW=>KP (some (aA g 0)) l.length cap k bc W;go_wp2_with fail
 obtain⟨w4,az⟩:=gen (w3.setCell (aA pb off) (.slice (some (aA g 0)) k cap));have af:ko pb w3 w4:=by rw[az];exact zd w3 pb off _
 have aC:w4.heap[pb]? =some (.cells (C.setIfInBounds off (.slice (some (aA g 0)) k cap)) t (0,0)):=by
  rw[az];simp[World.setCell,Array.getElem?_modify,ad]
 rw[<-az];clear az;have aG:off<C.size:=by
  rcases Nat.lt_or_ge off C.size with h|h
  .exact h
  rw[Array.getElem?_eq_none h] at hc0;cases hc0
 have c04:w4.cell? (aA pb off)=some (.slice (some (aA g 0)) k cap):=by
  rw[zgs w4 pb off _ _ _ aC,Array.getElem?_setIfInBounds_self_of_lt aG]
 have au:((l.set 0 ⟨n2,h2,r2,d2,b2⟩).take k).length=k:=by
  have:=HK.o;rw[List.length_take,List.length_set];omega
 have aT:zw w4 g cap ((l.set 0 ⟨n2,h2,r2,d2,b2⟩).take k):=⟨_,(af.block g (λe=>aD e.symm)).trans aW,aU.short k (by rw[List.length_set];have:=HK.o;omega)⟩;have a6:Hid (Calls prog 130 #[pA pb off,iA 0] w4 λe w'=>e=.returned (.tuple #[])/\zw w' g cap (qA (k-0) ((l.set 0 ⟨n2,h2,r2,d2,b2⟩).take k) 0)/\zm (λk=>k=g) w4 w'):=KW pb off g k cap 0 ((l.set 0 ⟨n2,h2,r2,d2,b2⟩).take k) w4 (by have:=HK.o;omega) c04 aD au aT (zgv _);refine a6.o.mono ?_;rintro e w5 ⟨rfl,aS,ak⟩;have aq:g≠w.heap.size/\g≠w1.heap.size/\pb≠w.heap.size/\pb≠w1.heap.size:=by have:=aM.o;omega
 have ab:∀j,j<w2.heap.size->j≠g->j≠pb->w5.heap[j]? =w2.heap[j]? :=λj hj n1 n2=>by
  rw[ak.block j (by rw[af.size,ag.size];exact hj) n1,af.block j n2,ag.block j n1];rfl
 have ai:w.heap.size<w2.heap.size/\w1.heap.size<w2.heap.size:=by have h1:=aM.o;have h2:=bd.o;omega
 have bm:Hid (w5.heap[w1.heap.size]? =some (.cells #[iA n1,iA h1,iA r1] 177 (0,0))):=(ab _ ai.2 (λe=>aq.2.1 e.symm) (λe=>aq.2.2.2 e.symm)).trans bn;have bf:Hid (w5.heap[w.heap.size]? =some (.cells #[iA 0,iA 0,iA 0] 177 (0,0))):=(ab _ ai.1 (λe=>aq.1 e.symm) (λe=>aq.2.2.1 e.symm)).trans (blk bp ae);have aP:Hid (w5.heap[pb]? =some (.cells (C.setIfInBounds off (.slice (some (aA g 0)) k cap)) t (0,0))):=(ak.block pb (zj aC) aD).trans aC;have bh:=zc aS;have aw:Hid (zm (λk=>k=pb\/k=g) w w5):=by
  refine⟨?_,?_,?_,?_,λj hj hn=>?_⟩
  .exact ak.os.trans (af.os.trans (ag.os.trans (ae.o.os.trans ah.o.os)))
  .exact ak.tape.trans (af.tape.trans (ag.tape.trans (ae.o.tape.trans ah.o.tape)))
  .exact ak.output.trans (af.output.trans (ag.output.trans (ae.o.output.trans ah.o.output)))
  .have h5:=ak.size;rw[af.size,ag.size] at h5;exact zgu ah.o.size (zgu ae.o.size h5)
  rw[ab j (by omega) (λe=>hn (zgS e)) (λe=>hn (zgR e)),ae.o.block j (by have:=aM.o;omega),ah.o.block j hj]
 clear aS ak ab ai a6 aT au c04 aC af ba f03 c03 ad aU ag aW av aa;go_wp2_with (first|(refine zg4 rfl 177 _ rfl w1.heap.size rfl 177 #[iA n1,iA h1,iA r1] (0,0) _ bm.o underlying177 rfl Tryz.zdo ?_)|(refine zi rfl 177 _ _ rfl w.heap.size #[iA n1,iA h1,iA r1] rfl rfl 177 _ bf.o rfl (by simp[Value.oneCell']) Tryz.zdo ?_;intro w6 aV aY;have bl:=zc aV;have ao:=zc aY;clear aV aY)|fail)
 refine zgJ (v:=.tuple #[.agg #[iA n1,iA h1,iA r1],bA true]) (yw results89 _ _ w.heap.size 177 _ _ _ rfl rfl bl underlying177 rfl Tryz.zdo) rfl ⟨?_,?_,?_,?_⟩
 .rw [<-HX.o]
 .rw [a8.o];exact(ao.o.block pb aq.2.2.1).trans aP
 .unfold xo;rw[a8.o,<-HY.o];exact bh.o.keep (ao.o.block g aq.1)
 refine⟨ao.o.os.trans aw.o.os,ao.o.tape.trans aw.o.tape,ao.o.output.trans aw.o.output,by rw[ao.o.size];exact aw.o.size,λj hj hn=>?_⟩;rw[ao.o.block j (by omega)];exact aw.o.block j hj hn

/- Proved here: which of two timers is done first. -/
import Derived.Test.YtcfjhbcpjpgodaaGreatDoorJ4
import Derived.Test.YtcfjhbcpjpgodaaGreatDoorJ17
import Derived.Test.YtcfjhbcpjpgodaaGreatDoorJ8
import Derived.Stop.LaidErr
import Derived.Test.YtcfjhbcpjpgodaaGreatDoorTakeL
namespace Go.Proofs.YtcfjhbcpjpgodaaGreatDoor
open Go.RowKit Go.Proofs.Tryz
set_option linter.unusedSimpArgs false
set_option maxRecDepth 100000
set_option maxHeartbeats 12800000
def beforeB(a b:TimV):Bool:=if a.due=b.due then decide (a.beg<b.beg) else decide (a.due<b.due)
theorem before_any(pb off i j:Nat)(l:List TimV)(p:Option Addr)(cap:Nat)(w:World)(hc:w.cell? ⟨pb,off,none⟩=some (.slice p l.length cap))(hl:TimsAt w w.heap.size p l.length (fun k=>l.getD k tim0))(hi:i<l.length)(hj:j<l.length):
 Calls prog 179 #[.pointer (some ⟨pb,off,none⟩),.int .i64 (i:Int),.int .i64 (j:Int)] w fun e w'=>e=.returned (.bool (beforeB (l.getD i tim0) (l.getD j tim0)))∧Below w.heap.size w w':=by
 obtain⟨b,o,rfl,hb,hri⟩:=hl i hi;obtain⟨b',o',e',_,hrj⟩:=hl j hj;cases e';obtain⟨x,hx⟩:=gen (l.getD i tim0);obtain⟨y,hy⟩:=gen (l.getD j tim0);simp only[←hx] at hri;simp only[←hy] at hrj;rw[←hx,←hy];obtain⟨n1,h1,r1,d1,b1⟩:=x;obtain⟨n2,h2,r2,d2,b2⟩:=y;have HRI:Hid (w.rangeAt b (o+i*5) [.int .i64 n1,.int .i64 h1,.int .i64 r1,.int .i64 d1,.int .i64 b1]):=hri;have HRJ:Hid (w.rangeAt b (o+j*5) [.int .i64 n2,.int .i64 h2,.int .i64 r2,.int .i64 d2,.int .i64 b2]):=hrj;have hpl:pb<w.heap.size:=World.block_lt_of_cell? _ _ hc;have hi2:(i:Int)<l.length:=by omega
 have hj2:(j:Int)<l.length:=by omega
 clear hri hrj hx hy hl;have HSB:Hid (∀W,Below w.heap.size w W→W.cell? ⟨pb,off,none⟩=some (.slice (some ⟨b,o,none⟩) l.length cap)∧W.rangeAt b (o+i*5) [.int .i64 n1,.int .i64 h1,.int .i64 r1,.int .i64 d1,.int .i64 b1]∧W.rangeAt b (o+j*5) [.int .i64 n2,.int .i64 h2,.int .i64 r2,.int .i64 d2,.int .i64 b2]):=fun W hW=>
  ⟨(hW.cell (p:=⟨pb,off,none⟩) (by exact hpl)).trans hc,fun k v hv=>(hW.cell (p:=⟨b,o+i*5+k,none⟩) (by exact hb)).trans (HRI.out k v hv),fun k v hv=>(hW.cell (p:=⟨b,o+j*5+k,none⟩) (by exact hb)).trans (HRJ.out k v hv)⟩
 go_enter func179,ntmps179;go_wp2_with fail
 refine rgd (S:=fun W=>W.cell? ⟨pb,off,none⟩=some (.slice (some ⟨b,o,none⟩) l.length cap)∧W.rangeAt b (o+i*5) [.int .i64 n1,.int .i64 h1,.int .i64 r1,.int .i64 d1,.int .i64 b1]∧W.rangeAt b (o+j*5) [.int .i64 n2,.int .i64 h2,.int .i64 r2,.int .i64 d2,.int .i64 b2]) (HSB.out _ ((Below.refl _ w).drew)) (fun hH=>?_);refine takeN [(0,some 9,pA pb off),(1,some 10,pA pb off),(2,some 11,pA pb off),(3,some 12,.slice (some ⟨b,o,none⟩) l.length cap),(4,some 13,.int .i64 (i:Int)),(5,some 14,pA b (o+i*5)),(6,some 15,.agg #[.int .i64 n1,.int .i64 h1,.int .i64 r1,.int .i64 d1,.int .i64 b1]),(7,some 16,pA pb off),(8,some 17,pA pb off),(9,some 18,pA pb off),(10,some 19,.slice (some ⟨b,o,none⟩) l.length cap),(11,some 20,.int .i64 (j:Int)),(12,some 21,pA b (o+j*5)),(13,some 22,.agg #[.int .i64 n2,.int .i64 h2,.int .i64 r2,.int .i64 d2,.int .i64 b2])] _ _ hH (by repeat(first|exact True.intro|((first|refine tkc rfl rfl (yieldsIf_load_mid (by rfl) 223 _ rfl b (o+i*5) rfl [.int .i64 n1,.int .i64 h1,.int .i64 r1,.int .i64 d1,.int .i64 b1] _ (fun w h=>h.2.1) underlying223 rfl Tryz.sizeTim) ?_|refine tkc rfl rfl (yieldsIf_load_mid (by rfl) 223 _ rfl b (o+j*5) rfl [.int .i64 n2,.int .i64 h2,.int .i64 r2,.int .i64 d2,.int .i64 b2] _ (fun w h=>h.2.2) underlying223 rfl Tryz.sizeTim) ?_|(refine tkc rfl rfl (Or.inl ⟨by rfl,fun x h=>?_⟩) ?_;focus(have f0:=h.1;go_simp;done)));simp only[AP]))) ?_;simp only[takesA,AP,pA];refine rdy2 14 15 (fun K hK=>?_) (fun K hK=>?_);focus
  go_simp;refine hK.out _ _ (HSB.out _ (((Below.refl _ w).alloc (Nat.le_refl _) _).drew)) (fun hH=>?_);clear hK K;refine rdy1 15 (fun K hK=>?_);go_simp;obtain⟨w2,hw2⟩:∃z,z=((w.alloc (.cells #[.int .i64 0,.int .i64 0,.int .i64 0,.int .i64 0,.int .i64 0] 223)).alloc (.cells #[.int .i64 0,.int .i64 0,.int .i64 0,.int .i64 0,.int .i64 0] 223)).drew:=⟨_,rfl⟩;have hb2:Below w.heap.size w w2:=by rw[hw2];exact(((Below.refl _ w).alloc (Nat.le_refl _) _).alloc (by simp) _).drew
  have q0:w2.heap[w.heap.size]? =some (.cells #[.int .i64 0,.int .i64 0,.int .i64 0,.int .i64 0,.int .i64 0] 223 (0,0)):=by
   rw[hw2];show((w.alloc (.cells #[.int .i64 0,.int .i64 0,.int .i64 0,.int .i64 0,.int .i64 0] 223)).alloc (.cells #[.int .i64 0,.int .i64 0,.int .i64 0,.int .i64 0,.int .i64 0] 223)).heap[w.heap.size]? =_;rw[Below.heap_alloc _ _ w.heap.size (by simp)];exact heap_alloc_new w _
  have q1:w2.heap[w.heap.size+1]? =some (.cells #[.int .i64 0,.int .i64 0,.int .i64 0,.int .i64 0,.int .i64 0] 223 (0,0)):=by
   rw[hw2];have h:=heap_alloc_new (w.alloc (.cells #[.int .i64 0,.int .i64 0,.int .i64 0,.int .i64 0,.int .i64 0] 223)) (.cells #[.int .i64 0,.int .i64 0,.int .i64 0,.int .i64 0,.int .i64 0] 223);rw[World.size_alloc] at h;exact h
  rw[←hw2];refine hK.out _ _ (HSB.out _ hb2) (fun hH=>?_);clear hK K hw2;refine rdy1 16 (fun K hK=>?_);rw[if_pos (by rfl)];refine wp_store_rowG 223 _ _ rfl w.heap.size #[.int .i64 n1,.int .i64 h1,.int .i64 r1,.int .i64 d1,.int .i64 b1] rfl rfl 223 _ q0 rfl (by simp[Value.oneCell']) Tryz.sizeTim ?_;intro w3 hq3 ho3;have hb3:Below w.heap.size w w3:=hb2.trans (ho3.below (by omega));have q83:w3.heap[(w.heap.size+1)]? =some (.cells #[.int .i64 0,.int .i64 0,.int .i64 0,.int .i64 0,.int .i64 0] 223 (0,0)):=(ho3.block _ (by omega)).trans q1;refine hK.out _ _ (HSB.out _ hb3) (fun hH=>?_);clear hK K;refine rdy1 17 (fun K hK=>?_);rw[if_pos (by rfl)];refine wp_store_rowG 223 _ _ rfl (w.heap.size+1) #[.int .i64 n2,.int .i64 h2,.int .i64 r2,.int .i64 d2,.int .i64 b2] rfl rfl 223 _ q83 rfl (by simp[Value.oneCell']) Tryz.sizeTim ?_;intro w4 hq4 ho4;have hb4:Below w.heap.size w w4:=hb3.trans (ho4.below (by omega));have q74:w4.heap[w.heap.size]? =some (.cells #[.int .i64 n1,.int .i64 h1,.int .i64 r1,.int .i64 d1,.int .i64 b1] 223 (0,0)):=(ho4.block _ (by omega)).trans hq3;refine hK.out _ _ (HSB.out _ hb4) (fun hH=>?_);clear hK K hH;refine dnr ?_;simp only[AP,AQ];have c1:w4.cell? ⟨w.heap.size,3,none⟩=some (.int .i64 d1):=cell_of_row w4 _ 3 _ _ _ q74;have c2:w4.cell? ⟨(w.heap.size+1),3,none⟩=some (.int .i64 d2):=cell_of_row w4 _ 3 _ _ _ hq4;have c3:w4.cell? ⟨w.heap.size,4,none⟩=some (.int .i64 b1):=cell_of_row w4 _ 4 _ _ _ q74;have c4:w4.cell? ⟨(w.heap.size+1),4,none⟩=some (.int .i64 b2):=cell_of_row w4 _ 4 _ _ _ hq4
 rotate_left;focus
  go_simp;refine hK.out _ _ (HSB.out _ (((Below.refl _ w).alloc (Nat.le_refl _) _).drew)) (fun hH=>?_);clear hK K;refine rdy1 14 (fun K hK=>?_);go_simp;obtain⟨w2,hw2⟩:∃z,z=((w.alloc (.cells #[.int .i64 0,.int .i64 0,.int .i64 0,.int .i64 0,.int .i64 0] 223)).alloc (.cells #[.int .i64 0,.int .i64 0,.int .i64 0,.int .i64 0,.int .i64 0] 223)).drew:=⟨_,rfl⟩;have hb2:Below w.heap.size w w2:=by rw[hw2];exact(((Below.refl _ w).alloc (Nat.le_refl _) _).alloc (by simp) _).drew
  have q0:w2.heap[w.heap.size]? =some (.cells #[.int .i64 0,.int .i64 0,.int .i64 0,.int .i64 0,.int .i64 0] 223 (0,0)):=by
   rw[hw2];show((w.alloc (.cells #[.int .i64 0,.int .i64 0,.int .i64 0,.int .i64 0,.int .i64 0] 223)).alloc (.cells #[.int .i64 0,.int .i64 0,.int .i64 0,.int .i64 0,.int .i64 0] 223)).heap[w.heap.size]? =_;rw[Below.heap_alloc _ _ w.heap.size (by simp)];exact heap_alloc_new w _
  have q1:w2.heap[w.heap.size+1]? =some (.cells #[.int .i64 0,.int .i64 0,.int .i64 0,.int .i64 0,.int .i64 0] 223 (0,0)):=by
   rw[hw2];have h:=heap_alloc_new (w.alloc (.cells #[.int .i64 0,.int .i64 0,.int .i64 0,.int .i64 0,.int .i64 0] 223)) (.cells #[.int .i64 0,.int .i64 0,.int .i64 0,.int .i64 0,.int .i64 0] 223);rw[World.size_alloc] at h;exact h
  rw[←hw2];refine hK.out _ _ (HSB.out _ hb2) (fun hH=>?_);clear hK K hw2;refine rdy1 16 (fun K hK=>?_);rw[if_pos (by rfl)];refine wp_store_rowG 223 _ _ rfl (w.heap.size+1) #[.int .i64 n1,.int .i64 h1,.int .i64 r1,.int .i64 d1,.int .i64 b1] rfl rfl 223 _ q1 rfl (by simp[Value.oneCell']) Tryz.sizeTim ?_;intro w3 hq3 ho3;have hb3:Below w.heap.size w w3:=hb2.trans (ho3.below (by omega));have q83:w3.heap[w.heap.size]? =some (.cells #[.int .i64 0,.int .i64 0,.int .i64 0,.int .i64 0,.int .i64 0] 223 (0,0)):=(ho3.block _ (by omega)).trans q0;refine hK.out _ _ (HSB.out _ hb3) (fun hH=>?_);clear hK K;refine rdy1 17 (fun K hK=>?_);rw[if_pos (by rfl)];refine wp_store_rowG 223 _ _ rfl w.heap.size #[.int .i64 n2,.int .i64 h2,.int .i64 r2,.int .i64 d2,.int .i64 b2] rfl rfl 223 _ q83 rfl (by simp[Value.oneCell']) Tryz.sizeTim ?_;intro w4 hq4 ho4;have hb4:Below w.heap.size w w4:=hb3.trans (ho4.below (by omega));have q74:w4.heap[(w.heap.size+1)]? =some (.cells #[.int .i64 n1,.int .i64 h1,.int .i64 r1,.int .i64 d1,.int .i64 b1] 223 (0,0)):=(ho4.block _ (by omega)).trans hq3;refine hK.out _ _ (HSB.out _ hb4) (fun hH=>?_);clear hK K hH;refine dnr ?_;simp only[AP,AQ];have c1:w4.cell? ⟨(w.heap.size+1),3,none⟩=some (.int .i64 d1):=cell_of_row w4 _ 3 _ _ _ q74;have c2:w4.cell? ⟨w.heap.size,3,none⟩=some (.int .i64 d2):=cell_of_row w4 _ 3 _ _ _ hq4;have c3:w4.cell? ⟨(w.heap.size+1),4,none⟩=some (.int .i64 b1):=cell_of_row w4 _ 4 _ _ _ q74;have c4:w4.cell? ⟨w.heap.size,4,none⟩=some (.int .i64 b2):=cell_of_row w4 _ 4 _ _ _ hq4
 rotate_left;all_goals
  have HB4:=hide hb4;clear hb4 hb3 hb2 q0 q1 q83 q74 hq3 hq4 ho3 ho4 HSB HRI HRJ;by_cases hd:d1=d2
  .subst hd;have qd:(d1 != d1)=false:=by simp
   have qe:(d1==d1)=true:=by simp
   go_wp2;go_ret;exact⟨ret_b (by simp[beforeB]),HB4.out⟩
  .have qd:(d1 != d2)=true:=by simpa using hd
   have qe:(d1==d2)=false:=by simpa using hd
   go_wp2;go_ret;exact⟨ret_b (by simp[beforeB,hd]),HB4.out⟩
section
variable{P:Program}
theorem wp_store_midG{op:Oper}{a:Act}{w:World}{K:Act→World→Prop}{Q:Exit→Act→World→Prop}(ty:TypeId)(p y:Operand)(ho:op.op=.store ty p y)
 (g off:Nat) (D:Array Value) (hp:a.eval p=.pointer (some ⟨g,off,none⟩)) (hy:a.eval y=.agg D) (t:TypeId) (C:Array Value) (hg:w.heap[g]? =some (.cells C t (0,0))) (hC:off+D.size≤C.size) (h1:∀v∈D.toList,v.oneCell'=true) (hi:(P.info? ty).map (·.size)=some D.size)
 (h:∀w',w'.heap[g]? =some (.cells (C.toList.take off++D.toList++C.toList.drop (off+D.size)).toArray t (0,0))→Only g w w'→K (a.put op.dst undef) w'):op.wp P a w K Q:=by
 have hs:=run_storeCells_at P g off t D.toList 0 C w hg (by simp;omega) h1;have hr:(storeVar ty ⟨g,off,none⟩ (.agg D)).run P w=.ok () (w.setRow g (C.toList.take off++D.toList++C.toList.drop (off+D.size)).toArray):=by
  simp only[Nat.add_zero,Array.length_toList] at hs;cases hq:P.info? ty with
  |none=>simp[hq] at hi
  |some i=>
   have hz:i.size=D.size:=by simpa [hq] using hi
   simp[storeVar,sizeOf,typeInfo,hq,Value.cells,hz,hs]
 unfold Oper.wp execOp;simp only[ho,hp,hy,Instr.storeAt,Instr.sureAddr,Sem.run_bind,Sem.run_pure,Result.andThen_ok,hr];exact h _ (setRow_heap _ _ C _ t (0,0) hg) (only_setRow _ _ _)
end
def TimCells(cur:Array Value)(cap:Nat)(l:List TimV):Prop:=l.length≤cap∧cap≤maxLen∧cur.size=cap*5∧cur.toList.take (l.length*5)=timL l
def TimRowAt(w:World)(g cap:Nat)(l:List TimV):Prop:=∃cur,w.heap[g]? =some (.cells cur 223 (0,0))∧TimCells cur cap l
theorem timL_set(x:TimV):∀(l:List TimV) (k:Nat),k<l.length→timL (l.set k x)=(timL l).take (k*5)++x.cells.toList++(timL l).drop (k*5+5)
 | [],k,h=>by simp at h
 |m::l,0,_=>by
  have hc:m.cells.toList.length=5:=by simp[TimV.cells]
  have e:timL (m::l)=m.cells.toList++timL l:=by simp[timL]
  have e2:timL (x::l)=x.cells.toList++timL l:=by simp[timL]
  rw[List.set_cons_zero,e,e2,Nat.zero_mul,List.take_zero,List.nil_append,Nat.zero_add,List.drop_append_of_le_length (by omega),List.drop_of_length_le (by omega),List.nil_append]
 |m::l,k+1,h=>by
  have hc:m.cells.toList.length=5:=by simp[TimV.cells]
  have ih:=timL_set x l k (by simpa using h);have e:timL (m::l)=m.cells.toList++timL l:=by simp[timL]
  have e2:timL (m::l.set k x)=m.cells.toList++timL (l.set k x):=by simp[timL]
  rw[List.set_cons_succ,e,e2,ih];have h1:(k+1)*5=m.cells.toList.length+k*5:=by omega
  have h2:(k+1)*5+5=m.cells.toList.length+(k*5+5):=by omega
  rw[h1,List.take_length_add_append,Nat.add_assoc,List.drop_length_add_append];simp[List.append_assoc]
theorem TimCells.set{cur:Array Value}{cap:Nat}{l:List TimV}(h:TimCells cur cap l)(k:Nat)(x:TimV)(hk:k<l.length):TimCells (cur.toList.take (k*5)++x.cells.toList++cur.toList.drop (k*5+5)).toArray cap (l.set k x):=by
 obtain⟨h1,h2,h3,h4⟩:=h;have hx:x.cells.toList.length=5:=by simp[TimV.cells]
 have hk5:k*5+5≤l.length*5:=by
  have:(k+1)*5≤l.length*5:=Nat.mul_le_mul_right 5 (by omega);omega
 have hlc:l.length*5≤cap*5:=Nat.mul_le_mul_right 5 h1;obtain⟨R,hR⟩:=gen (cur.toList.drop (l.length*5));have hcur:cur.toList=timL l++R:=by rw[hR,←h4,List.take_append_drop]
 have hlen:(timL l).length=l.length*5:=timL_length l;refine⟨by simpa using h1,h2,?_,?_⟩
 .simp only[List.size_toArray,List.length_append,List.length_take,List.length_drop,hx,Array.length_toList];omega
 have e:cur.toList.take (k*5)++x.cells.toList++cur.toList.drop (k*5+5)=timL (l.set k x)++R:=by
  rw[hcur,timL_set x l k hk,List.take_append_of_le_length (by omega),List.drop_append_of_le_length (by omega)];simp[List.append_assoc]
 rw[List.toList_toArray,e,List.length_set,List.take_append_of_le_length (by rw[timL_length,List.length_set];exact Nat.le_refl _),List.take_of_length_le (by rw[timL_length,List.length_set];exact Nat.le_refl _)]
theorem TimRowAt.tims{w:World}{g cap:Nat}{l:List TimV}(h:TimRowAt w g cap l):TimsAt w w.heap.size (some ⟨g,0,none⟩) l.length (fun i=>l.getD i tim0):=fun i hi=>by
 obtain⟨cur,hg,h1,h2,h3,h4⟩:=h;refine⟨g,0,rfl,row_lt0 hg,fun j v hv=>?_⟩;rw[cell_of_row w g _ _ _ _ hg,Nat.zero_add];have hj:j<5:=by have:=(List.getElem?_eq_some_iff.1 hv).1;simpa [TimV.cells] using this
 have e1:(cur.toList.take (l.length*5))[i*5+j]? =(timL l)[i*5+j]? :=by rw[h4]
 have hlt:i*5+j<l.length*5:=by
  have:(i+1)*5≤l.length*5:=Nat.mul_le_mul_right 5 (by omega);omega
 rw[List.getElem?_take,if_pos hlt] at e1;rw[←Array.getElem?_toList,e1,←hv];exact timL_get l j hj i hi
theorem TimRowAt.keep{w w':World}{g cap:Nat}{l:List TimV}(h:TimRowAt w g cap l)(hb:w'.heap[g]? =w.heap[g]?):TimRowAt w' g cap l:=by
 obtain⟨cur,hg,h1⟩:=h;exact⟨cur,hb.trans hg,h1⟩
def swapT(l:List TimV)(i j:Nat):List TimV:=(l.set i (l.getD j tim0)).set j (l.getD i tim0)
theorem swapT_length(l:List TimV)(i j:Nat):(swapT l i j).length=l.length:=by simp[swapT]
def upT:Nat→List TimV→Nat→List TimV
 |0,l,_=>l
 |f+1,l,i=>if i=0 then l else if beforeB (l.getD i tim0) (l.getD ((i-1) / 2) tim0) then upT f (swapT l i ((i-1) / 2)) ((i-1) / 2) else l
theorem upT_stop{f:Nat}{l:List TimV}{i:Nat}(h:i≠0→beforeB (l.getD i tim0) (l.getD ((i-1) / 2) tim0)=false):upT f l i=l:=by
 cases f with
 |zero=>rfl
 |succ f=>
  rw[upT];by_cases e:i=0
  .rw [if_pos e]
  rw[if_neg e,h e];rfl
theorem upT_step{f:Nat}{l:List TimV}{i:Nat}(e:i≠0)(h:beforeB (l.getD i tim0) (l.getD ((i-1) / 2) tim0)=true):upT (f+1) l i=upT f (swapT l i ((i-1) / 2)) ((i-1) / 2):=by
 rw[upT,if_neg e,if_pos h]
theorem siftUp_any(pb off g n cap i0:Nat)(l0:List TimV)(w:World)(hn:n≤1000000000)(hc:w.cell? ⟨pb,off,none⟩=some (.slice (some ⟨g,0,none⟩) n cap))(hpg:pb≠g)(hln:l0.length=n)(hr:TimRowAt w g cap l0)(hi:i0<n):
 Calls prog 200 #[.pointer (some ⟨pb,off,none⟩),.int .i64 (i0:Int)] w fun e w'=>e=.returned (.tuple #[])∧TimRowAt w' g cap (upT i0 l0 i0)∧SameBut (fun k=>k=g) w w':=by
 obtain⟨HC,HR,HL0,HI0,HN⟩:=hide5 hc hr hln hi hn;have hpl:pb<w.heap.size:=World.block_lt_of_cell? _ _ hc;clear hc hr hln hi hn;go_enter func200,ntmps200;go_wp2;go_loopw [1,4] (fun iv _ wr=>∃(i:Nat) (l:List TimV) (f:Nat),iv=.int .i64 i∧i<n∧l.length=n∧upT f l i=upT i0 l0 i0∧i≤f∧TimRowAt wr g cap l∧SameBut (fun k=>k=g) w wr) (fun iv _ _=>(intOf iv).toNat)
 case atStart=>exact⟨i0,l0,i0,rfl,HI0.out,HL0.out,rfl,Nat.le_refl _,HR.out,⟨rfl,rfl,rfl,Nat.le_refl _,fun _ _ _=>rfl⟩⟩
 obtain⟨i,l,f,rfl,hin,hlen,hup,hif,hrow,hs⟩:=hrel;obtain⟨HUP,HLN,HROWr,HSr,HIF⟩:=hide5 hup hlen hrow hs hif;clear hup hlen hrow hs hif;by_cases h0:i=0
 .subst h0;have HFIN:Hid (TimRowAt wr g cap (upT i0 l0 i0)):=by
   unfold Hid;rw[←HUP.out,upT_stop (fun h=>absurd rfl h)];exact HROWr.out
  go_wp2;first|exact bodyPost_end (v:=.tuple #[]) (by simp[results,results200]) rfl ⟨rfl,HFIN.out,HSr.out⟩|exact bodyPost_ret (v:=.tuple #[]) (by simp[results,results200]) rfl ⟨rfl,HFIN.out,HSr.out⟩
 have hpos:(0:Int)<i:=by omega
 have hgt:decide ((0:Int)<i)=true:=decide_eq_true hpos;obtain⟨p,hp⟩:∃p,p=(i-1) / 2:=⟨_,rfl⟩;have hpi:p<i:=by omega
 have hnb:i≤1000000000:=by have:=HN.out;omega
 have hquo:Int.tdiv ((i:Int)-1) 2=(p:Int):=by
  have e1:(i:Int)-1=((i-1:Nat):Int):=by omega
  rw[e1,hp];rfl
 obtain⟨HP,HPI⟩:=hide2 hp hpi;have HPN:Hid (p<n):=Nat.lt_trans hpi hin;have hcr:wr.cell? ⟨pb,off,none⟩=some (.slice (some ⟨g,0,none⟩) l.length cap):=by
  rw[HLN.out];exact(World.cell?_of_block (w:=w) (a:=⟨pb,off,none⟩) (HSr.out.block pb hpl hpg)).trans HC.out
 have HBF:=hide (before_any pb off i p l (some ⟨g,0,none⟩) cap wr hcr HROWr.out.tims (by rw[HLN.out];exact hin) (by rw[HLN.out];exact HPN.out));obtain⟨bv,hbv⟩:=gen (beforeB (l.getD i tim0) (l.getD p tim0));rw[←hbv] at HBF;have HBV:=hide hbv;clear hp hbv hcr;go_wp2_with fail
 refine HBF.out.mono ?_;rintro e w2 ⟨rfl,hb2⟩;have HS2:Hid (SameBut (fun k=>k=g) w w2):=⟨hb2.os.trans HSr.out.os,hb2.tape.trans HSr.out.tape,hb2.output.trans HSr.out.output,Nat.le_trans HSr.out.size hb2.size,fun k hk hn=>(hb2.block k (Nat.lt_of_lt_of_le hk HSr.out.size)).trans (HSr.out.block k hk hn)⟩;have HROW:Hid (TimRowAt w2 g cap l):=HROWr.out.keep (hb2.block g (by obtain⟨cur,hg,_⟩:=HROWr.out;exact row_lt0 hg));have hcs:w2.cell? ⟨pb,off,none⟩=some (.slice (some ⟨g,0,none⟩) n cap):=(World.cell?_of_block (w:=w) (a:=⟨pb,off,none⟩) (HS2.out.block pb hpl hpg)).trans HC.out;clear hb2 HBF HSr HROWr;cases bv with
 |false=>
  have HFIN:Hid (TimRowAt w2 g cap (upT i0 l0 i0)):=by
   unfold Hid;rw[←HUP.out,upT_stop (fun _=>by rw[←HP.out];exact HBV.out.symm)];exact HROW.out
  go_wp2;first|exact bodyPost_ret (v:=.tuple #[]) (by simp[results,results200]) rfl ⟨rfl,HFIN.out,HS2.out⟩|exact bodyPost_end (v:=.tuple #[]) (by simp[results,results200]) rfl ⟨rfl,HFIN.out,HS2.out⟩
 |true=>
  obtain⟨f,rfl⟩:∃f',f=f'+1:=⟨f-1,by have:=HIF.out;omega⟩;have HSTEP:Hid (upT f (swapT l i p) p=upT i0 l0 i0):=by
   unfold Hid;rw[←HUP.out,upT_step h0 (by rw[←HP.out];exact HBV.out.symm),←HP.out]
  have HPF:Hid (p≤f):=by have:=HIF.out;unfold Hid;omega
  obtain⟨x,hx⟩:=gen (l.getD i tim0);obtain⟨y,hy⟩:=gen (l.getD p tim0);obtain⟨bI,oI,eI,_,hri⟩:=HROW.out.tims i (by rw[HLN.out];exact hin);cases eI;obtain⟨bQ,oQ,eQ,_,hrq⟩:=HROW.out.tims p (by rw[HLN.out];exact HPN.out);cases eQ;simp only[←hx,Nat.zero_add] at hri;simp only[←hy,Nat.zero_add] at hrq;obtain⟨n1,h1,r1,d1,b1⟩:=x;obtain⟨n2,h2,r2,d2,b2⟩:=y;obtain⟨HX,HY⟩:=hide2 hx hy;have HRI:Hid (w2.rangeAt g (i*5) [.int .i64 n1,.int .i64 h1,.int .i64 r1,.int .i64 d1,.int .i64 b1]):=hri;have HRQ:Hid (w2.rangeAt g (p*5) [.int .i64 n2,.int .i64 h2,.int .i64 r2,.int .i64 d2,.int .i64 b2]):=hrq;have hpn:p<n:=HPN.out;have hin2:(i:Int)<n:=by omega
  have hpn2:(p:Int)<n:=by omega
  clear hx hy hri hrq HUP HIF HBV;go_wp2_with fail
  refine rgd (S:=fun W=>W.cell? ⟨pb,off,none⟩=some (.slice (some ⟨g,0,none⟩) n cap)) hcs (fun hH=>?_);refine takeN [(0,some 15,pA pb off),(1,some 16,pA pb off),(2,some 17,pA pb off),(3,some 18,.slice (some ⟨g,0,none⟩) n cap),(4,some 19,.int .i64 (i:Int)),(5,some 20,pA pb off),(6,some 21,pA pb off),(7,some 22,pA pb off),(8,some 23,.slice (some ⟨g,0,none⟩) n cap),(9,some 24,.int .i64 (p:Int)),(10,some 25,pA pb off),(11,some 26,pA pb off),(12,some 27,pA pb off),(13,some 28,.slice (some ⟨g,0,none⟩) n cap),(14,some 29,.int .i64 (p:Int)),(15,some 30,pA g (p*5)),(17,some 32,pA pb off),(18,some 33,pA pb off),(19,some 34,pA pb off),(20,some 35,.slice (some ⟨g,0,none⟩) n cap),(21,some 36,.int .i64 (i:Int)),(22,some 37,pA g (i*5))] _ _ hH (by repeat(first|exact True.intro|(refine tkc rfl rfl (Or.inl ⟨by rfl,fun x h=>by have f0:=h;go_simp⟩) ?_;simp only[AP]))) ?_;simp only[takesA,AP,pA];refine rdy2 16 23 (fun K hK=>?_) (fun K hK=>?_);focus
   rw[if_pos (by rfl)];refine wp_load_mid 223 _ rfl g (p*5) rfl [.int .i64 n2,.int .i64 h2,.int .i64 r2,.int .i64 d2,.int .i64 b2] _ HRQ.out underlying223 rfl Tryz.sizeTim ?_;refine hK.out _ _ hcs (fun hH=>?_);clear hK K;simp only[AP,AQ];refine rdy1 23 (fun K hK=>?_);rw[if_pos (by rfl)];refine wp_load_mid 223 _ rfl g (i*5) rfl [.int .i64 n1,.int .i64 h1,.int .i64 r1,.int .i64 d1,.int .i64 b1] _ HRI.out underlying223 rfl Tryz.sizeTim ?_
  rotate_left;focus
   rw[if_pos (by rfl)];refine wp_load_mid 223 _ rfl g (i*5) rfl [.int .i64 n1,.int .i64 h1,.int .i64 r1,.int .i64 d1,.int .i64 b1] _ HRI.out underlying223 rfl Tryz.sizeTim ?_;refine hK.out _ _ hcs (fun hH=>?_);clear hK K;simp only[AP,AQ];refine rdy1 16 (fun K hK=>?_);rw[if_pos (by rfl)];refine wp_load_mid 223 _ rfl g (p*5) rfl [.int .i64 n2,.int .i64 h2,.int .i64 r2,.int .i64 d2,.int .i64 b2] _ HRQ.out underlying223 rfl Tryz.sizeTim ?_
  rotate_left;all_goals
   refine hK.out _ _ hcs (fun hH=>?_);clear hK K;simp only[AP,AQ];refine takeM [(24,some 39,pA g (i*5))] _ _ hH ?_;simp only[takesA,AP,pA];refine rdy1 25 (fun K hK=>?_);rw[if_pos (by rfl)];obtain⟨cur,hcur,hrow⟩:=HROW.out;refine wp_store_midG 223 _ _ rfl g (i*5) #[.int .i64 n2,.int .i64 h2,.int .i64 r2,.int .i64 d2,.int .i64 b2] rfl rfl 223 cur hcur (by have h3:=hrow.2.2.1;have h1:=hrow.1;have h2:=HLN.out;simp;omega) (by simp[Value.oneCell']) Tryz.sizeTim ?_;intro w4 hq4 ho4;have hr4:TimRowAt w4 g cap (l.set i ⟨n2,h2,r2,d2,b2⟩):=⟨_,hq4,hrow.set i ⟨n2,h2,r2,d2,b2⟩ (by rw[HLN.out];omega)⟩;have hcs4:w4.cell? ⟨pb,off,none⟩=some (.slice (some ⟨g,0,none⟩) n cap):=(World.cell?_of_block (w:=w2) (a:=⟨pb,off,none⟩) (ho4.block pb hpg)).trans hcs;refine hK.out _ _ hcs4 (fun hH=>?_);clear hK K;simp only[AP,AQ];refine takeM [(26,some 40,pA g (p*5))] _ _ hH ?_;simp only[takesA,AP,pA];refine rdy1 27 (fun K hK=>?_);rw[if_pos (by rfl)];obtain⟨cur4,hcur4,hrow4⟩:=hr4;refine wp_store_midG 223 _ _ rfl g (p*5) #[.int .i64 n1,.int .i64 h1,.int .i64 r1,.int .i64 d1,.int .i64 b1] rfl rfl 223 cur4 hcur4 (by have h3:=hrow4.2.2.1;have h1:=hrow4.1;have h2:=HLN.out;simp only[List.length_set] at h1;simp;omega) (by simp[Value.oneCell']) Tryz.sizeTim ?_;intro w5 hq5 ho5;have hr5:TimRowAt w5 g cap ((l.set i ⟨n2,h2,r2,d2,b2⟩).set p ⟨n1,h1,r1,d1,b1⟩):=⟨_,hq5,hrow4.set p ⟨n1,h1,r1,d1,b1⟩ (by rw[List.length_set,HLN.out];omega)⟩;have hcs5:w5.cell? ⟨pb,off,none⟩=some (.slice (some ⟨g,0,none⟩) n cap):=(World.cell?_of_block (w:=w4) (a:=⟨pb,off,none⟩) (ho5.block pb hpg)).trans hcs4;refine hK.out _ _ hcs5 (fun hH=>?_);clear hK K hH;refine dnr ?_;simp only[AP,AQ];have HOK:Hid (TimRowAt w5 g cap (swapT l i p)∧SameBut (fun k=>k=g) w w5):=by
    refine⟨?_,?_⟩
    .unfold swapT;rw[←HX.out,←HY.out];exact hr5
    .have hs4:SameBut (fun k=>k=g) w w4:=⟨ho4.os.trans HS2.out.os,ho4.tape.trans HS2.out.tape,ho4.output.trans HS2.out.output,by rw[ho4.size];exact HS2.out.size,fun k hk hn=>(ho4.block k hn).trans (HS2.out.block k hk hn)⟩;exact⟨ho5.os.trans hs4.os,ho5.tape.trans hs4.tape,ho5.output.trans hs4.output,by rw[ho5.size];exact hs4.size,fun k hk hn=>(ho5.block k hn).trans (hs4.block k hk hn)⟩
   clear hr5 hcs5 hcs4 ho4 ho5 hq4 hq5 hcur hrow hcur4 hrow4;go_wp2;go_roundw
   case rel=>exact⟨p,swapT l i p,f,rfl,HPN.out,by rw[swapT_length];exact HLN.out,HSTEP.out,HPF.out,HOK.out.1,HOK.out.2⟩
   case measure=>have:=HPI.out;simp[intOf];omega
def leastF(l:List TimV):Nat→Nat→Nat→Nat
 |0,_,m=>m
 |f+1,c,m=>leastF l f (c+1) (if c<l.length∧beforeB (l.getD c tim0) (l.getD m tim0)=true then c else m)
def leastT(l:List TimV)(i:Nat):Nat:=leastF l 2 (2*i+1) i
theorem leastF_end{l:List TimV}{m:Nat}:∀(f c:Nat),l.length≤c→leastF l f c m=m
 |0,_,_=>rfl
 |f+1,c,h=>by
  rw[leastF,if_neg (by omega)];exact leastF_end f (c+1) (by omega)
def downT:Nat→List TimV→Nat→List TimV
 |0,l,_=>l
 |f+1,l,i=>if leastT l i=i then l else downT f (swapT l i (leastT l i)) (leastT l i)
theorem downT_stop{f:Nat}{l:List TimV}{i:Nat}(h:leastT l i=i):downT f l i=l:=by
 cases f with
 |zero=>rfl
 |succ f=>rw[downT,if_pos h]
theorem downT_step{f:Nat}{l:List TimV}{i:Nat}(h:leastT l i≠i):downT (f+1) l i=downT f (swapT l i (leastT l i)) (leastT l i):=by rw[downT,if_neg h]
theorem siftDown_any(pb off g n cap i0:Nat)(l0:List TimV)(w:World)(hn:n≤1000000000)(hc:w.cell? ⟨pb,off,none⟩=some (.slice (some ⟨g,0,none⟩) n cap))(hpg:pb≠g)(hln:l0.length=n)(hr:TimRowAt w g cap l0)(hi:i0≤n):
 Calls prog 130 #[.pointer (some ⟨pb,off,none⟩),.int .i64 (i0:Int)] w fun e w'=>e=.returned (.tuple #[])∧TimRowAt w' g cap (downT (n-i0) l0 i0)∧SameBut (fun k=>k=g) w w':=by
 obtain⟨HC,HR,HL0,HI0,HN⟩:=hide5 hc hr hln hi hn;have hpl:pb<w.heap.size:=World.block_lt_of_cell? _ _ hc;clear hc hr hln hi hn;go_enter func130,ntmps130;go_wp2;go_loopw [1,4,5] (fun iv _ _ wr=>∃(i:Nat) (l:List TimV) (f:Nat),iv=.int .i64 i∧i≤n∧l.length=n∧downT f l i=downT (n-i0) l0 i0∧n-i≤f∧TimRowAt wr g cap l∧SameBut (fun k=>k=g) w wr) (fun iv _ _ _=>n-(intOf iv).toNat)
 case atStart=>exact⟨i0,l0,n-i0,rfl,HI0.out,HL0.out,rfl,Nat.le_refl _,HR.out,⟨rfl,rfl,rfl,Nat.le_refl _,fun _ _ _=>rfl⟩⟩
 obtain⟨wo,hwo⟩:=gen wr;subst hwo;obtain⟨i,l,f,rfl,hin,hlen,hup,hif,hrow,hs⟩:=hrel;obtain⟨HUP,HLN,HROWo,HSo,HIF,HIN⟩:=hide6 hup hlen hrow hs hif hin;have hnb:n≤1000000000:=HN.out;clear hup hlen hrow hs hif;go_wp2;go_loopw [4,5] (fun mv cv wr=>∃(c m:Nat),cv=.int .i64 c∧mv=.int .i64 m∧2*i+1≤c∧c≤2*i+3∧i≤m∧m<c∧(m=i∨m<n)∧leastF l (2*i+3-c) c m=leastT l i∧Below wo.heap.size wo wr) (fun _ cv _=>2*i+3-(intOf cv).toNat)
 case atStart=>exact⟨2*i+1,i,by go_num,rfl,Nat.le_refl _,by omega,Nat.le_refl _,by omega,Or.inl rfl,by unfold leastT;rw[show 2*i+3-(2*i+1)=2 by omega],Below.refl _ _⟩
 obtain⟨c,m,rfl,rfl,hc1,hc3,him,hmc,hmn,hle,hb⟩:=hrel;obtain⟨HLE,HMN,HB⟩:=hide3 hle hmn hb;have HS2:Hid (SameBut (fun k=>k=g) w wr):=⟨hb.os.trans HSo.out.os,hb.tape.trans HSo.out.tape,hb.output.trans HSo.out.output,Nat.le_trans HSo.out.size hb.size,fun k hk hn=>(hb.block k (Nat.lt_of_lt_of_le hk HSo.out.size)).trans (HSo.out.block k hk hn)⟩;have HROW:Hid (TimRowAt wr g cap l):=HROWo.out.keep (hb.block g (by obtain⟨cur,hg,_⟩:=HROWo.out;exact row_lt0 hg));have hcs:wr.cell? ⟨pb,off,none⟩=some (.slice (some ⟨g,0,none⟩) n cap):=(World.cell?_of_block (w:=w) (a:=⟨pb,off,none⟩) (HS2.out.block pb hpl hpg)).trans HC.out;clear hle hmn hb;by_cases hc2:c≤2*i+2
 .have hq1:(c:Int)≤2*(i:Int)+2:=by omega
  by_cases hcn:c<n
  .have hq2:(c:Int)<n:=by omega
   have hmn:m<n:=by omega
   have HBF:=hide (before_any pb off c m l (some ⟨g,0,none⟩) cap wr (by rw[HLN.out];exact hcs) HROW.out.tims (by rw[HLN.out];exact hcn) (by rw[HLN.out];exact hmn));obtain⟨bv,hbv⟩:=gen (beforeB (l.getD c tim0) (l.getD m tim0));rw[←hbv] at HBF;have HBV:=hide hbv;have HNX:Hid (leastF l (2*i+3-(c+1)) (c+1) (if bv=true then c else m)=leastT l i):=by
    have h:=HLE.out;rw[show 2*i+3-c=(2*i+3-(c+1))+1 by omega,leastF] at h;rw[←hbv] at h;have h2:c<l.length:=by rw[HLN.out];exact hcn
    simp only[h2,true_and] at h;exact h
   clear hbv;go_wp2_with fail
   refine HBF.out.mono ?_;rintro e w2 ⟨rfl,hb2⟩;have HB2:Hid (Below wo.heap.size wo w2):=HB.out.trans (hb2.mono HB.out.size);clear hb2 HBF;cases bv with
   |true=>
    go_wp2;go_roundw
    case rel=>exact⟨c+1,c,by go_num,rfl,by omega,by omega,by omega,by omega,Or.inr hcn,by simpa using HNX.out,HB2.out⟩
    case measure=>simp[intOf];omega
   |false=>
    go_wp2;go_roundw
    case rel=>exact⟨c+1,m,by go_num,rfl,by omega,by omega,him,by omega,HMN.out,by simpa using HNX.out,HB2.out⟩
    case measure=>simp[intOf];omega
  have hq2:¬(c:Int)<n:=by omega
  have HLT:Hid (leastT l i=m):=by unfold Hid;rw[←HLE.out,leastF_end _ _ (by rw[HLN.out];omega)]
  by_cases hmi:m=i
  .have HFIN:Hid (TimRowAt wr g cap (downT (n-i0) l0 i0)):=by
    unfold Hid;rw[←HUP.out,downT_stop (by rw[HLT.out];exact hmi)];exact HROW.out
   have qm:((m:Int)==i)=true:=by simp;omega
   clear hmi;go_wp2;first|exact bodyPost_ret (v:=.tuple #[]) (by simp[results,results130]) rfl ⟨rfl,HFIN.out,HS2.out⟩|exact bodyPost_end (v:=.tuple #[]) (by simp[results,results130]) rfl ⟨rfl,HFIN.out,HS2.out⟩
  have hml:m<n:=by
   rcases HMN.out with h|h
   .exact absurd h hmi
   exact h
  have hil:i<n:=by omega
  have qm:((m:Int)==i)=false:=by simp;omega
  obtain⟨f,rfl⟩:∃f',f=f'+1:=⟨f-1,by have:=HIF.out;omega⟩;have HSTEP:Hid (downT f (swapT l i m) m=downT (n-i0) l0 i0):=by
   unfold Hid;rw[←HUP.out,downT_step (by rw[HLT.out];exact hmi),HLT.out]
  have HPF:Hid (n-m≤f):=by have:=HIF.out;unfold Hid;omega
  have HMLT:=hide hml;have HIM:Hid (i<m):=by unfold Hid;omega
  obtain⟨x,hx⟩:=gen (l.getD i tim0);obtain⟨y,hy⟩:=gen (l.getD m tim0);obtain⟨bI,oI,eI,_,hri⟩:=HROW.out.tims i (by rw[HLN.out];exact hil);cases eI;obtain⟨bQ,oQ,eQ,_,hrq⟩:=HROW.out.tims m (by rw[HLN.out];exact hml);cases eQ;simp only[←hx,Nat.zero_add] at hri;simp only[←hy,Nat.zero_add] at hrq;obtain⟨n1,h1,r1,d1,b1⟩:=x;obtain⟨n2,h2,r2,d2,b2⟩:=y;obtain⟨HX,HY⟩:=hide2 hx hy;have HRI:Hid (wr.rangeAt g (i*5) [.int .i64 n1,.int .i64 h1,.int .i64 r1,.int .i64 d1,.int .i64 b1]):=hri;have HRQ:Hid (wr.rangeAt g (m*5) [.int .i64 n2,.int .i64 h2,.int .i64 r2,.int .i64 d2,.int .i64 b2]):=hrq;have hin2:(i:Int)<n:=by omega
  have hpn2:(m:Int)<n:=by omega
  clear hx hy hri hrq HUP HIF HLE HB HMN hmi;go_wp2_with fail
  refine rgd (S:=fun W=>W.cell? ⟨pb,off,none⟩=some (.slice (some ⟨g,0,none⟩) n cap)) hcs (fun hH=>?_);refine takeN [(0,some 34,pA pb off),(1,some 35,pA pb off),(2,some 36,pA pb off),(3,some 37,.slice (some ⟨g,0,none⟩) n cap),(4,some 38,.int .i64 (i:Int)),(5,some 39,pA pb off),(6,some 40,pA pb off),(7,some 41,pA pb off),(8,some 42,.slice (some ⟨g,0,none⟩) n cap),(9,some 43,.int .i64 (m:Int)),(10,some 44,pA pb off),(11,some 45,pA pb off),(12,some 46,pA pb off),(13,some 47,.slice (some ⟨g,0,none⟩) n cap),(14,some 48,.int .i64 (m:Int)),(15,some 49,pA g (m*5)),(17,some 51,pA pb off),(18,some 52,pA pb off),(19,some 53,pA pb off),(20,some 54,.slice (some ⟨g,0,none⟩) n cap),(21,some 55,.int .i64 (i:Int)),(22,some 56,pA g (i*5))] _ _ hH (by repeat(first|exact True.intro|(refine tkc rfl rfl (Or.inl ⟨by rfl,fun x h=>by have f0:=h;go_simp⟩) ?_;simp only[AP]))) ?_;simp only[takesA,AP,pA];refine rdy2 16 23 (fun K hK=>?_) (fun K hK=>?_);focus
   rw[if_pos (by rfl)];refine wp_load_mid 223 _ rfl g (m*5) rfl [.int .i64 n2,.int .i64 h2,.int .i64 r2,.int .i64 d2,.int .i64 b2] _ HRQ.out underlying223 rfl Tryz.sizeTim ?_;refine hK.out _ _ hcs (fun hH=>?_);clear hK K;simp only[AP,AQ];refine rdy1 23 (fun K hK=>?_);rw[if_pos (by rfl)];refine wp_load_mid 223 _ rfl g (i*5) rfl [.int .i64 n1,.int .i64 h1,.int .i64 r1,.int .i64 d1,.int .i64 b1] _ HRI.out underlying223 rfl Tryz.sizeTim ?_
  rotate_left;focus
   rw[if_pos (by rfl)];refine wp_load_mid 223 _ rfl g (i*5) rfl [.int .i64 n1,.int .i64 h1,.int .i64 r1,.int .i64 d1,.int .i64 b1] _ HRI.out underlying223 rfl Tryz.sizeTim ?_;refine hK.out _ _ hcs (fun hH=>?_);clear hK K;simp only[AP,AQ];refine rdy1 16 (fun K hK=>?_);rw[if_pos (by rfl)];refine wp_load_mid 223 _ rfl g (m*5) rfl [.int .i64 n2,.int .i64 h2,.int .i64 r2,.int .i64 d2,.int .i64 b2] _ HRQ.out underlying223 rfl Tryz.sizeTim ?_
  rotate_left;all_goals
   refine hK.out _ _ hcs (fun hH=>?_);clear hK K;simp only[AP,AQ];refine takeM [(24,some 58,pA g (i*5))] _ _ hH ?_;simp only[takesA,AP,pA];refine rdy1 25 (fun K hK=>?_);rw[if_pos (by rfl)];obtain⟨cur,hcur,hrow⟩:=HROW.out;refine wp_store_midG 223 _ _ rfl g (i*5) #[.int .i64 n2,.int .i64 h2,.int .i64 r2,.int .i64 d2,.int .i64 b2] rfl rfl 223 cur hcur (by have h3:=hrow.2.2.1;have h1:=hrow.1;have h2:=HLN.out;simp;omega) (by simp[Value.oneCell']) Tryz.sizeTim ?_;intro w4 hq4 ho4;have hr4:TimRowAt w4 g cap (l.set i ⟨n2,h2,r2,d2,b2⟩):=⟨_,hq4,hrow.set i ⟨n2,h2,r2,d2,b2⟩ (by rw[HLN.out];omega)⟩;have hcs4:w4.cell? ⟨pb,off,none⟩=some (.slice (some ⟨g,0,none⟩) n cap):=(World.cell?_of_block (w:=wr) (a:=⟨pb,off,none⟩) (ho4.block pb hpg)).trans hcs;refine hK.out _ _ hcs4 (fun hH=>?_);clear hK K;simp only[AP,AQ];refine takeM [(26,some 59,pA g (m*5))] _ _ hH ?_;simp only[takesA,AP,pA];refine rdy1 27 (fun K hK=>?_);rw[if_pos (by rfl)];obtain⟨cur4,hcur4,hrow4⟩:=hr4;refine wp_store_midG 223 _ _ rfl g (m*5) #[.int .i64 n1,.int .i64 h1,.int .i64 r1,.int .i64 d1,.int .i64 b1] rfl rfl 223 cur4 hcur4 (by have h3:=hrow4.2.2.1;have h1:=hrow4.1;have h2:=HLN.out;simp only[List.length_set] at h1;simp;omega) (by simp[Value.oneCell']) Tryz.sizeTim ?_;intro w5 hq5 ho5;have hr5:TimRowAt w5 g cap ((l.set i ⟨n2,h2,r2,d2,b2⟩).set m ⟨n1,h1,r1,d1,b1⟩):=⟨_,hq5,hrow4.set m ⟨n1,h1,r1,d1,b1⟩ (by rw[List.length_set,HLN.out];omega)⟩;have hcs5:w5.cell? ⟨pb,off,none⟩=some (.slice (some ⟨g,0,none⟩) n cap):=(World.cell?_of_block (w:=w4) (a:=⟨pb,off,none⟩) (ho5.block pb hpg)).trans hcs4;refine hK.out _ _ hcs5 (fun hH=>?_);clear hK K hH;refine dnr ?_;simp only[AP,AQ];have HOK:Hid (TimRowAt w5 g cap (swapT l i m)∧SameBut (fun k=>k=g) w w5):=by
    refine⟨?_,?_⟩
    .unfold swapT;rw[←HX.out,←HY.out];exact hr5
    .have hs4:SameBut (fun k=>k=g) w w4:=⟨ho4.os.trans HS2.out.os,ho4.tape.trans HS2.out.tape,ho4.output.trans HS2.out.output,by rw[ho4.size];exact HS2.out.size,fun k hk hn=>(ho4.block k hn).trans (HS2.out.block k hk hn)⟩;exact⟨ho5.os.trans hs4.os,ho5.tape.trans hs4.tape,ho5.output.trans hs4.output,by rw[ho5.size];exact hs4.size,fun k hk hn=>(ho5.block k hn).trans (hs4.block k hk hn)⟩
   clear hr5 hcs5 hcs4 ho4 ho5 hq4 hq5 hcur hrow hcur4 hrow4;go_wp2;go_roundw
   case rel=>exact⟨m,swapT l i m,f,rfl,Nat.le_of_lt HMLT.out,by rw[swapT_length];exact HLN.out,HSTEP.out,HPF.out,HOK.out.1,HOK.out.2⟩
   case measure=>have:=HMLT.out;have:=HIM.out;simp[intOf];omega
 have hq1:¬(c:Int)≤2*(i:Int)+2:=by omega
 have HLT:Hid (leastT l i=m):=by unfold Hid;rw[←HLE.out,show 2*i+3-c=0 by omega];rfl
 by_cases hmi:m=i
 .have HFIN:Hid (TimRowAt wr g cap (downT (n-i0) l0 i0)):=by
   unfold Hid;rw[←HUP.out,downT_stop (by rw[HLT.out];exact hmi)];exact HROW.out
  have qm:((m:Int)==i)=true:=by simp;omega
  clear hmi;go_wp2;first|exact bodyPost_ret (v:=.tuple #[]) (by simp[results,results130]) rfl ⟨rfl,HFIN.out,HS2.out⟩|exact bodyPost_end (v:=.tuple #[]) (by simp[results,results130]) rfl ⟨rfl,HFIN.out,HS2.out⟩
 have hml:m<n:=by
  rcases HMN.out with h|h
  .exact absurd h hmi
  exact h
 have hil:i<n:=by omega
 have qm:((m:Int)==i)=false:=by simp;omega
 obtain⟨f,rfl⟩:∃f',f=f'+1:=⟨f-1,by have:=HIF.out;omega⟩;have HSTEP:Hid (downT f (swapT l i m) m=downT (n-i0) l0 i0):=by
  unfold Hid;rw[←HUP.out,downT_step (by rw[HLT.out];exact hmi),HLT.out]
 have HPF:Hid (n-m≤f):=by have:=HIF.out;unfold Hid;omega
 have HMLT:=hide hml;have HIM:Hid (i<m):=by unfold Hid;omega
 obtain⟨x,hx⟩:=gen (l.getD i tim0);obtain⟨y,hy⟩:=gen (l.getD m tim0);obtain⟨bI,oI,eI,_,hri⟩:=HROW.out.tims i (by rw[HLN.out];exact hil);cases eI;obtain⟨bQ,oQ,eQ,_,hrq⟩:=HROW.out.tims m (by rw[HLN.out];exact hml);cases eQ;simp only[←hx,Nat.zero_add] at hri;simp only[←hy,Nat.zero_add] at hrq;obtain⟨n1,h1,r1,d1,b1⟩:=x;obtain⟨n2,h2,r2,d2,b2⟩:=y;obtain⟨HX,HY⟩:=hide2 hx hy;have HRI:Hid (wr.rangeAt g (i*5) [.int .i64 n1,.int .i64 h1,.int .i64 r1,.int .i64 d1,.int .i64 b1]):=hri;have HRQ:Hid (wr.rangeAt g (m*5) [.int .i64 n2,.int .i64 h2,.int .i64 r2,.int .i64 d2,.int .i64 b2]):=hrq;have hin2:(i:Int)<n:=by omega
 have hpn2:(m:Int)<n:=by omega
 clear hx hy hri hrq HUP HIF HLE HB HMN hmi;go_wp2_with fail
 refine rgd (S:=fun W=>W.cell? ⟨pb,off,none⟩=some (.slice (some ⟨g,0,none⟩) n cap)) hcs (fun hH=>?_);refine takeN [(0,some 34,pA pb off),(1,some 35,pA pb off),(2,some 36,pA pb off),(3,some 37,.slice (some ⟨g,0,none⟩) n cap),(4,some 38,.int .i64 (i:Int)),(5,some 39,pA pb off),(6,some 40,pA pb off),(7,some 41,pA pb off),(8,some 42,.slice (some ⟨g,0,none⟩) n cap),(9,some 43,.int .i64 (m:Int)),(10,some 44,pA pb off),(11,some 45,pA pb off),(12,some 46,pA pb off),(13,some 47,.slice (some ⟨g,0,none⟩) n cap),(14,some 48,.int .i64 (m:Int)),(15,some 49,pA g (m*5)),(17,some 51,pA pb off),(18,some 52,pA pb off),(19,some 53,pA pb off),(20,some 54,.slice (some ⟨g,0,none⟩) n cap),(21,some 55,.int .i64 (i:Int)),(22,some 56,pA g (i*5))] _ _ hH (by repeat(first|exact True.intro|(refine tkc rfl rfl (Or.inl ⟨by rfl,fun x h=>by have f0:=h;go_simp⟩) ?_;simp only[AP]))) ?_;simp only[takesA,AP,pA];refine rdy2 16 23 (fun K hK=>?_) (fun K hK=>?_);focus
  rw[if_pos (by rfl)];refine wp_load_mid 223 _ rfl g (m*5) rfl [.int .i64 n2,.int .i64 h2,.int .i64 r2,.int .i64 d2,.int .i64 b2] _ HRQ.out underlying223 rfl Tryz.sizeTim ?_;refine hK.out _ _ hcs (fun hH=>?_);clear hK K;simp only[AP,AQ];refine rdy1 23 (fun K hK=>?_);rw[if_pos (by rfl)];refine wp_load_mid 223 _ rfl g (i*5) rfl [.int .i64 n1,.int .i64 h1,.int .i64 r1,.int .i64 d1,.int .i64 b1] _ HRI.out underlying223 rfl Tryz.sizeTim ?_
 rotate_left;focus
  rw[if_pos (by rfl)];refine wp_load_mid 223 _ rfl g (i*5) rfl [.int .i64 n1,.int .i64 h1,.int .i64 r1,.int .i64 d1,.int .i64 b1] _ HRI.out underlying223 rfl Tryz.sizeTim ?_;refine hK.out _ _ hcs (fun hH=>?_);clear hK K;simp only[AP,AQ];refine rdy1 16 (fun K hK=>?_);rw[if_pos (by rfl)];refine wp_load_mid 223 _ rfl g (m*5) rfl [.int .i64 n2,.int .i64 h2,.int .i64 r2,.int .i64 d2,.int .i64 b2] _ HRQ.out underlying223 rfl Tryz.sizeTim ?_
 rotate_left;all_goals
  refine hK.out _ _ hcs (fun hH=>?_);clear hK K;simp only[AP,AQ];refine takeM [(24,some 58,pA g (i*5))] _ _ hH ?_;simp only[takesA,AP,pA];refine rdy1 25 (fun K hK=>?_);rw[if_pos (by rfl)];obtain⟨cur,hcur,hrow⟩:=HROW.out;refine wp_store_midG 223 _ _ rfl g (i*5) #[.int .i64 n2,.int .i64 h2,.int .i64 r2,.int .i64 d2,.int .i64 b2] rfl rfl 223 cur hcur (by have h3:=hrow.2.2.1;have h1:=hrow.1;have h2:=HLN.out;simp;omega) (by simp[Value.oneCell']) Tryz.sizeTim ?_;intro w4 hq4 ho4;have hr4:TimRowAt w4 g cap (l.set i ⟨n2,h2,r2,d2,b2⟩):=⟨_,hq4,hrow.set i ⟨n2,h2,r2,d2,b2⟩ (by rw[HLN.out];omega)⟩;have hcs4:w4.cell? ⟨pb,off,none⟩=some (.slice (some ⟨g,0,none⟩) n cap):=(World.cell?_of_block (w:=wr) (a:=⟨pb,off,none⟩) (ho4.block pb hpg)).trans hcs;refine hK.out _ _ hcs4 (fun hH=>?_);clear hK K;simp only[AP,AQ];refine takeM [(26,some 59,pA g (m*5))] _ _ hH ?_;simp only[takesA,AP,pA];refine rdy1 27 (fun K hK=>?_);rw[if_pos (by rfl)];obtain⟨cur4,hcur4,hrow4⟩:=hr4;refine wp_store_midG 223 _ _ rfl g (m*5) #[.int .i64 n1,.int .i64 h1,.int .i64 r1,.int .i64 d1,.int .i64 b1] rfl rfl 223 cur4 hcur4 (by have h3:=hrow4.2.2.1;have h1:=hrow4.1;have h2:=HLN.out;simp only[List.length_set] at h1;simp;omega) (by simp[Value.oneCell']) Tryz.sizeTim ?_;intro w5 hq5 ho5;have hr5:TimRowAt w5 g cap ((l.set i ⟨n2,h2,r2,d2,b2⟩).set m ⟨n1,h1,r1,d1,b1⟩):=⟨_,hq5,hrow4.set m ⟨n1,h1,r1,d1,b1⟩ (by rw[List.length_set,HLN.out];omega)⟩;have hcs5:w5.cell? ⟨pb,off,none⟩=some (.slice (some ⟨g,0,none⟩) n cap):=(World.cell?_of_block (w:=w4) (a:=⟨pb,off,none⟩) (ho5.block pb hpg)).trans hcs4;refine hK.out _ _ hcs5 (fun hH=>?_);clear hK K hH;refine dnr ?_;simp only[AP,AQ];have HOK:Hid (TimRowAt w5 g cap (swapT l i m)∧SameBut (fun k=>k=g) w w5):=by
   refine⟨?_,?_⟩
   .unfold swapT;rw[←HX.out,←HY.out];exact hr5
   .have hs4:SameBut (fun k=>k=g) w w4:=⟨ho4.os.trans HS2.out.os,ho4.tape.trans HS2.out.tape,ho4.output.trans HS2.out.output,by rw[ho4.size];exact HS2.out.size,fun k hk hn=>(ho4.block k hn).trans (HS2.out.block k hk hn)⟩;exact⟨ho5.os.trans hs4.os,ho5.tape.trans hs4.tape,ho5.output.trans hs4.output,by rw[ho5.size];exact hs4.size,fun k hk hn=>(ho5.block k hn).trans (hs4.block k hk hn)⟩
  clear hr5 hcs5 hcs4 ho4 ho5 hq4 hq5 hcur hrow hcur4 hrow4;go_wp2;go_roundw
  case rel=>exact⟨m,swapT l i m,f,rfl,Nat.le_of_lt HMLT.out,by rw[swapT_length];exact HLN.out,HSTEP.out,HPF.out,HOK.out.1,HOK.out.2⟩
  case measure=>have:=HMLT.out;have:=HIM.out;simp[intOf];omega
theorem Tryz.sizeTimer:(prog.info? 177).map (·.size)=some 3:=by kernel_rfl
theorem own_timrow{w:World}{base n cap:Nat}{p:Option Addr}{l:List TimV}(h:w.ownsRow base 223 5 (.slice p n cap) n (timL l))(hl:l.length=n)(hn:0<n):∃g,p=some ⟨g,0,none⟩∧base≤g∧TimRowAt w g cap l:=by
 rcases h.2 with⟨e0,h0⟩|⟨g,cap',cur,e0,hb,hg,hnc,hcm,hcs,ht⟩
 .omega
 cases e0;subst hl;exact⟨g,rfl,hb,cur,hg,hnc,hcm,hcs,ht⟩
theorem timrow_own{w:World}{base g cap:Nat}{l:List TimV}(h:TimRowAt w g cap l)(hb:base≤g):w.ownsRow base 223 5 (.slice (some ⟨g,0,none⟩) l.length cap) l.length (timL l):=by
 obtain⟨cur,hg,h1,h2,h3,h4⟩:=h;exact⟨timL_length l,Or.inr ⟨g,cap,cur,rfl,hb,hg,h1,h2,h3,h4⟩⟩
theorem upT_length:∀(f:Nat) (l:List TimV) (i:Nat),(upT f l i).length=l.length
 |0,_,_=>rfl
 |f+1,l,i=>by
  rw[upT];split
  .rfl
  .split
   .rw [upT_length f,swapT_length]
   .rfl
def BeginP(pb off base:Nat)(C:Array Value)(t:TypeId)(l:List TimV)(v:Value)(bg:Int)(x:TimV)(w:World)(e:Ending)(w':World):Prop:=
 ∃v',e=.returned (.tuple #[])∧w'.heap[pb]? =some (.cells ((C.setIfInBounds off v').setIfInBounds (off+1) (.int .i64 (bg+1))) t (0,0))∧w'.ownsRow base 223 5 v' (l.length+1) (timL (upT l.length (l++[x]) l.length))∧(v'.ownBlock=v.ownBlock∨∀g,v'.ownBlock=some g→w.heap.size≤g)∧SameBut (fun k=>k=pb∨some k=v.ownBlock) w w'
theorem begin_any(pb off base:Nat)(C:Array Value)(t:TypeId)(l:List TimV)(v:Value)(tn th tr due bg:Int)(w:World)(hq:w.heap[pb]? =some (.cells C t (0,0)))(ht:t≠223)(hc0:C[off]? =some v)(hc1:C[off+1]? =some (.int .i64 bg))(hown:w.ownsRow base 223 5 v l.length (timL l))(hbase:base≤w.heap.size)(hlen:l.length≤100000000)(hbg:0≤bg∧bg≤1000000000):
 Calls prog 183 #[.pointer (some ⟨pb,off,none⟩),.agg #[.int .i64 tn,.int .i64 th,.int .i64 tr],.int .i64 due] w (BeginP pb off base C t l v bg ⟨tn,th,tr,due,bg⟩ w):=by
 obtain⟨iW,hiW,hz0,hz1,hz2⟩:=info_parts Tryz.infoTim;obtain⟨p,cap,rfl⟩:=own_slice hown;have hpl:pb<w.heap.size:=row_lt0 hq;have hpv:∀g,Value.ownBlock (.slice p l.length cap)=some g→g≠pb:=fun g hg e=>by
  subst e;rcases hown.2 with⟨e0,h0⟩|⟨g',cap',cur,e0,hb,hg',_⟩
  .rw [e0] at hg;cases hg
  rw[e0] at hg;cases hg;rw[hq] at hg';exact ht (by simpa using(Obj.cells.inj (Option.some.inj hg')).2.1)
 obtain⟨w1,hw1⟩:=gen (w.alloc (.cells #[.int .i64 tn,.int .i64 th,.int .i64 tr] 177));have hb1:Below w.heap.size w w1:=by rw[hw1];exact(Below.refl _ w).alloc (Nat.le_refl _) _
 have hbx:w1.heap[w.heap.size]? =some (.cells #[.int .i64 tn,.int .i64 th,.int .i64 tr] 177 (0,0)):=by rw[hw1];exact heap_alloc_new w _
 have hz:w1.heap.size=w.heap.size+1:=by rw[hw1];simp
 have hq1:w1.heap[pb]? =some (.cells C t (0,0)):=blk hq hb1;have c0:w1.cell? ⟨pb,off,none⟩=some (.slice p l.length cap):=(cell_of_row w1 pb off _ _ _ hq1).trans hc0;have c1:w1.cell? ⟨pb,off+1,none⟩=some (.int .i64 bg):=(cell_of_row w1 pb (off+1) _ _ _ hq1).trans hc1;have hown1:w1.ownsRow base 223 5 (.slice p l.length cap) l.length (timL l):=own_blocks hown (fun g _ hg=>hb1.block g hg);obtain⟨HZ,HOWN,HBG⟩:=hide3 hz hown hbg;clear hz hown hbg;go_enter func183,ntmps183;go_wp2_with fail
 rw[←hw1];clear hw1;have hl1:pb<w1.heap.size:=Nat.lt_of_lt_of_le hpl hb1.size;have hl2:w.heap.size<w1.heap.size:=row_lt0 hbx;have HSB:Hid (∀W,Below w1.heap.size w1 W→W.cell? ⟨pb,off+1,none⟩=some (.int .i64 bg)∧W.heap[w.heap.size]? =some (.cells #[.int .i64 tn,.int .i64 th,.int .i64 tr] 177 (0,0))):=fun W hW=>⟨(hW.cell (p:=⟨pb,off+1,none⟩) (by exact hl1)).trans c1,blk hbx hW⟩;refine rgd (S:=fun W=>W.cell? ⟨pb,off+1,none⟩=some (.int .i64 bg)∧W.heap[w.heap.size]? =some (.cells #[.int .i64 tn,.int .i64 th,.int .i64 tr] 177 (0,0))) ⟨c1,hbx⟩ (fun hH=>?_);refine takeN [(0,some 6,pA pb off),(1,some 7,pA pb off),(2,some 8,pA pb off),(3,some 9,pA pb off),(5,some 11,.agg #[.int .i64 tn,.int .i64 th,.int .i64 tr]),(6,some 12,.int .i64 due),(7,some 13,pA pb off),(8,some 14,pA pb off),(9,some 15,pA pb (off+1)),(10,some 16,.int .i64 bg),(11,some 17,.agg #[.int .i64 tn,.int .i64 th,.int .i64 tr,.int .i64 due,.int .i64 bg])] _ _ hH (by repeat(first|exact True.intro|((first|refine tkc rfl rfl (yieldsIf_load_mid (by rfl) 177 _ rfl w.heap.size 0 rfl [.int .i64 tn,.int .i64 th,.int .i64 tr] _ (fun w h=>row_range h.2) underlying177 rfl (by rw[Tryz.sizeTimer];rfl)) ?_|(refine tkc rfl rfl (Or.inl ⟨by rfl,fun x h=>?_⟩) ?_;focus(have f0:=h.1;go_simp;done)));simp only[AP]))) ?_;simp only[takesA,AP,pA];refine wpAnyH_ready (rs:=[4,12]) (by kernel_rfl) (by simp) ?_;have c0':w1.drew.cell? ⟨pb,off,none⟩=some (.slice p l.length cap):=c0;refine AllReadyH.cons rfl (fun K hK=>?_) (AllReadyH.cons rfl (fun K hK=>?_) AllReadyH.nil);focus
  go_simp;refine hK.out _ _ (HSB.out _ ((Below.refl _ w1).drew)) (fun hH=>?_);clear hK K;refine rdy1 12 (fun K hK=>?_)
 rotate_left;focus
  go_simp;refine hK.out _ _ (HSB.out _ (((Below.refl _ w1).alloc (Nat.le_refl _) _).drew)) (fun hH=>?_);clear hK K;refine rdy1 4 (fun K hK=>?_);have c0'':(w1.alloc (.cells #[.int .i64 tn,.int .i64 th,.int .i64 tr,.int .i64 due,.int .i64 bg] 223)).cell? ⟨pb,off,none⟩=some (.slice p l.length cap):=(World.cell?_of_block (w:=w1) (a:=⟨pb,off,none⟩) (Below.heap_alloc w1 _ pb hl1)).trans c0
 rotate_left;all_goals
  go_simp;obtain⟨w2,hw2⟩:∃z,z=(w1.alloc (.cells #[.int .i64 tn,.int .i64 th,.int .i64 tr,.int .i64 due,.int .i64 bg] 223)).drew:=⟨_,rfl⟩;have hb2:Below w1.heap.size w1 w2:=by rw[hw2];exact((Below.refl _ w1).alloc (Nat.le_refl _) _).drew
  have hx2:w2.heap[w1.heap.size]? =some (.cells #[.int .i64 tn,.int .i64 th,.int .i64 tr,.int .i64 due,.int .i64 bg] 223 (0,0)):=by
   rw[hw2];exact heap_alloc_new w1 _
  have hz2':w2.heap.size=w1.heap.size+1:=by rw[hw2];show(w1.alloc _).heap.size=_;simp
  rw[←hw2];refine hK.out _ _ (HSB.out _ hb2) (fun hH=>?_);clear hK K hw2;refine rdy1 13 (fun K hK=>?_);rw[if_pos (by rfl)];have hown2:w2.ownsRow base 223 5 (.slice p l.length cap) l.length (timL l):=own_blocks hown1 (fun g _ hg=>hb2.block g hg);refine wp_append_at _ _ _ 131 rfl base 223 iW (.agg #[.int .i64 0,.int .i64 0,.int .i64 0,.int .i64 0,.int .i64 0]) 5 40 underlying131 hiW hz0 hz1 hz2 rfl (by decide) (.slice p l.length cap) l.length (timL l) rfl hown2 ⟨w1.heap.size,0,none⟩ 1 1 [.int .i64 tn,.int .i64 th,.int .i64 tr,.int .i64 due,.int .i64 bg] rfl rfl ?n1 ?n2 (by unfold maxLen;omega) (by omega) (by omega) ?_
  case n1=>
   intro j u hj;rw[addr_add,Nat.zero_add,cell_of_row w2 w1.heap.size j _ _ _ hx2];simpa using hj
  case n2=>
   intro u hu;simp at hu;rcases hu with rfl|rfl|rfl|rfl|rfl<;>rfl
  intro v3 w3 hown3 hgrow3 hat3;have hpb3:w3.heap[pb]? =some (.cells C t (0,0)):=(hgrow3.block pb (by omega) (fun e=>hpv pb e.symm rfl)).trans (blk hq1 hb2);have hbx3:w3.heap[w.heap.size]? =some (.cells #[.int .i64 tn,.int .i64 th,.int .i64 tr] 177 (0,0)):=(hgrow3.block w.heap.size (by omega) (fun e=>by have:=(HOWN.out.lt _ e.symm).2;omega)).trans (blk hbx hb2);have c13:w3.cell? ⟨pb,off+1,none⟩=some (.int .i64 bg):=(cell_of_row w3 pb (off+1) _ _ _ hpb3).trans hc1;refine hK.out _ _ ⟨c13,hbx3⟩ (fun hH=>?_);clear hK K;simp only[AP,AQ];refine takeM [(14,some 20,pA pb off),(15,some 21,pA pb off)] _ _ hH ?_;simp only[takesA,AP,pA];have c03:w3.cell? ⟨pb,off,none⟩=some (.slice p l.length cap):=(cell_of_row w3 pb off _ _ _ hpb3).trans hc0;have f03:w3.frozen? ⟨pb,off,none⟩=false:=frozen_row hpb3 off;obtain⟨p3,cap3,rfl⟩:=own_slice hown3;refine rdy1 16 (fun K hK=>?_);go_simp;obtain⟨w4,hw4⟩:∃z,z=(w3.setCell ⟨pb,off,none⟩ (.slice p3 (l.length+1) cap3)):=⟨_,rfl⟩;have ho4:Only pb w3 w4:=by rw[hw4];exact only_setCell w3 pb off _
  have hq4:w4.heap[pb]? =some (.cells (C.setIfInBounds off (.slice p3 (l.length+1) cap3)) t (0,0)):=by
   rw[hw4];simp[World.setCell,Array.getElem?_modify,hpb3]
  rw[←hw4];have c14:w4.cell? ⟨pb,off+1,none⟩=some (.int .i64 bg):=by
   rw[cell_of_row w4 pb (off+1) _ _ _ hq4,Array.getElem?_setIfInBounds_ne (by omega)];exact hc1
  have hbx4:w4.heap[w.heap.size]? =some (.cells #[.int .i64 tn,.int .i64 th,.int .i64 tr] 177 (0,0)):=(ho4.block _ (by omega)).trans hbx3;refine hK.out _ _ ⟨c14,hbx4⟩ (fun hH=>?_);clear hK K hH hw4;refine dnr ?_;have hoff:off<C.size:=by
   rcases Nat.lt_or_ge off C.size with h|h
   .exact h
   .rw [Array.getElem?_eq_none h] at hc0;cases hc0
  have f14:w4.frozen? ⟨pb,off+1,none⟩=false:=frozen_row hq4 (off+1);obtain⟨w5,hw5⟩:=gen (w4.setCell ⟨pb,off+1,none⟩ (.int .i64 (bg+1)));have ho5:Only pb w4 w5:=by rw[hw5];exact only_setCell w4 pb (off+1) _
  have hq5:w5.heap[pb]? =some (.cells ((C.setIfInBounds off (.slice p3 (l.length+1) cap3)).setIfInBounds (off+1) (.int .i64 (bg+1))) t (0,0)):=by
   rw[hw5];simp[World.setCell,Array.getElem?_modify,hq4]
  have c05:w5.cell? ⟨pb,off,none⟩=some (.slice p3 (l.length+1) cap3):=by
   rw[cell_of_row w5 pb off _ _ _ hq5,Array.getElem?_setIfInBounds_ne (by omega),Array.getElem?_setIfInBounds_self_of_lt hoff]
  have hown5:w5.ownsRow base 223 5 (.slice p3 (l.length+1) cap3) (l.length+1) (timL (l++[⟨tn,th,tr,due,bg⟩])):=by
   rw[timL_append];refine own_blocks (own_blocks hown3 (fun g hg hlt=>ho4.block g (fun e=>?_))) (fun g hg hlt=>ho5.block g (fun e=>?_))<;>(subst e;rcases hat3 with h|h<;>first|exact hpv _ (h.symm.trans hg) rfl|(have h2:=h.symm.trans hg;cases h2;omega))
  obtain⟨g,rfl,hgb,hrow5⟩:=own_timrow hown5 (by simp) (by omega);have hpg:pb≠g:=fun e=>by
   subst e;rcases hat3 with h|h
   .exact hpv _ (h.symm.trans rfl) rfl
   .have h2:=h.symm.trans (rfl:Value.ownBlock (.slice (some ⟨pb,0,none⟩) (l.length+1) cap3)=some pb);have h3:=hb1.size;have h4:w2.heap.size=pb:=by injection h2
    omega
  have HSU:=hide (siftUp_any pb off g (l.length+1) cap3 l.length (l++[⟨tn,th,tr,due,bg⟩]) w5 (by omega) c05 hpg (by simp) hrow5 (by omega));have HBF:Hid (SameBut (fun k=>k=pb∨some k=Value.ownBlock (.slice p l.length cap)) w w5):=by
   refine⟨?_,?_,?_,?_,fun k hk hn=>?_⟩
   .rw [ho5.os,ho4.os,hgrow3.os,hb2.os,hb1.os]
   .rw [ho5.tape,ho4.tape,hgrow3.tape,hb2.tape,hb1.tape]
   .rw [ho5.output,ho4.output,hgrow3.output,hb2.output,hb1.output]
   .rw [ho5.size,ho4.size];exact Nat.le_trans hb1.size (Nat.le_trans hb2.size hgrow3.size)
   .have hk1:k<w1.heap.size:=Nat.lt_of_lt_of_le hk hb1.size;rw[ho5.block k (fun e=>hn (Or.inl e)),ho4.block k (fun e=>hn (Or.inl e)),hgrow3.block k (by omega) (fun e=>hn (Or.inr e)),hb2.block k hk1,hb1.block k hk]
  have HAT:Hid (some g=Value.ownBlock (.slice p l.length cap)∨w.heap.size≤g):=by
   rcases hat3 with h|h
   .exact Or.inl h
   .have h2:some g=some w2.heap.size:=h;cases h2;exact Or.inr (by omega)
  obtain⟨HQ5,HGB,HPG⟩:=hide3 hq5 hgb hpg;have hbgb:=HBG.out;clear hown5 hrow5 hq5 hgb ho5 ho4 hgrow3 hat3 hown3 hb2 hx2 hown2 hpb3 hbx3 c13 c03 f03 hbx4 hq4 HSB hown1 hbx;have c05':(w4.setCell ⟨pb,off+1,none⟩ (.int .i64 (bg+1))).cell? ⟨pb,off,none⟩=some (.slice (some ⟨g,0,none⟩) (l.length+1) cap3):=by rw[←hw5];exact c05
  have HW5:=hide hw5;clear hw5 c05;go_wp2_with fail
  rw[←HW5.out];refine HSU.out.mono ?_;rintro e w6 ⟨rfl,hr6,hs6⟩;have HEND:Hid (BeginP pb off base C t l (.slice p l.length cap) bg ⟨tn,th,tr,due,bg⟩ w (.returned (.tuple #[])) w6):=by
   refine⟨.slice (some ⟨g,0,none⟩) (l.length+1) cap3,rfl,?_,?_,?_,?_⟩
   .exact (hs6.block pb (row_lt0 HQ5.out) HPG.out).trans HQ5.out
   .have h:=timrow_own hr6 HGB.out;rw[upT_length,List.length_append] at h;exact h
   .rcases HAT.out with h|h
    .exact Or.inl h
    .exact Or.inr (fun g' hg'=>by cases hg';exact h)
   .refine ⟨hs6.os.trans HBF.out.os,hs6.tape.trans HBF.out.tape,hs6.output.trans HBF.out.output,Nat.le_trans HBF.out.size hs6.size,fun k hk hn=>?_⟩
    rw[hs6.block k (Nat.lt_of_lt_of_le hk HBF.out.size) (fun e=>?_)]
    .exact HBF.out.block k hk hn
    .subst e;rcases HAT.out with h|h
     .exact hn (Or.inr h)
     .omega
  clear hr6 hs6 HSU;go_wp2;first|exact bodyPost_end (v:=.tuple #[]) (by simp[results,results183]) rfl HEND.out|exact bodyPost_ret (v:=.tuple #[]) (by simp[results,results183]) rfl HEND.out
def restT(l:List TimV):List TimV:=downT (l.length-1) ((l.set 0 (l.getD (l.length-1) tim0)).take (l.length-1)) 0
theorem timL_take:∀(l:List TimV) (k:Nat),timL (l.take k)=(timL l).take (k*5)
 | [],k=>by simp[timL]
 |m::l,0=>by simp[timL]
 |m::l,k+1=>by
  have hc:m.cells.toList.length=5:=by simp[TimV.cells]
  have e:timL (m::l)=m.cells.toList++timL l:=by simp[timL]
  have e2:timL (m::l.take k)=m.cells.toList++timL (l.take k):=by simp[timL]
  rw[List.take_succ_cons,e,e2,timL_take l k,show(k+1)*5=m.cells.toList.length+k*5 by omega,List.take_length_add_append]
theorem TimCells.short{cur:Array Value}{cap:Nat}{l:List TimV}(h:TimCells cur cap l)(k:Nat)(hk:k≤l.length):TimCells cur cap (l.take k):=by
 obtain⟨h1,h2,h3,h4⟩:=h;have hl:(l.take k).length=k:=by rw[List.length_take];omega
 refine⟨by omega,h2,h3,?_⟩;rw[hl,timL_take,←h4,List.take_take,Nat.min_eq_left (Nat.mul_le_mul_right 5 hk)]
theorem addr_add0T(p:Option Addr):p.map (fun a=>a.add 0)=p:=by cases p<;>simp[Addr.add]
theorem slice_frontT(p:Option Addr)(n c r:Nat)(hr:r≤c)(W:World):(Instr.sliceAt 131 (.slice p n c) none (some (.int .i64 (r:Int))) none).run prog W=.ok (.slice p r c) W:=by
 have h2:=addr_add0T p;simp[Instr.sliceAt,Instr.slice,Instr.sliceBounds,Instr.sliceBound,asIntOf,run_underlying underlying131,Tryz.sizeOf223,hr,h2]
def NextP(pb off g cap:Nat)(C:Array Value)(t:TypeId)(l:List TimV)(w:World)(e:Ending)(w':World):Prop:=
 e=.returned (.tuple #[.agg #[.int .i64 (l.getD 0 tim0).n,.int .i64 (l.getD 0 tim0).h,.int .i64 (l.getD 0 tim0).r],.bool true])∧w'.heap[pb]? =some (.cells (C.setIfInBounds off (.slice (some ⟨g,0,none⟩) (l.length-1) cap)) t (0,0))∧TimRowAt w' g cap (restT l)∧SameBut (fun k=>k=pb∨k=g) w w'
theorem next_none(pb off:Nat)(p:Option Addr)(cap:Nat)(time:Int)(w:World)(hc:w.cell? ⟨pb,off,none⟩=some (.slice p 0 cap)):
 Calls prog 89 #[.pointer (some ⟨pb,off,none⟩),.int .i64 time] w fun e w'=>e=.returned (.tuple #[.agg #[.int .i64 0,.int .i64 0,.int .i64 0],.bool false])∧Below w.heap.size w w':=by
 have hpl:pb<w.heap.size:=World.block_lt_of_cell? _ _ hc;have c0:=cell?_alloc_old (.cells #[.int .i64 0,.int .i64 0,.int .i64 0] 177) hc;go_enter func89,ntmps89;go_wp2_with (first|(refine wpList_store_rowG rfl 177 _ _ rfl w.heap.size #[.int .i64 0,.int .i64 0,.int .i64 0] rfl rfl 177 _ (heap_alloc_new w _) rfl (by simp[Value.oneCell']) Tryz.sizeTimer ?_;intro w3 hq3 ho3;have HQ3:=hide hq3;have HB3:Hid (Below w.heap.size w w3):=((Below.refl _ w).alloc (Nat.le_refl _) _).trans (ho3.below (Nat.le_refl _));clear hq3 ho3)|fail)
 exact bodyPost_ret (v:=.tuple #[.agg #[.int .i64 0,.int .i64 0,.int .i64 0],.bool false]) (results_rowG2 results89 _ _ w.heap.size 177 _ _ _ rfl rfl HQ3.out underlying177 rfl Tryz.sizeTimer) rfl ⟨rfl,HB3.out⟩
theorem next_later(pb off g cap:Nat)(l:List TimV)(time:Int)(w:World)(hc:w.cell? ⟨pb,off,none⟩=some (.slice (some ⟨g,0,none⟩) l.length cap))(hr:TimRowAt w g cap l)(hl:0<l.length)(hd:time<(l.getD 0 tim0).due):
 Calls prog 89 #[.pointer (some ⟨pb,off,none⟩),.int .i64 time] w fun e w'=>e=.returned (.tuple #[.agg #[.int .i64 0,.int .i64 0,.int .i64 0],.bool false])∧Below w.heap.size w w':=by
 have hpl:pb<w.heap.size:=World.block_lt_of_cell? _ _ hc;have c0:=cell?_alloc_old (.cells #[.int .i64 0,.int .i64 0,.int .i64 0] 177) hc;obtain⟨d1,hd1⟩:∃d,d=(l.getD 0 tim0).due:=⟨_,rfl⟩;obtain⟨b',o',e',_,hr0⟩:=hr.tims 0 hl;cases e';have c3:w.cell? ⟨g,3,none⟩=some (.int .i64 d1):=by rw[hd1];have:=hr0 3 _ rfl;simpa using this
 have c3':=cell?_alloc_old (.cells #[.int .i64 0,.int .i64 0,.int .i64 0] 177) c3;have hdt:time<d1:=by rw[hd1];exact hd
 have qd:decide (time<d1)=true:=decide_eq_true hdt;have q0:((l.length:Int)==0)=false:=by rw[beq_eq_false_iff_ne];omega
 have hl2:(0:Int)<l.length:=by omega
 have hln:¬(l.length:Int)=0:=by omega
 clear hd hd1 hr0 hr c3;go_enter func89,ntmps89;go_wp2_with (first|(refine wpList_store_rowG rfl 177 _ _ rfl w.heap.size #[.int .i64 0,.int .i64 0,.int .i64 0] rfl rfl 177 _ (heap_alloc_new w _) rfl (by simp[Value.oneCell']) Tryz.sizeTimer ?_;intro w3 hq3 ho3;have HQ3:=hide hq3;have HB3:Hid (Below w.heap.size w w3):=((Below.refl _ w).alloc (Nat.le_refl _) _).trans (ho3.below (Nat.le_refl _));clear hq3 ho3)|fail)
 exact bodyPost_ret (v:=.tuple #[.agg #[.int .i64 0,.int .i64 0,.int .i64 0],.bool false]) (results_rowG2 results89 _ _ w.heap.size 177 _ _ _ rfl rfl HQ3.out underlying177 rfl Tryz.sizeTimer) rfl ⟨rfl,HB3.out⟩
theorem next_due(pb off g cap:Nat)(C:Array Value)(t:TypeId)(l:List TimV)(time:Int)(w:World)(hq:w.heap[pb]? =some (.cells C t (0,0)))(ht:t≠223)(hc0:C[off]? =some (.slice (some ⟨g,0,none⟩) l.length cap))(hr:TimRowAt w g cap l)(hl:0<l.length)(hlen:l.length≤100000000)(hd:(l.getD 0 tim0).due≤time):
 Calls prog 89 #[.pointer (some ⟨pb,off,none⟩),.int .i64 time] w (NextP pb off g cap C t l w):=by
 have hpl:pb<w.heap.size:=row_lt0 hq;have hpg:pb≠g:=fun e=>by
  subst e;obtain⟨cur,hg,_⟩:=hr;rw[hq] at hg;exact ht (by simpa using(Obj.cells.inj (Option.some.inj hg)).2.1)
 have hgl:g<w.heap.size:=by obtain⟨cur,hg,_⟩:=hr;exact row_lt0 hg
 obtain⟨x,hx⟩:=gen (l.getD 0 tim0);obtain⟨y,hy⟩:=gen (l.getD (l.length-1) tim0);obtain⟨k,hk⟩:∃k,l.length=k+1:=⟨l.length-1,by omega⟩;have hk1:l.length-1=k:=by omega
 obtain⟨w1,hw1⟩:=gen (w.alloc (.cells #[.int .i64 0,.int .i64 0,.int .i64 0] 177));have hb1:Below w.heap.size w w1:=by rw[hw1];exact(Below.refl _ w).alloc (Nat.le_refl _) _
 have hz1:w1.heap.size=w.heap.size+1:=by rw[hw1];simp
 have hbx:w1.heap[w.heap.size]? =some (.cells #[.int .i64 0,.int .i64 0,.int .i64 0] 177 (0,0)):=by rw[hw1];exact heap_alloc_new w _
 have hq1:w1.heap[pb]? =some (.cells C t (0,0)):=blk hq hb1;have hr1:TimRowAt w1 g cap l:=hr.keep (hb1.block g hgl);have c0:w1.cell? ⟨pb,off,none⟩=some (.slice (some ⟨g,0,none⟩) l.length cap):=(cell_of_row w1 pb off _ _ _ hq1).trans hc0;obtain⟨b',o',e',_,hrg0⟩:=hr1.tims 0 hl;cases e';obtain⟨b',o',e',_,hrgk⟩:=hr1.tims k (by omega);cases e';simp only[←hx,Nat.zero_mul,Nat.zero_add,Nat.add_zero] at hrg0;rw[hk1] at hy;simp only[←hy,Nat.zero_add] at hrgk;have hd2:x.due≤time:=by rw[hx];exact hd
 obtain⟨n1,h1,r1,d1,b1⟩:=x;obtain⟨n2,h2,r2,d2,b2⟩:=y;have HR0:Hid (w1.rangeAt g 0 [.int .i64 n1,.int .i64 h1,.int .i64 r1,.int .i64 d1,.int .i64 b1]):=hrg0;have HRK:Hid (w1.rangeAt g (k*5) [.int .i64 n2,.int .i64 h2,.int .i64 r2,.int .i64 d2,.int .i64 b2]):=hrgk;have HR03:Hid (w1.rangeAt g 0 [.int .i64 n1,.int .i64 h1,.int .i64 r1]):=fun j v hv=>by
  have h:=HR0.out j v;match j,hv with
  |0,hv=>exact h hv
  |1,hv=>exact h hv
  |2,hv=>exact h hv
 have c3:w1.cell? ⟨g,3,none⟩=some (.int .i64 d1):=by have:=HR0.out 3 _ rfl;simpa using this
 have qd:decide (time<d1)=false:=decide_eq_false (by simp only at hd2;omega);have qd2:¬time<d1:=by simp only at hd2;omega
 have q0:((l.length:Int)==0)=false:=by rw[beq_eq_false_iff_ne];omega
 have hl2:(0:Int)<l.length:=by omega
 have hln:¬(l.length:Int)=0:=by omega
 have hlk:(l.length:Int)-1=(k:Int):=by omega
 have hkl:(k:Int)<l.length:=by omega
 have c0':(w.alloc (.cells #[.int .i64 0,.int .i64 0,.int .i64 0] 177)).cell? ⟨pb,off,none⟩=some (.slice (some ⟨g,0,none⟩) l.length cap):=by rw[←hw1];exact c0
 have c3':(w.alloc (.cells #[.int .i64 0,.int .i64 0,.int .i64 0] 177)).cell? ⟨g,3,none⟩=some (.int .i64 d1):=by rw[←hw1];exact c3
 have HW1:=hide hw1;clear hw1;obtain⟨HX,HY,HK,HR1,HB1,HZ1,HBX,HQ1⟩:=hide8 hx hy hk hr1 hb1 hz1 hbx hq1;have HK1:=hide hk1;clear hx hy hd hd2 hrg0 hrgk hr hk hk1 hr1 hb1 hz1 hbx hq1 hq;go_enter func89,ntmps89;go_wp2_with (first|(rw[←HW1.out];clear HW1 c0' c3';refine wpList_load_mid rfl 177 _ rfl g 0 rfl [.int .i64 n1,.int .i64 h1,.int .i64 r1] _ HR03.out underlying177 rfl Tryz.sizeTimer ?_)|(refine wpList_load_mid rfl 177 _ rfl g 0 rfl [.int .i64 n1,.int .i64 h1,.int .i64 r1] _ HR03.out underlying177 rfl Tryz.sizeTimer ?_)|(refine wpList_store_new rfl 177 _ _ rfl w1 #[.int .i64 n1,.int .i64 h1,.int .i64 r1] rfl rfl 177 _ rfl (by simp[Value.oneCell']) Tryz.sizeTimer ?_;intro w2 hq2 hb2 hz2;have HQ2:=hide hq2;have HB2:=hide hb2;have HZ2:=hide hz2;have c02:w2.cell? ⟨pb,off,none⟩=some (.slice (some ⟨g,0,none⟩) l.length cap):=(hb2.cell (p:=⟨pb,off,none⟩) (by exact Nat.lt_of_lt_of_le hpl HB1.out.size)).trans c0;clear hq2 hb2 hz2)|fail)

 have hrk2:w2.rangeAt g (k*5) [.int .i64 n2,.int .i64 h2,.int .i64 r2,.int .i64 d2,.int .i64 b2]:=fun j v hv=>(HB2.out.cell (p:=⟨g,k*5+j,none⟩) (by exact Nat.lt_of_lt_of_le hgl HB1.out.size)).trans (HRK.out j v hv);have HRK2:=hide hrk2;have HROW2:Hid (TimRowAt w2 g cap l):=HR1.out.keep (HB2.out.block g (Nat.lt_of_lt_of_le hgl HB1.out.size));have HQP2:Hid (w2.heap[pb]? =some (.cells C t (0,0))):=blk HQ1.out HB2.out;clear hrk2;refine rgd (S:=fun W=>W.cell? ⟨pb,off,none⟩=some (.slice (some ⟨g,0,none⟩) l.length cap)) c02 (fun hH=>?_);refine takeN [(0,some 39,pA pb off),(1,some 40,pA pb off),(2,some 41,pA pb off),(3,some 42,.slice (some ⟨g,0,none⟩) l.length cap),(4,some 43,pA pb off),(5,some 44,pA pb off),(6,some 45,pA pb off),(7,some 46,.slice (some ⟨g,0,none⟩) l.length cap),(8,some 47,.int .i64 (k:Int)),(9,some 48,pA g (k*5))] _ _ hH (by repeat(first|exact True.intro|(refine tkc rfl rfl (Or.inl ⟨by rfl,fun x h=>by have f0:=h;go_simp⟩) ?_;simp only[AP]))) ?_;simp only[takesA,AP,pA];refine rdy1 10 (fun K hK=>?_);rw[if_pos (by rfl)];refine wp_load_mid 223 _ rfl g (k*5) rfl [.int .i64 n2,.int .i64 h2,.int .i64 r2,.int .i64 d2,.int .i64 b2] _ HRK2.out underlying223 rfl Tryz.sizeTim ?_;refine hK.out _ _ c02 (fun hH=>?_);clear hK K;simp only[AP,AQ];refine takeM [(11,some 50,pA g 0)] _ _ hH ?_;simp only[takesA,AP,pA];refine rdy1 12 (fun K hK=>?_);rw[if_pos (by rfl)];obtain⟨cur,hcur,hrow⟩:=HROW2.out;refine wp_store_midG 223 _ _ rfl g 0 #[.int .i64 n2,.int .i64 h2,.int .i64 r2,.int .i64 d2,.int .i64 b2] rfl rfl 223 cur hcur (by have h3:=hrow.2.2.1;have h1:=hrow.1;simp;omega) (by simp[Value.oneCell']) Tryz.sizeTim ?_;intro w3 hq3 ho3;have hr3:TimCells _ cap (l.set 0 ⟨n2,h2,r2,d2,b2⟩):=hrow.set 0 ⟨n2,h2,r2,d2,b2⟩ hl;have hqp3:w3.heap[pb]? =some (.cells C t (0,0)):=(ho3.block pb hpg).trans HQP2.out;have c03:w3.cell? ⟨pb,off,none⟩=some (.slice (some ⟨g,0,none⟩) l.length cap):=(cell_of_row w3 pb off _ _ _ hqp3).trans hc0;refine hK.out _ _ c03 (fun hH=>?_);clear hK K hH;refine dnr ?_;have f03:w3.frozen? ⟨pb,off,none⟩=false:=frozen_row hqp3 off;have hkc:k≤cap:=by have h1:=hrow.1;have:=HK.out;omega
 have hsl:=fun W=>slice_frontT (some ⟨g,0,none⟩) l.length cap k hkc W;go_wp2_with fail
 obtain⟨w4,hw4⟩:=gen (w3.setCell ⟨pb,off,none⟩ (.slice (some ⟨g,0,none⟩) k cap));have ho4:Only pb w3 w4:=by rw[hw4];exact only_setCell w3 pb off _
 have hq4:w4.heap[pb]? =some (.cells (C.setIfInBounds off (.slice (some ⟨g,0,none⟩) k cap)) t (0,0)):=by
  rw[hw4];simp[World.setCell,Array.getElem?_modify,hqp3]
 rw[←hw4];clear hw4;have hoff:off<C.size:=by
  rcases Nat.lt_or_ge off C.size with h|h
  .exact h
  rw[Array.getElem?_eq_none h] at hc0;cases hc0
 have c04:w4.cell? ⟨pb,off,none⟩=some (.slice (some ⟨g,0,none⟩) k cap):=by
  rw[cell_of_row w4 pb off _ _ _ hq4,Array.getElem?_setIfInBounds_self_of_lt hoff]
 have hlk4:((l.set 0 ⟨n2,h2,r2,d2,b2⟩).take k).length=k:=by
  have:=HK.out;rw[List.length_take,List.length_set];omega
 have hr4:TimRowAt w4 g cap ((l.set 0 ⟨n2,h2,r2,d2,b2⟩).take k):=⟨_,(ho4.block g (fun e=>hpg e.symm)).trans hq3,hr3.short k (by rw[List.length_set];have:=HK.out;omega)⟩;have HSD:Hid (Calls prog 130 #[.pointer (some ⟨pb,off,none⟩),.int .i64 0] w4 fun e w'=>e=.returned (.tuple #[])∧TimRowAt w' g cap (downT (k-0) ((l.set 0 ⟨n2,h2,r2,d2,b2⟩).take k) 0)∧SameBut (fun k=>k=g) w4 w'):=siftDown_any pb off g k cap 0 ((l.set 0 ⟨n2,h2,r2,d2,b2⟩).take k) w4 (by have:=HK.out;omega) c04 hpg hlk4 hr4 (Nat.zero_le _);refine HSD.out.mono ?_;rintro e w5 ⟨rfl,hr5,hs5⟩;have hgz:g≠w.heap.size∧g≠w1.heap.size∧pb≠w.heap.size∧pb≠w1.heap.size:=by have:=HZ1.out;omega
 have hs25:∀j,j<w2.heap.size→j≠g→j≠pb→w5.heap[j]? =w2.heap[j]? :=fun j hj n1 n2=>by
  rw[hs5.block j (by rw[ho4.size,ho3.size];exact hj) n1,ho4.block j n2,ho3.block j n1];rfl
 have hz2s:w.heap.size<w2.heap.size∧w1.heap.size<w2.heap.size:=by have h1:=HZ1.out;have h2:=HZ2.out;omega
 have HQ5:Hid (w5.heap[w1.heap.size]? =some (.cells #[.int .i64 n1,.int .i64 h1,.int .i64 r1] 177 (0,0))):=(hs25 _ hz2s.2 (fun e=>hgz.2.1 e.symm) (fun e=>hgz.2.2.2 e.symm)).trans HQ2.out;have HX5:Hid (w5.heap[w.heap.size]? =some (.cells #[.int .i64 0,.int .i64 0,.int .i64 0] 177 (0,0))):=(hs25 _ hz2s.1 (fun e=>hgz.1 e.symm) (fun e=>hgz.2.2.1 e.symm)).trans (blk HBX.out HB2.out);have HPB5:Hid (w5.heap[pb]? =some (.cells (C.setIfInBounds off (.slice (some ⟨g,0,none⟩) k cap)) t (0,0))):=(hs5.block pb (row_lt0 hq4) hpg).trans hq4;have HR5:=hide hr5;have HS5:Hid (SameBut (fun k=>k=pb∨k=g) w w5):=by
  refine⟨?_,?_,?_,?_,fun j hj hn=>?_⟩
  .exact hs5.os.trans (ho4.os.trans (ho3.os.trans (HB2.out.os.trans HB1.out.os)))
  .exact hs5.tape.trans (ho4.tape.trans (ho3.tape.trans (HB2.out.tape.trans HB1.out.tape)))
  .exact hs5.output.trans (ho4.output.trans (ho3.output.trans (HB2.out.output.trans HB1.out.output)))
  .have h5:=hs5.size;rw[ho4.size,ho3.size] at h5;exact Nat.le_trans HB1.out.size (Nat.le_trans HB2.out.size h5)
  rw[hs25 j (by omega) (fun e=>hn (Or.inr e)) (fun e=>hn (Or.inl e)),HB2.out.block j (by have:=HZ1.out;omega),HB1.out.block j hj]
 clear hr5 hs5 hs25 hz2s HSD hr4 hlk4 c04 hq4 ho4 hsl f03 c03 hqp3 hr3 ho3 hq3 hcur hrow;go_wp2_with (first|(refine wpList_load_row rfl 177 _ rfl w1.heap.size rfl 177 #[.int .i64 n1,.int .i64 h1,.int .i64 r1] (0,0) _ HQ5.out underlying177 rfl Tryz.sizeTimer ?_)|(refine wpList_store_rowG rfl 177 _ _ rfl w.heap.size #[.int .i64 n1,.int .i64 h1,.int .i64 r1] rfl rfl 177 _ HX5.out rfl (by simp[Value.oneCell']) Tryz.sizeTimer ?_;intro w6 hq6 ho6;have HQ6:=hide hq6;have HO6:=hide ho6;clear hq6 ho6)|fail)
 refine bodyPost_ret (v:=.tuple #[.agg #[.int .i64 n1,.int .i64 h1,.int .i64 r1],.bool true]) (results_rowG2 results89 _ _ w.heap.size 177 _ _ _ rfl rfl HQ6.out underlying177 rfl Tryz.sizeTimer) rfl ⟨?_,?_,?_,?_⟩
 .rw [←HX.out]
 .rw [HK1.out];exact(HO6.out.block pb hgz.2.2.1).trans HPB5.out
 .unfold restT;rw[HK1.out,←HY.out];exact HR5.out.keep (HO6.out.block g hgz.1)
 refine⟨HO6.out.os.trans HS5.out.os,HO6.out.tape.trans HS5.out.tape,HO6.out.output.trans HS5.out.output,by rw[HO6.out.size];exact HS5.out.size,fun j hj hn=>?_⟩;rw[HO6.out.block j (by omega)];exact HS5.out.block j hj hn
end Go.Proofs.YtcfjhbcpjpgodaaGreatDoor

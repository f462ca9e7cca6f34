/- Proved here: small laws on rows of eight bools. -/
import Derived.Test.YtcfjhbcpjpgodaaGreatDoorBase
import Derived.Test.YtcfjhbcpjpgodaaGreatDoorJ5
namespace Go.Proofs.YtcfjhbcpjpgodaaGreatDoor
open Go.RowKit Go.Proofs.Tryz
set_option maxRecDepth 100000
set_option maxHeartbeats 1600000
theorem Tryz.sizeBools:(prog.info? 190).map (·.size)=some 8:=by kernel_rfl
def boolA(b:Nat→Bool):Array Value:=#[.bool (b 0),.bool (b 1),.bool (b 2),.bool (b 3),.bool (b 4),.bool (b 5),.bool (b 6),.bool (b 7)]
def yesB(b:Nat→Bool)(f:Nat):Nat→Bool:=fun i=>if i=f then true else b i
theorem boolA_set(b:Nat→Bool)(f:Nat)(h:f<8):(boolA b).setIfInBounds f (.bool true)=boolA (yesB b f):=by
 match f,h with
 |0,_|1,_|2,_|3,_|4,_|5,_|6,_|7,_=>simp[boolA,yesB]
theorem boolA_get(b:Nat→Bool)(f:Nat)(h:f<8):(boolA b)[f]? =some (.bool (b f)):=by
 match f,h with
 |0,_|1,_|2,_|3,_|4,_|5,_|6,_|7,_=>simp[boolA]
theorem frozen_row{w:World}{g:Nat}{C:Array Value}{t:TypeId}(h:w.heap[g]? =some (.cells C t (0,0)))(i:Nat):w.frozen? ⟨g,i,none⟩=false:=by simp[World.frozen?,h]
theorem index_bools(b:Nat→Bool)(k:Nat)(h:k<8)(W:World):(Instr.index 190 (.agg (boolA b)) (.int .i64 (k:Int))).run prog W=.ok (.bool (b k)) W:=by
 have h2:0≤(k:Int)∧(k:Int)<((8:Nat):Int):=by omega
 have hg:=boolA_get b k h;simp[Instr.index,run_underlying underlying190,asIntOf,go_sem,Tryz.sizeOf4,Tryz.isAgg4,hg,h]
def powB(x:Nat→Int)(b:Nat→Bool):Nat→Int
 |0=>0
 |k+1=>powB x b k+if b k then x k else 0
theorem powB_bound(x:Nat→Int)(b:Nat→Bool)(k:Nat)(h:∀i,i<k→0≤x i∧x i≤9):0≤powB x b k∧powB x b k≤9*k:=by
 induction k with
 |zero=>simp[powB]
 |succ k ih=>
  have h1:=ih fun i hi=>h i (by omega);have h2:=h k (by omega);simp only[powB];split<;>omega
def moreB(t:Int)(x:Nat→Int)(b:Nat→Bool):Bool:=decide (t*sumTo x 8<3*powB x b 8)
theorem moreThan_any(t:Int)(x:Nat→Int)(b:Nat→Bool)(w:World)(hx:Dom x)(ht0:0≤t)(ht:t≤3):
 Calls prog 137 #[.agg (regA x),.int .i64 t,.agg (boolA b)] w fun e w'=>e=.returned (.bool (moreB t x b))∧Below w.heap.size w w':=by
 have HX:=hide hx;clear hx;obtain⟨W,hW⟩:∃W,W=(w.alloc (.cells (regA x) 116)).alloc (.cells (boolA b) 190):=⟨_,rfl⟩;have HR:Hid (RegAt W w.heap.size 116 x):=by
  unfold Hid;rw[hW];exact(RegAt.alloc w 116 x).below ((Below.refl _ _).alloc (Nat.le_refl _) _)
 have HBL:Hid (W.heap[w.heap.size+1]? =some (.cells (boolA b) 190 (0,0))):=by
  unfold Hid;have h:=heap_alloc_new (w.alloc (.cells (regA x) 116)) (.cells (boolA b) 190);rw[World.size_alloc] at h;rw[hW];exact h
 have HB:Hid (Below w.heap.size w W):=by
  unfold Hid;rw[hW];exact((Below.refl _ w).alloc (Nat.le_refl _) _).alloc (by simp) _
 have HT:=hide (fun V=>total_any x V (fun i _=>HX.out i));have hix:=index_bools b;go_enter func137,ntmps137;go_wp2_with (first|(rw[←hW];clear hW;refine wpList_load_row rfl 190 _ rfl (w.heap.size+1) rfl 190 (boolA b) (0,0) _ HBL.out underlying190 rfl Tryz.sizeBools ?_)|fail)
 go_loop [7,8,9,11] (fun n _ _ i=>∃k:Nat,k≤8∧i=.int .i64 k∧n=.int .i64 (powB x b k)) (fun _ _ _ i=>8-(intOf i).toNat)
 case atStart=>exact⟨0,by omega,rfl,rfl⟩
 obtain⟨k,hk,rfl,rfl⟩:=hrel;have hpb:=powB_bound x b k (fun i _=>HX.out i);by_cases hlt:k<8
 .have hixk:=fun V=>hix k hlt V;have hxk:=HX.out k;have hck:=HR.out.cell k (by omega);have hk2:(k:Int)<8:=by omega
  clear hix;cases hbk:b k with
  |true=>
   rw[hbk] at hixk;have HE:Hid (powB x b (k+1)=powB x b k+x k):=by show powB x b k+_=_;rw[hbk];simp
   clear hbk;go_wp2
   go_round
   case rel=>exact⟨k+1,by omega,by go_num,by rw[HE.out]⟩
   case measure=>simp[intOf];omega
  |false=>
   rw[hbk] at hixk;have HE:Hid (powB x b (k+1)=powB x b k):=by show powB x b k+_=_;rw[hbk];simp
   clear hbk;go_wp2
   go_round
   case rel=>exact⟨k+1,by omega,by go_num,by rw[HE.out]⟩
   case measure=>simp[intOf];omega
 obtain rfl:k=8:=by omega
 have hsb:=sumTo_bound x 8 (fun i _=>HX.out i);have hm0:0≤t*sumTo x 8:=Int.mul_nonneg ht0 hsb.1;have hm1:t*sumTo x 8≤3*72:=Int.mul_le_mul ht hsb.2 hsb.1 (by omega);clear hix;go_wp2_with (first|(refine wpList_load_reg rfl 116 _ rfl w.heap.size rfl 116 x _ HR.out underlying116 rfl Tryz.sizeRegistry ?_)|fail)
 refine(HT.out _).mono ?_;rintro e w2 ⟨rfl,hb2⟩;have HB2:Hid (Below w.heap.size w w2):=HB.out.trans (hb2.mono HB.out.size);clear hb2;go_wp2;go_ret;exact⟨rfl,HB2.out⟩
end Go.Proofs.YtcfjhbcpjpgodaaGreatDoor

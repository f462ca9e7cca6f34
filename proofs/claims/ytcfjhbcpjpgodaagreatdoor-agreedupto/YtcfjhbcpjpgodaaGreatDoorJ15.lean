/- Proved here: what wire's hasFrame and mark answer at every message. -/
import Derived.Test.YtcfjhbcpjpgodaaGreatDoorJ14
import Derived.WalkSpells
import Derived.WalkLawsBesides
import Derived.Test.YtcfjhbcpjpgodaaGreatDoorJ1
import Derived.Lib.BufferWrite
import Derived.Laws.MakeOwn
import Derived.Deep.QuietTactic
import Derived.BigQuiet
import Derived.Deep.RegionWith
import Derived.WalkSmall
import Derived.Test.YtcfjhbcpjpgodaaGreatDoorTakeL
namespace Go.Proofs.YtcfjhbcpjpgodaaGreatDoor
open Go.RowKit Go.Proofs.Tryz
set_option maxRecDepth 100000
set_option maxHeartbeats 1000000
theorem hasFrame_any(K H R F V:Int)(nl:Bool)(s:ByteArray)(w:World)(hs:s.size≤maxLen):
 Calls prog 139 #[.agg #[.int .i64 K,.int .i64 H,.int .i64 R,.int .i64 F,.int .i64 V,.bool nl,.string s]] w fun e w'=>e=.returned (.bool (hasB K H R F V nl s.size))∧Below w.heap.size w w':=by
 unfold maxLen at hs;by_cases h1:H<0
 .go_enter func139,ntmps139;go_wp2;go_ret;exact⟨ret_bool (by simp[hasB]<;>omega),(Below.refl _ _).alloc (Nat.le_refl _) _⟩
 by_cases h2:12≤H
 .go_enter func139,ntmps139;go_wp2;go_ret;exact⟨ret_bool (by simp[hasB]<;>omega),(Below.refl _ _).alloc (Nat.le_refl _) _⟩
 by_cases h3:R<0
 .go_enter func139,ntmps139;go_wp2;go_ret;exact⟨ret_bool (by simp[hasB]<;>omega),(Below.refl _ _).alloc (Nat.le_refl _) _⟩
 by_cases h4:255<R
 .go_enter func139,ntmps139;go_wp2;go_ret;exact⟨ret_bool (by simp[hasB]<;>omega),(Below.refl _ _).alloc (Nat.le_refl _) _⟩
 by_cases h5:F<0
 .go_enter func139,ntmps139;go_wp2;go_ret;exact⟨ret_bool (by simp[hasB]<;>omega),(Below.refl _ _).alloc (Nat.le_refl _) _⟩
 by_cases h6:8≤F
 .go_enter func139,ntmps139;go_wp2;go_ret;exact⟨ret_bool (by simp[hasB]<;>omega),(Below.refl _ _).alloc (Nat.le_refl _) _⟩
 by_cases h7:24<(s.size:Int)
 .go_enter func139,ntmps139;go_wp2;go_ret;exact⟨ret_bool (by simp[hasB]<;>omega),(Below.refl _ _).alloc (Nat.le_refl _) _⟩
 by_cases k1:K=1
 .subst k1;cases nl with
  |true=>
   go_enter func139,ntmps139;go_wp2;go_ret;exact⟨ret_bool (by simp[hasB]<;>omega),(Below.refl _ _).alloc (Nat.le_refl _) _⟩
  |false=>
   by_cases v1: -1≤V
   .by_cases v2:V<R
    .have v2':¬R≤V:=by omega
     go_enter func139,ntmps139;go_wp2;go_ret;exact⟨ret_bool (by simp[hasB]<;>omega),(Below.refl _ _).alloc (Nat.le_refl _) _⟩
    go_enter func139,ntmps139;go_wp2;go_ret;exact⟨ret_bool (by simp[hasB]<;>omega),(Below.refl _ _).alloc (Nat.le_refl _) _⟩
   go_enter func139,ntmps139;go_wp2;go_ret;exact⟨ret_bool (by simp[hasB]<;>omega),(Below.refl _ _).alloc (Nat.le_refl _) _⟩
 have k1':(K==1)=false:=by simpa using k1
 by_cases k23:K=2∨K=3
 .by_cases v0:V=0
  .subst v0;cases nl with
   |false=>
    rcases k23 with k|k;focus
     subst k
    rotate_left;focus
     subst k
    rotate_left;all_goals
     clear k1';go_enter func139,ntmps139;go_wp2;go_ret;exact⟨ret_bool (by simp[hasB]<;>omega),(Below.refl _ _).alloc (Nat.le_refl _) _⟩
   |true=>
    rcases k23 with k|k;focus
     subst k
    rotate_left;focus
     subst k
    rotate_left;all_goals
     clear k1';go_enter func139,ntmps139;go_wp2;go_ret;refine⟨ret_bool ?_,(Below.refl _ _).alloc (Nat.le_refl _) _⟩;rw[isEmpty_size];exact hasB_nil _ _ _ _ _ (by omega) (by omega) (by omega) (by omega) (by omega) (by omega) (by omega) (by omega)
  have v0':(V==0)=false:=by simpa using v0
  rcases k23 with k|k;focus
   subst k
  rotate_left;focus
   subst k
  rotate_left;all_goals
   clear k1';go_enter func139,ntmps139;go_wp2;go_ret;exact⟨ret_bool (by simp[hasB]<;>omega),(Below.refl _ _).alloc (Nat.le_refl _) _⟩
 have k2:(K==2)=false:=by simp;omega
 have k3:(K==3)=false:=by simp;omega
 go_enter func139,ntmps139;go_wp2;go_ret;exact⟨ret_bool (by simp[hasB]<;>omega),(Below.refl _ _).alloc (Nat.le_refl _) _⟩
theorem wireMark_any(K H R F V:Int)(nl:Bool)(s:ByteArray)(w:World)(h:hasB K H R F V nl s.size=true):
 Calls prog 140 #[.agg #[.int .i64 K,.int .i64 H,.int .i64 R,.int .i64 F,.int .i64 V,.bool nl,.string s]] w fun e w'=>e=.returned (.int .u8 (markOf K V nl))∧Below w.heap.size w w':=by
 have h':=of_decide_eq_true h;clear h;by_cases k1:K=1
 .subst k1;have v1: -1≤V:=by omega
  have v2:V<255:=by omega
  clear h';go_enter func140,ntmps140;go_wp2;go_ret;refine⟨ret_int ?_,(Below.refl _ _).alloc (Nat.le_refl _) _⟩;simp[markOf]
 have k1':(K==1)=false:=by simpa using k1
 clear h';cases nl
 .go_enter func140,ntmps140;go_wp2;go_ret;exact⟨ret_int (by simp[markOf,k1]),(Below.refl _ _).alloc (Nat.le_refl _) _⟩
 go_enter func140,ntmps140;go_wp2;go_ret;exact⟨ret_int (by simp[markOf,k1]),(Below.refl _ _).alloc (Nat.le_refl _) _⟩
theorem Tryz.infoByte:(prog.info? 5).map (fun i=>(i.size,i.bytes,i.zero))=some (1,1,some (.int .u8 0)):=by kernel_rfl
theorem nums_bytes(s:ByteArray):strOfNums (s.data.toList.map fun b=>(b.toNat:Int))=s:=by
 apply ByteArray.ext;apply Array.toList_inj.1;show(List.map _ _).toArray.toList=_;rw[List.toList_toArray,List.map_map]
 conv=>rhs;rw[←List.map_id s.data.toList]
 apply List.map_congr_left;intro x _;simp
theorem nums_append(a b:List Int):strOfNums (a++b)=strOfNums a++strOfNums b:=by
 apply ByteArray.ext;apply Array.toList_inj.1;simp[strOfNums]
theorem conv_row(W:World)(g:Nat)(Y:Array Value)(K H R F m:Int)(s:ByteArray)(hg:W.heap[g]? =some (.cells Y 5 (0,0)))
 (hY:Y.toList=[.int .u8 K,.int .u8 H,.int .u8 R,.int .u8 F,.int .u8 m,.int .u8 s.size]++Lib.byteCells s.data.toList):
 (convert 153 9 (.slice (some ⟨g,0,none⟩) (6+s.size) (6+s.size))).run prog W=.ok (.string (frameOf K H R F m s)) W:=by
 have h:=run_convert_bytes_arg (P:=prog) W 153 5 underlying153 underlying5 g 0 (6+s.size) (6+s.size) ([K,H,R,F,m,s.size]++s.data.toList.map fun b=>(b.toNat:Int)) (by simp;omega) (fun i hi=>by
  have e:Y.toList[i]? =some (.int .u8 (([K,H,R,F,m,(s.size:Int)]++s.data.toList.map fun b=>(b.toNat:Int)).getD i 0)):=by
   rw[hY];have e2:[Value.int .u8 K,.int .u8 H,.int .u8 R,.int .u8 F,.int .u8 m,.int .u8 s.size]++Lib.byteCells s.data.toList=([K,H,R,F,m,(s.size:Int)]++s.data.toList.map fun b=>(b.toNat:Int)).map (Value.int .u8):=by
    simp[Lib.byteCells]
   rw[e2,List.getElem?_map,List.getD_eq_getElem?_getD];have hlt:i<([K,H,R,F,m,(s.size:Int)]++s.data.toList.map fun b=>(b.toNat:Int)).length:=by simp;omega
   rw[List.getElem?_eq_getElem hlt];rfl
  rw[Nat.zero_add];simp only[World.cell?,hg];rw[←Array.getElem?_toList];exact e) 9 underlying9
 rw[h,nums_append,nums_bytes];rfl
theorem six_set(M:Array Value)(n:Nat)(z a0 a1 a2 a3 a4 a5:Value)(h:M.toList=List.replicate (6+n) z):
 ((((((M.setIfInBounds 0 a0).setIfInBounds 1 a1).setIfInBounds 2 a2).setIfInBounds 3 a3).setIfInBounds 4 a4).setIfInBounds 5 a5).toList=[a0,a1,a2,a3,a4,a5]++List.replicate n z:=by
 have e:List.replicate (6+n) z=z::z::z::z::z::z::List.replicate n z:=by rw[Nat.add_comm];rfl
 simp only[Array.toList_setIfInBounds,h,e];rfl
theorem wireEncode_a(H R F V:Int)(s:ByteArray)(w:World)(hs:s.size≤24)(h1:0≤H)(h2:H<12)(h3:0≤R)(h4:R≤255)(h5:0≤F)(h6:F<8)(h7: -1≤V)(h8:V<R):
 Calls prog 101 #[.agg #[.int .i64 1,.int .i64 H,.int .i64 R,.int .i64 F,.int .i64 V,.bool false,.string s]] w fun e w'=>e=.returned (.tuple #[.string (frameOf 1 H R F (V+1) s),.nilIface])∧Below w.heap.size w w':=by
 have hy:Hid (hasB 1 H R F V false s.size=true):=by unfold Hid;simp[hasB]<;>omega
 obtain⟨i0,hi,hi'⟩:=Option.map_eq_some_iff.1 Tryz.infoByte;have hz1:i0.size=1:=congrArg (·.1) hi';have hz2:i0.bytes=1:=congrArg (·.2.1) hi';have hz0:i0.zero=some (.int .u8 0):=congrArg (·.2.2) hi';obtain⟨M,hM⟩:=gen (madeCells (Value.int .u8 0).cells (((6+(s.size:Int)).toNat)*i0.size));have hMl:M.toList=List.replicate (6+s.size) (.int .u8 0):=by
  rw[hM];show(madeCells #[Value.int .u8 0] _).toList=_;rw[toList_madeCells_one,hz1]
  congr 1
  omega
 have hmk:∀W:World,(Instr.makeSlice 153 (.int .i64 (6+(s.size:Int))) (.int .i64 (6+(s.size:Int)))).run prog W=.ok (.slice (some ⟨W.heap.size,0,none⟩) (6+s.size) (6+s.size)) (W.alloc (.cells M 5)):=fun W=>by
  have h:=run_make (P:=prog) W 153 5 i0 (.int .u8 0) underlying153 hi hz0 .i64 .i64 (6+(s.size:Int)) (6+(s.size:Int)) (by omega) (by omega) (by rw[hz2];omega) (by omega);rw[←hM] at h;rw[h];have e:(6+(s.size:Int)).toNat=6+s.size:=by omega
  rw[e]
 have hMc:∀i,i<6→M[i]? =some (.int .u8 0):=fun i h=>by
  rw[←Array.getElem?_toList,hMl,List.getElem?_replicate,if_pos (by omega)]
 have m0:=hMc 0 (by omega);have m1:=hMc 1 (by omega);have m2:=hMc 2 (by omega);have m3:=hMc 3 (by omega);have m4:=hMc 4 (by omega);have m5:=hMc 5 (by omega);have HMl:=hide hMl;clear hM hMc hz0 hz1 hz2 hi' hi hMl;go_enter func101,ntmps101;go_wp2_with fail
 refine(hasFrame_any 1 H R F V false s _ (by unfold maxLen;omega)).mono ?_;rw[hy.out];rintro e w1 ⟨rfl,hb1⟩;have hc:=fun o=>hb1.cell (p:=⟨w.heap.size,o,none⟩) (by simp);have q0:w1.cell? ⟨w.heap.size,0,none⟩=some (.int .i64 1):=by rw[hc];simp
 have q1:w1.cell? ⟨w.heap.size,1,none⟩=some (.int .i64 H):=by rw[hc];simp
 have q2:w1.cell? ⟨w.heap.size,2,none⟩=some (.int .i64 R):=by rw[hc];simp
 have q3:w1.cell? ⟨w.heap.size,3,none⟩=some (.int .i64 F):=by rw[hc];simp
 have q4:w1.cell? ⟨w.heap.size,4,none⟩=some (.int .i64 V):=by rw[hc];simp
 have q5:w1.cell? ⟨w.heap.size,5,none⟩=some (.bool false):=by rw[hc];simp
 have q6:w1.cell? ⟨w.heap.size,6,none⟩=some (.string s):=by rw[hc];simp
 have hlt:w.heap.size<w1.heap.size:=by have:=hb1.size;simp at this;omega
 have HB:=hide hb1;clear hc hb1;go_wp2;obtain⟨C,hC⟩:∃C,C=((((((M.setIfInBounds 0 (Value.int IntKind.u8 1)).setIfInBounds 1 (Value.int IntKind.u8 H)).setIfInBounds 2 (Value.int IntKind.u8 R)).setIfInBounds 3 (Value.int IntKind.u8 F)).setIfInBounds 4 (Value.int IntKind.u8 ((V+1)))).setIfInBounds 5 (Value.int IntKind.u8 s.size)):=⟨_,rfl⟩;rw[←hC];have hCl:C.toList=[Value.int .u8 1,.int .u8 H,.int .u8 R,.int .u8 F,.int .u8 ((V+1)),.int .u8 s.size]++List.replicate s.size (.int .u8 0):=by rw[hC];exact six_set M _ _ _ _ _ _ _ _ HMl.out
 have HC:=hide hCl;clear hC hCl m0 m1 m2 m3 m4 m5 hmk;obtain⟨W10,hW10⟩:∃W,W=(w1.alloc (Obj.cells C 5)).alloc (Obj.cells #[Value.int IntKind.i64 1,Value.int IntKind.i64 H,Value.int IntKind.i64 R,Value.int IntKind.i64 F,Value.int IntKind.i64 V,Value.bool false,Value.string s] 57):=⟨_,rfl⟩;have hg10:W10.heap[w1.heap.size]? =some (.cells C 5 (0,0)):=by rw[hW10,Below.heap_alloc _ _ _ (by simp)];exact heap_alloc_new w1 _
 have r6:W10.cell? ⟨w.heap.size,6,none⟩=some (.string s):=by rw[hW10];rw[World.cell?_of_block (w:=w1) (by rw[Below.heap_alloc _ _ _ (by simp;omega),Below.heap_alloc _ _ _ hlt])];exact q6
 have hB10:Below w.heap.size w W10:=by
  rw[hW10];exact((((Below.refl _ w).alloc (Nat.le_refl _) _).trans (HB.out.mono (by simp))).alloc (Nat.le_of_lt hlt) _).alloc (by simp;omega) _
 have HB10:=hide hB10;rw[←hW10];clear hW10 hB10 q0 q1 q2 q3 q4 q5 q6;by_cases hn:s=ByteArray.empty
 .have hn':(s=ByteArray.empty)=True:=by simp[hn]
  have hz:s.size=0:=by rw[hn];rfl
  have hcv:=conv_row W10.drew w1.heap.size C 1 H R F ((V+1)) s hg10 (by rw[HC.out,hz];simp[Lib.byteCells,hn]);have hcp:=Lib.run_copy_empty_string (P:=prog) W10.drew 153 9 3 5 (some ⟨w1.heap.size,0,none⟩) s.size s.size s underlying153 (by kernel_rfl) hz;clear hn hz
  go_region
  go_wp2;go_ret2;exact⟨rfl,HB10.out.drew⟩
 have hcp:=Lib.run_copy_row_string (P:=prog) W10.drew 153 9 3 5 w1.heap.size 6 s.size s.size s C 5 underlying153 (by kernel_rfl) hg10 (Nat.le_refl _) (by rw[←Array.length_toList,HC.out];simp;omega);obtain⟨Y,hY⟩:∃Y,Y=(C.toList.take 6++Lib.byteCells s.data.toList++C.toList.drop (6+s.size)).toArray:=⟨_,rfl⟩;rw[←hY] at hcp;have hYl:Y.toList=[Value.int .u8 1,.int .u8 H,.int .u8 R,.int .u8 F,.int .u8 ((V+1)),.int .u8 s.size]++Lib.byteCells s.data.toList:=by
  rw[hY,HC.out,List.toList_toArray,List.drop_of_length_le (by simp;omega)];simp
 obtain⟨W11,hW11⟩:=gen (W10.drew.setRow w1.heap.size Y);rw[←hW11] at hcp;have hg11:W11.heap[w1.heap.size]? =some (.cells Y 5 (0,0)):=by rw[hW11];exact setRow_heap _ _ C _ 5 (0,0) hg10
 have hcv:=conv_row W11 w1.heap.size Y 1 H R F ((V+1)) s hg11 hYl;have hB11:Hid (Below w.heap.size W10.drew W11):=by
  rw[hW11];exact⟨rfl,rfl,rfl,by simp,fun k hk=>setRow_other _ _ _ _ (by omega)⟩
 clear hW11 hY hYl hg11
 go_region
 go_wp2;go_ret2;exact⟨rfl,HB10.out.drew.trans hB11.out⟩
theorem wireEncode_b(K H R F:Int)(s:ByteArray)(w:World)(hs:s.size≤24)(h1:0≤H)(h2:H<12)(h3:0≤R)(h4:R≤255)(h5:0≤F)(h6:F<8)(k0:2≤K)(k1:K≤3):
 Calls prog 101 #[.agg #[.int .i64 K,.int .i64 H,.int .i64 R,.int .i64 F,.int .i64 0,.bool false,.string s]] w fun e w'=>e=.returned (.tuple #[.string (frameOf K H R F 0 s),.nilIface])∧Below w.heap.size w w':=by
 have hy:Hid (hasB K H R F 0 false s.size=true):=by unfold Hid;simp[hasB]<;>omega
 have k2:(K==1)=false:=by simp;omega
 obtain⟨i0,hi,hi'⟩:=Option.map_eq_some_iff.1 Tryz.infoByte;have hz1:i0.size=1:=congrArg (·.1) hi';have hz2:i0.bytes=1:=congrArg (·.2.1) hi';have hz0:i0.zero=some (.int .u8 0):=congrArg (·.2.2) hi';obtain⟨M,hM⟩:=gen (madeCells (Value.int .u8 0).cells (((6+(s.size:Int)).toNat)*i0.size));have hMl:M.toList=List.replicate (6+s.size) (.int .u8 0):=by
  rw[hM];show(madeCells #[Value.int .u8 0] _).toList=_;rw[toList_madeCells_one,hz1]
  congr 1
  omega
 have hmk:∀W:World,(Instr.makeSlice 153 (.int .i64 (6+(s.size:Int))) (.int .i64 (6+(s.size:Int)))).run prog W=.ok (.slice (some ⟨W.heap.size,0,none⟩) (6+s.size) (6+s.size)) (W.alloc (.cells M 5)):=fun W=>by
  have h:=run_make (P:=prog) W 153 5 i0 (.int .u8 0) underlying153 hi hz0 .i64 .i64 (6+(s.size:Int)) (6+(s.size:Int)) (by omega) (by omega) (by rw[hz2];omega) (by omega);rw[←hM] at h;rw[h];have e:(6+(s.size:Int)).toNat=6+s.size:=by omega
  rw[e]
 have hMc:∀i,i<6→M[i]? =some (.int .u8 0):=fun i h=>by
  rw[←Array.getElem?_toList,hMl,List.getElem?_replicate,if_pos (by omega)]
 have m0:=hMc 0 (by omega);have m1:=hMc 1 (by omega);have m2:=hMc 2 (by omega);have m3:=hMc 3 (by omega);have m4:=hMc 4 (by omega);have m5:=hMc 5 (by omega);have HMl:=hide hMl;clear hM hMc hz0 hz1 hz2 hi' hi hMl;go_enter func101,ntmps101;go_wp2_with fail
 refine(hasFrame_any K H R F 0 false s _ (by unfold maxLen;omega)).mono ?_;rw[hy.out];rintro e w1 ⟨rfl,hb1⟩;have hc:=fun o=>hb1.cell (p:=⟨w.heap.size,o,none⟩) (by simp);have q0:w1.cell? ⟨w.heap.size,0,none⟩=some (.int .i64 K):=by rw[hc];simp
 have q1:w1.cell? ⟨w.heap.size,1,none⟩=some (.int .i64 H):=by rw[hc];simp
 have q2:w1.cell? ⟨w.heap.size,2,none⟩=some (.int .i64 R):=by rw[hc];simp
 have q3:w1.cell? ⟨w.heap.size,3,none⟩=some (.int .i64 F):=by rw[hc];simp
 have q4:w1.cell? ⟨w.heap.size,4,none⟩=some (.int .i64 0):=by rw[hc];simp
 have q5:w1.cell? ⟨w.heap.size,5,none⟩=some (.bool false):=by rw[hc];simp
 have q6:w1.cell? ⟨w.heap.size,6,none⟩=some (.string s):=by rw[hc];simp
 have hlt:w.heap.size<w1.heap.size:=by have:=hb1.size;simp at this;omega
 have HB:=hide hb1;clear hc hb1;go_wp2;obtain⟨C,hC⟩:∃C,C=((((((M.setIfInBounds 0 (Value.int IntKind.u8 K)).setIfInBounds 1 (Value.int IntKind.u8 H)).setIfInBounds 2 (Value.int IntKind.u8 R)).setIfInBounds 3 (Value.int IntKind.u8 F)).setIfInBounds 4 (Value.int IntKind.u8 (0))).setIfInBounds 5 (Value.int IntKind.u8 s.size)):=⟨_,rfl⟩;rw[←hC];have hCl:C.toList=[Value.int .u8 K,.int .u8 H,.int .u8 R,.int .u8 F,.int .u8 (0),.int .u8 s.size]++List.replicate s.size (.int .u8 0):=by rw[hC];exact six_set M _ _ _ _ _ _ _ _ HMl.out
 have HC:=hide hCl;clear hC hCl m0 m1 m2 m3 m4 m5 hmk;obtain⟨W10,hW10⟩:∃W,W=(w1.alloc (Obj.cells C 5)).alloc (Obj.cells #[Value.int IntKind.i64 K,Value.int IntKind.i64 H,Value.int IntKind.i64 R,Value.int IntKind.i64 F,Value.int IntKind.i64 0,Value.bool false,Value.string s] 57):=⟨_,rfl⟩;have hg10:W10.heap[w1.heap.size]? =some (.cells C 5 (0,0)):=by rw[hW10,Below.heap_alloc _ _ _ (by simp)];exact heap_alloc_new w1 _
 have r6:W10.cell? ⟨w.heap.size,6,none⟩=some (.string s):=by rw[hW10];rw[World.cell?_of_block (w:=w1) (by rw[Below.heap_alloc _ _ _ (by simp;omega),Below.heap_alloc _ _ _ hlt])];exact q6
 have hB10:Below w.heap.size w W10:=by
  rw[hW10];exact((((Below.refl _ w).alloc (Nat.le_refl _) _).trans (HB.out.mono (by simp))).alloc (Nat.le_of_lt hlt) _).alloc (by simp;omega) _
 have HB10:=hide hB10;rw[←hW10];clear hW10 hB10 q0 q1 q2 q3 q4 q5 q6;by_cases hn:s=ByteArray.empty
 .have hn':(s=ByteArray.empty)=True:=by simp[hn]
  have hz:s.size=0:=by rw[hn];rfl
  have hcv:=conv_row W10.drew w1.heap.size C K H R F (0) s hg10 (by rw[HC.out,hz];simp[Lib.byteCells,hn]);have hcp:=Lib.run_copy_empty_string (P:=prog) W10.drew 153 9 3 5 (some ⟨w1.heap.size,0,none⟩) s.size s.size s underlying153 (by kernel_rfl) hz;clear hn hz
  go_region
  go_wp2;go_ret2;exact⟨rfl,HB10.out.drew⟩
 have hcp:=Lib.run_copy_row_string (P:=prog) W10.drew 153 9 3 5 w1.heap.size 6 s.size s.size s C 5 underlying153 (by kernel_rfl) hg10 (Nat.le_refl _) (by rw[←Array.length_toList,HC.out];simp;omega);obtain⟨Y,hY⟩:∃Y,Y=(C.toList.take 6++Lib.byteCells s.data.toList++C.toList.drop (6+s.size)).toArray:=⟨_,rfl⟩;rw[←hY] at hcp;have hYl:Y.toList=[Value.int .u8 K,.int .u8 H,.int .u8 R,.int .u8 F,.int .u8 (0),.int .u8 s.size]++Lib.byteCells s.data.toList:=by
  rw[hY,HC.out,List.toList_toArray,List.drop_of_length_le (by simp;omega)];simp
 obtain⟨W11,hW11⟩:=gen (W10.drew.setRow w1.heap.size Y);rw[←hW11] at hcp;have hg11:W11.heap[w1.heap.size]? =some (.cells Y 5 (0,0)):=by rw[hW11];exact setRow_heap _ _ C _ 5 (0,0) hg10
 have hcv:=conv_row W11 w1.heap.size Y K H R F (0) s hg11 hYl;have hB11:Hid (Below w.heap.size W10.drew W11):=by
  rw[hW11];exact⟨rfl,rfl,rfl,by simp,fun k hk=>setRow_other _ _ _ _ (by omega)⟩
 clear hW11 hY hYl hg11
 go_region
 go_wp2;go_ret2;exact⟨rfl,HB10.out.drew.trans hB11.out⟩
theorem wireEncode_c(K H R F:Int)(s:ByteArray)(w:World)(hs:s.size≤24)(h1:0≤H)(h2:H<12)(h3:0≤R)(h4:R≤255)(h5:0≤F)(h6:F<8)(k0:2≤K)(k1:K≤3)(hz0:s.size=0):
 Calls prog 101 #[.agg #[.int .i64 K,.int .i64 H,.int .i64 R,.int .i64 F,.int .i64 0,.bool true,.string s]] w fun e w'=>e=.returned (.tuple #[.string (frameOf K H R F 1 s),.nilIface])∧Below w.heap.size w w':=by
 have hy:Hid (hasB K H R F 0 true s.size=true):=by
  unfold Hid;rw[←hasB_nil K H R F s.size h1 h2 h3 h4 h5 h6 hs (by omega)];simpa using hz0
 clear hz0;have k2:(K==1)=false:=by simp;omega
 obtain⟨i0,hi,hi'⟩:=Option.map_eq_some_iff.1 Tryz.infoByte;have hz1:i0.size=1:=congrArg (·.1) hi';have hz2:i0.bytes=1:=congrArg (·.2.1) hi';have hz0:i0.zero=some (.int .u8 0):=congrArg (·.2.2) hi';obtain⟨M,hM⟩:=gen (madeCells (Value.int .u8 0).cells (((6+(s.size:Int)).toNat)*i0.size));have hMl:M.toList=List.replicate (6+s.size) (.int .u8 0):=by
  rw[hM];show(madeCells #[Value.int .u8 0] _).toList=_;rw[toList_madeCells_one,hz1]
  congr 1
  omega
 have hmk:∀W:World,(Instr.makeSlice 153 (.int .i64 (6+(s.size:Int))) (.int .i64 (6+(s.size:Int)))).run prog W=.ok (.slice (some ⟨W.heap.size,0,none⟩) (6+s.size) (6+s.size)) (W.alloc (.cells M 5)):=fun W=>by
  have h:=run_make (P:=prog) W 153 5 i0 (.int .u8 0) underlying153 hi hz0 .i64 .i64 (6+(s.size:Int)) (6+(s.size:Int)) (by omega) (by omega) (by rw[hz2];omega) (by omega);rw[←hM] at h;rw[h];have e:(6+(s.size:Int)).toNat=6+s.size:=by omega
  rw[e]
 have hMc:∀i,i<6→M[i]? =some (.int .u8 0):=fun i h=>by
  rw[←Array.getElem?_toList,hMl,List.getElem?_replicate,if_pos (by omega)]
 have m0:=hMc 0 (by omega);have m1:=hMc 1 (by omega);have m2:=hMc 2 (by omega);have m3:=hMc 3 (by omega);have m4:=hMc 4 (by omega);have m5:=hMc 5 (by omega);have HMl:=hide hMl;clear hM hMc hz0 hz1 hz2 hi' hi hMl;go_enter func101,ntmps101;go_wp2_with fail
 refine(hasFrame_any K H R F 0 true s _ (by unfold maxLen;omega)).mono ?_;rw[hy.out];rintro e w1 ⟨rfl,hb1⟩;have hc:=fun o=>hb1.cell (p:=⟨w.heap.size,o,none⟩) (by simp);have q0:w1.cell? ⟨w.heap.size,0,none⟩=some (.int .i64 K):=by rw[hc];simp
 have q1:w1.cell? ⟨w.heap.size,1,none⟩=some (.int .i64 H):=by rw[hc];simp
 have q2:w1.cell? ⟨w.heap.size,2,none⟩=some (.int .i64 R):=by rw[hc];simp
 have q3:w1.cell? ⟨w.heap.size,3,none⟩=some (.int .i64 F):=by rw[hc];simp
 have q4:w1.cell? ⟨w.heap.size,4,none⟩=some (.int .i64 0):=by rw[hc];simp
 have q5:w1.cell? ⟨w.heap.size,5,none⟩=some (.bool true):=by rw[hc];simp
 have q6:w1.cell? ⟨w.heap.size,6,none⟩=some (.string s):=by rw[hc];simp
 have hlt:w.heap.size<w1.heap.size:=by have:=hb1.size;simp at this;omega
 have HB:=hide hb1;clear hc hb1;go_wp2;obtain⟨C,hC⟩:∃C,C=((((((M.setIfInBounds 0 (Value.int IntKind.u8 K)).setIfInBounds 1 (Value.int IntKind.u8 H)).setIfInBounds 2 (Value.int IntKind.u8 R)).setIfInBounds 3 (Value.int IntKind.u8 F)).setIfInBounds 4 (Value.int IntKind.u8 (1))).setIfInBounds 5 (Value.int IntKind.u8 s.size)):=⟨_,rfl⟩;rw[←hC];have hCl:C.toList=[Value.int .u8 K,.int .u8 H,.int .u8 R,.int .u8 F,.int .u8 (1),.int .u8 s.size]++List.replicate s.size (.int .u8 0):=by rw[hC];exact six_set M _ _ _ _ _ _ _ _ HMl.out
 have HC:=hide hCl;clear hC hCl m0 m1 m2 m3 m4 m5 hmk;obtain⟨W10,hW10⟩:∃W,W=(w1.alloc (Obj.cells C 5)).alloc (Obj.cells #[Value.int IntKind.i64 K,Value.int IntKind.i64 H,Value.int IntKind.i64 R,Value.int IntKind.i64 F,Value.int IntKind.i64 0,Value.bool true,Value.string s] 57):=⟨_,rfl⟩;have hg10:W10.heap[w1.heap.size]? =some (.cells C 5 (0,0)):=by rw[hW10,Below.heap_alloc _ _ _ (by simp)];exact heap_alloc_new w1 _
 have r6:W10.cell? ⟨w.heap.size,6,none⟩=some (.string s):=by rw[hW10];rw[World.cell?_of_block (w:=w1) (by rw[Below.heap_alloc _ _ _ (by simp;omega),Below.heap_alloc _ _ _ hlt])];exact q6
 have hB10:Below w.heap.size w W10:=by
  rw[hW10];exact((((Below.refl _ w).alloc (Nat.le_refl _) _).trans (HB.out.mono (by simp))).alloc (Nat.le_of_lt hlt) _).alloc (by simp;omega) _
 have HB10:=hide hB10;rw[←hW10];clear hW10 hB10 q0 q1 q2 q3 q4 q5 q6;by_cases hn:s=ByteArray.empty
 .have hn':(s=ByteArray.empty)=True:=by simp[hn]
  have hz:s.size=0:=by rw[hn];rfl
  have hcv:=conv_row W10.drew w1.heap.size C K H R F (1) s hg10 (by rw[HC.out,hz];simp[Lib.byteCells,hn]);have hcp:=Lib.run_copy_empty_string (P:=prog) W10.drew 153 9 3 5 (some ⟨w1.heap.size,0,none⟩) s.size s.size s underlying153 (by kernel_rfl) hz;clear hn hz
  go_region
  go_wp2;go_ret2;exact⟨rfl,HB10.out.drew⟩
 have hcp:=Lib.run_copy_row_string (P:=prog) W10.drew 153 9 3 5 w1.heap.size 6 s.size s.size s C 5 underlying153 (by kernel_rfl) hg10 (Nat.le_refl _) (by rw[←Array.length_toList,HC.out];simp;omega);obtain⟨Y,hY⟩:∃Y,Y=(C.toList.take 6++Lib.byteCells s.data.toList++C.toList.drop (6+s.size)).toArray:=⟨_,rfl⟩;rw[←hY] at hcp;have hYl:Y.toList=[Value.int .u8 K,.int .u8 H,.int .u8 R,.int .u8 F,.int .u8 (1),.int .u8 s.size]++Lib.byteCells s.data.toList:=by
  rw[hY,HC.out,List.toList_toArray,List.drop_of_length_le (by simp;omega)];simp
 obtain⟨W11,hW11⟩:=gen (W10.drew.setRow w1.heap.size Y);rw[←hW11] at hcp;have hg11:W11.heap[w1.heap.size]? =some (.cells Y 5 (0,0)):=by rw[hW11];exact setRow_heap _ _ C _ 5 (0,0) hg10
 have hcv:=conv_row W11 w1.heap.size Y K H R F (1) s hg11 hYl;have hB11:Hid (Below w.heap.size W10.drew W11):=by
  rw[hW11];exact⟨rfl,rfl,rfl,by simp,fun k hk=>setRow_other _ _ _ _ (by omega)⟩
 clear hW11 hY hYl hg11
 go_region
 go_wp2;go_ret2;exact⟨rfl,HB10.out.drew.trans hB11.out⟩
def formE(b:Addr)(ok:Bool):Value:=if ok=true then .nilIface else .iface 294 (.pointer (some b))
theorem ret_form{a b:ByteArray}{u v:Value}(h:a=b)(h':u=v):Ending.returned (.tuple #[.string a,u])=.returned (.tuple #[.string b,v]):=by rw[h,h']
theorem wireEncode_no(K H R F V:Int)(nl:Bool)(s:ByteArray)(b:Addr)(w:World)(hs:s.size≤maxLen)(hb:w.cell? ⟨2,0,none⟩=some (.iface 294 (.pointer (some b))))(h:hasB K H R F V nl s.size=false):
 Calls prog 101 #[.agg #[.int .i64 K,.int .i64 H,.int .i64 R,.int .i64 F,.int .i64 V,.bool nl,.string s]] w fun e w'=>e=.returned (.tuple #[.string ⟨#[]⟩,.iface 294 (.pointer (some b))])∧Below w.heap.size w w':=by
 have HH:=hide h;have hlt:=World.block_lt_of_cell? _ _ hb;clear h;go_enter func101,ntmps101;go_wp2_with fail
 refine(hasFrame_any K H R F V nl s _ hs).mono ?_;rw[HH.out];rintro e w1 ⟨rfl,hb1⟩;have hc:w1.cell? ⟨2,0,none⟩=some (.iface 294 (.pointer (some b))):=by
  rw[hb1.cell (p:=⟨2,0,none⟩) (by simp at hlt ⊢;omega)];exact cell?_alloc_old _ hb
 have HB:=hide hb1;clear hb1;go_wp2;go_quiet (fail)
 go_wp2;go_ret2;exact⟨rfl,below_drewN (((Below.refl _ w).alloc (Nat.le_refl _) _).trans (HB.out.mono (by simp))) _⟩
theorem wireEncode_any(K H R F V:Int)(nl:Bool)(s:ByteArray)(b:Addr)(w:World)(hs:s.size≤maxLen)(hb:w.cell? ⟨2,0,none⟩=some (.iface 294 (.pointer (some b)))):
 Calls prog 101 #[.agg #[.int .i64 K,.int .i64 H,.int .i64 R,.int .i64 F,.int .i64 V,.bool nl,.string s]] w fun e w'=>e=.returned (.tuple #[.string (encS K H R F V nl s),formE b (hasB K H R F V nl s.size)])∧Below w.heap.size w w':=by
 by_cases h:hasB K H R F V nl s.size=true
 .have h':=of_decide_eq_true h;obtain⟨h1,h2,h3,h4,h5,h6,h7,h8⟩:=h';rcases h8 with⟨rfl,rfl,v1,v2⟩|⟨hk,rfl,hn⟩
  .refine (wireEncode_a H R F V s w h7 h1 h2 h3 h4 h5 h6 v1 v2).mono ?_
   rintro e w' ⟨rfl,hB⟩;exact⟨ret_form (by rw[encS_yes h];rfl) (by rw[h];rfl),hB⟩
  have hk1:K≠1:=by omega
  cases nl
  .refine (wireEncode_b K H R F s w h7 h1 h2 h3 h4 h5 h6 (by omega) (by omega)).mono ?_
   rintro e w' ⟨rfl,hB⟩;exact⟨ret_form (by rw[encS_yes h];simp[markOf,hk1]) (by rw[h];rfl),hB⟩
  refine(wireEncode_c K H R F s w h7 h1 h2 h3 h4 h5 h6 (by omega) (by omega) (by simpa using hn)).mono ?_;rintro e w' ⟨rfl,hB⟩;exact⟨ret_form (by rw[encS_yes h];simp[markOf,hk1]) (by rw[h];rfl),hB⟩
 have h':hasB K H R F V nl s.size=false:=by simpa using h
 refine(wireEncode_no K H R F V nl s b w hs hb h').mono ?_;rintro e w' ⟨rfl,hB⟩;exact⟨ret_form (encS_no h').symm (by rw[h'];rfl),hB⟩
theorem synodEncode_any(K H R F V:Int)(nl:Bool)(s:ByteArray)(b:Addr)(w:World)(hs:s.size≤maxLen)(hb:w.cell? ⟨2,0,none⟩=some (.iface 294 (.pointer (some b)))):
 Calls prog 50 #[.agg #[.int .i64 K,.int .i64 H,.int .i64 R,.int .i64 F,.int .i64 V,.bool nl,.string s]] w fun e w'=>e=.returned (.tuple #[.string (encS K H R F V nl s),formE b (hasB K H R F V nl s.size)])∧Below w.heap.size w w':=by
 have hb1:=fun o=>cell?_alloc_old o hb;go_enter func50,ntmps50;go_wp2_with fail
 refine(wireEncode_any K H R F V nl s b _ hs (hb1 _)).mono ?_;rintro e w1 ⟨rfl,hB⟩;go_wp2;go_ret2;exact⟨rfl,((Below.refl _ w).alloc (Nat.le_refl _) _).trans (hB.mono (by simp))⟩
end Go.Proofs.YtcfjhbcpjpgodaaGreatDoor

import Derived.Test.YtcfjhbcpjpgodaaGreatDoorJ14
import Derived.Test.YtcfjhbcpjpgodaaGreatDoorShelfA
namespace Go.Proofs.YtcfjhbcpjpgodaaGreatDoor
open Go.RowKit Proofs.Tryz
set_option maxRecDepth 100000
set_option maxHeartbeats 0
set_option linter.all false
theorem QY(H R F V:Int)(s:zj5)(w:World)(hs:s.size<=24)(h1:0<=H)(h2:H<12)(h3:0<=R)(h4:R<=255)(h5:0<=F)(h6:F<8)(h7: -1<=V)(h8:V<R):
 Calls prog 101 #[.agg #[iA 1,iA H,iA R,iA F,iA V,bA false,sA s]] w λe w'=>e=.returned (.tuple #[sA (yM 1 H R F (V+1) s),.nilIface])/\BW w w':=by
 have hy:Hid (hasB 1 H R F V false s.size=true):=by unfold Hid;simp[hasB]<;>omega
 obtain⟨i0,hi,aj⟩:=Option.map_eq_some_iff.1 Tryz.zg3;have ar:i0.size=1:=congrArg (·.1) aj;have aq:i0.bytes=1:=congrArg (·.2.1) aj;have au:i0.zero=some (.int .u8 0):=congrArg (·.2.2) aj;obtain⟨M,hM⟩:=gen (madeCells (Value.int .u8 0).cells (((6+(s.size:Int)).toNat)*i0.size));have an:M.toList=List.replicate (6+s.size) (.int .u8 0):=by
  rw[hM];show(madeCells #[Value.int .u8 0] _).toList=_;rw[toList_madeCells_one,ar]
  congr 1
  omega
 have ay:∀W:World,(Instr.makeSlice 153 (iA (6+(s.size:Int))) (iA (6+(s.size:Int)))).run prog W=.ok (.slice (some (nA W 0)) (6+s.size) (6+s.size)) (W.alloc (.cells M 5)):=λW=>by
  have h:=run_make (P:=prog) W 153 5 i0 (.int .u8 0) underlying153 hi au .i64 .i64 (6+(s.size:Int)) (6+(s.size:Int)) (by omega) (by omega) (by rw[aq];omega) (by omega);rw[<-hM] at h;rw[h];have e:(6+(s.size:Int)).toNat=6+s.size:=by omega
  rw[e]
 have af:∀i,i<6->M[i]? =some (.int .u8 0):=λi h=>by
  rw[<-zkf,an,List.getElem?_replicate,zj2 (by omega)]
 have m0:=af 0 (by omega);have m1:=af 1 (by omega);have m2:=af 2 (by omega);have m3:=af 3 (by omega);have m4:=af 4 (by omega);have m5:=af 5 (by omega);have aB:=zc an;clear hM af au ar aq aj hi an;go_enter func101,ntmps101;go_wp2_with fail
 refine(yL 1 H R F V false s _ (by unfold maxLen;omega)).mono ?_;rw[hy.o];rintro e w1 ⟨rfl,ak⟩;have hc:=λo=>ak.cell (p:=(nA w o)) (by simp);have q0:w1.cell? (nA w 0)=some (iA 1):=by rw[hc];simp
 have q1:w1.cell? (nA w 1)=some (iA H):=by rw[hc];simp
 have q2:w1.cell? (nA w 2)=some (iA R):=by rw[hc];simp
 have q3:w1.cell? (nA w 3)=some (iA F):=by rw[hc];simp
 have q4:w1.cell? (nA w 4)=some (iA V):=by rw[hc];simp
 have q5:w1.cell? (nA w 5)=some (bA false):=by rw[hc];simp
 have q6:w1.cell? (nA w 6)=some (sA s):=by rw[hc];simp
 have av:w.heap.size<w1.heap.size:=by have:=ak.size;simp at this;omega
 have HB:=zc ak;clear hc ak;go_wp2;obtain⟨C,hC⟩:∃C,C=((((((M.setIfInBounds 0 (Value.int IntKind.u8 1)).setIfInBounds 1 (Value.int IntKind.u8 H)).setIfInBounds 2 (Value.int IntKind.u8 R)).setIfInBounds 3 (Value.int IntKind.u8 F)).setIfInBounds 4 (Value.int IntKind.u8 ((V+1)))).setIfInBounds 5 (Value.int IntKind.u8 s.size)):=⟨_,rfl⟩;rw[<-hC];have ax:C.toList=[Value.int .u8 1,.int .u8 H,.int .u8 R,.int .u8 F,.int .u8 ((V+1)),.int .u8 s.size]++List.replicate s.size (.int .u8 0):=by rw[hC];exact Vu M _ _ _ _ _ _ _ _ aB
 have HC:=zc ax;clear hC ax m0 m1 m2 m3 m4 m5 ay;obtain⟨W10,aa⟩:∃W,W=(w1.alloc (Obj.cells C 5)).alloc (Obj.cells #[Value.int IntKind.i64 1,Value.int IntKind.i64 H,Value.int IntKind.i64 R,Value.int IntKind.i64 F,Value.int IntKind.i64 V,Value.bool false,Value.string s] 57):=⟨_,rfl⟩;have ae:W10.heap[w1.heap.size]? =some (.cells C 5 (0,0)):=by rw[aa,zj9 _ _ _ (by simp)];exact zjC w1 _
 have r6:W10.cell? (nA w 6)=some (sA s):=by rw[aa];rw[zjH (w:=w1) (by rw[zj9 _ _ _ (by simp;omega),zj9 _ _ _ av])];exact q6
 have ah:BW w W10:=by
  rw[aa];exact(((bwA w).trans (HB.o.mono (by simp))).alloc (zjS av) _).alloc (by simp;omega) _
 have ai:=zc ah;rw[<-aa];clear aa ah q0 q1 q2 q3 q4 q5 q6;by_cases hn:s=zj4
 .have hn':(s=zj4)=True:=by simp[hn]
  have hz:s.size=0:=by rw[hn];rfl
  have az:=vZ W10.drew w1.heap.size C 1 H R F ((V+1)) s ae (by rw[HC.o,hz];simp[Lib.byteCells,hn]);have al:=Lib.run_copy_empty_string (P:=prog) W10.drew 153 9 3 5 (some (nA w1 0)) s.size s.size s underlying153 (by kernel_rfl) hz;clear hn hz
  go_region
  go_wp2;go_ret2;exact⟨rfl,ai.o.drew⟩
 have al:=Lib.run_copy_row_string (P:=prog) W10.drew 153 9 3 5 w1.heap.size 6 s.size s.size s C 5 underlying153 (by kernel_rfl) ae (zjA _) (by rw[<-Array.length_toList,HC.o];simp;omega);obtain⟨Y,hY⟩:∃Y,Y=(C.toList.take 6++Lib.byteCells s.data.toList++C.toList.drop (6+s.size)).toArray:=⟨_,rfl⟩;rw[<-hY] at al;have aw:Y.toList=[Value.int .u8 1,.int .u8 H,.int .u8 R,.int .u8 F,.int .u8 ((V+1)),.int .u8 s.size]++Lib.byteCells s.data.toList:=by
  rw[hY,HC.o,List.toList_toArray,List.drop_of_length_le (by simp;omega)];simp
 obtain⟨W11,ad⟩:=gen (W10.drew.setRow w1.heap.size Y);rw[<-ad] at al;have ag:W11.heap[w1.heap.size]? =some (.cells Y 5 (0,0)):=by rw[ad];exact setRow_heap _ _ C _ 5 (0,0) ae
 have az:=vZ W11 w1.heap.size Y 1 H R F ((V+1)) s ag aw;have ao:Hid (Below w.heap.size W10.drew W11):=by
  rw[ad];exact⟨rfl,rfl,rfl,by simp,λk hk=>setRow_other _ _ _ _ (by omega)⟩
 clear ad hY aw ag
 go_region
 go_wp2;go_ret2;exact⟨rfl,ai.o.drew.trans ao.o⟩
theorem QX(K H R F:Int)(s:zj5)(w:World)(hs:s.size<=24)(h1:0<=H)(h2:H<12)(h3:0<=R)(h4:R<=255)(h5:0<=F)(h6:F<8)(k0:2<=K)(k1:K<=3):
 Calls prog 101 #[.agg #[iA K,iA H,iA R,iA F,iA 0,bA false,sA s]] w λe w'=>e=.returned (.tuple #[sA (yM K H R F 0 s),.nilIface])/\BW w w':=by
 have hy:Hid (hasB K H R F 0 false s.size=true):=by unfold Hid;simp[hasB]<;>omega
 have k2:(K==1)=false:=by simp;omega
 obtain⟨i0,hi,aj⟩:=Option.map_eq_some_iff.1 Tryz.zg3;have ar:i0.size=1:=congrArg (·.1) aj;have aq:i0.bytes=1:=congrArg (·.2.1) aj;have au:i0.zero=some (.int .u8 0):=congrArg (·.2.2) aj;obtain⟨M,hM⟩:=gen (madeCells (Value.int .u8 0).cells (((6+(s.size:Int)).toNat)*i0.size));have an:M.toList=List.replicate (6+s.size) (.int .u8 0):=by
  rw[hM];show(madeCells #[Value.int .u8 0] _).toList=_;rw[toList_madeCells_one,ar]
  congr 1
  omega
 have ay:∀W:World,(Instr.makeSlice 153 (iA (6+(s.size:Int))) (iA (6+(s.size:Int)))).run prog W=.ok (.slice (some (nA W 0)) (6+s.size) (6+s.size)) (W.alloc (.cells M 5)):=λW=>by
  have h:=run_make (P:=prog) W 153 5 i0 (.int .u8 0) underlying153 hi au .i64 .i64 (6+(s.size:Int)) (6+(s.size:Int)) (by omega) (by omega) (by rw[aq];omega) (by omega);rw[<-hM] at h;rw[h];have e:(6+(s.size:Int)).toNat=6+s.size:=by omega
  rw[e]
 have af:∀i,i<6->M[i]? =some (.int .u8 0):=λi h=>by
  rw[<-zkf,an,List.getElem?_replicate,zj2 (by omega)]
 have m0:=af 0 (by omega);have m1:=af 1 (by omega);have m2:=af 2 (by omega);have m3:=af 3 (by omega);have m4:=af 4 (by omega);have m5:=af 5 (by omega);have aB:=zc an;clear hM af au ar aq aj hi an;go_enter func101,ntmps101;go_wp2_with fail
 refine(yL K H R F 0 false s _ (by unfold maxLen;omega)).mono ?_;rw[hy.o];rintro e w1 ⟨rfl,ak⟩;have hc:=λo=>ak.cell (p:=(nA w o)) (by simp);have q0:w1.cell? (nA w 0)=some (iA K):=by rw[hc];simp
 have q1:w1.cell? (nA w 1)=some (iA H):=by rw[hc];simp
 have q2:w1.cell? (nA w 2)=some (iA R):=by rw[hc];simp
 have q3:w1.cell? (nA w 3)=some (iA F):=by rw[hc];simp
 have q4:w1.cell? (nA w 4)=some (iA 0):=by rw[hc];simp
 have q5:w1.cell? (nA w 5)=some (bA false):=by rw[hc];simp
 have q6:w1.cell? (nA w 6)=some (sA s):=by rw[hc];simp
 have av:w.heap.size<w1.heap.size:=by have:=ak.size;simp at this;omega
 have HB:=zc ak;clear hc ak;go_wp2;obtain⟨C,hC⟩:∃C,C=((((((M.setIfInBounds 0 (Value.int IntKind.u8 K)).setIfInBounds 1 (Value.int IntKind.u8 H)).setIfInBounds 2 (Value.int IntKind.u8 R)).setIfInBounds 3 (Value.int IntKind.u8 F)).setIfInBounds 4 (Value.int IntKind.u8 (0))).setIfInBounds 5 (Value.int IntKind.u8 s.size)):=⟨_,rfl⟩;rw[<-hC];have ax:C.toList=[Value.int .u8 K,.int .u8 H,.int .u8 R,.int .u8 F,.int .u8 (0),.int .u8 s.size]++List.replicate s.size (.int .u8 0):=by rw[hC];exact Vu M _ _ _ _ _ _ _ _ aB
 have HC:=zc ax;clear hC ax m0 m1 m2 m3 m4 m5 ay;obtain⟨W10,aa⟩:∃W,W=(w1.alloc (Obj.cells C 5)).alloc (Obj.cells #[Value.int IntKind.i64 K,Value.int IntKind.i64 H,Value.int IntKind.i64 R,Value.int IntKind.i64 F,Value.int IntKind.i64 0,Value.bool false,Value.string s] 57):=⟨_,rfl⟩;have ae:W10.heap[w1.heap.size]? =some (.cells C 5 (0,0)):=by rw[aa,zj9 _ _ _ (by simp)];exact zjC w1 _
 have r6:W10.cell? (nA w 6)=some (sA s):=by rw[aa];rw[zjH (w:=w1) (by rw[zj9 _ _ _ (by simp;omega),zj9 _ _ _ av])];exact q6
 have ah:BW w W10:=by
  rw[aa];exact(((bwA w).trans (HB.o.mono (by simp))).alloc (zjS av) _).alloc (by simp;omega) _
 have ai:=zc ah;rw[<-aa];clear aa ah q0 q1 q2 q3 q4 q5 q6;by_cases hn:s=zj4
 .have hn':(s=zj4)=True:=by simp[hn]
  have hz:s.size=0:=by rw[hn];rfl
  have az:=vZ W10.drew w1.heap.size C K H R F (0) s ae (by rw[HC.o,hz];simp[Lib.byteCells,hn]);have al:=Lib.run_copy_empty_string (P:=prog) W10.drew 153 9 3 5 (some (nA w1 0)) s.size s.size s underlying153 (by kernel_rfl) hz;clear hn hz
  go_region
  go_wp2;go_ret2;exact⟨rfl,ai.o.drew⟩
 have al:=Lib.run_copy_row_string (P:=prog) W10.drew 153 9 3 5 w1.heap.size 6 s.size s.size s C 5 underlying153 (by kernel_rfl) ae (zjA _) (by rw[<-Array.length_toList,HC.o];simp;omega);obtain⟨Y,hY⟩:∃Y,Y=(C.toList.take 6++Lib.byteCells s.data.toList++C.toList.drop (6+s.size)).toArray:=⟨_,rfl⟩;rw[<-hY] at al;have aw:Y.toList=[Value.int .u8 K,.int .u8 H,.int .u8 R,.int .u8 F,.int .u8 (0),.int .u8 s.size]++Lib.byteCells s.data.toList:=by
  rw[hY,HC.o,List.toList_toArray,List.drop_of_length_le (by simp;omega)];simp
 obtain⟨W11,ad⟩:=gen (W10.drew.setRow w1.heap.size Y);rw[<-ad] at al;have ag:W11.heap[w1.heap.size]? =some (.cells Y 5 (0,0)):=by rw[ad];exact setRow_heap _ _ C _ 5 (0,0) ae
 have az:=vZ W11 w1.heap.size Y K H R F (0) s ag aw;have ao:Hid (Below w.heap.size W10.drew W11):=by
  rw[ad];exact⟨rfl,rfl,rfl,by simp,λk hk=>setRow_other _ _ _ _ (by omega)⟩
 clear ad hY aw ag
 go_region
 go_wp2;go_ret2;exact⟨rfl,ai.o.drew.trans ao.o⟩
theorem QW(K H R F:Int)(s:zj5)(w:World)(hs:s.size<=24)(h1:0<=H)(h2:H<12)(h3:0<=R)(h4:R<=255)(h5:0<=F)(h6:F<8)(k0:2<=K)(k1:K<=3)(hz0:s.size=0):
 Calls prog 101 #[.agg #[iA K,iA H,iA R,iA F,iA 0,bA true,sA s]] w λe w'=>e=.returned (.tuple #[sA (yM K H R F 1 s),.nilIface])/\BW w w':=by
 have hy:Hid (hasB K H R F 0 true s.size=true):=by
  unfold Hid;rw[<-Gb K H R F s.size h1 h2 h3 h4 h5 h6 hs (by omega)];simpa using hz0
 clear hz0;have k2:(K==1)=false:=by simp;omega
 obtain⟨i0,hi,aj⟩:=Option.map_eq_some_iff.1 Tryz.zg3;have ar:i0.size=1:=congrArg (·.1) aj;have aq:i0.bytes=1:=congrArg (·.2.1) aj;have hz0:i0.zero=some (.int .u8 0):=congrArg (·.2.2) aj;obtain⟨M,hM⟩:=gen (madeCells (Value.int .u8 0).cells (((6+(s.size:Int)).toNat)*i0.size));have an:M.toList=List.replicate (6+s.size) (.int .u8 0):=by
  rw[hM];show(madeCells #[Value.int .u8 0] _).toList=_;rw[toList_madeCells_one,ar]
  congr 1
  omega
 have ax:∀W:World,(Instr.makeSlice 153 (iA (6+(s.size:Int))) (iA (6+(s.size:Int)))).run prog W=.ok (.slice (some (nA W 0)) (6+s.size) (6+s.size)) (W.alloc (.cells M 5)):=λW=>by
  have h:=run_make (P:=prog) W 153 5 i0 (.int .u8 0) underlying153 hi hz0 .i64 .i64 (6+(s.size:Int)) (6+(s.size:Int)) (by omega) (by omega) (by rw[aq];omega) (by omega);rw[<-hM] at h;rw[h];have e:(6+(s.size:Int)).toNat=6+s.size:=by omega
  rw[e]
 have af:∀i,i<6->M[i]? =some (.int .u8 0):=λi h=>by
  rw[<-zkf,an,List.getElem?_replicate,zj2 (by omega)]
 have m0:=af 0 (by omega);have m1:=af 1 (by omega);have m2:=af 2 (by omega);have m3:=af 3 (by omega);have m4:=af 4 (by omega);have m5:=af 5 (by omega);have az:=zc an;clear hM af hz0 ar aq aj hi an;go_enter func101,ntmps101;go_wp2_with fail
 refine(yL K H R F 0 true s _ (by unfold maxLen;omega)).mono ?_;rw[hy.o];rintro e w1 ⟨rfl,ak⟩;have hc:=λo=>ak.cell (p:=(nA w o)) (by simp);have q0:w1.cell? (nA w 0)=some (iA K):=by rw[hc];simp
 have q1:w1.cell? (nA w 1)=some (iA H):=by rw[hc];simp
 have q2:w1.cell? (nA w 2)=some (iA R):=by rw[hc];simp
 have q3:w1.cell? (nA w 3)=some (iA F):=by rw[hc];simp
 have q4:w1.cell? (nA w 4)=some (iA 0):=by rw[hc];simp
 have q5:w1.cell? (nA w 5)=some (bA true):=by rw[hc];simp
 have q6:w1.cell? (nA w 6)=some (sA s):=by rw[hc];simp
 have au:w.heap.size<w1.heap.size:=by have:=ak.size;simp at this;omega
 have HB:=zc ak;clear hc ak;go_wp2;obtain⟨C,hC⟩:∃C,C=((((((M.setIfInBounds 0 (Value.int IntKind.u8 K)).setIfInBounds 1 (Value.int IntKind.u8 H)).setIfInBounds 2 (Value.int IntKind.u8 R)).setIfInBounds 3 (Value.int IntKind.u8 F)).setIfInBounds 4 (Value.int IntKind.u8 (1))).setIfInBounds 5 (Value.int IntKind.u8 s.size)):=⟨_,rfl⟩;rw[<-hC];have aw:C.toList=[Value.int .u8 K,.int .u8 H,.int .u8 R,.int .u8 F,.int .u8 (1),.int .u8 s.size]++List.replicate s.size (.int .u8 0):=by rw[hC];exact Vu M _ _ _ _ _ _ _ _ az
 have HC:=zc aw;clear hC aw m0 m1 m2 m3 m4 m5 ax;obtain⟨W10,aa⟩:∃W,W=(w1.alloc (Obj.cells C 5)).alloc (Obj.cells #[Value.int IntKind.i64 K,Value.int IntKind.i64 H,Value.int IntKind.i64 R,Value.int IntKind.i64 F,Value.int IntKind.i64 0,Value.bool true,Value.string s] 57):=⟨_,rfl⟩;have ae:W10.heap[w1.heap.size]? =some (.cells C 5 (0,0)):=by rw[aa,zj9 _ _ _ (by simp)];exact zjC w1 _
 have r6:W10.cell? (nA w 6)=some (sA s):=by rw[aa];rw[zjH (w:=w1) (by rw[zj9 _ _ _ (by simp;omega),zj9 _ _ _ au])];exact q6
 have ah:BW w W10:=by
  rw[aa];exact(((bwA w).trans (HB.o.mono (by simp))).alloc (zjS au) _).alloc (by simp;omega) _
 have ai:=zc ah;rw[<-aa];clear aa ah q0 q1 q2 q3 q4 q5 q6;by_cases hn:s=zj4
 .have hn':(s=zj4)=True:=by simp[hn]
  have hz:s.size=0:=by rw[hn];rfl
  have ay:=vZ W10.drew w1.heap.size C K H R F (1) s ae (by rw[HC.o,hz];simp[Lib.byteCells,hn]);have al:=Lib.run_copy_empty_string (P:=prog) W10.drew 153 9 3 5 (some (nA w1 0)) s.size s.size s underlying153 (by kernel_rfl) hz;clear hn hz
  go_region
  go_wp2;go_ret2;exact⟨rfl,ai.o.drew⟩
 have al:=Lib.run_copy_row_string (P:=prog) W10.drew 153 9 3 5 w1.heap.size 6 s.size s.size s C 5 underlying153 (by kernel_rfl) ae (zjA _) (by rw[<-Array.length_toList,HC.o];simp;omega);obtain⟨Y,hY⟩:∃Y,Y=(C.toList.take 6++Lib.byteCells s.data.toList++C.toList.drop (6+s.size)).toArray:=⟨_,rfl⟩;rw[<-hY] at al;have av:Y.toList=[Value.int .u8 K,.int .u8 H,.int .u8 R,.int .u8 F,.int .u8 (1),.int .u8 s.size]++Lib.byteCells s.data.toList:=by
  rw[hY,HC.o,List.toList_toArray,List.drop_of_length_le (by simp;omega)];simp
 obtain⟨W11,ad⟩:=gen (W10.drew.setRow w1.heap.size Y);rw[<-ad] at al;have ag:W11.heap[w1.heap.size]? =some (.cells Y 5 (0,0)):=by rw[ad];exact setRow_heap _ _ C _ 5 (0,0) ae
 have ay:=vZ W11 w1.heap.size Y K H R F (1) s ag av;have ao:Hid (Below w.heap.size W10.drew W11):=by
  rw[ad];exact⟨rfl,rfl,rfl,by simp,λk hk=>setRow_other _ _ _ _ (by omega)⟩
 clear ad hY av ag
 go_region
 go_wp2;go_ret2;exact⟨rfl,ai.o.drew.trans ao.o⟩
def gM(b:Addr)(ok:Bool):Value:=if ok=true then .nilIface else eA b
theorem ZB{a b:zj5}{u v:Value}(h:a=b)(h':u=v):Ending.returned (.tuple #[sA a,u])=.returned (.tuple #[sA b,v]):=by rw[h,h']
theorem KR(K H R F V:Int)(nl:Bool)(s:zj5)(b:Addr)(w:World)(hs:s.size<=maxLen)(hb:w.cell? (aA 2 0)=some (eA b))(h:hasB K H R F V nl s.size=false):
 Calls prog 101 #[.agg #[iA K,iA H,iA R,iA F,iA V,bA nl,sA s]] w λe w'=>e=.returned (.tuple #[sA ⟨#[]⟩,eA b])/\BW w w':=by
 have HH:=zc h;have ad:=zjI _ _ hb;clear h;go_enter func101,ntmps101;go_wp2_with fail
 refine(yL K H R F V nl s _ hs).mono ?_;rw[HH.o];rintro e w1 ⟨rfl,aa⟩;have hc:w1.cell? (aA 2 0)=some (eA b):=by
  rw[aa.cell (p:=(aA 2 0)) (by simp at ad ⊢;omega)];exact cell?_alloc_old _ hb
 have HB:=zc aa;clear aa;go_wp2;go_quiet (fail)
 go_wp2;go_ret2;exact⟨rfl,below_drewN ((bwA w).trans (HB.o.mono (by simp))) _⟩
theorem xa(K H R F V:Int)(nl:Bool)(s:zj5)(b:Addr)(w:World)(hs:s.size<=maxLen)(hb:w.cell? (aA 2 0)=some (eA b)):
 Calls prog 101 #[.agg #[iA K,iA H,iA R,iA F,iA V,bA nl,sA s]] w λe w'=>e=.returned (.tuple #[sA (Gm K H R F V nl s),gM b (hasB K H R F V nl s.size)])/\BW w w':=by
 by_cases h:hasB K H R F V nl s.size=true
 .have h':=zjP h;obtain⟨h1,h2,h3,h4,h5,h6,h7,h8⟩:=h';rcases h8 with⟨rfl,rfl,v1,v2⟩|⟨hk,rfl,hn⟩
  .refine (QY H R F V s w h7 h1 h2 h3 h4 h5 h6 v1 v2).mono ?_
   rintro e w' ⟨rfl,hB⟩;exact⟨ZB (by rw[ZI h];rfl) (by rw[h];rfl),hB⟩
  have aa:K≠1:=by omega
  cases nl
  .refine (QX K H R F s w h7 h1 h2 h3 h4 h5 h6 (by omega) (by omega)).mono ?_
   rintro e w' ⟨rfl,hB⟩;exact⟨ZB (by rw[ZI h];simp[jh,aa]) (by rw[h];rfl),hB⟩
  refine(QW K H R F s w h7 h1 h2 h3 h4 h5 h6 (by omega) (by omega) (by simpa using hn)).mono ?_;rintro e w' ⟨rfl,hB⟩;exact⟨ZB (by rw[ZI h];simp[jh,aa]) (by rw[h];rfl),hB⟩
 have h':hasB K H R F V nl s.size=false:=by simpa using h
 refine(KR K H R F V nl s b w hs hb h').mono ?_;rintro e w' ⟨rfl,hB⟩;exact⟨ZB (zbZ h').symm (by rw[h'];rfl),hB⟩
theorem ZP(K H R F V:Int)(nl:Bool)(s:zj5)(b:Addr)(w:World)(hs:s.size<=maxLen)(hb:w.cell? (aA 2 0)=some (eA b)):
 Calls prog 50 #[.agg #[iA K,iA H,iA R,iA F,iA V,bA nl,sA s]] w λe w'=>e=.returned (.tuple #[sA (Gm K H R F V nl s),gM b (hasB K H R F V nl s.size)])/\BW w w':=by
 have aa:=λo=>cell?_alloc_old o hb;go_enter func50,ntmps50;go_wp2_with fail
 refine(xa K H R F V nl s b _ hs (aa _)).mono ?_;rintro e w1 ⟨rfl,hB⟩;go_wp2;go_ret2;exact⟨rfl,(bwA w).trans (hB.mono (by simp))⟩
section
variable{w:World}{g B:Nat}{K H R F V k0 k1 k2 k3 k4 k5:Int}{nl:Bool}{s:zj5}{b:Addr}
theorem zfu{W w1:World}(hb:BW W w1):(∀b o,b<W.heap.size->w1.cell? (aA b o)=W.cell? (aA b o))/\(∀b o,b<W.heap.size->w1.frozen? (aA b o)=W.frozen? (aA b o)):=
 ⟨λb o h=>hb.cell (p:=(aA b o)) h,λb o h=>hb.frozen (p:=(aA b o)) h⟩
def zR(w:World)(g:Nat)(K H R F V:Int)(nl:Bool)(s:zj5):Prop:=
 w.heap[g]? =some (.cells #[iA K,iA H,iA R,iA F,iA V,bA nl,sA s] 57 (0,0))
theorem zR.alloc(w:World)(K H R F V:Int)(nl:Bool)(s:zj5):zR (w.alloc (.cells #[iA K,iA H,iA R,iA F,iA V,bA nl,sA s] 57)) w.heap.size K H R F V nl s:=by
 unfold zR World.alloc;simp
theorem zR.zi3(w:World)(o:Obj)(K H R F V:Int)(nl:Bool)(s:zj5):zR ((w.alloc o).alloc (.cells #[iA K,iA H,iA R,iA F,iA V,bA nl,sA s] 57)) (w.heap.size+1) K H R F V nl s:=by
 have h:=zR.alloc (w.alloc o) K H R F V nl s;rw[World.size_alloc] at h;exact h
theorem zR.lt(h:zR w g K H R F V nl s):g<w.heap.size:=by
 rcases Nat.lt_or_ge g w.heap.size with h'|h'
 .exact h'
 unfold zR at h;simp[Array.getElem?_eq_none h'] at h
theorem zR.later{w':World}(h:zR w g K H R F V nl s)(hb:Below B w w')(hg:g<B):zR w' g K H R F V nl s:=by
 unfold zR at h ⊢;rw[hb.block g hg];exact h
theorem zR.drew(h:zR w g K H R F V nl s):zR w.drew g K H R F V nl s:=h
theorem zR.cells(h:zR w g K H R F V nl s):
 w.cell? (aA g 0)=some (iA K)/\w.cell? (aA g 1)=some (iA H)/\w.cell? (aA g 2)=some (iA R)/\w.cell? (aA g 3)=some (iA F)/\w.cell? (aA g 4)=some (iA V)/\w.cell? (aA g 5)=some (bA nl)/\w.cell? (aA g 6)=some (sA s)/\
 w.frozen? (aA g 0)=false/\w.frozen? (aA g 1)=false/\w.frozen? (aA g 2)=false/\w.frozen? (aA g 3)=false/\w.frozen? (aA g 4)=false/\w.frozen? (aA g 5)=false/\w.frozen? (aA g 6)=false:=by
 unfold zR at h;simp[World.cell?,World.frozen?,h]
theorem zR.zjq(h:zR w g K H R F V nl s)(V':Int):zR (w.setCell (aA g 4) (iA V')) g K H R F V' nl s:=by
 unfold zR at h ⊢;simp[World.setCell,Array.getElem?_modify,h]
theorem zR.zi9(h:zR w g K H R F V nl s)(nl':Bool):zR (w.setCell (aA g 5) (bA nl')) g K H R F V nl' s:=by
 unfold zR at h ⊢;simp[World.setCell,Array.getElem?_modify,h]
theorem zR.setOther(h:zR w g K H R F V nl s)(a:Addr)(v:Value)(ha:g≠a.block):zR (w.setCell a v) g K H R F V nl s:=by
 unfold zR at h ⊢;rw[Below.heap_setCell _ _ _ _ ha];exact h
theorem zR.ziR(h:zR w g K H R F V nl s)(K' H' R' F' V':Int)(nl':Bool)(s':zj5):
 zR (((((((w.setCell (aA g 0) (iA K')).setCell (aA g 1) (iA H')).setCell (aA g 2) (iA R')).setCell (aA g 3) (iA F')).setCell (aA g 4) (iA V')).setCell (aA g 5) (bA nl')).setCell (aA g 6) (sA s')) g K' H' R' F' V' nl' s':=by
 unfold zR at h ⊢;simp[World.setCell,Array.getElem?_modify,h]
theorem jm{w0:World}(h:Below B w0 w)(hg:B<=g)(v0 v1 v2 v3 v4 v5 v6:Value):
 Below B w0 (((((((w.setCell (aA g 0) v0).setCell (aA g 1) v1).setCell (aA g 2) v2).setCell (aA g 3) v3).setCell (aA g 4) v4).setCell (aA g 5) v5).setCell (aA g 6) v6):=
 ((((((h.setCell (p:=(aA g 0)) hg _).setCell (p:=(aA g 1)) hg _).setCell (p:=(aA g 2)) hg _).setCell (p:=(aA g 3)) hg _).setCell (p:=(aA g 4)) hg _).setCell (p:=(aA g 5)) hg _).setCell (p:=(aA g 6)) hg _
theorem zR.zhB{g':Nat}(h:zR w g K H R F V nl s)(hg:g≠g')(v0 v1 v2 v3 v4 v5 v6:Value):
 zR (((((((w.setCell (aA g' 0) v0).setCell (aA g' 1) v1).setCell (aA g' 2) v2).setCell (aA g' 3) v3).setCell (aA g' 4) v4).setCell (aA g' 5) v5).setCell (aA g' 6) v6) g K H R F V nl s:=
 ((((((h.setOther _ _ hg).setOther _ _ hg).setOther _ _ hg).setOther _ _ hg).setOther _ _ hg).setOther _ _ hg).setOther _ _ hg
theorem zbS(h:Zh k0 k1 k2 k3 k4 k5 s.size=false):
 Ending.returned (.tuple #[.agg mA,eA b])=.returned (.tuple #[zeC k0 k1 k2 k3 k4 k5 s,gM b (Zh k0 k1 k2 k3 k4 k5 s.size)]):=by
 unfold zeC gM;rw[h,zj3 (by simp),zj3 (by simp)]
theorem zdr(h:Zh k0 k1 k2 k3 k4 k5 s.size=true)(hv:vOf k0 k4=V)(hn:nlOf k0 k4=nl):
 Ending.returned (.tuple #[.agg #[iA k0,iA k1,iA k2,iA k3,iA V,bA nl,sA s],.nilIface])=.returned (.tuple #[zeC k0 k1 k2 k3 k4 k5 s,gM b (Zh k0 k1 k2 k3 k4 k5 s.size)]):=by
 unfold zeC gM;rw[h,zj2 rfl,zj2 rfl,hv,hn]
theorem vG(s:zj5)(w:World)(h:s.size<=281474976710656):
 Calls prog 82 #[sA s] w λe w'=>e=.returned (sA s)/\BW w w':=by
 go_enter func82,ntmps82;go_wp2_with (go_at_call 129;refine(Tryz.stringslite_Clone s _ h).mono ?_;rintro e w1 ⟨rfl,hb⟩)
 go_ret;exact⟨rfl,hb⟩
end
theorem Tryz.zid:(prog.info? 57).map (·.size)=some 7:=by kernel_rfl
theorem Qt(K H R F V:Int)(nl:Bool)(s:zj5)(b:Addr)(w:World)(hs:s.size<=maxLen)(hb:w.cell? ⟨2,0,none⟩=some (.iface 294 (.pointer (some b)))):
 Calls prog 43 #[.agg #[.int .i64 K,.int .i64 H,.int .i64 R,.int .i64 F,.int .i64 V,.bool nl,.string s]] w λe w'=>e=.returned (.string (Gm K H R F V nl s))/\Below w.heap.size w w':=by
 obtain⟨HQ,HC⟩:=zn (zjC w (.cells #[.int .i64 K,.int .i64 H,.int .i64 R,.int .i64 F,.int .i64 V,.bool nl,.string s] 57)) (ZP K H R F V nl s b (w.alloc (.cells #[.int .i64 K,.int .i64 H,.int .i64 R,.int .i64 F,.int .i64 V,.bool nl,.string s] 57)) hs (cell?_alloc_old _ hb));clear hs hb;by_cases hh:hasB K H R F V nl s.size=true;focus
  rw[hh] at HC;unfold gM at HC;simp only[if_true] at HC
 rotate_left;focus
  have aa:hasB K H R F V nl s.size=false:=by simpa using hh
  rw[aa] at HC;unfold gM at HC;simp only[Bool.false_eq_true,if_false] at HC;rw[zbZ aa] at HC ⊢
 rotate_left;all_goals
  go_enter func43,ntmps43;go_wp2_with (first|(refine zkb rfl 57 _ rfl w.heap.size rfl 57 #[.int .i64 K,.int .i64 H,.int .i64 R,.int .i64 F,.int .i64 V,.bool nl,.string s] (0,0) _ HQ underlying57 rfl Tryz.zid ?_)|fail)
  refine HC.o.mono ?_;rintro e w2 ⟨rfl,ad⟩;have ae:Hid (Below w.heap.size w w2):=((zjB _ w).alloc (zjA _) _).trans (ad.mono (by simp));clear ad;go_wp2;go_ret;exact⟨rfl,ae⟩

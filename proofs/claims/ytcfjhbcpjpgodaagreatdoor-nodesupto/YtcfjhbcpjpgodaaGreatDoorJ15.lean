import Derived.Test.YtcfjhbcpjpgodaaGreatDoorJ7
import Derived.Test.YtcfjhbcpjpgodaaGreatDoorRefEnc3
import Derived.BigQuiet
import Derived.Test.YtcfjhbcpjpgodaaGreatDoorJ14
namespace Go.Proofs.YtcfjhbcpjpgodaaGreatDoor
open Go.RowKit
set_option maxRecDepth 100000
set_option maxHeartbeats 0
set_option linter.all false
section
open Proofs.Tryz
theorem yx(K H R F V:Int)(nl:Bool)(s:zgW)(w:World)(hs:s.size<=maxLen)(hV:V<=9223372036854775807)(hU: -9223372036854775808<=V):
 Calls prog 58 #[.agg #[iA K,iA H,iA R,iA F,iA V,bA nl,sA s]] w λe w'=>e=.returned (.tuple #[sA (encS K H R F V nl s),bA (hasB K H R F V nl s.size)])/\BW w w':=by
 by_cases h:K<1\/3<K\/H<0\/12<=H\/R<0\/255<R\/F<0\/8<=F\/24<(s.size:Int)
 .exact K3 K H R F V nl s w hs h
 by_cases hk:K=1
 .subst hk;exact Y7 H R F V nl s w (by omega) (by omega) (by omega) (by omega) (by omega) (by omega) (by omega) hV hU
 exact Y6 K H R F V nl s w (by omega) (by omega) (by omega) (by omega) (by omega) (by omega) (by omega) (by omega)
variable{k0 k1 k2 k3 k4 k5:Int}{s:zgW}
theorem Zq(t:zgW)(w:World)(h:t.size<6):
 Calls prog 70 #[sA t] w λe w'=>e=.returned (.tuple #[.agg mA,bA false])/\BW w w':=by
 have h':(t.size:Int)<6:=by omega
 go_enter func70,ntmps70;go_wp2;exact zgJ (v:=.tuple #[.agg mA,bA false]) (by simp[results,results70,go_sem]) rfl ⟨rfl,bwA _⟩
theorem Kn{n:Nat}(h:hasB k0 k1 k2 k3 (vOf k0 k4) (nlOf k0 k4) n=false):qB k0 k1 k2 k3 k4 k5 n=false:=by
 unfold qB;rw[h];rfl
theorem YL(h:qB k0 k1 k2 k3 k4 k5 s.size=false):
 Ending.returned (.tuple #[.agg mA,bA false])=.returned (.tuple #[QA k0 k1 k2 k3 k4 k5 s,bA (qB k0 k1 k2 k3 k4 k5 s.size)]):=by
 unfold QA;rw[h,zgU (by simp)]
theorem Jy{V:Int}{nl:Bool}(h:qB k0 k1 k2 k3 k4 k5 s.size=true)(hv:vOf k0 k4=V)(hn:nlOf k0 k4=nl):
 Ending.returned (.tuple #[.agg #[iA k0,iA k1,iA k2,iA k3,iA V,bA nl,sA s],bA true])=.returned (.tuple #[QA k0 k1 k2 k3 k4 k5 s,bA (qB k0 k1 k2 k3 k4 k5 s.size)]):=by
 unfold QA;rw[h,zgT rfl,hv,hn]
end
section
open Proofs.Tryz
theorem Jf(t:zgW)(k1 k2 k3 k4 k5:Int)(s:zgW)(w:World)(hs:t.size<=maxLen)(hp:Parts t 1 k1 k2 k3 k4 k5 s):
 Calls prog 70 #[sA t] w λe w'=>e=.returned (.tuple #[QA 1 k1 k2 k3 k4 k5 s,bA (qB 1 k1 k2 k3 k4 k5 s.size)])/\BW w w':=by
 have a0:=hp.at0;have a1:=hp.at1;have a2:=hp.at2;have a3:=hp.at3;have a4:=hp.at4;have ar:=hp.rest;have b0:=hp.b0;have b1:=hp.b1;have b2:=hp.b2;have b3:=hp.b3;have b4:=hp.b4;have EV:Hid (vOf 1 k4=k4-1):=by unfold Hid vOf;rw[zgT rfl]
 have EN:Hid (nlOf 1 k4=false):=by unfold Hid nlOf;rw[zgT rfl]
 have h6:¬(t.size:Int)<6:=by have:=hp.size;omega
 have HP:=zc hp;have HS:Hid (s.size<=maxLen):=by have:=hp.size;unfold Hid;omega
 clear hp hs;go_enter func70,ntmps70;go_wp2
 go_region
 go_wp2_with fail
 refine(yx 1 k1 k2 k3 (k4-1) false s _ HS.o (by omega) (by omega)).mono ?_;rintro e w1 ⟨rfl,aa⟩;have p0:w1.cell? (nA w 0)=some (iA 0):=by rw[aa.cell (p:=(nA w 0)) (by simp;omega)];simp
 have p1:w1.cell? (nA w 1)=some (iA 0):=by rw[aa.cell (p:=(nA w 1)) (by simp;omega)];simp
 have p2:w1.cell? (nA w 2)=some (iA 0):=by rw[aa.cell (p:=(nA w 2)) (by simp;omega)];simp
 have p3:w1.cell? (nA w 3)=some (iA 0):=by rw[aa.cell (p:=(nA w 3)) (by simp;omega)];simp
 have p4:w1.cell? (nA w 4)=some (iA 0):=by rw[aa.cell (p:=(nA w 4)) (by simp;omega)];simp
 have p5:w1.cell? (nA w 5)=some (bA false):=by rw[aa.cell (p:=(nA w 5)) (by simp;omega)];simp
 have p6:w1.cell? (nA w 6)=some (sA ⟨#[]⟩):=by rw[aa.cell (p:=(nA w 6)) (by simp;omega)];simp
 have f0:w1.frozen? (nA w 0)=false:=by rw[aa.frozen (p:=(nA w 0)) (by simp;omega)];simp
 have f1:w1.frozen? (nA w 1)=false:=by rw[aa.frozen (p:=(nA w 1)) (by simp;omega)];simp
 have f2:w1.frozen? (nA w 2)=false:=by rw[aa.frozen (p:=(nA w 2)) (by simp;omega)];simp
 have f3:w1.frozen? (nA w 3)=false:=by rw[aa.frozen (p:=(nA w 3)) (by simp;omega)];simp
 have f4:w1.frozen? (nA w 4)=false:=by rw[aa.frozen (p:=(nA w 4)) (by simp;omega)];simp
 have f5:w1.frozen? (nA w 5)=false:=by rw[aa.frozen (p:=(nA w 5)) (by simp;omega)];simp
 have f6:w1.frozen? (nA w 6)=false:=by rw[aa.frozen (p:=(nA w 6)) (by simp;omega)];simp
 have r0:w1.cell? (aA (w.heap.size+1) 0)=some (iA 1):=by rw[aa.cell (p:=(aA (w.heap.size+1) 0)) (by simp)];simp
 have r1:w1.cell? (aA (w.heap.size+1) 1)=some (iA k1):=by rw[aa.cell (p:=(aA (w.heap.size+1) 1)) (by simp)];simp
 have r2:w1.cell? (aA (w.heap.size+1) 2)=some (iA k2):=by rw[aa.cell (p:=(aA (w.heap.size+1) 2)) (by simp)];simp
 have r3:w1.cell? (aA (w.heap.size+1) 3)=some (iA k3):=by rw[aa.cell (p:=(aA (w.heap.size+1) 3)) (by simp)];simp
 have r4:w1.cell? (aA (w.heap.size+1) 4)=some (iA (k4-1)):=by rw[aa.cell (p:=(aA (w.heap.size+1) 4)) (by simp)];simp
 have r5:w1.cell? (aA (w.heap.size+1) 5)=some (bA false):=by rw[aa.cell (p:=(aA (w.heap.size+1) 5)) (by simp)];simp
 have r6:w1.cell? (aA (w.heap.size+1) 6)=some (sA s):=by rw[aa.cell (p:=(aA (w.heap.size+1) 6)) (by simp)];simp
 have HB:Hid (BW w w1):=((bwA w).alloc (by simp) _).drew.trans (aa.mono (by simp;omega));clear aa;cases hX:hasB 1 k1 k2 k3 (k4-1) false s.size with
 |false=>
  rw[yy hX];have hd:qB 1 k1 k2 k3 k4 k5 s.size=false:=Kn (by rw[EV.o,EN.o];exact hX);have HD:=zc hd;clear hX hd;go_wp2;exact zgJ (v:=.tuple #[.agg mA,bA false]) (by simp[results,results70,go_sem,p0,p1,p2,p3,p4,p5,p6]) rfl ⟨YL HD.o,HB.o.setCell (zgp _) _ |>.setCell (zgp _) _ |>.setCell (zgp _) _ |>.setCell (zgp _) _ |>.setCell (zgp _) _ |>.setCell (zgp _) _ |>.setCell (zgp _) _⟩
 |true=>
  have hf:=xZ HP (by rw[EV.o,EN.o];exact hX);rw[EV.o,EN.o] at hf;by_cases he:encS 1 k1 k2 k3 (k4-1) false s=t
  .have HD:=zc (hf.1 he);rw[he];clear hf he hX;go_wp2;exact zgJ (v:=.tuple #[.agg #[iA 1,iA k1,iA k2,iA k3,iA (k4-1),bA false,sA s],bA true]) (by simp[results,results70,go_sem,p0,p1,p2,p3,p4,p5,p6]) rfl ⟨Jy HD.o EV.o EN.o,HB.o.setCell (zgp _) _ |>.setCell (zgp _) _ |>.setCell (zgp _) _ |>.setCell (zgp _) _ |>.setCell (zgp _) _ |>.setCell (zgp _) _ |>.setCell (zgp _) _⟩
  have hd:qB 1 k1 k2 k3 k4 k5 s.size=false:=by
   cases hh:qB 1 k1 k2 k3 k4 k5 s.size
   .rfl
   exact absurd (hf.2 hh) he
  have HD:=zc hd;generalize encS 1 k1 k2 k3 (k4-1) false s=g at he;have ab:(g.toList==t.toList)=false:=by
   rw[ByteArray.toList_eq,ByteArray.toList_eq];simpa using λe=>he (ByteArray.ext (Array.toList_inj.1 e))
  clear hf he hX hd;go_wp2;exact zgJ (v:=.tuple #[.agg mA,bA false]) (by simp[results,results70,go_sem,p0,p1,p2,p3,p4,p5,p6]) rfl ⟨YL HD.o,HB.o.setCell (zgp _) _ |>.setCell (zgp _) _ |>.setCell (zgp _) _ |>.setCell (zgp _) _ |>.setCell (zgp _) _ |>.setCell (zgp _) _ |>.setCell (zgp _) _⟩
theorem Je(t:zgW)(k0 k1 k2 k3 k5:Int)(s:zgW)(w:World)(hs:t.size<=maxLen)(hp:Parts t k0 k1 k2 k3 1 k5 s)(hk:k0≠1):
 Calls prog 70 #[sA t] w λe w'=>e=.returned (.tuple #[QA k0 k1 k2 k3 1 k5 s,bA (qB k0 k1 k2 k3 1 k5 s.size)])/\BW w w':=by
 have a0:=hp.at0;have a1:=hp.at1;have a2:=hp.at2;have a3:=hp.at3;have a4:=hp.at4;have ar:=hp.rest;have b0:=hp.b0;have b1:=hp.b1;have b2:=hp.b2;have b3:=hp.b3;have b4:=hp.b4;have EV:Hid (vOf k0 1=0):=by unfold Hid vOf;rw[zgU hk]
 have EN:Hid (nlOf k0 1=true):=by unfold Hid nlOf;rw[zgU hk];rfl
 have hk':(k0==1)=false:=by simpa using hk
 clear hk;have h6:¬(t.size:Int)<6:=by have:=hp.size;omega
 have HP:=zc hp;have HS:Hid (s.size<=maxLen):=by have:=hp.size;unfold Hid;omega
 clear hp hs;go_enter func70,ntmps70;go_wp2
 go_region
 go_wp2_with fail
 refine(yx k0 k1 k2 k3 0 true s _ HS.o (by omega) (by omega)).mono ?_;rintro e w1 ⟨rfl,aa⟩;have p0:w1.cell? (nA w 0)=some (iA 0):=by rw[aa.cell (p:=(nA w 0)) (by simp;omega)];simp
 have p1:w1.cell? (nA w 1)=some (iA 0):=by rw[aa.cell (p:=(nA w 1)) (by simp;omega)];simp
 have p2:w1.cell? (nA w 2)=some (iA 0):=by rw[aa.cell (p:=(nA w 2)) (by simp;omega)];simp
 have p3:w1.cell? (nA w 3)=some (iA 0):=by rw[aa.cell (p:=(nA w 3)) (by simp;omega)];simp
 have p4:w1.cell? (nA w 4)=some (iA 0):=by rw[aa.cell (p:=(nA w 4)) (by simp;omega)];simp
 have p5:w1.cell? (nA w 5)=some (bA false):=by rw[aa.cell (p:=(nA w 5)) (by simp;omega)];simp
 have p6:w1.cell? (nA w 6)=some (sA ⟨#[]⟩):=by rw[aa.cell (p:=(nA w 6)) (by simp;omega)];simp
 have f0:w1.frozen? (nA w 0)=false:=by rw[aa.frozen (p:=(nA w 0)) (by simp;omega)];simp
 have f1:w1.frozen? (nA w 1)=false:=by rw[aa.frozen (p:=(nA w 1)) (by simp;omega)];simp
 have f2:w1.frozen? (nA w 2)=false:=by rw[aa.frozen (p:=(nA w 2)) (by simp;omega)];simp
 have f3:w1.frozen? (nA w 3)=false:=by rw[aa.frozen (p:=(nA w 3)) (by simp;omega)];simp
 have f4:w1.frozen? (nA w 4)=false:=by rw[aa.frozen (p:=(nA w 4)) (by simp;omega)];simp
 have f5:w1.frozen? (nA w 5)=false:=by rw[aa.frozen (p:=(nA w 5)) (by simp;omega)];simp
 have f6:w1.frozen? (nA w 6)=false:=by rw[aa.frozen (p:=(nA w 6)) (by simp;omega)];simp
 have r0:w1.cell? (aA (w.heap.size+1) 0)=some (iA k0):=by rw[aa.cell (p:=(aA (w.heap.size+1) 0)) (by simp)];simp
 have r1:w1.cell? (aA (w.heap.size+1) 1)=some (iA k1):=by rw[aa.cell (p:=(aA (w.heap.size+1) 1)) (by simp)];simp
 have r2:w1.cell? (aA (w.heap.size+1) 2)=some (iA k2):=by rw[aa.cell (p:=(aA (w.heap.size+1) 2)) (by simp)];simp
 have r3:w1.cell? (aA (w.heap.size+1) 3)=some (iA k3):=by rw[aa.cell (p:=(aA (w.heap.size+1) 3)) (by simp)];simp
 have r4:w1.cell? (aA (w.heap.size+1) 4)=some (iA 0):=by rw[aa.cell (p:=(aA (w.heap.size+1) 4)) (by simp)];simp
 have r5:w1.cell? (aA (w.heap.size+1) 5)=some (bA true):=by rw[aa.cell (p:=(aA (w.heap.size+1) 5)) (by simp)];simp
 have r6:w1.cell? (aA (w.heap.size+1) 6)=some (sA s):=by rw[aa.cell (p:=(aA (w.heap.size+1) 6)) (by simp)];simp
 have HB:Hid (BW w w1):=((bwA w).alloc (by simp) _).drew.trans (aa.mono (by simp;omega));clear aa;cases hX:hasB k0 k1 k2 k3 0 true s.size with
 |false=>
  rw[yy hX];have hd:qB k0 k1 k2 k3 1 k5 s.size=false:=Kn (by rw[EV.o,EN.o];exact hX);have HD:=zc hd;clear hX hd;go_wp2;exact zgJ (v:=.tuple #[.agg mA,bA false]) (by simp[results,results70,go_sem,p0,p1,p2,p3,p4,p5,p6]) rfl ⟨YL HD.o,HB.o.setCell (zgp _) _ |>.setCell (zgp _) _ |>.setCell (zgp _) _ |>.setCell (zgp _) _ |>.setCell (zgp _) _ |>.setCell (zgp _) _ |>.setCell (zgp _) _⟩
 |true=>
  have hf:=xZ HP (by rw[EV.o,EN.o];exact hX);rw[EV.o,EN.o] at hf;by_cases he:encS k0 k1 k2 k3 0 true s=t
  .have HD:=zc (hf.1 he);rw[he];clear hf he hX;go_wp2;exact zgJ (v:=.tuple #[.agg #[iA k0,iA k1,iA k2,iA k3,iA 0,bA true,sA s],bA true]) (by simp[results,results70,go_sem,p0,p1,p2,p3,p4,p5,p6]) rfl ⟨Jy HD.o EV.o EN.o,HB.o.setCell (zgp _) _ |>.setCell (zgp _) _ |>.setCell (zgp _) _ |>.setCell (zgp _) _ |>.setCell (zgp _) _ |>.setCell (zgp _) _ |>.setCell (zgp _) _⟩
  have hd:qB k0 k1 k2 k3 1 k5 s.size=false:=by
   cases hh:qB k0 k1 k2 k3 1 k5 s.size
   .rfl
   exact absurd (hf.2 hh) he
  have HD:=zc hd;generalize encS k0 k1 k2 k3 0 true s=g at he;have ab:(g.toList==t.toList)=false:=by
   rw[ByteArray.toList_eq,ByteArray.toList_eq];simpa using λe=>he (ByteArray.ext (Array.toList_inj.1 e))
  clear hf he hX hd;go_wp2;exact zgJ (v:=.tuple #[.agg mA,bA false]) (by simp[results,results70,go_sem,p0,p1,p2,p3,p4,p5,p6]) rfl ⟨YL HD.o,HB.o.setCell (zgp _) _ |>.setCell (zgp _) _ |>.setCell (zgp _) _ |>.setCell (zgp _) _ |>.setCell (zgp _) _ |>.setCell (zgp _) _ |>.setCell (zgp _) _⟩
theorem Jd(t:zgW)(k0 k1 k2 k3 k4 k5:Int)(s:zgW)(w:World)(hs:t.size<=maxLen)(hp:Parts t k0 k1 k2 k3 k4 k5 s)(hk:k0≠1)(hk4:k4≠1):
 Calls prog 70 #[sA t] w λe w'=>e=.returned (.tuple #[QA k0 k1 k2 k3 k4 k5 s,bA (qB k0 k1 k2 k3 k4 k5 s.size)])/\BW w w':=by
 have a0:=hp.at0;have a1:=hp.at1;have a2:=hp.at2;have a3:=hp.at3;have a4:=hp.at4;have ar:=hp.rest;have b0:=hp.b0;have b1:=hp.b1;have b2:=hp.b2;have b3:=hp.b3;have b4:=hp.b4;have EV:Hid (vOf k0 k4=0):=by unfold Hid vOf;rw[zgU hk]
 have EN:Hid (nlOf k0 k4=false):=by unfold Hid nlOf;rw[zgU hk];simpa using hk4
 have hk':(k0==1)=false:=by simpa using hk
 have ad:(k4==1)=false:=by simpa using hk4
 clear hk hk4;have h6:¬(t.size:Int)<6:=by have:=hp.size;omega
 have HP:=zc hp;have HS:Hid (s.size<=maxLen):=by have:=hp.size;unfold Hid;omega
 clear hp hs;go_enter func70,ntmps70;go_wp2
 go_region
 go_wp2_with fail
 refine(yx k0 k1 k2 k3 0 false s _ HS.o (by omega) (by omega)).mono ?_;rintro e w1 ⟨rfl,aa⟩;have p0:w1.cell? (nA w 0)=some (iA 0):=by rw[aa.cell (p:=(nA w 0)) (by simp;omega)];simp
 have p1:w1.cell? (nA w 1)=some (iA 0):=by rw[aa.cell (p:=(nA w 1)) (by simp;omega)];simp
 have p2:w1.cell? (nA w 2)=some (iA 0):=by rw[aa.cell (p:=(nA w 2)) (by simp;omega)];simp
 have p3:w1.cell? (nA w 3)=some (iA 0):=by rw[aa.cell (p:=(nA w 3)) (by simp;omega)];simp
 have p4:w1.cell? (nA w 4)=some (iA 0):=by rw[aa.cell (p:=(nA w 4)) (by simp;omega)];simp
 have p5:w1.cell? (nA w 5)=some (bA false):=by rw[aa.cell (p:=(nA w 5)) (by simp;omega)];simp
 have p6:w1.cell? (nA w 6)=some (sA ⟨#[]⟩):=by rw[aa.cell (p:=(nA w 6)) (by simp;omega)];simp
 have f0:w1.frozen? (nA w 0)=false:=by rw[aa.frozen (p:=(nA w 0)) (by simp;omega)];simp
 have f1:w1.frozen? (nA w 1)=false:=by rw[aa.frozen (p:=(nA w 1)) (by simp;omega)];simp
 have f2:w1.frozen? (nA w 2)=false:=by rw[aa.frozen (p:=(nA w 2)) (by simp;omega)];simp
 have f3:w1.frozen? (nA w 3)=false:=by rw[aa.frozen (p:=(nA w 3)) (by simp;omega)];simp
 have f4:w1.frozen? (nA w 4)=false:=by rw[aa.frozen (p:=(nA w 4)) (by simp;omega)];simp
 have f5:w1.frozen? (nA w 5)=false:=by rw[aa.frozen (p:=(nA w 5)) (by simp;omega)];simp
 have f6:w1.frozen? (nA w 6)=false:=by rw[aa.frozen (p:=(nA w 6)) (by simp;omega)];simp
 have r0:w1.cell? (aA (w.heap.size+1) 0)=some (iA k0):=by rw[aa.cell (p:=(aA (w.heap.size+1) 0)) (by simp)];simp
 have r1:w1.cell? (aA (w.heap.size+1) 1)=some (iA k1):=by rw[aa.cell (p:=(aA (w.heap.size+1) 1)) (by simp)];simp
 have r2:w1.cell? (aA (w.heap.size+1) 2)=some (iA k2):=by rw[aa.cell (p:=(aA (w.heap.size+1) 2)) (by simp)];simp
 have r3:w1.cell? (aA (w.heap.size+1) 3)=some (iA k3):=by rw[aa.cell (p:=(aA (w.heap.size+1) 3)) (by simp)];simp
 have r4:w1.cell? (aA (w.heap.size+1) 4)=some (iA 0):=by rw[aa.cell (p:=(aA (w.heap.size+1) 4)) (by simp)];simp
 have r5:w1.cell? (aA (w.heap.size+1) 5)=some (bA false):=by rw[aa.cell (p:=(aA (w.heap.size+1) 5)) (by simp)];simp
 have r6:w1.cell? (aA (w.heap.size+1) 6)=some (sA s):=by rw[aa.cell (p:=(aA (w.heap.size+1) 6)) (by simp)];simp
 have HB:Hid (BW w w1):=((bwA w).alloc (by simp) _).drew.trans (aa.mono (by simp;omega));clear aa;cases hX:hasB k0 k1 k2 k3 0 false s.size with
 |false=>
  rw[yy hX];have hd:qB k0 k1 k2 k3 k4 k5 s.size=false:=Kn (by rw[EV.o,EN.o];exact hX);have HD:=zc hd;clear hX hd;go_wp2;exact zgJ (v:=.tuple #[.agg mA,bA false]) (by simp[results,results70,go_sem,p0,p1,p2,p3,p4,p5,p6]) rfl ⟨YL HD.o,HB.o.setCell (zgp _) _ |>.setCell (zgp _) _ |>.setCell (zgp _) _ |>.setCell (zgp _) _ |>.setCell (zgp _) _ |>.setCell (zgp _) _ |>.setCell (zgp _) _⟩
 |true=>
  have hf:=xZ HP (by rw[EV.o,EN.o];exact hX);rw[EV.o,EN.o] at hf;by_cases he:encS k0 k1 k2 k3 0 false s=t
  .have HD:=zc (hf.1 he);rw[he];clear hf he hX;go_wp2;exact zgJ (v:=.tuple #[.agg #[iA k0,iA k1,iA k2,iA k3,iA 0,bA false,sA s],bA true]) (by simp[results,results70,go_sem,p0,p1,p2,p3,p4,p5,p6]) rfl ⟨Jy HD.o EV.o EN.o,HB.o.setCell (zgp _) _ |>.setCell (zgp _) _ |>.setCell (zgp _) _ |>.setCell (zgp _) _ |>.setCell (zgp _) _ |>.setCell (zgp _) _ |>.setCell (zgp _) _⟩
  have hd:qB k0 k1 k2 k3 k4 k5 s.size=false:=by
   cases hh:qB k0 k1 k2 k3 k4 k5 s.size
   .rfl
   exact absurd (hf.2 hh) he
  have HD:=zc hd;generalize encS k0 k1 k2 k3 0 false s=g at he;have ab:(g.toList==t.toList)=false:=by
   rw[ByteArray.toList_eq,ByteArray.toList_eq];simpa using λe=>he (ByteArray.ext (Array.toList_inj.1 e))
  clear hf he hX hd;go_wp2;exact zgJ (v:=.tuple #[.agg mA,bA false]) (by simp[results,results70,go_sem,p0,p1,p2,p3,p4,p5,p6]) rfl ⟨YL HD.o,HB.o.setCell (zgp _) _ |>.setCell (zgp _) _ |>.setCell (zgp _) _ |>.setCell (zgp _) _ |>.setCell (zgp _) _ |>.setCell (zgp _) _ |>.setCell (zgp _) _⟩
theorem Y8(t:zgW)(k0 k1 k2 k3 k4 k5:Int)(s:zgW)(w:World)(hs:t.size<=maxLen)(hp:Parts t k0 k1 k2 k3 k4 k5 s):
 Calls prog 70 #[sA t] w λe w'=>e=.returned (.tuple #[QA k0 k1 k2 k3 k4 k5 s,bA (qB k0 k1 k2 k3 k4 k5 s.size)])/\BW w w':=by
 by_cases hk:k0=1
 .subst hk;exact Jf t k1 k2 k3 k4 k5 s w hs hp
 by_cases aa:k4=1
 .subst aa;exact Je t k0 k1 k2 k3 k5 s w hs hp hk
 exact Jd t k0 k1 k2 k3 k4 k5 s w hs hp hk aa
structure yX where
 k:Int
 h:Int
 r:Int
 f:Int
 v:Int
 nl:Bool
 s:zgW
def yX.cells(m:yX):Array Value:=#[iA m.k,iA m.h,iA m.r,iA m.f,iA m.v,bA m.nl,sA m.s]
def zbV:yX:=⟨0,0,0,0,0,false,⟨#[]⟩⟩
def yT(t:zgW):Bool:=decide (6<=t.size)&&qB (byt t 0) (byt t 1) (byt t 2) (byt t 3) (byt t 4) (byt t 5) (t.extract 6 t.size).size
def decV(t:zgW):yX:=if yT t then⟨byt t 0,byt t 1,byt t 2,byt t 3,vOf (byt t 0) (byt t 4),nlOf (byt t 0) (byt t 4),t.extract 6 t.size⟩ else zbV
theorem ZO{t:zgW}(h:yT t=true):0<=(decV t).h/\(decV t).h<12/\0<=(decV t).r/\(decV t).r<=255/\0<=(decV t).f/\(decV t).f<8/\(decV t).s.size<=24/\1<=(decV t).k/\(decV t).k<=3:=by
 have h2:=h;unfold yT qB at h2;simp only[Bool.and_eq_true] at h2;have h3:=zgF h2.2.1.1;unfold decV;rw[zgT h];simp only
 omega
theorem gj(t:zgW)(w:World)(hs:t.size<=maxLen):
 Calls prog 70 #[sA t] w λe w'=>e=.returned (.tuple #[.agg (decV t).cells,bA (yT t)])/\BW w w':=by
 by_cases h6:6<=t.size
 .have h:=Y8 t _ _ _ _ _ _ _ w hs (Qe t h6);have e1:yT t=qB (byt t 0) (byt t 1) (byt t 2) (byt t 3) (byt t 4) (byt t 5) (t.extract 6 t.size).size:=by unfold yT;rw[zgG h6];rfl
  unfold QA at h;unfold decV;rw[e1];cases hd:qB (byt t 0) (byt t 1) (byt t 2) (byt t 3) (byt t 4) (byt t 5) (t.extract 6 t.size).size with
  |true=>
   rw[hd] at h;exact h
  |false=>
   rw[hd] at h;exact h
 have e1:yT t=false:=by unfold yT;rw[zgH h6];rfl
 unfold decV;rw[e1];exact Zq t w (by omega)
end
section
variable{w w':World}
theorem gX{base e size n:Nat}{v:Value}{xs:List Value}(h:w.ownsRow base e size v n xs)(hb:BW w w'):w'.ownsRow base e size v n xs:=zb h (λg _ hg=>hb.block g hg)
theorem blk{g:Nat}{o:Obj}(h:w.heap[g]? =some o)(hb:BW w w'):w'.heap[g]? =some o:=(hb.block g (zj h)).trans h
end
section
open Proofs.Tryz
variable{w:World}{B n:Nat}{p:Option Addr}
structure zt where
 m:yX
 fr:zgW
 own:Bool
def zJ:zt:=⟨zbV,⟨#[]⟩,false⟩
def zt.cells(e:zt):Array Value:=#[iA e.m.k,iA e.m.h,iA e.m.r,iA e.m.f,iA e.m.v,bA e.m.nl,sA e.m.s,sA e.fr,bA e.own]
variable{es:Nat->zt}
theorem Tryz.zfM:(prog.info? 164).map (λi=>(i.zero,i.size,i.bytes))=some (some (.agg #[iA 0,iA 0,iA 0,iA 0,iA 0,bA false,sA zgV,sA zgV,bA false]),9,88):=by kernel_rfl
theorem Tryz.zc5:(prog.info? 164).map (·.size)=some 9:=by kernel_rfl
def kF(l:List zt):List Value:=l.flatMap λm=>m.cells.toList
theorem Ju(l:List zt)(m:zt):kF (l++[m])=kF l++m.cells.toList:=by simp[kF]
theorem jl(l:List zt):(kF l).length=l.length*9:=by
 induction l with
 |nil=>rfl
 |cons m l ih=>simp only[kF,List.flatMap_cons,List.length_append,List.length_cons] at ih ⊢;rw[ih];simp[zt.cells];omega
def km(w:World)(B:Nat)(p:Option Addr)(n:Nat)(es:Nat->zt):Prop:=∀i,i<n->∃b o,p=some (aA b o)/\b<B/\w.rangeAt b (o+i*9) (es i).cells.toList
theorem km.below{w':World}(h:km w B p n es)(hb:Below B w w'):km w' B p n es:=λi hi=>by
 obtain⟨b,o,e,hB,hr⟩:=h i hi;exact⟨b,o,e,hB,λj v hv=>(hb.cell (p:=(aA b (o+i*9+j))) (by exact hB)).trans (hr j v hv)⟩
theorem km.more{B':Nat}(h:km w B p n es)(hb:B<=B'):km w B' p n es:=λi hi=>by
 obtain⟨b,o,e,hB,hr⟩:=h i hi;exact⟨b,o,e,zgt hB hb,hr⟩
theorem Vj(l:List zt)(j:Nat)(hj:j<9):∀i,i<l.length->(kF l)[i*9+j]? =((l.getD i zJ).cells.toList)[j]? :=by
 induction l with
 |nil=>intro i hi;simp at hi
 |cons m l ih=>
  intro i hi;have e:kF (m::l)=m.cells.toList++kF l:=by simp[kF]
  have hc:m.cells.toList.length=9:=by simp[zt.cells]
  rw[e];cases i with
  |zero=>
   rw[Nat.zero_mul,zg0,zgD (by omega)];rfl
  |succ i=>
   rw[zgC (by omega),hc,show(i+1)*9+j-9=i*9+j by omega];have h2:=ih i (by simpa using hi);simpa using h2
theorem J2{base:Nat}{v:Value}{l:List zt}(h:w.ownsRow base 164 9 v l.length (kF l)):∃p c,v=.slice p l.length c/\l.length<=maxLen/\km w w.heap.size p l.length (λi=>l.getD i zJ):=by
 rcases h.2 with⟨rfl,hn⟩|⟨g,cap,cur,rfl,hb,hg,aa,ad,hcs,ht⟩
 .exact ⟨none,0,by rw[hn],by rw[hn];exact zgv _,λi hi=>by omega⟩
 refine⟨_,cap,rfl,zgu aa ad,λi hi=>⟨g,0,rfl,zj hg,λj v hv=>?_⟩⟩;rw[zgs w g _ _ _ _ hg,zg0];have hj:j<9:=by have:=(List.getElem?_eq_some_iff.1 hv).1;simpa [zt.cells] using this
 have e1:(cur.toList.take (l.length*9))[i*9+j]? =(kF l)[i*9+j]? :=by rw[ht]
 have ab:i*9+j<l.length*9:=by
  have:(i+1)*9<=l.length*9:=Nat.mul_le_mul_right 9 (by omega);omega
 rw[zg5,zgT ab] at e1;rw[<-zg8,e1,<-hv];exact Vj l j hj i hi
theorem zy{α:Type}(l:List α)(d:α)(k:Nat)(h:k<l.length):l.take (k+1)=l.take k++[l.getD k d]:=by
 rw[<-List.take_append_getElem h,zgz,zgy h];rfl
theorem yo{α:Type}(l:List α)(d:α)(k:Nat)(h:k<l.length):l.getD k d∈l:=by
 rw[zgz,zgy h];exact List.getElem_mem h

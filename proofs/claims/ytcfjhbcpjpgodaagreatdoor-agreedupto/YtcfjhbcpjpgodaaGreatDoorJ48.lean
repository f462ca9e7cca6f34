/- Proved here: equal of synodkeep tells true of two registries that read alike. -/
import Derived.Test.YtcfjhbcpjpgodaaGreatDoorJ44
import Derived.Test.YtcfjhbcpjpgodaaGreatDoorJ36
import Derived.Test.YtcfjhbcpjpgodaaGreatDoorJ30
import Derived.Test.YtcfjhbcpjpgodaaGreatDoorJ26
import Derived.Test.YtcfjhbcpjpgodaaGreatDoorTakeL
namespace Go.Proofs.YtcfjhbcpjpgodaaGreatDoor
open Go.RowKit Go.Proofs.Tryz
set_option linter.unusedSimpArgs false
set_option linter.unusedVariables false
set_option maxRecDepth 100000
set_option maxHeartbeats 3200000
variable{w:World}{v:Value}{x:Nat→Int}
def EqlP(C:Prop)(w:World)(e:Ending)(w':World):Prop:=(∃o,e=.returned (.bool o)∧(C→o=true))∧Below w.heap.size w w'
theorem keepEqual_any(C:Prop)(pa pb ra rb:Nat→Int)(na nb:ByteArray)(p1 p2 r1 r2:Option Addr)(pc1 pc2 rc1 rc2 la lb:Nat)(w:World)(hla:la≤maxLen)(hp1:Lies w w.heap.size p1 8 (fun i=>.int .i64 (pa i)))(hp2:Lies w w.heap.size p2 8 (fun i=>.int .i64 (pb i)))(hr1:Lies w w.heap.size r1 la (fun i=>.int .i64 (ra i)))(hr2:Lies w w.heap.size r2 lb (fun i=>.int .i64 (rb i)))(hC:C→(∀i,i<8→pa i=pb i)∧la=lb∧(∀i,i<la→ra i=rb i)∧na=nb):
 Calls prog 32 #[.agg #[.slice p1 8 pc1,.string na,.slice r1 la rc1],.agg #[.slice p2 8 pc2,.string nb,.slice r2 lb rc2]] w (EqlP C w):=by
 have HC:=hide hC;clear hC;obtain⟨w1,hw1⟩:=gen (w.alloc (.cells #[.slice p1 8 pc1,.string na,.slice r1 la rc1] 72));obtain⟨w2,hw2⟩:=gen (w1.alloc (.cells #[.slice p2 8 pc2,.string nb,.slice r2 lb rc2] 72));have hb1:Below w.heap.size w w1:=by rw[hw1];exact(Below.refl _ w).alloc (Nat.le_refl _) _
 have hq1:w1.heap[w.heap.size]? =some (.cells #[.slice p1 8 pc1,.string na,.slice r1 la rc1] 72 (0,0)):=by rw[hw1];exact heap_alloc_new w _
 have hb2:Below w1.heap.size w1 w2:=by rw[hw2];exact(Below.refl _ w1).alloc (Nat.le_refl _) _
 have hq2:w2.heap[w1.heap.size]? =some (.cells #[.slice p2 8 pc2,.string nb,.slice r2 lb rc2] 72 (0,0)):=by rw[hw2];exact heap_alloc_new w1 _
 have hz1:w1.heap.size=w.heap.size+1:=by rw[hw1];simp
 have hq12:=blk hq1 hb2;have hbw:Below w.heap.size w w2:=hb1.trans (hb2.mono hb1.size);obtain⟨b2,hb2e⟩:=gen (w.heap.size+1);rw[hz1,←hb2e] at hq2;obtain⟨HQ1,HQ2,HBW⟩:=hide3 hq12 hq2 hbw;have HS1:Hid (∀W,Below w2.heap.size w2 W→Calls prog 47 #[.slice p1 8 pc1,.slice p2 8 pc2] W fun e w'=>(∃o,e=.returned (.bool o)∧((∀i,i<8→pa i=pb i)→o=true))∧Below W.heap.size W w'):=fun W hW=>by
  have h0:=hbw.trans (hW.mono hbw.size);refine(keepSame_any pa pb p1 p2 8 8 pc1 pc2 W (by decide) ((hp1.below h0).more h0.size) ((hp2.below h0).more h0.size)).mono ?_;rintro e w' ⟨⟨o,h1,h2⟩,h3⟩;exact⟨⟨o,h1,h2 rfl⟩,h3⟩
 have HS2:Hid (∀W,Below w2.heap.size w2 W→Calls prog 47 #[.slice r1 la rc1,.slice r2 lb rc2] W fun e w'=>(∃o,e=.returned (.bool o)∧(la=lb→(∀i,i<la→ra i=rb i)→o=true))∧Below W.heap.size W w'):=fun W hW=>by
  have h0:=hbw.trans (hW.mono hbw.size);exact keepSame_any ra rb r1 r2 la lb rc1 rc2 W hla ((hr1.below h0).more h0.size) ((hr2.below h0).more h0.size)
 have HW2:=hide (show w2=(w.alloc (.cells #[.slice p1 8 pc1,.string na,.slice r1 la rc1] 72)).alloc (.cells #[.slice p2 8 pc2,.string nb,.slice r2 lb rc2] 72) by rw[hw2,hw1]);clear hp1 hp2 hr1 hr2 hw1 hw2 hb1 hb2 hq1 hq2 hq12 hbw hz1;have c10:w2.cell? ⟨w.heap.size,0,none⟩=some (.slice p1 8 pc1):=cell_of_row w2 w.heap.size 0 _ _ _ HQ1.out;have c20:w2.cell? ⟨b2,0,none⟩=some (.slice p2 8 pc2):=cell_of_row w2 b2 0 _ _ _ HQ2.out;have HBE:=hide hb2e;go_enter func32,ntmps32
 go_upto_region 1 with fail
 rw[←HW2.out]
 try rw[←HBE.out]
 clear hb2e;go_wp2_with fail
 refine(HS1.out _ (Below.refl _ w2)).mono ?_;rintro e w3 ⟨⟨o1,rfl,ho1⟩,hb3⟩;have HO1:=hide ho1;have c12:w3.cell? ⟨w.heap.size,2,none⟩=some (.slice r1 la rc1):=cell_of_row w3 w.heap.size 2 _ _ _ (blk HQ1.out hb3);have c22:w3.cell? ⟨b2,2,none⟩=some (.slice r2 lb rc2):=cell_of_row w3 b2 2 _ _ _ (blk HQ2.out hb3);have HB3:=hide hb3;clear ho1 hb3 c10 c20;go_wp2_with fail
 refine(HS2.out _ HB3.out).mono ?_;rintro e w4 ⟨⟨o2,rfl,ho2⟩,hb4⟩;have HO2:=hide ho2;have HB4:Hid (Below w2.heap.size w2 w4):=HB3.out.trans (hb4.mono HB3.out.size);have c11:w4.cell? ⟨w.heap.size,1,none⟩=some (.string na):=cell_of_row w4 w.heap.size 1 _ _ _ (blk HQ1.out HB4.out);have c21:w4.cell? ⟨b2,1,none⟩=some (.string nb):=cell_of_row w4 b2 1 _ _ _ (blk HQ2.out HB4.out);have HBE4:Hid (Below w.heap.size w w4):=HBW.out.trans (HB4.out.mono HBW.out.size);clear ho2 hb4 c12 c22;cases o1 with
 |false=>
  go_wp2;go_ret;exact⟨⟨false,rfl,fun h=>HO1.out (HC.out h).1⟩,HBE4.out⟩
 |true=>
  cases o2 with
  |false=>
   go_wp2;go_ret;exact⟨⟨false,rfl,fun h=>HO2.out (HC.out h).2.1 (HC.out h).2.2.1⟩,HBE4.out⟩
  |true=>
   by_cases hnn:na=nb
   .subst hnn;go_wp2;go_ret;exact⟨⟨true,by first|rfl|simp,fun _=>rfl⟩,HBE4.out⟩
   have q1:=text_ne hnn;have HNN:=hide hnn;go_wp2;go_ret;exact⟨⟨false,by first|rfl|simp,fun h=>absurd (HC.out h).2.2.2 HNN.out⟩,HBE4.out⟩
theorem roleL_range(x:Nat→Int)(l:List Nat):roleL x l=(List.range l.length).map fun i=>.int .i64 (x (8+l.getD i 0)):=by
 apply List.ext_getElem
 .simp [roleL]
 intro i h1 h2;have hi:i<l.length:=by simpa [roleL] using h1
 simp[roleL,List.getD_eq_getElem?_getD,hi]
theorem told_powers{base:Nat}(h:w.ownsRow base 3 1 v 8 (powL x 8)):∃p c,v=.slice p 8 c∧Lies w w.heap.size p 8 (fun i=>.int .i64 (x i)):=own_numsK h
theorem told_roles{base:Nat}{l:List Nat}(h:w.ownsRow base 3 1 v l.length (roleL x l)):∃p c,v=.slice p l.length c∧Lies w w.heap.size p l.length (fun i=>.int .i64 (x (8+l.getD i 0))):=by
 rw[roleL_range] at h;exact own_numsK h
def ActsAt(w:World)(base:Nat)(p:Option Addr)(n:Nat)(a:Nat→ActV):Prop:=∀i,i<n→∃b o,p=some ⟨b,o,none⟩∧b<base∧w.rangeAt b (o+i*12) (a i).cells.toList
theorem Tryz.sizeAct:(prog.info? 81).map (·.size)=some 12:=by kernel_rfl
end Go.Proofs.YtcfjhbcpjpgodaaGreatDoor

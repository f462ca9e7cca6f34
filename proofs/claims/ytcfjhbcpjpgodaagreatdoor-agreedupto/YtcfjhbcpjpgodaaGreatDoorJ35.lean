/- Proved here: what a node does when a timer is due. -/
import Derived.Test.YtcfjhbcpjpgodaaGreatDoorJ25
import Derived.Test.YtcfjhbcpjpgodaaGreatDoorJ31
import Derived.Test.YtcfjhbcpjpgodaaGreatDoorJ32
import Derived.Deep.DeepCutAuto
import Derived.Test.YtcfjhbcpjpgodaaGreatDoorTakeL
namespace Go.Proofs.YtcfjhbcpjpgodaaGreatDoor
open Go.RowKit Go.Proofs.Tryz
set_option linter.unusedSimpArgs false
set_option linter.unusedVariables false
set_option maxRecDepth 100000
set_option maxHeartbeats 25600000
variable{B nb kb rb cb n i g f:Nat}{es:List Addr}{m:Int}{F R:Nat→Prop}{s:NodeS}{w:World}{t:TimV}
theorem expire_any{N:Nat}(t:TimV){w:World}(h:NodeW B es m F R nb kb rb cb n i s w)(ok:StOk N s)(hN:N≤10000000)(hsg:(s.sg i).length≤1000000000000):
 Calls prog 90 #[.pointer (some ⟨nb,0,none⟩),.agg #[.int .i64 t.n,.int .i64 t.h,.int .i64 t.r]] w fun en w'=>en=.returned (.tuple #[])∧∃F' R',NodeW B es m F' R' nb kb rb cb n i (s.expS i t) w'∧Goes F R w F' R' w':=by
 obtain⟨tn,th,tr,td,tg⟩:=t;obtain⟨V,hA,hf⟩:=h.node;show Calls prog 90 #[.pointer (some ⟨nb,0,none⟩),.agg #[.int .i64 tn,.int .i64 th,.int .i64 tr]] w fun en w'=>en=.returned (.tuple #[])∧∃F' R',NodeW B es m F' R' nb kb rb cb n i (s.expS i ⟨tn,th,tr,td,tg⟩) w'∧Goes F R w F' R' w';obtain⟨w1,hw1⟩:=gen (w.alloc (.cells #[.int .i64 tn,.int .i64 th,.int .i64 tr] 177));have hb1:Below w.heap.size w w1:=by rw[hw1];exact(Below.refl _ w).alloc (Nat.le_refl _) _
 have hq1:w1.heap[w.heap.size]? =some (.cells #[.int .i64 tn,.int .i64 th,.int .i64 tr] 177 (0,0)):=by rw[hw1];exact heap_alloc_new w _
 have HA1:=hide (hA.below hb1);have C0:Hid (w1.cell? ⟨w.heap.size,0,none⟩=some (.int .i64 tn)):=cell_of_row w1 w.heap.size 0 _ _ _ hq1;have C1:Hid (w1.cell? ⟨w.heap.size,1,none⟩=some (.int .i64 th)):=cell_of_row w1 w.heap.size 1 _ _ _ hq1;have C2:Hid (w1.cell? ⟨w.heap.size,2,none⟩=some (.int .i64 tr)):=cell_of_row w1 w.heap.size 2 _ _ _ hq1;have C43:Hid (w1.cell? ⟨nb,43,none⟩=some (.int .i64 (s.round:Int))):=HA1.out.cell 43 rfl;have C44:Hid (w1.cell? ⟨nb,44,none⟩=some (.int .i64 (s.step:Int))):=HA1.out.cell 44 rfl;have HST:Hid (StOk N s∧(s.sg i).length≤1000000000000):=⟨ok,hsg⟩;have hrb:(s.round:Int)≤20:=by have:=ok.rnd;omega
 obtain⟨HH1,HB1,HW1⟩:=hide3 (h.below hb1) hb1 hw1;clear h hA hf ok hsg hb1 hq1 hw1;go_enter func90,ntmps90;go_wp2_with fail
 rw[←HW1.out];by_cases h1:th=(s.height:Int)
 .have q1:(th != (s.height:Int))=false:=by simp[h1]
  by_cases h2:tr=(s.round:Int)
  .have q2:(tr != (s.round:Int))=false:=by simp[h2]
   by_cases h3:tn=1∧s.step=1
   .obtain ⟨h3a,h3b⟩:=h3
    have HEX:Hid (NodeS.expS s i ⟨tn,th,tr,td,tg⟩=s.nothing i 2 2):=by unfold Hid NodeS.expS;rw[if_pos ⟨h1,h2⟩,if_pos ⟨h3a,h3b⟩]
    have q3:(tn==1)=true:=by simp[h3a]
    have q4:((s.step:Int)==1)=true:=by simp[h3b]
    refine rgd (S:=fun X=>Below w1.heap.size w1 X) ((Below.refl _ w1).drew) (fun hH=>?_);refine takeN [(0,some 4,pA w.heap.size 1),(1,some 5,.int .i64 th),(2,some 6,pA nb 0)] _ _ hH (by repeat(first|exact True.intro|(refine tkc rfl rfl (Or.inl ⟨by rfl,fun x h=>by have f0:x.cell? ⟨w.heap.size,1,none⟩=some (.int .i64 th):=Ext.cell C1.out (Ext.of h);go_simp⟩) ?_;simp only[AP]))) ?_;simp only[takesA,AP,pA];refine rdy1 3 (fun K hK=>?_);go_simp;refine(height_any nb kb cb V s _ (HA1.out.below hH)).mono ?_;rintro en X2 ⟨rfl,rfl⟩;refine hK.out _ _ (hH) (fun hH=>?_);clear hK K
    try simp only[AP,AQ]
    refine takeN [(4,some 8,.bool false),(5,some 9,.bool false),(6,some 10,pA w.heap.size 2),(7,some 11,.int .i64 tr),(8,some 12,pA nb 0),(9,some 13,pA nb 0),(10,some 14,pA nb 43),(11,some 15,pA nb 43),(12,some 16,.int .i64 (s.round:Int)),(13,some 17,.bool false),(14,some 18,.bool false)] _ _ hH (by repeat(first|exact True.intro|(refine tkc rfl rfl (Or.inl ⟨by rfl,fun x h=>by have f0:x.cell? ⟨w.heap.size,2,none⟩=some (.int .i64 tr):=Ext.cell C2.out (Ext.of h);have f1:x.cell? ⟨nb,43,none⟩=some (.int .i64 (s.round:Int)):=Ext.cell C43.out (Ext.of h);go_simp⟩) ?_;simp only[AP]))) ?_;simp only[takesA,AP,pA];refine dnr ?_;have HX:=hide hH;have c0:w1.drew.cell? ⟨w.heap.size,0,none⟩=some (.int .i64 tn):=C0.out;have c43:w1.drew.cell? ⟨nb,43,none⟩=some (.int .i64 (s.round:Int)):=C43.out;have c44:w1.drew.cell? ⟨nb,44,none⟩=some (.int .i64 (s.step:Int)):=C44.out;have hW:=HH1.out.below HX.out;have HW:=hide hW;clear hW hH;go_wp2_with fail
    refine(prevoteNothing_any HW.out HST.out.1 (by omega) HST.out.2).mono ?_;rintro en Y ⟨rfl,F',R',hw',hg'⟩;obtain⟨HE1,HE2⟩:=hide2 hw' hg';clear hw' hg';go_wp2;first|exact bodyPost_end (v:=.tuple #[]) (by simp[results,results90]) rfl ⟨rfl,F',R',by rw[HEX.out];exact HE1.out,(Goes.below (HB1.out.trans (HX.out.mono HB1.out.size))).trans HE2.out⟩|exact bodyPost_ret (v:=.tuple #[]) (by simp[results,results90]) rfl ⟨rfl,F',R',by rw[HEX.out];exact HE1.out,(Goes.below (HB1.out.trans (HX.out.mono HB1.out.size))).trans HE2.out⟩
   have n1:=h3;clear h3;by_cases h4:tn=2∧s.step=2
   .obtain ⟨h4a,h4b⟩:=h4
    have HEX:Hid (NodeS.expS s i ⟨tn,th,tr,td,tg⟩=s.nothing i 3 3):=by unfold Hid NodeS.expS;rw[if_pos ⟨h1,h2⟩,if_neg n1,if_pos ⟨h4a,h4b⟩]
    have q1b:(tn==1)=false:=by simp[h4a]
    have q3:(tn==2)=true:=by simp[h4a]
    have q4:((s.step:Int)==2)=true:=by simp[h4b]
    refine rgd (S:=fun X=>Below w1.heap.size w1 X) ((Below.refl _ w1).drew) (fun hH=>?_);refine takeN [(0,some 4,pA w.heap.size 1),(1,some 5,.int .i64 th),(2,some 6,pA nb 0)] _ _ hH (by repeat(first|exact True.intro|(refine tkc rfl rfl (Or.inl ⟨by rfl,fun x h=>by have f0:x.cell? ⟨w.heap.size,1,none⟩=some (.int .i64 th):=Ext.cell C1.out (Ext.of h);go_simp⟩) ?_;simp only[AP]))) ?_;simp only[takesA,AP,pA];refine rdy1 3 (fun K hK=>?_);go_simp;refine(height_any nb kb cb V s _ (HA1.out.below hH)).mono ?_;rintro en X2 ⟨rfl,rfl⟩;refine hK.out _ _ (hH) (fun hH=>?_);clear hK K
    try simp only[AP,AQ]
    refine takeN [(4,some 8,.bool false),(5,some 9,.bool false),(6,some 10,pA w.heap.size 2),(7,some 11,.int .i64 tr),(8,some 12,pA nb 0),(9,some 13,pA nb 0),(10,some 14,pA nb 43),(11,some 15,pA nb 43),(12,some 16,.int .i64 (s.round:Int)),(13,some 17,.bool false),(14,some 18,.bool false)] _ _ hH (by repeat(first|exact True.intro|(refine tkc rfl rfl (Or.inl ⟨by rfl,fun x h=>by have f0:x.cell? ⟨w.heap.size,2,none⟩=some (.int .i64 tr):=Ext.cell C2.out (Ext.of h);have f1:x.cell? ⟨nb,43,none⟩=some (.int .i64 (s.round:Int)):=Ext.cell C43.out (Ext.of h);go_simp⟩) ?_;simp only[AP]))) ?_;simp only[takesA,AP,pA];refine dnr ?_;have HX:=hide hH;have c0:w1.drew.cell? ⟨w.heap.size,0,none⟩=some (.int .i64 tn):=C0.out;have c43:w1.drew.cell? ⟨nb,43,none⟩=some (.int .i64 (s.round:Int)):=C43.out;have c44:w1.drew.cell? ⟨nb,44,none⟩=some (.int .i64 (s.step:Int)):=C44.out;have hW:=HH1.out.below HX.out;have HW:=hide hW;clear hW hH;go_wp2_with fail
    refine(precommitNothing_any HW.out HST.out.1 (by omega) HST.out.2).mono ?_;rintro en Y ⟨rfl,F',R',hw',hg'⟩;obtain⟨HE1,HE2⟩:=hide2 hw' hg';clear hw' hg';go_wp2;first|exact bodyPost_end (v:=.tuple #[]) (by simp[results,results90]) rfl ⟨rfl,F',R',by rw[HEX.out];exact HE1.out,(Goes.below (HB1.out.trans (HX.out.mono HB1.out.size))).trans HE2.out⟩|exact bodyPost_ret (v:=.tuple #[]) (by simp[results,results90]) rfl ⟨rfl,F',R',by rw[HEX.out];exact HE1.out,(Goes.below (HB1.out.trans (HX.out.mono HB1.out.size))).trans HE2.out⟩
   have n2:=h4;clear h4;by_cases h5:tn=3∧s.round<20
   .obtain ⟨h5a,h5b⟩:=h5
    have HEX:Hid (NodeS.expS s i ⟨tn,th,tr,td,tg⟩=s.beginR i (s.round+1)):=by unfold Hid NodeS.expS;rw[if_pos ⟨h1,h2⟩,if_neg n1,if_neg n2,if_pos ⟨h5a,h5b⟩]
    have q1b:(tn==1)=false:=by simp[h5a]
    have q2b:(tn==2)=false:=by simp[h5a]
    have q3:(tn==3)=true:=by simp[h5a]
    have q4:(s.round:Int)<20:=by omega
    have HBR:=hide (fun W (hW:NodeW B es m F R nb kb rb cb n i s W)=>beginRound_any (s.round+1) hW HST.out.1 (by omega) (by omega) HST.out.2);have HBC:Hid (((s.round+1:Nat):Int)=(s.round:Int)+1):=by unfold Hid;omega
    rw[HBC.out] at HBR;refine rgd (S:=fun X=>Below w1.heap.size w1 X) ((Below.refl _ w1).drew) (fun hH=>?_);refine takeN [(0,some 4,pA w.heap.size 1),(1,some 5,.int .i64 th),(2,some 6,pA nb 0)] _ _ hH (by repeat(first|exact True.intro|(refine tkc rfl rfl (Or.inl ⟨by rfl,fun x h=>by have f0:x.cell? ⟨w.heap.size,1,none⟩=some (.int .i64 th):=Ext.cell C1.out (Ext.of h);go_simp⟩) ?_;simp only[AP]))) ?_;simp only[takesA,AP,pA];refine rdy1 3 (fun K hK=>?_);go_simp;refine(height_any nb kb cb V s _ (HA1.out.below hH)).mono ?_;rintro en X2 ⟨rfl,rfl⟩;refine hK.out _ _ (hH) (fun hH=>?_);clear hK K
    try simp only[AP,AQ]
    refine takeN [(4,some 8,.bool false),(5,some 9,.bool false),(6,some 10,pA w.heap.size 2),(7,some 11,.int .i64 tr),(8,some 12,pA nb 0),(9,some 13,pA nb 0),(10,some 14,pA nb 43),(11,some 15,pA nb 43),(12,some 16,.int .i64 (s.round:Int)),(13,some 17,.bool false),(14,some 18,.bool false)] _ _ hH (by repeat(first|exact True.intro|(refine tkc rfl rfl (Or.inl ⟨by rfl,fun x h=>by have f0:x.cell? ⟨w.heap.size,2,none⟩=some (.int .i64 tr):=Ext.cell C2.out (Ext.of h);have f1:x.cell? ⟨nb,43,none⟩=some (.int .i64 (s.round:Int)):=Ext.cell C43.out (Ext.of h);go_simp⟩) ?_;simp only[AP]))) ?_;simp only[takesA,AP,pA];refine dnr ?_;have HX:=hide hH;have c0:w1.drew.cell? ⟨w.heap.size,0,none⟩=some (.int .i64 tn):=C0.out;have c43:w1.drew.cell? ⟨nb,43,none⟩=some (.int .i64 (s.round:Int)):=C43.out;have c44:w1.drew.cell? ⟨nb,44,none⟩=some (.int .i64 (s.step:Int)):=C44.out;have hW:=HH1.out.below HX.out;have HW:=hide hW;clear hW hH;go_wp2_with fail
    refine(HBR.out _ HW.out).mono ?_;rintro en Y ⟨rfl,F',R',hw',hg'⟩;obtain⟨HE1,HE2⟩:=hide2 hw' hg';clear hw' hg';go_wp2;first|exact bodyPost_end (v:=.tuple #[]) (by simp[results,results90]) rfl ⟨rfl,F',R',by rw[HEX.out];exact HE1.out,(Goes.below (HB1.out.trans (HX.out.mono HB1.out.size))).trans HE2.out⟩|exact bodyPost_ret (v:=.tuple #[]) (by simp[results,results90]) rfl ⟨rfl,F',R',by rw[HEX.out];exact HE1.out,(Goes.below (HB1.out.trans (HX.out.mono HB1.out.size))).trans HE2.out⟩
   have n3:=h5;clear h5;by_cases e1:tn=1
   .have h6:¬s.step=1:=fun h=>n1 ⟨e1,h⟩;have HEX:Hid (NodeS.expS s i ⟨tn,th,tr,td,tg⟩=s):=by unfold Hid NodeS.expS;rw[if_pos ⟨h1,h2⟩,if_neg n1,if_neg n2,if_neg n3]
    have q1b:(tn==1)=true:=by simp[e1]
    have q1c:((s.step:Int)==1)=false:=by simp;omega
    have q2b:(tn==2)=false:=by simp[e1]
    have q3b:(tn==3)=false:=by simp[e1]
    refine rgd (S:=fun X=>Below w1.heap.size w1 X) ((Below.refl _ w1).drew) (fun hH=>?_);refine takeN [(0,some 4,pA w.heap.size 1),(1,some 5,.int .i64 th),(2,some 6,pA nb 0)] _ _ hH (by repeat(first|exact True.intro|(refine tkc rfl rfl (Or.inl ⟨by rfl,fun x h=>by have f0:x.cell? ⟨w.heap.size,1,none⟩=some (.int .i64 th):=Ext.cell C1.out (Ext.of h);go_simp⟩) ?_;simp only[AP]))) ?_;simp only[takesA,AP,pA];refine rdy1 3 (fun K hK=>?_);go_simp;refine(height_any nb kb cb V s _ (HA1.out.below hH)).mono ?_;rintro en X2 ⟨rfl,rfl⟩;refine hK.out _ _ (hH) (fun hH=>?_);clear hK K
    try simp only[AP,AQ]
    refine takeN [(4,some 8,.bool false),(5,some 9,.bool false),(6,some 10,pA w.heap.size 2),(7,some 11,.int .i64 tr),(8,some 12,pA nb 0),(9,some 13,pA nb 0),(10,some 14,pA nb 43),(11,some 15,pA nb 43),(12,some 16,.int .i64 (s.round:Int)),(13,some 17,.bool false),(14,some 18,.bool false)] _ _ hH (by repeat(first|exact True.intro|(refine tkc rfl rfl (Or.inl ⟨by rfl,fun x h=>by have f0:x.cell? ⟨w.heap.size,2,none⟩=some (.int .i64 tr):=Ext.cell C2.out (Ext.of h);have f1:x.cell? ⟨nb,43,none⟩=some (.int .i64 (s.round:Int)):=Ext.cell C43.out (Ext.of h);go_simp⟩) ?_;simp only[AP]))) ?_;simp only[takesA,AP,pA];refine dnr ?_;have HX:=hide hH;have c0:w1.drew.cell? ⟨w.heap.size,0,none⟩=some (.int .i64 tn):=C0.out;have c43:w1.drew.cell? ⟨nb,43,none⟩=some (.int .i64 (s.round:Int)):=C43.out;have c44:w1.drew.cell? ⟨nb,44,none⟩=some (.int .i64 (s.step:Int)):=C44.out;have hW:=HH1.out.below HX.out;have HW:=hide hW;clear hW hH;go_wp2;first|exact bodyPost_end (v:=.tuple #[]) (by simp[results,results90]) rfl ⟨rfl,F,R,by rw[HEX.out];exact HW.out,Goes.below (HB1.out.trans (HX.out.mono HB1.out.size))⟩|exact bodyPost_ret (v:=.tuple #[]) (by simp[results,results90]) rfl ⟨rfl,F,R,by rw[HEX.out];exact HW.out,Goes.below (HB1.out.trans (HX.out.mono HB1.out.size))⟩
   by_cases e2:tn=2
   .have h6:¬s.step=2:=fun h=>n2 ⟨e2,h⟩;have HEX:Hid (NodeS.expS s i ⟨tn,th,tr,td,tg⟩=s):=by unfold Hid NodeS.expS;rw[if_pos ⟨h1,h2⟩,if_neg n1,if_neg n2,if_neg n3]
    have q1b:(tn==1)=false:=by simp[e1]
    have q2b:(tn==2)=true:=by simp[e2]
    have q2c:((s.step:Int)==2)=false:=by simp;omega
    have q3b:(tn==3)=false:=by simp[e2]
    refine rgd (S:=fun X=>Below w1.heap.size w1 X) ((Below.refl _ w1).drew) (fun hH=>?_);refine takeN [(0,some 4,pA w.heap.size 1),(1,some 5,.int .i64 th),(2,some 6,pA nb 0)] _ _ hH (by repeat(first|exact True.intro|(refine tkc rfl rfl (Or.inl ⟨by rfl,fun x h=>by have f0:x.cell? ⟨w.heap.size,1,none⟩=some (.int .i64 th):=Ext.cell C1.out (Ext.of h);go_simp⟩) ?_;simp only[AP]))) ?_;simp only[takesA,AP,pA];refine rdy1 3 (fun K hK=>?_);go_simp;refine(height_any nb kb cb V s _ (HA1.out.below hH)).mono ?_;rintro en X2 ⟨rfl,rfl⟩;refine hK.out _ _ (hH) (fun hH=>?_);clear hK K
    try simp only[AP,AQ]
    refine takeN [(4,some 8,.bool false),(5,some 9,.bool false),(6,some 10,pA w.heap.size 2),(7,some 11,.int .i64 tr),(8,some 12,pA nb 0),(9,some 13,pA nb 0),(10,some 14,pA nb 43),(11,some 15,pA nb 43),(12,some 16,.int .i64 (s.round:Int)),(13,some 17,.bool false),(14,some 18,.bool false)] _ _ hH (by repeat(first|exact True.intro|(refine tkc rfl rfl (Or.inl ⟨by rfl,fun x h=>by have f0:x.cell? ⟨w.heap.size,2,none⟩=some (.int .i64 tr):=Ext.cell C2.out (Ext.of h);have f1:x.cell? ⟨nb,43,none⟩=some (.int .i64 (s.round:Int)):=Ext.cell C43.out (Ext.of h);go_simp⟩) ?_;simp only[AP]))) ?_;simp only[takesA,AP,pA];refine dnr ?_;have HX:=hide hH;have c0:w1.drew.cell? ⟨w.heap.size,0,none⟩=some (.int .i64 tn):=C0.out;have c43:w1.drew.cell? ⟨nb,43,none⟩=some (.int .i64 (s.round:Int)):=C43.out;have c44:w1.drew.cell? ⟨nb,44,none⟩=some (.int .i64 (s.step:Int)):=C44.out;have hW:=HH1.out.below HX.out;have HW:=hide hW;clear hW hH;go_wp2;first|exact bodyPost_end (v:=.tuple #[]) (by simp[results,results90]) rfl ⟨rfl,F,R,by rw[HEX.out];exact HW.out,Goes.below (HB1.out.trans (HX.out.mono HB1.out.size))⟩|exact bodyPost_ret (v:=.tuple #[]) (by simp[results,results90]) rfl ⟨rfl,F,R,by rw[HEX.out];exact HW.out,Goes.below (HB1.out.trans (HX.out.mono HB1.out.size))⟩
   by_cases e3:tn=3;focus
    have h6:¬s.round<20:=fun h=>n3 ⟨e3,h⟩;have HEX:Hid (NodeS.expS s i ⟨tn,th,tr,td,tg⟩=s):=by unfold Hid NodeS.expS;rw[if_pos ⟨h1,h2⟩,if_neg n1,if_neg n2,if_neg n3]
    have h7:decide ((s.round:Int)<20)=false:=by rw[decide_eq_false_iff_not];omega
    have q1b:(tn==1)=false:=by simp[e1]
    have q2b:(tn==2)=false:=by simp[e2]
    have q3b:(tn==3)=true:=by simp[e3]
   rotate_left;focus
    have q1b:(tn==1)=false:=by simp[e1]
    have HEX:Hid (NodeS.expS s i ⟨tn,th,tr,td,tg⟩=s):=by unfold Hid NodeS.expS;rw[if_pos ⟨h1,h2⟩,if_neg n1,if_neg n2,if_neg n3]
    have q2b:(tn==2)=false:=by simp[e2]
    have q3b:(tn==3)=false:=by simp[e3]
   rotate_left;all_goals
    refine rgd (S:=fun X=>Below w1.heap.size w1 X) ((Below.refl _ w1).drew) (fun hH=>?_);refine takeN [(0,some 4,pA w.heap.size 1),(1,some 5,.int .i64 th),(2,some 6,pA nb 0)] _ _ hH (by repeat(first|exact True.intro|(refine tkc rfl rfl (Or.inl ⟨by rfl,fun x h=>by have f0:x.cell? ⟨w.heap.size,1,none⟩=some (.int .i64 th):=Ext.cell C1.out (Ext.of h);go_simp⟩) ?_;simp only[AP]))) ?_;simp only[takesA,AP,pA];refine rdy1 3 (fun K hK=>?_);go_simp;refine(height_any nb kb cb V s _ (HA1.out.below hH)).mono ?_;rintro en X2 ⟨rfl,rfl⟩;refine hK.out _ _ (hH) (fun hH=>?_);clear hK K
    try simp only[AP,AQ]
    refine takeN [(4,some 8,.bool false),(5,some 9,.bool false),(6,some 10,pA w.heap.size 2),(7,some 11,.int .i64 tr),(8,some 12,pA nb 0),(9,some 13,pA nb 0),(10,some 14,pA nb 43),(11,some 15,pA nb 43),(12,some 16,.int .i64 (s.round:Int)),(13,some 17,.bool false),(14,some 18,.bool false)] _ _ hH (by repeat(first|exact True.intro|(refine tkc rfl rfl (Or.inl ⟨by rfl,fun x h=>by have f0:x.cell? ⟨w.heap.size,2,none⟩=some (.int .i64 tr):=Ext.cell C2.out (Ext.of h);have f1:x.cell? ⟨nb,43,none⟩=some (.int .i64 (s.round:Int)):=Ext.cell C43.out (Ext.of h);go_simp⟩) ?_;simp only[AP]))) ?_;simp only[takesA,AP,pA];refine dnr ?_;have HX:=hide hH;have c0:w1.drew.cell? ⟨w.heap.size,0,none⟩=some (.int .i64 tn):=C0.out;have c43:w1.drew.cell? ⟨nb,43,none⟩=some (.int .i64 (s.round:Int)):=C43.out;have c44:w1.drew.cell? ⟨nb,44,none⟩=some (.int .i64 (s.step:Int)):=C44.out;have hW:=HH1.out.below HX.out;have HW:=hide hW;clear hW hH;go_wp2;first|exact bodyPost_end (v:=.tuple #[]) (by simp[results,results90]) rfl ⟨rfl,F,R,by rw[HEX.out];exact HW.out,Goes.below (HB1.out.trans (HX.out.mono HB1.out.size))⟩|exact bodyPost_ret (v:=.tuple #[]) (by simp[results,results90]) rfl ⟨rfl,F,R,by rw[HEX.out];exact HW.out,Goes.below (HB1.out.trans (HX.out.mono HB1.out.size))⟩
  have q2:(tr != (s.round:Int))=true:=by simp[h2]
  have HEX:Hid (NodeS.expS s i ⟨tn,th,tr,td,tg⟩=s):=by unfold Hid NodeS.expS;rw[if_neg (fun h=>h2 h.2)]
  refine rgd (S:=fun X=>Below w1.heap.size w1 X) ((Below.refl _ w1).drew) (fun hH=>?_);refine takeN [(0,some 4,pA w.heap.size 1),(1,some 5,.int .i64 th),(2,some 6,pA nb 0)] _ _ hH (by repeat(first|exact True.intro|(refine tkc rfl rfl (Or.inl ⟨by rfl,fun x h=>by have f0:x.cell? ⟨w.heap.size,1,none⟩=some (.int .i64 th):=Ext.cell C1.out (Ext.of h);go_simp⟩) ?_;simp only[AP]))) ?_;simp only[takesA,AP,pA];refine rdy1 3 (fun K hK=>?_);go_simp;refine(height_any nb kb cb V s _ (HA1.out.below hH)).mono ?_;rintro en X2 ⟨rfl,rfl⟩;refine hK.out _ _ (hH) (fun hH=>?_);clear hK K
  try simp only[AP,AQ]
  refine takeN [(4,some 8,.bool false),(5,some 9,.bool false),(6,some 10,pA w.heap.size 2),(7,some 11,.int .i64 tr),(8,some 12,pA nb 0),(9,some 13,pA nb 0),(10,some 14,pA nb 43),(11,some 15,pA nb 43),(12,some 16,.int .i64 (s.round:Int)),(13,some 17,.bool true),(14,some 18,.bool true)] _ _ hH (by repeat(first|exact True.intro|(refine tkc rfl rfl (Or.inl ⟨by rfl,fun x h=>by have f0:x.cell? ⟨w.heap.size,2,none⟩=some (.int .i64 tr):=Ext.cell C2.out (Ext.of h);have f1:x.cell? ⟨nb,43,none⟩=some (.int .i64 (s.round:Int)):=Ext.cell C43.out (Ext.of h);go_simp⟩) ?_;simp only[AP]))) ?_;simp only[takesA,AP,pA];refine dnr ?_;have HX:=hide hH;have c0:w1.drew.cell? ⟨w.heap.size,0,none⟩=some (.int .i64 tn):=C0.out;have c43:w1.drew.cell? ⟨nb,43,none⟩=some (.int .i64 (s.round:Int)):=C43.out;have c44:w1.drew.cell? ⟨nb,44,none⟩=some (.int .i64 (s.step:Int)):=C44.out;have hW:=HH1.out.below HX.out;have HW:=hide hW;clear hW hH;go_wp2;first|exact bodyPost_end (v:=.tuple #[]) (by simp[results,results90]) rfl ⟨rfl,F,R,by rw[HEX.out];exact HW.out,Goes.below (HB1.out.trans (HX.out.mono HB1.out.size))⟩|exact bodyPost_ret (v:=.tuple #[]) (by simp[results,results90]) rfl ⟨rfl,F,R,by rw[HEX.out];exact HW.out,Goes.below (HB1.out.trans (HX.out.mono HB1.out.size))⟩
 have q1:(th != (s.height:Int))=true:=by simp[h1]
 have HEX:Hid (NodeS.expS s i ⟨tn,th,tr,td,tg⟩=s):=by unfold Hid NodeS.expS;rw[if_neg (fun h=>h1 h.1)]
 refine rgd (S:=fun X=>Below w1.heap.size w1 X) ((Below.refl _ w1).drew) (fun hH=>?_);refine takeN [(0,some 4,pA w.heap.size 1),(1,some 5,.int .i64 th),(2,some 6,pA nb 0)] _ _ hH (by repeat(first|exact True.intro|(refine tkc rfl rfl (Or.inl ⟨by rfl,fun x h=>by have f0:x.cell? ⟨w.heap.size,1,none⟩=some (.int .i64 th):=Ext.cell C1.out (Ext.of h);go_simp⟩) ?_;simp only[AP]))) ?_;simp only[takesA,AP,pA];refine rdy1 3 (fun K hK=>?_);go_simp;refine(height_any nb kb cb V s _ (HA1.out.below hH)).mono ?_;rintro en X2 ⟨rfl,rfl⟩;refine hK.out _ _ (hH) (fun hH=>?_);clear hK K
 try simp only[AP,AQ]
 refine takeN [(4,some 8,.bool true),(5,some 9,.bool true),(6,some 10,undef),(7,some 11,undef),(8,some 12,undef),(9,some 13,undef),(10,some 14,undef),(11,some 15,undef),(12,some 16,undef),(13,some 17,undef),(14,some 18,.bool true)] _ _ hH (by repeat(first|exact True.intro|((first|(refine tkc rfl rfl (Or.inl ⟨by rfl,fun x h=>?_⟩) ?_;focus(go_simp;done))|refine tkc rfl rfl (Or.inr ⟨by rfl,rfl⟩) ?_);simp only[AP]))) ?_;simp only[takesA,AP];refine dnr ?_;have HX:=hide hH;have c0:w1.drew.cell? ⟨w.heap.size,0,none⟩=some (.int .i64 tn):=C0.out;have c43:w1.drew.cell? ⟨nb,43,none⟩=some (.int .i64 (s.round:Int)):=C43.out;have c44:w1.drew.cell? ⟨nb,44,none⟩=some (.int .i64 (s.step:Int)):=C44.out;have hW:=HH1.out.below HX.out;have HW:=hide hW;clear hW hH;go_wp2;first|exact bodyPost_end (v:=.tuple #[]) (by simp[results,results90]) rfl ⟨rfl,F,R,by rw[HEX.out];exact HW.out,Goes.below (HB1.out.trans (HX.out.mono HB1.out.size))⟩|exact bodyPost_ret (v:=.tuple #[]) (by simp[results,results90]) rfl ⟨rfl,F,R,by rw[HEX.out];exact HW.out,Goes.below (HB1.out.trans (HX.out.mono HB1.out.size))⟩
def NodeS.nextT(s:NodeS):Option TimV:=match s.tims with| []=>none|t::_=>if t.due≤(s.time:Int) then some t else none
def timC(t:TimV):Array Value:=#[.int .i64 t.n,.int .i64 t.h,.int .i64 t.r]
def timR(o:Option TimV):Value:=.tuple #[.agg (timC (o.getD tim0)),.bool o.isSome]
def NodeS.nextS(s:NodeS):NodeS:=if s.nextT.isSome=true then s.popS else s
theorem nodeA_tims(kb cb:Nat)(V:NodeV)(s s':NodeS)(v:Value)(h:s'={ s with tims:=s'.tims }):(nodeA kb cb V s).setIfInBounds 51 v=nodeA kb cb { V with tv:=v } s':=by
 rw[h];unfold nodeA nodeL;simp[regL,List.range,List.range.loop]
theorem nodeNext_any(h:NodeW B es m F R nb kb rb cb n i s w)(hlen:s.tims.length≤100000000):
 Calls prog 89 #[.pointer (some ⟨nb,51,none⟩),.int .i64 (s.time:Int)] w fun e w'=>e=.returned (timR s.nextT)∧∃F',NodeW B es m F' R nb kb rb cb n i s.nextS w'∧Goes F R w F' R w':=by
 obtain⟨V,hA,hf⟩:=h.node;have c51:w.cell? ⟨nb,51,none⟩=some V.tv:=hA.cell 51 rfl;obtain⟨p,cap,htv⟩:=own_slice hA.tims;rw[htv] at c51;cases hl:s.tims with
 |nil=>
  have e0:s.nextT=none:=by unfold NodeS.nextT;rw[hl]
  have e1:s.nextS=s:=by unfold NodeS.nextS;rw[e0];rfl
  rw[hl] at c51;refine(next_none nb 51 p cap (s.time:Int) w c51).mono ?_;rintro e w' ⟨rfl,hb⟩;refine⟨by rw[e0];rfl,F,?_,Goes.below hb⟩;rw[e1];exact h.below hb
 |cons t l=>
  have h1:=hA.tims;rw[htv] at h1;obtain⟨g,rfl,_,hr⟩:=own_timrow h1 rfl (by rw[hl];simp);have hd0:s.tims.getD 0 tim0=t:=by rw[hl];rfl
  have hl0:0<s.tims.length:=by rw[hl];simp
  by_cases hd:t.due≤(s.time:Int)
  .have e0:s.nextT=some t:=by unfold NodeS.nextT;rw[hl];simp only;rw[if_pos hd]
   have e1:s.nextS=s.popS:=by unfold NodeS.nextS;rw[e0];rfl
   refine(next_due nb 51 g cap (nodeA kb cb V s) 135 s.tims (s.time:Int) w hA.blk (by decide) (by rw[←htv];rfl) hr hl0 hlen (by rw[hd0];exact hd)).mono ?_;rintro e w' ⟨rfl,hq,hr2,hs⟩;have hrl:(restT s.tims).length=s.tims.length-1:=by
    rw[hl,(restT_perm t l).length_eq];simp
   refine⟨by rw[e0,hd0];rfl,?_⟩;rw[e1];have ho:=timrow_own hr2 (Nat.zero_le g);rw[hrl] at ho;refine h.timsTurn (s':=s.popS) hA hf (.slice (some ⟨g,0,none⟩) (s.tims.length-1) cap) (by rw[←nodeA_tims kb cb V s s.popS _ rfl];exact hq) (by show World.ownsRow w' 0 _ 5 _ (restT s.tims).length (timL (restT s.tims));rw[hrl];exact ho) (Or.inl (by rw[htv];rfl)) ?_ rfl rfl rfl rfl rfl rfl;refine⟨hs.os,hs.tape,hs.output,hs.size,fun k hk hn=>hs.block k hk (fun e=>hn (e.imp id (fun e=>?_)))⟩;rw[htv,e];rfl
  have e0:s.nextT=none:=by unfold NodeS.nextT;rw[hl];simp only;rw[if_neg hd]
  have e1:s.nextS=s:=by unfold NodeS.nextS;rw[e0];rfl
  refine(next_later nb 51 g cap s.tims (s.time:Int) w c51 hr hl0 (by rw[hd0];omega)).mono ?_;rintro e w' ⟨rfl,hb⟩;refine⟨by rw[e0];rfl,F,?_,Goes.below hb⟩;rw[e1];exact h.below hb
theorem Tryz.sizeTim3:(prog.info? 177).map (·.size)=some 3:=by kernel_rfl
theorem isOwn_fits(L:List EntV)(w:World):FitsAt 93 #[] (fun e=>e.own) L w:=by
 intro W e he hW;obtain⟨⟨K,H,R,f,v,nl,t⟩,fr,own⟩:=e;show Calls prog 93 #[.agg #[.int .i64 K,.int .i64 H,.int .i64 R,.int .i64 f,.int .i64 v,.bool nl,.string t,.string fr,.bool own]] W _;have hc:(W.alloc (.cells #[.int .i64 K,.int .i64 H,.int .i64 R,.int .i64 f,.int .i64 v,.bool nl,.string t,.string fr,.bool own] 164)).cell? ⟨W.heap.size,8,none⟩=some (.bool own):=cell_of_row _ W.heap.size 8 _ _ _ (heap_alloc_new W _);have HB1:Hid (Below W.heap.size W (W.alloc (.cells #[.int .i64 K,.int .i64 H,.int .i64 R,.int .i64 f,.int .i64 v,.bool nl,.string t,.string fr,.bool own] 164))):=(Below.refl _ W).alloc (Nat.le_refl _) _;clear he hW;go_enter func93,ntmps93;go_wp2;go_ret;exact⟨rfl,HB1.out⟩
theorem NodeW.only{w':World}(h:NodeW B es m F R nb kb rb cb n i s w)(ho:Only g w w')(hF:¬F g)(hR:¬R g)(hk:g≠kb)(hB:B≤g):NodeW B es m F R nb kb rb cb n i s w' where
 node:=h.node.frame fun k hk=>ho.block k (fun e=>hF (e▸hk))
 ring:=h.ring.frame fun k hk=>ho.block k (fun e=>hR (e▸hk))
 key:=h.key.keep (ho.block kb (fun e=>hk e.symm))
 idn:=h.idn
 fr:=h.fr
 kf:=h.kf
 kr:=h.kr
 fl:=fun k hk=>⟨(h.fl k hk).1,by rw[ho.size];exact(h.fl k hk).2⟩
 rl:=fun k hk=>⟨(h.rl k hk).1,by rw[ho.size];exact(h.rl k hk).2⟩
 glob:=h.glob.same fun k hk=>ho.block k (fun e=>by omega)
 bl:=by rw[ho.size];exact h.bl
theorem Goes.new{F' R':Nat→Prop}{w1 w2:World}(h:Goes F R w F' R' w1)(ho:Only g w1 w2)(hg:w.heap.size≤g):Goes F R w F' R' w2:=
 ⟨h.ff,h.rr,⟨ho.os.trans h.same.os,ho.tape.trans h.same.tape,ho.output.trans h.same.output,by rw[ho.size];exact h.same.size,fun k hk hn=>(ho.block k (fun e=>by omega)).trans (h.same.block k hk hn)⟩⟩
theorem NodeW.timeAt{t:Nat}(h:NodeW B es m F R nb kb rb cb n i s w)(e:s.time=t):w.cell? ⟨nb,50,none⟩=some (.int .i64 (t:Int)):=by
 obtain⟨V,hA,hf⟩:=h.node;rw[←e];exact hA.cell 50 rfl
theorem NodeW.nbLt(h:NodeW B es m F R nb kb rb cb n i s w):nb<w.heap.size:=by
 obtain⟨V,hA,hf⟩:=h.node;exact row_lt0 hA.blk
theorem nextS_time(s:NodeS):s.nextS.time=s.time:=by
 unfold NodeS.nextS;split<;>rfl
theorem nextT_some(h:s.nextT=some t):∃l,s.tims=t::l∧t.due≤(s.time:Int):=by
 unfold NodeS.nextT at h;split at h
 .cases h
 rename_i t' l e;split at h
 .rename_i hd;cases h;exact⟨l,e,hd⟩
 cases h
theorem dueF_stop(h:s.nextT=none):NodeS.dueF i (f+1) s=s:=by
 unfold NodeS.nextT at h;rw[NodeS.dueF];split at h
 .rename_i e;rw[e]
 rename_i t l e;rw[e];split at h
 .cases h
 rename_i hd;simp only
 rw[if_neg hd]
theorem dueF_step{l:List TimV}(h:s.tims=t::l)(hd:t.due≤(s.time:Int)):NodeS.dueF i (f+1) s=NodeS.dueF i f ((s.popS.expS i t).goOnS i):=by
 rw[NodeS.dueF,h];simp only
 rw[if_pos hd]
def clrD(d:DcnV):DcnV:={ d with told:=false }
def NodeS.clr(s:NodeS)(j:Nat):NodeS:={ s with time:=s.time+1,dec:=(s.dec.take j).map clrD++s.dec.drop j }
theorem clr_len(s:NodeS)(j:Nat):(s.clr j).dec.length=s.dec.length:=by
 show((s.dec.take j).map clrD++s.dec.drop j).length=_;simp;omega
theorem clr_step(s:NodeS)(j:Nat)(hj:j<s.dec.length):{ s.clr j with dec:=(s.clr j).dec.set j { (s.clr j).dec.getD j dcn0 with told:=false } }=s.clr (j+1):=by
 have h1:(s.clr j).dec=(s.dec.take j).map clrD++s.dec[j]::s.dec.drop (j+1):=by
  show(s.dec.take j).map clrD++s.dec.drop j=_;rw[List.drop_eq_getElem_cons hj]
 have hl:((s.dec.take j).map clrD).length=j:=by simp;omega
 have h2:(s.clr j).dec.getD j dcn0=s.dec[j]:=by
  rw[h1,List.getD_eq_getElem?_getD,List.getElem?_append_right (by omega),hl,Nat.sub_self];rfl
 have h3:(s.clr j).dec.set j { (s.clr j).dec.getD j dcn0 with told:=false }=(s.clr (j+1)).dec:=by
  rw[h2,h1,List.set_append_right _ _ (by omega),hl,Nat.sub_self,List.set_cons_zero];show _=(s.dec.take (j+1)).map clrD++s.dec.drop (j+1);rw[←List.take_append_getElem hj,List.map_append,List.append_assoc];rfl
 show({ s with time:=s.time+1,dec:=(s.clr j).dec.set j { (s.clr j).dec.getD j dcn0 with told:=false } }:NodeS)={ s with time:=s.time+1,dec:=(s.clr (j+1)).dec };rw[h3]
theorem clr_end(s:NodeS):s.clr s.dec.length=s.tick0:=by
 show { s with time:=s.time+1,dec:=(s.dec.take s.dec.length).map clrD++s.dec.drop s.dec.length }=_;rw[List.take_length,List.drop_length,List.append_nil];rfl
theorem tick_any{S T:Nat}(h:NodeW B es m F R nb kb rb cb n i s w)(ok:NOk S T i 0 s)(hT:T+1≤1000000000000)(hS:S≤900000000000):
 Calls prog 41 #[.pointer (some ⟨nb,0,none⟩)] w fun en w'=>en=.returned (.tuple #[])∧∃F' R',NodeW B es m F' R' nb kb rb cb n i (s.tickS i) w'∧Goes F R w F' R' w':=by
 obtain⟨V,hA,hf⟩:=h.node;have c50:w.cell? ⟨nb,50,none⟩=some (.int .i64 (s.time:Int)):=hA.cell 50 rfl;have f50:w.frozen? ⟨nb,50,none⟩=false:=hA.frozen 50;have htm:=ok.time;have hwt:IntKind.i64.wrap ((s.time:Int)+1)=(s.time:Int)+1:=wrap_small _ (by omega) (by omega);have hdl:s.dec.length≤12:=ok.hgt;obtain⟨wa,hwa⟩:=gen (w.setCell ⟨nb,50,none⟩ (.int .i64 ((s.time:Int)+1)));have hwA:NodeW B es m F R nb kb rb cb n i (s.clr 0) wa∧Goes F R w F R wa:=by
  rw[hwa];refine h.cellAt (s':=s.clr 0) hA hf ?_ (only_setCell _ _ _ _) rfl rfl rfl rfl rfl rfl rfl;rw[setCell_row hA.blk 50 _];rfl
 obtain⟨dp,dc,hdv⟩:∃dp dc,wa.cell? ⟨nb,35,none⟩=some (.slice dp s.dec.length dc):=by
  obtain⟨V1,hA1,_⟩:=hwA.1.node;obtain⟨p,c,e⟩:=own_slice hA1.dec;have h1:wa.cell? ⟨nb,35,none⟩=some V1.dv:=hA1.cell 35 rfl;have h2:V1.ds.length=s.dec.length:=by
   have e:=congrArg List.length hA1.eds;rw[List.length_map,clr_len] at e;exact e
  rw[e,h2] at h1;exact⟨p,c,h1⟩
 obtain⟨HWA,HGA,HWE,HOK⟩:=hide4 hwA.1 hwA.2 hwa ok;have HOK1:Hid (NOk S (T+1) i 0 s.tick0):=ok.tick0;obtain⟨HT,HS⟩:=hide2 hT hS;clear h hA hf ok hT hS htm hwA hwa;go_enter func41,ntmps41
 go_upto_region 1 with fail
 rw[←HWE.out];go_wp2;go_loopw [2,17] (fun _ iv wr=>∃j:Nat,j≤s.dec.length∧iv=.int .i64 j∧NodeW B es m F R nb kb rb cb n i (s.clr j) wr∧Goes F R w F R wr) (fun _ iv _=>s.dec.length-(intOf iv).toNat)
 case atStart=>exact⟨0,Nat.zero_le _,rfl,HWA.out,HGA.out⟩
 obtain⟨j,hj,rfl,hWj,hGj⟩:=hrel;obtain⟨HWJ,HGJ⟩:=hide2 hWj hGj;clear hWj hGj HWA HGA;by_cases hend:j=s.dec.length
 .have hge:¬(j:Int)<s.dec.length:=by omega
  obtain⟨w1,hw1⟩:=gen wr;subst hw1;have HW1:Hid (NodeW B es m F R nb kb rb cb n i s.tick0 w1):=by
   have h1:=HWJ.out;rw[hend,clr_end] at h1;exact h1
  have HG1:=hide HGJ.out;clear hend HWJ HGJ;obtain⟨s1,hs1⟩:=gen s.tick0;have HS1:=hide hs1;rw[←hs1] at HW1 HOK1;clear hs1;obtain⟨x,hx⟩:=gen s1.nextT;have hsx:s1.nextS.time=s1.time:=nextS_time s1;obtain⟨R1,hR1⟩:=gen R;have HNEXT:Hid (∀W,NodeW B es m F R1 nb kb rb cb n i s1 W→Calls prog 89 #[.pointer (some ⟨nb,51,none⟩),.int .i64 (s1.time:Int)] W fun e w'=>e=.returned (timR x)∧∃F',NodeW B es m F' R1 nb kb rb cb n i s1.nextS w'∧Goes F R1 W F' R1 w'):=fun W hW=>by
   have h1:=nodeNext_any hW (by have h2:=HOK1.out.tims;have h3:=(HOK1.out.st (by omega) HT.out HS.out).1.tb;omega);rw[←hx] at h1;exact h1
  have HX1:=hide hx;have C50:Hid (w1.cell? ⟨nb,50,none⟩=some (.int .i64 (s1.time:Int))):=HW1.out.timeAt rfl;have HWL:Hid (w.heap.size≤w1.heap.size):=HG1.out.same.size;have HNB:Hid (nb<w1.heap.size):=HW1.out.nbLt;rw[←hR1] at HW1 HG1;have HR1:=hide hR1;clear hx hR1
  go_upto_region 6 with fail
  go_cut [3,4] (fun u3 u4 wc=>∃tb F2,u3=.pointer (some ⟨tb,0,none⟩)∧u4=.bool x.isSome∧wc.heap[tb]? =some (.cells (timC (x.getD tim0)) 177 (0,0))∧¬F2 tb∧¬R1 tb∧w.heap.size≤tb∧NodeW B es m F2 R1 nb kb rb cb n i s1.nextS wc∧Goes F R1 w F2 R1 wc)
  case first=>
   refine rgd (S:=fun W=>W.cell? ⟨nb,50,none⟩=some (.int .i64 (s1.time:Int))) C50.out (fun hH=>?_);refine takeN [(0,some 29,pA nb 0),(1,some 30,pA nb 0),(2,some 31,pA nb 51),(3,some 32,pA nb 0),(4,some 33,pA nb 0),(5,some 34,pA nb 50),(6,some 35,.int .i64 (s1.time:Int))] _ _ hH (by repeat(first|exact True.intro|(refine tkc rfl rfl (Or.inl ⟨by rfl,fun x h=>by have f0:x.cell? ⟨nb,50,none⟩=some (.int .i64 (s1.time:Int)):=h;go_simp⟩) ?_;simp only[AP]))) ?_;simp only[takesA,AP,pA];refine rdy2 7 11 (fun K hK=>?_) (fun K hK=>?_)
   .go_simp;refine(HNEXT.out _ (HW1.out.below ((Below.refl _ w1).drew))).mono ?_;rintro en X2 ⟨rfl,F2,hW2,hG2⟩;have hc2:X2.cell? ⟨nb,50,none⟩=some (.int .i64 (s1.time:Int)):=hW2.timeAt hsx;refine hK.out _ _ hc2 (fun hH=>?_);clear hK K
    try simp only[AP,AQ]
    refine takeN [(8,some 28,timR x),(9,some 37,.agg (timC (x.getD tim0))),(10,some 38,.bool x.isSome)] _ _ hH (by repeat(first|exact True.intro|((first|(refine tkc rfl rfl (Or.inl ⟨by rfl,fun x h=>?_⟩) ?_;focus(unfold timR;go_simp;done))|(refine tkc rfl rfl (Or.inl ⟨by rfl,fun x h=>?_⟩) ?_;focus(go_simp;done)));simp only[AP]))) ?_;simp only[takesA,AP];refine rdy1 11 (fun K hK=>?_);go_simp;obtain⟨X3,hX3e⟩:=gen (X2.alloc (.cells #[.int .i64 0,.int .i64 0,.int .i64 0] 177));have hb3:Below X2.heap.size X2 X3:=by rw[hX3e];exact(Below.refl _ X2).alloc (Nat.le_refl _) _
    have hq3:X3.heap[X2.heap.size]? =some (.cells #[.int .i64 0,.int .i64 0,.int .i64 0] 177 (0,0)):=by rw[hX3e];exact heap_alloc_new X2 _
    rw[←hX3e];refine hK.out _ _ (Ext.cell hc2 (Ext.of hb3)) (fun hH=>?_);clear hK K hX3e
    try simp only[AP,AQ]
    refine rdy1 12 (fun K hK=>?_);rw[if_pos (by rfl)];refine wp_store_midG 177 _ _ rfl X2.heap.size 0 (timC (x.getD tim0)) rfl rfl 177 #[.int .i64 0,.int .i64 0,.int .i64 0] hq3 (by simp[timC]) (by simp[timC,Value.oneCell']) (by rw[Tryz.sizeTim3];rfl) ?_;intro X hqX hoX;have hqX2:X.heap[X2.heap.size]? =some (.cells (timC (x.getD tim0)) 177 (0,0)):=hqX;have hbX:Below X2.heap.size X2 X:=hb3.trans (hoX.below (Nat.le_refl _));refine hK.out _ _ (Ext.cell hc2 (Ext.of hbX)) (fun hH=>?_);clear hK K
    try simp only[AP,AQ]
    refine takeM [(13,some 4,.bool x.isSome)] _ _ hH ?_;simp only[takesA,AP];refine dnr ?_;go_wp2_with fail
    go_meet
    case rel=>exact⟨X2.heap.size,F2,rfl,rfl,hqX2,(fun h=>by have:=(hW2.fl _ h).2;omega),(fun h=>by have:=(hW2.rl _ h).2;omega),Nat.le_trans HWL.out (Nat.le_trans (Nat.le_refl _) hG2.same.size),hW2.below hbX,HG1.out.trans ((Goes.below ((Below.refl _ w1).drew)).trans (hG2.trans (Goes.below hbX)))⟩
   go_simp;obtain⟨X3,hX3e⟩:∃z,z=(w1.alloc (.cells #[.int .i64 0,.int .i64 0,.int .i64 0] 177)).drew:=⟨_,rfl⟩;have hb3:Below w1.heap.size w1 X3:=by rw[hX3e];exact((Below.refl _ w1).alloc (Nat.le_refl _) _).drew
   have hq3:X3.heap[w1.heap.size]? =some (.cells #[.int .i64 0,.int .i64 0,.int .i64 0] 177 (0,0)):=by rw[hX3e];exact heap_alloc_new w1 _
   rw[←hX3e];refine hK.out _ _ (Ext.cell C50.out (Ext.of hb3)) (fun hH=>?_);clear hK K hX3e
   try simp only[AP,AQ]
   refine rdy1 7 (fun K hK=>?_);go_simp;refine(HNEXT.out _ (HW1.out.below hb3)).mono ?_;rintro en X2 ⟨rfl,F2,hW2,hG2⟩;have hc2:X2.cell? ⟨nb,50,none⟩=some (.int .i64 (s1.time:Int)):=hW2.timeAt hsx;have hq2:X2.heap[w1.heap.size]? =some (.cells #[.int .i64 0,.int .i64 0,.int .i64 0] 177 (0,0)):=(hG2.same.block _ (row_lt0 hq3) (fun h=>h.elim (fun h=>by have:=(HW1.out.fl _ h).2;omega) (fun h=>by have:=(HW1.out.rl _ h).2;omega))).trans hq3;refine hK.out _ _ hc2 (fun hH=>?_);clear hK K
   try simp only[AP,AQ]
   refine takeN [(8,some 28,timR x),(9,some 37,.agg (timC (x.getD tim0))),(10,some 38,.bool x.isSome)] _ _ hH (by repeat(first|exact True.intro|((first|(refine tkc rfl rfl (Or.inl ⟨by rfl,fun x h=>?_⟩) ?_;focus(unfold timR;go_simp;done))|(refine tkc rfl rfl (Or.inl ⟨by rfl,fun x h=>?_⟩) ?_;focus(go_simp;done)));simp only[AP]))) ?_;simp only[takesA,AP];refine rdy1 12 (fun K hK=>?_);rw[if_pos (by rfl)];refine wp_store_midG 177 _ _ rfl w1.heap.size 0 (timC (x.getD tim0)) rfl rfl 177 #[.int .i64 0,.int .i64 0,.int .i64 0] hq2 (by simp[timC]) (by simp[timC,Value.oneCell']) (by rw[Tryz.sizeTim3];rfl) ?_;intro X hqX hoX;have hqX2:X.heap[w1.heap.size]? =some (.cells (timC (x.getD tim0)) 177 (0,0)):=hqX;have hnF:¬F2 w1.heap.size:=fun h=>(hG2.ff _ h).elim (fun h=>by have:=(HW1.out.fl _ h).2;omega) (fun h=>by have:=row_lt0 hq3;omega);have hnR:¬R1 w1.heap.size:=fun h=>by have:=(HW1.out.rl _ h).2;omega
   have hkb:w1.heap.size≠kb:=fun e=>by have:=HW1.out.key.lt;omega
   have hBl:B≤w1.heap.size:=HW1.out.bl;refine hK.out _ _ ((hoX.cell (p:=⟨nb,50,none⟩) (fun e=>by have h1:=HNB.out;have h2:nb=w1.heap.size:=e;omega)).trans hc2) (fun hH=>?_);clear hK K
   try simp only[AP,AQ]
   refine takeM [(13,some 4,.bool x.isSome)] _ _ hH ?_;simp only[takesA,AP];refine dnr ?_;go_wp2_with fail
   go_meet
   case rel=>exact⟨w1.heap.size,F2,rfl,rfl,hqX2,hnF,hnR,HWL.out,hW2.only hoX hnF hnR hkb hBl,(HG1.out.trans ((Goes.below hb3).trans hG2)).new hoX HWL.out⟩
  obtain⟨tb,F2,rfl,rfl,hq,hnF,hnR,hwl,hW2,hG2⟩:=hcut;have HSTART:Hid (∃(s':NodeS) (F' R':Nat→Prop) (tb':Nat) (x':Option TimV),Value.pointer (some ⟨tb,0,none⟩)=.pointer (some ⟨tb',0,none⟩)∧Value.bool x.isSome=.bool x'.isSome∧x'=s'.nextT∧wc.heap[tb']? =some (.cells (timC (x'.getD tim0)) 177 (0,0))∧¬F' tb'∧¬R' tb'∧w.heap.size≤tb'∧NodeW B es m F' R' nb kb rb cb n i s'.nextS wc∧Goes F R w F' R' wc∧NOk S (T+1) i 0 s'∧s'.dueN≤s.tims.length∧NodeS.dueF i (s.tims.length+1) s'=NodeS.dueF i (s.tims.length+1) s.tick0):=by
   refine⟨s1,F2,R1,tb,x,rfl,rfl,HX1.out,hq,hnF,hnR,hwl,hW2,?_,HOK1.out,?_,by rw[HS1.out]⟩
   .rw [HR1.out] at hG2 ⊢;exact hG2
   rw[HS1.out];exact List.countP_le_length
  clear hq hnF hnR hwl hW2 hG2 HNEXT HW1 HG1;go_wp2
  go_loopg [3,4] s.tims.length (fun q u3 u4 wr=>∃(s':NodeS) (F' R':Nat→Prop) (tb:Nat) (x:Option TimV),u3=.pointer (some ⟨tb,0,none⟩)∧u4=.bool x.isSome∧x=s'.nextT∧wr.heap[tb]? =some (.cells (timC (x.getD tim0)) 177 (0,0))∧¬F' tb∧¬R' tb∧w.heap.size≤tb∧NodeW B es m F' R' nb kb rb cb n i s'.nextS wr∧Goes F R w F' R' wr∧NOk S (T+1) i 0 s'∧s'.dueN≤q∧NodeS.dueF i (q+1) s'=NodeS.dueF i (s.tims.length+1) s.tick0)
  case atStart=>exact HSTART.out
  obtain⟨s',F0,R0,tb,x,rfl,rfl,hx,hq,hnF,hnR,hwl,hW0,hGW,hok,hdn,hfin⟩:=hrel;obtain⟨HW0,HGW,HOK0,HDN,HFIN,HNF,HNR,HWL0⟩:=hide8 hW0 hGW hok hdn hfin hnF hnR hwl;have HQ:=hide hq;clear hW0 hGW hok hdn hfin hnF hnR hwl hq HSTART;cases x with
  |none=>
   have HX:=hide hx.symm;clear hx;have HSF:Hid (NodeS.dueF i (s.tims.length+1) s.tick0=s'):=by
    rw[←HFIN.out];exact dueF_stop HX.out
   have hnx:s'.nextS=s':=by
    unfold NodeS.nextS;rw[HX.out];rfl
   rw[hnx] at HW0;clear hnx;obtain⟨sF,hsF⟩:=gen s';rw[←hsF] at HSF HW0 HOK0 HX HFIN;clear hsF;obtain⟨w9,hw9⟩:=gen wr;subst hw9;have HW9:=hide HW0.out;obtain⟨V9,hA9,hf9⟩:=HW0.out.node;obtain⟨lp,lc,-,c37,hlm,hle⟩:=hA9.logAt;have c50:w9.cell? ⟨nb,50,none⟩=some (.int .i64 (sF.time:Int)):=hA9.cell 50 rfl;have C37:=hide c37;have HFR:Hid (∀W,Below w9.heap.size w9 W→Calls prog 92 #[.slice lp sF.log.length lc,.func (.func 93) #[] #[]] W fun e w'=>∃v,e=.returned v∧w'.ownsRow W.heap.size 9 1 v (framesL (fun e=>e.own) sF.log).length ((framesL (fun e=>e.own) sF.log).map .string)∧Below W.heap.size W w'):=fun W hW=>frames_any 93 #[] (fun e=>e.own) sF.log lp lc W (enters_of func93 (by decide) rfl) (hle.ext (Ext.of hW)) (by have:=(HOK0.out.lens (by omega)).1;omega) (isOwn_fits sF.log W);have HLL:Hid (sF.log.length≤2000):=(HOK0.out.lens (by omega)).1;clear hA9 hf9 hlm hle c37;by_cases h5:sF.time % 5=0;focus
    have q5:((sF.time:Int).tmod 5==0)=true:=by rw[beq_iff_eq,Int.tmod_eq_emod_of_nonneg (by omega)];omega
    go_upto_region 14 with fail
    refine rgd (S:=fun W=>W.cell? ⟨nb,37,none⟩=some (.slice lp sF.log.length lc)) C37.out (fun hH=>?_);refine takeN [(0,some 63,pA nb 0),(1,some 64,pA nb 0),(2,some 65,pA nb 53),(3,some 66,pA nb 0),(4,some 67,pA nb 0),(5,some 68,pA nb 37),(6,some 69,.slice lp sF.log.length lc)] _ _ hH (by repeat(first|exact True.intro|(refine tkc rfl rfl (Or.inl ⟨by rfl,fun x h=>by have f0:x.cell? ⟨nb,37,none⟩=some (.slice lp sF.log.length lc):=h;go_simp⟩) ?_;simp only[AP]))) ?_;simp only[takesA,AP,pA];refine rdy1 7 (fun K hK=>?_);go_simp;refine(HFR.out _ ((Below.refl _ w9).drew)).mono ?_;rintro en X2 ⟨v5,rfl,hv5,hb5⟩;obtain⟨p5,c5,rfl,hm5,hl5⟩:=own_lies hv5;have hX2:Below w9.heap.size w9 X2:=(Below.refl _ w9).drew.trans (hb5.mono (Nat.le_refl _));refine hK.out _ _ (Ext.cell C37.out (Ext.of hX2)) (fun hH=>?_);clear hK K
    try simp only[AP,AQ]
    have hW5:=HW9.out.below hX2;obtain⟨V5,hA5,hf5⟩:=hW5.node;have HPUT:=hide (put_any nb 53 cb (framesL (fun e=>e.own) sF.log).length c5 p5 (fun j=>(framesL (fun e=>e.own) sF.log).getD j ByteArray.empty) sF.out X2 (by have h1:=framesL_le (fun e=>e.own) sF.log;have h2:=HLL.out;omega) hA5.nc hA5.chan (hA5.cell 53 rfl) (fun j hj=>by
     obtain⟨b,o,hp,hbl,hcell⟩:=hl5 j hj;refine⟨b,o,hp,fun e=>?_,hcell⟩;exact own_nc hv5 hA5.chan (by rw[hp,e];rfl)))
    rw[putN_all] at HPUT;refine rdy1 8 (fun K hK=>?_);go_simp;refine HPUT.out.mono ?_;rintro en X3 ⟨rfl,hch3,ho3⟩;obtain⟨hW6,hG6⟩:=hW5.outTurn hch3 ho3;refine hK.out _ _ (ho3.cell hH hA5.nc) (fun hH=>?_);clear hK K
    try simp only[AP,AQ]
    refine dnr ?_;have HEND:Hid (NodeW B es m F0 R0 nb kb rb cb n i (s.tickS i) X3∧Goes F R w F0 R0 X3):=by
     unfold NodeS.tickS NodeS.again;rw[HSF.out,if_pos h5];exact⟨hW6,HGW.out.trans ((Goes.below hX2).trans hG6)⟩
    clear hW6 hG6 hW5 hA5 hf5
   rotate_left;focus
    have q5:((sF.time:Int).tmod 5==0)=false:=by rw[beq_eq_false_iff_ne,Ne,Int.tmod_eq_emod_of_nonneg (by omega)];omega
    have HEND:Hid (NodeW B es m F0 R0 nb kb rb cb n i (s.tickS i) w9∧Goes F R w F0 R0 w9):=by
     unfold NodeS.tickS NodeS.again;rw[HSF.out,if_neg h5];exact⟨HW0.out,HGW.out⟩
   rotate_left;all_goals
    go_wp2;first|exact bodyPost_end (v:=.tuple #[]) (by simp[results,results41]) rfl ⟨rfl,F0,R0,HEND.out.1,HEND.out.2⟩|exact bodyPost_ret (v:=.tuple #[]) (by simp[results,results41]) rfl ⟨rfl,F0,R0,HEND.out.1,HEND.out.2⟩
  |some t=>
   have HX:=hide hx.symm;clear hx;have HOKP:=hide (HOK0.out.pop);have hnx:s'.nextS=s'.popS:=by
    unfold NodeS.nextS;rw[HX.out];rfl
   rw[hnx] at HW0;clear hnx;obtain⟨tl,htl,hdu⟩:=nextT_some HX.out;have HSTEP:=hide (due_step (i:=i) htl hdu);obtain⟨q,hq⟩:∃q,gk=q+1:=⟨gk-1,by have h1:=HSTEP.out;have h2:=HDN.out;omega⟩;subst hq;obtain⟨HFS,HOKE⟩:=hide2 (dueF_step (i:=i) (f:=q+1) htl hdu) (HOKP.out.exp (t:=t));have HGO:=hide (HOKE.out.runs.2);obtain⟨s2,hs2⟩:∃z,z=(s'.popS.expS i t).goOnS i:=⟨_,rfl⟩;rw[←hs2] at HSTEP HGO;have HS2:=hide hs2;clear hs2 htl hdu;obtain⟨w4,hw4⟩:=gen wr;subst hw4;have HEX:=hide (expire_any t HW0.out (HOKP.out.st (by omega) HT.out HS.out).1 (by omega) (HOKP.out.st (by omega) HT.out HS.out).2);go_wp2_with (first|(refine wpList_load_row rfl 177 _ rfl tb rfl 177 (timC t) (0,0) _ HQ.out underlying177 rfl (by rw[Tryz.sizeTim3];rfl) ?_)|fail)
   refine HEX.out.mono ?_;rintro en w5 ⟨rfl,F5,R5,hW5,hG5⟩;have hq5:w5.heap[tb]? =some (.cells (timC t) 177 (0,0)):=(hG5.same.block _ (row_lt0 HQ.out) (fun h=>h.elim HNF.out HNR.out)).trans HQ.out;have hnF5:¬F5 tb:=fun h=>(hG5.ff _ h).elim HNF.out (fun h=>by have:=row_lt0 HQ.out;omega);have hnR5:¬R5 tb:=fun h=>(hG5.rr _ h).elim HNR.out (fun h=>by have:=row_lt0 HQ.out;omega);obtain⟨HG5,HGOC⟩:=hide2 hG5 (goOn_all hW5 HOKE.out HT.out HS.out);clear hW5 hG5 HEX;go_wp2_with fail
   refine HGOC.out.mono ?_;rintro en w6 ⟨rfl,F6,R6,hW6,hG6⟩;have HQ6:Hid (w6.heap[tb]? =some (.cells (timC t) 177 (0,0))):=(hG6.same.block _ (row_lt0 hq5) (fun h=>h.elim hnF5 hnR5)).trans hq5;rw[←HS2.out] at hW6;obtain⟨HW6,HG6⟩:=hide2 hW6 hG6;clear hW6 hG6 HGOC hq5 hnF5 hnR5
   go_upto_region 8 with(first|(refine wpList_load_row rfl 177 _ rfl tb rfl 177 (timC t) (0,0) _ HQ6.out underlying177 rfl (by rw[Tryz.sizeTim3];rfl) ?_)|(refine wpList_store_new rfl 177 _ _ rfl w6 (timC t) rfl rfl 177 _ rfl (by simp[timC,Value.oneCell']) (by rw[Tryz.sizeTim3];rfl) ?_;intro w8 hq8 hb8 hz8;have HQ8:=hide hq8;have HB8:=hide hb8;clear hq8 hb8 hz8)|fail)
   have HW8:=hide (HW6.out.below HB8.out);obtain⟨tb2,htb2⟩:=gen w6.heap.size;rw[←htb2] at HQ8;rw[←htb2];have HNF8:Hid (¬F6 tb2):=fun h=>by have:=(HW6.out.fl _ h).2;omega
   have HNR8:Hid (¬R6 tb2):=fun h=>by have:=(HW6.out.rl _ h).2;omega
   have HNB8:Hid (tb2≠nb):=fun e=>by have h1:=HW6.out.nbLt;omega
   have HKB8:Hid (tb2≠kb):=fun e=>by have h1:=HW6.out.key.lt;omega
   have HBL8:Hid (B≤tb2):=by rw[htb2];exact HW6.out.bl
   have HWL8:Hid (w.heap.size≤tb2):=by rw[htb2];exact Nat.le_trans HGW.out.same.size (Nat.le_trans HG5.out.same.size HG6.out.same.size)
   clear htb2;obtain⟨x,hx⟩:=gen s2.nextT;have hsx:s2.nextS.time=s2.time:=nextS_time s2;have HNEXT:Hid (∀W,NodeW B es m F6 R6 nb kb rb cb n i s2 W→Calls prog 89 #[.pointer (some ⟨nb,51,none⟩),.int .i64 (s2.time:Int)] W fun e w'=>e=.returned (timR x)∧∃F',NodeW B es m F' R6 nb kb rb cb n i s2.nextS w'∧Goes F6 R6 W F' R6 w'):=fun W hW=>by
    have h1:=nodeNext_any hW (by have h2:=HGO.out.tims;have h3:=(HGO.out.st (by omega) HT.out HS.out).1.tb;omega);rw[←hx] at h1;exact h1
   have C50:Hid (w8.cell? ⟨nb,50,none⟩=some (.int .i64 (s2.time:Int))):=by
    obtain⟨V8,hA8,_⟩:=HW8.out.node;exact hA8.cell 50 rfl
   have HX2:=hide hx;clear hx;refine rgd (S:=fun W=>W.cell? ⟨nb,50,none⟩=some (.int .i64 (s2.time:Int))) C50.out (fun hH=>?_);refine takeN [(0,some 41,pA nb 0),(1,some 42,pA nb 0),(2,some 43,pA nb 51),(3,some 44,pA nb 0),(4,some 45,pA nb 0),(5,some 46,pA nb 50),(6,some 47,.int .i64 (s2.time:Int))] _ _ hH (by repeat(first|exact True.intro|(refine tkc rfl rfl (Or.inl ⟨by rfl,fun x h=>by have f0:x.cell? ⟨nb,50,none⟩=some (.int .i64 (s2.time:Int)):=h;go_simp⟩) ?_;simp only[AP]))) ?_;simp only[takesA,AP,pA];refine rdy1 7 (fun K hK=>?_);go_simp;refine(HNEXT.out _ (HW8.out.below ((Below.refl _ w8).drew))).mono ?_;rintro en X2 ⟨rfl,F3,hW2,hG2⟩;have hc2:X2.cell? ⟨nb,50,none⟩=some (.int .i64 (s2.time:Int)):=hW2.timeAt hsx;have hq2:X2.heap[tb2]? =some (.cells (timC t) 177 (0,0)):=(hG2.same.block _ (row_lt0 HQ8.out) (fun h=>h.elim HNF8.out HNR8.out)).trans HQ8.out;refine hK.out _ _ hc2 (fun hH=>?_);clear hK K
   try simp only[AP,AQ]
   refine takeN [(8,some 40,timR x),(9,some 49,.agg (timC (x.getD tim0))),(10,some 50,.bool x.isSome)] _ _ hH (by repeat(first|exact True.intro|((first|(refine tkc rfl rfl (Or.inl ⟨by rfl,fun x h=>?_⟩) ?_;focus(unfold timR;go_simp;done))|(refine tkc rfl rfl (Or.inl ⟨by rfl,fun x h=>?_⟩) ?_;focus(go_simp;done)));simp only[AP]))) ?_;simp only[takesA,AP];refine rdy1 11 (fun K hK=>?_);rw[if_pos (by rfl)];refine wp_store_midG 177 _ _ rfl tb2 0 (timC (x.getD tim0)) rfl rfl 177 (timC t) hq2 (by simp[timC]) (by simp[timC,Value.oneCell']) (by rw[Tryz.sizeTim3];rfl) ?_;intro X hqX hoX;have hqX2:X.heap[tb2]? =some (.cells (timC (x.getD tim0)) 177 (0,0)):=hqX;have hnF:¬F3 tb2:=fun h=>(hG2.ff _ h).elim HNF8.out (fun h=>by have:=row_lt0 HQ8.out;have h2:w8.drew.heap.size=w8.heap.size:=rfl;omega);refine hK.out _ _ ((hoX.cell (p:=⟨nb,50,none⟩) (fun e=>HNB8.out e.symm)).trans hc2) (fun hH=>?_);clear hK K
   try simp only[AP,AQ]
   refine takeM [(12,some 4,.bool x.isSome)] _ _ hH ?_;simp only[takesA,AP];refine dnr ?_;have HREL:Hid (NodeW B es m F3 R6 nb kb rb cb n i s2.nextS X∧Goes F R w F3 R6 X):=⟨hW2.only hoX hnF HNR8.out HKB8.out HBL8.out,(HGW.out.trans (HG5.out.trans (HG6.out.trans ((Goes.below HB8.out).trans ((Goes.below ((Below.refl _ w8).drew)).trans hG2))))).new hoX HWL8.out⟩;obtain⟨HQX,HNX⟩:=hide2 hqX2 hnF;clear hW2 hG2 hoX hnF hqX hqX2 hq2 hc2;go_wp2
   go_roundg q
   case rel=>exact⟨s2,F3,R6,tb2,x,rfl,rfl,HX2.out,HQX.out,HNX.out,HNR8.out,HWL8.out,HREL.out.1,HREL.out.2,HGO.out,by have h1:=HSTEP.out;have h2:=HDN.out;omega,by rw[←HFIN.out,HFS.out,HS2.out]⟩
   case measure=>omega
 have hlt:j<s.dec.length:=by omega
 have hlt2:(j:Int)<s.dec.length:=by omega
 obtain⟨V1,hA1,hf1⟩:=HWJ.out.node;obtain⟨g,cap,cv,hdv1,hmax,hds,e1,e2,e3,⟨C,hC,hCs⟩,hcap⟩:=hA1.dcnAt j (by rw[clr_len];exact hlt);have c35:wr.cell? ⟨nb,35,none⟩=some (.slice (some ⟨g,0,none⟩) s.dec.length cap):=by
  have h1:wr.cell? ⟨nb,35,none⟩=some V1.dv:=hA1.cell 35 rfl;rw[hdv1,clr_len] at h1;exact h1
 have f3:wr.frozen? ⟨g,j*4+3,none⟩=false:=frozen_row hC _;obtain⟨hW2,hG2⟩:=HWJ.out.toldTurn hA1 hf1 hdv1 (by rw[clr_len];exact hlt) false;rw[clr_step s j hlt] at hW2;have HEND:Hid (NodeW B es m F R nb kb rb cb n i (s.clr (j+1)) (wr.setCell ⟨g,j*4+3,none⟩ (.bool false))∧Goes F R w F R (wr.setCell ⟨g,j*4+3,none⟩ (.bool false))):=⟨hW2,HGJ.out.trans hG2⟩;clear hA1 hf1 hdv1 hmax hds e1 e2 hC hCs hW2 hG2 hend;go_wp2;go_roundw
 case rel=>exact⟨j+1,by omega,by go_num,HEND.out.1,HEND.out.2⟩
 case measure=>simp[intOf];omega
end Go.Proofs.YtcfjhbcpjpgodaaGreatDoor

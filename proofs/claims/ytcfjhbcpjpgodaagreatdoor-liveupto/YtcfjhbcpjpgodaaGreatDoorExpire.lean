import Derived.Test.YtcfjhbcpjpgodaaGreatDoorJ26
namespace Go.Proofs.YtcfjhbcpjpgodaaGreatDoor
open Go.RowKit Proofs.Tryz
set_option maxRecDepth 100000
set_option maxHeartbeats 0
set_option linter.all false
theorem zap{B:Nat}{es:List Addr}{m:Int}{F R:Nat->Prop}{nb kb rb cb n i N:Nat}{s:za}(t:zU){w:World}(h:NodeW B es m F R nb kb rb cb n i s w)(ok:YI N s)(hN:N<=10000000)(hsg:(s.sg i).length<=1000000000000):
 Calls prog 90 #[pA nb 0,.agg #[iA t.n,iA t.h,iA t.r]] w λen w'=>en=.returned (.tuple #[])/\∃F' R',NodeW B es m F' R' nb kb rb cb n i (s.zga i t) w'/\Goes F R w F' R' w':=by
 obtain⟨tn,th,tr,td,tg⟩:=t;obtain⟨V,hA,hf⟩:=h.node;show Calls prog 90 #[pA nb 0,.agg #[iA tn,iA th,iA tr]] w λen w'=>en=.returned (.tuple #[])/\∃F' R',NodeW B es m F' R' nb kb rb cb n i (s.zga i ⟨tn,th,tr,td,tg⟩) w'/\Goes F R w F' R' w';obtain⟨w1,an⟩:=gen (w.alloc (.cells #[iA tn,iA th,iA tr] 177));have aq:BW w w1:=by rw[an];exact bwA w
 have ao:w1.heap[w.heap.size]? =some (.cells #[iA tn,iA th,iA tr] 177 (0,0)):=by rw[an];exact zjC w _
 have al:=zc (hA.below aq);have C0:Hid (cN w1 w 0 (iA tn)):=zjD w1 w.heap.size 0 _ _ _ ao;have C1:Hid (cN w1 w 1 (iA th)):=zjD w1 w.heap.size 1 _ _ _ ao;have C2:Hid (cN w1 w 2 (iA tr)):=zjD w1 w.heap.size 2 _ _ _ ao;have C43:Hid (cE w1 nb 43 (iA s.round)):=al.o.cell 43 rfl;have C44:Hid (cE w1 nb 44 (iA s.step)):=al.o.cell 44 rfl;have ak:Hid (YI N s/\(s.sg i).length<=1000000000000):=⟨ok,hsg⟩;have hrb:(s.round:Int)<=20:=by have:=ok.rnd;omega
 obtain⟨aD,aa,aC⟩:=zS (h.below aq) aq an;clear h hA hf ok hsg aq ao an;go_enter func90,ntmps90;obtain⟨q,hq⟩:=gen (!(decide (th=(s.zfF:Int))&&decide (tr=(s.round:Int))));have HQ:=zc hq;clear hq
 go_upto_region 1 with fail
 rw[<-aC.o]
 go_cut [18] (λu wc=>u=bA q/\BW w1 wc)
 case first=>
  refine rgd (S:=λX=>BW w1 X) ((zjB _ w1).drew) λhH=>?_;by_cases h1:th=(s.zfF:Int)
  .have q1:(th != (s.zfF:Int))=false:=by simp[h1]
   by_cases h2:tr=(s.round:Int);focus
    have q2:(tr != (s.round:Int))=false:=by simp[h2]
    have q3:q=false:=by rw[HQ.o,zjQ h1,zjQ h2];rfl
    subst q3;clear h1 h2;refine zQ [(0,some 4,pA w.heap.size 1),(1,some 5,iA th),(2,some 6,pA nb 0)] _ _ hH (λx h=>show cN x w 1 (iA th) from Ext.cell C1.o (Ext.of h)) ?_;simp only[ze,AP,pA];refine zv 3 λK hK=>?_;go_simp;refine(zH nb kb cb V s _ (al.o.below hH)).mono ?_;rintro en X2 ⟨rfl,rfl⟩;refine hK.out _ _ (hH) λhH=>?_;clear hK K
    try simp only[AP,AQ]
    refine zQ [(4,some 8,bA false),(5,some 9,bA false),(6,some 10,pA w.heap.size 2),(7,some 11,iA tr),(8,some 12,pA nb 0),(9,some 13,pA nb 0),(10,some 14,pA nb 43),(11,some 15,pA nb 43),(12,some 16,iA s.round),(13,some 17,bA false),(14,some 18,bA false)] _ _ hH (λx h=>aI (show cN x w 2 (iA tr) from Ext.cell C2.o (Ext.of h)) (show cE x nb 43 (iA s.round) from Ext.cell C43.o (Ext.of h))) ?_
   rotate_left;focus
    have q2:(tr != (s.round:Int))=true:=by simp[h2]
    have q3:q=true:=by rw[HQ.o,zjR h2,Bool.and_false];rfl
    subst q3;clear h1 h2;refine zQ [(0,some 4,pA w.heap.size 1),(1,some 5,iA th),(2,some 6,pA nb 0)] _ _ hH (λx h=>show cN x w 1 (iA th) from Ext.cell C1.o (Ext.of h)) ?_;simp only[ze,AP,pA];refine zv 3 λK hK=>?_;go_simp;refine(zH nb kb cb V s _ (al.o.below hH)).mono ?_;rintro en X2 ⟨rfl,rfl⟩;refine hK.out _ _ (hH) λhH=>?_;clear hK K
    try simp only[AP,AQ]
    refine zQ [(4,some 8,bA false),(5,some 9,bA false),(6,some 10,pA w.heap.size 2),(7,some 11,iA tr),(8,some 12,pA nb 0),(9,some 13,pA nb 0),(10,some 14,pA nb 43),(11,some 15,pA nb 43),(12,some 16,iA s.round),(13,some 17,bA true),(14,some 18,bA true)] _ _ hH (λx h=>aI (show cN x w 2 (iA tr) from Ext.cell C2.o (Ext.of h)) (show cE x nb 43 (iA s.round) from Ext.cell C43.o (Ext.of h))) ?_
   rotate_left;all_goals
    simp only[ze,AP,pA];refine dnr ?_;go_wp2_with fail
    go_meet
    case rel=>exact⟨rfl,hH⟩
  have q1:(th != (s.zfF:Int))=true:=by simp[h1]
  have q3:q=true:=by rw[HQ.o,zjR h1];rfl
  subst q3;refine zQ [(0,some 4,pA w.heap.size 1),(1,some 5,iA th),(2,some 6,pA nb 0)] _ _ hH (λx h=>show cN x w 1 (iA th) from Ext.cell C1.o (Ext.of h)) ?_;simp only[ze,AP,pA];refine zv 3 λK hK=>?_;go_simp;refine(zH nb kb cb V s _ (al.o.below hH)).mono ?_;rintro en X2 ⟨rfl,rfl⟩;refine hK.out _ _ (hH) λhH=>?_;clear hK K
  try simp only[AP,AQ]
  refine zQ [(4,some 8,bA true),(5,some 9,bA true),(6,some 10,undef),(7,some 11,undef),(8,some 12,undef),(9,some 13,undef),(10,some 14,undef),(11,some 15,undef),(12,some 16,undef),(13,some 17,undef),(14,some 18,bA true)] _ _ hH (λ_ h=>h) ?_;simp only[ze,AP];refine dnr ?_;go_wp2_with fail
  go_meet
  case rel=>exact⟨rfl,hH⟩
 obtain⟨w2,az⟩:=gen wc;subst az;obtain⟨rfl,aj⟩:=hcut;have HX:=zc aj;have c0:cN w2 w 0 (iA tn):=Ext.cell C0.o (Ext.of aj);have c43:cE w2 nb 43 (iA s.round):=Ext.cell C43.o (Ext.of aj);have c44:cE w2 nb 44 (iA s.step):=Ext.cell C44.o (Ext.of aj);have HW:=zc (aD.o.below aj);clear aj;by_cases ag:th=(s.zfF:Int)/\tr=(s.round:Int)
 .have q3:q=false:=by rw[HQ.o,zjQ ag.1,zjQ ag.2];rfl
  subst q3;by_cases h3:tn=1/\s.step=1
  .obtain ⟨ax,aw⟩:=h3
   have ad:Hid (za.zga s i ⟨tn,th,tr,td,tg⟩=s.nothing i 2 2):=by unfold Hid za.zga;rw[zj2 ag,zj2 ⟨ax,aw⟩]
   have q3:(tn==1)=true:=by simp[ax]
   have q4:((s.step:Int)==1)=true:=by simp[aw]
   go_wp2_with fail
   refine(jf HW.o ak.o.1 (by omega) ak.o.2).mono ?_;rintro en Y ⟨rfl,F',R',ae,af⟩;obtain⟨ai,ah⟩:=zn ae af;clear ae af;go_wp2;first|exact bodyPost_end (v:=.tuple #[]) (by simp[results,results90]) rfl ⟨rfl,F',R',by rw[ad.o];exact ai.o,(Goes.below (aa.o.trans (HX.o.mono aa.o.size))).trans ah.o⟩|exact zjT (v:=.tuple #[]) (by simp[results,results90]) rfl ⟨rfl,F',R',by rw[ad.o];exact ai,(Goes.below (aa.o.trans (HX.o.mono aa.o.size))).trans ah⟩
  by_cases h4:tn=2/\s.step=2
  .obtain ⟨au,av⟩:=h4
   have ad:Hid (za.zga s i ⟨tn,th,tr,td,tg⟩=s.nothing i 3 3):=by unfold Hid za.zga;rw[zj2 ag,zj3 h3,zj2 ⟨au,av⟩]
   have q1b:(tn==1)=false:=by simp[au]
   have q3:(tn==2)=true:=by simp[au]
   have q4:((s.step:Int)==2)=true:=by simp[av]
   go_wp2_with fail
   refine(qw HW.o ak.o.1 (by omega) ak.o.2).mono ?_;rintro en Y ⟨rfl,F',R',ae,af⟩;obtain⟨ai,ah⟩:=zn ae af;clear ae af;go_wp2;first|exact bodyPost_end (v:=.tuple #[]) (by simp[results,results90]) rfl ⟨rfl,F',R',by rw[ad.o];exact ai.o,(Goes.below (aa.o.trans (HX.o.mono aa.o.size))).trans ah.o⟩|exact zjT (v:=.tuple #[]) (by simp[results,results90]) rfl ⟨rfl,F',R',by rw[ad.o];exact ai,(Goes.below (aa.o.trans (HX.o.mono aa.o.size))).trans ah⟩
  by_cases h5:tn=3/\s.round<20
  .obtain ⟨ar,aB⟩:=h5
   have ad:Hid (za.zga s i ⟨tn,th,tr,td,tg⟩=s.zfH i (s.round+1)):=by unfold Hid za.zga;rw[zj2 ag,zj3 h3,zj3 h4,zj2 ⟨ar,aB⟩]
   have q1b:(tn==1)=false:=by simp[ar]
   have q2b:(tn==2)=false:=by simp[ar]
   have q3:(tn==3)=true:=by simp[ar]
   have q4:(s.round:Int)<20:=by omega
   have ay:=zc (λW (hW:NodeW B es m F R nb kb rb cb n i s W)=>jw (s.round+1) hW ak.o.1 (by omega) (by omega) ak.o.2);have aE:Hid (((s.round+1:Nat):Int)=(s.round:Int)+1):=by unfold Hid;omega
   rw[aE.o] at ay;go_wp2_with fail
   refine(ay _ HW).mono ?_;rintro en Y ⟨rfl,F',R',ae,af⟩;obtain⟨ai,ah⟩:=zn ae af;clear ae af;go_wp2;first|exact bodyPost_end (v:=.tuple #[]) (by simp[results,results90]) rfl ⟨rfl,F',R',by rw[ad.o];exact ai.o,(Goes.below (aa.o.trans (HX.o.mono aa.o.size))).trans ah.o⟩|exact zjT (v:=.tuple #[]) (by simp[results,results90]) rfl ⟨rfl,F',R',by rw[ad.o];exact ai,(Goes.below (aa.o.trans (HX.o.mono aa.o.size))).trans ah⟩
  have ad:Hid (za.zga s i ⟨tn,th,tr,td,tg⟩=s):=by unfold Hid za.zga;rw[zj2 ag,zj3 h3,zj3 h4,zj3 h5]
  have hc:((tn==1)=true/\((s.step:Int)==1)=false\/(tn==1)=false)/\((tn==2)=true/\((s.step:Int)==2)=false\/(tn==2)=false)/\((tn==3)=true/\decide ((s.round:Int)<20)=false\/(tn==3)=false):=by
   simp only[beq_iff_eq,beq_eq_false_iff_ne,decide_eq_false_iff_not,ne_eq];omega
  clear h3 h4 h5;rcases hc with⟨⟨a1,a2⟩|a1,⟨b1,b2⟩|b1,⟨d1,d2⟩|d1⟩;all_goals
   go_wp2;first|exact bodyPost_end (v:=.tuple #[]) (by simp[results,results90]) rfl ⟨rfl,F,R,by rw[ad.o];exact HW.o,Goes.below (aa.o.trans (HX.o.mono aa.o.size))⟩|exact zjT (v:=.tuple #[]) (by simp[results,results90]) rfl ⟨rfl,F,R,by rw[ad.o];exact HW,Goes.below (aa.o.trans (HX.o.mono aa.o.size))⟩
 have ad:Hid (za.zga s i ⟨tn,th,tr,td,tg⟩=s):=by unfold Hid za.zga;rw[zj3 ag]
 have q3:q=true:=by
  rw[HQ.o];cases h6:decide (th=(s.zfF:Int))<;>cases h7:decide (tr=(s.round:Int))<;>first|rfl|exact absurd ⟨zjP h6,zjP h7⟩ ag
 subst q3;go_wp2;first|exact bodyPost_end (v:=.tuple #[]) (by simp[results,results90]) rfl ⟨rfl,F,R,by rw[ad.o];exact HW.o,Goes.below (aa.o.trans (HX.o.mono aa.o.size))⟩|exact zjT (v:=.tuple #[]) (by simp[results,results90]) rfl ⟨rfl,F,R,by rw[ad.o];exact HW,Goes.below (aa.o.trans (HX.o.mono aa.o.size))⟩

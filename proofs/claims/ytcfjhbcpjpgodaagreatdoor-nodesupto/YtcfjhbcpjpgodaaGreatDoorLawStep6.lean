import Derived.Test.YtcfjhbcpjpgodaaGreatDoorJ40
namespace Go.Proofs.YtcfjhbcpjpgodaaGreatDoor
open Go.RowKit Proofs.Tryz
set_option maxRecDepth 100000
set_option maxHeartbeats 0
set_option linter.all false
theorem xj{w:World}{base:Nat}{v:Value}{x:Nat->Int}(h:w.ownsRow base 3 1 v 8 (vC x 8)):∃p c,v=.slice p 8 c/\kG w w.heap.size p 8 (λi=>iA (x i)):=by
 obtain⟨p,c,rfl⟩:=zl h;exact⟨p,c,rfl,xt h λi hi=>by simp[vC,hi]⟩
theorem xi{w:World}{base:Nat}{v:Value}{x:Nat->Int}{l:List Nat}(h:w.ownsRow base 3 1 v l.length (jE x l)):∃p c,v=.slice p l.length c/\kG w w.heap.size p l.length (λi=>iA (x (8+l.getD i 0))):=by
 obtain⟨p,c,rfl⟩:=zl h;exact⟨p,c,rfl,xt h λi hi=>by simp[jE,List.getD_eq_getElem?_getD,hi]⟩
section
variable{Q:Gst}{es:List Addr}{m:Int}{i wb xb yb ra rc:Nat}{ka kd:Nat->Nat}{gp gc hp hc S T N K:Nat}{w:World}
theorem zcC(h:LawM Q es m i wb xb yb ra rc ka kd gp gc hp hc S T N K w)(hB:XC S T N K)(mk mh mr mf mv:Int)(mn:Bool)(ms:zgW)(osg:Int)(oraw:zgW)(on:Int)(ho:QK ⟨8,⟨mk,mh,mr,mf,mv,mn,ms⟩,osg,oraw,on⟩):
 Calls prog 17 #[pA wb 0,.agg #[iA 8,iA mk,iA mh,iA mr,iA mf,iA mv,bA mn,sA ms,iA osg,sA oraw,iA on]] w (x9 Q es m i wb xb yb ra rc ka kd gp gc hp hc S T N K):=by
 obtain⟨hBS,hBT,hBN,hBK⟩:=hB;obtain⟨w1,Q1,aY,bc,bl,a8⟩:=ke h ⟨8,⟨mk,mh,mr,mf,mv,mn,ms⟩,osg,oraw,on⟩;obtain⟨aQ,aV,aT,aU⟩:=yi aY bc bl a8;unfold OpV.cells at aQ aT;dsimp only at aQ aT;have HO:=zc ho;clear h aY bc bl a8 ho;go_enter func17,ntmps17
 go_upto_region 1 with fail
 rw[<-aQ.o];have an:=aV.o.guest aT;have o0:cN w1 w 0 (iA 8):=zgs w1 w.heap.size 0 _ _ _ an;clear an;obtain⟨s,sent,K0,KT0,⟨⟨cb,FX,RX,FY,RY,Z,sv,lv,tv,evs,tvs,h1⟩,h2,h3,h4⟩,h5,h6,h7,h8⟩:=aV.o;have c0:cE w1 wb 0 (pA xb 0):=h1.g.cell 0 rfl;obtain⟨V,hA,-⟩:=h1.x.node;obtain⟨bp,bJ,H1⟩:=zC (jw hA h2.1.dom) h2.1.dom h1;have bE:Hid (∀w' Z' lv' evs',LawP es m i wb xb yb ra rc cb ka kd gp gc hp hc FX RX FY RY Q1 Z' s s sent sv lv' tv (K0+1+1) KT0 evs' tvs w'->LawM Q1 es m i wb xb yb ra rc ka kd gp gc hp hc S T N (K+2) w'):=λw' Z' lv' evs' h9=>⟨s,sent,K0+1+1,KT0,⟨⟨cb,FX,RX,FY,RY,Z',sv,lv',tv,evs',tvs,h9⟩,h2,h3,h4⟩,h5,h6,by omega,by omega⟩;clear h1 h2 h3 h4 h5 h6 hA aV;go_wp2_with fail
 refine bp.o.mono ?_;rintro e w2 ⟨p,r,rfl,hp,hr,az,aN⟩;obtain⟨pp,pc,rfl,bb⟩:=xj hp;obtain⟨rp,rq,rfl,aB⟩:=xi hr;have aF:Hid ((memb s.x 26).length<=26):=jh s.x 26;obtain⟨rl,aJ⟩:=gen (memb s.x 26);obtain⟨nm,aL⟩:=gen (nameB rl);obtain⟨rn,aH⟩:=gen rl.length;obtain⟨bF,bD,aR⟩:=zC aL aH aJ;rw[<-aJ] at hr aB az aF ⊢;rw[<-aL];rw[<-aH] at hr aB az aF ⊢;obtain⟨aX,aW,bw,bu,bs,aG,bx⟩:=Qq hp hr bb aB az aN (H1.o.below aN);clear hp hr bb aB az aN aL aH aJ bp c0
 go_upto_region 35 with(first|(refine zf rfl 72 _ _ rfl w2 #[.slice pp 8 pc,sA nm,.slice rp rn rq] rfl rfl 72 _ rfl (by simp[Value.oneCell']) Tryz.zd7 ?_;intro w3 a6 aM bz)|fail)
 have aE:Hid (cL w3 w2.heap.size #[.slice pp 8 pc,sA nm,.slice rp rn rq] 72):=a6;have ax:=zc aM;have br:Hid (w3.rangeAt w2.heap.size 0 [.slice pp 8 pc,sA nm,.slice rp rn rq]):=λj u hj=>by
  rw[zg0,zgs w3 w2.heap.size j _ _ _ aE.o];match j,hj with
  |0,hj|1,hj|2,hj=>exact hj
  |j+3,hj=>cases hj
 have aC:=bx.o.below aM;have c1:cE w3 wb 1 (pA yb 0):=aC.g.cell 1 rfl;have bo:Hid (w3.rangeAt yb 1 (yd s.x)):=by
  obtain⟨V2,hR,-⟩:=aC.y;exact hR.reg
 have bI:=zc aC;clear a6 aM bz aC bx o0;refine rgd (S:=λX=>BW w3 X) ((zgq _ w3).drew) λhH=>?_;refine takeN [(0,some 141,.agg ([.slice pp 8 pc,sA nm,.slice rp rn rq]).toArray),(1,some 142,pA wb 0),(2,some 143,pA wb 0),(3,some 144,pA wb 1),(4,some 145,pA yb 0),(5,some 146,pA yb 0),(6,some 147,pA yb 1),(7,some 148,.agg (regA s.x))] _ _ hH (by repeat(first|exact zgY|((first|refine tkc rfl rfl (zg3 (by rfl) 72 _ rfl w2.heap.size 0 rfl ([.slice pp 8 pc,sA nm,.slice rp rn rq]) _ (λw h=>Ext.range br (Ext.of h)) underlying72 rfl (by rw[Tryz.zd7];rfl)) ?_|refine tkc rfl rfl (zg3 (by rfl) 49 _ rfl yb 1 rfl (yd s.x) _ (λw h=>Ext.range bo (Ext.of h)) underlying49 rfl (by rw[Tryz.zc3];simp[yd])) ?_|(refine tkc rfl rfl (zgR ⟨by rfl,λx h=>?_⟩) ?_;focus(have f0:cE x wb 1 (pA yb 0):=Ext.cell c1 (Ext.of h);go_simp;done)));simp only[AP]))) ?_;simp only[zh,AP,pA];refine zp 8 λK hK=>?_;go_simp;refine(Qc s.x _ bJ).mono ?_;rintro en w4 ⟨p4,r4,rfl,a7,a1,bh⟩;obtain⟨pp4,pc4,rfl,aq⟩:=xj a7;obtain⟨rp4,rq4,rfl,ag⟩:=xi a1;have ad:BW w3 w4:=hH.trans (bh.mono hH.size);have ae:BW w2 w4:=ax.o.trans (ad.mono ax.o.size);rw[<-aR.o] at ag ⊢;rw[<-bD.o] at ag ⊢;rw[<-bF.o];refine hK.out _ _ (ad) λhH=>?_;clear hK K
 try simp only[AP,AQ]
 refine zp 9 λK hK=>?_;go_simp;refine(Qw s.x s.x (λi=>s.x (8+rl.getD i 0)) (λi=>s.x (8+rl.getD i 0)) pp pp4 rp rp4 8 8 rn rn pc rq pc4 rq4 nm nm w4 (by decide) (by have:=aF.o;unfold maxLen;omega) ((bw.o.below ae).more ae.size) aq ((bu.o.below ae).more ae.size) ag).mono ?_;rintro en w5 ⟨⟨oe,rfl,ba⟩,bg⟩;obtain rfl:=ba rfl (λ_ _=>rfl) rfl (λ_ _=>rfl) rfl;have ak:BW w3 w5:=ad.trans (bg.mono ad.size);refine hK.out _ _ (ak) λhH=>?_;clear hK K
 try simp only[AP,AQ]
 refine zx [10] hH (λ_ h=>h) ?_;refine dnr ?_;have al:=zc ak;clear hH ad ae ak bh bg a7 a1 aq ag ba bw bu bo br c1;have aD:Hid (cL w5 w2.heap.size #[.slice pp 8 pc,sA nm,.slice rp rn rq] 72):=(al.o.block _ (Array.getElem?_eq_some_iff.1 aE).1).trans aE;have af:BW w2 w5:=ax.o.trans (al.o.mono ax.o.size);have ar:BW w1 w5:=aG.o.trans (af.mono aG.o.size);have ai:=zc ((H1.o.below ar).below ((zgq _ w5).drew));have av:Hid (w5.drew.ownsRow w1.heap.size 3 1 (.slice pp 8 pc) 8 (vC s.x 8)):=zb aX λg e hg=>af.block g hg;have au:Hid (w5.drew.ownsRow w1.heap.size 3 1 (.slice rp rn rq) rn (jE s.x rl)):=zb aW λg e hg=>af.block g hg;have aj:Hid (∀g,(Value.slice pp 8 pc).ownBlock=some g->w1.heap.size<=g/\g<w2.heap.size):=λg e=>aX.o.lt g e;have ah:Hid (∀g,(Value.slice rp rn rq).ownBlock=some g->w1.heap.size<=g/\g<w2.heap.size):=λg e=>aW.o.lt g e;have aa:Hid (∀g,w1.heap.size<=g->wb<g/\¬(FX g\/RX g\/FY g\/RY g)/\¬Z g/\some g≠sv.ownBlock/\some g≠lv.ownBlock):=λg hg=>by
  have hsz:=H1.o.g.size;exact⟨by omega,λhA=>by have:=H1.o.all g hA;omega,λhz=>by have:=(H1.o.g.zz g hz).2.2.2.2.2.2;omega,λe=>by have:=(H1.o.g.sent.lt g e.symm).2;omega,λe=>by have:=(H1.o.g.ints.lt g e.symm).2;omega⟩
 have h25:=af.size;have aP:=aG.o.size;have bB:w2.heap.size<w5.heap.size:=(Array.getElem?_eq_some_iff.1 aD).1;have q0:cN w5 w2 0 (.slice pp 8 pc):=zgs w5 w2.heap.size 0 _ _ _ aD;clear af ar aX aW aG ax al aE bI;go_wp2_with fail
 refine rgd (S:=λX=>cN X w2 0 (.slice pp 8 pc)) q0 λhH=>?_;refine zx [0,1,2,3,4] hH (λx h=>h) ?_;refine zp 5 λK hK=>?_;go_simp;refine(GE ai.o.g (yU av.o (zgv _)) (λg e=>⟨(aa.o g (aj.o g e).1).1,(aa.o g (aj.o g e).1).2.1,(aa.o g (aj.o g e).1).2.2.1,(aa.o g (aj.o g e).1).2.2.2.1⟩) (by omega) (by omega) ai.o.all).mono ?_;rintro en w6 ⟨rfl,Z1,lv1,evs1,bf,ay,bj⟩;have aO:=ai.o.own ay (λj hj=>by
  rcases hj with e|e|e
  .rw [e];exact⟨zgp _,ai.o.g.aw,λhz=>(ai.o.g.zz wb hz).2.1 rfl⟩
  .exact ⟨zgI (ai.o.g.alv j e.symm).2,(ai.o.g.alv j e.symm).1,λhz=>(ai.o.g.zz j hz).2.2.2.1 e⟩
  exact⟨zgI (aa j (aj j e.symm).1).1,(aa j (aj j e.symm).1).2.1,(aa j (aj j e.symm).1).2.2.1⟩) bf
 have aS:w6.heap[w2.heap.size]? =some (.cells #[.slice pp 8 pc,sA nm,.slice rp rn rq] 72 (0,0)):=(ay.block w2.heap.size bB (λe=>by
  rcases e with e|e|e
  .have:=(aa.o w2.heap.size aP).1;omega
  .exact (aa w2.heap.size aP).2.2.2.2 e
  have:=(aj.o _ e.symm).2;omega)).trans aD.o
 have aK:w6.ownsRow w1.heap.size 3 1 (.slice rp rn rq) rn (jE s.x rl):=zb au λg e hg=>ay.block g hg (λe2=>by
  rcases e2 with e2|e2|e2
  .have:=(aa.o g (ah.o g e).1).1;omega
  .exact (aa g (ah g e).1).2.2.2.2 e2
  exact bs g e2.symm e)
 refine hK.out _ _ (zgs w6 w2.heap.size 0 _ _ _ aS) λhH=>?_;clear hK K
 try simp only[AP,AQ]
 refine dnr ?_;obtain⟨bt,bq⟩:=ze aO aK;have bG:Hid (∀g,lv1.ownBlock=some g->¬w1.heap.size<=g\/some g≠(Value.slice rp rn rq).ownBlock):=λg e=>zgS λe2=>yA aO.g.ints aK (by decide) g e e2.symm;have bn:Hid (∀g,(Value.slice rp rn rq).ownBlock=some g->¬Z1 g):=λg e hz=>by
  rcases bj g hz with h9|h9|h9
  .exact (aa g (ah g e).1).2.2.1 h9
  .exact bs g h9.symm e
  have h10:=(ah g e).2;have bC:w5.drew.heap.size<=g:=h9;have aP:w5.heap.size<=g:=bC;omega
 have q2:cN w6 w2 2 (.slice rp rn rq):=zgs w6 w2.heap.size 2 _ _ _ aS;clear hH bf ay bj aO aS aK q0 ai av au aD;go_wp2_with fail
 refine rgd (S:=λX=>True) trivial λhH=>?_;refine zx [0,1,2,3] hH (λ_ h=>h) ?_;refine zp 4 λK hK=>?_;go_simp;refine hK.out _ _ trivial λhH=>?_;clear hK K
 try simp only[AP,AQ]
 refine zp 5 λK hK=>?_;go_simp;have ab:=bt.o.below ((zgq _ w6).drew);have ao:w6.drew.ownsRow 0 3 1 (.slice rp rn rq) rn (jE s.x rl):=yU (zb bq λ_ _ _=>rfl) (zgv _);refine(GE ab.g ao (λg e=>⟨(aa.o g (ah.o g e).1).1,(aa.o g (ah.o g e).1).2.1,bn.o g e,(aa.o g (ah.o g e).1).2.2.2.1⟩) (by omega) (by have:=aF.o;omega) ab.all).mono ?_;rintro en w7 ⟨rfl,Z2,lv2,evs2,bd,aZ,-⟩;have bm:=ab.own aZ (λj hj=>by
  rcases hj with e|e|e
  .rw [e];exact⟨zgp _,ab.g.aw,λhz=>(ab.g.zz wb hz).2.1 rfl⟩
  .exact ⟨zgI (ab.g.alv j e.symm).2,(ab.g.alv j e.symm).1,λhz=>(ab.g.zz j hz).2.2.2.1 e⟩
  exact⟨zgI (aa j (ah j e.symm).1).1,(aa j (ah j e.symm).1).2.1,bn j e.symm⟩) bd
 refine hK.out _ _ (trivial) λhH=>?_;clear hK K
 try simp only[AP,AQ]
 refine dnr ?_;have bH:=zc (bE _ _ _ _ bm);clear hH bd aZ bm ab ao bt bq q2;go_wp2;go_ret;exact aU.o _ _ _ _ _ bH.o (by omega) (by omega) (by omega) (by omega)

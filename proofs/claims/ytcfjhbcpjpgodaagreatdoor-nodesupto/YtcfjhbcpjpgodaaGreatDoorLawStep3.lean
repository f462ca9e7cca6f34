import Derived.Test.YtcfjhbcpjpgodaaGreatDoorJ40
namespace Go.Proofs.YtcfjhbcpjpgodaaGreatDoor
open Go.RowKit Proofs.Tryz
set_option maxRecDepth 100000
set_option maxHeartbeats 0
set_option linter.all false
theorem zbE{s:za}{t:zgW}{k:Nat}(h:s.zdM t=some k):k<12:=by
 unfold za.zdM at h;split at h
 .cases h;decide
 split at h
 .cases h;decide
 cases h
theorem Tryz.ze5(a b c d e:Int)(t u:zgW)(W:World):(binOp .eql 61 (.agg #[iA a,iA b,iA c,iA d,iA e,sA t,sA u]) (.agg #[iA a,iA b,iA c,iA d,iA e,sA t,sA u])).run prog W=.ok (bA true) W:=by
 go_simp
section
variable{Q:Gst}{es:List Addr}{m:Int}{i wb xb yb ra rc:Nat}{ka kd:Nat->Nat}{gp gc hp hc S T N K:Nat}{w:World}
theorem zcG(h:LawM Q es m i wb xb yb ra rc ka kd gp gc hp hc S T N K w)(hB:XC S T N K)(mk mh mr mf mv:Int)(mn:Bool)(ms:zgW)(osg:Int)(oraw:zgW)(on:Int)(ho:QK ⟨4,⟨mk,mh,mr,mf,mv,mn,ms⟩,osg,oraw,on⟩):
 Calls prog 17 #[pA wb 0,.agg #[iA 4,iA mk,iA mh,iA mr,iA mf,iA mv,bA mn,sA ms,iA osg,sA oraw,iA on]] w (x9 Q es m i wb xb yb ra rc ka kd gp gc hp hc S T N K):=by
 obtain⟨hBS,hBT,hBN,hBK⟩:=hB;obtain⟨w1,Q1,au,ax,az,aw⟩:=ke h ⟨4,⟨mk,mh,mr,mf,mv,mn,ms⟩,osg,oraw,on⟩;obtain⟨al,aD,ag,an⟩:=yi au ax az aw;unfold OpV.cells at al ag;dsimp only at al ag;have HO:=zc ho;clear h au ax az aw ho;go_enter func17,ntmps17
 go_upto_region 1 with fail
 rw[<-al.o];have ad:=aD.o.guest ag;have o0:cN w1 w 0 (iA 4):=zgs w1 w.heap.size 0 _ _ _ ad;have o9:cN w1 w 9 (sA oraw):=zgs w1 w.heap.size 9 _ _ _ ad;clear ad;obtain⟨s,sent,K0,KT0,⟨⟨cb,FX,RX,FY,RY,Z,sv,lv,tv,evs,tvs,h1⟩,h2,h3,h4⟩,h5,h6⟩:=aD.o;have c0:cE w1 wb 0 (pA xb 0):=h1.g.cell 0 rfl;obtain⟨H1,H2⟩:=ze h1 h2;have aE:Hid (∀w' FX' FY' RY',LawP es m i wb xb yb ra rc cb ka kd gp gc hp hc FX' RX FY' RY' Q1 Z (s.zdT oraw) (s.zdT oraw) sent sv lv tv K0 KT0 evs tvs w'->LawM Q1 es m i wb xb yb ra rc ka kd gp gc hp hc S T N K w'):=λw' FX' FY' RY' h9=>⟨_,sent,K0,KT0,⟨⟨cb,FX',RX,FY',RY',Z,sv,lv,tv,evs,tvs,h9⟩,h2.sub,h3.sub,h4⟩,h5.zgi (zbG s i oraw),h6⟩;clear h1 h2 h3 h4 h5 h6;go_wp2_with fail
 refine rgd (S:=λX=>cE X wb 0 (pA xb 0)/\cN X w 9 (sA oraw)) ⟨c0,o9⟩ λhH=>?_;refine zx [0,1,2,3,4,5] hH (λx h=>aI h.1 (h.2)) ?_;refine zp 6 λK hK=>?_;go_simp;refine(Vt oraw (H1.o.x.below ((zgq _ w1).drew)) (H1.o.low.same (w':=w1.drew) (λ_ _=>rfl)).zfY H2.o.1.wait).mono ?_;rintro en w2 ⟨rfl,FX1,ar,aC⟩;have af:=(H1.o.below ((zgq _ w1).drew)).zfG ar aC;have ab:w2.heap[w.heap.size]? =_:=(af.g.guest _ _ ag).2;have o9b:cN w2 w 9 (sA oraw):=zgs w2 w.heap.size 9 _ _ _ ab;refine hK.out _ _ (⟨af.g.cell 0 rfl,o9b⟩) λhH=>?_;clear hK K
 try simp only[AP,AQ]
 refine zx [7] hH (λ_ h=>h) ?_;refine dnr ?_;have ao:=zc af;have c1:cE w2 wb 1 (pA yb 0):=af.g.cell 1 rfl;clear hH af ab ar aC c0 o9 o0 H1;have ak:Hid (∀W,Sent es W->Calls prog 15 #[Q2 es (s.zdM oraw)] W λe w'=>e=.returned (iA (zb7 (s.zdM oraw)))/\BW W w'):=λW hW=>by
  cases aj:s.zdM oraw with
  |none=>exact KC hW
  |some k=>
   by_cases hk:k<12
   .obtain ⟨a,ha⟩:∃a,es[k]? =some a:=⟨es[k]'(by rw[hW.len];exact hk),zgy _⟩
    rw[kA ha];exact xL hW k a ha
   exact absurd (zbE aj) hk
 obtain⟨sx,av⟩:=gen (Q2 es (s.zdM oraw));rw[<-av] at ak ⊢;clear av;go_wp2_with fail
 refine rgd (S:=λX=>cE X wb 1 (pA yb 0)/\cN X w 9 (sA oraw)) ⟨c1,o9b⟩ λhH=>?_;refine zx [0,2,3,4,5,6,7] hH (λx h=>aI h.1 (h.2)) ?_;refine zp 1 λK hK=>?_;go_simp;refine(ak _ (ao.o.low.same (w':=w2.drew) (λ_ _=>rfl)).sent).mono ?_;rintro en w3 ⟨rfl,ay⟩;have ae:BW w2 w3:=((zgq _ w2).drew).trans ay;have ai:=ao.o.below ae;refine hK.out _ _ (⟨ai.g.cell 1 rfl,Ext.cell o9b (Ext.of ae)⟩) λhH=>?_;clear hK K
 try simp only[AP,AQ]
 refine zp 8 λK hK=>?_;go_simp;refine(Y5 ai.y oraw (zgu H2.o.1.wait (by decide)) (by have h9:oraw.size<=1048576:=HO.o.raw;unfold maxLen;omega)).mono ?_;rintro en w4 ⟨rfl,FY1,RY1,aq,aB⟩;have ah:=ai.zfv aq aB;have aa:w4.heap[w.heap.size]? =_:=(ah.g.guest _ _ ag).2;refine hK.out _ _ (⟨ah.g.cell 1 rfl,zgs w4 w.heap.size 9 _ _ _ aa⟩) λhH=>?_;clear hK K
 try simp only[AP,AQ]
 refine zx [9,10] hH (λ_ h=>h) ?_;refine dnr ?_;have aF:=zc (aE _ _ _ _ ah);clear hH ai ae ay ah aa aq aB ao ak c1 o9b;go_wp2;go_ret;exact an.o _ _ _ _ _ aF.o (by omega) (by omega) (by omega) (by omega)
theorem zcE(h:LawM Q es m i wb xb yb ra rc ka kd gp gc hp hc S T N K w)(hB:XC S T N K)(mk mh mr mf mv:Int)(mn:Bool)(ms:zgW)(osg:Int)(oraw:zgW)(on:Int)(ho:QK ⟨6,⟨mk,mh,mr,mf,mv,mn,ms⟩,osg,oraw,on⟩):
 Calls prog 17 #[pA wb 0,.agg #[iA 6,iA mk,iA mh,iA mr,iA mf,iA mv,bA mn,sA ms,iA osg,sA oraw,iA on]] w (x9 Q es m i wb xb yb ra rc ka kd gp gc hp hc S T N K):=by
 obtain⟨hBS,hBT,hBN,hBK⟩:=hB;obtain⟨w1,Q1,ah,aj,al,ai⟩:=ke h ⟨6,⟨mk,mh,mr,mf,mv,mn,ms⟩,osg,oraw,on⟩;obtain⟨ae,ad,af,ag⟩:=yi ah aj al ai;unfold OpV.cells at ae af;dsimp only at ae af;have HO:=zc ho;clear h ah aj al ai ho;go_enter func17,ntmps17
 go_upto_region 1 with fail
 rw[<-ae.o];have ab:=ad.o.guest af;have o0:cN w1 w 0 (iA 6):=zgs w1 w.heap.size 0 _ _ _ ab;clear ab;obtain⟨s,sent,K0,KT0,⟨⟨cb,FX,RX,FY,RY,Z,sv,lv,tv,evs,tvs,h1⟩,h2⟩,h5⟩:=ad.o;have c0:cE w1 wb 0 (pA xb 0):=h1.g.cell 0 rfl;have c1:cE w1 wb 1 (pA yb 0):=h1.g.cell 1 rfl;obtain⟨V,hA,-⟩:=h1.x.node;have HA:=zc hA;have an:Hid (w1.rangeAt yb 42 [iA s.zc1,iA s.round,iA s.step,iA s.lr,iA s.vr,sA s.lv,sA s.vv]):=λj u hj=>by
  obtain⟨V2,hR,-⟩:=h1.y;match j,hj with
  |0,hj=>exact hR.cell 42 hj
  |1,hj=>exact hR.cell 43 hj
  |2,hj=>exact hR.cell 44 hj
  |3,hj=>exact hR.cell 45 hj
  |4,hj=>exact hR.cell 46 hj
  |5,hj=>exact hR.cell 47 hj
  |6,hj=>exact hR.cell 48 hj
  |j+7,hj=>cases hj
 have HEQ:=zc (Tryz.ze5 (s.zc1:Int) (s.round:Int) (s.step:Int) s.lr s.vr s.lv s.vv);clear h1 h2 h5 hA;go_wp2_with fail
 refine rgd (S:=λX=>BW w1 X) ((zgq _ w1).drew) λhH=>?_;refine takeN [(0,some 115,pA wb 0),(1,some 116,pA wb 0),(2,some 117,pA wb 0),(3,some 118,pA xb 0),(5,some 120,pA wb 0),(6,some 121,pA wb 0),(7,some 122,pA wb 1),(8,some 123,pA yb 0),(9,some 124,pA yb 0),(10,some 125,pA yb 42),(11,some 126,.agg ([iA s.zc1,iA s.round,iA s.step,iA s.lr,iA s.vr,sA s.lv,sA s.vv]).toArray)] _ _ hH (by repeat(first|exact zgY|((first|refine tkc rfl rfl (zg3 (by rfl) 61 _ rfl yb 42 rfl ([iA s.zc1,iA s.round,iA s.step,iA s.lr,iA s.vr,sA s.lv,sA s.vv]) _ (λw h=>Ext.range an (Ext.of h)) underlying61 rfl (by rw[Tryz.zd8];rfl)) ?_|(refine tkc rfl rfl (zgR ⟨by rfl,λx h=>?_⟩) ?_;focus(have f0:cE x wb 0 (pA xb 0):=Ext.cell c0 (Ext.of h);have f1:cE x wb 1 (pA yb 0):=Ext.cell c1 (Ext.of h);go_simp;done)));simp only[AP]))) ?_;simp only[zh,AP,pA];refine zp 4 λK hK=>?_;go_simp;refine(KN xb (ka i) cb V s _ (HA.o.below ((zgq _ w1).drew))).mono ?_;rintro en w2 ⟨rfl,ak⟩;unfold JO;have aa:BW w1 w2:=((zgq _ w1).drew).trans ak;refine hK.out _ _ (aa) λhH=>?_;clear hK K
 try simp only[AP,AQ]
 refine zx [12,13] hH (λx h=>Tryz.ze5 (s.zc1:Int) (s.round:Int) (s.step:Int) s.lr s.vr s.lv s.vv x) ?_;refine dnr ?_;have ao:=zc (ad.o.below aa);clear hH ak aa ad;go_wp2;go_ret;exact ag.o _ _ _ _ _ ao.o (by omega) (by omega) (by omega) (by omega)

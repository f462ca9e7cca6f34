import Derived.Test.YtcfjhbcpjpgodaaGreatDoorJ22
namespace Go.Proofs.YtcfjhbcpjpgodaaGreatDoor
open Go.RowKit Proofs.Tryz
set_option maxRecDepth 100000
set_option maxHeartbeats 0
set_option linter.all false
theorem gJ(t:zgW)(b:Addr)(w:World)(h:t.size<6)(hb:w.cell? (aA 2 0)=some (eA b)):
 Calls prog 102 #[sA t] w λe w'=>e=.returned (.tuple #[.agg mA,eA b])/\BW w w':=by
 have h':(t.size:Int)<6:=by omega
 have hc:=cell?_alloc_old (.cells mA 57) hb;go_enter func102,ntmps102;go_wp2
 go_region
 go_wp2;exact zgJ (v:=.tuple #[.agg mA,eA b]) (by simp[results,results102,go_sem]) rfl ⟨rfl,(bwA _).drew⟩
theorem Ze(t:zgW)(k0 k1 k2 k3 k4 k5:Int)(s:zgW)(b:Addr)(w:World)(hp:Parts t k0 k1 k2 k3 k4 k5 s)(h5:(s.size:Int)≠k5)(hb:w.cell? (aA 2 0)=some (eA b)):
 Calls prog 102 #[sA t] w λe w'=>e=.returned (.tuple #[.agg mA,eA b])/\BW w w':=by
 have a5:=hp.at5;have b5:=hp.b5;have h6:¬(t.size:Int)<6:=by have:=hp.size;omega
 have ht:((t.size:Int) != 6+k5)=true:=by have:=hp.size;simp;omega
 have hc:=cell?_alloc_old (.cells mA 57) hb;clear hp h5;go_enter func102,ntmps102;go_wp2
 go_region
 go_wp2;exact zgJ (v:=.tuple #[.agg mA,eA b]) (by simp[results,results102,go_sem]) rfl ⟨rfl,(bwA _).drew⟩
theorem YY(t:zgW)(k0 k1 k2 k3 k4 k5:Int)(s:zgW)(b:Addr)(w:World)(hp:Parts t k0 k1 k2 k3 k4 k5 s)(h5:(s.size:Int)=k5)(hb:w.cell? (aA 2 0)=some (eA b)):
 Calls prog 102 #[sA t] w λe w'=>e=.returned (.tuple #[QA k0 k1 k2 k3 k4 k5 s,xB b (qB k0 k1 k2 k3 k4 k5 s.size)])/\BW w w':=by
 have a0:=hp.at0;have a1:=hp.at1;have a2:=hp.at2;have a3:=hp.at3;have a4:=hp.at4;have a5:=hp.at5;have ar:=hp.rest;have b0:=hp.b0;have b1:=hp.b1;have b2:=hp.b2;have b3:=hp.b3;have b4:=hp.b4;have b5:=hp.b5;obtain⟨vv,ah⟩:∃z,vOf k0 k4=z:=⟨_,rfl⟩;obtain⟨nl,ai⟩:∃z,nlOf k0 k4=z:=⟨_,rfl⟩;obtain⟨EV,EN⟩:=ze ah ai;have ao:Hid ((k0==1)=true/\vv=k4-1/\nl=false\/(k0==1)=false/\vv=0/\(k4==1)=nl):=by
  rw[<-ah,<-ai];unfold Hid vOf nlOf;by_cases hk:k0=1
  .rw [zgT hk,zgT hk];exact zgR ⟨by simpa using hk,rfl,rfl⟩
  rw[zgU hk,zgU hk];exact zgS ⟨by simpa using hk,rfl,rfl⟩
 clear ah ai;have h6:¬(t.size:Int)<6:=by have:=hp.size;omega
 have ht:((t.size:Int) != 6+k5)=false:=by have:=hp.size;simp;omega
 have ak:Hid (s.size<=maxLen):=by unfold Hid maxLen;omega
 have HS:Hid (s.size<=281474976710656):=by unfold Hid;omega
 obtain⟨HP,H5,an⟩:=zC hp h5 hb;clear hp h5 hb;go_enter func102,ntmps102
 go_upto_region 3 with fail
 go_cut [4] (λp4 wc=>∃g,p4=pA g 0/\zM wc g k0 k1 k2 k3 0 false s/\zM wc w.heap.size 0 0 0 0 0 false ⟨#[]⟩/\w.heap.size<g/\BW w wc)
 case first=>
  refine rgd (S:=λ_=>True) trivial λ_=>?_;refine tkW (i:=0) (v:=sA t) rfl (zgR ⟨by rfl,?_⟩) trivial ?_
  .intro w aa;go_simp
  simp only[Act.put,List.setIfInBounds_toArray];refine tkW (i:=1) (v:=.int .u8 k0) rfl (zgR ⟨by rfl,?_⟩) trivial ?_
  .intro w aa;go_simp
  simp only[Act.put];refine tkW (i:=2) (v:=iA k0) rfl (zgR ⟨by rfl,?_⟩) trivial ?_
  .intro w aa;go_simp;rw[IntKind.wrap_i64];omega
  simp only[Act.put];refine tkW (i:=3) (v:=sA t) rfl (zgR ⟨by rfl,?_⟩) trivial ?_
  .intro w aa;go_simp
  simp only[Act.put];refine tkW (i:=4) (v:=.int .u8 k1) rfl (zgR ⟨by rfl,?_⟩) trivial ?_
  .intro w aa;go_simp
  simp only[Act.put];refine tkW (i:=5) (v:=iA k1) rfl (zgR ⟨by rfl,?_⟩) trivial ?_
  .intro w aa;go_simp;rw[IntKind.wrap_i64];omega
  simp only[Act.put];refine tkW (i:=6) (v:=sA t) rfl (zgR ⟨by rfl,?_⟩) trivial ?_
  .intro w aa;go_simp
  simp only[Act.put];refine tkW (i:=7) (v:=.int .u8 k2) rfl (zgR ⟨by rfl,?_⟩) trivial ?_
  .intro w aa;go_simp
  simp only[Act.put];refine tkW (i:=8) (v:=iA k2) rfl (zgR ⟨by rfl,?_⟩) trivial ?_
  .intro w aa;go_simp;rw[IntKind.wrap_i64];omega
  simp only[Act.put];refine tkW (i:=9) (v:=sA t) rfl (zgR ⟨by rfl,?_⟩) trivial ?_
  .intro w aa;go_simp
  simp only[Act.put];refine tkW (i:=10) (v:=.int .u8 k3) rfl (zgR ⟨by rfl,?_⟩) trivial ?_
  .intro w aa;go_simp
  simp only[Act.put];refine tkW (i:=11) (v:=iA k3) rfl (zgR ⟨by rfl,?_⟩) trivial ?_
  .intro w aa;go_simp;rw[IntKind.wrap_i64];omega
  simp only[Act.put];refine tkW (i:=12) (v:=sA t) rfl (zgR ⟨by rfl,?_⟩) trivial ?_
  .intro w aa;go_simp
  simp only[Act.put];refine tkW (i:=13) (v:=sA s) rfl (zgR ⟨by rfl,?_⟩) trivial ?_
  .intro w aa;go_simp
  simp only[Act.put];refine gn 14 16 (λK hK=>?_) λK hK=>?_
  .go_simp;go_wp2_with ((go_at_call 82;refine(jT s _ HS).mono ?_;rintro e w1 ⟨rfl,ab⟩))
   refine hK.out _ _ trivial λ_=>?_;clear hK K;refine tkW (i:=15) (v:=.agg #[iA k0,iA k1,iA k2,iA k3,iA 0,bA false,sA s]) rfl (zgR ⟨by rfl,?_⟩) trivial ?_
   .intro w aa;go_simp
   simp only[Act.put,List.setIfInBounds_toArray];refine zp 16 λK hK=>?_;go_simp;refine hK.out _ _ trivial λ_=>?_;clear hK K;refine zp 17 λK hK=>?_;go_simp;refine hK.out _ _ trivial λ_=>?_;clear hK K;refine dnr ?_;go_wp2_with fail
   go_meet
   case rel=>
    have aj:BW w w1:=((bwA w).drew).trans (ab.mono (by simp));have ag:w.heap.size<w1.heap.size:=by have:=ab.size;simp at this;omega
    exact⟨w1.heap.size,rfl,zM.alloc w1 k0 k1 k2 k3 0 false s,((zM.alloc w 0 0 0 0 0 false ⟨#[]⟩).drew.later ab (by simp)).later (Below.alloc (zgq w1.heap.size w1) (zgp _) _) ag,ag,aj.alloc (zgI ag) _⟩
  go_simp;refine hK.out _ _ trivial λ_=>?_;clear hK K;refine zp 14 λK hK=>?_;go_simp;go_wp2_with ((go_at_call 82;refine(jT s _ HS).mono ?_;rintro e w1 ⟨rfl,ab⟩))
  obtain⟨hc1,hf1⟩:=zcU ab;refine hK.out _ _ trivial λ_=>?_;clear hK K;refine tkW (i:=15) (v:=.agg #[iA k0,iA k1,iA k2,iA k3,iA 0,bA false,sA s]) rfl (zgR ⟨by rfl,?_⟩) trivial ?_
  .intro w aa;go_simp
  simp only[Act.put,List.setIfInBounds_toArray];refine zp 17 λK hK=>?_;go_simp;refine hK.out _ _ trivial λ_=>?_;clear hK K;refine dnr ?_;go_wp2_with fail
  go_meet
  case rel=>
   have aj:BW w w1:=(((bwA w).drew).alloc (by simp) _).trans (ab.mono (by simp;omega));have av:zM w1 (w.heap.size+1) 0 0 0 0 0 false ⟨#[]⟩:=(zM.zf6 w _ 0 0 0 0 0 false ⟨#[]⟩).drew.later ab (by simp);have aq:zM w1 w.heap.size 0 0 0 0 0 false ⟨#[]⟩:=((zM.alloc w 0 0 0 0 0 false ⟨#[]⟩).later (Below.alloc (zgq (w.heap.size+1) _) (by simp) _) (by omega)).drew.later ab (by simp;omega);exact⟨w.heap.size+1,rfl,av.zfZ k0 k1 k2 k3 0 false s,aq.zeT (by omega) _ _ _ _ _ _ _,by omega,kL aj (by omega) _ _ _ _ _ _ _⟩
 obtain⟨g,rfl,hm,hz,ag,hB⟩:=hcut;obtain⟨c0,c1,c2,c3,c4,c5,c6,g0,g1,g2,g3,g4,g5,g6⟩:=hm.cells;have aw:=ao;clear ao;rcases aw with⟨q0,q1,q2⟩|⟨q0,q1,q2⟩;focus
  have ae:Hid (zM (wc.setCell (aA g 4) (iA (k4-1))) g k0 k1 k2 k3 vv nl s):=by rw[q1,q2];exact hm.zgj (k4-1)
  have ad:Hid (zM (wc.setCell (aA g 4) (iA (k4-1))) w.heap.size 0 0 0 0 0 false ⟨#[]⟩):=hz.setOther _ _ (by simp;omega);have af:Hid (BW w (wc.setCell (aA g 4) (iA (k4-1)))):=hB.setCell (by simp;omega) _;clear hm hz hB q1 q2
  go_upto_region 7 with fail
  generalize wc.setCell (aA g 4) (iA (k4-1))=W7 at ae ad af ⊢
 rotate_left;focus
  have ae:Hid (zM (wc.setCell (aA g 5) (bA nl)) g k0 k1 k2 k3 vv nl s):=by rw[q1];exact hm.zf8 nl
  have ad:Hid (zM (wc.setCell (aA g 5) (bA nl)) w.heap.size 0 0 0 0 0 false ⟨#[]⟩):=hz.setOther _ _ (by simp;omega);have af:Hid (BW w (wc.setCell (aA g 5) (bA nl))):=hB.setCell (by simp;omega) _;clear hm hz hB q1
  go_upto_region 7 with fail
  generalize wc.setCell (aA g 5) (bA nl)=W7 at ae ad af ⊢
 all_goals
  clear c0 c1 c2 c3 c4 c5 c6 g0 g1 g2 g3 g4 g5 g6
  go_cut [56] (λc wd=>c=bA (!(qB k0 k1 k2 k3 k4 k5 s.size))/\zM wd g k0 k1 k2 k3 vv nl s/\zM wd w.heap.size 0 0 0 0 0 false ⟨#[]⟩/\BW w wd)
  case first=>
   cases hX:hasB k0 k1 k2 k3 vv nl s.size with
   |false=>
    have HX:=zc hX;have HD:Hid (qB k0 k1 k2 k3 k4 k5 s.size=false):=Kn (by rw[EV.o,EN.o];exact hX);clear hX;refine rgd (S:=(λw'=>zM w' g k0 k1 k2 k3 vv nl s/\zM w' w.heap.size 0 0 0 0 0 false ⟨#[]⟩/\BW w w')) ⟨ae.o.drew,ad.o.drew,af.o.drew⟩ λhH=>?_;refine tkW (i:=0) (v:=.agg #[iA k0,iA k1,iA k2,iA k3,iA vv,bA nl,sA s]) rfl (zgR ⟨by rfl,?_⟩) hH ?_
    .intro w aa;obtain⟨hm,_,_⟩:=aa;obtain⟨c0,c1,c2,c3,c4,c5,c6,_⟩:=hm.cells;go_simp
    simp only[Act.put,List.setIfInBounds_toArray];refine zp 1 λK hK=>?_;go_simp;go_wp2_with ((go_at_call 139;refine(yJ k0 k1 k2 k3 vv nl s _ ak).mono ?_;rw[HX.o];rintro e w1 ⟨rfl,ab⟩))
    refine hK.out _ _ ⟨hH.1.later ab hH.1.lt,hH.2.1.later ab hH.2.1.lt,hH.2.2.trans (ab.mono (zgI hH.2.1.lt))⟩ λhH=>?_;clear hK K;refine tkW (i:=2) (v:=bA true) rfl (zgR ⟨by rfl,?_⟩) hH ?_
    .intro w aa;go_simp
    simp only[Act.put,List.setIfInBounds_toArray];refine tkW (i:=3) (v:=bA true) rfl (zgR ⟨by rfl,?_⟩) hH ?_
    .intro w aa;go_simp
    simp only[Act.put];refine tkW (i:=4) (v:=undef) rfl (zgS ⟨by rfl,rfl⟩) hH ?_;simp only[Act.put];refine tkW (i:=5) (v:=undef) rfl (zgS ⟨by rfl,rfl⟩) hH ?_;simp only[Act.put];refine tkW (i:=6) (v:=undef) rfl (zgS ⟨by rfl,rfl⟩) hH ?_;simp only[Act.put];refine tkW (i:=7) (v:=undef) rfl (zgS ⟨by rfl,rfl⟩) hH ?_;simp only[Act.put];refine tkW (i:=8) (v:=undef) rfl (zgS ⟨by rfl,rfl⟩) hH ?_;simp only[Act.put];refine zp 9 λK hK=>?_;go_simp;refine hK.out _ _ hH λhH=>?_;clear hK K;refine dnr ?_;go_wp2_with fail
    go_meet
    case rel=>exact⟨by rw[HD.o];rfl,hH.1,hH.2.1,hH.2.2⟩
   |true=>
    have HX:=zc hX;cases hM:(yS k0 vv nl != k4) with
    |true=>
     have HD:Hid (qB k0 k1 k2 k3 k4 k5 s.size=false):=by
      unfold Hid qB;rw[EV.o,EN.o];simp at hM;simp[hM]
     clear hX;refine rgd (S:=(λw'=>zM w' g k0 k1 k2 k3 vv nl s/\zM w' w.heap.size 0 0 0 0 0 false ⟨#[]⟩/\BW w w')) ⟨ae.o.drew,ad.o.drew,af.o.drew⟩ λhH=>?_;refine tkW (i:=0) (v:=.agg #[iA k0,iA k1,iA k2,iA k3,iA vv,bA nl,sA s]) rfl (zgR ⟨by rfl,?_⟩) hH ?_
     .intro w aa;obtain⟨hm,_,_⟩:=aa;obtain⟨c0,c1,c2,c3,c4,c5,c6,_⟩:=hm.cells;go_simp
     simp only[Act.put,List.setIfInBounds_toArray];refine zp 1 λK hK=>?_;go_simp;go_wp2_with ((go_at_call 139;refine(yJ k0 k1 k2 k3 vv nl s _ ak).mono ?_;rw[HX.o];rintro e w1 ⟨rfl,ab⟩))
     refine hK.out _ _ ⟨hH.1.later ab hH.1.lt,hH.2.1.later ab hH.2.1.lt,hH.2.2.trans (ab.mono (zgI hH.2.1.lt))⟩ λhH=>?_;clear hK K;refine tkW (i:=2) (v:=bA false) rfl (zgR ⟨by rfl,?_⟩) hH ?_
     .intro w aa;go_simp
     simp only[Act.put,List.setIfInBounds_toArray];refine tkW (i:=3) (v:=bA false) rfl (zgR ⟨by rfl,?_⟩) hH ?_
     .intro w aa;go_simp
     simp only[Act.put];refine tkW (i:=4) (v:=.agg #[iA k0,iA k1,iA k2,iA k3,iA vv,bA nl,sA s]) rfl (zgR ⟨by rfl,?_⟩) hH ?_
     .intro w aa;obtain⟨hm,_,_⟩:=aa;obtain⟨c0,c1,c2,c3,c4,c5,c6,_⟩:=hm.cells;go_simp
     simp only[Act.put];refine tkW (i:=6) (v:=sA t) rfl (zgR ⟨by rfl,?_⟩) hH ?_
     .intro w aa;go_simp
     simp only[Act.put];refine tkW (i:=7) (v:=.int .u8 k4) rfl (zgR ⟨by rfl,?_⟩) hH ?_
     .intro w aa;go_simp
     simp only[Act.put];refine zp 5 λK hK=>?_;go_simp;go_wp2_with ((go_at_call 140;refine(gd k0 k1 k2 k3 vv nl s _ HX).mono ?_;rintro e w1 ⟨rfl,ab⟩))
     refine hK.out _ _ ⟨hH.1.later ab hH.1.lt,hH.2.1.later ab hH.2.1.lt,hH.2.2.trans (ab.mono (zgI hH.2.1.lt))⟩ λhH=>?_;clear hK K;refine tkW (i:=8) (v:=bA true) rfl (zgR ⟨by rfl,?_⟩) hH ?_
     .intro w aa;go_simp
     simp only[Act.put,List.setIfInBounds_toArray];refine zp 9 λK hK=>?_;go_simp;refine hK.out _ _ hH λhH=>?_;clear hK K;refine dnr ?_;go_wp2_with fail
     go_meet
     case rel=>exact⟨by rw[HD.o];rfl,hH.1,hH.2.1,hH.2.2⟩
    |false=>
     have HD:Hid (qB k0 k1 k2 k3 k4 k5 s.size=true):=by
      unfold Hid qB;rw[EV.o,EN.o,hX];simp at hM;simp[hM,H5.o]
     clear hX;refine rgd (S:=(λw'=>zM w' g k0 k1 k2 k3 vv nl s/\zM w' w.heap.size 0 0 0 0 0 false ⟨#[]⟩/\BW w w')) ⟨ae.o.drew,ad.o.drew,af.o.drew⟩ λhH=>?_;refine tkW (i:=0) (v:=.agg #[iA k0,iA k1,iA k2,iA k3,iA vv,bA nl,sA s]) rfl (zgR ⟨by rfl,?_⟩) hH ?_
     .intro w aa;obtain⟨hm,_,_⟩:=aa;obtain⟨c0,c1,c2,c3,c4,c5,c6,_⟩:=hm.cells;go_simp
     simp only[Act.put,List.setIfInBounds_toArray];refine zp 1 λK hK=>?_;go_simp;go_wp2_with ((go_at_call 139;refine(yJ k0 k1 k2 k3 vv nl s _ ak).mono ?_;rw[HX.o];rintro e w1 ⟨rfl,ab⟩))
     refine hK.out _ _ ⟨hH.1.later ab hH.1.lt,hH.2.1.later ab hH.2.1.lt,hH.2.2.trans (ab.mono (zgI hH.2.1.lt))⟩ λhH=>?_;clear hK K;refine tkW (i:=2) (v:=bA false) rfl (zgR ⟨by rfl,?_⟩) hH ?_
     .intro w aa;go_simp
     simp only[Act.put,List.setIfInBounds_toArray];refine tkW (i:=3) (v:=bA false) rfl (zgR ⟨by rfl,?_⟩) hH ?_
     .intro w aa;go_simp
     simp only[Act.put];refine tkW (i:=4) (v:=.agg #[iA k0,iA k1,iA k2,iA k3,iA vv,bA nl,sA s]) rfl (zgR ⟨by rfl,?_⟩) hH ?_
     .intro w aa;obtain⟨hm,_,_⟩:=aa;obtain⟨c0,c1,c2,c3,c4,c5,c6,_⟩:=hm.cells;go_simp
     simp only[Act.put];refine tkW (i:=6) (v:=sA t) rfl (zgR ⟨by rfl,?_⟩) hH ?_
     .intro w aa;go_simp
     simp only[Act.put];refine tkW (i:=7) (v:=.int .u8 k4) rfl (zgR ⟨by rfl,?_⟩) hH ?_
     .intro w aa;go_simp
     simp only[Act.put];refine zp 5 λK hK=>?_;go_simp;go_wp2_with ((go_at_call 140;refine(gd k0 k1 k2 k3 vv nl s _ HX).mono ?_;rintro e w1 ⟨rfl,ab⟩))
     refine hK.out _ _ ⟨hH.1.later ab hH.1.lt,hH.2.1.later ab hH.2.1.lt,hH.2.2.trans (ab.mono (zgI hH.2.1.lt))⟩ λhH=>?_;clear hK K;refine tkW (i:=8) (v:=bA false) rfl (zgR ⟨by rfl,?_⟩) hH ?_
     .intro w aa;go_simp
     simp only[Act.put,List.setIfInBounds_toArray];refine zp 9 λK hK=>?_;go_simp;refine hK.out _ _ hH λhH=>?_;clear hK K;refine dnr ?_;go_wp2_with fail
     go_meet
     case rel=>exact⟨by rw[HD.o];rfl,hH.1,hH.2.1,hH.2.2⟩
  case rest=>
   obtain⟨rfl,hH⟩:=hcut;cases hD:qB k0 k1 k2 k3 k4 k5 s.size with
   |false=>
    have HD:=zc hD;clear hD;obtain⟨hm,hz,hB⟩:=hH;obtain⟨c0,c1,c2,c3,c4,c5,c6,g0,g1,g2,g3,g4,g5,g6⟩:=hm.cells;obtain⟨z0,z1,z2,z3,z4,z5,z6,y0,y1,y2,y3,y4,y5,y6⟩:=hz.cells;have al:=zc hB;have hbb:=(hB.cell (p:=(aA 2 0)) (zgx _ _ an)).trans an;have au:¬w.heap.size=2:=by have:=zgx _ _ an.o;simp at this;omega
    have hn2:¬2=w.heap.size:=λe=>au e.symm;clear hm hz hB;go_wp2
    go_region
    go_wp2;exact zgJ (v:=.tuple #[.agg mA,eA b]) (by simp[results,results102,go_sem,z0,z1,z2,z3,z4,z5,z6]) rfl ⟨GV HD.o,(kL al.o (zgp _) _ _ _ _ _ _ _).drew⟩
   |true=>
    have HD:=zc hD;clear hD;obtain⟨hm,hz,hB⟩:=hH;obtain⟨c0,c1,c2,c3,c4,c5,c6,g0,g1,g2,g3,g4,g5,g6⟩:=hm.cells;obtain⟨z0,z1,z2,z3,z4,z5,z6,y0,y1,y2,y3,y4,y5,y6⟩:=hz.cells;have al:=zc hB;clear hm hz hB;go_wp2;exact zgJ (v:=.tuple #[.agg #[iA k0,iA k1,iA k2,iA k3,iA vv,bA nl,sA s],.nilIface]) (by simp[results,results102,go_sem,z0,z1,z2,z3,z4,z5,z6]) rfl ⟨zbh HD.o EV.o EN.o,kL al.o (zgp _) _ _ _ _ _ _ _⟩
theorem vI(t:zgW)(k0 k1 k2 k3 k4 k5:Int)(s:zgW)(b:Addr)(w:World)(hp:Parts t k0 k1 k2 k3 k4 k5 s)(hb:w.cell? (aA 2 0)=some (eA b)):
 Calls prog 102 #[sA t] w λe w'=>e=.returned (.tuple #[QA k0 k1 k2 k3 k4 k5 s,xB b (qB k0 k1 k2 k3 k4 k5 s.size)])/\BW w w':=by
 by_cases h5:(s.size:Int)=k5
 .exact YY t k0 k1 k2 k3 k4 k5 s b w hp h5 hb
 have hd:qB k0 k1 k2 k3 k4 k5 s.size=false:=by
  unfold qB;rw[zgH h5];simp
 refine(Ze t k0 k1 k2 k3 k4 k5 s b w hp h5 hb).mono ?_;rintro e w' ⟨rfl,hB⟩;exact⟨GV hd,hB⟩
theorem Z5(t:zgW)(K H R F V:Int)(nl:Bool)(s:zgW)(ok:Bool)(b:Addr)(w:World)
 (hd:∀(w:World),w.cell? (aA 2 0)=some (eA b)->Calls prog 102 #[sA t] w λe w'=>e=.returned (.tuple #[.agg #[iA K,iA H,iA R,iA F,iA V,bA nl,sA s],xB b ok])/\BW w w')
 (hb:w.cell? (aA 2 0)=some (eA b)):
 Calls prog 51 #[sA t] w λe w'=>e=.returned (.tuple #[.agg #[iA K,iA H,iA R,iA F,iA V,bA nl,sA s],xB b ok])/\BW w w':=by
 have aa:=λo=>cell?_alloc_old o hb;have HD:=zc hd;clear hd;go_enter func51,ntmps51;go_wp2_with fail
 refine(HD _ (aa _)).mono ?_;rintro e w1 ⟨rfl,hB⟩;obtain⟨z0,z1,z2,z3,z4,z5,z6,y0,y1,y2,y3,y4,y5,y6⟩:=((zM.alloc w 0 0 0 0 0 false ⟨#[]⟩).later hB (by simp)).cells;have HB:=zc hB;clear hB;go_wp2;exact zgJ (v:=.tuple #[.agg #[iA K,iA H,iA R,iA F,iA V,bA nl,sA s],xB b ok]) (by simp[results,results51,go_sem,z0,z1,z2,z3,z4,z5,z6]) rfl ⟨rfl,kL ((bwA w).trans (HB.o.mono (by simp))) (zgp _) _ _ _ _ _ _ _⟩
theorem Tryz.zdX:(prog.info? 57).map (·.size)=some 7:=by kernel_rfl
def gR(w:World)(g:Nat)(b:Addr):Prop:=w.cell? (aA g 0)=some (eA b)
theorem gR.below{w w':World}{g:Nat}{b:Addr}(h:gR w g b)(hb:BW w w'):gR w' g b:=by
 unfold gR at h ⊢;rw[hb.cell (p:=(aA g 0)) (by exact zgx _ _ h)];exact h
theorem xe(t:zgW)(b:Addr)(w:World)(hb:gR w 2 b):
 Calls prog 102 #[sA t] w λe w'=>e=.returned (.tuple #[.agg (decV t).cells,xB b (yT t)])/\BW w w':=by
 by_cases h6:6<=t.size
 .have h:=vI t _ _ _ _ _ _ _ b w (Qe t h6) hb;have e1:yT t=qB (byt t 0) (byt t 1) (byt t 2) (byt t 3) (byt t 4) (byt t 5) (t.extract 6 t.size).size:=by unfold yT;rw[zgG h6];rfl
  unfold QA at h;unfold decV;rw[e1];cases hd:qB (byt t 0) (byt t 1) (byt t 2) (byt t 3) (byt t 4) (byt t 5) (t.extract 6 t.size).size with
  |true=>
   rw[hd] at h;exact h
  |false=>
   rw[hd] at h;exact h
 have e1:yT t=false:=by unfold yT;rw[zgH h6];rfl
 unfold decV;rw[e1];exact gJ t b w (by omega) hb
theorem zb5{t:zgW}(h:yT t=false):decV t=zbV:=by unfold decV;rw[h];rfl
theorem YX(t:zgW)(b:Addr)(w:World)(hb:gR w 2 b)(h:yT t=false):
 Calls prog 102 #[sA t] w λe w'=>e=.returned (.tuple #[.agg mA,eA b])/\BW w w':=by
 have h1:=xe t b w hb;rw[zb5 h,h] at h1;exact h1
theorem Z4(t:zgW)(b:Addr)(K H R F V:Int)(nl:Bool)(s:zgW)(w:World)(hb:gR w 2 b)(h:yT t=true)(hv:decV t=⟨K,H,R,F,V,nl,s⟩):
 Calls prog 102 #[sA t] w λe w'=>e=.returned (.tuple #[.agg #[iA K,iA H,iA R,iA F,iA V,bA nl,sA s],.nilIface])/\BW w w':=by
 have h1:=xe t b w hb;rw[hv,h] at h1;exact h1
def gP(w:World)(g:Nat)(f:Int)(b:Addr):Prop:=w.heap[g]? =some (.cells #[iA f,eA b] 160 (0,0))
def QO(g:Nat):Value:=.iface 158 (pA g 0)
def zcb(sg:Nat->List zgW)(n:Nat)(t:zgW)(bF bS:Addr)(w:World)(e:Ending)(w':World):Prop:=
 BW w w'/\
  ((yT t=true/\z8 sg n (decV t).f t=true/\e=.returned (.tuple #[.agg (decV t).cells,.nilIface]))\/
   (yT t=false/\∃g,w.heap.size<=g/\gP w' g (-1) bF/\e=.returned (.tuple #[.agg zbV.cells,QO g]))\/
   (yT t=true/\z8 sg n (decV t).f t=false/\∃g,w.heap.size<=g/\gP w' g (decV t).f bS/\e=.returned (.tuple #[.agg zbV.cells,QO g])))
theorem Gk(rb n:Nat)(sg:Nat->List zgW)(t:zgW)(bF bS:Addr)(w:World)(hF:gR w 2 bF)(hd:yT t=false):
 Calls prog 77 #[pA rb 0,sA t] w (zcb sg n t bF bS w):=by
 obtain⟨HD,HF⟩:=ze hd hF;clear hd hF;go_enter func77,ntmps77;go_wp2_with fail
 refine(YX t bF _ (HF.o.below (bwA w)) HD).mono ?_;rintro e w1 ⟨rfl,hB⟩;have hz:w.heap.size<w1.heap.size:=by have:=hB.size;simp at this;omega
 have H0:=zc ((hB.block w.heap.size (by simp)).trans (zgr w (.cells mA 57)));have ah:Hid (BW w w1):=(bwA w).trans (hB.mono (by simp));clear hB;go_wp2_with (first|(refine zf rfl 57 _ _ rfl w1 mA rfl rfl 57 _ rfl (by simp[Value.oneCell']) Tryz.zdX ?_;intro w2 af ad aa;have H2:=zc ((ad.block _ hz).trans H0);have HZ:=zc aa;clear aa af)|(refine zi rfl 57 _ _ rfl w.heap.size mA rfl rfl 57 _ ((zg2 w2 _ _ (by have:=HZ.o;omega)).trans H2.o) rfl (by simp[Value.oneCell']) Tryz.zdX ?_;intro w3 ae ab))
 have aa:=HZ.o;have ag:Hid (BW w w2):=ah.o.trans (ad.mono (by omega));refine zgJ (v:=.tuple #[.agg mA,.iface 158 (pA w2.heap.size 0)]) (yw results77 _ _ w.heap.size 57 _ _ _ rfl rfl ae underlying57 rfl Tryz.zdX) rfl ⟨(ag.o.alloc (by omega) _).trans (ab.below (by omega)),zgS (zgR ⟨HD.o,w2.heap.size,by omega,?_,rfl⟩)⟩;exact(ab.block _ (by omega)).trans (zgr w2 _)
theorem Gi(F:Nat->Prop)(rb n:Nat)(sg:Nat->List zgW)(t:zgW)(bF bS:Addr)(w:World)(hr:RingI F rb n sg w)(hlt:∀k,F k->k<w.heap.size)(hF:gR w 2 bF)(hS:gR w 3 bS)(hd:yT t=true):
 Calls prog 77 #[pA rb 0,sA t] w (zcb sg n t bF bS w):=by
 obtain⟨m,hm⟩:=gen (decV t);obtain⟨K,H,R,Fm,V,nl,s⟩:=m;obtain⟨HM,HD,HF,HS,HR,ax⟩:=xz hm hd hF hS hr hlt;clear hd hF hS hm hr hlt;go_enter func77,ntmps77;go_wp2_with fail
 refine(Z4 t bF K H R Fm V nl s _ (HF.o.below (bwA w)) HD HM.o.symm).mono ?_;rintro e w1 ⟨rfl,hB⟩;have hz:w.heap.size<w1.heap.size:=by have:=hB.size;simp at this;omega
 have H0:=zc ((hB.block w.heap.size (by simp)).trans (zgr w (.cells mA 57)));have ay:Hid (BW w w1):=(bwA w).trans (hB.mono (by simp));clear hB;go_wp2_with (refine zi rfl 57 _ _ rfl w1.heap.size #[iA K,iA H,iA R,iA Fm,iA V,bA nl,sA s] rfl rfl 57 _ (zgr w1 _) rfl (by simp[Value.oneCell']) Tryz.zdX ?_;intro w2 ai ad;have hc3:cN w2 w1 3 (iA Fm):=zgs w2 _ 3 _ _ _ ai)
 have ag:w2.heap.size=w1.heap.size+1:=by rw[ad.size];simp
 have H2:Hid (cL w2 w.heap.size mA 57):=(ad.block _ (by omega)).trans ((zg2 w1 _ _ hz).trans H0.o);have af:Hid (BW w w2):=(ay.o.alloc (by omega) _).trans (ad.below (by omega));obtain⟨HZ,aw,av⟩:=zC ag ai (HR.o.frame (λk hk=>af.o.block k (ax k hk)));have hs2:cE w2 3 0 (eA bS):=HS.o.below af;clear ai ad ag;have ae:=zc (qP F rb n sg Fm t w2 av);cases aa:z8 sg n Fm t with
 |true=>
  rw[aa] at ae;have aj:Hid (z8 sg n (decV t).f t=true):=by unfold Hid;rw[<-HM.o];exact aa
  clear aa;refine ae.o.mono ?_;rintro e wy ⟨rfl,ab⟩;have ah:=ab.symm;clear ab;subst ah;go_wp2_with (first|(refine zg4 rfl 57 _ rfl w1.heap.size rfl 57 #[iA K,iA H,iA R,iA Fm,iA V,bA nl,sA s] (0,0) _ aw.o underlying57 rfl Tryz.zdX ?_)|(refine zi rfl 57 _ _ rfl w.heap.size #[iA K,iA H,iA R,iA Fm,iA V,bA nl,sA s] rfl rfl 57 _ H2.o rfl (by simp[Value.oneCell']) Tryz.zdX ?_;intro w3 al an))
  have ag:=HZ.o;refine zgJ (v:=.tuple #[.agg #[iA K,iA H,iA R,iA Fm,iA V,bA nl,sA s],.nilIface]) (yw results77 _ _ w.heap.size 57 _ _ _ rfl rfl al underlying57 rfl Tryz.zdX) rfl ⟨af.o.trans (an.below (by omega)),zgR ⟨HD.o,aj.o,?_⟩⟩;rw[<-HM.o];rfl
 |false=>
  rw[aa] at ae;have aj:Hid (z8 sg n (decV t).f t=false):=by unfold Hid;rw[<-HM.o];exact aa
  clear aa;refine ae.o.mono ?_;rintro e wy ⟨rfl,ab⟩;have ah:=ab.symm;clear ab;subst ah;go_wp2_with fail
  obtain⟨z0,z1,z2,z3,z4,z5,z6,y0,y1,y2,y3,y4,y5,y6⟩:=zM.cells (w:=w2) (g:=w.heap.size) H2;have ak:w.heap.size<w2.heap.size:=by have:=HZ.o;omega
  have hgl:3<w.heap.size:=zgx _ _ HS;have au:¬3=w.heap.size:=by omega
  have ar:¬w.heap.size=3:=by omega
  have aq:¬w1.heap.size=w.heap.size:=by omega
  have ao:¬w.heap.size=w1.heap.size:=by omega
  have hz4:w1.heap.size<w2.heap.size:=by have:=HZ.o;omega
  go_region
  go_wp2;refine zgJ (v:=.tuple #[.agg mA,.iface 158 (pA w2.heap.size 0)]) (by simp[results,results77,go_sem,z0,z1,z2,z3,z4,z5,z6,ak]) rfl ⟨?_,zgS (zgS ⟨HD.o,aj.o,w2.heap.size,by omega,?_,rfl⟩)⟩
  .refine Below.drew (Below.alloc (kL af (zgp _) _ _ _ _ _ _ _) ?_ _);simp;omega
  rw[<-HM.o];have h:=zgr (((((((w2.setCell (nA w 0) (iA 0)).setCell (nA w 1) (iA 0)).setCell (nA w 2) (iA 0)).setCell (nA w 3) (iA 0)).setCell (nA w 4) (iA 0)).setCell (nA w 5) (bA false)).setCell (nA w 6) (sA ⟨#[]⟩)) (.cells #[iA Fm,eA bS] 160);have e:(((((((w2.setCell (nA w 0) (iA 0)).setCell (nA w 1) (iA 0)).setCell (nA w 2) (iA 0)).setCell (nA w 3) (iA 0)).setCell (nA w 4) (iA 0)).setCell (nA w 5) (bA false)).setCell (nA w 6) (sA ⟨#[]⟩)).heap.size=w2.heap.size:=by simp
  rw[e] at h;exact h
theorem zaX(F:Nat->Prop)(rb n:Nat)(sg:Nat->List zgW)(t:zgW)(bF bS:Addr)(w:World)(hr:RingI F rb n sg w)(hlt:∀k,F k->k<w.heap.size)(hF:gR w 2 bF)(hS:gR w 3 bS):
 Calls prog 77 #[pA rb 0,sA t] w (zcb sg n t bF bS w):=by
 cases hd:yT t with
 |true=>exact Gi F rb n sg t bF bS w hr hlt hF hS hd
 |false=>exact Gk rb n sg t bF bS w hF hd

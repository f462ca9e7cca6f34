import Derived.Test.YtcfjhbcpjpgodaaGreatDoorJ16
namespace Go.Proofs.YtcfjhbcpjpgodaaGreatDoor
open Go.RowKit Proofs.Tryz
set_option maxRecDepth 100000
set_option maxHeartbeats 0
set_option linter.all false
theorem Zq(t:zj5)(b:Addr)(w:World)(h:t.size<6)(hb:w.cell? (aA 2 0)=some (eA b)):
 Calls prog 102 #[sA t] w λe w'=>e=.returned (.tuple #[.agg mA,eA b])/\BW w w':=by
 have h':(t.size:Int)<6:=by omega
 have hc:=cell?_alloc_old (.cells mA 57) hb;go_enter func102,ntmps102;go_wp2
 go_region
 go_wp2;exact zjT (v:=.tuple #[.agg mA,eA b]) (by simp[results,results102,go_sem]) rfl ⟨rfl,(bwA _).drew⟩
theorem ZM(t:zj5)(k0 k1 k2 k3 k4 k5:Int)(s:zj5)(b:Addr)(w:World)(hp:zcn t k0 k1 k2 k3 k4 k5 s)(h5:(s.size:Int)≠k5)(hb:w.cell? (aA 2 0)=some (eA b)):
 Calls prog 102 #[sA t] w λe w'=>e=.returned (.tuple #[.agg mA,eA b])/\BW w w':=by
 have a5:=hp.at5;have b5:=hp.b5;have h6:¬(t.size:Int)<6:=by have:=hp.size;omega
 have ht:((t.size:Int) != 6+k5)=true:=by have:=hp.size;simp;omega
 have hc:=cell?_alloc_old (.cells mA 57) hb;clear hp h5;go_enter func102,ntmps102;go_wp2
 go_region
 go_wp2;exact zjT (v:=.tuple #[.agg mA,eA b]) (by simp[results,results102,go_sem]) rfl ⟨rfl,(bwA _).drew⟩
theorem KT(t:zj5)(k0 k1 k2 k3 k4 k5:Int)(s:zj5)(b:Addr)(w:World)(hp:zcn t k0 k1 k2 k3 k4 k5 s)(h5:(s.size:Int)=k5)(hb:w.cell? (aA 2 0)=some (eA b)):
 Calls prog 102 #[sA t] w λe w'=>e=.returned (.tuple #[zeC k0 k1 k2 k3 k4 k5 s,gM b (Zh k0 k1 k2 k3 k4 k5 s.size)])/\BW w w':=by
 have a0:=hp.at0;have a1:=hp.at1;have a2:=hp.at2;have a3:=hp.at3;have a4:=hp.at4;have a5:=hp.at5;have ar:=hp.rest;have b0:=hp.b0;have b1:=hp.b1;have b2:=hp.b2;have b3:=hp.b3;have b4:=hp.b4;have b5:=hp.b5;obtain⟨vv,ai⟩:∃z,vOf k0 k4=z:=⟨_,rfl⟩;obtain⟨nl,aj⟩:∃z,nlOf k0 k4=z:=⟨_,rfl⟩;obtain⟨EV,EN⟩:=zn ai aj;have aq:Hid ((k0==1)=true/\vv=k4-1/\nl=false\/(k0==1)=false/\vv=0/\(k4==1)=nl):=by
  rw[<-ai,<-aj];unfold Hid vOf nlOf;by_cases hk:k0=1
  .rw [zj2 hk,zj2 hk];exact zj0 ⟨by simpa using hk,rfl,rfl⟩
  rw[zj3 hk,zj3 hk];exact zj1 ⟨by simpa using hk,rfl,rfl⟩
 clear ai aj;have h6:¬(t.size:Int)<6:=by have:=hp.size;omega
 have ht:((t.size:Int) != 6+k5)=false:=by have:=hp.size;simp;omega
 have al:Hid (s.size<=maxLen):=by unfold Hid maxLen;omega
 have HS:Hid (s.size<=281474976710656):=by unfold Hid;omega
 obtain⟨HP,H5,ao⟩:=zS hp h5 hb;clear hp h5 hb;go_enter func102,ntmps102
 go_upto_region 3 with fail
 go_cut [4] (λp4 wc=>∃g,p4=pA g 0/\zR wc g k0 k1 k2 k3 0 false s/\zR wc w.heap.size 0 0 0 0 0 false ⟨#[]⟩/\w.heap.size<g/\BW w wc)
 case first=>
  refine rgd (S:=λ_=>True) trivial λ_=>?_;refine tkW (i:=0) (v:=sA t) rfl (zj0 ⟨by rfl,?_⟩) trivial ?_
  .intro w aa;go_simp
  simp only[Act.put,List.setIfInBounds_toArray];refine tkW (i:=1) (v:=.int .u8 k0) rfl (zj0 ⟨by rfl,?_⟩) trivial ?_
  .intro w aa;go_simp
  simp only[Act.put];refine tkW (i:=2) (v:=iA k0) rfl (zj0 ⟨by rfl,?_⟩) trivial ?_
  .intro w aa;go_simp;rw[IntKind.wrap_i64];omega
  simp only[Act.put];refine tkW (i:=3) (v:=sA t) rfl (zj0 ⟨by rfl,?_⟩) trivial ?_
  .intro w aa;go_simp
  simp only[Act.put];refine tkW (i:=4) (v:=.int .u8 k1) rfl (zj0 ⟨by rfl,?_⟩) trivial ?_
  .intro w aa;go_simp
  simp only[Act.put];refine tkW (i:=5) (v:=iA k1) rfl (zj0 ⟨by rfl,?_⟩) trivial ?_
  .intro w aa;go_simp;rw[IntKind.wrap_i64];omega
  simp only[Act.put];refine tkW (i:=6) (v:=sA t) rfl (zj0 ⟨by rfl,?_⟩) trivial ?_
  .intro w aa;go_simp
  simp only[Act.put];refine tkW (i:=7) (v:=.int .u8 k2) rfl (zj0 ⟨by rfl,?_⟩) trivial ?_
  .intro w aa;go_simp
  simp only[Act.put];refine tkW (i:=8) (v:=iA k2) rfl (zj0 ⟨by rfl,?_⟩) trivial ?_
  .intro w aa;go_simp;rw[IntKind.wrap_i64];omega
  simp only[Act.put];refine tkW (i:=9) (v:=sA t) rfl (zj0 ⟨by rfl,?_⟩) trivial ?_
  .intro w aa;go_simp
  simp only[Act.put];refine tkW (i:=10) (v:=.int .u8 k3) rfl (zj0 ⟨by rfl,?_⟩) trivial ?_
  .intro w aa;go_simp
  simp only[Act.put];refine tkW (i:=11) (v:=iA k3) rfl (zj0 ⟨by rfl,?_⟩) trivial ?_
  .intro w aa;go_simp;rw[IntKind.wrap_i64];omega
  simp only[Act.put];refine tkW (i:=12) (v:=sA t) rfl (zj0 ⟨by rfl,?_⟩) trivial ?_
  .intro w aa;go_simp
  simp only[Act.put];refine tkW (i:=13) (v:=sA s) rfl (zj0 ⟨by rfl,?_⟩) trivial ?_
  .intro w aa;go_simp
  simp only[Act.put];refine Jp 14 16 (λK hK=>?_) λK hK=>?_
  .go_simp;go_wp2_with ((go_at_call 82;refine(vG s _ HS).mono ?_;rintro e w1 ⟨rfl,ad⟩))
   refine hK.out _ _ trivial λ_=>?_;clear hK K;refine tkW (i:=15) (v:=.agg #[iA k0,iA k1,iA k2,iA k3,iA 0,bA false,sA s]) rfl (zj0 ⟨by rfl,?_⟩) trivial ?_
   .intro w aa;go_simp
   simp only[Act.put,List.setIfInBounds_toArray];refine zv 16 λK hK=>?_;go_simp;refine hK.out _ _ trivial λ_=>?_;clear hK K;refine zv 17 λK hK=>?_;go_simp;refine hK.out _ _ trivial λ_=>?_;clear hK K;refine dnr ?_;go_wp2_with fail
   go_meet
   case rel=>
    have ak:BW w w1:=((bwA w).drew).trans (ad.mono (by simp));have ah:w.heap.size<w1.heap.size:=by have:=ad.size;simp at this;omega
    exact⟨w1.heap.size,rfl,zR.alloc w1 k0 k1 k2 k3 0 false s,((zR.alloc w 0 0 0 0 0 false ⟨#[]⟩).drew.later ad (by simp)).later (Below.alloc (zjB w1.heap.size w1) (zjA _) _) ah,ah,ak.alloc (zjS ah) _⟩
  go_simp;refine hK.out _ _ trivial λ_=>?_;clear hK K;refine zv 14 λK hK=>?_;go_simp;go_wp2_with ((go_at_call 82;refine(vG s _ HS).mono ?_;rintro e w1 ⟨rfl,ad⟩))
  obtain⟨hc1,hf1⟩:=zfu ad;refine hK.out _ _ trivial λ_=>?_;clear hK K;refine tkW (i:=15) (v:=.agg #[iA k0,iA k1,iA k2,iA k3,iA 0,bA false,sA s]) rfl (zj0 ⟨by rfl,?_⟩) trivial ?_
  .intro w aa;go_simp
  simp only[Act.put,List.setIfInBounds_toArray];refine zv 17 λK hK=>?_;go_simp;refine hK.out _ _ trivial λ_=>?_;clear hK K;refine dnr ?_;go_wp2_with fail
  go_meet
  case rel=>
   have ak:BW w w1:=(((bwA w).drew).alloc (by simp) _).trans (ad.mono (by simp;omega));have aw:zR w1 (w.heap.size+1) 0 0 0 0 0 false ⟨#[]⟩:=(zR.zi3 w _ 0 0 0 0 0 false ⟨#[]⟩).drew.later ad (by simp);have au:zR w1 w.heap.size 0 0 0 0 0 false ⟨#[]⟩:=((zR.alloc w 0 0 0 0 0 false ⟨#[]⟩).later (Below.alloc (zjB (w.heap.size+1) _) (by simp) _) (by omega)).drew.later ad (by simp;omega);exact⟨w.heap.size+1,rfl,aw.ziR k0 k1 k2 k3 0 false s,au.zhB (by omega) _ _ _ _ _ _ _,by omega,jm ak (by omega) _ _ _ _ _ _ _⟩
 obtain⟨g,rfl,hm,hz,ah,hB⟩:=hcut;obtain⟨c0,c1,c2,c3,c4,c5,c6,g0,g1,g2,g3,g4,g5,g6⟩:=hm.cells;have ax:=aq;clear aq;rcases ax with⟨q0,q1,q2⟩|⟨q0,q1,q2⟩;focus
  have af:Hid (zR (wc.setCell (aA g 4) (iA (k4-1))) g k0 k1 k2 k3 vv nl s):=by rw[q1,q2];exact hm.zjq (k4-1)
  have ae:Hid (zR (wc.setCell (aA g 4) (iA (k4-1))) w.heap.size 0 0 0 0 0 false ⟨#[]⟩):=hz.setOther _ _ (by simp;omega);have ag:Hid (BW w (wc.setCell (aA g 4) (iA (k4-1)))):=hB.setCell (by simp;omega) _;clear hm hz hB q1 q2
  go_upto_region 7 with fail
  generalize wc.setCell (aA g 4) (iA (k4-1))=W7 at af ae ag ⊢
 rotate_left;focus
  have af:Hid (zR (wc.setCell (aA g 5) (bA nl)) g k0 k1 k2 k3 vv nl s):=by rw[q1];exact hm.zi9 nl
  have ae:Hid (zR (wc.setCell (aA g 5) (bA nl)) w.heap.size 0 0 0 0 0 false ⟨#[]⟩):=hz.setOther _ _ (by simp;omega);have ag:Hid (BW w (wc.setCell (aA g 5) (bA nl))):=hB.setCell (by simp;omega) _;clear hm hz hB q1
  go_upto_region 7 with fail
  generalize wc.setCell (aA g 5) (bA nl)=W7 at af ae ag ⊢
 all_goals
  clear c0 c1 c2 c3 c4 c5 c6 g0 g1 g2 g3 g4 g5 g6
  go_cut [56] (λc wd=>c=bA (!(Zh k0 k1 k2 k3 k4 k5 s.size))/\zR wd g k0 k1 k2 k3 vv nl s/\zR wd w.heap.size 0 0 0 0 0 false ⟨#[]⟩/\BW w wd)
  case first=>
   cases hX:hasB k0 k1 k2 k3 vv nl s.size with
   |false=>
    have HX:=zc hX;have HD:Hid (Zh k0 k1 k2 k3 k4 k5 s.size=false):=zeD (by rw[EV.o,EN.o];exact hX);clear hX;refine rgd (S:=(λw'=>zR w' g k0 k1 k2 k3 vv nl s/\zR w' w.heap.size 0 0 0 0 0 false ⟨#[]⟩/\BW w w')) ⟨af.o.drew,ae.o.drew,ag.o.drew⟩ λhH=>?_;refine tkW (i:=0) (v:=.agg #[iA k0,iA k1,iA k2,iA k3,iA vv,bA nl,sA s]) rfl (zj0 ⟨by rfl,?_⟩) hH ?_
    .intro w aa;obtain⟨hm,_,_⟩:=aa;obtain⟨c0,c1,c2,c3,c4,c5,c6,_⟩:=hm.cells;go_simp
    simp only[Act.put,List.setIfInBounds_toArray];refine zv 1 λK hK=>?_;go_simp;go_wp2_with ((go_at_call 139;refine(yL k0 k1 k2 k3 vv nl s _ al).mono ?_;rw[HX.o];rintro e w1 ⟨rfl,ad⟩))
    refine hK.out _ _ ⟨hH.1.later ad hH.1.lt,hH.2.1.later ad hH.2.1.lt,hH.2.2.trans (ad.mono (zjS hH.2.1.lt))⟩ λhH=>?_;clear hK K;refine tkW (i:=2) (v:=bA true) rfl (zj0 ⟨by rfl,?_⟩) hH ?_
    .intro w aa;go_simp
    simp only[Act.put,List.setIfInBounds_toArray];refine tkW (i:=3) (v:=bA true) rfl (zj0 ⟨by rfl,?_⟩) hH ?_
    .intro w aa;go_simp
    simp only[Act.put];refine tkW (i:=4) (v:=undef) rfl (zj1 ⟨by rfl,rfl⟩) hH ?_;simp only[Act.put];refine tkW (i:=5) (v:=undef) rfl (zj1 ⟨by rfl,rfl⟩) hH ?_;simp only[Act.put];refine tkW (i:=6) (v:=undef) rfl (zj1 ⟨by rfl,rfl⟩) hH ?_;simp only[Act.put];refine tkW (i:=7) (v:=undef) rfl (zj1 ⟨by rfl,rfl⟩) hH ?_;simp only[Act.put];refine tkW (i:=8) (v:=undef) rfl (zj1 ⟨by rfl,rfl⟩) hH ?_;simp only[Act.put];refine zv 9 λK hK=>?_;go_simp;refine hK.out _ _ hH λhH=>?_;clear hK K;refine dnr ?_;go_wp2_with fail
    go_meet
    case rel=>exact⟨by rw[HD.o];rfl,hH.1,hH.2.1,hH.2.2⟩
   |true=>
    have HX:=zc hX;cases hM:(jh k0 vv nl != k4) with
    |true=>
     have HD:Hid (Zh k0 k1 k2 k3 k4 k5 s.size=false):=by
      unfold Hid Zh;rw[EV.o,EN.o];simp at hM;simp[hM]
     clear hX;refine rgd (S:=(λw'=>zR w' g k0 k1 k2 k3 vv nl s/\zR w' w.heap.size 0 0 0 0 0 false ⟨#[]⟩/\BW w w')) ⟨af.o.drew,ae.o.drew,ag.o.drew⟩ λhH=>?_;refine tkW (i:=0) (v:=.agg #[iA k0,iA k1,iA k2,iA k3,iA vv,bA nl,sA s]) rfl (zj0 ⟨by rfl,?_⟩) hH ?_
     .intro w aa;obtain⟨hm,_,_⟩:=aa;obtain⟨c0,c1,c2,c3,c4,c5,c6,_⟩:=hm.cells;go_simp
     simp only[Act.put,List.setIfInBounds_toArray];refine zv 1 λK hK=>?_;go_simp;go_wp2_with ((go_at_call 139;refine(yL k0 k1 k2 k3 vv nl s _ al).mono ?_;rw[HX.o];rintro e w1 ⟨rfl,ad⟩))
     refine hK.out _ _ ⟨hH.1.later ad hH.1.lt,hH.2.1.later ad hH.2.1.lt,hH.2.2.trans (ad.mono (zjS hH.2.1.lt))⟩ λhH=>?_;clear hK K;refine tkW (i:=2) (v:=bA false) rfl (zj0 ⟨by rfl,?_⟩) hH ?_
     .intro w aa;go_simp
     simp only[Act.put,List.setIfInBounds_toArray];refine tkW (i:=3) (v:=bA false) rfl (zj0 ⟨by rfl,?_⟩) hH ?_
     .intro w aa;go_simp
     simp only[Act.put];refine tkW (i:=4) (v:=.agg #[iA k0,iA k1,iA k2,iA k3,iA vv,bA nl,sA s]) rfl (zj0 ⟨by rfl,?_⟩) hH ?_
     .intro w aa;obtain⟨hm,_,_⟩:=aa;obtain⟨c0,c1,c2,c3,c4,c5,c6,_⟩:=hm.cells;go_simp
     simp only[Act.put];refine tkW (i:=6) (v:=sA t) rfl (zj0 ⟨by rfl,?_⟩) hH ?_
     .intro w aa;go_simp
     simp only[Act.put];refine tkW (i:=7) (v:=.int .u8 k4) rfl (zj0 ⟨by rfl,?_⟩) hH ?_
     .intro w aa;go_simp
     simp only[Act.put];refine zv 5 λK hK=>?_;go_simp;go_wp2_with ((go_at_call 140;refine(gU k0 k1 k2 k3 vv nl s _ HX).mono ?_;rintro e w1 ⟨rfl,ad⟩))
     refine hK.out _ _ ⟨hH.1.later ad hH.1.lt,hH.2.1.later ad hH.2.1.lt,hH.2.2.trans (ad.mono (zjS hH.2.1.lt))⟩ λhH=>?_;clear hK K;refine tkW (i:=8) (v:=bA true) rfl (zj0 ⟨by rfl,?_⟩) hH ?_
     .intro w aa;go_simp
     simp only[Act.put,List.setIfInBounds_toArray];refine zv 9 λK hK=>?_;go_simp;refine hK.out _ _ hH λhH=>?_;clear hK K;refine dnr ?_;go_wp2_with fail
     go_meet
     case rel=>exact⟨by rw[HD.o];rfl,hH.1,hH.2.1,hH.2.2⟩
    |false=>
     have HD:Hid (Zh k0 k1 k2 k3 k4 k5 s.size=true):=by
      unfold Hid Zh;rw[EV.o,EN.o,hX];simp at hM;simp[hM,H5.o]
     clear hX;refine rgd (S:=(λw'=>zR w' g k0 k1 k2 k3 vv nl s/\zR w' w.heap.size 0 0 0 0 0 false ⟨#[]⟩/\BW w w')) ⟨af.o.drew,ae.o.drew,ag.o.drew⟩ λhH=>?_;refine tkW (i:=0) (v:=.agg #[iA k0,iA k1,iA k2,iA k3,iA vv,bA nl,sA s]) rfl (zj0 ⟨by rfl,?_⟩) hH ?_
     .intro w aa;obtain⟨hm,_,_⟩:=aa;obtain⟨c0,c1,c2,c3,c4,c5,c6,_⟩:=hm.cells;go_simp
     simp only[Act.put,List.setIfInBounds_toArray];refine zv 1 λK hK=>?_;go_simp;go_wp2_with ((go_at_call 139;refine(yL k0 k1 k2 k3 vv nl s _ al).mono ?_;rw[HX.o];rintro e w1 ⟨rfl,ad⟩))
     refine hK.out _ _ ⟨hH.1.later ad hH.1.lt,hH.2.1.later ad hH.2.1.lt,hH.2.2.trans (ad.mono (zjS hH.2.1.lt))⟩ λhH=>?_;clear hK K;refine tkW (i:=2) (v:=bA false) rfl (zj0 ⟨by rfl,?_⟩) hH ?_
     .intro w aa;go_simp
     simp only[Act.put,List.setIfInBounds_toArray];refine tkW (i:=3) (v:=bA false) rfl (zj0 ⟨by rfl,?_⟩) hH ?_
     .intro w aa;go_simp
     simp only[Act.put];refine tkW (i:=4) (v:=.agg #[iA k0,iA k1,iA k2,iA k3,iA vv,bA nl,sA s]) rfl (zj0 ⟨by rfl,?_⟩) hH ?_
     .intro w aa;obtain⟨hm,_,_⟩:=aa;obtain⟨c0,c1,c2,c3,c4,c5,c6,_⟩:=hm.cells;go_simp
     simp only[Act.put];refine tkW (i:=6) (v:=sA t) rfl (zj0 ⟨by rfl,?_⟩) hH ?_
     .intro w aa;go_simp
     simp only[Act.put];refine tkW (i:=7) (v:=.int .u8 k4) rfl (zj0 ⟨by rfl,?_⟩) hH ?_
     .intro w aa;go_simp
     simp only[Act.put];refine zv 5 λK hK=>?_;go_simp;go_wp2_with ((go_at_call 140;refine(gU k0 k1 k2 k3 vv nl s _ HX).mono ?_;rintro e w1 ⟨rfl,ad⟩))
     refine hK.out _ _ ⟨hH.1.later ad hH.1.lt,hH.2.1.later ad hH.2.1.lt,hH.2.2.trans (ad.mono (zjS hH.2.1.lt))⟩ λhH=>?_;clear hK K;refine tkW (i:=8) (v:=bA false) rfl (zj0 ⟨by rfl,?_⟩) hH ?_
     .intro w aa;go_simp
     simp only[Act.put,List.setIfInBounds_toArray];refine zv 9 λK hK=>?_;go_simp;refine hK.out _ _ hH λhH=>?_;clear hK K;refine dnr ?_;go_wp2_with fail
     go_meet
     case rel=>exact⟨by rw[HD.o];rfl,hH.1,hH.2.1,hH.2.2⟩
  case rest=>
   obtain⟨rfl,hH⟩:=hcut;cases hD:Zh k0 k1 k2 k3 k4 k5 s.size with
   |false=>
    have HD:=zc hD;clear hD;obtain⟨hm,hz,hB⟩:=hH;obtain⟨c0,c1,c2,c3,c4,c5,c6,g0,g1,g2,g3,g4,g5,g6⟩:=hm.cells;obtain⟨z0,z1,z2,z3,z4,z5,z6,y0,y1,y2,y3,y4,y5,y6⟩:=hz.cells;have an:=zc hB;have hbb:=(hB.cell (p:=(aA 2 0)) (zjI _ _ ao)).trans ao;have av:¬w.heap.size=2:=by have:=zjI _ _ ao.o;simp at this;omega
    have hn2:¬2=w.heap.size:=λe=>av e.symm;clear hm hz hB;go_wp2
    go_region
    go_wp2;exact zjT (v:=.tuple #[.agg mA,eA b]) (by simp[results,results102,go_sem,z0,z1,z2,z3,z4,z5,z6]) rfl ⟨zbS HD.o,(jm an.o (zjA _) _ _ _ _ _ _ _).drew⟩
   |true=>
    have HD:=zc hD;clear hD;obtain⟨hm,hz,hB⟩:=hH;obtain⟨c0,c1,c2,c3,c4,c5,c6,g0,g1,g2,g3,g4,g5,g6⟩:=hm.cells;obtain⟨z0,z1,z2,z3,z4,z5,z6,y0,y1,y2,y3,y4,y5,y6⟩:=hz.cells;have an:=zc hB;clear hm hz hB;go_wp2;exact zjT (v:=.tuple #[.agg #[iA k0,iA k1,iA k2,iA k3,iA vv,bA nl,sA s],.nilIface]) (by simp[results,results102,go_sem,z0,z1,z2,z3,z4,z5,z6]) rfl ⟨zdr HD.o EV.o EN.o,jm an.o (zjA _) _ _ _ _ _ _ _⟩
theorem YM(t:zj5)(k0 k1 k2 k3 k4 k5:Int)(s:zj5)(b:Addr)(w:World)(hp:zcn t k0 k1 k2 k3 k4 k5 s)(hb:w.cell? (aA 2 0)=some (eA b)):
 Calls prog 102 #[sA t] w λe w'=>e=.returned (.tuple #[zeC k0 k1 k2 k3 k4 k5 s,gM b (Zh k0 k1 k2 k3 k4 k5 s.size)])/\BW w w':=by
 by_cases h5:(s.size:Int)=k5
 .exact KT t k0 k1 k2 k3 k4 k5 s b w hp h5 hb
 have hd:Zh k0 k1 k2 k3 k4 k5 s.size=false:=by
  unfold Zh;rw[zjR h5];simp
 refine(ZM t k0 k1 k2 k3 k4 k5 s b w hp h5 hb).mono ?_;rintro e w' ⟨rfl,hB⟩;exact⟨zbS hd,hB⟩
theorem Tryz.zgb:(prog.info? 57).map (·.size)=some 7:=by kernel_rfl
def Zx(w:World)(g:Nat)(b:Addr):Prop:=w.cell? (aA g 0)=some (eA b)
theorem Zx.below{w w':World}{g:Nat}{b:Addr}(h:Zx w g b)(hb:BW w w'):Zx w' g b:=by
 unfold Zx at h ⊢;rw[hb.cell (p:=(aA g 0)) (by exact zjI _ _ h)];exact h
theorem xE(t:zj5)(b:Addr)(w:World)(hb:Zx w 2 b):
 Calls prog 102 #[sA t] w λe w'=>e=.returned (.tuple #[.agg (decV t).cells,gM b (zM t)])/\BW w w':=by
 by_cases h6:6<=t.size
 .have h:=YM t _ _ _ _ _ _ _ b w (zbl t h6) hb;have e1:zM t=Zh (byt t 0) (byt t 1) (byt t 2) (byt t 3) (byt t 4) (byt t 5) (t.extract 6 t.size).size:=by unfold zM;rw[zjQ h6];rfl
  unfold zeC at h;unfold decV;rw[e1];cases hd:Zh (byt t 0) (byt t 1) (byt t 2) (byt t 3) (byt t 4) (byt t 5) (t.extract 6 t.size).size with
  |true=>
   rw[hd] at h;exact h
  |false=>
   rw[hd] at h;exact h
 have e1:zM t=false:=by unfold zM;rw[zjR h6];rfl
 unfold decV;rw[e1];exact Zq t b w (by omega) hb
theorem zeA{t:zj5}(h:zM t=false):decV t=XZ:=by unfold decV;rw[h];rfl
theorem KS(t:zj5)(b:Addr)(w:World)(hb:Zx w 2 b)(h:zM t=false):
 Calls prog 102 #[sA t] w λe w'=>e=.returned (.tuple #[.agg mA,eA b])/\BW w w':=by
 have h1:=xE t b w hb;rw[zeA h,h] at h1;exact h1
theorem YL(t:zj5)(b:Addr)(K H R F V:Int)(nl:Bool)(s:zj5)(w:World)(hb:Zx w 2 b)(h:zM t=true)(hv:decV t=⟨K,H,R,F,V,nl,s⟩):
 Calls prog 102 #[sA t] w λe w'=>e=.returned (.tuple #[.agg #[iA K,iA H,iA R,iA F,iA V,bA nl,sA s],.nilIface])/\BW w w':=by
 have h1:=xE t b w hb;rw[hv,h] at h1;exact h1
def RefAt(w:World)(g:Nat)(f:Int)(b:Addr):Prop:=w.heap[g]? =some (.cells #[iA f,eA b] 160 (0,0))
def Qd(g:Nat):Value:=.iface 158 (pA g 0)
def zeP(sg:Nat->List zj5)(n:Nat)(t:zj5)(bF bS:Addr)(w:World)(e:Ending)(w':World):Prop:=
 BW w w'/\
  ((zM t=true/\zB sg n (decV t).f t=true/\e=.returned (.tuple #[.agg (decV t).cells,.nilIface]))\/
   (zM t=false/\∃g,w.heap.size<=g/\RefAt w' g (-1) bF/\e=.returned (.tuple #[.agg XZ.cells,Qd g]))\/
   (zM t=true/\zB sg n (decV t).f t=false/\∃g,w.heap.size<=g/\RefAt w' g (decV t).f bS/\e=.returned (.tuple #[.agg XZ.cells,Qd g])))
theorem zbr(rb n:Nat)(sg:Nat->List zj5)(t:zj5)(bF bS:Addr)(w:World)(hF:Zx w 2 bF)(hd:zM t=false):
 Calls prog 77 #[pA rb 0,sA t] w (zeP sg n t bF bS w):=by
 obtain⟨HD,HF⟩:=zn hd hF;clear hd hF;go_enter func77,ntmps77;go_wp2_with fail
 refine(KS t bF _ (HF.o.below (bwA w)) HD).mono ?_;rintro e w1 ⟨rfl,hB⟩;have hz:w.heap.size<w1.heap.size:=by have:=hB.size;simp at this;omega
 have H0:=zc ((hB.block w.heap.size (by simp)).trans (zjC w (.cells mA 57)));have ai:Hid (BW w w1):=(bwA w).trans (hB.mono (by simp));clear hB;go_wp2_with (first|(refine zh rfl 57 _ _ rfl w1 mA rfl rfl 57 _ rfl (by simp[Value.oneCell']) Tryz.zgb ?_;intro w2 ag ae aa;have H2:=zc ((ae.block _ hz).trans H0);have HZ:=zc aa;clear aa ag)|(refine zd rfl 57 _ _ rfl w.heap.size mA rfl rfl 57 _ ((zj9 w2 _ _ (by have:=HZ.o;omega)).trans H2.o) rfl (by simp[Value.oneCell']) Tryz.zgb ?_;intro w3 af ad))
 have aa:=HZ.o;have ah:Hid (BW w w2):=ai.o.trans (ae.mono (by omega));refine zjT (v:=.tuple #[.agg mA,.iface 158 (pA w2.heap.size 0)]) (yu results77 _ _ w.heap.size 57 _ _ _ rfl rfl af underlying57 rfl Tryz.zgb) rfl ⟨(ah.o.alloc (by omega) _).trans (ad.below (by omega)),zj1 (zj0 ⟨HD.o,w2.heap.size,by omega,?_,rfl⟩)⟩;exact(ad.block _ (by omega)).trans (zjC w2 _)
theorem zbq(F:Nat->Prop)(rb n:Nat)(sg:Nat->List zj5)(t:zj5)(bF bS:Addr)(w:World)(hr:vh F rb n sg w)(hlt:∀k,F k->k<w.heap.size)(hF:Zx w 2 bF)(hS:Zx w 3 bS)(hd:zM t=true):
 Calls prog 77 #[pA rb 0,sA t] w (zeP sg n t bF bS w):=by
 obtain⟨m,hm⟩:=gen (decV t);obtain⟨K,H,R,Fm,V,nl,s⟩:=m;obtain⟨HM,HD,HF,HS,HR,ay⟩:=JQ hm hd hF hS hr hlt;clear hd hF hS hm hr hlt;go_enter func77,ntmps77;go_wp2_with fail
 refine(YL t bF K H R Fm V nl s _ (HF.o.below (bwA w)) HD HM.o.symm).mono ?_;rintro e w1 ⟨rfl,hB⟩;have hz:w.heap.size<w1.heap.size:=by have:=hB.size;simp at this;omega
 have H0:=zc ((hB.block w.heap.size (by simp)).trans (zjC w (.cells mA 57)));have az:Hid (BW w w1):=(bwA w).trans (hB.mono (by simp));clear hB;go_wp2_with (refine zd rfl 57 _ _ rfl w1.heap.size #[iA K,iA H,iA R,iA Fm,iA V,bA nl,sA s] rfl rfl 57 _ (zjC w1 _) rfl (by simp[Value.oneCell']) Tryz.zgb ?_;intro w2 aj ae;have hc3:cN w2 w1 3 (iA Fm):=zjD w2 _ 3 _ _ _ aj)
 have ah:w2.heap.size=w1.heap.size+1:=by rw[ae.size];simp
 have H2:Hid (cL w2 w.heap.size mA 57):=(ae.block _ (by omega)).trans ((zj9 w1 _ _ hz).trans H0.o);have ag:Hid (BW w w2):=(az.o.alloc (by omega) _).trans (ae.below (by omega));obtain⟨HZ,ax,aw⟩:=zS ah aj (HR.o.frame (λk hk=>ag.o.block k (ay k hk)));have hs2:cE w2 3 0 (eA bS):=HS.o.below ag;clear aj ae ah;have af:=zc (gD F rb n sg Fm t w2 aw);cases aa:zB sg n Fm t with
 |true=>
  rw[aa] at af;have ak:Hid (zB sg n (decV t).f t=true):=by unfold Hid;rw[<-HM.o];exact aa
  clear aa;refine af.o.mono ?_;rintro e wy ⟨rfl,ad⟩;have ai:=ad.symm;clear ad;subst ai;go_wp2_with (first|(refine zkb rfl 57 _ rfl w1.heap.size rfl 57 #[iA K,iA H,iA R,iA Fm,iA V,bA nl,sA s] (0,0) _ ax.o underlying57 rfl Tryz.zgb ?_)|(refine zd rfl 57 _ _ rfl w.heap.size #[iA K,iA H,iA R,iA Fm,iA V,bA nl,sA s] rfl rfl 57 _ H2.o rfl (by simp[Value.oneCell']) Tryz.zgb ?_;intro w3 an ao))
  have ah:=HZ.o;refine zjT (v:=.tuple #[.agg #[iA K,iA H,iA R,iA Fm,iA V,bA nl,sA s],.nilIface]) (yu results77 _ _ w.heap.size 57 _ _ _ rfl rfl an underlying57 rfl Tryz.zgb) rfl ⟨ag.o.trans (ao.below (by omega)),zj0 ⟨HD.o,ak.o,?_⟩⟩;rw[<-HM.o];rfl
 |false=>
  rw[aa] at af;have ak:Hid (zB sg n (decV t).f t=false):=by unfold Hid;rw[<-HM.o];exact aa
  clear aa;refine af.o.mono ?_;rintro e wy ⟨rfl,ad⟩;have ai:=ad.symm;clear ad;subst ai;go_wp2_with fail
  obtain⟨z0,z1,z2,z3,z4,z5,z6,y0,y1,y2,y3,y4,y5,y6⟩:=zR.cells (w:=w2) (g:=w.heap.size) H2;have al:w.heap.size<w2.heap.size:=by have:=HZ.o;omega
  have hgl:3<w.heap.size:=zjI _ _ HS;have av:¬3=w.heap.size:=by omega
  have au:¬w.heap.size=3:=by omega
  have ar:¬w1.heap.size=w.heap.size:=by omega
  have aq:¬w.heap.size=w1.heap.size:=by omega
  have hz4:w1.heap.size<w2.heap.size:=by have:=HZ.o;omega
  go_region
  go_wp2;refine zjT (v:=.tuple #[.agg mA,.iface 158 (pA w2.heap.size 0)]) (by simp[results,results77,go_sem,z0,z1,z2,z3,z4,z5,z6,al]) rfl ⟨?_,zj1 (zj1 ⟨HD.o,ak.o,w2.heap.size,by omega,?_,rfl⟩)⟩
  .refine Below.drew (Below.alloc (jm ag (zjA _) _ _ _ _ _ _ _) ?_ _);simp;omega
  rw[<-HM.o];have h:=zjC (((((((w2.setCell (nA w 0) (iA 0)).setCell (nA w 1) (iA 0)).setCell (nA w 2) (iA 0)).setCell (nA w 3) (iA 0)).setCell (nA w 4) (iA 0)).setCell (nA w 5) (bA false)).setCell (nA w 6) (sA ⟨#[]⟩)) (.cells #[iA Fm,eA bS] 160);have e:(((((((w2.setCell (nA w 0) (iA 0)).setCell (nA w 1) (iA 0)).setCell (nA w 2) (iA 0)).setCell (nA w 3) (iA 0)).setCell (nA w 4) (iA 0)).setCell (nA w 5) (bA false)).setCell (nA w 6) (sA ⟨#[]⟩)).heap.size=w2.heap.size:=by simp
  rw[e] at h;exact h
theorem XV(F:Nat->Prop)(rb n:Nat)(sg:Nat->List zj5)(t:zj5)(bF bS:Addr)(w:World)(hr:vh F rb n sg w)(hlt:∀k,F k->k<w.heap.size)(hF:Zx w 2 bF)(hS:Zx w 3 bS):
 Calls prog 77 #[pA rb 0,sA t] w (zeP sg n t bF bS w):=by
 cases hd:zM t with
 |true=>exact zbq F rb n sg t bF bS w hr hlt hF hS hd
 |false=>exact zbr rb n sg t bF bS w hF hd

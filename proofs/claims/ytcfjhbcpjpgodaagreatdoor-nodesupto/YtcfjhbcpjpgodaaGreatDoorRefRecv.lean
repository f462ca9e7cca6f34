import Derived.Test.YtcfjhbcpjpgodaaGreatDoorRefOne
import Derived.Test.YtcfjhbcpjpgodaaGreatDoorJ34
namespace Go.Proofs.YtcfjhbcpjpgodaaGreatDoor
open Go.RowKit Proofs.Tryz
set_option maxRecDepth 100000
set_option maxHeartbeats 0
set_option linter.all false
def zaO(o:Option (Int×Nat))(d:Int):Value:=match o with|none=>.tuple #[iA 0,iA d]|some (f,k)=>.tuple #[iA ((k:Int)+1),iA f]
theorem XF{s:za}{hn:Nat}(hh:hn<s.dec.length)(ht:(s.dec.getD hn yz).told=true):{ s with dec:=s.dec.set hn { s.dec.getD hn yz with told:=true } }=s:=by
 have hd:s.dec[hn]? =some (s.dec.getD hn yz):=by rw[zgz,zgy hh];rfl
 have e1:{ s.dec.getD hn yz with told:=true }=s.dec.getD hn yz:=by rw[<-ht]
 have e2:s.dec.set hn { s.dec.getD hn yz with told:=true }=s.dec:=by
  rw[e1];apply List.ext_getElem?;intro k;rw[List.getElem?_set];by_cases e:hn=k
  .subst e;rw[zgT rfl,zgT hh,hd]
  rw[zgU e]
 rw[e2]
theorem RefW.ring{B:Nat}{F R:Nat->Prop}{nb kb rb n i:Nat}{s:za}{w:World}(h:RefW B F R nb kb rb n i s w):RingI R rb n s.sg w:=by
 obtain⟨V,hR,-⟩:=h;exact hR.ring
section
variable{B:Nat}{F R:Nat->Prop}{nb kb rb n i:Nat}{w:World}
theorem Z6{S T:Nat}{s:za}(h:RefW B F R nb kb rb n i s w)(hy:YOk S T i s)(hT:T<=1000000000000)(hS:S<=900000000000)(fr:zgW)(hfs:fr.size<=maxLen):
 Calls prog 119 #[pA nb 0,sA fr] w (Zc B F R nb kb rb n i (s.zdc n i fr) w (zaO (s.zdQ n fr) (decV fr).f)):=by
 obtain⟨iW,du,dm,b5,b4⟩:=info_parts Tryz.zer;obtain⟨mc,cO⟩:=gen (decV fr);have aU:=zc (gj fr w hfs);rw[<-cO] at aU;have a6:=zc cO;clear cO;obtain⟨rs,cF⟩:=gen (s.zdc n i fr);obtain⟨rv,cD⟩:=gen (zaO (s.zdQ n fr) (decV fr).f);rw[<-cF,<-cD];obtain⟨b2,a1,H0,HY⟩:=yi cF cD h hy;have dh:Hid ((∀k,F k->k<w.heap.size)/\∀k,R k->k<w.heap.size):=by
  obtain⟨V,hR,-⟩:=h;exact⟨λk hk=>(hR.fl k hk).2,λk hk=>(hR.rl k hk).2⟩
 have cK:nb<w.heap.size:=by
  obtain⟨V,hR,-⟩:=h;exact hR.lt
 clear cF cD h hy;obtain⟨kd,h0,rd,f,v,nl,t⟩:=mc;have aV:(yX.cells ⟨kd,h0,rd,f,v,nl,t⟩)=#[iA kd,iA h0,iA rd,iA f,iA v,bA nl,sA t]:=rfl;rw[aV] at aU;clear aV;cases aQ:yT fr with
 |false=>
  rw[aQ] at aU;have an:Hid (rv=.tuple #[iA 2,iA (-1)]/\rs=s):=⟨a1.o.trans (by unfold za.zdQ;rw[aQ];rfl),b2.o.trans (je (λh=>by rw[aQ] at h;cases h.1))⟩;clear aQ;go_enter func119,ntmps119;go_wp2_with fail
  refine aU.o.mono ?_;rintro e w1 ⟨rfl,bD⟩;have b0:=zc bD;clear bD;go_wp2_with (first|(refine zf rfl 57 _ _ rfl w1 #[iA kd,iA h0,iA rd,iA f,iA v,bA nl,sA t] rfl rfl 57 _ rfl (by simp[Value.oneCell']) Tryz.zda ?_;intro w2 dL aw dG;have dE:Hid (BW w1 w2):=aw;clear dL aw dG)|go_in)
  go_ret2;exact⟨by rw[an.o.1];rfl,F,R,by rw[an.o.2];exact(H0.o.below b0).below dE,(Goes.below b0).trans (Goes.below dE)⟩
 |true=>
  rw[aQ] at aU;obtain⟨au,bf⟩:=ze (ZO aQ) (zby aQ);rw[<-a6.o] at au bf;obtain⟨hn,rfl⟩:∃hn:Nat,h0=(hn:Int):=⟨h0.toNat,by have h1:0<=h0:=au.o.1;omega⟩;have db:Hid (0<=(⟨kd,(hn:Int),rd,f,v,nl,t⟩:yX).h/\(⟨kd,(hn:Int),rd,f,v,nl,t⟩:yX).h<12/\0<=(⟨kd,(hn:Int),rd,f,v,nl,t⟩:yX).r/\(⟨kd,(hn:Int),rd,f,v,nl,t⟩:yX).r<=255/\0<=(⟨kd,(hn:Int),rd,f,v,nl,t⟩:yX).f/\(⟨kd,(hn:Int),rd,f,v,nl,t⟩:yX).f<8/\(⟨kd,(hn:Int),rd,f,v,nl,t⟩:yX).s.size<=24/\1<=(⟨kd,(hn:Int),rd,f,v,nl,t⟩:yX).k/\(⟨kd,(hn:Int),rd,f,v,nl,t⟩:yX).k<=3):=au.o;have cX:Hid ((⟨kd,(hn:Int),rd,f,v,nl,t⟩:yX).k=1->-1<=(⟨kd,(hn:Int),rd,f,v,nl,t⟩:yX).v):=bf.o;have dN:hn<12:=by have h1:(hn:Int)<12:=au.o.2.1;omega
  have dK:0<=rd:=au.o.2.2.1;have bB:rd<=255:=au.o.2.2.2.1;have dW:0<=f:=au.o.2.2.2.2.1;clear au bf;obtain⟨sb,dp⟩:=gen (z8 s.sg n f fr);have cm:=zc dp;have cY:Hid (sb=false->rv=.tuple #[iA 3,iA f]/\rs=s):=λhs=>by
   have e:z8 s.sg n (decV fr).f fr=false:=by rw[<-a6.o];exact cm.o.symm.trans hs
   exact⟨a1.o.trans (by unfold za.zdQ;rw[aQ,e,<-a6.o];rfl),b2.o.trans (je (λh=>by rw[e] at h;cases h.2))⟩
  have bP:Hid (sb=true->∀k,s.zdt (⟨kd,(hn:Int),rd,f,v,nl,t⟩:yX) fr=some k->4<=k->rv=.tuple #[iA ((k:Int)+1),iA f]/\rs=s):=λhs k hr hk=>by
   have e:z8 s.sg n (decV fr).f fr=true:=by rw[<-a6.o];exact cm.o.symm.trans hs
   refine⟨a1.o.trans (by unfold za.zdQ;rw[aQ,e,<-a6.o,hr];rfl),b2.o.trans ?_⟩;unfold za.zdc;rw[zgT ⟨aQ,e⟩,<-a6.o];unfold za.zdV;rw[zgU ?_,hr];intro hx;have bo:s.zdt (⟨kd,(hn:Int),rd,f,v,nl,t⟩:yX) fr=some 3:=by unfold za.zdt;rw[zgT hx]
   rw[bo] at hr;cases hr;omega
  have c5:Hid (sb=true->(hn:Int)<(s.zc1:Int)->rv=.tuple #[iA 4,iA f]/\rs=s.zdF hn):=λhs hx=>by
   have e:z8 s.sg n (decV fr).f fr=true:=by rw[<-a6.o];exact cm.o.symm.trans hs
   have hr:s.zdt (⟨kd,(hn:Int),rd,f,v,nl,t⟩:yX) fr=some 3:=by unfold za.zdt;rw[zgT (show(⟨kd,(hn:Int),rd,f,v,nl,t⟩:yX).h<(s.zc1:Int) from hx)]
   refine⟨a1.o.trans (by unfold za.zdQ;rw[aQ,e,<-a6.o,hr];rfl),b2.o.trans ?_⟩;unfold za.zdc;rw[zgT ⟨aQ,e⟩,<-a6.o];unfold za.zdV;rw[zgT (show(⟨kd,(hn:Int),rd,f,v,nl,t⟩:yX).h<(s.zc1:Int) from hx)];rfl
  have bR:Hid (sb=true->s.zdt (⟨kd,(hn:Int),rd,f,v,nl,t⟩:yX) fr=none->rv=.tuple #[iA 0,iA f]/\rs=(s.zdA ⟨⟨kd,(hn:Int),rd,f,v,nl,t⟩,fr,false⟩).zdv i):=λhs hr=>by
   have e:z8 s.sg n (decV fr).f fr=true:=by rw[<-a6.o];exact cm.o.symm.trans hs
   refine⟨a1.o.trans (by unfold za.zdQ;rw[aQ,e,<-a6.o,hr];rfl),b2.o.trans ?_⟩;unfold za.zdc;rw[zgT ⟨aQ,e⟩,<-a6.o];unfold za.zdV;rw[zgU (Zp hr).1,hr]
  clear aQ dp b2 a1 a6;go_enter func119,ntmps119;go_wp2_with fail
  refine aU.o.mono ?_;rintro e w0 ⟨rfl,bD⟩;have b0:=zc bD;clear bD aU
  go_upto_region 4 with(first|(refine zf rfl 57 _ _ rfl w0 #[iA kd,iA hn,iA rd,iA f,iA v,bA nl,sA t] rfl rfl 57 _ rfl (by simp[Value.oneCell']) Tryz.zda ?_;intro w1 b9 bD dH)|go_in)
  have cg:BW w0 w1:=bD;have cU:BW w w1:=b0.o.trans (cg.mono b0.o.size);obtain⟨bb,bL⟩:=gen w0.heap.size;rw[<-bL] at b9 ⊢;have dI:w.heap.size<=bb:=by rw[bL];exact b0.o.size
  have av:Hid (∀(F' R':Nat->Prop) (X:World),Goes F R w1 F' R' X->cL X bb #[iA kd,iA hn,iA rd,iA f,iA v,bA nl,sA t] 57):=λF' R' X hG=>(hG.same.block bb (zj b9) (by
   rintro(hf|hf)
   .have:=dh.o.1 _ hf;omega
   have:=dh.o.2 _ hf;omega)).trans b9
  have dC:Hid (bb≠nb):=by unfold Hid;omega
  obtain⟨bd,bm⟩:=ze (H0.o.below cU) b9;have bH:Hid (Goes F R w1 F R w1):=Goes.refl _ _ _;have bn:Hid (Goes F R w F R w1):=Goes.below cU;clear bD dH cg cU b9 bL H0 b0 dh dI cK;have a3_w1:cE w1 bb 3 (iA f):=zgs w1 _ 3 _ _ _ bm;have c0_w1:cE w1 nb 0 (pA kb 0):=bd.o.cell 0 (λ_=>rfl);have dD:Hid (∀j,Calls prog 78 #[pA kb 0] (w1.drewN j) λe w'=>e=.returned (pA rb 0)/\w'=w1.drewN j):=λj=>Zz kb rb i _ (bd.o.below (zgZ (zgq _ _) j)).key;have dz:Hid (∀j,Calls prog 71 #[pA rb 0,iA f,sA fr] (w1.drewN j) λe w'=>e=.returned (bA sb)/\w'=w1.drewN j):=λj=>by
   have h:=(bd.o.below (zgZ (zgq _ _) j)).ring;rw[cm.o];exact qP R rb n s.sg f fr _ h
  go_wp2_with fail
  go_quiet (first|(go_at_call 78;refine Calls.quiet_of_same (dD _))|(go_at_call 71;refine Calls.quiet_of_same (dz _)))
  rename_i nq;obtain⟨w2,hw⟩:=gen (w1.drewN nq);have aa:BW w1 w2:=by rw[hw];exact zgZ (zgq _ w1) nq
  obtain⟨aE,aS,aF⟩:=zC (blk bm aa) (bd.o.below aa) (bH.o.trans (Goes.below aa));rw[<-hw];clear hw aa bm bd bH a3_w1 c0_w1 dD dz;cases sb with
  |false=>
   have an:=zc (cY rfl);clear cY bP c5 bR;have a3_w2:cE w2 bb 3 (iA f):=zgs w2 _ 3 _ _ _ aE;go_wp2_with fail
   go_quiet (fail)
   rename_i nq;have aa:BW w2 (w2.drewN nq):=zgZ (zgq _ w2) nq;obtain⟨HE,aL⟩:=ze (aS.o.below aa) (aF.o.trans (Goes.below aa));clear aa aS aF;go_wp2;go_ret2;exact⟨by rw[an.o.1];rfl,F,R,by rw[an.o.2];exact HE,bn.o.trans aL⟩
  |true=>
   obtain⟨bQ,bx,c6⟩:=zC (bP rfl) (c5 rfl) (bR rfl);clear cY c5 bR bP;have a1_w2:cE w2 bb 1 (iA hn):=zgs w2 _ 1 _ _ _ aE;have c42_w2:cE w2 nb 42 (iA s.zc1):=aS.o.cell 42 (λ_=>rfl);by_cases a7:hn<s.dec.length
   .have hh:=a7;have cw:(hn:Int)<(s.zc1:Int):=by unfold za.zc1;omega
    have dA:Hid (rv=.tuple #[iA 4,iA f]):=(bx cw).1;have cn:Hid (rs=s.zdF hn):=(bx cw).2;clear a7 bx bQ c6;go_wp2_with fail
    go_quiet (fail)
    rename_i nq;obtain⟨w3,hw⟩:=gen (w2.drewN nq);have aa:BW w2 w3:=by rw[hw];exact zgZ (zgq _ w2) nq
    obtain⟨aj,az,aq⟩:=zC (blk aE aa) (aS.o.below aa) (aF.o.trans (Goes.below aa));rw[<-hw];clear hw aa aE aS aF a1_w2 c42_w2;obtain⟨d,hd⟩:=gen (s.dec.getD hn yz);have HD:=zc hd;have hdc:d.cert.length<=100000:=by
     rw[hd];exact HY.o.1.cert _ (by rw[zgz,zgy hh];exact List.getElem_mem _)
    have ck:Hid (s.dec.length<=12):=HY.o.1.hgt;have hdl:=ck.o;have aH:hn<12:=by omega
    have ds:(hn:Int)<12:=by omega
    have hhi:(hn:Int)<(s.dec.length:Int):=by omega
    obtain⟨td0,cC⟩:=gen d.told;clear hd;obtain⟨pb,po,pc,cb,co,cc,qp,qc,e37,p37,e38,p38,ar,e55,aX⟩:=az.o.past hn hh;rw[<-HD.o] at p37 p38 ar e55;have e55b:=e55 aH;have aO:=zc ar;clear ar e55 aX;rw[<-cC] at e55b;have bE:=zc cC;clear cC;have a1_w3:cE w3 bb 1 (iA hn):=zgs w3 _ 1 _ _ _ aj;go_wp2_with fail
    go_quiet (fail)
    rename_i nq;obtain⟨w4,hw⟩:=gen (w3.drewN nq);have aa:BW w3 w4:=by rw[hw];exact zgZ (zgq _ w3) nq
    obtain⟨af,ak,ag⟩:=zC (blk aj aa) (az.o.below aa) (aq.o.trans (Goes.below aa));rw[<-hw];clear hw aa aj az aq a1_w3 e37 p37 e38 p38 e55b aO;obtain⟨pb,po,pc,cb,co,cc,qp,qc,e37,p37,e38,p38,ar,e55,aX⟩:=ak.o.past hn hh;rw[<-HD.o] at p37 p38 ar e55;have e55b:=e55 aH;have aO:=zc ar;clear ar e55 aX;rw[<-bE.o] at e55b;have a1_w4:cE w4 bb 1 (iA hn):=zgs w4 _ 1 _ _ _ af;cases td0 with
    |true=>
     have an:Hid (rv=.tuple #[iA 4,iA f]/\rs={ s with dec:=s.dec.set hn { s.dec.getD hn yz with told:=true } }):=⟨dA,cn.o.trans (by unfold za.zdF;rw[<-HD.o,zgT bE.o.symm,HD.o,XF hh (by rw[<-HD.o];exact bE.o.symm)])⟩;go_wp2;go_loopw [9] (λiv wr=>iv=iA 0/\BW w4 wr) (λ_ _=>0)
     case atStart=>exact⟨rfl,zgq _ _⟩
     obtain⟨rfl,hb⟩:=hrel;obtain⟨w7,bI⟩:=gen wr;subst bI;obtain⟨ah,ae,ad⟩:=zC (ak.o.below hb) (ag.o.trans (Goes.below hb)) (blk af hb);clear hb ak ag af e37 p37 e38 p38 aO a1_w4 e55b;obtain⟨pb,po,pc,cb,co,cc,qp,qc,e37,p37,e38,p38,ar,e55,aX⟩:=ah.o.past hn hh;rw[<-HD.o] at p37 p38 ar e55;have e55b:=e55 aH;have aO:=zc ar;clear ar e55 aX;rw[<-bE.o] at e55b;have a1_w7:cE w7 bb 1 (iA hn):=zgs w7 _ 1 _ _ _ ad;by_cases hcl:0<d.cert.length;focus
      have cT:(0:Int)<(d.cert.length:Int):=by omega
     rotate_left;focus
      have cT:¬(0:Int)<(d.cert.length:Int):=by omega
     rotate_left;all_goals
      go_wp2_with fail
      go_quiet (fail)
      rename_i nq;obtain⟨w8,hw⟩:=gen (w7.drewN nq);have aa:BW w7 w8:=by rw[hw];exact zgZ (zgq _ w7) nq
      obtain⟨aW,aZ,aN⟩:=zC (blk ad aa) (ah.o.below aa) (ae.o.trans (Goes.below aa));rw[<-hw];clear hw aa ad ah ae a1_w7 e37 p37 e38 p38 aO e55b;obtain⟨pb,po,pc,cb,co,cc,qp,qc,e37,p37,e38,p38,ar,e55,aX⟩:=aZ.o.past hn hh;rw[<-HD.o] at p37 p38 ar e55;have e55b:=e55 aH;have aO:=zc ar;clear ar e55 aX;rw[<-bE.o] at e55b;clear e37 p37 e38 p38 aO;go_wp2_with fail
      refine rgd (S:=λX=>cL X bb #[iA kd,iA hn,iA rd,iA f,iA v,bA nl,sA t] 57) (blk aW ((zgq _ w8).drew)) λhH=>?_;refine zx [0,1,2,3,4,5] hH (λx h=>show cE x bb 1 (iA hn) from(zgs x _ 1 _ _ _ h)) ?_;refine zp 6 λK hK=>?_;have c55:cE w8.drew nb (55+hn) (bA true):=e55b;have f55:w8.drew.frozen? (aA nb (55+hn))=false:=aZ.o.frozen (55+hn);go_simp;refine hK.out _ _ ?_ λhH=>?_
      .exact ((zd w8.drew nb (55+hn) (bA true)).block bb dC).trans aW
      clear hK K hH;refine dnr ?_
      try simp only[AP,AQ]
      obtain⟨h8,cj⟩:=aZ.o.told hn hh aH;have h9:=h8.below ((zgq _ (w8.setCell (aA nb (55+hn)) (bA true))).drew);have aY:=cj.trans (Goes.below ((zgq _ (w8.setCell (aA nb (55+hn)) (bA true))).drew));obtain⟨w9,b6⟩:∃z,z=(w8.setCell (aA nb (55+hn)) (bA true)).drew:=⟨_,rfl⟩;rw[<-b6] at h9 aY ⊢;obtain⟨ax,ai⟩:=ze h9 (aN.o.trans aY);have aB:=zc (av _ _ _ ai);clear h8 cj h9 aY b6 aZ aN aW e55b;have a3_w9:cE w9 bb 3 (iA f):=zgs w9 _ 3 _ _ _ aB;go_wp2_with fail
      go_quiet (fail)
      rename_i nq;have aa:BW w9 (w9.drewN nq):=zgZ (zgq _ w9) nq;obtain⟨HE,aL⟩:=ze (ax.o.below aa) (ai.o.trans (Goes.below aa));clear aa ax ai;go_wp2;go_ret2;exact⟨by rw[an.o.1];rfl,F,R,by rw[an.o.2];exact HE,bn.o.trans aL⟩
    |false=>
     have an:Hid (rv=.tuple #[iA 4,iA f]/\rs={ s with dec:=s.dec.set hn { s.dec.getD hn yz with told:=true },out:=Yp s.out (d.prop::d.cert) }):=⟨dA,cn.o.trans (by unfold za.zdF;rw[<-HD.o,zgU (by rw[<-bE.o];exact zgN)])⟩;have HO:Hid (s.out.length<=100):=HY.o.1.out;have ct:=zc (vk (ak.o.below (zgq _ w4).drew) d.prop (zgu HO.o (by omega)));clear e38 p38 aO e55b;go_wp2_with fail
     refine rgd (S:=λX=>cL X bb #[iA kd,iA hn,iA rd,iA f,iA v,bA nl,sA t] 57) (blk af ((zgq _ w4).drew)) λhH=>?_;refine zx [0,1,2,3,5,6] hH (λx h=>show cE x bb 1 (iA hn) from(zgs x _ 1 _ _ _ h)) ?_;refine zp 4 λK hK=>?_;go_simp;refine hK.out _ _ (blk af ((zgq _ w4).drew)) λhH=>?_;clear hK K
     try simp only[AP,AQ]
     refine zx [7] hH (λ_ h=>h) ?_;refine zp 8 λK hK=>?_;go_simp;refine hK.out _ _ (blk af ((zgq _ w4).drew)) λhH=>?_;clear hK K
     try simp only[AP,AQ]
     refine zp 9 λK hK=>?_;go_simp;refine ct.o.mono ?_;rintro e w5 ⟨rfl,F5,R5,h6,bM⟩;refine hK.out _ _ ?_ λhH=>?_
     .exact av _ _ _ (ag.o.trans ((Goes.below (zgq _ w4).drew).trans bM))
     clear hK K hH;refine dnr ?_;obtain⟨ay,al⟩:=ze h6 (ag.o.trans ((Goes.below (zgq _ w4).drew).trans bM));have aC:=zc (av _ _ _ al);clear h6 bM ct af ak ag
     try simp only[AP,AQ]
     go_wp2;go_loopw [9] (λiv wr=>∃(j:Nat) (F' R':Nat->Prop),j<=d.cert.length/\iv=iA j/\RefW B F' R' nb kb rb n i { s with out:=Yp s.out (d.prop::d.cert.take j) } wr/\Goes F R w1 F' R' wr) (λiv _=>d.cert.length-(intOf iv).toNat)
     case atStart=>exact⟨0,F5,R5,zgv _,rfl,ay,al⟩
     clear ay al aC e37 p37 a1_w4;obtain⟨j,F7,R7,hj,rfl,h7,cV⟩:=hrel;obtain⟨w6,cA⟩:=gen wr;subst cA;obtain⟨aJ,ab,ao⟩:=zC h7 cV (av _ _ _ cV);clear h7 cV;obtain⟨pb,po,pc,cb,co,cc,qp,qc,e37,p37,e38,p38,ar,e55,aX⟩:=aJ.o.past hn hh;rw[<-HD.o] at p37 p38 ar e55;have e55b:=e55 aH;have aO:=zc ar;clear ar e55 aX;rw[<-bE.o] at e55b;have a1_w6:cE w6 bb 1 (iA hn):=zgs w6 _ 1 _ _ _ ao;by_cases aM:j=d.cert.length
     .have dQ:¬(j:Int)<(d.cert.length:Int):=by omega
      go_wp2_with fail
      go_quiet (fail)
      rename_i nq;obtain⟨w7,hw⟩:=gen (w6.drewN nq);have aa:BW w6 w7:=by rw[hw];exact zgZ (zgq _ w6) nq
      obtain⟨ad,ah,ae⟩:=zC (blk ao aa) (aJ.o.below aa) (ab.o.trans (Goes.below aa));rw[<-hw];clear hw aa ao aJ ab a1_w6 e37 p37 e38 p38 aO e55b;obtain⟨pb,po,pc,cb,co,cc,qp,qc,e37,p37,e38,p38,ar,e55,aX⟩:=ah.o.past hn hh;rw[<-HD.o] at p37 p38 ar e55;have e55b:=e55 aH;have aO:=zc ar;clear ar e55 aX;rw[<-bE.o] at e55b;clear e37 p37 e38 p38 aO;rw[aM,zg7] at ah;clear aM;go_wp2_with fail
      refine rgd (S:=λX=>cL X bb #[iA kd,iA hn,iA rd,iA f,iA v,bA nl,sA t] 57) (blk ad ((zgq _ w7).drew)) λhH=>?_;refine zx [0,1,2,3,4,5] hH (λx h=>show cE x bb 1 (iA hn) from(zgs x _ 1 _ _ _ h)) ?_;refine zp 6 λK hK=>?_;have c55:cE w7.drew nb (55+hn) (bA false):=e55b;have f55:w7.drew.frozen? (aA nb (55+hn))=false:=ah.o.frozen (55+hn);go_simp;refine hK.out _ _ ?_ λhH=>?_
      .exact ((zd w7.drew nb (55+hn) (bA true)).block bb dC).trans ad
      clear hK K hH;refine dnr ?_
      try simp only[AP,AQ]
      obtain⟨h8,cj⟩:=ah.o.told hn hh aH;have h9:=h8.below ((zgq _ (w7.setCell (aA nb (55+hn)) (bA true))).drew);have aY:=cj.trans (Goes.below ((zgq _ (w7.setCell (aA nb (55+hn)) (bA true))).drew));obtain⟨w9,b6⟩:∃z,z=(w7.setCell (aA nb (55+hn)) (bA true)).drew:=⟨_,rfl⟩;rw[<-b6] at h9 aY ⊢;obtain⟨ax,ai⟩:=ze h9 (ae.o.trans aY);have aB:=zc (av _ _ _ ai);clear h8 cj h9 aY b6 ah ae ad e55b;have a3_w9:cE w9 bb 3 (iA f):=zgs w9 _ 3 _ _ _ aB;go_wp2_with fail
      go_quiet (fail)
      rename_i nq;have aa:BW w9 (w9.drewN nq):=zgZ (zgq _ w9) nq;obtain⟨HE,aL⟩:=ze (ax.o.below aa) (ai.o.trans (Goes.below aa));clear aa ax ai;go_wp2;go_ret2;exact⟨by rw[an.o.1];rfl,F7,R7,by rw[an.o.2];exact HE,bn.o.trans aL⟩
     have a8:j<d.cert.length:=by omega
     have cP:(j:Int)<(d.cert.length:Int):=by omega
     go_wp2_with fail
     go_quiet (fail)
     rename_i nq;obtain⟨w7,hw⟩:=gen (w6.drewN nq);have aa:BW w6 w7:=by rw[hw];exact zgZ (zgq _ w6) nq
     obtain⟨ad,ah,ae⟩:=zC (blk ao aa) (aJ.o.below aa) (ab.o.trans (Goes.below aa));rw[<-hw];clear hw aa ao aJ ab a1_w6 e37 p37 e38 p38 aO e55b;obtain⟨pb,po,pc,cb,co,cc,qp,qc,e37,p37,e38,p38,ar,e55,aX⟩:=ah.o.past hn hh;rw[<-HD.o] at p37 p38 ar e55;have e55b:=e55 aH;have aO:=zc ar;clear ar e55 aX;clear e37 p37 e55b aM;obtain⟨lb,lo,cH,-,dw⟩:=aO.o j a8;subst cH;have b1:Hid (Yp s.out (d.prop::d.cert.take (j+1))=Zr (Yp s.out (d.prop::d.cert.take j)) (d.cert.getD j zgV)):=by
      unfold Hid Yp;rw[zy d.cert zgV j a8,List.foldl_cons,List.foldl_cons,List.foldl_append];rfl
     obtain⟨g,hg⟩:=gen (d.cert.getD j zgV);have dX:w7.cell? (aA lb (lo+j))=some (sA g):=by rw[hg];exact dw
     rw[<-hg] at b1;clear hg dw aO;have ct:=zc (vk (ah.o.below (zgq _ w7).drew) g (zgu (Kc _ _ HO.o) (by omega)));go_wp2_with fail
     refine rgd (S:=λX=>cL X bb #[iA kd,iA hn,iA rd,iA f,iA v,bA nl,sA t] 57) (blk ad ((zgq _ w7).drew)) λhH=>?_;refine zx [0,1,2,3,5,6,9] hH (λx h=>show cE x bb 1 (iA hn) from(zgs x _ 1 _ _ _ h)) ?_;refine zp 4 λK hK=>?_;go_simp;refine hK.out _ _ (blk ad ((zgq _ w7).drew)) λhH=>?_;clear hK K
     try simp only[AP,AQ]
     refine zx [7] hH (λ_ h=>h) ?_;refine zp 8 λK hK=>?_;go_simp;refine hK.out _ _ (blk ad ((zgq _ w7).drew)) λhH=>?_;clear hK K
     try simp only[AP,AQ]
     refine zx [10] hH (λ_ h=>h) ?_;refine zp 11 λK hK=>?_;go_simp;refine hK.out _ _ (blk ad ((zgq _ w7).drew)) λhH=>?_;clear hK K
     try simp only[AP,AQ]
     refine zp 12 λK hK=>?_;go_simp;refine ct.o.mono ?_;rintro e w8 ⟨rfl,F8,R8,h6,bM⟩;refine hK.out _ _ ?_ λhH=>?_
     .exact av _ _ _ (ae.o.trans ((Goes.below (zgq _ w7).drew).trans bM))
     clear hK K hH;refine dnr ?_;obtain⟨aZ,aN⟩:=ze h6 (ae.o.trans ((Goes.below (zgq _ w7).drew).trans bM));have aW:=zc (av _ _ _ aN);clear h6 bM ct ad ah ae
     try simp only[AP,AQ]
     go_wp2;go_roundw
     case rel=>exact⟨j+1,F8,R8,a8,by go_num,by rw[b1.o];exact aZ,aN⟩
     simp[intOf];omega
   have cw:¬(hn:Int)<(s.zc1:Int):=by unfold za.zc1;omega
   have b3:=zc cw;clear a7 bx;go_wp2_with fail
   go_quiet (fail)
   rename_i nq;obtain⟨w3,hw⟩:=gen (w2.drewN nq);have aa:BW w2 w3:=by rw[hw];exact zgZ (zgq _ w2) nq
   obtain⟨aj,az,aq⟩:=zC (blk aE aa) (aS.o.below aa) (aF.o.trans (Goes.below aa));rw[<-hw];clear hw aa aE aS aF a1_w2 c42_w2;have dt:s.zc1<12:=by omega
   have cW:¬(s.zc1:Int)=12:=by omega
   have dZ:((s.zc1:Int)==12)=false:=by simpa using cW
   have a1_w3:cE w3 bb 1 (iA hn):=zgs w3 _ 1 _ _ _ aj;have a2_w3:cE w3 bb 2 (iA rd):=zgs w3 _ 2 _ _ _ aj;have c42_w3:cE w3 nb 42 (iA s.zc1):=az.o.cell 42 (λ_=>rfl);by_cases bK:(s.zc1:Int)+1<(hn:Int)
   .have dg:=zc bK;have an:Hid (rv=.tuple #[iA 5,iA f]/\rs=s):=bQ.o 4 (by unfold za.zdt;rw[zgU (by show¬(hn:Int)<(s.zc1:Int);have h9:=b3.o;omega),zgT (zgR dg.o)]) (by omega);go_wp2_with fail
    refine rgd (S:=λX=>cE X bb 1 (iA hn)/\cE X bb 2 (iA rd)/\cE X nb 42 (iA s.zc1)) ⟨a1_w3,a2_w3,c42_w3⟩ λhH=>?_;refine takeN [(0,some 106,pA bb 1),(1,some 107,iA hn),(2,some 108,pA nb 0),(3,some 109,pA nb 0),(4,some 110,pA nb 42),(5,some 111,pA nb 42),(6,some 112,iA s.zc1),(7,some 113,iA ((s.zc1:Int)+1)),(8,some 114,bA true),(9,some 115,bA true),(10,some 116,undef),(11,some 117,undef),(12,some 118,undef),(13,some 119,undef),(14,some 120,undef),(15,some 121,undef),(16,some 122,bA true),(17,some 123,bA true),(18,some 124,undef),(19,some 125,undef),(20,some 126,undef),(21,some 127,bA true)] _ _ hH (by repeat(first|exact zgY|((first|(refine tkc rfl rfl (zgR ⟨by rfl,λx h=>?_⟩) ?_;focus(go_simp;(try exact IntWalk.i64_in _ (by omega));done))|(refine tkc rfl rfl (zgR ⟨by rfl,λx h=>?_⟩) ?_;focus(have f0:cE x bb 1 (iA hn):=h.1;have f1:cE x nb 42 (iA s.zc1):=h.2.2;go_simp;done))|refine tkc rfl rfl (zgS ⟨by rfl,rfl⟩) ?_);simp only[AP]))) ?_;simp only[zh,AP,pA];refine dnr ?_;clear hH
    try simp only[AP,AQ]
    obtain⟨w4,hw⟩:=gen w3.drew;have aa:BW w3 w4:=by rw[hw];exact(zgq _ w3).drew
    obtain⟨af,ak,ag⟩:=zC (blk aj aa) (az.o.below aa) (aq.o.trans (Goes.below aa));rw[<-hw];clear hw aa aj az aq a1_w3 a2_w3 c42_w3;have a3_w4:cE w4 bb 3 (iA f):=zgs w4 _ 3 _ _ _ af;go_wp2_with fail
    go_quiet (fail)
    rename_i nq;have aa:BW w4 (w4.drewN nq):=zgZ (zgq _ w4) nq;obtain⟨HE,aL⟩:=ze (ak.o.below aa) (ag.o.trans (Goes.below aa));clear aa ak ag;go_wp2;go_ret2;exact⟨by rw[an.o.1];rfl,F,R,by rw[an.o.2];exact HE,bn.o.trans aL⟩
   have bY:=zc bK;have dU:decide ((s.zc1:Int)+1<(hn:Int))=false:=zgH bK;by_cases ba:20<rd
   .have dg:=zc ba;have an:Hid (rv=.tuple #[iA 5,iA f]/\rs=s):=bQ.o 4 (by unfold za.zdt;rw[zgU (by show¬(hn:Int)<(s.zc1:Int);have h9:=b3.o;omega),zgT (zgS dg.o)]) (by omega);go_wp2_with fail
    refine rgd (S:=λX=>cE X bb 1 (iA hn)/\cE X bb 2 (iA rd)/\cE X nb 42 (iA s.zc1)) ⟨a1_w3,a2_w3,c42_w3⟩ λhH=>?_;refine takeN [(0,some 106,pA bb 1),(1,some 107,iA hn),(2,some 108,pA nb 0),(3,some 109,pA nb 0),(4,some 110,pA nb 42),(5,some 111,pA nb 42),(6,some 112,iA s.zc1),(7,some 113,iA ((s.zc1:Int)+1)),(8,some 114,bA false),(9,some 115,bA false),(10,some 116,pA nb 0),(11,some 117,pA nb 0),(12,some 118,pA nb 42),(13,some 119,pA nb 42),(14,some 120,iA s.zc1),(15,some 121,bA false),(16,some 122,bA false),(17,some 123,bA false),(18,some 124,pA bb 2),(19,some 125,iA rd),(20,some 126,bA true),(21,some 127,bA true)] _ _ hH (by repeat(first|exact zgY|((first|(refine tkc rfl rfl (zgR ⟨by rfl,λx h=>?_⟩) ?_;focus(go_simp;(try exact IntWalk.i64_in _ (by omega));done))|(refine tkc rfl rfl (zgR ⟨by rfl,λx h=>?_⟩) ?_;focus(have f0:cE x bb 1 (iA hn):=h.1;have f1:cE x nb 42 (iA s.zc1):=h.2.2;have f2:cE x bb 2 (iA rd):=h.2.1;go_simp;done)));simp only[AP]))) ?_;simp only[zh,AP,pA];refine dnr ?_;clear hH
    try simp only[AP,AQ]
    obtain⟨w4,hw⟩:=gen w3.drew;have aa:BW w3 w4:=by rw[hw];exact(zgq _ w3).drew
    obtain⟨af,ak,ag⟩:=zC (blk aj aa) (az.o.below aa) (aq.o.trans (Goes.below aa));rw[<-hw];clear hw aa aj az aq a1_w3 a2_w3 c42_w3;have a3_w4:cE w4 bb 3 (iA f):=zgs w4 _ 3 _ _ _ af;go_wp2_with fail
    go_quiet (fail)
    rename_i nq;have aa:BW w4 (w4.drewN nq):=zgZ (zgq _ w4) nq;obtain⟨HE,aL⟩:=ze (ak.o.below aa) (ag.o.trans (Goes.below aa));clear aa ak ag;go_wp2;go_ret2;exact⟨by rw[an.o.1];rfl,F,R,by rw[an.o.2];exact HE,bn.o.trans aL⟩
   have dJ:rd<=20:=by omega
   have bX:=zc ba;have dT:decide (20<rd)=false:=zgH ba;have di:Hid ((hn:Int)<=(s.zc1:Int)+1/\¬(hn:Int)<(s.zc1:Int)):=⟨by omega,by have h9:=b3.o;omega⟩;go_wp2_with fail
   refine rgd (S:=λX=>cE X bb 1 (iA hn)/\cE X bb 2 (iA rd)/\cE X nb 42 (iA s.zc1)) ⟨a1_w3,a2_w3,c42_w3⟩ λhH=>?_;refine takeN [(0,some 106,pA bb 1),(1,some 107,iA hn),(2,some 108,pA nb 0),(3,some 109,pA nb 0),(4,some 110,pA nb 42),(5,some 111,pA nb 42),(6,some 112,iA s.zc1),(7,some 113,iA ((s.zc1:Int)+1)),(8,some 114,bA false),(9,some 115,bA false),(10,some 116,pA nb 0),(11,some 117,pA nb 0),(12,some 118,pA nb 42),(13,some 119,pA nb 42),(14,some 120,iA s.zc1),(15,some 121,bA false),(16,some 122,bA false),(17,some 123,bA false),(18,some 124,pA bb 2),(19,some 125,iA rd),(20,some 126,bA false),(21,some 127,bA false)] _ _ hH (by repeat(first|exact zgY|((first|(refine tkc rfl rfl (zgR ⟨by rfl,λx h=>?_⟩) ?_;focus(go_simp;(try exact IntWalk.i64_in _ (by omega));done))|(refine tkc rfl rfl (zgR ⟨by rfl,λx h=>?_⟩) ?_;focus(have f0:cE x bb 1 (iA hn):=h.1;have f1:cE x nb 42 (iA s.zc1):=h.2.2;have f2:cE x bb 2 (iA rd):=h.2.1;go_simp;done)));simp only[AP]))) ?_;simp only[zh,AP,pA];refine dnr ?_;clear hH
   try simp only[AP,AQ]
   obtain⟨w4,hw⟩:=gen w3.drew;have aa:BW w3 w4:=by rw[hw];exact(zgq _ w3).drew
   obtain⟨af,ak,ag⟩:=zC (blk aj aa) (az.o.below aa) (aq.o.trans (Goes.below aa));rw[<-hw];clear hw aa aj az aq a1_w3 a2_w3 c42_w3;have a1_w4:cE w4 bb 1 (iA hn):=zgs w4 _ 1 _ _ _ af;have c42_w4:cE w4 nb 42 (iA s.zc1):=ak.o.cell 42 (λ_=>rfl);by_cases bq:(hn:Int)=(s.zc1:Int);focus
    have aD:=zc bq;clear bq;have cJ:((hn:Int)==(s.zc1:Int))=true:=by simpa using aD.o
    go_wp2_with fail
    go_quiet (fail)
    rename_i nq;obtain⟨wq,hw⟩:=gen (w4.drewN nq);have aa:BW w4 wq:=by rw[hw];exact zgZ (zgq _ w4) nq
    obtain⟨bl,bO,bG⟩:=zC (blk af aa) (ak.o.below aa) (ag.o.trans (Goes.below aa));rw[<-hw];clear hw aa af ak ag a1_w4 c42_w4;have cG:rd<=255:=bB;have c7:=zc (jG bO HY.o.1.dom HY.o.1.pos HY.o.1.hgt (⟨kd,(hn:Int),rd,f,v,nl,t⟩:yX) dW dK bB);obtain⟨ob,cI⟩:=gen (s.zc7 (⟨kd,(hn:Int),rd,f,v,nl,t⟩:yX));rw[<-cI] at c7;have c8:=zc cI;clear cI;have cp:Hid (wq.rangeAt bb 0 [iA kd,iA hn,iA rd,iA f,iA v,bA nl,sA t]):=qT bl;go_wp2_with (first|(refine zgX rfl 57 _ rfl bb 0 rfl [iA kd,iA hn,iA rd,iA f,iA v,bA nl,sA t] _ cp underlying57 rfl Tryz.zda ?_)|fail)
    refine c7.o.mono ?_;rintro e w5 ⟨rfl,cx⟩;obtain⟨ay,al,aC⟩:=zC (bO.o.below cx) (bG.o.trans (Goes.below cx)) (blk bl cx);clear cx bO bG bl c7 cp;cases ob;rotate_left
    .have an:Hid (rv=.tuple #[iA 6,iA f]/\rs=s):=bQ.o 5 (by unfold za.zdt;rw[zgU (by show¬(hn:Int)<(s.zc1:Int);have h9:=b3.o;omega),zgU (by rintro(h|h);(have h7:(s.zc1:Int)+1<(hn:Int):=h;have h8:=bY.o;omega);(have h7:20<rd:=h;have h8:=bX.o;omega)),zgT ⟨aD.o,c8.o.symm⟩]) (by omega);have a3_w5:cE w5 bb 3 (iA f):=zgs w5 _ 3 _ _ _ aC;go_wp2_with fail
     go_quiet (fail)
     rename_i nq;have aa:BW w5 (w5.drewN nq):=zgZ (zgq _ w5) nq;obtain⟨HE,aL⟩:=ze (ay.o.below aa) (al.o.trans (Goes.below aa));clear aa ay al;go_wp2;go_ret2;exact⟨by rw[an.o.1];rfl,F,R,by rw[an.o.2];exact HE,bn.o.trans aL⟩
    have bj:Hid (s.zdt (⟨kd,(hn:Int),rd,f,v,nl,t⟩:yX) fr=(if gA (s.zdg (hn:Int)) fr=true then some 6 else if 2<=likeN (s.zdg (hn:Int)) (⟨kd,(hn:Int),rd,f,v,nl,t⟩:yX) then some 7 else none)):=by unfold Hid za.zdt;rw[zgU (by show¬(hn:Int)<(s.zc1:Int);have h9:=b3.o;omega),zgU (by rintro(h|h);(have h7:(s.zc1:Int)+1<(hn:Int):=h;have h8:=bY.o;omega);(have h7:20<rd:=h;have h8:=bX.o;omega)),zgU (by rintro⟨_,h⟩;rw[<-c8.o] at h;cases h)]
    clear c8;have aT:Hid (s.zdg (hn:Int)=s.log):=by unfold Hid za.zdg;rw[zgT aD.o]
    have cR:s.log.length<=10000:=by have:=HY.o.1.lens (by omega);omega
    have bJ:∀e∈s.log,e.m.h=(hn:Int):=λe he=>by
     have:=(HY.o.1.log.hh e he).1;have h2:=aD.o;omega
    have c4:=ay.o;obtain⟨V,br,cf,b8⟩:=c4;obtain⟨pq,cq,b7,-,hit⟩:=jg vD 8 (λ_=>rfl) zJ (br.own 4 ⟨197,8,V.lg,s.log.length,qz s.log⟩ rfl);have aP:V.lg=.slice pq s.log.length cq:=b7;have cq_:w5.cell? (aA nb 39)=some (.slice pq s.log.length cq):=by rw[<-aP];exact br.cell 39 rfl
    have aR:j0 w5 w5.heap.size pq s.log:=hit;obtain⟨bw,bh,dj,bg⟩:=yi aP br cf b8;clear b7 aP hit br cf b8;obtain⟨pe,ce,dn⟩:=zl (bh.o.own 6 _ rfl);have ce_:w5.cell? (aA nb 41)=some (.slice pe s.ahead.length ce):=by rw[<-show V.er=_ from dn];exact bh.o.cell 41 rfl
    clear dn;go_wp2;clear cq_ ce_;obtain⟨sl,bp⟩:=gen s.log;rw[<-bp] at cR bJ aR aT ⊢;obtain⟨ck,dd,de,cu⟩:=yi bp bJ aR aT;clear bp bJ aR aT
   rotate_left;focus
    have aD:=zc bq;clear bq;have cJ:((hn:Int)==(s.zc1:Int))=false:=by simpa using aD.o
    go_wp2_with fail
    go_quiet (fail)
    rename_i nq;obtain⟨w5,hw⟩:=gen (w4.drewN nq);have aa:BW w4 w5:=by rw[hw];exact zgZ (zgq _ w4) nq
    obtain⟨aC,ay,al⟩:=zC (blk af aa) (ak.o.below aa) (ag.o.trans (Goes.below aa));rw[<-hw];clear hw aa af ak ag a1_w4 c42_w4;have bj:Hid (s.zdt (⟨kd,(hn:Int),rd,f,v,nl,t⟩:yX) fr=(if gA (s.zdg (hn:Int)) fr=true then some 6 else if 2<=likeN (s.zdg (hn:Int)) (⟨kd,(hn:Int),rd,f,v,nl,t⟩:yX) then some 7 else none)):=by unfold Hid za.zdt;rw[zgU (by show¬(hn:Int)<(s.zc1:Int);have h9:=b3.o;omega),zgU (by rintro(h|h);(have h7:(s.zc1:Int)+1<(hn:Int):=h;have h8:=bY.o;omega);(have h7:20<rd:=h;have h8:=bX.o;omega)),zgU (by rintro⟨h,_⟩;exact aD h)]
    have aT:Hid (s.zdg (hn:Int)=s.ahead):=by unfold Hid za.zdg;rw[zgU aD.o]
    have cR:s.ahead.length<=10000:=by have:=HY.o.1.lens (by omega);omega
    have bJ:∀e∈s.ahead,e.m.h=(hn:Int):=λe he=>by
     have:=(HY.o.1.ahead.hh e he).1;have h1:=di.o;have h2:¬(hn:Int)=(s.zc1:Int):=aD.o;omega
    have c4:=ay.o;obtain⟨V,br,cf,b8⟩:=c4;obtain⟨pq,cq,b7,-,hit⟩:=jg vD 8 (λ_=>rfl) zJ (br.own 6 ⟨197,8,V.er,s.ahead.length,qz s.ahead⟩ rfl);have aP:V.er=.slice pq s.ahead.length cq:=b7;have cq_:w5.cell? (aA nb 41)=some (.slice pq s.ahead.length cq):=by rw[<-aP];exact br.cell 41 rfl
    have aR:j0 w5 w5.heap.size pq s.ahead:=hit;obtain⟨bw,bh,dj,bg⟩:=yi aP br cf b8;clear b7 aP hit br cf b8;go_wp2;clear cq_;obtain⟨sl,bp⟩:=gen s.ahead;rw[<-bp] at cR bJ aR aT ⊢;obtain⟨ck,dd,de,cu⟩:=yi bp bJ aR aT;clear bp bJ aR aT
   rotate_left;all_goals
    go_loopw [13,14,15] (λmv jv _ wr=>∃j:Nat,j<=sl.length/\jv=iA j/\mv=iA (likeN (sl.take j) (⟨kd,(hn:Int),rd,f,v,nl,t⟩:yX):Int)/\gA (sl.take j) fr=false/\BW w5 wr) (λ_ jv _ _=>sl.length-(intOf jv).toNat)
    case atStart=>exact⟨0,zgv _,rfl,rfl,rfl,zgq _ _⟩
    obtain⟨j,hj,rfl,rfl,dr,hb⟩:=hrel;obtain⟨cz,HB⟩:=ze dr hb;clear dr hb;by_cases aM:j=sl.length;rotate_left
    .have a8:j<sl.length:=by omega
     have cP:(j:Int)<sl.length:=by omega
     obtain⟨lb,lo,cH,dY,cv⟩:=de.o.below HB j a8;subst cH;obtain⟨bz,b1,bV⟩:=zC (yo sl zJ j a8) (zy sl zJ j a8) (Yw sl (⟨kd,(hn:Int),rd,f,v,nl,t⟩:yX) j a8);obtain⟨ev,dv⟩:=gen (sl.getD j zJ);rw[<-dv] at bz b1 bV cv;clear dv aM;have cd:=dd.o ev bz;have df:Hid (ev.fr=fr->gA sl fr=true):=λe=>by unfold gA;rw[List.any_eq_true];exact⟨ev,bz,zgG e⟩
     have c9:Hid (¬ev.fr=fr->gA (sl.take (j+1)) fr=false):=λe=>by unfold gA at cz ⊢;rw[b1.o,List.any_append,cz.o];simp[e]
     obtain⟨ln,cQ⟩:=gen (likeN (sl.take j) (⟨kd,(hn:Int),rd,f,v,nl,t⟩:yX));rw[<-cQ] at bV ⊢;have dO:ln<=10000:=by rw[cQ];unfold likeN;exact zgu (List.length_filter_le _ _) (by rw[List.length_take];omega)
     clear cQ;obtain⟨⟨k9,h9,r9,f9,v9,n9,t9⟩,fr9,own9⟩:=ev;have dP:h9=(hn:Int):=cd;subst dP;have cr:Hid (wr.rangeAt lb (lo+j*8) [iA k9,iA hn,iA r9,iA f9,iA v9,bA n9,sA t9,sA fr9]):=cv;have dB:Hid (wr.rangeAt lb (lo+j*8) [iA k9,iA hn,iA r9,iA f9,iA v9,bA n9,sA t9]):=λk x hx=>cv k x (by
      have hk:k<7:=(List.getElem?_eq_some_iff.1 hx).1;match k,hk,hx with
      |0,_,hx|1,_,hx|2,_,hx|3,_,hx|4,_,hx|5,_,hx|6,_,hx=>exact hx)
     clear cv cd bz b1
     go_upto_region 31 with(first|(refine zgX rfl 57 _ rfl lb (lo+j*8) rfl [iA k9,iA hn,iA r9,iA f9,iA v9,bA n9,sA t9] _ dB.o underlying57 rfl Tryz.zda ?_)|(refine zf rfl 57 _ _ rfl wr #[iA k9,iA hn,iA r9,iA f9,iA v9,bA n9,sA t9] rfl rfl 57 _ rfl (by simp[Value.oneCell']) Tryz.zda ?_;intro w7 dq dx dF;have cy:=zc dq;have dk:Hid (BW wr w7):=dx;clear dq dx dF)|fail)
     have bc:BW w5 w7:=HB.o.trans (dk.o.mono HB.o.size);obtain⟨ah,ae,ad,bZ⟩:=yi (ay.o.below bc) (al.o.trans (Goes.below bc)) (blk aC bc) bc;have e7:cE w7 lb (lo+j*8+7) (sA fr9):=(dk.o.cell (p:=(aA lb (lo+j*8+7))) (by exact zgt dY HB.o.size)).trans (cr 7 _ rfl);have i0:cN w7 wr 0 (iA k9):=zgs w7 _ 0 _ _ _ cy;have i2:cN w7 wr 2 (iA r9):=zgs w7 _ 2 _ _ _ cy;have i3:cN w7 wr 3 (iA f9):=zgs w7 _ 3 _ _ _ cy;have a0_w7:cE w7 bb 0 (iA kd):=zgs w7 _ 0 _ _ _ ad;have a2_w7:cE w7 bb 2 (iA rd):=zgs w7 _ 2 _ _ _ ad;have a3_w7:cE w7 bb 3 (iA f):=zgs w7 _ 3 _ _ _ ad;clear bc dB cr cy HB dk;by_cases ca:fr9=fr
     .have an:Hid (rv=.tuple #[iA 7,iA f]/\rs=s):=bQ.o 6 (by rw[bj.o,zgT (by rw[cu.o];exact df.o ca)]) (by omega);have dV:=ca.symm;clear ca df c9 bV;subst dV;clear i0 i2 i3 a0_w7 a2_w7 a3_w7;have a3_w7:cE w7 bb 3 (iA f):=zgs w7 _ 3 _ _ _ ad;go_wp2_with fail
      go_quiet (fail)
      rename_i nq;have aa:BW w7 (w7.drewN nq):=zgZ (zgq _ w7) nq;obtain⟨HE,aL⟩:=ze (ah.o.below aa) (ae.o.trans (Goes.below aa));clear aa ah ae;go_wp2;go_ret2;exact⟨by rw[an.o.1];rfl,F,R,by rw[an.o.2];exact HE,bn.o.trans aL⟩
     .have dS:=kP ca;have dR:¬fr9.toList=fr.toList:=by simpa using dS
      have bU:=zc (c9 ca);clear ah ae ad df c9;by_cases q0:k9=kd
      .have q0s:kd=k9:=q0.symm;clear q0;subst q0s;by_cases q2:r9=rd
       .have q2s:rd=r9:=q2.symm;clear q2;subst q2s;by_cases q3:f9=f;focus
         have q3s:f=f9:=q3.symm;clear q3;subst q3s;have aK:Hid ((likeN (sl.take (j+1)) (⟨kd,(hn:Int),rd,f,v,nl,t⟩:yX):Nat)=ln+1):=by unfold Hid;rw[bV.o];simp[xS]
        rotate_left;focus
         have q3b:(f9==f)=false:=by simpa using q3
         have aK:Hid ((likeN (sl.take (j+1)) (⟨kd,(hn:Int),rd,f,v,nl,t⟩:yX):Nat)=ln):=by unfold Hid;rw[bV.o];simp[xS,q3]
        rotate_left;all_goals
         go_wp2;go_roundw
         case rel=>exact⟨j+1,a8,by go_num,by first|(rw[aK.o];done)|(rw[aK.o];go_num),bU,bZ⟩
         simp[intOf];omega
       .have q2b:(r9==rd)=false:=by simpa using q2
        have aK:Hid ((likeN (sl.take (j+1)) (⟨kd,(hn:Int),rd,f,v,nl,t⟩:yX):Nat)=ln):=by unfold Hid;rw[bV.o];simp[xS,q2]
        go_wp2;go_roundw
        case rel=>exact⟨j+1,a8,by go_num,by first|(rw[aK.o];done)|(rw[aK.o];go_num),bU,bZ⟩
        simp[intOf];omega
      .have q0b:(k9==kd)=false:=by simpa using q0
       have aK:Hid ((likeN (sl.take (j+1)) (⟨kd,(hn:Int),rd,f,v,nl,t⟩:yX):Nat)=ln):=by unfold Hid;rw[bV.o];simp[xS,q0]
       go_wp2;go_roundw
       case rel=>exact⟨j+1,a8,by go_num,by first|(rw[aK.o];done)|(rw[aK.o];go_num),bU,bZ⟩
       simp[intOf];omega
    have dQ:¬(j:Int)<sl.length:=by omega
    obtain⟨w6,cA⟩:=gen wr;subst cA;obtain⟨aJ,ab,ao⟩:=zC (ay.o.below HB) (al.o.trans (Goes.below HB)) (blk aC HB);have da:Hid (gA (s.zdg (hn:Int)) fr=false):=by unfold Hid;rw[cu.o];have h:=cz.o;rw[aM,zg7] at h;exact h
    obtain⟨mn,cM⟩:=gen (likeN (sl.take j) (⟨kd,(hn:Int),rd,f,v,nl,t⟩:yX));rw[<-cM];have dc:Hid (mn=likeN (s.zdg (hn:Int)) (⟨kd,(hn:Int),rd,f,v,nl,t⟩:yX)):=by unfold Hid;rw[cM,cu.o,aM,zg7]
    clear cM aM ay al aC cz;by_cases bC:2<=mn
    .have dM:(2:Int)<=(mn:Int):=by omega
     have an:Hid (rv=.tuple #[iA 8,iA f]/\rs=s):=bQ.o 7 (by rw[bj.o,zgU (by rw[da.o];exact zgN),zgT (by rw[<-dc.o];exact bC)]) (by omega);have a3_w6:cE w6 bb 3 (iA f):=zgs w6 _ 3 _ _ _ ao;go_wp2_with fail
     go_quiet (fail)
     rename_i nq;have aa:BW w6 (w6.drewN nq):=zgZ (zgq _ w6) nq;obtain⟨HE,aL⟩:=ze (aJ.o.below aa) (ab.o.trans (Goes.below aa));clear aa aJ ab;go_wp2;go_ret2;exact⟨by rw[an.o.1];rfl,F,R,by rw[an.o.2];exact HE,bn.o.trans aL⟩
    have dM:¬(2:Int)<=(mn:Int):=by omega
    have bT:Hid (s.zdt (⟨kd,(hn:Int),rd,f,v,nl,t⟩:yX) fr=none):=by unfold Hid;rw[bj.o,zgU (by rw[da.o];exact zgN),zgU (by rw[<-dc.o];exact bC)]
    have an:Hid (rv=.tuple #[iA 0,iA f]/\rs=(s.zdA ⟨⟨kd,(hn:Int),rd,f,v,nl,t⟩,fr,false⟩).zdv i):=c6.o bT;have dy:Hid (YOk S T i (s.zdA ⟨⟨kd,(hn:Int),rd,f,v,nl,t⟩,fr,false⟩)):=⟨HY.o.1.take bT db,HY.o.2.take (e:=⟨⟨kd,(hn:Int),rd,f,v,nl,t⟩,fr,false⟩) cX⟩;have bF:=zc (bh.o.below HB);have bp:=ck.o;clear bh de HB aJ ck dd cu bT bj da dc bQ c6;subst bp;go_wp2_with fail
   .have cZ:Hid (s.zdA ⟨⟨kd,(hn:Int),rd,f,v,nl,t⟩,fr,false⟩={ s with log:=s.log++[⟨⟨kd,(hn:Int),rd,f,v,nl,t⟩,fr,false⟩] }):=by unfold Hid za.zdA;rw[zgT (show(hn:Int)=(s.zc1:Int) from aD.o)]
    refine rgd (S:=λX=>cL X bb #[iA kd,iA hn,iA rd,iA f,iA v,bA nl,sA t] 57) (av _ _ _ (ab.o.trans (Goes.below (zgq _ w6).drew))) λhH=>?_;refine takeN [(0,some 200,pA nb 0),(1,some 201,pA nb 0),(2,some 202,pA nb 0),(3,some 203,pA nb 39),(5,some 205,.agg ([iA kd,iA hn,iA rd,iA f,iA v,bA nl,sA t]).toArray),(6,some 206,sA fr),(7,some 207,.agg #[iA kd,iA hn,iA rd,iA f,iA v,bA nl,sA t,sA fr])] _ _ hH (by repeat(first|exact zgY|((first|refine tkc rfl rfl (zg3 (by rfl) 57 _ rfl bb 0 rfl ([iA kd,iA hn,iA rd,iA f,iA v,bA nl,sA t]) _ (λw h=>qT h) underlying57 rfl Tryz.zda) ?_|(refine tkc rfl rfl (zgR ⟨by rfl,λx h=>?_⟩) ?_;focus(have f0:=Tryz.zej kd (hn:Int) rd f v nl t fr x;go_simp;done)));simp only[AP]))) ?_;simp only[zh,AP,pA];have cL:w6.drew.cell? (aA nb 39)=some (.slice pq s.log.length cq):=by rw[<-bw.o];exact bF.o.cell 39 rfl
    refine gn 4 8 (λK hK=>?_) λK hK=>?_;focus
     go_simp;refine hK.out _ _ (av _ _ _ (ab.o.trans (Goes.below (zgq _ w6).drew))) λhH=>?_;clear hK K;refine zp 8 λK hK=>?_;go_simp;obtain⟨w2,aG⟩:∃z,z=(w6.alloc (.cells #[iA kd,iA hn,iA rd,iA f,iA v,bA nl,sA t,sA fr] 197)).drew:=⟨_,rfl⟩;have aw:BW w6 w2:=by rw[aG];exact(bwA w6).drew
     have bo:w2.heap[w6.heap.size]? =some (.cells #[iA kd,iA hn,iA rd,iA f,iA v,bA nl,sA t,sA fr] 197 (0,0)):=by rw[aG];exact zgr w6 _
     have bt:=bF.o.below aw;rw[<-aG];refine hK.out _ _ (av _ _ _ (ab.o.trans (Goes.below aw))) λhH=>?_;clear hK K aG cL
    rotate_left;focus
     go_simp;obtain⟨w2,aG⟩:∃z,z=(w6.alloc (.cells #[iA kd,iA hn,iA rd,iA f,iA v,bA nl,sA t,sA fr] 197)).drew:=⟨_,rfl⟩;have aw:BW w6 w2:=by rw[aG];exact(bwA w6).drew
     have bo:w2.heap[w6.heap.size]? =some (.cells #[iA kd,iA hn,iA rd,iA f,iA v,bA nl,sA t,sA fr] 197 (0,0)):=by rw[aG];exact zgr w6 _
     have bt:=bF.o.below aw;rw[<-aG];refine hK.out _ _ (av _ _ _ (ab.o.trans (Goes.below aw))) λhH=>?_;have cL2:w2.cell? (aA nb 39)=some (.slice pq s.log.length cq):=by rw[<-bw.o];exact bt.cell 39 rfl
     clear hK K aG cL;refine zp 4 λK hK=>?_;go_simp;refine hK.out _ _ (av _ _ _ (ab.o.trans (Goes.below aw))) λhH=>?_;clear hK K cL2
    rotate_left;all_goals
     refine zp 9 λK hK=>?_;rw[zgT (by rfl)];refine qN (C:=refA kb V s) (rs:=refRows V s) _ _ 64 rfl bt 4 (⟨197,8,V.lg,s.log.length,qz s.log⟩) rfl iW (.agg #[iA 0,iA 0,iA 0,iA 0,iA 0,bA false,sA zgV,sA zgV]) 80 underlying64 du dm b5 b4 rfl (Nat.zero_lt_succ _) ?h1 (nA w6 0) 1 [iA kd,iA hn,iA rd,iA f,iA v,bA nl,sA t,sA fr] rfl rfl ?n1 ?n2 ?n3 (by decide) ?_
     case h1=>exact bw.o.symm
     case n1=>
      intro j u hj;rw[addr_add,zg0,zgs w2 w6.heap.size j _ _ _ bo];simpa using hj
     case n2=>
      intro u hu;simp at hu;rcases hu with rfl|rfl|rfl|rfl|rfl|rfl|rfl|rfl<;>rfl
     case n3=>show s.log.length<=_;omega
     intro v3 w3 F3 p3 c3 cB bs bu;subst cB;refine hK.out _ _ (av _ _ _ (ab.o.trans ((Goes.below aw).trans bu))) λhH=>?_;clear hK K;simp only[AP,AQ];refine zx [10,11] hH (λ_ h=>h) ?_;have cS:w3.cell? (aA nb 39)=some (.slice pq s.log.length cq):=by rw[<-bw.o];exact bs.cell 39 rfl
     have fS:=bs.frozen 39;refine zp 12 λK hK=>?_;go_simp;obtain⟨ch,bN⟩:=bs.set 39 (.slice p3 (s.log.length+1) c3);refine hK.out _ _ (av _ _ _ (ab.o.trans ((Goes.below aw).trans (bu.trans bN)))) λhH=>?_;clear hK K hH;refine dnr ?_;obtain⟨bS,bW⟩:=ze ch ((Goes.below (R:=R) aw).trans (bu.trans bN));clear ch bN bs bu bt aw bo cS fS
     try simp only[AP,AQ]
     obtain⟨w7,bI⟩:=gen (w3.setCell (aA nb 39) (.slice p3 (s.log.length+1) c3));rw[<-bI] at bS bW ⊢;have ae:=zc (ab.o.trans bW);have ad:=zc (av _ _ _ ae);have ah:Hid (RefW B F3 R nb kb rb n i (s.zdA ⟨⟨kd,(hn:Int),rd,f,v,nl,t⟩,fr,false⟩) w7):=by
      have h:=bS.o;have e:=xy V.lg (.slice p3 (s.log.length+1) c3) s.log ⟨⟨kd,(hn:Int),rd,f,v,nl,t⟩,fr,false⟩;unfold vD at e;simp only at e;rw[e] at h;unfold Hid;rw[cZ.o];refine⟨{ V with lg:=.slice p3 (s.log.length+1) c3 },?_,dj,⟨bg.o.perm,bg.o.sort,bg.o.tb,bg.o.heap,bg.o.fl⟩⟩
      .have em:kn { s with log:=s.log++[⟨⟨kd,(hn:Int),rd,f,v,nl,t⟩,fr,false⟩] }=kn s:=by simp[kn]
       unfold refRows;rw[em];exact h
     clear bS bW bI ab ao bF;have cl:=zc (kX ah dy hT hS);go_wp2_with fail
     refine cl.o.mono ?_;rintro e w9 ⟨rfl,F9,R9,h9,aY⟩;obtain⟨ax,ai⟩:=ze h9 (ae.o.trans aY);have aB:=zc (av _ _ _ ai);clear h9 aY cl ah ae ad;have a3_w9:cE w9 bb 3 (iA f):=zgs w9 _ 3 _ _ _ aB;go_wp2_with fail
     go_quiet (fail)
     rename_i nq;have aa:BW w9 (w9.drewN nq):=zgZ (zgq _ w9) nq;obtain⟨HE,aL⟩:=ze (ax.o.below aa) (ai.o.trans (Goes.below aa));clear aa ax ai;go_wp2;go_ret2;exact⟨by rw[an.o.1];rfl,F9,R9,by rw[an.o.2];exact HE,bn.o.trans aL⟩
   .have cZ:Hid (s.zdA ⟨⟨kd,(hn:Int),rd,f,v,nl,t⟩,fr,false⟩={ s with ahead:=s.ahead++[⟨⟨kd,(hn:Int),rd,f,v,nl,t⟩,fr,false⟩] }):=by unfold Hid za.zdA;rw[zgU (show¬(hn:Int)=(s.zc1:Int) from aD.o)]
    refine rgd (S:=λX=>cL X bb #[iA kd,iA hn,iA rd,iA f,iA v,bA nl,sA t] 57) (av _ _ _ (ab.o.trans (Goes.below (zgq _ w6).drew))) λhH=>?_;refine takeN [(0,some 212,pA nb 0),(1,some 213,pA nb 0),(2,some 214,pA nb 0),(3,some 215,pA nb 41),(5,some 217,.agg ([iA kd,iA hn,iA rd,iA f,iA v,bA nl,sA t]).toArray),(6,some 218,sA fr),(7,some 219,.agg #[iA kd,iA hn,iA rd,iA f,iA v,bA nl,sA t,sA fr])] _ _ hH (by repeat(first|exact zgY|((first|refine tkc rfl rfl (zg3 (by rfl) 57 _ rfl bb 0 rfl ([iA kd,iA hn,iA rd,iA f,iA v,bA nl,sA t]) _ (λw h=>qT h) underlying57 rfl Tryz.zda) ?_|(refine tkc rfl rfl (zgR ⟨by rfl,λx h=>?_⟩) ?_;focus(have f0:=Tryz.zej kd (hn:Int) rd f v nl t fr x;go_simp;done)));simp only[AP]))) ?_;simp only[zh,AP,pA];have cL:w6.drew.cell? (aA nb 41)=some (.slice pq s.ahead.length cq):=by rw[<-bw.o];exact bF.o.cell 41 rfl
    refine gn 4 8 (λK hK=>?_) λK hK=>?_;focus
     go_simp;refine hK.out _ _ (av _ _ _ (ab.o.trans (Goes.below (zgq _ w6).drew))) λhH=>?_;clear hK K;refine zp 8 λK hK=>?_;go_simp;obtain⟨w2,aG⟩:∃z,z=(w6.alloc (.cells #[iA kd,iA hn,iA rd,iA f,iA v,bA nl,sA t,sA fr] 197)).drew:=⟨_,rfl⟩;have aw:BW w6 w2:=by rw[aG];exact(bwA w6).drew
     have bo:w2.heap[w6.heap.size]? =some (.cells #[iA kd,iA hn,iA rd,iA f,iA v,bA nl,sA t,sA fr] 197 (0,0)):=by rw[aG];exact zgr w6 _
     have bt:=bF.o.below aw;rw[<-aG];refine hK.out _ _ (av _ _ _ (ab.o.trans (Goes.below aw))) λhH=>?_;clear hK K aG cL
    rotate_left;focus
     go_simp;obtain⟨w2,aG⟩:∃z,z=(w6.alloc (.cells #[iA kd,iA hn,iA rd,iA f,iA v,bA nl,sA t,sA fr] 197)).drew:=⟨_,rfl⟩;have aw:BW w6 w2:=by rw[aG];exact(bwA w6).drew
     have bo:w2.heap[w6.heap.size]? =some (.cells #[iA kd,iA hn,iA rd,iA f,iA v,bA nl,sA t,sA fr] 197 (0,0)):=by rw[aG];exact zgr w6 _
     have bt:=bF.o.below aw;rw[<-aG];refine hK.out _ _ (av _ _ _ (ab.o.trans (Goes.below aw))) λhH=>?_;have cL2:w2.cell? (aA nb 41)=some (.slice pq s.ahead.length cq):=by rw[<-bw.o];exact bt.cell 41 rfl
     clear hK K aG cL;refine zp 4 λK hK=>?_;go_simp;refine hK.out _ _ (av _ _ _ (ab.o.trans (Goes.below aw))) λhH=>?_;clear hK K cL2
    rotate_left;all_goals
     refine zp 9 λK hK=>?_;rw[zgT (by rfl)];refine qN (C:=refA kb V s) (rs:=refRows V s) _ _ 64 rfl bt 6 (⟨197,8,V.er,s.ahead.length,qz s.ahead⟩) rfl iW (.agg #[iA 0,iA 0,iA 0,iA 0,iA 0,bA false,sA zgV,sA zgV]) 80 underlying64 du dm b5 b4 rfl (Nat.zero_lt_succ _) ?h1 (nA w6 0) 1 [iA kd,iA hn,iA rd,iA f,iA v,bA nl,sA t,sA fr] rfl rfl ?n1 ?n2 ?n3 (by decide) ?_
     case h1=>exact bw.o.symm
     case n1=>
      intro j u hj;rw[addr_add,zg0,zgs w2 w6.heap.size j _ _ _ bo];simpa using hj
     case n2=>
      intro u hu;simp at hu;rcases hu with rfl|rfl|rfl|rfl|rfl|rfl|rfl|rfl<;>rfl
     case n3=>show s.ahead.length<=_;omega
     intro v3 w3 F3 p3 c3 cB bs bu;subst cB;refine hK.out _ _ (av _ _ _ (ab.o.trans ((Goes.below aw).trans bu))) λhH=>?_;clear hK K;simp only[AP,AQ];refine zx [10,11] hH (λ_ h=>h) ?_;have cS:w3.cell? (aA nb 41)=some (.slice pq s.ahead.length cq):=by rw[<-bw.o];exact bs.cell 41 rfl
     have fS:=bs.frozen 41;refine zp 12 λK hK=>?_;go_simp;obtain⟨ch,bN⟩:=bs.set 41 (.slice p3 (s.ahead.length+1) c3);refine hK.out _ _ (av _ _ _ (ab.o.trans ((Goes.below aw).trans (bu.trans bN)))) λhH=>?_;clear hK K hH;refine dnr ?_;obtain⟨bS,bW⟩:=ze ch ((Goes.below (R:=R) aw).trans (bu.trans bN));clear ch bN bs bu bt aw bo cS fS
     try simp only[AP,AQ]
     obtain⟨w7,bI⟩:=gen (w3.setCell (aA nb 41) (.slice p3 (s.ahead.length+1) c3));rw[<-bI] at bS bW ⊢;have ae:=zc (ab.o.trans bW);have ad:=zc (av _ _ _ ae);have ah:Hid (RefW B F3 R nb kb rb n i (s.zdA ⟨⟨kd,(hn:Int),rd,f,v,nl,t⟩,fr,false⟩) w7):=by
      have h:=bS.o;have e:=xy V.er (.slice p3 (s.ahead.length+1) c3) s.ahead ⟨⟨kd,(hn:Int),rd,f,v,nl,t⟩,fr,false⟩;unfold vD at e;simp only at e;rw[e] at h;unfold Hid;rw[cZ.o];refine⟨{ V with er:=.slice p3 (s.ahead.length+1) c3 },?_,dj,⟨bg.o.perm,bg.o.sort,bg.o.tb,bg.o.heap,bg.o.fl⟩⟩
      .exact h
     clear bS bW bI ab ao bF;have cl:=zc (kX ah dy hT hS);go_wp2_with fail
     refine cl.o.mono ?_;rintro e w9 ⟨rfl,F9,R9,h9,aY⟩;obtain⟨ax,ai⟩:=ze h9 (ae.o.trans aY);have aB:=zc (av _ _ _ ai);clear h9 aY cl ah ae ad;have a3_w9:cE w9 bb 3 (iA f):=zgs w9 _ 3 _ _ _ aB;go_wp2_with fail
     go_quiet (fail)
     rename_i nq;have aa:BW w9 (w9.drewN nq):=zgZ (zgq _ w9) nq;obtain⟨HE,aL⟩:=ze (ax.o.below aa) (ai.o.trans (Goes.below aa));clear aa ax ai;go_wp2;go_ret2;exact⟨by rw[an.o.1];rfl,F9,R9,by rw[an.o.2];exact HE,bn.o.trans aL⟩

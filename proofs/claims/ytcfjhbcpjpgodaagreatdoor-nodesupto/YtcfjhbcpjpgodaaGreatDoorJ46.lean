/- Proved here: NodesUptoCardSaid: called with whatever number, whatever list of numbers and whatever script (together of the form's bulk), in whatever world in which the listed variables lie as the program's text lays them, Nodes returns true, and whatever was there reads as it did. -/
import Derived.Test.YtcfjhbcpjpgodaaGreatDoorJ45
import Derived.Test.YtcfjhbcpjpgodaaGreatDoorLawStep3
import Derived.Test.YtcfjhbcpjpgodaaGreatDoorLawStep4
import Derived.Test.YtcfjhbcpjpgodaaGreatDoorJ44
import Derived.Test.YtcfjhbcpjpgodaaGreatDoorLawStep6
import Derived.Test.YtcfjhbcpjpgodaaGreatDoorCards
import Derived.Test.YtcfjhbcpjpgodaaGreatDoorTie
import Derived.LaidMore
import Derived.Deep.DeepWitnessRowRef
namespace Go.Proofs.YtcfjhbcpjpgodaaGreatDoor
open Go.RowKit Proofs.Tryz
set_option maxRecDepth 100000
set_option maxHeartbeats 0
set_option linter.all false
section
section
variable{Q:Gst}{es:List Addr}{m:Int}{i wb xb yb ra rc:Nat}{ka kd:Nat->Nat}{gp gc hp hc S T N K:Nat}{w:World}
theorem zaw(h:LawM Q es m i wb xb yb ra rc ka kd gp gc hp hc S T N K w)(hB:XC S T N K)(o:OpV)(ho:QK o):
 Calls prog 17 #[pA wb 0,.agg o.cells] w (x9 Q es m i wb xb yb ra rc ka kd gp gc hp hc S T N K):=by
 obtain⟨k,⟨mk,mh,mr,mf,mv,mn,ms⟩,osg,oraw,on⟩:=o;have hb:∀c:Int,¬k=c->(k==c)=false:=λc hc=>beq_eq_false_iff_ne.2 hc;by_cases h1:k=1
 .subst h1;exact zcJ h hB mk mh mr mf mv mn ms osg oraw on ho
 by_cases h2:k=2
 .subst h2;exact zcI h hB mk mh mr mf mv mn ms osg oraw on ho
 by_cases h3:k=3
 .subst h3;exact zcH h hB mk mh mr mf mv mn ms osg oraw on ho
 by_cases h4:k=4
 .subst h4;exact zcG h hB mk mh mr mf mv mn ms osg oraw on ho
 by_cases h5:k=5
 .subst h5;exact zcF h hB mk mh mr mf mv mn ms osg oraw on ho
 by_cases h6:k=6
 .subst h6;exact zcE h hB mk mh mr mf mv mn ms osg oraw on ho
 by_cases h7:k=7
 .subst h7;exact zcD h hB mk mh mr mf mv mn ms osg oraw on ho
 by_cases h8:k=8
 .subst h8;exact zcC h hB mk mh mr mf mv mn ms osg oraw on ho
 by_cases h9:k=9
 .subst h9;exact zcB h hB mk mh mr mf mv mn ms osg oraw on ho
 by_cases aa:k=10
 .subst aa;exact zch h hB mk mh mr mf mv mn ms osg oraw on ho
 exact zcA h hB k ⟨hb 1 h1,hb 2 h2,hb 3 h3,hb 4 h4,hb 5 h5,hb 6 h6,hb 7 h7,hb 8 h8,hb 9 h9,hb 10 aa⟩ mk mh mr mf mv mn ms osg oraw on ho
end
end
section
section
variable{P:Program}
theorem YV{ops:Array Oper}{rest:List Oper}{o:Oper}{a:Act}{w:World}{Q:Exit->Act->World->Prop}(hgd:o.guard=none)(t:TypeId)(ho:o.op=.build t #[])(v:Value)(hr:(Instr.build t #[]).run P w=.ok v w)(h:wpList P ops Q rest (a.put o.dst v) w):wpList P ops Q (o::rest) a w:=by
 refine wpList_plain hgd λK hK=>?_;unfold Oper.wp execOp;simp only[ho,List.map_toArray,List.map_nil,hr,Sem.run_bind,Sem.run_pure,Result.andThen_ok];exact hK _ _ h
end
theorem Tryz.zfp(W:World):(Instr.build 36 #[]).run prog W=.ok (.agg #[.pointer none,.pointer none,.pointer none,.pointer none,.slice none 0 0,.slice none 0 0,.slice none 0 0,.slice none 0 0,.slice none 0 0]) W:=by kernel_rfl
theorem Tryz.zfT(W:World):(Instr.box 36 (.agg #[.pointer none,.pointer none,.pointer none,.pointer none,.slice none 0 0,.slice none 0 0,.slice none 0 0,.slice none 0 0,.slice none 0 0])).run prog W=.ok (pA W.heap.size 0) (W.alloc (.cells #[.pointer none,.pointer none,.pointer none,.pointer none,.slice none 0 0,.slice none 0 0,.slice none 0 0,.slice none 0 0,.slice none 0 0] 36)):=by kernel_rfl
theorem VK(id:Int)(hid:inL id)(g:Nat->Int)(p:Option Addr)(n cap:Nat)(ts:Nat->OpV)(tp:Option Addr)(tn tcap:Nat)(es:List Addr)(m:Int)(w:World)(hn:n<=1048576)(htn:tn<=1048576)(hp:ga p n cap)
 (hg:kG w w.heap.size p n (λi=>iA (g i))) (ht:Xy w w.heap.size tp tn ts) (hok:∀i,i<tn->QK (ts i)) (hS:Sent es w) (hT:Kv w) (hmx:w.cell? (aA 13 0)=some (iA m)):
 Calls prog 3 #[iA id,.slice p n cap,.slice tp tn tcap] w λe w'=>e=.returned (bA true)/\BW w w':=by
 have eE:es.length=12:=hS.len;obtain⟨a0,e0⟩:∃a,es[0]? =some a:=⟨_,zgy (by omega)⟩;obtain⟨a1,e1⟩:∃a,es[1]? =some a:=⟨_,zgy (by omega)⟩;obtain⟨eu,HN,bw,HP,HG,HT,eI,HS⟩:=vF e0 hn htn hp hg ht hok hS;have ez:=zc (Xt a1 w (hS.cell 1 _ _ rfl e1));have el:=zc (λW=>vn id 9 W hid.1 hid.2 (by omega) (by omega));have cB:Hid (Low w.heap.size es w/\qw w.heap.size es m w):=by
  have bK:∀i g:Nat,kS[i]? =some g->g<w.heap.size:=λi g hg=>by
   have hi:i<es.length:=by rw[hS.len];exact(List.getElem?_eq_some_iff.1 hg).1
   exact zgx _ _ (hS.cell i g _ hg (zgy hi))
  have dV:∀a,a∈es->a.block<w.heap.size:=λa ha=>by
   obtain⟨c,t,h⟩:=hS.blk a ha;exact zj h
  exact⟨⟨hS,bK,dV,hT,zgx _ _ hT⟩,⟨(zah.of hS).four,hmx,λi g hg _=>bK i g hg,zgx _ _ hmx,dV⟩⟩
 clear e0 e1 hn htn hp hg ht hok hS hT hmx eE hid;go_enter func3,ntmps3;go_wp2_with fail
 refine ez.o.mono ?_;rintro e w1 ⟨rfl,cT⟩;have ey:=zc cT;obtain⟨w2,cQ⟩:=gen (w1.alloc (.cells #[.pointer none,.pointer none,.pointer none,.pointer none,.slice none 0 0,.slice none 0 0,.slice none 0 0,.slice none 0 0,.slice none 0 0] 36));have dZ:BW w1 w2:=by rw[cQ];exact bwA w1
 have dJ:w2.heap[w1.heap.size]? =some (.cells #[.pointer none,.pointer none,.pointer none,.pointer none,.slice none 0 0,.slice none 0 0,.slice none 0 0,.slice none 0 0,.slice none 0 0] 36 (0,0)):=by rw[cQ];exact zgr w1 _
 have ep:=zc (Zo 9 w2 (by omega) (by omega));have dA:Hid (BW w w2):=cT.trans (dZ.mono cT.size);obtain⟨dm,ed⟩:=ze dJ cQ;clear cT dZ dJ cQ ez;go_wp2_with (first|(refine YV rfl 36 rfl _ (Tryz.zfp _) ?_)|(refine kH rfl 36 _ rfl _ _ rfl (Tryz.zfT _) ?_)|fail)
 rw[<-ed.o];refine ep.o.mono ?_;rintro e w3 ⟨ov,kp,kc,ka,rfl,c7,dP,dU,b6,db⟩;obtain⟨gk,rfl,RA,bn,aF,bs⟩:=J8 c7 dP dU b6;have bV:=blk dm db;have aK:Hid (w.heap.size<=w1.heap.size/\w1.heap.size<w2.heap.size/\w2.heap.size<w3.heap.size):=⟨ey.o.size,zj dm,by obtain⟨ob,cap2,cur2,iv,h1,_⟩:=c7;exact zj h1⟩;obtain⟨wb,dE⟩:=gen w1.heap.size;obtain⟨ra,dG⟩:=gen w2.heap.size;have dz:Hid (BW w w3):=dA.o.trans (db.mono dA.o.size);rw[<-dG] at bn aF bs aK ⊢;rw[<-dE] at bV aK ⊢;clear c7 dP dU b6 db ep ed dG dE dm dA ey ov;obtain⟨w3a,ai⟩:=gen (w3.setCell (aA wb 2) (pA ra 0));have aw:w3a.heap[wb]? =some (.cells #[.pointer none,.pointer none,pA ra 0,.pointer none,.slice none 0 0,.slice none 0 0,.slice none 0 0,.slice none 0 0,.slice none 0 0] 36 (0,0)):=by rw[ai,setCell_row bV 2 _];rfl
 obtain⟨w4,aD⟩:=gen (w3a.setCell (aA wb 4) (.slice (some (aA gk 0)) 9 kc));have bU:w4.heap[wb]? =some (.cells #[.pointer none,.pointer none,pA ra 0,.pointer none,.slice (some (aA gk 0)) 9 kc,.slice none 0 0,.slice none 0 0,.slice none 0 0,.slice none 0 0] 36 (0,0)):=by rw[aD,setCell_row aw 4 _];rfl
 have aS:zm (λk=>k=wb) w3 w4:=by rw[aD,ai];exact((zm.id (λk=>k=wb) w3).set rfl).set rfl
 have bN:w4.heap.size=w3.heap.size:=by rw[aD,ai,(zd _ wb 4 _).size,(zd _ wb 2 _).size]
 have c1:cE w3 wb 2 (.pointer none):=zgs w3 wb 2 _ _ _ bV;have f1:w3.frozen? (aA wb 2)=false:=zq bV 2;have c2:(w3.setCell (aA wb 2) (pA ra 0)).cell? (aA wb 4)=some (.slice none 0 0):=by rw[<-ai];exact zgs w3a wb 4 _ _ _ aw
 have f2:(w3.setCell (aA wb 2) (pA ra 0)).frozen? (aA wb 4)=false:=by rw[<-ai];exact zq aw 4
 have eo:=zc (Zo 9 w4 (by omega) (by omega));have bS:=bn.frame (w':=w4) (λk hk=>aS.block k (aF k hk).2 (λe=>by have:=(aF k hk).1;have:=aK.o;omega));have b9:=bs.frame (w':=w4) (λk h1 h2 _=>aS.block k h2 (λe=>by have:=aK.o;omega));have dy:Hid (BW w w4):=dz.o.trans (Below.same aS (λk e=>by rw[e];exact aK.o.1) dz.o.size);obtain⟨ek,cy,cK,aL,cp,cq,cU⟩:=Qq bU bS b9 aF aD ai bN;clear bn bs bS b9 aF bU aw aS bV aD ai bN;go_wp2_with fail
 rw[<-cq.o,<-cp.o];refine eo.o.mono ?_;rintro e w5 ⟨ov,kp,az,kd,rfl,bH,dO,dT,b5,aB⟩;obtain⟨hk,rfl,RC,bm,aE,bq⟩:=J8 bH dO dT b5;have cS:=blk ek aB;have cr:Hid (w4.heap.size<w5.heap.size):=by obtain⟨ob,cap2,cur2,iv,h1,_⟩:=bH;exact zj h1
 obtain⟨rc,c6⟩:=gen w4.heap.size;have bL:Hid (rc=w3.heap.size):=by rw[c6];exact cU
 have dx:Hid (BW w w5):=dy.o.trans (aB.mono dy.o.size);have cx:=zc (cy.o.frame (w':=w5) (λk hk=>aB.block k (by have:=(aL.o k hk).2;have:=cU.o;omega)));have cJ:=zc (cK.o.frame (w':=w5) (λk h1 h2 _=>aB.block k (by have:=cU.o;omega)));rw[<-c6] at bm aE bq cr ⊢;clear bH dO dT b5 aB eo cp cq c6 ek dy dz cy cK cU ov c1 f1 c2 f2;obtain⟨w5a,ah⟩:=gen (w5.setCell (aA wb 3) (pA rc 0));have av:w5a.heap[wb]? =some (.cells #[.pointer none,.pointer none,pA ra 0,pA rc 0,.slice (some (aA gk 0)) 9 kc,.slice none 0 0,.slice none 0 0,.slice none 0 0,.slice none 0 0] 36 (0,0)):=by rw[ah,setCell_row cS 3 _];rfl
 obtain⟨w6,aC⟩:=gen (w5a.setCell (aA wb 5) (.slice (some (aA hk 0)) 9 az));have bT:w6.heap[wb]? =some (.cells #[.pointer none,.pointer none,pA ra 0,pA rc 0,.slice (some (aA gk 0)) 9 kc,.slice (some (aA hk 0)) 9 az,.slice none 0 0,.slice none 0 0,.slice none 0 0] 36 (0,0)):=by rw[aC,setCell_row av 5 _];rfl
 have bl:zm (λk=>k=wb) w5 w6:=by rw[aC,ah];exact((zm.id (λk=>k=wb) w5).set rfl).set rfl
 have bj:w6.heap.size=w5.heap.size:=by rw[aC,ah,(zd _ wb 5 _).size,(zd _ wb 3 _).size]
 have c1:cE w5 wb 3 (.pointer none):=zgs w5 wb 3 _ _ _ cS;have f1:w5.frozen? (aA wb 3)=false:=zq cS 3;have c2:(w5.setCell (aA wb 3) (pA rc 0)).cell? (aA wb 5)=some (.slice none 0 0):=by rw[<-ah];exact zgs w5a wb 5 _ _ _ av
 have f2:(w5.setCell (aA wb 3) (pA rc 0)).frozen? (aA wb 5)=false:=by rw[<-ah];exact zq av 5
 have aM:Hid (∀k,wb<k->k<w5.heap.size->w6.heap[k]? =w5.heap[k]?):=λk h1 h2=>bl.block k h2 (λe=>by omega);have c4:wb<ra/\ra<rc:=⟨aK.o.2.1,by rw[bL.o];exact aK.o.2.2⟩;have dj:=zc (cx.o.frame (w':=w6) (λk hk=>aM.o k (by have:=(aL.o k hk).1;omega) (by have:=(aL.o k hk).2;have:=bL.o;have:=cr.o;omega)));have aO:=zc (cJ.o.frame (w':=w6) (λk h1 h2 _=>aM.o k (by omega) (by have:=bL.o;have:=cr.o;omega)));have di:=zc (bm.frame (w':=w6) (λk hk=>aM.o k (by have:=(aE k hk).1;omega) (aE k hk).2));have cI:=zc (bq.frame (w':=w6) (λk h1 h2 _=>aM.o k (by omega) h2));rw[<-bL.o] at aO;have ad:Hid (∀k,RA k->ra<=k/\k<rc):=λk hk=>by have:=aL.o k hk;have:=bL.o;omega
 have ae:Hid (∀k,RC k->rc<=k/\k<w6.heap.size):=λk hk=>by have:=aE k hk;omega
 have ao:Hid (BW w w6):=dx.o.trans (Below.same bl (λk e=>by rw[e];exact aK.o.1) dx.o.size);rw[<-bj] at cI;have aa:Hid (w.heap.size<=wb/\wb<ra/\ra<rc/\rc<w6.heap.size):=⟨aK.o.1,c4.1,c4.2,by rw[bj];exact cr⟩;have bd:Hid (Low wb es w6/\qw wb es m w6):=by
  obtain⟨hl,eD⟩:=cB.o;have bI:=aK.o.1;have c9:∀k,k<wb->k<w.heap.size->w6.heap[k]? =w.heap[k]? :=λk _ h2=>ao.o.block k h2;have h1:=hl.same λk hk=>ao.o.block k hk;have h2:=eD.same λk hk=>ao.o.block k hk;exact⟨⟨h1.sent,λi g hg=>zgt (h1.gb i g hg) bI,λa ha=>zgt (h1.eb a ha) bI,h1.typ,zgt h1.tb bI⟩,⟨h2.sent,h2.len,λi g hg hi=>zgt (h2.gb i g hg hi) bI,zgt h2.mb bI,λa ha=>zgt (h2.eb a ha) bI⟩⟩
 obtain⟨ej,cp,cq⟩:=zC bT aC ah;clear bm bq aE bT av bl cS aC ah bj c4 bL cr aL aK aM cx cJ dx cB;go_wp2_with fail
 rw[<-cq.o,<-cp.o];refine(el _).mono ?_;rintro e wx ⟨⟨i,hi,rfl⟩,a6⟩;have bP:=a6.symm;clear a6;subst bP;clear c1 f1 c2 f2 cp cq el;have et:Hid (kG w6 w.heap.size p n (λi=>iA (g i))):=HG.o.below ao;have eh:=zc (Vz g p n cap w.heap.size w6 (by have:=HN.o;omega) HP.o et.o ao.o.size);go_wp2_with fail
 refine eh.o.mono ?_;rintro e w7 ⟨⟨rmp,rmc,rfl,dR,bQ,b7⟩,cd⟩;obtain⟨dp,aY,er,af⟩:=yi dR bQ b7 cd;have eH:Hid (zm (λk=>RA k\/RC k) w6 w7):=(zm.id _ w6).zex cd;have dI:=blk ej cd;have d4:cE w7 wb 4 (.slice (some (aA gk 0)) 9 kc):=zgs w7 wb 4 _ _ _ dI;have br:=aO.o.frame (w':=w7) (λk h1 h2 _=>cd.block k (by have:=aa.o;omega));have dk:=(br.key i hi).1;have dr:=zc (br.key i hi).2;have hii:(i:Int)<9:=by omega
 have hi0:(0:Int)<=(i:Int):=by omega
 obtain⟨z,hz⟩:=gen (gN g n);obtain⟨y,o⟩:=z;have HZ:=zc hz;have z0:=zX;clear dR bQ b7 cd dI br hz eh et;cases o with
 |false=>
  have cA:=zc (zbU (ka i) g rmp n rmc a0 w7 dp ((HS.o.later (ao.o.trans (af.o.mono ao.o.size))).cell 0 _ _ rfl eu) (by rw[<-HZ.o]));go_wp2_with fail
  refine cA.o.mono ?_;rintro e w8 ⟨rfl,da⟩;have aq:Hid (zm (λk=>False\/RA k) w7 w8):=(zm.id _ w7).zex da;have bF:Hid (BW w w8):=(ao.o.trans (af.o.mono ao.o.size)).trans (da.mono (zgu ao.o.size af.o.size));have ds:=zc (HG.o.below bF);clear da cA d4 dk;have cO:Hid (Calls prog 13 #[.slice p n cap] w8 λe w'=>e=.returned (.tuple #[.agg (regA y),bA false])/\BW w8 w'):=by
   have h:=ZI g p n cap w8 (ds.o.more bF.o.size);rw[<-HZ.o] at h;exact h
  go_wp2_with fail
  refine cO.o.mono ?_;rintro e w9 ⟨rfl,cc⟩;have bM:=zc cc;clear cc cO;go_wp2_with (first|(refine zk rfl 49 _ _ rfl w9.heap.size y rfl rfl 49 (regA zA) (zgr w9 _) (zg _) Tryz.zc3 ?_;intro w10 aH aJ;have bz:=zc aH;have bG:Hid (BW w9 w10):=((bwA w9).trans (aJ.below (zgp _)));clear aH aJ)|fail)
  have ab:Hid (BW w8 w10):=bM.o.trans (bG.o.mono bM.o.size);refine(er w10 (zgu aq.o.size ab.o.size) (λk hk=>?_)).mono ?_
  .have h6:=aa.o;have eG:=af.o.size;have eF:=aq.o.size;have ca:k<w7.heap.size/\¬RA k:=by
    rcases hk with h|h
    .exact ⟨by omega,λhr=>by have:=ad.o k hr;omega⟩
    exact⟨h.2,λhr=>by have:=ad.o k hr;omega⟩
   exact(ab.o.block k (by omega)).trans (aq.o.block k ca.1 (λh=>h.elim (λh=>h.elim) ca.2))
  rintro e wx ⟨rfl,a6⟩;have bP:=a6.symm;clear a6;subst bP;have al:Hid (JF w6.heap.size rmp n w10):=by
   rcases aY with h|⟨gb,C,e,h1,h2,h3⟩
   .exact zgR h
   refine zgS ⟨gb,C,e,h1,?_,h3⟩;have h4:=zj h2;have h6:=aa.o;exact((ab.o.block gb (zgt h4 aq.o.size)).trans (aq.o.block gb h4 (λh=>h.elim (λh=>h.elim) (λhr=>by have:=ad.o gb hr;omega)))).trans h2
  have ew:Hid (BW w w10):=bF.o.trans (ab.o.mono bF.o.size);go_wp2;go_loopw [15] (λiv wr=>∃k:Nat,k<=n/\iv=iA k/\zm (λb=>∃o,rmp=some (aA b o)) w10 wr/\JF w6.heap.size rmp n wr) (λiv _=>n-(intOf iv).toNat)
  case atStart=>exact⟨0,zgv _,rfl,zm.id _ _,al⟩
  obtain⟨k,hk,rfl,ay,bR⟩:=hrel;have eC:=HN.o;by_cases b8:k=n
  .have dQ:¬(k:Int)<(n:Int):=by omega
   clear b8 hk bR;have dw:Hid (BW w wr):=ew.o.trans (Below.same ay (λb hb=>by
    obtain⟨o1,e1⟩:=hb;rcases al with h|⟨gb,C,e,h1,h2,h3⟩
    .rw [h.1] at e1;cases e1
    rw[e] at e1;cases e1;exact zgu ao.o.size h1) ew.o.size)
   have ec:Hid (Calls prog 15 #[eA a0] wr λe w'=>e=.returned (iA 1)/\BW wr w'):=by
    have h:=xL (HS.o.later dw) 0 a0 eu;unfold Hid;simpa using h
   clear ay;go_wp2_with fail
   refine ec.o.mono ?_;rintro e w20 ⟨rfl,ch⟩;have bE:Hid (BW w w20):=dw.o.trans (ch.mono dw.o.size);clear ch ec;go_wp2;go_ret;exact⟨rfl,bE⟩
  have dS:(k:Int)<(n:Int):=by omega
  have bJ:k<n:=by omega
  have cH:=zc bJ;rcases bR with⟨-,h0⟩|⟨gb,C,rfl,bK,aU,dc⟩
  .omega
  have ck:cE wr gb k (C[k]'(by omega)):=(zgs wr gb k _ _ _ aU).trans (Array.getElem?_eq_getElem (by omega));have fk:wr.frozen? (aA gb k)=false:=zq aU k;obtain⟨u,hu⟩:=gen (C[k]'(by omega));rw[<-hu] at ck;have df:Hid (zm (λb=>∃o,some ((aA gb 0):Addr)=some (aA b o)) w10 (wr.setCell (aA gb k) (iA 9))):=ay.set ⟨0,rfl⟩;have dg:Hid (JF w6.heap.size (some (aA gb 0)) n (wr.setCell (aA gb k) (iA 9))):=zgS ⟨gb,_,rfl,bK,setCell_row aU k (iA 9),by simpa using dc⟩;clear ay aU hu;go_wp2;go_roundw
  case rel=>exact⟨k+1,cH,by go_num,df,dg⟩
  case measure=>have:=cH.o;simp[intOf];omega
 |true=>
  have du:Hid (Dom y):=by have h:=Dom.gen g n;rw[<-HZ.o] at h;exact h
  have dn:Hid (0<sumTo y 8):=by have h:=GQ (g:=g) (n:=n) (by rw[<-HZ.o]);rw[<-HZ.o] at h;exact h
  have cA:=zc (zbT (B:=wb) (es:=es) (m:=m) (S:=0) g rmp n rmc y dp.o HZ.o.symm du.o dn.o (dj.o.frame (w':=w7) (λk hk=>af.o.block k (by have:=ad.o k hk;have:=aa.o;omega))) dr.o hi (aO.o.kl i hi).2.2 (λk hk=>by have:=ad.o k hk;have:=aa.o;have:=af.o.size;omega) (bd.o.2.same λk hk=>af.o.block k (by have:=aa.o;omega)) (by have:=aa.o;have:=af.o.size;omega) (zgp _) (by omega));go_wp2_with fail
  refine cA.o.mono ?_;rintro e w8 ⟨xb,cb,FX,RX,rfl,dD,cm⟩;have aq:Hid (zm (λk=>False\/RA k) w7 w8):=cm.same;have bF:Hid (BW w w8):=(ao.o.trans (af.o.mono ao.o.size)).trans (Below.same cm.same (λk hk=>hk.elim (λh=>h.elim) (λh=>by have:=ad.o k h;have:=aa.o;omega)) (zgu ao.o.size af.o.size));obtain⟨ds,cV⟩:=ze (HG.o.below bF) dD;have dt:Hid ((∀k,FX k->w7.heap.size<=k)/\(∀k,RX k->RA k\/w7.heap.size<=k)):=⟨λk hk=>(cm.ff k hk).elim (λh=>h.elim) (λh=>h),cm.rr⟩;clear dD cm cA d4 dk dp;have cO:Hid (Calls prog 13 #[.slice p n cap] w8 λe w'=>e=.returned (.tuple #[.agg (regA y),bA true])/\BW w8 w'):=by
   have h:=ZI g p n cap w8 (ds.o.more bF.o.size);rw[<-HZ.o] at h;exact h
  go_wp2_with fail
  refine cO.o.mono ?_;rintro e w9 ⟨rfl,cc⟩;have bM:=zc cc;clear cc cO;go_wp2_with (first|(refine zk rfl 49 _ _ rfl w9.heap.size y rfl rfl 49 (regA zA) (zgr w9 _) (zg _) Tryz.zc3 ?_;intro w10 aH aJ;have bz:=zc aH;have bG:Hid (BW w9 w10):=((bwA w9).trans (aJ.below (zgp _)));clear aH aJ)|fail)
  have ab:Hid (BW w8 w10):=bM.o.trans (bG.o.mono bM.o.size);refine(er w10 (zgu aq.o.size ab.o.size) (λk hk=>?_)).mono ?_
  .have h6:=aa.o;have eG:=af.o.size;have eF:=aq.o.size;have ca:k<w7.heap.size/\¬RA k:=by
    rcases hk with h|h
    .exact ⟨by omega,λhr=>by have:=ad.o k hr;omega⟩
    exact⟨h.2,λhr=>by have:=ad.o k hr;omega⟩
   exact(ab.o.block k (by omega)).trans (aq.o.block k ca.1 (λh=>h.elim (λh=>h.elim) ca.2))
  rintro e wx ⟨rfl,a6⟩;have bP:=a6.symm;clear a6;subst bP;have al:Hid (JF w6.heap.size rmp n w10):=by
   rcases aY with h|⟨gb,C,e,h1,h2,h3⟩
   .exact zgR h
   refine zgS ⟨gb,C,e,h1,?_,h3⟩;have h4:=zj h2;have h6:=aa.o;exact((ab.o.block gb (zgt h4 aq.o.size)).trans (aq.o.block gb h4 (λh=>h.elim (λh=>h.elim) (λhr=>by have:=ad.o gb hr;omega)))).trans h2
  have cW:Hid (∀b o,rmp=some (aA b o)->w6.heap.size<=b/\b<w7.heap.size):=λb o e1=>by
   rcases aY with h|⟨gb,C,e,h1,h2,h3⟩
   .rw [h.1] at e1;cases e1
   rw[e] at e1;cases e1;exact⟨h1,zj h2⟩
  have aP:Hid (w7.heap.size<=w9.heap.size/\w9.heap.size<w10.heap.size/\w6.heap.size<=w7.heap.size):=⟨zgu aq.o.size bM.o.size,zj bz,af.o.size⟩;go_wp2;go_loopw [15] (λiv wr=>∃k:Nat,k<=n/\iv=iA k/\zm (λb=>∃o,rmp=some (aA b o)) w10 wr/\JF w6.heap.size rmp n wr) (λiv _=>n-(intOf iv).toNat)
  case atStart=>exact⟨0,zgv _,rfl,zm.id _ _,al⟩
  obtain⟨k,hk,rfl,ay,bR⟩:=hrel;have eC:=HN.o;by_cases b8:k=n
  .have dQ:¬(k:Int)<(n:Int):=by omega
   clear b8 hk bR;have cX:Hid (zm (λk=>RA k\/RC k) w6 wr):=(((eH.o.step aq (λk h=>h.elim (λh=>h.elim) (λh=>zgR (zgR h)))).zex ab).step ay (λb hb=>zgS (by obtain⟨o1,e1⟩:=hb;exact(cW b o1 e1).1)));have eJ:Hid (zm (λk=>RA k) w6 wr):=((((zm.id _ w6).zex af).step aq (λk h=>h.elim (λh=>h.elim) (λh=>zgR h))).zex ab).step ay (λb hb=>zgS (by obtain⟨o1,e1⟩:=hb;exact(cW b o1 e1).1));have dC:Hid (zm (λk=>w6.heap.size<=k/\k<w7.heap.size) w8 wr):=((zm.id _ w8).zex ab).step ay (λb hb=>zgR (by obtain⟨o1,e1⟩:=hb;exact cW b o1 e1));have dW:BW w wr:=ao.o.trans (Below.same cX (λk hk=>by have h6:=aa.o;exact hk.elim (λh=>by have:=ad.o k h;omega) (λh=>by have:=ae.o k h;omega)) ao.o.size);have cv:Hid (wr.heap[w9.heap.size]? =some (.cells (regA y) 49 (0,0))):=(ay.block w9.heap.size aP.o.2.1 (λhb=>by obtain⟨o1,e1⟩:=hb;have:=cW.o _ _ e1;have:=aP.o;omega)).trans bz.o;have eB:w10.heap.size<=wr.heap.size:=ay.size;have cR:cL wr wb #[.pointer none,.pointer none,pA ra 0,pA rc 0,.slice (some (aA gk 0)) 9 kc,.slice (some (aA hk 0)) 9 az,.slice none 0 0,.slice none 0 0,.slice none 0 0] 36:=(cX.o.block wb (by have:=aa.o;omega) (λh=>h.elim (λh=>by have:=ad.o _ h;have:=aa.o;omega) (λh=>by have:=ae.o _ h;have:=aa.o;omega))).trans ej.o;have c0:cE wr wb 0 (.pointer none):=zgs wr wb 0 _ _ _ cR;have f0:wr.frozen? (aA wb 0)=false:=zq cR 0;obtain⟨w12,aR⟩:=gen (wr.setCell (aA wb 0) (pA xb 0));have bx:Hid (w12.heap[wb]? =some (.cells #[pA xb 0,.pointer none,pA ra 0,pA rc 0,.slice (some (aA gk 0)) 9 kc,.slice (some (aA hk 0)) 9 az,.slice none 0 0,.slice none 0 0,.slice none 0 0] 36 (0,0))):=by unfold Hid;rw[aR,setCell_row cR 0 _];rfl
   have ak:ko wb wr w12:=by rw[aR];exact zd wr wb 0 _
   have an:Hid (w6.heap.size<=w7.heap.size/\w7.heap.size<w12.heap.size):=⟨aP.o.2.2,by have:=aP.o;rw[ak.size];omega⟩;have aT:∀k,k≠wb->k<w6.heap.size->¬RA k->¬RC k->w12.heap[k]? =w6.heap[k]? :=λk h1 h2 h3 h4=>(ak.block k h1).trans (cX.o.block k h2 (λh=>h.elim h3 h4));have cn:=zc (cV.o.frame (w':=w12) (by rw[ak.size];exact dC.o.size) (λk hk=>by
    have h6:=aa.o;have h9:=aP.o;have c8:k≠wb/\k<w8.heap.size/\¬(w6.heap.size<=k/\k<w7.heap.size):=by
     rcases hk with h|h|h|h
     .have h1:=(cV.o.fl k h).2;have h2:=dt.o.1 k h;omega
     .have h1:=(cV.o.rl k h).2;rcases dt.o.2 k h with h2|h2
      .have:=ad.o k h2
       omega
      omega
     .have h1:=(aO.o.kl i hi);have h2:=aq.o.size;rw[h];omega
     have h2:=aq.o.size;omega
    exact(ak.block k c8.1).trans (dC.o.block k c8.2.1 c8.2.2)))
   have bh:=zc (aO.o.frame (w':=w12) (λk h1 h2 h3=>aT k (by have:=aa.o;omega) (by have:=aa.o;omega) h3 (λh=>by have:=ae.o k h;omega)));have ag:=zc (cI.o.frame (w':=w12) (λk h1 h2 h3=>aT k (by have:=aa.o;omega) h2 (λh=>by have:=ad.o k h;omega) h3));have dh:=zc (di.o.frame (w':=wr) (λk hk=>(eJ.o.block k (by have:=ae.o k hk;omega) (λh=>by have:=ad.o k h;have:=ae.o k hk;omega))));have bc:=zc (dh.o.frame (w':=w12) (λk hk=>ak.block k (λe=>by have:=ae.o k hk;have:=aa.o;omega)));have bf:=zc (ag.o.key i hi).2;have bg:=zc (ag.o.kl i hi).2.2;have cM:Hid ((rc<=hk/\hk<w6.heap.size)/\¬RC hk):=⟨⟨ag.o.gl.1,ag.o.gl.2.1⟩,ag.o.gl.2.2⟩;have a8:Hid (wb<=w12.heap.size):=by have:=an.o;have:=aa.o;unfold Hid;omega
   have bb:Hid (∀k,RC k->wb<=k/\k<w12.heap.size):=λk hk=>by have:=ae.o k hk;have:=an.o;have:=aa.o;omega
   have aX:=(ag.o.key i hi).1;have dd:cE w12 wb 5 (.slice (some (aA hk 0)) 9 az):=zgs w12 wb 5 _ _ _ bx;have cw:Hid (w9.heap.size<w12.heap.size):=by have:=aP.o;unfold Hid;rw[ak.size];omega
   have ax:Hid (w12.rangeAt w9.heap.size 0 (yd y)):=λj u hj=>by
    rw[zg0,zgs w12 w9.heap.size j _ _ _ ((ak.block w9.heap.size (λe=>by have:=aP.o;have:=aa.o;omega)).trans cv.o)];simpa [regA] using hj
   have dB:Hid (BW w w12):=dW.trans (ak.below (by exact aa.o.1));have aN:Hid (Low wb es w12):=bd.o.1.same λk hk=>aT k (by omega) (by have:=aa.o;omega) (λh=>by have:=ad.o k h;have:=aa.o;omega) (λh=>by have:=ae.o k h;have:=aa.o;omega);have ct:=zc aR;clear ay dW eB cR aR ak aT cX dC cv cV al aY;go_wp2_with fail
   rw[<-ct.o];clear c0 f0 ct;refine rgd (S:=λX=>cE X wb 5 (.slice (some (aA hk 0)) 9 az)/\cE X hk i (pA (kd i) 0)/\X.rangeAt w9.heap.size 0 (yd y)) ⟨dd,aX,ax⟩ λhH=>?_;refine takeN [(0,some 113,pA wb 0),(1,some 114,pA wb 0),(2,some 115,pA wb 0),(3,some 116,pA wb 5),(4,some 117,.slice (some (aA hk 0)) 9 az),(5,some 118,iA i),(6,some 119,pA hk i),(7,some 120,pA (kd i) 0),(8,some 121,.agg (regA y))] _ _ hH (by repeat(first|exact zgY|((first|refine tkc rfl rfl (zg3 (by rfl) 49 _ rfl w9.heap.size 0 rfl (yd y) _ (λw h=>And.right (And.right h)) underlying49 rfl (by rw[Tryz.zc3];simp[yd])) ?_|(refine tkc rfl rfl (zgR ⟨by rfl,λx h=>?_⟩) ?_;focus(have f0:cE x wb 5 (.slice (some (aA hk 0)) 9 az):=h.1;have f1:cE x hk i (pA (kd i) 0):=h.2.1;go_simp;done)));simp only[AP]))) ?_;simp only[zh,AP,pA];refine zp 9 λK hK=>?_;go_simp;refine(Ja (w:=w12.drew) (B:=wb) (S:=0) du.o dn.o (bc.o.frame (λ_ _=>rfl)) bf.o hi bg.o bb.o a8.o (zgp _) (by omega)).mono ?_;rintro en w13 ⟨yb,FY,RY,rfl,bO,au⟩;have ar:∀k,k<w12.heap.size->¬RC k->w13.heap[k]? =w12.heap[k]? :=λk h1 h2=>au.same.block k h1 (λh=>h.elim (λh=>h.elim) h2);have aG:cL w13 wb #[pA xb 0,.pointer none,pA ra 0,pA rc 0,.slice (some (aA gk 0)) 9 kc,.slice (some (aA hk 0)) 9 az,.slice none 0 0,.slice none 0 0,.slice none 0 0] 36:=(ar wb (by have:=an.o;have:=aa.o;omega) (λh=>by have:=ae.o wb h;have:=aa.o;omega)).trans bx.o;refine hK.out _ _ (⟨zgs w13 wb 5 _ _ _ aG,(zgw (w:=w12) (a:=(aA hk i)) (ar hk (by have:=cM.o.1;have:=an.o;omega) cM.o.2)).trans aX,λj u hj=>(zgw (w:=w12) (a:=(nA w9 (0+j))) (ar w9.heap.size cw.o (λh=>by have:=ae.o _ h;have:=aP.o;omega))).trans (ax.o j u hj)⟩) λhH=>?_;clear hK K
   try simp only[AP,AQ]
   refine zx [10,11] hH (λ_ h=>h) ?_;have cY:cE w13 wb 1 (.pointer none):=zgs w13 wb 1 _ _ _ aG;have fY:w13.frozen? (aA wb 1)=false:=zq aG 1;obtain⟨w14,aQ⟩:=gen (w13.setCell (aA wb 1) (pA yb 0));have bo:w14.heap[wb]? =some (.cells #[pA xb 0,pA yb 0,pA ra 0,pA rc 0,.slice (some (aA gk 0)) 9 kc,.slice (some (aA hk 0)) 9 az,.slice none 0 0,.slice none 0 0,.slice none 0 0] 36 (0,0)):=by rw[aQ,setCell_row aG 1 _];rfl
   have aj:ko wb w13 w14:=by rw[aQ];exact zd w13 wb 1 _
   refine zp 12 λK hK=>?_;go_simp;rw[<-aQ];refine hK.out _ _ ⟨zgs w14 wb 5 _ _ _ bo,?_,?_⟩ λhH=>?_
   .exact (zgw (w:=w13) (a:=(aA hk i)) (aj.block hk (λe=>by have:=cM.o.1;have:=aa.o;omega))).trans ((zgw (w:=w12) (a:=(aA hk i)) (ar hk (by have:=cM.o.1;have:=an.o;omega) cM.o.2)).trans aX)
   .exact λj u hj=>(zgw (w:=w13) (a:=(nA w9 (0+j))) (aj.block w9.heap.size (λe=>by have:=aP.o;have:=aa.o;omega))).trans ((zgw (w:=w12) (a:=(nA w9 (0+j))) (ar w9.heap.size cw.o (λh=>by have:=ae.o _ h;have:=aP.o;omega))).trans (ax.o j u hj))
   clear hK K hH;refine dnr ?_
   try simp only[AP,AQ]
   have cl:∀k,k<w12.heap.size->k≠wb->¬RC k->w14.heap[k]? =w12.heap[k]? :=λk h1 h2 h3=>(aj.block k h2).trans (ar k h1 h3);have c3:w12.heap.size<=w13.heap.size:=au.same.size;have cZ:w14.heap.size=w13.heap.size:=aj.size;have ea:LawM ⟨λk=>if k<wb then w14.heap[k]? else none,w14⟩ es m i wb xb yb ra rc ka kd gk kc hk az (8*0) (8*0) (100*0) (2*0) w14:=GD aa an hi cn dt ad ae bh ag bO au aj bo aN du dn;have cP:Hid (BW w w14):=dB.o.trans ⟨aj.os.trans au.same.os,aj.tape.trans au.same.tape,aj.output.trans au.same.output,by omega,λk hk=>cl k (by have:=an.o;have:=aa.o;omega) (λe=>by have:=aa.o;omega) (λh=>by have:=ae.o k h;have:=aa.o;omega)⟩;have a7:Hid (wb<=w14.heap.size):=by have:=an.o;have:=aa.o;unfold Hid;omega
   have de:Hid (Xy w14 w.heap.size tp tn ts):=HT.o.below cP;clear cl c3 cZ bO au ar aG aj bo cY fY bc bf bg bb a8 cn bh ag aN ax aX bx aQ;have ba:=zc ea;clear ea;go_wp2;go_loopw [16,17,18] (λiv _ _ wr=>∃k:Nat,k<=tn/\iv=iA k/\LawM ⟨λk=>if k<wb then w14.heap[k]? else none,w14⟩ es m i wb xb yb ra rc ka kd gk kc hk az (8*k) (8*k) (100*k) (2*k) wr) (λiv _ _ _=>tn-(intOf iv).toNat)
   case atStart=>exact⟨0,zgv _,rfl,ba⟩
   obtain⟨k,hk,rfl,b2⟩:=hrel;have htb:=bw.o;clear ba;by_cases b8:k=tn
   .have dQ:¬(k:Int)<(tn:Int):=by omega
    subst b8;obtain⟨w20,c5⟩:=gen wr;subst c5;have cF:=zc b2;clear b2;have ef:=zc (Yy cF.o (by have:=bw.o;omega) (by have:=bw.o;omega));clear cF;go_wp2_with fail
    refine ef.o.mono ?_;rintro e w21 ⟨rfl,b4⟩;have bD:=zc b4;clear b4 ef;obtain⟨s,sent,K0,KT0,⟨⟨cb2,FX2,RX2,FY2,RY2,Z2,sv2,lv2,tv2,evs2,tvs2,h1⟩,h2⟩,h5⟩:=bD.o;have b0:cE w21 wb 0 (pA xb 0):=h1.g.cell 0 rfl;have b1:cE w21 wb 1 (pA yb 0):=h1.g.cell 1 rfl;obtain⟨V,hA,-⟩:=h1.x.node;have HA:=zc hA;have ei:Hid (w21.rangeAt yb 42 [iA s.zc1,iA s.round,iA s.step,iA s.lr,iA s.vr,sA s.lv,sA s.vv]):=λj u hj=>by
     obtain⟨V2,hR,-⟩:=h1.y;match j,hj with
     |0,hj=>exact hR.cell 42 hj
     |1,hj=>exact hR.cell 43 hj
     |2,hj=>exact hR.cell 44 hj
     |3,hj=>exact hR.cell 45 hj
     |4,hj=>exact hR.cell 46 hj
     |5,hj=>exact hR.cell 47 hj
     |6,hj=>exact hR.cell 48 hj
     |j+7,hj=>cases hj
    clear h1 h2 h5 hA;go_wp2_with fail
    refine rgd (S:=λX=>BW w21 X) ((zgq _ w21).drew) λhH=>?_;refine takeN [(0,some 149,pA wb 0),(1,some 150,pA wb 0),(2,some 151,pA wb 0),(3,some 152,pA xb 0),(5,some 154,pA wb 0),(6,some 155,pA wb 0),(7,some 156,pA wb 1),(8,some 157,pA yb 0),(9,some 158,pA yb 0),(10,some 159,pA yb 42),(11,some 160,.agg ([iA s.zc1,iA s.round,iA s.step,iA s.lr,iA s.vr,sA s.lv,sA s.vv]).toArray)] _ _ hH (by repeat(first|exact zgY|((first|refine tkc rfl rfl (zg3 (by rfl) 61 _ rfl yb 42 rfl ([iA s.zc1,iA s.round,iA s.step,iA s.lr,iA s.vr,sA s.lv,sA s.vv]) _ (λw h=>Ext.range ei (Ext.of h)) underlying61 rfl (by rw[Tryz.zd8];rfl)) ?_|(refine tkc rfl rfl (zgR ⟨by rfl,λx h=>?_⟩) ?_;focus(have f0:cE x wb 0 (pA xb 0):=Ext.cell b0 (Ext.of h);have f1:cE x wb 1 (pA yb 0):=Ext.cell b1 (Ext.of h);go_simp;done)));simp only[AP]))) ?_;simp only[zh,AP,pA];refine zp 4 λK hK=>?_;go_simp;refine(KN xb (ka i) cb2 V s _ (HA.o.below ((zgq _ w21).drew))).mono ?_;rintro en w22 ⟨rfl,cg⟩;unfold JO;have bu:BW w21 w22:=((zgq _ w21).drew).trans cg;refine hK.out _ _ (bu) λhH=>?_;clear hK K
    try simp only[AP,AQ]
    refine zx [12,13] hH (λx h=>Tryz.ze5 (s.zc1:Int) (s.round:Int) (s.step:Int) s.lr s.vr s.lv s.vv x) ?_;refine dnr ?_;have aZ:=zc (bD.o.below bu);clear hH cg bu bD ei HA b0 b1;obtain⟨dl,vp,vc,b36⟩:=aZ.o.zfh;have b1:=aZ.o.cells.2.1;have ev:=zc (λz=>gx aZ.o (by have:=bw.o;omega) z);go_wp2_with fail
    refine(ev _).mono ?_;rintro e w23 ⟨rfl,b3⟩;have bC:=zc b3;clear b3 ev b36 b1 aZ;obtain⟨s,sent,K0,KT0,⟨⟨cb2,FX2,RX2,FY2,RY2,Z2,sv2,lv2,tv2,evs2,tvs2,h1⟩,h2⟩,h5⟩:=bC.o;have b0:cE w23 wb 0 (pA xb 0):=h1.g.cell 0 rfl;have b1:cE w23 wb 1 (pA yb 0):=h1.g.cell 1 rfl;obtain⟨V,hA,-⟩:=h1.x.node;obtain⟨HA,dv⟩:=ze hA h2.1.1.dom;have eg:Hid (w23.rangeAt yb 1 (yd s.x)):=by
     obtain⟨V2,hR,-⟩:=h1.y;exact hR.reg
    clear h1 h2 h5 hA;go_wp2_with fail
    refine rgd (S:=λX=>BW w23 X) ((zgq _ w23).drew) λhH=>?_;refine takeN [(0,some 173,pA wb 0),(1,some 174,pA wb 0),(2,some 175,pA wb 0),(3,some 176,pA xb 0),(5,some 178,pA wb 0),(6,some 179,pA wb 0),(7,some 180,pA wb 1),(8,some 181,pA yb 0),(9,some 182,pA yb 0),(10,some 183,pA yb 1),(11,some 184,.agg (regA s.x))] _ _ hH (by repeat(first|exact zgY|((first|refine tkc rfl rfl (zg3 (by rfl) 49 _ rfl yb 1 rfl (yd s.x) _ (λw h=>Ext.range eg (Ext.of h)) underlying49 rfl (by rw[Tryz.zc3];simp[yd])) ?_|(refine tkc rfl rfl (zgR ⟨by rfl,λx h=>?_⟩) ?_;focus(have f0:cE x wb 0 (pA xb 0):=Ext.cell b0 (Ext.of h);have f1:cE x wb 1 (pA yb 0):=Ext.cell b1 (Ext.of h);go_simp;done)));simp only[AP]))) ?_;simp only[zh,AP,pA];refine zp 4 λK hK=>?_;go_simp;refine(jw (HA.o.below ((zgq _ w23).drew)) dv).mono ?_;rintro en w24 ⟨p4,r4,rfl,dL,dH,-,dY⟩;obtain⟨pp4,pc4,rfl,bZ⟩:=xj dL;obtain⟨rp4,rq4,rfl,bX⟩:=xi dH;have aW:BW w23 w24:=((zgq _ w23).drew).trans dY;refine hK.out _ _ (aW) λhH=>?_;clear hK K
    try simp only[AP,AQ]
    refine zp 12 λK hK=>?_;go_simp;refine(Qc s.x _ dv).mono ?_;rintro en w25 ⟨p5,r5,rfl,dK,bH,aB⟩;obtain⟨pp5,pc5,rfl,bY⟩:=xj dK;obtain⟨rp5,rq5,rfl,bW⟩:=xi bH;have aV:BW w23 w25:=aW.trans (aB.mono aW.size);refine hK.out _ _ (aV) λhH=>?_;clear hK K
    try simp only[AP,AQ]
    refine zp 13 λK hK=>?_;go_simp;refine(Qw s.x s.x (λi=>s.x (8+(memb s.x 26).getD i 0)) (λi=>s.x (8+(memb s.x 26).getD i 0)) pp4 pp5 rp4 rp5 8 8 (memb s.x 26).length (memb s.x 26).length pc4 rq4 pc5 rq5 (nameB (memb s.x 26)) (nameB (memb s.x 26)) w25 (by decide) (zgu (jh s.x 26) (by decide)) ((bZ.below aB).more aB.size) bY ((bX.below aB).more aB.size) bW).mono ?_;rintro en w26 ⟨⟨oe,rfl,dN⟩,dX⟩;obtain rfl:=dN rfl (λ_ _=>rfl) rfl (λ_ _=>rfl) rfl;have bt:BW w23 w26:=aV.trans (dX.mono aV.size);refine hK.out _ _ (bt) λhH=>?_;clear hK K
    try simp only[AP,AQ]
    refine zx [14] hH (λ_ h=>h) ?_;refine dnr ?_;have bB:=zc (bC.o.below bt);clear hH dY aB dX aW aV bt dL dH dK bH bZ bX bY bW dN bC HA eg b0 b1 dv;have cC:=zc (Yz bB.o (by have:=bw.o;omega));go_wp2_with fail
    refine cC.o.mono ?_;rintro e w27 ⟨rfl,cf⟩;have cD:=zc (bB.o.below cf);have bE:Hid (BW w w27):=cP.o.trans ((cD.o.low a7).mono aa.o.1);clear cf cC bB cD;go_wp2;go_ret;exact⟨rfl,bE⟩
   have dS:(k:Int)<(tn:Int):=by omega
   have bJ:k<tn:=by omega
   have c9:Below w.heap.size w14 wr:=(b2.low a7).mono aa.o.1;obtain⟨tb,tofs,rfl,htl,dF⟩:=(de.o.below c9) k bJ;obtain⟨ee,cz⟩:=ze dF (eI k bJ);obtain⟨op,dM⟩:=gen (ts k);rw[<-dM] at ee cz;have cu:=zc (zaw b2 (by have:=bw.o;exact⟨by omega,by omega,by omega,by omega⟩) op cz.o);clear b2 c9 dF dM;go_wp2_with (first|(refine zgX rfl 59 _ rfl tb (tofs+k*11) rfl op.cells.toList _ ee underlying59 rfl (by rw[Tryz.zfc];rfl) ?_)|fail)
   refine cu.o.mono ?_;rintro e w18 ⟨rfl,bp⟩;have cC:=zc (Yz bp (by have:=bw.o;omega));have cG:=zc bp;clear bp cu;go_wp2_with fail
   refine cC.o.mono ?_;rintro e w19 ⟨rfl,cj⟩;have dq:=zc (cG.o.below cj);clear cj cC cG;go_wp2;go_roundw
   case rel=>exact⟨k+1,by omega,by go_num,dq.o.up (by omega) (by omega) (by omega) (by omega)⟩
   simp[intOf];omega
  have dS:(k:Int)<(n:Int):=by omega
  have bJ:k<n:=by omega
  have cH:=zc bJ;rcases bR with⟨-,h0⟩|⟨gb,C,rfl,bK,aU,dc⟩
  .omega
  have ck:cE wr gb k (C[k]'(by omega)):=(zgs wr gb k _ _ _ aU).trans (Array.getElem?_eq_getElem (by omega));have fk:wr.frozen? (aA gb k)=false:=zq aU k;obtain⟨u,hu⟩:=gen (C[k]'(by omega));rw[<-hu] at ck;have df:Hid (zm (λb=>∃o,some ((aA gb 0):Addr)=some (aA b o)) w10 (wr.setCell (aA gb k) (iA 9))):=ay.set ⟨0,rfl⟩;have dg:Hid (JF w6.heap.size (some (aA gb 0)) n (wr.setCell (aA gb k) (iA 9))):=zgS ⟨gb,_,rfl,bK,setCell_row aU k (iA 9),by simpa using dc⟩;clear ay aU hu;go_wp2;go_roundw
  case rel=>exact⟨k+1,cH,by go_num,df,dg⟩
  case measure=>have:=cH.o;simp[intOf];omega
end
section
open Go.ChangeShapes Go.WideShapes Go.ChangeAt
theorem Gn:ownKnob prog.godebug=none:=by kernel_rfl
theorem Ql{P:Program}{x:String×DataW Unit}{r:List (String×DataW Unit)}{w:World}(h:laidMet P (x::r) w):laidMet P r w:=by
 obtain⟨ps,hv,ab,aa⟩:=h;obtain⟨g,t,cs,fuel,p,q,_,_,_,_,hq,rfl⟩:=hv;refine⟨q,hq,List.Nodup.sublist (List.sublist_append_right _ _) ab,λb off hm=>aa b off (by simp[hm])⟩
theorem Tryz.etC:prog.globalNamed "errors.errorType" =some 12:=by kernel_rfl
theorem Tryz.rtC:(prog.cutTypes.find? (·.1== "internal/reflectlite.rtype")).map (·.2)=some 211:=by kernel_rfl
theorem Tryz.zfI:((List.range 323).filter λt=>prog.rowNamed t [101,114,114,111,114])=[42]:=by kernel_rfl
theorem Tryz.zf7:prog.types.size=323:=by kernel_rfl
theorem Tryz.zfO:typeHandle prog 42=pA 16 42:=by kernel_rfl
theorem Jl{W:World}(h:laidMetH prog Rows.nodesUptoRow.laid W):(∃es,Sent es W)/\Kv W:=by
 have f1:(Rows.nodesUptoRow.laid.filter λx=>x.2.handleName?.isSome)=[("errors.errorType",Rows.laid_errors_errorType)]:=by kernel_rfl
 have f2:(Rows.nodesUptoRow.laid.filter λx=>x.2.handleName?.isNone)=("unicode/utf8.acceptRanges",Rows.laid_unicode_utf8_acceptRanges)::(jD.map (λx=>(x.1,.iface "*errors.errorString" (.ptr (.agg [.lit (.string x.2)]))))++[("unicode/utf8.first",Rows.laid_unicode_utf8_first)]):=by kernel_rfl
 unfold laidMetH at h;rw[f1,f2] at h;have h':laidMet prog (("unicode/utf8.acceptRanges",Rows.laid_unicode_utf8_acceptRanges)::(jD.map (λx=>(x.1,.iface "*errors.errorString" (.ptr (.agg [.lit (.string x.2)]))))++[("unicode/utf8.first",Rows.laid_unicode_utf8_first)])) W/\handlesMet prog [("errors.errorType",Rows.laid_errors_errorType)] W:=h;refine⟨KX [("unicode/utf8.first",Rows.laid_unicode_utf8_first)] (Ql h'.1),?_⟩;obtain⟨name,u,ty,e1,e2,e3,e4,e5⟩:=h'.2 _ (List.mem_singleton.2 rfl);have en:name=[101,114,114,111,114]:=(zg6 e1).symm;subst en;obtain rfl:=zg6 (Tryz.rtC.symm.trans e2);have hm:ty∈(List.range 323).filter λt=>prog.rowNamed t [101,114,114,111,114]:=List.mem_filter.2 ⟨List.mem_range.2 (by rw[<-Tryz.zf7];exact e3),e4⟩;rw[Tryz.zfI] at hm;obtain rfl:=List.mem_singleton.1 hm;rw[Tryz.zfO] at e5;unfold Kv;simpa using World.var?_cell Tryz.etC e5 0
theorem VL(os:Os)(args:Array Value):laidMetH prog Rows.nodesUptoRow.laid (({ World.doorLaid prog 254 os with heap:=(((World.doorLaid prog 254 os).heap.modify 12 λo=>match o with| .cells _ t frozen=>.cells #[.iface 211 (.agg #[pA 16 42])] t frozen|o=>o).modify 15 λo=>match o with| .cells _ t frozen=>.cells ([128,191,160,191,128,159,144,191,128,143,0,0,0,0,0,0,0,0,0,0,0,0,0,0,0,0,0,0,0,0,0,0].map λ(z:Nat)=>Value.int .u8 (z:Int)).toArray t frozen|o=>o).modify 14 λo=>match o with| .cells _ t frozen=>.cells (Go.Pinned.utf8FirstZ.map λ(z:Nat)=>Value.int .u8 (z:Int)).toArray t frozen|o=>o }:World).forCall (λ_ _=>0) ⟨#[],args,[]⟩).memory:=
 laidMetH_of_parts (laidMet_of_run' 8 (by kernel_rfl) (by kernel_rfl)) (by kernel_rfl)
theorem Jj(os:Os){H:Type}(enc:TypeId×Value->H):∃places,DataW.whole enc prog (({ World.doorLaid prog 254 os with heap:=(((World.doorLaid prog 254 os).heap.modify 12 λo=>match o with| .cells _ t frozen=>.cells #[.iface 211 (.agg #[pA 16 42])] t frozen|o=>o).modify 15 λo=>match o with| .cells _ t frozen=>.cells ([128,191,160,191,128,159,144,191,128,143,0,0,0,0,0,0,0,0,0,0,0,0,0,0,0,0,0,0,0,0,0,0].map λ(z:Nat)=>Value.int .u8 (z:Int)).toArray t frozen|o=>o).modify 14 λo=>match o with| .cells _ t frozen=>.cells (Go.Pinned.utf8FirstZ.map λ(z:Nat)=>Value.int .u8 (z:Int)).toArray t frozen|o=>o }:World).forCall (λ_ _=>0) ⟨#[],#[.int .i64 0,.slice none 0 0,.slice none 0 0],[]⟩).memory Tryz.f3.params.toList Rows.nodesSpec.vars false #[Value.int .i64 0,Value.slice none 0 0,Value.slice none 0 0].toList 8=some ([.lit (.int .i64 0),.nil,.nil],[],places):=
 ⟨[],by kernel_rfl⟩
theorem Qf(os:Os)(started:os.Started)(H:Type)(enc:TypeId×Value->H)(F:Stop.Interp):
 ReturnsInHanded {} Tryz.checked os 3 .any ((Rows.OpenSpec.upto Rows.nodesSpec).preRow enc prog Tryz.f3 Rows.nodesUptoRow.domain false Rows.nodesUptoRow.laid) (((Rows.OpenSpec.upto Rows.nodesSpec).at F).post enc prog Tryz.f3 false true false false):=by
 obtain⟨places,hx⟩:=Jj os enc;refine returnsInHanded_of_row (C:=Tryz.checked) (s:=Rows.OpenSpec.upto Rows.nodesSpec) Gn started (by kernel_rfl) func3
  (witness_row_atRef (enc:=enc) (C:=Tryz.checked) false ({ World.doorLaid prog 254 os with heap:=(((World.doorLaid prog 254 os).heap.modify 12 λo=>match o with| .cells _ t frozen=>.cells #[.iface 211 (.agg #[pA 16 42])] t frozen|o=>o).modify 15 λo=>match o with| .cells _ t frozen=>.cells ([128,191,160,191,128,159,144,191,128,143,0,0,0,0,0,0,0,0,0,0,0,0,0,0,0,0,0,0,0,0,0,0].map λ(z:Nat)=>Value.int .u8 (z:Int)).toArray t frozen|o=>o).modify 14 λo=>match o with| .cells _ t frozen=>.cells (Go.Pinned.utf8FirstZ.map λ(z:Nat)=>Value.int .u8 (z:Int)).toArray t frozen|o=>o }:World) #[.int .i64 0,.slice none 0 0,.slice none 0 0] rfl (by kernel_rfl) (by kernel_rfl) (by kernel_rfl)
   (OpenSpec.preRow_of_cond 8 hx (by kernel_rfl) (λk hk=>by cases hk;kernel_rfl) (by kernel_rfl) (VL os _))) ?_
 intro W base args ds gs before ab hW _ ad _ hL ai _;have aa:∀(j:Nat) t v,Tryz.f3.params[j]? =some t->args[j]? =some v->Value.okWide prog W .any base t v:=ab;have ak:=hW;obtain⟨p,q,ag,hV,rfl,hfz,hnd⟩:=hW;have hA:DataW.TrodAll enc prog W 0 (λ_=>true) true Tryz.f3.params.toList args.toList ds p:=ag;rw[Tryz.params3] at hA aa;obtain⟨v0,vs0,d0,ds0,p0,q0,ea0,rfl,rfl,h0,aq⟩:=trodAll_cons hA;obtain⟨v1,vs1,d1,ds1,p1,q1,ea1,rfl,rfl,h1,ao⟩:=trodAll_cons aq;obtain⟨v2,vs2,d2,ds2,p2,q2,ea2,rfl,rfl,h2,an⟩:=trodAll_cons ao;obtain⟨rfl,rfl,rfl⟩:=trodAll_nil an;have eargs:args=#[v0,v1,v2]:=by
  apply Array.toList_inj.1;rw[ea0,ea1,ea2]
 subst eargs;clear ea0 ea1 ea2;obtain⟨rfl,rfl⟩:=trodVars_none hV;obtain⟨⟨es,hS⟩,al⟩:=Jl hL;obtain⟨m,hm⟩:=cell_of_shapedOpen_int (P:=prog) (g:=13) (t:=3) (zero:=#[.int .i64 0]) ai (zgF (by kernel_rfl)) (by kernel_rfl) rfl (by kernel_rfl) (by kernel_rfl) underlying3;have hk:=ad _ rfl;have hbd:Rows.uptoBulk d0+Rows.uptoBulk d1+Rows.uptoBulk d2<=1048576:=by
  have h2:=zgF hk;simp only[List.cons_append,List.nil_append,Rows.uptoBulkAll] at h2;omega
 obtain⟨id,rfl,rfl,rfl,w0⟩:=open_int underlying3 (aa 0 3 v0 rfl rfl) h0;obtain⟨pa,n,cap,g,rfl,hp,hg,hn,af⟩:=Gj (aa 1 22 v1 rfl rfl) h1;obtain⟨tp,tn,tcap,ts,rfl,ah,aj,htn,ae⟩:=zaW (by omega) (aa 2 23 v2 rfl rfl) h2;clear ag ab;refine(VK id ⟨(bounds_i64 w0).1,(bounds_i64 w0).2⟩ g pa n cap ts tp tn tcap es m W (by omega) (by omega) hp hg ah aj hS al hm).mono λe W' ⟨he,hb⟩=>?_;subst he;have e1:((Rows.OpenSpec.upto Rows.nodesSpec).at F).fn H ([.lit (.int .i64 id),d1,d2]++[])={ results:=[.lit (.bool true)],args:=[.lit (.int .i64 id),d1,d2] }:=rfl;refine⟨_,rfl,_,_,_,[],[]++(p1++(p2++[])),[],ak,?_,?_,?_,hb.frame _,λh=>by cases h⟩
 .rw [e1];exact trodAll_mk1 (shut_bool underlying4 true)
 .rw [e1];exact trodAll_cons_mk (Below.trod (by kernel_rfl) (by kernel_rfl) (zgF (by kernel_rfl)) h0 hb (λx hx=>by cases hx)) (trodAll_cons_mk (Below.trod (by kernel_rfl) (by kernel_rfl) (zgF (by kernel_rfl)) h1 hb af) (trodAll_cons_mk (Below.trod (by kernel_rfl) (by kernel_rfl) (zgF (by kernel_rfl)) h2 hb ae) trodAll_mk0))
 rw[e1];rfl
theorem Jm:Rows.NodesUptoSaid:=
 OpenClaim.holds_of_cond 3 Tryz.f3 rfl rfl rfl rfl rfl rfl rfl ⟨rfl,rfl,rfl,rfl,rfl⟩ rfl rfl rfl rfl rfl (by kernel_rfl) func3 (by kernel_rfl)
  (zgF (by kernel_rfl)) (by unfold Func.isWrapper;first|(rw[zgT (by decide+kernel)];kernel_rfl)|(rw[zgU (by decide+kernel)];exact⟨rfl,rfl⟩))
  (λos started H enc _ F=>by rw[OpenClaim.pre_eq_preRow];exact Qf os started H enc F)
theorem Jk(f:FuncId)(fn:Func)(hf:Tryz.pinned.checked.prog.funcNamed "synod/synodlaw.Nodes" =some f)(hfn:Tryz.pinned.checked.prog.funcs[f]? =some fn):
 true=Tryz.pinned.checked.prog.looks []/\∀(j:Nat) t,fn.params[j]? =some t->Tryz.pinned.checked.prog.wantsStandIn t=false:=by
 obtain rfl:f=3:=zg6 ((show prog.funcNamed "synod/synodlaw.Nodes" =some 3 by kernel_rfl).symm.trans hf) |>.symm;obtain rfl:fn=Tryz.f3:=(zg6 (func3.symm.trans hfn)).symm;refine⟨by kernel_rfl,λj t ht=>?_⟩;rw[Tryz.params3] at ht;have hm:t∈[3,22,23]:=by simpa using Array.mem_of_getElem? ht
 have aa:([3,22,23].all λu=> !prog.wantsStandIn u)=true:=by kernel_rfl
 exact(show prog.wantsStandIn t=false by simpa using List.all_eq_true.1 aa t hm)
theorem nodes_card:Rows.NodesUptoCardSaid:=
 Claim7.holds_tied_plain_at .later [] _ _ _ _ Jm (λ_ h=>by cases h) (by kernel_rfl) (λ_ h=>by cases h) nodesUpto_row_tie rfl ⟨rfl,rfl⟩ (by kernel_rfl) rfl Jk (by kernel_rfl)

#print axioms nodes_card

import Derived.Test.YtcfjhbcpjpgodaaGreatDoorJ30
namespace Go.Proofs.YtcfjhbcpjpgodaaGreatDoor
open Go.RowKit Proofs.Tryz
set_option maxRecDepth 100000
set_option maxHeartbeats 0
set_option linter.all false
section
variable{B:Nat}{F R:Nat->Prop}{nb kb rb n i:Nat}{s:za}{w:World}
theorem KZ(h:RefW B F R nb kb rb n i s w)(ok:ROk s)(hsg:(s.sg i).length<=1000000000000):
 Calls prog 170 #[pA nb 0] w (Zc B F R nb kb rb n i (s.zdy i).2 w (bA (s.zdy i).1)):=by
 obtain⟨m49,m50,m51,c49,-,-,aW⟩:=h.marks;obtain⟨ad,-,-⟩:=aW ok.hgt;have c44:cE w nb 44 (iA s.step):=h.cell 44 (λ_=>rfl);obtain⟨p,c,hc,ak,hl,bw⟩:=h.log;have hmx:s.log.length<=9223372036854775807:=by unfold maxLen at ak;omega
 obtain⟨HL,HC,H0,ae,bC⟩:=kY hl hc h ok hsg;obtain⟨rs,av⟩:=gen (s.zdy i);rw[<-av];have an:=zc av;clear h ok hsg aW hl hc ak av;by_cases h1:s.step=1
 .have bf:(s.step:Int)=1:=by omega
  have aa:=zc (an.o.trans (vu (λh=>h.1 h1)));clear h1 c49 ad;go_enter func170,ntmps170;go_wp2;go_ret;exact⟨by rw[aa.o];rfl,F,R,by rw[aa.o];exact H0,Goes.refl _ _ _⟩
 have bf:¬(s.step:Int)=1:=by omega
 have h1b:((s.step:Int)==1)=false:=by simpa using bf
 cases aj:s.held with
 |true=>
  rw[aj] at ad;have aa:=zc (an.o.trans (vu (λh=>by rw[aj] at h;cases h.2)));subst ad;clear h1 aj;go_enter func170,ntmps170;go_wp2;go_ret;exact⟨by rw[aa.o];rfl,F,R,by rw[aa.o];exact H0,Goes.refl _ _ _⟩
 |false=>
  rw[aj] at ad;obtain⟨bt,bs⟩:=ze h1 aj;subst ad;clear h1 aj;obtain⟨fits,aV⟩:∃f:zt->Bool,f=λp=>s.most (votesForB 2 (s.round:Int) p.m.s)&&s.zdK p.m.s:=⟨_,rfl⟩;have aO:=zc aV;clear aV;go_enter func170,ntmps170;go_wp2;go_loopw [3,4,5,6] (λiv _ _ _ wr=>∃j:Nat,j<=s.log.length/\iv=iA j/\(∀e∈s.log.take j,ye (s.round:Int) fits e=false)/\BW w wr) (λiv _ _ _ _=>s.log.length-(intOf iv).toNat)
  case atStart=>exact⟨0,zgv _,rfl,λe he=>(by simp at he),zgq _ _⟩
  obtain⟨j,hj,rfl,aU,hb⟩:=hrel;obtain⟨aM,HB⟩:=ze aU hb;have c39:cE wr nb 39 (.slice p s.log.length c):=(hb.cell (p:=(aA nb 39)) (by exact bw)).trans HC;clear aU hb c44 c49;by_cases al:j=s.log.length
  .have hge:¬(j:Int)<s.log.length:=by omega
   have aa:Hid (rs=(false,s)):=an.o.trans (qY (by
    have h9:=aM.o;rw[al,zg7] at h9;unfold za.zed;rw[<-aO.o];exact qV h9))
   clear al;go_wp2;go_ret;exact⟨by rw[aa.o];rfl,F,R,by rw[aa.o];exact H0.o.below HB,Goes.below HB⟩
  have af:j<s.log.length:=by omega
  have az:(j:Int)<s.log.length:=by omega
  obtain⟨lb,lo,rfl,bx,aw⟩:=HL.o.below HB j af;obtain⟨aq,bj,bp⟩:=zC (yo s.log zJ j af) (zy s.log zJ j af) (λhp=>qU (fits:=fits) (r:=(s.round:Int)) af aM hp);obtain⟨ev,aX⟩:=gen (s.log.getD j zJ);rw[<-aX] at aq bj bp aw;clear aX;have aY:=ae.o.ents ev aq;have aR:=aY.z;obtain⟨⟨K,H,r,f,v,nl,u⟩,fr,own⟩:=ev;have bm:Hid (wr.rangeAt lb (lo+j*8) [iA K,iA H,iA r,iA f,iA v,bA nl,sA u]):=λk x hx=>aw k x (by
   have hk:k<7:=(List.getElem?_eq_some_iff.1 hx).1;match k,hk,hx with
   |0,_,hx|1,_,hx|2,_,hx|3,_,hx|4,_,hx|5,_,hx|6,_,hx=>exact hx)
  have au:u.size<=24:=aR;clear aw bx aY aR
  go_upto_region 7 with(first|(refine zgX rfl 57 _ rfl lb (lo+j*8) rfl [iA K,iA H,iA r,iA f,iA v,bA nl,sA u] _ bm.o underlying57 rfl Tryz.zda ?_)|(refine zf rfl 57 _ _ rfl wr #[iA K,iA H,iA r,iA f,iA v,bA nl,sA u] rfl rfl 57 _ rfl (by simp[Value.oneCell']) Tryz.zda ?_;intro w2 aT aZ bu;have ao:=zc aT;have bG:Hid (BW wr w2):=aZ;clear aT aZ bu)|fail)
  have ai:=zc (HB.o.trans (bG.o.mono HB.o.size));have a0:cN w2 wr 0 (iA K):=zgs w2 _ 0 _ _ _ ao;have a2:cN w2 wr 2 (iA r):=zgs w2 _ 2 _ _ _ ao;have a4:cN w2 wr 4 (iA v):=zgs w2 _ 4 _ _ _ ao;have a6:cN w2 wr 6 (sA u):=zgs w2 _ 6 _ _ _ ao;have r43:cE w2 nb 43 (iA s.round):=(H0.o.below ai).cell 43 (λ_=>rfl);have hne:nb≠wr.heap.size:=by have:=HB.o.size;omega
  have aL:Hid (ye (s.round:Int) fits ⟨⟨K,H,r,f,v,nl,u⟩,fr,own⟩=false->∀e∈s.log.take (j+1),ye (s.round:Int) fits e=false):=λhp e he=>by
   rw[bj.o] at he;rcases List.mem_append.1 he with he|he
   .exact aM e he
   rw[List.mem_singleton.1 he];exact hp
  clear c39 az bm HL HC;by_cases k1:K=1
  .subst k1;by_cases k2:r=(s.round:Int)
   .subst k2;obtain⟨P1,-,-,-,aS,ay⟩:=kC H0.o ae.o.dom ae.o.ents 2 (s.round:Int) 1 u (by omega) (votesForB 2 (s.round:Int) u) (QS _ _ (by omega) _);obtain⟨a1,aG⟩:=gen (s.most (votesForB 2 (s.round:Int) u));obtain⟨g1,aB⟩:=gen (s.zdK u);rw[<-aG] at ay;have aK:Hid (ye (s.round:Int) fits ⟨⟨1,H,(s.round:Int),f,v,nl,u⟩,fr,own⟩=(a1&&g1)):=by unfold Hid;rw[aO.o,aG,aB];unfold ye;simp
    obtain⟨bl,bq,bF⟩:=zC aS ay aB;clear aS ay aG aB;go_wp2_with fail
    go_quiet (fail)
    rename_i nq;obtain⟨w3,ar⟩:=gen (w2.drewN nq);have aE:BW w2 w3:=by rw[ar];exact zgZ (zgq _ w2) nq
    obtain⟨aJ,bo⟩:=ze (ai.o.trans (aE.mono ai.o.size)) (blk ao aE);have b6:cN w3 wr 6 (sA u):=zgs w3 _ 6 _ _ _ bo;have aN:=zc (jd (H0.o.below aJ.o) ae.o.dom u (by omega));rw[<-bF.o] at aN;rw[<-ar];clear ar aE a0 a2 a4 a6 r43;go_wp2_with fail
    refine aN.o.mono ?_;rintro e w4 ⟨rfl,aD⟩;have ah:=zc (aJ.o.trans (aD.mono aJ.o.size));have ax:=blk bo aD;have bD:=zc ax;have u6:∀ux:Ext w4,cN ux.W wr 6 (sA u):=λux=>Ext.cell (zgs w4 _ 6 _ _ _ ax) ux;have u43:∀ux:Ext w4,cE ux.W nb 43 (iA s.round):=λux=>Ext.cell ((H0.o.below ah).cell 43 (λ_=>rfl)) ux;clear aD ax b6 aN;haveI:=Ext.ne w4;go_wp2_with fail
    refine zB (by kernel_rfl) (by kernel_rfl) ?_;repeat(first|go_big_quiet_skip|(go_big_quiet_want;(go_big_quiet_op;first|go_big_quiet_on|(apply Exists.intro;refine⟨λu=>?_,?_⟩;(· (first|exact Calls.ext u (bl _ (ah.o.trans (u.b.mono ah.o.size)))|exact Calls.ext u (bq _ (ah.o.trans (u.b.mono ah.o.size)))));go_big_quiet_on))))
    refine wpQuiet_nil ?_;rintro _ ⟨ux,rfl⟩;obtain⟨X,hX⟩:=gen ux.W;have aC:BW w4 X:=by rw[hX];exact ux.b
    obtain⟨aH,bn⟩:=ze (ah.o.trans (aC.mono ah.o.size)) (blk bD aC);rw[<-hX];clear hX aC ux this u6 u43;cases ag:(a1&&g1) with
    |false=>
     rw[ag] at aK;have agc:=zbA ag;have aP:=zc (aL aK);clear ag;rcases agc with rfl|⟨rfl,rfl⟩;all_goals
      go_wp2;go_roundw
      case rel=>exact⟨j+1,af,by go_num,aP,aH⟩
      simp[intOf];omega
    |true=>
     have aF:=zae ag;obtain⟨rfl,rfl⟩:=aF;clear ag;have br:Hid (s.zed=some ⟨⟨1,H,(s.round:Int),f,v,nl,u⟩,fr,own⟩):=by
      unfold Hid za.zed;rw[<-aO.o];exact bp aK
     have ab:=H0.o.below aH;obtain⟨n49,-,-,e49,-,-,-⟩:=ab.marks;have e43:cE X nb 43 (iA s.round):=ab.cell 43 (λ_=>rfl);have e44:cE X nb 44 (iA s.step):=ab.cell 44 (λ_=>rfl);have e45:cE X nb 45 (iA s.lr):=ab.cell 45 (λ_=>rfl);have e46:cE X nb 46 (iA s.vr):=ab.cell 46 (λ_=>rfl);have e47:cE X nb 47 (sA s.lv):=ab.cell 47 (λ_=>rfl);have e48:cE X nb 48 (sA s.vv):=ab.cell 48 (λ_=>rfl);have e6:cN X wr 6 (sA u):=zgs X _ 6 _ _ _ bn;have f45:=ab.frozen 45;have f46:=ab.frozen 46;have f47:=ab.frozen 47;have f48:=ab.frozen 48;have f49:=ab.frozen 49;obtain⟨Y,hY,ba,bb⟩:=ab.zdk u;obtain⟨HY,bg,bh⟩:=zC hY ba ((Goes.below (F:=F) (R:=R) aH).trans bb);clear ab hY ba bb bl bq bn;by_cases h2:s.step=2
     .have bd:(s.step:Int)=2:=by omega
      obtain⟨Z,hZ,a7,a8⟩:=bg.o.zdx;have HZ:Hid (Z=(Y.setCell (aA nb 45) (iA s.round)).setCell (aA nb 47) (sA u)):=hZ;have bz:=zc (bh.o.trans a8);have bB:=zc (qj a7 3 u true (by omega) ae.o.hgt (by show s.round<=255;have:=ae.o.rnd;omega) au (by show s.log.length<=_;have:=ae.o.log;omega) (by show s.out.length<=_;exact ae.o.out) bC);have aa:Hid (rs=(true,((s.zdk u).zdx.zc8 i 3 0 false u).zdr 3)):=by
       unfold Hid;rw[an.o,qX bt.o bs.o br.o,zgT h2]
      clear h2 hZ a7 a8;go_wp2_with fail
      rw[<-HY.o,<-HZ.o];refine bB.o.mono ?_;rintro e w9 ⟨rfl,F9,R9,h9,bc⟩;obtain⟨H9,bE⟩:=ze h9 (bz.o.trans bc);clear h9 bc;go_wp2;go_ret;exact⟨by rw[aa.o];rfl,F9,R9,by rw[aa.o];exact H9,bE⟩
     have bd:¬(s.step:Int)=2:=by omega
     have h2b:((s.step:Int)==2)=false:=by simpa using bd
     have aa:Hid (rs=(true,s.zdk u)):=by
      unfold Hid;rw[an.o,qX bt.o bs.o br.o,zgU h2]
     clear h2;go_wp2;rw[<-HY.o];go_ret;exact⟨by rw[aa.o];rfl,F,R,by rw[aa.o];exact bg,bh⟩
   have k2b:(r==(s.round:Int))=false:=by simpa using k2
   have k2c:(r != (s.round:Int))=true:=by simpa using k2
   go_wp2_with fail
   go_quiet (fail)
   rename_i nq;have aQ:=zc (zgZ (zgq w2.heap.size w2) nq);go_wp2;go_roundw
   case rel=>exact⟨j+1,af,by go_num,aL (by unfold ye;rw[zgH k2];simp),ai.o.trans (aQ.o.mono ai.o.size)⟩
   simp[intOf];omega
  have k1b:(K==1)=false:=by simpa using k1
  have k1c:(K != 1)=true:=by simpa using k1
  go_wp2_with fail
  go_quiet (fail)
  rename_i nq;have aQ:=zc (zgZ (zgq w2.heap.size w2) nq);go_wp2;go_roundw
  case rel=>exact⟨j+1,af,by go_num,aL (by unfold ye;rw[zgH k1];simp),ai.o.trans (aQ.o.mono ai.o.size)⟩
  simp[intOf];omega

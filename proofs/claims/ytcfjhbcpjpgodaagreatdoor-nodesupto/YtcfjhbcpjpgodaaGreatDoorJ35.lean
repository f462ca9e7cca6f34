import Derived.Test.YtcfjhbcpjpgodaaGreatDoorJ30
namespace Go.Proofs.YtcfjhbcpjpgodaaGreatDoor
open Go.RowKit
set_option maxRecDepth 100000
set_option maxHeartbeats 0
set_option linter.all false
section
open Proofs.Tryz
theorem XN(q:Int)(t:zgW)(e:zt):sumB 0 q 0 t e=decide (e.m.r=q):=by
 unfold sumB ju;simp
theorem XY{s:za}{q T:Nat}(hp:0<sumTo s.x 8)(h:∀e∈s.log,e.m.r<=(T:Int))(hq:T<q):s.zdq q=false:=by
 unfold za.zdq Qi;have h0:∀k,powB s.x (sendB (λe=>decide (e.m.r=(q:Int))) s.log) k=0:=λk=>by
  induction k with
  |zero=>rfl
  |succ k ih=>
   have hs:sendB (λe=>decide (e.m.r=(q:Int))) s.log k=false:=by
    unfold sendB;rw[List.any_eq_false];intro e he;have:=h e he;have aa:¬e.m.r=(q:Int):=by omega
    simp[aa]
   simp only[powB,ih,hs];rfl
 rw[h0 8,zgH (p:=1*sumTo s.x 8<3*0) (by omega),Bool.and_false]
section
variable{B:Nat}{F R:Nat->Prop}{nb kb rb n i:Nat}{s:za}{w:World}
theorem RefW.items(h:RefW B F R nb kb rb n i s w):∃p c,w.cell? (aA nb 39)=some (.slice p s.log.length c)/\s.log.length<=maxLen/\j0 w w.heap.size p s.log/\w.rangeAt nb 1 (yd s.x):=by
 obtain⟨V,hR,-⟩:=h;obtain⟨p,c,-,h1,h2,h3⟩:=hR.log;exact⟨p,c,h1,h2,h3,hR.reg⟩
theorem K1(h:RefW B F R nb kb rb n i s w)(ok:ROk s)(hsg:(s.sg i).length<=1000000000000)(hv:s.vr<=(s.round:Int)):
 Calls prog 168 #[pA nb 0] w (Zc B F R nb kb rb n i (s.zde i).2 w (bA (s.zde i).1)):=by
 have c43:cE w nb 43 (iA s.round):=h.cell 43 (λ_=>rfl);have aO:nb<w.heap.size:=zgx _ _ c43;obtain⟨p,c,hc,ag,hl,af⟩:=h.items;have hmx:s.log.length<=9223372036854775807:=by unfold maxLen at ag;omega
 obtain⟨HL,H0,ad,aT,aU⟩:=kY hl h ok hsg af;have hrn:s.round<=20:=ok.rnd;obtain⟨rs,an⟩:=gen (s.zde i);rw[<-an];have aL:=zc an;clear h ok hsg hl ag an af;go_enter func168,ntmps168;go_wp2
 go_loop [3,4] (λtv iv=>∃k T:Nat,k<=s.log.length/\iv=iA k/\tv=iA (T:Int)/\T<=20/\∀e∈s.log.take k,e.m.r<=(T:Int)) (λ_ iv=>s.log.length-(intOf iv).toNat)
 case atStart=>exact⟨0,0,zgv _,rfl,rfl,by omega,λe he=>(by simp at he)⟩
 obtain⟨k,T,hk,rfl,rfl,hT,ah⟩:=hrel;have ae:=zc ah;clear ah;by_cases aj:k=s.log.length
 .have hge:¬(k:Int)<s.log.length:=by omega
  have aW:Hid (∀e∈s.log,e.m.r<=(T:Int)):=by have h9:=ae.o;rw[aj,zg7] at h9;exact h9
  clear aj ae HL;go_wp2;go_loopw [5] (λqv wr=>∃q:Nat,s.round<q/\q<=21/\qv=iA q/\(∀r,s.round<r->r<q->s.zdq r=false)/\BW w wr) (λqv _=>21-(intOf qv).toNat)
  case atStart=>exact⟨s.round+1,by omega,by omega,by go_num,λr h1 h2=>by omega,zgq _ _⟩
  obtain⟨q,aN,hq2,rfl,aC,hb⟩:=hrel;obtain⟨ax,HB⟩:=ze aC hb;clear aC hb;by_cases hqT:q<=T
  .have aq:(q:Int)<=T:=by omega
   obtain⟨P1,hp0,hp1,aB,az,-⟩:=kC H0.o ad.o.dom ad.o.ents 0 (q:Int) 0 ⟨#[]⟩ (by omega) (λe=>decide (e.m.r=(q:Int))) (XN _ _);obtain⟨aJ,av⟩:=ze az (λW=>xq s.x W (λi _=>ad.o.dom i));have aM:=yH s.x 8 (λi _=>ad.o.dom i);have aw:Hid (s.zdq q=decide (sumTo s.x 8<3*P1)):=by
    unfold Hid za.zdq Qi;rw[zgG aN,aB,Int.one_mul,Bool.true_and]
   have aK:=zc (Ext.range (λj v hv=>(HB.o.cell (p:=(aA nb (1+j))) (by exact aO)).trans (aU j v hv)):∀u:Ext wr,u.W.rangeAt nb 1 (yd s.x));obtain⟨T0,aF⟩:=gen (sumTo s.x 8);rw[<-aF] at av aM aw;clear az aB aF;haveI:=Ext.ne wr;go_wp2_with fail
   refine zB (by kernel_rfl) (by kernel_rfl) ?_;repeat(first|go_big_quiet_skip|(go_big_quiet_want;first|(refine zP (some 44) rfl 49 _ rfl nb 1 rfl (yd s.x) _ aK underlying49 rfl (by rw[Tryz.zc3];simp[yd]) ?_;simp only[AP];go_big_quiet_on)|(go_big_quiet_op;first|go_big_quiet_on|(apply Exists.intro;refine⟨λu=>?_,?_⟩;(· (first|exact Calls.ext u (aJ _ (HB.o.trans (u.b.mono HB.o.size)))|exact Calls.ext u (av _)));go_big_quiet_on))))
   refine wpQuiet_nil ?_;rintro _ ⟨ux,rfl⟩;obtain⟨X,hX⟩:=gen ux.W;have aE:BW wr X:=by rw[hX];exact ux.b
   have ay:=zc (HB.o.trans (aE.mono HB.o.size));rw[<-hX];clear hX aE ux this aJ av aK;by_cases au:T0<3*P1
   .have ab:Hid (rs=(true,s.zc9 i q)):=aL.o.trans (gD ax.o (by omega) (by rw[aw.o,zgG au]));have aY:=zc (jH (H0.o.below ay.o) ad.o aT.o q (by omega) (by omega));go_wp2_with fail
    refine aY.o.mono ?_;rintro e w9 ⟨rfl,F9,R9,h9,aG⟩;obtain⟨H9,aX⟩:=ze h9 ((Goes.below (F:=F) (R:=R) ay).trans aG);clear h9 aG;go_wp2;go_ret;exact⟨by rw[ab.o];rfl,F9,R9,by rw[ab.o];exact H9,aX⟩
   have aV:Hid (∀r,s.round<r->r<q+1->s.zdq r=false):=λr h1 h2=>by
    by_cases e:r=q
    .rw [e,aw.o,zgH au]
    exact ax.o r h1 (by omega)
   have hc2:¬T0<3*P1:=au;go_wp2;go_roundw
   case rel=>exact⟨q+1,by omega,by omega,by go_num,aV.o,ay.o⟩
   simp[intOf];omega
  have aq:¬(q:Int)<=T:=by omega
  have ab:Hid (rs=(false,s)):=aL.o.trans (jO (λr h1 h2=>by
   rcases Nat.lt_or_ge r q with h3|h3
   .exact ax r h1 h3
   exact XY ad.o.pos aW.o (by omega)))
  go_wp2;go_ret;exact⟨by rw[ab.o];rfl,F,R,by rw[ab.o];exact H0.o.below HB,Goes.below HB⟩
 have ai:k<s.log.length:=by omega
 have aQ:(k:Int)<s.log.length:=by omega
 obtain⟨lb,lo,rfl,aR,af⟩:=HL.o k ai;obtain⟨ak,aH⟩:=ze (yo s.log zJ k ai) (zy s.log zJ k ai);obtain⟨ev,aD⟩:=gen (s.log.getD k zJ);rw[<-aD] at ak aH af;clear aD;have ar:=ad.o.ents ev ak;obtain⟨r,hr⟩:∃r:Nat,(r:Int)=ev.m.r:=⟨ev.m.r.toNat,by have:=ar.r0;omega⟩;have ao:r<=20:=by have:=ar.r20;omega
 have cr:w.cell? (aA lb (lo+k*8+2))=some (iA r):=by rw[hr];exact af 2 _ rfl
 have HR:=zc hr;clear ar hr af aR;have al:Hid (∀T':Nat,T<=T'->r<=T'->∀e∈s.log.take (k+1),e.m.r<=(T':Int)):=λT' h1 h2 e he=>by
  rw[aH.o] at he;rcases List.mem_append.1 he with he|he
  .have:=ae.o e he;omega
  rw[List.mem_singleton.1 he,<-HR.o];omega
 by_cases aS:T<=r
 .have aa:max (T:Int) (r:Int)=(r:Int):=by omega
  have aP:(T:Int)<=(r:Int):=by omega
  go_wp2
  go_round
  case rel=>exact⟨k+1,r,ai,by go_num,by first|rfl|simp[aa]|(simp;omega),ao,al.o r aS (zgp _)⟩
  simp[intOf];omega
 have aa:max (T:Int) (r:Int)=(T:Int):=by omega
 have aP:¬(T:Int)<=(r:Int):=by omega
 have hmj:(r:Int)<=(T:Int):=by omega
 go_wp2
 go_round
 case rel=>exact⟨k+1,T,ai,by go_num,by first|rfl|simp[aa]|(simp;omega),hT,al.o T (zgp _) (by omega)⟩
 simp[intOf];omega
end
section
variable{B:Nat}{F R:Nat->Prop}{nb kb rb n i:Nat}{s:za}{w:World}
theorem VG(h:RefW B F R nb kb rb n i s w)(ok:ROk s)(hsg:(s.sg i).length<=1000000000000)(hlr: -1<=s.lr)(hpv:∀e∈s.log,e.m.k=1->-1<=e.m.v):
 Calls prog 169 #[pA nb 0,bA false] w (Zc B F R nb kb rb n i (s.zc6 i Kf).2 w (bA (s.zc6 i Kf).1)):=by
 have c44:cE w nb 44 (iA s.step):=h.cell 44 (λ_=>rfl);obtain⟨p,c,hc,aq,hl,bc⟩:=h.log;have hmx:s.log.length<=9223372036854775807:=by unfold maxLen at aq;omega
 obtain⟨HL,HC,H0,ao,bf,aN⟩:=xz hl hc h ok hsg hpv;obtain⟨rs,aC⟩:=gen (s.zc6 i Kf);rw[<-aC];have aK:=zc aC;clear h ok hsg hl hc aq aC hpv;by_cases h1:s.step=1
 .have aJ:(s.step:Int)=1:=by omega
  have aQ:=zc h1;clear h1;go_enter func169,ntmps169;go_wp2;go_loopw [5,6,7,8,9] (λiv _ _ _ _ wr=>∃j:Nat,j<=s.log.length/\iv=iA j/\(∀e∈s.log.take j,ye (s.round:Int) Kf e=false)/\BW w wr) (λiv _ _ _ _ _=>s.log.length-(intOf iv).toNat)
  case atStart=>exact⟨0,zgv _,rfl,λe he=>(by simp at he),zgq _ _⟩
  obtain⟨j,hj,rfl,aV,hb⟩:=hrel;obtain⟨aP,HB⟩:=ze aV hb;have c39:cE wr nb 39 (.slice p s.log.length c):=(hb.cell (p:=(aA nb 39)) (by exact bc)).trans HC;clear aV hb c44;by_cases ar:j=s.log.length
  .have hge:¬(j:Int)<s.log.length:=by omega
   have aa:Hid (rs=(false,s)):=aK.o.trans (y7 aQ (by
    have h9:=aP.o;rw[ar,zg7] at h9;exact qV h9))
   clear ar;go_wp2;go_ret;exact⟨by rw[aa.o];rfl,F,R,by rw[aa.o];exact H0.o.below HB,Goes.below HB⟩
  have aj:j<s.log.length:=by omega
  have aE:(j:Int)<s.log.length:=by omega
  obtain⟨lb,lo,rfl,bd,aD⟩:=HL.o.below HB j aj;obtain⟨ak,a1,aM⟩:=zC (yo s.log zJ j aj) (zy s.log zJ j aj) (λhp=>qU (fits:=Kf) (r:=(s.round:Int)) aj aP hp);obtain⟨ev,aW⟩:=gen (s.log.getD j zJ);rw[<-aW] at ak a1 aM aD;clear aW;have aX:=ao.o.ents ev ak;have aT:=aX.z;obtain⟨⟨K,H,r,f,v,nl,u⟩,fr,own⟩:=ev;have a7:Hid (wr.rangeAt lb (lo+j*8) [iA K,iA H,iA r,iA f,iA v,bA nl,sA u]):=λk x hx=>aD k x (by
   have hk:k<7:=(List.getElem?_eq_some_iff.1 hx).1;match k,hk,hx with
   |0,_,hx|1,_,hx|2,_,hx|3,_,hx|4,_,hx|5,_,hx|6,_,hx=>exact hx)
  have aB:u.size<=24:=aT;clear aD bd aX aT
  go_upto_region 7 with(first|(refine zgX rfl 57 _ rfl lb (lo+j*8) rfl [iA K,iA H,iA r,iA f,iA v,bA nl,sA u] _ a7.o underlying57 rfl Tryz.zda ?_)|(refine zf rfl 57 _ _ rfl wr #[iA K,iA H,iA r,iA f,iA v,bA nl,sA u] rfl rfl 57 _ rfl (by simp[Value.oneCell']) Tryz.zda ?_;intro w2 aU aY bb;have av:=zc aU;have bj:Hid (BW wr w2):=aY;clear aU aY bb)|fail)
  have ag:=zc (HB.o.trans (bj.o.mono HB.o.size));have a0:cN w2 wr 0 (iA K):=zgs w2 _ 0 _ _ _ av;have a2:cN w2 wr 2 (iA r):=zgs w2 _ 2 _ _ _ av;have a4:cN w2 wr 4 (iA v):=zgs w2 _ 4 _ _ _ av;have a6:cN w2 wr 6 (sA u):=zgs w2 _ 6 _ _ _ av;have r43:cE w2 nb 43 (iA s.round):=(H0.o.below ag).cell 43 (λ_=>rfl);have aO:Hid (ye (s.round:Int) Kf ⟨⟨K,H,r,f,v,nl,u⟩,fr,own⟩=false->∀e∈s.log.take (j+1),ye (s.round:Int) Kf e=false):=λhp e he=>by
   rw[a1.o] at he;rcases List.mem_append.1 he with he|he
   .exact aP e he
   rw[List.mem_singleton.1 he];exact hp
  have bg:=zc (aN _ ak);clear c39 aE a7 HL HC;by_cases k1:K=1
  .subst k1;by_cases k2:r=(s.round:Int)
   .subst k2;by_cases k3:¬(0:Int)<=v
    .have hpv: -1<=v:=bg.o rfl;have ad:Hid (s.zeq ⟨⟨1,H,(s.round:Int),f,v,nl,u⟩,fr,own⟩=(s.zdK u&&(decide (s.lr<=v)||decide (s.lv=u)))):=rfl;obtain⟨g1,aF⟩:=gen (s.zdK u);rw[<-aF] at ad;have bh:=zc aF;clear aF;go_wp2_with fail
     go_quiet (fail)
     rename_i nq;obtain⟨w3,az⟩:=gen (w2.drewN nq);have aH:BW w2 w3:=by rw[az];exact zgZ (zgq _ w2) nq
     obtain⟨aZ,ay⟩:=ze (ag.o.trans (aH.mono ag.o.size)) (blk av aH);have b6:cN w3 wr 6 (sA u):=zgs w3 _ 6 _ _ _ ay;have b4:cN w3 wr 4 (iA v):=zgs w3 _ 4 _ _ _ ay;rw[<-az];clear az aH a0 a2 a4 a6 r43;have ba:Hid (ye (s.round:Int) Kf ⟨⟨1,H,(s.round:Int),f,v,nl,u⟩,fr,own⟩=true):=by unfold Hid ye Kf;simp;omega
     obtain⟨w4,aS⟩:=gen w3;obtain⟨au,aL⟩:=ze aZ ay;rw[<-aS] at au aL b6 b4 ⊢;clear aS aZ ay;have aR:=zc (jd (H0.o.below au.o) ao.o.dom u (by omega));rw[<-bh.o] at aR;go_wp2_with fail
     refine aR.o.mono ?_;rintro e X ⟨rfl,aG⟩;obtain⟨aw,a8⟩:=ze (au.o.trans (aG.mono au.o.size)) (blk aL aG);have x6:cN X wr 6 (sA u):=zgs X _ 6 _ _ _ a8;have x4:cN X wr 4 (iA v):=zgs X _ 4 _ _ _ a8;have x45:cE X nb 45 (iA s.lr):=(H0.o.below aw).cell 45 (λ_=>rfl);have x47:cE X nb 47 (sA s.lv):=(H0.o.below aw).cell 47 (λ_=>rfl);clear aG aR aL au;have al:Hid (∀(b:Bool) (W:World),BW w W->Calls prog 176 #[pA nb 0,iA ((2:Nat):Int),sA u,bA b] W (Zc B F R nb kb rb n i (s.zdj i 2 u b) W (.tuple #[]))):=λb W hW=>qj (H0.o.below hW) 2 u b (by omega) ao.o.hgt (by have:=ao.o.rnd;omega) aB (by have:=ao.o.log;omega) ao.o.out bf.o;have an:Hid (∀b,s.zeq ⟨⟨1,H,(s.round:Int),f,v,nl,u⟩,fr,own⟩=b->rs=(true,s.zdj i 2 u b)):=λb hb=>by
      rw[aK.o];cases b with
      |true=>exact vZ aQ (aM ba) hb
      |false=>exact x8 aQ (aM ba) hb
     by_cases l1:s.lr<0
     .have l1b:s.lr<=v:=by omega
      have ah:Hid (g1=true->rs=(true,s.zdj i 2 u true)):=λhg=>an true (by rw[ad.o,hg];rw[zgG l1b];rfl);have ai:Hid (g1=false->rs=(true,s.zdj i 2 u false)):=λhg=>an false (by rw[ad.o,hg];rfl);have ae:Hid (BW w X.drew):=aw.o.drew;have x6d:cN X.drew wr 6 (sA u):=x6;go_wp2_with fail
      refine rgd (S:=λZ=>cE Z nb 45 (iA s.lr)/\cE Z nb 47 (sA s.lv)/\cN Z wr 4 (iA v)/\cN Z wr 6 (sA u)) ⟨x45,x47,x4,x6⟩ λhH=>?_;refine zZ [(0,some 71,pA nb 0),(1,some 72,pA nb 0),(2,some 73,pA nb 42),(3,some 74,pA nb 45),(4,some 75,iA s.lr),(5,some 76,bA true),(6,some 77,bA true),(7,some 78,undef),(8,some 79,undef),(9,some 80,undef),(10,some 81,undef),(11,some 82,undef),(12,some 83,undef),(13,some 84,undef),(14,some 85,undef),(15,some 86,bA true),(16,some 87,bA true),(17,some 88,undef),(18,some 89,undef),(19,some 90,undef),(20,some 91,undef),(21,some 92,undef),(22,some 93,undef),(23,some 94,undef),(24,some 95,undef),(25,some 96,undef),(26,some 97,undef),(27,some 98,undef),(28,some 99,bA true),(29,some 9,bA true)] _ _ hH (λx h=>h.1) ?_;simp only[zh,AP,pA];refine dnr ?_;clear hH x45 x47 x4 x6
      try simp only[Act.put,List.setIfInBounds_toArray]
      cases g1 with
      |false=>
       have aa:Hid (rs=(true,s.zdj i 2 u false)):=by first|exact ai rfl|exact ai
       go_wp2_with fail
       refine(al false _ ae).mono ?_;rintro e w9 ⟨rfl,F9,R9,h9,ab⟩;obtain⟨H9,af⟩:=ze h9 ((Goes.below (F:=F) (R:=R) ae).trans ab);clear h9 ab;go_wp2;go_ret;exact⟨by rw[aa.o];rfl,F9,R9,by rw[aa.o];exact H9,af⟩
      |true=>
       have aa:Hid (rs=(true,s.zdj i 2 u true)):=by first|exact ah rfl|exact ah
       go_wp2_with fail
       refine(al true _ ae).mono ?_;rintro e w9 ⟨rfl,F9,R9,h9,ab⟩;obtain⟨H9,af⟩:=ze h9 ((Goes.below (F:=F) (R:=R) ae).trans ab);clear h9 ab;go_wp2;go_ret;exact⟨by rw[aa.o];rfl,F9,R9,by rw[aa.o];exact H9,af⟩
     by_cases l2:s.lv=u
     .subst l2;have ah:Hid (g1=true->rs=(true,s.zdj i 2 s.lv true)):=λhg=>an true (by rw[ad.o,hg];simp);have ai:Hid (g1=false->rs=(true,s.zdj i 2 s.lv false)):=λhg=>an false (by rw[ad.o,hg];rfl);have ae:Hid (BW w X.drew):=aw.o.drew;have x6d:cN X.drew wr 6 (sA s.lv):=x6;go_wp2_with fail
      refine rgd (S:=λZ=>cE Z nb 45 (iA s.lr)/\cE Z nb 47 (sA s.lv)/\cN Z wr 4 (iA v)/\cN Z wr 6 (sA s.lv)) ⟨x45,x47,x4,x6⟩ λhH=>?_;refine zZ [(0,some 71,pA nb 0),(1,some 72,pA nb 0),(2,some 73,pA nb 42),(3,some 74,pA nb 45),(4,some 75,iA s.lr),(5,some 76,bA false),(6,some 77,bA false),(7,some 78,pA nb 0),(8,some 79,pA nb 0),(9,some 80,pA nb 42),(10,some 81,pA nb 47),(11,some 82,sA s.lv),(12,some 83,pA wr.heap.size 6),(13,some 84,sA s.lv),(14,some 85,bA true),(15,some 86,bA true),(16,some 87,bA true),(17,some 88,undef),(18,some 89,undef),(19,some 90,undef),(20,some 91,undef),(21,some 92,undef),(22,some 93,undef),(23,some 94,undef),(24,some 95,undef),(25,some 96,undef),(26,some 97,undef),(27,some 98,undef),(28,some 99,bA true),(29,some 9,bA true)] _ _ hH (λx h=>aI h.1 (aI h.2.1 (h.2.2.2))) ?_;simp only[zh,AP,pA];refine dnr ?_;clear hH x45 x47 x4 x6
      try simp only[Act.put,List.setIfInBounds_toArray]
      cases g1 with
      |false=>
       have aa:Hid (rs=(true,s.zdj i 2 s.lv false)):=by first|exact ai rfl|exact ai
       go_wp2_with fail
       refine(al false _ ae).mono ?_;rintro e w9 ⟨rfl,F9,R9,h9,ab⟩;obtain⟨H9,af⟩:=ze h9 ((Goes.below (F:=F) (R:=R) ae).trans ab);clear h9 ab;go_wp2;go_ret;exact⟨by rw[aa.o];rfl,F9,R9,by rw[aa.o];exact H9,af⟩
      |true=>
       have aa:Hid (rs=(true,s.zdj i 2 s.lv true)):=by first|exact ah rfl|exact ah
       go_wp2_with fail
       refine(al true _ ae).mono ?_;rintro e w9 ⟨rfl,F9,R9,h9,ab⟩;obtain⟨H9,af⟩:=ze h9 ((Goes.below (F:=F) (R:=R) ae).trans ab);clear h9 ab;go_wp2;go_ret;exact⟨by rw[aa.o];rfl,F9,R9,by rw[aa.o];exact H9,af⟩
     have l2b:=kP l2;have l2c:¬s.lv.toList=u.toList:=by simpa using l2b
     have l3:¬s.lr<=v:=by omega
     have ah:Hid (g1=true->rs=(true,s.zdj i 2 u false)):=λhg=>an false (by rw[ad.o,hg];rw[zgH l3,zgH l2];rfl);have ai:Hid (g1=false->rs=(true,s.zdj i 2 u false)):=λhg=>an false (by rw[ad.o,hg];rfl);have ae:Hid (BW w X.drew):=aw.o.drew;have x6d:cN X.drew wr 6 (sA u):=x6;go_wp2_with fail
     refine rgd (S:=λZ=>cE Z nb 45 (iA s.lr)/\cE Z nb 47 (sA s.lv)/\cN Z wr 4 (iA v)/\cN Z wr 6 (sA u)) ⟨x45,x47,x4,x6⟩ λhH=>?_;refine zZ [(0,some 71,pA nb 0),(1,some 72,pA nb 0),(2,some 73,pA nb 42),(3,some 74,pA nb 45),(4,some 75,iA s.lr),(5,some 76,bA false),(6,some 77,bA false),(7,some 78,pA nb 0),(8,some 79,pA nb 0),(9,some 80,pA nb 42),(10,some 81,pA nb 47),(11,some 82,sA s.lv),(12,some 83,pA wr.heap.size 6),(13,some 84,sA u),(14,some 85,bA false),(15,some 86,bA false),(16,some 87,bA false),(17,some 88,bA false),(18,some 89,bA false),(19,some 90,undef),(20,some 91,undef),(21,some 92,undef),(22,some 93,undef),(23,some 94,undef),(24,some 95,undef),(25,some 96,undef),(26,some 97,undef),(27,some 98,bA false),(28,some 99,bA false),(29,some 9,bA false)] _ _ hH (λx h=>aI h.1 (aI h.2.1 (h.2.2.2))) ?_;simp only[zh,AP,pA];refine dnr ?_;clear hH x45 x47 x4 x6
     try simp only[Act.put,List.setIfInBounds_toArray]
     cases g1 with
     |false=>
      have aa:Hid (rs=(true,s.zdj i 2 u false)):=by first|exact ai rfl|exact ai
      go_wp2_with fail
      refine(al false _ ae).mono ?_;rintro e w9 ⟨rfl,F9,R9,h9,ab⟩;obtain⟨H9,af⟩:=ze h9 ((Goes.below (F:=F) (R:=R) ae).trans ab);clear h9 ab;go_wp2;go_ret;exact⟨by rw[aa.o];rfl,F9,R9,by rw[aa.o];exact H9,af⟩
     |true=>
      have aa:Hid (rs=(true,s.zdj i 2 u false)):=by first|exact ah rfl|exact ah
      go_wp2_with fail
      refine(al false _ ae).mono ?_;rintro e w9 ⟨rfl,F9,R9,h9,ab⟩;obtain⟨H9,af⟩:=ze h9 ((Goes.below (F:=F) (R:=R) ae).trans ab);clear h9 ab;go_wp2;go_ret;exact⟨by rw[aa.o];rfl,F9,R9,by rw[aa.o];exact H9,af⟩
    have k3n:(0:Int)<=v:=by omega
    go_wp2_with fail
    go_quiet (fail)
    rename_i nq;have ax:=zc (zgZ (zgq w2.heap.size w2) nq);go_wp2;go_roundw
    case rel=>exact⟨j+1,aj,by go_num,aO (by unfold ye Kf;rw[zgH (show¬v<0 by omega)];simp),ag.o.trans (ax.o.mono ag.o.size)⟩
    simp[intOf];omega
   have k2b:(r==(s.round:Int))=false:=by simpa using k2
   have k2c:(r != (s.round:Int))=true:=by simpa using k2
   go_wp2_with fail
   go_quiet (fail)
   rename_i nq;have ax:=zc (zgZ (zgq w2.heap.size w2) nq);go_wp2;go_roundw
   case rel=>exact⟨j+1,aj,by go_num,aO (by unfold ye;rw[zgH k2];simp),ag.o.trans (ax.o.mono ag.o.size)⟩
   simp[intOf];omega
  have k1b:(K==1)=false:=by simpa using k1
  have k1c:(K != 1)=true:=by simpa using k1
  go_wp2_with fail
  go_quiet (fail)
  rename_i nq;have ax:=zc (zgZ (zgq w2.heap.size w2) nq);go_wp2;go_roundw
  case rel=>exact⟨j+1,aj,by go_num,aO (by unfold ye;rw[zgH k1];simp),ag.o.trans (ax.o.mono ag.o.size)⟩
  simp[intOf];omega

 have aJ:¬(s.step:Int)=1:=by omega
 have h1b:((s.step:Int)==1)=false:=by simpa using aJ
 have h1c:((s.step:Int) != 1)=true:=by simpa using aJ
 have aa:=zc (aK.o.trans (yZ h1));clear h1;go_enter func169,ntmps169;go_wp2;go_ret;exact⟨by rw[aa.o];rfl,F,R,by rw[aa.o];exact H0,Goes.refl _ _ _⟩
end
section
variable{B:Nat}{F R:Nat->Prop}{nb kb rb n i:Nat}{s:za}{w:World}
theorem VF(h:RefW B F R nb kb rb n i s w)(ok:ROk s)(hsg:(s.sg i).length<=1000000000000)(hlr: -1<=s.lr)(hpv:∀e∈s.log,e.m.k=1->-1<=e.m.v):
 Calls prog 169 #[pA nb 0,bA true] w (Zc B F R nb kb rb n i (s.zc6 i s.zdY).2 w (bA (s.zc6 i s.zdY).1)):=by
 have c44:cE w nb 44 (iA s.step):=h.cell 44 (λ_=>rfl);obtain⟨p,c,hc,ar,hl,bq⟩:=h.log;have hmx:s.log.length<=9223372036854775807:=by unfold maxLen at ar;omega
 obtain⟨HL,HC,H0,an,bs,aV⟩:=xz hl hc h ok hsg hpv;obtain⟨rs,aG⟩:=gen (s.zc6 i s.zdY);rw[<-aG];have aS:=zc aG;clear h ok hsg hl hc ar aG hpv;by_cases h1:s.step=1
 .have aR:(s.step:Int)=1:=by omega
  have aX:=zc h1;clear h1;go_enter func169,ntmps169;go_wp2;go_loopw [5,6,7,8,9] (λiv _ _ _ _ wr=>∃j:Nat,j<=s.log.length/\iv=iA j/\(∀e∈s.log.take j,ye (s.round:Int) s.zdY e=false)/\BW w wr) (λiv _ _ _ _ _=>s.log.length-(intOf iv).toNat)
  case atStart=>exact⟨0,zgv _,rfl,λe he=>(by simp at he),zgq _ _⟩
  obtain⟨j,hj,rfl,bb,hb⟩:=hrel;obtain⟨aW,HB⟩:=ze bb hb;have c39:cE wr nb 39 (.slice p s.log.length c):=(hb.cell (p:=(aA nb 39)) (by exact bq)).trans HC;clear bb hb c44;by_cases au:j=s.log.length
  .have hge:¬(j:Int)<s.log.length:=by omega
   have aa:Hid (rs=(false,s)):=aS.o.trans (y7 aX (by
    have h9:=aW.o;rw[au,zg7] at h9;exact qV h9))
   clear au;go_wp2;go_ret;exact⟨by rw[aa.o];rfl,F,R,by rw[aa.o];exact H0.o.below HB,Goes.below HB⟩
  have aj:j<s.log.length:=by omega
  have aK:(j:Int)<s.log.length:=by omega
  obtain⟨lb,lo,rfl,br,aH⟩:=HL.o.below HB j aj;obtain⟨ao,bg,aU⟩:=zC (yo s.log zJ j aj) (zy s.log zJ j aj) (λhp=>qU (fits:=s.zdY) (r:=(s.round:Int)) aj aW hp);obtain⟨ev,bc⟩:=gen (s.log.getD j zJ);rw[<-bc] at ao bg aU aH;clear bc;have bd:=an.o.ents ev ao;have a7:=bd.z;obtain⟨⟨K,H,r,f,v,nl,u⟩,fr,own⟩:=ev;have bj:Hid (wr.rangeAt lb (lo+j*8) [iA K,iA H,iA r,iA f,iA v,bA nl,sA u]):=λk x hx=>aH k x (by
   have hk:k<7:=(List.getElem?_eq_some_iff.1 hx).1;match k,hk,hx with
   |0,_,hx|1,_,hx|2,_,hx|3,_,hx|4,_,hx|5,_,hx|6,_,hx=>exact hx)
  have aF:u.size<=24:=a7;clear aH br bd a7
  go_upto_region 7 with(first|(refine zgX rfl 57 _ rfl lb (lo+j*8) rfl [iA K,iA H,iA r,iA f,iA v,bA nl,sA u] _ bj.o underlying57 rfl Tryz.zda ?_)|(refine zf rfl 57 _ _ rfl wr #[iA K,iA H,iA r,iA f,iA v,bA nl,sA u] rfl rfl 57 _ rfl (by simp[Value.oneCell']) Tryz.zda ?_;intro w2 ba bf bp;have aw:=zc ba;have bw:Hid (BW wr w2):=bf;clear ba bf bp)|fail)
  have ai:=zc (HB.o.trans (bw.o.mono HB.o.size));have a0:cN w2 wr 0 (iA K):=zgs w2 _ 0 _ _ _ aw;have a2:cN w2 wr 2 (iA r):=zgs w2 _ 2 _ _ _ aw;have a4:cN w2 wr 4 (iA v):=zgs w2 _ 4 _ _ _ aw;have a6:cN w2 wr 6 (sA u):=zgs w2 _ 6 _ _ _ aw;have r43:cE w2 nb 43 (iA s.round):=(H0.o.below ai).cell 43 (λ_=>rfl);have aD:Hid (ye (s.round:Int) s.zdY ⟨⟨K,H,r,f,v,nl,u⟩,fr,own⟩=false->∀e∈s.log.take (j+1),ye (s.round:Int) s.zdY e=false):=λhp e he=>by
   rw[bg.o] at he;rcases List.mem_append.1 he with he|he
   .exact aW e he
   rw[List.mem_singleton.1 he];exact hp
  have bt:=zc (aV _ ao);clear c39 aK bj HL HC;by_cases k1:K=1
  .subst k1;by_cases k2:r=(s.round:Int)
   .subst k2;by_cases k3:(0:Int)<=v
    .have hpv: -1<=v:=bt.o rfl;have ad:Hid (s.zeq ⟨⟨1,H,(s.round:Int),f,v,nl,u⟩,fr,own⟩=(s.zdK u&&(decide (s.lr<=v)||decide (s.lv=u)))):=rfl;obtain⟨g1,aL⟩:=gen (s.zdK u);rw[<-aL] at ad;have bu:=zc aL;clear aL;go_wp2_with fail
     go_quiet (fail)
     rename_i nq;obtain⟨w3,aE⟩:=gen (w2.drewN nq);have aP:BW w2 w3:=by rw[aE];exact zgZ (zgq _ w2) nq
     obtain⟨aB,aC⟩:=ze (ai.o.trans (aP.mono ai.o.size)) (blk aw aP);have b6:cN w3 wr 6 (sA u):=zgs w3 _ 6 _ _ _ aC;have b4:cN w3 wr 4 (iA v):=zgs w3 _ 4 _ _ _ aC;rw[<-aE];clear aE aP a0 a2 a4 a6 r43;obtain⟨P1,-,-,-,a8,aJ⟩:=kC H0.o an.o.dom an.o.ents 2 v 1 u (by omega) (votesForB 2 v u) (QS _ _ (by omega) _);obtain⟨a1,aQ⟩:=gen (s.most (votesForB 2 v u));rw[<-aQ] at aJ;have ax:Hid (ye (s.round:Int) s.zdY ⟨⟨1,H,(s.round:Int),f,v,nl,u⟩,fr,own⟩=a1):=by unfold Hid ye za.zdY;rw[aQ];simp[k3]
     obtain⟨bh,bo⟩:=ze a8 aJ;clear a8 aJ aQ;go_wp2_with fail
     refine(bh _ aB).mono ?_;rintro e w5 ⟨rfl,aN⟩;obtain⟨az,bm⟩:=ze (aB.o.trans (aN.mono aB.o.size)) (blk aC aN);clear aN b6 b4;go_wp2_with fail
     refine(bo _ az).mono ?_;rintro e w4 ⟨rfl,aO⟩;obtain⟨av,aT⟩:=ze (az.o.trans (aO.mono az.o.size)) (blk bm aO);have b6:cN w4 wr 6 (sA u):=zgs w4 _ 6 _ _ _ aT;clear aO bh bo az bm aB aC;cases a1 with
     |false=>
      have aZ:=zc (aD ax);go_wp2;go_roundw
      case rel=>exact⟨j+1,aj,by go_num,aZ,av⟩
      simp[intOf];omega
     |true=>
      have bn:=zc ax;have aY:=zc (jd (H0.o.below av.o) an.o.dom u (by omega));rw[<-bu.o] at aY;go_wp2_with fail
      refine aY.o.mono ?_;rintro e X ⟨rfl,aM⟩;obtain⟨aq,bl⟩:=ze (av.o.trans (aM.mono av.o.size)) (blk aT aM);have x6:cN X wr 6 (sA u):=zgs X _ 6 _ _ _ bl;have x4:cN X wr 4 (iA v):=zgs X _ 4 _ _ _ bl;have x45:cE X nb 45 (iA s.lr):=(H0.o.below aq).cell 45 (λ_=>rfl);have x47:cE X nb 47 (sA s.lv):=(H0.o.below aq).cell 47 (λ_=>rfl);clear aM aY aT av;have ak:Hid (∀(b:Bool) (W:World),BW w W->Calls prog 176 #[pA nb 0,iA ((2:Nat):Int),sA u,bA b] W (Zc B F R nb kb rb n i (s.zdj i 2 u b) W (.tuple #[]))):=λb W hW=>qj (H0.o.below hW) 2 u b (by omega) an.o.hgt (by have:=an.o.rnd;omega) aF (by have:=an.o.log;omega) an.o.out bs.o;have al:Hid (∀b,s.zeq ⟨⟨1,H,(s.round:Int),f,v,nl,u⟩,fr,own⟩=b->rs=(true,s.zdj i 2 u b)):=λb hb=>by
       rw[aS.o];cases b with
       |true=>exact vZ aX (aU bn) hb
       |false=>exact x8 aX (aU bn) hb
      by_cases l1:s.lr<0
      .have l1b:s.lr<=v:=by omega
       have ag:Hid (g1=true->rs=(true,s.zdj i 2 u true)):=λhg=>al true (by rw[ad.o,hg];rw[zgG l1b];rfl);have ah:Hid (g1=false->rs=(true,s.zdj i 2 u false)):=λhg=>al false (by rw[ad.o,hg];rfl);have ae:Hid (BW w X.drew):=aq.o.drew;have x6d:cN X.drew wr 6 (sA u):=x6;go_wp2_with fail
       refine rgd (S:=λZ=>cE Z nb 45 (iA s.lr)/\cE Z nb 47 (sA s.lv)/\cN Z wr 4 (iA v)/\cN Z wr 6 (sA u)) ⟨x45,x47,x4,x6⟩ λhH=>?_;refine zZ [(0,some 71,pA nb 0),(1,some 72,pA nb 0),(2,some 73,pA nb 42),(3,some 74,pA nb 45),(4,some 75,iA s.lr),(5,some 76,bA true),(6,some 77,bA true),(7,some 78,undef),(8,some 79,undef),(9,some 80,undef),(10,some 81,undef),(11,some 82,undef),(12,some 83,undef),(13,some 84,undef),(14,some 85,undef),(15,some 86,bA true),(16,some 87,bA true),(17,some 88,undef),(18,some 89,undef),(19,some 90,undef),(20,some 91,undef),(21,some 92,undef),(22,some 93,undef),(23,some 94,undef),(24,some 95,undef),(25,some 96,undef),(26,some 97,undef),(27,some 98,undef),(28,some 99,bA true),(29,some 9,bA true)] _ _ hH (λx h=>h.1) ?_;simp only[zh,AP,pA];refine dnr ?_;clear hH x45 x47 x4 x6
       try simp only[Act.put,List.setIfInBounds_toArray]
       cases g1 with
       |false=>
        have aa:Hid (rs=(true,s.zdj i 2 u false)):=by first|exact ah rfl|exact ah
        go_wp2_with fail
        refine(ak false _ ae).mono ?_;rintro e w9 ⟨rfl,F9,R9,h9,ab⟩;obtain⟨H9,af⟩:=ze h9 ((Goes.below (F:=F) (R:=R) ae).trans ab);clear h9 ab;go_wp2;go_ret;exact⟨by rw[aa.o];rfl,F9,R9,by rw[aa.o];exact H9,af⟩
       |true=>
        have aa:Hid (rs=(true,s.zdj i 2 u true)):=by first|exact ag rfl|exact ag
        go_wp2_with fail
        refine(ak true _ ae).mono ?_;rintro e w9 ⟨rfl,F9,R9,h9,ab⟩;obtain⟨H9,af⟩:=ze h9 ((Goes.below (F:=F) (R:=R) ae).trans ab);clear h9 ab;go_wp2;go_ret;exact⟨by rw[aa.o];rfl,F9,R9,by rw[aa.o];exact H9,af⟩
      by_cases l2:s.lv=u
      .subst l2;have ag:Hid (g1=true->rs=(true,s.zdj i 2 s.lv true)):=λhg=>al true (by rw[ad.o,hg];simp);have ah:Hid (g1=false->rs=(true,s.zdj i 2 s.lv false)):=λhg=>al false (by rw[ad.o,hg];rfl);have ae:Hid (BW w X.drew):=aq.o.drew;have x6d:cN X.drew wr 6 (sA s.lv):=x6;go_wp2_with fail
       refine rgd (S:=λZ=>cE Z nb 45 (iA s.lr)/\cE Z nb 47 (sA s.lv)/\cN Z wr 4 (iA v)/\cN Z wr 6 (sA s.lv)) ⟨x45,x47,x4,x6⟩ λhH=>?_;refine zZ [(0,some 71,pA nb 0),(1,some 72,pA nb 0),(2,some 73,pA nb 42),(3,some 74,pA nb 45),(4,some 75,iA s.lr),(5,some 76,bA false),(6,some 77,bA false),(7,some 78,pA nb 0),(8,some 79,pA nb 0),(9,some 80,pA nb 42),(10,some 81,pA nb 47),(11,some 82,sA s.lv),(12,some 83,pA wr.heap.size 6),(13,some 84,sA s.lv),(14,some 85,bA true),(15,some 86,bA true),(16,some 87,bA true),(17,some 88,undef),(18,some 89,undef),(19,some 90,undef),(20,some 91,undef),(21,some 92,undef),(22,some 93,undef),(23,some 94,undef),(24,some 95,undef),(25,some 96,undef),(26,some 97,undef),(27,some 98,undef),(28,some 99,bA true),(29,some 9,bA true)] _ _ hH (λx h=>aI h.1 (aI h.2.1 (h.2.2.2))) ?_;simp only[zh,AP,pA];refine dnr ?_;clear hH x45 x47 x4 x6
       try simp only[Act.put,List.setIfInBounds_toArray]
       cases g1 with
       |false=>
        have aa:Hid (rs=(true,s.zdj i 2 s.lv false)):=by first|exact ah rfl|exact ah
        go_wp2_with fail
        refine(ak false _ ae).mono ?_;rintro e w9 ⟨rfl,F9,R9,h9,ab⟩;obtain⟨H9,af⟩:=ze h9 ((Goes.below (F:=F) (R:=R) ae).trans ab);clear h9 ab;go_wp2;go_ret;exact⟨by rw[aa.o];rfl,F9,R9,by rw[aa.o];exact H9,af⟩
       |true=>
        have aa:Hid (rs=(true,s.zdj i 2 s.lv true)):=by first|exact ag rfl|exact ag
        go_wp2_with fail
        refine(ak true _ ae).mono ?_;rintro e w9 ⟨rfl,F9,R9,h9,ab⟩;obtain⟨H9,af⟩:=ze h9 ((Goes.below (F:=F) (R:=R) ae).trans ab);clear h9 ab;go_wp2;go_ret;exact⟨by rw[aa.o];rfl,F9,R9,by rw[aa.o];exact H9,af⟩
      have l2b:=kP l2;have l2c:¬s.lv.toList=u.toList:=by simpa using l2b
      by_cases l3:s.lr<=v
      .skip
       have ag:Hid (g1=true->rs=(true,s.zdj i 2 u true)):=λhg=>al true (by rw[ad.o,hg];rw[zgG l3];rfl);have ah:Hid (g1=false->rs=(true,s.zdj i 2 u false)):=λhg=>al false (by rw[ad.o,hg];rfl);have ae:Hid (BW w X.drew):=aq.o.drew;have x6d:cN X.drew wr 6 (sA u):=x6;go_wp2_with fail
       refine rgd (S:=λZ=>cE Z nb 45 (iA s.lr)/\cE Z nb 47 (sA s.lv)/\cN Z wr 4 (iA v)/\cN Z wr 6 (sA u)) ⟨x45,x47,x4,x6⟩ λhH=>?_;refine zZ [(0,some 71,pA nb 0),(1,some 72,pA nb 0),(2,some 73,pA nb 42),(3,some 74,pA nb 45),(4,some 75,iA s.lr),(5,some 76,bA false),(6,some 77,bA false),(7,some 78,pA nb 0),(8,some 79,pA nb 0),(9,some 80,pA nb 42),(10,some 81,pA nb 47),(11,some 82,sA s.lv),(12,some 83,pA wr.heap.size 6),(13,some 84,sA u),(14,some 85,bA false),(15,some 86,bA false),(16,some 87,bA false),(17,some 88,bA true),(18,some 89,bA true),(19,some 90,pA nb 0),(20,some 91,pA nb 0),(21,some 92,pA nb 42),(22,some 93,pA nb 45),(23,some 94,iA s.lr),(24,some 95,pA wr.heap.size 4),(25,some 96,iA v),(26,some 97,bA true),(27,some 98,bA true),(28,some 99,bA true),(29,some 9,bA true)] _ _ hH (λx h=>aI h.1 (aI h.2.1 (aI h.2.2.2 (h.2.2.1)))) ?_;simp only[zh,AP,pA];refine dnr ?_;clear hH x45 x47 x4 x6
       try simp only[Act.put,List.setIfInBounds_toArray]
       cases g1 with
       |false=>
        have aa:Hid (rs=(true,s.zdj i 2 u false)):=by first|exact ah rfl|exact ah
        go_wp2_with fail
        refine(ak false _ ae).mono ?_;rintro e w9 ⟨rfl,F9,R9,h9,ab⟩;obtain⟨H9,af⟩:=ze h9 ((Goes.below (F:=F) (R:=R) ae).trans ab);clear h9 ab;go_wp2;go_ret;exact⟨by rw[aa.o];rfl,F9,R9,by rw[aa.o];exact H9,af⟩
       |true=>
        have aa:Hid (rs=(true,s.zdj i 2 u true)):=by first|exact ag rfl|exact ag
        go_wp2_with fail
        refine(ak true _ ae).mono ?_;rintro e w9 ⟨rfl,F9,R9,h9,ab⟩;obtain⟨H9,af⟩:=ze h9 ((Goes.below (F:=F) (R:=R) ae).trans ab);clear h9 ab;go_wp2;go_ret;exact⟨by rw[aa.o];rfl,F9,R9,by rw[aa.o];exact H9,af⟩
      skip
      have ag:Hid (g1=true->rs=(true,s.zdj i 2 u false)):=λhg=>al false (by rw[ad.o,hg];rw[zgH l3,zgH l2];rfl);have ah:Hid (g1=false->rs=(true,s.zdj i 2 u false)):=λhg=>al false (by rw[ad.o,hg];rfl);have ae:Hid (BW w X.drew):=aq.o.drew;have x6d:cN X.drew wr 6 (sA u):=x6;go_wp2_with fail
      refine rgd (S:=λZ=>cE Z nb 45 (iA s.lr)/\cE Z nb 47 (sA s.lv)/\cN Z wr 4 (iA v)/\cN Z wr 6 (sA u)) ⟨x45,x47,x4,x6⟩ λhH=>?_;refine zZ [(0,some 71,pA nb 0),(1,some 72,pA nb 0),(2,some 73,pA nb 42),(3,some 74,pA nb 45),(4,some 75,iA s.lr),(5,some 76,bA false),(6,some 77,bA false),(7,some 78,pA nb 0),(8,some 79,pA nb 0),(9,some 80,pA nb 42),(10,some 81,pA nb 47),(11,some 82,sA s.lv),(12,some 83,pA wr.heap.size 6),(13,some 84,sA u),(14,some 85,bA false),(15,some 86,bA false),(16,some 87,bA false),(17,some 88,bA true),(18,some 89,bA true),(19,some 90,pA nb 0),(20,some 91,pA nb 0),(21,some 92,pA nb 42),(22,some 93,pA nb 45),(23,some 94,iA s.lr),(24,some 95,pA wr.heap.size 4),(25,some 96,iA v),(26,some 97,bA false),(27,some 98,bA false),(28,some 99,bA false),(29,some 9,bA false)] _ _ hH (λx h=>aI h.1 (aI h.2.1 (aI h.2.2.2 (h.2.2.1)))) ?_;simp only[zh,AP,pA];refine dnr ?_;clear hH x45 x47 x4 x6
      try simp only[Act.put,List.setIfInBounds_toArray]
      cases g1 with
      |false=>
       have aa:Hid (rs=(true,s.zdj i 2 u false)):=by first|exact ah rfl|exact ah
       go_wp2_with fail
       refine(ak false _ ae).mono ?_;rintro e w9 ⟨rfl,F9,R9,h9,ab⟩;obtain⟨H9,af⟩:=ze h9 ((Goes.below (F:=F) (R:=R) ae).trans ab);clear h9 ab;go_wp2;go_ret;exact⟨by rw[aa.o];rfl,F9,R9,by rw[aa.o];exact H9,af⟩
      |true=>
       have aa:Hid (rs=(true,s.zdj i 2 u false)):=by first|exact ag rfl|exact ag
       go_wp2_with fail
       refine(ak false _ ae).mono ?_;rintro e w9 ⟨rfl,F9,R9,h9,ab⟩;obtain⟨H9,af⟩:=ze h9 ((Goes.below (F:=F) (R:=R) ae).trans ab);clear h9 ab;go_wp2;go_ret;exact⟨by rw[aa.o];rfl,F9,R9,by rw[aa.o];exact H9,af⟩
    have k3n:v<0:=by omega
    have k3d:decide ((0:Int)<=v)=false:=zgH k3;go_wp2_with fail
    go_quiet (fail)
    rename_i nq;have ay:=zc (zgZ (zgq w2.heap.size w2) nq);go_wp2;go_roundw
    case rel=>exact⟨j+1,aj,by go_num,aD (by unfold ye za.zdY;rw[zgH (show¬(0:Int)<=v by omega)];simp),ai.o.trans (ay.o.mono ai.o.size)⟩
    simp[intOf];omega
   have k2b:(r==(s.round:Int))=false:=by simpa using k2
   have k2c:(r != (s.round:Int))=true:=by simpa using k2
   go_wp2_with fail
   go_quiet (fail)
   rename_i nq;have ay:=zc (zgZ (zgq w2.heap.size w2) nq);go_wp2;go_roundw
   case rel=>exact⟨j+1,aj,by go_num,aD (by unfold ye;rw[zgH k2];simp),ai.o.trans (ay.o.mono ai.o.size)⟩
   simp[intOf];omega
  have k1b:(K==1)=false:=by simpa using k1
  have k1c:(K != 1)=true:=by simpa using k1
  go_wp2_with fail
  go_quiet (fail)
  rename_i nq;have ay:=zc (zgZ (zgq w2.heap.size w2) nq);go_wp2;go_roundw
  case rel=>exact⟨j+1,aj,by go_num,aD (by unfold ye;rw[zgH k1];simp),ai.o.trans (ay.o.mono ai.o.size)⟩
  simp[intOf];omega

 have aR:¬(s.step:Int)=1:=by omega
 have h1b:((s.step:Int)==1)=false:=by simpa using aR
 have h1c:((s.step:Int) != 1)=true:=by simpa using aR
 have aa:=zc (aS.o.trans (yZ h1));clear h1;go_enter func169,ntmps169;go_wp2;go_ret;exact⟨by rw[aa.o];rfl,F,R,by rw[aa.o];exact H0,Goes.refl _ _ _⟩
end
end
section
theorem zaT{w:World}{base:Nat}{e:TypeId}{v:Value}{xs:List Value}(h:w.ownsRow base e 1 v xs.length xs):∃p c,v=.slice p xs.length c/\∀k x,xs[k]? =some x->∃b o,p=some (aA b o)/\w.cell? (aA b (o+k))=some x:=by
 rcases h.2 with⟨rfl,hn⟩|⟨g,cap,cur,rfl,hb,hg,hnc,hcm,hcs,ht⟩
 .refine ⟨none,0,by rw[hn],λk x hx=>?_⟩
  have:=(List.getElem?_eq_some_iff.1 hx).1;omega
 refine⟨_,cap,rfl,λk x hx=>⟨g,0,rfl,?_⟩⟩;have hk:=(List.getElem?_eq_some_iff.1 hx).1;rw[zgs w g (0+k) _ e _ hg,zg0,<-hx,<-zg8];have e1:(cur.toList.take (xs.length*1))[k]? =xs[k]? :=by rw[ht]
 rw[zg5,zgT (by omega)] at e1;exact e1
section
variable{B:Nat}{F R:Nat->Prop}{nb kb rb n i:Nat}{s:za}{w:World}
theorem RefW.past(h:RefW B F R nb kb rb n i s w)(hn:Nat)(hh:hn<s.dec.length):∃pb po pc cb co cc qp qc,w.cell? (aA nb 37)=some (.slice (some (aA pb po)) s.dec.length pc)/\w.cell? (aA pb (po+hn))=some (sA (s.dec.getD hn yz).prop)/\w.cell? (aA nb 38)=some (.slice (some (aA cb co)) s.dec.length cc)/\w.cell? (aA cb (co+hn))=some (.slice qp (s.dec.getD hn yz).cert.length qc)/\kG w w.heap.size qp (s.dec.getD hn yz).cert.length (λj=>sA ((s.dec.getD hn yz).cert.getD j zgV))/\(hn<12->w.cell? (aA nb (55+hn))=some (bA (s.dec.getD hn yz).told))/\s.dec.length<=maxLen:=by
 obtain⟨V,hR,ad,-⟩:=h;have hd:s.dec[hn]? =some (s.dec.getD hn yz):=by rw[zgz,zgy hh];rfl
 obtain⟨p,c,e,hm,hl⟩:=zL (hR.own 2 (strR V.pr (s.dec.map (·.prop))) rfl);obtain⟨pb,po,e2,-,hc⟩:=hl hn (by simpa using hh);rw[e2,List.length_map] at e;obtain⟨p3,c3,e3,hv⟩:=zaT (hR.own 3 ⟨30,1,V.ct,V.cs.length,V.cs⟩ rfl);have aa:hn<V.cs.length:=by omega
 obtain⟨cb,co,e4,ae⟩:=hv hn V.cs[hn] (zgy aa);rw[e4,ad] at e3;have hz:(refRows V s)[9+hn]? =some (strR V.cs[hn] (s.dec.getD hn yz).cert):=by
  unfold refRows;rw[zgC (by simp),List.getElem?_zipWith];simp only[List.length_cons,List.length_nil,Nat.zero_add,Nat.add_sub_cancel_left];rw[hd,zgy aa]
 obtain⟨qp,qc,e5,-,ab⟩:=zL (hR.own _ _ hz);refine⟨pb,po,c,cb,co,c3,qp,qc,?_,?_,?_,?_,ab,λaf=>?_,by rw[List.length_map] at hm;exact hm⟩
 .rw [<-e];exact hR.cell 37 rfl
 .have e9:(s.dec.map (·.prop)).getD hn zgV=(s.dec.getD hn yz).prop:=by
   rw[zgz,List.getElem?_map,hd];rfl
  rw[hc];exact congrArg (λz=>some (Value.string z)) e9
 .rw [<-e3];exact hR.cell 38 rfl
 .rw [ae];exact congrArg some e5
 refine hR.cell (55+hn) ?_;unfold refA zbv;rw[List.getElem?_toArray,Nat.add_comm,show hn+55=(hn+20+34)+1 by omega,List.getElem?_cons_succ,zgC (by simp[yd]),show(yd s.x).length=34 by simp[yd],show hn+20+34-34=hn+20 by omega,zgC (by simp)];simp only[List.length_cons,List.length_nil,Nat.zero_add,Nat.add_sub_cancel];unfold xk;rw[List.getElem?_map,List.getElem?_range af];rfl
theorem RefW.told(h:RefW B F R nb kb rb n i s w)(hn:Nat)(hh:hn<s.dec.length)(h12:hn<12):RefW B F R nb kb rb n i { s with dec:=s.dec.set hn { s.dec.getD hn yz with told:=true } } (w.setCell (aA nb (55+hn)) (bA true))/\Goes F R w F R (w.setCell (aA nb (55+hn)) (bA true)):=by
 have hd:s.dec[hn]? =some (s.dec.getD hn yz):=by rw[zgz,zgy hh];rfl
 have hm:∀{α:Type} (g:YT->α),g { s.dec.getD hn yz with told:=true }=g (s.dec.getD hn yz)->(s.dec.set hn { s.dec.getD hn yz with told:=true }).map g=s.dec.map g:=λg hg=>by
  rw[List.map_set,hg];apply List.ext_getElem?;intro k;rw[List.getElem?_set,List.getElem?_map];by_cases e:hn=k
  .subst e;rw[zgT rfl,hd];simp[hh]
  rw[zgU e]
 obtain⟨V,hR,ab,aa⟩:=h;obtain⟨h1,h2⟩:=hR.set (55+hn) (bA true);have eh:za.zc1 { s with dec:=s.dec.set hn { s.dec.getD hn yz with told:=true } }=s.zc1:=List.length_set;have eR:refRows V { s with dec:=s.dec.set hn { s.dec.getD hn yz with told:=true } }=refRows V s:=by
  unfold refRows;dsimp only
  rw[hm (·.block) rfl,hm (·.prop) rfl];have e:List.zipWith (λv d=>strR v d.cert) V.cs (s.dec.set hn { s.dec.getD hn yz with told:=true })=List.zipWith (λv d=>strR v d.cert) V.cs s.dec:=by
   have h3:=hm (·.cert) rfl;have h4:∀l:List YT,List.zipWith (λv d=>strR v d.cert) V.cs l=List.zipWith strR V.cs (l.map (·.cert)):=λl=>by rw[List.zipWith_map_right]
   rw[h4,h4,h3]
  rw[e];rfl
 have eA:refA kb V { s with dec:=s.dec.set hn { s.dec.getD hn yz with told:=true } }=(refA kb V s).setIfInBounds (55+hn) (bA true):=by
  have et:xk { s with dec:=s.dec.set hn { s.dec.getD hn yz with told:=true } }=(xk s).set hn (bA true):=by
   unfold xk;apply List.ext_getElem?;intro k;rw[List.getElem?_set,List.getElem?_map,List.getElem?_map];simp only[List.length_map,List.length_range];rcases Nat.lt_or_ge k 12 with hk|hk
   .rw [List.getElem?_range hk];simp only[Option.map_some,List.getD_eq_getElem?_getD,List.getElem?_set];by_cases e:hn=k
    .subst e;simp[hh,hk]
    simp[e]
   rw[List.getElem?_eq_none (by simpa using hk)];simp only[Option.map_none];rw[zgU (by omega)]
  unfold refA zbv;rw[et,eh];rw[List.setIfInBounds_toArray,Nat.add_comm,show hn+55=(hn+20+34)+1 by omega,List.set_cons_succ,List.set_append_right _ _ (by simp[yd]),show(yd s.x).length=34 by simp[yd],show hn+20+34-34=hn+20 by omega,List.set_append_right _ _ (by simp)];simp only[List.length_cons,List.length_nil,Nat.zero_add,Nat.add_sub_cancel]
 refine⟨⟨V,?_,?_,{ aa with fl:=λx=>aa.fl (by rw[eh] at x;exact x) }⟩,h2⟩
 .rw [eR,eA];exact h1
 rw[ab];exact List.length_set.symm
end
end
section
open Proofs.Tryz
section
variable{B:Nat}{F R:Nat->Prop}{nb kb rb n i:Nat}{s:za}{w:World}
def zb7(x:Option Nat):Int:=match x with|none=>0|some k=>(k:Int)+1
theorem Y5(h:RefW B F R nb kb rb n i s w)(t:zgW)(hl:s.wait.length<=1000)(ht:t.size<=maxLen):Calls prog 63 #[pA nb 0,sA t] w (Zc B F R nb kb rb n i (s.zdT t) w (iA (zb7 (s.zdM t)))):=by
 obtain⟨ah,H0⟩:=ze (jj t w ht) h;obtain⟨V,hR,ak,aj⟩:=h;obtain⟨p,c,hv,c35,-⟩:=hR.wait;obtain⟨HR,HV,au,ag⟩:=yi hR hv ak aj;clear hR ak aj hv;obtain⟨s2,aa⟩:=gen (s.zdT t);obtain⟨ce,ab⟩:=gen (zb7 (s.zdM t));rw[<-aa,<-ab];unfold za.zdT at aa;cases hf:z7 t with
 |false=>
  rw[hf] at ah;have ae:s.zdM t=some 11:=by unfold za.zdM;rw[zgT hf]
  rw[ae] at aa ab;rw[zgU (by simp)] at aa;have HS:=zc aa;have HC:Hid (ce=12):=ab;clear aa ab ae;go_enter func63,ntmps63;go_wp2_with fail
  refine ah.o.mono ?_;rintro e w1 ⟨rfl,ad⟩;have af:=ad.symm;clear ad;subst af;go_wp2;go_ret;exact⟨by rw[HC.o];rfl,F,R,by rw[HS.o];exact H0,Goes.refl _ _ _⟩
 |true=>
  rw[hf] at ah;by_cases h5:5<=s.wait.length
  .have ae:s.zdM t=some 8:=by unfold za.zdM;rw[zgU (by rw[hf];decide),zgT h5]
   rw[ae] at aa ab;rw[zgU (by simp)] at aa;have HS:=zc aa;have HC:Hid (ce=9):=ab;have ao:(5:Int)<=s.wait.length:=by omega
   clear aa ab ae h5;go_enter func63,ntmps63;go_wp2_with fail
   refine ah.o.mono ?_;rintro e w1 ⟨rfl,ad⟩;have af:=ad.symm;clear ad;subst af;go_wp2;go_ret;exact⟨by rw[HC.o];rfl,F,R,by rw[HS.o];exact H0,Goes.refl _ _ _⟩
  have ae:s.zdM t=none:=by unfold za.zdM;rw[zgU (by rw[hf];decide),zgU h5]
  rw[ae] at aa ab;rw[zgT rfl] at aa;have HS:=zc aa;have HC:Hid (ce=0):=ab;have ao:¬(5:Int)<=s.wait.length:=by omega
  clear aa ab ae h5;go_enter func63,ntmps63;go_wp2_with fail
  refine ah.o.mono ?_;rintro e w1 ⟨rfl,ad⟩;have af:=ad.symm;clear ad;subst af;go_wp2_with (first|(at_builtin;refine yk (C:=refA kb V s) (rs:=refRows V s) rfl _ _ rfl HR 0 V.wt s.wait rfl ?h1 t ?h2 ?h3 ?h4)|fail)
  case h1=>exact HV.o.symm
  case h2=>rfl
  case h3=>omega
  intro v1 w1 F1 p1 c1 an ai al;have d1:w1.cell? (aA nb 35)=some (.slice p s.wait.length c):=by rw[<-HV.o];exact ai.cell 35 rfl
  have d2:=ai.frozen 35;obtain⟨aq,ar⟩:=ze ai al;clear ai al;subst an;go_wp2;go_ret;obtain⟨h1,h2⟩:=aq.o.set 35 (.slice p1 (s.wait.length+1) c1);exact⟨by rw[HC.o];rfl,F1,R,by rw[HS.o];exact⟨{ V with wt:=.slice p1 (s.wait.length+1) c1 },h1,au,⟨ag.o.perm,ag.o.sort,ag.o.tb,ag.o.heap,ag.o.fl⟩⟩,ar.o.trans h2⟩
theorem Q8(h:RefW B F R nb kb rb n i s w):Calls prog 68 #[pA nb 0] w λe w'=>∃p c,e=.returned (.slice p s.out.length c)/\kG w' w'.heap.size p s.out.length (λj=>sA (s.out.getD j zgV))/\RefW B F R nb kb rb n i { s with out:=[] } w'/\Goes F R w F R w':=by
 obtain⟨V,hR,ad,aa⟩:=h;obtain⟨p,c,hv,-,-⟩:=zL (hR.own 8 _ rfl);have ab:V.ot=.slice p s.out.length c:=hv;have c54:w.cell? (aA nb 54)=some (.slice p s.out.length c):=by rw[<-ab];exact hR.cell 54 rfl
 have f54:=hR.frozen 54;obtain⟨h1,h2⟩:=(hR.ze1 (k:=8) rfl).set 54 (.slice none 0 0);have af:Hid (kG (w.setCell (aA nb 54) (.slice none 0 0)) (w.setCell (aA nb 54) (.slice none 0 0)).heap.size p s.out.length (λj=>sA (s.out.getD j zgV))):=by
  obtain⟨p',c',e,-,hl⟩:=zL (h1.own (((refRows V s).set 8 ⟨9,1,.slice none 0 0,0,[]⟩).length) (strR V.ot s.out) (by simp));rw[show(strR V.ot s.out).v=V.ot from rfl,ab] at e;cases e;exact hl
 have ae:Hid (RefW B F R nb kb rb n i { s with out:=[] } (w.setCell (aA nb 54) (.slice none 0 0))):=⟨{ V with ot:=.slice none 0 0 },h1.front,ad,⟨aa.perm,aa.sort,aa.tb,aa.heap,aa.fl⟩⟩;have HG:=zc h2;clear hR ad aa hv ab h1 h2;go_enter func68,ntmps68;go_wp2;go_ret;exact⟨p,c,rfl,af,ae,HG⟩
end
theorem QI:Parts ⟨#[1,1,2,3,1,3,106,97,49]⟩ 1 1 2 3 1 3 ⟨#[106,97,49]⟩:=by
 obtain⟨k0,k1,k2,k3,k4,k5,s,hp⟩:=zaS ⟨#[1,1,2,3,1,3,106,97,49]⟩ (by decide);have hw:=hp.whole;have h':=congrArg (λx:zgW=>x.data.toList) hw;simp only[ByteArray.data_append,Array.toList_append,strOfNums_data,List.map_cons,List.map_nil,List.cons_append,List.nil_append,List.cons.injEq] at h';obtain⟨e0,e1,e2,e3,e4,e5,e6⟩:=h';have r0:k0=1:=(ofNat_inj 1 k0 (by omega) (by omega) hp.b0.1 hp.b0.2 e0).symm;have r1:k1=1:=(ofNat_inj 1 k1 (by omega) (by omega) hp.b1.1 hp.b1.2 e1).symm;have r2:k2=2:=(ofNat_inj 2 k2 (by omega) (by omega) hp.b2.1 hp.b2.2 e2).symm;have r3:k3=3:=(ofNat_inj 3 k3 (by omega) (by omega) hp.b3.1 hp.b3.2 e3).symm;have r4:k4=1:=(ofNat_inj 1 k4 (by omega) (by omega) hp.b4.1 hp.b4.2 e4).symm;have r5:k5=3:=(ofNat_inj 3 k5 (by omega) (by omega) hp.b5.1 hp.b5.2 e5).symm;have r6:s=⟨#[106,97,49]⟩:=ByteArray.ext (Array.toList_inj.1 e6.symm);subst r0 r1 r2 r3 r4 r5 r6;exact hp
theorem Xv:encS 1 1 2 3 0 false ⟨#[106,97,49]⟩=⟨#[1,1,2,3,1,3,106,97,49]⟩:=by decide+kernel
theorem Xu:hasB 1 1 2 3 0 false (⟨#[106,97,49]⟩:zgW).size=true:=by decide+kernel
theorem YR:qB 1 1 2 3 1 3 (⟨#[106,97,49]⟩:zgW).size=true:=by decide+kernel
theorem Xt(b:Addr)(w:World)(hb:w.cell? (aA 2 0)=some (eA b)):
 Calls prog 8 #[] w λe w'=>e=.returned (bA true)/\BW w w':=by
 have ai:=zgx _ _ hb;have HE:∀w:World,w.cell? (aA 2 0)=some (eA b)->Calls prog 50 #[.agg #[iA 1,iA 1,iA 2,iA 3,iA 0,bA false,sA ⟨#[106,97,49]⟩]] w λe w'=>e=.returned (.tuple #[sA ⟨#[1,1,2,3,1,3,106,97,49]⟩,.nilIface])/\BW w w':=λw hb=>by
  have h:=Zh 1 1 2 3 0 false ⟨#[106,97,49]⟩ b w (by unfold maxLen;decide) hb;rw[Xv,Xu] at h;exact h
 have HD:∀w:World,cE w 2 0 (eA b)->Calls prog 51 #[sA ⟨#[1,1,2,3,1,3,106,97,49]⟩] w λe w'=>e=.returned (.tuple #[.agg #[iA 1,iA 1,iA 2,iA 3,iA 0,bA false,sA ⟨#[106,97,49]⟩],.nilIface])/\BW w w':=λw hb=>
  Z5 _ 1 1 2 3 0 false ⟨#[106,97,49]⟩ true b w (λw hb=>by
   have h:=vI _ 1 1 2 3 1 3 _ b w QI hb;unfold QA at h;rw[zgT YR,YR] at h;exact h) hb
 obtain⟨aj,ak⟩:=ze HE HD;clear HE HD;have ad:=λo=>cell?_alloc_old o hb;go_enter func8,ntmps8;go_wp2_with fail
 refine(aj _ (ad _)).mono ?_;rintro e w1 ⟨rfl,hB⟩;have ah:w1.cell? (aA 2 0)=some (eA b):=by
  rw[hB.cell (p:=(aA 2 0)) (by simp at ai ⊢;omega)];exact ad _
 have ag:=(zM.alloc w 1 1 2 3 0 false ⟨#[106,97,49]⟩).later hB (by simp);have af:=zc ag;have an:Hid (BW w w1):=(bwA w).trans (hB.mono (by simp));clear hB ag hb ad;go_wp2_with fail
 refine(ak _ ah).mono ?_;rintro e w2 ⟨rfl,ae⟩;have aa:=af.o.later ae af.o.lt;have ab:w.heap.size<w2.heap.size:=aa.lt;obtain⟨c0,c1,c2,c3,c4,c5,c6,g0,g1,g2,g3,g4,g5,g6⟩:=aa.cells;have al:Hid (BW w w2):=an.o.trans (ae.mono (zgI af.o.lt));clear ae aa ah;go_wp2;go_ret;exact⟨rfl,al.o.alloc (zgI ab) _⟩

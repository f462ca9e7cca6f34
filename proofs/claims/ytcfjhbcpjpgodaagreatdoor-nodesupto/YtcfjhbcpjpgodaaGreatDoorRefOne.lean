import Derived.Test.YtcfjhbcpjpgodaaGreatDoorJ33
import Derived.Test.YtcfjhbcpjpgodaaGreatDoorJ35
import Derived.Test.YtcfjhbcpjpgodaaGreatDoorRefLocks
namespace Go.Proofs.YtcfjhbcpjpgodaaGreatDoor
open Go.RowKit Proofs.Tryz
set_option maxRecDepth 100000
set_option maxHeartbeats 0
set_option linter.all false
theorem zaZ{s:za}{i:Nat}(h0:za.zdm i s=(false,s))(h1:s.zde i=(false,s))(h2:s.zc6 i Kf=(false,s))(h3:s.zc6 i s.zdY=(false,s))(h4:s.zdy i=(false,s)):s.zdp (za.zdm i) i=s.zdR i:=by
 unfold za.zdp za.zdR;simp only[h0,h1,h2,h3,h4,Bool.false_eq_true,if_false]
theorem zaY{s:za}{i:Nat}(h:(s.zdp (za.zdm i) i).1=false):s.zdp (za.zdm i) i=(false,s):=by
 unfold za.zdp at h ⊢;split at h
 .rename_i h1;rw[h1] at h;cases h
 rename_i h0;rw[zgU h0];split at h
 .rename_i h1;rw[h1] at h;cases h
 rename_i h1;rw[zgU h1];split at h
 .rename_i h2;rw[h2] at h;cases h
 rename_i h2;rw[zgU h2];split at h
 .rename_i h3;rw[h3] at h;cases h
 rename_i h3;rw[zgU h3];split at h
 .rename_i h4;rw[h4] at h;cases h
 rename_i h4;rw[zgU h4];split at h
 .rename_i h5;rw[h5] at h;cases h
 rename_i h5;rw[zgU h5];split at h
 .rename_i h6;rw[h6] at h;cases h
 rename_i h6;rw[zgU h6];exact gf (by rw[h];exact zgN)
theorem YOk.zgm{S T i:Nat}{s:za}(h:YOk S T i s)(hT:T<=1000000000000)(hh:s.zc1<12):ROk s:=by
 have h1:=h.1.lens (by omega);have h2:=h.1.tims;have h3:=h.1.tb;have h4:=h.1.rnd;have h5:=xD s;exact⟨h.1.dom,h.1.pos,hh,h.1.rnd,by omega,by have:=h.1.out;omega,by omega,zgu h.1.time hT,by have:=h.1.wait;omega,h.2.form,h.2.vr0,h.1.vz,h.1.log.ok⟩
theorem YOk.hok{S T i:Nat}{s:za}(h:YOk S T i s)(hT:T<=1000000000000)(hh:s.zc1<12){p:zt}(hg:s.zdK p.m.s=true):HOk (s.kept p):=by
 have r:=h.zgm hT hh;have h1:=h.1.lens (by omega);have hk:(s.kept p).zc1=s.zc1+1:=by
  show(s.dec++[_]).length=s.dec.length+1;simp
 refine⟨h.1.dom.behind _,gI h.1.pos hg,by omega,r.out,r.tims,r.time,?_,λt ht=>r.form t (ZJ ht),h.1.ahead.ok,by show s.ahead.length<=_;omega,h.1.ao,λe=>?_⟩
 .have:=(jk s.wait (pcs p.m.s)).length_le
  show(yu s.wait (pcs p.m.s)).length<=_;have:=r.wait;omega
 show s.ahead=[];cases hl:s.ahead with
 |nil=>rfl
 |cons a l=>
  have:=h.1.ahead.hh a (by rw[hl];exact zgL ..);omega
section
variable{B:Nat}{F R:Nat->Prop}{nb kb rb n i:Nat}{w:World}
theorem VE{S T:Nat}{s:za}(h:RefW B F R nb kb rb n i s w)(hy:YOk S T i s)(hT:T<=1000000000000)(hS:S<=900000000000):
 Calls prog 118 #[pA nb 0] w (Zc B F R nb kb rb n i (s.zdp (za.zdm i) i).2 w (bA (s.zdp (za.zdm i) i).1)):=by
 obtain⟨rs,ag⟩:=gen (s.zdp (za.zdm i) i);rw[<-ag];have ab:=zc ag;have c42:cE w nb 42 (iA s.zc1):=h.cell 42 (λ_=>rfl);have hh:=hy.1.hgt;have H0:=zc h;clear ag h;by_cases ao:s.zc1=12
 .have af:(s.zc1:Int)=12:=by omega
  have aa:Hid (rs=(false,s)):=ab.o.trans (J3 hy.1 ao i);clear ao hy;go_enter func118,ntmps118;go_wp2;go_ret;exact⟨by rw[aa.o];rfl,F,R,by rw[aa.o];exact H0,Goes.refl _ _ _⟩
 have af:¬(s.zc1:Int)=12:=by omega
 have aQ:((s.zc1:Int)==12)=false:=by simpa using af
 have ae:=zc (hy.zgm hT (by omega));have ad:=zc (hy.1.st (by omega) hT hS).2;have aR:Hid (∀p∈s.log,s.zdK p.m.s=true->HOk (s.kept p)):=λp _ hg=>hy.hok hT (by omega) hg;have HX:=zc hy.2;clear ao hy hh;go_enter func118,ntmps118;have aD:=zc ((λh=>Z7 h ae ad aR) H0);obtain⟨⟨b0,s0⟩,an⟩:∃z,z=za.zdm i s:=⟨_,rfl⟩;rw[<-an] at aD;have aw:=zc an;clear an;go_wp2_with fail
 refine aD.o.mono ?_;rintro e w1 ⟨rfl,F1,R1,h1,aK⟩;obtain⟨aP,H1⟩:=ze aK h1;clear h1 aK aD;cases b0 with
 |true=>
  have aa:Hid (rs=(true,s0)):=by
   have e:=aw.o;unfold Hid;rw[ab.o];unfold za.zdp;simp only[<-e,Bool.false_eq_true,if_false,if_true]
  go_wp2;go_ret;exact⟨by rw[aa.o];rfl,F1,R1,by rw[aa.o];exact H1,aP⟩
 |false=>
  have E0:Hid (za.zdm i s=(false,s)):=xX s (by rw[<-aw.o];exact zgN);have e0:s=s0:=by have e:=aw.o.trans E0.o;exact(congrArg Prod.snd e).symm
  subst e0;have aC:=zc ((λh=>K1 h ae ad HX.o.vr1) H1);obtain⟨⟨b1,s1⟩,al⟩:∃z,z=s.zde i:=⟨_,rfl⟩;rw[<-al] at aC;have av:=zc al;clear al;go_wp2_with fail
  refine aC.o.mono ?_;rintro e w2 ⟨rfl,F2,R2,h2,aJ⟩;obtain⟨aO,H2⟩:=ze (aP.o.trans aJ) h2;clear h2 aJ aC;cases b1 with
  |true=>
   have aa:Hid (rs=(true,s1)):=by
    have e:=av.o;unfold Hid;rw[ab.o];unfold za.zdp;simp only[E0.o,<-e,Bool.false_eq_true,if_false,if_true]
   go_wp2;go_ret;exact⟨by rw[aa.o];rfl,F2,R2,by rw[aa.o];exact H2,aO⟩
  |false=>
   have E1:Hid (s.zde i=(false,s)):=xC (by rw[<-av.o];exact zgN);have e1:s=s1:=by have e:=av.o.trans E1.o;exact(congrArg Prod.snd e).symm
   subst e1;have aB:=zc ((λh=>VG h ae ad HX.o.lr HX.o.pv) H2);obtain⟨⟨b2,s2⟩,ak⟩:∃z,z=s.zc6 i Kf:=⟨_,rfl⟩;rw[<-ak] at aB;have au:=zc ak;clear ak;go_wp2_with fail
   refine aB.o.mono ?_;rintro e w3 ⟨rfl,F3,R3,h3,aH⟩;obtain⟨aN,H3⟩:=ze (aO.o.trans aH) h3;clear h3 aH aB;cases b2 with
   |true=>
    have aa:Hid (rs=(true,s2)):=by
     have e:=au.o;unfold Hid;rw[ab.o];unfold za.zdp;simp only[E0.o,E1.o,<-e,Bool.false_eq_true,if_false,if_true]
    go_wp2;go_ret;exact⟨by rw[aa.o];rfl,F3,R3,by rw[aa.o];exact H3,aN⟩
   |false=>
    have E2:Hid (s.zc6 i Kf=(false,s)):=qa (by rw[<-au.o];exact zgN);have e2:s=s2:=by have e:=au.o.trans E2.o;exact(congrArg Prod.snd e).symm
    subst e2;have az:=zc ((λh=>VF h ae ad HX.o.lr HX.o.pv) H3);obtain⟨⟨b3,s3⟩,aj⟩:∃z,z=s.zc6 i s.zdY:=⟨_,rfl⟩;rw[<-aj] at az;have ar:=zc aj;clear aj;go_wp2_with fail
    refine az.o.mono ?_;rintro e w4 ⟨rfl,F4,R4,h4,aG⟩;obtain⟨aM,H4⟩:=ze (aN.o.trans aG) h4;clear h4 aG az;cases b3 with
    |true=>
     have aa:Hid (rs=(true,s3)):=by
      have e:=ar.o;unfold Hid;rw[ab.o];unfold za.zdp;simp only[E0.o,E1.o,E2.o,<-e,Bool.false_eq_true,if_false,if_true]
     go_wp2;go_ret;exact⟨by rw[aa.o];rfl,F4,R4,by rw[aa.o];exact H4,aM⟩
    |false=>
     have E3:Hid (s.zc6 i s.zdY=(false,s)):=qa (by rw[<-ar.o];exact zgN);have e3:s=s3:=by have e:=ar.o.trans E3.o;exact(congrArg Prod.snd e).symm
     subst e3;have ay:=zc ((λh=>KZ h ae ad) H4);obtain⟨⟨b4,s4⟩,ai⟩:∃z,z=s.zdy i:=⟨_,rfl⟩;rw[<-ai] at ay;have aq:=zc ai;clear ai;go_wp2_with fail
     refine ay.o.mono ?_;rintro e w5 ⟨rfl,F5,R5,h5,aF⟩;obtain⟨aL,H5⟩:=ze (aM.o.trans aF) h5;clear h5 aF ay;cases b4 with
     |true=>
      have aa:Hid (rs=(true,s4)):=by
       have e:=aq.o;unfold Hid;rw[ab.o];unfold za.zdp;simp only[E0.o,E1.o,E2.o,E3.o,<-e,Bool.false_eq_true,if_false,if_true]
      go_wp2;go_ret;exact⟨by rw[aa.o];rfl,F5,R5,by rw[aa.o];exact H5,aL⟩
     |false=>
      have E4:Hid (s.zdy i=(false,s)):=ZG (by rw[<-aq.o];exact zgN);have e4:s=s4:=by have e:=aq.o.trans E4.o;exact(congrArg Prod.snd e).symm
      subst e4;have ax:=zc ((λh=>Q9 h ae ad) H5);obtain⟨⟨b5,s5⟩,ah⟩:∃z,z=s.zdR i:=⟨_,rfl⟩;rw[<-ah] at ax;have aT:=zc ah;clear ah;go_wp2_with fail
      refine ax.o.mono ?_;rintro e w6 ⟨rfl,F6,R6,h6,aE⟩;obtain⟨aS,H6⟩:=ze (aL.o.trans aE) h6;clear h6 aE ax;have aa:Hid (rs=(b5,s5)):=by unfold Hid;rw[aT.o,ab.o];exact zaZ E0.o E1.o E2.o E3.o E4.o
      go_wp2;go_ret;exact⟨by rw[aa.o];rfl,F6,R6,by rw[aa.o];exact H6,aS⟩
theorem kX{S T:Nat}{s:za}(h:RefW B F R nb kb rb n i s w)(hy:YOk S T i s)(hT:T<=1000000000000)(hS:S<=900000000000):
 Calls prog 57 #[pA nb 0] w (Zc B F R nb kb rb n i (s.zdv i) w (.tuple #[])):=by
 obtain⟨k,hk⟩:=hy.runs.1;obtain⟨t,ht⟩:=gen (s.zdv i);rw[<-ht] at hk ⊢;have ae:Hid (∃(s':za) (F' R':Nat->Prop),RefW B F' R' nb kb rb n i s' w/\Goes F R w F' R' w/\RunTo (za.zdm i) i (YOk S T i) t k s'):=⟨s,F,R,h,Goes.refl F R w,hk⟩;clear h hk ht hy;go_enter func57,ntmps57;go_wp2
 go_loopg [2] (k+1) (λq mv wr=>∃mb:Bool,mv=bA mb/\((mb=true/\∃(q':Nat) (s':za) (F' R':Nat->Prop),q=q'+1/\RefW B F' R' nb kb rb n i s' wr/\Goes F R w F' R' wr/\RunTo (za.zdm i) i (YOk S T i) t q' s')\/(mb=false/\∃(F' R':Nat->Prop),RefW B F' R' nb kb rb n i t wr/\Goes F R w F' R' wr)))
 case atStart=>
  obtain⟨s',F',R',h1,h2,h3⟩:=ae.o;exact⟨true,rfl,zgR ⟨rfl,k,s',F',R',rfl,h1,h2,h3⟩⟩
 clear ae;obtain⟨mb,rfl,hrel⟩:=hrel;rcases hrel with⟨rfl,q,s',F',R',rfl,h1,h2,h3⟩|⟨rfl,F',R',h1,h2⟩
 .have hy:YOk S T i s':=by cases q with|zero=>exact h3.1|succ q=>exact h3.1
  obtain⟨ab,af,HG⟩:=zC (VE h1 hy hT hS) h3 h2;clear h1 h2 h3 hy;obtain⟨⟨b1,s1⟩,aa⟩:∃z,z=s'.zdp (za.zdm i) i:=⟨_,rfl⟩;rw[<-aa] at ab;have HD:=zc aa;clear aa;go_wp2_with fail
  refine ab.o.mono ?_;rintro e w1 ⟨rfl,F1,R1,h1,ad⟩;obtain⟨ag,H1⟩:=ze (HG.o.trans ad) h1;clear h1 ad ab HG;cases b1 with
  |true=>
   have HN:Hid (∃q',q=q'+1/\RunTo (za.zdm i) i (YOk S T i) t q' s1):=by
    have hr:=af.o;have e:=HD.o;cases q with
    |zero=>have h1:=hr.2.1;rw[<-e] at h1;cases h1
    |succ q=>have h1:=hr.2.2;rw[<-e] at h1;exact⟨q,rfl,h1⟩
   go_wp2
   go_roundg q
   case measure=>omega
   case rel=>
    obtain⟨q',e,hr⟩:=HN.o;exact⟨true,rfl,zgR ⟨rfl,q',s1,F1,R1,e,H1,ag,hr⟩⟩
  |false=>
   have HN:Hid (s1=t):=by
    have hr:=af.o;have e:=HD.o;cases q with
    |zero=>
     have h1:=zaY (by rw[<-e]);rw[<-e] at h1;have h2:s1=s':=congrArg Prod.snd h1;exact h2.trans hr.2.2
    |succ q=>have h1:=hr.2.1;rw[<-e] at h1;cases h1
   go_wp2
   go_roundg q
   case measure=>omega
   case rel=>exact⟨false,rfl,zgS ⟨rfl,F1,R1,by rw[<-HN.o];exact H1,ag⟩⟩
 have H1:=zc h1;have HG:=zc h2;clear h1 h2;go_wp2
 go_end0
 exact⟨rfl,F',R',H1,HG⟩

/- Proved here: LiveUptoCardSaid: called with whatever list of numbers, whatever number and whatever acts (together of the form's bulk), in whatever world in which the listed variables lie as the program's text lays them, Live returns true, and whatever was there reads as it did. -/
import Derived.Test.YtcfjhbcpjpgodaaGreatDoorHapRecv
import Derived.Test.YtcfjhbcpjpgodaaGreatDoorJ43
import Derived.Test.YtcfjhbcpjpgodaaGreatDoorHapLie
import Derived.Test.YtcfjhbcpjpgodaaGreatDoorJ45
import Derived.Test.YtcfjhbcpjpgodaaGreatDoorJ39
import Derived.Test.YtcfjhbcpjpgodaaGreatDoorCards
import Derived.Test.YtcfjhbcpjpgodaaGreatDoorTie
import Derived.LaidMore
import Derived.Deep.DeepWitnessRowRef
namespace Go.Proofs.YtcfjhbcpjpgodaaGreatDoor
open Go.RowKit
set_option maxRecDepth 100000
set_option maxHeartbeats 0
set_option linter.all false
section
open Proofs.Tryz
variable{n:Nat}{st:Nat->za}
def Zr(n:Nat)(a:ZL)(st:Nat->za):Nat->za:=
 if pickN a.k 11=5 then updS st (pickN a.t n) ((st (pickN a.t n)).zfW (pickN a.t n)) else if pickN a.k 11=6 then ticksTo n st else st
def subR(a:ZL)(t:zj5):Prop:=pickN a.k 11=7/\t=a.r
theorem qz{a:ZL}(h5:¬pickN a.k 11=5)(h6:¬pickN a.k 11=6):Zr n a st=st:=by unfold Zr;rw[zj3 h5,zj3 h6]
theorem VR{B:Nat}{es:List Addr}{m:Int}{gv:Value}{rb cc T M:Nat}{said:List zj5}(a:ZL){w:World}(h:zK B es m rb n cc gv T M st said w)(ha:Zy a)(hn:n<=8)(hM:M+100*n<=4000000000000)(hT:T+n<=1000000000000):
 Calls prog 28 #[.pointer (some ⟨cc,0,none⟩),.agg a.cells] w λe w'=>e=.returned (.tuple #[])/\∃st' said',Moves n (subR a) (Zr n a st,said) (st',said')/\zK B es m rb n cc gv (T+n) (M+100*n) st' said' w'/\Below B w w'/\∀j,j<n->(st' j).out=[]:=by
 have aa:pickN a.k 11<11:=yv (by omega);obtain⟨r,hr⟩:=gen (pickN a.k 11);rw[<-hr] at aa;match r,aa,hr with
 |0,_,hr=>rw[qz (by omega) (by omega)];exact jl a h ha (zj0 hr.symm) hn hM hT
 |1,_,hr=>rw[qz (by omega) (by omega)];exact jl a h ha (zj1 (zj0 hr.symm)) hn hM hT
 |2,_,hr=>rw[qz (by omega) (by omega)];exact jl a h ha (zj1 (zj1 (zj0 hr.symm))) hn hM hT
 |3,_,hr=>rw[qz (by omega) (by omega)];exact jl a h ha (zj1 (zj1 (zj1 hr.symm))) hn hM hT
 |4,_,hr=>rw[qz (by omega) (by omega)];exact QC a h ha hr.symm hn hM hT
 |5,_,hr=>rw[show Zr n a st=updS st (pickN a.t n) ((st (pickN a.t n)).zfW (pickN a.t n)) by unfold Zr;rw[zj2 hr.symm]];exact QB a h ha hr.symm hn hM hT
 |6,_,hr=>rw[show Zr n a st=ticksTo n st by unfold Zr;rw[zj3 (by omega),zj2 hr.symm]];exact QA a h ha hr.symm hn hM hT
 |7,_,hr=>rw[qz (by omega) (by omega)];exact VQ a h ha ⟨hr.symm,rfl⟩ hr.symm hn hM hT
 |8,_,hr=>rw[qz (by omega) (by omega)];exact Yk a h ha (zj0 hr.symm) hn hM hT
 |9,_,hr=>rw[qz (by omega) (by omega)];exact Yk a h ha (zj1 hr.symm) hn hM hT
 |10,_,hr=>rw[qz (by omega) (by omega)];exact VS a h ha hr.symm hn hM hT
 |r+11,h,_=>exact absurd h (by omega)
end
section
theorem zeJ{n i:Nat}{p:Nat->Int}{sg:Nat->List zj5}(V:ys n p)(hi:i<n)(hd:Dom p)(hp:0<sumTo p 8)(hs:sg i=[])(hL:SgL n p sg):Nd n i p p 0 0 (bornS p sg i):=by
 have e:∀fr,fr∈sg i->False:=λfr hf=>by rw[hs] at hf;cases hf
 refine⟨⟨Xh hd hp (by rw[hs];exact zjA _),?_⟩,?_,?_,?_⟩
 .have h:XOk ((yJ p sg).zfK []):=⟨λ_ h=>(by cases h),Int.le_refl _,by show(-1:Int)<=((0:Nat):Int);omega,Int.le_refl _,λ_ h=>(by cases h),λ_ h=>(by cases h),λ_ h=>(by cases h)⟩;exact h.begin (by show(0:Nat)<12;omega) i 0 (by show(-1:Int)<=((0:Nat):Int);omega)
 .unfold bornS;refine NI.zfH ?_ hi;exact⟨rfl,(λ_ h=>by cases h),(λ_ h=>by cases h),(λh b hb=>by have ad:([]:List zj5)[h]? =some b:=hb;cases ad),(λfr hf=>(e fr hf).elim),(λfr hf=>(e fr hf).elim),(λfr hf=>(e fr hf).elim),(λfr hf=>(e fr hf).elim),(λh0=>absurd h0 (by show¬(0:Int)<=-1;decide)),ND.nil,ND.nil,(λh d hd=>by have aa:([]:List (zj5×List zj5))[h]? =some d:=hd;cases aa),(λfr hf=>(e fr hf).elim)⟩
 .unfold bornS;exact yX.begin (λj _ hj=>absurd hj (Nat.not_lt_zero j)) (λt ht=>(by cases ht)) (λt ht=>(by cases ht)) (by show(0:Nat)<12;omega)
 unfold bornS;refine LV.begin V hi ⟨ki.refl p,hL,λfr hf=>(e fr hf).elim,λ_ a=>absurd a (by show¬2<=1;decide),λ_ a=>absurd a (by show¬3<=1;decide),λk hk=>absurd hk (Nat.not_lt_zero k),λa=>(by cases a),λa=>absurd a (by show¬(0:Int)<=-1;decide),λfr hf=>(e fr hf).elim,λt ht=>(by cases ht),λa=>(by cases a),λa=>(by cases a),λt ht=>(by cases ht),λa=>absurd a (by show¬1<=0;decide),λfr hf=>(e fr hf).elim⟩ hd (by show(0:Nat)<12;omega) (by omega) (Int.le_refl _) (by show(-1:Int)<((0:Nat):Int);decide) (zjG _) (λt ht=>(by cases ht)) (λfr hf=>(e fr hf).elim) (λa=>absurd rfl a)
theorem zeH{n i L d:Nat}{p:Nat->Int}{sg:Nat->List zj5}(hfr:∀q,q<n->∀fr∈sg q,(decV fr).r<=0):TN n L 0 d (bornS p sg i):=by
 unfold bornS;exact TN.begin (s:=(yJ p sg).zfK []) ⟨λ_=>zjA _,λt ht=>(by cases ht),λt ht=>(by cases ht),λq hq fr hf _=>hfr q hq fr hf⟩ i λ_=>zjA _
theorem zeI{n i:Nat}{p:Nat->Int}{sg:Nat->List zj5}(hs:sg i=[]):PG n i p p (bornS p sg i):=by
 have e:∀fr,fr∈sg i->False:=λfr hf=>by rw[hs] at hf;cases hf
 unfold bornS;exact PG.begin (s:=(yJ p sg).zfK []) ⟨λfr hf=>(e fr hf).elim,λfr hf=>(e fr hf).elim,λfr hf=>(e fr hf).elim,λfr hf=>(e fr hf).elim,Int.le_refl _⟩ rfl (by show(-1:Int)<((0:Nat):Int);decide) (Int.le_refl _) (λt ht=>(by cases ht)) (λa=>absurd a (by show¬(0:Int)<=-1;decide))
theorem zeK{p:Nat->Int}{sg:Nat->List zj5}{i:Nat}:DP p (bornS p sg i):=λk d hk=>by
 unfold bornS at hk;rw[yB] at hk;have hk':([]:List xC)[k]? =some d:=hk;cases hk'
theorem zfb{n i:Nat}{p:Nat->Int}{sg:Nat->List zj5}(hi:i<n):ZOk n ((bornS p sg i).zge i):=
 ZOk.zgn hi 2200 _ (ZOk.begin (s:=(yJ p sg).zfK []) ⟨λ_ h=>(by cases h),λ_ h=>(by cases h),λ_ h=>(by cases h),λ_ h=>(by cases h)⟩ hi)
structure Adv (n:Nat) (p:Nat->Int) (T g:Nat) (st:Nat->za):Prop where
 z:Ctz n p p T st
 d:∀j,j<n->DP p (st j)
 pg:PGs n p p st
 tn:∀L,TNg n L g st
theorem TNs.g0{n L:Nat}{st:Nat->za}(H:TNs n L 0 2 st):TNg n L 0 st:=⟨0,2,by omega,by omega,by omega,H⟩
theorem BornI.adv{n:Nat}{p:Nat->Int}{sg:Nat->List zj5}{st:Nat->za}(h:BornI p n n sg st)(hn:0<n)(V:ys n p)(hd:Dom p)(hp:0<sumTo p 8):Adv n p 0 0 st:=by
 have key:=h (λk sg st=>k<=n->(∀j,j<k->Nd n j p p 0 0 (st j)/\kC (st j)/\ZOk n (st j)/\DP p (st j)/\PG n j p p (st j)/\(∀L,TN n L 0 2 (st j))/\(st j).sg=sg)/\(∀j,k<=j->j<n->sg j=[])/\SgL n p sg/\∀q,q<n->∀fr∈sg q,(decV fr).r<=0) ?_ ?_ (zjA _)
 .obtain ⟨h1,-,-,-⟩:=key
  exact⟨⟨⟨hn,V,hd,hp,λj hj=>(h1 j hj).1,λj hj=>(h1 j hj).2.1,λj hj=>((h1 j hj).2.2.2.2.2.2).trans ((h1 0 hn).2.2.2.2.2.2).symm⟩,λj hj=>(h1 j hj).2.2.1⟩,λj hj=>(h1 j hj).2.2.2.1,λj hj=>(h1 j hj).2.2.2.2.1,λL=>TNs.g0 λj hj=>(h1 j hj).2.2.2.2.2.1 L⟩
 .intro _;exact⟨λj hj=>absurd hj (Nat.not_lt_zero _),λ_ _ _=>rfl,⟨λ_ _ fr hf=>(by cases hf),λ_ _ fr hf=>(by cases hf),λ_ _ fr hf=>(by cases hf),λ_ _ fr hf=>(by cases hf),λ_ _ fr hf=>(by cases hf),λ_ _ fr hf=>(by cases hf)⟩,λ_ _ fr hf=>(by cases hf)⟩
 intro k sg st hk ih _;obtain⟨h1,h2,h3,h4⟩:=ih (by omega);have aa:=h2 k (zjA _) hk;have N0:=zeJ V hk hd hp aa h3;have N:=N0.zgN V hk;have Q:=N0.quiet V hk;have D:=DP.go V hk 2200 _ N0 zeK;have P:=PG.go V hk 2200 _ N0 (zeI aa);have TNk:∀L,TN n L 0 2 ((bornS p sg k).zge k):=λL=>TN.go V hk (by omega) 2200 _ N0 (zeH h4);have so:∀j,j≠k->((bornS p sg k).zge k).sg j=sg j:=λj hj=>zcf p sg k j hj;have su:SgLe sg ((bornS p sg k).zge k).sg:=λj fr hf=>by
  by_cases e:j=k
  .rw [e,aa] at hf;cases hf
  rw[so j e];exact hf
 refine⟨λj hj=>?_,λj h5 h6=>?_,SgL.of N,λq hq fr hf=>?_⟩
 .by_cases e:j=k
  .subst e;rw[zz];exact⟨N,Q,zfb hk,D,P,TNk,rfl⟩
  rw[zw e];obtain⟨a1,a2,a3,a4,a5,a6,a7⟩:=h1 j (by omega);have su':SgLe (st j).sg ((bornS p sg k).zge k).sg:=by rw[a7];exact su
  have so':((bornS p sg k).zge k).sg j=(st j).sg j:=by rw[a7];exact so j e
  exact⟨a1.others su' so' (SgL.of N),a2.congr rfl rfl rfl rfl rfl rfl rfl,a3.up su',a4.same rfl,a5.others su' so',λL=>(a6 L).sg (TNk L),rfl⟩
 .rw [so j (by omega)];exact h2 j (by omega) h6
 have h5:∃L:Nat,(decV fr).h=(L:Int):=⟨(decV fr).h.toNat,by
  have:=(qQ ((SgL.of N).ok q hq fr hf).1);omega⟩
 obtain⟨L,hL⟩:=h5;exact(TNk L).fr q hq fr hf hL
theorem TNg.ziO{n h g:Nat}{st:Nat->za}(H:TNg n h g st):TNg n h (g+1) st:=by
 obtain⟨r,d,h1,h2,h3,h4⟩:=H;rcases Nat.lt_or_ge 1 d with h5|h5
 .exact ⟨r,d-1,by omega,by omega,by rw[<-h3];omega,λj hj=>(h4 j hj).less (by omega)⟩
 have e:d=1:=by omega
 subst e;refine⟨r+1,r+3,by omega,by omega,?_,λj hj=>(h4 j hj).up (r+3)⟩;have e1:(r+1+1)*(r+1+4)=(r+1)*(r+4)+(2*r+6):=by
  simp only[Nat.add_mul,Nat.mul_add];omega
 rw[e1,<-h3];omega
theorem TNg.tick{n h g T j:Nat}{x0 p:Nat->Int}{st:Nat->za}(C:Cty n x0 p T st)(hj:j<n)(H:TNg n h g st):TNg n h (g+1) (updS st j ((st j).zfW j)):=by
 obtain⟨r,d,h1,h2,h3,h4⟩:=H;rcases Nat.lt_or_ge 1 d with h5|h5
 .have H1:TN n h r (d-1) ((st j).zfW j):=TN.tick C.V hj (C.nd j hj) (by rw[show d-1+1=d by omega];exact h4 j hj) (by omega) (by omega);exact⟨r,d-1,by omega,by omega,by rw[<-h3];omega,TNs.upd (λk hk=>(h4 k hk).less (by omega)) H1⟩
 have e:d=1:=by omega
 subst e;have H1:TN n h (r+1) (r+3) ((st j).zfW j):=TN.tick C.V hj (C.nd j hj) ((h4 j hj).up (r+3+1)) (by omega) (by omega);refine⟨r+1,r+3,by omega,by omega,?_,TNs.upd (λk hk=>(h4 k hk).up (r+3)) H1⟩;have e1:(r+1+1)*(r+1+4)=(r+1)*(r+4)+(2*r+6):=by
  simp only[Nat.add_mul,Nat.mul_add];omega
 rw[e1,<-h3];omega
theorem TNg.ticks{n h g T:Nat}{x0 p:Nat->Int}{st:Nat->za}(C:Cty n x0 p T st)(H:TNg n h g st):TNg n h (g+1) (ticksTo n st):=by
 have all:∀r d,1<=d->d<=2+r->TNs n h r (d+1) st->TNs n h r d (ticksTo n st):=λr d ae ad H=>by
  have key:∀k,k<=n->∀j,j<n->TN n h r (if j<k then d else d+1) (ticksTo k st j):=λk=>by
   induction k with
   |zero=>exact λ_ j hj=>(by rw[zj3 (Nat.not_lt_zero _)];exact H j hj)
   |succ k ih=>
    intro hk j hj;have H1:=ih (by omega);have Ck:=C.ticks k (by omega);have aa:k<n:=by omega
    have Hk:=H1 k aa;rw[zj3 (Nat.lt_irrefl _)] at Hk;have H2:=Hk.tick C.V aa (Ck.nd k aa) ae ad;show TN n h r _ (updS (ticksTo k st) k _ j);by_cases e:j=k
    .subst e;rw[zz,zj2 (Nat.lt_succ_self _)];exact H2
    rw[zw e];have H3:=H1 j hj;have h3:(if j<k+1 then d else d+1)=(if j<k then d else d+1):=by
     by_cases h4:j<k
     .rw [zj2 h4,zj2 (by omega)]
     rw[zj3 h4,zj3 (by omega)]
    rw[h3];exact⟨H3.rd,H3.tm,H3.th,H2.fr⟩
  intro j hj;have:=key n (zjA _) j hj;rw[zj2 hj] at this;exact this
 obtain⟨r,d,h1,h2,h3,h4⟩:=H;rcases Nat.lt_or_ge 1 d with h5|h5
 .exact ⟨r,d-1,by omega,by omega,by rw[<-h3];omega,all r (d-1) (by omega) (by omega) (by rw[show d-1+1=d by omega];exact h4)⟩
 have e:d=1:=by omega
 subst e;refine⟨r+1,r+3,by omega,by omega,?_,all (r+1) (r+3) (by omega) (by omega) (λk hk=>(h4 k hk).up (r+3+1))⟩;have e1:(r+1+1)*(r+1+4)=(r+1)*(r+4)+(2*r+6):=by
  simp only[Nat.add_mul,Nat.mul_add];omega
 rw[e1,<-h3];omega
section
variable{n T g:Nat}{p:Nat->Int}{st:Nat->za}
theorem Adv.ziO(H:Adv n p T g st):Adv n p T (g+1) st:=⟨H.z,H.d,H.pg,λL=>(H.tn L).ziO⟩
theorem Adv.later{T':Nat}(H:Adv n p T g st)(h:T<=T'):Adv n p T' g st:=⟨⟨H.z.c.later h,H.z.z⟩,H.d,H.pg,H.tn⟩
theorem Yq{j:Nat}{s':za}(H:∀j,j<n->DP p (st j))(h:DP p s'):∀k,k<n->DP p (updS st j s' k):=λk hk=>by
 by_cases e:k=j
 .subst e;rw[zz];exact h
 .rw [zw e];exact(H k hk).same rfl
theorem KY{L j:Nat}{s':za}(H:TNg n L g st)(h:∀r d,d<=2+r->TNs n L r d st->TN n L r d s'):TNg n L g (updS st j s'):=by
 obtain⟨r,d,h1,h2,h3,h4⟩:=H;exact⟨r,d,h1,h2,h3,h4.upd (h r d h2 h4)⟩
theorem Adv.zfX{j:Nat}(H:Adv n p T g st)(hj:j<n)(fr:zj5):Adv n p T g (updS st j ((st j).zfM n j fr)):=
 have C:=H.z.c
 ⟨H.z.zfX hj fr,Yq H.d ((H.d j hj).zfX C.V hj (C.nd j hj) fr),H.pg.upd C hj ((H.pg j hj).zfX C.V hj (C.nd j hj) fr) (ya (st j) n j fr) (yE (st j) n j fr),λL=>KY (H.tn L) λr d hd h=>(h j hj).zfX C.V hj (C.nd j hj) hd fr⟩
theorem Adv.sub{j:Nat}(H:Adv n p T g st)(hj:j<n)(t:zj5)(ht:byt t 0≠118):Adv n p T g (updS st j ((st j).zgd t)):=by
 have C:=H.z.c;obtain⟨k1,k2,k3,k4,k5,k6,k7,k8,k9,k10,k11,k12,k13,k14,k15,k16⟩:=ZR (st j) t;exact⟨H.z.sub hj t ht,Yq H.d ((H.d j hj).sub t),H.pg.upd C hj ((H.pg j hj).sub t) (Vy (st j) j t) (Vw (st j) j t),λL=>KY (H.tn L) λr d _ h=>(h j hj).congr k4 k6 k11 k14 k2⟩
theorem Adv.sent{j:Nat}(H:Adv n p T g st)(hj:j<n):Adv n p T g (updS st j { st j with out:=[] }):=
 have C:=H.z.c
 ⟨H.z.sent hj,Yq H.d ((H.d j hj).same rfl),H.pg.upd C hj ((H.pg j hj).congr rfl rfl (H.pg j hj).lv) (yy rfl) (SgLe.refl _),λL=>KY (H.tn L) λr d _ h=>(h j hj).congr rfl rfl rfl rfl rfl⟩
theorem Adv.tick{j:Nat}(H:Adv n p T g st)(hj:j<n):Adv n p (T+1) (g+1) (updS st j ((st j).zfW j)):=
 have C:=H.z.c
 ⟨H.z.tick hj,Yq H.d ((H.d j hj).tick C.V hj (C.nd j hj)),H.pg.upd C hj ((H.pg j hj).tick C.V hj (C.nd j hj)) (kU (st j) j) (kT (st j) j),λL=>(H.tn L).tick C hj⟩
theorem Adv.ticks(H:Adv n p T g st):Adv n p (T+n) (g+1) (ticksTo n st):=by
 have key:∀k,k<=n->Ctz n p p (T+k) (ticksTo k st)/\(∀j,j<n->DP p (ticksTo k st j))/\PGs n p p (ticksTo k st):=λk=>by
  induction k with
  |zero=>exact λ_=>⟨H.z,H.d,H.pg⟩
  |succ k ih=>
   intro hk;obtain⟨z,d,pg⟩:=ih (by omega);have aa:k<n:=by omega
   exact⟨z.tick aa,Yq d ((d k aa).tick z.c.V aa (z.c.nd k aa)),pg.upd z.c aa ((pg k aa).tick z.c.V aa (z.c.nd k aa)) (kU _ k) (kT _ k)⟩
 obtain⟨z,d,pg⟩:=key n (zjA _);exact⟨z,d,pg,λL=>(H.tn L).ticks H.z.c⟩
theorem Adv.hear{c:xh}(H:Adv n p T g c.1):∀k,k<=n->Adv n p T g (hearK k c).1
 |0,_=>H
 |k+1,h=>(Adv.hear H k (by omega)).sent (by omega)
theorem Adv.zjg{Sb:zj5->Prop}{c c':xh}(H:Adv n p T g c.1)(hm:Moves n Sb c c')(hS:∀t,Sb t->byt t 0≠118):Adv n p T g c'.1:=by
 refine hm (λc=>Adv n p T g c.1) H λx y hx hy=>?_;rcases hy with⟨j,fr,hj,-,e⟩|⟨j,t,hj,ht,e⟩|⟨j,hj,e⟩
 .rw [e];exact hx.zfX hj fr
 .rw [e];exact hx.sub hj t (hS t ht)
 rw[e];exact hx.sent hj
theorem Adv.act{a:ZL}{said:List zj5}{c':xh}(H:Adv n p T g st)(hn:0<n)(hm:Moves n (subR a) (Zr n a st,said) c')(hv:pickN a.k 11=7->byt a.r 0≠118):Adv n p (T+n) (if pickN a.k 11=5\/pickN a.k 11=6 then g+1 else g) c'.1:=by
 refine Adv.zjg (c:=(Zr n a st,said)) ?_ hm λt ht=>by rw[ht.2];exact hv ht.1
 show Adv n p (T+n) _ (Zr n a st);unfold Zr;by_cases h5:pickN a.k 11=5
 .rw [zj2 (zj0 h5),zj2 h5];exact(H.tick (yv hn)).later (by omega)
 rw[zj3 h5];by_cases h6:pickN a.k 11=6
 .rw [zj2 (zj1 h6),zj2 h6];exact H.ticks
 rw[zj3 (λe=>e.elim h5 h6),zj3 h6];exact H.later (by omega)
theorem Adv.up(H:Adv n p T g st):∀d,Adv n p T (g+d) st
 |0=>H
 |d+1=>(Adv.up H d).ziO
end
end
section
theorem Ends.unique{n M M':Nat}{st:Nat->za}(h:Ends n st M)(h':Ends n st M'):M=M':=by
 rcases Nat.lt_trichotomy M M' with h1|h1|h1
 .have:=h'.2 M h1
  rw[h.1] at this;omega
 .exact h1
 have:=h.2 M' h1;rw[h'.1] at this;omega
def Reach(n:Nat)(s0:Nat->za):Nat->(Nat->za)->Prop
 |0,s=>s=s0
 |k+1,s=>∃s' M,Reach n s0 k s'/\Ends n s' M/\s=(flo n (floIn n s') M).1
theorem Reach.unique{n:Nat}{s0:Nat->za}:∀(k:Nat) {s s':Nat->za},Reach n s0 k s->Reach n s0 k s'->s=s'
 |0,_,_,h,h'=>h.trans h'.symm
 |k+1,_,_,⟨a,M,h1,h2,h3⟩,⟨a',M',h1',h2',h3'⟩=>by
  have e:=Reach.unique k h1 h1';subst e;have e2:=h2.unique h2';subst e2;rw[h3,h3']
theorem zeV{α:Type}{P:Nat->α->Prop}{R:Nat->α->α->Prop}{a0:α}(h0:P 0 a0)(hs:∀t a,P t a->∃b,R t a b/\P (t+1) b):∃f:Nat->α,f 0=a0/\∀t,P t (f t)/\R t (f t) (f (t+1)):=by
 let g:(t:Nat)->{ a:α // P t a }:=λt=>Nat.rec (motive:=λt=>{ a:α // P t a }) ⟨a0,h0⟩ (λt x=>⟨Classical.choose (hs t x.1 x.2),(Classical.choose_spec (hs t x.1 x.2)).2⟩) t;exact⟨λt=>(g t).1,rfl,λt=>⟨(g t).2,(Classical.choose_spec (hs t (g t).1 (g t).2)).1⟩⟩
section
variable{n T g:Nat}{p:Nat->Int}{s0:Nat->za}
theorem Reach.ok(C:Ctz n p p T s0)(ho:∀j,j<n->(s0 j).out=[]):∀(k:Nat) {s:Nat->za},Reach n s0 k s->Ctz n p p (T+k*n) s/\∀j,j<n->(s j).out=[]
 |0,s,h=>by
  rw[show s=s0 from h,Nat.zero_mul];exact⟨C,ho⟩
 |k+1,s,⟨a,M,h1,h2,h3⟩=>by
  obtain⟨C1,o1⟩:=Reach.ok C ho k h1;have J:=iter C1 o1 h2;rw[h3,Nat.succ_mul,<-Nat.add_assoc];exact⟨J.c,J.o⟩
theorem Adv.live(A:Adv n p T 10 s0)(h6:n<=6)(ho:∀j,j<n->(s0 j).out=[]):∃t,t<=485/\∀s,Reach n s0 t s->∀j,j<n->(s j).zfF=12:=by
 obtain⟨f,f0,hf⟩:=zeV (P:=λt s=>Ctz n p p (T+t*n) s/\∀j,j<n->(s j).out=[]) (R:=λt s s'=>∃M,Ends n s M/\s'=(flo n (floIn n s) M).1) (a0:=s0) ⟨by rw[Nat.zero_mul];exact A.z,ho⟩ (λt s hs=>by
  obtain⟨M,hM⟩:=Gh hs.1 hs.2;have J:=iter hs.1 hs.2 hM;exact⟨_,⟨M,hM,rfl⟩,by rw[Nat.succ_mul,<-Nat.add_assoc];exact J.c,J.o⟩)
 obtain⟨M,hM⟩:∃M:Nat->Nat,∀t,Ends n (f t) (M t)/\f (t+1)=(flo n (floIn n (f t)) (M t)).1:=⟨λt=>Classical.choose (hf t).2,λt=>Classical.choose_spec (hf t).2⟩;have R:Run n p p T 499 f (λt=>ticksTo n (f t)) (λt=>(flo n (floIn n (f t)) (M t)).2):=λt _=>by
  have J:=iter (hf t).1.1 (hf t).1.2 (hM t).1;rw[(hM t).2];exact J
 have Y:Sys n p p T 499 f (λt=>ticksTo n (f t)) (λt=>(flo n (floIn n (f t)) (M t)).2):=⟨R,by rw[f0];exact A.z,by rw[f0];exact A.d,by rw[f0];exact A.pg⟩;obtain⟨t,ht,aa⟩:=Y.live h6 (λL _=>by rw[f0];exact A.tn L) (by omega) (λt h ht ae inf fr ad j hj=>by
  have:=zbX (hf t).1.1 (hf t).1.2 (hM t).1 (R.dp Y.d0 t (by omega)) (Y.g t (by omega)) ae inf fr ad j hj;rw[(hM t).2];exact this)
 have reach:∀t,Reach n s0 t (f t):=λt=>by
  induction t with
  |zero=>exact f0
  |succ t ih=>exact⟨f t,M t,ih,(hM t).1,(hM t).2⟩
 exact⟨t,ht,λs hs j hj=>by rw[Reach.unique t hs (reach t)];exact aa j hj⟩
end
def Yr(st:Nat->za):Nat->Bool
 |0=>true
 |k+1=>Yr st k&&decide ((ticksTo (k+1) st k).zfF=12)
theorem ZO(st:Nat->za):∀k j,k<=j->(ticksTo k st j).zfF=(st j).zfF
 |0,_,_=>rfl
 |k+1,j,h=>by
  show(updS (ticksTo k st) k _ j).zfF=_;rw[zw (by omega)];exact ZO st k j (by omega)
theorem J1{n T:Nat}{x0 p:Nat->Int}{st:Nat->za}(C:Cty n x0 p T st)(h:∀j,j<n->(st j).zfF=12):∀k,k<=n->Yr st k=true
 |0,_=>rfl
 |k+1,hk=>by
  have ih:=J1 C h k (by omega);have Ck:=C.ticks k (by omega);have Ck1:=C.ticks (k+1) hk;have N:=Ck.nd k (by omega);have h1:(ticksTo k st k).zfF<=(ticksTo (k+1) st k).zfF:=by
   show _<=(updS (ticksTo k st) k _ k).zfF;rw[zz];exact(N.tm.tick N.y.1).2.1.hle
  have h2:=(Ck1.nd k (by omega)).y.1.hgt;have h3:=ZO st k k (zjA _);have h4:=h k (by omega);show(Yr st k&&_)=true;rw[ih,Bool.true_and];exact zjQ (by omega)
theorem JW{n T:Nat}{x0 p:Nat->Int}{st:Nat->za}(C:Ctz n x0 p T st)(ho:∀j,j<n->(st j).out=[])(m:Nat):(flo n (floIn n st) m).2.length<=20000:=by
 obtain⟨F0,o0⟩:=Fk.start C ho;have h1:=Qi F0 o0 m;have h0:Fk n x0 p T (st 0).sg (st,[]):=⟨C,λ_ _ _ hf=>zj0 hf,λ_ hf=>(by cases hf),SgLe.refl _⟩;have hT:=(h0.ticks ho n (zjA _)).z.c;have h2:=Z4 (n:=n) (c:=(ticksTo n st,[])) n (zjA _);have h8:=C.c.V.n8;have h3:∀k,k<=n->potK (ticksTo n st) k<=1308*k:=λk=>by
  induction k with
  |zero=>exact λ_=>zjA _
  |succ k ih=>
   intro hk;have h4:=ih (by omega);have h5:(ticksTo n st k).out.length<=100:=(hT.nd k (by omega)).y.1.out;have h6:Pot (ticksTo n st k)<=1308:=by unfold Pot;omega
   show potK (ticksTo n st) k+Pot (ticksTo n st k)<=_;omega
 have h4:=h3 n (zjA _);have h5:potK (ticksTo n st) n+([]:List zj5).length<=1308*n:=h4;have h6:potK (floIn n st).1 n+(floIn n st).2.length<=potK (ticksTo n st) n+([]:List zj5).length:=h2;omega
theorem kR.ol{B:Nat}{es:List Addr}{m:Int}{Fs:Nat->Nat->Prop}{R:Nat->Prop}{nbs ks cbs:Nat->Nat}{rb n T T' cc:Nat}{gv kv nv sv:Value}{x0 p:Nat->Int}{st:Nat->za}{said:List zj5}{w:World}(h:kR B es m Fs R nbs ks cbs rb n T cc gv kv nv sv st said w)(C:Cty n x0 p T' st):Zp B es m (λ_=>true) x0 (λ_=>none) Fs R nbs ks cbs rb n T cc gv kv nv sv st (st 0).sg said w:=by
 have h0:=h.city.node 0 h.npos;have ho:∀b,OutB B Fs R ks n w b->zcr B (λ_=>true) Fs R ks n w b:=λb hb=>⟨hb.1,hb.2.1,λj hj _=>hb.2.2.1 j hj,hb.2.2.2⟩;have e:JC (λ_=>true) nbs n=gJ nbs n:=by
  unfold JC gJ;simp[Z2]
 refine⟨⟨λj hj _=>h.city.node j hj,λj hj _=>h.city.ok j hj,λj hj _=>C.sg j hj,λj k b hj hk _ _=>h.city.apart j k b hj hk,λj k hj _ hk=>h.city.keys j k hj hk,h0.ring,λk hk=>(h.city.node k hk).key,λk hk=>(h.city.node k hk).kr,h0.rl,h0.glob,h.city.globR,h0.bl⟩,⟨λj hj _=>(C.nd j hj).ni,λj hj _=>C.sg j hj⟩,λq _ hq=>(by cases hq),h.npos,h.blk,h.keyr,by rw[e];exact h.nodes,h.said,ho _ h.occ,λg hg=>ho g (h.okv g hg),λg hg=>ho g (h.onv g hg),λg hg=>ho g (h.osv g hg),λb o hq=>(by cases hq)⟩
end
section
open Proofs.Tryz
variable{es:List Addr}{m:Int}{n:Nat}{t:zj5}
theorem zK.zii{B:Nat}{gv:Value}{rb cc T M:Nat}{st:Nat->za}{said:List zj5}{w:World}(h:zK B es m rb n cc gv T M st said w):(∃v,w.cell? ⟨cc,4,none⟩=some v)/\w.frozen? ⟨cc,4,none⟩=false/\zK B es m rb n cc gv T 0 st [] (w.setCell ⟨cc,4,none⟩ (.slice none 0 0))/\Below B w (w.setCell ⟨cc,4,none⟩ (.slice none 0 0)):=by
 obtain⟨h1,Fs,R,nbs,ks,cbs,kv,nv,sv,h2⟩:=h;have ho:=zf w cc 4 (.slice none 0 0);have hs:zk (λk=>k=cc\/some k=sv.ownBlock) w (w.setCell ⟨cc,4,none⟩ (.slice none 0 0)):=⟨ho.os,ho.tape,ho.output,by rw[ho.size];exact zjA _,λb _ hb=>ho.block b (λe=>hb (zj0 e))⟩;refine⟨⟨_,zjD w cc 4 _ _ _ h2.blk⟩,zt h2.blk 4,⟨zjG _,Fs,R,nbs,ks,cbs,kv,nv,.slice none 0 0,h2.zhC (by rw[setCell_row h2.blk 4 _];rfl) (zjZ _ _ _ _) (zj1 λg hg=>by cases hg) hs⟩,?_⟩;exact Below.same (D:=λb=>b=cc) ⟨ho.os,ho.tape,ho.output,by rw[ho.size];exact zjA _,λb _ hb=>ho.block b hb⟩ (λb e=>by rw[e];exact h2.occ.1) h2.bl
theorem zd1{g:Nat->Int}(hn:n<=8)(hgb:∀i,i<n->1<=g i/\g i<=3):ys n (regOf g n):=⟨hn,λi hi=>by unfold regOf;rw[zj2 hi];exact(hgb i hi).1,λi hi _=>by unfold regOf;rw[zj3 (by omega)]⟩
theorem zfa(h:0<t.size):byt t 0=((t[0]'h).toNat:Int):=by
 unfold byt;have h1:0<t.data.toList.length:=by rw[Array.length_toList];exact h
 rw[zjK,zjJ h1];rfl
theorem zfo(h:¬(0<t.size/\byt t 0=118)):byt t 0≠118:=λe=>by
 rcases Nat.eq_zero_or_pos t.size with h0|h0
 .unfold byt at e;have:t.data.toList=[]:=by
   apply List.eq_nil_of_length_eq_zero;rw[Array.length_toList];exact h0
  rw[this] at e;cases e
 .exact h ⟨h0,e⟩
theorem zbJ(raw:Nat->Int)(p:Option Addr)(q cap:Nat)(size:Int)(acts:Nat->ZL)(ap:Option Addr)(an acap:Nat)(w:World)
 (hraw:qW w w.heap.size p q (λi=>.int .i64 (raw i))) (hq:q<=1048576) (hr:∀i,i<q->-9223372036854775808<=raw i/\raw i<=9223372036854775807) (hsz:zdV size)
 (hacts:Vj w w.heap.size ap an acts) (han:an<=1048576) (hao:∀i,i<an->Zy (acts i)) (hgl:SGL es m w):
 Calls prog 6 #[.slice p q cap,.int .i64 size,.slice ap an acap] w λe w'=>e=.returned (.bool true)/\Below w.heap.size w w':=by
 obtain⟨r,b1⟩:=gen (pickN size 6);have hr6:r<6:=by rw[b1];exact yv (by omega)
 have et:Hid (∀W,Calls prog 26 #[.int .i64 size,.int .i64 6] W λe w'=>e=.returned (.int .i64 (r:Int))/\w'=W):=λW=>by rw[b1];exact yo size 6 W hsz.1 hsz.2 (by omega) (by omega)
 obtain⟨n,hn⟩:∃z,z=1+r:=⟨_,rfl⟩;have hwn:IntKind.i64.wrap (1+(r:Int))=(n:Int):=by rw[xD _ (by omega) (by omega)];omega
 have eb:n<=6:=by omega
 have aF:n<=8:=by omega
 have cR:1<=n:=by omega
 have dz:=zc (GR raw p q cap n w hraw (by unfold maxLen;omega) hr (by omega));obtain⟨dQ,dO,dC⟩:=zS hacts hao hgl;clear hraw hr hsz hacts hao hgl b1 hn;go_enter func6,ntmps6;go_wp2_with fail
 refine(et _).mono ?_;rintro e w0 ⟨rfl,cK⟩;have bY:=cK.symm;clear cK;subst bY;go_wp2_with fail
 refine dz.o.mono ?_;rintro e w1 ⟨v,g,rfl,hv,bq,ch⟩;obtain⟨gp,gc,rfl,hgl⟩:=Z5 hv;obtain⟨bV,dD,eB⟩:=zS ch (dC.o.later ch) hgl;have a6:Hid (vB g n=(regOf g n,true)):=Gf aF cR bq;have bK:Hid (Dom (regOf g n)):=zba bq;have cu:Hid (0<sumTo (regOf g n) 8):=by have:=JT (g:=g) (n:=n) (by rw[a6.o]);rw[a6.o] at this;exact this
 have cr:Hid (ys n (regOf g n)):=zd1 aF bq;have dJ:=zc (zdC g gp n gc w1 hgl bq aF cR dD.o.glob dD.o.globR);clear hv hgl bq ch dz;go_wp2_with fail
 refine dJ.o.mono ?_;rintro e w2 ⟨cc,rb,st,said,rfl,hE,c6,bk,sg0,st0,cZ,cP⟩;obtain⟨dI,dN⟩:=zn hE c6;have aR:Hid (∀j,j<n->(st j).out=[]):=bk;have aT:Hid (Adv n (regOf g n) 0 0 st):=by
  have h1:=Adv.hear (c:=(st0,[])) (cZ.adv (by omega) cr.o bK.o cu.o) n (zjA _);rw[<-cP] at h1;exact h1
 clear hE c6 bk cZ cP dJ;go_wp2;go_loopw [9,10,11,12] (λtv iv _ _ wr=>∃(k tk:Nat) (st1:Nat->za) (said1:List zj5),k<=an/\tk<=10/\iv=.int .i64 k/\tv=.int .i64 tk/\zK w1.heap.size es m rb n cc (.slice gp n gc) (n*k) (100*n+100*n*k) st1 said1 wr/\Below w1.heap.size w1 wr/\(∀j,j<n->(st1 j).out=[])/\Adv n (regOf g n) (n*k) tk st1) (λ_ iv _ _ _=>an-(intOf iv).toNat)
 case atStart=>exact⟨0,0,st,said,zjG _,zjG _,rfl,rfl,dI,dN,aR,aT⟩
 obtain⟨k,tk,st1,said1,hk,htk,rfl,rfl,dm,bu,aK,aO⟩:=hrel;obtain⟨az,au⟩:=zn dm bu;have ar:Hid (∀j,j<n->(st1 j).out=[]):=aK;have ad:=zc aO;clear dm bu aK aO dI dN aR aT;have dK:Hid (Below w.heap.size w wr):=bV.o.trans (au.o.mono bV.o.size);by_cases cV:k<an/\tk<10
 .obtain ⟨cU,dW⟩:=cV
  have ed:(k:Int)<an:=by omega
  have cM:(tk:Int)<10:=by omega
  obtain⟨b,o,rfl,el,b2⟩:=dQ.o.below dK k cU;obtain⟨av,c7⟩:=gen (acts k);have bO:=dO.o k cU;rw[<-c7] at b2 bO;obtain⟨ak,at1,af,ac,⟨mk,mh,mr,mf,mv,mn,ms⟩,rec⟩:=av;have er:Hid (wr.rangeAt b (o+k*12) [.int .i64 ak,.int .i64 at1,.int .i64 af,.int .i64 ac,.int .i64 mk,.int .i64 mh,.int .i64 mr,.int .i64 mf,.int .i64 mv,.bool mn,.string ms,.string rec]):=b2;have dP:Hid (zdV ak):=bO.k;have eu:=zc bO;have bn:n*k<=8*1048576:=Nat.mul_le_mul aF (by omega);obtain⟨pk,b4⟩:=gen (pickN ak 11);have dA:Hid (∀W,Calls prog 26 #[.int .i64 ak,.int .i64 11] W λe w'=>e=.returned (.int .i64 (pk:Int))/\w'=W):=λW=>by rw[b4];exact yo ak 11 W dP.o.1 dP.o.2 (by omega) (by omega)
  have cv:=zc b4;obtain⟨T1,aP⟩:=gen (n*k);obtain⟨M1,bQ⟩:∃z,z=100*n+100*n*k:=⟨_,rfl⟩;have ay:Hid (T1+n=n*(k+1)):=by rw[aP,Nat.mul_succ];exact rfl
  have bd:Hid (M1+100*n=100*n+100*n*(k+1)):=by rw[bQ,Nat.mul_succ];unfold Hid;omega
  have ct:Hid (T1+n<=1000000000000):=by rw[aP];unfold Hid;omega
  have ez:Hid (M1+100*n<=4000000000000):=by rw[bQ,Nat.mul_assoc];unfold Hid;omega
  rw[<-aP,<-bQ] at az;rw[<-aP] at ad;clear b2 bO c7 el b4 aP bQ bn;go_wp2_with (first|(refine zj6 rfl 81 _ rfl b (o+k*12) rfl [.int .i64 ak,.int .i64 at1,.int .i64 af,.int .i64 ac,.int .i64 mk,.int .i64 mh,.int .i64 mr,.int .i64 mf,.int .i64 mv,.bool mn,.string ms,.string rec] _ er.o underlying81 rfl Tryz.zgD ?_)|(refine zh rfl 81 _ _ rfl wr #[.int .i64 ak,.int .i64 at1,.int .i64 af,.int .i64 ac,.int .i64 mk,.int .i64 mh,.int .i64 mr,.int .i64 mf,.int .i64 mv,.bool mn,.string ms,.string rec] rfl rfl 81 _ rfl (by simp[Value.oneCell']) Tryz.zgD ?_;intro w5 bN bt dR;have ax:=zc bt;have bD:=zc bN;have c50:w5.cell? ⟨wr.heap.size,0,none⟩=some (.int .i64 ak):=zjD w5 wr.heap.size 0 _ _ _ bN;have c511:w5.cell? ⟨wr.heap.size,11,none⟩=some (.string rec):=zjD w5 wr.heap.size 11 _ _ _ bN;clear bN bt dR)|fail)
  refine(dA _).mono ?_;rintro e wp ⟨rfl,cJ⟩;have dU:=cJ.symm;clear cJ;subst dU;clear dA c50;have dB:=zc (VR ⟨ak,at1,af,ac,⟨mk,mh,mr,mf,mv,mn,ms⟩,rec⟩ (az.o.below ax) eu aF ez ct);have aE:Hid (Calls prog 28 #[.pointer (some ⟨cc,0,none⟩),.agg #[.int .i64 ak,.int .i64 at1,.int .i64 af,.int .i64 ac,.int .i64 mk,.int .i64 mh,.int .i64 mr,.int .i64 mf,.int .i64 mv,.bool mn,.string ms,.string rec]] w5 λe w'=>e=.returned (.tuple #[])/\∃st' said',Moves n (subR ⟨ak,at1,af,ac,⟨mk,mh,mr,mf,mv,mn,ms⟩,rec⟩) (Zr n ⟨ak,at1,af,ac,⟨mk,mh,mr,mf,mv,mn,ms⟩,rec⟩ st1,said1) (st',said')/\zK w1.heap.size es m rb n cc (.slice gp n gc) (T1+n) (M1+100*n) st' said' w'/\Below w1.heap.size w5 w'/\∀j,j<n->(st' j).out=[]):=dB.o;have aQ:Hid (pickN (ZL.k ⟨ak,at1,af,ac,⟨mk,mh,mr,mf,mv,mn,ms⟩,rec⟩) 11=pk):=cv.o.symm;clear dB;have ek:(pk:Int)=5\/(¬(pk:Int)=5/\(pk:Int)=6)\/(¬(pk:Int)=5/\¬(pk:Int)=6/\¬(pk:Int)=7)\/(¬(pk:Int)=5/\¬(pk:Int)=6/\(pk:Int)=7):=by omega
  rcases ek with h5|⟨h5,h6⟩|⟨h5,h6,h7⟩|⟨h5,h6,h7⟩
  .go_wp2_with (first|(refine zkb rfl 81 _ rfl wr.heap.size rfl 81 #[.int .i64 ak,.int .i64 at1,.int .i64 af,.int .i64 ac,.int .i64 mk,.int .i64 mh,.int .i64 mr,.int .i64 mf,.int .i64 mv,.bool mn,.string ms,.string rec] (0,0) _ bD underlying81 rfl Tryz.zgD ?_)|fail)
   refine aE.o.mono ?_;rintro e w6 ⟨rfl,st2,said2,aj,aq,ah,aa⟩;have ag:Hid (Adv n (regOf g n) (n*(k+1)) (tk+1) st2):=by
    have h1:=ad.o.act (by omega) aj (λe7=>absurd e7 (by rw[aQ.o];omega));rw[zj2 (by rw[aQ.o];omega),ay.o] at h1;exact h1
   have aJ:Hid (zK w1.heap.size es m rb n cc (.slice gp n gc) (n*(k+1)) (100*n+100*n*(k+1)) st2 said2 w6):=by rw[<-ay.o,<-bd.o];exact aq
   have ai:Hid (Below w1.heap.size w1 w6):=(au.o.trans (ax.o.mono az.o.bl)).trans ah;have ae:Hid (∀j,j<n->(st2 j).out=[]):=aa;clear aj aq ah aa aE;go_wp2;go_roundw
   case rel=>exact⟨k+1,tk+1,st2,said2,by omega,by omega,by go_num,by go_num,aJ.o,ai.o,ae.o,ag.o⟩
   simp[intOf];omega
  .go_wp2_with (first|(refine zkb rfl 81 _ rfl wr.heap.size rfl 81 #[.int .i64 ak,.int .i64 at1,.int .i64 af,.int .i64 ac,.int .i64 mk,.int .i64 mh,.int .i64 mr,.int .i64 mf,.int .i64 mv,.bool mn,.string ms,.string rec] (0,0) _ bD underlying81 rfl Tryz.zgD ?_)|fail)
   refine aE.o.mono ?_;rintro e w6 ⟨rfl,st2,said2,aj,aq,ah,aa⟩;have ag:Hid (Adv n (regOf g n) (n*(k+1)) (tk+1) st2):=by
    have h1:=ad.o.act (by omega) aj (λe7=>absurd e7 (by rw[aQ.o];omega));rw[zj2 (by rw[aQ.o];omega),ay.o] at h1;exact h1
   have aJ:Hid (zK w1.heap.size es m rb n cc (.slice gp n gc) (n*(k+1)) (100*n+100*n*(k+1)) st2 said2 w6):=by rw[<-ay.o,<-bd.o];exact aq
   have ai:Hid (Below w1.heap.size w1 w6):=(au.o.trans (ax.o.mono az.o.bl)).trans ah;have ae:Hid (∀j,j<n->(st2 j).out=[]):=aa;clear aj aq ah aa aE;go_wp2;go_roundw
   case rel=>exact⟨k+1,tk+1,st2,said2,by omega,by omega,by go_num,by go_num,aJ.o,ai.o,ae.o,ag.o⟩
   simp[intOf];omega
  .have b5:((pk:Int)==5)=false:=beq_eq_false_iff_ne.2 h5;have b6:((pk:Int)==6)=false:=beq_eq_false_iff_ne.2 h6;have b7:((pk:Int)==7)=false:=beq_eq_false_iff_ne.2 h7;have HN:Hid (¬(pk=5\/pk=6)/\¬pk=7):=⟨λe=>e.elim (λe=>h5 (by omega)) (λe=>h6 (by omega)),λe=>h7 (by omega)⟩;clear h5 h6 h7;go_wp2_with (first|(refine zkb rfl 81 _ rfl wr.heap.size rfl 81 #[.int .i64 ak,.int .i64 at1,.int .i64 af,.int .i64 ac,.int .i64 mk,.int .i64 mh,.int .i64 mr,.int .i64 mf,.int .i64 mv,.bool mn,.string ms,.string rec] (0,0) _ bD underlying81 rfl Tryz.zgD ?_)|fail)
   refine aE.o.mono ?_;rintro e w6 ⟨rfl,st2,said2,aj,aq,ah,aa⟩;have ag:Hid (Adv n (regOf g n) (n*(k+1)) (tk) st2):=by
    have h1:=ad.o.act (by omega) aj (λe7=>absurd e7 (by rw[aQ.o];exact HN.o.2));rw[zj3 (by rw[aQ.o];exact HN.o.1),ay] at h1;exact h1
   have aJ:Hid (zK w1.heap.size es m rb n cc (.slice gp n gc) (n*(k+1)) (100*n+100*n*(k+1)) st2 said2 w6):=by rw[<-ay.o,<-bd.o];exact aq
   have ai:Hid (Below w1.heap.size w1 w6):=(au.o.trans (ax.o.mono az.o.bl)).trans ah;have ae:Hid (∀j,j<n->(st2 j).out=[]):=aa;clear aj aq ah aa aE;go_wp2;go_roundw
   case rel=>exact⟨k+1,tk,st2,said2,by omega,by omega,by go_num,by go_num,aJ.o,ai.o,ae.o,ag.o⟩
   simp[intOf];omega
  by_cases hz:0<(rec.size:Int)
  .have dS:0<rec.size:=by omega
   cases hv:(((rec[0]'dS).toNat:Int)==118) with
   |true=>
    have eC:Hid (zK w1.heap.size es m rb n cc (.slice gp n gc) (n*(k+1)) (100*n+100*n*(k+1)) st1 said1 w5):=(az.o.below ax).mono (by rw[<-ay.o];exact Nat.le_add_right _ _) (by rw[<-bd.o];exact Nat.le_add_right _ _);have cI:Hid (Adv n (regOf g n) (n*(k+1)) tk st1):=ad.o.later (by rw[<-ay.o];exact Nat.le_add_right _ _);have eF:Hid (Below w1.heap.size w1 w5):=au.o.trans (ax.o.mono az.o.bl);clear aE;go_wp2;go_roundw
    case rel=>exact⟨k+1,tk,st1,said1,by omega,by omega,by go_num,by go_num,eC.o,eF.o,ar.o,cI.o⟩
    simp[intOf];omega
   |false=>
    have ey:Hid (byt rec 0≠118):=λe=>by rw[zfa dS] at e;rw[e] at hv;cases hv
    go_wp2_with (first|(refine zkb rfl 81 _ rfl wr.heap.size rfl 81 #[.int .i64 ak,.int .i64 at1,.int .i64 af,.int .i64 ac,.int .i64 mk,.int .i64 mh,.int .i64 mr,.int .i64 mf,.int .i64 mv,.bool mn,.string ms,.string rec] (0,0) _ bD underlying81 rfl Tryz.zgD ?_)|fail)
    refine aE.o.mono ?_;rintro e w6 ⟨rfl,st2,said2,aj,aq,ah,aa⟩;have ag:Hid (Adv n (regOf g n) (n*(k+1)) (tk) st2):=by
     have h1:=ad.o.act (by omega) aj (λ_=>ey.o);rw[zj3 (by rw[aQ.o];omega),ay.o] at h1;exact h1
    have aJ:Hid (zK w1.heap.size es m rb n cc (.slice gp n gc) (n*(k+1)) (100*n+100*n*(k+1)) st2 said2 w6):=by rw[<-ay.o,<-bd.o];exact aq
    have ai:Hid (Below w1.heap.size w1 w6):=(au.o.trans (ax.o.mono az.o.bl)).trans ah;have ae:Hid (∀j,j<n->(st2 j).out=[]):=aa;clear aj aq ah aa aE;go_wp2;go_roundw
    case rel=>exact⟨k+1,tk,st2,said2,by omega,by omega,by go_num,by go_num,aJ.o,ai.o,ae.o,ag.o⟩
    simp[intOf];omega
  have HZ:=zc hz;go_wp2_with (first|(refine zkb rfl 81 _ rfl wr.heap.size rfl 81 #[.int .i64 ak,.int .i64 at1,.int .i64 af,.int .i64 ac,.int .i64 mk,.int .i64 mh,.int .i64 mr,.int .i64 mf,.int .i64 mv,.bool mn,.string ms,.string rec] (0,0) _ bD underlying81 rfl Tryz.zgD ?_)|fail)
  refine aE.o.mono ?_;rintro e w6 ⟨rfl,st2,said2,aj,aq,ah,aa⟩;have ag:Hid (Adv n (regOf g n) (n*(k+1)) (tk) st2):=by
   have h1:=ad.o.act (by omega) aj (λ_=>zfo (λe7=>by have h1:=HZ.o;have h2:0<rec.size:=e7.1;omega));rw[zj3 (by rw[aQ.o];omega),ay.o] at h1;exact h1
  have aJ:Hid (zK w1.heap.size es m rb n cc (.slice gp n gc) (n*(k+1)) (100*n+100*n*(k+1)) st2 said2 w6):=by rw[<-ay.o,<-bd.o];exact aq
  have ai:Hid (Below w1.heap.size w1 w6):=(au.o.trans (ax.o.mono az.o.bl)).trans ah;have ae:Hid (∀j,j<n->(st2 j).out=[]):=aa;clear aj aq ah aa aE;go_wp2;go_roundw
  case rel=>exact⟨k+1,tk,st2,said2,by omega,by omega,by go_num,by go_num,aJ.o,ai.o,ae.o,ag.o⟩
  simp[intOf];omega
 have bF:Hid (∃t,t<=485/\∀s,Reach n st1 t s->∀j,j<n->(s j).zfF=12):=by
  have h1:=ad.o.up (10-tk);rw[show tk+(10-tk)=10 by omega] at h1;exact h1.live eb ar
 have cG:Hid (Ctz n (regOf g n) (regOf g n) (n*k) st1):=ad.o.z;have bn:n*k<=8*1048576:=Nat.mul_le_mul aF (by omega);obtain⟨T1,aP⟩:=gen (n*k);rw[<-aP] at az cG bn;obtain⟨⟨v4,c4⟩,f4,bb,ba⟩:=az.o.zii;obtain⟨w4,bX⟩:=gen (wr.setCell ⟨cc,4,none⟩ (.slice none 0 0));rw[<-bX] at bb ba;have bJ:=zc bb;have bM:Hid (Below w1.heap.size w1 w4):=au.o.trans ba;obtain⟨dr,ct⟩:=zn bX bn;have ej:¬(k:Int)<an\/((k:Int)<an/\¬(tk:Int)<10):=by omega
 clear bb ba bX aP bn cV az au ad dQ dO dK;rcases ej with dT|⟨dT,hx2⟩;all_goals
  go_wp2
  try rw[<-dr.o]
  clear c4 f4;go_loopw [13,14,15,16,17] (λtv _ _ _ _ wr=>∃(t:Nat) (s:Nat->za),t<=500/\tv=.int .i64 t/\Reach n st1 t s/\zK w1.heap.size es m rb n cc (.slice gp n gc) (T1+n*t) 0 s [] wr/\Below w1.heap.size w1 wr/\∀r,r<t->∃s',Reach n st1 r s'/\¬∀j,j<n->(s' j).zfF=12) (λtv _ _ _ _ _=>500-(intOf tv).toNat)
  case atStart=>exact⟨0,st1,zjG _,rfl,rfl,bJ,bM,λr hr=>absurd hr (Nat.not_lt_zero r)⟩
  case round=>
   obtain⟨t,s,ht,rfl,b3,hE,c5,aC⟩:=hrel;have ht5:t<500:=by
    rcases Nat.lt_or_ge t 500 with h1|h1
    .exact h1
    .exfalso;obtain⟨t0,h2,h3⟩:=bF.o;obtain⟨s',h4,h5⟩:=aC t0 (by omega);exact h5 (h3 s' h4)
   have dV:(t:Int)<500:=by omega
   obtain⟨hC,hO⟩:=Reach.ok cG ar t b3;obtain⟨M,hM⟩:=Gh hC hO;have en:M<=20000:=by have h1:=JW hC hO M;rw[hM.1] at h1;exact h1
   have ea:n*t<=8*500:=Nat.mul_le_mul aF (by omega);obtain⟨T2,cl⟩:=gen (T1+n*t);have eo:Hid (T2+n=T1+n*(t+1)):=by rw[cl,Nat.mul_succ];unfold Hid;omega
   have dt:Hid (T2+n<=900000000000):=by have:=ct.o;unfold Hid;omega
   rw[<-cl] at hE;obtain⟨dy,HE,dL,bE,HC,HO,HM⟩:=Qy b3 hE c5 aC hC hO hM;clear b3 hE c5 aC hC hO hM cl ea bJ bM dr;obtain⟨w5,h5⟩:=gen wr;subst h5;go_wp2;go_loopw [14,15] (λdv iv wr=>∃(i:Nat),i<=n/\iv=.int .i64 i/\dv=.bool (Yr s i)/\zK w1.heap.size es m rb n cc (.slice gp n gc) (T2+i) 0 (ticksTo i s) [] wr/\Below w1.heap.size w1 wr) (λ_ iv _=>n-(intOf iv).toNat)
   case atStart=>exact⟨0,zjG _,rfl,rfl,HE,dL⟩
   case round=>
    obtain⟨i,hi,rfl,rfl,dk,bu⟩:=hrel;obtain⟨cD,au⟩:=zn dk bu;obtain⟨bp,Fs,R,nbs,ks,cbs,kv,nv,sv,aX⟩:=dk;obtain⟨gn,gcap,rfl,ec,eh,b8⟩:=aX.nodeAt;have c3:wr.cell? ⟨cc,3,none⟩=some (.slice (some ⟨gn,0,none⟩) n gcap):=zjD wr cc 3 _ _ _ aX.blk;clear bu bp eh HE dL;by_cases aW:i=n
    .have cW:¬(i:Int)<n:=by omega
     have bs:=aW.symm;subst bs;have bG:=zc (jS cD.o aF (by omega));obtain⟨dn,aG⟩:=gen (Yr s n);have eD:=zc aG;rw[<-aG];clear aX b8 aW aG hi;go_wp2_with fail
     refine bG.o.mono ?_;rintro e w6 ⟨rfl,st4,said4,bh,bb,ba,dZ⟩;have bJ:Hid (zK w1.heap.size es m rb n cc (.slice gp n gc) (T2+n) 20000 st4 said4 w6):=bb.mono (zjA _) (by omega);have bM:Hid (Below w1.heap.size w1 w6):=au.o.trans ba;have bB:Hid ((st4,said4)=flo n (floIn n s) 0):=bh;clear bh bb ba dZ bG cD au c3;go_wp2;go_loopw [16,17] (λkv _ wr=>∃(k4:Nat) (st5:Nat->za) (said5:List zj5),k4<=M/\kv=.int .i64 k4/\(st5,said5)=flo n (floIn n s) k4/\zK w1.heap.size es m rb n cc (.slice gp n gc) (T2+n) 20000 st5 said5 wr/\Below w1.heap.size w1 wr) (λkv _ _=>M-(intOf kv).toNat)
     case atStart=>exact⟨0,st4,said4,zjG _,rfl,bB,bJ,bM⟩
     case round=>
      obtain⟨k4,st5,said5,eg,rfl,bP,dj,bt⟩:=hrel;obtain⟨bT,ax,dF⟩:=zS dj bt bP;obtain⟨aM,Fs5,R5,nbs5,ks5,cbs5,kv5,nv5,sv5,cm⟩:=dj;obtain⟨sp,sc,cO,c4,cQ⟩:=cm.zgt;obtain⟨sl,aB⟩:=gen said5.length;have aH:said5=(flo n (floIn n s) k4).2:=by rw[<-bP]
      have aV:st5=(flo n (floIn n s) k4).1:=by rw[<-bP]
      rw[<-aB] at c4;clear bP bt bJ bM bB;by_cases ao:k4=M
      .have b0:sl=M:=by rw[aB,aH,ao];exact HM.o.1
       have cW:¬(k4:Int)<sl:=by omega
       obtain⟨⟨v9,c49⟩,f49,cp,cf⟩:=bT.o.zii;obtain⟨w9,bW⟩:=gen (wr.setCell ⟨cc,4,none⟩ (.slice none 0 0));rw[<-bW] at cp cf;have bS:=zc cp;have bU:Hid (Below w1.heap.size w1 w9):=ax.o.trans cf;have dq:=zc bW;have bC:Hid (Reach n st1 (t+1) st5):=⟨s,M,dy,HM,by rw[aV,ao]⟩;have eE:Hid (Ctz n (regOf g n) (regOf g n) (T1+(t+1)*n) st5):=(Reach.ok cG ar (t+1) bC).1;clear aM cm cO cQ aB aH aV ao b0 cp cf bW c49 bT ax dF eg;cases dn with
       |true=>
        have a7:Hid (Below w.heap.size w w9):=bV.o.trans (bU.o.mono bV.o.size);obtain⟨ee,Fs9,R9,nbs9,ks9,cbs9,kv9,nv9,sv9,dg⟩:=bS.o;have hG:=dC.o.later a7;obtain⟨a0,db⟩:=hG.at 0 (by omega);obtain⟨a1,da⟩:=hG.at 1 (by omega);obtain⟨a2,c9⟩:=hG.at 2 (by omega);obtain⟨a9,c8⟩:=hG.at 9 (by omega);obtain⟨a10,bx⟩:=hG.at 10 (by omega);obtain⟨a11,bw⟩:=hG.at 11 (by omega);have dG:=zc (zdu g [] none 0 (dg.ol eE.o.c) aF (λi hi=>absurd hi (Nat.not_lt_zero i)) (λ_ _ _ k hk=>absurd hk (Nat.not_lt_zero k)) (gm.of hG.1) db da c9 c8 bw hG.2.1 hG.2.2 (hG.c (i:=10) rfl bx) ((eB.o.below bU).more bU.o.size) a6 bK);have bI:Hid (Calls prog 40 #[.pointer (some ⟨cc,0,none⟩),.slice none 0 0] w9 λe w'=>e=.returned (.bool true)/\Below w9.heap.size w9 w'):=dG.o;clear ee dg hG db da c9 c8 bx bw dG bS;go_wp2_with fail
        try rw[<-dq.o]
        refine bI.o.mono ?_;rintro e wz ⟨rfl,cY⟩;have cA:Hid (Below w.heap.size w wz):=a7.o.trans (cY.mono a7.o.size);clear cY bI;go_wp2;go_ret;exact⟨rfl,cA⟩
       |false=>
        have aZ:Hid (∀r,r<t+1->∃s',Reach n st1 r s'/\¬∀j,j<n->(s' j).zfF=12):=λr hr=>by
         rcases Nat.lt_or_ge r t with h1|h1
         .exact bE r h1
         .have e:r=t:=by omega
          subst e;exact⟨s,dy,λcj=>by have h2:=J1 HC.o.c cj n (zjA _);rw[<-eD.o] at h2;cases h2⟩
        have cF:Hid (zK w1.heap.size es m rb n cc (.slice gp n gc) (T1+n*(t+1)) 0 st5 [] w9):=by rw[<-eo.o];exact bS
        clear bS;go_wp2
        try rw[<-dq.o]
        go_roundw
        case rel=>exact⟨t+1,st5,by omega,by go_num,bC.o,cF.o,bU.o,aZ.o⟩
        simp[intOf];omega
      .have bo:k4<said5.length:=by rw[aH];exact HM.o.2 k4 (by omega)
       have cT:(k4:Int)<sl:=by omega
       obtain⟨fr,cX⟩:=gen (said5.getD k4 zj4);have dE:=zc cX;have ep:Hid (sl=said5.length):=aB;have cz:=zc bo;have ef:k4<M:=by omega
       clear aM cm cO cQ aH aV ao cX bo aB;obtain⟨w7,h7⟩:=gen wr;subst h7;go_wp2;clear c4;go_loopw [17] (λiv wr=>∃(i:Nat) (st6:Nat->za),i<=n/\iv=.int .i64 i/\st6=recvK n fr i st5/\zK w1.heap.size es m rb n cc (.slice gp n gc) (T2+n) 20000 st6 said5 wr/\Below w1.heap.size w1 wr) (λiv _=>n-(intOf iv).toNat)
       case atStart=>exact⟨0,st5,zjG _,rfl,rfl,bT,ax⟩
       case round=>
        obtain⟨i,st6,hi,rfl,a8,di,ah⟩:=hrel;obtain⟨aS,ai,dw⟩:=zS di ah a8;obtain⟨aL,Fs6,R6,nbs,ks6,cbs6,kv6,nv6,sv6,aw⟩:=di;obtain⟨gn,gcap,rfl,cS,cd,aU⟩:=aw.nodeAt;have c36:wr.cell? ⟨cc,3,none⟩=some (.slice (some ⟨gn,0,none⟩) n gcap):=zjD wr cc 3 _ _ _ aw.blk;have cC:=zc aL;clear ah a8 aL cd bT ax;by_cases aD:i=n
        .have cW:¬(i:Int)<n:=by omega
         have br:=aD.symm;subst br;have bG:=zc (jS aS.o aF (by omega));clear aw aU aD hi;go_wp2_with fail
         refine bG.o.mono ?_;rintro e w8 ⟨rfl,st8,said8,bg,dh,aN,dY⟩;have bH:Hid ((st8,said8)=flo n (floIn n s) (k4+1)):=by
          rw[bg,dw.o,dE.o];show _=hearK n (recvK n ((flo n (floIn n s) k4).2.getD k4 zj4) n (flo n (floIn n s) k4).1,(flo n (floIn n s) k4).2);rw[<-dF.o]
         have cB:Hid (zK w1.heap.size es m rb n cc (.slice gp n gc) (T2+n) 20000 st8 said8 w8):=⟨by
          have e8:said8=(flo n (floIn n s) (k4+1)).2:=by rw[<-bH.o]
          rw[e8];exact JW HC HO (k4+1),dh.2⟩
         have cH:Hid (Below w1.heap.size w1 w8):=ai.o.trans aN;clear bg dh aN dY bG aS c36;go_wp2;go_roundw
         case rel=>exact⟨k4+1,st8,said8,by omega,by go_num,bH.o,cB.o,cH.o⟩
         simp[intOf];omega
        .have al:i<n:=by omega
         have b9:(i:Int)<n:=by omega
         have ck6:=aU i al;obtain⟨sp7,sc7,bZ,c47,bj⟩:=aw.zgt;obtain⟨sb,dX,csb,bm⟩:=bj k4 cz;subst dX;rw[<-dE.o] at csb;rw[<-ep.o] at c47;obtain⟨bc,cw,ew,C36,CK6,C47,CSB⟩:=Qy aw bm (aw.onv gn rfl) c36 ck6 c47 csb;clear aw aU aD bZ bj bm aS;have dx:Hid (∀W,Below wr.heap.size wr W->Calls prog 29 #[.pointer (some ⟨nbs i,0,none⟩),.string fr] W (Xn w1.heap.size es m (Fs6 i) R6 (nbs i) (ks6 i) rb (cbs6 i) n i (st6 i) fr wr)):=λW hW=>vt bc.o i al fr hW (by have:=dt.o;omega)
         go_upto_region 32 with fail
         refine rgd (S:=λX=>X.cell? ⟨cc,3,none⟩=some (.slice (some ⟨gn,0,none⟩) n gcap)/\X.cell? ⟨gn,i,none⟩=some (.pointer (some ⟨nbs i,0,none⟩))/\X.cell? ⟨cc,4,none⟩=some (.slice (some ⟨sb,0,none⟩) sl sc7)/\X.cell? ⟨sb,k4,none⟩=some (.string fr)) ⟨C36.o,CK6.o,C47.o,CSB.o⟩ (λhH=>?_);refine zQ [(0,some 126,pA cc 0),(1,some 127,pA cc 0),(2,some 128,pA cc 3),(3,some 129,.slice (some ⟨gn,0,none⟩) n gcap),(4,some 130,.int .i64 (i:Int)),(5,some 131,pA gn i),(6,some 132,pA (nbs i) 0),(7,some 133,pA cc 0),(8,some 134,pA cc 0),(9,some 135,pA cc 4),(10,some 136,.slice (some ⟨sb,0,none⟩) sl sc7),(11,some 137,.int .i64 (k4:Int)),(12,some 138,pA sb k4),(13,some 139,.string fr)] _ _ hH (λx h=>aI h.1 (aI h.2.1 (aI h.2.2.1 (h.2.2.2)))) ?_;simp only[ze,AP,pA];refine zv 14 (λK hK=>?_);go_simp;refine(dx _ ((zjB _ wr).drew)).mono ?_;rintro e w8 ⟨F',R',dc,bR,de⟩;have aN:∀b,OutB w1.heap.size Fs6 R6 ks6 n wr b->w8.heap[b]? =wr.heap[b]? :=λb hb=>bR.same.block b hb.2.1 (λe=>e.elim (hb.2.2.1 i al) hb.2.2.2.1);have df:w8.cell? ⟨cc,3,none⟩=some (.slice (some ⟨gn,0,none⟩) n gcap)/\w8.cell? ⟨gn,i,none⟩=some (.pointer (some ⟨nbs i,0,none⟩))/\w8.cell? ⟨cc,4,none⟩=some (.slice (some ⟨sb,0,none⟩) sl sc7)/\w8.cell? ⟨sb,k4,none⟩=some (.string fr):=⟨(zjH (w:=wr) (a:=⟨cc,3,none⟩) (aN cc bc.o.occ)).trans C36.o,(zjH (w:=wr) (a:=⟨gn,i,none⟩) (aN gn ew)).trans CK6.o,(zjH (w:=wr) (a:=⟨cc,4,none⟩) (aN cc bc.o.occ)).trans C47.o,(zjH (w:=wr) (a:=⟨sb,k4,none⟩) (aN sb cw)).trans CSB.o⟩;obtain⟨ev,rfl⟩:=xL de;refine hK.out _ _ (df) (λhH=>?_);clear hK K
         try simp only[AP,AQ]
         refine dnr ?_;have cB:Hid (zK w1.heap.size es m rb n cc (.slice gp n gc) (T2+n) 20000 (recvK n fr (i+1) st5) said5 w8):=⟨cC,_,_,_,_,_,_,_,_,by
          have h1:=bc.o.step al dc bR ((bc.o.city.ok i al).zfX) (zjA (T2+n)) (ya (st6 i) n i fr);show kR _ _ _ _ _ _ _ _ _ _ _ _ _ _ _ _ (updS (recvK n fr i st5) i ((recvK n fr i st5 i).zfM n i fr)) _ _;rw[<-dw.o];exact h1⟩
         have cH:Hid (Below w1.heap.size w1 w8):=ai.o.trans ((bc.o.city.node i al).zin bR);clear dc bR df aN hH de dx;go_wp2;go_roundw
         case rel=>exact⟨i+1,_,by omega,by go_num,rfl,cB.o,cH.o⟩
         simp[intOf];omega
    .have al:i<n:=by omega
     have b9:(i:Int)<n:=by omega
     have ck:=b8 i al;have cy:=zc (aX.city.node i al);have ds:=zc (KZ cy.o (aX.city.ok i al) (by have:=dt.o;omega) (by omega));have cx:=zc aX;clear aX b8 aW cD;go_wp2_with fail
     refine ds.o.mono ?_;rintro e w6 ⟨rfl,F',R',dd,cn⟩;have aw:=cx.o.step al dd cn ((cx.o.city.ok i al).tick) (Nat.le_succ (T2+i)) (kU (ticksTo i s i) i);have aS:Hid (zK w1.heap.size es m rb n cc (.slice gp n gc) (T2+(i+1)) 0 (ticksTo (i+1) s) [] w6):=⟨zjG _,_,_,_,_,_,_,_,_,aw⟩;have ai:Hid (Below w1.heap.size w1 w6):=au.o.trans (cy.o.zin cn);have c36:w6.cell? ⟨cc,3,none⟩=some (.slice (some ⟨gn,0,none⟩) n gcap):=zjD w6 cc 3 _ _ _ aw.blk;have ck6:w6.cell? ⟨gn,i,none⟩=some (.pointer (some ⟨nbs i,0,none⟩)):=aw.zgi i al;obtain⟨V6,dp,ei⟩:=(aw.city.node i al).node;obtain⟨s6,a8⟩:=gen (ticksTo (i+1) s i);have bz:NodeAt (nbs i) (ks i) (Xt cbs i (cbs i) i) V6 s6 w6:=by rw[a8];exact dp
     have du:=zc (ZS (nbs i) (ks i) _ V6 s6 w6 bz);obtain⟨h6,ca⟩:=gen s6.zfF;have aY:Hid (Calls prog 20 #[.pointer (some ⟨nbs i,0,none⟩)] w6 λe w'=>e=.returned (.agg #[.int .i64 (h6:Int),.int .i64 (s6.round:Int),.int .i64 (s6.step:Int),.int .i64 s6.lr,.int .i64 s6.vr,.string s6.lv,.string s6.vv])/\Below w6.heap.size w6 w'):=by rw[ca];exact du
     have bf:Hid (Yr s (i+1)=(Yr s i&&decide (h6=12))):=by unfold Hid;rw[ca,a8];rfl
     clear dd cn aw dp bz ei a8 ca ds du cx cy au c3 ck;cases aG:Yr s i with
     |false=>
      have bL:Hid (Yr s (i+1)=false):=by rw[bf.o,aG];rfl
      clear aY bf aG;go_wp2;go_roundw
      case rel=>exact⟨i+1,by omega,by go_num,by rw[bL.o],aS.o,ai.o⟩
      simp[intOf];omega
     |true=>
      go_wp2_with fail
      refine aY.o.mono ?_;rintro e w7 ⟨rfl,cg⟩;have dH:=zc (aS.o.below cg);have dM:Hid (Below w1.heap.size w1 w7):=ai.o.trans (cg.mono aS.o.bl);clear cg aY aS c36 ck6;have qf:=Tryz.zgU (h6:Int) (s6.round:Int) (s6.step:Int) s6.lr s6.vr s6.lv s6.vv w7;cases cq:((h6:Int)==12) with
      |true=>
       have bL:Hid (Yr s (i+1)=true):=by rw[bf.o,aG,Bool.true_and];exact zjQ (by have:=beq_iff_eq.1 cq;omega)
       clear bf aG;go_wp2;go_roundw
       case rel=>exact⟨i+1,by omega,by go_num,by rw[bL.o],dH.o,dM.o⟩
       simp[intOf];omega
      |false=>
       have bL:Hid (Yr s (i+1)=false):=by rw[bf.o,aG,Bool.true_and];exact zjR (λe=>by rw[e] at cq;cases cq)
       clear bf aG;go_wp2;go_roundw
       case rel=>exact⟨i+1,by omega,by go_num,by rw[bL.o],dH.o,dM.o⟩
       simp[intOf];omega
end
section
open Go.ChangeShapes Go.WideShapes Go.ChangeAt Proofs.Tryz
variable{W:World}
theorem zdb:ownKnob prog.godebug=none:=by kernel_rfl
theorem JG{P:Program}{x:String×DataW Unit}{r:List (String×DataW Unit)}{w:World}(h:laidMet P (x::r) w):laidMet P r w:=by
 obtain⟨ps,hv,ad,aa⟩:=h;obtain⟨g,t,cs,fuel,p,q,_,_,_,_,hq,rfl⟩:=hv;refine⟨q,hq,List.Nodup.sublist (List.sublist_append_right _ _) ad,λb off hm=>aa b off (by simp[hm])⟩
theorem Tryz.etC:prog.globalNamed "errors.errorType" =some 12:=by kernel_rfl
theorem Tryz.rtC:(prog.cutTypes.find? (·.1== "internal/reflectlite.rtype")).map (·.2)=some 211:=by kernel_rfl
theorem Tryz.zix:((List.range 323).filter λt=>prog.rowNamed t [101,114,114,111,114])=[42]:=by kernel_rfl
theorem Tryz.zi8:prog.types.size=323:=by kernel_rfl
theorem Tryz.ziF:typeHandle prog 42=.pointer (some ⟨16,42,none⟩):=by kernel_rfl
theorem G8(h:laidMetH prog Rows.liveUptoRow.laid W):(∃es,Sent es W)/\YG W:=by
 have f1:(Rows.liveUptoRow.laid.filter λx=>x.2.handleName?.isSome)=[("errors.errorType",Rows.laid_errors_errorType)]:=by kernel_rfl
 have f2:(Rows.liveUptoRow.laid.filter λx=>x.2.handleName?.isNone)=("unicode/utf8.acceptRanges",Rows.laid_unicode_utf8_acceptRanges)::(vo.map (λx=>(x.1,.iface "*errors.errorString" (.ptr (.agg [.lit (.string x.2)]))))++[("unicode/utf8.first",Rows.laid_unicode_utf8_first)]):=by kernel_rfl
 unfold laidMetH at h;rw[f1,f2] at h;have h':laidMet prog (("unicode/utf8.acceptRanges",Rows.laid_unicode_utf8_acceptRanges)::(vo.map (λx=>(x.1,.iface "*errors.errorString" (.ptr (.agg [.lit (.string x.2)]))))++[("unicode/utf8.first",Rows.laid_unicode_utf8_first)])) W/\handlesMet prog [("errors.errorType",Rows.laid_errors_errorType)] W:=h;refine⟨Ji [("unicode/utf8.first",Rows.laid_unicode_utf8_first)] (JG h'.1),?_⟩;obtain⟨name,u,ty,e1,e2,e3,e4,e5⟩:=h'.2 _ (List.mem_singleton.2 rfl);have en:name=[101,114,114,111,114]:=(zkd e1).symm;subst en;obtain rfl:=zkd (Tryz.rtC.symm.trans e2);have hm:ty∈(List.range 323).filter λt=>prog.rowNamed t [101,114,114,111,114]:=List.mem_filter.2 ⟨List.mem_range.2 (by rw[<-Tryz.zi8];exact e3),e4⟩;rw[Tryz.zix] at hm;obtain rfl:=List.mem_singleton.1 hm;rw[Tryz.ziF] at e5;unfold YG;simpa using World.var?_cell Tryz.etC e5 0
theorem GW{H:Type}{enc:TypeId×Value->H}{base:Nat}{v:Value}{d:DataW H}{p:List MemPlace}(hv:Value.okWide prog W .any base 22 v)(h:DataW.Trod enc prog W 0 (λ_=>true) true 22 v d p):
 ∃(pa:Option Addr) (n cap:Nat) (g:Nat->Int),v=.slice pa n cap/\qW W W.heap.size pa n (λi=>.int .i64 (g i))/\n<=Rows.uptoBulk d/\(∀i,i<n->-9223372036854775808<=g i/\g i<=9223372036854775807)/\∀x∈p,x.block<W.heap.size:=by
 obtain⟨pa,n,cap,rfl⟩:=okWide_slice underlying22 hv;obtain⟨fuel,hf⟩:=h;have ag:DataW.trod enc prog W 0 (λ_=>true) true fuel 22 [.slice pa n cap]=some (d,p):=hf;rcases open_ints underlying22 underlying3 Tryz.ziZ ag with⟨aa,hx⟩|⟨a,len,cap',zs,aa,_,hl,hm,hz,hx,ad,af⟩
 .simp at aa hx;obtain⟨rfl,rfl,rfl⟩:=aa;obtain⟨rfl,rfl⟩:=hx;exact⟨none,0,0,λ_=>0,rfl,λi hi=>by omega,zjG _,λi hi=>by omega,λx hx=>by cases hx⟩
 simp at aa hx;obtain⟨rfl,rfl,rfl⟩:=aa;obtain⟨rfl,rfl⟩:=hx;simp only[if_true] at hz;obtain⟨b,o,sp⟩:=a;obtain rfl:sp=none:=zbv underlying22 hv;have ae:∀i,i<zs.length->W.cell? ⟨b,o+i,none⟩=some (.int .i64 (zs.getD i 0)):=λi hi=>by show W.cell? (aA b (o+i))=_;rw[<-addr_add];exact ad i hi
 refine⟨_,n,cap,λi=>zs.getD i 0,rfl,λi hi=>⟨b,o,rfl,zjI _ _ (ae i (by omega)),ae i (by omega)⟩,?_,λi hi=>?_,λx hx=>?_⟩
 .have h1:=QO (H:=H) (lits .i64 (zs.take n));have h2:(lits (H:=H) .i64 (zs.take n)).length=n:=by simp[lits];omega
  simp only[Rows.uptoBulk];omega
 .have h1:zs.getD i 0∈zs:=by rw[zjK,zjJ (by omega)];exact List.getElem_mem (by omega)
  have h2:=bounds_i64 (af _ h1);exact⟨h2.1,h2.2⟩
 simp only[MemPlace.row,List.mem_map,List.mem_range] at hx;obtain⟨i,hi,rfl⟩:=hx;exact zjI _ _ (ae i hi)
theorem zbK(os:Os)(args:Array Value):laidMetH prog Rows.liveUptoRow.laid (({ World.doorLaid prog 254 os with heap:=(((World.doorLaid prog 254 os).heap.modify 12 λo=>match o with| .cells _ t frozen=>.cells #[.iface 211 (.agg #[.pointer (some ⟨16,42,none⟩)])] t frozen|o=>o).modify 15 λo=>match o with| .cells _ t frozen=>.cells ([128,191,160,191,128,159,144,191,128,143,0,0,0,0,0,0,0,0,0,0,0,0,0,0,0,0,0,0,0,0,0,0].map λ(z:Nat)=>Value.int .u8 (z:Int)).toArray t frozen|o=>o).modify 14 λo=>match o with| .cells _ t frozen=>.cells (Go.Pinned.utf8FirstZ.map λ(z:Nat)=>Value.int .u8 (z:Int)).toArray t frozen|o=>o }:World).forCall (λ_ _=>0) ⟨#[],args,[]⟩).memory:=
 laidMetH_of_parts (laidMet_of_run' 8 (by kernel_rfl) (by kernel_rfl)) (by kernel_rfl)
theorem G6(os:Os){H:Type}(enc:TypeId×Value->H):∃places,DataW.whole enc prog (({ World.doorLaid prog 254 os with heap:=(((World.doorLaid prog 254 os).heap.modify 12 λo=>match o with| .cells _ t frozen=>.cells #[.iface 211 (.agg #[.pointer (some ⟨16,42,none⟩)])] t frozen|o=>o).modify 15 λo=>match o with| .cells _ t frozen=>.cells ([128,191,160,191,128,159,144,191,128,143,0,0,0,0,0,0,0,0,0,0,0,0,0,0,0,0,0,0,0,0,0,0].map λ(z:Nat)=>Value.int .u8 (z:Int)).toArray t frozen|o=>o).modify 14 λo=>match o with| .cells _ t frozen=>.cells (Go.Pinned.utf8FirstZ.map λ(z:Nat)=>Value.int .u8 (z:Int)).toArray t frozen|o=>o }:World).forCall (λ_ _=>0) ⟨#[],#[.slice none 0 0,.int .i64 0,.slice none 0 0],[]⟩).memory Tryz.f6.params.toList Rows.liveSpec.vars false #[Value.slice none 0 0,Value.int .i64 0,Value.slice none 0 0].toList 8=some ([.nil,.lit (.int .i64 0),.nil],[],places):=
 ⟨[],by kernel_rfl⟩
theorem VK(os:Os)(started:os.Started)(H:Type)(enc:TypeId×Value->H)(F:Stop.Interp):
 ReturnsInHanded {} Tryz.checked os 6 .any ((Rows.OpenSpec.upto Rows.liveSpec).preRow enc prog Tryz.f6 Rows.liveUptoRow.domain false Rows.liveUptoRow.laid) (((Rows.OpenSpec.upto Rows.liveSpec).at F).post enc prog Tryz.f6 false true false false):=by
 obtain⟨places,hx⟩:=G6 os enc;refine returnsInHanded_of_row (C:=Tryz.checked) (s:=Rows.OpenSpec.upto Rows.liveSpec) zdb started (by kernel_rfl) func6
  (witness_row_atRef (enc:=enc) (C:=Tryz.checked) false ({ World.doorLaid prog 254 os with heap:=(((World.doorLaid prog 254 os).heap.modify 12 λo=>match o with| .cells _ t frozen=>.cells #[.iface 211 (.agg #[.pointer (some ⟨16,42,none⟩)])] t frozen|o=>o).modify 15 λo=>match o with| .cells _ t frozen=>.cells ([128,191,160,191,128,159,144,191,128,143,0,0,0,0,0,0,0,0,0,0,0,0,0,0,0,0,0,0,0,0,0,0].map λ(z:Nat)=>Value.int .u8 (z:Int)).toArray t frozen|o=>o).modify 14 λo=>match o with| .cells _ t frozen=>.cells (Go.Pinned.utf8FirstZ.map λ(z:Nat)=>Value.int .u8 (z:Int)).toArray t frozen|o=>o }:World) #[.slice none 0 0,.int .i64 0,.slice none 0 0] rfl (by kernel_rfl) (by kernel_rfl) (by kernel_rfl)
   (OpenSpec.preRow_of_cond 8 hx (by kernel_rfl) (λk hk=>by cases hk;kernel_rfl) (by kernel_rfl) (zbK os _))) ?_
 intro W base args ds gs before ad hW _ ae _ hL aj _;have aa:∀(j:Nat) t v,Tryz.f6.params[j]? =some t->args[j]? =some v->Value.okWide prog W .any base t v:=ad;have ao:=hW;obtain⟨p,q,ai,hV,rfl,hfz,hnd⟩:=hW;have hA:DataW.TrodAll enc prog W 0 (λ_=>true) true Tryz.f6.params.toList args.toList ds p:=ai;rw[Tryz.params6] at hA aa;obtain⟨v0,vs0,d0,ds0,p0,q0,ea0,rfl,rfl,h0,av⟩:=trodAll_cons hA;obtain⟨v1,vs1,d1,ds1,p1,q1,ea1,rfl,rfl,h1,au⟩:=trodAll_cons av;obtain⟨v2,vs2,d2,ds2,p2,q2,ea2,rfl,rfl,h2,ar⟩:=trodAll_cons au;obtain⟨rfl,rfl,rfl⟩:=trodAll_nil ar;have eargs:args=#[v0,v1,v2]:=by
  apply Array.toList_inj.1;rw[ea0,ea1,ea2]
 subst eargs;clear ea0 ea1 ea2;obtain⟨rfl,rfl⟩:=trodVars_none hV;obtain⟨⟨es,hS⟩,aq⟩:=G8 hL;obtain⟨m,hm⟩:=cell_of_shapedOpen_int (P:=prog) (g:=13) (t:=3) (zero:=#[.int .i64 0]) aj (zjP (by kernel_rfl)) (by kernel_rfl) rfl (by kernel_rfl) (by kernel_rfl) underlying3;have hk:=ae _ rfl;have hbd:Rows.uptoBulk d0+Rows.uptoBulk d1+Rows.uptoBulk d2<=1048576:=by
  have h2:=zjP hk;simp only[List.cons_append,List.nil_append,Rows.uptoBulkAll] at h2;omega
 obtain⟨pa,n,cap,g,rfl,hl,hn,ak,ah⟩:=GW (aa 0 22 v0 rfl rfl) h0;obtain⟨s1,rfl,rfl,rfl,w1⟩:=open_int underlying3 (aa 1 3 v1 rfl rfl) h1;obtain⟨ap,an,acap,acts,rfl,af,al,han,ag⟩:=zbs (by omega) (aa 2 75 v2 rfl rfl) h2;clear ai ad;refine(zbJ g pa n cap s1 acts ap an acap W hl (by omega) ak ⟨(bounds_i64 w1).1,(bounds_i64 w1).2⟩ af (by omega) al ⟨hS,aq,hm⟩).mono λe W' ⟨he,hb⟩=>?_;subst he;have e1:((Rows.OpenSpec.upto Rows.liveSpec).at F).fn H ([d0,.lit (.int .i64 s1),d2]++[])={ results:=[.lit (.bool true)],args:=[d0,.lit (.int .i64 s1),d2] }:=rfl;refine⟨_,rfl,_,_,_,[],p0++([]++(p2++[])),[],ao,?_,?_,?_,hb.frame _,λh=>by cases h⟩
 .rw [e1];exact trodAll_mk1 (shut_bool underlying4 true)
 .rw [e1];exact trodAll_cons_mk (Below.trod (by kernel_rfl) (by kernel_rfl) (zjP (by kernel_rfl)) h0 hb ah) (trodAll_cons_mk (Below.trod (by kernel_rfl) (by kernel_rfl) (zjP (by kernel_rfl)) h1 hb (λx hx=>by cases hx)) (trodAll_cons_mk (Below.trod (by kernel_rfl) (by kernel_rfl) (zjP (by kernel_rfl)) h2 hb ag) trodAll_mk0))
 rw[e1];rfl
theorem G9:Rows.LiveUptoSaid:=
 OpenClaim.holds_of_cond 6 Tryz.f6 rfl rfl rfl rfl rfl rfl rfl ⟨rfl,rfl,rfl,rfl,rfl⟩ rfl rfl rfl rfl rfl (by kernel_rfl) func6 (by kernel_rfl)
  (zjP (by kernel_rfl)) (by unfold Func.isWrapper;first|(rw[zj2 (by decide+kernel)];kernel_rfl)|(rw[zj3 (by decide+kernel)];exact⟨rfl,rfl⟩))
  (λos started H enc _ F=>by rw[OpenClaim.pre_eq_preRow];exact VK os started H enc F)
theorem G7(f:FuncId)(fn:Func)(hf:Tryz.pinned.checked.prog.funcNamed "synod/synodkeep.Live" =some f)(hfn:Tryz.pinned.checked.prog.funcs[f]? =some fn):
 true=Tryz.pinned.checked.prog.looks []/\∀(j:Nat) t,fn.params[j]? =some t->Tryz.pinned.checked.prog.wantsStandIn t=false:=by
 obtain rfl:f=6:=zkd ((show prog.funcNamed "synod/synodkeep.Live" =some 6 by kernel_rfl).symm.trans hf) |>.symm;obtain rfl:fn=Tryz.f6:=(zkd (func6.symm.trans hfn)).symm;refine⟨by kernel_rfl,λj t ht=>?_⟩;rw[Tryz.params6] at ht;have hm:t∈[22,3,75]:=by simpa using Array.mem_of_getElem? ht
 have aa:([22,3,75].all λu=> !prog.wantsStandIn u)=true:=by kernel_rfl
 exact(show prog.wantsStandIn t=false by simpa using List.all_eq_true.1 aa t hm)
theorem live_card:Rows.LiveUptoCardSaid:=
 Claim7.holds_tied_plain_at .later [] _ _ _ _ G9 (λ_ h=>by cases h) (by kernel_rfl) (λ_ h=>by cases h) liveUpto_row_tie rfl ⟨rfl,rfl⟩ (by kernel_rfl) rfl G7 (by kernel_rfl)

#print axioms live_card

import Derived.Test.YtcfjhbcpjpgodaaGreatDoorJ38
namespace Go.Proofs.YtcfjhbcpjpgodaaGreatDoor
open Go.RowKit
set_option maxRecDepth 100000
set_option maxHeartbeats 0
set_option linter.all false
section
theorem switch{P:Nat->Prop}{b:Nat}(h0:¬P b):∀d,P (b+d)->∃c,b<=c/\c+1<=b+d/\¬P c/\P (c+1)
 |0,h=>absurd h h0
 |d+1,h=>by
  by_cases hd:P (b+d)
  .obtain ⟨c,h1,h2,h3,h4⟩:=switch h0 d hd
   exact⟨c,h1,by omega,h3,h4⟩
  .exact ⟨b+d,by omega,by omega,hd,h⟩
theorem zaP{n m G:Nat}(h0:0<n)(h6:n<=6)(hG:G<n):∃i,i<6/\(m+i) % n=G:=by
 have:n=1\/n=2\/n=3\/n=4\/n=5\/n=6:=by omega
 rcases this with h|h|h|h|h|h<;>subst h
 .exact ⟨0,by omega,by omega⟩
 .exact ⟨(G+(2-m % 2)) % 2,by omega,by omega⟩
 .exact ⟨(G+(3-m % 3)) % 3,by omega,by omega⟩
 .exact ⟨(G+(4-m % 4)) % 4,by omega,by omega⟩
 .exact ⟨(G+(5-m % 5)) % 5,by omega,by omega⟩
 exact⟨(G+(6-m % 6)) % 6,by omega,by omega⟩
theorem zaQ{I:Nat->Bool}(f:Nat->Int):∀n,(∃j,j<n/\I j=true)->∃G,G<n/\I G=true/\∀i,i<n->I i=true->f i<=f G
 |0,⟨j,hj,_⟩=>absurd hj (Nat.not_lt_zero _)
 |n+1,hex=>by
  by_cases h:∃j,j<n/\I j=true
  .obtain ⟨G,h1,h2,h3⟩:=zaQ f n h
   by_cases hn:I n=true/\f G<f n
   .refine ⟨n,Nat.lt_succ_self _,hn.1,λi hi hIi=>?_⟩
    by_cases e:i=n
    .rw [e];exact Int.le_refl _
    .have:=h3 i (by omega) hIi
     omega
   .refine ⟨G,by omega,h2,λi hi hIi=>?_⟩
    by_cases e:i=n
    .subst e;rcases Int.lt_or_le (f G) (f i) with h4|h4
     .exact absurd ⟨hIi,h4⟩ hn
     .exact h4
    .exact h3 i (by omega) hIi
  .obtain ⟨j,hj,hIj⟩:=hex
   have e:j=n:=by
    rcases Nat.lt_or_ge j n with h1|h1
    .exact absurd ⟨j,h1,hIj⟩ h
    .omega
   subst e;refine⟨j,hj,hIj,λi hi hIi=>?_⟩;by_cases e:i=j
   .rw [e];exact Int.le_refl _
   .exact absurd ⟨i,by omega,hIi⟩ h
section
variable{n T K h a e:Nat}{x0 p:Nat->Int}{st u:Nat->Nat->za}{said:Nat->List zj5}{I:Nat->Bool}
theorem Win.zjy(W:Win n x0 p T K st u said h a e I){t r d:Nat}(h2:t<=e)(htn:TNs n h r d (st t)):¬Q3 n p h (r+1) (st t):=λ⟨b,hb,hv⟩=>by
 obtain⟨q,q8,hq⟩:=jP (W.cc h2).zhk hb;obtain⟨hqn,fr,f1,-,-,f4,f5⟩:=hv q q8 hq;have:=(htn 0 (W.cc h2).n1).fr q hqn fr f1 f4;omega
theorem Win.zjz(W:Win n x0 p T K st u said h a e I){c r G:Nat}(h1:a<=c)(he:c+1+(2+r)<=e)(h20:r<20)(no:¬Q3 n p h r (st c))(yes:Q3 n p h r (st (c+1)))(hG:G<n)(hIG:I G=true)(g:Gd (st (c+1)) n I G):(∀j,j<n->I j=true->(st (c+1+(1+r)+1) j).round=r+1)/\¬Q3 n p h (r+1) (st (c+1+(1+r)))/\Gd (st (c+1+(1+r)+1)) n I G/\turnOf p (h+(r+1))≠G:=by
 have hK:=W.eK;have tn:=W.wait h1 (by omega) no;have rd:∀k,k<=1+r->∀j,j<n->I j=true->(st (c+1+k) j).round=r:=λk hk j hj aa=>by
  have h3:=(tn k hk (by omega) j hj).rd (W.at_ _ (by omega) (by omega) j hj aa);have h4:=W.ge (show a<=c+1+k by omega) (by omega) hj aa (by omega) (W.up yes (by omega) (by omega));omega
 have gd:∀k,k<=1+r->Gd (st (c+1+k)) n I G:=λk=>by
  induction k with
  |zero=>exact λ_=>g
  |succ k ih=>exact λhk=>W.ziN (t:=c+1+k) (by omega) (by omega) (rd k (by omega)) (rd (k+1) hk) hG hIG (ih (by omega))
 have ad:TNs n h r 1 (st (c+1+(1+r))):=by
  have:=tn (1+r) (zjA _) (by omega);rw[show 2+r-(1+r)=1 by omega] at this;exact this
 have J:=W.Y.R (c+1+(1+r)) (by omega);have hu:∀j,j<n->I j=true->r<(u (c+1+(1+r)) j).round:=λj hj aa=>by
  have hc:c+1<=e:=by omega
  have N:=(W.cc hc).nd j hj;have e0:=rd 0 (by omega) j hj aa;have e0':(st (c+1) j).round=r:=e0;have hb:=((W.cc hc).q j hj).q8 (by rw[e0'];exact W.zil (by omega) hc hj aa yes);obtain⟨v,hv,v1,v2,v3,v4⟩:=N.tm.f3 hb (by omega);have hh0:=W.at_ (c+1) (by omega) hc j hj aa;have ai:=W.at_ (c+1+(1+r)) (by omega) (by omega) j hj aa;have ah:=W.at_ (c+1+(1+r)+1) (by omega) (by omega) j hj aa;have ag:=J.hu hj;have e1:=rd (1+r) (zjA _) j hj aa;have af:v∈(st (c+1+(1+r)) j).tims:=by
   rcases(W.Y.R.ziT hj (c+1) (1+r) (by omega)).2 v hv with h5|h5
   .exact h5
   exfalso;rcases h5.2 with h6|⟨h6,h7⟩
   .omega
   rcases h7 with h7|⟨h7,-,-,h8⟩
   .omega
   have:=h8 v1;omega
  have htm:=W.Y.R.time hj (c+1) (1+r) (by omega);have htu:=J.zib hj;obtain⟨t1,t2,-,-⟩:=J.zha hj;rcases t1.2 v af with h5|h5
  .exfalso;have:=t2 v h5;rw[e0'] at v4;omega
  rcases h5.2 with h6|⟨h6,h7⟩
  .omega
  rcases h7 with h7|⟨h7,-,-,h8⟩
  .omega
  have:=h8 v1;omega
 have ae:TNs n h (r+1) 1 (st (c+1+(1+r)+1)):=TNs.it J (λj hj=>(ad j hj).up (1+1)) (by omega) (by omega);have rd':∀j,j<n->I j=true->(st (c+1+(1+r)+1) j).round=r+1:=λj hj aa=>by
  have h3:=(ae j hj).rd (W.at_ _ (by omega) (by omega) j hj aa);have h4:=hu j hj aa;have h5:=(J.rel _ (xp J.c.c.V) j).1.2;have ai:=W.at_ (c+1+(1+r)) (by omega) (by omega) j hj aa;have ah:=W.at_ (c+1+(1+r)+1) (by omega) (by omega) j hj aa;have ag:=J.hu hj;omega
 exact⟨rd',W.zjy (by omega) ad,W.zjj (by omega) (by omega) (rd (1+r) (zjA _)) rd' ad hu hG hIG (gd (1+r) (zjA _)),λhp=>W.decide (by omega) (by omega) (rd (1+r) (zjA _)) rd' ad hu hG hIG (gd (1+r) (zjA _)) hp⟩
structure Epo (n:Nat) (p:Nat->Int) (h:Nat) (st:Nat->Nat->za) (I:Nat->Bool) (G q b:Nat):Prop where
 no:¬Q3 n p h q (st b)
 rd:∀j,j<n->I j=true->(st (b+1) j).round=q
 gd:Gd (st (b+1)) n I G
theorem Win.zjl(W:Win n x0 p T K st u said h a e I){q b G:Nat}(h1:a<=b)(he:b+1+(7+3*q)<=e)(h20:q<20)(hG:G<n)(hIG:I G=true)(E:Epo n p h st I G q b):∃b',b<=b'/\b'<=b+(7+3*q)/\Epo n p h st I G (q+1) b'/\turnOf p (h+(q+1))≠G:=by
 have hK:=W.eK;have hv:=W.zgg (r:=q) (t:=b+1) (by omega) (by omega) (λj hj aa=>by rw[E.rd j hj aa];exact zjA _);rw[show b+1+(5+2*q)=b+(6+2*q) by omega] at hv;obtain⟨c,c1,c2,c3,c4⟩:=switch (P:=λt=>Q3 n p h q (st t)) E.no (6+2*q) hv;have rd:∀k,b+1+k<=c+1->∀j,j<n->I j=true->(st (b+1+k) j).round=q:=λk hk j hj aa=>by
  have hh:=W.at_ (b+1+k) (by omega) (by omega) j hj aa;have h3:=W.zhD (show a<=b+1 by omega) (show b+1<=b+1+k by omega) (by omega) hj aa;rw[E.rd j hj aa] at h3;have h4:(st (b+1+k) j).round<=q:=by
   rcases Nat.lt_or_ge (b+1+k) (c+1) with h5|h5
   .rcases Nat.lt_or_ge q (st (b+1+k) j).round with h6|h6
    .exact absurd (W.up (W.rj (by omega) hj hh h6) (by omega) (by omega)) c3
    exact h6
   have h6:=(W.wait (by omega) (by omega) c3 0 (by omega) (by omega) j hj).rd;have h7:(st (c+1) j).zfF=h->(st (c+1) j).round<=q:=h6;rw[show b+1+k=c+1 by omega] at hh ⊢;exact h7 hh
  omega
 have gd:∀k,b+1+k<=c+1->Gd (st (b+1+k)) n I G:=λk=>by
  induction k with
  |zero=>exact λ_=>E.gd
  |succ k ih=>exact λhk=>W.ziN (t:=b+1+k) (by omega) (by omega) (rd k (by omega)) (rd (k+1) hk) hG hIG (ih (by omega))
 have gc:=gd (c-b) (by omega);rw[show b+1+(c-b)=c+1 by omega] at gc;obtain⟨d1,d2,d3,d4⟩:=W.zjz (by omega) (by omega) h20 c3 c4 hG hIG gc;exact⟨c+1+(1+q),by omega,by omega,⟨d2,d1,d3⟩,d4⟩
theorem Win.first(W:Win n x0 p T K st u said h a e I)(hn:¬Q3 n p h 5 (st a))(he:a+29<=e):∃r G b,r<=5/\a<=b/\b+1<=a+28/\G<n/\I G=true/\Epo n p h st I G (r+1) b/\turnOf p (h+(r+1))≠G:=by
 have hK:=W.eK;obtain⟨r,r5,ag,aa⟩:∃r,r<=5/\¬Q3 n p h r (st a)/\(r=0\/∃r',r=r'+1/\Q3 n p h r' (st a)):=by
  by_cases h0:Q3 n p h 0 (st a)
  .obtain ⟨c,c1,c2,c3,c4⟩:=switch (P:=λr=>¬Q3 n p h r (st a)) (b:=0) (λf=>f h0) 5 hn
   exact⟨c+1,by omega,c4,zj1 ⟨c,rfl,Classical.byContradiction c3⟩⟩
  exact⟨0,by omega,h0,zj0 rfl⟩
 have hq:Q3 n p h r (st (a+(6+3*r))):=by
  rcases aa with h0|⟨r',h0,h1⟩
  .subst h0;have hv:=W.zgg (r:=0) (t:=a) (zjA _) (by omega) (λj hj ae=>zjG _);exact W.up hv (by omega) (by omega)
  subst h0;have hv:=W.zgg (r:=r'+1) (t:=a+(2+r')) (by omega) (by omega) (λj hj ae=>W.enter (zjA _) (by omega) hj ae (by omega) h1);exact W.up hv (by omega) (by omega)
 obtain⟨c,c1,c2,c3,c4⟩:=switch (P:=λt=>Q3 n p h r (st t)) ag (6+3*r) hq;obtain⟨j0,j1,j2⟩:=jP (W.cc (show a<=e by omega)).zhk W.I2;obtain⟨G,hG,af,ad⟩:=zaQ (I:=I) (λj=>(st (c+1) j).lr) n ⟨j0,W.In j0 j1 j2,j2⟩;have gd:Gd (st (c+1)) n I G:=λi hi ah=>Int.le_trans (ad i hi ah) (W.gg (show c+1<=e by omega) G hG).lv;obtain⟨d1,d2,d3,d4⟩:=W.zjz c1 (by omega) (by omega) c3 c4 hG af gd;exact⟨r,G,c+1+(1+r),r5,by omega,by omega,hG,af,⟨d2,d1,d3⟩,d4⟩
theorem Win.short(W:Win n x0 p T K st u said h a e I)(h6:n<=6)(hn:¬Q3 n p h 5 (st a)):e<a+184:=by
 rcases Nat.lt_or_ge e (a+184) with h|he
 .exact h
 exfalso;obtain⟨r,G,b,r5,b1,b2,hG,aa,E,t0⟩:=W.first hn (by omega);obtain⟨b',c1,c2,E1,t1⟩:=W.zjl b1 (by omega) (by omega) hG aa E;obtain⟨b2',d1,d2,E2,t2⟩:=W.zjl (by omega) (by omega) (by omega) hG aa E1;obtain⟨b3',f1,f2,E3,t3⟩:=W.zjl (by omega) (by omega) (by omega) hG aa E2;obtain⟨b4',g1,g2,E4,t4⟩:=W.zjl (by omega) (by omega) (by omega) hG aa E3;obtain⟨b5',k1,k2,E5,t5⟩:=W.zjl (by omega) (by omega) (by omega) hG aa E4;have C:=W.cc (show a<=e by omega);obtain⟨i,i6,hi⟩:=zaP (m:=h+(r+1)) C.n1 h6 hG;have hz:turnOf p (h+(r+1)+i)=G:=by rw[YS C.V C.n1];exact hi
 have:i=0\/i=1\/i=2\/i=3\/i=4\/i=5:=by omega
 rcases this with h|h|h|h|h|h<;>subst h
 .exact t0 hz
 .exact t1 hz
 .exact t2 hz
 .exact t3 hz
 .exact t4 hz
 exact t5 hz
end
end
section
section
variable{n T K:Nat}{x0 p:Nat->Int}{st u:Nat->Nat->za}{said:Nat->List zj5}
theorem Run.zhG(R:Run n x0 p T K st u said){j:Nat}(hj:j<n)(a:Nat):∀d,a+d<=K->Kn (st a j) (st (a+d) j)
 |0,_=>Kn.refl _
 |d+1,h=>(Run.zhG R hj a d (by omega)).trans ((R (a+d) (by omega)).zhG hj)
theorem Run.since(R:Run n x0 p T K st u said){q:Nat}(hq:q<n)(a:Nat):∀d,a+d<=K->∀fr∈(st (a+d) 0).sg q,fr∈(st a 0).sg q\/∃t,a<=t/\t<a+d/\fr∈said t
 |0,_,fr,hf=>zj0 hf
 |d+1,h,fr,hf=>by
  rcases(R (a+d) (by omega)).new q hq fr hf with h1|h1
  .rcases Run.since R hq a d (by omega) fr h1 with h2|⟨t,h2,h3,h4⟩
   .exact zj0 h2
   .exact zj1 ⟨t,h2,by omega,h4⟩
  .exact zj1 ⟨a+d,by omega,by omega,h1⟩
theorem Sys.zhH(Y:Sys n x0 p T K st u said){h s t j:Nat}(htK:t<=K)(top:∀r,s<=r->r<=t->∀i,i<n->(st r i).zfF<=h)(hj:j<n)(hat:(st s j).zfF=h)(h5:s+5<=t):Zo n (st t j):=by
 have R:=Y.R;have atj:∀i,i<n->(st s i).zfF=h->∀r,s<=r->r<=t->(st r i).zfF=h:=λi hi hs r r1 r2=>by
  have a1:=R.hle hi r1 (by omega);have a2:=top r r1 r2 i hi;omega
 have kn:∀r,s<=r->r<t->∀fr∈said r,(decV fr).h=(h:Int)->∃e∈(st t j).log,e.fr=fr:=λr r1 r2 fr hf hh=>by
  have J:=R r (by omega);have hu:=J.hu hj;have a1:=atj j hj hat r r1 (by omega);have a2:=atj j hj hat (r+1) (by omega) (by omega);have k1:=J.kn fr hf j hj (by omega);have k2:=R.zhG hj (r+1) (t-(r+1)) (by omega) fr k1;rw[show r+1+(t-(r+1))=t by omega] at k2;have a3:=atj j hj hat t (by omega) (zjA _);unfold Knows at k2;rw[hh,a3] at k2;rcases k2 with k|k|k
  .omega
  .exact k.2
  omega
 intro q hq fr hf hh;rw[atj j hj hat t (by omega) (zjA _)] at hh;rw[Y.sg htK hj] at hf;have h1:=R.since hq s (t-s) (by omega) fr (by rw[show s+(t-s)=t by omega];exact hf);rcases h1 with h1|⟨r,r1,r2,r3⟩
 .have C:=(Y.c s (by omega)).c;have aa:(st s q).zfF=h:=by
   have m:=((C.nd q hq).ni.mine fr (by rw[C.sg q hq];exact h1)).pos;have b:=top s (zjA _) (by omega) q hq;omega
  obtain⟨k,hk,ag⟩:∃k,k<5/\((st s q).time+k+1) % 5=0:=⟨4-(st s q).time % 5,by omega,by omega⟩;have J:=R (s+k) (by omega);have af:=R.time hq s k (by omega);obtain⟨g,g',g1,g2,-,-,e⟩:=J.tick q hq;have ah:fr∈(u (s+k) q).sg q:=by
   rw[e];refine g2 q fr (kT _ q q fr (g1 q fr ?_));rw[Y.sg (by omega) hq];exact Y.zi6 (by omega) (by omega) q fr h1
  have hu:=J.hu hq;have a1:=atj q hq aa (s+k) (by omega) (by omega);have a2:=atj q hq aa (s+k+1) (by omega) (by omega);obtain⟨x,hx,ae,ad⟩:=(J.cu.c.nd q hq).lv.c.own fr ah (by rw[hh];omega);have h3:=J.own q hq (by rw[af];exact ag) x hx ad;rw[ae] at h3;exact kn (s+k) (by omega) (by omega) fr h3 hh
 exact kn r r1 (by omega) fr r3 hh
end
def NwH(i L:Nat)(G:List zj5)(s:za):Prop:=L<s.zfF/\∀fr∈s.sg i,(decV fr).h=(L:Int)->fr∈G
section
variable{n i S T L:Nat}{x0 p:Nat->Int}{G:List zj5}{s:za}
theorem NwH.same{s':za}(H:NwH i L G s)(h1:s'.sg i=s.sg i)(h2:s.zfF<=s'.zfF):NwH i L G s':=⟨by have:=H.1;omega,by rw[h1];exact H.2⟩
theorem NwH.zgg{s0:za}{k v:Int}{nl:Bool}{t:zj5}{st:Nat}(H:NwH i L G s)(h1:s0.sg=s.sg)(h2:s0.dec=s.dec):NwH i L G ((s0.zfI i k v nl t).zfO st):=by
 have eh:s0.zfF=s.zfF:=by unfold za.zfF;rw[h2]
 refine⟨?_,λfr hf hh=>?_⟩
 .show L<(s0.zfI i k v nl t).dec.length;rw[yF,h2];exact H.1
 rcases XI s0 i k v nl t st fr hf with e|e
 .rw [h1] at e;exact H.2 fr e hh
 rw[e] at hh;have hh':(s0.zfF:Int)=(L:Int):=hh;have:=H.1;omega
theorem NwH.begin{s0:za}{r:Nat}(H:NwH i L G s)(h1:s0.sg=s.sg)(h2:s.zfF<=s0.zfF):NwH i L G (s0.zfH i r):=by
 have k1:=yB s0 i r;have H1:=H.1;refine⟨?_,λfr hf hh=>?_⟩
 .show L<(s0.zfH i r).dec.length;rw[k1];show L<s0.zfF;omega
 rcases YB s0 i r fr hf with e|⟨-,-,e,-⟩
 .rw [h1] at e;exact H.2 fr e hh
 omega
theorem NwH.one(H:NwH i L G s)(ht:(s.zfT (za.zfY i) i).1=true):NwH i L G (s.zfT (za.zfY i) i).2:=by
 refine zE (C:=NwH i L G) ht (λq _=>?_) (λ_ r _ _ _=>H.begin rfl (zjA _)) (λ_ _ _ q _ _ _ _=>?_) (λ_ _ _ _ q _ _ _ _ _=>?_) (λ_ _ _ _=>H.zgg (s0:=s) rfl rfl) (λ_ _ _ _ _=>H.same rfl (zjA _)) (λ_ _ _ _=>H.same rfl (zjA _))
 .have hk:=yb s q;unfold za.zfR;rw[zu];split
  .exact H.same rfl (by show s.zfF<=(s.kept q).zfF;omega)
  exact H.begin rfl (by show s.zfF<=(s.kept q).zfF;omega)
 .split
  .exact H.zgg (s0:=s) rfl rfl
  exact H.zgg (s0:=s) rfl rfl
 split
 .exact H.zgg (s0:=(s.zfZ q.m.s).zf3) rfl rfl
 exact H.same rfl (zjA _)
theorem NwH.go(i:Nat):∀(f:Nat) (s:za),NwH i L G s->NwH i L G (za.zgn i f s)
 |0,_,H=>H
 |f+1,s,H=>by
  rw[za.zgn];split
  .rename_i h1;exact NwH.go i f _ (H.one h1)
  .exact H
theorem NwH.due(i:Nat):∀(f:Nat) (s:za),NwH i L G s->NwH i L G (za.zf0 i f s)
 |0,_,H=>H
 |f+1,s,H=>by
  rw[za.zf0];split
  .exact H
  .rename_i t l hl;split
   .have Hp:NwH i L G s.zfQ:=H.same rfl (zjA _);exact NwH.due i f _ (NwH.go i 2200 _ (ye (C:=NwH i L G) (λ_ _ _ _=>Hp.zgg (s0:=s.zfQ) rfl rfl) (λ_ _ _ _=>Hp.zgg (s0:=s.zfQ) rfl rfl) (λ_ _ _ _=>Hp.begin rfl (zjA _)) (λ_=>Hp)))
   .exact H
theorem NwH.tick(H:NwH i L G s):NwH i L G (s.zfW i):=by
 have h1:=NwH.due i (s.tims.length+1) s.zfN (H.same rfl (by show s.dec.length<=(s.dec.map _).length;simp));obtain⟨-,a2,-,a4,-⟩:=yw (za.zf0 i (s.tims.length+1) s.zfN);show NwH i L G (za.zf0 i (s.tims.length+1) s.zfN).again;exact h1.same (by rw[a2]) (by unfold za.zfF;rw[a4];exact zjA _)
theorem NwH.zfX(H:NwH i L G s)(fr:zj5):NwH i L G (s.zfM n i fr):=by
 refine zG (C:=NwH i L G) H (λk hk _=>?_) (λa b c=>NwH.go i 2200 _ ?_)
 .obtain ⟨-,a2,-,a4,-⟩:=yh s k
  exact H.same (by rw[a2]) (by rw[a4];exact zjA _)
 unfold za.zf5;split
 .exact H.same rfl (zjA _)
 exact H.same rfl (zjA _)
theorem NwH.upd{k:Nat}{st:Nat->za}{s':za}(C:Cty n x0 p T st)(hi:i<n)(hk:k<n)(H:NwH i L G (st i))(so:SgO k (st k) s')(h:k=i->NwH i L G s'):NwH i L G (updS st k s' i):=by
 by_cases e:i=k
 .subst e;rw[zz];exact h rfl
 rw[zw e];exact H.same (by show s'.sg i=(st i).sg i;rw[so i e,(C.sg k hk).trans (C.sg i hi).symm]) (zjA _)
theorem NwH.it{st u st':Nat->za}{said:List zj5}(J:It n x0 p T st u st' said)(hi:i<n)(H:NwH i L G (st i)):NwH i L G (st' i):=by
 have hu:=J.tinv (λ_ s=>NwH i L G (s i)) (λs k hk C H=>H.upd C.c hi hk (kU (s k) k) λe=>by subst e;exact H.tick) H;exact J.inv (λs=>NwH i L G (s i)) (λs k fr hk _ C H=>H.upd C.c hi hk (ya (s k) n k fr) λe=>by subst e;exact H.zfX fr) (λs k hk C H=>H.upd C.c hi hk (yy rfl) λe=>by subst e;exact H.same rfl (zjA _)) hu
end
section
variable{n T K:Nat}{x0 p:Nat->Int}{st u:Nat->Nat->za}{said:Nat->List zj5}
theorem Run.left(R:Run n x0 p T K st u said){i L a:Nat}(hi:i<n)(hL:L<(st a i).zfF):∀d,a+d<=K->NwH i L ((st a i).sg i) (st (a+d) i)
 |0,_=>⟨hL,λfr hf _=>hf⟩
 |d+1,h=>NwH.it (R (a+d) (by omega)) hi (Run.left R hi hL d (by omega))
def TNg(n h g:Nat)(st:Nat->za):Prop:=∃r d,1<=d/\d<=2+r/\2*(g+d)=(r+1)*(r+4)/\TNs n h r d st
theorem TNg.next{h g T:Nat}{st u st':Nat->za}{said:List zj5}(J:It n x0 p T st u st' said)(H:TNg n h g st):TNg n h (g+1) st':=by
 obtain⟨r,d,h1,h2,h3,h4⟩:=H;rcases Nat.lt_or_ge 1 d with h5|h5
 .refine ⟨r,d-1,by omega,by omega,by rw[<-h3];omega,TNs.it J (d:=d-1) ?_ (by omega) (by omega)⟩
  rw[show d-1+1=d by omega];exact h4
 have e:d=1:=by omega
 subst e;refine⟨r+1,r+3,by omega,by omega,?_,TNs.it J (d:=r+3) (λj hj=>(h4 j hj).up (r+3+1)) (by omega) (by omega)⟩;have e1:(r+1+1)*(r+1+4)=(r+1)*(r+4)+(2*r+6):=by
  simp only[Nat.add_mul,Nat.mul_add];omega
 rw[e1,<-h3];omega
theorem TNg.low{h g:Nat}{st:Nat->za}(H:TNg n h g st):∃r d,r*(r+3)<=2*g/\TNs n h r d st:=by
 obtain⟨r,d,h1,h2,h3,h4⟩:=H;refine⟨r,d,?_,h4⟩;have e1:(r+1)*(r+4)=r*(r+3)+(2*r+4):=by
  simp only[Nat.add_mul,Nat.mul_add];omega
 rw[e1] at h3;omega
theorem Run.zjp(R:Run n x0 p T K st u said){h g a:Nat}(H:TNg n h g (st a)):∀d,a+d<=K->TNg n h (g+d) (st (a+d))
 |0,_=>H
 |d+1,hd=>TNg.next (R (a+d) (by omega)) (Run.zjp R H d (by omega))
def Zn(n:Nat)(p:Nat->Int)(h:Nat)(st:Nat->za):Prop:=yg 2 p (λj=>decide (j<n/\h<=(st j).zfF))=true
theorem Zn.mono{h h':Nat}{st st':Nat->za}{x:Nat->Int}(hd:Dom x)(hx:ki x p)(H:Zn n p h st)(hle:∀j,j<n->h<=(st j).zfF->h'<=(st' j).zfF):Zn n p h' st':=by
 unfold Zn yg at H ⊢;have h1:=zjP H;have h2:powB p (λj=>decide (j<n/\h<=(st j).zfF)) 8<=powB p (λj=>decide (j<n/\h'<=(st' j).zfF)) 8:=by
  rw[<-yW 8 (zjA _) hx,<-yW 8 (zjA _) hx];refine js (λi=>(hd i).1) 8 λq _ hq=>?_;have:=zjP hq;exact zjQ ⟨this.1,hle q this.1 this.2⟩
 exact zjQ (by omega)
theorem Zn.of{h:Nat}{st:Nat->za}{x:Nat->Int}(hd:Dom x)(hx:ki x p){b:Nat->Bool}(hb:yg 2 p b=true)(hle:∀j,j<8->b j=true->j<n/\h<=(st j).zfF):Zn n p h st:=by
 unfold Zn yg at *;have h1:=zjP hb;have h2:powB p b 8<=powB p (λj=>decide (j<n/\h<=(st j).zfF)) 8:=by
  rw[<-yW 8 (zjA _) hx,<-yW 8 (zjA _) hx];exact js (λi=>(hd i).1) 8 λq q8 hq=>zjQ (hle q q8 hq)
 exact zjQ (by omega)
theorem Cty.most{T h:Nat}{r:Int}{st:Nat->za}(C:Cty n x0 p T st)(hq:QU n p (st 0).sg 3 (h:Int) r):Zn n p h st:=by
 obtain⟨x,hd,hx⟩:=C.zif;obtain⟨b,hb,hv⟩:=hq;refine Zn.of hd hx hb λj j8 ad=>?_;obtain⟨aa,fr,f1,-,-,f4,-⟩:=hv j j8 ad;refine⟨aa,?_⟩;have:=((C.nd j aa).ni.mine fr (by rw[C.sg j aa];exact f1)).pos;omega
theorem Ctz.left{T h j:Nat}{st:Nat->za}(C:Ctz n x0 p T st)(hD:DP p (st j))(hj:j<n)(hh:h<(st j).zfF):Zn n p h st:=by
 have hk:(st j).dec[h]? =some (st j).dec[h]:=zjJ hh;obtain⟨r,-,-,-,-,-,b,hb,hv⟩:=hD h _ hk;obtain⟨x,hd,hx⟩:=C.c.zif;refine Zn.of hd hx hb λq q8 aa=>?_;obtain⟨f,f1,-,f3,-,-,-,f7⟩:=hv q q8 aa;have hz:=((C.z j hj).dec _ (List.mem_of_getElem? hk)).2 f f1;obtain⟨q',b1,b2,b3⟩:=hz.by;have e:q'=q:=by omega
 subst e;refine⟨b1,?_⟩;have:=((C.c.nd q' b1).ni.mine f (by rw[(C.c.sg q' b1).trans (C.c.sg j hj).symm];exact b2)).pos;omega
theorem Ctz.fresh{T h d:Nat}{st:Nat->za}(C:Ctz n x0 p T st)(hD:∀j,j<n->DP p (st j))(h12:h<12)(hno:¬Zn n p h st):TNs n h 0 d st:=λj hj=>by
 have N:=C.c.nd j hj;have hle:(st j).zfF<=h:=by
  rcases Nat.lt_or_ge h (st j).zfF with h1|h1
  .exact absurd (C.left (hD j hj) hj h1) hno
  .exact h1
 have rd:(st j).zfF=h->(st j).round<=0:=λe=>by
  rcases Nat.lt_or_ge 0 (st j).round with h1|h1
  .have h2:=N.lv.c.rj h1 (by omega);rw[e,C.c.sg j hj] at h2;exact absurd (C.c.most h2) hno
  .exact h1
 refine⟨rd,λv hv v1 v2 _=>?_,λv hv v2=>?_,λq hq fr hf hh=>?_⟩
 .have h3:=N.lv.c.t3q v hv v1;rw[v2,C.c.sg j hj] at h3;exact absurd (C.c.most h3) hno
 .rcases N.tm.th v hv with h4|⟨h4,h5⟩
  .omega
  .have:=rd (by omega)
   omega
 .by_cases h3:1<=(decV fr).r
  .have h4:=N.lv.c.sgi.j q hq fr hf h3;rw[hh,C.c.sg j hj] at h4;exact absurd (C.c.most h4) hno
  .omega
end
end
section
theorem ze9{n h:Nat}{sg:Nat->List zj5}{x:Nat->Int}{b:zj5}{cert:List zj5}(hc:Vi n sg x h b cert):∀fr∈cert,(decV fr).h=(h:Int):=λfr hf=>by
 obtain⟨-,bb,h2,-⟩:=hc;obtain⟨i,hi,he⟩:=List.getElem_of_mem hf;have h3:=h2.want i hi;have e:cert.getD i zj4=fr:=by rw[zjK,zjJ hi,he];rfl
 have h4:decV (cert.getD i zj4)=QZ (h:Int) (decV (cert.getD 0 zj4)).r b (decV (cert.getD i zj4)).f:=h3;rw[e] at h4;rw[h4];rfl
def Bef(p:Nat->Int)(h:Nat)(Gz:zj5->Prop)(L:List zj5)(a:Int):Prop:=∀k:Nat,h<=k->(k:Int)<a->∃d:xC,DPd p k d/\(Gz d.prop\/d.prop∈L)/\∀f∈d.cert,Gz f\/f∈L
theorem Bef.mono{p:Nat->Int}{h:Nat}{Gz:zj5->Prop}{L L':List zj5}{a a':Int}(H:Bef p h Gz L a)(hL:∀f∈L,f∈L')(ha:a'<=a):Bef p h Gz L' a':=λk h1 h2=>by
 obtain⟨d,d1,d2,d3⟩:=H k h1 (by omega);exact⟨d,d1,d2.imp id (hL _),λf hf=>(d3 f hf).imp id (hL f)⟩
structure NB0 (p:Nat->Int) (h:Nat) (Gz:zj5->Prop) (sd:List zj5) (s:za):Prop where
 n1:∀l1 f l2,s.out=l1++f::l2->Bef p h Gz (sd++l1) (decV f).h
 n2:Bef p h Gz (sd++s.out) (s.zfF:Int)
 n3:∀e,e∈s.log\/e∈s.ahead->Gz e.fr\/e.fr∈sd\/e.fr∈s.out
def NB(p:Nat->Int)(h:Nat)(Gz:zj5->Prop)(sd:List zj5)(s:za):Prop:=100<=s.out.length\/NB0 p h Gz sd s
section
variable{p:Nat->Int}{h:Nat}{Gz:zj5->Prop}{sd:List zj5}{s:za}{i n S T:Nat}{x0:Nat->Int}
theorem NB.same{s':za}(H:NB p h Gz sd s)(h1:s'.out=s.out)(h2:s'.zfF=s.zfF)(h3:∀e,e∈s'.log\/e∈s'.ahead->e∈s.log\/e∈s.ahead):NB p h Gz sd s':=by
 rcases H with H|H
 .exact zj0 (by rw[h1];exact H)
 exact zj1 ⟨by rw[h1];exact H.n1,by rw[h1,h2];exact H.n2,λe he=>(by rw[h1];exact H.n3 e (h3 e he))⟩
theorem NB.put{s':za}{f:zj5}(H:NB p h Gz sd s)(h1:s'.out=put1 s.out f)(h2:s'.zfF=s.zfF)(hf:(decV f).h<=(s.zfF:Int))(h3:∀e,e∈s'.log\/e∈s'.ahead->(e∈s.log\/e∈s.ahead)\/e.fr=f):NB p h Gz sd s':=by
 rcases Nat.lt_or_ge s.out.length 100 with hl|hl
 .have e1:s'.out=s.out++[f]:=by rw[h1];unfold put1;rw[zj2 hl]
  rcases H with H|H
  .omega
  refine zj1 ⟨λl1 f' l2 he=>?_,?_,λe he=>?_⟩
  .rw [e1] at he;rcases List.append_eq_append_iff.1 he with⟨l,a1,a2⟩|⟨l,a1,a2⟩
   .cases l with
    |nil=>
     rw[List.append_nil] at a1;rw[List.nil_append] at a2;have e2:f=f':=(List.cons.inj a2).1;rw[<-e2,a1];exact H.n2.mono (λ_ h=>h) hf
    |cons x l=>
     rw[List.cons_append] at a2;have:=(List.cons.inj a2).2;cases l<;>cases this
   cases l with
   |nil=>
    rw[List.append_nil] at a1;rw[List.nil_append] at a2;have e2:f'=f:=(List.cons.inj a2).1;rw[e2,<-a1];exact H.n2.mono (λ_ h=>h) hf
   |cons x l=>
    rw[List.cons_append] at a2;have e2:f'=x:=(List.cons.inj a2).1;rw[e2];exact H.n1 l1 x l a1
  .rw [e1,h2];exact H.n2.mono (λg hg=>(by rw[<-List.append_assoc];exact List.mem_append_left _ hg)) (Int.le_refl _)
  rw[e1];rcases h3 e he with h4|h4
  .exact (H.n3 e h4).imp id λh5=>h5.imp id λh6=>List.mem_append_left _ h6
  rw[h4];exact zj1 (zj1 (List.mem_append_right _ (List.mem_singleton.2 rfl)))
 exact zj0 (by rw[h1];unfold put1;rw[zj3 (by omega)];exact hl)
theorem NB.ziS(l:List zj5):∀{s:za},NB p h Gz sd s->(∀f∈l,(decV f).h<=(s.zfF:Int))->NB p h Gz sd { s with out:=Go.Proofs.YtcfjhbcpjpgodaaGreatDoor.putL s.out l }:=by
 induction l with
 |nil=>intro s H _;exact H
 |cons a l ih=>
  intro s H hl;have h1:NB p h Gz sd { s with out:=put1 s.out a }:=H.put rfl rfl (hl a (zjV ..)) λe he=>zj0 he;exact ih h1 λf hf=>hl f (List.mem_cons_of_mem _ hf)
theorem NB.send{s0:za}{k v:Int}{nl:Bool}{t:zj5}{st:Nat}(H:NB p h Gz sd s)(h1:s0.out=s.out)(h2:s0.dec=s.dec)(h3:s0.log=s.log)(h4:s0.ahead=s.ahead):NB p h Gz sd ((s0.zfI i k v nl t).zfO st):=by
 have H0:NB p h Gz sd s0:=H.same h1 (by unfold za.zfF;rw[h2]) (by rw[h3,h4];exact λ_ h=>h);unfold za.zfI;split
 .exact H0.same rfl rfl λ_ h=>h
 split
 .rename_i hb;obtain⟨-,ad⟩:=gN hb;refine H0.put (f:=s0.enc i k v nl t) rfl rfl ?_ λe he=>?_
  .unfold za.enc;rw[ad];exact Int.le_refl _
  rcases he with he|he
  .have aa:e∈s0.log++[⟨s0.msg i k v nl t,s0.enc i k v nl t,true⟩]:=he;rcases List.mem_append.1 aa with h5|h5
   .exact zj0 (zj0 h5)
   rw[List.mem_singleton.1 h5];exact zj1 rfl
  exact zj0 (zj1 he)
 exact H0.same rfl rfl λ_ h=>h
theorem NB.begin{s0:za}{r:Nat}(H:NB p h Gz sd s)(h1:s0.out=s.out)(h2:s0.dec=s.dec)(h3:s0.log=s.log)(h4:s0.ahead=s.ahead):NB p h Gz sd (s0.zfH i r):=by
 unfold za.zfH;split
 .exact NB.send (st:=((s0.zfL r 1).zfI i 1 s0.vr false (if s0.vr<0 then blockF s0.x s0.wait else s0.vv)).step) (s0:=s0.zfL r 1) H h1 h2 h3 h4
 exact H.same h1 (by show s0.dec.length=s.dec.length;rw[h2]) (by show∀e,e∈s0.log\/e∈s0.ahead->_;rw[h3,h4];exact λ_ h=>h)
theorem NB.keep{q:zl}(N:Nd n i x0 p S T s)(D:DP p s)(H:NB p h Gz sd s)(hq:s.zgr=some q):NB p h Gz sd (s.zfR i q):=by
 obtain⟨r,hr,ae⟩:=jt hq;obtain⟨ad,-⟩:=yO ae;have dd:DPd p s.zfF ⟨q.m.s,q.fr,certTo (votesForB 3 q.m.r q.m.s) s.log 8,false⟩:=by
  refine D.keep N hq s.zfF _ ?_;rw[Yb];show(s.dec++[_])[s.dec.length]? =_;rw[zjM (zjA _),Nat.sub_self];rfl
 have base:NB p h Gz sd ((s.kept q).zfK ((s.kept q).ahead.filter λe=> !(s.kept q).zfJ e.m)):=by
  rcases H with H|H
  .exact zj0 H
  refine zj1 ⟨H.n1,λk h1 h2=>?_,λe he=>?_⟩
  .have hk:=yb s q;have h2':(k:Int)<((s.kept q).zfF:Int):=h2;rcases Nat.lt_or_ge k s.zfF with h3|h3
   .exact H.n2 k h1 (by omega)
   have e:k=s.zfF:=by omega
   rw[e];refine⟨_,dd,?_,λf hf=>?_⟩
   .rcases H.n3 q (zj0 ad) with a|a|a
    .exact zj0 a
    .exact zj1 (List.mem_append_left _ a)
    exact zj1 (List.mem_append_right _ a)
   obtain⟨x,hx,-,aa,-⟩:=ka.1 hf;rw[<-aa];rcases H.n3 x (zj0 hx) with a|a|a
   .exact zj0 a
   .exact zj1 (List.mem_append_left _ a)
   exact zj1 (List.mem_append_right _ a)
  rcases he with he|he
  .exact H.n3 e (zj1 (List.mem_filter.1 he).1)
  cases he
 unfold za.zfR;rw[zu];split
 .exact base.same rfl rfl λ_ h=>h
 exact base.begin rfl rfl rfl rfl
theorem NB.one(N:Nd n i x0 p S T s)(D:DP p s)(H:NB p h Gz sd s)(ht:(s.zfT (za.zfY i) i).1=true):NB p h Gz sd (s.zfT (za.zfY i) i).2:=by
 refine zE (C:=NB p h Gz sd) ht (λq hq=>H.keep N D hq) (λ_ r _ _ _=>H.begin rfl rfl rfl rfl) (λ_ _ _ q _ _ _ _=>?_) (λ_ _ _ _ q _ _ _ _ _=>?_) (λ_ _ _ _=>H.send (s0:=s) rfl rfl rfl rfl) (λ_ _ _ _ _=>H.same rfl rfl λ_ h=>h) (λ_ _ _ _=>H.same rfl rfl λ_ h=>h)
 .split
  .exact H.send (s0:=s) rfl rfl rfl rfl
  exact H.send (s0:=s) rfl rfl rfl rfl
 split
 .exact H.send (s0:=(s.zfZ q.m.s).zf3) rfl rfl rfl rfl
 exact H.same rfl rfl λ_ h=>h
theorem NB.go(V:ys n p)(hi:i<n):∀(f:Nat) (s:za),Nd n i x0 p S T s->DP p s->NB p h Gz sd s->NB p h Gz sd (za.zgn i f s)
 |0,_,_,_,H=>H
 |f+1,s,N,D,H=>by
  rw[za.zgn];split
  .rename_i h1;exact NB.go V hi f _ (N.one V hi h1) (D.one N h1) (H.one N D h1)
  .exact H
theorem NB.due(V:ys n p)(hi:i<n):∀(f:Nat) (s:za),Nd n i x0 p S T s->DP p s->NB p h Gz sd s->NB p h Gz sd (za.zf0 i f s)
 |0,_,_,_,H=>H
 |f+1,s,N,D,H=>by
  rw[za.zf0];split
  .exact H
  .rename_i t l hl;split
   .rename_i hd;have N1:=N.zgq V hi hl hd;have D1:DP p (s.zfQ.zga i t):=(show DP p s.zfQ from D.same rfl).exp i t;have Hp:NB p h Gz sd s.zfQ:=H.same rfl rfl λ_ h=>h;have H1:NB p h Gz sd (s.zfQ.zga i t):=ye (C:=NB p h Gz sd) (λ_ _ _ _=>Hp.send (s0:=s.zfQ) rfl rfl rfl rfl) (λ_ _ _ _=>Hp.send (s0:=s.zfQ) rfl rfl rfl rfl) (λ_ _ _ _=>Hp.begin rfl rfl rfl rfl) (λ_=>Hp);exact NB.due V hi f _ (N1.zgN V hi) (DP.go V hi 2200 _ N1 D1) (NB.go V hi 2200 _ N1 D1 H1)
   .exact H
theorem NB.tick(V:ys n p)(hi:i<n)(N:Nd n i x0 p S T s)(D:DP p s)(H:NB p h Gz sd s)(Nt:Nd n i x0 p S (T+1) (za.zf0 i (s.tims.length+1) s.zfN)):NB p h Gz sd (s.zfW i):=by
 have D0:DP p s.zfN:=λk d hk=>by
  have aa:(s.dec.map λd=>{ d with told:=false })[k]? =some d:=hk;rw[List.getElem?_map] at aa;cases hs:s.dec[k]? with
  |none=>rw[hs] at aa;cases aa
  |some d0=>
   rw[hs] at aa;have e:d={ d0 with told:=false }:=(zkd aa).symm;rw[e];exact(D k d0 hs).told false
 have H0:NB p h Gz sd s.zfN:=H.same rfl (by show(s.dec.map _).length=s.dec.length;simp) λ_ h=>h;have H1:=NB.due V hi (s.tims.length+1) s.zfN N.zfN D0 H0;unfold za.zfW za.again;split
 .refine NB.ziS _ H1 λf hf=>?_;unfold zJ at hf;obtain⟨e,he,ad⟩:=List.mem_map.1 hf;have E:=Nt.ni.log e (List.mem_filter.1 he).1;rw[<-ad,E.m,E.h];exact Int.le_refl _
 exact H1
theorem NB.zfX(V:ys n p)(hi:i<n)(N:Nd n i x0 p S T s)(D:DP p s)(H:NB p h Gz sd s){fr:zj5}(hf:fr∈sd):NB p h Gz sd (s.zfM n i fr):=by
 refine zG (C:=NB p h Gz sd) H (λk hk _=>?_) (λa b c=>NB.go V hi 2200 _ (N.take a b c) (D.same (vm s _)) ?_)
 .unfold za.zf2;split
  .exact H
  have hd:s.dec[k]? =some (s.dec.getD k yr):=by rw[zjK,zjJ hk];rfl
  have h1:=ze9 (N.ni.cert k ((s.dec.getD k yr).block,(s.dec.getD k yr).cert) (by unfold za.zhr;rw[List.getElem?_map,hd];rfl));obtain⟨r,-,-,h2,-⟩:=D k _ hd;have H1:=NB.ziS ((s.dec.getD k yr).prop::(s.dec.getD k yr).cert) H λf hf=>by
   rcases List.mem_cons.1 hf with h3|h3
   .rw [h3,h2];omega
   rw[h1 f h3];omega
  exact H1.same rfl (by show(s.dec.set k _).length=s.dec.length;rw[List.length_set]) λ_ h=>h
 rcases H with H|H
 .refine zj0 ?_;unfold za.zf5;split<;>exact H
 refine zj1 ?_;unfold za.zf5;split
 .refine ⟨H.n1,H.n2,λe he=>?_⟩
  rcases he with he|he
  .rcases List.mem_append.1 (show e∈s.log++[_] from he) with h5|h5
   .exact H.n3 e (zj0 h5)
   rw[List.mem_singleton.1 h5];exact zj1 (zj0 hf)
  exact H.n3 e (zj1 he)
 refine⟨H.n1,H.n2,λe he=>?_⟩;rcases he with he|he
 .exact H.n3 e (zj0 he)
 rcases List.mem_append.1 (show e∈s.ahead++[_] from he) with h5|h5
 .exact H.n3 e (zj1 h5)
 rw[List.mem_singleton.1 h5];exact zj1 (zj0 hf)
theorem NB0.sg(H:NB0 p h Gz sd s)(g:Nat->List zj5):NB0 p h Gz sd { s with sg:=g }:=⟨H.n1,H.n2,H.n3⟩
theorem NB0.more(H:NB0 p h Gz sd s)(l:List zj5):NB0 p h Gz (sd++l) s:=by
 refine⟨λl1 f l2 he=>(H.n1 l1 f l2 he).mono (λg hg=>?_) (Int.le_refl _),H.n2.mono (λg hg=>?_) (Int.le_refl _),λe he=>(H.n3 e he).imp id λh5=>h5.imp (λh6=>List.mem_append_left _ h6) id⟩
 .rcases List.mem_append.1 hg with h1|h1
  .exact List.mem_append_left _ (List.mem_append_left _ h1)
  exact List.mem_append_right _ h1
 rcases List.mem_append.1 hg with h1|h1
 .exact List.mem_append_left _ (List.mem_append_left _ h1)
 exact List.mem_append_right _ h1
theorem NB0.heard(H:NB0 p h Gz sd s):NB0 p h Gz (sd++s.out) { s with out:=[] }:=by
 refine⟨λl1 f l2 he=>?_,H.n2.mono (λg hg=>List.mem_append_left _ hg) (Int.le_refl _),λe he=>?_⟩
 .have aa:[]=l1++f::l2:=he;cases l1<;>cases aa
 rcases H.n3 e he with h1|h1|h1
 .exact zj0 h1
 .exact zj1 (zj0 (List.mem_append_left _ h1))
 exact zj1 (zj0 (List.mem_append_right _ h1))
end
end
section
structure FI (n:Nat) (p:Nat->Int) (h:Nat) (Gz:zj5->Prop) (c:xh):Prop where
 nb:∀j,j<n->NB0 p h Gz c.2 (c.1 j)
 o2:∀l1 f l2,c.2=l1++f::l2->Bef p h Gz l1 (decV f).h
 ln:∀j,j<n->(c.1 j).out.length<100
 dp:∀j,j<n->DP p (c.1 j)
section
variable{n T h:Nat}{x0 p:Nat->Int}{Gz:zj5->Prop}{g0:Nat->List zj5}{c:xh}
theorem FI.act{k:Nat}{s':za}(H:FI n p h Gz c)(hk:k<n)(hn:NB p h Gz c.2 s')(hl:s'.out.length<100)(hd:DP p s'):FI n p h Gz (updS c.1 k s',c.2):=by
 refine⟨λj hj=>?_,H.o2,λj hj=>?_,λj hj=>?_⟩
 .show NB0 p h Gz c.2 (updS c.1 k s' j);by_cases e:j=k
  .subst e;rw[zz];rcases hn with a|a
   .omega
   exact a
  rw[zw e];exact(H.nb j hj).sg _
 .show (updS c.1 k s' j).out.length<100
  by_cases e:j=k
  .subst e;rw[zz];exact hl
  rw[zw e];exact H.ln j hj
 show DP p (updS c.1 k s' j);by_cases e:j=k
 .subst e;rw[zz];exact hd
 rw[zw e];exact(H.dp j hj).same rfl
theorem FI.recvs(F:Fk n x0 p T g0 c)(ho:∀j,j<n->(c.1 j).out=[])(H:FI n p h Gz c){fr:zj5}(hf:fr∈c.2):∀k,k<=n->FI n p h Gz (recvK n fr k c.1,c.2)
 |0,_=>H
 |k+1,hk=>by
  have H1:=FI.recvs F ho H hf k (by omega);have C:=(F.recvs ho fr k (by omega)).z.c;have N:=C.nd k (by omega);have hk':k<n:=by omega
  have o1:(recvK n fr k c.1 k).out=[]:=(xM fr c.1 k k (zjA _)).trans (ho k hk');exact H1.act hk' (NB.zfX C.V hk' N (H1.dp k hk') (zj1 (H1.nb k hk')) hf) (Z0 C.V hk' N o1 fr) ((H1.dp k hk').zfX C.V hk' N fr)
theorem FI.hear(H:FI n p h Gz c):∀k,k<=n->FI n p h Gz (hearK k c)
 |0,_=>H
 |k+1,hk=>by
  have H1:=FI.hear H k (by omega);have hk':k<n:=by omega
  refine⟨λj hj=>?_,λl1 f l2 he=>?_,λj hj=>?_,λj hj=>?_⟩
  .show NB0 p h Gz ((hearK k c).2++((hearK k c).1 k).out) (updS (hearK k c).1 k _ j);by_cases e:j=k
   .subst e;rw[zz];exact(H1.nb j hj).heard
   .rw [zw e];exact((H1.nb j hj).more _).sg _
  .have aa:(hearK k c).2++((hearK k c).1 k).out=l1++f::l2:=he;rcases List.append_eq_append_iff.1 aa with⟨l,a1,a2⟩|⟨l,a1,a2⟩
   .rw [a1];exact(H1.nb k hk').n1 l f l2 a2
   .cases l with
    |nil=>
     rw[List.append_nil] at a1;rw[List.nil_append] at a2;have:=(H1.nb k hk').n1 [] f l2 (by rw[List.nil_append];exact a2.symm);rw[List.append_nil,a1] at this;exact this
    |cons x l=>
     rw[List.cons_append] at a2;have e2:f=x:=(List.cons.inj a2).1;rw[e2];exact H1.o2 l1 x l a1
  .show (updS (hearK k c).1 k _ j).out.length<100
   by_cases e:j=k
   .subst e;rw[zz];show 0<100;decide
   .rw [zw e];exact H1.ln j hj
  .show DP p (updS (hearK k c).1 k _ j);by_cases e:j=k
   .subst e;rw[zz];exact(H1.dp j hj).same rfl
   .rw [zw e];exact(H1.dp j hj).same rfl
theorem FI.next{m:Nat}(F:Fk n x0 p T g0 c)(H:FI n p h Gz c)(PG:PGs n x0 p c.1)(hge:∀j,j<n->h<=(c.1 j).zfF)(hz:∀f,Gz f->∃q,q<n/\f∈g0 q)(hk:∀f,Gz f->∀j,j<n->∀k:Nat,h<=k->(decV f).h=(k:Int)->Knows (c.1 j) f)(hm:m<c.2.length)(K1:∀f∈c.2.take m,∀j,j<n->Knows (c.1 j) f):∀j,j<n->(decV c.2[m]).h<=((c.1 j).zfF:Int):=λj hj=>by
 have C:=F.z.c;have e:c.2=c.2.take m++c.2[m]::c.2.drop (m+1):=by
  rw[<-List.drop_eq_getElem_cons hm,List.take_append_drop]
 have B:=H.o2 _ _ _ e;by_cases aa:((c.1 j).zfF:Int)<(decV c.2[m]).h
 .exfalso;obtain⟨d,d1,d2,d3⟩:=B (c.1 j).zfF (hge j hj) aa;have N:=C.nd j hj;have known:∀f,Gz f\/f∈c.2.take m->(decV f).h=((c.1 j).zfF:Int)->∃x∈(c.1 j).log,x.fr=f:=λf hf hh=>by
   have kn:Knows (c.1 j) f:=hf.elim (λa=>hk f a j hj _ (hge j hj) hh) (λa=>K1 f a j hj);unfold Knows at kn;rw[hh] at kn;rcases kn with a|a|a
   .omega
   .exact a.2
   .omega
  obtain⟨r,-,p1,p2,-,p4,-⟩:=id d1;have sgp:∃q,q<n/\d.prop∈(c.1 j).sg q:=by
   rw[C.sg j hj];rcases d2 with a|a
   .obtain ⟨q,q1,q2⟩:=hz _ a
    exact⟨q,q1,F.up q _ q2⟩
   .obtain ⟨q,q1,q2,-⟩:=(F.sd d.prop (List.mem_of_mem_take a)).by
    exact⟨q,q1,q2⟩
  obtain⟨q,q1,q2⟩:=sgp;have hg:=PGs.zgc C PG hj q1 q2 p1 p2;rw[p4] at hg;exact zd0 N N.y.1.dom d1 rfl hg (known _ d2 p2) (λf hf ad=>known f (d3 f hf) ad) (C.q j hj).q1
 .omega
end
theorem Ends.mem{n M:Nat}{st:Nat->za}(hM:Ends n st M):∀l,l<M->(flo n (floIn n st) l).2.getD l zj4∈(flo n (floIn n st) M).2:=λl hl=>by
 have h1:=hM.2 l hl;obtain⟨r,hr⟩:=xu n (floIn n st) l (M-l);rw[show l+(M-l)=M by omega] at hr;rw[zjK,zjJ h1,hr];exact List.mem_append_left _ (List.getElem_mem h1)
theorem zbX{n T M h:Nat}{x0 p:Nat->Int}{st:Nat->za}(C:Ctz n x0 p T st)(ho:∀j,j<n->(st j).out=[])(hM:Ends n st M)(D:∀j,j<n->DP p (st j))(G:PGs n x0 p st)(hat:∀j,j<n->(st j).zfF=h)(inf:∀j,j<n->Zo n (st j)):∀fr∈(flo n (floIn n st) M).2,∀j,j<n->Knows ((flo n (floIn n st) M).1 j) fr:=by
 obtain⟨F0,o0⟩:=Fk.start C ho;have FL:=Fk.zg7 F0 o0;have CM:∀m,Cty n x0 p (T+n) (flo n (floIn n st) m).1:=λm=>(FL m).1.z.c;have J:=iter C ho hM;have V:=C.c.V;have h0:Fk n x0 p T (st 0).sg (st,[]):=⟨C,λ_ _ _ hf=>zj0 hf,λ_ hf=>(by cases hf),SgLe.refl _⟩;obtain⟨Gz,ag⟩:∃Gz:zj5->Prop,∀f,Gz f↔∃q,q<n/\f∈(st 0).sg q:=⟨_,λ_=>Iff.rfl⟩
 -- the ticks
 have FT:∀k,k<=n->FI n p h Gz (ticksTo k st,[]):=λk=>by
  induction k with
  |zero=>
   intro _;refine⟨λj hj=>⟨λl1 f l2 he=>?_,λk h1 h2=>?_,λe he=>zj0 ?_⟩,λl1 f l2 he=>?_,λj hj=>?_,D⟩
   .have ah:(st j).out=l1++f::l2:=he;rw[ho j hj] at ah;cases l1<;>cases ah
   .have ak:(k:Int)<((st j).zfF:Int):=h2;rw[hat j hj] at ak;omega
   .rw [ag];have N:=C.c.nd j hj;rcases he with he|he
    .have E:=N.ni.log e he;exact⟨_,E.fn,by rw[<-C.c.sg j hj];exact E.mem⟩
    have E:=N.ni.ahead e he;exact⟨_,E.fn,by rw[<-C.c.sg j hj];exact E.mem⟩
   .cases l1<;>cases he
   show(st j).out.length<100;rw[ho j hj];decide
  |succ k ih=>
   intro hk;have H1:=ih (by omega);have Ck:=(h0.ticks ho k (by omega)).z.c;have aa:k<n:=by omega
   have N:=Ck.nd k aa;have o1:(ticksTo k st k).out=[]:=(xk st k k (zjA _)).trans (ho k aa);exact H1.act aa (NB.tick V aa N (H1.dp k aa) (zj1 (H1.nb k aa)) (Nd.due V aa _ _ N.zfN)) (YE V aa N (Ck.q k aa) o1).1 ((H1.dp k aa).tick V aa N)
 have FE:FI n p h Gz (floIn n st):=(FT n (zjA _)).hear n (zjA _);have PGm:∀m,m<=M->PGs n x0 p (flo n (floIn n st) m).1/\∀j,j<n->h<=((flo n (floIn n st) m).1 j).zfF:=λm hm=>by
  have hu:PGs n x0 p (ticksTo n st):=(PGs.it J G).1;have hh:∀j,j<n->h<=(ticksTo n st j).zfF:=λj hj=>by have:=(J.hu hj).1;rw[hat j hj] at this;exact this
  have hs:∀(s:Nat->za) (j:Nat),j<n->Ctz n x0 p (T+n) s->(PGs n x0 p s/\∀j,j<n->h<=(s j).zfF)->(PGs n x0 p (updS s j { s j with out:=[] })/\∀k,k<n->h<=(updS s j { s j with out:=[] } k).zfF):=λs j hj C H=>by
   refine⟨H.1.upd C.c hj ((H.1 j hj).congr rfl rfl (H.1 j hj).lv) (yy rfl) (SgLe.refl _),λk hk=>?_⟩;by_cases e:k=j
   .subst e;rw[zz];exact H.2 k hk
   rw[zw e];exact H.2 k hk
  exact VN (P:=λs=>PGs n x0 p s/\∀j,j<n->h<=(s j).zfF) (said:=(flo n (floIn n st) M).2) (λs j fr hj _ C H=>by
   refine⟨H.1.upd C.c hj ((H.1 j hj).zfX C.c.V hj (C.c.nd j hj) fr) (ya (s j) n j fr) (yE (s j) n j fr),λk hk=>?_⟩;by_cases e:k=j
   .subst e;rw[zz];exact zjF (H.2 k hk) (xq C.c.V hj (C.c.nd k hj) fr).hle
   rw[zw e];exact H.2 k hk) hs F0 o0 (ZF (P:=λs=>PGs n x0 p s/\∀j,j<n->h<=(s j).zfF) hs (h0.ticks ho n (zjA _)) ⟨hu,hh⟩ n (zjA _)) m (λl hl=>hM.mem l (by omega))
 have known0:∀m f,Gz f->∀j,j<n->∀k:Nat,h<=k->(decV f).h=(k:Int)->Knows ((flo n (floIn n st) m).1 j) f:=λm f hf j hj k hk hh=>by
  obtain⟨q,q1,q2⟩:=(ag f).1 hf;have m1:=((C.c.nd q q1).ni.mine f (by rw[C.c.sg q q1];exact q2)).pos;have hq:=hat q q1;have e1:k=h:=by omega
  obtain⟨x,hx,ai⟩:=inf j hj q q1 f (by rw[C.c.sg j hj];exact q2) (by rw[hat j hj,hh,e1]);have k0:Knows (st j) f:=zj1 (zj0 ⟨by rw[hat j hj,hh,e1],x,hx,ai⟩);have k1:=(J.zha hj).2.2.1 f k0;have k2:=Rel.hear (ZX (x0:=x0) (T:=T+n) V) (c:=(ticksTo n st,[])) n j f k1;have k3:=Rel.zg7 (ZX V) CM 0 j m f k2;rw[zj8] at k3;exact k3
 have main:∀m,m<=M->FI n p h Gz (flo n (floIn n st) m)/\∀f∈(flo n (floIn n st) m).2.take m,∀j,j<n->Knows ((flo n (floIn n st) m).1 j) f:=λm=>by
  induction m with
  |zero=>exact λ_=>⟨FE,λf hf=>(by rw[List.take_zero] at hf;cases hf)⟩
  |succ m ih=>
   intro hm;obtain⟨H1,K1⟩:=ih (by omega);have ad:=hM.2 m (by omega);have af:(flo n (floIn n st) m).2.getD m zj4=(flo n (floIn n st) m).2[m]:=by
    rw[zjK,zjJ ad];rfl
   have ae:(flo n (floIn n st) m).2.getD m zj4∈(flo n (floIn n st) m).2:=by rw[af];exact List.getElem_mem ad
   obtain⟨P1,P2⟩:=PGm m (by omega);have hle:=H1.next (FL m).1 P1 P2 (λf hf=>(ag f).1 hf) (known0 m) ad K1;have HR:=FI.recvs (FL m).1 (FL m).2 H1 ae n (zjA _);refine⟨HR.hear n (zjA _),λf hf j hj=>?_⟩;obtain⟨l,hl⟩:=xu n (floIn n st) m 1;have aj:(flo n (floIn n st) (m+1)).2=(flo n (floIn n st) m).2++l:=hl;rw[aj,List.take_append_of_le_length (by omega),<-List.take_append_getElem ad] at hf;rcases List.mem_append.1 hf with h1|h1
   .exact Rel.next (ZX V) (CM m) _ j f (K1 f h1 j hj)
   rw[List.mem_singleton.1 h1,<-af];exact Fk.got (FL m).1 (FL m).2 ae hj (by rw[af];have:=hle j hj;omega)
 intro fr hf j hj;refine(main M (zjA _)).2 fr ?_ j hj;rw[List.take_of_length_le (by rw[hM.1];exact zjA _)];exact hf
theorem zex{n T h b:Nat}{x0 p:Nat->Int}{st u st':Nat->za}{said:List zj5}(J:It n x0 p T st u st' said)(C:Ctz n x0 p T st)(D:∀j,j<n->DP p (st j))(G:PGs n x0 p st)(hat:∀j,j<n->(st j).zfF=h)(inf:∀j,j<n->Zo n (st j))(known:∀fr∈said,∀j,j<n->Knows (st' j) fr)(hb:b<n)(hab:h<(st' b).zfF):∀j,j<n->(st' j).zfF=12:=by
 have V:=C.c.V;have C':=J.c.c;have D':∀j,j<n->DP p (st' j):=λj hj=>J.dp hj (D j hj);have G':=(PGs.it J G).2;obtain⟨t,ht,-,aa⟩:=zaQ (I:=λ_=>true) (λj=>((st' j).zfF:Int)) n ⟨b,hb,rfl⟩;have af:∀j,j<n->h<=(st' j).zfF:=λj hj=>by have:=(J.hu hj);have:=hat j hj;omega
 have start:∀q f,q<n->f∈(st 0).sg q->(decV f).h<=(h:Int):=λq f hq hf=>by
  have m1:=((C.c.nd q hq).ni.mine f (by rw[C.c.sg q hq];exact hf)).pos;have:=hat q hq;omega
 have kn:∀q f i,q<n->i<n->f∈(st' 0).sg q->(h:Int)<=(decV f).h->Knows (st' i) f:=λq f i hq hi hf hh=>by
  rcases J.new q hq f hf with h1|h1
  .have e:=start q f hq h1;refine J.zhG hi f (zj1 (zj0 ⟨by rw[hat i hi];omega,inf i hi q hq f (by rw[C.c.sg i hi];exact h1) (by rw[hat i hi];omega)⟩))
  exact known f h1 i hi
 have inlog:∀q f i,q<n->i<n->f∈(st' 0).sg q->(decV f).h=((st' i).zfF:Int)->∃x∈(st' i).log,x.fr=f:=λq f i hq hi hf hh=>by
  have k:=kn q f i hq hi hf (by have:=af i hi;omega);unfold Knows at k;rw[hh] at k;rcases k with k|k|k
  .omega
  .exact k.2
  omega
 have all:∀i,i<n->(st' i).zfF=(st' t).zfF:=λi hi=>by
  have h1:=aa i hi rfl;rcases Nat.lt_or_ge (st' i).zfF (st' t).zfF with h2|h2
  .exfalso;have hk:(st' t).dec[(st' i).zfF]? =some (st' t).dec[(st' i).zfF]:=zjJ h2;have d1:=D' t ht _ _ hk;have hz:=(J.c.z t ht).dec _ (List.mem_of_getElem? hk);have sgn:∀f,SgF n (st' t).sg f->(decV f).h=((st' i).zfF:Int)->∃x∈(st' i).log,x.fr=f:=λf hf hh=>by
    obtain⟨q,q1,q2,-⟩:=hf.by;exact inlog q f i q1 hi (by rw[<-C'.sg t ht];exact q2) hh
   obtain⟨r,-,p1,p2,-,p4,-⟩:=id d1;obtain⟨q,q1,q2,-⟩:=hz.1.by;have hg:=PGs.zgc C' G' hi q1 (by rw[C'.sg i hi,<-C'.sg t ht];exact q2) p1 p2;rw[p4] at hg;exact zd0 (C'.nd i hi) (C'.nd i hi).y.1.dom d1 rfl hg (sgn _ hz.1 p2) (λf hf ag=>sgn f (hz.2 f hf) ag) (C'.q i hi).q1
  omega
 have h12:=(C'.nd t ht).y.1.hgt;rcases Nat.lt_or_ge (st' t).zfF 12 with hlt|ae
 .exfalso;obtain⟨H,hH⟩:∃H,(st' t).zfF=H:=⟨_,rfl⟩;have hHh:h<H:=by have:=all b hb;omega
  have allH:∀i,i<n->(st' i).zfF=H:=λi hi=>(all i hi).trans hH;have I2:yg 2 p (λj=>decide (j<n))=true:=by
   have e:∀k,k<=8->powB p (λj=>decide (j<n)) k=sumTo p k:=λk=>by
    induction k with
    |zero=>exact λ_=>rfl
    |succ k ih=>
     intro hk;show powB p (λj=>decide (j<n)) k+_=sumTo p k+p k;rw[ih (by omega)];by_cases h1:k<n
     .rw [zj2 (zjQ h1)]
     rw[zj3 (by rw[decide_eq_true_eq];exact h1),V.zero k (by omega) (by omega)]
   have:=C'.zhk;unfold yg;exact zjQ (by rw[e 8 (zjA _)];omega)
  have noT:∀j,j<n->∀v∈(st j).tims,v.h≠(H:Int):=λj hj v hv hvh=>by
   have:=hat j hj;rcases(C.c.nd j hj).tm.th v hv with h1|h1<;>omega
  have noF:∀j,j<n->∀i,i<n->∀fr∈(st j).sg i,(decV fr).h≠(H:Int):=λj hj i hi fr hf hh=>by
   rw[C.c.sg j hj] at hf;have:=start i fr hi hf;omega
  have P:=It.pv (h:=H) (q:=0) (V:= -1) (g:=True) (I:=λj=>decide (j<n)) J I2 (λj _ hj=>zjP hj) (Int.le_refl _) (λ_ j hj hn=>absurd hj (of_decide_eq_false hn)) (λj hj _=>⟨⟨zj0 ⟨rfl,rfl⟩,λv hv a=>absurd a (noT j hj v hv),λ_ i hi fr hf _ a=>absurd a (noF j hj i hi fr hf),λ_ a=>absurd a (by have:=hat j hj;omega),λ_ a=>absurd a (by have:=hat j hj;omega),λfr hf _ a=>absurd a (noF j hj j hj fr hf),λa=>absurd a (by have:=hat j hj;omega),λa=>absurd a (by have:=hat j hj;omega)⟩,λv hv a=>absurd a (noT j hj v hv)⟩) (λj hj _ _=>zjG _);have tn:TNs n H 0 2 st:=λj hj=>⟨λa=>absurd a (by have:=hat j hj;omega),λv hv _ a=>absurd a (noT j hj v hv),λv hv a=>absurd a (noT j hj v hv),λq hq fr hf a=>absurd a (noF j hj q hq fr hf)⟩;have tn':TNs n H 0 1 st':=TNs.it J tn (by omega) (by omega);have ad:turnOf p (H+0)<n:=by rw[YS V C.c.n1];exact Nat.mod_lt _ C.c.n1
  exact KI C' G' I2 (λj _ hj=>zjP hj) (by omega) (λj hj _=>allH j hj) (λj hj _=>Nat.le_zero.1 ((tn' j hj).rd (allH j hj))) (λj hj _ q hq fr hf hh=>inlog q fr j hq hj (by rw[<-C'.sg j hj];exact hf) hh) P ad (zjQ ad) rfl
 exact λj hj=>by have:=all j hj;omega
end
section
theorem Gi{P:Nat->Prop}:∀t,P t->∃s,s<=t/\P s/\∀r,r<s->¬P r
 |0,h=>⟨0,zjA _,h,λr hr=>absurd hr (Nat.not_lt_zero _)⟩
 |t+1,h=>by
  by_cases hex:∃r,r<=t/\P r
  .obtain ⟨r,h1,h2⟩:=hex
   by_cases h0:P 0
   .exact ⟨0,zjG _,h0,λr hr=>absurd hr (Nat.not_lt_zero _)⟩
   .obtain ⟨c,c1,c2,c3,c4⟩:∃c,c+1<=r/\P (c+1)/\(∀q,q<=c->¬P q)/\True:=by
     have:∀d,(∃q,q<=d/\P q)->∃c,c+1<=d/\P (c+1)/\(∀q,q<=c->¬P q)/\True:=λd=>by
      induction d with
      |zero=>exact λ⟨q,q1,q2⟩=>absurd (by rw[Nat.le_zero.1 q1] at q2;exact q2) h0
      |succ d ih=>
       intro ⟨q,q1,q2⟩;by_cases hd:∃q,q<=d/\P q
       .obtain ⟨c,c1,c2⟩:=ih hd
        exact⟨c,by omega,c2⟩
       .have e:q=d+1:=by
         rcases Nat.lt_or_ge d q with h3|h3
         .omega
         .exact absurd ⟨q,h3,q2⟩ hd
        rw[e] at q2;exact⟨d,zjA _,q2,λq hq hp=>hd ⟨q,hq,hp⟩,trivial⟩
     exact this r ⟨r,zjA _,h2⟩
    exact⟨c+1,by omega,c2,λq hq=>c3 q (by omega)⟩
  .exact ⟨t+1,zjA _,h,λr hr hp=>hex ⟨r,by omega,hp⟩⟩
theorem zfB{y g:Nat}(h:y*(y+3)<=2*g):8*y<=21+g:=by
 rcases Nat.lt_or_ge y 7 with h1|h1
 .have:y=0\/y=1\/y=2\/y=3\/y=4\/y=5\/y=6:=by omega
  rcases this with e|e|e|e|e|e|e<;>subst e<;>omega
 obtain⟨k,e⟩:∃k,y=7+k:=⟨y-7,by omega⟩;subst e;have e1:(7+k)*(7+k+3)=70+17*k+k*k:=by
  simp only[Nat.add_mul,Nat.mul_add];omega
 rw[e1] at h;omega
theorem Xx{y g b:Nat}(h:y*(y+3)<=2*g)(hb:2*g<b*(b+3)):y<b:=by
 rcases Nat.lt_or_ge y b with h1|h1
 .exact h1
 have:=Nat.mul_le_mul h1 (Nat.add_le_add_right h1 3);omega
section
variable{n T K:Nat}{x0 p:Nat->Int}{st u:Nat->Nat->za}{said:Nat->List zj5}
theorem Sys.down(Y:Sys n x0 p T K st u said){h r t:Nat}(ht:t<=K):∀d,Q3 n p h (r+d) (st t)->Q3 n p h r (st t)
 |0,hq=>hq
 |d+1,hq=>Sys.down Y ht d (by
  have C:=(Y.c t ht).c;obtain⟨b,hb,hh⟩:=hq;obtain⟨q,q1,q2⟩:=jP C.zhk hb;obtain⟨hqn,fr,hf,-,-,f2,f3⟩:=hh q q1 q2;have h3:=(SgL.of (C.nd 0 C.n1)).j q hqn fr hf (by omega);rw[f2,f3,show((r+(d+1):Nat):Int)-1=((r+d:Nat):Int) by omega] at h3;exact h3)
theorem Sys.rounds(Y:Sys n x0 p T K st u said){L s1 y d t j:Nat}(hL:L<12)(hst:s1<=t)(ht:t<=K)(hm:Zn n p (L+1) (st s1))(htn:TNs n L y d (st s1))(hj:j<n)(hat:(st t j).zfF=L):(st t j).round<=y+1:=by
 rcases Nat.lt_or_ge (y+1) (st t j).round with h1|h1
 .exfalso;have C:=(Y.c t ht).c;have N:=C.nd j hj;have h3:=N.lv.c.rj (by omega) (by omega);rw[hat,C.sg j hj] at h3;have h4:Q3 n p L (y+1) (st t):=Y.down ht ((st t j).round-1-(y+1)) (by
   unfold Q3;rw[show((y+1+((st t j).round-1-(y+1)):Nat):Int)=((st t j).round:Int)-1 by omega];exact h3)
  obtain⟨b,hb,hv⟩:=h4;obtain⟨q,q8,b1,b2⟩:=C.meet hb hm;obtain⟨aa,fr,f1,-,-,f4,f5⟩:=hv q q8 b1;have hq:=(zjP b2).2;have h5:=Y.R.left (a:=s1) aa (show L<(st s1 q).zfF by omega) (t-s1) (by omega);rw[show s1+(t-s1)=t by omega] at h5;have h6:=h5.2 fr (by rw[C.sg q aa];exact f1) f4;have h7:=(htn q aa).fr q aa fr h6 f4;omega
 exact h1
theorem Sys.up(Y:Sys n x0 p T K st u said){L a b:Nat}(hab:a<=b)(hb:b<=K)(h:Zn n p L (st a)):Zn n p L (st b):=by
 obtain⟨x,hd,hx⟩:=(Y.c b hb).c.zif;exact h.mono hd hx λj hj hl=>zjF hl (Y.R.hle hj hab hb)
theorem Sys.all(Y:Sys n x0 p T K st u said){L t:Nat}(ht:t<=K)(h:∀j,j<n->L<=(st t j).zfF):Zn n p L (st t):=by
 have C:=(Y.c t ht).c;have V:=C.V;have e:∀k,k<=8->powB p (λj=>decide (j<n/\L<=(st t j).zfF)) k=sumTo p k:=λk=>by
  induction k with
  |zero=>exact λ_=>rfl
  |succ k ih=>
   intro hk;show powB p (λj=>decide (j<n/\L<=(st t j).zfF)) k+_=sumTo p k+p k;rw[ih (by omega)];by_cases h1:k<n
   .rw [zj2 (zjQ ⟨h1,h k h1⟩)]
   rw[zj3 (by rw[decide_eq_true_eq];exact λa=>h1 a.1),V.zero k (by omega) (by omega)]
 have:=C.zhk;unfold Zn yg;exact zjQ (by rw[e 8 (zjA _)];omega)
theorem Sys.since(Y:Sys n x0 p T K st u said){L s:Nat}(hL:L<12)(hs:s<=K)(t0:TNg n L 10 (st 0))(hf:∀t,t<s->¬Zn n p L (st t)):∀t,s<=t->t<=K->∃g,g+(if s=0 then 0 else s+10)<=t+10/\TNg n L g (st t):=λt h1 h2=>by
 by_cases h0:s=0
 .rw [zj2 h0];have h3:=Y.R.zjp t0 t (by omega);rw[zj8] at h3;exact⟨10+t,by omega,h3⟩
 .rw [zj3 h0];obtain⟨s',e⟩:∃s',s=s'+1:=⟨s-1,by omega⟩;subst e;have C:=Y.c s' (by omega);have h3:TNs n L 0 3 (st s'):=C.fresh (Y.R.dp Y.d0 s' (by omega)) hL (hf s' (by omega));have h4:TNs n L 0 2 (st (s'+1)):=TNs.it (Y.R s' (by omega)) h3 (by omega) (by omega);have h5:=Y.R.zjp (g:=0) ⟨0,2,by omega,by omega,by omega,h4⟩ (t-(s'+1)) (by omega);rw[show s'+1+(t-(s'+1))=t by omega] at h5;exact⟨_,by omega,h5⟩
theorem Sys.last(Y:Sys n x0 p T K st u said){L tL s:Nat}(h6:n<=6)(hL:L<12)(t0:TNg n L 10 (st 0))(hK:tL+190<=K)(fin:∀t h,t<K->(∀j,j<n->(st t j).zfF=h)->(∀j,j<n->Zo n (st t j))->∀fr∈said t,∀j,j<n->Knows (st (t+1) j) fr)(hge:∀j,j<n->L<=(st tL j).zfF)(hsm:Zn n p L (st s))(hsf:∀t,t<s->¬Zn n p L (st t))(hst:s<=tL)(hle:∀j,j<n->(st (tL+5) j).zfF<=L):∃t,t<=tL+189/\∀j,j<n->(st t j).zfF=12:=by
 have R:=Y.R;have ex:∃d,d<=184/\∃j,j<n/\L<(st (tL+5+d) j).zfF:=by
  refine Classical.byContradiction λad=>?_;have top:∀t,t<=tL+189->∀j,j<n->(st t j).zfF<=L:=λt ht j hj=>by
   rcases Nat.lt_or_ge L (st t j).zfF with h1|h1
   .exfalso;rcases Nat.lt_or_ge t (tL+5) with h2|h2
    .have:=R.hle hj (show t<=tL+5 by omega) (by omega)
     have:=hle j hj;omega
    exact ad ⟨t-(tL+5),by omega,j,hj,by rw[show tL+5+(t-(tL+5))=t by omega];exact h1⟩
   exact h1
  have aa:∀j,j<n->L<=(st s j).zfF->∀t,s<=t->t<=tL+189->(st t j).zfF=L:=λj hj h1 t h2 h3=>by
   have a1:=R.hle hj h2 (by omega);have a2:=top t h3 j hj;omega
  have W:Win n x0 p T K st u said L (s+5) (s+5+184) (λj=>decide (j<n/\L<=(st s j).zfF)):=⟨Y,λt h1 h2 j hj=>top t (by omega) j hj,hsm,λj _ hj=>(zjP hj).1,λt h1 h2 j hj hI=>aa j hj (zjP hI).2 t (by omega) (by omega),hL,by omega,λt h1 h2 j hj hI=>Y.zhH (h:=L) (s:=s) (by omega) (λr r1 r2 i hi=>top r (by omega) i hi) hj (aa j hj (zjP hI).2 s (zjA _) (by omega)) (by omega)⟩;obtain⟨g,g1,g2⟩:=Y.since hL (by omega) t0 hsf (s+5) (by omega) (by omega);obtain⟨r,d,r1,r2⟩:=g2.low;have g15:g<=15:=by
   by_cases h0:s=0
   .rw [zj2 h0] at g1;omega
   rw[zj3 h0] at g1;omega
  have r5:r<5:=Xx r1 (by omega);have ae:¬Q3 n p L 5 (st (s+5)):=λhq=>W.zjy (show s+5<=s+5+184 by omega) r2 (Y.down (by omega) (5-(r+1)) (by rw[show r+1+(5-(r+1))=5 by omega];exact hq));have:=W.short h6 ae;omega
 obtain⟨d,hd,hex⟩:=ex;obtain⟨c,c1,c2,c3,c4⟩:=switch (P:=λt=>∃j,j<n/\L<(st t j).zfF) (b:=tL+5) (λ⟨j,hj,h⟩=>by have:=hle j hj;omega) d hex;obtain⟨b,hb,af⟩:=c4;have top:∀t,t<=c->∀j,j<n->(st t j).zfF<=L:=λt ht j hj=>by
  rcases Nat.lt_or_ge L (st t j).zfF with h1|h1
  .exact absurd ⟨j,hj,zjE h1 (R.hle hj ht (by omega))⟩ c3
  exact h1
 have at_:∀t,tL<=t->t<=c->∀j,j<n->(st t j).zfF=L:=λt h1 h2 j hj=>by
  have a1:=R.hle hj h1 (by omega);have a2:=top t h2 j hj;have a3:=hge j hj;omega
 have inf:∀j,j<n->Zo n (st c j):=λj hj=>Y.zhH (h:=L) (s:=tL) (by omega) (λr r1 r2 i hi=>top r r2 i hi) hj (at_ tL (zjA _) (by omega) j hj) (by omega);refine⟨c+1,by omega,?_⟩;exact zex (R c (by omega)) (Y.c c (by omega)) (R.dp Y.d0 c (by omega)) (Y.g c (by omega)) (at_ c (by omega) (zjA _)) inf (fin c L (by omega) (at_ c (by omega) (zjA _)) inf) hb af
theorem Sys.reckon(Y:Sys n x0 p T K st u said)(h6:n<=6)(t0:∀L,L<12->TNg n L 10 (st 0))(hK:490<=K)(fin:∀t h,t<K->(∀j,j<n->(st t j).zfF=h)->(∀j,j<n->Zo n (st t j))->∀fr∈said t,∀j,j<n->Knows (st (t+1) j) fr):∀L,L<=12->(∃t,t<=485/\∀j,j<n->(st t j).zfF=12)\/∃tL s,tL<=K/\(∀j,j<n->L<=(st tL j).zfF)/\Zn n p L (st s)/\(∀t,t<s->¬Zn n p L (st t))/\s<=tL/\4*tL<=80*L+(if s=0 then 0 else s+10)
 |0,_=>zj1 ⟨0,0,zjG _,λ_ _=>zjG _,Y.all (zjG _) λ_ _=>zjG _,λt ht=>absurd ht (Nat.not_lt_zero _),zjA _,by omega⟩
 |L+1,hL=>by
  rcases Sys.reckon Y h6 t0 hK fin L (by omega) with h|⟨tL,s,k1,k2,k3,k4,k5,k6⟩
  .exact zj0 h
  .have R:=Y.R;have hD:(if s=0 then 0 else s+10)<=s+10:=by split<;>omega
   have htL:tL<=296:=by omega
   by_cases hB:∀j,j<n->(st (tL+5) j).zfF<=L
   .left;obtain⟨t,h1,h2⟩:=Y.last h6 (by omega) (t0 L (by omega)) (by omega) fin k2 k3 k4 k5 hB;exact⟨t,by omega,h2⟩
   .right;obtain⟨b,hb,af⟩:∃b,b<n/\L<(st (tL+5) b).zfF:=Classical.byContradiction λae=>hB λj hj=>by
     rcases Nat.lt_or_ge L (st (tL+5) j).zfF with h1|h1
     .exact absurd ⟨j,hj,h1⟩ ae
     .exact h1
    have S:=Y.since (L:=L) (by omega) (by omega) (t0 L (by omega)) k4
    -- whoever stays at L
    have leave:∀r,tL+5+(7+2*r)<=K->(∀j,j<n->(st (tL+5) j).zfF=L->(st (tL+5) j).round<=r)->∀j,j<n->L+1<=(st (tL+5+(7+2*r)) j).zfF:=λr hr aa j hj=>by
     have h1:=R.hle hj (show tL<=tL+5+(7+2*r) by omega) hr;have h2:=k2 j hj;have h4:=R.hle hj (show tL+5<=tL+5+(7+2*r) by omega) hr;have h5:=R.hle hj (show tL<=tL+5 by omega) (by omega);rcases Nat.lt_or_ge L (st (tL+5) j).zfF with h3|h3
     .omega
     .have e:(st (tL+5) j).zfF=L:=by omega
      have h7:=aa j hj e;have h8:=Run.zjo R Y.d0 (Y.c (tL+5) (by omega)) hj hb af e (by omega);have h9:=R.hle hj (show tL+5+(7+2*(st (tL+5) j).round)<=tL+5+(7+2*r) by omega) hr;have h10:=R.hle hj (show tL+5<=tL+5+(7+2*(st (tL+5) j).round) by omega) (by omega);omega
    by_cases hM:Zn n p (L+1) (st (tL+5))
    .obtain ⟨s1,m1,m2,m3⟩:=Gi (P:=λt=>Zn n p (L+1) (st t)) (tL+5) hM
     have ad:s<=s1:=by
      rcases Nat.lt_or_ge s1 s with h1|h1
      .exfalso;obtain⟨x,hd,hx⟩:=(Y.c s1 (by omega)).c.zif;exact k4 s1 h1 (Zn.mono hd hx m2 λj _ h=>Nat.le_of_succ_le h)
      .exact h1
     obtain⟨g,g1,g2⟩:=S s1 ad (by omega);obtain⟨y,d,y1,y2⟩:=g2.low;have y8:=zfB y1;have y24:y<24:=Xx y1 (by omega);have lv:=leave (y+1) (by omega) (λj hj e=>Y.rounds (by omega) m1 (by omega) m2 y2 hj e);refine⟨tL+5+(7+2*(y+1)),s1,by omega,lv,m2,m3,by omega,?_⟩;by_cases h0:s1=0
     .have e0:s=0:=by omega
      rw[zj2 e0] at k6 g1;rw[zj2 h0];have y4:y<4:=Xx y1 (by omega);omega
     .rw [zj3 h0];omega
    .obtain ⟨g,g1,g2⟩:=S (tL+5) (by omega) (by omega)
     obtain⟨y,d,y1,y2⟩:=g2.low;have y8:=zfB y1;have y24:y<24:=Xx y1 (by omega);have lv:=leave y (by omega) (λj hj e=>(y2 j hj).rd e);obtain⟨s1,m1,m2,m3⟩:=Gi (P:=λt=>Zn n p (L+1) (st t)) (tL+5+(7+2*y)) (Y.all (by omega) lv);have ad:tL+5<s1:=by
      rcases Nat.lt_or_ge (tL+5) s1 with h1|h1
      .exact h1
      .exact absurd (Y.up h1 (by omega) m2) hM
     refine⟨tL+5+(7+2*y),s1,by omega,lv,m2,m3,m1,?_⟩;rw[zj3 (show¬s1=0 by omega)];omega
theorem Sys.live(Y:Sys n x0 p T K st u said)(h6:n<=6)(t0:∀L,L<12->TNg n L 10 (st 0))(hK:490<=K)(fin:∀t h,t<K->(∀j,j<n->(st t j).zfF=h)->(∀j,j<n->Zo n (st t j))->∀fr∈said t,∀j,j<n->Knows (st (t+1) j) fr):∃t,t<=485/\∀j,j<n->(st t j).zfF=12:=by
 rcases Y.reckon h6 t0 hK fin 12 (zjA _) with h|⟨tL,s,k1,k2,k3,k4,k5,k6⟩
 .exact h
 have hD:(if s=0 then 0 else s+10)<=s+10:=by split<;>omega
 refine⟨tL,by omega,λj hj=>?_⟩;have:=((Y.c tL k1).c.nd j hj).y.1.hgt;have:=k2 j hj;omega

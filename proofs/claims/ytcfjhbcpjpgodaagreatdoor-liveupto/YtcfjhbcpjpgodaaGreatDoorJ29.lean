import Derived.Test.YtcfjhbcpjpgodaaGreatDoorJ28
namespace Go.Proofs.YtcfjhbcpjpgodaaGreatDoor
open Go.RowKit
set_option maxRecDepth 100000
set_option maxHeartbeats 0
set_option linter.all false
section
variable{n i r S T:Nat}{p x0:Nat->Int}{s s':za}{q:zl}{u:zU}{l:List zU}
structure LV (n i:Nat) (p:Nat->Int) (s:za):Prop where
 c:LV0 n i p s
 prr:s.zfF<12->turnOf p (s.zfF+s.round)=i->Vl s.sg i 1 (s.zfF:Int) (s.round:Int)
 pr0:s.zfF<12->turnOf p s.zfF=i->Vl s.sg i 1 (s.zfF:Int) 0
 hs:s.held=true->s.step=3
structure Nd (n i:Nat) (x0 p:Nat->Int) (S T:Nat) (s:za):Prop where
 y:YOk S T i s
 ni:NI n i x0 s
 tm:yX i s
 lv:LV n i p s
structure ys (n:Nat) (p:Nat->Int):Prop where
 n8:n<=8
 pos:∀i,i<n->1<=p i
 zero:∀i,n<=i->i<8->p i=0
theorem ys.pow{x:Nat->Int}(h:ys n p)(hi:i<n)(hx:ki x p):YH x (i:Int)≠0:=by
 have h8:=h.n8;rw[zbf hx];unfold YH;rw[zj2 ⟨by omega,by omega⟩,Int.toNat_natCast];have:=h.pos i hi;omega
theorem LV0.zfL(h:LV0 n i p s)(r st:Nat)(hst:st<=1)(hj:1<=r->s.zfF<12->QU n p s.sg 3 (s.zfF:Int) ((r:Int)-1)):LV0 n i p (s.zfL r st):=
 { h with st2:=λ_ b=>(by have:2<=st:=b;omega),st3:=λ_ b=>(by have:3<=st:=b;omega),hd:=λa=>(by cases a),b3m:=λa=>(by cases a),b3l:=λa=>(by cases a),rj:=hj }
theorem LV.begin(V:ys n p)(hi:i<n)(h:LV0 n i p (s.zfL r 1))(hd:Dom s.x)(hh:s.zfF<12)(hr:r<=20)(hv0: -1<=s.vr)(hv1:s.vr<(r:Int))(hvz:s.vv.size<=24)(hf:∀t∈s.wait,yN t=true)(hm:∀fr∈s.sg i,(decV fr).h=(s.zfF:Int)->(decV fr).r<(r:Int))(h00:r≠0->turnOf p s.zfF=i->Vl s.sg i 1 (s.zfF:Int) 0):LV n i p (s.zfH i r):=by
 have hx:ki s.x p:=h.pw;have ae:s.prop r=turnOf p (s.zfF+r):=by unfold za.prop;exact yZ hx _
 have h8:=V.n8;unfold za.zfH;split
 .rename_i e;have ag:(if s.vr<0 then blockF s.x s.wait else s.vv).size<=24:=by
   split
   .exact xy _ _
   exact hvz
  have hb:hasB 1 (s.zfF:Int) (r:Int) (i:Int) s.vr false (if s.vr<0 then blockF s.x s.wait else s.vv).size=true:=by
   unfold hasB;exact zjQ ⟨by omega,by omega,by omega,by omega,by omega,by omega,ag,zj0 ⟨rfl,rfl,hv0,hv1⟩⟩
  have ai:noV (if s.vr<0 then blockF s.x s.wait else s.vv):=by
   split
   .exact zcg _ hf h.wv
   exact(h.vq (by show 0<=s.vr;omega)).2.2
  have hp:=V.pow hi hx;have hL:=h.send hd hp 1 s.vr false (if s.vr<0 then blockF s.x s.wait else s.vv) 1 hb hh hr (λa=>(by omega)) (λa=>(by omega)) (λ_=>⟨ai,by rw[<-e];exact ae.symm,λfr aj _ a b=>absurd (hm fr aj a) (by have b':(decV fr).r=(r:Int):=b;omega)⟩) (λa=>(by omega)) (λa=>(by omega));have e1:((s.zfL r 1).zfI i 1 s.vr false (if s.vr<0 then blockF s.x s.wait else s.vv)).zfO 1=(s.zfL r 1).zfI i 1 s.vr false (if s.vr<0 then blockF s.x s.wait else s.vv):=jW (vR _ _ _ _ _ _);rw[e1] at hL;have e2:=Qa (s:=s.zfL r 1) hp hb;obtain⟨ah,af⟩:=gN hb;have ad:Vl ((s.zfL r 1).zie i 1 s.vr false (if s.vr<0 then blockF s.x s.wait else s.vv)).sg i 1 (s.zfF:Int) (r:Int):=⟨_,jc.2 (zj1 rfl),ah,by rw[show decV ((s.zfL r 1).enc i 1 s.vr false (if s.vr<0 then blockF s.x s.wait else s.vv))=_ from af],by rw[show decV ((s.zfL r 1).enc i 1 s.vr false (if s.vr<0 then blockF s.x s.wait else s.vv))=_ from af],by rw[show decV ((s.zfL r 1).enc i 1 s.vr false (if s.vr<0 then blockF s.x s.wait else s.vv))=_ from af]⟩;rw[e2] at hL ⊢;refine⟨hL,λ_ _=>ad,λ_ a=>?_,λa=>(by cases a)⟩;by_cases aa:r=0
  .obtain ⟨fr,q1,q2,q3,q4,q5⟩:=ad
   exact⟨fr,q1,q2,q3,q4,by rw[q5,aa];rfl⟩
  exact(h00 aa a).mono (vP _ _ _)
 rename_i e;have hc:LV0 n i p ((s.zfL r 1).timer 1 3):=h.congr rfl rfl rfl rfl rfl rfl rfl rfl rfl (λt ht=>zj0 ht) (λa=>zj0 a) λt ht=>?_
 .refine ⟨hc,λ_ a=>absurd ?_ e,λ_ a=>?_,λa=>(by cases a)⟩
  .rw [ae];exact a
  by_cases aa:r=0
  .refine absurd ?_ e;rw[ae,aa];exact a
  exact h00 aa a
 rcases zx.1 ht with h1|h1
 .exact zj0 h1
 refine zj1 λa=>?_;rw[h1] at a;have:((1:Nat):Int)=3:=a;omega
theorem LV0.next(h:LV n i p s)(ni:NI n i x0 s)(hh:s.zfF<12)(hq:q∈s.log)(hk:q.m.k=1)(l:List zl)(st:Nat)(hst:st<=1):LV0 n i p (((s.kept q).zfK l).zfL 0 st):=by
 have eh:(((s.kept q).zfK l).zfL 0 st).zfF=s.zfF+1:=yb s q;have hE:=ni.log q hq;have ad:noV q.m.s:=by
  have:=h.c.sgi.v q.m.f.toNat hE.fn q.fr hE.mem (by rw[hE.m];exact hk);rw[hE.m] at this;exact this
 have aa:∀fr∈s.sg i,(decV fr).h=((s.zfF+1:Nat):Int)->False:=λfr hf a=>by
  rcases(ni.mine fr hf).pos with b|b<;>omega
 refine⟨λk hk=>(Yz (x:=s.x) ad k hk).trans (h.c.pw k hk),h.c.sgi,λfr hf a=>(aa fr hf (by rw[eh] at a;exact a)).elim,λ_ b=>(by have:2<=st:=b;omega),λ_ b=>(by have:3<=st:=b;omega),λk hk a=>?_,λa=>(by cases a),λa=>absurd a (by show¬(0:Int)<=-1;omega),λfr hf _ _ a=>(aa fr hf (by rw[eh] at a;exact a)).elim,λt ht=>h.c.wv t ((qP _ _).subset ht),λa=>(by cases a),λa=>(by cases a),h.c.t3q,λa=>(by have:1<=0:=a;omega),λfr hf _ _ a=>(aa fr hf (by rw[eh] at a;exact a)).elim⟩;rw[eh] at hk;rcases Nat.lt_or_ge k s.zfF with h1|h1
 .exact h.c.pr0 k h1 a
 have e:k=s.zfF:=by omega
 subst e;exact h.pr0 hh a
theorem LV.keep(V:ys n p)(hi:i<n)(h:LV n i p s)(y:YOk S T i s)(ni:NI n i x0 s)(hq:q∈s.log)(hk:q.m.k=1):LV n i p (s.zfR i q):=by
 have hh:s.zfF<12:=y.1.low hq;have eh:=yb s q;have aa:∀fr∈s.sg i,(decV fr).h=((s.zfF+1:Nat):Int)->False:=λfr hf a=>by
  rcases(ni.mine fr hf).pos with b|b<;>omega
 unfold za.zfR;rw[zu];split
 .rename_i ad;refine⟨LV0.next h ni hh hq hk _ 0 (by omega),λa=>?_,λa=>?_,λa=>(by cases a)⟩
  .have:(s.kept q).zfF<12:=a
   omega
  have:(s.kept q).zfF<12:=a;omega
 rename_i ad;exact LV.begin V hi (LV0.next h ni hh hq hk _ 1 (by omega)) (y.1.dom.behind _) (by show(s.kept q).zfF<12;omega) (by omega) (by show-1<=(-1:Int);omega) (by show(-1:Int)<0;omega) (by show(⟨#[]⟩:zj5).size<=24;decide) (λt ht=>y.2.form t ((qP _ _).subset ht)) (λfr hf a=>(aa fr hf (by rw[show(((s.kept q).zfK ((s.kept q).ahead.filter λe=> !(s.kept q).zfJ e.m)).zfF)=s.zfF+1 from eh] at a;exact a)).elim) (λa=>absurd rfl a)
theorem Y3(hd:Dom s.x)(h:s.zfV r=true):∃e∈s.log,e.m.r=(r:Int):=by
 by_cases hx:∃e∈s.log,e.m.r=(r:Int)
 .exact hx
 exfalso;unfold za.zfV at h;rw[km hd (by decide) (λe he=>?_)] at h
 .simp at h
 exact zjR λa=>hx ⟨e,he,a⟩
theorem LV.round(V:ys n p)(hi:i<n)(h:LV n i p s)(y:YOk S T i s)(ni:NI n i x0 s)(hh:s.zfF<12)(hr:s.round<r)(hr20:r<=20)(hj:QU n p s.sg 3 (s.zfF:Int) ((r:Int)-1)):LV n i p (s.zfH i r):=
 LV.begin V hi (h.c.zfL r 1 (zjA 1) λ_ _=>hj) y.1.dom hh hr20 y.2.vr0 (by have:=y.2.vr1;omega) y.1.vz y.2.form (λfr hf a=>by rcases(ni.mine fr hf).pos with b|b<;>omega) (λ_ a=>h.pr0 hh a)
theorem LV.zgg{k:Nat}(V:ys n p)(hi:i<n)(h:LV0 n i p s)(hprr:s.zfF<12->turnOf p (s.zfF+s.round)=i->Vl s.sg i 1 (s.zfF:Int) (s.round:Int))(hpr0:s.zfF<12->turnOf p s.zfF=i->Vl s.sg i 1 (s.zfF:Int) 0)(hhs:s.held=true->k=3)(y:NOk S T i 0 s)(hh:s.zfF<12)(hk:k=2\/k=3)(nl:Bool)(t:zj5)(ht:t.size<=24)(hn:nl=true->t.size=0)
 (hst:k=3->2<=s.step) (k2:k=2->nl=false->s.zgc t=true/\∃q' fr',q'<n/\fr'∈s.sg q'/\(decV fr').k=1/\(decV fr').h=(s.zfF:Int)/\(decV fr').r=(s.round:Int)/\(decV fr').s=t/\((decV fr').v<0\/Quo n s.sg p 2 (s.zfF:Int) (decV fr').v t))
 (k3:k=3->nl=false->s.vr=(s.round:Int)):LV n i p ((s.zfI i (k:Int) 0 nl t).zfO k):=by
 have h8:=V.n8;have hb:=zct (s:=s) (i:=i) (k:=(k:Int)) (nl:=nl) (t:=t) (by omega) hh y.rnd (by omega) ht hn;have hp:=V.pow hi h.pw;have aa:=vP s.sg i (s.enc i (k:Int) 0 nl t);have hL:=h.send y.dom hp (k:Int) 0 nl t k hb hh y.rnd (λa=>(by omega)) (λa=>(by omega)) (λa=>(by omega)) (λa b=>k2 (by omega) b) (λa b=>k3 (by omega) b);rw[Qa hp hb] at hL ⊢;exact⟨hL,λa b=>(hprr a b).mono aa,λa b=>(hpr0 a b).mono aa,λa=>hhs a⟩
theorem LV.congr(h:LV n i p s)(hc:LV0 n i p s')(hsg:s'.sg=s.sg)(hh:s'.zfF=s.zfF)(hr:s'.round=s.round)(hhd:s'.held=s.held)(hs:s'.step=s.step):LV n i p s':=
 ⟨hc,by rw[hsg,hh,hr];exact h.prr,by rw[hsg,hh];exact h.pr0,by rw[hhd,hs];exact h.hs⟩
theorem LV.one(V:ys n p)(hi:i<n)(h:LV n i p s)(tm:yX i s)(y:YOk S T i s)(ni:NI n i x0 s)(ht:(s.zfT (za.zfY i) i).1=true):LV n i p (s.zfT (za.zfY i) i).2:=by
 refine zE (C:=LV n i p) ht (λq hq=>?_) (λ_ r ad hr hb=>?_) (λ_ _ hs q hq hk ae hv=>?_) (λ_ _ hs hhd q hq hk ae hm hg=>?_) (λ_ _ hs hm=>?_) (λ_ _ hs _ _=>?_) λ_ _ _ hm=>?_
 .obtain ⟨r,_,h2⟩:=jt hq
  obtain⟨a1,a2,_⟩:=yO h2;exact LV.keep V hi h y ni a1 a2
 .obtain ⟨e,he,ag⟩:=Y3 y.1.dom hb
  have hE:=ni.log e he;have:=h.c.sgi.j e.m.f.toNat hE.fn e.fr hE.mem (by rw[hE.m,ag];omega);rw[hE.m,hE.h,ag] at this;exact LV.round V hi h y ni (y.1.zg0 hb) hr ad this
 .have hE:=ni.log q hq;have hh:=y.1.low hq;have hz:=(y.1.log.ok q hq).z;have af:s.held=true->2=3:=λa=>by have:=h.hs a;omega
  split
  .rename_i aa;unfold za.zgP at aa;rw[Bool.and_eq_true_iff] at aa;refine LV.zgg V hi h.c h.prr h.pr0 af y.1 hh (zj0 rfl) false q.m.s hz (λa=>(by cases a)) (λa=>(by omega)) (λ_ _=>⟨aa.1,q.m.f.toNat,q.fr,hE.fn,hE.mem,by rw[hE.m];exact hk,by rw[hE.m];exact hE.h,by rw[hE.m];exact ae,by rw[hE.m],?_⟩) (λa=>(by omega));rw[hE.m];exact hv.imp id λx=>(xU ni.log x.2).same h.c.pw
  exact LV.zgg V hi h.c h.prr h.pr0 af y.1 hh (zj0 rfl) true ⟨#[]⟩ (by decide) (λ_=>rfl) (λa=>(by omega)) (λ_ a=>(by cases a)) (λa=>(by omega))
 .have hh:=y.1.low hq;have hE:=ni.log q hq;have ah:noV q.m.s:=by
   have:=h.c.sgi.v q.m.f.toNat hE.fn q.fr hE.mem (by rw[hE.m];exact hk);rw[hE.m] at this;exact this
  have hst:=y.1.stp;have h1:=tm.st hh;have ai:∀fr∈s.sg i,(decV fr).k=3->(decV fr).nl=false->(decV fr).h=(s.zfF:Int)->(decV fr).r<=(s.round:Int):=λfr a b c d=>by
   rcases(ni.mine fr a).pos with x|x<;>omega
  have c1:LV0 n i p (s.zfZ q.m.s):={ h.c with hd:=λ_=>rfl,vq:=λ_=>⟨hm,hg,ah⟩,lk:=ai };split
  .rename_i e2;have c2:LV0 n i p (s.zfZ q.m.s).zf3:=⟨c1.pw,c1.sgi,c1.own,c1.st2,c1.st3,c1.pr0,c1.hd,c1.vq,c1.lk,c1.wv,c1.b3m,c1.b3l,c1.t3q,c1.rj,c1.gv⟩;have y2:NOk S T i 0 (s.zfZ q.m.s).zf3:={ y.1 with vz:=(y.1.log.ok q hq).z };exact LV.zgg V hi c2 h.prr h.pr0 (λ_=>rfl) y2 hh (zj1 rfl) false q.m.s (y.1.log.ok q hq).z (λa=>(by cases a)) (λ_=>(by show 2<=s.step;omega)) (λa=>(by omega)) (λ_ _=>rfl)
  rename_i e2;refine⟨c1,h.prr,h.pr0,λ_=>?_⟩;show s.step=3;omega
 .exact LV.zgg V hi h.c h.prr h.pr0 (λ_=>rfl) y.1 (y.1.zhm hm) (zj1 rfl) true ⟨#[]⟩ (by decide) (λ_=>rfl) (λ_=>(by omega)) (λa=>(by omega)) (λ_ a=>(by cases a))
 .refine h.congr (h.c.congr rfl rfl rfl rfl rfl rfl rfl rfl rfl (λt ht=>zj0 ht) (λa=>zj0 a) (λt ht=>?_)) rfl rfl rfl rfl rfl;rcases zx.1 ht with h1|h1
  .exact zj0 h1
  refine zj1 λa=>?_;rw[h1] at a;have:((2:Nat):Int)=3:=a;omega
 have hq:=zbG (p:=p) h.c.pw ni.log hm;refine h.congr (h.c.congr rfl rfl rfl rfl rfl rfl rfl rfl rfl (λt ht=>zj0 ht) (λ_=>zj1 ⟨hq,hm⟩) (λt ht=>?_)) rfl rfl rfl rfl rfl;rcases zx.1 ht with h1|h1
 .exact zj0 h1
 refine zj1 λ_=>?_;rw[h1];exact hq
theorem LV.zgq(V:ys n p)(hi:i<n)(h:LV n i p s)(tm:yX i s)(y:YOk S T i s)(ni:NI n i x0 s)(hl:s.tims=u::l):LV n i p (s.zfQ.zga i u):=by
 have ad:u∈s.tims:=by rw[hl];exact zjV ..
 have aa:∀v∈s.zfQ.tims,v∈s.tims:=λv hv=>by
  rw[hl];exact vS (by rw[<-hl];exact hv)
 have hc:LV0 n i p s.zfQ:=h.c.congr rfl rfl rfl rfl rfl rfl rfl rfl rfl (λt ht=>zj0 ht) (λa=>zj0 a) (λt ht=>zj0 (aa t ht));have h':LV n i p s.zfQ:=h.congr hc rfl rfl rfl rfl rfl;have y':=y.pop;have ni':NI n i x0 s.zfQ:=ni.congr rfl rfl rfl rfl rfl rfl rfl rfl rfl;have h12:=tm.t12 u ad;refine ye (C:=LV n i p) (λa b c d=>?_) (λa b c d=>?_) (λa b c d=>?_) (λ_=>h')
 .have a':u.h=(s.zfF:Int):=a;have d':s.step=1:=d;exact LV.zgg V hi h'.c h'.prr h'.pr0 (λe=>by have:=h.hs e;omega) y'.1 (by show s.zfF<12;omega) (zj0 rfl) true ⟨#[]⟩ (by decide) (λ_=>rfl) (λe=>(by omega)) (λ_ e=>(by cases e)) (λe=>(by omega))
 .have a':u.h=(s.zfF:Int):=a;have d':s.step=2:=d;exact LV.zgg V hi h'.c h'.prr h'.pr0 (λ_=>rfl) y'.1 (by show s.zfF<12;omega) (zj1 rfl) true ⟨#[]⟩ (by decide) (λ_=>rfl) (λ_=>(by show 2<=s.step;omega)) (λe=>(by omega)) (λ_ e=>(by cases e))
 have a':u.h=(s.zfF:Int):=a;have b':u.r=(s.round:Int):=b;have d':s.round<20:=d;have hq:=h.c.t3q u ad c;rw[a',b'] at hq;refine LV.round V hi h' y' ni' (by show s.zfF<12;omega) (Nat.lt_succ_self _) (by show s.round+1<=20;omega) ?_;show QU n p s.sg 3 (s.zfF:Int) (((s.round+1:Nat):Int)-1);rw[show(((s.round+1:Nat):Int)-1)=(s.round:Int) by omega];exact hq
theorem Nd.one(V:ys n p)(hi:i<n)(h:Nd n i x0 p S T s)(ht:(s.zfT (za.zfY i) i).1=true):Nd n i x0 p S T (s.zfT (za.zfY i) i).2:=
 ⟨⟨(h.y.1.one ht).1,h.y.2.one h.y.1 ht⟩,h.ni.zfT hi,h.tm.one h.y.1 ht,h.lv.one V hi h.tm h.y h.ni ht⟩
theorem Nd.go(V:ys n p)(hi:i<n):∀(f:Nat) (s:za),Nd n i x0 p S T s->Nd n i x0 p S T (za.zgn i f s)
 |0,_,h=>h
 |f+1,s,h=>by
  rw[za.zgn];split
  .rename_i h1;exact Nd.go V hi f _ (h.one V hi h1)
  .exact h
theorem Nd.zgN(V:ys n p)(hi:i<n)(h:Nd n i x0 p S T s):Nd n i x0 p S T (s.zge i):=Nd.go V hi 2200 s h
theorem JS(V:ys n p)(hi:i<n):∀(f:Nat) (s:za),Nd n i x0 p S T s->2190<f+s.zgh->((za.zgn i f s).zfT (za.zfY i) i).1=false
 |0,s,h,hf=>by
  have:=h.y.1.zgh;omega
 |f+1,s,h,hf=>by
  rw[za.zgn];split
  .rename_i h1;exact JS V hi f _ (h.one V hi h1) (by have:=(h.y.1.one h1).2;omega)
  .rename_i h1;simpa using h1
theorem Nd.quiet(V:ys n p)(hi:i<n)(h:Nd n i x0 p S T s):kC (s.zge i):=quiet_of (JS V hi 2200 s h (by omega))
theorem Nd.zgq(V:ys n p)(hi:i<n)(h:Nd n i x0 p S T s)(hl:s.tims=u::l)(hd:u.due<=(s.time:Int)):Nd n i x0 p S T (s.zfQ.zga i u):=by
 have aa:u∈s.tims:=by rw[hl];exact zjV ..
 exact⟨h.y.pop.exp (h.tm.t12 u aa),(h.ni.congr (s':=s.zfQ) rfl rfl rfl rfl rfl rfl rfl rfl rfl).exp hi u,(h.tm.zgq h.y.1.stp hl hd).1,h.lv.zgq V hi h.tm h.y h.ni hl⟩
theorem Nd.due(V:ys n p)(hi:i<n):∀(f:Nat) (s:za),Nd n i x0 p S T s->Nd n i x0 p S T (za.zf0 i f s)
 |0,_,h=>h
 |f+1,s,h=>by
  rw[za.zf0];split
  .exact h
  .rename_i t l hl;split
   .rename_i hd;exact Nd.due V hi f _ ((h.zgq V hi hl hd).zgN V hi)
   .exact h
theorem JZ(V:ys n p)(hi:i<n):∀(f:Nat) (s:za),Nd n i x0 p S T s->kC s->kC (za.zf0 i f s)
 |0,_,_,hq=>hq
 |f+1,s,h,hq=>by
  rw[za.zf0];split
  .exact hq
  .rename_i t l hl;split
   .rename_i hd;exact JZ V hi f _ ((h.zgq V hi hl hd).zgN V hi) ((h.zgq V hi hl hd).quiet V hi)
   .exact hq
theorem kC.congr(h:kC s)(hx:s'.x=s.x)(hl:s'.log=s.log)(hr:s'.round=s.round)(hs:s'.step=s.step)(hh:s'.held=s.held)(h2:s'.b2=s.b2)(h3:s'.b3=s.b3):kC s':=by
 have hg:∀u,s'.zgc u=s.zgc u:=λu=>by unfold za.zgc;rw[hx]
 have hm:∀f,s'.most f=s.most f:=λf=>by unfold za.most;rw[hx,hl]
 have ad:s'.zgk=s.zgk:=by
  funext r;unfold za.zgk;rw[hl]
  congr 1
  funext e;rw[hm,hg]
 refine⟨by unfold za.zgr;rw[ad];exact h.q1,λr aa=>?_,?_,?_,?_,?_,?_⟩
 .have:=h.q2 r aa
  unfold za.zfV at this ⊢;rw[hr,hx,hl];exact this
 .rw [hs,hl,hr];intro a q b c d;rw[hm];exact h.q3 a q b c d
 .rw [hs,hl,hr,hh];intro a b q c d e f;rw[hg];rw[hm] at f;exact h.q5 a b q c d e f
 .rw [hs,hr,hm];exact h.q6
 .rw [hs,hr,hm,h2];exact h.q7
 rw[hr,hm,h3];exact h.q8
theorem Nd.zfN(h:Nd n i x0 p S T s):Nd n i x0 p S (T+1) s.zfN:=by
 have kh:s.zfN.zfF=s.zfF:=by
  show(s.dec.map _).length=s.dec.length;simp
 have hc:LV0 n i p s.zfN:=h.lv.c.congr rfl rfl rfl kh rfl rfl rfl rfl rfl (λt ht=>zj0 ht) (λa=>zj0 a) (λt ht=>zj0 ht);exact⟨h.y.zfN,h.ni.congr rfl (by show(s.dec.map _).map _=s.dec.map _;rw[List.map_map];rfl) rfl rfl rfl rfl rfl rfl rfl,h.tm.zfN,h.lv.congr hc rfl kh rfl rfl rfl⟩
theorem yw(s:za):s.again.x=s.x/\s.again.sg=s.sg/\s.again.log=s.log/\s.again.dec=s.dec/\s.again.step=s.step/\s.again.round=s.round/\s.again.held=s.held/\s.again.vr=s.vr/\s.again.vv=s.vv/\s.again.wait=s.wait/\s.again.b3=s.b3/\s.again.tims=s.tims/\s.again.b2=s.b2/\s.again.ahead=s.ahead/\s.again.lr=s.lr/\s.again.lv=s.lv/\s.again.time=s.time:=by
 unfold za.again;split<;>exact⟨rfl,rfl,rfl,rfl,rfl,rfl,rfl,rfl,rfl,rfl,rfl,rfl,rfl,rfl,rfl,rfl,rfl⟩
theorem Nd.tick(V:ys n p)(hi:i<n)(h:Nd n i x0 p S T s)(hq:kC s):Nd n i x0 p S (T+1) (s.zfW i)/\kC (s.zfW i):=by
 have h1:=Nd.due V hi (s.tims.length+1) s.zfN h.zfN;have q1:=JZ V hi (s.tims.length+1) s.zfN h.zfN (hq.congr rfl rfl rfl rfl rfl rfl rfl);obtain⟨a1,a2,a3,a4,a5,a6,a7,a8,a9,a10,a11,a12,a13,a14,a15,a16,a17⟩:=yw (za.zf0 i (s.tims.length+1) s.zfN);have kh:(s.zfW i).zfF=(za.zf0 i (s.tims.length+1) s.zfN).zfF:=congrArg List.length a4;have hc:LV0 n i p (s.zfW i):=h1.lv.c.congr a1 a2 a3 kh a5 a6 a7 a8 a9 (λt ht=>zj0 (by rw[<-show(s.zfW i).wait=_ from a10];exact ht)) (λa=>zj0 (by rw[<-show(s.zfW i).b3=_ from a11];exact a)) (λt ht=>zj0 (by rw[<-show(s.zfW i).tims=_ from a12];exact ht));exact⟨⟨h.y.tick,h.ni.tick hi,(h.tm.tick h.y.1).1,h1.lv.congr hc a2 kh a6 a7 a5⟩,q1.congr a1 a3 a6 a5 a7 a13 a11⟩
end
section
variable{n i S T:Nat}{s:za}{fr:zj5}{x0 p:Nat->Int}
theorem zG{C:za->Prop}(c0:C s)(ct:∀k,k<s.zfF->(decV fr).h=(k:Int)->C (s.zf2 k))
 (cr:zM fr=true->zB s.sg n (decV fr).f fr=true->s.zgl (decV fr) fr=none->C ((s.zf5 ⟨decV fr,fr,false⟩).zge i)):C (s.zfM n i fr):=by
 unfold za.zfM;split
 .rename_i h1;unfold za.zgv;split
  .rename_i h2;have h0:=(qQ h1.1).1;exact ct _ (by omega) (by omega)
  split
  .exact c0
  rename_i h2;exact cr h1.1 h1.2 h2
 exact c0
theorem Nd.take(h:Nd n i x0 p S T s)(hd:zM fr=true)(hs:zB s.sg n (decV fr).f fr=true)(hr:s.zgl (decV fr) fr=none):Nd n i x0 p S T (s.zf5 ⟨decV fr,fr,false⟩):=by
 have aa:=hs;unfold zB at aa;rw[Bool.and_eq_true_iff] at aa;have ae:=zjP aa.1;have ad:=zdl aa.2;obtain⟨r1,r2,r3,r4,r5⟩:=ZZ hr;have hE:∀k:Nat,(decV fr).h=(k:Int)->xA n s.sg k ⟨decV fr,fr,false⟩:=λk hk=>⟨hd,rfl,ae.1,by show(decV fr).f.toNat<n;omega,ad,hk⟩;refine⟨⟨h.y.1.take hr (qQ hd),h.y.2.take (e:=⟨decV fr,fr,false⟩) (ze7 hd)⟩,h.ni.take (λe=>hE _ e) (λe=>hE _ ?_) (λx hx e=>r4 ?_),?_,?_⟩
 .have e':(decV fr).h≠(s.zfF:Int):=e;show(decV fr).h=((s.zfF+1:Nat):Int);omega
 .unfold ZG;rw[List.any_eq_true];exact⟨x,hx,zjQ e⟩
 .unfold za.zf5;split
  .exact h.tm.congr rfl rfl rfl (zjA _) (λe=>absurd rfl e) rfl rfl rfl rfl
  exact h.tm.congr rfl rfl rfl (zjA _) (λe=>absurd rfl e) rfl rfl rfl rfl
 unfold za.zf5;split
 .exact h.lv.congr (h.lv.c.ziV (s':={ s with log:=s.log++[⟨decV fr,fr,false⟩] }) h.y.1.dom rfl rfl (λe he=>List.mem_append_left _ he) rfl rfl rfl rfl rfl rfl rfl rfl rfl) rfl rfl rfl rfl rfl
 exact h.lv.congr (h.lv.c.congr rfl rfl rfl rfl rfl rfl rfl rfl rfl (λt ht=>zj0 ht) (λa=>zj0 a) (λt ht=>zj0 ht)) rfl rfl rfl rfl rfl
theorem yh(s:za)(k:Nat):(s.zf2 k).x=s.x/\(s.zf2 k).sg=s.sg/\(s.zf2 k).log=s.log/\(s.zf2 k).zfF=s.zfF/\(s.zf2 k).step=s.step/\(s.zf2 k).round=s.round/\(s.zf2 k).held=s.held/\(s.zf2 k).vr=s.vr/\(s.zf2 k).vv=s.vv/\(s.zf2 k).wait=s.wait/\(s.zf2 k).b3=s.b3/\(s.zf2 k).tims=s.tims/\(s.zf2 k).b2=s.b2/\(s.zf2 k).ahead=s.ahead/\(s.zf2 k).time=s.time:=by
 unfold za.zf2;split
 .exact ⟨rfl,rfl,rfl,rfl,rfl,rfl,rfl,rfl,rfl,rfl,rfl,rfl,rfl,rfl,rfl⟩
 exact⟨rfl,rfl,rfl,List.length_set,rfl,rfl,rfl,rfl,rfl,rfl,rfl,rfl,rfl,rfl,rfl⟩
theorem Nd.tell(h:Nd n i x0 p S T s)(k:Nat)(hk:k<s.zfF):Nd n i x0 p S T (s.zf2 k):=by
 obtain⟨a1,a2,a3,a4,a5,a6,a7,a8,a9,a10,a11,a12,a13,a14,a15⟩:=yh s k;have hc:LV0 n i p (s.zf2 k):=h.lv.c.congr a1 a2 a3 a4 a5 a6 a7 a8 a9 (λt ht=>zj0 (by rw[<-a10];exact ht)) (λa=>zj0 (by rw[<-a11];exact a)) (λt ht=>zj0 (by rw[<-a12];exact ht));exact⟨h.y.tell k hk,h.ni.tell k,h.tm.congr a12 a4 a6 (Nat.le_of_eq a5.symm) (λe=>absurd a5 e) a13 a11 a15 a1,h.lv.congr hc a2 a4 a6 a7 a5⟩
theorem GB(k:Nat)(h:kC s):kC (s.zf2 k):=by
 obtain⟨a1,a2,a3,a4,a5,a6,a7,a8,a9,a10,a11,a12,a13,a14,a15⟩:=yh s k;exact h.congr a1 a3 a6 a5 a7 a13 a11
theorem Nd.zfX(V:ys n p)(hi:i<n)(h:Nd n i x0 p S T s)(hq:kC s)(fr:zj5):Nd n i x0 p S T (s.zfM n i fr)/\kC (s.zfM n i fr):=
 zG (C:=λz=>Nd n i x0 p S T z/\kC z) ⟨h,hq⟩ (λk hk _=>⟨h.tell k hk,GB k hq⟩) (λa b c=>⟨(h.take a b c).zgN V hi,(h.take a b c).quiet V hi⟩)
theorem ZR(s:za)(t:zj5):(s.zgd t).x=s.x/\(s.zgd t).sg=s.sg/\(s.zgd t).log=s.log/\(s.zgd t).zfF=s.zfF/\(s.zgd t).step=s.step/\(s.zgd t).round=s.round/\(s.zgd t).held=s.held/\(s.zgd t).vr=s.vr/\(s.zgd t).vv=s.vv/\(s.zgd t).b3=s.b3/\(s.zgd t).tims=s.tims/\(s.zgd t).b2=s.b2/\(s.zgd t).ahead=s.ahead/\(s.zgd t).time=s.time/\(s.zgd t).out=s.out/\(s.zgd t).dec=s.dec:=by
 unfold za.zgd;split<;>exact⟨rfl,rfl,rfl,rfl,rfl,rfl,rfl,rfl,rfl,rfl,rfl,rfl,rfl,rfl,rfl,rfl⟩
theorem Nd.sub(h:Nd n i x0 p S T s)(t:zj5)(ht:byt t 0≠118):Nd n i x0 p S T (s.zgd t):=by
 obtain⟨a1,a2,a3,a4,a5,a6,a7,a8,a9,a11,a12,a13,a14,a15,-,-⟩:=ZR s t;have hc:LV0 n i p (s.zgd t):=h.lv.c.congr a1 a2 a3 a4 a5 a6 a7 a8 a9 (λu hu=>?_) (λa=>zj0 (by rw[<-a11];exact a)) (λt ht=>zj0 (by rw[<-a12];exact ht))
 .exact ⟨h.y.sub,h.ni.sub t,h.tm.congr a12 a4 a6 (Nat.le_of_eq a5.symm) (λe=>absurd a5 e) a13 a11 a15 a1,h.lv.congr hc a2 a4 a6 a7 a5⟩
 unfold za.zgd at hu;split at hu
 .rcases List.mem_append.1 hu with h1|h1
  .exact zj0 h1
  rw[List.mem_singleton.1 h1];exact zj1 ht
 exact zj0 hu
theorem zaW(t:zj5)(h:kC s):kC (s.zgd t):=by
 obtain⟨a1,a2,a3,a4,a5,a6,a7,a8,a9,a11,a12,a13,a14,a15,-,-⟩:=ZR s t;exact h.congr a1 a3 a6 a5 a7 a13 a11
theorem Nd.sent(h:Nd n i x0 p S T s):Nd n i x0 p S T { s with out:=[] }:=
 ⟨h.y.sent,h.ni.sent,h.tm.congr rfl rfl rfl (zjA _) (λe=>absurd rfl e) rfl rfl rfl rfl,h.lv.congr (h.lv.c.congr rfl rfl rfl rfl rfl rfl rfl rfl rfl (λt ht=>zj0 ht) (λa=>zj0 a) (λt ht=>zj0 ht)) rfl rfl rfl rfl rfl⟩
theorem Nd.others(h:Nd n i x0 p S T s){sg':Nat->List zj5}(hs:SgLe s.sg sg')(hi:sg' i=s.sg i)(hsg:SgL n p sg'):Nd n i x0 p S T { s with sg:=sg' }:=
 ⟨⟨h.y.1.ring hi,⟨h.y.2.form,h.y.2.vr0,h.y.2.vr1,h.y.2.lr,h.y.2.pv,h.y.2.pa,h.y.2.th⟩⟩,h.ni.others hs hi,h.tm.congr rfl rfl rfl (zjA _) (λe=>absurd rfl e) rfl rfl rfl rfl,⟨h.lv.c.others hs hi hsg,λa b=>(h.lv.prr a b).mono hs,λa b=>(h.lv.pr0 a b).mono hs,h.lv.hs⟩⟩
def Knows(s:za)(fr:zj5):Prop:=(decV fr).h<(s.zfF:Int)\/((decV fr).h=(s.zfF:Int)/\∃e∈s.log,e.fr=fr)\/((decV fr).h=(s.zfF:Int)+1/\∃e∈s.ahead,e.fr=fr)
def Kn(s s':za):Prop:=∀fr,Knows s fr->Knows s' fr
theorem Kn.refl(s:za):Kn s s:=λ_ h=>h
theorem Kn.trans{a b c:za}(h:Kn a b)(h':Kn b c):Kn a c:=λfr x=>h' fr (h fr x)
theorem xW{s':za}(hh:s'.zfF=s.zfF)(hl:∀e∈s.log,e∈s'.log)(ha:∀e∈s.ahead,e∈s'.ahead):Kn s s':=λfr h=>by
 unfold Knows at h ⊢;rw[hh];rcases h with h|⟨h,e,he,q⟩|⟨h,e,he,q⟩
 .exact zj0 h
 .exact zj1 (zj0 ⟨h,e,hl e he,q⟩)
 .exact zj1 (zj1 ⟨h,e,ha e he,q⟩)
theorem zT(s:za)(i:Nat)(k v:Int)(nl:Bool)(t:zj5):(∀e∈s.log,e∈(s.zfI i k v nl t).log)/\(s.zfI i k v nl t).ahead=s.ahead/\(s.zfI i k v nl t).zfF=s.zfF:=by
 unfold za.zfI;split
 .exact ⟨λ_ h=>h,rfl,rfl⟩
 split
 .exact ⟨λe he=>List.mem_append_left _ he,rfl,rfl⟩
 exact⟨λ_ h=>h,rfl,rfl⟩
theorem gL(s:za)(i:Nat)(k v:Int)(nl:Bool)(t:zj5)(st:Nat):Kn s ((s.zfI i k v nl t).zfO st):=by
 obtain⟨h1,h2,h3⟩:=zT s i k v nl t;exact xW h3 h1 (λe he=>by show e∈(s.zfI i k v nl t).ahead;rw[h2];exact he)
theorem yp(s:za)(i r:Nat):(∀e∈s.log,e∈(s.zfH i r).log)/\(s.zfH i r).ahead=s.ahead/\(s.zfH i r).zfF=s.zfF:=by
 unfold za.zfH;split
 .exact zT (s.zfL r 1) i 1 s.vr false _
 exact⟨λ_ h=>h,rfl,rfl⟩
theorem X0(s:za)(i r:Nat):Kn s (s.zfH i r):=by
 obtain⟨h1,h2,h3⟩:=yp s i r;exact xW h3 h1 (λe he=>by rw[h2];exact he)
theorem inside{x:Nat->Int}{sg:Nat->List zj5}{h:Nat}{e:zl}(V:ys n p)(hx:ki x p)(hs:SgL n p sg)(hE:xA n sg h e)(s:za)(hsx:s.x=x)(hsh:s.zfF=h):s.zfJ e.m=false:=by
 unfold za.zfJ;have hf:=hE.fn;have h0:=hE.f0;have ef:e.m.f=((e.m.f.toNat:Nat):Int):=by omega
 have hp:=V.pow hf hx;rw[<-ef] at hp;rw[hsx,zjR hp,Bool.false_or];by_cases hk:e.m.k=1
 .have h1:=hs.pp e.m.f.toNat hf e.fr hE.mem (by rw[hE.m];exact hk);rw[hE.m,hE.h,Int.toNat_natCast] at h1;have h2:s.prop e.m.r.toNat=e.m.f.toNat:=by
   unfold za.prop;rw[hsx,hsh,yZ hx];exact h1
  rw[h2,<-ef];simp
 rw[zjR hk,Bool.false_and]
theorem zeq{q:zl}(V:ys n p)(h:Nd n i x0 p S T s)(hq:q∈s.log)(hk:q.m.k=1):Kn s (s.zfR i q):=λfr hf=>by
 have hh:s.zfF<12:=h.y.1.low hq;have eh:=yb s q;have hnv:noV q.m.s:=by
  have hE:=h.ni.log q hq;have:=h.lv.c.sgi.v q.m.f.toNat hE.fn q.fr hE.mem (by rw[hE.m];exact hk);rw[hE.m] at this;exact this
 have hx:ki (s.kept q).x p:=(Yz (x:=s.x) hnv).trans h.lv.c.pw;have aa:∀e∈s.ahead,e∈(s.kept q).ahead.filter λe=> !(s.kept q).zfJ e.m:=λe he=>by
  refine List.mem_filter.2 ⟨he,?_⟩;rw[inside V hx h.lv.c.sgi (h.ni.ahead e he) (s.kept q) rfl eh];rfl
 have key:∀s':za,s'.zfF=s.zfF+1->(∀e∈s.ahead,e∈s'.log)->Knows s' fr:=λs' h1 h2=>by
  unfold Knows at hf ⊢;rw[h1];rcases hf with a|⟨a,_⟩|⟨a,e,he,b⟩
  .exact zj0 (by omega)
  .exact zj0 (by omega)
  .exact zj1 (zj0 ⟨by omega,e,h2 e he,b⟩)
 unfold za.zfR;rw[zu];split
 .exact key _ eh aa
 .obtain ⟨b1,_,b3⟩:=yp ((s.kept q).zfK ((s.kept q).ahead.filter λe=> !(s.kept q).zfJ e.m)) i 0
  exact key _ (b3.trans eh) (λe he=>b1 e (aa e he))
theorem ze3(V:ys n p)(h:Nd n i x0 p S T s)(ht:(s.zfT (za.zfY i) i).1=true):Kn s (s.zfT (za.zfY i) i).2:=by
 refine zE (C:=Kn s) ht (λq hq=>?_) (λ_ r _ _ _=>X0 s i r) (λ_ _ _ q _ _ _ _=>?_) (λ_ _ _ _ q _ _ _ _ _=>?_) (λ_ _ _ _=>gL s i 3 0 true _ 3) (λ_ _ _ _ _=>xW rfl (λ_ h=>h) (λ_ h=>h)) (λ_ _ _ _=>xW rfl (λ_ h=>h) (λ_ h=>h))
 .obtain ⟨r,_,h2⟩:=jt hq
  exact zeq V h (yO h2).1 (yO h2).2.1
 .split
  .exact gL s i 2 0 false _ 2
  exact gL s i 2 0 true _ 2
 split
 .exact (xW (s:=s) (s':=(s.zfZ q.m.s).zf3) rfl (λ_ h=>h) (λ_ h=>h)).trans (gL _ i 3 0 false _ 3)
 exact xW rfl (λ_ h=>h) (λ_ h=>h)
theorem zdf(V:ys n p)(hi:i<n):∀(f:Nat) (s:za),Nd n i x0 p S T s->Kn s (za.zgn i f s)
 |0,s,_=>Kn.refl s
 |f+1,s,h=>by
  rw[za.zgn];split
  .rename_i h1;exact(ze3 V h h1).trans (zdf V hi f _ (h.one V hi h1))
  .exact Kn.refl s
theorem zep(s:za)(e:zl):Kn s (s.zf5 e):=by
 unfold za.zf5;split
 .exact xW rfl (λx hx=>List.mem_append_left _ hx) (λ_ h=>h)
 exact xW rfl (λ_ h=>h) (λx hx=>List.mem_append_left _ hx)
theorem Kf(V:ys n p)(hi:i<n)(h:Nd n i x0 p S T s)(fr:zj5):Kn s (s.zfM n i fr):=
 zG (C:=Kn s) (Kn.refl s) (λk _ _=>by
  obtain⟨_,_,a3,a4,_,_,_,_,_,_,_,_,_,a14,_⟩:=yh s k;exact xW a4 (λe he=>by rw[a3];exact he) (λe he=>by rw[a14];exact he)) (λa b c=>(zep s _).trans (zdf V hi 2200 _ (h.take a b c)))
def zdY(n:Nat)(sg:Nat->List zj5):Prop:=∀q,q<n->∀fr∈sg q,∀fr'∈sg q,(decV fr).k=(decV fr').k->(decV fr).h=(decV fr').h->(decV fr).r=(decV fr').r->fr=fr'
theorem Qs{q:Nat}(V:ys n p)(hi:i<n)(h:Nd n i x0 p S T s)(ho:zdY n s.sg){fr:zj5}(hq:q<n)(hf:fr∈s.sg q)(hfar:(decV fr).h<=(s.zfF:Int)+1):Knows (s.zfM n i fr) fr:=by
 obtain⟨hd,ag,ai⟩:=h.lv.c.sgi.ok q hq fr hf;have hE:∀k:Nat,(decV fr).h=(k:Int)->xA n s.sg k ⟨decV fr,fr,false⟩:=λk hk=>⟨hd,rfl,by show 0<=(decV fr).f;omega,by show(decV fr).f.toNat<n;omega,by show fr∈s.sg (decV fr).f.toNat;rw[ag,Int.toNat_natCast];exact hf,hk⟩;have hs:zB s.sg n (decV fr).f fr=true:=by
  unfold zB;rw[ag,zjQ ⟨by omega,by omega⟩,Bool.true_and,Int.toNat_natCast];exact jk hf
 have h0:=(qQ hd).1;by_cases ad:(decV fr).h<(s.zfF:Int)
 .exact Kf V hi h fr fr (zj0 ad)
 have ah:s.zfM n i fr=s.zgv i (decV fr) fr:=by unfold za.zfM;rw[zj2 ⟨hd,hs⟩]
 rw[ah];unfold za.zgv;rw[zj3 ad];cases hr:s.zgl (decV fr) fr with
 |none=>
  show Knows ((s.zf5 ⟨decV fr,fr,false⟩).zge i) fr;refine zdf V hi 2200 _ (h.take hd hs hr) fr ?_;unfold za.zf5;split
  .rename_i e;exact zj1 (zj0 ⟨e,_,List.mem_append_right _ (List.mem_singleton.2 rfl),rfl⟩)
  rename_i e;have e':¬(decV fr).h=(s.zfF:Int):=e;exact zj1 (zj1 ⟨by show(decV fr).h=(s.zfF:Int)+1;omega,_,List.mem_append_right _ (List.mem_singleton.2 rfl),rfl⟩)
 |some k=>
  show Knows s fr;unfold za.zgl at hr;rw[zj3 ad,zj3 (by omega)] at hr;rw[zj3 (λa=>by rw[inside V h.lv.c.pw h.lv.c.sgi (hE s.zfF a.1) s rfl rfl] at a;cases a.2)] at hr;have aa:ZG (s.zf8 (decV fr).h) fr=true:=by
   cases e:ZG (s.zf8 (decV fr).h) fr with
   |true=>rfl
   |false=>
    exfalso;rw[e,zj3 zjX] at hr;have hz:likeN (s.zf8 (decV fr).h) (decV fr)=0:=by
     unfold likeN;rw[List.length_eq_zero_iff,List.filter_eq_nil_iff];intro x hx hl;have af:=zjP hl;have hX:∃k:Nat,xA n s.sg k x:=by
      unfold za.zf8 at hx;split at hx
      .exact ⟨_,h.ni.log x hx⟩
      exact⟨_,h.ni.ahead x hx⟩
     obtain⟨k',hX⟩:=hX;have hm:x.fr∈s.sg q:=by
      have:=hX.mem;rw[af.2.2.2,ag,Int.toNat_natCast] at this;exact this
     have e2:x.fr=fr:=ho q hq x.fr hm fr hf (by rw[hX.m];exact af.1) (by rw[hX.m];exact af.2.1) (by rw[hX.m];exact af.2.2.1);have:ZG (s.zf8 (decV fr).h) fr=true:=by
      unfold ZG;rw[List.any_eq_true];exact⟨x,hx,zjQ e2⟩
     rw[this] at e;cases e
    rw[hz,zj3 (by omega)] at hr;cases hr
  unfold ZG at aa;rw[List.any_eq_true] at aa;obtain⟨x,hx,ae⟩:=aa;have ae:=zjP ae;unfold za.zf8 at hx;split at hx
  .rename_i e;exact zj1 (zj0 ⟨e,x,hx,ae⟩)
  exact zj1 (zj1 ⟨by omega,x,hx,ae⟩)
end
section
variable{n h r0 d i S T:Nat}{s:za}{x0 p:Nat->Int}
structure TN (n h r0 d:Nat) (s:za):Prop where
 rd:s.zfF=h->s.round<=r0
 tm:∀t∈s.tims,t.n=3->t.h=(h:Int)->t.r=(r0:Int)->(s.time:Int)+d<=t.due
 th:∀t∈s.tims,t.h=(h:Int)->t.r<=(r0:Int)
 fr:∀q,q<n->∀fr∈s.sg q,(decV fr).h=(h:Int)->(decV fr).r<=(r0:Int)
theorem TN.up(H:TN n h r0 d s)(d':Nat):TN n h (r0+1) d' s:=
 ⟨λa=>Nat.le_succ_of_le (H.rd a),λt a b c e=>(by have:=H.th t a c;omega),λt a b=>(by have:=H.th t a b;omega),λq a fr b c=>(by have:=H.fr q a fr b c;omega)⟩
theorem TN.less{d':Nat}(H:TN n h r0 d s)(hd:d'<=d):TN n h r0 d' s:=
 ⟨H.rd,λt a b c e=>(by have:=H.tm t a b c e;omega),H.th,H.fr⟩
theorem TN.congr{s':za}(H:TN n h r0 d s)(h1:s'.zfF=s.zfF)(h2:s'.round=s.round)(h3:s'.tims=s.tims)(h4:s'.time=s.time)(h5:s'.sg=s.sg):TN n h r0 d s':=
 ⟨by rw[h1,h2];exact H.rd,by rw[h3,h4];exact H.tm,by rw[h3];exact H.th,by rw[h5];exact H.fr⟩
theorem ZU(s:za)(i:Nat)(k v:Int)(nl:Bool)(t:zj5)(q:Nat)(fr:zj5)(hf:fr∈(s.zfI i k v nl t).sg q):fr∈s.sg q\/(q=i/\fr=s.enc i k v nl t/\zM fr=true/\decV fr=s.msg i k v nl t):=by
 unfold za.zfI at hf;split at hf
 .exact zj0 hf
 split at hf
 .rename_i hb;obtain⟨h1,h2⟩:=gN hb;by_cases e:q=i
  .subst e;rcases jc.1 hf with h3|h3
   .exact zj0 h3
   exact zj1 ⟨rfl,h3,by rw[h3];exact h1,by rw[h3];exact h2⟩
  have aa:fr∈signR s.sg i (s.enc i k v nl t) q:=hf;rw[qL e] at aa;exact zj0 aa
 exact zj0 hf
theorem TN.send(H:TN n h r0 d s)(i:Nat)(k v:Int)(nl:Bool)(t:zj5)(st:Nat):TN n h r0 d ((s.zfI i k v nl t).zfO st):=by
 obtain⟨h1,h2,-,-,-,-,-,-,-,-,ad,aa⟩:=zq s i k v nl t;have hh:((s.zfI i k v nl t).zfO st).zfF=s.zfF:=by show List.length _=_;rw[show((s.zfI i k v nl t).zfO st).dec=s.dec from h1];rfl
 refine⟨λa=>?_,λu a=>?_,λu a=>?_,λq a fr b c=>?_⟩
 .rw [hh] at a;show(s.zfI i k v nl t).round<=r0;rw[h2];exact H.rd a
 .show _->_->_->((s.zfI i k v nl t).time:Int)+d<=u.due;rw[ad];have a':u∈(s.zfI i k v nl t).tims:=a;rw[aa] at a';exact H.tm u a'
 .have a':u∈(s.zfI i k v nl t).tims:=a;rw[aa] at a';exact H.th u a'
 rcases ZU s i k v nl t q fr b with e|⟨_,_,_,e⟩
 .exact H.fr q a fr e c
 rw[e] at c ⊢;have c':(s.zfF:Int)=(h:Int):=c;have:=H.rd (by omega);show(s.round:Int)<=(r0:Int);omega
theorem TN.timer(H:TN n h r0 d s)(num ticks:Nat)(hd:num=3->d<=ticks+r0):TN n h r0 d (s.timer num ticks):=by
 refine⟨H.rd,λt a b c e=>?_,λt a b=>?_,H.fr⟩
 .rcases zx.1 a with h1|h1
  .exact H.tm t h1 b c e
  rw[h1] at b e ⊢;have b':(num:Int)=3:=b;have e':(s.round:Int)=(r0:Int):=e;have:=hd (by omega);show(s.time:Int)+d<=(s.time:Int)+ticks+s.round;omega
 rcases zx.1 a with h1|h1
 .exact H.th t h1 b
 rw[h1] at b ⊢;have b':(s.zfF:Int)=(h:Int):=b;have:=H.rd (by omega);show(s.round:Int)<=(r0:Int);omega
theorem TN.begin{r:Nat}(H:TN n h r0 d s)(i:Nat)(hr:s.zfF=h->r<=r0):TN n h r0 d (s.zfH i r):=by
 have h1:TN n h r0 d (s.zfL r 1):=⟨hr,H.tm,H.th,H.fr⟩;unfold za.zfH;split
 .have h2:=h1.send i 1 s.vr false (if s.vr<0 then blockF s.x s.wait else s.vv) 1;have e1:((s.zfL r 1).zfI i 1 s.vr false (if s.vr<0 then blockF s.x s.wait else s.vv)).zfO 1=(s.zfL r 1).zfI i 1 s.vr false (if s.vr<0 then blockF s.x s.wait else s.vv):=jW (vR _ _ _ _ _ _);rw[e1] at h2;exact h2
 exact h1.timer 1 3 (λa=>by omega)
theorem TN.keep(H:TN n h r0 d s)(i:Nat)(q:zl):TN n h r0 d (s.zfR i q):=by
 have h1:∀l,TN n h r0 d ((s.kept q).zfK l)->True:=λ_ _=>zj7;unfold za.zfR;rw[zu];have hn:∀l st,TN n h r0 d (((s.kept q).zfK l).zfL 0 st):=λl st=>⟨λ_=>zjG _,H.tm,H.th,H.fr⟩;split
 .exact hn _ 0
 have h2:=hn ((s.kept q).ahead.filter λe=> !(s.kept q).zfJ e.m) 1;exact TN.begin (s:=((s.kept q).zfK ((s.kept q).ahead.filter λe=> !(s.kept q).zfJ e.m)).zfL 0 1) ⟨h2.rd,h2.tm,h2.th,h2.fr⟩ i (λ_=>zjG _)
theorem TN.one(H:TN n h r0 d s)(N:Nd n i x0 p S T s)(hd:d<=2+r0)(ht:(s.zfT (za.zfY i) i).1=true):TN n h r0 d (s.zfT (za.zfY i) i).2:=by
 refine zE (C:=TN n h r0 d) ht (λq _=>H.keep i q) (λ_ r _ _ hb=>?_) (λ_ _ _ q _ _ _ _=>?_) (λ_ _ _ _ q _ _ _ _ _=>?_) (λ_ _ _ _=>H.send i 3 0 true _ 3) (λ_ _ _ _ _=>H.timer 2 2 (λa=>by omega)) (λ_ _ _ _=>H.timer 3 2 (λ_=>by omega))
 .obtain ⟨e,he,aa⟩:=Y3 N.y.1.dom hb
  have hE:=N.ni.log e he;refine H.begin i λa=>?_;have:=H.fr e.m.f.toNat hE.fn e.fr hE.mem (by rw[hE.m,hE.h,a]);rw[hE.m,aa] at this;omega
 .split
  .exact H.send i 2 0 false _ 2
  exact H.send i 2 0 true _ 2
 split
 .exact (H.congr (s':=(s.zfZ q.m.s).zf3) rfl rfl rfl rfl rfl).send i 3 0 false _ 3
 exact H.congr rfl rfl rfl rfl rfl
theorem TN.go(V:ys n p)(hi:i<n)(hd:d<=2+r0):∀(f:Nat) (s:za),Nd n i x0 p S T s->TN n h r0 d s->TN n h r0 d (za.zgn i f s)
 |0,_,_,H=>H
 |f+1,s,N,H=>by
  rw[za.zgn];split
  .rename_i h1;exact TN.go V hi hd f _ (N.one V hi h1) (H.one N hd h1)
  .exact H
theorem TN.zgq{u:zU}{l:List zU}(H:TN n h r0 d s)(hd1:1<=d)(hl:s.tims=u::l)(hdue:u.due<=(s.time:Int)):TN n h r0 d (s.zfQ.zga i u):=by
 have ad:u∈s.tims:=by rw[hl];exact zjV ..
 have aa:∀v∈s.zfQ.tims,v∈s.tims:=λv hv=>by
  rw[hl];exact vS (by rw[<-hl];exact hv)
 have hp:TN n h r0 d s.zfQ:=⟨H.rd,λt a=>H.tm t (aa t a),λt a=>H.th t (aa t a),H.fr⟩;refine ye (C:=TN n h r0 d) (λ_ _ _ _=>hp.send i 2 0 true _ 2) (λ_ _ _ _=>hp.send i 3 0 true _ 3) (λa b c _=>hp.begin i λe=>?_) (λ_=>hp);have a':u.h=(s.zfF:Int):=a;have b':u.r=(s.round:Int):=b;have e':s.zfF=h:=e;have h1:=H.rd e';rcases Nat.lt_or_ge s.round r0 with h2|h2
 .exact h2
 have:=H.tm u ad c (by omega) (by omega);omega
theorem TN.due(V:ys n p)(hi:i<n)(hd1:1<=d)(hd:d<=2+r0):∀(f:Nat) (s:za),Nd n i x0 p S T s->TN n h r0 d s->TN n h r0 d (za.zf0 i f s)
 |0,_,_,H=>H
 |f+1,s,N,H=>by
  rw[za.zf0];split
  .exact H
  .rename_i t l hl;split
   .rename_i hdu;have N1:=N.zgq V hi hl hdu;exact TN.due V hi hd1 hd f _ (N1.zgN V hi) (TN.go V hi hd 2200 _ N1 (H.zgq hd1 hl hdu))
   .exact H
theorem TN.tick(V:ys n p)(hi:i<n)(N:Nd n i x0 p S T s)(H:TN n h r0 (d+1) s)(hd1:1<=d)(hd:d<=2+r0):TN n h r0 d (s.zfW i):=by
 have kh:s.zfN.zfF=s.zfF:=by
  show(s.dec.map _).length=s.dec.length;simp
 have h0:TN n h r0 d s.zfN:=⟨λa=>H.rd (by rw[<-kh];exact a),λt a b c e=>(by have:=H.tm t a b c e;show((s.time+1:Nat):Int)+d<=t.due;omega),H.th,H.fr⟩;have h1:=TN.due V hi hd1 hd (s.tims.length+1) s.zfN N.zfN h0;obtain⟨a1,a2,a3,a4,a5,a6,a7,a8,a9,a10,a11,a12,a13,a14,a15,a16,a17⟩:=yw (za.zf0 i (s.tims.length+1) s.zfN);exact h1.congr (congrArg List.length a4) a6 a12 a17 a2
theorem TN.zfX(V:ys n p)(hi:i<n)(N:Nd n i x0 p S T s)(H:TN n h r0 d s)(hd:d<=2+r0)(fr:zj5):TN n h r0 d (s.zfM n i fr):=
 zG (C:=TN n h r0 d) H (λk _ _=>by
  obtain⟨_,a2,_,a4,_,a6,_,_,_,_,_,a12,_,_,a15⟩:=yh s k;exact H.congr a4 a6 a12 a15 a2) (λa b c=>TN.go V hi hd 2200 _ (N.take a b c) (by
  unfold za.zf5;split
  .exact H.congr rfl rfl rfl rfl rfl
  .exact H.congr rfl rfl rfl rfl rfl))
theorem xq(V:ys n p)(hi:i<n)(N:Nd n i x0 p S T s)(fr:zj5):Per s (s.zfM n i fr):=
 zG (C:=Per s) (Per.refl s) (λk _ _=>by
  obtain⟨_,a2,_,a4,a5,a6,_,_,_,_,_,a12,_,_,a15⟩:=yh s k;exact xQ a12 a4 a6 (Nat.le_of_eq a5.symm) (Nat.le_of_eq a15.symm)) (λa b c=>by
  have N1:=N.take a b c;refine Per.trans ?_ (yX.go 2200 _ N1.y.1 N1.tm).2;unfold za.zf5;split
  .exact xQ rfl rfl rfl (zjA _) (zjA _)
  .exact xQ rfl rfl rfl (zjA _) (zjA _))
theorem xr(h:q9 s)(num ticks:Nat)(ht:0<ticks):q9 (s.timer num ticks):=λt a=>by
 rcases zx.1 a with h1|h1
 .exact h t h1
 .rw [h1];show(s.time:Int)<(s.time:Int)+ticks+s.round;omega
theorem jF(h:q9 s)(i:Nat)(k v:Int)(nl:Bool)(t:zj5)(st:Nat):q9 ((s.zfI i k v nl t).zfO st):=λu a=>by
 obtain⟨-,-,-,-,-,-,-,-,-,-,h11,h12⟩:=zq s i k v nl t;have a':u∈(s.zfI i k v nl t).tims:=a;rw[h12] at a';show((s.zfI i k v nl t).time:Int)<u.due;rw[h11];exact h u a'
theorem Z6(h:q9 s)(i r:Nat):q9 (s.zfH i r):=by
 have h1:q9 (s.zfL r 1):=h;unfold za.zfH;split
 .have h2:=jF h1 i 1 s.vr false (if s.vr<0 then blockF s.x s.wait else s.vv) 1;have e1:((s.zfL r 1).zfI i 1 s.vr false (if s.vr<0 then blockF s.x s.wait else s.vv)).zfO 1=(s.zfL r 1).zfI i 1 s.vr false (if s.vr<0 then blockF s.x s.wait else s.vv):=jW (vR _ _ _ _ _ _);rw[e1] at h2;exact h2
 exact xr h1 1 3 (by omega)
theorem zbw(h:q9 s)(ht:(s.zfT (za.zfY i) i).1=true):q9 (s.zfT (za.zfY i) i).2:=by
 refine zE (C:=q9) ht (λq _=>?_) (λ_ r _ _ _=>Z6 h i r) (λ_ _ _ q _ _ _ _=>?_) (λ_ _ _ _ q _ _ _ _ _=>?_) (λ_ _ _ _=>jF h i 3 0 true _ 3) (λ_ _ _ _ _=>xr h 2 2 (by omega)) (λ_ _ _ _=>xr h 3 2 (by omega))
 .unfold za.zfR;rw[zu];split
  .exact h
  exact Z6 (s:=(s.kept q).zfK ((s.kept q).ahead.filter λe=> !(s.kept q).zfJ e.m)) h i 0
 .split
  .exact jF h i 2 0 false _ 2
  exact jF h i 2 0 true _ 2
 split
 .exact jF (s:=(s.zfZ q.m.s).zf3) h i 3 0 false _ 3
 exact h
theorem XW(i:Nat):∀(f:Nat) (s:za),q9 s->q9 (za.zgn i f s)
 |0,_,h=>h
 |f+1,s,h=>by
  rw[za.zgn];split
  .rename_i h1;exact XW i f _ (zbw h h1)
  .exact h
theorem Qk(h:q9 s)(fr:zj5):q9 (s.zfM n i fr):=
 zG (C:=q9) h (λk _ _=>by
  obtain⟨_,_,_,_,_,_,_,_,_,_,_,a12,_,_,a15⟩:=yh s k;intro u hu;rw[a12] at hu;rw[a15];exact h u hu) (λ_ _ _=>XW i 2200 _ (by
  unfold za.zf5;split
  .exact h
  .exact h))
end
section
variable{i n S T:Nat}{c:za->Nat}{s s':za}{p x0:Nat->Int}
def Ou(i:Nat)(s s':za):Prop:=(∃new,s'.out=s.out++new)/\(s'.out.length<100->∀fr∈s'.sg i,fr∈s.sg i\/fr∈s'.out)
theorem Ou.refl(i:Nat)(s:za):Ou i s s:=⟨⟨[],by simp⟩,λ_ fr h=>zj0 h⟩
theorem Ou.trans{a b c:za}(h:Ou i a b)(h':Ou i b c):Ou i a c:=by
 obtain⟨⟨n1,e1⟩,h1⟩:=h;obtain⟨⟨n2,e2⟩,h2⟩:=h';refine⟨⟨n1++n2,by rw[e2,e1,List.append_assoc]⟩,λhl fr hf=>?_⟩;rcases h2 hl fr hf with h3|h3
 .rcases h1 (by rw[e2,zjO] at hl;omega) fr h3 with h4|h4
  .exact zj0 h4
  exact zj1 (by rw[e2];exact List.mem_append_left _ h4)
 exact zj1 h3
theorem gH(h1:s'.out=s.out)(h2:s'.sg=s.sg):Ou i s s':=⟨⟨[],by rw[h1];simp⟩,λ_ fr h=>zj0 (by rw[<-h2];exact h)⟩
theorem zbp(s:za)(i:Nat)(k v:Int)(nl:Bool)(t:zj5):Ou i s (s.zfI i k v nl t):=by
 unfold za.zfI;split
 .exact Ou.refl i s
 split
 .refine ⟨?_,λhl fr hf=>?_⟩
  .show ∃new,put1 s.out (s.enc i k v nl t)=s.out++new;unfold put1;split
   .exact ⟨_,rfl⟩
   exact⟨[],by simp⟩
  have aa:(put1 s.out (s.enc i k v nl t)).length<100:=hl;rcases jc.1 hf with h1|h1
  .exact zj0 h1
  refine zj1 ?_;show fr∈put1 s.out (s.enc i k v nl t);unfold put1 at aa ⊢;split at aa
  .rename_i h2;rw[zj2 h2,h1];exact List.mem_append_right _ (List.mem_singleton.2 rfl)
  rename_i h2;omega
 exact Ou.refl i s
theorem gG(s:za)(i:Nat)(k v:Int)(nl:Bool)(t:zj5)(st:Nat):Ou i s ((s.zfI i k v nl t).zfO st):=(zbp s i k v nl t).trans (gH rfl rfl)
theorem Qj(s:za)(i r:Nat):Ou i s (s.zfH i r):=by
 unfold za.zfH;split
 .exact (gH (s:=s) (s':=s.zfL r 1) rfl rfl).trans (zbp _ i 1 s.vr false _)
 exact gH rfl rfl
theorem zec(s:za)(i:Nat)(q:zl):Ou i s (s.zfR i q):=by
 unfold za.zfR;rw[zu];split
 .exact gH rfl rfl
 exact(gH (s:=s) (s':=(s.kept q).zfK ((s.kept q).ahead.filter λe=> !(s.kept q).zfJ e.m)) rfl rfl).trans (Qj _ i 0)
theorem ze0(ht:(s.zfT (za.zfY i) i).1=true):Ou i s (s.zfT (za.zfY i) i).2:=by
 refine zE (C:=Ou i s) ht (λq _=>zec s i q) (λ_ r _ _ _=>Qj s i r) (λ_ _ _ q _ _ _ _=>?_) (λ_ _ _ _ q _ _ _ _ _=>?_) (λ_ _ _ _=>gG s i 3 0 true _ 3) (λ_ _ _ _ _=>gH rfl rfl) (λ_ _ _ _=>gH rfl rfl)
 .split
  .exact gG s i 2 0 false _ 2
  exact gG s i 2 0 true _ 2
 split
 .exact (gH (s:=s) (s':=(s.zfZ q.m.s).zf3) rfl rfl).trans (gG _ i 3 0 false _ 3)
 exact gH rfl rfl
theorem zcZ(i:Nat):∀(f:Nat) (s:za),Ou i s (za.zgn i f s)
 |0,s=>Ou.refl i s
 |f+1,s=>by
  rw[za.zgn];split
  .rename_i h1;exact(ze0 h1).trans (zcZ i f _)
  .exact Ou.refl i s
theorem zed(s:za)(i:Nat)(u:zU):Ou i s (s.zfQ.zga i u):=by
 have h0:Ou i s s.zfQ:=gH rfl rfl;exact ye (C:=Ou i s) (λ_ _ _ _=>h0.trans (gG _ i 2 0 true _ 2)) (λ_ _ _ _=>h0.trans (gG _ i 3 0 true _ 3)) (λ_ _ _ _=>h0.trans (Qj _ i _)) (λ_=>h0)
theorem zdR(i:Nat):∀(f:Nat) (s:za),Ou i s (za.zf0 i f s)
 |0,s=>Ou.refl i s
 |f+1,s=>by
  rw[za.zf0];split
  .exact Ou.refl i s
  .rename_i t l hl;split
   .exact ((zed s i t).trans (zcZ i 2200 _)).trans (zdR i f _)
   .exact Ou.refl i s
def zca(p:Nat->Int)(H i r0:Nat):Nat:=(List.range 21).countP λr=>decide (r0<r)&&decide (turnOf p (H+r)=i)
theorem Kz{l:List Nat}{f g h:Nat->Bool}(hf:∀a∈l,f a=true->h a=true/\g a=false)(hg:∀a∈l,g a=true->h a=true):l.countP f+l.countP g<=l.countP h:=by
 induction l with
 |nil=>simp
 |cons a l ih=>
  have ih:=ih (λb hb=>hf b (List.mem_cons_of_mem _ hb)) (λb hb=>hg b (List.mem_cons_of_mem _ hb));have h1:=hf a (zjV ..);have h2:=hg a (zjV ..);simp only[List.countP_cons];cases ef:f a<;>cases eg:g a<;>cases eh:h a<;>simp_all<;>omega
theorem zb9{H r0 r:Nat}(h0:r0<r)(h20:r<=20):zca p H i r+(if turnOf p (H+r)=i then 1 else 0)<=zca p H i r0:=by
 have h1:=Kz (l:=List.range 21) (f:=λa=>decide (r<a)&&decide (turnOf p (H+a)=i)) (g:=λa=>decide (a=r)&&decide (turnOf p (H+a)=i)) (h:=λa=>decide (r0<a)&&decide (turnOf p (H+a)=i)) (λa _ ha=>by
  rw[Bool.and_eq_true_iff] at ha;have a1:=zjP ha.1;refine⟨by rw[zjQ (show r0<a by omega),ha.2];rfl,by rw[zjR (show¬a=r by omega)];rfl⟩) (λa _ ha=>by
  rw[Bool.and_eq_true_iff] at ha;have a1:=zjP ha.1;rw[zjQ (show r0<a by omega),ha.2];rfl)
 have h2:(if turnOf p (H+r)=i then 1 else 0)<=(List.range 21).countP (λa=>decide (a=r)&&decide (turnOf p (H+a)=i)):=by
  split
  .rename_i e;exact List.countP_pos_iff.2 ⟨r,List.mem_range.2 (by omega),by rw[zjQ (rfl:r=r),zjQ e];rfl⟩
  exact zjG _
 unfold zca;omega
theorem QI(p:Nat->Int)(H i r0:Nat):zca p H i r0<=20:=by
 have h1:=Kz (l:=List.range 21) (f:=λa=>decide (r0<a)&&decide (turnOf p (H+a)=i)) (g:=λa=>decide (a=0)) (h:=λ_=>true) (λa _ ha=>by
  rw[Bool.and_eq_true_iff] at ha;have a1:=zjP ha.1;exact⟨rfl,zjR (by omega)⟩) (λ_ _ _=>rfl)
 have h2:1<=(List.range 21).countP (λa=>decide (a=0)):=List.countP_pos_iff.2 ⟨0,List.mem_range.2 (by omega),rfl⟩;have h3:(List.range 21).countP (λ_=>true)<=21:=by
  simp
 unfold zca;omega
def za.later(s:za):Bool:=(List.range 21).any s.zfV
theorem jj:s.later=false↔∀r,r<=20->s.zfV r=false:=by
 unfold za.later;rw[List.any_eq_false];constructor
 .intro h r hr;have:=h r (List.mem_range.2 (by omega));simpa using this
 intro h r hr;rw[h r (by have:=List.mem_range.1 hr;omega)];exact zjX
def ja(p:Nat->Int)(i:Nat)(s:za):Nat:=if s.later=true then zca p s.zfF i s.round+2 else if s.step=0 then 0 else 3-s.step
theorem Xr(p:Nat->Int)(i:Nat)(s:za):ja p i s<=22:=by
 have:=QI p s.zfF i s.round;unfold ja;split
 .omega
 split<;>omega
theorem zaK(h:kC s):ja p i s<=2:=by
 unfold ja;rw[zj3 (by rw[jj.2 h.q2];exact zjX)];split<;>omega
theorem GL{e:zl}(hx:s'.x=s.x)(hr:s'.round=s.round)(hl:s'.log=s.log++[e])(he:e.m.r=(s.round:Int))(r:Nat):s'.zfV r=s.zfV r:=by
 unfold za.zfV;rw[hx,hr,hl];by_cases h:s.round<r
 .have e1:sendB (λe=>decide (e.m.r=(r:Int))) (s.log++[e])=sendB (λe=>decide (e.m.r=(r:Int))) s.log:=by
   funext q;unfold sendB;rw[List.any_append];have:decide (e.m.r=(r:Int))=false:=zjR (by omega);simp[this]
  rw[e1]
 rw[zjR h,Bool.false_and,Bool.false_and]
theorem GI(s:za)(i:Nat)(k v:Int)(nl:Bool)(t:zj5)(st:Nat):((s.zfI i k v nl t).zfO st).later=s.later:=by
 unfold za.later
 congr 1
 funext r;show(s.zfI i k v nl t).zfV r=s.zfV r;unfold za.zfI;split
 .rfl
 split
 .exact GL (s:=s) (s':=s.zie i k v nl t) (e:=⟨s.msg i k v nl t,s.enc i k v nl t,true⟩) rfl rfl rfl rfl r
 rfl
theorem K9(s:za)(i:Nat)(k v:Int)(nl:Bool)(t:zj5):(s.zfI i k v nl t).out.length<=s.out.length+1/\xB (s.zfI i k v nl t).log<=xB s.log+1:=by
 unfold za.zfI;split
 .exact ⟨Nat.le_succ _,Nat.le_succ _⟩
 split
 .refine ⟨?_,?_⟩
  .show (put1 s.out _).length<=_
   unfold put1;split
   .rw [zjO,List.length_singleton];exact zjA _
   exact Nat.le_succ _
  show xB (s.log++[_])<=_;unfold xB;rw[List.countP_append];simp
 exact⟨Nat.le_succ _,Nat.le_succ _⟩
structure Cnt (c:za->Nat):Prop where
 send:∀s i k v nl t,c (za.zfI s i k v nl t)<=c s+1
 same:∀s s':za,s'.out=s.out->s'.log=s.log->c s'=c s
theorem gP:Cnt (λs=>s.out.length):=⟨λs i k v nl t=>(K9 s i k v nl t).1,λ_ _ h _=>by rw[h]⟩
theorem Xc:Cnt (λs=>xB s.log):=⟨λs i k v nl t=>(K9 s i k v nl t).2,λ_ _ _ h=>by rw[h]⟩
theorem jJ(hc:Cnt c)(i:Nat)(k v:Int)(nl:Bool)(t:zj5)(st:Nat)(hl:s.later=false)(h1:1<=s.step)(h2:s.step<st)(h3:st<=3):c ((s.zfI i k v nl t).zfO st)+ja p i ((s.zfI i k v nl t).zfO st)<=c s+ja p i s:=by
 have e1:=hc.send s i k v nl t;have e2:=hc.same (s.zfI i k v nl t) ((s.zfI i k v nl t).zfO st) rfl rfl;rw[e2];unfold ja;rw[GI,hl,zj3 zjX,zj3 zjX,zj3 (by show¬st=0;omega),zj3 (by omega)];show _+(3-st)<=_;omega
theorem zaL(hc:Cnt c)(i r:Nat)(hx:ki s.x p)(hr:s.round<r)(h20:r<=20)(hh:s.zfF<12)(hl:s.later=true):c (s.zfH i r)+ja p i (s.zfH i r)<=c s+ja p i s:=by
 have hs:ja p i s=zca p s.zfF i s.round+2:=by unfold ja;rw[zj2 hl]
 have hst:=zb9 (p:=p) (H:=s.zfF) (i:=i) hr h20;obtain⟨k1,k2,k3,-,-,-,-,-,-,-⟩:=zF s i r;have kh:(s.zfH i r).zfF=s.zfF:=by unfold za.zfF;rw[k1]
 have ha:ja p i (s.zfH i r)<=zca p s.zfF i r+2:=by
  unfold ja;rw[kh,k2,k3];split
  .exact zjA _
  rw[zj3 (by omega)];omega
 have hcc:c (s.zfH i r)<=c s+(if turnOf p (s.zfF+r)=i then 1 else 0):=by
  have aa:s.prop r=turnOf p (s.zfF+r):=by unfold za.prop;exact yZ hx _
  by_cases e:s.prop r=i
  .have eb:s.zfH i r=(s.zfL r 1).zfI i 1 s.vr false (if s.vr<0 then blockF s.x s.wait else s.vv):=by unfold za.zfH;rw[zj2 e]
   rw[eb,<-aa,zj2 e];have e1:=hc.send (s.zfL r 1) i 1 s.vr false (if s.vr<0 then blockF s.x s.wait else s.vv);have e2:=hc.same s (s.zfL r 1) rfl rfl;omega
  have eb:s.zfH i r=(s.zfL r 1).timer 1 3:=by unfold za.zfH;rw[zj3 e]
  rw[eb];have e2:=hc.same s ((s.zfL r 1).timer 1 3) rfl rfl;omega
 omega
theorem QT(hc:Cnt c)(N:Nd n i x0 p S T s)(ht:(s.zfT (za.zfY i) i).1=true):(s.zfT (za.zfY i) i).2.zfF=s.zfF->c (s.zfT (za.zfY i) i).2+ja p i (s.zfT (za.zfY i) i).2<=c s+ja p i s:=by
 refine zE (C:=λz=>z.zfF=s.zfF->c z+ja p i z<=c s+ja p i s) ht (λq hq hh=>?_) (λ_ r aa hr hb _=>?_) (λ_ hl hs q hq _ _ _=>?_) (λ_ hl hs hhd q hq _ _ _ _=>?_) (λ_ hl hs hm _=>?_) (λ_ hl hs _ _ _=>?_) λ_ hl _ _ _=>?_
 .exfalso;have h1:=XT s i q;have hk:(s.zfR i q).zfF=s.zfF+1:=by
   have:=yb s q;unfold za.zfR;rw[zu];split
   .exact this
   exact(yp _ i 0).2.2.trans this
  omega
 .exact zaL hc i r N.lv.c.pw hr aa (N.y.1.zg0 hb) (by
   unfold za.later;rw[List.any_eq_true];exact⟨r,List.mem_range.2 (by omega),hb⟩)
 .split
  .exact λ_=>jJ hc i 2 0 false _ 2 (jj.2 hl) (by omega) (by omega) (by omega)
  exact λ_=>jJ hc i 2 0 true _ 2 (jj.2 hl) (by omega) (by omega) (by omega)
 .have hst:=N.tm.st (N.y.1.low hq);have h3:=N.y.1.stp;split
  .rename_i e2;intro _;have h1:=jJ (p:=p) (s:=(s.zfZ q.m.s).zf3) hc i 3 0 false q.m.s 3 (jj.2 hl) (by show 1<=s.step;omega) (by show s.step<3;omega) (by omega);have h2:=hc.same s (s.zfZ q.m.s).zf3 rfl rfl;have h4:ja p i (s.zfZ q.m.s).zf3=ja p i s:=rfl;omega
  intro _;have h2:=hc.same s (s.zfZ q.m.s) rfl rfl;have h4:ja p i (s.zfZ q.m.s)=ja p i s:=rfl;omega
 .exact jJ hc i 3 0 true _ 3 (jj.2 hl) (by omega) (by omega) (by omega)
 .have h2:=hc.same s (s.timer 2 2) rfl rfl;have h4:ja p i (s.timer 2 2)=ja p i s:=rfl;omega
 have h2:=hc.same s (s.timer 3 2) rfl rfl;have h4:ja p i (s.timer 3 2)=ja p i s:=rfl;omega
theorem zcH(s:za)(i:Nat)(k v:Int)(nl:Bool)(t:zj5)(e:zl)(he:e∈(s.zfI i k v nl t).log):e∈s.log\/(e.own=true/\e.m.r=(s.round:Int)):=by
 unfold za.zfI at he;split at he
 .exact zj0 he
 split at he
 .rcases List.mem_append.1 he with h1|h1
  .exact zj0 h1
  rw[List.mem_singleton.1 h1];exact zj1 ⟨rfl,rfl⟩
 exact zj0 he
theorem Vc(s:za)(i r:Nat)(e:zl)(he:e∈(s.zfH i r).log):e∈s.log\/(e.own=true/\e.m.r=(r:Int)):=by
 unfold za.zfH at he;by_cases hp:s.prop r=i
 .rw [zj2 hp] at he;exact zcH (s.zfL r 1) i _ _ _ _ e he
 rw[zj3 hp] at he;exact zj0 he
theorem vI(hc:Cnt c)(s:za)(i r:Nat):c (s.zfH i r)<=c s+1:=by
 unfold za.zfH;by_cases hp:s.prop r=i
 .rw [zj2 hp];refine zjF (hc.send (s.zfL r 1) i _ _ _ _) ?_;rw[hc.same s (s.zfL r 1) rfl rfl];exact zjA _
 rw[zj3 hp,hc.same s ((s.zfL r 1).timer 1 3) rfl rfl];exact Nat.le_succ _
def zaI(p:Nat->Int)(i:Nat)(s:za):Nat:=ja p i s+(if s.ahead=[] then 0 else zca p (s.zfF+1) i 0)+3*(12-s.zfF)
theorem yK(s:za)(i:Nat)(q:zl):(s.zfR i q).zfF=s.zfF+1:=by
 have:=yb s q;unfold za.zfR;rw[zu];split
 .exact this
 exact(yp _ i 0).2.2.trans this
theorem X6{q:zl}(N:Nd n i x0 p S T s)(N':Nd n i x0 p S T (s.zfR i q))(hq:q∈s.log):(s.zfR i q).ahead=[]/\(s.zfR i q).out.length+ja p i (s.zfR i q)<=s.out.length+3+(if s.ahead=[] then 0 else zca p (s.zfF+1) i 0)/\xB (s.zfR i q).log+ja p i (s.zfR i q)<=23:=by
 have hh:s.zfF<12:=N.y.1.low hq;have hk:=yb s q;have ah:=yK s i q;have ae:∀l:List zl,(∀e∈l,e∈s.ahead)->xB l=0:=λl hl=>by
  unfold xB;rw[List.countP_eq_zero];intro e he ho;rw[N.y.1.ao e (hl e he)] at ho;cases ho
 have ad:∀e∈(s.kept q).ahead.filter (λe=> !(s.kept q).zfJ e.m),e∈s.ahead:=λe he=>(List.mem_filter.1 he).1;have aj:∀z:za,z.round=0->z.step<=1->z.zfF=s.zfF+1->(s.ahead=[]->z.later=false)->ja p i z<=2+(if s.ahead=[] then 0 else zca p (s.zfF+1) i 0):=λz h1 h2 h3 h4=>by
  unfold ja;rw[h1,h3];split
  .rename_i hz;by_cases e:s.ahead=[]
   .rw [h4 e] at hz;cases hz
   rw[zj3 e];omega
  split<;>omega
 have ag:∀z:za,Dom z.x->(∀e∈z.log,e.own=true\/e∈s.ahead)->(∀e∈z.log,e.own=true->e.m.r=(z.round:Int))->s.ahead=[]->z.later=false:=λz hd h1 h2 h3=>by
  rw[jj];intro r hr;unfold za.zfV;by_cases ak:z.round<r
  .rw [km hd (by decide) (λe he=>?_)]
   .simp
   refine zjR λa=>?_;rcases h1 e he with h4|h4
   .have:=h2 e he h4
    omega
   rw[h3] at h4;cases h4
  rw[zjR ak,Bool.false_and]
 have aa:=N'.y.1.dom;unfold za.zfR at aa ah ⊢;rw[zu] at aa ah ⊢;have hc:=QI p (s.zfF+1) i 0;split
 .rename_i ai;rw[zj2 ai] at aa;have ha:=aj (((s.kept q).zfK ((s.kept q).ahead.filter λe=> !(s.kept q).zfJ e.m)).zfL 0 0) rfl (by show 0<=1;omega) hk (ag _ aa (λe he=>zj1 (ad e he)) (λe he ho=>by rw[N.y.1.ao e (ad e he)] at ho;cases ho));have h0:ja p i (((s.kept q).zfK ((s.kept q).ahead.filter λe=> !(s.kept q).zfJ e.m)).zfL 0 0)<=22:=Xr _ _ _;refine⟨rfl,?_,?_⟩
  .show s.out.length+_<=_;omega
  have:=ae _ ad;show xB ((s.kept q).ahead.filter λe=> !(s.kept q).zfJ e.m)+_<=23;omega
 rename_i ai;rw[zj3 ai] at aa ah;obtain⟨b1,b2,b3⟩:=yp ((s.kept q).zfK ((s.kept q).ahead.filter λe=> !(s.kept q).zfJ e.m)) i 0;obtain⟨k1,k2,k3,-,-,-,-,-,-,-⟩:=zF ((s.kept q).zfK ((s.kept q).ahead.filter λe=> !(s.kept q).zfJ e.m)) i 0;have af:∀e∈(((s.kept q).zfK ((s.kept q).ahead.filter λe=> !(s.kept q).zfJ e.m)).zfH i 0).log,e∈s.ahead\/(e.own=true/\e.m.r=((0:Nat):Int)):=λe he=>(Vc _ i 0 e he).imp (ad e) id;have ha:=aj (((s.kept q).zfK ((s.kept q).ahead.filter λe=> !(s.kept q).zfJ e.m)).zfH i 0) k2 (by omega) ah (ag _ aa (λe he=>(af e he).elim zj1 λx=>zj0 x.1) (λe he ho=>by
  rcases af e he with h1|h1
  .rw [N.y.1.ao e h1] at ho;cases ho
  rw[k2,h1.2]))
 have h0:ja p i (((s.kept q).zfK ((s.kept q).ahead.filter λe=> !(s.kept q).zfJ e.m)).zfH i 0)<=22:=Xr _ _ _;have o1:=vI gP ((s.kept q).zfK ((s.kept q).ahead.filter λe=> !(s.kept q).zfJ e.m)) i 0;have o2:=vI Xc ((s.kept q).zfK ((s.kept q).ahead.filter λe=> !(s.kept q).zfJ e.m)) i 0;refine⟨b2,?_,?_⟩
 .have:((s.kept q).zfK ((s.kept q).ahead.filter λe=> !(s.kept q).zfJ e.m)).out.length=s.out.length:=rfl
  omega
 have h3:xB ((s.kept q).zfK ((s.kept q).ahead.filter λe=> !(s.kept q).zfJ e.m)).log=0:=ae _ ad;omega
theorem zbt(ht:(s.zfT (za.zfY i) i).1=true):(s.zfT (za.zfY i) i).2.zfF=s.zfF->(s.zfT (za.zfY i) i).2.ahead=s.ahead:=by
 refine zE (C:=λz=>z.zfF=s.zfF->z.ahead=s.ahead) ht (λq _ hh=>?_) (λ_ r _ _ _ _=>(yp s i r).2.1) (λ_ _ _ q _ _ _ _=>?_) (λ_ _ _ _ q _ _ _ _ _=>?_) (λ_ _ _ _ _=>(zT s i 3 0 true _).2.1) (λ_ _ _ _ _ _=>rfl) (λ_ _ _ _ _=>rfl)
 .have:=yK s i q
  omega
 .split
  .exact λ_=>(zT s i 2 0 false _).2.1
  exact λ_=>(zT s i 2 0 true _).2.1
 split
 .exact λ_=>(zT (s.zfZ q.m.s).zf3 i 3 0 false _).2.1
 exact λ_=>rfl
theorem Gu(V:ys n p)(hi:i<n)(N:Nd n i x0 p S T s)(ht:(s.zfT (za.zfY i) i).1=true):(s.zfT (za.zfY i) i).2.out.length+zaI p i (s.zfT (za.zfY i) i).2<=s.out.length+zaI p i s:=by
 by_cases hh:(s.zfT (za.zfY i) i).2.zfF=s.zfF
 .have h1:=QT gP N ht hh;have h2:=zbt ht hh;unfold zaI;rw[h2,hh];omega
 have N1:=N.one V hi ht;have key:∀q,s.zgr=some q->(s.zfT (za.zfY i) i).2=s.zfR i q->(s.zfT (za.zfY i) i).2.out.length+zaI p i (s.zfT (za.zfY i) i).2<=s.out.length+zaI p i s:=λq hq e=>by
  obtain⟨r,_,h2⟩:=jt hq;have hm:=(yO h2).1;rw[e] at N1 ⊢;obtain⟨a1,a2,_⟩:=X6 N N1 hm;have hk:=yK s i q;have h12:=N.y.1.low hm;unfold zaI;rw[a1,zj2 rfl,hk];omega
 cases hq:s.zgr with
 |some q=>
  refine key q hq ?_;unfold za.zfT;rw[qa hq,zj2 rfl]
 |none=>
  exfalso;apply hh;refine zE (C:=λz=>z.zfF=s.zfF) ht (λq h2=>by rw[hq] at h2;cases h2) (λ_ r _ _ _=>(yp s i r).2.2) (λ_ _ _ q _ _ _ _=>?_) (λ_ _ _ _ q _ _ _ _ _=>?_) (λ_ _ _ _=>(zT s i 3 0 true _).2.2) (λ_ _ _ _ _=>rfl) (λ_ _ _ _=>rfl)
  .split
   .exact (zT s i 2 0 false _).2.2
   exact(zT s i 2 0 true _).2.2
  split
  .exact (zT (s.zfZ q.m.s).zf3 i 3 0 false _).2.2
  rfl
theorem zco(V:ys n p)(hi:i<n):∀(f:Nat) (s:za),Nd n i x0 p S T s->(za.zgn i f s).out.length+zaI p i (za.zgn i f s)<=s.out.length+zaI p i s
 |0,_,_=>zjA _
 |f+1,s,N=>by
  rw[za.zgn];split
  .rename_i h1;exact zjF (zco V hi f _ (N.one V hi h1)) (Gu V hi N h1)
  .exact zjA _
theorem zeO(p:Nat->Int)(i:Nat)(s:za):zaI p i s<=78:=by
 have h1:=Xr p i s;have h2:=QI p (s.zfF+1) i 0;unfold zaI;split<;>omega
end
section
variable{s s':za}{i n S T H0:Nat}{x0 p:Nat->Int}{u:zU}{l:List zU}
def za.zgB(s:za):Prop:=∃u∈s.tims,u.n=3/\u.h=(s.zfF:Int)/\u.r=(s.round:Int)/\u.due<=(s.time:Int)
def za.zih(s:za):Bool:=s.tims.any λu=>decide (u.n=3/\u.h=(s.zfF:Int)/\u.r=(s.round:Int)/\u.due<=(s.time:Int))
theorem ZE:s.zih=true↔s.zgB:=by
 unfold za.zih za.zgB;rw[List.any_eq_true];exact⟨λ⟨u,a,b⟩=>⟨u,a,zjP b⟩,λ⟨u,a,b⟩=>⟨u,a,zjQ b⟩⟩
def Fl(s:za):Nat:=if s.zih=true then 3 else 0
theorem zfy(s:za):Fl s<=3:=by unfold Fl;split<;>omega
theorem Gv(h:s'.zgB->s.zgB):Fl s'<=Fl s:=by
 unfold Fl;split
 .rename_i h1;rw[zj2 (ZE.2 (h (ZE.1 h1)))];exact zjA _
 exact zjG _
theorem zfg(h:¬s.zgB):Fl s=0:=by unfold Fl;rw[zj3 (λa=>h (ZE.1 a))]
theorem zff(h:s.zgB):Fl s=3:=by unfold Fl;rw[zj2 (ZE.2 h)]
theorem Jy(h1:s'.tims=s.tims)(h2:s'.zfF=s.zfF)(h3:s'.round=s.round)(h4:s'.time=s.time):s'.zgB->s.zgB:=λ⟨u,a,b,c,d,e⟩=>⟨u,by rw[<-h1];exact a,b,by rw[<-h2];exact c,by rw[<-h3];exact d,by rw[<-h4];exact e⟩
theorem Kb{num ticks:Nat}(ht:0<ticks):(s.timer num ticks).zgB->s.zgB:=λ⟨u,a,b,c,d,e⟩=>by
 rcases zx.1 a with h1|h1
 .exact ⟨u,h1,b,c,d,e⟩
 .exfalso;rw[h1] at e;have e':(s.time:Int)+ticks+s.round<=(s.time:Int):=e;omega
theorem gI(i r:Nat)(ht:∀u∈s.tims,u.h<(s.zfF:Int)\/(u.h=(s.zfF:Int)/\u.r<(r:Int))):¬(s.zfH i r).zgB:=λ⟨u,a,b,c,d,e⟩=>by
 obtain⟨k1,k2,-,-,-,-,-,k8,-,-⟩:=zF s i r;have kh:(s.zfH i r).zfF=s.zfF:=by unfold za.zfF;rw[k1]
 rw[kh] at c;rw[k2] at d;rw[k8] at e;have old:u∈s.tims->False:=λh=>by rcases ht u h with h1|h1<;>omega
 rcases yQ s i r with⟨_,h1⟩|⟨_,h1⟩
 .rw [h1] at a;exact old a
 .rw [h1] at a;rcases zx.1 a with h2|h2
  .exact old h2
  .rw [h2] at b;have:((1:Nat):Int)=3:=b;omega
theorem Jz(i:Nat)(q:zl)(ht:∀u∈s.tims,u.h<=(s.zfF:Int)):¬(s.zfR i q).zgB:=by
 have hk:=yb s q;unfold za.zfR;rw[zu];split
 .rintro ⟨u,a,b,c,d,e⟩
  have c':u.h=((s.kept q).zfF:Int):=c;have:=ht u a;omega
 refine gI i 0 λu hu=>zj0 ?_;have:=ht u hu;show u.h<((s.kept q).zfF:Int);omega
theorem jE(s:za)(i:Nat)(k v:Int)(nl:Bool)(t:zj5)(st:Nat):((s.zfI i k v nl t).zfO st).zgB->s.zgB:=by
 obtain⟨h1,h2,-,-,-,-,-,-,-,-,ad,aa⟩:=zq s i k v nl t;exact Jy aa (congrArg List.length h1) h2 ad
theorem yX.hle(h:yX i s):∀u∈s.tims,u.h<=(s.zfF:Int):=λu hu=>by rcases h.th u hu with h1|h1<;>omega
theorem zc4(tm:yX i s)(ht:(s.zfT (za.zfY i) i).1=true):(s.zfT (za.zfY i) i).2.zgB->s.zgB:=by
 refine zE (C:=λz=>z.zgB->s.zgB) ht (λq _ h=>absurd h (Jz i q tm.hle)) (λ_ r _ hr _ h=>absurd h (gI i r λu hu=>(tm.th u hu).imp id λx=>⟨x.1,by omega⟩)) (λ_ _ _ q _ _ _ _=>?_) (λ_ _ _ _ q _ _ _ _ _=>?_) (λ_ _ _ _=>jE s i 3 0 true _ 3) (λ_ _ _ _ _=>Kb (by omega)) (λ_ _ _ _=>Kb (by omega))
 .split
  .exact jE s i 2 0 false _ 2
  exact jE s i 2 0 true _ 2
 split
 .exact λh=>jE (s.zfZ q.m.s).zf3 i 3 0 false _ 3 h
 exact Jy rfl rfl rfl rfl
theorem Gj{c:za->Nat}(hc:Cnt c)(N:Nd n i x0 p S T s)(hq:kC s)(hl:s.tims=u::l)(hd:u.due<=(s.time:Int)):(s.zfQ.zga i u).zfF=s.zfF/\(s.zfQ.zga i u).ahead=s.ahead/\c (s.zfQ.zga i u)+ja p i (s.zfQ.zga i u)+Fl (s.zfQ.zga i u)<=c s+ja p i s+Fl s:=by
 have af:u∈s.tims:=by rw[hl];exact zjV ..
 have ad:∀v∈s.zfQ.tims,v∈s.tims:=λv hv=>by
  rw[hl];exact vS (by rw[<-hl];exact hv)
 have ah:s.later=false:=jj.2 hq.q2;have n0:s.zfQ.zgB->s.zgB:=λ⟨v,a,b⟩=>⟨v,ad v a,b⟩;have c0:c s.zfQ=c s:=hc.same s s.zfQ rfl rfl;have a0:ja p i s.zfQ=ja p i s:=rfl;have h12:=N.tm.t12 u af;refine ye (C:=λz=>z.zfF=s.zfF/\z.ahead=s.ahead/\c z+ja p i z+Fl z<=c s+ja p i s+Fl s) (λa b e d=>?_) (λa b e d=>?_) (λa b e d=>?_) λ_=>?_
 .have d':s.step=1:=d;have h1:=jJ (p:=p) (s:=s.zfQ) hc i 2 0 true ⟨#[]⟩ 2 ah (by show 1<=s.step;omega) (by show s.step<2;omega) (by omega);have h2:=Gv (λh=>n0 (jE s.zfQ i 2 0 true ⟨#[]⟩ 2 h));refine⟨(zT s.zfQ i 2 0 true _).2.2,(zT s.zfQ i 2 0 true _).2.1,?_⟩;show c ((s.zfQ.zfI i 2 0 true ⟨#[]⟩).zfO 2)+ja p i ((s.zfQ.zfI i 2 0 true ⟨#[]⟩).zfO 2)+Fl ((s.zfQ.zfI i 2 0 true ⟨#[]⟩).zfO 2)<=_;omega
 .have d':s.step=2:=d;have h1:=jJ (p:=p) (s:=s.zfQ) hc i 3 0 true ⟨#[]⟩ 3 ah (by show 1<=s.step;omega) (by show s.step<3;omega) (by omega);have h2:=Gv (λh=>n0 (jE s.zfQ i 3 0 true ⟨#[]⟩ 3 h));refine⟨(zT s.zfQ i 3 0 true _).2.2,(zT s.zfQ i 3 0 true _).2.1,?_⟩;show c ((s.zfQ.zfI i 3 0 true ⟨#[]⟩).zfO 3)+ja p i ((s.zfQ.zfI i 3 0 true ⟨#[]⟩).zfO 3)+Fl ((s.zfQ.zfI i 3 0 true ⟨#[]⟩).zfO 3)<=_;omega
 .have a':u.h=(s.zfF:Int):=a;have b':u.r=(s.round:Int):=b;have hf:Fl s=3:=zff ⟨u,af,e,a',b',hd⟩;have hn:Fl (s.zfQ.zfH i (s.round+1))=0:=zfg (gI i _ λv hv=>(N.tm.th v (ad v hv)).imp id λx=>⟨x.1,by omega⟩);have h1:=vI hc s.zfQ i (s.round+1);obtain⟨k1,k2,k3,-,-,-,k7,-,-,-⟩:=zF s.zfQ i (s.round+1);have ae:(s.zfQ.zfH i (s.round+1)).later=false:=by
   rw[jj];intro r hr;unfold za.zfV;rw[k2,k7];by_cases ag:s.round+1<r
   .have h3:=hq.q2 r hr;unfold za.zfV at h3;rw[zjQ (show s.round<r by omega),Bool.true_and] at h3;have e1:sendB (λe=>decide (e.m.r=(r:Int))) (s.zfQ.zfH i (s.round+1)).log=sendB (λe=>decide (e.m.r=(r:Int))) s.log:=by
     funext q;unfold sendB;rw[Bool.eq_iff_iff,List.any_eq_true,List.any_eq_true];constructor
     .rintro ⟨x,hx,aa⟩
      rcases Vc s.zfQ i (s.round+1) x hx with h4|h4
      .exact ⟨x,h4,aa⟩
      rw[Bool.and_eq_true_iff] at aa;have:=zjP aa.1;omega
     rintro⟨x,hx,aa⟩;exact⟨x,(yp s.zfQ i (s.round+1)).1 x hx,aa⟩
    rw[e1,zjQ ag,Bool.true_and];exact h3
   rw[zjR ag,Bool.false_and]
  have h2:ja p i (s.zfQ.zfH i (s.round+1))=2:=by
   unfold ja;rw[ae,zj3 zjX,k3,zj3 (by omega)]
  refine⟨(yp s.zfQ i (s.round+1)).2.2,(yp s.zfQ i (s.round+1)).2.1,?_⟩;show c (s.zfQ.zfH i (s.round+1))+ja p i (s.zfQ.zfH i (s.round+1))+Fl (s.zfQ.zfH i (s.round+1))<=_;omega
 have h2:=Gv n0;refine⟨rfl,rfl,?_⟩;omega
structure Full (p:Nat->Int) (i H0:Nat) (s:za):Prop where
 le:H0<=s.zfF
 low:s.zfF=H0->s.out.length+ja p i s+Fl s<=5
 own:H0<s.zfF->xB s.log+ja p i s+Fl s<=23
 all:s.out.length+zaI p i s+Fl s<=61
theorem Full.one(V:ys n p)(hi:i<n)(N:Nd n i x0 p S T s)(F:Full p i H0 s)(ht:(s.zfT (za.zfY i) i).1=true):Full p i H0 (s.zfT (za.zfY i) i).2:=by
 have hf:=Gv (zc4 N.tm ht);have hp:=Gu V hi N ht;have hle:=F.le;have ha:=F.all;by_cases hh:(s.zfT (za.zfY i) i).2.zfF=s.zfF
 .have h1:=QT gP N ht hh;have h2:=QT Xc N ht hh;refine⟨by omega,λa=>?_,λa=>?_,by omega⟩
  .have:=F.low (by omega);omega
  have:=F.own (by omega);omega
 cases hq:s.zgr with
 |some q=>
  have e:(s.zfT (za.zfY i) i).2=s.zfR i q:=by unfold za.zfT;rw[qa hq,zj2 rfl]
  obtain⟨r,_,h2⟩:=jt hq;have N1:=N.one V hi ht;rw[e] at N1 hp ⊢;obtain⟨a1,a2,a3⟩:=X6 N N1 (yO h2).1;have hk:=yK s i q;have h0:Fl (s.zfR i q)=0:=zfg (Jz i q N.tm.hle);exact⟨by omega,λa=>(by omega),λ_=>(by omega),by omega⟩
 |none=>
  exfalso;apply hh;refine zE (C:=λz=>z.zfF=s.zfF) ht (λq h2=>by rw[hq] at h2;cases h2) (λ_ r _ _ _=>(yp s i r).2.2) (λ_ _ _ q _ _ _ _=>?_) (λ_ _ _ _ q _ _ _ _ _=>?_) (λ_ _ _ _=>(zT s i 3 0 true _).2.2) (λ_ _ _ _ _=>rfl) (λ_ _ _ _=>rfl)
  .split
   .exact (zT s i 2 0 false _).2.2
   exact(zT s i 2 0 true _).2.2
  split
  .exact (zT (s.zfZ q.m.s).zf3 i 3 0 false _).2.2
  rfl
theorem Full.go(V:ys n p)(hi:i<n):∀(f:Nat) (s:za),Nd n i x0 p S T s->Full p i H0 s->Full p i H0 (za.zgn i f s)
 |0,_,_,F=>F
 |f+1,s,N,F=>by
  rw[za.zgn];split
  .rename_i h1;exact Full.go V hi f _ (N.one V hi h1) (F.one V hi N h1)
  .exact F
theorem Full.zgq(N:Nd n i x0 p S T s)(hq:kC s)(F:Full p i H0 s)(hl:s.tims=u::l)(hd:u.due<=(s.time:Int)):Full p i H0 (s.zfQ.zga i u):=by
 obtain⟨a1,a2,a3⟩:=Gj gP N hq hl hd;obtain⟨_,_,b3⟩:=Gj Xc N hq hl hd;have h1:=F.le;have h2:=F.all;refine⟨by omega,λa=>?_,λa=>?_,?_⟩
 .have:=F.low (by omega);omega
 .have:=F.own (by omega);omega
 unfold zaI at h2 ⊢;rw[a2,a1];omega
theorem Full.due(V:ys n p)(hi:i<n):∀(f:Nat) (s:za),Nd n i x0 p S T s->kC s->Full p i H0 s->Full p i H0 (za.zf0 i f s)
 |0,_,_,_,F=>F
 |f+1,s,N,hq,F=>by
  rw[za.zf0];split
  .exact F
  .rename_i t l hl;split
   .rename_i hd;have N1:=N.zgq V hi hl hd;exact Full.due V hi f _ (N1.zgN V hi) (N1.quiet V hi) (Full.go V hi 2200 _ N1 (F.zgq N hq hl hd))
   .exact F
theorem Qg(l:List zj5):∀out:List zj5,out.length+l.length<=100->putL out l=out++l:=by
 induction l with
 |nil=>intro out _;simp[putL]
 |cons a l ih=>
  intro out h;rw[List.length_cons] at h;have e:put1 out a=out++[a]:=by unfold put1;rw[zj2 (by omega)]
  show putL (put1 out a) l=_;rw[e,ih (out++[a]) (by rw[zjO,List.length_singleton];omega),List.append_assoc];rfl
theorem zcy(V:ys n p)(hi:i<n)(N:Nd n i x0 p S T s)(hq:kC s)(ho:s.out=[]):(za.zf0 i (s.tims.length+1) s.zfN).out.length+xB (za.zf0 i (s.tims.length+1) s.zfN).log<100:=by
 have q0:kC s.zfN:=hq.congr rfl rfl rfl rfl rfl rfl rfl;have h0:s.zfN.out.length=0:=by show s.out.length=0;rw[ho];rfl
 have hA:=zaK (p:=p) (i:=i) q0;have hF:=zfy s.zfN;have hC:=QI p (s.zfN.zfF+1) i 0;have F0:Full p i s.zfN.zfF s.zfN:=⟨zjA _,λ_=>(by omega),λa=>absurd a (Nat.lt_irrefl _),by unfold zaI;split<;>omega⟩;have F1:=Full.due V hi (s.tims.length+1) s.zfN N.zfN q0 F0;have N1:=Nd.due V hi (s.tims.length+1) s.zfN N.zfN;have h3:=N1.y.1.own;have h4:=N1.y.1.rnd;have h5:=N1.y.1.stp;rcases Nat.lt_or_eq_of_le F1.le with h1|h1
 .have:=F1.own h1
  have:=F1.all;omega
 have:=F1.low h1.symm;omega
theorem YE(V:ys n p)(hi:i<n)(N:Nd n i x0 p S T s)(hq:kC s)(ho:s.out=[]):(s.zfW i).out.length<100/\((s.time+1) % 5=0->∀e∈(s.zfW i).log,e.own=true->e.fr∈(s.zfW i).out):=by
 have h1:=zcy V hi N hq ho;have ad:(zJ (λe:zl=>e.own) (za.zf0 i (s.tims.length+1) s.zfN).log).length=xB (za.zf0 i (s.tims.length+1) s.zfN).log:=by
  unfold zJ xB;rw[List.length_map,List.countP_eq_length_filter]
 have ht:(za.zf0 i (s.tims.length+1) s.zfN).time=s.time+1:=by
  have:∀(f:Nat) (z:za),(za.zf0 i f z).time=z.time:=λf=>by
   induction f with
   |zero=>intro z;rfl
   |succ f ih=>
    intro z;rw[za.zf0];split
    .rfl
    split
    .rename_i t l hl hd;rw[ih];exact((zb0 z.zfQ i t).trans (VW i 2200 _)).1
    rfl
  exact this _ _
 unfold za.zfW za.again;rw[ht];split
 .rename_i h5;have e:=Qg (zJ (λe:zl=>e.own) (za.zf0 i (s.tims.length+1) s.zfN).log) (za.zf0 i (s.tims.length+1) s.zfN).out (by omega);refine⟨?_,λ_ x hx aa=>?_⟩
  .show (putL _ _).length<100
   rw[e,zjO];omega
  show x.fr∈putL _ _;rw[e];refine List.mem_append_right _ ?_;unfold zJ;exact List.mem_map.2 ⟨x,List.mem_filter.2 ⟨hx,aa⟩,rfl⟩
 rename_i h5;exact⟨by omega,λa=>absurd a h5⟩
theorem QK{h:Nat}{sg:Nat->List zj5}{x:Nat->Int}{b:zj5}{cert:List zj5}(hc:Vi n sg x h b cert):cert.length<=8:=by
 obtain⟨h1,bb,h2,_⟩:=hc;have hf:∀fr∈cert,(decV fr).f.toNat<8:=λfr hf=>by
  have:=(qQ (h1 fr hf).1);omega
 have:=zbi (λfr:zj5=>(decV fr).f.toNat) 1 8 cert hf λj hj=>?_
 .omega
 rcases Nat.lt_or_ge 1 (cert.countP λe=>decide ((decV e).f.toNat=j)) with h3|h3
 .exfalso;rw[List.countP_eq_length_filter] at h3;have ad:=List.filter_sublist (p:=λe=>decide ((decV e).f.toNat=j)) (l:=cert);have ae:cert.Pairwise λa b=>(decV a).f≠(decV b).f:=by
   rw[List.pairwise_iff_getElem];intro a c ha hc af;have:=h2.apart a c af hc;rw[zjK,zjJ ha,zjK,zjJ hc] at this;exact this
  have aa:=ae.sublist ad;match hl:cert.filter (λe=>decide ((decV e).f.toNat=j)),h3,aa with
  |a::c::l,_,aa=>
   have ha:=(List.mem_filter.1 (show a∈cert.filter (λe=>decide ((decV e).f.toNat=j)) by rw[hl];simp));have hc:=(List.mem_filter.1 (show c∈cert.filter (λe=>decide ((decV e).f.toNat=j)) by rw[hl];simp));have e1:=zjP ha.2;have e2:=zjP hc.2;have f1:=(h1 a ha.1).2.1;have f2:=(h1 c hc.1).2.1;have:=(List.pairwise_cons.1 aa).1 c (zjV ..);omega
 exact h3
theorem Z0(V:ys n p)(hi:i<n)(N:Nd n i x0 p S T s)(ho:s.out=[])(fr:zj5):(s.zfM n i fr).out.length<100:=by
 refine zG (C:=λz=>z.out.length<100) (by rw[ho];decide) (λk hk _=>?_) λa b c=>?_
 .unfold za.zf2;split
  .rw [ho];decide
  show(putL s.out _).length<100;have hd:s.dec[k]? =some (s.dec.getD k yr):=by rw[zjK,zjJ hk];rfl
  have h1:=QK (N.ni.cert k ((s.dec.getD k yr).block,(s.dec.getD k yr).cert) (by unfold za.zhr;rw[List.getElem?_map,hd];rfl));have h1':(s.dec.getD k yr).cert.length<=8:=h1;rw[Qg _ _ (by rw[ho,List.length_cons];simp only[List.length_nil];omega),ho,List.nil_append,List.length_cons];omega
 have N1:=N.take a b c;have h1:=zco V hi 2200 _ N1;have h2:=zeO p i (s.zf5 ⟨decV fr,fr,false⟩);have h3:(s.zf5 ⟨decV fr,fr,false⟩).out.length=0:=by
  unfold za.zf5;split
  .show s.out.length=0;rw[ho];rfl
  show s.out.length=0;rw[ho];rfl
 show((s.zf5 ⟨decV fr,fr,false⟩).zge i).out.length<100;unfold za.zge;omega

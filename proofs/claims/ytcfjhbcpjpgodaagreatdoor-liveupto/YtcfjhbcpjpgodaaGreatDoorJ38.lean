import Derived.Test.YtcfjhbcpjpgodaaGreatDoorJ37
namespace Go.Proofs.YtcfjhbcpjpgodaaGreatDoor
open Go.RowKit
set_option maxRecDepth 100000
set_option maxHeartbeats 0
set_option linter.all false
section
variable{n i S T j:Nat}{x0 p:Nat->Int}{s s':za}{st:Nat->za}{c:xh}
def clk(s:za):Nat:=s.zfF*84+s.round*4+s.step
def xI(s:za):Nat:=s.dec.countP λd=>d.told
def Pot(s:za):Nat:=s.out.length+(1100-clk s)+9*(12-xI s)
theorem Xy(s:za):xI s<=s.zfF:=List.countP_le_length
theorem Nd.zjv(N:Nd n i x0 p S T s):Go.Proofs.YtcfjhbcpjpgodaaGreatDoor.clk s<=1091/\xI s<=12:=by
 have h1:=N.y.1.hgt;have h2:=N.y.1.rnd;have h3:=N.y.1.stp;have h4:=Xy s;unfold Go.Proofs.YtcfjhbcpjpgodaaGreatDoor.clk;omega
theorem zbg(N:Nd n i x0 p S T s')(h1:s'.out.length<=s.out.length+1)(h2:clk s<clk s')(h3:xI s'=xI s):Pot s'<=Pot s:=by
 have:=N.zjv;unfold Pot;omega
theorem gy(h:s'.dec=s.dec):xI s'=xI s:=by unfold xI;rw[h]
theorem xP(h1:s'.out=s.out)(h2:clk s'=clk s)(h3:s'.dec=s.dec):Pot s'<=Pot s:=by
 unfold Pot;rw[h1,h2,gy h3];exact zjA _
theorem ZC{s0:za}{k v:Int}{nl:Bool}{t:zj5}{st:Nat}(N:Nd n i x0 p S T ((s0.zfI i k v nl t).zfO st))(h0:s0.out=s.out/\s0.dec=s.dec/\s0.round=s.round)(h:s.step<st):Pot ((s0.zfI i k v nl t).zfO st)<=Pot s:=by
 obtain⟨a,b,c⟩:=h0;have hl:=(K9 s0 i k v nl t).1;obtain⟨h1,h2,-⟩:=zq s0 i k v nl t;refine zbg N (by rw[<-a];exact hl) ?_ (gy (h1.trans b));show s.dec.length*84+s.round*4+s.step<(s0.zfI i k v nl t).dec.length*84+(s0.zfI i k v nl t).round*4+st;rw[h1,h2,b,c];omega
theorem zbh{r:Nat}(N0:Nd n i x0 p S T s)(N:Nd n i x0 p S T (s.zfH i r))(h:s.round<r):Pot (s.zfH i r)<=Pot s:=by
 obtain⟨k1,k2,k3,-⟩:=zF s i r;have h3:=N0.y.1.stp;refine zbg N (vI gP s i r) ?_ (gy k1);show s.dec.length*84+s.round*4+s.step<(s.zfH i r).dec.length*84+(s.zfH i r).round*4+(s.zfH i r).step;rw[k1,k2,k3];omega
theorem Yb(s:za)(i:Nat)(q:zl):(s.zfR i q).dec=s.dec++[⟨q.m.s,q.fr,certTo (votesForB 3 q.m.r q.m.s) s.log 8,false⟩]:=by
 unfold za.zfR;rw[zu];split
 .rfl
 rw[yB];rfl
theorem zcT{q:zl}(N0:Nd n i x0 p S T s)(N:Nd n i x0 p S T (s.zfR i q)):Pot (s.zfR i q)<=Pot s:=by
 have hk:=yK s i q;have h2:=N0.y.1.rnd;have h3:=N0.y.1.stp;refine zbg N ?_ (by unfold clk;rw[hk];omega) (by unfold xI;rw[Yb,List.countP_append];rfl);unfold za.zfR;rw[zu];split
 .exact Nat.le_succ _
 exact vI gP ((s.kept q).zfK ((s.kept q).ahead.filter λe=> !(s.kept q).zfJ e.m)) i 0
theorem zd7(V:ys n p)(hi:i<n)(N:Nd n i x0 p S T s)(ht:(s.zfT (za.zfY i) i).1=true):Pot (s.zfT (za.zfY i) i).2<=Pot s:=by
 have N':=N.one V hi ht
 revert N'
 refine zE (C:=λz=>Nd n i x0 p S T z->Pot z<=Pot s) ht (λq _ N'=>zcT N N') (λ_ r _ hr _ N'=>zbh N N' hr) (λ_ _ hs q _ _ _ _=>?_) (λ_ _ hs hh q _ _ _ _ _=>?_) (λ_ _ hs _ N'=>ZC (s0:=s) N' ⟨rfl,rfl,rfl⟩ (by omega)) (λ_ _ _ _ _ _=>xP rfl rfl rfl) (λ_ _ _ _ _=>xP rfl rfl rfl)
 .split
  .exact λN'=>ZC (s0:=s) N' ⟨rfl,rfl,rfl⟩ (by omega)
  exact λN'=>ZC (s0:=s) N' ⟨rfl,rfl,rfl⟩ (by omega)
 split
 .exact λN'=>ZC (s0:=(s.zfZ q.m.s).zf3) N' ⟨rfl,rfl,rfl⟩ (by omega)
 exact λ_=>xP rfl rfl rfl
theorem zdP(V:ys n p)(hi:i<n):∀(f:Nat) (s:za),Nd n i x0 p S T s->Pot (za.zgn i f s)<=Pot s
 |0,_,_=>zjA _
 |f+1,s,N=>by
  rw[za.zgn];split
  .rename_i h1;exact zjF (zdP V hi f _ (N.one V hi h1)) (zd7 V hi N h1)
  .exact zjA _
theorem zcS(l:List zj5):∀out:List zj5,(putL out l).length<=out.length+l.length:=by
 induction l with
 |nil=>intro out;exact zjA _
 |cons a l ih=>
  intro out;have h:=ih (put1 out a);have h2:(put1 out a).length<=out.length+1:=by
   unfold put1;split
   .rw [zjO,List.length_singleton];exact zjA _
   exact Nat.le_succ _
  rw[List.length_cons];exact zjF h (by omega)
theorem VF(V:ys n p)(hi:i<n)(N:Nd n i x0 p S T s)(fr:zj5):Pot (s.zfM n i fr)<=Pot s:=by
 refine zG (C:=λz=>Pot z<=Pot s) (zjA _) (λk hk _=>?_) λa b c=>?_
 .unfold za.zf2;split
  .exact zjA _
  rename_i aa;have hd:s.dec[k]? =some (s.dec.getD k yr):=by rw[zjK,zjJ hk];rfl
  have h1:=QK (N.ni.cert k ((s.dec.getD k yr).block,(s.dec.getD k yr).cert) (by unfold za.zhr;rw[List.getElem?_map,hd];rfl));have h1':(s.dec.getD k yr).cert.length<=8:=h1;have h2:=zcS ((s.dec.getD k yr).prop::(s.dec.getD k yr).cert) s.out;rw[List.length_cons] at h2;have e1:s.dec.getD k yr=s.dec[k]:=by rw[zjK,zjJ hk];rfl
  have h3:(s.dec.set k { s.dec.getD k yr with told:=true }).countP (λd=>d.told)=xI s+1:=by
   rw[List.countP_set hk];rw[e1] at aa;rw[zj3 aa];simp[xI]
  have h4:=Xy s;have h5:=N.y.1.hgt;have h6:xI s+1<=s.zfF:=by
   rw[<-h3];refine zjF List.countP_le_length ?_;rw[List.length_set];exact zjA _
  show(putL s.out _).length+(1100-((s.dec.set k _).length*84+s.round*4+s.step))+9*(12-(s.dec.set k { s.dec.getD k yr with told:=true }).countP (λd=>d.told))<=s.out.length+(1100-(s.dec.length*84+s.round*4+s.step))+9*(12-xI s);rw[h3,List.length_set];omega
 refine zjF (zdP V hi 2200 _ (N.take a b c)) ?_;unfold za.zf5;split
 .exact xP rfl rfl rfl
 exact xP rfl rfl rfl
def potK(st:Nat->za):Nat->Nat
 |0=>0
 |k+1=>potK st k+Pot (st k)
theorem gY(hs:∀k,k≠j->Pot (updS st j s' k)=Pot (st k)):∀k,k<=j->potK (updS st j s') k=potK st k
 |0,_=>rfl
 |k+1,h=>by
  show potK (updS st j s') k+_=potK st k+_;rw[gY hs k (by omega),hs k (by omega)]
theorem Qh(hs:∀k,k≠j->Pot (updS st j s' k)=Pot (st k)):∀k,j<k->potK (updS st j s') k+Pot (st j)=potK st k+Pot s'
 |k+1,h=>by
  show potK (updS st j s') k+Pot (updS st j s' k)+_=potK st k+Pot (st k)+_;by_cases e:k=j
  .subst e;rw[gY hs k (zjA _),zz];omega
  .have:=Qh hs k (by omega)
   rw[hs k e];omega
theorem zdO(k:Nat)(h:k≠j):Pot (updS st j s' k)=Pot (st k):=by
 rw[zw h];rfl
theorem Y8(C:Cty n x0 p T st)(fr:zj5):∀k,k<=n->potK (recvK n fr k st) n<=potK st n
 |0,_=>zjA _
 |k+1,hk=>by
  have h1:=Y8 C fr k (by omega);have Ck:=C.recvs fr k (by omega);have h2:=Qh (st:=recvK n fr k st) (j:=k) (s':=(recvK n fr k st k).zfM n k fr) (λj hj=>zdO j hj) n (by omega);have h3:=VF C.V (by omega:k<n) (Ck.nd k (by omega)) fr;show potK (updS (recvK n fr k st) k _) n<=_;omega
theorem Z4:∀k,k<=n->potK (hearK k c).1 n+(hearK k c).2.length<=potK c.1 n+c.2.length
 |0,_=>zjA _
 |k+1,hk=>by
  have h1:=Z4 k (by omega);have h2:=Qh (st:=(hearK k c).1) (j:=k) (s':={ (hearK k c).1 k with out:=[] }) (λj hj=>zdO j hj) n (by omega);have h3:Pot { (hearK k c).1 k with out:=[] }+((hearK k c).1 k).out.length=Pot ((hearK k c).1 k):=by
   unfold Pot;show 0+(1100-clk ((hearK k c).1 k))+9*(12-xI ((hearK k c).1 k))+_=_;omega
  show potK (updS (hearK k c).1 k _) n+((hearK k c).2++((hearK k c).1 k).out).length<=_;rw[zjO];omega
theorem Qi{g0:Nat->List zj5}(F:Fk n x0 p T g0 c)(ho:∀j,j<n->(c.1 j).out=[]):∀m,potK (flo n c m).1 n+(flo n c m).2.length<=potK c.1 n+c.2.length
 |0=>zjA _
 |m+1=>by
  have h1:=Qi F ho m;have h2:=Y8 (Fk.zg7 F ho m).1.z.c ((flo n c m).2.getD m zj4) n (zjA _);have h3:=Z4 (n:=n) (c:=(recvK n ((flo n c m).2.getD m zj4) n (flo n c m).1,(flo n c m).2)) n (zjA _);refine zjF h3 ?_;show potK (recvK n _ n (flo n c m).1) n+(flo n c m).2.length<=_;omega
theorem Gh(C:Ctz n x0 p T st)(ho:∀j,j<n->(st j).out=[]):∃M,Ends n st M:=by
 obtain⟨F0,o0⟩:=Fk.start C ho;have B:=Qi F0 o0;have hB:∀m,(flo n (floIn n st) m).2.length<=potK (floIn n st).1 n+(floIn n st).2.length:=λm=>by have:=B m;omega
 have ex:∃m,(flo n (floIn n st) m).2.length<=m:=⟨_,hB _⟩;have key:∀k,(∃m,m<=k/\(flo n (floIn n st) m).2.length<=m)->∃M,(flo n (floIn n st) M).2.length<=M/\∀l,l<M->l<(flo n (floIn n st) l).2.length:=by
  intro k;induction k with
  |zero=>
   intro ⟨m,h1,h2⟩;have e:m=0:=Nat.le_zero.1 h1;rw[e] at h2;exact⟨0,h2,λl hl=>absurd hl (Nat.not_lt_zero _)⟩
  |succ k ih=>
   intro ⟨m,h1,h2⟩;by_cases hex:∃m,m<=k/\(flo n (floIn n st) m).2.length<=m
   .exact ih hex
   have:m=k+1:=by
    rcases Nat.lt_or_ge k m with h3|h3
    .omega
    exact absurd ⟨m,h3,h2⟩ hex
   subst this;refine⟨k+1,h2,λl hl=>?_⟩;rcases Nat.lt_or_ge l (flo n (floIn n st) l).2.length with h3|h3
   .exact h3
   exact absurd ⟨l,by omega,h3⟩ hex
 obtain⟨m,hm⟩:=ex;obtain⟨M,h1,h2⟩:=key m ⟨m,zjA _,hm⟩;refine⟨M,?_,h2⟩;cases M with
 |zero=>exact Nat.le_zero.1 h1
 |succ k=>
  have h3:=h2 k (Nat.lt_succ_self _);obtain⟨l,hl⟩:=xu n (floIn n st) k 1;have h4:(flo n (floIn n st) (k+1)).2.length=(flo n (floIn n st) k).2.length+l.length:=by rw[hl,zjO]
  omega
end
section
theorem qC(s:za)(i:Nat)(k v:Int)(nl:Bool)(t:zj5):(s.zfI i k v nl t).time=s.time:=(zq s i k v nl t).2.2.2.2.2.2.2.2.2.2.1
theorem xz(s:za)(i r:Nat):(s.zfH i r).time=s.time:=(zF s i r).2.2.2.2.2.2.2.1
theorem Kg(s:za)(i:Nat)(q:zl):(s.zfR i q).time=s.time:=by
 unfold za.zfR;rw[zu];split
 .rfl
 rw[xz];rfl
theorem zc1{i:Nat}{s:za}(ht:(s.zfT (za.zfY i) i).1=true):(s.zfT (za.zfY i) i).2.time=s.time:=by
 refine zE (C:=λz=>z.time=s.time) ht (λq _=>Kg s i q) (λ_ r _ _ _=>xz s i r) (λ_ _ _ q _ _ _ _=>?_) (λ_ _ _ _ q _ _ _ _ _=>?_) (λ_ _ _ _=>qC s i 3 0 true _) (λ_ _ _ _ _=>rfl) (λ_ _ _ _=>rfl)
 .split
  .exact qC s i 2 0 false _
  exact qC s i 2 0 true _
 split
 .exact qC (s.zfZ q.m.s).zf3 i 3 0 false _
 rfl
theorem VT(i:Nat):∀(f:Nat) (s:za),(za.zgn i f s).time=s.time
 |0,_=>rfl
 |f+1,s=>by
  rw[za.zgn];split
  .rename_i h1;exact(VT i f _).trans (zc1 h1)
  .rfl
theorem zdt(s:za)(i:Nat)(u:zU):(s.zga i u).time=s.time:=
 ye (C:=λz=>z.time=s.time) (λ_ _ _ _=>qC s i 2 0 true _) (λ_ _ _ _=>qC s i 3 0 true _) (λ_ _ _ _=>xz s i _) (λ_=>rfl)
theorem Gn(i:Nat):∀(f:Nat) (s:za),(za.zf0 i f s).time=s.time
 |0,_=>rfl
 |f+1,s=>by
  rw[za.zf0];split
  .rfl
  .rename_i t l hl;split
   .exact (Gn i f _).trans ((VT i 2200 _).trans (zdt s.zfQ i t))
   .rfl
theorem zaT(s:za)(i:Nat):(s.zfW i).time=s.time+1:=by
 unfold za.zfW;rw[(yw _).2.2.2.2.2.2.2.2.2.2.2.2.2.2.2.2,Gn];rfl
theorem Jm(s:za)(n i:Nat)(fr:zj5):(s.zfM n i fr).time=s.time:=by
 refine zG (C:=λz=>z.time=s.time) rfl (λk _ _=>(yh s k).2.2.2.2.2.2.2.2.2.2.2.2.2.2) (λa b c=>(VT i 2200 _).trans ?_);unfold za.zf5;split<;>rfl
theorem zcN{n T:Nat}{x0 p:Nat->Int}:Rel n x0 p T λ_ s s'=>s'.time=s.time:=⟨λ_ _=>rfl,λ_ _ _ _ a b=>b.trans a,λj s fr _ _=>Jm s n j fr,λ_ _ _ _=>rfl⟩
theorem za9{n T:Nat}{x0 p:Nat->Int}:Rel n x0 p T λ_ s s'=>q9 s->q9 s':=⟨λ_ _ h=>h,λ_ _ _ _ a b h=>b (a h),λj s fr _ _ h=>Qk h fr,λ_ _ _ _ h=>h⟩
theorem ze4(s:za)(i:Nat)(u:zU):Kn s (s.zga i u):=
 ye (C:=Kn s) (λ_ _ _ _=>gL s i 2 0 true _ 2) (λ_ _ _ _=>gL s i 3 0 true _ 3) (λ_ _ _ _=>X0 s i _) (λ_=>Kn.refl s)
theorem zdT{n i S T:Nat}{x0 p:Nat->Int}(V:ys n p)(hi:i<n):∀(f:Nat) (s:za),Nd n i x0 p S T s->Kn s (za.zf0 i f s)
 |0,s,_=>Kn.refl s
 |f+1,s,N=>by
  rw[za.zf0];split
  .exact Kn.refl s
  .rename_i t l hl;split
   .rename_i hd;have N1:=N.zgq V hi hl hd;exact(show Kn s s.zfQ from xW rfl (λ_ h=>h) (λ_ h=>h)).trans ((ze4 s.zfQ i t).trans ((zdf V hi 2200 _ N1).trans (zdT V hi f _ (N1.zgN V hi))))
   .exact Kn.refl s
theorem zeo{n i S T:Nat}{x0 p:Nat->Int}{s:za}(V:ys n p)(hi:i<n)(N:Nd n i x0 p S T s):Kn s (s.zfW i):=by
 have h0:Kn s s.zfN:=xW (by show(s.dec.map _).length=s.dec.length;simp) (λ_ h=>h) (λ_ h=>h);have h1:=zdT V hi (s.tims.length+1) s.zfN N.zfN;obtain⟨-,-,a3,a4,-,-,-,-,-,-,-,-,-,a14,-⟩:=yw (za.zf0 i (s.tims.length+1) s.zfN);show Kn s (za.zf0 i (s.tims.length+1) s.zfN).again;exact h0.trans (h1.trans (xW (by unfold za.zfF;rw[a4]) (by rw[a3];exact λ_ h=>h) (by rw[a14];exact λ_ h=>h)))
theorem ze2(s:za)(g:Nat->List zj5):Kn s { s with sg:=g }:=xW rfl (λ_ h=>h) (λ_ h=>h)
section
variable{n T:Nat}{x0 p:Nat->Int}{st u st':Nat->za}{said:List zj5}
theorem It.zib(I:It n x0 p T st u st' said){j:Nat}(hj:j<n):(u j).time=(st j).time+1:=by
 obtain⟨g,g',-,-,-,-,h⟩:=I.tick j hj;rw[h];exact zaT _ j
theorem It.time(I:It n x0 p T st u st' said){j:Nat}(hj:j<n):(st' j).time=(st j).time+1:=(I.rel _ zcN j).trans (I.zib hj)
theorem It.zha(I:It n x0 p T st u st' said){j:Nat}(hj:j<n):Per (st j) (u j)/\q9 (u j)/\Kn (st j) (u j)/\yX j (u j):=by
 obtain⟨g,g',-,-,N,-,h⟩:=I.tick j hj;obtain⟨a,b,c⟩:=N.tm.tick N.y.1;have k:=zeo I.c.c.V hj N;rw[h];refine⟨?_,c,?_,(I.cu.c.nd j hj).tm.congr (s':=_) ?_ ?_ ?_ ?_ ?_ ?_ ?_ ?_ ?_⟩
 .exact b
 .exact (ze2 (st j) g).trans (k.trans (ze2 _ g'))
 all_goals rw[h]
 exact zjA _;exact λe=>absurd rfl e
theorem It.ziT(I:It n x0 p T st u st' said){j:Nat}(hj:j<n):Per (st j) (st' j):=(I.zha hj).1.trans (I.rel _ (xp I.c.c.V) j)
theorem It.zjc(I:It n x0 p T st u st' said){j:Nat}(hj:j<n):q9 (st' j):=I.rel _ za9 j (I.zha hj).2.1
theorem It.zhG(I:It n x0 p T st u st' said){j:Nat}(hj:j<n):Kn (st j) (st' j):=(I.zha hj).2.2.1.trans (I.rel _ (ZX I.c.c.V) j)
theorem It.dp(I:It n x0 p T st u st' said){j:Nat}(hj:j<n)(h:DP p (st j)):DP p (st' j):=by
 obtain⟨g,g',-,-,N,-,e⟩:=I.tick j hj;refine I.rel _ (zeX I.c.c.V) j ?_;rw[e];exact(DP.tick I.c.c.V hj N (h.same rfl)).same rfl
theorem It.hu(I:It n x0 p T st u st' said){j:Nat}(hj:j<n):(st j).zfF<=(u j).zfF/\(u j).zfF<=(st' j).zfF:=⟨(I.zha hj).1.hle,(I.rel _ (xp I.c.c.V) j).hle⟩
end
def TNs(n h r0 d:Nat)(st:Nat->za):Prop:=∀j,j<n->TN n h r0 d (st j)
theorem TN.sg{n h r0 d:Nat}{s:za}(H:TN n h r0 d s){s':za}(H':TN n h r0 d s'):TN n h r0 d { s with sg:=s'.sg }:=⟨H.rd,H.tm,H.th,H'.fr⟩
theorem TNs.upd{n h r0 d j:Nat}{st:Nat->za}{s':za}(H:TNs n h r0 d st)(H':TN n h r0 d s'):TNs n h r0 d (updS st j s'):=λk hk=>by
 by_cases e:k=j
 .subst e;rw[zz];exact H'
 .rw [zw e];exact(H k hk).sg H'
theorem TNs.zjk{n h r0 d T:Nat}{x0 p:Nat->Int}{st u st':Nat->za}{said:List zj5}(I:It n x0 p T st u st' said)(hd:d<=2+r0)(H:TNs n h r0 d u):TNs n h r0 d st':=
 I.inv (TNs n h r0 d) (λs j fr hj _ C H=>H.upd ((H j hj).zfX C.c.V hj (C.c.nd j hj) hd fr)) (λs j hj C H=>H.upd ((H j hj).congr rfl rfl rfl rfl rfl)) H
theorem TNs.it{n h r0 d T:Nat}{x0 p:Nat->Int}{st u st':Nat->za}{said:List zj5}(I:It n x0 p T st u st' said)(H:TNs n h r0 (d+1) st)(hd1:1<=d)(hd:d<=2+r0):TNs n h r0 d st':=by
 refine TNs.zjk I hd ?_;have h:=I.tinv (λk s=>∀j,j<n->TN n h r0 (if j<k then d else d+1) (s j)) (λs k hk C H j hj=>?_) (λj hj=>(by rw[zj3 (Nat.not_lt_zero _)];exact H j hj))
 .intro j hj;have:=h j hj;rw[zj2 hj] at this;exact this
 have Hk:=H k hk;rw[zj3 (Nat.lt_irrefl _)] at Hk;have H1:=Hk.tick C.c.V hk (C.c.nd k hk) hd1 hd;by_cases e:j=k
 .subst e;rw[zz,zj2 (Nat.lt_succ_self _)];exact H1
 rw[zw e];have H2:=H j hj;have h3:(if j<k+1 then d else d+1)=(if j<k then d else d+1):=by
  by_cases h4:j<k
  .rw [zj2 h4,zj2 (by omega)]
  rw[zj3 h4,zj3 (by omega)]
 rw[h3];exact⟨H2.rd,H2.tm,H2.th,H1.fr⟩
end
section
structure NRb (L r1:Nat) (s:za):Prop where
 rd:s.round<=r1
 tm:∀t∈s.tims,t.n=3->t.h=(L:Int)->t.r<(r1:Int)
 fo:∀r:Nat,r1<r->r<=20->yg 1 s.x (sendB (λe=>decide (e.m.r=(r:Int))) s.log)=false
 pc:r1<=20->s.most (votesB 3 (r1:Int))=false
def NR(i L r1:Nat)(s:za):Prop:=L<=s.zfF/\(s.zfF=L->(∃fr∈s.sg i,(decV fr).h=(L:Int))\/NRb L r1 s)
theorem NRb.congr{L r1:Nat}{s s':za}(H:NRb L r1 s)(h1:s'.round<=r1)(h2:∀t∈s'.tims,t∈s.tims\/t.n≠3\/t.r<(r1:Int))(h3:s'.x=s.x)(h4:s'.log=s.log):NRb L r1 s':=
 ⟨h1,λt ht a b=>(h2 t ht).elim (λh=>H.tm t h a b) (λh=>h.elim (λh=>absurd a h) id),by rw[h3,h4];exact H.fo,by unfold za.most;rw[h3,h4];exact H.pc⟩
theorem NR.zjx{i L r1:Nat}{s:za}(h:L<s.zfF):NR i L r1 s:=⟨zjS h,λe=>absurd e (by omega)⟩
theorem NR.of{i L r1:Nat}{s s':za}(H:NR i L r1 s)(hh:s'.zfF=s.zfF)(hs:SgLe s.sg s'.sg)(hb:s.zfF=L->NRb L r1 s->(∃fr∈s'.sg i,(decV fr).h=(L:Int))\/NRb L r1 s'):NR i L r1 s':=
 ⟨by rw[hh];exact H.1,λe=>by
  rw[hh] at e;rcases H.2 e with⟨fr,a,b⟩|h
  .exact zj0 ⟨fr,hs i fr a,b⟩
  .exact hb e h⟩
theorem Vl.some{sg:Nat->List zj5}{i h:Nat}{k r:Int}(H:Vl sg i k (h:Int) r):∃fr∈sg i,(decV fr).h=(h:Int):=by
 obtain⟨fr,a,-,-,b,-⟩:=H;exact⟨fr,a,b⟩
theorem NR.zgg{n i S T L r1:Nat}{x0 p:Nat->Int}{s z:za}(hL:L<12)(H:NR i L r1 s)(hh:z.zfF=s.zfF)(hs:SgLe s.sg z.sg)(N:Nd n i x0 p S T z)(h2:2<=z.step):NR i L r1 z:=
 H.of hh hs λe _=>zj0 (by
  have h:=N.lv.c.st2 (by omega) h2;rw[show z.zfF=L by omega] at h;exact h.some)
theorem NR.begin{n i S T L r1 r:Nat}{x0 p:Nat->Int}{s:za}(hL:L<12)(H:NR i L r1 s)(N:Nd n i x0 p S T (s.zfH i r))(hx:ki s.x p)(hr:s.zfF=L->NRb L r1 s->r<=r1):NR i L r1 (s.zfH i r):=by
 obtain⟨k1,k2,-,-,-,-,k7,-⟩:=zF s i r;have hh:(s.zfH i r).zfF=s.zfF:=by unfold za.zfF;rw[k1]
 refine H.of hh (jA s i r) λe h=>?_;rcases yQ s i r with⟨a,b⟩|⟨a,b⟩
 .refine zj0 ?_;have h1:=N.lv.prr (by omega) (by
   rw[hh,k2,<-yZ hx];exact a)
  rw[hh,e] at h1;exact h1.some
 refine zj1 ?_;rw[b];refine h.congr (hr e h) (λt ht=>?_) rfl rfl;rcases zx.1 ht with h1|h1
 .exact zj0 h1
 rw[h1];exact zj1 (zj0 (by show((1:Nat):Int)≠3;decide))
theorem NR.one{n i S T L r1:Nat}{x0 p:Nat->Int}{s:za}(V:ys n p)(hi:i<n)(hL:L<12)(N:Nd n i x0 p S T s)(H:NR i L r1 s)(ht:(s.zfT (za.zfY i) i).1=true):NR i L r1 (s.zfT (za.zfY i) i).2:=by
 have N':=N.one V hi ht;have su:SgLe s.sg (s.zfT (za.zfY i) i).2.sg:=za2 s i
 revert N' su
 have hv:∀(s0:za) (k v:Int) (nl:Bool) (t:zj5) (q:Nat),s0.dec=s.dec->((s0.zfI i k v nl t).zfO q).zfF=s.zfF:=λs0 k v nl t q h=>by
  show(s0.zfI i k v nl t).dec.length=s.dec.length;rw[yF,h]
 refine zE (C:=λz=>Nd n i x0 p S T z->SgLe s.sg z.sg->NR i L r1 z) ht (λq _ _ _=>NR.zjx (by rw[yK];have:=H.1;omega)) (λ_ r aa hr hb N' _=>NR.begin hL H N' N.lv.c.pw λe h=>?_) (λ_ _ hs q _ _ _ _=>?_) (λ_ _ hs hh q _ _ _ _ _=>?_) (λ_ _ hs _ N' su=>H.zgg hL (hv s 3 0 true _ 3 rfl) su N' (by show 2<=3;decide)) (λ_ _ _ _ _ _ _=>H.of rfl (SgLe.refl _) λe h=>zj1 (h.congr h.rd (λt ht=>?_) rfl rfl)) (λ_ _ _ hm _ _=>H.of rfl (SgLe.refl _) λe h=>zj1 (h.congr h.rd (λt ht=>?_) rfl rfl))
 .rcases Nat.lt_or_ge r1 r with h1|h1
  .have h2:=h.fo r h1 aa;unfold za.zfV at hb;rw[h2,Bool.and_false] at hb;cases hb
  exact h1
 .split
  .exact λN' su=>H.zgg hL (hv s 2 0 false _ 2 rfl) su N' (zjA 2)
  exact λN' su=>H.zgg hL (hv s 2 0 true _ 2 rfl) su N' (zjA 2)
 .split
  .exact λN' su=>H.zgg hL (hv (s.zfZ q.m.s).zf3 3 0 false _ 3 rfl) su N' (by show 2<=3;decide)
  exact λN' su=>H.of rfl su λe h=>zj1 (h.congr h.rd (λt ht=>zj0 ht) rfl rfl)
 .rcases zx.1 ht with h1|h1
  .exact zj0 h1
  rw[h1];exact zj1 (zj0 (by show((2:Nat):Int)≠3;decide))
 rcases zx.1 ht with h1|h1
 .exact zj0 h1
 rw[h1];refine zj1 (zj1 ?_);show(s.round:Int)<(r1:Int);have h2:=h.rd;have h3:=N.y.1.rnd;rcases Nat.lt_or_ge s.round r1 with h4|h4
 .omega
 have h5:s.round=r1:=by omega
 rw[h5,h.pc (by omega)] at hm;cases hm
theorem NR.go{n i S T L r1:Nat}{x0 p:Nat->Int}(V:ys n p)(hi:i<n)(hL:L<12):∀(f:Nat) (s:za),Nd n i x0 p S T s->NR i L r1 s->NR i L r1 (za.zgn i f s)
 |0,_,_,h=>h
 |f+1,s,N,h=>by
  rw[za.zgn];split
  .rename_i h1;exact NR.go V hi hL f _ (N.one V hi h1) (h.one V hi hL N h1)
  .exact h
theorem NR.zgq{n i S T L r1:Nat}{x0 p:Nat->Int}{s:za}{u:zU}{l:List zU}(V:ys n p)(hi:i<n)(hL:L<12)(N:Nd n i x0 p S T s)(H:NR i L r1 s)(hl:s.tims=u::l)(hd:u.due<=(s.time:Int)):NR i L r1 (s.zfQ.zga i u):=by
 have N':=N.zgq V hi hl hd;have hm:u∈s.tims:=by rw[hl];exact zjV ..
 have hle:=(N.tm.zgq N.y.1.stp hl hd).2.hle;have H1:=H.1;by_cases e:s.zfF=L
 .rcases H.2 e with⟨fr,a,b⟩|h0
  .exact ⟨by omega,λ_=>zj0 ⟨fr,za3 s.zfQ i u i fr a,b⟩⟩
  have Hp:NR i L r1 s.zfQ:=H.of rfl (SgLe.refl _) λe h=>zj1 (h.congr h.rd (λt ht=>zj0 (by
   have aa:t∈jN s.tims:=ht;rw[hl] at aa ⊢;exact vS aa)) rfl rfl)
  have hv:∀(k:Int) (nl:Bool) (t:zj5) (q:Nat),((s.zfQ.zfI i k 0 nl t).zfO q).zfF=s.zfQ.zfF:=λk nl t q=>by
   show(s.zfQ.zfI i k 0 nl t).dec.length=s.zfQ.dec.length;rw[yF]
  revert N'
  refine ye (C:=λz=>Nd n i x0 p S T z->NR i L r1 z) (λ_ _ _ _ N'=>Hp.zgg hL (hv 2 true _ 2) (kK s.zfQ i 2 2) N' (zjA 2)) (λ_ _ _ _ N'=>Hp.zgg hL (hv 3 true _ 3) (kK s.zfQ i 3 3) N' (by show 2<=3;decide)) (λhh hr hn h20 N'=>NR.begin hL Hp N' N.lv.c.pw λ_ _=>?_) (λ_ _=>Hp);have hh':u.h=(s.zfF:Int):=hh;have hr':u.r=(s.round:Int):=hr;have:=h0.tm u hm hn (by omega);show s.round+1<=r1;omega
 exact NR.zjx (by omega)
theorem NR.due{n i S T L r1:Nat}{x0 p:Nat->Int}(V:ys n p)(hi:i<n)(hL:L<12):∀(f:Nat) (s:za),Nd n i x0 p S T s->NR i L r1 s->NR i L r1 (za.zf0 i f s)
 |0,_,_,h=>h
 |f+1,s,N,h=>by
  rw[za.zf0];split
  .exact h
  .rename_i t l hl;split
   .rename_i hd;have N1:=N.zgq V hi hl hd;exact NR.due V hi hL f _ (N1.zgN V hi) (NR.go V hi hL 2200 _ N1 (h.zgq V hi hL N hl hd))
   .exact h
theorem NR.tick{n i S T L r1:Nat}{x0 p:Nat->Int}{s:za}(V:ys n p)(hi:i<n)(hL:L<12)(N:Nd n i x0 p S T s)(H:NR i L r1 s):NR i L r1 (s.zfW i):=by
 have h0:NR i L r1 s.zfN:=H.of (by show(s.dec.map _).length=s.dec.length;simp) (SgLe.refl _) λ_ h=>zj1 (h.congr h.rd (λ_ ht=>zj0 ht) rfl rfl);have h1:=NR.due V hi hL (s.tims.length+1) s.zfN N.zfN h0;obtain⟨a1,a2,a3,a4,-,a6,-,-,-,-,-,a12,-⟩:=yw (za.zf0 i (s.tims.length+1) s.zfN);show NR i L r1 (za.zf0 i (s.tims.length+1) s.zfN).again;exact h1.of (by unfold za.zfF;rw[a4]) (by rw[a2];exact SgLe.refl _) λ_ h=>zj1 (h.congr (by rw[a6];exact h.rd) (λ_ ht=>zj0 (by rw[<-a12];exact ht)) a1 a3)
theorem NR.zfX{n i S T L r1:Nat}{x0 p:Nat->Int}{s:za}(V:ys n p)(hi:i<n)(hL:L<12)(N:Nd n i x0 p S T s)(H:NR i L r1 s){fr:zj5}(hf:(decV fr).h≠(L:Int)):NR i L r1 (s.zfM n i fr):=by
 refine zG (C:=NR i L r1) H (λk _ _=>?_) (λa b c=>NR.go V hi hL 2200 _ (N.take a b c) ?_)
 .obtain ⟨a1,a2,a3,a4,-,a6,-,-,-,-,-,a12,-⟩:=yh s k
  exact H.of a4 (by rw[a2];exact SgLe.refl _) λ_ h=>zj1 (h.congr (by rw[a6];exact h.rd) (λ_ ht=>zj0 (by rw[<-a12];exact ht)) a1 a3)
 refine H.of (by show List.length _=List.length _;rw[vm]) (XD s i _) λe h=>zj1 ?_;unfold za.zf5;rw[zj3 (show¬(decV fr).h=(s.zfF:Int) by rw[e];exact hf)];exact h.congr h.rd (λ_ ht=>zj0 ht) rfl rfl
theorem NR.sg{i L r1:Nat}{s:za}(H:NR i L r1 s){g:Nat->List zj5}(hg:SgLe s.sg g):NR i L r1 { s with sg:=g }:=H.of rfl hg λ_ h=>zj1 (h.congr h.rd (λ_ ht=>zj0 ht) rfl rfl)
theorem NR.upd{n T j k L r1:Nat}{x0 p:Nat->Int}{st:Nat->za}{s':za}(C:Cty n x0 p T st)(hj:j<n)(hk:k<n)(H:NR j L r1 (st j))(su:SgLe (st k).sg s'.sg)(h:k=j->NR j L r1 s'):NR j L r1 (updS st k s' j):=by
 by_cases e:j=k
 .subst e;rw[zz];exact h rfl
 rw[zw e];refine H.sg ?_;rw[(C.sg j hj).trans (C.sg k hk).symm];exact su
theorem NR.it{n T j L r1:Nat}{x0 p:Nat->Int}{st u st':Nat->za}{said:List zj5}(I:It n x0 p T st u st' said)(hj:j<n)(hL:L<12)(hno:∀fr∈said,(decV fr).h≠(L:Int))(H:NR j L r1 (st j)):NR j L r1 (st' j):=by
 have hu:NR j L r1 (u j):=by
  obtain⟨g,g',h1,h2,N,-,e⟩:=I.tick j hj;rw[e];exact((H.sg h1).tick I.c.c.V hj hL N).sg h2
 exact I.inv (λs=>NR j L r1 (s j)) (λs k fr hk hf C H=>H.upd C.c hj hk (yE (s k) n k fr) λe=>by subst e;exact H.zfX C.c.V hk hL (C.c.nd k hk) (hno fr hf)) (λs k hk C H=>H.upd C.c hj hk (SgLe.refl _) λe=>by subst e;exact H.of rfl (SgLe.refl _) λ_ h=>zj1 (h.congr h.rd (λ_ ht=>zj0 ht) rfl rfl)) hu
theorem NR.start{n j S T:Nat}{x0 p:Nat->Int}{s:za}(N:Nd n j x0 p S T s)(Q:kC s):NR j s.zfF (s.round+1) s:=by
 refine⟨zjA _,λ_=>zj1 ⟨Nat.le_succ _,λt ht _ hh=>?_,λr hr aa=>?_,λad=>?_⟩⟩
 .rcases N.tm.th t ht with h|h<;>omega
 .have h:=Q.q2 r aa;unfold za.zfV at h;rw[zjQ (show s.round<r by omega),Bool.true_and] at h;exact h
 have h:=Q.q2 (s.round+1) ad;unfold za.zfV at h;rw[zjQ (Nat.lt_succ_self _),Bool.true_and] at h;cases hm:s.most (votesB 3 ((s.round+1:Nat):Int)) with
 |false=>rfl
 |true=>
  exfalso;unfold za.most at hm;have h1:=zjP hm;have h2:=of_decide_eq_false h;have hd:=N.y.1.dom;have h3:powB s.x (sendB (votesB 3 ((s.round+1:Nat):Int)) s.log) 8<=powB s.x (sendB (λe=>decide (e.m.r=((s.round+1:Nat):Int))) s.log) 8:=js (λi=>(hd i).1) 8 λq _ hq=>by
   unfold sendB at hq ⊢;obtain⟨e,he,h4⟩:=List.any_eq_true.1 hq;refine List.any_eq_true.2 ⟨e,he,?_⟩;unfold votesB at h4;simp only[Bool.and_eq_true] at h4 ⊢;exact⟨h4.1.2,h4.2⟩
  have h4:=N.y.1.pos;omega
def Run(n:Nat)(x0 p:Nat->Int)(T K:Nat)(st u:Nat->Nat->za)(said:Nat->List zj5):Prop:=∀t,t<K->It n x0 p (T+t*n) (st t) (u t) (st (t+1)) (said t)
section
variable{n T K:Nat}{x0 p:Nat->Int}{st u:Nat->Nat->za}{said:Nat->List zj5}
theorem Run.ziT(R:Run n x0 p T K st u said){j:Nat}(hj:j<n)(a:Nat):∀d,a+d<=K->Per (st a j) (st (a+d) j)
 |0,_=>Per.refl _
 |d+1,h=>(Run.ziT R hj a d (by omega)).trans ((R (a+d) (by omega)).ziT hj)
theorem Run.hle(R:Run n x0 p T K st u said){j a b:Nat}(hj:j<n)(hab:a<=b)(hb:b<=K):(st a j).zfF<=(st b j).zfF:=by
 have:=(R.ziT hj a (b-a) (by omega)).hle;rw[show a+(b-a)=b by omega] at this;exact this
theorem Run.time(R:Run n x0 p T K st u said){j:Nat}(hj:j<n)(a:Nat):∀d,a+d<=K->(st (a+d) j).time=(st a j).time+d
 |0,_=>rfl
 |d+1,h=>by
  have h1:=(R (a+d) (by omega)).time hj;have h2:=Run.time R hj a d (by omega);show(st (a+d+1) j).time=_;omega
theorem Run.dp(R:Run n x0 p T K st u said)(h:∀j,j<n->DP p (st 0 j)):∀t,t<=K->∀j,j<n->DP p (st t j)
 |0,_,j,hj=>h j hj
 |t+1,ht,j,hj=>(R t (by omega)).dp hj (Run.dp R h t (by omega) j hj)
theorem Run.up(R:Run n x0 p T K st u said){a:Nat}:∀d,a+d<=K->SgLe (st a 0).sg (st (a+d) 0).sg
 |0,_=>SgLe.refl _
 |d+1,h=>(Run.up R d (by omega)).trans (R (a+d) (by omega)).up
theorem Run.done(R:Run n x0 p T K st u said){j a d:Nat}(hj:j<n)(h:a+d<=K)(hd:0<d){t:zU}(ht:t∈(st a j).tims)(hdue:t.due<=((st a j).time:Int)+d):Vh t (st (a+d) j):=by
 rcases(R.ziT hj a d h).2 t ht with h1|h1
 .exfalso;have h2:=R (a+d-1) (by omega);rw[show a+d-1+1=a+d by omega] at h2;have h3:=h2.zjc hj t h1;have h4:=R.time hj a d h;omega
 exact h1
end
theorem Run.zjo{n T K L j b a:Nat}{x0 p:Nat->Int}{st u:Nat->Nat->za}{said:Nat->List zj5}(R:Run n x0 p T K st u said)(D:∀j,j<n->DP p (st 0 j))(C0:Ctz n x0 p (T+a*n) (st a))(hj:j<n)(hb:b<n)(hab:L<(st a b).zfF)(hla:(st a j).zfF=L)(hK:a+(7+2*(st a j).round)<=K):(st (a+(7+2*(st a j).round)) j).zfF≠L:=by
 intro aa;obtain⟨r,hr⟩:∃r,(st a j).round=r:=⟨_,rfl⟩;rw[hr] at aa hK;have N0:=C0.c.nd j hj;have Q0:=C0.c.q j hj;have hL:L<12:=by
  have h1:=(C0.c.nd b hb).y.1.hgt;omega
 have at_:∀t,t<=7+2*r->(st (a+t) j).zfF=L:=λt ht=>by
  have h1:=R.hle hj (show a<=a+t by omega) (by omega);have h2:=R.hle hj (show a+t<=a+(7+2*r) by omega) (by omega);omega
 have atu:∀t,t<7+2*r->(u (a+t) j).zfF=L:=λt ht=>by
  have h1:=(R (a+t) (by omega)).hu hj;have h2:=at_ t (by omega);have h3:=at_ (t+1) (by omega);have h4:(st (a+t+1) j).zfF=L:=h3;omega
 have no:∀t,t<7+2*r->∀fr∈said (a+t),(decV fr).h≠(L:Int):=λt ht fr hf hh=>by
  have I:=R (a+t) (by omega);have h1:=R.hle hb (show a<=a+t by omega) (by omega);have h2:=I.hu hb;have h3:=atu t ht;exact I.up1 (λk hk=>R.dp D (a+t+1) (by omega) k hk) hf hh hb (by omega) hj (by omega) (at_ (t+1) (by omega)).symm
 have sg0:∀t,t<=7+2*r->∀fr∈(st (a+t) 0).sg j,(decV fr).h=(L:Int)->fr∈(st a 0).sg j:=λt=>by
  induction t with
  |zero=>exact λ_ fr hf _=>hf
  |succ t ih=>
   intro ht fr hf hh;rcases(R (a+t) (by omega)).new j hj fr hf with h1|h1
   .exact ih (by omega) fr h1 hh
   exact absurd hh (no t (by omega) fr h1)
 have mine:∀fr∈(st a 0).sg j,(decV fr).h≠(L:Int):=λfr hf hh=>by
  have ex:∃q,q<5/\((st a j).time+q+1) % 5=0:=⟨(4-(st a j).time % 5),by omega,by omega⟩;obtain⟨q,hq,ah⟩:=ex;have I:=R (a+q) (by omega);have ag:=R.time hj a q (by omega);obtain⟨g,g',g1,g2,-,-,e⟩:=I.tick j hj;have aj:fr∈(st (a+q) j).sg j:=by
   rw[((if h0:q=0 then by subst h0;exact C0.c.sg j hj else by
    have:=(R (a+q-1) (by omega)).c.c.sg j hj;rw[show a+q-1+1=a+q by omega] at this;exact this):(st (a+q) j).sg=(st (a+q) 0).sg)]
   exact R.up q (by omega) j fr hf
  have ai:fr∈(u (a+q) j).sg j:=by
   rw[e];exact g2 j fr (kT _ j j fr (g1 j fr aj))
  obtain⟨x,hx,af,ae⟩:=(I.cu.c.nd j hj).lv.c.own fr ai (by rw[atu q (by omega)];exact hh);have h1:=I.own j hj (by rw[ag];exact ah) x hx ae;rw[af] at h1;exact no q (by omega) fr h1 hh
 have none_:∀t,t<=7+2*r->∀fr∈(st (a+t) 0).sg j,(decV fr).h≠(L:Int):=λt ht fr hf hh=>mine fr (sg0 t ht fr hf hh) hh;have ctz:∀t,t<=7+2*r->∃T',Ctz n x0 p T' (st (a+t)):=λt ht=>by
  cases t with
  |zero=>exact⟨_,C0⟩
  |succ t=>exact⟨_,(R (a+t) (by omega)).c⟩
 have none':∀t,t<=7+2*r->∀fr∈(st (a+t) j).sg j,(decV fr).h≠(L:Int):=λt ht fr hf=>by
  obtain⟨T',C⟩:=ctz t ht;rw[C.c.sg j hj] at hf;exact none_ t ht fr hf
 have one_:∀t,t<=7+2*r->(st (a+t) j).step=1:=λt ht=>by
  obtain⟨T',C⟩:=ctz t ht;have N:=C.c.nd j hj;have h1:=N.tm.st (by rw[at_ t ht];exact hL);rcases Nat.lt_or_ge (st (a+t) j).step 2 with h2|h2
  .omega
  exfalso;have h3:=N.lv.c.st2 (by rw[at_ t ht];exact hL) h2;rw[at_ t ht] at h3;obtain⟨fr,hf,hh⟩:=h3.some;exact none' t ht fr hf hh
 have tim:∀t,t<=7+2*r->∃v∈(st (a+t) j).tims,v.n=1/\v.h=(L:Int)/\v.r=((st (a+t) j).round:Int)/\v.due<=((st (a+t) j).time:Int)+3+(st (a+t) j).round:=λt ht=>by
  obtain⟨T',C⟩:=ctz t ht;have N:=C.c.nd j hj;have h1:=N.tm.f1 (by rw[at_ t ht];exact hL) (one_ t ht) (λhp=>by
   have h3:=N.lv.prr (by rw[at_ t ht];exact hL) (by rw[<-yZ N.lv.c.pw];exact hp);rw[at_ t ht] at h3;obtain⟨fr,hf,hh⟩:=h3.some;exact none' t ht fr hf hh)
  rw[at_ t ht] at h1;exact h1
 have nr:∀t,t<=7+2*r->NR j L (r+1) (st (a+t) j):=λt=>by
  induction t with
  |zero=>
   intro _;have h:=NR.start N0 Q0;rw[hla,hr] at h;exact h
  |succ t ih=>exact λht=>NR.it (R (a+t) (by omega)) hj hL (no t (by omega)) (ih (by omega))
 have rd:∀t,t<=7+2*r->(st (a+t) j).round<=r+1:=λt ht=>by
  rcases(nr t ht).2 (at_ t ht) with⟨fr,hf,hh⟩|h
  .exact absurd hh (none' t ht fr hf)
  exact h.rd
 have next:∀t d,0<d->t+d<=7+2*r->3+(st (a+t) j).round<=d->(st (a+t) j).round<(st (a+t+d) j).round:=λt d hd ad h3=>by
  obtain⟨v,hv,v1,v2,v3,v4⟩:=tim t (by omega);have h1:=R.done hj (show a+t+d<=K by omega) hd hv (by omega);have h4:=one_ (t+d) ad;have h5:=at_ (t+d) ad;rw[<-Nat.add_assoc] at h4 h5;rcases h1.2 with h6|⟨h6,h7⟩
  .omega
  rcases h7 with h7|⟨h7,h8,-⟩
  .omega
  have:=h8 v1;omega
 have e1:=next 0 (3+r) (by omega) (by omega) (by show 3+(st a j).round<=_;omega);have e1':(st a j).round<(st (a+(3+r)) j).round:=e1;have e2:=rd (3+r) (by omega);have e3:=next (3+r) (4+r) (by omega) (by omega) (by omega);have e4:=rd (7+2*r) (zjA _);rw[show a+(3+r)+(4+r)=a+(7+2*r) by omega] at e3;omega
end
section
variable{n i S T:Nat}{x0 p:Nat->Int}{s s':za}{k:Int}{t:zj5}{st u st':Nat->za}{said:List zj5}
structure PG (n i:Nat) (x0 p:Nat->Int) (s:za):Prop where
 gd:∀fr∈s.sg i,(decV fr).k=1->(zi (regs x0 (s.blocks.take (decV fr).h.toNat)) (decV fr).s).2=true
 qu:∀fr∈s.sg i,(decV fr).k=1->0<=(decV fr).v->Quo n s.sg p 2 (decV fr).h (decV fr).v (decV fr).s
 vr:∀fr∈s.sg i,(decV fr).k=1->(decV fr).v<(decV fr).r
 v0:∀fr∈s.sg i,(decV fr).k=1->-1<=(decV fr).v
 lv:s.lr<=s.vr
theorem PG.congr(h:PG n i x0 p s)(hb:s'.blocks=s.blocks)(hs:s'.sg=s.sg)(hl:s'.lr<=s'.vr):PG n i x0 p s':=⟨by rw[hb,hs];exact h.gd,by rw[hs];exact h.qu,by rw[hs];exact h.vr,by rw[hs];exact h.v0,hl⟩
theorem kl(s:za)(i:Nat)(k v:Int)(nl:Bool)(t:zj5):(s.zfI i k v nl t).lr=s.lr/\(s.zfI i k v nl t).vr=s.vr/\(s.zfI i k v nl t).lv=s.lv/\(s.zfI i k v nl t).vv=s.vv:=by
 unfold za.zfI;split
 .exact ⟨rfl,rfl,rfl,rfl⟩
 split<;>exact⟨rfl,rfl,rfl,rfl⟩
theorem ke(s:za)(i r:Nat):(s.zfH i r).lr=s.lr/\(s.zfH i r).vr=s.vr/\(s.zfH i r).lv=s.lv/\(s.zfH i r).vv=s.vv:=by
 unfold za.zfH;split
 .exact kl (s.zfL r 1) i _ _ _ _
 exact⟨rfl,rfl,rfl,rfl⟩
theorem gT(h:s'.dec=s.dec):s'.blocks=s.blocks:=by unfold za.blocks;rw[h]
theorem gS(s:za):s.blocks.length=s.zfF:=by unfold za.blocks za.zfF;rw[List.length_map]
theorem Quo.up{sg sg':Nat->List zj5}{x:Nat->Int}{h r:Int}(hq:Quo n sg x k h r t)(hs:SgLe sg sg'):Quo n sg' x k h r t:=by
 obtain⟨b,h1,h2⟩:=hq;exact⟨b,h1,λq a c=>⟨(h2 q a c).1,(h2 q a c).2.mono hs⟩⟩
theorem PG.zgg{st:Nat}{v:Int}{nl:Bool}(h:PG n i x0 p s)(hk:k≠1):PG n i x0 p ((s.zfI i k v nl t).zfO st):=by
 have hb:((s.zfI i k v nl t).zfO st).blocks=s.blocks:=gT (yF s i k v nl t);have su:SgLe s.sg ((s.zfI i k v nl t).zfO st).sg:=jd s i k v nl t;obtain⟨l1,l2,-,-⟩:=kl s i k v nl t;have old:∀fr∈((s.zfI i k v nl t).zfO st).sg i,(decV fr).k=1->fr∈s.sg i:=λfr hf h1=>by
  rcases ZU s i k v nl t i fr hf with e|⟨-,-,-,e⟩
  .exact e
  rw[e] at h1;exact absurd h1 hk
 exact⟨λfr hf h1=>(by rw[hb];exact h.gd fr (old fr hf h1) h1),λfr hf h1 h2=>(h.qu fr (old fr hf h1) h1 h2).up su,λfr hf h1=>h.vr fr (old fr hf h1) h1,λfr hf h1=>h.v0 fr (old fr hf h1) h1,by show(s.zfI i k v nl t).lr<=(s.zfI i k v nl t).vr;rw[l1,l2];exact h.lv⟩
theorem PG.begin{r:Nat}(h:PG n i x0 p s)(hx:s.x=regs x0 s.blocks)(hv:s.vr<(r:Int))(hv0: -1<=s.vr)(hf:∀t∈s.wait,yN t=true)(hq:0<=s.vr->s.zgc s.vv=true/\Quo n s.sg p 2 (s.zfF:Int) s.vr s.vv):PG n i x0 p (s.zfH i r):=by
 obtain⟨l1,l2,-,-⟩:=ke s i r;have hb:(s.zfH i r).blocks=s.blocks:=gT (yB s i r);have su:SgLe s.sg (s.zfH i r).sg:=jA s i r;have new:∀fr∈(s.zfH i r).sg i,fr∈s.sg i\/decV fr=(s.zfL r 1).msg i 1 s.vr false (if s.vr<0 then blockF s.x s.wait else s.vv):=λfr aa=>by
  unfold za.zfH at aa;split at aa
  .rcases ZU (s.zfL r 1) i _ _ _ _ i fr aa with e|⟨-,-,-,e⟩
   .exact zj0 e
   exact zj1 e
  exact zj0 aa
 refine⟨λfr aa h1=>?_,λfr aa h1 h2=>?_,λfr aa h1=>?_,λfr aa h1=>?_,by rw[l1,l2];exact h.lv⟩
 .rw [hb];rcases new fr aa with e|e
  .exact h.gd fr e h1
  rw[e];show(zi (regs x0 (s.blocks.take ((s.zfF:Int)).toNat)) (if s.vr<0 then blockF s.x s.wait else s.vv)).2=true;rw[Int.toNat_natCast,<-gS s,zke,<-hx];split
  .exact zax _ hf
  exact(hq (by omega)).1
 .rcases new fr aa with e|e
  .exact (h.qu fr e h1 h2).up su
  rw[e] at h2 ⊢;have ad:0<=s.vr:=h2;show Quo n (s.zfH i r).sg p 2 (s.zfF:Int) s.vr (if s.vr<0 then blockF s.x s.wait else s.vv);rw[zj3 (by omega)];exact(hq ad).2.up su
 .rcases new fr aa with e|e
  .exact h.vr fr e h1
  rw[e];exact hv
 rcases new fr aa with e|e
 .exact h.v0 fr e h1
 rw[e];exact hv0
theorem Nd.valid(N:Nd n i x0 p S T s)(h:0<=s.vr):s.zgc s.vv=true/\Quo n s.sg p 2 (s.zfF:Int) s.vr s.vv:=by
 obtain⟨h1,h2,-⟩:=N.lv.c.vq h;exact⟨h2,(xU N.ni.log h1).same N.lv.c.pw⟩
theorem JI(s:za)(i:Nat)(q:zl):(s.zfR i q).blocks=s.blocks++[q.m.s]:=by
 unfold za.blocks;rw[Yb,List.map_append];rfl
theorem PG.keep{q:zl}(N:Nd n i x0 p S T s)(N':Nd n i x0 p S T (s.zfR i q))(h:PG n i x0 p s):PG n i x0 p (s.zfR i q):=by
 have base:∀z:za,z.blocks=s.blocks++[q.m.s]->z.sg=s.sg->z.lr= -1->z.vr= -1->PG n i x0 p z:=λz h1 h2 h3 h4=>by
  refine⟨λfr hf hk=>?_,by rw[h2];exact h.qu,by rw[h2];exact h.vr,by rw[h2];exact h.v0,by rw[h3,h4];exact Int.le_refl _⟩;rw[h2] at hf;rw[h1,List.take_append_of_le_length]
  .exact h.gd fr hf hk
  rw[gS];rcases(N.ni.mine fr hf).pos with a|a<;>omega
 have hr:=N'.ni.reg;rw[JI] at hr
 revert hr
 unfold za.zfR;rw[zu];have hb:((s.kept q).zfK ((s.kept q).ahead.filter λe=> !(s.kept q).zfJ e.m)).blocks=s.blocks++[q.m.s]:=by
  show List.map _ (s.dec++[_])=_;rw[List.map_append];rfl
 split
 .exact λ_=>base _ hb rfl rfl rfl
 intro hr;have hx:=(zF ((s.kept q).zfK ((s.kept q).ahead.filter λe=> !(s.kept q).zfJ e.m)) i 0).2.2.2.2.2.2.1;rw[hx] at hr;exact(base ((s.kept q).zfK ((s.kept q).ahead.filter λe=> !(s.kept q).zfJ e.m)) hb rfl rfl rfl).begin (by rw[hb];exact hr) (by show(-1:Int)<0;decide) (Int.le_refl (-1)) (λt ht=>N.y.2.form t ((qP _ _).subset ht)) (λa=>absurd a (by show¬(0:Int)<=-1;decide))
theorem PG.one(V:ys n p)(hi:i<n)(N:Nd n i x0 p S T s)(h:PG n i x0 p s)(ht:(s.zfT (za.zfY i) i).1=true):PG n i x0 p (s.zfT (za.zfY i) i).2:=by
 have N':=N.one V hi ht
 revert N'
 have hv1:=N.y.2.vr1;refine zE (C:=λz=>Nd n i x0 p S T z->PG n i x0 p z) ht (λq _ N'=>h.keep N N') (λ_ r _ hr _ _=>h.begin N.ni.reg (by omega) N.y.2.vr0 N.y.2.form N.valid) (λ_ _ _ q _ _ _ _=>?_) (λ_ _ _ _ q _ _ _ _ _=>?_) (λ_ _ _ _ _=>h.zgg (by decide)) (λ_ _ _ _ _ _=>h.congr rfl rfl h.lv) (λ_ _ _ _ _=>h.congr rfl rfl h.lv)
 .split
  .exact λ_=>h.zgg (by decide)
  exact λ_=>h.zgg (by decide)
 have hl:=h.lv;split
 .exact λ_=>PG.zgg (s:=(s.zfZ q.m.s).zf3) (h.congr rfl rfl (Int.le_refl _)) (by decide)
 exact λ_=>h.congr rfl rfl (by show s.lr<=(s.round:Int);omega)
theorem PG.go(V:ys n p)(hi:i<n):∀(f:Nat) (s:za),Nd n i x0 p S T s->PG n i x0 p s->PG n i x0 p (za.zgn i f s)
 |0,_,_,h=>h
 |f+1,s,N,h=>by
  rw[za.zgn];split
  .rename_i h1;exact PG.go V hi f _ (N.one V hi h1) (h.one V hi N h1)
  .exact h
theorem PG.exp(N:Nd n i x0 p S T s)(h:PG n i x0 p s)(u:zU):PG n i x0 p (s.zfQ.zga i u):=by
 have hv1:=N.y.2.vr1;have hp:PG n i x0 p s.zfQ:=h.congr rfl rfl h.lv;exact ye (C:=PG n i x0 p) (λ_ _ _ _=>hp.zgg (by decide)) (λ_ _ _ _=>hp.zgg (by decide)) (λ_ _ _ _=>hp.begin N.ni.reg (by show s.vr<((s.round+1:Nat):Int);omega) N.y.2.vr0 N.y.2.form N.valid) (λ_=>hp)
theorem PG.due(V:ys n p)(hi:i<n):∀(f:Nat) (s:za),Nd n i x0 p S T s->PG n i x0 p s->PG n i x0 p (za.zf0 i f s)
 |0,_,_,h=>h
 |f+1,s,N,h=>by
  rw[za.zf0];split
  .exact h
  .rename_i t l hl;split
   .rename_i hd;have N1:=N.zgq V hi hl hd;exact PG.due V hi f _ (N1.zgN V hi) (PG.go V hi 2200 _ N1 (h.exp N t))
   .exact h
theorem Q7(s:za):s.zfN.blocks=s.blocks:=by
 show List.map _ (List.map _ s.dec)=List.map _ s.dec;rw[List.map_map];rfl
theorem PG.tick(V:ys n p)(hi:i<n)(N:Nd n i x0 p S T s)(h:PG n i x0 p s):PG n i x0 p (s.zfW i):=by
 have h1:=PG.due V hi (s.tims.length+1) s.zfN N.zfN (h.congr (Q7 s) rfl h.lv);obtain⟨-,a2,-,a4,-,-,-,a8,-,-,-,-,-,-,a15,-⟩:=yw (za.zf0 i (s.tims.length+1) s.zfN);show PG n i x0 p (za.zf0 i (s.tims.length+1) s.zfN).again;exact h1.congr (gT a4) a2 (by rw[a8,a15];exact h1.lv)
theorem xl(s:za)(k:Nat)(hk:k<s.zfF):(s.zf2 k).blocks=s.blocks/\(s.zf2 k).lr=s.lr/\(s.zf2 k).lv=s.lv:=by
 unfold za.zf2;split
 .exact ⟨rfl,rfl,rfl⟩
 refine⟨?_,rfl,rfl⟩;show List.map _ (s.dec.set k _)=List.map _ s.dec;rw[List.map_set];refine List.ext_getElem? λm=>?_;by_cases e:k=m
 .subst e;rw[List.getElem?_set_self (by rw[List.length_map];exact hk),List.getElem?_map,zjJ hk];show some (s.dec.getD k yr).block=_;rw[zjK,zjJ hk];rfl
 rw[List.getElem?_set_ne e]
theorem PG.zfX(V:ys n p)(hi:i<n)(N:Nd n i x0 p S T s)(h:PG n i x0 p s)(fr:zj5):PG n i x0 p (s.zfM n i fr):=by
 refine zG (C:=PG n i x0 p) h (λk hk _=>?_) (λa b c=>PG.go V hi 2200 _ (N.take a b c) ?_)
 .obtain ⟨-,a2,-,-,-,-,-,a8,-⟩:=yh s k
  obtain⟨b1,b2,-⟩:=xl s k hk;exact h.congr b1 a2 (by rw[b2,a8];exact h.lv)
 unfold za.zf5;split
 .exact h.congr rfl rfl h.lv
 exact h.congr rfl rfl h.lv
theorem PG.sub(h:PG n i x0 p s)(t:zj5):PG n i x0 p (s.zgd t):=by
 unfold za.zgd;split
 .exact h.congr rfl rfl h.lv
 exact h
theorem PG.others(h:PG n i x0 p s){g:Nat->List zj5}(hs:SgLe s.sg g)(hi:g i=s.sg i):PG n i x0 p { s with sg:=g }:=
 ⟨λfr hf=>h.gd fr (hi▸hf),λfr hf a b=>(h.qu fr (hi▸hf) a b).up hs,λfr hf=>h.vr fr (hi▸hf),λfr hf=>h.v0 fr (hi▸hf),h.lv⟩
def PGs(n:Nat)(x0 p:Nat->Int)(st:Nat->za):Prop:=∀j,j<n->PG n j x0 p (st j)
theorem PGs.upd{j:Nat}(C:Cty n x0 p T st)(hj:j<n)(H:PGs n x0 p st)(h:PG n j x0 p s')(ho:SgO j (st j) s')(su:SgLe (st j).sg s'.sg):PGs n x0 p (updS st j s'):=λk hk=>by
 by_cases e:k=j
 .subst e;rw[zz];exact h
 .rw [zw e];have e2:=(C.sg k hk).trans (C.sg j hj).symm;exact(H k hk).others (by rw[e2];exact su) (by rw[ho k e,e2])
theorem PGs.it(I:It n x0 p T st u st' said)(H:PGs n x0 p st):PGs n x0 p u/\PGs n x0 p st':=by
 have hu:PGs n x0 p u:=I.tinv (λ_ s=>PGs n x0 p s) (λs k hk C H=>H.upd C.c hk ((H k hk).tick C.c.V hk (C.c.nd k hk)) (kU (s k) k) (kT (s k) k)) H;exact⟨hu,I.inv (PGs n x0 p) (λs j fr hj _ C H=>H.upd C.c hj ((H j hj).zfX C.c.V hj (C.c.nd j hj) fr) (ya (s j) n j fr) (yE (s j) n j fr)) (λs j hj C H=>H.upd C.c hj ((H j hj).congr rfl rfl (H j hj).lv) (yy rfl) (SgLe.refl _)) hu⟩
def LR(s s':za):Prop:=Fwd s s'/\(s'.zfF=s.zfF->(s'.lr=s.lr\/(s.round:Int)<=s'.lr)/\s.vr<=s'.vr)
theorem LR.refl(s:za):LR s s:=⟨Fwd.refl s,λ_=>⟨zj0 rfl,Int.le_refl _⟩⟩
theorem LR.trans{a b c:za}(h:LR a b)(h':LR b c):LR a c:=by
 refine⟨h.1.trans h'.1,λe=>?_⟩;have f1:=h.1.2;have f2:=h'.1.2;obtain⟨a1,a2⟩:=h.2 (by omega);obtain⟨b1,b2⟩:=h'.2 (by omega);exact⟨by omega,by omega⟩
theorem vf(hf:Fwd s s')(h1:s'.lr=s.lr)(h2:s'.vr=s.vr):LR s s':=⟨hf,λ_=>⟨zj0 h1,by rw[h2];exact Int.le_refl _⟩⟩
theorem ze1(N:Nd n i x0 p S T s)(ht:(s.zfT (za.zfY i) i).1=true):LR s (s.zfT (za.zfY i) i).2:=by
 have hf:=(zbj N.y.1.stp ht).1
 revert hf
 have aa:=N.y.2.vr1;have sl:=kl;refine zE (C:=λz=>Fwd s z->LR s z) ht (λq _ hf=>⟨hf,λe=>absurd e (by rw[yK];omega)⟩) (λ_ r _ _ _ hf=>vf hf (ke s i r).1 (ke s i r).2.1) (λ_ _ _ q _ _ _ _=>?_) (λ_ _ _ _ q _ _ _ _ _=>?_) (λ_ _ _ _ hf=>vf hf (sl s i 3 0 true _).1 (sl s i 3 0 true _).2.1) (λ_ _ _ _ _ hf=>vf hf rfl rfl) (λ_ _ _ _ hf=>vf hf rfl rfl)
 .split
  .exact λhf=>vf hf (sl s i 2 0 false _).1 (sl s i 2 0 false _).2.1
  exact λhf=>vf hf (sl s i 2 0 true _).1 (sl s i 2 0 true _).2.1
 split
 .intro hf;have h1:=(sl (s.zfZ q.m.s).zf3 i 3 0 false q.m.s).1;have h2:=(sl (s.zfZ q.m.s).zf3 i 3 0 false q.m.s).2.1;exact⟨hf,λ_=>⟨zj1 (by show _<=(za.zfI _ i 3 0 false q.m.s).lr;rw[h1];exact Int.le_refl _),by show _<=(za.zfI _ i 3 0 false q.m.s).vr;rw[h2];exact aa⟩⟩
 exact λhf=>⟨hf,λ_=>⟨zj0 rfl,aa⟩⟩
theorem zel(V:ys n p)(hi:i<n):∀(f:Nat) (s:za),Nd n i x0 p S T s->LR s (za.zgn i f s)
 |0,s,_=>LR.refl s
 |f+1,s,N=>by
  rw[za.zgn];split
  .rename_i h1;exact(ze1 N h1).trans (zel V hi f _ (N.one V hi h1))
  .exact LR.refl s
theorem zem{u:zU}{l:List zU}(N:Nd n i x0 p S T s)(hl:s.tims=u::l)(hd:u.due<=(s.time:Int)):LR s (s.zfQ.zga i u):=by
 have hf:=(N.tm.zgq N.y.1.stp hl hd).2.1
 revert hf
 exact ye (C:=λz=>Fwd s z->LR s z) (λ_ _ _ _ hf=>vf hf (kl s.zfQ i 2 0 true _).1 (kl s.zfQ i 2 0 true _).2.1) (λ_ _ _ _ hf=>vf hf (kl s.zfQ i 3 0 true _).1 (kl s.zfQ i 3 0 true _).2.1) (λ_ _ _ _ hf=>vf hf (ke s.zfQ i _).1 (ke s.zfQ i _).2.1) (λ_ hf=>vf hf rfl rfl)
theorem zdS(V:ys n p)(hi:i<n):∀(f:Nat) (s:za),Nd n i x0 p S T s->LR s (za.zf0 i f s)
 |0,s,_=>LR.refl s
 |f+1,s,N=>by
  rw[za.zf0];split
  .exact LR.refl s
  .rename_i t l hl;split
   .rename_i hd;have N1:=N.zgq V hi hl hd;exact(zem N hl hd).trans ((zel V hi 2200 _ N1).trans (zdS V hi f _ (N1.zgN V hi)))
   .exact LR.refl s
theorem zek(V:ys n p)(hi:i<n)(N:Nd n i x0 p S T s):LR s (s.zfW i):=by
 have h0:LR s s.zfN:=vf (Jv s).1 rfl rfl;have h1:=zdS V hi (s.tims.length+1) s.zfN N.zfN;obtain⟨-,-,-,a4,a5,a6,-,a8,-,-,-,-,-,-,a15,-,a17⟩:=yw (za.zf0 i (s.tims.length+1) s.zfN);show LR s (za.zf0 i (s.tims.length+1) s.zfN).again;refine h0.trans (h1.trans (vf ?_ a15 a8));unfold Fwd za.zfF;rw[a4,a5,a6,a17];omega
theorem G5(V:ys n p)(hi:i<n)(N:Nd n i x0 p S T s)(fr:zj5):LR s (s.zfM n i fr):=by
 refine zG (C:=LR s) (LR.refl s) (λk hk _=>?_) (λa b c=>LR.trans ?_ (zel V hi 2200 _ (N.take a b c)))
 .obtain ⟨-,-,-,a4,a5,a6,-,a8,-,-,-,-,-,-,a15⟩:=yh s k
  exact vf (by unfold Fwd;rw[a4,a5,a6,a15];omega) (xl s k hk).2.1 a8
 unfold za.zf5;split
 .exact vf (Fwd.refl s) rfl rfl
 exact vf (Fwd.refl s) rfl rfl
theorem zeW(V:ys n p):Rel n x0 p T λ_=>LR:=⟨λ_ s=>LR.refl s,λ_ _ _ _ a b=>a.trans b,λj s fr hj N=>G5 V hj N fr,λ_ s g o=>vf (Fwd.refl s) rfl rfl⟩
theorem It.lr(I:It n x0 p T st u st' said){j:Nat}(hj:j<n):LR (st j) (u j)/\LR (u j) (st' j):=by
 refine⟨?_,I.rel _ (zeW I.c.c.V) j⟩;obtain⟨g,g',-,-,N,-,e⟩:=I.tick j hj;rw[e];exact LR.trans (b:={ st j with sg:=g }) (vf (Fwd.refl _) rfl rfl) ((zek I.c.c.V hj N).trans (vf (Fwd.refl _) rfl rfl))
end
section
def Zo(n:Nat)(s:za):Prop:=∀q,q<n->∀fr∈s.sg q,(decV fr).h=(s.zfF:Int)->∃e∈s.log,e.fr=fr
theorem Zo.most{n i S T:Nat}{x0 p:Nat->Int}{s:za}(N:Nd n i x0 p S T s)(F:Zo n s){f:zl->Bool}{b:Nat->Bool}(hb:yg 2 p b=true)(h:∀q,q<8->b q=true->q<n/\∃fr∈s.sg q,(decV fr).h=(s.zfF:Int)/\∀e:zl,e.m=decV fr->f e=true):s.most f=true:=by
 unfold za.most;rw[kN N.lv.c.pw];unfold yg at hb ⊢;have h7:=zjP hb;have hd:=N.y.1.dom;have h8:powB p b 8<=powB p (sendB f s.log) 8:=by
  rw[<-yW 8 (zjA _) N.lv.c.pw,<-yW 8 (zjA _) N.lv.c.pw];refine js (λi=>(hd i).1) 8 λq hq af=>?_;obtain⟨ad,fr,hf,hh,aa⟩:=h q hq af;obtain⟨e,he,ae⟩:=F q ad fr hf hh;have E:=N.ni.log e he;have hm:e.m=decV fr:=by rw[<-ae];exact E.m.symm
  unfold sendB;refine List.any_eq_true.2 ⟨e,he,?_⟩;rw[aa e hm,Bool.true_and];apply zjQ;rw[hm];exact(N.lv.c.sgi.ok q ad fr hf).2.1
 exact zjQ (by omega)
theorem Zo.any{n i S T:Nat}{x0 p:Nat->Int}{s:za}(N:Nd n i x0 p S T s)(F:Zo n s){k r:Int}(hq:QU n p s.sg k (s.zfF:Int) r):s.most (votesB k r)=true:=by
 obtain⟨b,hb,h⟩:=hq;refine F.most N hb λq a c=>?_;obtain⟨h1,fr,h2,-,h3,h4,h5⟩:=h q a c;exact⟨h1,fr,h2,h4,λe he=>by unfold votesB;rw[he,h3,h5];simp⟩
theorem Zo.quo{n i S T:Nat}{x0 p:Nat->Int}{s:za}(N:Nd n i x0 p S T s)(F:Zo n s){k r:Int}{t:zj5}(hq:Quo n s.sg p k (s.zfF:Int) r t):s.most (votesForB k r t)=true:=by
 obtain⟨b,hb,h⟩:=hq;refine F.most N hb λq a c=>?_;obtain⟨h1,fr,h2,-,h3,h4,h5,h6,h7⟩:=h q a c;exact⟨h1,fr,h2,h4,λe he=>by unfold votesForB;rw[he,h3,h5,h6,h7];simp⟩
theorem G3{s:za}{k r:Int}(hd:Dom s.x)(hp:0<sumTo s.x 8)(hm:s.most (votesB k r)=true):yg 1 s.x (sendB (λe=>decide (e.m.r=r)) s.log)=true:=by
 unfold za.most at hm;have h1:=zjP hm;have h3:powB s.x (sendB (votesB k r) s.log) 8<=powB s.x (sendB (λe=>decide (e.m.r=r)) s.log) 8:=js (λi=>(hd i).1) 8 λq _ hq=>by
  unfold sendB at hq ⊢;obtain⟨e,he,h4⟩:=List.any_eq_true.1 hq;refine List.any_eq_true.2 ⟨e,he,?_⟩;unfold votesB at h4;simp only[Bool.and_eq_true] at h4 ⊢;exact⟨h4.1.2,h4.2⟩
 exact zjQ (by omega)
theorem jP{p:Nat->Int}{b:Nat->Bool}(hp:0<sumTo p 8)(hb:yg 2 p b=true):∃q,q<8/\b q=true:=by
 have h1:=zjP hb;by_cases h:∃q,q<8/\b q=true
 .exact h
 exfalso;have h2:powB p b 8=0:=by
  have:∀k,k<=8->powB p b k=0:=λk=>by
   induction k with
   |zero=>exact λ_=>rfl
   |succ k ih=>
    intro hk;have aa:b k=false:=by
     cases e:b k with
     |false=>rfl
     |true=>exact absurd ⟨k,by omega,e⟩ h
    simp[powB,ih (by omega),aa]
  exact this 8 (zjA _)
 omega
theorem Cty.zhk{n T:Nat}{x0 p:Nat->Int}{st:Nat->za}(C:Cty n x0 p T st):0<sumTo p 8:=by
 have N:=C.nd 0 C.n1;rw[<-vN 8 (zjA _) N.lv.c.pw];exact N.y.1.pos
theorem Cty.zif{n T:Nat}{x0 p:Nat->Int}{st:Nat->za}(C:Cty n x0 p T st):∃x,Dom x/\ki x p:=⟨_,(C.nd 0 C.n1).y.1.dom,(C.nd 0 C.n1).lv.c.pw⟩
theorem Cty.meet{n T:Nat}{x0 p:Nat->Int}{st:Nat->za}(C:Cty n x0 p T st){b c:Nat->Bool}(hb:yg 2 p b=true)(hc:yg 2 p c=true):∃q,q<8/\b q=true/\c q=true:=by
 obtain⟨x,hd,hx⟩:=C.zif;have hp:=C.zhk;rw[<-kN hx] at hb hc;obtain⟨q,h1,h2,h3,-⟩:=xG (bad:=λ_=>false) (λi=>(hd i).1) hb hc (by rw[xO,vN 8 (zjA _) hx];omega);exact⟨q,h1,h2,h3⟩
theorem PGs.quo{n T j:Nat}{x0 p:Nat->Int}{st:Nat->za}(C:Cty n x0 p T st)(H:PGs n x0 p st)(hj:j<n){q:Nat}(hq:q<n){fr:zj5}(hf:fr∈(st j).sg q)(hk:(decV fr).k=1)(hv:0<=(decV fr).v):Quo n (st j).sg p 2 (decV fr).h (decV fr).v (decV fr).s:=by
 have e:=(C.sg j hj).trans (C.sg q hq).symm;rw[e] at hf ⊢;exact(H q hq).qu fr hf hk hv
theorem PGs.zgc{n T j:Nat}{x0 p:Nat->Int}{st:Nat->za}(C:Cty n x0 p T st)(H:PGs n x0 p st)(hj:j<n){q:Nat}(hq:q<n){fr:zj5}(hf:fr∈(st j).sg q)(hk:(decV fr).k=1)(hh:(decV fr).h=((st j).zfF:Int)):(st j).zgc (decV fr).s=true:=by
 have e:=(C.sg j hj).trans (C.sg q hq).symm;rw[e] at hf;have h1:=(H q hq).gd fr hf hk;have h2:(st j).zfF<=(st q).zfF:=by
  rcases((C.nd q hq).ni.mine fr hf).pos with a|a<;>omega
 unfold za.zgc;rw[C.reg hj hq h2];rw[hh,Int.toNat_natCast] at h1;exact h1
theorem Zo.zgR{n T j:Nat}{x0 p:Nat->Int}{st:Nat->za}(C:Cty n x0 p T st)(H:PGs n x0 p st)(hj:j<n)(F:Zo n (st j)){q:Nat}(hq:q<n){fr:zj5}(hf:fr∈(st j).sg q)(hk:(decV fr).k=1)(hh:(decV fr).h=((st j).zfF:Int))(hr:(decV fr).r=((st j).round:Int)):(st j).step≠1:=λhs=>by
 have N:=C.nd j hj;obtain⟨e,he,hef⟩:=F q hq fr hf hh;have E:=N.ni.log e he;have hm:decV fr=e.m:=by rw[<-hef];exact E.m
 obtain⟨h1,h2⟩:=(C.q j hj).q3 hs e he (by rw[<-hm];exact hk) (by rw[<-hm];exact hr);rw[<-hm] at h1 h2;have h3:=PGs.quo C H hj hq hf hk h1;rw[hh] at h3;rw[F.quo N h3] at h2;cases h2
theorem Zo.held{n T j:Nat}{x0 p:Nat->Int}{st:Nat->za}(C:Cty n x0 p T st)(H:PGs n x0 p st)(hj:j<n)(F:Zo n (st j)){q:Nat}(hq:q<n){fr:zj5}(hf:fr∈(st j).sg q)(hk:(decV fr).k=1)(hh:(decV fr).h=((st j).zfF:Int))(hr:(decV fr).r=((st j).round:Int))(hm2:(st j).most (votesForB 2 ((st j).round:Int) (decV fr).s)=true):(st j).held=true:=by
 have N:=C.nd j hj;cases aa:(st j).held with
 |true=>rfl
 |false=>
  exfalso;obtain⟨e,he,ad⟩:=F q hq fr hf hh;have E:=N.ni.log e he;have hm:decV fr=e.m:=by rw[<-ad];exact E.m
  have h1:=(C.q j hj).q5 (Zo.zgR C H hj F hq hf hk hh hr) aa e he (by rw[<-hm];exact hk) (by rw[<-hm];exact hr) (by rw[<-hm];exact hm2);rw[<-hm,PGs.zgc C H hj hq hf hk hh] at h1;cases h1
structure Sys (n:Nat) (x0 p:Nat->Int) (T K:Nat) (st u:Nat->Nat->za) (said:Nat->List zj5):Prop where
 R:Run n x0 p T K st u said
 c0:Ctz n x0 p T (st 0)
 d0:∀j,j<n->DP p (st 0 j)
 g0:PGs n x0 p (st 0)
section
variable{n T K:Nat}{x0 p:Nat->Int}{st u:Nat->Nat->za}{said:Nat->List zj5}
theorem Sys.c(Y:Sys n x0 p T K st u said):∀t,t<=K->Ctz n x0 p (T+t*n) (st t)
 |0,_=>by rw[Nat.zero_mul];exact Y.c0
 |t+1,h=>by rw[Nat.succ_mul,<-Nat.add_assoc];exact(Y.R t (by omega)).c
theorem Sys.g(Y:Sys n x0 p T K st u said):∀t,t<=K->PGs n x0 p (st t)
 |0,_=>Y.g0
 |t+1,h=>(PGs.it (Y.R t (by omega)) (Sys.g Y t (by omega))).2
theorem Sys.sg(Y:Sys n x0 p T K st u said){t j:Nat}(ht:t<=K)(hj:j<n):(st t j).sg=(st t 0).sg:=(Y.c t ht).c.sg j hj
theorem Sys.zi6(Y:Sys n x0 p T K st u said){a b:Nat}(hab:a<=b)(hb:b<=K):SgLe (st a 0).sg (st b 0).sg:=by
 have:=Y.R.up (a:=a) (b-a) (by omega);rw[show a+(b-a)=b by omega] at this;exact this
end
structure Win (n:Nat) (x0 p:Nat->Int) (T K:Nat) (st u:Nat->Nat->za) (said:Nat->List zj5) (h a e:Nat) (I:Nat->Bool):Prop where
 Y:Sys n x0 p T K st u said
 top:∀t,a<=t->t<=e->∀j,j<n->(st t j).zfF<=h
 I2:yg 2 p I=true
 In:∀j,j<8->I j=true->j<n
 at_:∀t,a<=t->t<=e->∀j,j<n->I j=true->(st t j).zfF=h
 h12:h<12
 eK:e<=K
 inf:∀t,a<=t->t<=e->∀j,j<n->I j=true->Zo n (st t j)
def Q3(n:Nat)(p:Nat->Int)(h r:Nat)(s:Nat->za):Prop:=QU n p (s 0).sg 3 (h:Int) (r:Int)
section
variable{n T K h a e:Nat}{x0 p:Nat->Int}{st u:Nat->Nat->za}{said:Nat->List zj5}{I:Nat->Bool}
theorem Win.cc(W:Win n x0 p T K st u said h a e I){t:Nat}(h2:t<=e):Cty n x0 p (T+t*n) (st t):=(W.Y.c t (zjF h2 W.eK)).c
theorem Win.gg(W:Win n x0 p T K st u said h a e I){t:Nat}(h2:t<=e):PGs n x0 p (st t):=W.Y.g t (zjF h2 W.eK)
theorem Win.up(W:Win n x0 p T K st u said h a e I){r t t':Nat}(hq:Q3 n p h r (st t))(h1:t<=t')(h2:t'<=e):Q3 n p h r (st t'):=QU.mono (W.Y.zi6 h1 (zjF h2 W.eK)) hq
theorem Win.zjm(W:Win n x0 p T K st u said h a e I){r t:Nat}(h2:t<=e)(hq:Q3 n p h (r+1) (st t)):Q3 n p h r (st t):=by
 obtain⟨b,hb,hh⟩:=hq;obtain⟨q,q1,q2⟩:=jP (W.cc h2).zhk hb;obtain⟨aa,fr,hf,-,-,f2,f3⟩:=hh q q1 q2;have h3:=(SgL.of ((W.cc h2).nd 0 (W.cc h2).n1)).j q aa fr hf (by omega);rw[f2,f3,show((r+1:Nat):Int)-1=(r:Int) by omega] at h3;exact h3
theorem Win.down(W:Win n x0 p T K st u said h a e I){r t:Nat}(h2:t<=e):∀d,Q3 n p h (r+d) (st t)->Q3 n p h r (st t)
 |0,hq=>hq
 |d+1,hq=>Win.down W h2 d (W.zjm h2 hq)
theorem Win.rj(W:Win n x0 p T K st u said h a e I){r t j:Nat}(h2:t<=e)(hj:j<n)(hh:(st t j).zfF=h)(hr:r<(st t j).round):Q3 n p h r (st t):=by
 have N:=(W.cc h2).nd j hj;have h3:=N.lv.c.rj (by omega) (by rw[hh];exact W.h12);rw[hh,(W.cc h2).sg j hj] at h3;refine W.down h2 ((st t j).round-1-r) ?_;unfold Q3;rw[show((r+((st t j).round-1-r):Nat):Int)=((st t j).round:Int)-1 by omega];exact h3
theorem Win.zil(W:Win n x0 p T K st u said h a e I){r t j:Nat}(h1:a<=t)(h2:t<=e)(hj:j<n)(hI:I j=true)(hq:Q3 n p h r (st t)):(st t j).most (votesB 3 (r:Int))=true:=by
 refine(W.inf t h1 h2 j hj hI).any ((W.cc h2).nd j hj) ?_;rw[W.at_ t h1 h2 j hj hI,(W.cc h2).sg j hj];exact hq
theorem Win.ge(W:Win n x0 p T K st u said h a e I){r t j:Nat}(h1:a<=t)(h2:t<=e)(hj:j<n)(hI:I j=true)(h20:r<=20)(hq:Q3 n p h r (st t)):r<=(st t j).round:=by
 rcases Nat.lt_or_ge (st t j).round r with h3|h3
 .exfalso;have N:=(W.cc h2).nd j hj;have h4:=G3 N.y.1.dom N.y.1.pos (W.zil h1 h2 hj hI hq);have h5:=((W.cc h2).q j hj).q2 r h20;unfold za.zfV at h5;rw[h4,zjQ h3] at h5;cases h5
 exact h3
theorem Win.zhD(W:Win n x0 p T K st u said h a e I){t t' j:Nat}(h1:a<=t)(h2:t<=t')(h3:t'<=e)(hj:j<n)(hI:I j=true):(st t j).round<(st t' j).round\/((st t j).round=(st t' j).round/\(st t j).step<=(st t' j).step):=by
 have h4:=(W.Y.R.ziT hj t (t'-t) (by have:=W.eK;omega)).1.2;rw[show t+(t'-t)=t' by omega] at h4;have h5:=W.at_ t h1 (by omega) j hj hI;have h6:=W.at_ t' (by omega) h3 j hj hI;omega
theorem Win.enter(W:Win n x0 p T K st u said h a e I){r t j:Nat}(h1:a<=t)(h2:t+2+r<=e)(hj:j<n)(hI:I j=true)(h20:r<20)(hq:Q3 n p h r (st t)):r<(st (t+(2+r)) j).round:=by
 have h3:=W.ge h1 (by omega) hj hI (by omega) hq;have h4:=W.zhD h1 (show t<=t+(2+r) by omega) (by omega) hj hI;rcases Nat.lt_or_ge r (st t j).round with h5|h5
 .omega
 have e1:(st t j).round=r:=by omega
 have aa:t<=e:=by omega
 have N:=(W.cc aa).nd j hj;have hb:=((W.cc aa).q j hj).q8 (by rw[e1];exact W.zil h1 aa hj hI hq);obtain⟨v,hv,v1,v2,v3,v4⟩:=N.tm.f3 hb (by omega);have h6:=W.Y.R.done hj (show t+(2+r)<=K by have:=W.eK;omega) (by omega) hv (by rw[e1] at v4;omega);have h7:=W.at_ t h1 aa j hj hI;have h8:=W.at_ (t+(2+r)) (by omega) (by omega) j hj hI;rcases h6.2 with h9|⟨h9,ad⟩
 .omega
 rcases ad with ad|⟨ad,-,-,ae⟩
 .omega
 have:=ae v1;omega
theorem Win.zgg(W:Win n x0 p T K st u said h a e I){r t:Nat}(h1:a<=t)(h2:t+(5+2*r)<=e)(hall:∀j,j<n->I j=true->r<=(st t j).round):Q3 n p h r (st (t+(5+2*r))):=by
 refine Classical.byContradiction λag=>?_;have eqr:∀t',t<=t'->t'<=t+(5+2*r)->∀j,j<n->I j=true->(st t' j).round=r:=λt' a1 a2 j hj hI=>by
  have h3:=W.zhD h1 a1 (by omega) hj hI;have h4:=hall j hj hI;rcases Nat.lt_or_ge r (st t' j).round with h5|h5
  .exact absurd (W.up (W.rj (by omega) hj (W.at_ t' (by omega) (by omega) j hj hI) h5) a2 h2) ag
  omega
 have two:∀j,j<n->I j=true->2<=(st (t+(3+r)) j).step:=λj hj hI=>by
  have e0:=eqr t (zjA _) (by omega) j hj hI;have e1:=eqr (t+(3+r)) (by omega) (by omega) j hj hI;have h3:=W.zhD h1 (show t<=t+(3+r) by omega) (by omega) hj hI;have hh:=W.at_ t h1 (by omega) j hj hI;have ah:=W.at_ (t+(3+r)) (by omega) (by omega) j hj hI;have ae:t<=e:=by omega
  have N:=(W.cc ae).nd j hj;have hs1:=N.tm.st (by rw[hh];exact W.h12);rcases Nat.lt_or_ge (st t j).step 2 with h4|h4
  .by_cases hp:(st t j).prop (st t j).round=j
   .exfalso;obtain⟨fr,f1,-,f2,f3,f4⟩:=N.lv.prr (by rw[hh];exact W.h12) (by rw[<-yZ N.lv.c.pw];exact hp);exact Zo.zgR (W.cc ae) (W.gg ae) hj (W.inf t h1 ae j hj hI) hj f1 f2 f3 f4 (by omega)
   obtain⟨v,hv,v1,v2,v3,v4⟩:=N.tm.f1 (by rw[hh];exact W.h12) (by omega) hp;have h6:=W.Y.R.done hj (show t+(3+r)<=K by have:=W.eK;omega) (by omega) hv (by rw[e0] at v4;omega);rcases h6.2 with h9|⟨h9,ad⟩
   .omega
   rcases ad with ad|⟨ad,af,-⟩
   .omega
   exact af v1
  omega
 have aa:t+(3+r)<=e:=by omega
 have q2:QU n p (st (t+(3+r)) 0).sg 2 (h:Int) (r:Int):=⟨I,W.I2,λq a1 a2=>⟨W.In q a1 a2,by
  have hq:=W.In q a1 a2;have N:=(W.cc aa).nd q hq;have hh:=W.at_ (t+(3+r)) (by omega) aa q hq a2;have h3:=N.lv.c.st2 (by rw[hh];exact W.h12) (two q hq a2);rw[hh,eqr (t+(3+r)) (by omega) (by omega) q hq a2,(W.cc aa).sg q hq] at h3;exact h3⟩⟩
 have three:∀j,j<n->I j=true->3<=(st (t+(5+2*r)) j).step:=λj hj hI=>by
  have e1:=eqr (t+(3+r)) (by omega) (by omega) j hj hI;have e2:=eqr (t+(5+2*r)) (by omega) (by omega) j hj hI;have hh:=W.at_ (t+(3+r)) (by omega) (by omega) j hj hI;have ah:=W.at_ (t+(5+2*r)) (by omega) (by omega) j hj hI;have N:=(W.cc aa).nd j hj;have h3:=W.zhD (by omega) (show t+(3+r)<=t+(5+2*r) by omega) (by omega) hj hI;have h4:=two j hj hI;have h5:=N.y.1.stp;rcases Nat.lt_or_ge (st (t+(3+r)) j).step 3 with h6|h6
  .have hs:(st (t+(3+r)) j).step=2:=by omega
   have hm:(st (t+(3+r)) j).most (votesB 2 ((st (t+(3+r)) j).round:Int))=true:=by
    rw[e1];refine(W.inf _ (by omega) aa j hj hI).any N ?_;rw[hh,(W.cc aa).sg j hj];exact q2
   obtain⟨v,hv,v1,v2,v3,v4⟩:=N.tm.f2 hs (((W.cc aa).q j hj).q7 hs hm);have h7:=W.Y.R.done hj (show t+(3+r)+(2+r)<=K by have:=W.eK;omega) (by omega) hv (by rw[e1] at v4;omega);rw[show t+(3+r)+(2+r)=t+(5+2*r) by omega] at h7;rcases h7.2 with h9|⟨h9,ad⟩
   .omega
   rcases ad with ad|⟨ad,-,af,-⟩
   .omega
   exact af v1
  omega
 refine ag ⟨I,W.I2,λq a1 a2=>⟨W.In q a1 a2,?_⟩⟩;have hq:=W.In q a1 a2;have N:=(W.cc h2).nd q hq;have hh:=W.at_ (t+(5+2*r)) (by omega) h2 q hq a2;have h3:=N.lv.c.st3 (by rw[hh];exact W.h12) (three q hq a2);rw[hh,eqr (t+(5+2*r)) (by omega) (by omega) q hq a2,(W.cc h2).sg q hq] at h3;exact h3
theorem Win.tn(W:Win n x0 p T K st u said h a e I){r t:Nat}(h1:a<=t)(h2:t<=e)(hno:¬Q3 n p h r (st t))(d:Nat):TNs n h r d (st t):=λj hj=>by
 have N:=(W.cc h2).nd j hj;have rd:(st t j).zfF=h->(st t j).round<=r:=λhh=>by
  rcases Nat.lt_or_ge r (st t j).round with h3|h3
  .exact absurd (W.rj h2 hj hh h3) hno
  .exact h3
 refine⟨rd,λv hv v1 v2 v3=>?_,λv hv v2=>?_,λq hq fr hf hh=>?_⟩
 .have h3:=N.lv.c.t3q v hv v1;rw[v2,v3,(W.cc h2).sg j hj] at h3;exact absurd h3 hno
 .have h3:=W.top t h1 h2 j hj;rcases N.tm.th v hv with h4|⟨h4,h5⟩
  .omega
  .have:=rd (by omega)
   omega
 .by_cases h3:(r:Int)<(decV fr).r
  .exfalso;have h4:=N.lv.c.sgi.j q hq fr hf (by omega);rw[hh,(W.cc h2).sg j hj] at h4;refine hno (W.down h2 ((decV fr).r.toNat-1-r) ?_);unfold Q3;rw[show((r+((decV fr).r.toNat-1-r):Nat):Int)=(decV fr).r-1 by omega];exact h4
  .omega
theorem Win.wait(W:Win n x0 p T K st u said h a e I){r t:Nat}(h1:a<=t)(h2:t+1<=e)(hno:¬Q3 n p h r (st t)):∀k,k<=1+r->t+1+k<=e->TNs n h r (2+r-k) (st (t+1+k))
 |0,_,_=>by
  have hK:=W.eK;exact TNs.it (W.Y.R t (by omega)) (W.tn h1 (by omega) hno (2+r+1)) (by omega) (by omega)
 |k+1,hk,he=>by
  have hK:=W.eK;have h3:=Win.wait W h1 h2 hno k (by omega) (by omega);have h4:2+r-k=(2+r-(k+1))+1:=by omega
  rw[h4] at h3;exact TNs.it (W.Y.R (t+1+k) (by omega)) h3 (by omega) (by omega)
end
end
section
def NHc(s:za):Prop:=∀e∈s.log,e.m.k=1->e.m.r=(s.round:Int)->s.step≠1/\(s.held=true\/s.most (votesForB 2 (s.round:Int) e.m.s)=false)
structure PV (n h q:Nat) (V:Int) (g:Prop) (I:Nat->Bool) (p:Nat->Int) (i:Nat) (s:za):Prop where
 ok:(V= -1/\q=0)\/h<=s.zfF
 tq:∀t∈s.tims,t.h=(h:Int)->t.r=(q:Int)->(s.time:Int)<t.due
 e1:g->∀j,j<n->∀fr∈s.sg j,(decV fr).k=1->(decV fr).h=(h:Int)->(decV fr).r=(q:Int)->V<=(decV fr).v
 pv:g->s.zfF=h->turnOf p (h+q)=i->V<=s.vr
 np:g->s.zfF=h->∀fr∈s.sg i,(decV fr).k=2->(decV fr).h=(h:Int)->(decV fr).r=(q:Int)->(decV fr).nl=true->∃j fr',j<n/\fr'∈s.sg j/\(decV fr').k=1/\(decV fr').h=(h:Int)/\(decV fr').r=(q:Int)/\s.zgc (decV fr').s=false
 nc:∀fr∈s.sg i,(decV fr).k=3->(decV fr).h=(h:Int)->(decV fr).r=(q:Int)->(decV fr).nl=true->∃j fr',j<8/\I j=true/\fr'∈s.sg j/\(decV fr').k=2/\(decV fr').h=(h:Int)/\(decV fr').r=(q:Int)/\(decV fr').nl=true
 lq:s.zfF=h->s.lr<=V\/(q:Int)<=s.lr
 rq:s.zfF=h->q<=s.round\/(s.round+1=q/\NHc s)
section
variable{n h q i:Nat}{V:Int}{g:Prop}{I:Nat->Bool}{p:Nat->Int}{s z:za}
def zeS(n h q:Nat)(V:Int)(g:Prop)(I:Nat->Bool)(z:za)(fr:zj5):Prop:=
 (g->(decV fr).k=1->V<=(decV fr).v)/\(g->(decV fr).k=2->(decV fr).nl=true->∃j fr',j<n/\fr'∈z.sg j/\(decV fr').k=1/\(decV fr').h=(h:Int)/\(decV fr').r=(q:Int)/\z.zgc (decV fr').s=false)/\((decV fr).k=3->(decV fr).nl=true->∃j fr',j<8/\I j=true/\fr'∈z.sg j/\(decV fr').k=2/\(decV fr').h=(h:Int)/\(decV fr').r=(q:Int)/\(decV fr').nl=true)
theorem PV.step(hi:i<n)(H:PV n h q V g I p i s)(htm:z.time=s.time)(ht:∀t∈z.tims,t∈s.tims\/(s.time:Int)<t.due)(su:SgLe s.sg z.sg)(so:SgO i s z)(hh:z.zfF=s.zfF)(hx:z.x=s.x)(hvr:s.vr<=z.vr)(hlr:z.lr=s.lr\/(s.zfF=h->(q:Int)<=z.lr))(hrq:s.zfF=h->q<=z.round\/(z.round+1=q/\NHc z))
 (hnew:∀fr∈z.sg i,fr∈s.sg i\/((decV fr).h=(s.zfF:Int)/\(s.zfF=h->(decV fr).r=(q:Int)->zeS n h q V g I z fr))):PV n h q V g I p i z:=by
 have gd:∀t,z.zgc t=s.zgc t:=λt=>by unfold za.zgc;rw[hx]
 refine⟨by rw[hh];exact H.ok,λt a b c=>?_,λhg j hj fr hf a b c=>?_,λhg a b=>Int.le_trans (H.pv hg (by rw[<-hh];exact a) b) hvr,λhg a fr hf b c d e=>?_,λfr hf b c d e=>?_,λa=>?_,λa=>hrq (by rw[<-hh];exact a)⟩
 .rw [htm];rcases ht t a with h1|h1
  .exact H.tq t h1 b c
  exact h1
 .by_cases e:j=i
  .subst e;rcases hnew fr hf with h1|⟨h1,h2⟩
   .exact H.e1 hg j hj fr h1 a b c
   exact(h2 (by omega) c).1 hg a
  rw[so j e] at hf;exact H.e1 hg j hj fr hf a b c
 .rw [hh] at a;rcases hnew fr hf with h1|⟨h1,h2⟩
  .obtain ⟨j,fr',a1,a2,a3,a4,a5,a6⟩:=H.np hg a fr h1 b c d e
   exact⟨j,fr',a1,su _ _ a2,a3,a4,a5,by rw[gd];exact a6⟩
  exact(h2 a d).2.1 hg b e
 .rcases hnew fr hf with h1|⟨h1,h2⟩
  .obtain ⟨j,fr',a1,a2,a3,a4⟩:=H.nc fr h1 b c d e
   exact⟨j,fr',a1,a2,su _ _ a3,a4⟩
  exact(h2 (by omega) d).2.2 b e
 rw[hh] at a;rcases hlr with h1|h1
 .rw [h1];exact H.lq a
 exact zj1 (h1 a)
theorem PV.others(hi:i<n)(H:PV n h q V g I p i s){sg':Nat->List zj5}(su:SgLe s.sg sg')(so:sg' i=s.sg i)(he:g->∀j,j<n->∀fr∈sg' j,(decV fr).k=1->(decV fr).h=(h:Int)->(decV fr).r=(q:Int)->V<=(decV fr).v):PV n h q V g I p i { s with sg:=sg' }:=by
 refine { H with e1:=he,np:=λhg a fr hf b c d e=>?_,nc:=λfr hf b c d e=>?_ }
 .have aa:fr∈sg' i:=hf;rw[so] at aa;obtain⟨j,fr',a1,a2,a3⟩:=H.np hg a fr aa b c d e;exact⟨j,fr',a1,su _ _ a2,a3⟩
 have aa:fr∈sg' i:=hf;rw[so] at aa;obtain⟨j,fr',a1,a2,a3,a4⟩:=H.nc fr aa b c d e;exact⟨j,fr',a1,a2,su _ _ a3,a4⟩
theorem XI(s:za)(i:Nat)(k v:Int)(nl:Bool)(t:zj5)(st:Nat):∀fr∈((s.zfI i k v nl t).zfO st).sg i,fr∈s.sg i\/decV fr=s.msg i k v nl t:=λfr hf=>by
 rcases ZU s i k v nl t i fr hf with e|⟨-,-,-,e⟩
 .exact zj0 e
 .exact zj1 e
theorem YB(s:za)(i r:Nat):∀fr∈(s.zfH i r).sg i,fr∈s.sg i\/(s.prop r=i/\(decV fr).k=1/\(decV fr).h=(s.zfF:Int)/\(decV fr).r=(r:Int)/\(decV fr).v=s.vr):=λfr hf=>by
 unfold za.zfH at hf;split at hf
 .rename_i hp;rcases ZU (s.zfL r 1) i _ _ _ _ i fr hf with e|⟨-,-,-,e⟩
  .exact zj0 e
  .rw [e];exact zj1 ⟨hp,rfl,rfl,rfl,rfl⟩
 .exact zj0 hf
theorem zcG(s:za)(i:Nat)(k v:Int)(nl:Bool)(t:zj5):(s.zfI i k v nl t).log=s.log\/(s.zfI i k v nl t).log=s.log++[⟨s.msg i k v nl t,s.enc i k v nl t,true⟩]:=by
 unfold za.zfI;split
 .exact zj0 rfl
 split
 .exact zj1 rfl
 exact zj0 rfl
theorem zc8{s z:za}{f:zl->Bool}{e:zl}(hx:z.x=s.x)(hl:z.log=s.log\/z.log=s.log++[e])(he:f e=false):z.most f=s.most f:=by
 unfold za.most;rw[hx];rcases hl with h|h
 .rw [h]
 have:sendB f z.log=sendB f s.log:=by
  funext k;unfold sendB;rw[h,List.any_append];simp[he]
 rw[this]
theorem NHc.zgg{k:Int}{nl:Bool}{t:zj5}{st:Nat}(H:NHc s)(hk:k≠1)(hk2:k≠2\/nl=true)(hst:s.step=1\/st≠1)(h2:st≠1):NHc ((s.zfI i k 0 nl t).zfO st):=λe he a b=>by
 obtain⟨-,k2,-,k4,-,-,-,k8,-⟩:=zq s i k 0 nl t;have hl:=zcG s i k 0 nl t;have b':e.m.r=(s.round:Int):=by rw[<-k2];exact b
 have ad:e∈s.log:=by
  have aa:e∈(s.zfI i k 0 nl t).log:=he;rcases hl with h1|h1
  .rw [h1] at aa;exact aa
  .rw [h1,zjU,zjW] at aa;rcases aa with h3|h3
   .exact h3
   .rw [h3] at a;exact absurd a hk
 obtain⟨h3,h4⟩:=H e ad a b';refine⟨h2,?_⟩;show(s.zfI i k 0 nl t).held=true\/((s.zfI i k 0 nl t).zfO st).most (votesForB 2 ((s.zfI i k 0 nl t).round:Int) e.m.s)=false;rw[k4,k2];refine h4.imp id λh5=>?_;rw[zc8 (s:=s) (z:=(s.zfI i k 0 nl t).zfO st) (e:=⟨s.msg i k 0 nl t,s.enc i k 0 nl t,true⟩) k8 hl]
 .exact h5
 .unfold votesForB;rcases hk2 with h6|h6
  .have:decide ((s.msg i k 0 nl t).k=2)=false:=zjR h6
   show(decide ((s.msg i k 0 nl t).k=2)&&_&&_&&_)=false;rw[this];rfl
  .subst h6;show(_&&_&& !true&&_)=false;simp
theorem NHc.same(H:NHc s)(h1:z.log=s.log)(h2:z.round=s.round)(h3:z.step=s.step)(h4:z.held=s.held)(h5:z.x=s.x):NHc z:=by
 unfold NHc za.most;rw[h1,h2,h3,h4,h5];exact H
end
section
variable{n h q i S T:Nat}{x0:Nat->Int}{V:Int}{g:Prop}{I:Nat->Bool}{p:Nat->Int}{s:za}
theorem PV.zgg{s0:za}{k:Int}{nl:Bool}{t:zj5}{st:Nat}(hi:i<n)(H:PV n h q V g I p i s)(h0:s0.time=s.time/\s0.tims=s.tims/\s0.sg=s.sg/\s0.dec=s.dec/\s0.x=s.x/\s0.round=s.round/\s.vr<=s0.vr)(hlr:s0.lr=s.lr\/(s.zfF=h->(q:Int)<=s0.lr))(hrq:s.zfF=h->q<=s.round\/(s.round+1=q/\NHc ((s0.zfI i k 0 nl t).zfO st)))(hnew:s.zfF=h->s.round=q->∀fr,decV fr=s0.msg i k 0 nl t->zeS n h q V g I ((s0.zfI i k 0 nl t).zfO st) fr):PV n h q V g I p i ((s0.zfI i k 0 nl t).zfO st):=by
 obtain⟨a1,a2,a3,a4,a5,a6,a7⟩:=h0;obtain⟨k1,k2,-,-,-,-,-,k8,-,-,k11,k12⟩:=zq s0 i k 0 nl t;obtain⟨l1,l2,-⟩:=kl s0 i k 0 nl t;have eh:s0.zfF=s.zfF:=by unfold za.zfF;rw[a4]
 refine H.step hi (k11.trans a1) (λt' ht=>zj0 ?_) ?_ (λj hj=>?_) ?_ (k8.trans a5) ?_ ?_ (λa=>?_) λfr hf=>?_
 .have aa:t'∈(s0.zfI i k 0 nl t).tims:=ht;rw[k12,a2] at aa;exact aa
 .rw [<-a3];exact jd s0 i k 0 nl t
 .rw [<-a3];exact xJ s0 i k 0 nl t j hj
 .show (s0.zfI i k 0 nl t).dec.length=s.dec.length
  rw[k1,a4]
 .show s.vr<=(s0.zfI i k 0 nl t).vr;rw[l2];exact a7
 .show (s0.zfI i k 0 nl t).lr=s.lr\/(_->_<=(s0.zfI i k 0 nl t).lr)
  rw[l1];exact hlr
 .rcases hrq a with h1|h1
  .refine zj0 ?_;show q<=(s0.zfI i k 0 nl t).round;rw[k2,a6];exact h1
  refine zj1 ⟨?_,h1.2⟩;show(s0.zfI i k 0 nl t).round+1=q;rw[k2,a6];exact h1.1
 rcases XI s0 i k 0 nl t st fr hf with h1|h1
 .rw [a3] at h1;exact zj0 h1
 refine zj1 ⟨by rw[h1,<-eh];rfl,λa b=>hnew a ?_ fr h1⟩;rw[h1] at b;have b':(s0.round:Int)=(q:Int):=b;rw[a6] at b';omega
theorem PV.begin{s0:za}{r:Nat}(hi:i<n)(hx:ki s.x p)(H:PV n h q V g I p i s)(h0:s0.time=s.time/\(∀t∈s0.tims,t∈s.tims)/\s0.sg=s.sg/\s0.dec=s.dec/\s0.x=s.x/\s0.vr=s.vr/\s0.lr=s.lr)(hr:s.zfF=h->q<=r):PV n h q V g I p i (s0.zfH i r):=by
 obtain⟨a1,a2,a3,a4,a5,a6,a7⟩:=h0;obtain⟨k1,k2,-,-,-,-,k7,k8,-⟩:=zF s0 i r;obtain⟨l1,l2,-⟩:=ke s0 i r;have eh:s0.zfF=s.zfF:=by unfold za.zfF;rw[a4]
 refine H.step hi (k8.trans a1) (λt ht=>?_) ?_ (λj hj=>?_) ?_ (k7.trans a5) (by rw[l2,a6];exact Int.le_refl _) (zj0 (l1.trans a7)) (λa=>zj0 (by rw[k2];exact hr a)) λfr hf=>?_
 .rcases yQ s0 i r with⟨_,h1⟩|⟨_,h1⟩
  .rw [h1] at ht;exact zj0 (a2 t ht)
  rw[h1] at ht;rcases zx.1 ht with h2|h2
  .exact zj0 (a2 t h2)
  refine zj1 ?_;rw[h2];show(s.time:Int)<(s0.time:Int)+((3:Nat):Int)+(r:Int);omega
 .rw [<-a3];exact jA s0 i r
 .rw [<-a3];exact vn s0 i r j hj
 .show (s0.zfH i r).dec.length=s.dec.length
  rw[k1,a4]
 rcases YB s0 i r fr hf with h1|⟨h1,h2,h3,h4,h5⟩
 .rw [a3] at h1;exact zj0 h1
 refine zj1 ⟨by rw[h3,eh],λa b=>⟨λhg _=>?_,λ_ hk=>(by omega),λhk=>(by omega)⟩⟩;rw[h5,a6];refine H.pv hg a ?_;rw[<-h1];unfold za.prop;rw[a5,yZ hx,eh,a]
 congr 1
 omega
theorem PV.one(V0:ys n p)(hi:i<n)(I2:yg 2 p I=true)(In:∀j,j<8->I j=true->j<n)(hV: -1<=V)(N:Nd n i x0 p S T s)(H:PV n h q V g I p i s)(ht:(s.zfT (za.zfY i) i).1=true):PV n h q V g I p i (s.zfT (za.zfY i) i).2:=by
 have ai:=N.y.2.vr1;have r0:∀{z:za},z.time=s.time->(∀t∈z.tims,t∈s.tims\/(s.time:Int)<t.due)->z.sg=s.sg->z.zfF=s.zfF->z.x=s.x->s.vr<=z.vr->z.lr=s.lr->(s.zfF=h->q<=z.round\/(z.round+1=q/\NHc z))->PV n h q V g I p i z:=λ{z} b1 b2 b3 b4 b5 b6 b7 b8=>H.step hi b1 b2 (by rw[b3];exact SgLe.refl _) (λj _=>by rw[b3]) b4 b5 b6 (zj0 b7) b8 (λfr hf=>zj0 (by rw[<-b3];exact hf));have novote:∀k:Int,k=3->s.most (votesNoB 2 (s.round:Int))=true->s.zfF=h->s.round=q->∃j fr',j<8/\I j=true/\fr'∈s.sg j/\(decV fr').k=2/\(decV fr').h=(h:Int)/\(decV fr').r=(q:Int)/\(decV fr').nl=true:=λk _ hm hh hr=>by
  unfold za.most at hm;have hd:=N.y.1.dom;have hI:yg 2 s.x I=true:=by rw[kN N.lv.c.pw];exact I2
  obtain⟨j,j8,b1,b2,-⟩:=xG (bad:=λ_=>false) (λi=>(hd i).1) hm hI (by rw[xO];have:=N.y.1.pos;omega);unfold sendB at b1;obtain⟨e,he,h2⟩:=List.any_eq_true.1 b1;obtain⟨h3,h4⟩:=Bool.and_eq_true_iff.1 h2;have E:=N.ni.log e he;have hf:=zjP h4;unfold votesNoB at h3;simp only[Bool.and_eq_true,decide_eq_true_eq] at h3;refine⟨j,e.fr,j8,b2,?_,by rw[E.m];exact h3.1.1,by rw[E.m,E.h,hh],by rw[E.m,h3.1.2,hr],by rw[E.m];exact h3.2⟩;have:=E.mem;rw[hf,Int.toNat_natCast] at this;exact this
 refine zE (C:=PV n h q V g I p i) ht (λe he=>?_) (λ_ r _ hr _=>H.begin hi N.lv.c.pw ⟨rfl,λ_ h=>h,rfl,rfl,rfl,rfl,rfl⟩ λa=>?_) (λ_ _ hs e he hk hr hv=>?_) (λ_ _ hs an e he hk hr hm hg=>?_) (λ_ _ hs hm=>?_) (λ_ _ hs _ _=>?_) λ_ _ _ _=>?_
 .have hh:=yK s i e;have ag:∀fr∈s.sg i,(decV fr).h<=(s.zfF:Int):=λfr hf=>by rcases(N.ni.mine fr hf).pos with a|a<;>omega
  have ah:∀t∈(s.zfR i e).tims,t∈s.tims\/(s.time:Int)<t.due:=λt ht=>by
   unfold za.zfR at ht;rw[zu] at ht;split at ht
   .exact zj0 ht
   rcases yQ ((s.kept e).zfK ((s.kept e).ahead.filter λe'=> !(s.kept e).zfJ e'.m)) i 0 with⟨_,h1⟩|⟨_,h1⟩
   .rw [h1] at ht;exact zj0 ht
   rw[h1] at ht;rcases zx.1 ht with h2|h2
   .exact zj0 h2
   refine zj1 ?_;rw[h2];show(s.time:Int)<(s.time:Int)+((3:Nat):Int)+((0:Nat):Int);omega
  have ad:∀fr∈(s.zfR i e).sg i,fr∈s.sg i\/((decV fr).k=1/\(decV fr).h=((s.zfF+1:Nat):Int)/\(decV fr).v= -1):=λfr hf=>by
   unfold za.zfR at hf;rw[zu] at hf;split at hf
   .exact zj0 hf
   rcases YB ((s.kept e).zfK ((s.kept e).ahead.filter λe'=> !(s.kept e).zfJ e'.m)) i 0 fr hf with h1|⟨-,h2,h3,-,h5⟩
   .exact zj0 h1
   refine zj1 ⟨h2,?_,h5⟩;rw[h3];show((s.kept e).zfF:Int)=_;rw[yb]
  have aj:(s.zfR i e).lr= -1/\(s.zfR i e).vr= -1:=by
   unfold za.zfR;rw[zu];split
   .exact ⟨rfl,rfl⟩
   obtain⟨l1,l2,-⟩:=ke ((s.kept e).zfK ((s.kept e).ahead.filter λe'=> !(s.kept e).zfJ e'.m)) i 0;exact⟨l1,l2⟩
  have su:SgLe s.sg (s.zfR i e).sg:=XE s i e;have so:SgO i s (s.zfR i e):=XF s i e;have aa:(s.zfR i e).zfF=h->V= -1/\q=0:=λa=>H.ok.elim id λb=>(by omega);refine⟨H.ok.imp id λa=>(by omega),λt a b c=>?_,λhg j hj fr hf a b c=>?_,λhg a _=>(by rw[aj.2,(aa a).1];exact Int.le_refl _),λhg a fr hf b c d nl=>?_,λfr hf b c d nl=>?_,λa=>zj0 (by rw[aj.1,(aa a).1];exact Int.le_refl _),λa=>zj0 (by rw[(aa a).2];exact zjG _)⟩
  .rw [Kg];rcases ah t a with h1|h1
   .exact H.tq t h1 b c
   exact h1
  .by_cases ej:j=i
   .subst ej;rcases ad fr hf with h1|⟨-,h2,h3⟩
    .exact H.e1 hg j hj fr h1 a b c
    rw[h3];have:=(aa (by omega)).1;omega
   rw[so j ej] at hf;exact H.e1 hg j hj fr hf a b c
  .rcases ad fr hf with h1|⟨h1,-⟩
   .have:=ag fr h1
    omega
   omega
  rcases ad fr hf with h1|⟨h1,-⟩
  .obtain ⟨j,fr',a1,a2,a3,a4⟩:=H.nc fr h1 b c d nl
   exact⟨j,fr',a1,a2,su _ _ a3,a4⟩
  omega
 .rcases H.rq a with h1|h1<;>omega
 .have af:s.zfF=h->q<=s.round:=λa=>by
   rcases H.rq a with h1|h1
   .exact h1
   exact absurd hs (h1.2 e he hk hr).1
  have E:=N.ni.log e he;by_cases ae:s.zgP e=true
  .rw [zj2 ae];refine H.zgg (s0:=s) hi ⟨rfl,rfl,rfl,rfl,rfl,rfl,Int.le_refl _⟩ (zj0 rfl) (λa=>zj0 (af a)) λa b fr hf=>?_;rw[zeS,hf];exact⟨λ_ hk=>absurd hk (show¬(2:Int)=1 by decide),λ_ _ nl=>absurd nl (by show¬false=true;decide),λhk=>absurd hk (show¬(2:Int)=3 by decide)⟩
  rw[zj3 ae];refine H.zgg (s0:=s) hi ⟨rfl,rfl,rfl,rfl,rfl,rfl,Int.le_refl _⟩ (zj0 rfl) (λa=>zj0 (af a)) λa b fr hf=>?_;rw[zeS,hf];refine⟨λ_ hk=>absurd hk (show¬(2:Int)=1 by decide),λhg _ _=>?_,λhk=>absurd hk (show¬(2:Int)=3 by decide)⟩;have gx:((s.zfI i 2 0 true ⟨#[]⟩).zfO 2).x=s.x:=(zq s i 2 0 true ⟨#[]⟩).2.2.2.2.2.2.2.1;refine⟨e.m.f.toNat,e.fr,E.fn,jd s i 2 0 true _ _ _ E.mem,by rw[E.m];exact hk,by rw[E.m,E.h,a],by rw[E.m,hr,b],?_⟩;have gg:((s.zfI i 2 0 true ⟨#[]⟩).zfO 2).zgc (decV e.fr).s=s.zgc e.m.s:=by unfold za.zgc;rw[gx,E.m]
  rw[gg];cases ao:s.zgc e.m.s with
  |false=>rfl
  |true=>
   exfalso;apply ae;unfold za.zgP;rw[ao,Bool.true_and];have ak:=H.e1 hg e.m.f.toNat E.fn e.fr E.mem (by rw[E.m];exact hk) (by rw[E.m,E.h,a]) (by rw[E.m,hr,b]);rw[E.m] at ak;have al:s.lr<=e.m.v:=by
    rcases H.lq a with h1|h1
    .omega
    have h2:=(N.ni.lk (by omega)).2;omega
   rw[zjQ al];rfl
 .have af:s.zfF=h->q<=s.round:=λa=>by
   rcases H.rq a with h1|h1
   .exact h1
   rcases(h1.2 e he hk hr).2 with h2|h2
   .rw [an] at h2;cases h2
   rw[hm] at h2;cases h2
  by_cases h2:s.step=2
  .rw [zj2 h2];refine H.zgg (s0:=(s.zfZ e.m.s).zf3) hi ⟨rfl,rfl,rfl,rfl,rfl,rfl,ai⟩ (zj1 λa=>(by show(q:Int)<=(s.round:Int);have:=af a;omega)) (λa=>zj0 (af a)) λa b fr hf=>?_;rw[zeS,hf];exact⟨λ_ hk=>absurd hk (show¬(3:Int)=1 by decide),λ_ hk=>absurd hk (show¬(3:Int)=2 by decide),λ_ nl=>absurd nl (by show¬false=true;decide)⟩
  rw[zj3 h2];exact r0 rfl (λ_ h=>zj0 h) rfl rfl rfl ai rfl (λa=>zj0 (af a))
 .refine H.zgg (s0:=s) hi ⟨rfl,rfl,rfl,rfl,rfl,rfl,Int.le_refl _⟩ (zj0 rfl) (λa=>(H.rq a).imp id λb=>⟨b.1,b.2.zgg (by decide) (zj0 (by decide)) (zj1 (by decide)) (by decide)⟩) λa b fr hf=>?_;rw[zeS,hf];refine⟨λ_ hk=>absurd hk (show¬(3:Int)=1 by decide),λ_ hk=>absurd hk (show¬(3:Int)=2 by decide),λ_ _=>?_⟩;obtain⟨j,fr',a1,a2,a3,a4⟩:=novote 3 rfl hm a b;exact⟨j,fr',a1,a2,jd s i 3 0 true _ _ _ a3,a4⟩
 focus
  refine r0 rfl (λt ht=>?_) rfl rfl rfl (Int.le_refl _) rfl (λa=>(H.rq a).imp id λb=>⟨b.1,b.2.same rfl rfl rfl rfl rfl⟩)
 rotate_left;focus
  refine r0 rfl (λt ht=>?_) rfl rfl rfl (Int.le_refl _) rfl (λa=>(H.rq a).imp id λb=>⟨b.1,b.2.same rfl rfl rfl rfl rfl⟩)
 rotate_left;all_goals
  rcases zx.1 ht with h1|h1
  .exact zj0 h1
  .refine zj1 ?_;rw[h1];show(s.time:Int)<(s.time:Int)+((2:Nat):Int)+(s.round:Int);omega
theorem PV.go(V0:ys n p)(hi:i<n)(I2:yg 2 p I=true)(In:∀j,j<8->I j=true->j<n)(hV: -1<=V):∀(f:Nat) (s:za),Nd n i x0 p S T s->PV n h q V g I p i s->PV n h q V g I p i (za.zgn i f s)
 |0,_,_,H=>H
 |f+1,s,N,H=>by
  rw[za.zgn];split
  .rename_i h1;exact PV.go V0 hi I2 In hV f _ (N.one V0 hi h1) (H.one V0 hi I2 In hV N h1)
  .exact H
theorem PV.zgq{u:zU}{l:List zU}(hi:i<n)(N:Nd n i x0 p S T s)(H:PV n h q V g I p i s)(hl:s.tims=u::l)(hd:u.due<=(s.time:Int)):PV n h q V g I p i (s.zfQ.zga i u):=by
 have hm:u∈s.tims:=by rw[hl];exact zjV ..
 have aa:∀t∈s.zfQ.tims,t∈s.tims:=λt ht=>by
  have ad:t∈jN s.tims:=ht;rw[hl] at ad ⊢;exact vS ad
 have Hp:PV n h q V g I p i s.zfQ:=H.step hi rfl (λt ht=>zj0 (aa t ht)) (SgLe.refl _) (λ_ _=>rfl) rfl rfl (Int.le_refl _) (zj0 rfl) (λa=>(H.rq a).imp id λb=>⟨b.1,b.2.same rfl rfl rfl rfl rfl⟩) (λfr hf=>zj0 hf);have notq:u.h=(s.zfF:Int)->u.r=(s.round:Int)->s.zfF=h->s.round≠q:=λa b c e=>by
  have:=H.tq u hm (by omega) (by omega);omega
 refine ye (C:=PV n h q V g I p i) (λa b _ hs=>?_) (λa b _ hs=>?_) (λa b _ _=>PV.begin (s:=s.zfQ) (s0:=s.zfQ) hi N.lv.c.pw Hp ⟨rfl,λ_ h=>h,rfl,rfl,rfl,rfl,rfl⟩ λc=>?_) (λ_=>Hp)
 .refine Hp.zgg (s0:=s.zfQ) hi ⟨rfl,rfl,rfl,rfl,rfl,rfl,Int.le_refl _⟩ (zj0 rfl) (λc=>(Hp.rq c).imp id λd=>⟨d.1,d.2.zgg (by decide) (zj1 rfl) (zj0 hs) (by decide)⟩) (λc d=>absurd d (notq a b c))
 .refine Hp.zgg (s0:=s.zfQ) hi ⟨rfl,rfl,rfl,rfl,rfl,rfl,Int.le_refl _⟩ (zj0 rfl) (λc=>(Hp.rq c).imp id λd=>⟨d.1,d.2.zgg (by decide) (zj0 (by decide)) (zj1 (by decide)) (by decide)⟩) (λc d=>absurd d (notq a b c))
 have:=Hp.rq c;omega
theorem PV.due(V0:ys n p)(hi:i<n)(I2:yg 2 p I=true)(In:∀j,j<8->I j=true->j<n)(hV: -1<=V):∀(f:Nat) (s:za),Nd n i x0 p S T s->PV n h q V g I p i s->PV n h q V g I p i (za.zf0 i f s)
 |0,_,_,H=>H
 |f+1,s,N,H=>by
  rw[za.zf0];split
  .exact H
  .rename_i t l hl;split
   .rename_i hd;have N1:=N.zgq V0 hi hl hd;exact PV.due V0 hi I2 In hV f _ (N1.zgN V0 hi) (PV.go V0 hi I2 In hV 2200 _ N1 (H.zgq hi N hl hd))
   .exact H
theorem PV.tick(V0:ys n p)(hi:i<n)(I2:yg 2 p I=true)(In:∀j,j<8->I j=true->j<n)(hV: -1<=V)(N:Nd n i x0 p S T s)(H:PV n h q V g I p i s)(hno:∀t∈s.tims,t.h=(h:Int)->t.r≠(q:Int)):PV n h q V g I p i (s.zfW i):=by
 have eh:s.zfN.zfF=s.zfF:=by show(s.dec.map _).length=s.dec.length;simp
 have H0:PV n h q V g I p i s.zfN:=⟨by rw[eh];exact H.ok,λt a b c=>absurd c (hno t a b),H.e1,λhg a b=>H.pv hg (by rw[<-eh];exact a) b,λhg a=>H.np hg (by rw[<-eh];exact a),H.nc,λa=>H.lq (by rw[<-eh];exact a),λa=>(H.rq (by rw[<-eh];exact a)).imp id λb=>⟨b.1,b.2.same rfl rfl rfl rfl rfl⟩⟩;have H1:=PV.due V0 hi I2 In hV (s.tims.length+1) s.zfN N.zfN H0;obtain⟨a1,a2,a3,a4,a5,a6,a7,a8,-,-,-,a12,-,-,a15,-,a17⟩:=yw (za.zf0 i (s.tims.length+1) s.zfN);show PV n h q V g I p i (za.zf0 i (s.tims.length+1) s.zfN).again;exact H1.step hi a17 (λt ht=>zj0 (by rw[<-a12];exact ht)) (by rw[a2];exact SgLe.refl _) (λj _=>by rw[a2]) (by unfold za.zfF;rw[a4]) a1 (by rw[a8];exact Int.le_refl _) (zj0 a15) (λa=>(H1.rq a).imp (λb=>by rw[a6];exact b) λb=>⟨by rw[a6];exact b.1,b.2.same a3 a6 a5 a7 a1⟩) (λfr hf=>zj0 (by rw[<-a2];exact hf))
theorem PV.zfX(V0:ys n p)(hi:i<n)(I2:yg 2 p I=true)(In:∀j,j<8->I j=true->j<n)(hV: -1<=V)(N:Nd n i x0 p S T s)(H:PV n h q V g I p i s)(hq:s.zfF=h->q<=s.round)(fr:zj5):PV n h q V g I p i (s.zfM n i fr):=by
 refine zG (C:=PV n h q V g I p i) H (λk hk _=>?_) (λa b c=>PV.go V0 hi I2 In hV 2200 _ (N.take a b c) ?_)
 .obtain ⟨a1,a2,a3,a4,a5,a6,a7,a8,-,-,-,a12,-,-,a15⟩:=yh s k
  exact H.step hi a15 (λt ht=>zj0 (by rw[<-a12];exact ht)) (by rw[a2];exact SgLe.refl _) (λj _=>by rw[a2]) a4 a1 (by rw[a8];exact Int.le_refl _) (zj0 (xl s k hk).2.1) (λa=>zj0 (by rw[a6];exact hq a)) (λfr hf=>zj0 (by rw[<-a2];exact hf))
 unfold za.zf5;split
 .exact H.step hi rfl (λt ht=>zj0 ht) (SgLe.refl _) (λj _=>rfl) rfl rfl (Int.le_refl _) (zj0 rfl) (λa=>zj0 (hq a)) (λfr hf=>zj0 hf)
 exact H.step hi rfl (λt ht=>zj0 ht) (SgLe.refl _) (λj _=>rfl) rfl rfl (Int.le_refl _) (zj0 rfl) (λa=>zj0 (hq a)) (λfr hf=>zj0 hf)
end
end
section
theorem JP{n:Nat}{p:Nat->Int}(V:ys n p):∀k,k<=8->idsTo p k=List.range (min k n)
 |0,_=>by simp[idsTo]
 |k+1,hk=>by
  rw[vW,JP V k (by omega)];rcases Nat.lt_or_ge k n with h|h
  .have:=V.pos k h
   rw[zj2 (by omega),Nat.min_eq_left (by omega),Nat.min_eq_left (by omega),List.range_succ]
  .rw [zj3 (by rw[V.zero k h (by omega)];decide),List.append_nil,Nat.min_eq_right (by omega),Nat.min_eq_right (by omega)]
theorem YS{n:Nat}{p:Nat->Int}(V:ys n p)(h0:0<n)(t:Nat):turnOf p t=t % n:=by
 have h8:=V.n8;have e:idsTo p 8=List.range n:=by rw[JP V 8 (zjA _),Nat.min_eq_right h8]
 unfold turnOf;rw[e,List.length_range,zjK,zjJ (by rw[List.length_range];exact Nat.mod_lt _ h0),List.getElem_range];rfl
section
variable{n h q T:Nat}{V:Int}{g:Prop}{I:Nat->Bool}{x0 p:Nat->Int}
theorem zbd{S k:Nat}{st:Nat->za}{s':za}(C:Cty n x0 p T st)(hpr:g->∀j,j<n->I j=false->turnOf p (h+q)≠j)(H:∀j,j<n->I j=true->PV n h q V g I p j (st j))(hI:∃j,j<n/\I j=true)(hk:k<n){T':Nat}(N':Nd n k x0 p S T' s')(so:SgO k (st k) s')(su:SgLe (st k).sg s'.sg)(hk':I k=true->PV n h q V g I p k s'):∀j,j<n->I j=true->PV n h q V g I p j (updS st k s' j):=λj hj hIj=>by
 by_cases e:j=k
 .subst e;rw[zz];exact hk' hIj
 .rw [zw e];have e2:=(C.sg j hj).trans (C.sg k hk).symm;refine(H j hj hIj).others hj (by rw[e2];exact su) (by rw[so j e,e2]) λhg j' hj' fr hf a b c=>?_;cases hIk:I k with
  |true=>exact(hk' hIk).e1 hg j' hj' fr hf a b c
  |false=>
   have h1:=N'.lv.c.sgi.pp j' hj' fr hf a;rw[b,c,Int.toNat_natCast,Int.toNat_natCast] at h1;have h2:j'≠k:=λe3=>hpr hg k hk hIk (by rw[h1,e3]);rw[so j' h2,<-e2] at hf;exact(H j hj hIj).e1 hg j' hj' fr hf a b c
theorem It.pv{st u st':Nat->za}{said:List zj5}(J:It n x0 p T st u st' said)(I2:yg 2 p I=true)(In:∀j,j<8->I j=true->j<n)(hV: -1<=V)(hpr:g->∀j,j<n->I j=false->turnOf p (h+q)≠j)
 (H:∀j,j<n->I j=true->PV n h q V g I p j (st j)/\∀t∈(st j).tims,t.h=(h:Int)->t.r≠(q:Int)) (hq:∀j,j<n->I j=true->(u j).zfF=h->q<=(u j).round):∀j,j<n->I j=true->PV n h q V g I p j (st' j):=by
 have hI:∃j,j<n/\I j=true:=by
  obtain⟨j,h1,h2⟩:=jP J.c.c.zhk I2;exact⟨j,In j h1 h2,h2⟩
 have V0:=J.c.c.V;have hu:=J.tinv (λk s=>∀j,j<n->I j=true->PV n h q V g I p j (s j)/\(k<=j->∀t∈(s j).tims,t.h=(h:Int)->t.r≠(q:Int))) (λs k hk C H j hj aa=>⟨?_,λhkj=>?_⟩) (λj hj aa=>⟨(H j hj aa).1,λ_=>(H j hj aa).2⟩)
 .have ae:=J.inv (λs=>∀j,j<n->I j=true->PV n h q V g I p j (s j)/\((s j).zfF=h->q<=(s j).round)) (λs k fr hk _ C H j hj aa=>⟨?_,?_⟩) (λs k hk C H j hj aa=>⟨?_,?_⟩) (λj hj aa=>⟨(hu j hj aa).1,hq j hj aa⟩)
  .exact λj hj aa=>(ae j hj aa).1
  .exact zbd C.c hpr (λj hj aa=>(H j hj aa).1) hI hk ((C.c.nd k hk).zfX C.c.V hk (C.c.q k hk) fr).1 (ya (s k) n k fr) (yE (s k) n k fr) (λad=>(H k hk ad).1.zfX C.c.V hk I2 In hV (C.c.nd k hk) (H k hk ad).2 fr) j hj aa
  .by_cases e:j=k
   .subst e;rw[zz];intro a;have h1:=(xq C.c.V hj (C.c.nd j hj) fr).1.2;rcases(H j hj aa).1.ok with h2|h2
    .rw [h2.2];exact zjG _
    have:=(H j hj aa).2 (by omega);omega
   rw[zw e];exact(H j hj aa).2
  .exact zbd C.c hpr (λj hj aa=>(H j hj aa).1) hI hk (C.c.nd k hk).sent (yy rfl) (SgLe.refl _) (λad=>(H k hk ad).1.step hk rfl (λt ht=>zj0 ht) (SgLe.refl _) (λ_ _=>rfl) rfl rfl (Int.le_refl _) (zj0 rfl) (λa=>zj0 ((H k hk ad).2 a)) (λfr hf=>zj0 hf)) j hj aa
  by_cases e:j=k
  .subst e;rw[zz];exact(H j hj aa).2
  rw[zw e];exact(H j hj aa).2
 .exact zbd C.c hpr (λj hj aa=>(H j hj aa).1) hI hk ((C.c.nd k hk).tick C.c.V hk (C.c.q k hk)).1 (kU (s k) k) (kT (s k) k) (λad=>(H k hk ad).1.tick C.c.V hk I2 In hV (C.c.nd k hk) ((H k hk ad).2 (zjA _))) j hj aa
 rw[zw (by omega)];exact(H j hj aa).2 (by omega)
end
theorem KI{n T h q G:Nat}{V:Int}{x0 p:Nat->Int}{st:Nat->za}{I:Nat->Bool}(C:Cty n x0 p T st)(H:PGs n x0 p st)(I2:yg 2 p I=true)(In:∀j,j<8->I j=true->j<n)(h12:h<12)(hat:∀j,j<n->I j=true->(st j).zfF=h)(hr:∀j,j<n->I j=true->(st j).round=q)(inf:∀j,j<n->I j=true->Zo n (st j))(P:∀j,j<n->I j=true->PV n h q V True I p j (st j))(hG:G<n)(hIG:I G=true)(hp:turnOf p (h+q)=G):False:=by
 obtain⟨pf,p1,-,p2,p3,p4⟩:=(C.nd G hG).lv.prr (by rw[hat G hG hIG];exact h12) (by rw[hat G hG hIG,hr G hG hIG];exact hp);rw[hat G hG hIG] at p3;rw[hr G hG hIG] at p4;have sgj:∀j,j<n->(st j).sg=(st G).sg:=λj hj=>(C.sg j hj).trans (C.sg G hG).symm;have prop1:∀i fr,i<n->fr∈(st G).sg i->(decV fr).k=1->(decV fr).h=(h:Int)->(decV fr).r=(q:Int)->fr=pf:=λi fr hi hf a1 a2 a3=>by
  have h3:=(C.nd G hG).lv.c.sgi.pp i hi fr hf a1;rw[a2,a3,Int.toNat_natCast,Int.toNat_natCast,hp] at h3;subst h3;exact(C.nd _ hG).lv.c.sgi.one1 _ hG fr hf pf p1 a1 p2 (by rw[a2,p3]) (by rw[a3,p4])
 have two:∀j,j<n->I j=true->∃fr∈(st G).sg j,zM fr=true/\(decV fr).k=2/\(decV fr).h=(h:Int)/\(decV fr).r=(q:Int)/\(decV fr).nl=false/\(decV fr).s=(decV pf).s:=λj hj aa=>by
  have N:=C.nd j hj;have F:=inf j hj aa;have hs:=Zo.zgR C H hj F hG (by rw[sgj j hj];exact p1) p2 (by rw[hat j hj aa];exact p3) (by rw[hr j hj aa];exact p4);have hs1:=N.tm.st (by rw[hat j hj aa];exact h12);obtain⟨fr,f1,f2,f3,f4,f5⟩:=N.lv.c.st2 (by rw[hat j hj aa];exact h12) (by omega);rw[hat j hj aa] at f4;rw[hr j hj aa] at f5;have ae:(decV fr).nl=false:=by
   cases hn:(decV fr).nl with
   |false=>rfl
   |true=>
    exfalso;obtain⟨i,fr',i1,i2,i3,i4,i5,i6⟩:=(P j hj aa).np trivial (hat j hj aa) fr f1 f3 f4 f5 hn;rw[PGs.zgc C H hj i1 i2 i3 (by rw[hat j hj aa];exact i4)] at i6;cases i6
  obtain⟨i,fr',i1,i2,i3,i4,i5,i6,-⟩:=N.lv.c.sgi.pv j hj fr f1 f3 ae;rw[sgj j hj] at f1 i2;exact⟨fr,f1,f2,f3,f4,f5,ae,by rw[<-i6,prop1 i fr' i1 i2 i3 (by rw[i4,f4]) (by rw[i5,f5])]⟩
 have q2':∀j,j<n->I j=true->(st j).most (votesForB 2 (q:Int) (decV pf).s)=true:=λj hj aa=>by
  refine(inf j hj aa).most (C.nd j hj) I2 λi i8 ad=>⟨In i i8 ad,?_⟩;obtain⟨fr,f1,-,f3,f4,f5,f6,f7⟩:=two i (In i i8 ad) ad;exact⟨fr,by rw[sgj j hj];exact f1,by rw[hat j hj aa];exact f4,λx hx=>by unfold votesForB;rw[hx,f3,f5,f6,f7];simp⟩
 have three:∀j,j<n->I j=true->∃fr∈(st G).sg j,zM fr=true/\(decV fr).k=3/\(decV fr).h=(h:Int)/\(decV fr).r=(q:Int)/\(decV fr).nl=false/\(decV fr).s=(decV pf).s:=λj hj aa=>by
  have N:=C.nd j hj;have F:=inf j hj aa;have hd:=Zo.held C H hj F hG (by rw[sgj j hj];exact p1) p2 (by rw[hat j hj aa];exact p3) (by rw[hr j hj aa];exact p4) (by rw[hr j hj aa];exact q2' j hj aa);have hs:=N.lv.hs hd;obtain⟨fr,f1,f2,f3,f4,f5⟩:=N.lv.c.st3 (by rw[hat j hj aa];exact h12) (by omega);rw[hat j hj aa] at f4;rw[hr j hj aa] at f5;have ae:(decV fr).nl=false:=by
   cases hn:(decV fr).nl with
   |false=>rfl
   |true=>
    exfalso;obtain⟨i,fr',i1,i2,i3,i4,i5,i6,i7⟩:=(P j hj aa).nc fr f1 f3 f4 f5 hn;have hi:=In i i1 i2;obtain⟨f',g1,-,g3,g4,g5,g6,-⟩:=two i hi i2;rw[sgj j hj] at i3;have e1:=(C.nd i hi).ni.one f' (by rw[sgj i hi];exact g1) fr' (by rw[sgj i hi];exact i3) (by omega) (by rw[g3,i4]) (by rw[g4,i5]) (by rw[g5,i6]);rw[e1,i7] at g6;cases g6
  have hq:=N.ni.pc fr f1 f3 ae;obtain⟨b,hb,hv⟩:=hq;have al:Dom (regs x0 ((st j).blocks.take (decV fr).h.toNat))/\0<sumTo (regs x0 ((st j).blocks.take (decV fr).h.toNat)) 8:=by
   rw[f4,Int.toNat_natCast,<-hat j hj aa,<-gS,zke,<-N.ni.reg];exact⟨N.y.1.dom,N.y.1.pos⟩
  obtain⟨i,i8,an⟩:=jP al.2 hb;obtain⟨ak,f',g1,g2,g3,g4,g5,g6,g7⟩:=hv i i8 an;obtain⟨i',fr',i1,i2,i3,i4,i5,i6,-⟩:=N.lv.c.sgi.pv i ak f' g1 g3 g6;rw[sgj j hj] at f1 i2;exact⟨fr,f1,f2,f3,f4,f5,ae,by rw[<-g7,<-i6,prop1 i' fr' i1 i2 i3 (by rw[i4,g4,f4]) (by rw[i5,g5,f5])]⟩
 have N:=C.nd G hG;have F:=inf G hG hIG;have q3:(st G).most (votesForB 3 (q:Int) (decV pf).s)=true:=by
  refine F.most N I2 λi i8 ad=>⟨In i i8 ad,?_⟩;obtain⟨fr,f1,-,f3,f4,f5,f6,f7⟩:=three i (In i i8 ad) ad;exact⟨fr,f1,by rw[hat G hG hIG];exact f4,λx hx=>by unfold votesForB;rw[hx,f3,f5,f6,f7];simp⟩
 obtain⟨x,hx,ai⟩:=F G hG pf p1 (by rw[hat G hG hIG];exact p3);have E:=N.ni.log x hx;have hm:decV pf=x.m:=by rw[<-ai];exact E.m
 have af:=PGs.zgc C H hG hG p1 p2 (by rw[hat G hG hIG];exact p3);have aj:=N.y.1.rnd;rw[hr G hG hIG] at aj;have ah:=(C.q G hG).q1;unfold za.zgr at ah;have ag:=List.findSome?_eq_none_iff.1 ah q (List.mem_range.2 (by omega));have h9:=xN ag x hx (by rw[<-hm];exact p2) (by rw[<-hm];exact p4);rw[<-hm] at h9;rw[q3,af] at h9;cases h9
section
variable{n T K h a e:Nat}{x0 p:Nat->Int}{st u:Nat->Nat->za}{said:Nat->List zj5}{I:Nat->Bool}
theorem Win.lock(W:Win n x0 p T K st u said h a e I){t r i:Nat}(h1:a<=t)(h2:t<=e)(hr:∀j,j<n->I j=true->(st t j).round=r)(hi:i<n)(hIi:I i=true)(hl:(st t i).lr=(r:Int)):∀j,j<n->I j=true->(st t j).vr=(r:Int):=λj hj hIj=>by
 have C:=W.cc h2;have Ni:=C.nd i hi;have Nj:=C.nd j hj;have hhi:=W.at_ t h1 h2 i hi hIi;have hhj:=W.at_ t h1 h2 j hj hIj;obtain⟨q1,-⟩:=Ni.ni.lk (by omega);have q2:=q1.same Ni.lv.c.pw;rw[hl,hhi,C.sg i hi,<-C.sg j hj] at q2;obtain⟨b,hb,hv⟩:=id q2;obtain⟨q,q8,hbq⟩:=jP C.zhk hb;obtain⟨hqn,fr,f1,f2,f3,f4,f5,f6,f7⟩:=hv q q8 hbq;obtain⟨q',fr',g1,g2,g3,g4,g5,g6,-⟩:=Nj.lv.c.sgi.pv q hqn fr f1 f3 f6;have F:=W.inf t h1 h2 j hj hIj;have e1:=hr j hj hIj;have hm:(st t j).most (votesForB 2 ((st t j).round:Int) (decV fr').s)=true:=by
  rw[e1,g6,f7];refine F.quo Nj ?_;rw[hhj];exact q2
 have h3:=Zo.held C (W.gg h2) hj F g1 g2 g3 (by rw[g4,f4,hhj]) (by rw[g5,f5,e1]) hm;rw[Nj.lv.c.hd h3,e1]
def Gd(st:Nat->za)(n:Nat)(I:Nat->Bool)(G:Nat):Prop:=∀i,i<n->I i=true->(st i).lr<=(st G).vr
theorem lr2{st u st':Nat->za}{said:List zj5}(J:It n x0 p T st u st' said){j:Nat}(hj:j<n):LR (st j) (st' j):=(J.lr hj).1.trans (J.lr hj).2
theorem Win.zhV(W:Win n x0 p T K st u said h a e I){t i:Nat}(h2:t<=e)(hi:i<n):(st t i).lr<=((st t i).round:Int):=Int.le_trans (W.gg h2 i hi).lv ((W.cc h2).nd i hi).y.2.vr1
theorem Win.ziN(W:Win n x0 p T K st u said h a e I){t r G:Nat}(h1:a<=t)(h2:t+1<=e)(hr:∀j,j<n->I j=true->(st t j).round=r)(hr':∀j,j<n->I j=true->(st (t+1) j).round=r)(hG:G<n)(hIG:I G=true)(g:Gd (st t) n I G):Gd (st (t+1)) n I G:=λi hi hIi=>by
 have J:=W.Y.R t (by have:=W.eK;omega);have e1:=W.at_ t h1 (by omega) i hi hIi;have e2:=W.at_ (t+1) (by omega) h2 i hi hIi;have e3:=W.at_ t h1 (by omega) G hG hIG;have e4:=W.at_ (t+1) (by omega) h2 G hG hIG;have l1:=((lr2 J hi).2 (by omega)).1;have l2:=((lr2 J hG).2 (by omega)).2;have l3:=g i hi hIi;rcases l1 with l1|l1
 .omega
 .have l4:=W.zhV h2 hi;rw[hr' i hi hIi] at l4;rw[hr i hi hIi] at l1;have l5:(st (t+1) i).lr=(r:Int):=by omega
  rw[W.lock (by omega) h2 hr' hi hIi l5 G hG hIG];omega
theorem Win.nhc(W:Win n x0 p T K st u said h a e I){t j:Nat}(h1:a<=t)(h2:t<=e)(hj:j<n)(hIj:I j=true):NHc (st t j):=λx hx hk hr=>by
 have C:=W.cc h2;have N:=C.nd j hj;have E:=N.ni.log x hx;have F:=W.inf t h1 h2 j hj hIj;have b1:(decV x.fr).k=1:=by rw[E.m];exact hk
 have b2:(decV x.fr).h=((st t j).zfF:Int):=by rw[E.m];exact E.h
 have b3:(decV x.fr).r=((st t j).round:Int):=by rw[E.m];exact hr
 refine⟨Zo.zgR C (W.gg h2) hj F E.fn E.mem b1 b2 b3,?_⟩;cases hm:(st t j).most (votesForB 2 ((st t j).round:Int) x.m.s) with
 |false=>exact zj1 rfl
 |true=>exact zj0 (Zo.held C (W.gg h2) hj F E.fn E.mem b1 b2 b3 (by rw[E.m];exact hm))
theorem Win.turn(W:Win n x0 p T K st u said h a e I){t r:Nat}{V:Int}{g:Prop}(h1:a<=t)(h2:t+1<=e)(hr:∀j,j<n->I j=true->(st t j).round=r)(htn:TNs n h r 1 (st t))(hu:∀j,j<n->I j=true->r<(u t j).round)(hV: -1<=V)(hl:∀i,i<n->I i=true->(st t i).lr<=V)(hg:g->∃pr,pr<n/\I pr=true/\turnOf p (h+(r+1))=pr/\V<=(st t pr).vr):∀j,j<n->I j=true->PV n h (r+1) V g I p j (st (t+1) j):=by
 have C:=W.cc (show t<=e by omega);have nofr:∀j,j<n->∀i,i<n->∀fr∈(st t j).sg i,(decV fr).h=(h:Int)->(decV fr).r≠((r+1:Nat):Int):=λj hj i hi fr hf b c=>by
  have:=(htn j hj).fr i hi fr hf b;omega
 refine It.pv (W.Y.R t (by have:=W.eK;omega)) W.I2 W.In hV (λg' j hj aa e1=>?_) (λj hj aa=>?_) (λj hj aa _=>hu j hj aa)
 .obtain ⟨pr,-,a2,a3,-⟩:=hg g'
  rw[a3] at e1;rw[e1,aa] at a2;cases a2
 have hh:=W.at_ t h1 (by omega) j hj aa;have not:∀v∈(st t j).tims,v.h=(h:Int)->v.r≠((r+1:Nat):Int):=λv hv b c=>by
  have:=(htn j hj).th v hv b;omega
 refine⟨⟨zj1 (by omega),λv hv b c=>absurd c (not v hv b),λ_ i hi fr hf _ b c=>absurd c (nofr j hj i hi fr hf b),λg' _ b=>?_,λ_ _ fr hf _ b c=>absurd c (nofr j hj j hj fr hf b),λfr hf _ b c=>absurd c (nofr j hj j hj fr hf b),λ_=>zj0 (hl j hj aa),λ_=>zj1 ⟨by rw[hr j hj aa],W.nhc h1 (by omega) hj aa⟩⟩,not⟩;obtain⟨pr,a1,a2,a3,a4⟩:=hg g';rw[a3] at b;rw[<-b];exact a4
theorem Win.zjj(W:Win n x0 p T K st u said h a e I){t r G:Nat}(h1:a<=t)(h2:t+1<=e)(hr:∀j,j<n->I j=true->(st t j).round=r)(hr':∀j,j<n->I j=true->(st (t+1) j).round=r+1)(htn:TNs n h r 1 (st t))(hu:∀j,j<n->I j=true->r<(u t j).round)(hG:G<n)(hIG:I G=true)(g:Gd (st t) n I G):Gd (st (t+1)) n I G:=λi hi hIi=>by
 have J:=W.Y.R t (by have:=W.eK;omega);have e3:=W.at_ t h1 (by omega) G hG hIG;have e4:=W.at_ (t+1) (by omega) h2 G hG hIG;have l2:=((lr2 J hG).2 (by omega)).2;have P:=W.turn (g:=False) h1 h2 hr htn hu ((W.cc (show t<=e by omega)).nd G hG).y.2.vr0 g (λf=>f.elim) i hi hIi;rcases P.lq (W.at_ (t+1) (by omega) h2 i hi hIi) with l1|l1
 .omega
 .have l4:=W.zhV h2 hi;rw[hr' i hi hIi] at l4;have l5:(st (t+1) i).lr=((r+1:Nat):Int):=by omega
  rw[W.lock (by omega) h2 hr' hi hIi l5 G hG hIG];omega
theorem Win.decide(W:Win n x0 p T K st u said h a e I){t r G:Nat}(h1:a<=t)(h2:t+1<=e)(hr:∀j,j<n->I j=true->(st t j).round=r)(hr':∀j,j<n->I j=true->(st (t+1) j).round=r+1)(htn:TNs n h r 1 (st t))(hu:∀j,j<n->I j=true->r<(u t j).round)(hG:G<n)(hIG:I G=true)(g:Gd (st t) n I G)(hp:turnOf p (h+(r+1))=G):False:=by
 have P:=W.turn (g:=True) h1 h2 hr htn hu ((W.cc (show t<=e by omega)).nd G hG).y.2.vr0 g (λ_=>⟨G,hG,hIG,hp,Int.le_refl _⟩);exact KI (W.cc h2) (W.gg h2) W.I2 W.In W.h12 (λj hj aa=>W.at_ (t+1) (by omega) h2 j hj aa) hr' (λj hj aa=>W.inf (t+1) (by omega) h2 j hj aa) P hG hIG hp

import Derived.Test.YtcfjhbcpjpgodaaGreatDoorJ26
import Derived.Test.YtcfjhbcpjpgodaaGreatDoorJ28
namespace Go.Proofs.YtcfjhbcpjpgodaaGreatDoor
open Go.RowKit
set_option maxRecDepth 100000
set_option maxHeartbeats 0
set_option linter.all false
section
open Proofs.Tryz
variable{w:World}{e n:Nat}{xs:List Value}
theorem Yt{base c:Nat}{p:Option Addr}(h:w.ownsRow base e 1 (.slice p n c) n xs):ga p n c:=by
 rcases h.2 with⟨e,h0⟩|⟨b,cap,cur,e,_⟩
 .cases e;exact zgR ⟨rfl,rfl,rfl⟩
 cases e;exact zgS ⟨b,0,rfl⟩
theorem xu{b b' z:Nat}{v:Value}(h:w.ownsRow b e z v n xs)(hb:b'<=b):w.ownsRow b' e z v n xs:=by
 rcases h with⟨h1,h2|⟨g,cap,cur,h2,h3,h4⟩⟩
 .exact ⟨h1,zgR h2⟩
 exact⟨h1,zgS ⟨g,cap,cur,h2,zgu hb h3,h4⟩⟩
theorem VH(L:List zgW):((List.range L.length).map λi=>Value.string (L.getD i zgV))=L.map .string:=by
 apply List.ext_getElem
 .simp
 intro i h1 h2;have hi:i<L.length:=by simpa using h1
 simp[List.getD_eq_getElem?_getD,hi]
def certTo(fits:zt->Bool)(l:List zt):Nat->List zgW
 |0=>[]
 |k+1=>certTo fits l k++zF (λe=>decide (e.m.f=(k:Int))&&fits e) l
theorem xF(fits:zt->Bool)(l:List zt):∀k,(certTo fits l k).length<=k*l.length
 |0=>by simp[certTo]
 |k+1=>by
  have h1:=xF fits l k;have h2:=qh (λe=>decide (e.m.f=(k:Int))&&fits e) l;rw[certTo,zgE,Nat.add_mul,Nat.one_mul];omega
theorem Xq(g:Nat)(lb:Array Value)(fits:zt->Bool)(b1 b2:Nat)(k:Int)(L:List zt)(w:World)(eg:kR g)(c1:w.cell? (aA b1 0)=some (iA k))(c2:w.cell? (aA b2 0)=some (.func (.func g) #[] lb))(hf:FitsAt g lb fits L w):
 FitsAt 201 #[pA b1 0,pA b2 0] (λe=>decide (e.m.f=k)&&fits e) L w:=by
 intro W e he hW;have aa:=zc (λW' ae=>hf W' e he ae);have eg':∀(args:Array Value) (w:World),(callFunc g args).run prog w=.ok (.enter g args) w:=eg;obtain⟨⟨K,H,R,f,v,nl,t⟩,fr,own⟩:=e;show Calls prog 201 #[.agg #[iA K,iA H,iA R,iA f,iA v,bA nl,sA t,sA fr,bA own],pA b1 0,pA b2 0] W _;have hc:cN (W.alloc (.cells #[iA K,iA H,iA R,iA f,iA v,bA nl,sA t,sA fr,bA own] 164)) W 3 (iA f):=zgs _ W.heap.size 3 _ _ _ (zgr W _);have hc1:cE (W.alloc (.cells #[iA K,iA H,iA R,iA f,iA v,bA nl,sA t,sA fr,bA own] 164)) b1 0 (iA k):=cell?_alloc_old _ (Ext.cell c1 (Ext.of hW));have hc2:cE (W.alloc (.cells #[iA K,iA H,iA R,iA f,iA v,bA nl,sA t,sA fr,bA own] 164)) b2 0 (.func (.func g) #[] lb):=cell?_alloc_old _ (Ext.cell c2 (Ext.of hW));have HQ:Hid (cL (W.alloc (.cells #[iA K,iA H,iA R,iA f,iA v,bA nl,sA t,sA fr,bA own] 164)) W.heap.size #[iA K,iA H,iA R,iA f,iA v,bA nl,sA t,sA fr,bA own] 164):=zgr W _;have ab:Hid (BW W (W.alloc (.cells #[iA K,iA H,iA R,iA f,iA v,bA nl,sA t,sA fr,bA own] 164))):=bwA W;have ag:Hid (BW w (W.alloc (.cells #[iA K,iA H,iA R,iA f,iA v,bA nl,sA t,sA fr,bA own] 164))):=hW.trans (ab.o.mono hW.size);clear he hW c1 c2 hf eg;by_cases hid:f=k
 .subst hid;have HC:=zc (aa (W.alloc (.cells #[iA K,iA H,iA R,iA f,iA v,bA nl,sA t,sA fr,bA own] 164)) ag);have q:(f==f)=true:=by simp
  have HE:Hid ((decide (f=f)&&fits ⟨⟨K,H,R,f,v,nl,t⟩,fr,own⟩)=fits ⟨⟨K,H,R,f,v,nl,t⟩,fr,own⟩):=by unfold Hid;simp
  clear aa;go_enter func201,ntmps201;go_wp2_with (first|(refine zg4 rfl 164 _ rfl W.heap.size rfl 164 #[iA K,iA H,iA R,iA f,iA v,bA nl,sA t,sA fr,bA own] (0,0) _ HQ underlying164 rfl Tryz.zc5 ?_)|(go_at_fn g;refine HC.o.mono ?_;rintro e w3 ⟨rfl,ad⟩;have af:=zc ad;clear ad)|fail)
  go_ret;exact⟨zS (by first|rfl|(rw[HE.o])|simp),yV ab.o af.o⟩
 have q:(f==k)=false:=by simpa using hid
 have HE:Hid ((decide (f=k)&&fits ⟨⟨K,H,R,f,v,nl,t⟩,fr,own⟩)=false):=by unfold Hid;simp[hid]
 clear aa;go_enter func201,ntmps201;go_wp2;go_ret;exact⟨zS (by first|exact HE.o.symm|(rw[HE.o])|simp[hid]),ab.o⟩
theorem XQ(g:Nat)(lb:Array Value)(w:World):(store (aA w.heap.size 0) (.func (.func g) #[] lb)).run prog (w.alloc (.cells #[.nilFunc] 183))=.ok () (w.alloc (.cells #[.func (.func g) #[] lb] 183)):=by
 have hc:cN (w.alloc (.cells #[.nilFunc] 183)) w 0 .nilFunc:=zgs _ w.heap.size 0 _ _ _ (zgr w _);have hf:(w.alloc (.cells #[.nilFunc] 183)).frozen? (nA w 0)=false:=by
  unfold World.frozen?;simp only[heap_alloc_new];rfl
 rw[run_store prog _ _ _ _ rfl,hc];simp[hf,World.setCell_alloc_at]
theorem ZT(nb kb cb:Nat)(p:zt)(V:yg)(s:za)(w:World)(hA:NodeAt nb kb cb V s w)(hm:s.log.length<=10000000):
 Calls prog 185 #[pA nb 0,.agg p.cells] w λe w'=>∃v,e=.returned v/\w'.ownsRow w.heap.size 9 1 v (certTo (votesForB 3 p.m.r p.m.s) s.log 8).length ((certTo (votesForB 3 p.m.r p.m.s) s.log 8).map .string)/\BW w w':=by
 obtain⟨i9,aT,aO,aN,aM⟩:=info_parts Tryz.zdz;have hmf:∀(fn:Fn) (first cap:Array Value) (w:World),(Instr.makeFunc fn first cap).run prog w=.ok (.func fn first cap) w:=λ_ _ _ _=>rfl;obtain⟨lp,lc,elv,c37,aR,hle⟩:=hA.logAt;have aQ:nb<w.heap.size:=zj hA.blk;obtain⟨⟨K,H,R,f,v,nl,t⟩,fr,own⟩:=p;show Calls prog 185 #[pA nb 0,.agg #[iA K,iA H,iA R,iA f,iA v,bA nl,sA t,sA fr,bA own]] w λe w'=>∃v,e=.returned v/\w'.ownsRow w.heap.size 9 1 v (certTo (votesForB 3 R t) s.log 8).length ((certTo (votesForB 3 R t) s.log 8).map .string)/\BW w w';have k2:cN (w.alloc (.cells #[iA K,iA H,iA R,iA f,iA v,bA nl,sA t,sA fr,bA own] 164)) w 2 (iA R):=zgs _ w.heap.size 2 _ _ _ (zgr w _);have k6:cN (w.alloc (.cells #[iA K,iA H,iA R,iA f,iA v,bA nl,sA t,sA fr,bA own] 164)) w 6 (sA t):=zgs _ w.heap.size 6 _ _ _ (zgr w _);have HV:=zc (yY 3 R t (w.alloc (.cells #[iA K,iA H,iA R,iA f,iA v,bA nl,sA t,sA fr,bA own] 164)));have bb:Hid (BW w (w.alloc (.cells #[iA K,iA H,iA R,iA f,iA v,bA nl,sA t,sA fr,bA own] 164))):=bwA w;obtain⟨a6,az,HM⟩:=zC hle c37 hm;clear hle c37 hm aR elv hA;go_enter func185,ntmps185;go_wp2_with (first|(go_at_call 151;refine HV.o.mono ?_;rintro e w2 ⟨g,lb,rfl,eg,aj,aG⟩;have aL:Hid (BW w w2):=yV bb aG;have HG:=zc eg;have ax:=zc aj;have aP:=XQ g lb w2;clear eg aj aG)|fail)
 clear aP;obtain⟨w3,ah⟩:=gen (w2.alloc (.cells #[.func (.func g) #[] lb] 183));have al:Hid (BW w w3):=by rw[ah];exact aL.o.alloc aL.o.size _
 have a8:Hid (∀l,FitsAt g lb (votesForB 3 R t) l w3):=by rw[ah];exact λl=>(ax l).later (bwA w2)
 have aW:Hid (w3.cell? (nA w2 0)=some (.func (.func g) #[] lb)):=by rw[ah];exact zgs _ w2.heap.size 0 _ _ _ (zgr w2 _)
 have aB:w3.heap.size=w2.heap.size+1:=by rw[ah];simp
 have aU:=zc aB;clear aB;have aY:=zc ah;clear ah;first|rw[<-aY.o]|skip
 go_loopw [6,7,15] (λv _ kv wr=>∃k:Nat,k<=8/\kv=iA k/\wr.ownsRow w3.heap.size 9 1 v (certTo (votesForB 3 R t) s.log k).length ((certTo (votesForB 3 R t) s.log k).map .string)/\BW w3 wr) (λ_ _ kv _=>8-(intOf kv).toNat)
 case atStart=>exact⟨0,zgv _,rfl,zgQ _ _ _ _,zgq _ _⟩
 obtain⟨k,hk,rfl,hv,hb⟩:=hrel;obtain⟨ad,HB⟩:=ze hv hb;clear hv hb;by_cases ao:k=8
 .subst ao;go_wp2;go_ret;exact⟨_,rfl,xu ad al.o.size,al.o.trans (HB.o.mono al.o.size)⟩
 have hk8:k<8:=by omega
 have aS:(k:Int)<8:=by omega
 obtain⟨w4,ai⟩:=gen (wr.alloc (.cells #[iA k] 3));have aK:Hid (BW wr w4):=by rw[ai];exact bwA wr
 have aV:Hid (w4.cell? (nA wr 0)=some (iA k)):=by rw[ai];exact zgs _ wr.heap.size 0 _ _ _ (zgr wr _)
 have af:Hid (BW w3 w4):=yV HB aK;have ag:Hid (BW w w4):=al.o.trans (af.o.mono al.o.size);have aE:cE w4 nb 37 (.slice lp s.log.length lc):=(ag.o.cell (p:=(aA nb 37)) (by exact aQ)).trans az;have aq:=aE;rw[ai] at aq;have aD:cN w4 w2 0 (.func (.func g) #[] lb):=(af.o.cell (p:=(nA w2 0)) (by show w2.heap.size<w3.heap.size;rw[aU.o];omega)).trans aW.o;have aJ:=zc (YB 201 #[pA wr.heap.size 0,pA w2.heap.size 0] _ s.log lp lc w4 (enters_of func201 (by decide) rfl) ((a6.o.below ag.o).more ag.o.size) (by have:=HM.o;omega) (Xq g lb (votesForB 3 R t) wr.heap.size w2.heap.size (k:Int) s.log w4 HG.o aV.o aD ((a8.o s.log).later af.o)));have aX:=zc ai;have ay:Hid ((certTo (votesForB 3 R t) s.log k).length<=80000000):=by
  have h1:=xF (votesForB 3 R t) s.log k;have h2:k*s.log.length<=8*10000000:=Nat.mul_le_mul (by omega) HM.o;unfold Hid;omega
 have aw:=zc (qh (λe=>decide (e.m.f=(k:Int))&&votesForB 3 R t e) s.log);obtain⟨L0,av⟩:=gen (certTo (votesForB 3 R t) s.log k);obtain⟨L1,au⟩:=gen (zF (λe=>decide (e.m.f=(k:Int))&&votesForB 3 R t e) s.log);rw[<-av] at ad ay;rw[<-au] at aJ aw;have HS:Hid (certTo (votesForB 3 R t) s.log (k+1)=L0++L1):=by rw[av,au];rfl
 clear ai aE aD av au;go_wp2_with fail
 rw[<-aX.o];refine aJ.o.mono ?_;rintro e w5 ⟨v5,rfl,an,aF⟩;obtain⟨p5,c5,rfl,_,aC⟩:=zL an;obtain⟨a1,a7⟩:=ze (Yt an) aC;have ak:Hid (BW wr w5):=yV aK aF;have ae:Hid (BW w3 w5):=yV HB ak;have aH:=zc (gX ad ak);clear an aF aC;go_wp2_with (at_builtin;refine vP _ rfl _ _ 30 rfl w3.heap.size 9 i9 (sA zgV) 16 underlying30 aT aO aN aM rfl _ L0.length _ rfl aH.o p5 L1.length c5 (λi=>L1.getD i zgV) rfl a1.o a7.o (by have:=ay.o;have:=aw.o;have:=HM.o;unfold maxLen;omega) (by have:=ay.o;have:=aw.o;have:=HM.o;omega) ae.o.size ?_;intro v6 w6 ab aa ar;have aZ:=zc ab;have ba:Hid (BW w3 w6):=ae.o.grown aa ae.o.size (λk hk=>(aH.o.lt k hk).1);clear ab aa ar)
 go_roundw
 case rel=>
  refine⟨k+1,by omega,by go_num,?_,ba.o⟩;have h:=aZ.o;rw[VH] at h;rw[HS.o,zgE,List.map_append];exact h
 simp[intOf];omega
end
section
variable{i r h S T:Nat}{s:za}{p:zt}{l:List zt}{e:Int}
def za.kept(s:za)(p:zt):za:={ s with dec:=s.dec++[⟨p.m.s,p.fr,certTo (votesForB 3 p.m.r p.m.s) s.log 8,false⟩],x:=(behindR s.x p.m.s).1,wait:=yu s.wait (pcs p.m.s) }
def za.zdG(s:za)(i:Nat)(p:zt):za:=(s.kept p).zd5 i
def za.zeW(s:za):Option zt:=(List.range 21).findSome? s.zdE
def za.zdm(i:Nat)(s:za):Bool×za:=match s.zeW with|none=>(false,s)|some p=>(true,s.zdG i p)
theorem jP(h:s.zeW=none):za.zdm i s=(false,s):=by unfold za.zdm;rw[h]
theorem xE(h:s.zeW=some p):za.zdm i s=(true,s.zdG i p):=by unfold za.zdm;rw[h]
theorem xX(s:za)(h:¬(za.zdm i s).1=true):za.zdm i s=(false,s):=by
 cases hd:s.zeW with
 |none=>exact jP hd
 |some p=>rw[xE hd] at h;exact absurd rfl h
theorem GS{α:Type}(f:Nat->Option α)(n:Nat)(h:∀q,q<n->f q=none):(List.range n).findSome? f=none:=by
 rw[List.findSome?_eq_none_iff];intro x hx;exact h x (List.mem_range.1 hx)
theorem GR{α:Type}(f:Nat->Option α)(r:Nat)(p:α)(h0:∀q,q<r->f q=none)(h1:f r=some p):∀d,(List.range (r+1+d)).findSome? f=some p
 |0=>by
  rw[Nat.add_zero,List.range_succ,List.findSome?_append,GS f r h0];simp[h1]
 |d+1=>by
  rw[show r+1+(d+1)=(r+1+d)+1 from rfl,List.range_succ,List.findSome?_append,GR f r p h0 h1 d];rfl
theorem ZP(h:∀q,q<=20->s.zdE q=none):s.zeW=none:=GS _ 21 λq hq=>h q (by omega)
theorem QB(hr:r<=20)(h0:∀q,q<r->s.zdE q=none)(h1:s.zdE r=some p):s.zeW=some p:=by
 have:=GR s.zdE r p h0 h1 (20-r);rw[show r+1+(20-r)=21 by omega] at this;exact this
theorem G2(h:s.zeW=some p):∃r,r<=20/\s.zdE r=some p:=by
 obtain⟨r,hr,h1⟩:=List.exists_of_findSome?_eq_some h;exact⟨r,by have:=List.mem_range.1 hr;omega,h1⟩
theorem Qa{r:Int}{fits:zt->Bool}(h:propF l r fits=some p):p∈l/\p.m.k=1/\p.m.r=r/\fits p=true:=by
 have h1:=List.mem_of_find?_eq_some h;have h2:ye r fits p=true:=List.find?_some h;unfold ye at h2;rw[Bool.and_eq_true_iff,Bool.and_eq_true_iff] at h2;exact⟨h1,zgF h2.1.1,zgF h2.1.2,h2.2⟩
def x7(k r f:Int)(e:zt):Bool:= !e.own&&(decide (e.m.k=k)&&decide (e.m.r=r)&&decide (e.m.f=f))
structure qM (h:Nat) (l:List zt):Prop where
 ok:∀e∈l,Kx e
 kk:∀e∈l,1<=e.m.k/\e.m.k<=3
 hh:∀e∈l,e.m.h=(h:Int)/\e.m.h<12
 two:∀k r f:Int,l.countP (x7 k r f)<=2
theorem qM.nil(h:Nat):qM h []:=⟨(λ_ h=>by cases h),(λ_ h=>by cases h),(λ_ h=>by cases h),(λ_ _ _=>by simp)⟩
theorem qM.filter(hl:qM h l)(p:zt->Bool):qM h (l.filter p):=
 ⟨λe he=>hl.ok e ((List.mem_filter.1 he).1),λe he=>hl.kk e ((List.mem_filter.1 he).1),λe he=>hl.hh e ((List.mem_filter.1 he).1),λk r f=>zgu (List.filter_sublist.countP_le) (hl.two k r f)⟩
theorem qM.own(hl:qM h l){e:zt}(ho:e.own=true)(h1:Kx e)(h2:1<=e.m.k/\e.m.k<=3)(h3:e.m.h=(h:Int)/\e.m.h<12):qM h (l++[e]):=by
 refine⟨λx hx=>?_,λx hx=>?_,λx hx=>?_,λk r f=>?_⟩
 .rcases List.mem_append.1 hx with hx|hx
  .exact hl.ok x hx
  rw[List.mem_singleton.1 hx];exact h1
 .rcases List.mem_append.1 hx with hx|hx
  .exact hl.kk x hx
  rw[List.mem_singleton.1 hx];exact h2
 .rcases List.mem_append.1 hx with hx|hx
  .exact hl.hh x hx
  rw[List.mem_singleton.1 hx];exact h3
 rw[List.countP_append];have:List.countP (x7 k r f) [e]=0:=by simp[x7,ho]
 have:=hl.two k r f;omega
theorem qM.more(hl:qM h l){e:zt}(hn:l.countP (x7 e.m.k e.m.r e.m.f)<=1)(h1:Kx e)(h2:1<=e.m.k/\e.m.k<=3)(h3:e.m.h=(h:Int)/\e.m.h<12):qM h (l++[e]):=by
 refine⟨λx hx=>?_,λx hx=>?_,λx hx=>?_,λk r f=>?_⟩
 .rcases List.mem_append.1 hx with hx|hx
  .exact hl.ok x hx
  rw[List.mem_singleton.1 hx];exact h1
 .rcases List.mem_append.1 hx with hx|hx
  .exact hl.kk x hx
  rw[List.mem_singleton.1 hx];exact h2
 .rcases List.mem_append.1 hx with hx|hx
  .exact hl.hh x hx
  rw[List.mem_singleton.1 hx];exact h3
 rw[List.countP_append];by_cases hk:x7 k r f e=true
 .have:List.countP (x7 k r f) [e]<=1:=List.countP_le_length
  unfold x7 at hk;rw[Bool.and_eq_true_iff,Bool.and_eq_true_iff,Bool.and_eq_true_iff] at hk;have e1:=zgF hk.2.1.1;have e2:=zgF hk.2.1.2;have e3:=zgF hk.2.2;rw[e1,e2,e3] at hn;omega
 have:List.countP (x7 k r f) [e]=0:=by simp[hk]
 have:=hl.two k r f;omega
theorem zbw{α:Type}(f:α->Nat)(c:Nat):∀(m:Nat) (l:List α),(∀e∈l,f e<m)->(∀j,j<m->l.countP (λe=>decide (f e=j))<=c)->l.length<=c*m
 |0,l,h,_=>by
  cases l with
  |nil=>simp
  |cons a l=>exact absurd (h a (zgL ..)) (by omega)
 |m+1,l,h,hc=>by
  have h1:=zbw f c m (l.filter λe=> !decide (f e=m)) (λe he=>by
   have h2:=h e ((List.mem_filter.1 he).1);have h3:=(List.mem_filter.1 he).2;have h4:f e≠m:=by simpa using h3
   omega) (λj hj=>zgu (List.filter_sublist.countP_le) (hc j (by omega)))
  have h2:=hc m (by omega);have h3:=List.length_eq_countP_add_countP (λe=>decide (f e=m)) (l:=l);have h4:List.countP (λa=>decide ¬decide (f a=m)=true) l=(l.filter λe=> !decide (f e=m)).length:=by
   rw[List.countP_eq_length_filter]
   congr 1
   apply List.filter_congr;intro x _;simp
  rw[Nat.mul_add,Nat.mul_one];omega
def zco(e:zt):Nat:=(((e.m.k-1)*21+e.m.r)*8+e.m.f).toNat
theorem qM.came(hl:qM h l):(l.filter λe=> !e.own).length<=1008:=by
 have hb:∀e∈l,1<=e.m.k/\e.m.k<=3/\0<=e.m.r/\e.m.r<=20/\0<=e.m.f/\e.m.f<8:=λe he=>⟨(hl.kk e he).1,(hl.kk e he).2,(hl.ok e he).r0,(hl.ok e he).r20,(hl.ok e he).f0,(hl.ok e he).f8⟩;refine zbw zco 2 504 _ (λe he=>?_) λj hj=>?_
 .obtain ⟨h1,h2,h3,h4,h5,h6⟩:=hb e ((List.mem_filter.1 he).1)
  unfold zco;omega
 rw[List.countP_filter];by_cases hx:∃e0,e0∈l/\zco e0=j
 .obtain ⟨e0,ab,aa⟩:=hx
  refine zgu (List.countP_mono_left (λe he hp=>?_)) (hl.two e0.m.k e0.m.r e0.m.f);rw[Bool.and_eq_true_iff] at hp;have hk:=zgF hp.1;obtain⟨a1,a2,a3,a4,a5,a6⟩:=hb e0 ab;obtain⟨b1,b2,b3,b4,b5,b6⟩:=hb e he;unfold zco at hk aa;unfold x7;rw[hp.2,zgG (show e.m.k=e0.m.k by omega),zgG (show e.m.r=e0.m.r by omega),zgG (show e.m.f=e0.m.f by omega)];rfl
 have:List.countP (λa=>decide (zco a=j)&& !a.own) l=0:=by
  rw[List.countP_eq_zero];intro a ha hp;rw[Bool.and_eq_true_iff] at hp;exact hx ⟨a,ha,zgF hp.1⟩
 omega
def QP(l:List zt):Nat:=l.countP λe=>e.own
theorem GA(l:List zt):l.length=QP l+(l.filter λe=> !e.own).length:=by
 unfold QP;rw[List.length_eq_countP_add_countP (λe:zt=>e.own) (l:=l),List.countP_eq_length_filter (p:=λa:zt=>decide ¬a.own=true)]
 congr 2
 apply List.filter_congr;intro x _;simp
def za.flags(s:za):Nat:=s.b1.toNat+s.b2.toNat+s.b3.toNat
theorem xD(s:za):s.flags<=3:=by
 unfold za.flags;have h1:=Bool.toNat_le s.b1;have h2:=Bool.toNat_le s.b2;have h3:=Bool.toNat_le s.b3;omega
structure NOk (S T i:Nat) (e:Int) (s:za):Prop where
 dom:Dom s.x
 pos:0<sumTo s.x 8
 hgt:s.zc1<=12
 rnd:s.round<=20
 stp:s.step<=3
 log:qM s.zc1 s.log
 ahead:qM (s.zc1+1) s.ahead
 ao:∀e∈s.ahead,e.own=false
 own:(QP s.log:Int)<=4*s.round+s.step+e
 sg:((s.sg i).length:Int)<=S+84*s.zc1+4*s.round+s.step+e
 tb:s.tb<=3*(21*s.zc1+s.round)+s.flags
 tims:s.tims.length<=s.tb
 time:s.time<=T
 wait:s.wait.length<=5
 waitz:∀t∈s.wait,t.size<=1000
 vz:s.vv.size<=24
 cert:∀d∈s.dec,d.cert.length<=100000
 out:s.out.length<=100
theorem NOk.mono{e':Int}(h:NOk S T i e s)(he:e<=e'):NOk S T i e' s:=
 { h with own:=by have:=h.own;omega,sg:=by have:=h.sg;omega }
theorem NOk.lens(h:NOk S T i e s)(he:e<=1):s.log.length<=2000/\s.ahead.length<=2000:=by
 have h1:=h.log.came;have h2:=h.ahead.came;have h3:=GA s.log;have h4:=GA s.ahead;have h5:QP s.ahead=0:=by
  unfold QP;rw[List.countP_eq_zero];intro a ha hp;rw[h.ao a ha] at hp;cases hp
 have h6:=h.own;have h7:=h.rnd;have h8:=h.stp;omega
theorem NOk.st(h:NOk S T i e s)(he:e<=1)(hT:T<=1000000000000)(hS:S<=900000000000):YS 2000 s/\(s.sg i).length<=1000000000000:=by
 obtain⟨h1,h2⟩:=h.lens he;have h3:=h.tb;have h4:=h.tims;have h5:=h.hgt;have h6:=h.rnd;have h7:=xD s;have h8:=h.sg;have h9:=h.stp;exact⟨⟨h.dom,h.pos,h.hgt,h.rnd,h1,h2,by omega,by omega,zgu h.time hT,h.log.ok,h.ahead.ok,h.wait,h.waitz,h.vz⟩,by omega⟩
theorem xO{sg:Nat->List zgW}{k:Nat}{u:zgW}:(kg sg k u i).length<=(sg i).length+1:=by
 unfold kg;split
 .rename_i h1;rw[h1.1,zgE];exact zgp _
 omega
theorem zbN{out:List zgW}{f:zgW}(h:out.length<=100):(Zr out f).length<=100:=by
 unfold Zr;split
 .rw [zgE,List.length_singleton];omega
 exact h
theorem NOk.send(h:NOk S T i e s)(k v:Int)(nl:Bool)(t:zgW):NOk S T i (e+1) (s.zc8 i k v nl t):=by
 unfold za.zc8;split
 .exact h.mono (by omega)
 split
 .rename_i hp hb;have aa:=zgF hb;obtain⟨b1,b2,b3,b4,b5,b6,b7,b8⟩:=aa;have hr:=h.rnd;refine { h with log:=?_,own:=?_,sg:=?_,out:=zbN h.out }
  .refine h.log.own rfl ⟨b5,b6,b3,by show(s.round:Int)<=20;omega,b7⟩ ?_ ⟨rfl,b2⟩;show 1<=k/\k<=3;omega
  .have h1:=h.own;show((QP (s.log++[_]):Nat):Int)<=4*(s.round:Int)+(s.step:Int)+(e+1);unfold QP at h1 ⊢;rw[List.countP_append];simp only[List.countP_singleton,if_true];omega
  have h1:=h.sg;have h2:=xO (sg:=s.sg) (k:=i) (i:=i) (u:=s.enc i k v nl t);show(((kg s.sg i (s.enc i k v nl t) i).length:Nat):Int)<=S+84*(s.zc1:Int)+4*(s.round:Int)+(s.step:Int)+(e+1);omega
 exact h.mono (by omega)
theorem NOk.step{st:Nat}(h:NOk S T i e s)(hst:st<=3):NOk S T i (e+s.step-st) (s.zdr st):=by
 refine { h with stp:=hst,own:=?_,sg:=?_ }
 .have h1:=h.own;show(QP s.log:Int)<=4*(s.round:Int)+(st:Int)+(e+s.step-st);omega
 have h1:=h.sg;show((s.sg i).length:Int)<=S+84*(s.zc1:Int)+4*(s.round:Int)+(st:Int)+(e+s.step-st);omega
theorem NOk.timer{num ticks:Nat}(h:NOk S T i e s)(hn:num=1/\s.b1=false\/num=2/\s.b2=false\/num=3/\s.b3=false):NOk S T i e (s.timer num ticks):=by
 refine { h with tb:=?_,tims:=?_ }
 .have h1:=h.tb;show s.tb+1<=3*(21*s.zc1+s.round)+(s.timer num ticks).flags;have h2:(s.timer num ticks).flags=s.flags+1:=by
   unfold za.flags za.timer;rcases hn with⟨rfl,h⟩|⟨rfl,h⟩|⟨rfl,h⟩<;>simp[h]<;>omega
  omega
 have h1:=h.tims;show(upT s.tims.length (s.tims++[_]) s.tims.length).length<=s.tb+1;rw[ve,zgE];simp only[List.length_singleton];omega
theorem NOk.turn{st:Nat}(h:NOk S T i e s)(hr:s.round<r)(hr2:r<=20)(hst:st<=3):NOk S T i (e+(4*s.round+s.step)-(4*r+st)) (s.zdh r st):=by
 refine { h with rnd:=hr2,stp:=hst,own:=?_,sg:=?_,tb:=?_ }
 .have h1:=h.own;show(QP s.log:Int)<=4*(r:Int)+(st:Int)+(e+(4*s.round+s.step)-(4*r+st));omega
 .have h1:=h.sg;show((s.sg i).length:Int)<=S+84*(s.zc1:Int)+4*(r:Int)+(st:Int)+(e+(4*s.round+s.step)-(4*r+st));omega
 have h1:=h.tb;have h2:=xD s;show s.tb<=3*(21*s.zc1+r)+(s.zdh r st).flags;have h3:(s.zdh r st).flags=0:=rfl;omega
theorem NOk.begin(h:NOk S T i (-1) (s.zdh r 1)):NOk S T i 0 (s.zc9 i r):=by
 unfold za.zc9;split
 .have:=h.send 1 s.vr false (if s.vr<0 then yP s.x s.wait else s.vv)
  exact this.mono (by omega)
 exact(h.timer (zgR ⟨rfl,rfl⟩)).mono (by omega)
theorem xV(t:zgW):∀l:List zgW,(yO t l).Sublist l
 | []=>List.Sublist.refl _
 |e::l=>by
  unfold yO;split
  .exact List.sublist_cons_self _ _
  .exact (xV t l).cons_cons e
theorem jk(l:List zgW)(ps:List zgW):(yu l ps).Sublist l:=by
 unfold yu;induction ps generalizing l with
 |nil=>exact List.Sublist.refl _
 |cons p ps ih=>exact(ih _).trans (xV p l)
theorem NOk.next{st:Nat}(h:NOk S T i 0 s)(hp:p∈s.log)(hg:s.zdK p.m.s=true)(q:zt->Bool)(hst:st<=3)(he:0<=st+e):NOk S T i e (((s.kept p).zdb ((s.kept p).ahead.filter q)).zdh 0 st):=by
 have hh:s.zc1<12:=by
  have:=h.log.hh p hp;omega
 have hk:(s.kept p).zc1=s.zc1+1:=by
  show(s.dec++[_]).length=s.dec.length+1;simp
 have hln:=(h.lens (by omega)).1;have hH:(((s.kept p).zdb ((s.kept p).ahead.filter q)).zdh 0 st).zc1=s.zc1+1:=hk;have aa:=jk s.wait (pcs p.m.s);have hr:=h.rnd;have hs:=h.stp;have hz:QP ((s.kept p).ahead.filter q)=0:=by
  unfold QP;rw[List.countP_eq_zero];intro a ha hp;rw[h.ao a ((List.mem_filter.1 ha).1)] at hp;cases hp
 refine⟨h.dom.behind _,gI h.pos hg,by rw[hH];omega,zgv _,hst,?_,qM.nil _,(λ_ h=>by cases h),?_,?_,?_,?_,h.time,?_,?_,zgv _,?_,h.out⟩
 .rw [hH];exact h.ahead.filter q
 .show (QP ((s.kept p).ahead.filter q):Int)<=4*((0:Nat):Int)+(st:Int)+e
  rw[hz];omega
 .have h1:=h.sg;rw[hH];show((s.sg i).length:Int)<=S+84*((s.zc1+1:Nat):Int)+4*((0:Nat):Int)+(st:Int)+e;omega
 .have h1:=h.tb;have h2:=xD s;rw[hH];show s.tb<=3*(21*(s.zc1+1)+0)+0;omega
 .exact h.tims
 .exact zgu aa.length_le h.wait
 .exact λt ht=>h.waitz t (aa.subset ht)
 intro d hd;rcases List.mem_append.1 (show d∈s.dec++[_] from hd) with h1|h1
 .exact h.cert d h1
 rw[List.mem_singleton.1 h1];have:=xF (votesForB 3 p.m.r p.m.s) s.log 8;show(certTo (votesForB 3 p.m.r p.m.s) s.log 8).length<=100000;omega
theorem NOk.keep(h:NOk S T i 0 s)(hp:p∈s.log)(hg:s.zdK p.m.s=true):NOk S T i 0 (s.zdG i p):=by
 unfold za.zdG;rw[kM];split
 .exact h.next hp hg _ (by omega) (by omega)
 exact NOk.begin (h.next hp hg _ (by omega) (by omega))
theorem ZQ(h:s.zdE r=some p):p∈s.log/\p.m.k=1/\p.m.r=(r:Int)/\s.most (votesForB 3 (r:Int) p.m.s)=true/\s.zdK p.m.s=true:=by
 obtain⟨h1,h2,h3,h4⟩:=Qa h;exact⟨h1,h2,h3,Bool.and_eq_true_iff.1 h4⟩
def za.zds(s:za):Nat:=8*(21*s.zc1+s.round)+s.step+s.held.toNat+s.b2.toNat+s.b3.toNat
theorem ya(s:za)(i:Nat)(k v:Int)(nl:Bool)(t:zgW):(s.zc8 i k v nl t).dec=s.dec/\(s.zc8 i k v nl t).round=s.round/\(s.zc8 i k v nl t).step=s.step/\(s.zc8 i k v nl t).held=s.held/\(s.zc8 i k v nl t).b1=s.b1/\(s.zc8 i k v nl t).b2=s.b2/\(s.zc8 i k v nl t).b3=s.b3/\(s.zc8 i k v nl t).x=s.x/\(s.zc8 i k v nl t).wait=s.wait/\(s.zc8 i k v nl t).ahead=s.ahead/\(s.zc8 i k v nl t).time=s.time/\(s.zc8 i k v nl t).tims=s.tims:=by
 unfold za.zc8;split
 .exact ⟨rfl,rfl,rfl,rfl,rfl,rfl,rfl,rfl,rfl,rfl,rfl,rfl⟩
 split
 .exact ⟨rfl,rfl,rfl,rfl,rfl,rfl,rfl,rfl,rfl,rfl,rfl,rfl⟩
 exact⟨rfl,rfl,rfl,rfl,rfl,rfl,rfl,rfl,rfl,rfl,rfl,rfl⟩
theorem jI(s:za)(i:Nat)(k v:Int)(nl:Bool)(t:zgW):(s.zc8 i k v nl t).zds=s.zds:=by
 obtain⟨h1,h2,h3,h4,h5,h6,h7,-⟩:=ya s i k v nl t;unfold za.zds za.zc1;rw[h1,h2,h3,h4,h6,h7]
theorem Yo(s:za)(i r:Nat):(s.zc9 i r).zds=8*(21*s.zc1+r)+1:=by
 unfold za.zc9;split
 .rw [jI];rfl
 rfl
theorem Yn(s:za):s.held.toNat+s.b2.toNat+s.b3.toNat<=3:=by
 have h1:=Bool.toNat_le s.held;have h2:=Bool.toNat_le s.b2;have h3:=Bool.toNat_le s.b3;omega
theorem NOk.zds(h:NOk S T i e s):s.zds<=2190:=by
 have h1:=h.hgt;have h2:=h.rnd;have h3:=h.stp;have h4:=Yn s;unfold za.zds;omega
theorem NOk.one(h:NOk S T i 0 s)(ht:(s.zdp (za.zdm i) i).1=true):NOk S T i 0 (s.zdp (za.zdm i) i).2/\s.zds<(s.zdp (za.zdm i) i).2.zds:=by
 have hr:=h.rnd;have hs:=h.stp;have hf:=Yn s;unfold za.zdp at ht ⊢;split
 .rename_i h1;cases hd:s.zeW with
  |none=>rw[jP hd] at h1;cases h1
  |some p=>
   rw[xE hd];obtain⟨r,_,h2⟩:=G2 hd;obtain⟨h3,_,_,_,h4⟩:=ZQ h2;refine⟨h.keep h3 h4,?_⟩;have hk:(s.kept p).zc1=s.zc1+1:=by
    show(s.dec++[_]).length=s.dec.length+1;simp
   show s.zds<(s.zdG i p).zds;unfold za.zdG;rw[kM];split
   .show s.zds<8*(21*(s.kept p).zc1+0)+0+0+0+0;unfold za.zds;omega
   rw[Yo];show s.zds<8*(21*(s.kept p).zc1+0)+1;unfold za.zds;omega
 rename_i h0;rw[zgU h0] at ht;split
 .rename_i h1;unfold za.zde at h1 ⊢;split
  .rename_i h2;rw[h2] at h1;cases h1
  rename_i r h2;have h3:=List.mem_range.1 (List.mem_of_find?_eq_some h2);have h4:s.zdq r=true:=List.find?_some h2;unfold za.zdq at h4;have h5:=zgF (Bool.and_eq_true_iff.1 h4).1;refine⟨NOk.begin ((h.turn h5 (by omega) (by omega)).mono (by omega)),?_⟩;show s.zds<(s.zc9 i r).zds;rw[Yo];unfold za.zds;omega
 rename_i h1;rw[zgU h1] at ht;have aa:∀fits,(s.zc6 i fits).1=true->NOk S T i 0 (s.zc6 i fits).2/\s.zds<(s.zc6 i fits).2.zds:=λfits h2=>by
  by_cases h3:s.step=1
  .cases hp:propF s.log (s.round:Int) fits with
   |none=>rw[y7 h3 hp] at h2;cases h2
   |some p=>
    by_cases hm:s.zeq p=true
    .rw [vZ h3 hp hm];refine⟨((h.send 2 0 false p.m.s).step (st:=2) (by omega)).mono ?_,?_⟩
     .rw [(ya s i 2 0 false p.m.s).2.2.1,h3];omega
     have h4:=jI s i 2 0 false p.m.s;have h5:=(ya s i 2 0 false p.m.s).2.2.1;unfold za.zds at h4 ⊢;show _<8*(21*(s.zc8 i 2 0 false p.m.s).zc1+(s.zc8 i 2 0 false p.m.s).round)+2+(s.zc8 i 2 0 false p.m.s).held.toNat+(s.zc8 i 2 0 false p.m.s).b2.toNat+(s.zc8 i 2 0 false p.m.s).b3.toNat;omega
    rw[x8 h3 hp (by simpa using hm)];refine⟨((h.send 2 0 true ⟨#[]⟩).step (st:=2) (by omega)).mono ?_,?_⟩
    .rw [(ya s i 2 0 true ⟨#[]⟩).2.2.1,h3];omega
    have h4:=jI s i 2 0 true ⟨#[]⟩;have h5:=(ya s i 2 0 true ⟨#[]⟩).2.2.1;unfold za.zds at h4 ⊢;show _<8*(21*(s.zc8 i 2 0 true ⟨#[]⟩).zc1+(s.zc8 i 2 0 true ⟨#[]⟩).round)+2+(s.zc8 i 2 0 true ⟨#[]⟩).held.toNat+(s.zc8 i 2 0 true ⟨#[]⟩).b2.toNat+(s.zc8 i 2 0 true ⟨#[]⟩).b3.toNat;omega
  rw[yZ h3] at h2;cases h2
 split
 .rename_i h2;exact aa _ h2
 rename_i h2;rw[zgU h2] at ht;split
 .rename_i h3;exact aa _ h3
 rename_i h3;rw[zgU h3] at ht;split
 .rename_i h4;by_cases h5:¬s.step=1/\s.held=false
  .cases hp:s.zed with
   |none=>rw[qY hp] at h4;cases h4
   |some p=>
    rw[qX h5.1 h5.2 hp];obtain⟨ab,_,_,_⟩:=Qa hp;have hz:=(h.log.ok p ab).z;have h6:NOk S T i 0 (s.zdk p.m.s):={ h with vz:=hz };have h7:(s.zdk p.m.s).zds=s.zds+1:=by
     unfold za.zds;rw[h5.2];show 8*(21*s.zc1+s.round)+s.step+1+s.b2.toNat+s.b3.toNat=8*(21*s.zc1+s.round)+s.step+0+s.b2.toNat+s.b3.toNat+1;omega
    split
    .rename_i h8;have h9:NOk S T i 0 (s.zdk p.m.s).zdx:=⟨h6.dom,h6.pos,h6.hgt,h6.rnd,h6.stp,h6.log,h6.ahead,h6.ao,h6.own,h6.sg,h6.tb,h6.tims,h6.time,h6.wait,h6.waitz,h6.vz,h6.cert,h6.out⟩;have ad:(s.zdk p.m.s).zdx.step=2:=h8;refine⟨((h9.send 3 0 false p.m.s).step (st:=3) (by omega)).mono ?_,?_⟩
     .rw [(ya (s.zdk p.m.s).zdx i 3 0 false p.m.s).2.2.1,ad];omega
     have h11:=jI (s.zdk p.m.s).zdx i 3 0 false p.m.s;have h12:=(ya (s.zdk p.m.s).zdx i 3 0 false p.m.s).2.2.1;have h13:(s.zdk p.m.s).zdx.zds=s.zds+1:=h7;show s.zds<(((s.zdk p.m.s).zdx.zc8 i 3 0 false p.m.s).zdr 3).zds;have h14:(((s.zdk p.m.s).zdx.zc8 i 3 0 false p.m.s).zdr 3).zds+((s.zdk p.m.s).zdx.zc8 i 3 0 false p.m.s).step=((s.zdk p.m.s).zdx.zc8 i 3 0 false p.m.s).zds+3:=by
      unfold za.zds za.zdr za.zc1;dsimp only
      omega
     omega
    refine⟨h6,?_⟩;show s.zds<(s.zdk p.m.s).zds;omega
  rw[vu h5] at h4;cases h4
 rename_i h4;rw[zgU h4] at ht;split
 .rename_i h5;unfold za.zdd at h5 ⊢;split
  .rename_i h6;refine⟨((h.send 3 0 true ⟨#[]⟩).step (st:=3) (by omega)).mono ?_,?_⟩
   .rw [(ya s i 3 0 true ⟨#[]⟩).2.2.1,h6.1];omega
   have h7:=jI s i 3 0 true ⟨#[]⟩;have h8:=(ya s i 3 0 true ⟨#[]⟩).2.2.1;have h9:((s.zc8 i 3 0 true ⟨#[]⟩).zdr 3).zds+(s.zc8 i 3 0 true ⟨#[]⟩).step=(s.zc8 i 3 0 true ⟨#[]⟩).zds+3:=by
    unfold za.zds za.zdr za.zc1;dsimp only
    omega
   show s.zds<((s.zc8 i 3 0 true ⟨#[]⟩).zdr 3).zds;omega
  rename_i h6;rw[zgU h6] at h5;cases h5
 rename_i h5;rw[zgU h5] at ht;split
 .rename_i h6;unfold za.zdi at h6 ⊢;split
  .rename_i h7;refine⟨h.timer (zgS (zgR ⟨rfl,h7.2.1⟩)),?_⟩;unfold za.zds;rw[h7.2.1];show 8*(21*s.zc1+s.round)+s.step+s.held.toNat+0+s.b3.toNat<8*(21*s.zc1+s.round)+s.step+s.held.toNat+1+s.b3.toNat;omega
  rename_i h7;rw[zgU h7] at h6;cases h6
 rename_i h6;rw[zgU h6] at ht;unfold za.zdl at ht ⊢;split
 .rename_i h7;refine⟨h.timer (zgS (zgS ⟨rfl,h7.1⟩)),?_⟩;unfold za.zds;rw[h7.1];show 8*(21*s.zc1+s.round)+s.step+s.held.toNat+s.b2.toNat+0<8*(21*s.zc1+s.round)+s.step+s.held.toNat+s.b2.toNat+1;omega
 rename_i h7;rw[zgU h7] at ht;cases ht
def za.zeI(i:Nat):Nat->za->za
 |0,s=>s
 |f+1,s=>if(s.zdp (za.zdm i) i).1=true then za.zeI i f (s.zdp (za.zdm i) i).2 else s
def za.zdv(s:za)(i:Nat):za:=za.zeI i 2200 s
theorem zbt:∀(f:Nat) (s:za),NOk S T i 0 s->2190<f+s.zds->∃k,RunTo (za.zdm i) i (NOk S T i 0) (za.zeI i f s) k s
 |0,s,h,hf=>by
  have:=h.zds;omega
 |f+1,s,h,hf=>by
  by_cases h1:(s.zdp (za.zdm i) i).1=true
  .obtain ⟨h2,h3⟩:=h.one h1
   obtain⟨k,hk⟩:=zbt f _ h2 (by omega);refine⟨k+1,h,h1,?_⟩;unfold za.zeI;rw[zgT h1];exact hk
  .refine ⟨0,h,by simpa using h1,?_⟩
   unfold za.zeI;rw[zgU h1]
theorem Q3{dec:za->Bool×za}{G:za->Prop}{t:za}:∀(k:Nat) (s:za),RunTo dec i G t k s->G t
 |0,s,h=>by
  have h1:=h.1;rw[h.2.2] at h1;exact h1
 |k+1,s,h=>Q3 k _ h.2.2
theorem NOk.runs(h:NOk S T i 0 s):(∃k,RunTo (za.zdm i) i (NOk S T i 0) (s.zdv i) k s)/\NOk S T i 0 (s.zdv i):=by
 obtain⟨k,hk⟩:=zbt 2200 s h (by omega);exact⟨⟨k,hk⟩,Q3 k s hk⟩
end
section
variable{s s':za}{m:yX}{fr:zgW}{S T i:Nat}{t:yf}{l:List yf}
def Yp(out l:List zgW):List zgW:=l.foldl Zr out
theorem K8(l:List zgW):∀(m i:Nat) (out:List zgW),i+m=l.length->zam (λk=>l.getD k zgV) out i m=Yp out (l.drop i)
 |0,i,out,h=>by
  rw[List.drop_eq_nil_of_le (by omega)];rfl
 |m+1,i,out,h=>by
  rw[zam,K8 l m (i+1) _ (by omega),List.drop_eq_getElem_cons (i:=i) (by omega),zgz,zgy (by omega)];rfl
theorem JT(l:List zgW)(out:List zgW):zam (λk=>l.getD k zgV) out 0 l.length=Yp out l:=by
 rw[K8 l l.length 0 out (by omega),List.drop_zero]
theorem Kc(l:List zgW):∀(out:List zgW),out.length<=100->(Yp out l).length<=100:=by
 induction l with
 |nil=>intro out h;exact h
 |cons a l ih=>
  intro out h;refine ih _ ?_;unfold Zr;split
  .rw [zgE,List.length_singleton];omega
  exact h
def za.zdg(s:za)(h:Int):List zt:=if h=(s.zc1:Int) then s.log else s.ahead
def za.zdt(s:za)(m:yX)(fr:zgW):Option Nat:=
 if m.h<(s.zc1:Int) then some 3
 else if(s.zc1:Int)+1<m.h\/20<m.r then some 4
 else if m.h=(s.zc1:Int)/\s.zc7 m=true then some 5
 else if gA (s.zdg m.h) fr=true then some 6
 else if 2<=likeN (s.zdg m.h) m then some 7
 else none
def za.zdF(s:za)(h:Nat):za:=
 if(s.dec.getD h yz).told=true then s
 else { s with dec:=s.dec.set h { s.dec.getD h yz with told:=true },out:=Yp s.out ((s.dec.getD h yz).prop::(s.dec.getD h yz).cert) }
def za.zdV(s:za)(i:Nat)(m:yX)(fr:zgW):za:=
 if m.h<(s.zc1:Int) then s.zdF m.h.toNat
 else match s.zdt m fr with
 |some _=>s
 |none=>(s.zdA ⟨m,fr,false⟩).zdv i
def za.zdc(s:za)(n i:Nat)(fr:zgW):za:=
 if yT fr=true/\z8 s.sg n (decV fr).f fr=true then s.zdV i (decV fr) fr else s
theorem Qk(l:List zt)(m:yX)(h:Nat)(hl:qM h l)(hm:m.h=(h:Int)):l.countP (x7 m.k m.r m.f)<=likeN l m:=by
 unfold likeN;rw[<-List.countP_eq_length_filter];refine List.countP_mono_left λe he hp=>?_;unfold x7 at hp;rw[Bool.and_eq_true_iff,Bool.and_eq_true_iff,Bool.and_eq_true_iff] at hp;unfold xS;exact zgG ⟨zgF hp.2.1.1,by rw[(hl.hh e he).1,hm],zgF hp.2.1.2,zgF hp.2.2⟩
theorem Zp(h:s.zdt m fr=none):¬m.h<(s.zc1:Int)/\¬((s.zc1:Int)+1<m.h\/20<m.r)/\¬(m.h=(s.zc1:Int)/\s.zc7 m=true)/\¬gA (s.zdg m.h) fr=true/\¬2<=likeN (s.zdg m.h) m:=by
 unfold za.zdt at h;split at h
 .cases h
 split at h
 .cases h
 split at h
 .cases h
 split at h
 .cases h
 split at h
 .cases h
 rename_i h1 h2 h3 h4 h5;exact⟨h1,h2,h3,h4,h5⟩
theorem NOk.take(h:NOk S T i 0 s)(hr:s.zdt m fr=none)(hm:0<=m.h/\m.h<12/\0<=m.r/\m.r<=255/\0<=m.f/\m.f<8/\m.s.size<=24/\1<=m.k/\m.k<=3):NOk S T i 0 (s.zdA ⟨m,fr,false⟩):=by
 obtain⟨h1,h2,h3,h4,h5⟩:=Zp hr;obtain⟨m1,m2,m3,m4,m5,m6,m7,m8,m9⟩:=hm;have aa:Kx ⟨m,fr,false⟩:=⟨m5,m6,m3,by show m.r<=20;omega,m7⟩;unfold za.zdA;split
 .rename_i e;have e2:m.h=(s.zc1:Int):=e;have hl:=Qk s.log m s.zc1 h.log e2;unfold za.zdg at h5;rw[zgT e2] at h5;refine { h with log:=h.log.more (by show s.log.countP (x7 m.k m.r m.f)<=1;omega) aa ⟨m8,m9⟩ ⟨e2,m2⟩,own:=?_ };have h6:=h.own;show((QP (s.log++[_]):Nat):Int)<=4*(s.round:Int)+(s.step:Int)+0;unfold QP at h6 ⊢;rw[List.countP_append,List.countP_singleton,zgU (by exact zgN)];omega
 rename_i e;have e2:¬m.h=(s.zc1:Int):=e;have e3:m.h=((s.zc1+1:Nat):Int):=by omega
 have hl:=Qk s.ahead m (s.zc1+1) h.ahead e3;unfold za.zdg at h5;rw[zgU e2] at h5;refine { h with ahead:=h.ahead.more (by show s.ahead.countP (x7 m.k m.r m.f)<=1;omega) aa ⟨m8,m9⟩ ⟨e3,m2⟩,ao:=?_ };intro x hx;rcases List.mem_append.1 hx with hx|hx
 .exact h.ao x hx
 rw[List.mem_singleton.1 hx]
theorem NOk.tell(h:NOk S T i 0 s)(k:Nat)(hk:k<s.zc1):NOk S T i 0 (s.zdF k):=by
 unfold za.zdF;split
 .exact h
 have hH:(s.dec.set k { s.dec.getD k yz with told:=true }).length=s.dec.length:=List.length_set;have hm:s.dec.getD k yz∈s.dec:=by
  rw[zgz,zgy hk];exact List.getElem_mem _
 refine { h with hgt:=?_,log:=?_,ahead:=?_,sg:=?_,tb:=?_,cert:=?_,out:=Kc _ _ h.out }
 .show (s.dec.set k _).length<=12
  rw[hH];exact h.hgt
 .show qM (s.dec.set k _).length s.log;rw[hH];exact h.log
 .show qM ((s.dec.set k _).length+1) s.ahead;rw[hH];exact h.ahead
 .have h1:=h.sg;show((s.sg i).length:Int)<=S+84*(((s.dec.set k _).length:Nat):Int)+4*(s.round:Int)+(s.step:Int)+0;rw[hH];exact h1
 .have h1:=h.tb;show s.tb<=3*(21*(s.dec.set k _).length+s.round)+s.flags;rw[hH];exact h1
 intro d hd;rcases List.mem_or_eq_of_mem_set hd with h1|h1
 .exact h.cert d h1
 have h2:=h.cert _ hm;rw[h1];exact h2
def za.zdC(s:za)(i:Nat)(t:yf):za:=
 if t.h=(s.zc1:Int)/\t.r=(s.round:Int) then
  (if t.n=1/\s.step=1 then s.nothing i 2 2
   else if t.n=2/\s.step=2 then s.nothing i 3 3
   else if t.n=3/\s.round<20 then s.zc9 i (s.round+1)
   else s)
 else s
theorem NOk.exp(h:NOk S T i 0 s):NOk S T i 0 (s.zdC i t):=by
 have hs:=h.stp;unfold za.zdC;split
 .split
  .rename_i h1;refine((h.send 2 0 true ⟨#[]⟩).step (st:=2) (by omega)).mono ?_;rw[(ya s i 2 0 true ⟨#[]⟩).2.2.1,h1.2];omega
  split
  .rename_i h1;refine((h.send 3 0 true ⟨#[]⟩).step (st:=3) (by omega)).mono ?_;rw[(ya s i 3 0 true ⟨#[]⟩).2.2.1,h1.2];omega
  split
  .rename_i h1;exact NOk.begin ((h.turn (by omega) (by omega) (by omega)).mono (by omega))
  exact h
 exact h

/- The heap holds what it held. -/
theorem Yg{j:Nat}(hi:i<l.length)(hj:j<l.length):(swapT l i j).Perm l:=by
 unfold swapT;rw[zgz,zgz,zgy hi,zgy hj];exact List.set_set_perm hi hj
theorem gT:∀(f:Nat) (l:List yf) (i:Nat),i<l.length->(upT f l i).Perm l
 |0,l,_,_=>List.Perm.refl l
 |f+1,l,i,h=>by
  rw[upT];split
  .exact List.Perm.refl l
  .split
   .exact (gT f _ _ (by rw[zW];omega)).trans (Yg h (by omega))
   .exact List.Perm.refl l
theorem Zx(l:List yf):∀(f c m:Nat),jx l f c m=m\/jx l f c m<l.length
 |0,_,_=>zgR rfl
 |f+1,c,m=>by
  rw[jx];split
  .rename_i h;rcases Zx l f (c+1) c with h1|h1
   .exact zgS (by rw[h1];exact h.1)
   .exact zgS h1
  .exact Zx l f (c+1) m
theorem Yx(l:List yf):∀(f c m:Nat),l.length<=c->jx l f c m=m
 |0,_,_,_=>rfl
 |f+1,c,m,h=>by
  rw[jx,zgU (by omega)];exact Yx l f (c+1) m (by omega)
theorem YI:∀(f:Nat) (l:List yf) (i:Nat),(qA f l i).Perm l
 |0,l,_=>List.Perm.refl l
 |f+1,l,i=>by
  rw[qA];split
  .exact List.Perm.refl l
  .rename_i h;have h1:yN l i<l.length:=(Zx l 2 (2*i+1) i).resolve_left h;have h2:i<l.length:=by
    rcases Nat.lt_or_ge i l.length with h3|h3
    .exact h3
    .exact absurd (Yx l 2 (2*i+1) i (by omega)) h
   exact(YI f _ _).trans (Yg h2 h1)
theorem qS(t:yf)(l:List yf):(xo (t::l)).Perm l:=by
 unfold xo;refine(YI _ _ _).trans ?_;rcases List.eq_nil_or_concat l with rfl|⟨l',z,e0⟩
 .exact List.Perm.refl _
 rw[List.concat_eq_append] at e0;subst e0;have e1:(t::(l'++[z])).length-1=l'.length+1:=by simp
 have e2:(t::(l'++[z])).getD (l'.length+1) kt=z:=by simp
 rw[e1,e2,List.set_cons_zero,List.take_succ_cons,List.take_left];have h:=(List.perm_middle (a:=z) (l₁:=l') (l₂:=[])).symm;rw[List.append_nil] at h;exact h
def za.zei(s:za):Nat:=s.tims.countP λt=>decide (t.due<=(s.time:Int))
def zO(s s':za):Prop:=s'.time=s.time/\s'.zei=s.zei
theorem zO.refl(s:za):zO s s:=⟨rfl,rfl⟩
theorem zO.trans{s2:za}(h:zO s s')(h':zO s' s2):zO s s2:=⟨h'.1.trans h.1,h'.2.trans h.2⟩
theorem vN(h1:s'.time=s.time)(h2:s'.tims=s.tims):zO s s':=⟨h1,by unfold za.zei;rw[h1,h2]⟩
theorem Zb(s:za)(i:Nat)(k v:Int)(nl:Bool)(t:zgW):zO s (s.zc8 i k v nl t):=by
 obtain⟨-,-,-,-,-,-,-,-,-,-,h1,h2⟩:=ya s i k v nl t;exact vN h1 h2
theorem ZM(s:za)(num ticks:Nat)(ht:0<ticks):zO s (s.timer num ticks):=by
 refine⟨rfl,?_⟩;show List.countP (λt=>decide (t.due<=(s.time:Int))) (upT s.tims.length (s.tims++[_]) s.tims.length)=_;rw[(gT _ _ _ (by simp)).countP_eq,List.countP_append,List.countP_singleton,zgU ?_]
 .rfl
 rw[decide_eq_true_eq];show¬(s.time:Int)+(ticks:Int)+(s.round:Int)<=(s.time:Int);omega
theorem ZN(s:za)(i r:Nat):zO s (s.zc9 i r):=by
 unfold za.zc9;split
 .exact (vN (s:=s) (s':=s.zdh r 1) rfl rfl).trans (Zb _ _ _ _ _ _)
 exact(vN (s:=s) (s':=s.zdh r 1) rfl rfl).trans (ZM _ _ _ (by omega))
theorem jm(s:za)(i:Nat)(k:Int)(st:Nat):zO s (s.nothing i k st):=
 (Zb s i k 0 true ⟨#[]⟩).trans (vN rfl rfl)
theorem zbk(s:za)(i:Nat)(p:zt):zO s (s.zdG i p):=by
 unfold za.zdG;rw[kM];split
 .exact vN rfl rfl
 exact(vN (s:=s) (s':=(s.kept p).zdb ((s.kept p).ahead.filter λe=> !(s.kept p).zc7 e.m)) rfl rfl).trans (ZN _ _ _)
theorem YF(s:za)(i:Nat)(fits:zt->Bool):zO s (s.zc6 i fits).2:=by
 unfold za.zc6;split
 .split
  .exact zO.refl s
  dsimp only
  split
  .exact (Zb s i 2 0 false _).trans (vN rfl rfl)
  exact jm s i 2 2
 exact zO.refl s
theorem zb2(s:za)(i:Nat):zO s (s.zdp (za.zdm i) i).2:=by
 unfold za.zdp;split
 .unfold za.zdm;split
  .exact zO.refl s
  exact zbk s i _
 split
 .unfold za.zde;split
  .exact zO.refl s
  exact ZN s i _
 split
 .exact YF s i _
 split
 .exact YF s i _
 split
 .unfold za.zdy;split
  .split
   .exact zO.refl s
   dsimp only
   split
   .exact (vN (s:=s) (s':=(s.zdk _).zdx) rfl rfl).trans ((Zb _ _ _ _ _ _).trans (vN rfl rfl))
   exact vN rfl rfl
  exact zO.refl s
 split
 .unfold za.zdd;split
  .exact jm s i 3 3
  exact zO.refl s
 split
 .unfold za.zdi;split
  .exact ZM s 2 2 (by omega)
  exact zO.refl s
 unfold za.zdl;split
 .exact ZM s 3 2 (by omega)
 exact zO.refl s
theorem GY(i:Nat):∀(f:Nat) (s:za),zO s (za.zeI i f s)
 |0,s=>zO.refl s
 |f+1,s=>by
  rw[za.zeI];split
  .exact (zb2 s i).trans (GY i f _)
  .exact zO.refl s
theorem zb3(s:za)(i:Nat)(t:yf):zO s (s.zdC i t):=by
 unfold za.zdC;split
 .split
  .exact jm s i 2 2
  split
  .exact jm s i 3 3
  split
  .exact ZN s i _
  exact zO.refl s
 exact zO.refl s
def za.zdn(s:za):za:={ s with time:=s.time+1,dec:=s.dec.map λd=>{ d with told:=false } }
def za.zdW(s:za):za:={ s with tims:=xo s.tims }
def za.zdD(i:Nat):Nat->za->za
 |0,s=>s
 |f+1,s=>match s.tims with
  | []=>s
  |t::_=>if t.due<=(s.time:Int) then za.zdD i f ((s.zdW.zdC i t).zdv i) else s
def za.again(s:za):za:=if s.time % 5=0 then { s with out:=Yp s.out (zF (λe=>e.own) s.log) } else s
def za.zdH(s:za)(i:Nat):za:=(za.zdD i (s.tims.length+1) s.zdn).again
theorem zbO(h:s.tims=t::l)(hd:t.due<=(s.time:Int)):s.zdW.zei+1=s.zei:=by
 show List.countP (λt=>decide (t.due<=(s.time:Int))) (xo s.tims)+1=_;unfold za.zei;rw[h,(qS t l).countP_eq,List.countP_cons,zgT (zgG hd)]
theorem Vk(h:s.tims=t::l)(hd:t.due<=(s.time:Int)):((s.zdW.zdC i t).zdv i).zei+1=s.zei:=by
 have h1:zO s.zdW ((s.zdW.zdC i t).zdv i):=(zb3 _ _ _).trans (GY i 2200 _);rw[h1.2];exact zbO h hd
theorem NOk.pop(h:NOk S T i 0 s):NOk S T i 0 s.zdW:=by
 refine { h with tims:=?_ };have h1:=h.tims;show(xo s.tims).length<=s.tb;cases hl:s.tims with
 |nil=>exact zgv _
 |cons t l=>
  rw[(qS t l).length_eq];rw[hl] at h1;simp only[List.length_cons] at h1;omega
theorem NOk.zdn(h:NOk S T i 0 s):NOk S (T+1) i 0 s.zdn:=by
 have hH:s.zdn.zc1=s.zc1:=by
  show(s.dec.map _).length=s.dec.length;simp
 refine { h with hgt:=?_,log:=?_,ahead:=?_,sg:=?_,tb:=?_,time:=?_,cert:=?_ }
 .rw [hH];exact h.hgt
 .rw [hH];exact h.log
 .rw [hH];exact h.ahead
 .rw [hH];exact h.sg
 .rw [hH];exact h.tb
 .have:=h.time
  show s.time+1<=T+1;omega
 intro d hd;obtain⟨d',aa,rfl⟩:=List.mem_map.1 (show d∈s.dec.map _ from hd);exact h.cert d' aa
theorem NOk.again(h:NOk S T i 0 s):NOk S T i 0 s.again:=by
 unfold za.again;split
 .exact { h with out:=Kc _ _ h.out }
 exact h
def za.zdM(s:za)(t:zgW):Option Nat:=if z7 t=false then some 11 else if 5<=s.wait.length then some 8 else none
def za.zdT(s:za)(t:zgW):za:=if s.zdM t=none then { s with wait:=s.wait++[t] } else s
theorem GW{t:zgW}(h:z7 t=true):t.size<=1000:=by
 unfold z7 yn at h;have h1:=zgF h;omega
theorem KJ{t:zgW}(h:s.zdM t=none):z7 t=true/\s.wait.length<5:=by
 unfold za.zdM at h;split at h
 .cases h
 split at h
 .cases h
 rename_i h1 h2;exact⟨by simpa using h1,by omega⟩
theorem NOk.sub{t:zgW}(h:NOk S T i 0 s):NOk S T i 0 (s.zdT t):=by
 unfold za.zdT;split
 .rename_i h1;obtain⟨h2,h3⟩:=KJ h1;refine { h with wait:=?_,waitz:=?_ }
  .show (s.wait++[t]).length<=5
   rw[zgE,List.length_singleton];omega
  intro u hu;rcases List.mem_append.1 (show u∈s.wait++[t] from hu) with h4|h4
  .exact h.waitz u h4
  rw[List.mem_singleton.1 h4];exact GW h2
 exact h
theorem NOk.sent(h:NOk S T i 0 s):NOk S T i 0 { s with out:=[] }:=⟨h.dom,h.pos,h.hgt,h.rnd,h.stp,h.log,h.ahead,h.ao,h.own,h.sg,h.tb,h.tims,h.time,h.wait,h.waitz,h.vz,h.cert,zgv _⟩

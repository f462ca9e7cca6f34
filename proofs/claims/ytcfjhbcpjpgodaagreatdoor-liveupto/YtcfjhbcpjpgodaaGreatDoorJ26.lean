import Derived.Test.YtcfjhbcpjpgodaaGreatDoorJ22
import Derived.Test.YtcfjhbcpjpgodaaGreatDoorJ25
namespace Go.Proofs.YtcfjhbcpjpgodaaGreatDoor
open Go.RowKit
set_option maxRecDepth 100000
set_option maxHeartbeats 0
set_option linter.all false
section
open Proofs.Tryz
variable{w:World}{e n:Nat}{xs:List Value}
theorem vT{base c:Nat}{p:Option Addr}(h:w.ownsRow base e 1 (.slice p n c) n xs):YQ p n c:=by
 rcases h.2 with⟨e,h0⟩|⟨b,cap,cur,e,_⟩
 .cases e;exact zj0 ⟨rfl,rfl,rfl⟩
 cases e;exact zj1 ⟨b,0,rfl⟩
theorem jD{b b' z:Nat}{v:Value}(h:w.ownsRow b e z v n xs)(hb:b'<=b):w.ownsRow b' e z v n xs:=by
 rcases h with⟨h1,h2|⟨g,cap,cur,h2,h3,h4⟩⟩
 .exact ⟨h1,zj0 h2⟩
 exact⟨h1,zj1 ⟨g,cap,cur,h2,zjF hb h3,h4⟩⟩
theorem Y6(L:List zj5):((List.range L.length).map λi=>Value.string (L.getD i zj4))=L.map .string:=by
 apply List.ext_getElem
 .simp
 intro i h1 h2;have hi:i<L.length:=by simpa using h1
 simp[List.getD_eq_getElem?_getD,hi]
def certTo(fits:zl->Bool)(l:List zl):Nat->List zj5
 |0=>[]
 |k+1=>certTo fits l k++zJ (λe=>decide (e.m.f=(k:Int))&&fits e) l
theorem Yt(fits:zl->Bool)(l:List zl):∀k,(certTo fits l k).length<=k*l.length
 |0=>by simp[certTo]
 |k+1=>by
  have h1:=Yt fits l k;have h2:=vY (λe=>decide (e.m.f=(k:Int))&&fits e) l;rw[certTo,zjO,Nat.add_mul,Nat.one_mul];omega
theorem zav(g:Nat)(lb:Array Value)(fits:zl->Bool)(b1 b2:Nat)(k:Int)(L:List zl)(w:World)(eg:qo g)(c1:w.cell? (aA b1 0)=some (iA k))(c2:w.cell? (aA b2 0)=some (.func (.func g) #[] lb))(hf:FitsAt g lb fits L w):
 FitsAt 201 #[pA b1 0,pA b2 0] (λe=>decide (e.m.f=k)&&fits e) L w:=by
 intro W e he hW;have aa:=zc (λW' af=>hf W' e he af);have eg':∀(args:Array Value) (w:World),(callFunc g args).run prog w=.ok (.enter g args) w:=eg;obtain⟨⟨K,H,R,f,v,nl,t⟩,fr,own⟩:=e;show Calls prog 201 #[.agg #[iA K,iA H,iA R,iA f,iA v,bA nl,sA t,sA fr,bA own],pA b1 0,pA b2 0] W _;have hc:cN (W.alloc (.cells #[iA K,iA H,iA R,iA f,iA v,bA nl,sA t,sA fr,bA own] 164)) W 3 (iA f):=zjD _ W.heap.size 3 _ _ _ (zjC W _);have hc1:cE (W.alloc (.cells #[iA K,iA H,iA R,iA f,iA v,bA nl,sA t,sA fr,bA own] 164)) b1 0 (iA k):=cell?_alloc_old _ (Ext.cell c1 (Ext.of hW));have hc2:cE (W.alloc (.cells #[iA K,iA H,iA R,iA f,iA v,bA nl,sA t,sA fr,bA own] 164)) b2 0 (.func (.func g) #[] lb):=cell?_alloc_old _ (Ext.cell c2 (Ext.of hW));have HQ:Hid (cL (W.alloc (.cells #[iA K,iA H,iA R,iA f,iA v,bA nl,sA t,sA fr,bA own] 164)) W.heap.size #[iA K,iA H,iA R,iA f,iA v,bA nl,sA t,sA fr,bA own] 164):=zjC W _;have ad:Hid (BW W (W.alloc (.cells #[iA K,iA H,iA R,iA f,iA v,bA nl,sA t,sA fr,bA own] 164))):=bwA W;have ah:Hid (BW w (W.alloc (.cells #[iA K,iA H,iA R,iA f,iA v,bA nl,sA t,sA fr,bA own] 164))):=hW.trans (ad.o.mono hW.size);clear he hW c1 c2 hf eg;by_cases hid:f=k
 .subst hid;have HC:=zc (aa (W.alloc (.cells #[iA K,iA H,iA R,iA f,iA v,bA nl,sA t,sA fr,bA own] 164)) ah);have q:(f==f)=true:=by simp
  have HE:Hid ((decide (f=f)&&fits ⟨⟨K,H,R,f,v,nl,t⟩,fr,own⟩)=fits ⟨⟨K,H,R,f,v,nl,t⟩,fr,own⟩):=by unfold Hid;simp
  clear aa;go_enter func201,ntmps201;go_wp2_with (first|(refine zkb rfl 164 _ rfl W.heap.size rfl 164 #[iA K,iA H,iA R,iA f,iA v,bA nl,sA t,sA fr,bA own] (0,0) _ HQ underlying164 rfl Tryz.zfS ?_)|(go_at_fn g;refine HC.o.mono ?_;rintro e w3 ⟨rfl,ae⟩;have ag:=zc ae;clear ae)|fail)
  go_ret;exact⟨yz (by first|rfl|(rw[HE.o])|simp),yY ad.o ag.o⟩
 have q:(f==k)=false:=by simpa using hid
 have HE:Hid ((decide (f=k)&&fits ⟨⟨K,H,R,f,v,nl,t⟩,fr,own⟩)=false):=by unfold Hid;simp[hid]
 clear aa;go_enter func201,ntmps201;go_wp2;go_ret;exact⟨yz (by first|exact HE.o.symm|(rw[HE.o])|simp[hid]),ad.o⟩
theorem zaX(g:Nat)(lb:Array Value)(w:World):(store (aA w.heap.size 0) (.func (.func g) #[] lb)).run prog (w.alloc (.cells #[.nilFunc] 183))=.ok () (w.alloc (.cells #[.func (.func g) #[] lb] 183)):=by
 have hc:cN (w.alloc (.cells #[.nilFunc] 183)) w 0 .nilFunc:=zjD _ w.heap.size 0 _ _ _ (zjC w _);have hf:(w.alloc (.cells #[.nilFunc] 183)).frozen? (nA w 0)=false:=by
  unfold World.frozen?;simp only[heap_alloc_new];rfl
 rw[run_store prog _ _ _ _ rfl,hc];simp[hf,World.setCell_alloc_at]
theorem Ys(nb kb cb:Nat)(p:zl)(V:yc)(s:za)(w:World)(hA:NodeAt nb kb cb V s w)(hm:s.log.length<=10000000):
 Calls prog 185 #[pA nb 0,.agg p.cells] w λe w'=>∃v,e=.returned v/\w'.ownsRow w.heap.size 9 1 v (certTo (votesForB 3 p.m.r p.m.s) s.log 8).length ((certTo (votesForB 3 p.m.r p.m.s) s.log 8).map .string)/\BW w w':=by
 obtain⟨i9,aU,aP,aO,aN⟩:=info_parts Tryz.zgM;have hmf:∀(fn:Fn) (first cap:Array Value) (w:World),(Instr.makeFunc fn first cap).run prog w=.ok (.func fn first cap) w:=λ_ _ _ _=>rfl;obtain⟨lp,lc,elv,c37,aS,hle⟩:=hA.logAt;have aR:nb<w.heap.size:=zg hA.blk;obtain⟨⟨K,H,R,f,v,nl,t⟩,fr,own⟩:=p;show Calls prog 185 #[pA nb 0,.agg #[iA K,iA H,iA R,iA f,iA v,bA nl,sA t,sA fr,bA own]] w λe w'=>∃v,e=.returned v/\w'.ownsRow w.heap.size 9 1 v (certTo (votesForB 3 R t) s.log 8).length ((certTo (votesForB 3 R t) s.log 8).map .string)/\BW w w';have k2:cN (w.alloc (.cells #[iA K,iA H,iA R,iA f,iA v,bA nl,sA t,sA fr,bA own] 164)) w 2 (iA R):=zjD _ w.heap.size 2 _ _ _ (zjC w _);have k6:cN (w.alloc (.cells #[iA K,iA H,iA R,iA f,iA v,bA nl,sA t,sA fr,bA own] 164)) w 6 (sA t):=zjD _ w.heap.size 6 _ _ _ (zjC w _);have HV:=zc (kj 3 R t (w.alloc (.cells #[iA K,iA H,iA R,iA f,iA v,bA nl,sA t,sA fr,bA own] 164)));have bd:Hid (BW w (w.alloc (.cells #[iA K,iA H,iA R,iA f,iA v,bA nl,sA t,sA fr,bA own] 164))):=bwA w;obtain⟨a8,aB,HM⟩:=zS hle c37 hm;clear hle c37 hm aS elv hA;go_enter func185,ntmps185;go_wp2_with (first|(go_at_call 151;refine HV.o.mono ?_;rintro e w2 ⟨g,lb,rfl,eg,ak,aH⟩;have aM:Hid (BW w w2):=yY bd aH;have HG:=zc eg;have ay:=zc ak;have aQ:=zaX g lb w2;clear eg ak aH)|fail)
 clear aQ;obtain⟨w3,ai⟩:=gen (w2.alloc (.cells #[.func (.func g) #[] lb] 183));have an:Hid (BW w w3):=by rw[ai];exact aM.o.alloc aM.o.size _
 have bb:Hid (∀l,FitsAt g lb (votesForB 3 R t) l w3):=by rw[ai];exact λl=>(ay l).later (bwA w2)
 have aX:Hid (w3.cell? (nA w2 0)=some (.func (.func g) #[] lb)):=by rw[ai];exact zjD _ w2.heap.size 0 _ _ _ (zjC w2 _)
 have aC:w3.heap.size=w2.heap.size+1:=by rw[ai];simp
 have aV:=zc aC;clear aC;have aZ:=zc ai;clear ai;first|rw[<-aZ.o]|skip
 go_loopw [6,7,15] (λv _ kv wr=>∃k:Nat,k<=8/\kv=iA k/\wr.ownsRow w3.heap.size 9 1 v (certTo (votesForB 3 R t) s.log k).length ((certTo (votesForB 3 R t) s.log k).map .string)/\BW w3 wr) (λ_ _ kv _=>8-(intOf kv).toNat)
 case atStart=>exact⟨0,zjG _,rfl,zjZ _ _ _ _,zjB _ _⟩
 obtain⟨k,hk,rfl,hv,hb⟩:=hrel;obtain⟨ae,HB⟩:=zn hv hb;clear hv hb;by_cases aq:k=8
 .subst aq;go_wp2;go_ret;exact⟨_,rfl,jD ae an.o.size,an.o.trans (HB.o.mono an.o.size)⟩
 have hk8:k<8:=by omega
 have aT:(k:Int)<8:=by omega
 obtain⟨w4,aj⟩:=gen (wr.alloc (.cells #[iA k] 3));have aL:Hid (BW wr w4):=by rw[aj];exact bwA wr
 have aW:Hid (w4.cell? (nA wr 0)=some (iA k)):=by rw[aj];exact zjD _ wr.heap.size 0 _ _ _ (zjC wr _)
 have ag:Hid (BW w3 w4):=yY HB aL;have ah:Hid (BW w w4):=an.o.trans (ag.o.mono an.o.size);have aF:cE w4 nb 37 (.slice lp s.log.length lc):=(ah.o.cell (p:=(aA nb 37)) (by exact aR)).trans aB;have ar:=aF;rw[aj] at ar;have aE:cN w4 w2 0 (.func (.func g) #[] lb):=(ag.o.cell (p:=(nA w2 0)) (by show w2.heap.size<w3.heap.size;rw[aV.o];omega)).trans aX.o;have aK:=zc (Kk 201 #[pA wr.heap.size 0,pA w2.heap.size 0] _ s.log lp lc w4 (enters_of func201 (by decide) rfl) ((a8.o.below ah.o).more ah.o.size) (by have:=HM.o;omega) (zav g lb (votesForB 3 R t) wr.heap.size w2.heap.size (k:Int) s.log w4 HG.o aW.o aE ((bb.o s.log).later ag.o)));have aY:=zc aj;have az:Hid ((certTo (votesForB 3 R t) s.log k).length<=80000000):=by
  have h1:=Yt (votesForB 3 R t) s.log k;have h2:k*s.log.length<=8*10000000:=Nat.mul_le_mul (by omega) HM.o;unfold Hid;omega
 have ax:=zc (vY (λe=>decide (e.m.f=(k:Int))&&votesForB 3 R t e) s.log);obtain⟨L0,aw⟩:=gen (certTo (votesForB 3 R t) s.log k);obtain⟨L1,av⟩:=gen (zJ (λe=>decide (e.m.f=(k:Int))&&votesForB 3 R t e) s.log);rw[<-aw] at ae az;rw[<-av] at aK ax;have HS:Hid (certTo (votesForB 3 R t) s.log (k+1)=L0++L1):=by rw[aw,av];rfl
 clear aj aF aE aw av;go_wp2_with fail
 rw[<-aY.o];refine aK.o.mono ?_;rintro e w5 ⟨v5,rfl,ao,aG⟩;obtain⟨p5,c5,rfl,_,aD⟩:=kV ao;obtain⟨a7,ba⟩:=zn (vT ao) aD;have al:Hid (BW wr w5):=yY aL aG;have af:Hid (BW w3 w5):=yY HB al;have aJ:=zc (z7 ae al);clear ao aG aD;go_wp2_with (at_builtin;refine xi _ rfl _ _ 30 rfl w3.heap.size 9 i9 (sA zj4) 16 underlying30 aU aP aO aN rfl _ L0.length _ rfl aJ.o p5 L1.length c5 (λi=>L1.getD i zj4) rfl a7.o ba.o (by have:=az.o;have:=ax.o;have:=HM.o;unfold maxLen;omega) (by have:=az.o;have:=ax.o;have:=HM.o;omega) af.o.size ?_;intro v6 w6 ad aa au;have a6:=zc ad;have bc:Hid (BW w3 w6):=af.o.grown aa af.o.size (λk hk=>(aJ.o.lt k hk).1);clear ad aa au)
 go_roundw
 case rel=>
  refine⟨k+1,by omega,by go_num,?_,bc.o⟩;have h:=a6.o;rw[Y6] at h;rw[HS.o,zjO,List.map_append];exact h
 simp[intOf];omega
end
section
variable{i r h S T:Nat}{s:za}{p:zl}{l:List zl}{e:Int}
def za.kept(s:za)(p:zl):za:={ s with dec:=s.dec++[⟨p.m.s,p.fr,certTo (votesForB 3 p.m.r p.m.s) s.log 8,false⟩],x:=(zi s.x p.m.s).1,wait:=kP s.wait (pcs p.m.s) }
def za.zfR(s:za)(i:Nat)(p:zl):za:=(s.kept p).zir i
def za.zgr(s:za):Option zl:=(List.range 21).findSome? s.zgk
def za.zfY(i:Nat)(s:za):Bool×za:=match s.zgr with|none=>(false,s)|some p=>(true,s.zfR i p)
theorem qR(h:s.zgr=none):za.zfY i s=(false,s):=by unfold za.zfY;rw[h]
theorem qa(h:s.zgr=some p):za.zfY i s=(true,s.zfR i p):=by unfold za.zfY;rw[h]
theorem Ky(s:za)(h:¬(za.zfY i s).1=true):za.zfY i s=(false,s):=by
 cases hd:s.zgr with
 |none=>exact qR hd
 |some p=>rw[qa hd] at h;exact absurd rfl h
theorem zbR{α:Type}(f:Nat->Option α)(n:Nat)(h:∀q,q<n->f q=none):(List.range n).findSome? f=none:=by
 rw[List.findSome?_eq_none_iff];intro x hx;exact h x (List.mem_range.1 hx)
theorem zbQ{α:Type}(f:Nat->Option α)(r:Nat)(p:α)(h0:∀q,q<r->f q=none)(h1:f r=some p):∀d,(List.range (r+1+d)).findSome? f=some p
 |0=>by
  rw[Nat.add_zero,List.range_succ,List.findSome?_append,zbR f r h0];simp[h1]
 |d+1=>by
  rw[show r+1+(d+1)=(r+1+d)+1 from rfl,List.range_succ,List.findSome?_append,zbQ f r p h0 h1 d];rfl
theorem J6(h:∀q,q<=20->s.zgk q=none):s.zgr=none:=zbR _ 21 λq hq=>h q (by omega)
theorem zb5(hr:r<=20)(h0:∀q,q<r->s.zgk q=none)(h1:s.zgk r=some p):s.zgr=some p:=by
 have:=zbQ s.zgk r p h0 h1 (20-r);rw[show r+1+(20-r)=21 by omega] at this;exact this
theorem jt(h:s.zgr=some p):∃r,r<=20/\s.zgk r=some p:=by
 obtain⟨r,hr,h1⟩:=List.exists_of_findSome?_eq_some h;exact⟨r,by have:=List.mem_range.1 hr;omega,h1⟩
theorem kY{r:Int}{fits:zl->Bool}(h:propF l r fits=some p):p∈l/\p.m.k=1/\p.m.r=r/\fits p=true:=by
 have h1:=List.mem_of_find?_eq_some h;have h2:jC r fits p=true:=List.find?_some h;unfold jC at h2;rw[Bool.and_eq_true_iff,Bool.and_eq_true_iff] at h2;exact⟨h1,zjP h2.1.1,zjP h2.1.2,h2.2⟩
def gQ(k r f:Int)(e:zl):Bool:= !e.own&&(decide (e.m.k=k)&&decide (e.m.r=r)&&decide (e.m.f=f))
structure jx (h:Nat) (l:List zl):Prop where
 ok:∀e∈l,Xp e
 kk:∀e∈l,1<=e.m.k/\e.m.k<=3
 hh:∀e∈l,e.m.h=(h:Int)/\e.m.h<12
 two:∀k r f:Int,l.countP (gQ k r f)<=2
theorem jx.nil(h:Nat):jx h []:=⟨(λ_ h=>by cases h),(λ_ h=>by cases h),(λ_ h=>by cases h),(λ_ _ _=>by simp)⟩
theorem jx.filter(hl:jx h l)(p:zl->Bool):jx h (l.filter p):=
 ⟨λe he=>hl.ok e ((List.mem_filter.1 he).1),λe he=>hl.kk e ((List.mem_filter.1 he).1),λe he=>hl.hh e ((List.mem_filter.1 he).1),λk r f=>zjF (List.filter_sublist.countP_le) (hl.two k r f)⟩
theorem jx.own(hl:jx h l){e:zl}(ho:e.own=true)(h1:Xp e)(h2:1<=e.m.k/\e.m.k<=3)(h3:e.m.h=(h:Int)/\e.m.h<12):jx h (l++[e]):=by
 refine⟨λx hx=>?_,λx hx=>?_,λx hx=>?_,λk r f=>?_⟩
 .rcases List.mem_append.1 hx with hx|hx
  .exact hl.ok x hx
  rw[List.mem_singleton.1 hx];exact h1
 .rcases List.mem_append.1 hx with hx|hx
  .exact hl.kk x hx
  rw[List.mem_singleton.1 hx];exact h2
 .rcases List.mem_append.1 hx with hx|hx
  .exact hl.hh x hx
  rw[List.mem_singleton.1 hx];exact h3
 rw[List.countP_append];have:List.countP (gQ k r f) [e]=0:=by simp[gQ,ho]
 have:=hl.two k r f;omega
theorem jx.more(hl:jx h l){e:zl}(hn:l.countP (gQ e.m.k e.m.r e.m.f)<=1)(h1:Xp e)(h2:1<=e.m.k/\e.m.k<=3)(h3:e.m.h=(h:Int)/\e.m.h<12):jx h (l++[e]):=by
 refine⟨λx hx=>?_,λx hx=>?_,λx hx=>?_,λk r f=>?_⟩
 .rcases List.mem_append.1 hx with hx|hx
  .exact hl.ok x hx
  rw[List.mem_singleton.1 hx];exact h1
 .rcases List.mem_append.1 hx with hx|hx
  .exact hl.kk x hx
  rw[List.mem_singleton.1 hx];exact h2
 .rcases List.mem_append.1 hx with hx|hx
  .exact hl.hh x hx
  rw[List.mem_singleton.1 hx];exact h3
 rw[List.countP_append];by_cases hk:gQ k r f e=true
 .have:List.countP (gQ k r f) [e]<=1:=List.countP_le_length
  unfold gQ at hk;rw[Bool.and_eq_true_iff,Bool.and_eq_true_iff,Bool.and_eq_true_iff] at hk;have e1:=zjP hk.2.1.1;have e2:=zjP hk.2.1.2;have e3:=zjP hk.2.2;rw[e1,e2,e3] at hn;omega
 have:List.countP (gQ k r f) [e]=0:=by simp[hk]
 have:=hl.two k r f;omega
theorem zbi{α:Type}(f:α->Nat)(c:Nat):∀(m:Nat) (l:List α),(∀e∈l,f e<m)->(∀j,j<m->l.countP (λe=>decide (f e=j))<=c)->l.length<=c*m
 |0,l,h,_=>by
  cases l with
  |nil=>simp
  |cons a l=>exact absurd (h a (zjV ..)) (by omega)
 |m+1,l,h,hc=>by
  have h1:=zbi f c m (l.filter λe=> !decide (f e=m)) (λe he=>by
   have h2:=h e ((List.mem_filter.1 he).1);have h3:=(List.mem_filter.1 he).2;have h4:f e≠m:=by simpa using h3
   omega) (λj hj=>zjF (List.filter_sublist.countP_le) (hc j (by omega)))
  have h2:=hc m (by omega);have h3:=List.length_eq_countP_add_countP (λe=>decide (f e=m)) (l:=l);have h4:List.countP (λa=>decide ¬decide (f a=m)=true) l=(l.filter λe=> !decide (f e=m)).length:=by
   rw[List.countP_eq_length_filter]
   congr 1
   apply List.filter_congr;intro x _;simp
  rw[Nat.mul_add,Nat.mul_one];omega
def ze5(e:zl):Nat:=(((e.m.k-1)*21+e.m.r)*8+e.m.f).toNat
theorem jx.came(hl:jx h l):(l.filter λe=> !e.own).length<=1008:=by
 have hb:∀e∈l,1<=e.m.k/\e.m.k<=3/\0<=e.m.r/\e.m.r<=20/\0<=e.m.f/\e.m.f<8:=λe he=>⟨(hl.kk e he).1,(hl.kk e he).2,(hl.ok e he).r0,(hl.ok e he).r20,(hl.ok e he).f0,(hl.ok e he).f8⟩;refine zbi ze5 2 504 _ (λe he=>?_) λj hj=>?_
 .obtain ⟨h1,h2,h3,h4,h5,h6⟩:=hb e ((List.mem_filter.1 he).1)
  unfold ze5;omega
 rw[List.countP_filter];by_cases hx:∃e0,e0∈l/\ze5 e0=j
 .obtain ⟨e0,ad,aa⟩:=hx
  refine zjF (List.countP_mono_left (λe he hp=>?_)) (hl.two e0.m.k e0.m.r e0.m.f);rw[Bool.and_eq_true_iff] at hp;have hk:=zjP hp.1;obtain⟨a1,a2,a3,a4,a5,a6⟩:=hb e0 ad;obtain⟨b1,b2,b3,b4,b5,b6⟩:=hb e he;unfold ze5 at hk aa;unfold gQ;rw[hp.2,zjQ (show e.m.k=e0.m.k by omega),zjQ (show e.m.r=e0.m.r by omega),zjQ (show e.m.f=e0.m.f by omega)];rfl
 have:List.countP (λa=>decide (ze5 a=j)&& !a.own) l=0:=by
  rw[List.countP_eq_zero];intro a ha hp;rw[Bool.and_eq_true_iff] at hp;exact hx ⟨a,ha,zjP hp.1⟩
 omega
def xB(l:List zl):Nat:=l.countP λe=>e.own
theorem zbI(l:List zl):l.length=xB l+(l.filter λe=> !e.own).length:=by
 unfold xB;rw[List.length_eq_countP_add_countP (λe:zl=>e.own) (l:=l),List.countP_eq_length_filter (p:=λa:zl=>decide ¬a.own=true)]
 congr 2
 apply List.filter_congr;intro x _;simp
def za.flags(s:za):Nat:=s.b1.toNat+s.b2.toNat+s.b3.toNat
theorem QH(s:za):s.flags<=3:=by
 unfold za.flags;have h1:=Bool.toNat_le s.b1;have h2:=Bool.toNat_le s.b2;have h3:=Bool.toNat_le s.b3;omega
structure NOk (S T i:Nat) (e:Int) (s:za):Prop where
 dom:Dom s.x
 pos:0<sumTo s.x 8
 hgt:s.zfF<=12
 rnd:s.round<=20
 stp:s.step<=3
 log:jx s.zfF s.log
 ahead:jx (s.zfF+1) s.ahead
 ao:∀e∈s.ahead,e.own=false
 own:(xB s.log:Int)<=4*s.round+s.step+e
 sg:((s.sg i).length:Int)<=S+84*s.zfF+4*s.round+s.step+e
 tb:s.tb<=3*(21*s.zfF+s.round)+s.flags
 tims:s.tims.length<=s.tb
 time:s.time<=T
 wait:s.wait.length<=5
 waitz:∀t∈s.wait,t.size<=1000
 vz:s.vv.size<=24
 cert:∀d∈s.dec,d.cert.length<=100000
 out:s.out.length<=100
theorem NOk.mono{e':Int}(h:NOk S T i e s)(he:e<=e'):NOk S T i e' s:=
 { h with own:=by have:=h.own;omega,sg:=by have:=h.sg;omega }
theorem NOk.lens(h:NOk S T i e s)(he:e<=1):s.log.length<=2000/\s.ahead.length<=2000:=by
 have h1:=h.log.came;have h2:=h.ahead.came;have h3:=zbI s.log;have h4:=zbI s.ahead;have h5:xB s.ahead=0:=by
  unfold xB;rw[List.countP_eq_zero];intro a ha hp;rw[h.ao a ha] at hp;cases hp
 have h6:=h.own;have h7:=h.rnd;have h8:=h.stp;omega
theorem NOk.st(h:NOk S T i e s)(he:e<=1)(hT:T<=1000000000000)(hS:S<=900000000000):YI 2000 s/\(s.sg i).length<=1000000000000:=by
 obtain⟨h1,h2⟩:=h.lens he;have h3:=h.tb;have h4:=h.tims;have h5:=h.hgt;have h6:=h.rnd;have h7:=QH s;have h8:=h.sg;have h9:=h.stp;exact⟨⟨h.dom,h.pos,h.hgt,h.rnd,h1,h2,by omega,by omega,zjF h.time hT,h.log.ok,h.ahead.ok,h.wait,h.waitz,h.vz⟩,by omega⟩
theorem GG{sg:Nat->List zj5}{k:Nat}{u:zj5}:(signR sg k u i).length<=(sg i).length+1:=by
 unfold signR;split
 .rename_i h1;rw[h1.1,zjO];exact zjA _
 omega
theorem zd6{out:List zj5}{f:zj5}(h:out.length<=100):(put1 out f).length<=100:=by
 unfold put1;split
 .rw [zjO,List.length_singleton];omega
 exact h
theorem NOk.send(h:NOk S T i e s)(k v:Int)(nl:Bool)(t:zj5):NOk S T i (e+1) (s.zfI i k v nl t):=by
 unfold za.zfI;split
 .exact h.mono (by omega)
 split
 .rename_i hp hb;have aa:=zjP hb;obtain⟨b1,b2,b3,b4,b5,b6,b7,b8⟩:=aa;have hr:=h.rnd;refine { h with log:=?_,own:=?_,sg:=?_,out:=zd6 h.out }
  .refine h.log.own rfl ⟨b5,b6,b3,by show(s.round:Int)<=20;omega,b7⟩ ?_ ⟨rfl,b2⟩;show 1<=k/\k<=3;omega
  .have h1:=h.own;show((xB (s.log++[_]):Nat):Int)<=4*(s.round:Int)+(s.step:Int)+(e+1);unfold xB at h1 ⊢;rw[List.countP_append];simp only[List.countP_singleton,if_true];omega
  have h1:=h.sg;have h2:=GG (sg:=s.sg) (k:=i) (i:=i) (u:=s.enc i k v nl t);show(((signR s.sg i (s.enc i k v nl t) i).length:Nat):Int)<=S+84*(s.zfF:Int)+4*(s.round:Int)+(s.step:Int)+(e+1);omega
 exact h.mono (by omega)
theorem NOk.step{st:Nat}(h:NOk S T i e s)(hst:st<=3):NOk S T i (e+s.step-st) (s.zfO st):=by
 refine { h with stp:=hst,own:=?_,sg:=?_ }
 .have h1:=h.own;show(xB s.log:Int)<=4*(s.round:Int)+(st:Int)+(e+s.step-st);omega
 have h1:=h.sg;show((s.sg i).length:Int)<=S+84*(s.zfF:Int)+4*(s.round:Int)+(st:Int)+(e+s.step-st);omega
theorem NOk.timer{num ticks:Nat}(h:NOk S T i e s)(hn:num=1/\s.b1=false\/num=2/\s.b2=false\/num=3/\s.b3=false):NOk S T i e (s.timer num ticks):=by
 refine { h with tb:=?_,tims:=?_ }
 .have h1:=h.tb;show s.tb+1<=3*(21*s.zfF+s.round)+(s.timer num ticks).flags;have h2:(s.timer num ticks).flags=s.flags+1:=by
   unfold za.flags za.timer;rcases hn with⟨rfl,h⟩|⟨rfl,h⟩|⟨rfl,h⟩<;>simp[h]<;>omega
  omega
 have h1:=h.tims;show(upT s.tims.length (s.tims++[_]) s.tims.length).length<=s.tb+1;rw[vM,zjO];simp only[List.length_singleton];omega
theorem NOk.turn{st:Nat}(h:NOk S T i e s)(hr:s.round<r)(hr2:r<=20)(hst:st<=3):NOk S T i (e+(4*s.round+s.step)-(4*r+st)) (s.zfL r st):=by
 refine { h with rnd:=hr2,stp:=hst,own:=?_,sg:=?_,tb:=?_ }
 .have h1:=h.own;show(xB s.log:Int)<=4*(r:Int)+(st:Int)+(e+(4*s.round+s.step)-(4*r+st));omega
 .have h1:=h.sg;show((s.sg i).length:Int)<=S+84*(s.zfF:Int)+4*(r:Int)+(st:Int)+(e+(4*s.round+s.step)-(4*r+st));omega
 have h1:=h.tb;have h2:=QH s;show s.tb<=3*(21*s.zfF+r)+(s.zfL r st).flags;have h3:(s.zfL r st).flags=0:=rfl;omega
theorem NOk.begin(h:NOk S T i (-1) (s.zfL r 1)):NOk S T i 0 (s.zfH i r):=by
 unfold za.zfH;split
 .have:=h.send 1 s.vr false (if s.vr<0 then blockF s.x s.wait else s.vv)
  exact this.mono (by omega)
 exact(h.timer (zj0 ⟨rfl,rfl⟩)).mono (by omega)
theorem Kp(t:zj5):∀l:List zj5,(xe t l).Sublist l
 | []=>List.Sublist.refl _
 |e::l=>by
  unfold xe;split
  .exact List.sublist_cons_self _ _
  .exact (Kp t l).cons_cons e
theorem qP(l:List zj5)(ps:List zj5):(kP l ps).Sublist l:=by
 unfold kP;induction ps generalizing l with
 |nil=>exact List.Sublist.refl _
 |cons p ps ih=>exact(ih _).trans (Kp p l)
theorem NOk.next{st:Nat}(h:NOk S T i 0 s)(hp:p∈s.log)(hg:s.zgc p.m.s=true)(q:zl->Bool)(hst:st<=3)(he:0<=st+e):NOk S T i e (((s.kept p).zfK ((s.kept p).ahead.filter q)).zfL 0 st):=by
 have hh:s.zfF<12:=by
  have:=h.log.hh p hp;omega
 have hk:(s.kept p).zfF=s.zfF+1:=by
  show(s.dec++[_]).length=s.dec.length+1;simp
 have hln:=(h.lens (by omega)).1;have hH:(((s.kept p).zfK ((s.kept p).ahead.filter q)).zfL 0 st).zfF=s.zfF+1:=hk;have aa:=qP s.wait (pcs p.m.s);have hr:=h.rnd;have hs:=h.stp;have hz:xB ((s.kept p).ahead.filter q)=0:=by
  unfold xB;rw[List.countP_eq_zero];intro a ha hp;rw[h.ao a ((List.mem_filter.1 ha).1)] at hp;cases hp
 refine⟨h.dom.behind _,Zk h.pos hg,by rw[hH];omega,zjG _,hst,?_,jx.nil _,(λ_ h=>by cases h),?_,?_,?_,?_,h.time,?_,?_,zjG _,?_,h.out⟩
 .rw [hH];exact h.ahead.filter q
 .show (xB ((s.kept p).ahead.filter q):Int)<=4*((0:Nat):Int)+(st:Int)+e
  rw[hz];omega
 .have h1:=h.sg;rw[hH];show((s.sg i).length:Int)<=S+84*((s.zfF+1:Nat):Int)+4*((0:Nat):Int)+(st:Int)+e;omega
 .have h1:=h.tb;have h2:=QH s;rw[hH];show s.tb<=3*(21*(s.zfF+1)+0)+0;omega
 .exact h.tims
 .exact zjF aa.length_le h.wait
 .exact λt ht=>h.waitz t (aa.subset ht)
 intro d hd;rcases List.mem_append.1 (show d∈s.dec++[_] from hd) with h1|h1
 .exact h.cert d h1
 rw[List.mem_singleton.1 h1];have:=Yt (votesForB 3 p.m.r p.m.s) s.log 8;show(certTo (votesForB 3 p.m.r p.m.s) s.log 8).length<=100000;omega
theorem NOk.keep(h:NOk S T i 0 s)(hp:p∈s.log)(hg:s.zgc p.m.s=true):NOk S T i 0 (s.zfR i p):=by
 unfold za.zfR;rw[zu];split
 .exact h.next hp hg _ (by omega) (by omega)
 exact NOk.begin (h.next hp hg _ (by omega) (by omega))
theorem yO(h:s.zgk r=some p):p∈s.log/\p.m.k=1/\p.m.r=(r:Int)/\s.most (votesForB 3 (r:Int) p.m.s)=true/\s.zgc p.m.s=true:=by
 obtain⟨h1,h2,h3,h4⟩:=kY h;exact⟨h1,h2,h3,Bool.and_eq_true_iff.1 h4⟩
def za.zgh(s:za):Nat:=8*(21*s.zfF+s.round)+s.step+s.held.toNat+s.b2.toNat+s.b3.toNat
theorem zq(s:za)(i:Nat)(k v:Int)(nl:Bool)(t:zj5):(s.zfI i k v nl t).dec=s.dec/\(s.zfI i k v nl t).round=s.round/\(s.zfI i k v nl t).step=s.step/\(s.zfI i k v nl t).held=s.held/\(s.zfI i k v nl t).b1=s.b1/\(s.zfI i k v nl t).b2=s.b2/\(s.zfI i k v nl t).b3=s.b3/\(s.zfI i k v nl t).x=s.x/\(s.zfI i k v nl t).wait=s.wait/\(s.zfI i k v nl t).ahead=s.ahead/\(s.zfI i k v nl t).time=s.time/\(s.zfI i k v nl t).tims=s.tims:=by
 unfold za.zfI;split
 .exact ⟨rfl,rfl,rfl,rfl,rfl,rfl,rfl,rfl,rfl,rfl,rfl,rfl⟩
 split
 .exact ⟨rfl,rfl,rfl,rfl,rfl,rfl,rfl,rfl,rfl,rfl,rfl,rfl⟩
 exact⟨rfl,rfl,rfl,rfl,rfl,rfl,rfl,rfl,rfl,rfl,rfl,rfl⟩
theorem vu(s:za)(i:Nat)(k v:Int)(nl:Bool)(t:zj5):(s.zfI i k v nl t).zgh=s.zgh:=by
 obtain⟨h1,h2,h3,h4,h5,h6,h7,-⟩:=zq s i k v nl t;unfold za.zgh za.zfF;rw[h1,h2,h3,h4,h6,h7]
theorem Y5(s:za)(i r:Nat):(s.zfH i r).zgh=8*(21*s.zfF+r)+1:=by
 unfold za.zfH;split
 .rw [vu];rfl
 rfl
theorem Y4(s:za):s.held.toNat+s.b2.toNat+s.b3.toNat<=3:=by
 have h1:=Bool.toNat_le s.held;have h2:=Bool.toNat_le s.b2;have h3:=Bool.toNat_le s.b3;omega
theorem NOk.zgh(h:NOk S T i e s):s.zgh<=2190:=by
 have h1:=h.hgt;have h2:=h.rnd;have h3:=h.stp;have h4:=Y4 s;unfold za.zgh;omega
theorem NOk.one(h:NOk S T i 0 s)(ht:(s.zfT (za.zfY i) i).1=true):NOk S T i 0 (s.zfT (za.zfY i) i).2/\s.zgh<(s.zfT (za.zfY i) i).2.zgh:=by
 have hr:=h.rnd;have hs:=h.stp;have hf:=Y4 s;unfold za.zfT at ht ⊢;split
 .rename_i h1;cases hd:s.zgr with
  |none=>rw[qR hd] at h1;cases h1
  |some p=>
   rw[qa hd];obtain⟨r,_,h2⟩:=jt hd;obtain⟨h3,_,_,_,h4⟩:=yO h2;refine⟨h.keep h3 h4,?_⟩;have hk:(s.kept p).zfF=s.zfF+1:=by
    show(s.dec++[_]).length=s.dec.length+1;simp
   show s.zgh<(s.zfR i p).zgh;unfold za.zfR;rw[zu];split
   .show s.zgh<8*(21*(s.kept p).zfF+0)+0+0+0+0;unfold za.zgh;omega
   rw[Y5];show s.zgh<8*(21*(s.kept p).zfF+0)+1;unfold za.zgh;omega
 rename_i h0;rw[zj3 h0] at ht;split
 .rename_i h1;unfold za.zf1 at h1 ⊢;split
  .rename_i h2;rw[h2] at h1;cases h1
  rename_i r h2;have h3:=List.mem_range.1 (List.mem_of_find?_eq_some h2);have h4:s.zfV r=true:=List.find?_some h2;unfold za.zfV at h4;have h5:=zjP (Bool.and_eq_true_iff.1 h4).1;refine⟨NOk.begin ((h.turn h5 (by omega) (by omega)).mono (by omega)),?_⟩;show s.zgh<(s.zfH i r).zgh;rw[Y5];unfold za.zgh;omega
 rename_i h1;rw[zj3 h1] at ht;have aa:∀fits,(s.zfU i fits).1=true->NOk S T i 0 (s.zfU i fits).2/\s.zgh<(s.zfU i fits).2.zgh:=λfits h2=>by
  by_cases h3:s.step=1
  .cases hp:propF s.log (s.round:Int) fits with
   |none=>rw[qg h3 hp] at h2;cases h2
   |some p=>
    by_cases hm:s.zgP p=true
    .rw [YC h3 hp hm];refine⟨((h.send 2 0 false p.m.s).step (st:=2) (by omega)).mono ?_,?_⟩
     .rw [(zq s i 2 0 false p.m.s).2.2.1,h3];omega
     have h4:=vu s i 2 0 false p.m.s;have h5:=(zq s i 2 0 false p.m.s).2.2.1;unfold za.zgh at h4 ⊢;show _<8*(21*(s.zfI i 2 0 false p.m.s).zfF+(s.zfI i 2 0 false p.m.s).round)+2+(s.zfI i 2 0 false p.m.s).held.toNat+(s.zfI i 2 0 false p.m.s).b2.toNat+(s.zfI i 2 0 false p.m.s).b3.toNat;omega
    rw[zaA h3 hp (by simpa using hm)];refine⟨((h.send 2 0 true ⟨#[]⟩).step (st:=2) (by omega)).mono ?_,?_⟩
    .rw [(zq s i 2 0 true ⟨#[]⟩).2.2.1,h3];omega
    have h4:=vu s i 2 0 true ⟨#[]⟩;have h5:=(zq s i 2 0 true ⟨#[]⟩).2.2.1;unfold za.zgh at h4 ⊢;show _<8*(21*(s.zfI i 2 0 true ⟨#[]⟩).zfF+(s.zfI i 2 0 true ⟨#[]⟩).round)+2+(s.zfI i 2 0 true ⟨#[]⟩).held.toNat+(s.zfI i 2 0 true ⟨#[]⟩).b2.toNat+(s.zfI i 2 0 true ⟨#[]⟩).b3.toNat;omega
  rw[yR h3] at h2;cases h2
 split
 .rename_i h2;exact aa _ h2
 rename_i h2;rw[zj3 h2] at ht;split
 .rename_i h3;exact aa _ h3
 rename_i h3;rw[zj3 h3] at ht;split
 .rename_i h4;by_cases h5:¬s.step=1/\s.held=false
  .cases hp:s.zgF with
   |none=>rw[qE hp] at h4;cases h4
   |some p=>
    rw[jH h5.1 h5.2 hp];obtain⟨ad,_,_,_⟩:=kY hp;have hz:=(h.log.ok p ad).z;have h6:NOk S T i 0 (s.zfZ p.m.s):={ h with vz:=hz };have h7:(s.zfZ p.m.s).zgh=s.zgh+1:=by
     unfold za.zgh;rw[h5.2];show 8*(21*s.zfF+s.round)+s.step+1+s.b2.toNat+s.b3.toNat=8*(21*s.zfF+s.round)+s.step+0+s.b2.toNat+s.b3.toNat+1;omega
    split
    .rename_i h8;have h9:NOk S T i 0 (s.zfZ p.m.s).zf3:=⟨h6.dom,h6.pos,h6.hgt,h6.rnd,h6.stp,h6.log,h6.ahead,h6.ao,h6.own,h6.sg,h6.tb,h6.tims,h6.time,h6.wait,h6.waitz,h6.vz,h6.cert,h6.out⟩;have ae:(s.zfZ p.m.s).zf3.step=2:=h8;refine⟨((h9.send 3 0 false p.m.s).step (st:=3) (by omega)).mono ?_,?_⟩
     .rw [(zq (s.zfZ p.m.s).zf3 i 3 0 false p.m.s).2.2.1,ae];omega
     have h11:=vu (s.zfZ p.m.s).zf3 i 3 0 false p.m.s;have h12:=(zq (s.zfZ p.m.s).zf3 i 3 0 false p.m.s).2.2.1;have h13:(s.zfZ p.m.s).zf3.zgh=s.zgh+1:=h7;show s.zgh<(((s.zfZ p.m.s).zf3.zfI i 3 0 false p.m.s).zfO 3).zgh;have h14:(((s.zfZ p.m.s).zf3.zfI i 3 0 false p.m.s).zfO 3).zgh+((s.zfZ p.m.s).zf3.zfI i 3 0 false p.m.s).step=((s.zfZ p.m.s).zf3.zfI i 3 0 false p.m.s).zgh+3:=by
      unfold za.zgh za.zfO za.zfF;dsimp only
      omega
     omega
    refine⟨h6,?_⟩;show s.zgh<(s.zfZ p.m.s).zgh;omega
  rw[xZ h5] at h4;cases h4
 rename_i h4;rw[zj3 h4] at ht;split
 .rename_i h5;unfold za.zf4 at h5 ⊢;split
  .rename_i h6;refine⟨((h.send 3 0 true ⟨#[]⟩).step (st:=3) (by omega)).mono ?_,?_⟩
   .rw [(zq s i 3 0 true ⟨#[]⟩).2.2.1,h6.1];omega
   have h7:=vu s i 3 0 true ⟨#[]⟩;have h8:=(zq s i 3 0 true ⟨#[]⟩).2.2.1;have h9:((s.zfI i 3 0 true ⟨#[]⟩).zfO 3).zgh+(s.zfI i 3 0 true ⟨#[]⟩).step=(s.zfI i 3 0 true ⟨#[]⟩).zgh+3:=by
    unfold za.zgh za.zfO za.zfF;dsimp only
    omega
   show s.zgh<((s.zfI i 3 0 true ⟨#[]⟩).zfO 3).zgh;omega
  rename_i h6;rw[zj3 h6] at h5;cases h5
 rename_i h5;rw[zj3 h5] at ht;split
 .rename_i h6;unfold za.zf7 at h6 ⊢;split
  .rename_i h7;refine⟨h.timer (zj1 (zj0 ⟨rfl,h7.2.1⟩)),?_⟩;unfold za.zgh;rw[h7.2.1];show 8*(21*s.zfF+s.round)+s.step+s.held.toNat+0+s.b3.toNat<8*(21*s.zfF+s.round)+s.step+s.held.toNat+1+s.b3.toNat;omega
  rename_i h7;rw[zj3 h7] at h6;cases h6
 rename_i h6;rw[zj3 h6] at ht;unfold za.zf9 at ht ⊢;split
 .rename_i h7;refine⟨h.timer (zj1 (zj1 ⟨rfl,h7.1⟩)),?_⟩;unfold za.zgh;rw[h7.1];show 8*(21*s.zfF+s.round)+s.step+s.held.toNat+s.b2.toNat+0<8*(21*s.zfF+s.round)+s.step+s.held.toNat+s.b2.toNat+1;omega
 rename_i h7;rw[zj3 h7] at ht;cases ht
def za.zgn(i:Nat):Nat->za->za
 |0,s=>s
 |f+1,s=>if(s.zfT (za.zfY i) i).1=true then za.zgn i f (s.zfT (za.zfY i) i).2 else s
def za.zge(s:za)(i:Nat):za:=za.zgn i 2200 s
theorem zdM:∀(f:Nat) (s:za),NOk S T i 0 s->2190<f+s.zgh->∃k,RunTo (za.zfY i) i (NOk S T i 0) (za.zgn i f s) k s
 |0,s,h,hf=>by
  have:=h.zgh;omega
 |f+1,s,h,hf=>by
  by_cases h1:(s.zfT (za.zfY i) i).1=true
  .obtain ⟨h2,h3⟩:=h.one h1
   obtain⟨k,hk⟩:=zdM f _ h2 (by omega);refine⟨k+1,h,h1,?_⟩;unfold za.zgn;rw[zj2 h1];exact hk
  .refine ⟨0,h,by simpa using h1,?_⟩
   unfold za.zgn;rw[zj3 h1]
theorem Vz{dec:za->Bool×za}{G:za->Prop}{t:za}:∀(k:Nat) (s:za),RunTo dec i G t k s->G t
 |0,s,h=>by
  have h1:=h.1;rw[h.2.2] at h1;exact h1
 |k+1,s,h=>Vz k _ h.2.2
theorem NOk.runs(h:NOk S T i 0 s):(∃k,RunTo (za.zfY i) i (NOk S T i 0) (s.zge i) k s)/\NOk S T i 0 (s.zge i):=by
 obtain⟨k,hk⟩:=zdM 2200 s h (by omega);exact⟨⟨k,hk⟩,Vz k s hk⟩
end
section
variable{s s':za}{m:kE}{fr:zj5}{S T i:Nat}{t:zU}{l:List zU}
def putL(out l:List zj5):List zj5:=l.foldl put1 out
theorem Jq(l:List zj5):∀(m i:Nat) (out:List zj5),i+m=l.length->zcq (λk=>l.getD k zj4) out i m=putL out (l.drop i)
 |0,i,out,h=>by
  rw[List.drop_eq_nil_of_le (by omega)];rfl
 |m+1,i,out,h=>by
  rw[zcq,Jq l m (i+1) _ (by omega),List.drop_eq_getElem_cons (i:=i) (by omega),zjK,zjJ (by omega)];rfl
theorem XM(l:List zj5)(out:List zj5):zcq (λk=>l.getD k zj4) out 0 l.length=putL out l:=by
 rw[Jq l l.length 0 out (by omega),List.drop_zero]
theorem zbe(l:List zj5):∀(out:List zj5),out.length<=100->(putL out l).length<=100:=by
 induction l with
 |nil=>intro out h;exact h
 |cons a l ih=>
  intro out h;refine ih _ ?_;unfold put1;split
  .rw [zjO,List.length_singleton];omega
  exact h
def za.zf8(s:za)(h:Int):List zl:=if h=(s.zfF:Int) then s.log else s.ahead
def za.zgl(s:za)(m:kE)(fr:zj5):Option Nat:=
 if m.h<(s.zfF:Int) then some 3
 else if(s.zfF:Int)+1<m.h\/20<m.r then some 4
 else if m.h=(s.zfF:Int)/\s.zfJ m=true then some 5
 else if ZG (s.zf8 m.h) fr=true then some 6
 else if 2<=likeN (s.zf8 m.h) m then some 7
 else none
def za.zf2(s:za)(h:Nat):za:=
 if(s.dec.getD h yr).told=true then s
 else { s with dec:=s.dec.set h { s.dec.getD h yr with told:=true },out:=putL s.out ((s.dec.getD h yr).prop::(s.dec.getD h yr).cert) }
def za.zgv(s:za)(i:Nat)(m:kE)(fr:zj5):za:=
 if m.h<(s.zfF:Int) then s.zf2 m.h.toNat
 else match s.zgl m fr with
 |some _=>s
 |none=>(s.zf5 ⟨m,fr,false⟩).zge i
def za.zfM(s:za)(n i:Nat)(fr:zj5):za:=
 if zM fr=true/\zB s.sg n (decV fr).f fr=true then s.zgv i (decV fr) fr else s
theorem JF(l:List zl)(m:kE)(h:Nat)(hl:jx h l)(hm:m.h=(h:Int)):l.countP (gQ m.k m.r m.f)<=likeN l m:=by
 unfold likeN;rw[<-List.countP_eq_length_filter];refine List.countP_mono_left λe he hp=>?_;unfold gQ at hp;rw[Bool.and_eq_true_iff,Bool.and_eq_true_iff,Bool.and_eq_true_iff] at hp;unfold Qq;exact zjQ ⟨zjP hp.2.1.1,by rw[(hl.hh e he).1,hm],zjP hp.2.1.2,zjP hp.2.2⟩
theorem ZZ(h:s.zgl m fr=none):¬m.h<(s.zfF:Int)/\¬((s.zfF:Int)+1<m.h\/20<m.r)/\¬(m.h=(s.zfF:Int)/\s.zfJ m=true)/\¬ZG (s.zf8 m.h) fr=true/\¬2<=likeN (s.zf8 m.h) m:=by
 unfold za.zgl at h;split at h
 .cases h
 split at h
 .cases h
 split at h
 .cases h
 split at h
 .cases h
 split at h
 .cases h
 rename_i h1 h2 h3 h4 h5;exact⟨h1,h2,h3,h4,h5⟩
theorem NOk.take(h:NOk S T i 0 s)(hr:s.zgl m fr=none)(hm:0<=m.h/\m.h<12/\0<=m.r/\m.r<=255/\0<=m.f/\m.f<8/\m.s.size<=24/\1<=m.k/\m.k<=3):NOk S T i 0 (s.zf5 ⟨m,fr,false⟩):=by
 obtain⟨h1,h2,h3,h4,h5⟩:=ZZ hr;obtain⟨m1,m2,m3,m4,m5,m6,m7,m8,m9⟩:=hm;have aa:Xp ⟨m,fr,false⟩:=⟨m5,m6,m3,by show m.r<=20;omega,m7⟩;unfold za.zf5;split
 .rename_i e;have e2:m.h=(s.zfF:Int):=e;have hl:=JF s.log m s.zfF h.log e2;unfold za.zf8 at h5;rw[zj2 e2] at h5;refine { h with log:=h.log.more (by show s.log.countP (gQ m.k m.r m.f)<=1;omega) aa ⟨m8,m9⟩ ⟨e2,m2⟩,own:=?_ };have h6:=h.own;show((xB (s.log++[_]):Nat):Int)<=4*(s.round:Int)+(s.step:Int)+0;unfold xB at h6 ⊢;rw[List.countP_append,List.countP_singleton,zj3 (by exact zjX)];omega
 rename_i e;have e2:¬m.h=(s.zfF:Int):=e;have e3:m.h=((s.zfF+1:Nat):Int):=by omega
 have hl:=JF s.ahead m (s.zfF+1) h.ahead e3;unfold za.zf8 at h5;rw[zj3 e2] at h5;refine { h with ahead:=h.ahead.more (by show s.ahead.countP (gQ m.k m.r m.f)<=1;omega) aa ⟨m8,m9⟩ ⟨e3,m2⟩,ao:=?_ };intro x hx;rcases List.mem_append.1 hx with hx|hx
 .exact h.ao x hx
 rw[List.mem_singleton.1 hx]
theorem NOk.tell(h:NOk S T i 0 s)(k:Nat)(hk:k<s.zfF):NOk S T i 0 (s.zf2 k):=by
 unfold za.zf2;split
 .exact h
 have hH:(s.dec.set k { s.dec.getD k yr with told:=true }).length=s.dec.length:=List.length_set;have hm:s.dec.getD k yr∈s.dec:=by
  rw[zjK,zjJ hk];exact List.getElem_mem _
 refine { h with hgt:=?_,log:=?_,ahead:=?_,sg:=?_,tb:=?_,cert:=?_,out:=zbe _ _ h.out }
 .show (s.dec.set k _).length<=12
  rw[hH];exact h.hgt
 .show jx (s.dec.set k _).length s.log;rw[hH];exact h.log
 .show jx ((s.dec.set k _).length+1) s.ahead;rw[hH];exact h.ahead
 .have h1:=h.sg;show((s.sg i).length:Int)<=S+84*(((s.dec.set k _).length:Nat):Int)+4*(s.round:Int)+(s.step:Int)+0;rw[hH];exact h1
 .have h1:=h.tb;show s.tb<=3*(21*(s.dec.set k _).length+s.round)+s.flags;rw[hH];exact h1
 intro d hd;rcases List.mem_or_eq_of_mem_set hd with h1|h1
 .exact h.cert d h1
 have h2:=h.cert _ hm;rw[h1];exact h2
theorem NOk.recv(h:NOk S T i 0 s)(hm:0<=m.h/\m.h<12/\0<=m.r/\m.r<=255/\0<=m.f/\m.f<8/\m.s.size<=24/\1<=m.k/\m.k<=3):NOk S T i 0 (s.zgv i m fr):=by
 unfold za.zgv;split
 .exact h.tell _ (by omega)
 split
 .exact h
 rename_i h1;exact(h.take h1 hm).runs.2
theorem NOk.zfX{n:Nat}(h:NOk S T i 0 s):NOk S T i 0 (s.zfM n i fr):=by
 unfold za.zfM;split
 .rename_i h1;exact h.recv (qQ h1.1)
 exact h
def za.zga(s:za)(i:Nat)(t:zU):za:=
 if t.h=(s.zfF:Int)/\t.r=(s.round:Int) then
  (if t.n=1/\s.step=1 then s.nothing i 2 2
   else if t.n=2/\s.step=2 then s.nothing i 3 3
   else if t.n=3/\s.round<20 then s.zfH i (s.round+1)
   else s)
 else s
theorem NOk.exp(h:NOk S T i 0 s):NOk S T i 0 (s.zga i t):=by
 have hs:=h.stp;unfold za.zga;split
 .split
  .rename_i h1;refine((h.send 2 0 true ⟨#[]⟩).step (st:=2) (by omega)).mono ?_;rw[(zq s i 2 0 true ⟨#[]⟩).2.2.1,h1.2];omega
  split
  .rename_i h1;refine((h.send 3 0 true ⟨#[]⟩).step (st:=3) (by omega)).mono ?_;rw[(zq s i 3 0 true ⟨#[]⟩).2.2.1,h1.2];omega
  split
  .rename_i h1;exact NOk.begin ((h.turn (by omega) (by omega) (by omega)).mono (by omega))
  exact h
 exact h

/- The heap holds what it held. -/
theorem YW{j:Nat}(hi:i<l.length)(hj:j<l.length):(swapT l i j).Perm l:=by
 unfold swapT;rw[zjK,zjK,zjJ hi,zjJ hj];exact List.set_set_perm hi hj
theorem ZA:∀(f:Nat) (l:List zU) (i:Nat),i<l.length->(upT f l i).Perm l
 |0,l,_,_=>List.Perm.refl l
 |f+1,l,i,h=>by
  rw[upT];split
  .exact List.Perm.refl l
  .split
   .exact (ZA f _ _ (by rw[zY];omega)).trans (YW h (by omega))
   .exact List.Perm.refl l
theorem Ya(l:List zU):∀(f c m:Nat),jZ l f c m=m\/jZ l f c m<l.length
 |0,_,_=>zj0 rfl
 |f+1,c,m=>by
  rw[jZ];split
  .rename_i h;rcases Ya l f (c+1) c with h1|h1
   .exact zj1 (by rw[h1];exact h.1)
   .exact zj1 h1
  .exact Ya l f (c+1) m
theorem Ke(l:List zU):∀(f c m:Nat),l.length<=c->jZ l f c m=m
 |0,_,_,_=>rfl
 |f+1,c,m,h=>by
  rw[jZ,zj3 (by omega)];exact Ke l f (c+1) m (by omega)
theorem Ku:∀(f:Nat) (l:List zU) (i:Nat),(qZ f l i).Perm l
 |0,l,_=>List.Perm.refl l
 |f+1,l,i=>by
  rw[qZ];split
  .exact List.Perm.refl l
  .rename_i h;have h1:yT l i<l.length:=(Ya l 2 (2*i+1) i).resolve_left h;have h2:i<l.length:=by
    rcases Nat.lt_or_ge i l.length with h3|h3
    .exact h3
    .exact absurd (Ke l 2 (2*i+1) i (by omega)) h
   exact(Ku f _ _).trans (YW h2 h1)
theorem qD(t:zU)(l:List zU):(jN (t::l)).Perm l:=by
 unfold jN;refine(Ku _ _ _).trans ?_;rcases List.eq_nil_or_concat l with rfl|⟨l',z,e0⟩
 .exact List.Perm.refl _
 rw[List.concat_eq_append] at e0;subst e0;have e1:(t::(l'++[z])).length-1=l'.length+1:=by simp
 have e2:(t::(l'++[z])).getD (l'.length+1) kS=z:=by simp
 rw[e1,e2,List.set_cons_zero,List.take_succ_cons,List.take_left];have h:=(List.perm_middle (a:=z) (l₁:=l') (l₂:=[])).symm;rw[List.append_nil] at h;exact h
def za.zgV(s:za):Nat:=s.tims.countP λt=>decide (t.due<=(s.time:Int))
def zN(s s':za):Prop:=s'.time=s.time/\s'.zgV=s.zgV
theorem zN.refl(s:za):zN s s:=⟨rfl,rfl⟩
theorem zN.trans{s2:za}(h:zN s s')(h':zN s' s2):zN s s2:=⟨h'.1.trans h.1,h'.2.trans h.2⟩
theorem xf(h1:s'.time=s.time)(h2:s'.tims=s.tims):zN s s':=⟨h1,by unfold za.zgV;rw[h1,h2]⟩
theorem ZJ(s:za)(i:Nat)(k v:Int)(nl:Bool)(t:zj5):zN s (s.zfI i k v nl t):=by
 obtain⟨-,-,-,-,-,-,-,-,-,-,h1,h2⟩:=zq s i k v nl t;exact xf h1 h2
theorem Yo(s:za)(num ticks:Nat)(ht:0<ticks):zN s (s.timer num ticks):=by
 refine⟨rfl,?_⟩;show List.countP (λt=>decide (t.due<=(s.time:Int))) (upT s.tims.length (s.tims++[_]) s.tims.length)=_;rw[(ZA _ _ _ (by simp)).countP_eq,List.countP_append,List.countP_singleton,zj3 ?_]
 .rfl
 rw[decide_eq_true_eq];show¬(s.time:Int)+(ticks:Int)+(s.round:Int)<=(s.time:Int);omega
theorem Yp(s:za)(i r:Nat):zN s (s.zfH i r):=by
 unfold za.zfH;split
 .exact (xf (s:=s) (s':=s.zfL r 1) rfl rfl).trans (ZJ _ _ _ _ _ _)
 exact(xf (s:=s) (s':=s.zfL r 1) rfl rfl).trans (Yo _ _ _ (by omega))
theorem jU(s:za)(i:Nat)(k:Int)(st:Nat):zN s (s.nothing i k st):=
 (ZJ s i k 0 true ⟨#[]⟩).trans (xf rfl rfl)
theorem zdv(s:za)(i:Nat)(p:zl):zN s (s.zfR i p):=by
 unfold za.zfR;rw[zu];split
 .exact xf rfl rfl
 exact(xf (s:=s) (s':=(s.kept p).zfK ((s.kept p).ahead.filter λe=> !(s.kept p).zfJ e.m)) rfl rfl).trans (Yp _ _ _)
theorem Kr(s:za)(i:Nat)(fits:zl->Bool):zN s (s.zfU i fits).2:=by
 unfold za.zfU;split
 .split
  .exact zN.refl s
  dsimp only
  split
  .exact (ZJ s i 2 0 false _).trans (xf rfl rfl)
  exact jU s i 2 2
 exact zN.refl s
theorem zey(s:za)(i:Nat):zN s (s.zfT (za.zfY i) i).2:=by
 unfold za.zfT;split
 .unfold za.zfY;split
  .exact zN.refl s
  exact zdv s i _
 split
 .unfold za.zf1;split
  .exact zN.refl s
  exact Yp s i _
 split
 .exact Kr s i _
 split
 .exact Kr s i _
 split
 .unfold za.zgm;split
  .split
   .exact zN.refl s
   dsimp only
   split
   .exact (xf (s:=s) (s':=(s.zfZ _).zf3) rfl rfl).trans ((ZJ _ _ _ _ _ _).trans (xf rfl rfl))
   exact xf rfl rfl
  exact zN.refl s
 split
 .unfold za.zf4;split
  .exact jU s i 3 3
  exact zN.refl s
 split
 .unfold za.zf7;split
  .exact Yo s 2 2 (by omega)
  exact zN.refl s
 unfold za.zf9;split
 .exact Yo s 3 2 (by omega)
 exact zN.refl s
theorem VW(i:Nat):∀(f:Nat) (s:za),zN s (za.zgn i f s)
 |0,s=>zN.refl s
 |f+1,s=>by
  rw[za.zgn];split
  .exact (zey s i).trans (VW i f _)
  .exact zN.refl s
theorem zb0(s:za)(i:Nat)(t:zU):zN s (s.zga i t):=by
 unfold za.zga;split
 .split
  .exact jU s i 2 2
  split
  .exact jU s i 3 3
  split
  .exact Yp s i _
  exact zN.refl s
 exact zN.refl s
def za.zfN(s:za):za:={ s with time:=s.time+1,dec:=s.dec.map λd=>{ d with told:=false } }
def za.zfQ(s:za):za:={ s with tims:=jN s.tims }
def za.zf0(i:Nat):Nat->za->za
 |0,s=>s
 |f+1,s=>match s.tims with
  | []=>s
  |t::_=>if t.due<=(s.time:Int) then za.zf0 i f ((s.zfQ.zga i t).zge i) else s
def za.again(s:za):za:=if s.time % 5=0 then { s with out:=putL s.out (zJ (λe=>e.own) s.log) } else s
def za.zfW(s:za)(i:Nat):za:=(za.zf0 i (s.tims.length+1) s.zfN).again
theorem zd8(h:s.tims=t::l)(hd:t.due<=(s.time:Int)):s.zfQ.zgV+1=s.zgV:=by
 show List.countP (λt=>decide (t.due<=(s.time:Int))) (jN s.tims)+1=_;unfold za.zgV;rw[h,(qD t l).countP_eq,List.countP_cons,zj2 (zjQ hd)]
theorem Gp(h:s.tims=t::l)(hd:t.due<=(s.time:Int)):((s.zfQ.zga i t).zge i).zgV+1=s.zgV:=by
 have h1:zN s.zfQ ((s.zfQ.zga i t).zge i):=(zb0 _ _ _).trans (VW i 2200 _);rw[h1.2];exact zd8 h hd
theorem NOk.pop(h:NOk S T i 0 s):NOk S T i 0 s.zfQ:=by
 refine { h with tims:=?_ };have h1:=h.tims;show(jN s.tims).length<=s.tb;cases hl:s.tims with
 |nil=>exact zjG _
 |cons t l=>
  rw[(qD t l).length_eq];rw[hl] at h1;simp only[List.length_cons] at h1;omega
theorem NOk.zfN(h:NOk S T i 0 s):NOk S (T+1) i 0 s.zfN:=by
 have hH:s.zfN.zfF=s.zfF:=by
  show(s.dec.map _).length=s.dec.length;simp
 refine { h with hgt:=?_,log:=?_,ahead:=?_,sg:=?_,tb:=?_,time:=?_,cert:=?_ }
 .rw [hH];exact h.hgt
 .rw [hH];exact h.log
 .rw [hH];exact h.ahead
 .rw [hH];exact h.sg
 .rw [hH];exact h.tb
 .have:=h.time
  show s.time+1<=T+1;omega
 intro d hd;obtain⟨d',aa,rfl⟩:=List.mem_map.1 (show d∈s.dec.map _ from hd);exact h.cert d' aa
theorem NOk.zf0:∀(f:Nat) (s:za),NOk S T i 0 s->NOk S T i 0 (za.zf0 i f s)
 |0,_,h=>h
 |f+1,s,h=>by
  rw[za.zf0];split
  .exact h
  .split
   .exact NOk.zf0 f _ (h.pop.exp).runs.2
   .exact h
theorem NOk.again(h:NOk S T i 0 s):NOk S T i 0 s.again:=by
 unfold za.again;split
 .exact { h with out:=zbe _ _ h.out }
 exact h
theorem NOk.tick(h:NOk S T i 0 s):NOk S (T+1) i 0 (s.zfW i):=(NOk.zf0 _ _ h.zfN).again
def za.zg8(s:za)(t:zj5):Option Nat:=if yN t=false then some 11 else if 5<=s.wait.length then some 8 else none
def za.zgd(s:za)(t:zj5):za:=if s.zg8 t=none then { s with wait:=s.wait++[t] } else s
theorem zbT{t:zj5}(h:yN t=true):t.size<=1000:=by
 unfold yN qY at h;have h1:=zjP h;omega
theorem Jb{t:zj5}(h:s.zg8 t=none):yN t=true/\s.wait.length<5:=by
 unfold za.zg8 at h;split at h
 .cases h
 split at h
 .cases h
 rename_i h1 h2;exact⟨by simpa using h1,by omega⟩
theorem NOk.sub{t:zj5}(h:NOk S T i 0 s):NOk S T i 0 (s.zgd t):=by
 unfold za.zgd;split
 .rename_i h1;obtain⟨h2,h3⟩:=Jb h1;refine { h with wait:=?_,waitz:=?_ }
  .show (s.wait++[t]).length<=5
   rw[zjO,List.length_singleton];omega
  intro u hu;rcases List.mem_append.1 (show u∈s.wait++[t] from hu) with h4|h4
  .exact h.waitz u h4
  rw[List.mem_singleton.1 h4];exact zbT h2
 exact h
theorem NOk.sent(h:NOk S T i 0 s):NOk S T i 0 { s with out:=[] }:=⟨h.dom,h.pos,h.hgt,h.rnd,h.stp,h.log,h.ahead,h.ao,h.own,h.sg,h.tb,h.tims,h.time,h.wait,h.waitz,h.vz,h.cert,zjG _⟩
theorem NOk.ring{sg':Nat->List zj5}(h:NOk S T i 0 s)(he:sg' i=s.sg i):NOk S T i 0 { s with sg:=sg' }:=⟨h.dom,h.pos,h.hgt,h.rnd,h.stp,h.log,h.ahead,h.ao,h.own,by show((sg' i).length:Int)<=_;rw[he];exact h.sg,h.tb,h.tims,h.time,h.wait,h.waitz,h.vz,h.cert,h.out⟩

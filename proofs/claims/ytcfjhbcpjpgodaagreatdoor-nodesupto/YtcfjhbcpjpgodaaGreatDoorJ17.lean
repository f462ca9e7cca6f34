import Derived.Test.YtcfjhbcpjpgodaaGreatDoorJ12
import Derived.Test.YtcfjhbcpjpgodaaGreatDoorJ7
import Derived.BigQuiet
namespace Go.Proofs.YtcfjhbcpjpgodaaGreatDoor
open Go.RowKit Proofs.Tryz
set_option maxRecDepth 100000
set_option maxHeartbeats 0
set_option linter.all false
def spot(kind:Int)(i:Nat):Nat:=if kind=118 then i else 8+i
theorem gS(x:Nat->Int)(kind:Int)(i:Nat)(num:Int)(w:World)(h1:kind=118->i<8)(h2:kind≠118->i<26):
 Calls prog 136 #[.agg (regA x),.agg #[.int .u8 kind,iA i,iA num]] w λe w'=>e=.returned (.agg (regA (upd x (spot kind i) num)))/\BW w w':=by
 have z0:=zX;have e2:∀o1 o2:Obj,((w.alloc o1).alloc o2).heap.size=w.heap.size+1+1:=λo1 o2=>by simp
 obtain⟨W,hW⟩:∃W,W=((w.alloc (.cells (regA x) 116)).alloc (.cells #[.int .u8 kind,iA i,iA num] 226)).alloc (.cells (regA zA) 116):=⟨_,rfl⟩;have HR:Hid (RegAt W w.heap.size 116 x):=by
  unfold Hid;rw[hW];exact((RegAt.alloc w _ x).below (bwA _)).below (bwA _)
 have ad:Hid (RegAt W (w.heap.size+1+1) 116 zA):=by
  unfold Hid;have h:=RegAt.alloc ((w.alloc (.cells (regA x) 116)).alloc (.cells #[.int .u8 kind,iA i,iA num] 226)) 116 zA;rw[e2] at h;rw[hW];exact h
 have aa:W.heap[w.heap.size+1]? =some (.cells #[.int .u8 kind,iA i,iA num] 226 (0,0)):=by
  have h:=zgr (w.alloc (.cells (regA x) 116)) (.cells #[.int .u8 kind,iA i,iA num] 226);have e1:(w.alloc (.cells (regA x) 116)).heap.size=w.heap.size+1:=by simp
  rw[e1] at h;rw[hW,zg2 _ _ (w.heap.size+1) (by rw[e2];omega)];exact h
 have ag:=zgs W (w.heap.size+1) 0 _ _ _ aa;have af:=zgs W (w.heap.size+1) 1 _ _ _ aa;have ae:=zgs W (w.heap.size+1) 2 _ _ _ aa;simp only[List.getElem?_toArray,List.getElem?_cons_zero,List.getElem?_cons_succ] at ag af ae;have HB:Hid (BW w W):=by
  unfold Hid;rw[hW];exact((bwA w).alloc (by simp) _).alloc (by rw[e2];omega) _
 have hW2:=hW.symm;clear aa e2 hW;by_cases hk:kind=118
 .have ah:(i:Int)<8:=by have:=h1 hk;omega
  have ab:spot kind i=i:=zgT hk;subst hk;have hc:=HR.o.cell i (by omega);have hf:=HR.o.frozen i;have HU:=zc (HR.o.set i num (by omega));have HO:=zc (zd W w.heap.size i (iA num));rw[ab];go_enter func136,ntmps136;go_wp2_with (first|(refine zn rfl 116 _ rfl _ rfl 116 _ _ HU.o underlying116 rfl Tryz.zc2 ?_)|(refine zk rfl 116 _ _ rfl (w.heap.size+1+1) _ rfl rfl 116 _ (ad.o.only HO.o (by omega)) (zg _) Tryz.zc2 ?_;intro w5 hq ho))
  exact zgJ (v:=.agg (regA (upd x i num))) (gh results136 _ _ (w.heap.size+1+1) 116 _ _ rfl hq underlying116 rfl Tryz.zc2) rfl ⟨rfl,(HB.o.trans (HO.o.below (zgp _))).trans (ho.below (by omega))⟩
 have ah:(i:Int)<26:=by have:=h2 hk;omega
 have ab:spot kind i=8+i:=zgU hk;have hkb:(kind==118)=false:=by simpa using hk
 have hc:=HR.o.cell (8+i) (by omega);have hf:=HR.o.frozen (8+i);have HU:=zc (HR.o.set (8+i) num (by omega));have HO:=zc (zd W w.heap.size (8+i) (iA num));rw[ab];clear hk;go_enter func136,ntmps136;go_wp2_with (first|(refine zn rfl 116 _ rfl _ rfl 116 _ _ HU.o underlying116 rfl Tryz.zc2 ?_)|(refine zk rfl 116 _ _ rfl (w.heap.size+1+1) _ rfl rfl 116 _ (ad.o.only HO.o (by omega)) (zg _) Tryz.zc2 ?_;intro w5 hq ho))
 exact zgJ (v:=.agg (regA (upd x (8+i) num))) (gh results136 _ _ (w.heap.size+1+1) 116 _ _ rfl hq underlying116 rfl Tryz.zc2) rfl ⟨rfl,(HB.o.trans (HO.o.below (zgp _))).trans (ho.below (by omega))⟩
def powB(x:Nat->Int)(b:Nat->Bool):Nat->Int
 |0=>0
 |k+1=>powB x b k+if b k then x k else 0
theorem xR(x:Nat->Int)(b:Nat->Bool)(k:Nat)(h:∀i,i<k->0<=x i/\x i<=9):0<=powB x b k/\powB x b k<=9*k:=by
 induction k with
 |zero=>simp[powB]
 |succ k ih=>
  have h1:=ih λi hi=>h i (by omega);have h2:=h k (by omega);simp only[powB];split<;>omega
def Qi(t:Int)(x:Nat->Int)(b:Nat->Bool):Bool:=decide (t*sumTo x 8<3*powB x b 8)
theorem jM(t:Int)(x:Nat->Int)(b:Nat->Bool)(w:World)(hx:Dom x)(ht0:0<=t)(ht:t<=3):
 Calls prog 137 #[.agg (regA x),iA t,.agg (kj b)] w λe w'=>e=.returned (bA (Qi t x b))/\BW w w':=by
 have HX:=zc hx;clear hx;obtain⟨W,hW⟩:∃W,W=(w.alloc (.cells (regA x) 116)).alloc (.cells (kj b) 190):=⟨_,rfl⟩;have HR:Hid (RegAt W w.heap.size 116 x):=by
  unfold Hid;rw[hW];exact(RegAt.alloc w 116 x).below (bwA _)
 have ah:Hid (W.heap[w.heap.size+1]? =some (.cells (kj b) 190 (0,0))):=by
  unfold Hid;have h:=zgr (w.alloc (.cells (regA x) 116)) (.cells (kj b) 190);rw[World.size_alloc] at h;rw[hW];exact h
 have HB:Hid (BW w W):=by
  unfold Hid;rw[hW];exact(bwA w).alloc (by simp) _
 have HT:=zc (λV=>xh x V (λi _=>HX i));have ae:=Jr b;go_enter func137,ntmps137;go_wp2_with (first|(rw[<-hW];clear hW;refine zg4 rfl 190 _ rfl (w.heap.size+1) rfl 190 (kj b) (0,0) _ ah underlying190 rfl Tryz.zd9 ?_)|fail)
 go_loop [7,8,9,11] (λn _ _ i=>∃k:Nat,k<=8/\i=iA k/\n=iA (powB x b k)) (λ_ _ _ i=>8-(intOf i).toNat)
 case atStart=>exact⟨0,by omega,rfl,rfl⟩
 obtain⟨k,hk,rfl,rfl⟩:=hrel;have hpb:=xR x b k (λi _=>HX i);by_cases ag:k<8
 .have ab:=λV=>ae k ag V;have hxk:=HX.o k;have hck:=HR.o.cell k (by omega);have hk2:(k:Int)<8:=by omega
  clear ae;cases aa:b k with
  |true=>
   rw[aa] at ab;have HE:Hid (powB x b (k+1)=powB x b k+x k):=by show powB x b k+_=_;rw[aa];simp
   clear aa;go_wp2
   go_round
   case rel=>exact⟨k+1,by omega,by go_num,by rw[HE.o]⟩
   simp[intOf];omega
  |false=>
   rw[aa] at ab;have HE:Hid (powB x b (k+1)=powB x b k):=by show powB x b k+_=_;rw[aa];simp
   clear aa;go_wp2
   go_round
   case rel=>exact⟨k+1,by omega,by go_num,by rw[HE.o]⟩
   simp[intOf];omega
 obtain rfl:k=8:=by omega
 have ad:=yH x 8 (λi _=>HX i);have hm0:0<=t*sumTo x 8:=Int.mul_nonneg ht0 ad.1;have hm1:t*sumTo x 8<=3*72:=Int.mul_le_mul ht ad.2 ad.1 (by omega);clear ae;go_wp2_with (first|(refine zn rfl 116 _ rfl w.heap.size rfl 116 x _ HR underlying116 rfl Tryz.zc2 ?_)|fail)
 refine(HT _).mono ?_;rintro e w2 ⟨rfl,af⟩;have ai:Hid (BW w w2):=HB.o.trans (af.mono HB.o.size);clear af;go_wp2;go_ret;exact⟨rfl,ai⟩
theorem JQ(a b:Nat->Int)(p q:Option Addr)(n m cap cap':Nat)(w:World)(hn:n<=maxLen)(ha:kG w w.heap.size p n (λi=>iA (a i)))(hb:kG w w.heap.size q m (λi=>iA (b i))):
 Calls prog 75 #[.slice p n cap,.slice q m cap'] w λe w'=>(∃o,e=.returned (bA o)/\(n=m->(∀i,i<n->a i=b i)->o=true))/\BW w w':=by
 obtain⟨HA,HB⟩:=ze ha hb;have hmx:n<=9223372036854775807:=by unfold maxLen at hn;omega
 clear ha hb hn;by_cases ab:n=m
 .subst ab;go_enter func75,ntmps75;go_wp2;go_loopw [5] (λi wr=>∃k:Nat,k<=n/\i=iA k/\BW w wr) (λi _=>n-(intOf i).toNat)
  case atStart=>exact⟨0,zgv _,rfl,zgq _ _⟩
  obtain⟨k,hk,rfl,ah⟩:=hrel;have aa:=zc ah;clear ah;by_cases ae:k=n
  .subst ae;go_wp2;go_ret;exact⟨⟨true,rfl,λ_ _=>rfl⟩,aa⟩
  have ad:k<n:=by omega
  have ai:(k:Int)<n:=by omega
  obtain⟨b1,o1,rfl,al,ag⟩:=HA.o k ad;obtain⟨b2,o2,rfl,ak,af⟩:=HB.o k ad;have hr1:cE wr b1 (o1+k) (iA (a k)):=(aa.o.cell (p:=(aA b1 (o1+k))) (by exact al)).trans ag;have hr2:cE wr b2 (o2+k) (iA (b k)):=(aa.o.cell (p:=(aA b2 (o2+k))) (by exact ak)).trans af;clear ag af ae;by_cases he:a k=b k
  .have aj:(a k==b k)=true:=by simpa using he
   clear he;go_wp2_with fail
   go_quiet (fail)
   all_goals go_wp2
   go_roundw
   case rel=>exact⟨k+1,by omega,by go_num,zgZ aa.o _⟩
   simp[intOf];omega
  have aj:(a k==b k)=false:=by simpa using he
  have HN:=zc he;clear he;go_wp2_with fail
  go_quiet (fail)
  all_goals go_wp2
  go_ret;exact⟨⟨false,rfl,λ_ h=>absurd (h k ad) HN⟩,zgZ aa _⟩
 have hne:¬((n:Int)=m):=by omega
 have HN:=zc ab;clear ab;go_enter func75,ntmps75;go_wp2;go_ret;exact⟨⟨false,rfl,λh=>absurd h HN⟩,zgq _ _⟩
theorem Qw(a b ra rb:Nat->Int)(p q rp rq:Option Addr)(n m rn rm c1 c2 c3 c4:Nat)(s t:zgW)(w:World)(hn:n<=maxLen)(hrn:rn<=maxLen)
 (ha:kG w w.heap.size p n (λi=>iA (a i))) (hb:kG w w.heap.size q m (λi=>iA (b i)))
 (hra:kG w w.heap.size rp rn (λi=>iA (ra i))) (hrb:kG w w.heap.size rq rm (λi=>iA (rb i))):
 Calls prog 22 #[.agg #[.slice p n c1,sA s,.slice rp rn c2],.agg #[.slice q m c3,sA t,.slice rq rm c4]] w λe w'=>
  (∃o,e=.returned (bA o)/\(n=m->(∀i,i<n->a i=b i)->rn=rm->(∀i,i<rn->ra i=rb i)->s=t->o=true))/\BW w w':=by
 obtain⟨HA,HB,aj,ai,HN,ah⟩:=xz ha hb hra hrb hn hrn;clear ha hb hra hrb hn hrn;have HW:∀o1 o2,Hid (BW w ((w.alloc o1).alloc o2)):=λo1 o2=>(bwA w).alloc (by simp) _;have af:∀o1 o2 j,(((w.alloc o1).alloc o2)).cell? (nA w j)=(w.alloc o1).cell? (nA w j):=λo1 o2 j=>by
  exact zgw (by show((w.alloc o1).alloc o2).heap[w.heap.size]? =(w.alloc o1).heap[w.heap.size]?;exact zg2 (w.alloc o1) o2 w.heap.size (by simp))
 have ae:∀o1 C j,(((w.alloc o1).alloc (.cells C 72))).cell? (aA (w.heap.size+1) j)=C[j]? :=λo1 C j=>by
  have h:((w.alloc o1).alloc (.cells C 72)).heap[w.heap.size+1]? =some (.cells C 72):=by
   have:=zgr (w.alloc o1) (.cells C 72);simpa using this
  exact zgs _ _ j _ _ _ h
 go_enter func22,ntmps22;go_wp2_with fail
 refine(JQ a b p q n m c1 c3 _ HN ((HA.o.below (HW _ _).out).more (HW _ _).out.size) ((HB.o.below (HW _ _).out).more (HW _ _).out.size)).mono ?_;rintro e w1 ⟨⟨o1,rfl,h1⟩,aa⟩;have e01:cN w1 w 1 (sA s):=(aa.cell (p:=(nA w 1)) (by show w.heap.size<_;simp;omega)).trans ((af _ _ _).trans (zgs _ _ 1 _ _ _ (zgr w _)));have e02:cN w1 w 2 (.slice rp rn c2):=(aa.cell (p:=(nA w 2)) (by show w.heap.size<_;simp;omega)).trans ((af _ _ _).trans (zgs _ _ 2 _ _ _ (zgr w _)));have e11:cE w1 (w.heap.size+1) 1 (sA t):=(aa.cell (p:=(aA (w.heap.size+1) 1)) (by show w.heap.size+1<_;simp)).trans (ae _ _ _);have e12:cE w1 (w.heap.size+1) 2 (.slice rq rm c4):=(aa.cell (p:=(aA (w.heap.size+1) 2)) (by show w.heap.size+1<_;simp)).trans (ae _ _ _);have ab:Hid (BW w w1):=(HW _ _).out.trans (aa.mono (HW _ _).out.size);have hsz:w.heap.size+1+1<=w1.heap.size:=by have:=aa.size;simpa using this
 have H1:=zc h1;clear aa HW af ae h1;go_wp2_with fail
 refine(JQ ra rb rp rq rn rm c2 c4 w1 ah ((aj.o.below ab).more ab.o.size) ((ai.o.below ab).more ab.o.size)).mono ?_;rintro e w2 ⟨⟨o2,rfl,h2⟩,ad⟩;have f01:cN w2 w 1 (sA s):=(ad.cell (p:=(nA w 1)) (by show w.heap.size<_;omega)).trans e01;have f11:cE w2 (w.heap.size+1) 1 (sA t):=(ad.cell (p:=(aA (w.heap.size+1) 1)) (by show w.heap.size+1<_;omega)).trans e11;have ag:Hid (BW w w2):=ab.o.trans (ad.mono ab.o.size);have H2:=zc h2;obtain⟨c,hc⟩:∃c,c=(s.toList==t.toList):=⟨_,rfl⟩;have hc':=hc.symm;have HC:=zc hc;clear ad h2 e01 e02 e11 e12 hc;cases o1
 .go_wp2;go_ret;exact⟨⟨false,rfl,λg1 g2 _ _ _=>H1 g1 g2⟩,ag⟩
 cases o2
 .go_wp2;go_ret;exact⟨⟨false,rfl,λ_ _ g1 g2 _=>H2 g1 g2⟩,ag⟩
 go_wp2;go_ret;exact⟨⟨c,rfl,λ_ _ _ _ g=>by rw[HC.o,g];simp⟩,ag.o⟩

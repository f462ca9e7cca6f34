import Derived.Test.YtcfjhbcpjpgodaaGreatDoorJ9
import Derived.Test.YtcfjhbcpjpgodaaGreatDoorJ5
namespace Go.Proofs.YtcfjhbcpjpgodaaGreatDoor
open Go.RowKit
set_option maxRecDepth 100000
set_option maxHeartbeats 0
set_option linter.all false
section
open Proofs.Tryz
def powB(x:Nat->Int)(b:Nat->Bool):Nat->Int
 |0=>0
 |k+1=>powB x b k+if b k then x k else 0
theorem GT(x:Nat->Int)(b:Nat->Bool)(k:Nat)(h:∀i,i<k->0<=x i/\x i<=9):0<=powB x b k/\powB x b k<=9*k:=by
 induction k with
 |zero=>simp[powB]
 |succ k ih=>
  have h1:=ih λi hi=>h i (by omega);have h2:=h k (by omega);simp only[powB];split<;>omega
def yg(t:Int)(x:Nat->Int)(b:Nat->Bool):Bool:=decide (t*sumTo x 8<3*powB x b 8)
theorem jg(t:Int)(x:Nat->Int)(b:Nat->Bool)(w:World)(hx:Dom x)(ht0:0<=t)(ht:t<=3):
 Calls prog 137 #[.agg (regA x),iA t,.agg (kB b)] w λe w'=>e=.returned (bA (yg t x b))/\BW w w':=by
 have HX:=zc hx;clear hx;obtain⟨W,hW⟩:∃W,W=(w.alloc (.cells (regA x) 116)).alloc (.cells (kB b) 190):=⟨_,rfl⟩;have HR:Hid (RegAt W w.heap.size 116 x):=by
  unfold Hid;rw[hW];exact(RegAt.alloc w 116 x).below (bwA _)
 have ai:Hid (W.heap[w.heap.size+1]? =some (.cells (kB b) 190 (0,0))):=by
  unfold Hid;have h:=zjC (w.alloc (.cells (regA x) 116)) (.cells (kB b) 190);rw[World.size_alloc] at h;rw[hW];exact h
 have HB:Hid (BW w W):=by
  unfold Hid;rw[hW];exact(bwA w).alloc (by simp) _
 have HT:=zc (λV=>xH x V (λi _=>HX i));have af:=VO b;go_enter func137,ntmps137;go_wp2_with (first|(rw[<-hW];clear hW;refine zkb rfl 190 _ rfl (w.heap.size+1) rfl 190 (kB b) (0,0) _ ai underlying190 rfl Tryz.zgA ?_)|fail)
 go_loop [7,8,9,11] (λn _ _ i=>∃k:Nat,k<=8/\i=iA k/\n=iA (powB x b k)) (λ_ _ _ i=>8-(intOf i).toNat)
 case atStart=>exact⟨0,by omega,rfl,rfl⟩
 obtain⟨k,hk,rfl,rfl⟩:=hrel;have hpb:=GT x b k (λi _=>HX i);by_cases ah:k<8
 .have ad:=λV=>af k ah V;have hxk:=HX.o k;have hck:=HR.o.cell k (by omega);have hk2:(k:Int)<8:=by omega
  clear af;cases aa:b k with
  |true=>
   rw[aa] at ad;have HE:Hid (powB x b (k+1)=powB x b k+x k):=by show powB x b k+_=_;rw[aa];simp
   clear aa;go_wp2
   go_round
   case rel=>exact⟨k+1,by omega,by go_num,by rw[HE.o]⟩
   simp[intOf];omega
  |false=>
   rw[aa] at ad;have HE:Hid (powB x b (k+1)=powB x b k):=by show powB x b k+_=_;rw[aa];simp
   clear aa;go_wp2
   go_round
   case rel=>exact⟨k+1,by omega,by go_num,by rw[HE.o]⟩
   simp[intOf];omega
 obtain rfl:k=8:=by omega
 have ae:=kJ x 8 (λi _=>HX i);have hm0:0<=t*sumTo x 8:=Int.mul_nonneg ht0 ae.1;have hm1:t*sumTo x 8<=3*72:=Int.mul_le_mul ht ae.2 ae.1 (by omega);clear af;go_wp2_with (first|(refine zr rfl 116 _ rfl w.heap.size rfl 116 x _ HR underlying116 rfl Tryz.zfG ?_)|fail)
 refine(HT _).mono ?_;rintro e w2 ⟨rfl,ag⟩;have aj:Hid (BW w w2):=HB.o.trans (ag.mono HB.o.size);clear ag;go_wp2;go_ret;exact⟨rfl,aj⟩
end
section
variable{x:Nat->Int}{b c bad hon:Nat->Bool}{sg sg':Nat->List zj5}{k h r:Int}{t:zj5}{q n:Nat}
theorem js(hx:∀i,0<=x i):∀k,(∀q,q<k->b q=true->c q=true)->powB x b k<=powB x c k
 |0,_=>Int.le_refl _
 |k+1,h=>by
  have ih:=js hx k (λq hq=>h q (by omega));have h1:=h k (by omega);have h2:=hx k;simp only[powB];cases hb:b k with
  |false=>simp only[Bool.false_eq_true,if_false];split<;>omega
  |true=>rw[h1 hb];simp only[if_true];omega
theorem XR(hx:∀i,0<=x i):∀k,powB x b k+powB x c k<=sumTo x k+powB x (λq=>b q&&c q) k
 |0=>by simp[powB,sumTo]
 |k+1=>by
  have ih:powB x b k+powB x c k<=sumTo x k+powB x (λq=>b q&&c q) k:=XR hx k;have h2:=hx k;simp only[powB,sumTo];have key:∀(u v:Bool) (a:Int),0<=a->(if u=true then a else 0)+(if v=true then a else 0)<=a+if(u&&v)=true then a else 0:=λu v a ha=>by cases u<;>cases v<;>simp<;>omega
  have h3:=key (b k) (c k) (x k) h2;omega
theorem xG(hx:∀i,0<=x i)(hb:yg 2 x b=true)(hc:yg 2 x c=true)(hl:3*powB x bad 8<sumTo x 8):∃q,q<8/\b q=true/\c q=true/\bad q=false:=by
 by_cases h:∃q,q<8/\b q=true/\c q=true/\bad q=false
 .exact h
 exfalso;have hb':=zjP hb;have hc':=zjP hc;have h1:=XR (b:=b) (c:=c) hx 8;have h2:powB x (λq=>b q&&c q) 8<=powB x bad 8:=js hx 8 λq hq aa=>by
  rw[Bool.and_eq_true_iff] at aa;cases ad:bad q with
  |true=>rfl
  |false=>exact absurd ⟨q,hq,aa.1,aa.2,ad⟩ h
 omega
theorem zc2(hx:∀i,0<=x i)(hb:yg 2 x b=true)(hl:3*powB x bad 8<sumTo x 8):∃q,q<8/\b q=true/\bad q=false:=by
 obtain⟨q,h1,h2,_,h3⟩:=xG hx hb hb hl;exact⟨q,h1,h2,h3⟩
def zdI(sg:Nat->List zj5)(k h r:Int)(t:zj5)(q:Nat):Prop:=∃fr,fr∈sg q/\zM fr=true/\(decV fr).k=k/\(decV fr).h=h/\(decV fr).r=r/\(decV fr).nl=false/\(decV fr).s=t
def Quo(n:Nat)(sg:Nat->List zj5)(x:Nat->Int)(k h r:Int)(t:zj5):Prop:=∃b:Nat->Bool,yg 2 x b=true/\∀q,q<8->b q=true->q<n/\zdI sg k h r t q
def SgLe(sg sg':Nat->List zj5):Prop:=∀q fr,fr∈sg q->fr∈sg' q
theorem SgLe.refl(sg:Nat->List zj5):SgLe sg sg:=λ_ _ h=>h
theorem SgLe.trans{a b c:Nat->List zj5}(h:SgLe a b)(h':SgLe b c):SgLe a c:=λq fr hf=>h' q fr (h q fr hf)
theorem zdI.mono(hv:zdI sg k h r t q)(hs:SgLe sg sg'):zdI sg' k h r t q:=by
 obtain⟨fr,h1,h2⟩:=hv;exact⟨fr,hs q fr h1,h2⟩
theorem Quo.mono(hq:Quo n sg x k h r t)(hs:SgLe sg sg'):Quo n sg' x k h r t:=by
 obtain⟨b,h1,h2⟩:=hq;exact⟨b,h1,λq hq hb=>⟨(h2 q hq hb).1,(h2 q hq hb).2.mono hs⟩⟩
def zen(n:Nat)(hon:Nat->Bool):Nat->Bool:=λq=>decide (q<n)&& !hon q
theorem Qr(hq:q<n)(h:zen n hon q=false):hon q=true:=by
 unfold zen at h;rw[zjQ hq,Bool.true_and] at h;simpa using h
structure Fair (n:Nat) (hon:Nat->Bool) (sg:Nat->List zj5) (x:Nat->Int) (h:Int):Prop where
 one:∀q,q<n->hon q=true->∀(k r:Int) (t t':zj5),k≠1->zdI sg k h r t q->zdI sg k h r t' q->t=t'
 pc:∀q,q<n->hon q=true->∀(r:Int) (t:zj5),zdI sg 3 h r t q->Quo n sg x 2 h r t
 pv:∀q,q<n->hon q=true->∀(r r':Int) (t t':zj5),zdI sg 3 h r t q->zdI sg 2 h r' t' q->r<r'->t≠t'->∃r2:Int,r<=r2/\r2<r'/\Quo n sg x 2 h r2 t'
theorem zao(hF:Fair n hon sg x h)(hx:∀i,0<=x i)(hl:3*powB x (zen n hon) 8<sumTo x 8){r:Int}{t:zj5}(hq:Quo n sg x 3 h r t):
 ∀(d:Nat) (r':Int) (t':zj5),r'=r+d->Quo n sg x 2 h r' t'->t'=t:=by
 intro d;induction d using Nat.strongRecOn with
 |ind d ih=>
  intro r' t' hr al;obtain⟨b,hb,ah⟩:=hq;obtain⟨c,hc,ag⟩:=al;obtain⟨q,af,h1,h2,h3⟩:=xG hx hb hc hl;have ae:=(ah q af h1).1;have hh:=Qr ae h3;have v3:=(ah q af h1).2;have v2:=(ag q af h2).2;by_cases e:t'=t
  .exact e
  exfalso;rcases Nat.eq_zero_or_pos d with rfl|hd
  .have aj:r'=r:=by omega
   subst aj;obtain⟨a,ha,ai⟩:=hF.pc q ae hh r' t v3;obtain⟨q2,aa,g1,g2,g3⟩:=xG hx ha hc hl;have ad:=(ai q2 aa g1).1;exact e (hF.one q2 ad (Qr ad g3) 2 r' t' t (by decide) (ag q2 aa g2).2 (ai q2 aa g1).2)
  obtain⟨r2,hr1,hr2,ak⟩:=hF.pv q ae hh r r' t t' v3 v2 (by omega) (λx=>e x.symm);exact e (ih (r2-r).toNat (by omega) r2 t' (by omega) ak)
theorem zds(hF:Fair n hon sg x h)(hx:∀i,0<=x i)(hl:3*powB x (zen n hon) 8<sumTo x 8){r r':Int}{t t':zj5}(hq:Quo n sg x 3 h r t)(hq':Quo n sg x 3 h r' t'):t=t':=by
 have key:∀{r r':Int} {t t':zj5},Quo n sg x 3 h r t->Quo n sg x 3 h r' t'->r<=r'->t'=t:=λ{r r' t t'} hq hq' hle=>by
  have hq2:=hq';obtain⟨c,hc,ae⟩:=hq';obtain⟨q,ad,h1,h2⟩:=zc2 hx hc hl;have aa:=(ae q ad h1).1;exact zao hF hx hl hq (r'-r).toNat r' t' (by omega) (hF.pc q aa (Qr aa h2) r' t' (ae q ad h1).2)
 rcases Int.le_total r r' with h1|h1
 .exact (key hq hq' h1).symm
 exact key hq' hq h1
def regs(x0:Nat->Int)(l:List zj5):Nat->Int:=l.foldl (λx b=>(zi x b).1) x0
theorem ZY(x0:Nat->Int)(l:List zj5)(b:zj5):regs x0 (l++[b])=(zi (regs x0 l) b).1:=by
 unfold regs;rw[List.foldl_append];rfl
end
section
open Proofs.Tryz
def spot(kind:Int)(i:Nat):Nat:=if kind=118 then i else 8+i
theorem Zz(x:Nat->Int)(kind:Int)(i:Nat)(num:Int)(w:World)(h1:kind=118->i<8)(h2:kind≠118->i<26):
 Calls prog 136 #[.agg (regA x),.agg #[.int .u8 kind,iA i,iA num]] w λe w'=>e=.returned (.agg (regA (upd x (spot kind i) num)))/\BW w w':=by
 have z0:=yV;have e2:∀o1 o2:Obj,((w.alloc o1).alloc o2).heap.size=w.heap.size+1+1:=λo1 o2=>by simp
 obtain⟨W,hW⟩:∃W,W=((w.alloc (.cells (regA x) 116)).alloc (.cells #[.int .u8 kind,iA i,iA num] 226)).alloc (.cells (regA yk) 116):=⟨_,rfl⟩;have HR:Hid (RegAt W w.heap.size 116 x):=by
  unfold Hid;rw[hW];exact((RegAt.alloc w _ x).below (bwA _)).below (bwA _)
 have ae:Hid (RegAt W (w.heap.size+1+1) 116 yk):=by
  unfold Hid;have h:=RegAt.alloc ((w.alloc (.cells (regA x) 116)).alloc (.cells #[.int .u8 kind,iA i,iA num] 226)) 116 yk;rw[e2] at h;rw[hW];exact h
 have aa:W.heap[w.heap.size+1]? =some (.cells #[.int .u8 kind,iA i,iA num] 226 (0,0)):=by
  have h:=zjC (w.alloc (.cells (regA x) 116)) (.cells #[.int .u8 kind,iA i,iA num] 226);have e1:(w.alloc (.cells (regA x) 116)).heap.size=w.heap.size+1:=by simp
  rw[e1] at h;rw[hW,zj9 _ _ (w.heap.size+1) (by rw[e2];omega)];exact h
 have ah:=zjD W (w.heap.size+1) 0 _ _ _ aa;have ag:=zjD W (w.heap.size+1) 1 _ _ _ aa;have af:=zjD W (w.heap.size+1) 2 _ _ _ aa;simp only[List.getElem?_toArray,List.getElem?_cons_zero,List.getElem?_cons_succ] at ah ag af;have HB:Hid (BW w W):=by
  unfold Hid;rw[hW];exact((bwA w).alloc (by simp) _).alloc (by rw[e2];omega) _
 have hW2:=hW.symm;clear aa e2 hW;by_cases hk:kind=118
 .have ai:(i:Int)<8:=by have:=h1 hk;omega
  have ad:spot kind i=i:=zj2 hk;subst hk;have hc:=HR.o.cell i (by omega);have hf:=HR.o.frozen i;have HU:=zc (HR.o.set i num (by omega));have HO:=zc (zf W w.heap.size i (iA num));rw[ad];go_enter func136,ntmps136;go_wp2_with (first|(refine zr rfl 116 _ rfl _ rfl 116 _ _ HU.o underlying116 rfl Tryz.zfG ?_)|(refine zp rfl 116 _ _ rfl (w.heap.size+1+1) _ rfl rfl 116 _ (ae.o.only HO.o (by omega)) (zj _) Tryz.zfG ?_;intro w5 hq ho))
  exact zjT (v:=.agg (regA (upd x i num))) (gV results136 _ _ (w.heap.size+1+1) 116 _ _ rfl hq underlying116 rfl Tryz.zfG) rfl ⟨rfl,(HB.o.trans (HO.o.below (zjA _))).trans (ho.below (by omega))⟩
 have ai:(i:Int)<26:=by have:=h2 hk;omega
 have ad:spot kind i=8+i:=zj3 hk;have hkb:(kind==118)=false:=by simpa using hk
 have hc:=HR.o.cell (8+i) (by omega);have hf:=HR.o.frozen (8+i);have HU:=zc (HR.o.set (8+i) num (by omega));have HO:=zc (zf W w.heap.size (8+i) (iA num));rw[ad];clear hk;go_enter func136,ntmps136;go_wp2_with (first|(refine zr rfl 116 _ rfl _ rfl 116 _ _ HU.o underlying116 rfl Tryz.zfG ?_)|(refine zp rfl 116 _ _ rfl (w.heap.size+1+1) _ rfl rfl 116 _ (ae.o.only HO.o (by omega)) (zj _) Tryz.zfG ?_;intro w5 hq ho))
 exact zjT (v:=.agg (regA (upd x (8+i) num))) (gV results136 _ _ (w.heap.size+1+1) 116 _ _ rfl hq underlying116 rfl Tryz.zfG) rfl ⟨rfl,(HB.o.trans (HO.o.below (zjA _))).trans (ho.below (by omega))⟩

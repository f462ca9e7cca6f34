import Derived.Test.YtcfjhbcpjpgodaaGreatDoorJ10
import Derived.Test.YtcfjhbcpjpgodaaGreatDoorProgRead
import Derived.BigQuiet
import Derived.Test.YtcfjhbcpjpgodaaGreatDoorJ4
import Derived.Test.YtcfjhbcpjpgodaaGreatDoorShelfB
namespace Go.Proofs.YtcfjhbcpjpgodaaGreatDoor
open Go.RowKit
set_option maxRecDepth 100000
set_option maxHeartbeats 0
set_option linter.all false
section
open Proofs.Tryz
variable{w:World}{g:Nat}
theorem Jj{o:Obj}(h:w.heap[g]? =some o):g<w.heap.size:=by
 rcases Nat.lt_or_ge g w.heap.size with h'|h'
 .exact h'
 simp[Array.getElem?_eq_none h'] at h
theorem yG{l:List Value}{t:TypeId}(h:w.heap[g]? =some (.cells l.toArray t (0,0))):w.rangeAt g 0 l:=λj v hv=>by
 rw[zj8,zjD w g j _ _ _ h,List.getElem?_toArray];exact hv
def gq(x:Nat->Int)(kind:Int)(i:Nat)(num:Int):Bool:=
 if kind=118 then decide (x i≠num)&&decide (0<sumTo (upd x i num) 8)
 else if kind=106 then decide (x (8+i)=0)
 else if kind=108 then decide (x (8+i)≠0)
 else decide (x (8+i)≠0)&&decide (x (8+i)≠num)
theorem zft(x:Nat->Int)(i:Nat)(num:Int)(w:World)(hi:i<26):
 Calls prog 135 #[.agg (regA x),.agg #[.int .u8 106,iA i,iA num]] w λe w'=>e=.returned (bA (gq x 106 i num))/\BW w w':=by
 obtain⟨W,hW⟩:∃W,W=(w.alloc (.cells (regA x) 116)).alloc (.cells #[.int .u8 106,iA i,iA num] 226):=⟨_,rfl⟩;have HR:Hid (RegAt W w.heap.size 116 x):=by
  unfold Hid;rw[hW];exact(RegAt.alloc w _ x).below (bwA _)
 have aa:W.heap[w.heap.size+1]? =some (.cells #[.int .u8 106,iA i,iA num] 226 (0,0)):=by
  have h:=zjC (w.alloc (.cells (regA x) 116)) (.cells #[.int .u8 106,iA i,iA num] 226);have e1:(w.alloc (.cells (regA x) 116)).heap.size=w.heap.size+1:=by simp
  rw[e1] at h;rw[hW];exact h
 have af:=zjD W (w.heap.size+1) 0 _ _ _ aa;have ae:=zjD W (w.heap.size+1) 1 _ _ _ aa;have ad:=zjD W (w.heap.size+1) 2 _ _ _ aa;simp only[List.getElem?_toArray,List.getElem?_cons_zero,List.getElem?_cons_succ] at af ae ad;have ag:=zc aa;have HB:Hid (BW w W):=by
  unfold Hid;rw[hW];exact(bwA w).alloc (by simp) _
 have hW2:=hW.symm;clear aa hW;have hi8:(i:Int)<26:=by omega
 have hc:=HR.o.cell (8+i) (by omega);by_cases hz:x (8+i)=0
 .have HF:Hid (gq x 106 i num=true):=by unfold Hid gq;simp[hz]
  rw[hz] at hc;clear hz hi;go_enter func135,ntmps135;go_wp2;go_ret;exact⟨yz HF.o.symm,HB⟩
 have HF:Hid (gq x 106 i num=false):=by unfold Hid gq;simp[hz]
 have hzb:(x (8+i)==0)=false:=by simpa using hz
 have hzn:(x (8+i) != 0)=true:=by simpa using hz
 clear hz hi;go_enter func135,ntmps135;go_wp2;go_ret;exact⟨yz HF.o.symm,HB⟩
theorem zfs(x:Nat->Int)(i:Nat)(num:Int)(w:World)(hi:i<26):
 Calls prog 135 #[.agg (regA x),.agg #[.int .u8 108,iA i,iA num]] w λe w'=>e=.returned (bA (gq x 108 i num))/\BW w w':=by
 obtain⟨W,hW⟩:∃W,W=(w.alloc (.cells (regA x) 116)).alloc (.cells #[.int .u8 108,iA i,iA num] 226):=⟨_,rfl⟩;have HR:Hid (RegAt W w.heap.size 116 x):=by
  unfold Hid;rw[hW];exact(RegAt.alloc w _ x).below (bwA _)
 have aa:W.heap[w.heap.size+1]? =some (.cells #[.int .u8 108,iA i,iA num] 226 (0,0)):=by
  have h:=zjC (w.alloc (.cells (regA x) 116)) (.cells #[.int .u8 108,iA i,iA num] 226);have e1:(w.alloc (.cells (regA x) 116)).heap.size=w.heap.size+1:=by simp
  rw[e1] at h;rw[hW];exact h
 have af:=zjD W (w.heap.size+1) 0 _ _ _ aa;have ae:=zjD W (w.heap.size+1) 1 _ _ _ aa;have ad:=zjD W (w.heap.size+1) 2 _ _ _ aa;simp only[List.getElem?_toArray,List.getElem?_cons_zero,List.getElem?_cons_succ] at af ae ad;have ag:=zc aa;have HB:Hid (BW w W):=by
  unfold Hid;rw[hW];exact(bwA w).alloc (by simp) _
 have hW2:=hW.symm;clear aa hW;have hi8:(i:Int)<26:=by omega
 have hc:=HR.o.cell (8+i) (by omega);by_cases hz:x (8+i)=0
 .have HF:Hid (gq x 108 i num=false):=by unfold Hid gq;simp[hz]
  rw[hz] at hc;clear hz hi;go_enter func135,ntmps135;go_wp2;go_ret;exact⟨yz HF.o.symm,HB⟩
 have HF:Hid (gq x 108 i num=true):=by unfold Hid gq;simp[hz]
 have hzb:(x (8+i)==0)=false:=by simpa using hz
 have hzn:(x (8+i) != 0)=true:=by simpa using hz
 clear hz hi;go_enter func135,ntmps135;go_wp2;go_ret;exact⟨yz HF.o.symm,HB⟩
theorem zfr(x:Nat->Int)(i:Nat)(num:Int)(w:World)(hi:i<26):
 Calls prog 135 #[.agg (regA x),.agg #[.int .u8 114,iA i,iA num]] w λe w'=>e=.returned (bA (gq x 114 i num))/\BW w w':=by
 obtain⟨W,hW⟩:∃W,W=(w.alloc (.cells (regA x) 116)).alloc (.cells #[.int .u8 114,iA i,iA num] 226):=⟨_,rfl⟩;have HR:Hid (RegAt W w.heap.size 116 x):=by
  unfold Hid;rw[hW];exact(RegAt.alloc w _ x).below (bwA _)
 have aa:W.heap[w.heap.size+1]? =some (.cells #[.int .u8 114,iA i,iA num] 226 (0,0)):=by
  have h:=zjC (w.alloc (.cells (regA x) 116)) (.cells #[.int .u8 114,iA i,iA num] 226);have e1:(w.alloc (.cells (regA x) 116)).heap.size=w.heap.size+1:=by simp
  rw[e1] at h;rw[hW];exact h
 have ah:=zjD W (w.heap.size+1) 0 _ _ _ aa;have ag:=zjD W (w.heap.size+1) 1 _ _ _ aa;have af:=zjD W (w.heap.size+1) 2 _ _ _ aa;simp only[List.getElem?_toArray,List.getElem?_cons_zero,List.getElem?_cons_succ] at ah ag af;have ai:=zc aa;have HB:Hid (BW w W):=by
  unfold Hid;rw[hW];exact(bwA w).alloc (by simp) _
 have hW2:=hW.symm;clear aa hW;have hi8:(i:Int)<26:=by omega
 have hc:=HR.o.cell (8+i) (by omega);by_cases hz:x (8+i)=0
 .have HF:Hid (gq x 114 i num=false):=by unfold Hid gq;simp[hz]
  rw[hz] at hc;clear hz hi;go_enter func135,ntmps135;go_wp2;go_quiet (fail)
  go_wp2;go_ret;exact⟨yz HF.o.symm,below_drewN HB _⟩
 have hzb:(x (8+i)==0)=false:=by simpa using hz
 have hzn:(x (8+i) != 0)=true:=by simpa using hz
 by_cases hn:x (8+i)=num;focus
  have HF:Hid (gq x 114 i num=false):=by unfold Hid gq;simp[hn]
  have ae:(x (8+i)==num)=true:=by simpa using hn
  have ad:(x (8+i) != num)=false:=by simpa using hn
 rotate_left;focus
  have HF:Hid (gq x 114 i num=true):=by unfold Hid gq;simp[hz,hn]
  have ae:(x (8+i)==num)=false:=by simpa using hn
  have ad:(x (8+i) != num)=true:=by simpa using hn
 rotate_left;all_goals
  clear hz hi hn;go_enter func135,ntmps135;go_wp2;go_quiet (fail)
  go_wp2;go_ret;exact⟨yz HF.o.symm,below_drewN HB _⟩
theorem zfq(x:Nat->Int)(i:Nat)(num:Int)(w:World)(hx:Dom x)(hi:i<8)(hn0:0<=num)(hn9:num<=9):
 Calls prog 135 #[.agg (regA x),.agg #[.int .u8 118,iA i,iA num]] w λe w'=>e=.returned (bA (gq x 118 i num))/\BW w w':=by
 obtain⟨W,hW⟩:∃W,W=(w.alloc (.cells (regA x) 116)).alloc (.cells #[.int .u8 118,iA i,iA num] 226):=⟨_,rfl⟩;have HR:Hid (RegAt W w.heap.size 116 x):=by
  unfold Hid;rw[hW];exact(RegAt.alloc w _ x).below (bwA _)
 have ae:W.heap[w.heap.size+1]? =some (.cells #[.int .u8 118,iA i,iA num] 226 (0,0)):=by
  have h:=zjC (w.alloc (.cells (regA x) 116)) (.cells #[.int .u8 118,iA i,iA num] 226);have e1:(w.alloc (.cells (regA x) 116)).heap.size=w.heap.size+1:=by simp
  rw[e1] at h;rw[hW];exact h
 have an:=zjD W (w.heap.size+1) 0 _ _ _ ae;have al:=zjD W (w.heap.size+1) 1 _ _ _ ae;have ak:=zjD W (w.heap.size+1) 2 _ _ _ ae;simp only[List.getElem?_toArray,List.getElem?_cons_zero,List.getElem?_cons_succ] at an al ak;have ag:=zc ae;have HB:Hid (BW w W):=by
  unfold Hid;rw[hW];exact(bwA w).alloc (by simp) _
 have hW2:=hW.symm;clear ae hW;have hi8:(i:Int)<8:=by omega
 have HX:=zc hx;have HY:Hid (∀j,j<8->0<=upd x i num j/\upd x i num j<=9):=λj _=>(hx.set i num hn0 hn9) j;clear hx hn0 hn9;by_cases hn:x i=num
 .have HF:Hid (gq x 118 i num=false):=by unfold Hid gq;simp[hn]
  have aj:(x i==num)=true:=by simpa using hn
  have ai:(x i != num)=false:=by simpa using hn
  clear hn;go_enter func135,ntmps135;go_wp2_with fail
  refine rgd (S:=λW'=>RegAt W' w.heap.size 116 x/\cL W' (w.heap.size+1) #[.int .u8 118,iA i,iA num] 226/\BW w W') ⟨HR.o.drew,ag,HB.o.drew⟩ λhH=>?_;refine takeN [(0,some 43,pA (w.heap.size+1) 1),(1,some 44,iA i),(2,some 45,pA w.heap.size 0),(3,some 46,pA w.heap.size i),(4,some 47,iA (x i)),(5,some 48,pA (w.heap.size+1) 2),(6,some 49,iA num),(7,some 50,bA false),(8,some 51,bA false),(9,some 52,undef),(10,some 53,undef),(11,some 54,undef),(12,some 55,undef),(13,some 56,undef),(14,some 57,bA false)] _ _ hH (by repeat(first|exact zj7|((first|(refine tkc rfl rfl (zj0 ⟨by rfl,λx h=>?_⟩) ?_;focus(have af:=zjD _ _ 1 _ _ _ h.2.1;simp only[List.getElem?_toArray,List.getElem?_cons_zero,List.getElem?_cons_succ] at af;go_simp;done))|(refine tkc rfl rfl (zj0 ⟨by rfl,λx h=>?_⟩) ?_;focus(have af:=zjD _ _ 2 _ _ _ h.2.1;simp only[List.getElem?_toArray,List.getElem?_cons_zero,List.getElem?_cons_succ] at af;go_simp;done))|(refine tkc rfl rfl (zj0 ⟨by rfl,λx h=>?_⟩) ?_;focus(have f0:=h.1.cell i (by omega);go_simp;done))|refine tkc rfl rfl (zj1 ⟨by rfl,rfl⟩) ?_);simp only[AP]))) ?_;simp only[ze,AP,pA];refine zv 15 λK hK=>?_;go_simp;refine hK.out _ _ hH λhH=>?_;clear hK K;refine dnr ?_;go_wp2;go_ret;exact⟨yz HF.o.symm,hH.2.2⟩
 by_cases hs:0<sumTo (upd x i num) 8;focus
  have HF:Hid (gq x 118 i num=true):=by unfold Hid gq;simp[hn,hs]
  have aj:(x i==num)=false:=by simpa using hn
  have ai:(x i != num)=true:=by simpa using hn
  clear hn;go_enter func135,ntmps135;go_wp2_with fail
  refine rgd (S:=λW'=>RegAt W' w.heap.size 116 x/\cL W' (w.heap.size+1) #[.int .u8 118,iA i,iA num] 226/\BW w W') ⟨HR.o.drew,ag,HB.o.drew⟩ λhH=>?_;refine takeN [(0,some 43,pA (w.heap.size+1) 1),(1,some 44,iA i),(2,some 45,pA w.heap.size 0),(3,some 46,pA w.heap.size i),(4,some 47,iA (x i)),(5,some 48,pA (w.heap.size+1) 2),(6,some 49,iA num),(7,some 50,bA true),(8,some 51,bA true),(9,some 52,.agg (regA x)),(10,some 53,.agg #[.int .u8 118,iA i,iA num])] _ _ hH (by repeat(first|exact zj7|((first|refine tkc rfl rfl (qH (by rfl) 116 _ rfl w.heap.size rfl 116 x _ (λw h=>h.1) underlying116 rfl Tryz.zfG) ?_|refine tkc rfl rfl (zka (by rfl) 226 _ rfl (w.heap.size+1) 0 rfl [.int .u8 118,iA i,iA num] _ (λw h=>yG h.2.1) underlying226 rfl (by rw[Tryz.zfP];rfl)) ?_|(refine tkc rfl rfl (zj0 ⟨by rfl,λx h=>?_⟩) ?_;focus(have af:=zjD _ _ 1 _ _ _ h.2.1;simp only[List.getElem?_toArray,List.getElem?_cons_zero,List.getElem?_cons_succ] at af;go_simp;done))|(refine tkc rfl rfl (zj0 ⟨by rfl,λx h=>?_⟩) ?_;focus(have af:=zjD _ _ 2 _ _ _ h.2.1;simp only[List.getElem?_toArray,List.getElem?_cons_zero,List.getElem?_cons_succ] at af;go_simp;done))|(refine tkc rfl rfl (zj0 ⟨by rfl,λx h=>?_⟩) ?_;focus(have f0:=h.1.cell i (by omega);go_simp;done)));simp only[AP]))) ?_;simp only[ze,AP,pA];refine zv 11 λK hK=>?_;go_simp;go_wp2_with ((go_at_call 136;refine(Zz x 118 i num _ (λ_=>hi) (λh=>absurd rfl h)).mono ?_;rintro e w1 ⟨rfl,aa⟩))
  have ad:=hH.2.2.size;refine hK.out _ _ ⟨hH.1.below aa,(aa.block _ (Jj hH.2.1)).trans hH.2.1,hH.2.2.trans (aa.mono ad)⟩ λhH=>?_;clear hK K aa ad;have ah:spot 118 i=i:=zj2 rfl;rw[ah];refine zv 12 λK hK=>?_;go_simp;go_wp2_with ((go_at_call 103;refine(xH (upd x i num) _ HY).mono ?_;rintro e w1 ⟨rfl,aa⟩))
  have ad:=hH.2.2.size;refine hK.out _ _ ⟨hH.1.below aa,(aa.block _ (Jj hH.2.1)).trans hH.2.1,hH.2.2.trans (aa.mono ad)⟩ λhH=>?_;clear hK K aa ad;refine y7 [(13,some 56,bA true),(14,some 57,bA true)] _ _ hH ?_
 rotate_left;focus
  have HF:Hid (gq x 118 i num=false):=by unfold Hid gq;simp[hn,hs]
  have aj:(x i==num)=false:=by simpa using hn
  have ai:(x i != num)=true:=by simpa using hn
  clear hn;go_enter func135,ntmps135;go_wp2_with fail
  refine rgd (S:=λW'=>RegAt W' w.heap.size 116 x/\cL W' (w.heap.size+1) #[.int .u8 118,iA i,iA num] 226/\BW w W') ⟨HR.o.drew,ag,HB.o.drew⟩ λhH=>?_;refine takeN [(0,some 43,pA (w.heap.size+1) 1),(1,some 44,iA i),(2,some 45,pA w.heap.size 0),(3,some 46,pA w.heap.size i),(4,some 47,iA (x i)),(5,some 48,pA (w.heap.size+1) 2),(6,some 49,iA num),(7,some 50,bA true),(8,some 51,bA true),(9,some 52,.agg (regA x)),(10,some 53,.agg #[.int .u8 118,iA i,iA num])] _ _ hH (by repeat(first|exact zj7|((first|refine tkc rfl rfl (qH (by rfl) 116 _ rfl w.heap.size rfl 116 x _ (λw h=>h.1) underlying116 rfl Tryz.zfG) ?_|refine tkc rfl rfl (zka (by rfl) 226 _ rfl (w.heap.size+1) 0 rfl [.int .u8 118,iA i,iA num] _ (λw h=>yG h.2.1) underlying226 rfl (by rw[Tryz.zfP];rfl)) ?_|(refine tkc rfl rfl (zj0 ⟨by rfl,λx h=>?_⟩) ?_;focus(have af:=zjD _ _ 1 _ _ _ h.2.1;simp only[List.getElem?_toArray,List.getElem?_cons_zero,List.getElem?_cons_succ] at af;go_simp;done))|(refine tkc rfl rfl (zj0 ⟨by rfl,λx h=>?_⟩) ?_;focus(have af:=zjD _ _ 2 _ _ _ h.2.1;simp only[List.getElem?_toArray,List.getElem?_cons_zero,List.getElem?_cons_succ] at af;go_simp;done))|(refine tkc rfl rfl (zj0 ⟨by rfl,λx h=>?_⟩) ?_;focus(have f0:=h.1.cell i (by omega);go_simp;done)));simp only[AP]))) ?_;simp only[ze,AP,pA];refine zv 11 λK hK=>?_;go_simp;go_wp2_with ((go_at_call 136;refine(Zz x 118 i num _ (λ_=>hi) (λh=>absurd rfl h)).mono ?_;rintro e w1 ⟨rfl,aa⟩))
  have ad:=hH.2.2.size;refine hK.out _ _ ⟨hH.1.below aa,(aa.block _ (Jj hH.2.1)).trans hH.2.1,hH.2.2.trans (aa.mono ad)⟩ λhH=>?_;clear hK K aa ad;have ah:spot 118 i=i:=zj2 rfl;rw[ah];refine zv 12 λK hK=>?_;go_simp;go_wp2_with ((go_at_call 103;refine(xH (upd x i num) _ HY).mono ?_;rintro e w1 ⟨rfl,aa⟩))
  have ad:=hH.2.2.size;refine hK.out _ _ ⟨hH.1.below aa,(aa.block _ (Jj hH.2.1)).trans hH.2.1,hH.2.2.trans (aa.mono ad)⟩ λhH=>?_;clear hK K aa ad;refine y7 [(13,some 56,bA false),(14,some 57,bA false)] _ _ hH ?_
 rotate_left;all_goals
  simp only[ze,AP];refine zv 15 λK hK=>?_;go_simp;refine hK.out _ _ hH λhH=>?_;clear hK K;refine dnr ?_;go_wp2;go_ret;exact⟨yz HF.o.symm,hH.2.2⟩
theorem zei(x:Nat->Int)(kind:Int)(i:Nat)(num:Int)(w:World)(hx:Dom x)(hk:kind=106\/kind=108\/kind=114\/kind=118)(h1:kind=118->i<8)(h2:kind≠118->i<26)(hn0:0<=num)(hn9:num<=9):
 Calls prog 135 #[.agg (regA x),.agg #[.int .u8 kind,iA i,iA num]] w λe w'=>e=.returned (bA (gq x kind i num))/\BW w w':=by
 rcases hk with rfl|rfl|rfl|rfl
 .exact zft x i num w (h2 (by decide))
 .exact zfs x i num w (h2 (by decide))
 .exact zfr x i num w (h2 (by decide))
 exact zfq x i num w hx (h1 rfl) hn0 hn9
end
section
open Proofs.Tryz
def zag(r:(Nat->Int)×Bool):Nat->Int:=if r.2 then r.1 else yk
def errV(b:Addr):Value:=eA b
def ze6(o:Bool)(b:Addr):Value:=if o then .nilIface else errV b
theorem ZQ(g:Nat->Int)(n:Nat):∀m,sumTo (regOf g n) (n+m)=sumTo g n:=by
 intro m;induction m with
 |zero=>
  have h:∀k,k<=n->sumTo (regOf g n) k=sumTo g k:=by
   intro k;induction k with
   |zero=>intro _;rfl
   |succ k ih=>intro hk;simp only[sumTo];rw[ih (by omega),regOf,zj2 (by omega)]
  exact h n (zjA _)
 |succ m ih=>
  rw[<-Nat.add_assoc];simp only[sumTo];rw[ih,regOf,zj3 (by omega)];omega
theorem ZH(g:Nat->Int)(p:Option Addr)(n cap:Nat)(b:Addr)(w:World)(hl:qW w w.heap.size p n (λi=>iA (g i)))(hg:w.cell? (aA 1 0)=some (eA b)):
 Calls prog 52 #[.slice p n cap] w λe w'=>e=.returned (.tuple #[.agg (regA (zag (vB g n))),ze6 (vB g n).2 b])/\BW w w':=by
 have z0:=yV;have af:1<w.heap.size:=zjI _ _ hg;obtain⟨W,hW⟩:∃W,W=(w.alloc (.cells (regA yk) 116)).alloc (.cells (regA yk) 116):=⟨_,rfl⟩;have ag:Hid (RegAt W w.heap.size 116 yk):=by
  unfold Hid;rw[hW];exact(RegAt.alloc w _ yk).below (bwA _)
 have al:Hid (RegAt W (w.heap.size+1) 116 yk):=by
  unfold Hid;have h:=RegAt.alloc (w.alloc (.cells (regA yk) 116)) 116 yk;have e1:(w.alloc (.cells (regA yk) 116)).heap.size=w.heap.size+1:=by simp
  rw[e1] at h;rw[hW];exact h
 have HB:Hid (BW w W):=by
  unfold Hid;rw[hW];exact(bwA w).alloc (by simp) _
 obtain⟨HG,HL⟩:=zn hg hl;have ax:=hW.symm;clear hW hl hg;by_cases hn:n<=8
 .have aq:¬8<(n:Int):=by omega
  go_enter func52,ntmps52;go_wp2;go_loopw [5,6,14] (λ_ _ i wr=>∃k:Nat,k<=n/\(∀j,j<k->0<=g j/\g j<=9)/\i=iA k/\RegAt wr w.heap.size 116 yk/\RegAt wr (w.heap.size+1) 116 (regOf g k)/\BW w wr) (λ_ _ i _=>n-(intOf i).toNat)
  case atStart=>exact⟨0,by omega,λj hj=>by omega,rfl,ag.o,by rw[GN];exact al,HB⟩
  clear ag al HB ax;obtain⟨k,hk,hd,rfl,h1,h2,hb⟩:=hrel;obtain⟨HD,HB,H1,H2⟩:=qO hd hb h1 h2;have an:=zc ((hb.cell (p:=(aA 1 0)) (by exact af)).trans HG);clear hd hb h1 h2;by_cases aj:k=n
  .subst aj;have HT:=zc (xH (regOf g k) wr (λi hi=>by unfold regOf;split;exact HD i ‹_›;omega));have ay:Hid (sumTo (regOf g k) 8=sumTo g k):=by have:=ZQ g k (8-k);rw[Nat.add_sub_cancel' hn] at this;exact this
   obtain⟨az,aa⟩:=zn (kJ g k HD) (Yl g k hn HD);go_wp2_with (first|(refine zr rfl 116 _ rfl _ rfl 116 _ _ H2 underlying116 rfl Tryz.zfG ?_)|fail)
   refine HT.o.mono ?_;rintro e w1 ⟨rfl,ad⟩;rw[ay.o];obtain⟨ao,aB⟩:=zn (H1.o.below ad) (H2.o.below ad);have ai:Hid (BW w w1):=HB.o.trans (ad.mono HB.o.size);have ah:=zc ((ai.o.cell (p:=(aA 1 0)) (by exact af)).trans HG);clear ad HT;by_cases hs:sumTo g k=0
   .have HF:Hid (vB g k=(regOf g k,false)):=by unfold Hid;rw[aa.o,zjR (by omega)]
    rw[hs];clear hs;go_wp2_with fail
    refine rgd (S:=λW'=>cE W' 1 0 (eA b)) ah λhH=>?_;refine yd [0,1] hH (λ_ h=>h) ?_;refine zv 2 λK hK=>?_;rw[zj2 (by rfl)];refine zX 116 _ _ rfl w.heap.size yk rfl rfl 116 (regA yk) ao.o.drew (zj _) Tryz.zfG ?_;intro w2 hq ho;refine hK.out _ _ ((ho.cell (p:=(aA 1 0)) (by show 1≠w.heap.size;omega)).trans hH) λhH=>?_;clear hK K;refine zv 3 λK hK=>?_;go_simp;refine hK.out _ _ hH λhH=>?_;clear hK K;refine dnr ?_;go_wp2;exact zjT (v:=.tuple #[.agg (regA yk),eA b]) (zZ results52 _ _ w.heap.size 116 yk _ _ rfl rfl hq underlying116 rfl Tryz.zfG) rfl ⟨by rw[HF.o];rfl,(ai.o.drew).trans (ho.below (zjA _))⟩
   have HF:Hid (vB g k=(regOf g k,true)):=by unfold Hid;rw[aa.o,zjQ (by have:=az.o;omega)]
   have hsb:(sumTo g k==0)=false:=by simpa using hs
   clear hs;go_wp2_with (first|(refine zr rfl 116 _ rfl _ rfl 116 _ _ aB underlying116 rfl Tryz.zfG ?_)|(refine zp rfl 116 _ _ rfl w.heap.size _ rfl rfl 116 _ ao (zj _) Tryz.zfG ?_;intro w2 hq ho))
   exact zjT (v:=.tuple #[.agg (regA (regOf g k)),.nilIface]) (zZ results52 _ _ w.heap.size 116 _ _ _ rfl rfl hq underlying116 rfl Tryz.zfG) rfl ⟨by rw[HF.o];rfl,ai.o.trans (ho.below (zjA _))⟩
  have ae:k<n:=by omega
  have hki:(k:Int)<n:=by omega
  obtain⟨bb,o,rfl,aw,hc⟩:=HL.o k ae;have hcr:=(HB.o.cell (p:=(aA bb (o+k))) (by exact aw)).trans hc;clear hc aj;by_cases ar:g k<0
  .have HF:Hid (vB g n=(yk,false)):=QE g n (λhh=>by have:=hh.2 k ae;omega);go_wp2_with fail
   refine rgd (S:=λW'=>cE W' 1 0 (eA b)) an λhH=>?_;refine yd [0,1] hH (λ_ h=>h) ?_;refine zv 2 λK hK=>?_;rw[zj2 (by rfl)];refine zX 116 _ _ rfl w.heap.size yk rfl rfl 116 (regA yk) H1.o.drew (zj _) Tryz.zfG ?_;intro w2 hq ho;refine hK.out _ _ ((ho.cell (p:=(aA 1 0)) (by show 1≠w.heap.size;omega)).trans hH) λhH=>?_;clear hK K;refine zv 3 λK hK=>?_;go_simp;refine hK.out _ _ hH λhH=>?_;clear hK K;refine dnr ?_;go_wp2;exact zjT (v:=.tuple #[.agg (regA yk),eA b]) (zZ results52 _ _ w.heap.size 116 yk _ _ rfl rfl hq underlying116 rfl Tryz.zfG) rfl ⟨by rw[HF.o];rfl,(HB.o.drew).trans (ho.below (zjA _))⟩
  by_cases av:9<g k
  .have HF:Hid (vB g n=(yk,false)):=QE g n (λhh=>by have:=hh.2 k ae;omega);go_wp2_with fail
   refine rgd (S:=λW'=>cE W' 1 0 (eA b)) an λhH=>?_;refine yd [0,1] hH (λ_ h=>h) ?_;refine zv 2 λK hK=>?_;rw[zj2 (by rfl)];refine zX 116 _ _ rfl w.heap.size yk rfl rfl 116 (regA yk) H1.o.drew (zj _) Tryz.zfG ?_;intro w2 hq ho;refine hK.out _ _ ((ho.cell (p:=(aA 1 0)) (by show 1≠w.heap.size;omega)).trans hH) λhH=>?_;clear hK K;refine zv 3 λK hK=>?_;go_simp;refine hK.out _ _ hH λhH=>?_;clear hK K;refine dnr ?_;go_wp2;exact zjT (v:=.tuple #[.agg (regA yk),eA b]) (zZ results52 _ _ w.heap.size 116 yk _ _ rfl rfl hq underlying116 rfl Tryz.zfG) rfl ⟨by rw[HF.o];rfl,(HB.o.drew).trans (ho.below (zjA _))⟩
  have ak:=H2.o.cell k (by omega);have hfz:=H2.o.frozen k;have hk8:(k:Int)<8:=by omega
  go_wp2;go_roundw
  case rel=>
   refine⟨k+1,by omega,λj hj=>?_,by go_num,?_,?_,?_⟩
   .by_cases au:j<k
    .exact HD j au
    obtain rfl:j=k:=by omega
    omega
   .exact H1.o.only (zf _ _ _ _) (by omega)
   .rw [<-GO];exact H2.o.set k (g k) (by omega)
   exact HB.o.trans ((zf _ _ _ _).below (by omega))
  simp[intOf];omega
 have aq:8<(n:Int):=by omega
 have HF:Hid (vB g n=(yk,false)):=QE g n (λhh=>hn hh.1);have ah:=zc ((HB.o.cell (p:=(aA 1 0)) (by exact af)).trans HG);clear hn;go_enter func52,ntmps52;go_wp2_with fail
 refine rgd (S:=λW'=>cE W' 1 0 (eA b)) ah λhH=>?_;refine yd [0,1] hH (λ_ h=>h) ?_;refine zv 2 λK hK=>?_;rw[zj2 (by rfl)];refine zX 116 _ _ rfl w.heap.size yk rfl rfl 116 (regA yk) ag.o.drew (zj _) Tryz.zfG ?_;intro w2 hq ho;refine hK.out _ _ ((ho.cell (p:=(aA 1 0)) (by show 1≠w.heap.size;omega)).trans hH) λhH=>?_;clear hK K;refine zv 3 λK hK=>?_;go_simp;refine hK.out _ _ hH λhH=>?_;clear hK K;refine dnr ?_;go_wp2;exact zjT (v:=.tuple #[.agg (regA yk),eA b]) (zZ results52 _ _ w.heap.size 116 yk _ _ rfl rfl hq underlying116 rfl Tryz.zfG) rfl ⟨by rw[HF.o];rfl,(HB.o.drew).trans (ho.below (zjA _))⟩
end
theorem Zl(x:Nat->Int)(s:zj5)(h:s.size=0):zi x s=(x,true):=by
 unfold zi qs;rw[zj2 h];rfl
theorem Yx(x:Nat->Int)(s:zj5)(h:s.size≠0)(h3:3<(qb s 0 0).length):(zi x s).2=false:=by
 unfold zi qs;rw[zj3 h];split
 .rw [zjR (by omega)];rfl
 rfl
theorem Xj(x:Nat->Int)(s:zj5)(h:s.size≠0)(k:Nat)(hk:k<(qb s 0 0).length)(hf:yN ((qb s 0 0).getD k zj4)=false):(zi x s).2=false:=by
 unfold zi qs;rw[zj3 h,zj3]
 .rfl
 intro ha;have:=List.all_eq_true.1 ha _ (List.getElem_mem hk);rw[zjK,zjJ hk] at hf;simp only[Option.getD_some] at hf;rw[hf] at this;cases this
theorem Yw(x:Nat->Int)(s:zj5)(h:s.size≠0)(hf:(behindL x (qb s 0 0)).2=false):(zi x s).2=false:=by
 unfold zi qs;rw[zj3 h];split
 .unfold zeR;split
  .exact hf
  rfl
 rfl
theorem Zj(x:Nat->Int)(s:zj5)(h:s.size≠0)(hv:2<=votes (qb s 0 0)):(zi x s).2=false:=by
 unfold zi qs;rw[zj3 h];split
 .rw [zjR (p:=votes (qb s 0 0)<2) (by omega),Bool.and_false];rfl
 rfl
theorem Yy(x y:Nat->Int)(s:zj5)(h:s.size≠0)(h3:(qb s 0 0).length<=3)(ha:(qb s 0 0).all yN=true)(hv:votes (qb s 0 0)<2)(hy:behindL x (qb s 0 0)=(y,true)):zi x s=(y,true):=by
 unfold zi qs;rw[zj3 h,zj2 ha];simp only
 rw[zjQ h3,zjQ hv];exact hy
theorem Vb(y:Nat->Int)(l:List zj5)(k:Nat)(hk:k<l.length)(t:zj5)(ht:t=l.getD k zj4):behindL y (l.drop k)=if(yS y t).2 then behindL (yS y t).1 (l.drop (k+1)) else((yS y t).1,false):=by
 have e:l.drop k=t::l.drop (k+1):=by
  rw[ht,List.drop_eq_getElem_cons hk,zjK,zjJ hk];rfl
 rw[e];rfl
theorem zaU(l:List zj5)(k:Nat)(hk:k<l.length)(t:zj5)(ht:t=l.getD k zj4):l.take (k+1)=l.take k++[t]:=by
 rw[ht,zjK,zjJ hk,Option.getD_some,List.take_append_getElem hk]
theorem zbB(y:Nat->Int)(t:zj5)(hf:yN t=true):
 yS y t=(upd y (spot (byt t 0) (idxN (byt t 0) (byt t 1)).toNat) (numN (byt t 0) (byt t 2)),gq y (byt t 0) (idxN (byt t 0) (byt t 1)).toNat (numN (byt t 0) (byt t 2))):=by
 have aa:=zjP hf;unfold yS zbD gq spot idxN numN;rcases aa with⟨hn,h0,h1,h2⟩|⟨hn,h0,h1,h2,h3,h4⟩|⟨hn,h0,h1,h2,h3,h4⟩
 .rw [h0];simp
 .rcases h0 with h0|h0
  .rw [h0];simp;omega
  rw[h0];simp
 rw[h0];simp[Bool.and_comm]
theorem zaj(t:zj5)(hf:yN t=true):
 (byt t 0=106\/byt t 0=108\/byt t 0=114\/byt t 0=118)/\(byt t 0=118->(idxN (byt t 0) (byt t 1)).toNat<8)/\(byt t 0≠118->(idxN (byt t 0) (byt t 1)).toNat<26)/\0<=numN (byt t 0) (byt t 2)/\numN (byt t 0) (byt t 2)<=9/\idxN (byt t 0) (byt t 1)=(((idxN (byt t 0) (byt t 1)).toNat:Nat):Int):=by
 have aa:=zjP hf;unfold idxN numN;rcases aa with⟨hn,h0,h1,h2⟩|⟨hn,h0,h1,h2,h3,h4⟩|⟨hn,h0,h1,h2,h3,h4⟩
 .rw [h0];simp;omega
 .rcases h0 with h0|h0
  .rw [h0];simp;omega
  rw[h0];simp;omega
 rw[h0];simp;omega
section
open Proofs.Tryz
theorem zai(l:List zj5)(N j:Nat)(h:j<l.length):(Lib.cellsOf l N)[j]? =some (sA (l.getD j zj4)):=by
 unfold Lib.cellsOf;rw[List.getElem?_toArray,zjN (by simpa using h),List.getElem?_map,zjJ h,zjK,zjJ h];rfl
theorem zaY(s:zj5)(m:Int)(w:World)(hs:s.size<4294967281)(hm:w.cell? (aA 13 0)=some (iA m)):
 Calls prog 133 #[sA s,sA ⟨#[44]⟩,iA 4] w λe w'=>∃n cap,e=.returned (.slice (some (aA w.heap.size 0)) n cap)/\BW w w'/\w.heap.size<w'.heap.size/\(3<(qb s 0 0).length->n=4)/\
  ((qb s 0 0).length<=3->n=(qb s 0 0).length/\∀j,j<n->w'.cell? (aA w.heap.size j)=some (sA ((qb s 0 0).getD j zj4))):=by
 refine(Tryz.strings_SplitN s comma 4 m w hs hm (by decide) (by decide) (by decide)).mono ?_;rintro e w' ⟨rfl,rfl⟩;refine⟨_,_,rfl,bwA w,by simp,λh=>Vs s h,λh=>?_⟩;rw[GE s h];refine⟨rfl,λj hj=>?_⟩;rw[zjD _ w.heap.size j _ _ _ (zjC w _),zai _ _ _ hj]
section
variable{P:Program}
theorem KO{ops:Array Oper}{rest:List Oper}{op:Oper}{a:Act}{w:World}{Q:Exit->Act->World->Prop}(hw:Region.wanted op (yielded ops a.tmps)=true)
 (h:∀K:Act->World->Prop,(∀a w,wpList P ops Q rest a w->K a w)->op.wp P a w K Q):wpList P ops Q (op::rest) a w:=
 wpList_step λK hK=>by rw[zj2 hw];exact h K hK
theorem zD{ops:Array Oper}{rest:List Oper}{op:Oper}{a:Act}{w:World}{Q:Exit->Act->World->Prop}(hw:Region.wanted op (yielded ops a.tmps)=true)(ty:TypeId)(p:Operand)(ho:op.op=.load ty p)
 (g:Nat) (hp:a.eval p=pA g 0) (t:TypeId) (cs:Array Value) (d:TypeDesc) (hg:w.heap[g]? =some (.cells cs t (0,0))) (hu:P.underlying ty=some d) (hd:d.isRow=true) (hi:(P.info? ty).map (·.size)=some cs.size)
 (h:wpList P ops Q rest (a.put op.dst (.agg cs)) w):wpList P ops Q (op::rest) a w:=
 KO hw λ_ hK=>wp_load_row ty p ho g hp t cs (0,0) d hg hu (by cases d<;>simp_all) hi (hK _ _ h)
end
theorem qU(x:Nat->Int)(s:zj5)(b:Addr)(m:Int)(w:World)(hx:Dom x)(hs:s.size<4294967281)(hg:w.cell? (aA 11 0)=some (eA b))(hm:w.cell? (aA 13 0)=some (iA m)):
 Calls prog 94 #[.agg (regA x),sA s] w λe w'=>e=.returned (.tuple #[.agg (regA (zag (zi x s))),ze6 (zi x s).2 b])/\BW w w':=by
 have z0:=yV;have aJ:11<w.heap.size:=zjI _ _ hg;obtain⟨W,hW⟩:∃W,W=(w.alloc (.cells (regA x) 116)).alloc (.cells (regA yk) 116):=⟨_,rfl⟩;have aV:Hid (RegAt W w.heap.size 116 x):=by
  unfold Hid;rw[hW];exact(RegAt.alloc w _ x).below (bwA _)
 have aU:Hid (RegAt W (w.heap.size+1) 116 yk):=by
  unfold Hid;have h:=RegAt.alloc (w.alloc (.cells (regA x) 116)) 116 yk;have e1:(w.alloc (.cells (regA x) 116)).heap.size=w.heap.size+1:=by simp
  rw[e1] at h;rw[hW];exact h
 have HB:Hid (BW w W):=by
  unfold Hid;rw[hW];exact(bwA w).alloc (by simp) _
 have bm:W.heap.size=w.heap.size+1+1:=by rw[hW];simp
 obtain⟨HG,HX⟩:=zn hg hx;have bp:=zc ((HB.o.cell (p:=(aA 13 0)) (by exact zjI _ _ hm)).trans hm);have bG:=hW.symm;clear hW hx hg hm;by_cases ah:s.size=0
 .have HF:=zc (Zl x s ah);have bE:s=zj4:=by
   apply ByteArray.ext;apply Array.ext';have:s.data.toList.length=0:=by simpa using ah
   rw[List.length_eq_zero_iff.1 this];rfl
  clear ah hs;subst bE;go_enter func94,ntmps94;go_wp2_with (first|(refine zr rfl 116 _ rfl _ rfl 116 _ _ aV underlying116 rfl Tryz.zfG ?_)|(refine zp rfl 116 _ _ rfl (w.heap.size+1) _ rfl rfl 116 _ aU (zj _) Tryz.zfG ?_;intro w2 hq ho))
  exact zjT (v:=.tuple #[.agg (regA x),.nilIface]) (zZ results94 _ _ (w.heap.size+1) 116 _ _ _ rfl rfl hq underlying116 rfl Tryz.zfG) rfl ⟨by rw[HF.o];rfl,HB.o.trans (ho.below (by omega))⟩
 have bF:=JA ah;have bn:=zc (zaY s m W hs bp);go_enter func94,ntmps94;go_wp2_with fail
 refine bn.o.mono ?_;rintro e w1 ⟨n,cap,rfl,aL,aQ,ad,ai⟩;have aN:Hid (BW w w1):=HB.o.trans (aL.mono HB.o.size);obtain⟨bC,bc⟩:=zn (aV.o.below aL) (aU.o.below aL);have bs:=zc ((aN.o.cell (p:=(aA 11 0)) (by exact aJ)).trans HG);rw[bm] at ai aQ;rw[bm];clear bn bp bF aL bG aV aU;by_cases h3:3<(qb s 0 0).length
 .obtain rfl:=ad h3;have HF:=zc (Yx x s ah h3);clear ai ad h3;go_wp2_with fail
  refine rgd (S:=λW'=>cE W' 11 0 (eA b)) bs λhH=>?_;refine yd [0,1] hH (λ_ h=>h) ?_;refine zv 2 λK hK=>?_;rw[zj2 (by rfl)];refine zX 116 _ _ rfl (w.heap.size+1) yk rfl rfl 116 (regA yk) bc.o.drew (zj _) Tryz.zfG ?_;intro w2 hq ho;refine hK.out _ _ ((ho.cell (p:=(aA 11 0)) (by show 11≠(w.heap.size+1);omega)).trans hH) λhH=>?_;clear hK K;refine zv 3 λK hK=>?_;go_simp;refine hK.out _ _ hH λhH=>?_;clear hK K;refine dnr ?_;go_wp2;exact zjT (v:=.tuple #[.agg (regA yk),eA b]) (zZ results94 _ _ (w.heap.size+1) 116 yk _ _ rfl rfl hq underlying116 rfl Tryz.zfG) rfl ⟨by unfold zag;rw[HF.o];rfl,(aN.o.drew).trans (ho.below (by omega))⟩
 obtain⟨hn,ae⟩:=ai (by omega);have hn3:¬3<(n:Int):=by omega
 obtain⟨HC,HN⟩:=zn ae hn;have H3:Hid ((qb s 0 0).length<=3):=by unfold Hid;omega
 clear ad h3 ae hn ai;obtain⟨L,hL⟩:=gen (qb s 0 0);rw[<-hL] at HC HN;have HL:=zc hL;clear hL;go_wp2;go_loopw [7,9,10,11,24] (λch _ _ _ i wr=>∃(k:Nat) (y:Nat->Int),k<=L.length/\i=iA k/\ch=iA (votes (L.take k):Nat)/\(L.take k).all yN=true/\behindL x L=behindL y (L.drop k)/\Dom y/\RegAt wr w.heap.size 116 y/\RegAt wr (w.heap.size+1) 116 yk/\BW w wr/\w.heap.size+1+1<wr.heap.size/\∀j,j<n->cE wr (w.heap.size+1+1) j (sA (L.getD j zj4))) (λ_ _ _ _ i _=>L.length-(intOf i).toNat)
 case atStart=>exact⟨0,x,by omega,rfl,rfl,rfl,rfl,HX.o,bC.o,bc.o,aN.o,by omega,HC.o⟩
 clear bC bc aN bs HC HX HB;obtain⟨k,y,hk,rfl,rfl,aB,bl,bj,h1,h2,hb,bg,bk⟩:=hrel;obtain⟨HA,a7,bu,H1,H2,HB,HC⟩:=Qy aB bl bj h1 h2 hb bk;have bL:=zc ((hb.cell (p:=(aA 11 0)) (by exact aJ)).trans HG);clear aB bl bj h1 h2 hb bk;by_cases aG:k=L.length
 .have hge:¬(k:Int)<n:=by have:=HN.o;omega
  have HT:Hid (L.take k=L):=by unfold Hid;rw[aG,zke]
  have HE:Hid (behindL x L=(y,true)):=by unfold Hid;rw[a7.o,aG,List.drop_length];rfl
  have bO:Hid (L.all yN=true):=by have:=HA.o;rw[HT.o] at this;exact this
  rw[HT.o];have hvl:votes L<=3:=by have h5:=Xs L;have h6:=H3.o;rw[<-HL.o] at h6;omega
  clear aG;by_cases hv:votes L<2
  .have HF:Hid (zi x s=(y,true)):=by
    have h4:=HL.o;have h5:=H3.o;have h6:=bO.o;have h7:=HE.o;rw[h4] at h6 h7 hv;exact Yy x y s ah h5 h6 hv h7
   have bD:¬1<((votes L:Nat):Int):=by omega
   clear hv;go_wp2_with (first|(refine zr rfl 116 _ rfl _ rfl 116 _ _ H1 underlying116 rfl Tryz.zfG ?_)|(refine zp rfl 116 _ _ rfl (w.heap.size+1) _ rfl rfl 116 _ H2 (zj _) Tryz.zfG ?_;intro w2 hq ho))
   exact zjT (v:=.tuple #[.agg (regA y),.nilIface]) (zZ results94 _ _ (w.heap.size+1) 116 _ _ _ rfl rfl hq underlying116 rfl Tryz.zfG) rfl ⟨by rw[HF.o];rfl,HB.o.trans (ho.below (by omega))⟩
  have HF:Hid ((zi x s).2=false):=Zj x s ah (by rw[<-HL.o];omega);have bD:1<((votes L:Nat):Int):=by omega
  clear hv;go_wp2_with fail
  refine rgd (S:=λW'=>cE W' 11 0 (eA b)) bL λhH=>?_;refine yd [0,1] hH (λ_ h=>h) ?_;refine zv 2 λK hK=>?_;rw[zj2 (by rfl)];refine zX 116 _ _ rfl (w.heap.size+1) yk rfl rfl 116 (regA yk) H2.o.drew (zj _) Tryz.zfG ?_;intro w2 hq ho;refine hK.out _ _ ((ho.cell (p:=(aA 11 0)) (by show 11≠(w.heap.size+1);omega)).trans hH) λhH=>?_;clear hK K;refine zv 3 λK hK=>?_;go_simp;refine hK.out _ _ hH λhH=>?_;clear hK K;refine dnr ?_;go_wp2;exact zjT (v:=.tuple #[.agg (regA yk),eA b]) (zZ results94 _ _ (w.heap.size+1) 116 yk _ _ rfl rfl hq underlying116 rfl Tryz.zfG) rfl ⟨by unfold zag;rw[HF.o];rfl,(HB.o.drew).trans (ho.below (by omega))⟩
 have aS:k<L.length:=by omega
 have hki:(k:Int)<n:=by have:=HN.o;omega
 obtain⟨t,ht⟩:=gen (L.getD k zj4);have hcr:wr.cell? (aA (w.heap.size+1+1) k)=some (sA t):=by rw[ht];exact HC.o k (by have:=HN.o;omega)
 obtain⟨aM,bz⟩:=zn (zaU L k aS t ht) (Vb y L k aS t ht);have bI:Hid (yN t=false->(zi x s).2=false):=λh=>Xj x s ah k (by rw[<-HL.o];exact aS) (by rw[<-HL.o,<-ht];exact h);have hvb:votes (L.take k)<=3:=by have h5:=Xs (L.take k);rw[List.length_take] at h5;have h6:=H3.o;rw[<-HL.o] at h6;omega
 clear ht aG;cases an:yN t with
 |false=>
  have au:Hid (qY t.size (byt t 0) (byt t 1) (byt t 2)=false):=an;have HF:=zc (bI an);clear an;go_wp2_with fail
  refine(Qe t _).mono ?_;rintro e w3 ⟨⟨a,q,c,he,-⟩,af⟩;rw[au.o] at he;subst he;have av:Hid (BW w w3):=HB.o.trans (af.mono HB.o.size);have aO:=zc (H2.o.below af);clear af;go_wp2_with (refine zd rfl 226 _ _ rfl w3.heap.size #[.int .u8 a,iA q,iA c] rfl rfl 226 #[.int .u8 0,iA 0,iA 0] (zjC w3 _) rfl (by simp[Value.oneCell']) Tryz.zfP ?_;intro w4 hq ho;have aC:=zc ho;clear hq ho)
  have ar:Hid (BW w3 w4):=(bwA w3).trans (aC.o.below (zjA _));have ak:Hid (BW w w4):=av.o.trans (ar.o.mono av.o.size);have bP:=zc (aO.o.below ar);have bN:=zc ((ak.o.cell (p:=(aA 11 0)) (by exact aJ)).trans HG);refine rgd (S:=λW'=>cE W' 11 0 (eA b)) bN λhH=>?_;refine yd [0,1] hH (λ_ h=>h) ?_;refine zv 2 λK hK=>?_;rw[zj2 (by rfl)];refine zX 116 _ _ rfl (w.heap.size+1) yk rfl rfl 116 (regA yk) bP.o.drew (zj _) Tryz.zfG ?_;intro w2 hq ho;refine hK.out _ _ ((ho.cell (p:=(aA 11 0)) (by show 11≠(w.heap.size+1);omega)).trans hH) λhH=>?_;clear hK K;refine zv 3 λK hK=>?_;go_simp;refine hK.out _ _ hH λhH=>?_;clear hK K;refine dnr ?_;go_wp2;exact zjT (v:=.tuple #[.agg (regA yk),eA b]) (zZ results94 _ _ (w.heap.size+1) 116 yk _ _ rfl rfl hq underlying116 rfl Tryz.zfG) rfl ⟨by unfold zag;rw[HF.o];rfl,(ak.o.drew).trans (ho.below (by omega))⟩
 |true=>
  have au:Hid (qY t.size (byt t 0) (byt t 1) (byt t 2)=true):=an;obtain⟨aq,aZ,aY⟩:=zS (zbB y t an) (zaj t an) an;clear an;go_wp2_with fail
  refine(Qe t _).mono ?_;rintro e w3 ⟨⟨a,q,c,he,az⟩,af⟩;rw[au.o] at he;subst he;obtain⟨rfl,rfl,rfl⟩:=az au;have av:Hid (BW w w3):=HB.o.trans (af.mono HB.o.size);obtain⟨bf,aO⟩:=zn (H1.o.below af) (H2.o.below af);have bx:Hid (∀j,j<n->cE w3 (w.heap.size+1+1) j (sA (L.getD j zj4))):=λj hj=>(af.cell (p:=(aA (w.heap.size+1+1) j)) (by exact bg)).trans (HC j hj);have aw:w.heap.size+1+1<w3.heap.size:=zjE bg af.size;have br:=zc aZ.o.1;obtain⟨-,ay,ax,aE,aD,aH⟩:=aZ.o;generalize bh:byt t 0=kd at au aq br ay ax aE aD aH ⊢;generalize (idxN kd (byt t 1))=q at aq ay ax aH ⊢;generalize (numN kd (byt t 2))=num at aq aE aD ⊢;obtain⟨i,hi⟩:=gen q.toNat;rw[<-hi] at aq ay ax aH;clear hi;subst aH;obtain⟨aT,bo,bq,bK,bJ⟩:=x6 ay ax bh aE aD;clear af ay ax aZ bh au az aE aD;go_wp2_with (first|(refine zd rfl 226 _ _ rfl w3.heap.size #[.int .u8 kd,iA i,iA num] rfl rfl 226 #[.int .u8 0,iA 0,iA 0] (zjC w3 _) rfl (by simp[Value.oneCell']) Tryz.zfP ?_;intro w4 hq ho;have aX:=zc hq;have aC:=zc ho;clear hq ho)|(refine zD (by rfl) 116 _ rfl w.heap.size rfl 116 (regA y) _ (bf.o.below ((bwA w3).trans (aC.o.below (zjA _)))) underlying116 rfl (by rw[zj];exact Tryz.zfG) ?_)|(refine zD (by rfl) 226 _ rfl w3.heap.size rfl 226 #[.int .u8 kd,iA i,iA num] _ aX underlying226 rfl Tryz.zfP ?_))
  refine(zei y kd i num _ bu br aT bo bK bJ).mono ?_;rintro e w5 ⟨rfl,aK⟩;have ar:Hid (BW w3 w4):=((bwA w3).trans (aC.o.below (zjA _)));have aR:=aX.o;have bH:w3.heap.size<w4.heap.size:=Jj aR;have ak:Hid (BW w w5):=(av.o.trans (ar.o.mono av.o.size)).trans (aK.mono (zjF av.o.size ar.o.size));have al:Hid (BW w3 w5):=ar.o.trans (aK.mono ar.o.size);have aW:Hid (cL w5 w3.heap.size #[.int .u8 kd,iA i,iA num] 226):=(aK.block _ bH).trans aR;obtain⟨aP,bb⟩:=zn (bf.o.below al) (aO.o.below al);have bw:Hid (∀j,j<n->cE w5 (w.heap.size+1+1) j (sA (L.getD j zj4))):=λj hj=>(al.o.cell (p:=(aA (w.heap.size+1+1) j)) (by exact aw)).trans (bx j hj);have ag:w.heap.size+1+1<w5.heap.size:=zjE aw al.o.size;have bM:=zc ((ak.o.cell (p:=(aA 11 0)) (by exact aJ)).trans HG);clear aR aK bf aO bx aX aC;cases aF:gq y kd i num with
  |false=>
   have HF:Hid ((zi x s).2=false):=by
    refine Yw x s ah ?_;rw[<-HL.o,a7.o,bz.o,aq.o,aF];rfl
   clear aF;go_wp2_with fail
   refine rgd (S:=λW'=>cE W' 11 0 (eA b)) bM λhH=>?_;refine yd [0,1] hH (λ_ h=>h) ?_;refine zv 2 λK hK=>?_;rw[zj2 (by rfl)];refine zX 116 _ _ rfl (w.heap.size+1) yk rfl rfl 116 (regA yk) bb.o.drew (zj _) Tryz.zfG ?_;intro w2 hq ho;refine hK.out _ _ ((ho.cell (p:=(aA 11 0)) (by show 11≠(w.heap.size+1);omega)).trans hH) λhH=>?_;clear hK K;refine zv 3 λK hK=>?_;go_simp;refine hK.out _ _ hH λhH=>?_;clear hK K;refine dnr ?_;go_wp2;exact zjT (v:=.tuple #[.agg (regA yk),eA b]) (zZ results94 _ _ (w.heap.size+1) 116 yk _ _ rfl rfl hq underlying116 rfl Tryz.zfG) rfl ⟨by unfold zag;rw[HF.o];rfl,(ak.o.drew).trans (ho.below (by omega))⟩
  |true=>
   have bB:Hid (behindL x L=behindL (upd y (spot kd i) num) (L.drop (k+1))):=by
    unfold Hid;rw[a7.o,bz.o,aq.o,aF];rfl
   have bt:Hid (Dom (upd y (spot kd i) num)):=by
    have h:=bu.o.next aY;rw[aq.o] at h;exact h
   clear aF;have hk0:cN w5 w3 0 (.int .u8 kd):=zjD w5 w3.heap.size 0 _ _ _ aW;by_cases aj:kd=118
   .subst aj;have HV:Hid (votes (L.take (k+1))=votes (L.take k)+1):=by unfold Hid;rw[aM.o,jb,bq.o];rfl
    go_wp2_with (first|(refine zr rfl 116 _ rfl w.heap.size rfl 116 y _ aP underlying116 rfl Tryz.zfG ?_)|(refine zkb rfl 226 _ rfl w3.heap.size rfl 226 #[.int .u8 118,iA i,iA num] (0,0) _ aW underlying226 rfl Tryz.zfP ?_)|fail)
    refine(Zz y 118 i num _ (λ_=>aT.o (by simp)) (λh=>absurd rfl h)).mono ?_;rintro e w6 ⟨rfl,aa⟩;have a8:Hid (BW w w6):=ak.o.trans (aa.mono ak.o.size);obtain⟨bd,ba⟩:=zn (aP.o.below aa) (bb.o.below aa);have a6:Hid (∀j,j<n->cE w6 (w.heap.size+1+1) j (sA (L.getD j zj4))):=λj hj=>(aa.cell (p:=(aA (w.heap.size+1+1) j)) (by exact ag)).trans (bw j hj);have ao:w.heap.size+1+1<w6.heap.size:=zjE ag aa.size;clear aa;go_wp2_with (refine zp rfl 116 _ _ rfl w.heap.size _ rfl rfl 116 _ bd (zj _) Tryz.zfG ?_;intro w7 hq ho)
    go_roundw
    case rel=>
     refine⟨k+1,upd y (spot 118 i) num,by omega,by go_num,by rw[HV.o];go_num,?_,bB.o,bt.o,hq,ba.o.only ho (by omega),a8.o.trans (ho.below (zjA _)),by rw[ho.size];exact ao,λj hj=>(ho.cell (p:=(aA (w.heap.size+1+1) j)) (by show w.heap.size+1+1≠w.heap.size;omega)).trans (a6.o j hj)⟩;rw[aM.o,List.all_append,HA.o];simp[aY.o]
    simp[intOf];omega
   have HV:Hid (votes (L.take (k+1))=votes (L.take k)):=by unfold Hid;rw[aM.o,jb,bq.o,zj3 aj];rfl
   have hkb:(kd==118)=false:=by simpa using aj
   clear aj;go_wp2_with (first|(refine zr rfl 116 _ rfl w.heap.size rfl 116 y _ aP underlying116 rfl Tryz.zfG ?_)|(refine zkb rfl 226 _ rfl w3.heap.size rfl 226 #[.int .u8 kd,iA i,iA num] (0,0) _ aW underlying226 rfl Tryz.zfP ?_)|fail)
   refine(Zz y kd i num _ aT bo).mono ?_;rintro e w6 ⟨rfl,aa⟩;have a8:Hid (BW w w6):=ak.o.trans (aa.mono ak.o.size);obtain⟨bd,ba⟩:=zn (aP.o.below aa) (bb.o.below aa);have a6:Hid (∀j,j<n->cE w6 (w.heap.size+1+1) j (sA (L.getD j zj4))):=λj hj=>(aa.cell (p:=(aA (w.heap.size+1+1) j)) (by exact ag)).trans (bw j hj);have ao:w.heap.size+1+1<w6.heap.size:=zjE ag aa.size;clear aa;go_wp2_with (refine zp rfl 116 _ _ rfl w.heap.size _ rfl rfl 116 _ bd (zj _) Tryz.zfG ?_;intro w7 hq ho)
   go_roundw
   case rel=>
    refine⟨k+1,upd y (spot kd i) num,by omega,by go_num,by rw[HV.o],?_,bB.o,bt.o,hq,ba.o.only ho (by omega),a8.o.trans (ho.below (zjA _)),by rw[ho.size];exact ao,λj hj=>(ho.cell (p:=(aA (w.heap.size+1+1) j)) (by show w.heap.size+1+1≠w.heap.size;omega)).trans (a6.o j hj)⟩;rw[aM.o,List.all_append,HA.o];simp[aY.o]
   simp[intOf];omega

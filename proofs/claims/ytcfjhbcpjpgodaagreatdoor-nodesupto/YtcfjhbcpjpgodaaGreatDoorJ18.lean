import Derived.Lib.SplitLaws
import Derived.Test.YtcfjhbcpjpgodaaGreatDoorJ17
import Derived.Test.YtcfjhbcpjpgodaaGreatDoorProgRead
import Derived.BigQuiet
import Derived.Test.YtcfjhbcpjpgodaaGreatDoorShelfB
namespace Go.Proofs.YtcfjhbcpjpgodaaGreatDoor
open Go.RowKit
set_option maxRecDepth 100000
set_option maxHeartbeats 0
set_option linter.all false
def comma:zgW:=⟨#[44]⟩
theorem Vo(b:zgW)(i:Nat)(h:i<b.size)(hc:b.data.toList[i]? ≠some 44):byt b i≠44:=by
 intro e;apply hc;have hl:i<b.data.toList.length:=by simpa using h
 unfold byt at e;rw[zgz,zgy hl] at e;rw[zgy hl];have e2:(b.data.toList[i]).toNat=44:=by simp only[Option.getD_some] at e;omega
 congr 1
 exact UInt8.toNat_inj.1 e2
theorem JC(b:zgW)(i:Nat)(hc:b.data.toList[i]? =some 44):i<b.size/\byt b i=44:=by
 have hl:=(List.getElem?_eq_some_iff.1 hc).1;refine⟨by simpa using hl,?_⟩;unfold byt;rw[zgz,hc];rfl
theorem jQ(b:zgW)(fr i:Nat):∀j,i+j<=b.size->(∀k,i<=k->k<i+j->byt b k≠44)->yG b fr i=yG b fr (i+j)
 |0,_,_=>rfl
 |j+1,h,hn=>by
  rw[jQ b fr i j (by omega) (λk h1 h2=>hn k h1 (by omega)),vU b fr (i+j) (by omega) (hn _ (by omega) (by omega))];rfl
theorem YD(b:zgW)(m fr i:Nat)(h:m+i<=b.size):(b.extract m b.size).extract fr i=b.extract (m+fr) (m+i):=by
 apply ByteArray.ext;apply Array.ext';rw[Lib.extract_data,Lib.extract_data,Lib.extract_data,List.drop_take,List.drop_drop,List.take_take]
 congr 1
 omega
theorem zb6(b:zgW)(m:Nat)(hm:m<=b.size):∀(n fr i:Nat),b.size+1-(m+i)=n->yG (b.extract m b.size) fr i=yG b (m+fr) (m+i):=by
 intro n;induction n using Nat.strongRecOn with
 |_ n ih=>
  intro fr i hn;have hz:=vf b m b.size (zgp _);rcases Nat.lt_trichotomy (m+i) b.size with h|h|h
  .have hb:byt (b.extract m b.size) i=byt b (m+i):=ZU b m b.size i h;by_cases hc:byt b (m+i)=44
   .rw [jS _ fr i (by omega) (by rw[hb];exact hc),jS b _ (m+i) h hc,YD b m fr i (by omega),ih (b.size+1-(m+(i+1))) (by omega) (i+1) (i+1) rfl];rfl
   rw[vU _ fr i (by omega) (by rw[hb];exact hc),vU b _ (m+i) h hc,ih (b.size+1-(m+(i+1))) (by omega) fr (i+1) rfl];rfl
  .have e:i=(b.extract m b.size).size:=by omega
   rw[h];have h1:=kZ (b.extract m b.size) fr;rw[<-e] at h1;rw[h1,kZ,yM _ _ (i+1) (by omega),yM b _ (b.size+1) (by omega),YD b m fr i (by omega),h]
  rw[yM _ _ _ (by omega),yM b _ _ h]
theorem ZB(b:zgW):Lib.indexB b comma=Lib.indexByte b.data.toList 44:=Lib.index_one _ _
theorem jR(b:zgW)(h:Lib.indexB b comma= -1):yG b 0 0=[b]:=by
 rw[ZB] at h;rw[jQ b 0 0 b.size (by omega) (λk _ hk=>Vo b k (by omega) (Lib.indexByte_none h k)),zg0,kZ,yM _ _ _ (by omega)]
 congr 1
 apply ByteArray.ext;apply Array.ext';rw[Lib.extract_data,List.drop_zero,List.take_of_length_le (by simp)]
theorem qZ(b:zgW)(i:Nat)(h:Lib.indexB b comma=i):yG b 0 0=b.extract 0 i::yG (b.extract (i+1) b.size) 0 0:=by
 rw[ZB] at h;obtain⟨h1,h2⟩:=Lib.indexByte_some h;obtain⟨h3,h4⟩:=JC b i h1;rw[zb6 b (i+1) (by omega) _ 0 0 rfl,jQ b 0 0 i (by omega) (λk _ hk=>Vo b k (by omega) (h2 k (by omega))),zg0,jS b 0 i h3 h4]
theorem zbm(b:zgW):1<=(yG b 0 0).length:=by
 rcases Lib.indexB_cases b comma with h|⟨i,h,_⟩
 .rw [jR b h];simp
 rw[qZ b i h];simp
theorem Vn(b:zgW):∀(n fr i:Nat),b.size+1-i=n->(yG b fr i).length<=n:=by
 intro n;induction n with
 |zero=>intro fr i hn;rw[yM b fr i (by omega)];simp
 |succ n ih=>
  intro fr i hn;rcases Nat.lt_trichotomy i b.size with h|h|h
  .by_cases hc:byt b i=44
   .rw [jS b fr i h hc];have:=ih (i+1) (i+1) (by omega);simp only[List.length_cons];omega
   rw[vU b fr i h hc];have:=ih fr (i+1) (by omega);omega
  .rw [h,kZ,yM _ _ _ (by omega)];simp
  omega
theorem vA:comma.size=1:=rfl
theorem Yj:∀(k:Nat) (s:zgW),(yG s 0 0).length<=k+1->Lib.splitB comma 0 k s=yG s 0 0
 |0,s,h=>by
  rcases Lib.indexB_cases s comma with hi|⟨i,hi,_⟩
  .rw [Lib.splitB_miss comma 0 0 s hi,jR s hi]
  .rw [qZ s i hi,List.length_cons] at h;have:=zbm (s.extract (i+1) s.size);omega
 |k+1,s,h=>by
  rcases Lib.indexB_cases s comma with hi|⟨i,hi,_⟩
  .rw [Lib.splitB_miss comma 0 _ s hi,jR s hi]
  .rw [qZ s i hi,List.length_cons] at h;rw[Lib.splitB_hit comma 0 k s i hi,qZ s i hi,vA,Yj k _ (by omega)];rfl
theorem Zk:∀(k:Nat) (s:zgW),k+1<=(yG s 0 0).length->(Lib.splitB comma 0 k s).length=k+1
 |0,s,_=>rfl
 |k+1,s,h=>by
  rcases Lib.indexB_cases s comma with hi|⟨i,hi,_⟩
  .rw [jR s hi] at h;simp at h
  .rw [qZ s i hi,List.length_cons] at h;rw[Lib.splitB_hit comma 0 k s i hi,vA,List.length_cons,Zk k _ (by omega)]
theorem Vv(b:zgW)(h:(yG b 0 0).length<=3):Lib.splitB comma 0 (min 4 (b.size+1)-1) b=yG b 0 0:=by
 apply Yj;have:=Vn b (b.size+1) 0 0 rfl;omega
theorem QV(b:zgW)(h:3<(yG b 0 0).length):(Lib.splitB comma 0 (min 4 (b.size+1)-1) b).length=4:=by
 have h1:=Vn b (b.size+1) 0 0 rfl;have h2:min 4 (b.size+1)-1=3:=by omega
 rw[h2];exact Zk 3 b (by omega)
section
open Proofs.Tryz
variable{w:World}{g:Nat}
theorem KY{o:Obj}(h:w.heap[g]? =some o):g<w.heap.size:=by
 rcases Nat.lt_or_ge g w.heap.size with h'|h'
 .exact h'
 simp[Array.getElem?_eq_none h'] at h
theorem yQ{l:List Value}{t:TypeId}(h:w.heap[g]? =some (.cells l.toArray t (0,0))):w.rangeAt g 0 l:=λj v hv=>by
 rw[zg0,zgs w g j _ _ _ h,List.getElem?_toArray];exact hv
def xJ(x:Nat->Int)(kind:Int)(i:Nat)(num:Int):Bool:=
 if kind=118 then decide (x i≠num)&&decide (0<sumTo (upd x i num) 8)
 else if kind=106 then decide (x (8+i)=0)
 else if kind=108 then decide (x (8+i)≠0)
 else decide (x (8+i)≠0)&&decide (x (8+i)≠num)
theorem zcP(x:Nat->Int)(i:Nat)(num:Int)(w:World)(hi:i<26):
 Calls prog 135 #[.agg (regA x),.agg #[.int .u8 106,iA i,iA num]] w λe w'=>e=.returned (bA (xJ x 106 i num))/\BW w w':=by
 obtain⟨W,hW⟩:∃W,W=(w.alloc (.cells (regA x) 116)).alloc (.cells #[.int .u8 106,iA i,iA num] 226):=⟨_,rfl⟩;have HR:Hid (RegAt W w.heap.size 116 x):=by
  unfold Hid;rw[hW];exact(RegAt.alloc w _ x).below (bwA _)
 have aa:W.heap[w.heap.size+1]? =some (.cells #[.int .u8 106,iA i,iA num] 226 (0,0)):=by
  have h:=zgr (w.alloc (.cells (regA x) 116)) (.cells #[.int .u8 106,iA i,iA num] 226);have e1:(w.alloc (.cells (regA x) 116)).heap.size=w.heap.size+1:=by simp
  rw[e1] at h;rw[hW];exact h
 have ae:=zgs W (w.heap.size+1) 0 _ _ _ aa;have ad:=zgs W (w.heap.size+1) 1 _ _ _ aa;have ab:=zgs W (w.heap.size+1) 2 _ _ _ aa;simp only[List.getElem?_toArray,List.getElem?_cons_zero,List.getElem?_cons_succ] at ae ad ab;have af:=zc aa;have HB:Hid (BW w W):=by
  unfold Hid;rw[hW];exact(bwA w).alloc (by simp) _
 have hW2:=hW.symm;clear aa hW;have hi8:(i:Int)<26:=by omega
 have hc:=HR.o.cell (8+i) (by omega);by_cases hz:x (8+i)=0
 .have HF:Hid (xJ x 106 i num=true):=by unfold Hid xJ;simp[hz]
  rw[hz] at hc;clear hz hi;go_enter func135,ntmps135;go_wp2;go_ret;exact⟨zS HF.o.symm,HB⟩
 have HF:Hid (xJ x 106 i num=false):=by unfold Hid xJ;simp[hz]
 have hzb:(x (8+i)==0)=false:=by simpa using hz
 have hzn:(x (8+i) != 0)=true:=by simpa using hz
 clear hz hi;go_enter func135,ntmps135;go_wp2;go_ret;exact⟨zS HF.o.symm,HB⟩
theorem zcO(x:Nat->Int)(i:Nat)(num:Int)(w:World)(hi:i<26):
 Calls prog 135 #[.agg (regA x),.agg #[.int .u8 108,iA i,iA num]] w λe w'=>e=.returned (bA (xJ x 108 i num))/\BW w w':=by
 obtain⟨W,hW⟩:∃W,W=(w.alloc (.cells (regA x) 116)).alloc (.cells #[.int .u8 108,iA i,iA num] 226):=⟨_,rfl⟩;have HR:Hid (RegAt W w.heap.size 116 x):=by
  unfold Hid;rw[hW];exact(RegAt.alloc w _ x).below (bwA _)
 have aa:W.heap[w.heap.size+1]? =some (.cells #[.int .u8 108,iA i,iA num] 226 (0,0)):=by
  have h:=zgr (w.alloc (.cells (regA x) 116)) (.cells #[.int .u8 108,iA i,iA num] 226);have e1:(w.alloc (.cells (regA x) 116)).heap.size=w.heap.size+1:=by simp
  rw[e1] at h;rw[hW];exact h
 have ae:=zgs W (w.heap.size+1) 0 _ _ _ aa;have ad:=zgs W (w.heap.size+1) 1 _ _ _ aa;have ab:=zgs W (w.heap.size+1) 2 _ _ _ aa;simp only[List.getElem?_toArray,List.getElem?_cons_zero,List.getElem?_cons_succ] at ae ad ab;have af:=zc aa;have HB:Hid (BW w W):=by
  unfold Hid;rw[hW];exact(bwA w).alloc (by simp) _
 have hW2:=hW.symm;clear aa hW;have hi8:(i:Int)<26:=by omega
 have hc:=HR.o.cell (8+i) (by omega);by_cases hz:x (8+i)=0
 .have HF:Hid (xJ x 108 i num=false):=by unfold Hid xJ;simp[hz]
  rw[hz] at hc;clear hz hi;go_enter func135,ntmps135;go_wp2;go_ret;exact⟨zS HF.o.symm,HB⟩
 have HF:Hid (xJ x 108 i num=true):=by unfold Hid xJ;simp[hz]
 have hzb:(x (8+i)==0)=false:=by simpa using hz
 have hzn:(x (8+i) != 0)=true:=by simpa using hz
 clear hz hi;go_enter func135,ntmps135;go_wp2;go_ret;exact⟨zS HF.o.symm,HB⟩
theorem zcN(x:Nat->Int)(i:Nat)(num:Int)(w:World)(hi:i<26):
 Calls prog 135 #[.agg (regA x),.agg #[.int .u8 114,iA i,iA num]] w λe w'=>e=.returned (bA (xJ x 114 i num))/\BW w w':=by
 obtain⟨W,hW⟩:∃W,W=(w.alloc (.cells (regA x) 116)).alloc (.cells #[.int .u8 114,iA i,iA num] 226):=⟨_,rfl⟩;have HR:Hid (RegAt W w.heap.size 116 x):=by
  unfold Hid;rw[hW];exact(RegAt.alloc w _ x).below (bwA _)
 have aa:W.heap[w.heap.size+1]? =some (.cells #[.int .u8 114,iA i,iA num] 226 (0,0)):=by
  have h:=zgr (w.alloc (.cells (regA x) 116)) (.cells #[.int .u8 114,iA i,iA num] 226);have e1:(w.alloc (.cells (regA x) 116)).heap.size=w.heap.size+1:=by simp
  rw[e1] at h;rw[hW];exact h
 have ag:=zgs W (w.heap.size+1) 0 _ _ _ aa;have af:=zgs W (w.heap.size+1) 1 _ _ _ aa;have ae:=zgs W (w.heap.size+1) 2 _ _ _ aa;simp only[List.getElem?_toArray,List.getElem?_cons_zero,List.getElem?_cons_succ] at ag af ae;have ah:=zc aa;have HB:Hid (BW w W):=by
  unfold Hid;rw[hW];exact(bwA w).alloc (by simp) _
 have hW2:=hW.symm;clear aa hW;have hi8:(i:Int)<26:=by omega
 have hc:=HR.o.cell (8+i) (by omega);by_cases hz:x (8+i)=0
 .have HF:Hid (xJ x 114 i num=false):=by unfold Hid xJ;simp[hz]
  rw[hz] at hc;clear hz hi;go_enter func135,ntmps135;go_wp2;go_quiet (fail)
  go_wp2;go_ret;exact⟨zS HF.o.symm,zgZ HB _⟩
 have hzb:(x (8+i)==0)=false:=by simpa using hz
 have hzn:(x (8+i) != 0)=true:=by simpa using hz
 by_cases hn:x (8+i)=num;focus
  have HF:Hid (xJ x 114 i num=false):=by unfold Hid xJ;simp[hn]
  have ad:(x (8+i)==num)=true:=by simpa using hn
  have ab:(x (8+i) != num)=false:=by simpa using hn
 rotate_left;focus
  have HF:Hid (xJ x 114 i num=true):=by unfold Hid xJ;simp[hz,hn]
  have ad:(x (8+i)==num)=false:=by simpa using hn
  have ab:(x (8+i) != num)=true:=by simpa using hn
 rotate_left;all_goals
  clear hz hi hn;go_enter func135,ntmps135;go_wp2;go_quiet (fail)
  go_wp2;go_ret;exact⟨zS HF.o.symm,zgZ HB _⟩
theorem zcM(x:Nat->Int)(i:Nat)(num:Int)(w:World)(hx:Dom x)(hi:i<8)(hn0:0<=num)(hn9:num<=9):
 Calls prog 135 #[.agg (regA x),.agg #[.int .u8 118,iA i,iA num]] w λe w'=>e=.returned (bA (xJ x 118 i num))/\BW w w':=by
 obtain⟨W,hW⟩:∃W,W=(w.alloc (.cells (regA x) 116)).alloc (.cells #[.int .u8 118,iA i,iA num] 226):=⟨_,rfl⟩;have HR:Hid (RegAt W w.heap.size 116 x):=by
  unfold Hid;rw[hW];exact(RegAt.alloc w _ x).below (bwA _)
 have ad:W.heap[w.heap.size+1]? =some (.cells #[.int .u8 118,iA i,iA num] 226 (0,0)):=by
  have h:=zgr (w.alloc (.cells (regA x) 116)) (.cells #[.int .u8 118,iA i,iA num] 226);have e1:(w.alloc (.cells (regA x) 116)).heap.size=w.heap.size+1:=by simp
  rw[e1] at h;rw[hW];exact h
 have al:=zgs W (w.heap.size+1) 0 _ _ _ ad;have ak:=zgs W (w.heap.size+1) 1 _ _ _ ad;have aj:=zgs W (w.heap.size+1) 2 _ _ _ ad;simp only[List.getElem?_toArray,List.getElem?_cons_zero,List.getElem?_cons_succ] at al ak aj;have af:=zc ad;have HB:Hid (BW w W):=by
  unfold Hid;rw[hW];exact(bwA w).alloc (by simp) _
 have hW2:=hW.symm;clear ad hW;have hi8:(i:Int)<8:=by omega
 have HX:=zc hx;have HY:Hid (∀j,j<8->0<=upd x i num j/\upd x i num j<=9):=λj _=>(hx.set i num hn0 hn9) j;clear hx hn0 hn9;by_cases hn:x i=num
 .have HF:Hid (xJ x 118 i num=false):=by unfold Hid xJ;simp[hn]
  have ai:(x i==num)=true:=by simpa using hn
  have ah:(x i != num)=false:=by simpa using hn
  clear hn;go_enter func135,ntmps135;go_wp2_with fail
  refine rgd (S:=λW'=>RegAt W' w.heap.size 116 x/\cL W' (w.heap.size+1) #[.int .u8 118,iA i,iA num] 226/\BW w W') ⟨HR.o.drew,af,HB.o.drew⟩ λhH=>?_;refine takeN [(0,some 43,pA (w.heap.size+1) 1),(1,some 44,iA i),(2,some 45,pA w.heap.size 0),(3,some 46,pA w.heap.size i),(4,some 47,iA (x i)),(5,some 48,pA (w.heap.size+1) 2),(6,some 49,iA num),(7,some 50,bA false),(8,some 51,bA false),(9,some 52,undef),(10,some 53,undef),(11,some 54,undef),(12,some 55,undef),(13,some 56,undef),(14,some 57,bA false)] _ _ hH (by repeat(first|exact zgY|((first|(refine tkc rfl rfl (zgR ⟨by rfl,λx h=>?_⟩) ?_;focus(have ae:=zgs _ _ 1 _ _ _ h.2.1;simp only[List.getElem?_toArray,List.getElem?_cons_zero,List.getElem?_cons_succ] at ae;go_simp;done))|(refine tkc rfl rfl (zgR ⟨by rfl,λx h=>?_⟩) ?_;focus(have ae:=zgs _ _ 2 _ _ _ h.2.1;simp only[List.getElem?_toArray,List.getElem?_cons_zero,List.getElem?_cons_succ] at ae;go_simp;done))|(refine tkc rfl rfl (zgR ⟨by rfl,λx h=>?_⟩) ?_;focus(have f0:=h.1.cell i (by omega);go_simp;done))|refine tkc rfl rfl (zgS ⟨by rfl,rfl⟩) ?_);simp only[AP]))) ?_;simp only[zh,AP,pA];refine zp 15 λK hK=>?_;go_simp;refine hK.out _ _ hH λhH=>?_;clear hK K;refine dnr ?_;go_wp2;go_ret;exact⟨zS HF.o.symm,hH.2.2⟩
 by_cases hs:0<sumTo (upd x i num) 8;focus
  have HF:Hid (xJ x 118 i num=true):=by unfold Hid xJ;simp[hn,hs]
  have ai:(x i==num)=false:=by simpa using hn
  have ah:(x i != num)=true:=by simpa using hn
  clear hn;go_enter func135,ntmps135;go_wp2_with fail
  refine rgd (S:=λW'=>RegAt W' w.heap.size 116 x/\cL W' (w.heap.size+1) #[.int .u8 118,iA i,iA num] 226/\BW w W') ⟨HR.o.drew,af,HB.o.drew⟩ λhH=>?_;refine takeN [(0,some 43,pA (w.heap.size+1) 1),(1,some 44,iA i),(2,some 45,pA w.heap.size 0),(3,some 46,pA w.heap.size i),(4,some 47,iA (x i)),(5,some 48,pA (w.heap.size+1) 2),(6,some 49,iA num),(7,some 50,bA true),(8,some 51,bA true),(9,some 52,.agg (regA x)),(10,some 53,.agg #[.int .u8 118,iA i,iA num])] _ _ hH (by repeat(first|exact zgY|((first|refine tkc rfl rfl (zv (by rfl) 116 _ rfl w.heap.size rfl 116 x _ (λw h=>h.1) underlying116 rfl Tryz.zc2) ?_|refine tkc rfl rfl (zg3 (by rfl) 226 _ rfl (w.heap.size+1) 0 rfl [.int .u8 118,iA i,iA num] _ (λw h=>yQ h.2.1) underlying226 rfl (by rw[Tryz.zc4];rfl)) ?_|(refine tkc rfl rfl (zgR ⟨by rfl,λx h=>?_⟩) ?_;focus(have ae:=zgs _ _ 1 _ _ _ h.2.1;simp only[List.getElem?_toArray,List.getElem?_cons_zero,List.getElem?_cons_succ] at ae;go_simp;done))|(refine tkc rfl rfl (zgR ⟨by rfl,λx h=>?_⟩) ?_;focus(have ae:=zgs _ _ 2 _ _ _ h.2.1;simp only[List.getElem?_toArray,List.getElem?_cons_zero,List.getElem?_cons_succ] at ae;go_simp;done))|(refine tkc rfl rfl (zgR ⟨by rfl,λx h=>?_⟩) ?_;focus(have f0:=h.1.cell i (by omega);go_simp;done)));simp only[AP]))) ?_;simp only[zh,AP,pA];refine zp 11 λK hK=>?_;go_simp;go_wp2_with ((go_at_call 136;refine(gS x 118 i num _ (λ_=>hi) (λh=>absurd rfl h)).mono ?_;rintro e w1 ⟨rfl,aa⟩))
  have ab:=hH.2.2.size;refine hK.out _ _ ⟨hH.1.below aa,(aa.block _ (KY hH.2.1)).trans hH.2.1,hH.2.2.trans (aa.mono ab)⟩ λhH=>?_;clear hK K aa ab;have ag:spot 118 i=i:=zgT rfl;rw[ag];refine zp 12 λK hK=>?_;go_simp;go_wp2_with ((go_at_call 103;refine(xh (upd x i num) _ HY).mono ?_;rintro e w1 ⟨rfl,aa⟩))
  have ab:=hH.2.2.size;refine hK.out _ _ ⟨hH.1.below aa,(aa.block _ (KY hH.2.1)).trans hH.2.1,hH.2.2.trans (aa.mono ab)⟩ λhH=>?_;clear hK K aa ab;refine y8 [(13,some 56,bA true),(14,some 57,bA true)] _ _ hH ?_
 rotate_left;focus
  have HF:Hid (xJ x 118 i num=false):=by unfold Hid xJ;simp[hn,hs]
  have ai:(x i==num)=false:=by simpa using hn
  have ah:(x i != num)=true:=by simpa using hn
  clear hn;go_enter func135,ntmps135;go_wp2_with fail
  refine rgd (S:=λW'=>RegAt W' w.heap.size 116 x/\cL W' (w.heap.size+1) #[.int .u8 118,iA i,iA num] 226/\BW w W') ⟨HR.o.drew,af,HB.o.drew⟩ λhH=>?_;refine takeN [(0,some 43,pA (w.heap.size+1) 1),(1,some 44,iA i),(2,some 45,pA w.heap.size 0),(3,some 46,pA w.heap.size i),(4,some 47,iA (x i)),(5,some 48,pA (w.heap.size+1) 2),(6,some 49,iA num),(7,some 50,bA true),(8,some 51,bA true),(9,some 52,.agg (regA x)),(10,some 53,.agg #[.int .u8 118,iA i,iA num])] _ _ hH (by repeat(first|exact zgY|((first|refine tkc rfl rfl (zv (by rfl) 116 _ rfl w.heap.size rfl 116 x _ (λw h=>h.1) underlying116 rfl Tryz.zc2) ?_|refine tkc rfl rfl (zg3 (by rfl) 226 _ rfl (w.heap.size+1) 0 rfl [.int .u8 118,iA i,iA num] _ (λw h=>yQ h.2.1) underlying226 rfl (by rw[Tryz.zc4];rfl)) ?_|(refine tkc rfl rfl (zgR ⟨by rfl,λx h=>?_⟩) ?_;focus(have ae:=zgs _ _ 1 _ _ _ h.2.1;simp only[List.getElem?_toArray,List.getElem?_cons_zero,List.getElem?_cons_succ] at ae;go_simp;done))|(refine tkc rfl rfl (zgR ⟨by rfl,λx h=>?_⟩) ?_;focus(have ae:=zgs _ _ 2 _ _ _ h.2.1;simp only[List.getElem?_toArray,List.getElem?_cons_zero,List.getElem?_cons_succ] at ae;go_simp;done))|(refine tkc rfl rfl (zgR ⟨by rfl,λx h=>?_⟩) ?_;focus(have f0:=h.1.cell i (by omega);go_simp;done)));simp only[AP]))) ?_;simp only[zh,AP,pA];refine zp 11 λK hK=>?_;go_simp;go_wp2_with ((go_at_call 136;refine(gS x 118 i num _ (λ_=>hi) (λh=>absurd rfl h)).mono ?_;rintro e w1 ⟨rfl,aa⟩))
  have ab:=hH.2.2.size;refine hK.out _ _ ⟨hH.1.below aa,(aa.block _ (KY hH.2.1)).trans hH.2.1,hH.2.2.trans (aa.mono ab)⟩ λhH=>?_;clear hK K aa ab;have ag:spot 118 i=i:=zgT rfl;rw[ag];refine zp 12 λK hK=>?_;go_simp;go_wp2_with ((go_at_call 103;refine(xh (upd x i num) _ HY).mono ?_;rintro e w1 ⟨rfl,aa⟩))
  have ab:=hH.2.2.size;refine hK.out _ _ ⟨hH.1.below aa,(aa.block _ (KY hH.2.1)).trans hH.2.1,hH.2.2.trans (aa.mono ab)⟩ λhH=>?_;clear hK K aa ab;refine y8 [(13,some 56,bA false),(14,some 57,bA false)] _ _ hH ?_
 rotate_left;all_goals
  simp only[zh,AP];refine zp 15 λK hK=>?_;go_simp;refine hK.out _ _ hH λhH=>?_;clear hK K;refine dnr ?_;go_wp2;go_ret;exact⟨zS HF.o.symm,hH.2.2⟩
theorem zbW(x:Nat->Int)(kind:Int)(i:Nat)(num:Int)(w:World)(hx:Dom x)(hk:kind=106\/kind=108\/kind=114\/kind=118)(h1:kind=118->i<8)(h2:kind≠118->i<26)(hn0:0<=num)(hn9:num<=9):
 Calls prog 135 #[.agg (regA x),.agg #[.int .u8 kind,iA i,iA num]] w λe w'=>e=.returned (bA (xJ x kind i num))/\BW w w':=by
 rcases hk with rfl|rfl|rfl|rfl
 .exact zcP x i num w (h2 (by decide))
 .exact zcO x i num w (h2 (by decide))
 .exact zcN x i num w (h2 (by decide))
 exact zcM x i num w hx (h1 rfl) hn0 hn9
end
section
open Proofs.Tryz
def Jt(r:(Nat->Int)×Bool):Nat->Int:=if r.2 then r.1 else zA
def errV(b:Addr):Value:=eA b
def zb1(o:Bool)(b:Addr):Value:=if o then .nilIface else errV b
theorem Zi(g:Nat->Int)(n:Nat):∀m,sumTo (regOf g n) (n+m)=sumTo g n:=by
 intro m;induction m with
 |zero=>
  have h:∀k,k<=n->sumTo (regOf g n) k=sumTo g k:=by
   intro k;induction k with
   |zero=>intro _;rfl
   |succ k ih=>intro hk;simp only[sumTo];rw[ih (by omega),regOf,zgT (by omega)]
  exact h n (zgp _)
 |succ m ih=>
  rw[<-Nat.add_assoc];simp only[sumTo];rw[ih,regOf,zgU (by omega)];omega
theorem Vf(g:Nat->Int)(p:Option Addr)(n cap:Nat)(b:Addr)(w:World)(hl:kG w w.heap.size p n (λi=>iA (g i)))(hg:w.cell? (aA 1 0)=some (eA b)):
 Calls prog 52 #[.slice p n cap] w λe w'=>e=.returned (.tuple #[.agg (regA (Jt (gN g n))),zb1 (gN g n).2 b])/\BW w w':=by
 have z0:=zX;have ae:1<w.heap.size:=zgx _ _ hg;obtain⟨W,hW⟩:∃W,W=(w.alloc (.cells (regA zA) 116)).alloc (.cells (regA zA) 116):=⟨_,rfl⟩;have af:Hid (RegAt W w.heap.size 116 zA):=by
  unfold Hid;rw[hW];exact(RegAt.alloc w _ zA).below (bwA _)
 have ak:Hid (RegAt W (w.heap.size+1) 116 zA):=by
  unfold Hid;have h:=RegAt.alloc (w.alloc (.cells (regA zA) 116)) 116 zA;have e1:(w.alloc (.cells (regA zA) 116)).heap.size=w.heap.size+1:=by simp
  rw[e1] at h;rw[hW];exact h
 have HB:Hid (BW w W):=by
  unfold Hid;rw[hW];exact(bwA w).alloc (by simp) _
 obtain⟨HG,HL⟩:=ze hg hl;have aw:=hW.symm;clear hW hl hg;by_cases hn:n<=8
 .have ao:¬8<(n:Int):=by omega
  go_enter func52,ntmps52;go_wp2;go_loopw [5,6,14] (λ_ _ i wr=>∃k:Nat,k<=n/\(∀j,j<k->0<=g j/\g j<=9)/\i=iA k/\RegAt wr w.heap.size 116 zA/\RegAt wr (w.heap.size+1) 116 (regOf g k)/\BW w wr) (λ_ _ i _=>n-(intOf i).toNat)
  case atStart=>exact⟨0,by omega,λj hj=>by omega,rfl,af.o,by rw[Yl];exact ak,HB⟩
  clear af ak HB aw;obtain⟨k,hk,hd,rfl,h1,h2,hb⟩:=hrel;obtain⟨HD,HB,H1,H2⟩:=yi hd hb h1 h2;have al:=zc ((hb.cell (p:=(aA 1 0)) (by exact ae)).trans HG);clear hd hb h1 h2;by_cases ai:k=n
  .subst ai;have HT:=zc (xh (regOf g k) wr (λi hi=>by unfold regOf;split;exact HD i ‹_›;omega));have ax:Hid (sumTo (regOf g k) 8=sumTo g k):=by have:=Zi g k (8-k);rw[Nat.add_sub_cancel' hn] at this;exact this
   obtain⟨ay,aa⟩:=ze (yH g k HD) (Qr g k hn HD);go_wp2_with (first|(refine zn rfl 116 _ rfl _ rfl 116 _ _ H2 underlying116 rfl Tryz.zc2 ?_)|fail)
   refine HT.o.mono ?_;rintro e w1 ⟨rfl,ab⟩;rw[ax.o];obtain⟨an,az⟩:=ze (H1.o.below ab) (H2.o.below ab);have ah:Hid (BW w w1):=HB.o.trans (ab.mono HB.o.size);have ag:=zc ((ah.o.cell (p:=(aA 1 0)) (by exact ae)).trans HG);clear ab HT;by_cases hs:sumTo g k=0
   .have HF:Hid (gN g k=(regOf g k,false)):=by unfold Hid;rw[aa.o,zgH (by omega)]
    rw[hs];clear hs;go_wp2_with fail
    refine rgd (S:=λW'=>cE W' 1 0 (eA b)) ag λhH=>?_;refine zx [0,1] hH (λ_ h=>h) ?_;refine zp 2 λK hK=>?_;rw[zgT (by rfl)];refine zu 116 _ _ rfl w.heap.size zA rfl rfl 116 (regA zA) an.o.drew (zg _) Tryz.zc2 ?_;intro w2 hq ho;refine hK.out _ _ ((ho.cell (p:=(aA 1 0)) (by show 1≠w.heap.size;omega)).trans hH) λhH=>?_;clear hK K;refine zp 3 λK hK=>?_;go_simp;refine hK.out _ _ hH λhH=>?_;clear hK K;refine dnr ?_;go_wp2;exact zgJ (v:=.tuple #[.agg (regA zA),eA b]) (zo results52 _ _ w.heap.size 116 zA _ _ rfl rfl hq underlying116 rfl Tryz.zc2) rfl ⟨by rw[HF.o];rfl,(ah.o.drew).trans (ho.below (zgp _))⟩
   have HF:Hid (gN g k=(regOf g k,true)):=by unfold Hid;rw[aa.o,zgG (by have:=ay.o;omega)]
   have hsb:(sumTo g k==0)=false:=by simpa using hs
   clear hs;go_wp2_with (first|(refine zn rfl 116 _ rfl _ rfl 116 _ _ az underlying116 rfl Tryz.zc2 ?_)|(refine zk rfl 116 _ _ rfl w.heap.size _ rfl rfl 116 _ an (zg _) Tryz.zc2 ?_;intro w2 hq ho))
   exact zgJ (v:=.tuple #[.agg (regA (regOf g k)),.nilIface]) (zo results52 _ _ w.heap.size 116 _ _ _ rfl rfl hq underlying116 rfl Tryz.zc2) rfl ⟨by rw[HF.o];rfl,ah.o.trans (ho.below (zgp _))⟩
  have ad:k<n:=by omega
  have hki:(k:Int)<n:=by omega
  obtain⟨bb,o,rfl,av,hc⟩:=HL.o k ad;have hcr:=(HB.o.cell (p:=(aA bb (o+k))) (by exact av)).trans hc;clear hc ai;by_cases aq:g k<0
  .have HF:Hid (gN g n=(zA,false)):=vw g n (λhh=>by have:=hh.2 k ad;omega);go_wp2_with fail
   refine rgd (S:=λW'=>cE W' 1 0 (eA b)) al λhH=>?_;refine zx [0,1] hH (λ_ h=>h) ?_;refine zp 2 λK hK=>?_;rw[zgT (by rfl)];refine zu 116 _ _ rfl w.heap.size zA rfl rfl 116 (regA zA) H1.o.drew (zg _) Tryz.zc2 ?_;intro w2 hq ho;refine hK.out _ _ ((ho.cell (p:=(aA 1 0)) (by show 1≠w.heap.size;omega)).trans hH) λhH=>?_;clear hK K;refine zp 3 λK hK=>?_;go_simp;refine hK.out _ _ hH λhH=>?_;clear hK K;refine dnr ?_;go_wp2;exact zgJ (v:=.tuple #[.agg (regA zA),eA b]) (zo results52 _ _ w.heap.size 116 zA _ _ rfl rfl hq underlying116 rfl Tryz.zc2) rfl ⟨by rw[HF.o];rfl,(HB.o.drew).trans (ho.below (zgp _))⟩
  by_cases au:9<g k
  .have HF:Hid (gN g n=(zA,false)):=vw g n (λhh=>by have:=hh.2 k ad;omega);go_wp2_with fail
   refine rgd (S:=λW'=>cE W' 1 0 (eA b)) al λhH=>?_;refine zx [0,1] hH (λ_ h=>h) ?_;refine zp 2 λK hK=>?_;rw[zgT (by rfl)];refine zu 116 _ _ rfl w.heap.size zA rfl rfl 116 (regA zA) H1.o.drew (zg _) Tryz.zc2 ?_;intro w2 hq ho;refine hK.out _ _ ((ho.cell (p:=(aA 1 0)) (by show 1≠w.heap.size;omega)).trans hH) λhH=>?_;clear hK K;refine zp 3 λK hK=>?_;go_simp;refine hK.out _ _ hH λhH=>?_;clear hK K;refine dnr ?_;go_wp2;exact zgJ (v:=.tuple #[.agg (regA zA),eA b]) (zo results52 _ _ w.heap.size 116 zA _ _ rfl rfl hq underlying116 rfl Tryz.zc2) rfl ⟨by rw[HF.o];rfl,(HB.o.drew).trans (ho.below (zgp _))⟩
  have aj:=H2.o.cell k (by omega);have hfz:=H2.o.frozen k;have hk8:(k:Int)<8:=by omega
  go_wp2;go_roundw
  case rel=>
   refine⟨k+1,by omega,λj hj=>?_,by go_num,?_,?_,?_⟩
   .by_cases ar:j<k
    .exact HD j ar
    obtain rfl:j=k:=by omega
    omega
   .exact H1.o.only (zd _ _ _ _) (by omega)
   .rw [<-Ym];exact H2.o.set k (g k) (by omega)
   exact HB.o.trans ((zd _ _ _ _).below (by omega))
  simp[intOf];omega
 have ao:8<(n:Int):=by omega
 have HF:Hid (gN g n=(zA,false)):=vw g n (λhh=>hn hh.1);have ag:=zc ((HB.o.cell (p:=(aA 1 0)) (by exact ae)).trans HG);clear hn;go_enter func52,ntmps52;go_wp2_with fail
 refine rgd (S:=λW'=>cE W' 1 0 (eA b)) ag λhH=>?_;refine zx [0,1] hH (λ_ h=>h) ?_;refine zp 2 λK hK=>?_;rw[zgT (by rfl)];refine zu 116 _ _ rfl w.heap.size zA rfl rfl 116 (regA zA) af.o.drew (zg _) Tryz.zc2 ?_;intro w2 hq ho;refine hK.out _ _ ((ho.cell (p:=(aA 1 0)) (by show 1≠w.heap.size;omega)).trans hH) λhH=>?_;clear hK K;refine zp 3 λK hK=>?_;go_simp;refine hK.out _ _ hH λhH=>?_;clear hK K;refine dnr ?_;go_wp2;exact zgJ (v:=.tuple #[.agg (regA zA),eA b]) (zo results52 _ _ w.heap.size 116 zA _ _ rfl rfl hq underlying116 rfl Tryz.zc2) rfl ⟨by rw[HF.o];rfl,(HB.o.drew).trans (ho.below (zgp _))⟩
end
theorem QF(x:Nat->Int)(s:zgW)(h:s.size=0):behindR x s=(x,true):=by
 unfold behindR ym;rw[zgT h];rfl
theorem ZZ(x:Nat->Int)(s:zgW)(h:s.size≠0)(h3:3<(yG s 0 0).length):(behindR x s).2=false:=by
 unfold behindR ym;rw[zgU h];split
 .rw [zgH (by omega)];rfl
 rfl
theorem JD(x:Nat->Int)(s:zgW)(h:s.size≠0)(k:Nat)(hk:k<(yG s 0 0).length)(hf:z7 ((yG s 0 0).getD k zgV)=false):(behindR x s).2=false:=by
 unfold behindR ym;rw[zgU h,zgU]
 .rfl
 intro ha;have:=List.all_eq_true.1 ha _ (List.getElem_mem hk);rw[zgz,zgy hk] at hf;simp only[Option.getD_some] at hf;rw[hf] at this;cases this
theorem ZY(x:Nat->Int)(s:zgW)(h:s.size≠0)(hf:(behindL x (yG s 0 0)).2=false):(behindR x s).2=false:=by
 unfold behindR ym;rw[zgU h];split
 .unfold GO;split
  .exact hf
  rfl
 rfl
theorem gH(x:Nat->Int)(s:zgW)(h:s.size≠0)(hv:2<=votes (yG s 0 0)):(behindR x s).2=false:=by
 unfold behindR ym;rw[zgU h];split
 .rw [zgH (p:=votes (yG s 0 0)<2) (by omega),Bool.and_false];rfl
 rfl
theorem Z0(x y:Nat->Int)(s:zgW)(h:s.size≠0)(h3:(yG s 0 0).length<=3)(ha:(yG s 0 0).all z7=true)(hv:votes (yG s 0 0)<2)(hy:behindL x (yG s 0 0)=(y,true)):behindR x s=(y,true):=by
 unfold behindR ym;rw[zgU h,zgT ha];simp only
 rw[zgG h3,zgG hv];exact hy
theorem QG(y:Nat->Int)(l:List zgW)(k:Nat)(hk:k<l.length)(t:zgW)(ht:t=l.getD k zgV):behindL y (l.drop k)=if(nextT y t).2 then behindL (nextT y t).1 (l.drop (k+1)) else((nextT y t).1,false):=by
 have e:l.drop k=t::l.drop (k+1):=by
  rw[ht,List.drop_eq_getElem_cons hk,zgz,zgy hk];rfl
 rw[e];rfl
theorem XL(l:List zgW)(k:Nat)(hk:k<l.length)(t:zgW)(ht:t=l.getD k zgV):l.take (k+1)=l.take k++[t]:=by
 rw[ht,zgz,zgy hk,Option.getD_some,List.take_append_getElem hk]
theorem Gu(y:Nat->Int)(t:zgW)(hf:z7 t=true):
 nextT y t=(upd y (spot (byt t 0) (idxN (byt t 0) (byt t 1)).toNat) (numN (byt t 0) (byt t 2)),xJ y (byt t 0) (idxN (byt t 0) (byt t 1)).toNat (numN (byt t 0) (byt t 2))):=by
 have aa:=zgF hf;unfold nextT Gw xJ spot idxN numN;rcases aa with⟨hn,h0,h1,h2⟩|⟨hn,h0,h1,h2,h3,h4⟩|⟨hn,h0,h1,h2,h3,h4⟩
 .rw [h0];simp
 .rcases h0 with h0|h0
  .rw [h0];simp;omega
  rw[h0];simp
 rw[h0];simp[Bool.and_comm]
theorem Xf(t:zgW)(hf:z7 t=true):
 (byt t 0=106\/byt t 0=108\/byt t 0=114\/byt t 0=118)/\(byt t 0=118->(idxN (byt t 0) (byt t 1)).toNat<8)/\(byt t 0≠118->(idxN (byt t 0) (byt t 1)).toNat<26)/\0<=numN (byt t 0) (byt t 2)/\numN (byt t 0) (byt t 2)<=9/\idxN (byt t 0) (byt t 1)=(((idxN (byt t 0) (byt t 1)).toNat:Nat):Int):=by
 have aa:=zgF hf;unfold idxN numN;rcases aa with⟨hn,h0,h1,h2⟩|⟨hn,h0,h1,h2,h3,h4⟩|⟨hn,h0,h1,h2,h3,h4⟩
 .rw [h0];simp;omega
 .rcases h0 with h0|h0
  .rw [h0];simp;omega
  rw[h0];simp;omega
 rw[h0];simp;omega
section
open Proofs.Tryz
theorem Xd(l:List zgW)(N j:Nat)(h:j<l.length):(Lib.cellsOf l N)[j]? =some (sA (l.getD j zgV)):=by
 unfold Lib.cellsOf;rw[List.getElem?_toArray,zgD (by simpa using h),List.getElem?_map,zgy h,zgz,zgy h];rfl
theorem XR(s:zgW)(m:Int)(w:World)(hs:s.size<4294967281)(hm:w.cell? (aA 13 0)=some (iA m)):
 Calls prog 133 #[sA s,sA ⟨#[44]⟩,iA 4] w λe w'=>∃n cap,e=.returned (.slice (some (aA w.heap.size 0)) n cap)/\BW w w'/\w.heap.size<w'.heap.size/\(3<(yG s 0 0).length->n=4)/\
  ((yG s 0 0).length<=3->n=(yG s 0 0).length/\∀j,j<n->w'.cell? (aA w.heap.size j)=some (sA ((yG s 0 0).getD j zgV))):=by
 refine(Tryz.strings_SplitN s comma 4 m w hs hm (by decide) (by decide) (by decide)).mono ?_;rintro e w' ⟨rfl,rfl⟩;refine⟨_,_,rfl,bwA w,by simp,λh=>QV s h,λh=>?_⟩;rw[Vv s h];refine⟨rfl,λj hj=>?_⟩;rw[zgs _ w.heap.size j _ _ _ (zgr w _),Xd _ _ _ hj]
section
variable{P:Program}
theorem YU{ops:Array Oper}{rest:List Oper}{op:Oper}{a:Act}{w:World}{Q:Exit->Act->World->Prop}(hw:Region.wanted op (yielded ops a.tmps)=true)
 (h:∀K:Act->World->Prop,(∀a w,wpList P ops Q rest a w->K a w)->op.wp P a w K Q):wpList P ops Q (op::rest) a w:=
 wpList_step λK hK=>by rw[zgT hw];exact h K hK
theorem zE{ops:Array Oper}{rest:List Oper}{op:Oper}{a:Act}{w:World}{Q:Exit->Act->World->Prop}(hw:Region.wanted op (yielded ops a.tmps)=true)(ty:TypeId)(p:Operand)(ho:op.op=.load ty p)
 (g:Nat) (hp:a.eval p=pA g 0) (t:TypeId) (cs:Array Value) (d:TypeDesc) (hg:w.heap[g]? =some (.cells cs t (0,0))) (hu:P.underlying ty=some d) (hd:d.isRow=true) (hi:(P.info? ty).map (·.size)=some cs.size)
 (h:wpList P ops Q rest (a.put op.dst (.agg cs)) w):wpList P ops Q (op::rest) a w:=
 YU hw λ_ hK=>wp_load_row ty p ho g hp t cs (0,0) d hg hu (by cases d<;>simp_all) hi (hK _ _ h)
end
theorem JE(x:Nat->Int)(s:zgW)(b:Addr)(m:Int)(w:World)(hx:Dom x)(hs:s.size<4294967281)(hg:w.cell? (aA 11 0)=some (eA b))(hm:w.cell? (aA 13 0)=some (iA m)):
 Calls prog 94 #[.agg (regA x),sA s] w λe w'=>e=.returned (.tuple #[.agg (regA (Jt (behindR x s))),zb1 (behindR x s).2 b])/\BW w w':=by
 have z0:=zX;have aH:11<w.heap.size:=zgx _ _ hg;obtain⟨W,hW⟩:∃W,W=(w.alloc (.cells (regA x) 116)).alloc (.cells (regA zA) 116):=⟨_,rfl⟩;have aU:Hid (RegAt W w.heap.size 116 x):=by
  unfold Hid;rw[hW];exact(RegAt.alloc w _ x).below (bwA _)
 have aT:Hid (RegAt W (w.heap.size+1) 116 zA):=by
  unfold Hid;have h:=RegAt.alloc (w.alloc (.cells (regA x) 116)) 116 zA;have e1:(w.alloc (.cells (regA x) 116)).heap.size=w.heap.size+1:=by simp
  rw[e1] at h;rw[hW];exact h
 have HB:Hid (BW w W):=by
  unfold Hid;rw[hW];exact(bwA w).alloc (by simp) _
 have bl:W.heap.size=w.heap.size+1+1:=by rw[hW];simp
 obtain⟨HG,HX⟩:=ze hg hx;have bo:=zc ((HB.o.cell (p:=(aA 13 0)) (by exact zgx _ _ hm)).trans hm);have bF:=hW.symm;clear hW hx hg hm;by_cases ag:s.size=0
 .have HF:=zc (QF x s ag);have bD:s=zgV:=by
   apply ByteArray.ext;apply Array.ext';have:s.data.toList.length=0:=by simpa using ag
   rw[List.length_eq_zero_iff.1 this];rfl
  clear ag hs;subst bD;go_enter func94,ntmps94;go_wp2_with (first|(refine zn rfl 116 _ rfl _ rfl 116 _ _ aU underlying116 rfl Tryz.zc2 ?_)|(refine zk rfl 116 _ _ rfl (w.heap.size+1) _ rfl rfl 116 _ aT (zg _) Tryz.zc2 ?_;intro w2 hq ho))
  exact zgJ (v:=.tuple #[.agg (regA x),.nilIface]) (zo results94 _ _ (w.heap.size+1) 116 _ _ _ rfl rfl hq underlying116 rfl Tryz.zc2) rfl ⟨by rw[HF.o];rfl,HB.o.trans (ho.below (by omega))⟩
 have bE:=gq ag;have bm:=zc (XR s m W hs bo);go_enter func94,ntmps94;go_wp2_with fail
 refine bm.o.mono ?_;rintro e w1 ⟨n,cap,rfl,aK,aP,ab,ah⟩;have aM:Hid (BW w w1):=HB.o.trans (aK.mono HB.o.size);obtain⟨bB,ba⟩:=ze (aU.o.below aK) (aT.o.below aK);have br:=zc ((aM.o.cell (p:=(aA 11 0)) (by exact aH)).trans HG);rw[bl] at ah aP;rw[bl];clear bm bo bE aK bF aU aT;by_cases h3:3<(yG s 0 0).length
 .obtain rfl:=ab h3;have HF:=zc (ZZ x s ag h3);clear ah ab h3;go_wp2_with fail
  refine rgd (S:=λW'=>cE W' 11 0 (eA b)) br λhH=>?_;refine zx [0,1] hH (λ_ h=>h) ?_;refine zp 2 λK hK=>?_;rw[zgT (by rfl)];refine zu 116 _ _ rfl (w.heap.size+1) zA rfl rfl 116 (regA zA) ba.o.drew (zg _) Tryz.zc2 ?_;intro w2 hq ho;refine hK.out _ _ ((ho.cell (p:=(aA 11 0)) (by show 11≠(w.heap.size+1);omega)).trans hH) λhH=>?_;clear hK K;refine zp 3 λK hK=>?_;go_simp;refine hK.out _ _ hH λhH=>?_;clear hK K;refine dnr ?_;go_wp2;exact zgJ (v:=.tuple #[.agg (regA zA),eA b]) (zo results94 _ _ (w.heap.size+1) 116 zA _ _ rfl rfl hq underlying116 rfl Tryz.zc2) rfl ⟨by unfold Jt;rw[HF.o];rfl,(aM.o.drew).trans (ho.below (by omega))⟩
 obtain⟨hn,ad⟩:=ah (by omega);have hn3:¬3<(n:Int):=by omega
 obtain⟨HC,HN⟩:=ze ad hn;have H3:Hid ((yG s 0 0).length<=3):=by unfold Hid;omega
 clear ab h3 ad hn ah;obtain⟨L,hL⟩:=gen (yG s 0 0);rw[<-hL] at HC HN;have HL:=zc hL;clear hL;go_wp2;go_loopw [7,9,10,11,24] (λch _ _ _ i wr=>∃(k:Nat) (y:Nat->Int),k<=L.length/\i=iA k/\ch=iA (votes (L.take k):Nat)/\(L.take k).all z7=true/\behindL x L=behindL y (L.drop k)/\Dom y/\RegAt wr w.heap.size 116 y/\RegAt wr (w.heap.size+1) 116 zA/\BW w wr/\w.heap.size+1+1<wr.heap.size/\∀j,j<n->cE wr (w.heap.size+1+1) j (sA (L.getD j zgV))) (λ_ _ _ _ i _=>L.length-(intOf i).toNat)
 case atStart=>exact⟨0,x,by omega,rfl,rfl,rfl,rfl,HX.o,bB.o,ba.o,aM.o,by omega,HC.o⟩
 clear bB ba aM br HC HX HB;obtain⟨k,y,hk,rfl,rfl,az,bj,bg,h1,h2,hb,bd,bh⟩:=hrel;obtain⟨HA,a1,bt,H1,H2,HB,HC⟩:=Qq az bj bg h1 h2 hb bh;have bK:=zc ((hb.cell (p:=(aA 11 0)) (by exact aH)).trans HG);clear az bj bg h1 h2 hb bh;by_cases aF:k=L.length
 .have hge:¬(k:Int)<n:=by have:=HN.o;omega
  have HT:Hid (L.take k=L):=by unfold Hid;rw[aF,zg7]
  have HE:Hid (behindL x L=(y,true)):=by unfold Hid;rw[a1.o,aF,List.drop_length];rfl
  have bN:Hid (L.all z7=true):=by have:=HA.o;rw[HT.o] at this;exact this
  rw[HT.o];have hvl:votes L<=3:=by have h5:=xf L;have h6:=H3.o;rw[<-HL.o] at h6;omega
  clear aF;by_cases hv:votes L<2
  .have HF:Hid (behindR x s=(y,true)):=by
    have h4:=HL.o;have h5:=H3.o;have h6:=bN.o;have h7:=HE.o;rw[h4] at h6 h7 hv;exact Z0 x y s ag h5 h6 hv h7
   have bC:¬1<((votes L:Nat):Int):=by omega
   clear hv;go_wp2_with (first|(refine zn rfl 116 _ rfl _ rfl 116 _ _ H1 underlying116 rfl Tryz.zc2 ?_)|(refine zk rfl 116 _ _ rfl (w.heap.size+1) _ rfl rfl 116 _ H2 (zg _) Tryz.zc2 ?_;intro w2 hq ho))
   exact zgJ (v:=.tuple #[.agg (regA y),.nilIface]) (zo results94 _ _ (w.heap.size+1) 116 _ _ _ rfl rfl hq underlying116 rfl Tryz.zc2) rfl ⟨by rw[HF.o];rfl,HB.o.trans (ho.below (by omega))⟩
  have HF:Hid ((behindR x s).2=false):=gH x s ag (by rw[<-HL.o];omega);have bC:1<((votes L:Nat):Int):=by omega
  clear hv;go_wp2_with fail
  refine rgd (S:=λW'=>cE W' 11 0 (eA b)) bK λhH=>?_;refine zx [0,1] hH (λ_ h=>h) ?_;refine zp 2 λK hK=>?_;rw[zgT (by rfl)];refine zu 116 _ _ rfl (w.heap.size+1) zA rfl rfl 116 (regA zA) H2.o.drew (zg _) Tryz.zc2 ?_;intro w2 hq ho;refine hK.out _ _ ((ho.cell (p:=(aA 11 0)) (by show 11≠(w.heap.size+1);omega)).trans hH) λhH=>?_;clear hK K;refine zp 3 λK hK=>?_;go_simp;refine hK.out _ _ hH λhH=>?_;clear hK K;refine dnr ?_;go_wp2;exact zgJ (v:=.tuple #[.agg (regA zA),eA b]) (zo results94 _ _ (w.heap.size+1) 116 zA _ _ rfl rfl hq underlying116 rfl Tryz.zc2) rfl ⟨by unfold Jt;rw[HF.o];rfl,(HB.o.drew).trans (ho.below (by omega))⟩
 have aR:k<L.length:=by omega
 have hki:(k:Int)<n:=by have:=HN.o;omega
 obtain⟨t,ht⟩:=gen (L.getD k zgV);have hcr:wr.cell? (aA (w.heap.size+1+1) k)=some (sA t):=by rw[ht];exact HC.o k (by have:=HN.o;omega)
 obtain⟨aL,bx⟩:=ze (XL L k aR t ht) (QG y L k aR t ht);have bH:Hid (z7 t=false->(behindR x s).2=false):=λh=>JD x s ag k (by rw[<-HL.o];exact aR) (by rw[<-HL.o,<-ht];exact h);have hvb:votes (L.take k)<=3:=by have h5:=xf (L.take k);rw[List.length_take] at h5;have h6:=H3.o;rw[<-HL.o] at h6;omega
 clear ht aF;cases al:z7 t with
 |false=>
  have ar:Hid (yn t.size (byt t 0) (byt t 1) (byt t 2)=false):=al;have HF:=zc (bH al);clear al;go_wp2_with fail
  refine(Ka t _).mono ?_;rintro e w3 ⟨⟨a,q,c,he,-⟩,ae⟩;rw[ar.o] at he;subst he;have au:Hid (BW w w3):=HB.o.trans (ae.mono HB.o.size);have aN:=zc (H2.o.below ae);clear ae;go_wp2_with (refine zi rfl 226 _ _ rfl w3.heap.size #[.int .u8 a,iA q,iA c] rfl rfl 226 #[.int .u8 0,iA 0,iA 0] (zgr w3 _) rfl (by simp[Value.oneCell']) Tryz.zc4 ?_;intro w4 hq ho;have aB:=zc ho;clear hq ho)
  have aq:Hid (BW w3 w4):=(bwA w3).trans (aB.o.below (zgp _));have aj:Hid (BW w w4):=au.o.trans (aq.o.mono au.o.size);have bO:=zc (aN.o.below aq);have bM:=zc ((aj.o.cell (p:=(aA 11 0)) (by exact aH)).trans HG);refine rgd (S:=λW'=>cE W' 11 0 (eA b)) bM λhH=>?_;refine zx [0,1] hH (λ_ h=>h) ?_;refine zp 2 λK hK=>?_;rw[zgT (by rfl)];refine zu 116 _ _ rfl (w.heap.size+1) zA rfl rfl 116 (regA zA) bO.o.drew (zg _) Tryz.zc2 ?_;intro w2 hq ho;refine hK.out _ _ ((ho.cell (p:=(aA 11 0)) (by show 11≠(w.heap.size+1);omega)).trans hH) λhH=>?_;clear hK K;refine zp 3 λK hK=>?_;go_simp;refine hK.out _ _ hH λhH=>?_;clear hK K;refine dnr ?_;go_wp2;exact zgJ (v:=.tuple #[.agg (regA zA),eA b]) (zo results94 _ _ (w.heap.size+1) 116 zA _ _ rfl rfl hq underlying116 rfl Tryz.zc2) rfl ⟨by unfold Jt;rw[HF.o];rfl,(aj.o.drew).trans (ho.below (by omega))⟩
 |true=>
  have ar:Hid (yn t.size (byt t 0) (byt t 1) (byt t 2)=true):=al;obtain⟨ao,aY,aX⟩:=zC (Gu y t al) (Xf t al) al;clear al;go_wp2_with fail
  refine(Ka t _).mono ?_;rintro e w3 ⟨⟨a,q,c,he,ay⟩,ae⟩;rw[ar.o] at he;subst he;obtain⟨rfl,rfl,rfl⟩:=ay ar;have au:Hid (BW w w3):=HB.o.trans (ae.mono HB.o.size);obtain⟨bc,aN⟩:=ze (H1.o.below ae) (H2.o.below ae);have bw:Hid (∀j,j<n->cE w3 (w.heap.size+1+1) j (sA (L.getD j zgV))):=λj hj=>(ae.cell (p:=(aA (w.heap.size+1+1) j)) (by exact bd)).trans (HC j hj);have av:w.heap.size+1+1<w3.heap.size:=zgt bd ae.size;have bq:=zc aY.o.1;obtain⟨-,ax,aw,aD,aC,aG⟩:=aY.o;generalize bf:byt t 0=kd at ar ao bq ax aw aD aC aG ⊢;generalize (idxN kd (byt t 1))=q at ao ax aw aG ⊢;generalize (numN kd (byt t 2))=num at ao aD aC ⊢;obtain⟨i,hi⟩:=gen q.toNat;rw[<-hi] at ao ax aw aG;clear hi;subst aG;obtain⟨aS,bn,bp,bJ,bI⟩:=kY ax aw bf aD aC;clear ae ax aw aY bf ar ay aD aC;go_wp2_with (first|(refine zi rfl 226 _ _ rfl w3.heap.size #[.int .u8 kd,iA i,iA num] rfl rfl 226 #[.int .u8 0,iA 0,iA 0] (zgr w3 _) rfl (by simp[Value.oneCell']) Tryz.zc4 ?_;intro w4 hq ho;have aW:=zc hq;have aB:=zc ho;clear hq ho)|(refine zE (by rfl) 116 _ rfl w.heap.size rfl 116 (regA y) _ (bc.o.below ((bwA w3).trans (aB.o.below (zgp _)))) underlying116 rfl (by rw[zg];exact Tryz.zc2) ?_)|(refine zE (by rfl) 226 _ rfl w3.heap.size rfl 226 #[.int .u8 kd,iA i,iA num] _ aW underlying226 rfl Tryz.zc4 ?_))
  refine(zbW y kd i num _ bt bq aS bn bJ bI).mono ?_;rintro e w5 ⟨rfl,aJ⟩;have aq:Hid (BW w3 w4):=((bwA w3).trans (aB.o.below (zgp _)));have aQ:=aW.o;have bG:w3.heap.size<w4.heap.size:=KY aQ;have aj:Hid (BW w w5):=(au.o.trans (aq.o.mono au.o.size)).trans (aJ.mono (zgu au.o.size aq.o.size));have ak:Hid (BW w3 w5):=aq.o.trans (aJ.mono aq.o.size);have aV:Hid (cL w5 w3.heap.size #[.int .u8 kd,iA i,iA num] 226):=(aJ.block _ bG).trans aQ;obtain⟨aO,a8⟩:=ze (bc.o.below ak) (aN.o.below ak);have bu:Hid (∀j,j<n->cE w5 (w.heap.size+1+1) j (sA (L.getD j zgV))):=λj hj=>(ak.o.cell (p:=(aA (w.heap.size+1+1) j)) (by exact av)).trans (bw j hj);have af:w.heap.size+1+1<w5.heap.size:=zgt av ak.o.size;have bL:=zc ((aj.o.cell (p:=(aA 11 0)) (by exact aH)).trans HG);clear aQ aJ bc aN bw aW aB;cases aE:xJ y kd i num with
  |false=>
   have HF:Hid ((behindR x s).2=false):=by
    refine ZY x s ag ?_;rw[<-HL.o,a1.o,bx.o,ao.o,aE];rfl
   clear aE;go_wp2_with fail
   refine rgd (S:=λW'=>cE W' 11 0 (eA b)) bL λhH=>?_;refine zx [0,1] hH (λ_ h=>h) ?_;refine zp 2 λK hK=>?_;rw[zgT (by rfl)];refine zu 116 _ _ rfl (w.heap.size+1) zA rfl rfl 116 (regA zA) a8.o.drew (zg _) Tryz.zc2 ?_;intro w2 hq ho;refine hK.out _ _ ((ho.cell (p:=(aA 11 0)) (by show 11≠(w.heap.size+1);omega)).trans hH) λhH=>?_;clear hK K;refine zp 3 λK hK=>?_;go_simp;refine hK.out _ _ hH λhH=>?_;clear hK K;refine dnr ?_;go_wp2;exact zgJ (v:=.tuple #[.agg (regA zA),eA b]) (zo results94 _ _ (w.heap.size+1) 116 zA _ _ rfl rfl hq underlying116 rfl Tryz.zc2) rfl ⟨by unfold Jt;rw[HF.o];rfl,(aj.o.drew).trans (ho.below (by omega))⟩
  |true=>
   have bz:Hid (behindL x L=behindL (upd y (spot kd i) num) (L.drop (k+1))):=by
    unfold Hid;rw[a1.o,bx.o,ao.o,aE];rfl
   have bs:Hid (Dom (upd y (spot kd i) num)):=by
    have h:=bt.o.next aX;rw[ao.o] at h;exact h
   clear aE;have hk0:cN w5 w3 0 (.int .u8 kd):=zgs w5 w3.heap.size 0 _ _ _ aV;by_cases ai:kd=118
   .subst ai;have HV:Hid (votes (L.take (k+1))=votes (L.take k)+1):=by unfold Hid;rw[aL.o,zR,bp.o];rfl
    go_wp2_with (first|(refine zn rfl 116 _ rfl w.heap.size rfl 116 y _ aO underlying116 rfl Tryz.zc2 ?_)|(refine zg4 rfl 226 _ rfl w3.heap.size rfl 226 #[.int .u8 118,iA i,iA num] (0,0) _ aV underlying226 rfl Tryz.zc4 ?_)|fail)
    refine(gS y 118 i num _ (λ_=>aS.o (by simp)) (λh=>absurd rfl h)).mono ?_;rintro e w6 ⟨rfl,aa⟩;have a6:Hid (BW w w6):=aj.o.trans (aa.mono aj.o.size);obtain⟨bb,a7⟩:=ze (aO.o.below aa) (a8.o.below aa);have aZ:Hid (∀j,j<n->cE w6 (w.heap.size+1+1) j (sA (L.getD j zgV))):=λj hj=>(aa.cell (p:=(aA (w.heap.size+1+1) j)) (by exact af)).trans (bu j hj);have an:w.heap.size+1+1<w6.heap.size:=zgt af aa.size;clear aa;go_wp2_with (refine zk rfl 116 _ _ rfl w.heap.size _ rfl rfl 116 _ bb (zg _) Tryz.zc2 ?_;intro w7 hq ho)
    go_roundw
    case rel=>
     refine⟨k+1,upd y (spot 118 i) num,by omega,by go_num,by rw[HV.o];go_num,?_,bz.o,bs.o,hq,a7.o.only ho (by omega),a6.o.trans (ho.below (zgp _)),by rw[ho.size];exact an,λj hj=>(ho.cell (p:=(aA (w.heap.size+1+1) j)) (by show w.heap.size+1+1≠w.heap.size;omega)).trans (aZ.o j hj)⟩;rw[aL.o,List.all_append,HA.o];simp[aX.o]
    simp[intOf];omega
   have HV:Hid (votes (L.take (k+1))=votes (L.take k)):=by unfold Hid;rw[aL.o,zR,bp.o,zgU ai];rfl
   have hkb:(kd==118)=false:=by simpa using ai
   clear ai;go_wp2_with (first|(refine zn rfl 116 _ rfl w.heap.size rfl 116 y _ aO underlying116 rfl Tryz.zc2 ?_)|(refine zg4 rfl 226 _ rfl w3.heap.size rfl 226 #[.int .u8 kd,iA i,iA num] (0,0) _ aV underlying226 rfl Tryz.zc4 ?_)|fail)
   refine(gS y kd i num _ aS bn).mono ?_;rintro e w6 ⟨rfl,aa⟩;have a6:Hid (BW w w6):=aj.o.trans (aa.mono aj.o.size);obtain⟨bb,a7⟩:=ze (aO.o.below aa) (a8.o.below aa);have aZ:Hid (∀j,j<n->cE w6 (w.heap.size+1+1) j (sA (L.getD j zgV))):=λj hj=>(aa.cell (p:=(aA (w.heap.size+1+1) j)) (by exact af)).trans (bu j hj);have an:w.heap.size+1+1<w6.heap.size:=zgt af aa.size;clear aa;go_wp2_with (refine zk rfl 116 _ _ rfl w.heap.size _ rfl rfl 116 _ bb (zg _) Tryz.zc2 ?_;intro w7 hq ho)
   go_roundw
   case rel=>
    refine⟨k+1,upd y (spot kd i) num,by omega,by go_num,by rw[HV.o],?_,bz.o,bs.o,hq,a7.o.only ho (by omega),a6.o.trans (ho.below (zgp _)),by rw[ho.size];exact an,λj hj=>(ho.cell (p:=(aA (w.heap.size+1+1) j)) (by show w.heap.size+1+1≠w.heap.size;omega)).trans (aZ.o j hj)⟩;rw[aL.o,List.all_append,HA.o];simp[aX.o]
   simp[intOf];omega

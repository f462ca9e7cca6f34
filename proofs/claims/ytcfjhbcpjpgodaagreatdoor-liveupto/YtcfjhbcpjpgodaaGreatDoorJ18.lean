import Derived.Test.YtcfjhbcpjpgodaaGreatDoorJ17
import Derived.Test.YtcfjhbcpjpgodaaGreatDoorJournal
namespace Go.Proofs.YtcfjhbcpjpgodaaGreatDoor
open Go.RowKit
set_option maxRecDepth 100000
set_option maxHeartbeats 0
set_option linter.all false
theorem zc6{a b:kE}(h1:a.k=b.k)(h2:a.h=b.h)(h3:a.r=b.r)(h4:a.f=b.f)(h5:a.v=b.v)(h6:a.nl=b.nl)(h7:a.s=b.s):a=b:=by
 cases a;cases b;simp only at h1 h2 h3 h4 h5 h6 h7;subst h1 h2 h3 h4 h5 h6 h7;rfl
section
open Proofs.Tryz
def msgB(a b:kE):Bool:=a.k==b.k&&(a.h==b.h&&(a.r==b.r&&(a.f==b.f&&(a.v==b.v&&(a.nl==b.nl&&a.s.toList==b.s.toList)))))
theorem KX(s t:zj5):s.toList=t.toList↔s=t:=by
 constructor
 .intro h;rw[ByteArray.toList_eq,ByteArray.toList_eq] at h;exact ByteArray.ext (Array.ext' h)
 rintro rfl;rfl
theorem XY(a b:kE):msgB a b=true↔a=b:=by
 unfold msgB;simp only[Bool.and_eq_true,beq_iff_eq,KX];constructor
 .rintro ⟨h1,h2,h3,h4,h5,h6,h7⟩;exact zc6 h1 h2 h3 h4 h5 h6 h7
 rintro rfl;exact⟨rfl,rfl,rfl,rfl,rfl,rfl,rfl⟩
theorem Tryz.ziU(a b:kE)(w:World):(binOp .neq 57 (.agg a.cells) (.agg b.cells)).run prog w=.ok (.bool (!msgB a b)) w:=by
 unfold kE.cells msgB;go_simp
 repeat' split
 all_goals simp_all
section
variable{P:Program}
end
section
variable{P:Program}
theorem QV{op:Oper}{a:Act}{K:Act->World->Prop}{Q:Exit->Act->World->Prop}(ty:TypeId)(p y:Operand)(ho:op.op=.store ty p y)
 (w1:World) (D:Array Value) (hp:a.eval p=pA w1.heap.size 0) (hy:a.eval y=.agg D) (t:TypeId) (C:Array Value) (hC:C.size=D.size) (h1:∀v∈D.toList,v.oneCell'=true) (hi:(P.info? ty).map (·.size)=some D.size)
 (h:∀w',w'.heap[w1.heap.size]? =some (.cells D t (0,0))->BW w1 w'->w'.heap.size=w1.heap.size+1->K (a.put op.dst undef) w'):op.wp P a (w1.alloc (.cells C t)) K Q:=by
 have hg:cL (w1.alloc (.cells C t)) w1.heap.size C t:=zjC w1 _;have aa:=y9 (w1.alloc (.cells C t)) w1.heap.size D;unfold Oper.wp execOp;simp only[ho,hp,hy,Instr.storeAt,Instr.sureAddr,Sem.run_bind,Sem.run_pure,Result.andThen_ok,kL (w1.alloc (.cells C t)) w1.heap.size t ty C D hg hC h1 hi];exact h _ (setRow_heap _ _ C _ t (0,0) hg) ((bwA w1).trans (aa.below (zjA _))) (by rw[aa.size];simp)
end
theorem Tryz.zh0:prog.eqGuardType prog.depth 57=false:=by kernel_rfl
theorem qI{ops:Array Oper}{rest:List Oper}{op:Oper}{a:Act}{w:World}{Q:Exit->Act->World->Prop}(hgd:op.guard=none)(x y:Operand)(t2:TypeId)(ho:op.op=.binOp .neq 57 x y t2)(m m':kE)
 (hx:a.eval x=.agg m.cells) (hy:a.eval y=.agg m'.cells) (h:wpList prog ops Q rest (a.put op.dst (bA (!msgB m m'))) w):wpList prog ops Q (op::rest) a w:=
 wpList_plain hgd λ_ hK=>by
  have h1:=Tryz.ziU m m' w;have h2:=λo=>run_eqGuard_agg (P:=prog) w o 57 x y m.cells m'.cells Tryz.zh0;unfold Oper.wp execOp;simp only[ho,hx,hy,h1,h2,Sem.run_bind,Sem.run_pure,Result.andThen_ok];exact hK _ _ h
theorem GK{w:World}{g:Nat}{C:Array Value}{t:TypeId}(h:w.heap[g]? =some (.cells C t (0,0))):w.rangeAt g 0 C.toList:=λj v hv=>by
 rw[zjD w g (0+j) _ _ _ h,zj8,<-hv];simp
def yP(rb:Nat)(x:Nat->Int)(h:Int):Array Value:=(pA rb 0::(yU x++[iA h])).toArray
def zL(w:World)(cb rb:Nat)(x:Nat->Int)(h:Int):Prop:=w.heap[cb]? =some (.cells (yP rb x h) 170 (0,0))
theorem jO(x:Nat->Int):(yU x).length=34:=by simp[yU]
theorem J7(rb:Nat)(x:Nat->Int)(h:Int):(yP rb x h).size=36:=by simp[yP,jO]
theorem zL.zfF{w:World}{cb rb:Nat}{x:Nat->Int}{h:Int}(hc:zL w cb rb x h):w.cell? (aA cb 35)=some (iA h):=by
 rw[zjD w cb 35 _ _ _ hc];simp[yP,yU]
theorem zL.ring{w:World}{cb rb:Nat}{x:Nat->Int}{h:Int}(hc:zL w cb rb x h):w.cell? (aA cb 0)=some (pA rb 0):=by
 rw[zjD w cb 0 _ _ _ hc];simp[yP]
theorem zL.reg{w:World}{cb rb:Nat}{x:Nat->Int}{h:Int}(hc:zL w cb rb x h):w.rangeAt cb 1 (yU x):=λj v hv=>by
 have hj:j<34:=by have:=(List.getElem?_eq_some_iff.1 hv).1;simpa [yU] using this
 rw[zjD w cb (1+j) _ _ _ hc,<-hv];unfold yP;rw[List.getElem?_toArray,Nat.add_comm 1 j,List.getElem?_cons_succ,zjN (by rw[jO];exact hj)]
theorem zL.keep{w w':World}{cb rb:Nat}{x:Nat->Int}{h:Int}(hc:zL w cb rb x h)(hb:BW w w'):zL w' cb rb x h:=by
 unfold zL at hc ⊢;exact blk hc hb
def QZ(h r:Int)(block:zj5)(f:Int):kE:=⟨3,h,r,f,0,false,block⟩
structure CertTo (ms:Nat->kE) (h:Int) (block:zj5) (k:Nat) (b:Nat->Bool):Prop where
 want:∀i,i<k->ms i=QZ h (ms 0).r block (ms i).f
 apart:∀i j,i<j->j<k->(ms i).f≠(ms j).f
 who:∀id:Nat,id<8->(b id=true↔∃i,i<k/\(ms i).f=(id:Int))
theorem CertTo.step{ms:Nat->kE}{h:Int}{block:zj5}{k:Nat}{b:Nat->Bool}{f:Nat}(hc:CertTo ms h block k b)(hw:ms k=QZ h (ms 0).r block (ms k).f)(hf:(ms k).f=(f:Int))(hf8:f<8)(hb:b f=false):CertTo ms h block (k+1) (zdZ b f) where
 want:=λi hi=>by
  by_cases e:i=k
  .rw [e];exact hw
  .exact hc.want i (by omega)
 apart:=λi j hij hj=>by
  by_cases e:j=k
  .subst e;intro he;have:=(hc.who f hf8).2 ⟨i,hij,by rw[he,hf]⟩;rw[hb] at this;cases this
  .exact hc.apart i j hij (by omega)
 who:=λid hid=>by
  unfold zdZ;split
  .rename_i e;subst e;exact⟨λ_=>⟨k,by omega,hf⟩,λ_=>rfl⟩
  .rename_i e;rw[hc.who id hid];constructor
   .rintro ⟨i,hi,h1⟩;exact⟨i,by omega,h1⟩
   .rintro ⟨i,hi,h1⟩
    refine⟨i,?_,h1⟩;have:i≠k:=λe2=>by subst e2;rw[hf] at h1;omega
    omega
def KN(x:Nat->Int)(h:Int)(block:zj5)(ms:Nat->kE)(m:Nat):Prop:=∃b,CertTo ms h block m b/\yg 2 x b=true
theorem CertTo.less{ms:Nat->kE}{h:Int}{block:zj5}{k m:Nat}{b b':Nat->Bool}{f:Nat}(hc:CertTo ms h block k b)(hm:CertTo ms h block m b')(hk:k<m)(hf:(ms k).f=(f:Int))(hf8:f<8):b f=false:=by
 cases e:b f with
 |false=>rfl
 |true=>
  obtain⟨i,hi,h1⟩:=(hc.who f hf8).1 e;exact absurd (h1.trans hf.symm) (hm.apart i k hi hk)
theorem GS(x:Nat->Int){b b':Nat->Bool}(k:Nat)(h:∀i,i<k->b i=b' i):powB x b k=powB x b' k:=by
 induction k with
 |zero=>rfl
 |succ k ih=>simp only[powB];rw[ih (λi hi=>h i (by omega)),h k (by omega)]
theorem CertTo.same{ms:Nat->kE}{h:Int}{block:zj5}{k:Nat}{b b':Nat->Bool}(hc:CertTo ms h block k b)(hm:CertTo ms h block k b')(t:Int)(x:Nat->Int):yg t x b=yg t x b':=by
 unfold yg;have e:powB x b 8=powB x b' 8:=GS x 8 (λi hi=>by
  have h1:=hc.who i hi;have h2:=hm.who i hi;rw[<-h2] at h1;cases ha:b i<;>cases hb:b' i<;>simp_all)
 rw[e]
theorem Qv(cb rb:Nat)(x:Nat->Int)(h:Int)(block:zj5)(ms:Nat->kE)(p:Option Addr)(m cap:Nat)(w:World)(hx:Dom x)(hc:zL w cb rb x h)(hms:KM w w.heap.size p m ms)(hf:∀i,i<m->0<=(ms i).f/\(ms i).f<8)(hm:m<=1000000000):
 Calls prog 97 #[pA cb 0,sA block,.slice p m cap] w λe w'=>∃r:Bool,e=.returned (bA r)/\(r=true↔KN x h block ms m)/\BW w w':=by
 obtain⟨HX,HC,a6,HF,HM⟩:=x6 hx hc hms hf hm;have hmx:(m:Int)<=9223372036854775807:=by omega
 have aF:cb<w.heap.size:=zg hc;clear hx hc hms hf hm;go_enter func97,ntmps97;go_wp2;go_loopw [9,10,13] (λ_ _ i wr=>∃(k:Nat) (b:Nat->Bool),k<=m/\i=iA k/\CertTo ms h block k b/\cL wr w.heap.size (kB b) 190/\BW w wr) (λ_ _ i _=>m-(intOf i).toNat)
 case atStart=>exact⟨0,λ_=>false,zjG _,rfl,⟨λi hi=>by omega,λi j hi hj=>by omega,λid _=>⟨λh=>(by cases h),λ⟨i,hi,_⟩=>(by omega)⟩⟩,zjC w _,bwA w⟩
 obtain⟨k,b,hk,rfl,aS,aG,hb⟩:=hrel;obtain⟨ax,an,HB⟩:=zS aS aG hb;have hsb:w.heap.size<wr.heap.size:=zg aG;have aK:=zc (HC.o.keep hb);clear aS aG hb;by_cases aP:k=m
 .subst aP;go_wp2_with fail
  refine rgd (S:=λW=>zL W cb rb x h/\cL W w.heap.size (kB b) 190/\BW w W) ⟨aK,an,HB.o.drew⟩ λhH=>?_;refine takeN [(0,some 42,pA cb 0),(1,some 43,pA cb 0),(2,some 44,pA cb 1),(3,some 45,.agg (regA x)),(4,some 46,.agg (kB b))] _ _ hH (by repeat(first|exact zj7|((first|refine tkc rfl rfl (zka (by rfl) 116 _ rfl cb 1 rfl (yU x) _ (λw h=>h.1.reg) underlying116 rfl (by rw[Tryz.zfG];simp[yU])) ?_|refine tkc rfl rfl (zka (by rfl) 190 _ rfl w.heap.size 0 rfl (kB b).toList _ (λw h=>GK h.2.1) underlying190 rfl Tryz.zgA) ?_|(refine tkc rfl rfl (zj0 ⟨by rfl,λx h=>?_⟩) ?_;focus(go_simp;done)));simp only[AP]))) ?_;simp only[ze,AP,pA];refine zv 5 λK hK=>?_;go_simp;go_wp2_with ((go_at_call 137;refine(jg 2 x b _ HX (by decide) (by decide)).mono ?_;rintro e w1 ⟨rfl,au⟩))
  refine hK.out _ _ ⟨hH.1.keep au,blk hH.2.1 au,hH.2.2.trans (au.mono hH.2.2.size)⟩ λhH=>?_;clear hK K au;refine zv 6 λK hK=>?_;go_simp;refine hK.out _ _ hH λhH=>?_;clear hK K;refine dnr ?_;go_wp2;go_ret;exact⟨yg 2 x b,rfl,⟨λh=>⟨b,ax,h⟩,λ⟨b2,h1,h2⟩=>(by rw[ax.o.same h1];exact h2)⟩,hH.2.2⟩
 have aq:k<m:=by omega
 have ba:(k:Int)<m:=by omega
 have HK:=zc aq;have hkx:k<=1000000000:=by have:=HM.o;omega
 have h0m:(0:Int)<m:=by omega
 have h0n:0<m:=by omega
 obtain⟨pb,po,rfl,a8,aN⟩:=a6.o.below HB k aq;obtain⟨pb',po',e0,_,ak⟩:=a6.o.below HB.o 0 (by omega);cases e0;obtain⟨aR,ar⟩:=HF.o k aq;have aX:=zc aN;obtain⟨r0,az⟩:∃r,r=(ms 0).r:=⟨_,rfl⟩;have aU:wr.cell? (aA pb (po+2))=some (iA r0):=by rw[az];have:=ak 2 _ rfl;simpa using this
 have aY:=zc az;have aT:cE wr cb 35 (iA h):=aK.o.zfF;have aC:pb<wr.heap.size:=zjE a8 HB.o.size;have aE:cb<wr.heap.size:=zjE aF HB.o.size;clear aN ak aP az;obtain⟨mm,aD⟩:=gen (ms k);rw[<-aD] at aR ar aX;obtain⟨f,aQ⟩:∃f:Nat,mm.f=(f:Int):=⟨mm.f.toNat,by omega⟩;obtain⟨K,H,R,Fm,V,nl,s⟩:=mm;have bb:Fm=(f:Int):=aQ;subst bb;have av:=zc aD;have hfi:(f:Int)<8:=by simp only at ar;exact ar
 clear aD aQ aR ar aq;have aa:cN wr w f (bA (b f)):=(zjD wr _ f _ _ _ an.o).trans (gh b f (by omega));have bc:wr.frozen? (nA w f)=false:=zt an f;go_wp2_with (first|(refine zj6 rfl 57 _ rfl pb (po+k*7) rfl _ _ aX.o underlying57 rfl Tryz.zgb ?_)|(refine zh rfl 57 _ _ rfl wr #[iA K,iA H,iA R,iA f,iA V,bA nl,sA s] rfl rfl 57 _ rfl (by simp[Value.oneCell']) Tryz.zgb ?_;intro w2 aB aV aM;have q3:cN w2 wr 3 (iA f):=zjD w2 _ 3 _ _ _ aB;have aZ:=zc aB;have ao:=zc aV;have aW:=zc aM;clear aB aM aV)|fail)
 have c1:cE w2 cb 35 (iA h):=(ao.o.cell (p:=(aA cb 35)) (by exact aE)).trans aT;have c2:cE w2 pb (po+2) (iA r0):=(ao.o.cell (p:=(aA pb (po+2))) (by exact aC)).trans aU;clear aT aU aa bc;have ay:wr.heap.size<w2.heap.size:=by have:=aW.o;omega
 have ag:cb<w2.heap.size:=by omega
 have ad:pb<w2.heap.size:=by omega
 refine rgd (S:=λW=>cE W cb 35 (iA h)/\cE W pb (po+2) (iA r0)/\cN W wr 3 (iA f)) ⟨c1,c2,q3⟩ λhH=>?_;refine yd [0,1,2,3,4,5,6,7,8,9,10,11] hH (λx h=>aI h.1 (aI h.2.1 (h.2.2))) ?_;refine zv 12 λK hK=>?_;go_simp;refine hK.out _ _ ⟨(zjH (w:=w2) (a:=(aA cb 35)) (zj9 w2 _ cb ag)).trans c1,(zjH (w:=w2) (a:=(aA pb (po+2))) (zj9 w2 _ pb ad)).trans c2,(zjH (w:=w2) (a:=(nA wr 3)) (zj9 w2 _ wr.heap.size ay)).trans q3⟩ λhH=>?_;clear hK K;refine zv 13 λK hK=>?_;rw[zj2 (by rfl)];refine QV 57 _ _ rfl w2.drew #[iA 3,iA h,iA r0,iA f,iA 0,bA false,sA block] rfl rfl 57 _ rfl (by simp[Value.oneCell']) Tryz.zgb ?_;intro w4 aO al a7;have ah:BW w2 w4:=((zjB w2.heap.size w2).drew).trans al;refine hK.out _ _ ⟨(ah.cell (p:=(aA cb 35)) (by exact ag)).trans c1,(ah.cell (p:=(aA pb (po+2))) (by exact ad)).trans c2,(ah.cell (p:=(nA wr 3)) (by exact ay)).trans q3⟩ λhH=>?_;clear hK K;refine dnr ?_;have aH:Hid (cL w4 w2.heap.size #[iA 3,iA h,iA r0,iA f,iA 0,bA false,sA block] 57):=aO;obtain⟨ai,aj⟩:=zn (blk aZ ah) (blk (blk an ao) ah);have aL:Hid (BW w w4):=HB.o.trans ((ao.o.mono HB.o.size).trans (ah.mono (by omega)));have q43:cN w4 wr 3 (iA f):=hH.2.2;have q44:cN w4 w f (bA (b f)):=(zjD w4 _ f _ _ _ aj.o).trans (gh b f (by omega));have q45:w4.frozen? (nA w f)=false:=zt aj f;clear hH aO al a7 ah c1 c2 q3 ay ag ad an HB ao aZ aW aK;cases ae:msgB ⟨K,H,R,(f:Int),V,nl,s⟩ (QZ h r0 block (f:Int)) with
 |false=>
  have aJ:Hid (¬KN x h block ms m):=by
   rintro⟨b',af,_⟩;have e:=af.want k HK;rw[<-aY.o,<-av.o] at e;rw[(XY _ _).2 e] at ae;cases ae
  have aw:=zc ae;clear ae;go_wp2_with (first|(refine zkb rfl 57 _ rfl wr.heap.size rfl 57 #[iA K,iA H,iA R,iA f,iA V,bA nl,sA s] (0,0) _ ai underlying57 rfl Tryz.zgb ?_)|(refine zkb rfl 57 _ rfl w2.heap.size rfl 57 #[iA 3,iA h,iA r0,iA f,iA 0,bA false,sA block] (0,0) _ aH underlying57 rfl Tryz.zgb ?_)|(refine qI rfl _ _ _ rfl ⟨K,H,R,(f:Int),V,nl,s⟩ (QZ h r0 block (f:Int)) rfl rfl ?_;rw[aw.o])|go_in)
  go_ret;exact⟨false,rfl,⟨λh=>(by cases h),λh=>absurd h aJ⟩,aL⟩
 |true=>
  obtain⟨bd,aw⟩:=zn ((XY _ _).1 ae) ae;clear ae;cases aa:b f with
  |true=>
   have aJ:Hid (¬KN x h block ms m):=by
    rintro⟨b',af,_⟩;have e:=ax.o.less af HK.o (f:=f) (by rw[<-av.o]) (by omega);rw[aa] at e;cases e
   rw[aa] at q44;clear aa;go_wp2_with (first|(refine zkb rfl 57 _ rfl wr.heap.size rfl 57 #[iA K,iA H,iA R,iA f,iA V,bA nl,sA s] (0,0) _ ai underlying57 rfl Tryz.zgb ?_)|(refine zkb rfl 57 _ rfl w2.heap.size rfl 57 #[iA 3,iA h,iA r0,iA f,iA 0,bA false,sA block] (0,0) _ aH underlying57 rfl Tryz.zgb ?_)|(refine qI rfl _ _ _ rfl ⟨K,H,R,(f:Int),V,nl,s⟩ (QZ h r0 block (f:Int)) rfl rfl ?_;rw[aw.o])|go_in)
   go_ret;exact⟨false,rfl,⟨λh=>(by cases h),λh=>absurd h aJ⟩,aL⟩
  |false=>
   have bf:=zc aa;rw[aa] at q44;clear aa;go_wp2_with (first|(refine zkb rfl 57 _ rfl wr.heap.size rfl 57 #[iA K,iA H,iA R,iA f,iA V,bA nl,sA s] (0,0) _ ai underlying57 rfl Tryz.zgb ?_)|(refine zkb rfl 57 _ rfl w2.heap.size rfl 57 #[iA 3,iA h,iA r0,iA f,iA 0,bA false,sA block] (0,0) _ aH underlying57 rfl Tryz.zgb ?_)|(refine qI rfl _ _ _ rfl ⟨K,H,R,(f:Int),V,nl,s⟩ (QZ h r0 block (f:Int)) rfl rfl ?_;rw[aw.o])|go_in)
   go_roundw
   case rel=>
    refine⟨k+1,zdZ b f,HK.o,by go_num,ax.o.step ?_ (by rw[<-av.o]) (by omega) bf.o,?_,aL.o.setCell (by exact zjA _) _⟩
    .rw [<-av.o,<-aY.o];exact bd
    rw[<-Va b f (by omega)];have h1:=aj.o;simp[cL,World.setCell,Array.getElem?_modify,h1]
   case measure=>have:=HK.o;simp[intOf];omega
theorem zdd(l:List zl)(m:kE):likeN l m<=l.length:=List.length_filter_le _ l
theorem zdc(l:List zl)(p:Option Addr)(cap:Nat)(m:kE)(w:World)(hl:kD w w.heap.size p l.length (λi=>l.getD i yl))(hm:l.length<=1000000000):
 Calls prog 128 #[.slice p l.length cap,.agg m.cells] w λe w'=>e=.returned (iA (likeN l m:Int))/\BW w w':=by
 obtain⟨mk,mh,mr,mf,mv,mn,ms⟩:=m;have HL:=zc hl;have hmx:l.length<=1000000000:=hm;clear hl hm;show Calls prog 128 #[.slice p l.length cap,.agg #[iA mk,iA mh,iA mr,iA mf,iA mv,bA mn,sA ms]] w _;go_enter func128,ntmps128;go_wp2;go_loopw [5,7,10] (λcv _ i wr=>∃(j c:Nat),j<=l.length/\i=iA j/\cv=iA c/\c=likeN (l.take j) ⟨mk,mh,mr,mf,mv,mn,ms⟩/\cL wr w.heap.size #[iA mk,iA mh,iA mr,iA mf,iA mv,bA mn,sA ms] 57/\BW w wr) (λ_ _ i _=>l.length-(intOf i).toNat)
 case atStart=>exact⟨0,0,zjG _,rfl,rfl,rfl,zjC w _,bwA w⟩
 obtain⟨j,c,hj,rfl,rfl,aj,hq,hb⟩:=hrel;obtain⟨HB,HQ,aq⟩:=zS hb hq aj;have hcb:c<=l.length:=by
  rw[aj];refine zjF (zdd _ _) ?_;rw[List.length_take];omega
 clear hb hq aj;by_cases ae:j=l.length
 .have hge:¬(j:Int)<l.length:=by omega
  have HF:Hid (c=likeN l ⟨mk,mh,mr,mf,mv,mn,ms⟩):=by have h:=aq.o;rw[ae,zke] at h;exact h
  clear ae;go_wp2;go_ret;exact⟨by rw[<-HF.o];rfl,HB⟩
 have an:j<l.length:=by omega
 have au:(j:Int)<l.length:=by omega
 have hz:w.heap.size<wr.heap.size:=zg HQ;obtain⟨b,o,rfl,av,ak⟩:=HL.o.below HB j an;obtain⟨ev,ai⟩:=gen (l.getD j yl);have ad:=ak;simp only[<-ai] at ad;have ah:=zaa l ⟨mk,mh,mr,mf,mv,mn,ms⟩ j an;rw[<-ai,<-aq.o] at ah;have af:=zc ah;obtain⟨⟨K,H,R,f,V,nl,s⟩,fr,own⟩:=ev;have aw:Hid (wr.rangeAt b (o+j*9) [iA K,iA H,iA R,iA f,iA V,bA nl,sA s,sA fr,bA own]):=ad;clear ak ad ai av ah
 go_upto_region 5 with(first|(refine zj6 rfl 164 _ rfl b (o+j*9) rfl [iA K,iA H,iA R,iA f,iA V,bA nl,sA s,sA fr,bA own] _ aw.o underlying164 rfl Tryz.zfS ?_)|(refine zh rfl 164 _ _ rfl wr #[iA K,iA H,iA R,iA f,iA V,bA nl,sA s,sA fr,bA own] rfl rfl 164 _ rfl (by simp[Value.oneCell']) Tryz.zfS ?_;intro w2 al ao ar;have ag:=zc al;have aa:Hid (BW wr w2):=ao;clear al ao ar)|fail)
 have c0:cN w2 wr 0 (iA K):=zjD w2 wr.heap.size 0 _ _ _ ag;have c1:cN w2 wr 1 (iA H):=zjD w2 wr.heap.size 1 _ _ _ ag;have c2:cN w2 wr 2 (iA R):=zjD w2 wr.heap.size 2 _ _ _ ag;have c3:cN w2 wr 3 (iA f):=zjD w2 wr.heap.size 3 _ _ _ ag;have d0:cN w2 w 0 (iA mk):=zjD w2 w.heap.size 0 _ _ _ (blk HQ aa);have d1:cN w2 w 1 (iA mh):=zjD w2 w.heap.size 1 _ _ _ (blk HQ aa);have d2:cN w2 w 2 (iA mr):=zjD w2 w.heap.size 2 _ _ _ (blk HQ aa);have d3:cN w2 w 3 (iA mf):=zjD w2 w.heap.size 3 _ _ _ (blk HQ aa);by_cases h0:K=mk
 .have q0:(K==mk)=true:=by simpa using h0
  by_cases h1:H=mh
  .have q1:(H==mh)=true:=by simpa using h1
   by_cases h2:R=mr
   .have q2:(R==mr)=true:=by simpa using h2
    by_cases h3:f=mf
    .have q3:(f==mf)=true:=by simpa using h3
     go_wp2;go_roundw
     case rel=>exact⟨j+1,c+1,by omega,by go_num,by go_num,by rw[af.o];simp[Qq,h0,h1,h2,h3],blk HQ.o aa.o,HB.o.trans (aa.o.mono HB.o.size)⟩
     simp[intOf];omega
    have q3:(f==mf)=false:=by simpa using h3
    go_wp2;go_roundw
    case rel=>exact⟨j+1,c,by omega,by go_num,by go_num,by rw[af.o];simp[Qq,h3],blk HQ.o aa.o,HB.o.trans (aa.o.mono HB.o.size)⟩
    simp[intOf];omega
   have q2:(R==mr)=false:=by simpa using h2
   go_wp2;go_roundw
   case rel=>exact⟨j+1,c,by omega,by go_num,by go_num,by rw[af.o];simp[Qq,h2],blk HQ.o aa.o,HB.o.trans (aa.o.mono HB.o.size)⟩
   simp[intOf];omega
  have q1:(H==mh)=false:=by simpa using h1
  go_wp2;go_roundw
  case rel=>exact⟨j+1,c,by omega,by go_num,by go_num,by rw[af.o];simp[Qq,h1],blk HQ.o aa.o,HB.o.trans (aa.o.mono HB.o.size)⟩
  simp[intOf];omega
 have q0:(K==mk)=false:=by simpa using h0
 go_wp2;go_roundw
 case rel=>exact⟨j+1,c,by omega,by go_num,by go_num,by rw[af.o];simp[Qq,h0],blk HQ.o aa.o,HB.o.trans (aa.o.mono HB.o.size)⟩
 simp[intOf];omega
theorem JJ(c:Int)(n:Nat)(w:World)(h1: -9223372036854775808<=c)(h2:c<=9223372036854775807)(hn:1<=n)(hn2:n<=1000000000):
 Calls prog 26 #[.int .i64 c,.int .i64 (n:Int)] w λe w'=>(∃r:Nat,r<n/\e=.returned (.int .i64 (r:Int)))/\w'=w:=by
 have hz:((n:Int)==0)=false:=by simp;omega
 have hz2:¬(n:Int)=0:=by omega
 by_cases hc:c<0
 .obtain ⟨d,hd⟩:∃d:Int,d= -(c+1):=⟨_,rfl⟩
  have ad:0<=d:=by omega
  have hd1:d<=9223372036854775807:=by omega
  obtain⟨r,hr⟩:∃r:Nat,(r:Int)=d.tmod n:=⟨(d.tmod n).toNat,by rw[Int.toNat_of_nonneg (Int.tmod_nonneg _ ad)]⟩;have aa:r<n:=by have:=Int.tmod_lt_of_pos d (show(0:Int)<n by omega);omega
  obtain⟨HR,HD,HN⟩:=zS hr hd aa;clear hr aa;go_enter func26,ntmps26;go_wp2;go_ret;refine⟨⟨r,HN,?_⟩,rfl⟩;show Ending.returned (Value.int .i64 (-(c+1).tmod (n:Int)))=_;rw[HR.o,HD.o,Int.neg_tmod]

 obtain⟨r,hr⟩:∃r:Nat,(r:Int)=c.tmod n:=⟨(c.tmod n).toNat,by rw[Int.toNat_of_nonneg (Int.tmod_nonneg _ (by omega))]⟩;have aa:r<n:=by have:=Int.tmod_lt_of_pos c (show(0:Int)<n by omega);omega
 obtain⟨HR,HN⟩:=zn hr aa;clear hr aa;go_enter func26,ntmps26;go_wp2;go_ret;refine⟨⟨r,HN,?_⟩,rfl⟩;show Ending.returned (Value.int .i64 (c % (n:Int)))=_;rw[HR.o,Int.tmod_eq_emod_of_nonneg (by omega)]
theorem Z5{w:World}{base n:Nat}{v:Value}{g:Nat->Int}(h:w.ownsRow base 3 1 v n ((List.range n).map λi=>.int .i64 (g i))):∃p c,v=.slice p n c/\qW w w.heap.size p n (λi=>.int .i64 (g i)):=by
 rcases h.2 with⟨rfl,hn⟩|⟨gb,cap,cur,rfl,hb,hg,hnc,hcm,hcs,ht⟩
 .exact ⟨none,0,by rw[hn],λi hi=>by omega⟩
 refine⟨_,cap,rfl,λi hi=>⟨gb,0,rfl,zg hg,?_⟩⟩;rw[zjD w gb _ _ _ _ hg,zj8];have e1:(cur.toList.take (n*1))[i]? =((List.range n).map λi=>Value.int .i64 (g i))[i]? :=by rw[ht]
 rw[zkc,zj2 (by omega)] at e1;rw[<-zkf,e1];simp[hi]
theorem GR(raw:Nat->Int)(p:Option Addr)(q cap n:Nat)(w:World)(hl:qW w w.heap.size p q (λi=>.int .i64 (raw i)))(hq:q<=maxLen)(hr:∀i,i<q->-9223372036854775808<=raw i/\raw i<=9223372036854775807)(hn:n<=8):
 Calls prog 25 #[.slice p q cap,.int .i64 (n:Int)] w λe w'=>∃(v:Value) (g:Nat->Int),e=.returned v/\w'.ownsRow w.heap.size 3 1 v n ((List.range n).map λi=>.int .i64 (g i))/\(∀i,i<n->1<=g i/\g i<=3)/\Below w.heap.size w w':=by
 obtain⟨iI,aq,al,ak,aj⟩:=info_parts Tryz.zhp;obtain⟨HL,HR⟩:=zn hl hr;have hmx:(q:Int)<=9223372036854775807:=by unfold maxLen at hq;omega
 have hn8:(n:Int)<=8:=by omega
 clear hl hr hq;go_enter func25,ntmps25;go_wp2;go_loopw [5,6,7] (λv i _ wr=>∃(j:Nat) (g:Nat->Int),j<=n/\i=.int .i64 j/\wr.ownsRow w.heap.size 3 1 v j ((List.range j).map λi=>.int .i64 (g i))/\(∀i,i<j->1<=g i/\g i<=3)/\Below w.heap.size w wr) (λ_ i _ _=>n-(intOf i).toNat)
 case atStart=>exact⟨0,λ_=>0,zjG _,rfl,zjZ _ _ _ _,λi hi=>absurd hi (Nat.not_lt_zero i),zjB _ _⟩
 obtain⟨j,g,hj,rfl,hv,ar,hb⟩:=hrel;obtain⟨HB,HV,au⟩:=zS hb hv ar;clear hb hv ar;by_cases af:j=n
 .subst af;go_wp2;go_ret;exact⟨_,g,rfl,HV,au,HB⟩
 have ax:(j:Int)<n:=by omega
 clear af;have fin:∀(x:Int) (v':Value) (wr':World),1<=x->x<=3->wr'.ownsRow w.heap.size 3 1 v' (j+1) (((List.range j).map λi=>Value.int .i64 (g i))++[.int .i64 x])->Below w.heap.size w wr'->
  ∃(j':Nat) (g':Nat->Int),j'<=n/\(Value.int .i64 ((j:Int)+1))=.int .i64 j'/\wr'.ownsRow w.heap.size 3 1 v' j' ((List.range j').map λi=>.int .i64 (g' i))/\(∀i,i<j'->1<=g' i/\g' i<=3)/\Below w.heap.size w wr':=λx v' wr' h1 h3 ho ay=>by
  refine⟨j+1,λi=>if i=j then x else g i,by omega,by go_num,?_,λi hi=>?_,ay⟩
  .have e:(List.range (j+1)).map (λi=>Value.int .i64 (if i=j then x else g i))=((List.range j).map λi=>Value.int .i64 (g i))++[.int .i64 x]:=by
    rw[List.range_succ,List.map_append]
    congr 1
    .apply List.map_congr_left;intro i hi;rw[List.mem_range] at hi;rw[zj3 (by omega)]
    .simp
   rw[e];exact ho
  .simp only
   split
   .exact ⟨h1,h3⟩
   .exact au.o i (by omega)
 have FIN:=zc fin;clear fin;by_cases ao:j<q
 .have ah:(j:Int)<q:=by omega
  obtain⟨b,o,rfl,-,hc⟩:=HL.o.below HB j ao;obtain⟨x,hx⟩:=gen (raw j);have hcj:wr.cell? ⟨b,o+j,none⟩=some (.int .i64 x):=by rw[hx];exact hc
  have ag:=HR.o j ao;rw[<-hx] at ag;have az:=zc (JJ x 3 wr ag.1 ag.2 (by omega) (by omega));clear hc hx ag;go_wp2_with fail
  refine az.o.mono ?_;rintro e w2 ⟨⟨r,hr3,rfl⟩,an⟩;have av:=an.symm;clear an;subst av;have aw:(r:Int)<3:=by omega
  go_wp2_with (first|(at_builtin;refine wpList_append_own _ rfl _ _ 22 rfl w.heap.size 3 iI (.int .i64 0) 1 8 underlying22 aq al ak aj rfl (by decide) _ _ _ rfl (HV.o.alloc _) ⟨wr.heap.size,0,none⟩ 1 1 [.int .i64 (1+(r:Int))] rfl rfl ?c1 ?c2 ?c3 ?c4 ?c5 ?_)|go_in)
  case c1=>
   intro j u hj;match j,hj with
   |0,hj=>simp at hj;subst hj;simp[Addr.add]
  case c2=>first|rfl|(intro u hu;simp at hu;subst hu;rfl)
  case c3=>unfold maxLen;omega
  case c4=>omega
  case c5=>have:=HB.o.size;first|omega|(simp;omega)
  intro rv' w7 aa ad _;obtain⟨rp,rc,rfl⟩:=zm aa;have ae:=zc aa;have ai:Hid (Below w.heap.size w w7):=(HB.o.alloc HB.o.size _).grown ad (by have:=HB.o.size;simp;omega) (λj hj=>(HV.o.lt j hj).1);clear aa ad;go_wp2;go_roundw
  case rel=>exact FIN.o (1+(r:Int)) _ _ (by omega) (by omega) ae.o ai.o
  simp[intOf];omega
 have ah:¬(j:Int)<q:=by omega
 go_wp2_with (first|(at_builtin;refine wpList_append_own _ rfl _ _ 22 rfl w.heap.size 3 iI (.int .i64 0) 1 8 underlying22 aq al ak aj rfl (by decide) _ _ _ rfl (HV.o.alloc _) ⟨wr.heap.size,0,none⟩ 1 1 [.int .i64 (1)] rfl rfl ?c1 ?c2 ?c3 ?c4 ?c5 ?_)|go_in)
 case c2=>first|rfl|(intro u hu;simp at hu;subst hu;rfl)
 case c3=>unfold maxLen;omega
 case c4=>omega
 case c5=>have:=HB.o.size;first|omega|(simp;omega)
 intro rv' w7 aa ad _;obtain⟨rp,rc,rfl⟩:=zm aa;have ae:=zc aa;have ai:Hid (Below w.heap.size w w7):=(HB.o.alloc HB.o.size _).grown ad (by have:=HB.o.size;simp;omega) (λj hj=>(HV.o.lt j hj).1);clear aa ad;go_wp2;go_roundw
 case rel=>exact FIN.o (1) _ _ (by omega) (by omega) ae.o ai.o
 simp[intOf];omega

import Derived.Test.YtcfjhbcpjpgodaaGreatDoorJ21
namespace Go.Proofs.YtcfjhbcpjpgodaaGreatDoor
open Go.RowKit Proofs.Tryz
set_option maxRecDepth 100000
set_option maxHeartbeats 0
set_option linter.all false
def zfD(Post:Bool->World->Prop)(e:Ending)(w':World):Prop:=∃b,e=.returned (bA b)/\Post b w'
def za.zgk(s:za)(r:Nat):Option zl:=propF s.log (r:Int) λp=>s.most (votesForB 3 (r:Int) p.m.s)&&s.zgc p.m.s
theorem Kw{B:Nat}{es:List Addr}{m:Int}{nb kb cb N:Nat}{s:za}{V:yc}{w:World}(Post:Bool->World->Prop)(hA:NodeAt nb kb cb V s w)(hB:B<=w.heap.size)(hg:kH B es m w)(ok:YI N s)
 (hkeep:∀(p:zl) (r:Nat),r<=20->(∀q,q<r->s.zgk q=none)->s.zgk r=some p->∀W,BW w W->Calls prog 153 #[pA nb 0,.agg p.cells] W (zfD Post))
 (hno:(∀q,q<=20->s.zgk q=none)->∀W,BW w W->Post false W):
 Calls prog 108 #[pA nb 0] w (zfD Post):=by
 have hmf:∀(fn:Fn) (first cap:Array Value) (w:World),(Instr.makeFunc fn first cap).run prog w=.ok (.func fn first cap) w:=λ_ _ _ _=>rfl;obtain⟨p,c,-,c37,hm,hE⟩:=hA.logAt;obtain⟨HA,HG,aS,az,aw,aJ,HE,HM⟩:=jR hA hg hB ok hkeep hno hE hm;have C37W:=zc c37;have C0:Hid (cN (w.alloc (.cells #[pA nb 0] 26)) w 0 (pA nb 0)):=zjD _ w.heap.size 0 _ _ _ (zjC w _);clear hA hg hB ok hkeep hno hE hm c37;go_enter func108,ntmps108;go_wp2;go_loopw [3,4,5,6] (λ_ _ _ i wr=>∃j:Nat,j<=21/\i=iA j/\(∀r,r<j->s.zgk r=none)/\cN wr w 0 (pA nb 0)/\BW w wr) (λ_ _ _ i _=>21-(intOf i).toNat)
 case atStart=>exact⟨0,zjG _,rfl,λr hr=>absurd hr (Nat.not_lt_zero r),C0.o,bwA w⟩
 obtain⟨j,hj,rfl,aj,aO,hb⟩:=hrel;obtain⟨aL,aK,aZ⟩:=zS hb aj aO;clear hb aj aO C0;by_cases au:j=21
 .have hge:¬(j:Int)<21:=by omega
  have aG:=zc (aJ.o (λq hq=>aK.o q (by omega)) wr aL.o);clear au;go_wp2;go_ret;exact⟨false,rfl,aG⟩
 have aU:(j:Int)<21:=by omega
 obtain⟨w1,ax⟩:=gen (wr.alloc (.cells #[iA j] 3));have aE:BW wr w1:=by rw[ax];exact bwA wr
 have aN:w1.heap[wr.heap.size]? =some (.cells #[iA j] 3 (0,0)):=by rw[ax];exact zjC wr _
 have av:BW w w1:=aL.o.trans (aE.mono aL.o.size);have C1:Hid (cN w1 w 0 (pA nb 0)):=Ext.cell aZ (Ext.of aE);have C2:Hid (cN w1 wr 0 (iA j)):=zjD w1 wr.heap.size 0 _ _ _ aN;have C37:Hid (cE w1 nb 37 (.slice p s.log.length c)):=Ext.cell C37W.o (Ext.of av);have aB:=zc av;have af:Hid (∀W,BW w1 W->Calls prog 148 #[.slice p s.log.length c,iA j,.func (.func 149) #[] #[pA w.heap.size 0,pA wr.heap.size 0]] W λe w'=>e=.returned (ve (s.zgk j))/\BW W w'):=λW hW=>by
  have ay:=av.trans (hW.mono av.size);exact vw 149 _ _ s.log (j:Int) p c W (enters_of func149 (by decide) rfl) (HE.o.ext (Ext.of ay)) HM (J4 j wr.heap.size nb kb cb w.heap.size B es m V s _ W (HA.o.below ay) (zjF aS ay.size) (HG.o.below aS ay) (Ext.cell C1.o (Ext.of hW)) az.o.dom (λe he=>⟨(az.o.ids e he).f0,(az.o.ids e he).f8⟩) (λe he=>(az.o.ids e (List.mem_filter.1 he).1).z) (Ext.cell C2.o (Ext.of hW)))
 have ae:=af;have aW:=zc ax;clear au aE aN av ax;obtain⟨x,aC⟩:=gen (s.zgk j);rw[<-aC] at af ae;have aQ:=zc aC;clear aC
 go_upto_region 4 with fail
 rw[<-aW.o]
 go_cut [4,5,6] from 6 to 23 (λu4 u5 u6 wc=>∃pb,u6=iA j/\u4=pA pb 0/\u5=bA x.isSome/\wc.heap[pb]? =some (.cells (x.getD yl).cells 164 (0,0))/\w1.heap.size<=pb/\BW w1 wc)
 case first=>
  refine rgd (S:=λX=>BW w1 X) ((zjB _ w1).drew) λhH=>?_;refine yd [0,1,2,3,4,5] hH (λx h=>aI (show cN x w 0 (pA nb 0) from Ext.cell C1.o (Ext.of h)) (aI (show cE x nb 37 (.slice p s.log.length c) from Ext.cell C37.o (Ext.of h)) (show cN x wr 0 (iA j) from Ext.cell C2.o (Ext.of h)))) ?_;refine Jp 6 10 (λK hK=>?_) λK hK=>?_
  .go_simp;refine(af _ (by first|exact hH|exact(zjB _ w1).drew)).mono ?_;rintro en X2 ⟨rfl,an⟩;have ag:BW w1 X2:=(zjB _ w1).drew.trans (an.mono (zjA _));clear an;refine hK.out _ _ ag λhH=>?_;clear hK K
   try simp only[AP,AQ]
   refine takeN [(7,some 9,ve x),(8,some 17,.agg (x.getD yl).cells),(9,some 18,bA x.isSome)] _ _ hH (by repeat(first|exact zj7|((first|(refine tkc rfl rfl (zj0 ⟨by rfl,λx h=>?_⟩) ?_;focus(unfold ve;go_simp;done))|(refine tkc rfl rfl (zj0 ⟨by rfl,λx h=>?_⟩) ?_;focus(go_simp;done)));simp only[AP]))) ?_;simp only[ze,AP];refine zv 10 λK hK=>?_;go_simp;obtain⟨X3,ad⟩:=gen (X2.alloc (.cells #[iA 0,iA 0,iA 0,iA 0,iA 0,bA false,sA ⟨#[]⟩,sA ⟨#[]⟩,bA false] 164));have aP:BW X2 X3:=by rw[ad];exact bwA X2
   have aq:X3.heap[X2.heap.size]? =some (.cells #[iA 0,iA 0,iA 0,iA 0,iA 0,bA false,sA ⟨#[]⟩,sA ⟨#[]⟩,bA false] 164 (0,0)):=by rw[ad];exact zjC X2 _
   rw[<-ad];have ak:BW w1 X3:=ag.trans (aP.mono ag.size);refine hK.out _ _ ak λhH=>?_;clear hK K ad
   try simp only[AP,AQ]
   refine zv 11 λK hK=>?_;rw[zj2 (by rfl)];refine zo 164 _ _ rfl X2.heap.size 0 ((x.getD yl).cells) rfl rfl 164 #[iA 0,iA 0,iA 0,iA 0,iA 0,bA false,sA ⟨#[]⟩,sA ⟨#[]⟩,bA false] aq (by simp[zl.cells]) (by simp[zl.cells,Value.oneCell']) (by rw[Tryz.zfS];simp[zl.cells]) ?_;intro X ao ar;have aa:cL X X2.heap.size ((x.getD yl).cells) 164:=ao;have hX:BW w1 X:=ak.trans (ar.below ag.size);refine hK.out _ _ hX λhH=>?_;clear hK K
   try simp only[AP,AQ]
   refine yd [12] hH (λ_ h=>h) ?_;refine dnr ?_;obtain⟨pb,ah⟩:=gen X2.heap.size;rw[<-ah] at aa;rw[<-ah];have al:w1.heap.size<=pb:=by rw[ah];exact ag.size
   clear ah ao ar aP aq ak ag;clear hH;go_wp2_with fail
   go_meet
   case rel=>exact⟨pb,rfl,rfl,rfl,aa,al,hX⟩
  go_simp;obtain⟨X3,ad⟩:∃z,z=(w1.alloc (.cells #[iA 0,iA 0,iA 0,iA 0,iA 0,bA false,sA ⟨#[]⟩,sA ⟨#[]⟩,bA false] 164)).drew:=⟨_,rfl⟩;have ak:BW w1 X3:=by rw[ad];exact(bwA w1).drew
  have aq:X3.heap[w1.heap.size]? =some (.cells #[iA 0,iA 0,iA 0,iA 0,iA 0,bA false,sA ⟨#[]⟩,sA ⟨#[]⟩,bA false] 164 (0,0)):=by rw[ad];exact zjC w1 _
  rw[<-ad];refine hK.out _ _ ak λhH=>?_;clear hK K ad
  try simp only[AP,AQ]
  refine zv 6 λK hK=>?_;go_simp;refine(ae _ (by first|exact hH|exact(zjB _ w1).drew)).mono ?_;rintro en X2 ⟨rfl,an⟩;have ag:BW w1 X2:=ak.trans (an.mono ak.size);have aM:=blk aq an;refine hK.out _ _ ag λhH=>?_;clear hK K
  try simp only[AP,AQ]
  refine takeN [(7,some 9,ve x),(8,some 17,.agg (x.getD yl).cells),(9,some 18,bA x.isSome)] _ _ hH (by repeat(first|exact zj7|((first|(refine tkc rfl rfl (zj0 ⟨by rfl,λx h=>?_⟩) ?_;focus(unfold ve;go_simp;done))|(refine tkc rfl rfl (zj0 ⟨by rfl,λx h=>?_⟩) ?_;focus(go_simp;done)));simp only[AP]))) ?_;simp only[ze,AP];refine zv 11 λK hK=>?_;rw[zj2 (by rfl)];refine zo 164 _ _ rfl w1.heap.size 0 ((x.getD yl).cells) rfl rfl 164 #[iA 0,iA 0,iA 0,iA 0,iA 0,bA false,sA ⟨#[]⟩,sA ⟨#[]⟩,bA false] aM (by simp[zl.cells]) (by simp[zl.cells,Value.oneCell']) (by rw[Tryz.zfS];simp[zl.cells]) ?_;intro X ao ar;have aa:cL X w1.heap.size ((x.getD yl).cells) 164:=ao;have hX:BW w1 X:=ag.trans (ar.below (zjA _));refine hK.out _ _ hX λhH=>?_;clear hK K
  try simp only[AP,AQ]
  refine yd [12] hH (λ_ h=>h) ?_;refine dnr ?_;obtain⟨pb,ah⟩:=gen w1.heap.size;rw[<-ah] at aa;rw[<-ah];have al:w1.heap.size<=pb:=by rw[ah];exact zjA _
  clear ah ao ar an aM aq ak ag;clear hH;go_wp2_with fail
  go_meet
  case rel=>exact⟨pb,rfl,rfl,rfl,aa,al,hX⟩
 obtain⟨X,aV⟩:=gen wc;subst aV;obtain⟨pb,rfl,rfl,rfl,aa,al,hX⟩:=hcut;cases x with
 |none=>
  have aH:Hid (s.zgk j=none):=aQ.o.symm;have aT:Option.isSome (none:Option zl)=false:=rfl;have aF:Hid (BW w X):=aB.o.trans (hX.mono aB.o.size);have aD:cN X w 0 (pA nb 0):=Ext.cell C1.o (Ext.of hX);have aY:=zc aD;clear hX aa al aD;go_wp2;go_roundw
  case rel=>
   refine⟨j+1,by omega,by go_num,λr hr=>?_,aY.o,aF.o⟩;rcases Nat.lt_or_ge r j with h1|h1
   .exact aK r h1
   have e:r=j:=by omega
   rw[e];exact aH
  simp[intOf];omega
 |some pv=>
  have aH:Hid (s.zgk j=some pv):=aQ.o.symm;have aT:Option.isSome (some pv)=true:=rfl;have aF:Hid (BW w X):=aB.o.trans (hX.mono aB.o.size);have aD:cN X w 0 (pA nb 0):=Ext.cell C1.o (Ext.of hX);have aR:=zc (aw.o pv j (by omega) aK.o aH.o X aF.o);have aX:=zc aa;clear hX al aa;go_wp2_with (first|(refine zkb rfl 164 _ rfl pb rfl 164 ((some pv).getD yl).cells (0,0) _ aX underlying164 rfl (by rw[Tryz.zfS];simp[zl.cells]) ?_)|fail)
  refine aR.o.mono ?_;rintro en Y ⟨bo,rfl,ai⟩;have aG:=zc ai;clear ai aR;go_wp2;go_ret;exact⟨bo,rfl,aG⟩
section
variable{B nb kb rb cb n i N:Nat}{es:List Addr}{m:Int}{F R:Nat->Prop}{s:za}{w:World}
def yC(B:Nat)(es:List Addr)(m:Int)(F R:Nat->Prop)(nb kb rb cb n i:Nat)(r:Bool×za)(w:World)(e:Ending)(w':World):Prop:=
 e=.returned (bA r.1)/\∃F' R',NodeW B es m F' R' nb kb rb cb n i r.2 w'/\Goes F R w F' R' w'
def za.zfO(s:za)(st:Nat):za:={ s with step:=st }
theorem NodeW.zgW(h:NodeW B es m F R nb kb rb cb n i s w)(st:Nat):
 NodeW B es m F R nb kb rb cb n i (s.zfO st) (w.setCell (aA nb 44) (iA st))/\Goes F R w F R (w.setCell (aA nb 44) (iA st)):=by
 obtain⟨V,hA,hf⟩:=h.node;exact h.cellAt (s':=s.zfO st) hA hf (setCell_row hA.blk 44 _) (zf _ _ _ _) rfl rfl rfl rfl rfl rfl rfl
theorem NodeW.zhj(h:NodeW B es m F R nb kb rb cb n i s w):w.cell? (aA nb 44)=some (iA s.step)/\w.frozen? (aA nb 44)=false:=by
 obtain⟨V,hA,hf⟩:=h.node;exact⟨hA.cell 44 rfl,hA.frozen 44⟩
def za.nothing(s:za)(i:Nat)(k:Int)(st:Nat):za:=(s.zfI i k 0 true ⟨#[]⟩).zfO st
theorem jf(h:NodeW B es m F R nb kb rb cb n i s w)(ok:YI N s)(hN:N<=10000000)(hsg:(s.sg i).length<=1000000000000):
 Calls prog 131 #[pA nb 0] w λen w'=>en=.returned (.tuple #[])/\∃F' R',NodeW B es m F' R' nb kb rb cb n i (s.nothing i 2 2) w'/\Goes F R w F' R' w':=by
 obtain⟨a1,ae⟩:=h.glob.sent.at 1 (by omega);have ai:=zc (vQ 2 0 0 0 0 true ⟨#[]⟩ a1 h ae (by have:=ok.log;omega) (by have:=ok.ahead;omega) (by omega) (by decide));clear h ok hsg ae;go_enter func131,ntmps131;go_wp2_with fail
 refine ai.o.mono ?_;rintro e w4 ⟨rfl,F4,R4,ad,ah⟩;obtain⟨c44,f44⟩:=ad.zhj;obtain⟨af,ag⟩:=ad.zgW 2;have aa:Hid (∃F' R',NodeW B es m F' R' nb kb rb cb n i (s.nothing i 2 2) (w4.setCell (aA nb 44) (iA 2))/\Goes F R w F' R' (w4.setCell (aA nb 44) (iA 2))):=⟨F4,R4,af,ah.trans ag⟩;clear ad ah af ag ai;go_wp2;first|exact bodyPost_end (v:=.tuple #[]) (by simp[results,results131]) rfl ⟨rfl,aa.o⟩|exact zjT (v:=.tuple #[]) (by simp[results,results131]) rfl ⟨rfl,aa.o⟩
theorem qw(h:NodeW B es m F R nb kb rb cb n i s w)(ok:YI N s)(hN:N<=10000000)(hsg:(s.sg i).length<=1000000000000):
 Calls prog 132 #[pA nb 0] w λen w'=>en=.returned (.tuple #[])/\∃F' R',NodeW B es m F' R' nb kb rb cb n i (s.nothing i 3 3) w'/\Goes F R w F' R' w':=by
 obtain⟨a1,ae⟩:=h.glob.sent.at 1 (by omega);have ai:=zc (vQ 3 0 0 0 0 true ⟨#[]⟩ a1 h ae (by have:=ok.log;omega) (by have:=ok.ahead;omega) (by omega) (by decide));clear h ok hsg ae;go_enter func132,ntmps132;go_wp2_with fail
 refine ai.o.mono ?_;rintro e w4 ⟨rfl,F4,R4,ad,ah⟩;obtain⟨c44,f44⟩:=ad.zhj;obtain⟨af,ag⟩:=ad.zgW 3;have aa:Hid (∃F' R',NodeW B es m F' R' nb kb rb cb n i (s.nothing i 3 3) (w4.setCell (aA nb 44) (iA 3))/\Goes F R w F' R' (w4.setCell (aA nb 44) (iA 3))):=⟨F4,R4,af,ah.trans ag⟩;clear ad ah af ag ai;go_wp2;first|exact bodyPost_end (v:=.tuple #[]) (by simp[results,results132]) rfl ⟨rfl,aa.o⟩|exact zjT (v:=.tuple #[]) (by simp[results,results132]) rfl ⟨rfl,aa.o⟩
end
section
variable{s:za}{i:Nat}{fits:zl->Bool}{p:zl}
def za.zgP(s:za)(p:zl):Bool:=s.zgc p.m.s&&(decide (s.lr<=p.m.v)||decide (s.lv=p.m.s))
def za.zfU(s:za)(i:Nat)(fits:zl->Bool):Bool×za:=
 if s.step=1 then(match propF s.log (s.round:Int) fits with|none=>(false,s)|some p=>(true,if s.zgP p=true then(s.zfI i 2 0 false p.m.s).zfO 2 else s.nothing i 2 2)) else(false,s)
theorem yR(h:¬s.step=1):s.zfU i fits=(false,s):=by unfold za.zfU;rw[zj3 h]
theorem qg(h:s.step=1)(hp:propF s.log (s.round:Int) fits=none):s.zfU i fits=(false,s):=by unfold za.zfU;rw[zj2 h,hp]
theorem ko(h:s.step=1)(hp:propF s.log (s.round:Int) fits=some p):s.zfU i fits=(true,if s.zgP p=true then(s.zfI i 2 0 false p.m.s).zfO 2 else s.nothing i 2 2):=by unfold za.zfU;rw[zj2 h,hp]
theorem YC(h:s.step=1)(hp:propF s.log (s.round:Int) fits=some p)(hm:s.zgP p=true):s.zfU i fits=(true,(s.zfI i 2 0 false p.m.s).zfO 2):=by rw[ko h hp,zj2 hm]
theorem zaA(h:s.step=1)(hp:propF s.log (s.round:Int) fits=some p)(hm:s.zgP p=false):s.zfU i fits=(true,s.nothing i 2 2):=by rw[ko h hp,zj3 (by rw[hm];exact zjX)]
theorem KH{B:Nat}{es:List Addr}{m:Int}{F R:Nat->Prop}{nb kb rb cb n N:Nat}{w:World}(g:Nat)(lb:Array Value)(fits:zl->Bool)(h:NodeW B es m F R nb kb rb cb n i s w)(ok:YI N s)(hN:N<=10000000)(hsg:(s.sg i).length<=1000000000000)(eg:qo g)(hfit:∀W,BW w W->FitsAt g lb fits (s.log.filter λe=>decide (e.m.k=1)&&decide (e.m.r=(s.round:Int))) W):
 Calls prog 156 #[pA nb 0,.func (.func g) #[] lb] w (yC B es m F R nb kb rb cb n i (s.zfU i fits) w):=by
 obtain⟨V,hA,hf⟩:=h.node;obtain⟨p,c,-,c37,hm,hE⟩:=hA.logAt;obtain⟨a1,aM⟩:=h.glob.sent.at 1 (by omega);obtain⟨a11,av⟩:=h.glob.sent.at 11 (by omega);have c44:cE w nb 44 (iA s.step):=hA.cell 44 rfl;have C43:Hid (cE w nb 43 (iA s.round)):=hA.cell 43 rfl;obtain⟨C37,HH,HA,az,aT,aZ,aH⟩:=Qy c37 h hA ok hsg aM av;have ag:Hid (∀W,BW w W->Calls prog 148 #[.slice p s.log.length c,iA s.round,.func (.func g) #[] lb] W λe w'=>e=.returned (ve (propF s.log (s.round:Int) fits))/\BW W w'):=λW hW=>vw g lb fits s.log (s.round:Int) p c W eg (hE.ext (Ext.of hW)) hm (hfit W hW);have af:=ag;obtain⟨x,aF⟩:=gen (propF s.log (s.round:Int) fits);rw[<-aF] at ag af;have aG:=zc aF;clear h hA hf ok hsg aM av hfit eg hE hm c37;clear aF;by_cases aB:s.step=1
 .have aS:=zc aB;have q44:(s.step:Int)=1:=by omega
  clear aB;go_enter func156,ntmps156
  go_upto_region 3 with fail
  go_cut [5,6] (λu5 u6 wc=>∃pb,u5=pA pb 0/\u6=bA x.isSome/\wc.heap[pb]? =some (.cells (x.getD yl).cells 164 (0,0))/\w.heap.size<=pb/\BW w wc)
  case first=>
   refine rgd (S:=λX=>BW w X) ((zjB _ w).drew) λhH=>?_;refine zQ [(0,some 14,pA nb 0),(1,some 15,pA nb 0),(2,some 16,pA nb 37),(3,some 17,.slice p s.log.length c),(4,some 18,pA nb 0),(5,some 19,pA nb 0),(6,some 20,pA nb 43),(7,some 21,pA nb 43),(8,some 22,iA s.round),(9,some 23,.func (.func g) #[] lb)] _ _ hH (λx h=>aI (show cE x nb 37 (.slice p s.log.length c) from Ext.cell C37.o (Ext.of h)) (show cE x nb 43 (iA s.round) from Ext.cell C43.o (Ext.of h))) ?_;simp only[ze,AP,pA];refine Jp 10 14 (λK hK=>?_) λK hK=>?_
   .go_simp;refine(ag _ (by first|exact hH|exact(zjB _ w).drew)).mono ?_;rintro en X2 ⟨rfl,an⟩;have ah:BW w X2:=(zjB _ w).drew.trans (an.mono (zjA _));clear an;refine hK.out _ _ ah λhH=>?_;clear hK K
    try simp only[AP,AQ]
    refine takeN [(11,some 13,ve x),(12,some 25,.agg (x.getD yl).cells),(13,some 26,bA x.isSome)] _ _ hH (by repeat(first|exact zj7|((first|(refine tkc rfl rfl (zj0 ⟨by rfl,λx h=>?_⟩) ?_;focus(unfold ve;go_simp;done))|(refine tkc rfl rfl (zj0 ⟨by rfl,λx h=>?_⟩) ?_;focus(go_simp;done)));simp only[AP]))) ?_;simp only[ze,AP];refine zv 14 λK hK=>?_;go_simp;obtain⟨X3,ad⟩:=gen (X2.alloc (.cells #[iA 0,iA 0,iA 0,iA 0,iA 0,bA false,sA ⟨#[]⟩,sA ⟨#[]⟩,bA false] 164));have aN:BW X2 X3:=by rw[ad];exact bwA X2
    have ar:X3.heap[X2.heap.size]? =some (.cells #[iA 0,iA 0,iA 0,iA 0,iA 0,bA false,sA ⟨#[]⟩,sA ⟨#[]⟩,bA false] 164 (0,0)):=by rw[ad];exact zjC X2 _
    rw[<-ad];have aj:BW w X3:=ah.trans (aN.mono ah.size);refine hK.out _ _ aj λhH=>?_;clear hK K ad
    try simp only[AP,AQ]
    refine zv 15 λK hK=>?_;rw[zj2 (by rfl)];refine zo 164 _ _ rfl X2.heap.size 0 ((x.getD yl).cells) rfl rfl 164 #[iA 0,iA 0,iA 0,iA 0,iA 0,bA false,sA ⟨#[]⟩,sA ⟨#[]⟩,bA false] ar (by simp[zl.cells]) (by simp[zl.cells,Value.oneCell']) (by rw[Tryz.zfS];simp[zl.cells]) ?_;intro X aq au;have aa:cL X X2.heap.size ((x.getD yl).cells) 164:=aq;have hX:BW w X:=aj.trans (au.below ah.size);refine hK.out _ _ hX λhH=>?_;clear hK K
    try simp only[AP,AQ]
    refine y7 [(16,some 6,bA x.isSome)] _ _ hH ?_;simp only[ze,AP];refine dnr ?_;obtain⟨pb,ai⟩:=gen X2.heap.size;rw[<-ai] at aa;rw[<-ai];have al:w.heap.size<=pb:=by rw[ai];exact ah.size
    clear ai aq au aN ar aj ah;clear hH;go_wp2_with fail
    go_meet
    case rel=>exact⟨pb,rfl,rfl,aa,al,hX⟩
   go_simp;obtain⟨X3,ad⟩:∃z,z=(w.alloc (.cells #[iA 0,iA 0,iA 0,iA 0,iA 0,bA false,sA ⟨#[]⟩,sA ⟨#[]⟩,bA false] 164)).drew:=⟨_,rfl⟩;have aj:BW w X3:=by rw[ad];exact(bwA w).drew
   have ar:X3.heap[w.heap.size]? =some (.cells #[iA 0,iA 0,iA 0,iA 0,iA 0,bA false,sA ⟨#[]⟩,sA ⟨#[]⟩,bA false] 164 (0,0)):=by rw[ad];exact zjC w _
   rw[<-ad];refine hK.out _ _ aj λhH=>?_;clear hK K ad
   try simp only[AP,AQ]
   refine zv 10 λK hK=>?_;go_simp;refine(af _ (by first|exact hH|exact(zjB _ w).drew)).mono ?_;rintro en X2 ⟨rfl,an⟩;have ah:BW w X2:=aj.trans (an.mono aj.size);have aK:=blk ar an;refine hK.out _ _ ah λhH=>?_;clear hK K
   try simp only[AP,AQ]
   refine takeN [(11,some 13,ve x),(12,some 25,.agg (x.getD yl).cells),(13,some 26,bA x.isSome)] _ _ hH (by repeat(first|exact zj7|((first|(refine tkc rfl rfl (zj0 ⟨by rfl,λx h=>?_⟩) ?_;focus(unfold ve;go_simp;done))|(refine tkc rfl rfl (zj0 ⟨by rfl,λx h=>?_⟩) ?_;focus(go_simp;done)));simp only[AP]))) ?_;simp only[ze,AP];refine zv 15 λK hK=>?_;rw[zj2 (by rfl)];refine zo 164 _ _ rfl w.heap.size 0 ((x.getD yl).cells) rfl rfl 164 #[iA 0,iA 0,iA 0,iA 0,iA 0,bA false,sA ⟨#[]⟩,sA ⟨#[]⟩,bA false] aK (by simp[zl.cells]) (by simp[zl.cells,Value.oneCell']) (by rw[Tryz.zfS];simp[zl.cells]) ?_;intro X aq au;have aa:cL X w.heap.size ((x.getD yl).cells) 164:=aq;have hX:BW w X:=ah.trans (au.below (zjA _));refine hK.out _ _ hX λhH=>?_;clear hK K
   try simp only[AP,AQ]
   refine y7 [(16,some 6,bA x.isSome)] _ _ hH ?_;simp only[ze,AP];refine dnr ?_;obtain⟨pb,ai⟩:=gen w.heap.size;rw[<-ai] at aa;rw[<-ai];have al:w.heap.size<=pb:=by rw[ai];exact zjA _
   clear ai aq au an aK ar aj ah;clear hH;go_wp2_with fail
   go_meet
   case rel=>exact⟨pb,rfl,rfl,aa,al,hX⟩
  obtain⟨X,aX⟩:=gen wc;subst aX;obtain⟨pb,rfl,rfl,aa,al,hX⟩:=hcut;cases x with
  |none=>
   have ae:=zc (qg (i:=i) aS aG.o.symm);have hsm:Option.isSome (none:Option zl)=false:=rfl;have ax:=zc hX;clear hX aa al;go_wp2;go_ret;exact⟨by rw[ae.o];rfl,F,R,by rw[ae.o];exact HH.o.below ax,Goes.below ax⟩
  |some p=>
   have ae:=zc (ko (i:=i) aS aG.o.symm);have hz:p.m.s.size<=24:=(az.o.ids p (List.mem_of_find?_eq_some aG.o.symm)).z;obtain⟨⟨pk,ph,pr,pf,pvv,pnl,pt⟩,pfr,po⟩:=p;have hz:pt.size<=24:=hz;obtain⟨q,hq⟩:=gen (s.zgP ⟨⟨pk,ph,pr,pf,pvv,pnl,pt⟩,pfr,po⟩);rw[<-hq] at ae;have ax:=zc hX;have e4:cE X pb 4 (iA pvv):=zjD X pb 4 _ _ _ aa;have e6:cE X pb 6 (sA pt):=zjD X pb 6 _ _ _ aa;have aE:=HA.o.below hX;obtain⟨aY,aR⟩:=zn aE.reg (HH.o.below hX);have e39:cE X nb 39 (iA s.lr):=aE.cell 39 rfl;have e40:cE X nb 40 (sA s.lv):=aE.cell 40 rfl;have d4:∀u:Ext X,cE u.W pb 4 (iA pvv):=λu=>Ext.cell e4 u;have d6:∀u:Ext X,cE u.W pb 6 (sA pt):=λu=>Ext.cell e6 u;have d39:∀u:Ext X,cE u.W nb 39 (iA s.lr):=λu=>Ext.cell e39 u;have d40:∀u:Ext X,cE u.W nb 40 (sA s.lv):=λu=>Ext.cell e40 u;have E6:=zc e6;clear e4 e6 e39 e40 aE hX aa al;haveI:=Ext.ne X
   go_upto_region 6 with fail
   go_cut [58] (λu58 wc=>u58=bA q/\BW X wc)
   case first=>
    have aV:((zi s.x pt).2=false/\q=false)\/((zi s.x pt).2=true/\(decide (s.lr<=pvv)=true/\q=true\/decide (s.lr<=pvv)=false/\(s.lv=pt/\q=true\/¬s.lv=pt/\q=false))):=by
     rw[hq];unfold za.zgP za.zgc;cases(zi s.x pt).2<;>by_cases aU:s.lr<=pvv<;>by_cases aC:s.lv=pt<;>simp[aU,aC]
    clear hq;rcases aV with⟨aL,rfl⟩|⟨aL,⟨qlr,rfl⟩|⟨qlr,⟨aC,rfl⟩|⟨aC,rfl⟩⟩⟩;all_goals
     try have qlv:=gB aC
     refine zP (by kernel_rfl) (by kernel_rfl) ?_;repeat(first|go_big_quiet_skip|(go_big_quiet_want;first|(refine zW (some 32) rfl 116 _ rfl nb 1 rfl (yU s.x) _ (Ext.range aY) underlying116 rfl (by rw[Tryz.zfG];simp[yU]) ?_;simp only[AP];go_big_quiet_on)|(go_big_quiet_op;first|go_big_quiet_on|(apply Exists.intro;refine⟨λu=>?_,?_⟩;(· (have hc:=Calls.ext u (kO s.x pt a11 m u.W az.o.dom (by omega) ((aR.o.below u.b).glob.sent.cell 11 _ _ rfl aH.o) (aR.o.below u.b).glob.len);rw[aL] at hc;exact hc));go_big_quiet_on))))
     refine wpQuiet_nil ?_;rintro _ ⟨u,rfl⟩;go_wp2_with fail
     go_meet
     case rel=>exact⟨rfl,u.b⟩
   obtain⟨Y,aW⟩:=gen wc;subst aW;obtain⟨rfl,aD⟩:=hcut;have aJ:Hid (BW w Y):=ax.o.trans (aD.mono ax.o.size);have aQ:=zc (HH.o.below aJ);clear this d4 d6 d39 d40 hq;cases q with
   |true=>
    rw[zj2 rfl] at ae;have y6:cE Y pb 6 (sA pt):=Ext.cell E6.o (Ext.of aD);clear aD;have ay:=zc (vQ 2 0 0 0 0 false pt a1 aQ.o aZ.o (by have:=az.o.log;omega) (by have:=az.o.ahead;omega) (by have:=aT.o;omega) (by unfold maxLen;omega));go_wp2_with fail
    refine ay.o.mono ?_;rintro e w4 ⟨rfl,F4,R4,ao,aw⟩;obtain⟨c44,f44⟩:=ao.zhj;obtain⟨aO,aP⟩:=ao.zgW 2;have ak:Hid (∃F' R',NodeW B es m F' R' nb kb rb cb n i ((s.zfI i 2 0 false pt).zfO 2) (w4.setCell (aA nb 44) (iA 2))/\Goes F R w F' R' (w4.setCell (aA nb 44) (iA 2))):=⟨F4,R4,aO,(Goes.below aJ).trans (aw.trans aP)⟩;clear ao aw aO aP ay;go_wp2;go_ret;exact⟨by rw[ae.o];rfl,by rw[ae.o];exact ak⟩
   |false=>
    rw[zj3 zjX] at ae;clear aD;have ay:=zc (jf aQ az hN aT);go_wp2_with fail
    refine ay.o.mono ?_;rintro e w4 ⟨rfl,F4,R4,ao,aw⟩;have ak:Hid (∃F' R',NodeW B es m F' R' nb kb rb cb n i (s.nothing i 2 2) w4/\Goes F R w F' R' w4):=⟨F4,R4,ao,(Goes.below aJ).trans aw⟩;clear ao aw ay;go_wp2;go_ret;exact⟨by rw[ae.o];rfl,by rw[ae.o];exact ak⟩
 have ae:=zc (yR (i:=i) (fits:=fits) aB);have q44:((s.step:Int)==1)=false:=by rw[zjY];omega
 have q44':¬(s.step:Int)=1:=by omega
 clear aB;go_enter func156,ntmps156;go_wp2;go_ret;exact⟨by rw[ae.o];rfl,F,R,by rw[ae.o];exact HH,Goes.refl F R w⟩
end
section
variable{B nb kb rb cb n i N:Nat}{es:List Addr}{m:Int}{F R:Nat->Prop}{w w':World}{s:za}
theorem yC.from{r:Bool×za}{w1:World}{e:Ending}(hb:BW w w1)(h:yC B es m F R nb kb rb cb n i r w1 e w'):yC B es m F R nb kb rb cb n i r w e w':=by
 obtain⟨h1,F',R',h2,h3⟩:=h;exact⟨h1,F',R',h2,(Goes.below hb).trans h3⟩
theorem yC.same(h:NodeW B es m F R nb kb rb cb n i s w)(hb:BW w w'):yC B es m F R nb kb rb cb n i (false,s) w (.returned (bA false)) w':=⟨rfl,F,R,h.below hb,Goes.below hb⟩
def newB(p:zl):Bool:=decide (p.m.v<0)
def za.zgT(s:za)(p:zl):Bool:=decide (0<=p.m.v)&&s.most (votesForB 2 p.m.v p.m.s)
theorem QQ(h:NodeW B es m F R nb kb rb cb n i s w)(ok:YI N s)(hN:N<=10000000)(hsg:(s.sg i).length<=1000000000000):
 Calls prog 110 #[pA nb 0] w (yC B es m F R nb kb rb cb n i (s.zfU i newB) w):=by
 have HC:=zc (KH 157 #[] newB h ok hN hsg (enters_of func157 (by decide) rfl) (λW hW=>zbF _ W));clear h ok hsg;go_enter func110,ntmps110;go_wp2_with fail
 refine HC.o.mono ?_;rintro e w2 ⟨rfl,h2⟩;have H2:=zc h2;clear h2 HC;go_wp2;go_ret;exact⟨rfl,H2⟩
theorem QP(h:NodeW B es m F R nb kb rb cb n i s w)(ok:YI N s)(hN:N<=10000000)(hsg:(s.sg i).length<=1000000000000):
 Calls prog 111 #[pA nb 0] w (yC B es m F R nb kb rb cb n i (s.zfU i s.zgT) w):=by
 have hmf:∀(fn:Fn) (first cap:Array Value) (w:World),(Instr.makeFunc fn first cap).run prog w=.ok (.func fn first cap) w:=λ_ _ _ _=>rfl;obtain⟨w1,aa⟩:=gen (w.alloc (.cells #[pA nb 0] 26));have ae:BW w w1:=by rw[aa];exact bwA w
 have c1:w1.cell? (nA w 0)=some (pA nb 0):=by rw[aa];exact zjD _ w.heap.size 0 _ _ _ (zjC w _)
 have c1':(w.alloc (.cells #[pA nb 0] 26)).cell? (nA w 0)=some (pA nb 0):=by rw[<-aa];exact c1
 have ad:=h.below ae;obtain⟨V,hA,hf⟩:=ad.node;have HC:=zc (KH 158 #[pA w.heap.size 0] s.zgT ad ok hN hsg (enters_of func158 (by decide) rfl) (λW hW=>zbu nb kb cb w.heap.size B es m V s _ W (hA.below hW) (zjF ad.bl hW.size) (ad.below hW).glob (Ext.cell c1 (Ext.of hW)) ok.dom (λe he=>⟨(ok.ids e he).f0,(ok.ids e he).f8⟩) (λe he=>(ok.ids e (List.mem_filter.1 he).1).z)));obtain⟨ag,af⟩:=zn ae aa;clear h ok hsg ad hA hf c1 ae aa;go_enter func111,ntmps111;go_wp2_with fail
 rw[<-af.o];refine HC.o.mono ?_;intro e w2 h2;obtain⟨rfl,h3⟩:=yC.from ag h2;have H2:=zc h3;clear h2 h3 HC;go_wp2;go_ret;exact⟨rfl,H2⟩
def za.zfV(s:za)(r:Nat):Bool:=decide (s.round<r)&&yg 1 s.x (sendB (λe=>decide (e.m.r=(r:Int))) s.log)
def za.zf1(s:za)(i:Nat):Bool×za:=match(List.range 21).find? s.zfV with|none=>(false,s)|some r=>(true,s.zfH i r)
theorem vC(h:∀r,s.round<r->r<=20->s.zfV r=false):s.zf1 i=(false,s):=by
 unfold za.zf1;have e:(List.range 21).find? s.zfV=none:=by
  rw[List.find?_eq_none];intro r hr;rw[List.mem_range] at hr;by_cases hl:s.round<r
  .rw [h r hl (by omega)];exact zjX
  unfold za.zfV;rw[zjR hl,Bool.false_and];exact zjX
 rw[e]
theorem JV{r:Nat}(h:∀q,s.round<q->q<r->s.zfV q=false)(hr:r<=20)(hy:s.zfV r=true):s.zf1 i=(true,s.zfH i r):=by
 unfold za.zf1;have e:(List.range 21).find? s.zfV=some r:=by
  rw[List.find?_range_eq_some];refine⟨hy,by rw[List.mem_range];omega,λq hq=>?_⟩;by_cases hl:s.round<q
  .rw [h q hl hq];rfl
  unfold za.zfV;rw[zjR hl,Bool.false_and];rfl
 rw[e]
theorem Zv(h:NodeW B es m F R nb kb rb cb n i s w)(ok:YI N s)(hN:N<=10000000)(hsg:(s.sg i).length<=1000000000000):
 Calls prog 109 #[pA nb 0] w (yC B es m F R nb kb rb cb n i (s.zf1 i) w):=by
 have hmf:∀(fn:Fn) (first cap:Array Value) (w:World),(Instr.makeFunc fn first cap).run prog w=.ok (.func fn first cap) w:=λ_ _ _ _=>rfl;obtain⟨V,hA,hf⟩:=h.node;have c43:cE w nb 43 (iA s.round):=hA.cell 43 rfl;have hrd:(s.round:Int)<=20:=by have:=ok.rnd;omega
 obtain⟨HH,HA,ae,aC⟩:=qO h hA ok hsg;clear h hA hf ok hsg;go_enter func109,ntmps109;go_wp2;go_loopw [3] (λq wr=>∃(j b:Nat),s.round<j/\j<=21/\q=pA b 0/\w.heap.size<=b/\cL wr b #[iA j] 3/\(∀r,s.round<r->r<j->s.zfV r=false)/\BW w wr) (λq wr=>21-(intOf ((wr.cell? ((match q with| .pointer (some a)=>a|_=>(aA 0 0)))).getD undef)).toNat)
 case atStart=>
  have hj:((s.round:Int)+1)=((s.round+1:Nat):Int):=by omega
  refine⟨s.round+1,w.heap.size,by omega,by omega,rfl,zjA _,?_,λr h1 h2=>by omega,bwA w⟩;rw[<-hj];exact zjC w _
 obtain⟨j,rb0,ax,hj2,rfl,hrb,ai,aa,hb⟩:=hrel;obtain⟨HB,al,aE⟩:=zS hb aa ai;have ak:cE wr rb0 0 (iA j):=zjD wr rb0 0 _ _ _ ai;have ar:wr.frozen? (aA rb0 0)=false:=zt ai 0;have aj:=zc ak;clear hb aa ai;by_cases ah:j=21
 .have hge:¬(j:Int)<=20:=by omega
  have an:Hid (s.zf1 i=(false,s)):=vC (λr h1 h2=>al.o r h1 (by omega));clear ah;go_wp2;go_ret;rw[an.o];exact yC.same HH HB
 have hle:(j:Int)<=20:=by omega
 obtain⟨p,c,-,c37,hm,hE⟩:=(HA.o.below HB).logAt;obtain⟨HE,HM⟩:=zn hE hm;have HR:=zc (HA.o.below HB).reg;have c37u:∀u:Ext wr,cE u.W nb 37 (.slice p s.log.length c):=λu=>Ext.cell c37 u;clear hE hm c37 ah;haveI:=Ext.ne wr;cases ag:yg 1 s.x (sendB (λe=>decide (e.m.r=(j:Int))) s.log) with
 |true=>
  have an:Hid (s.zf1 i=(true,s.zfH i j)):=JV al.o (by omega) (by unfold za.zfV;rw[zjQ ax,ag];rfl);go_wp2_with fail
  refine zP (by kernel_rfl) (by kernel_rfl) ?_;repeat(first|go_big_quiet_skip|(go_big_quiet_want;first|(refine zW (some 17) rfl 116 _ rfl nb 1 rfl (yU s.x) _ (Ext.range HR) underlying116 rfl (by rw[Tryz.zfG];simp[yU]) ?_;simp only[AP];go_big_quiet_on)|(go_big_quiet_op;first|go_big_quiet_on|(apply Exists.intro;refine⟨λu=>?_,?_⟩;(· (first|exact Calls.ext u (xn 155 #[pA rb0 0] (λe=>decide (e.m.r=(j:Int))) s.log p c u.W (enters_of func155 (by decide) rfl) (HE.o.ext u) HM.o (Zg rb0 (j:Int) s.log u.W (Ext.cell aj.o u)) (λe he=>⟨(ae.o.ids e he).f0,(ae.o.ids e he).f8⟩))|(have hc:=Calls.ext u (jg 1 s.x (sendB (λe=>decide (e.m.r=(j:Int))) s.log) u.W ae.o.dom (by omega) (by omega));rw[ag] at hc;exact hc)));go_big_quiet_on))))
  refine wpQuiet_nil ?_;rintro _ ⟨u,rfl⟩;obtain⟨X,hX⟩:=gen u.W;have ad:BW wr X:=by rw[hX];exact u.b
  have aB:cE X rb0 0 (iA j):=Ext.cell aj (Ext.of ad);rw[<-hX];clear hX u this c37u ak ar;have af:Hid (BW w X):=HB.o.trans (ad.mono HB.o.size);have aw:=zc (jw j (HH.o.below af.o) ae.o hN (by omega) aC.o);clear ad;go_wp2_with fail
  refine aw.o.mono ?_;rintro e w4 ⟨rfl,F4,R4,au,av⟩;have ao:Hid (yC B es m F R nb kb rb cb n i (s.zf1 i) w (.returned (bA true)) w4):=by rw[an.o];exact⟨rfl,F4,R4,au,(Goes.below af).trans av⟩
  clear au av aw;go_wp2;go_ret;exact ao
 |false=>
  have aD:Hid (∀r,s.round<r->r<j+1->s.zfV r=false):=λr h1 h2=>by
   rcases Nat.lt_or_ge r j with h3|h3
   .exact al r h1 h3
   have e:r=j:=by omega
   rw[e];unfold za.zfV;rw[ag,Bool.and_false]
  go_wp2_with fail
  refine zP (by kernel_rfl) (by kernel_rfl) ?_;repeat(first|go_big_quiet_skip|(go_big_quiet_want;first|(refine zW (some 17) rfl 116 _ rfl nb 1 rfl (yU s.x) _ (Ext.range HR) underlying116 rfl (by rw[Tryz.zfG];simp[yU]) ?_;simp only[AP];go_big_quiet_on)|(go_big_quiet_op;first|go_big_quiet_on|(apply Exists.intro;refine⟨λu=>?_,?_⟩;(· (first|exact Calls.ext u (xn 155 #[pA rb0 0] (λe=>decide (e.m.r=(j:Int))) s.log p c u.W (enters_of func155 (by decide) rfl) (HE.o.ext u) HM.o (Zg rb0 (j:Int) s.log u.W (Ext.cell aj.o u)) (λe he=>⟨(ae.o.ids e he).f0,(ae.o.ids e he).f8⟩))|(have hc:=Calls.ext u (jg 1 s.x (sendB (λe=>decide (e.m.r=(j:Int))) s.log) u.W ae.o.dom (by omega) (by omega));rw[ag] at hc;exact hc)));go_big_quiet_on))))
  refine wpQuiet_nil ?_;rintro _ ⟨u,rfl⟩;obtain⟨X,hX⟩:=gen u.W;have ad:BW wr X:=by rw[hX];exact u.b
  have aq:cL X rb0 #[iA j] 3:=blk aE ad;have aB:cE X rb0 0 (iA j):=zjD X rb0 0 _ _ _ aq;rw[<-hX];clear hX u this c37u ak ar ag;have af:Hid (BW w X):=HB.o.trans (ad.mono HB.o.size);have az:cN (X.alloc (.cells #[iA j] 3)) X 0 (iA j):=zjD _ X.heap.size 0 _ _ _ (zjC X _);have ay:(X.alloc (.cells #[iA j] 3)).frozen? (nA X 0)=false:=zt (zjC X _) 0;clear ad aq;go_wp2;go_roundw
  case rel=>
   have hj:((j:Int)+1)=((j+1:Nat):Int):=by omega
   refine⟨j+1,X.heap.size,by omega,by omega,rfl,af.o.size,?_,aD.o,af.o.alloc af.o.size _⟩;rw[<-hj];exact zjC X _
  case measure=>
   have m1:cN (X.alloc (.cells #[iA ((j:Int)+1)] 3)) X 0 (iA ((j:Int)+1)):=zjD _ X.heap.size 0 _ _ _ (zjC X _);have m2:=aj.o;simp[intOf,m1,m2];omega
end
section
variable{B nb kb rb cb n i N:Nat}{es:List Addr}{m:Int}{F R:Nat->Prop}{s:za}{w:World}
def za.zf4(s:za)(i:Nat):Bool×za:=if s.step=2/\s.most (votesNoB 2 (s.round:Int))=true then(true,s.nothing i 3 3) else(false,s)
def za.zf7(s:za):Bool×za:=if s.step=2/\s.b2=false/\s.most (votesB 2 (s.round:Int))=true then(true,s.timer 2 2) else(false,s)
def za.zf9(s:za):Bool×za:=if s.b3=false/\s.most (votesB 3 (s.round:Int))=true then(true,s.timer 3 2) else(false,s)
theorem zah(h:NodeW B es m F R nb kb rb cb n i s w)(ok:YI N s)(hN:N<=10000000)(hsg:(s.sg i).length<=1000000000000):
 Calls prog 113 #[pA nb 0] w (yC B es m F R nb kb rb cb n i (s.zf4 i) w):=by
 obtain⟨V,hA,hf⟩:=h.node;have c44:cE w nb 44 (iA s.step):=hA.cell 44 rfl;have c43:cE w nb 43 (iA s.round):=hA.cell 43 rfl;have c48:cE w nb 48 (bA s.b2):=hA.cell 48 rfl;have c49:cE w nb 49 (bA s.b3):=hA.cell 49 rfl;obtain⟨HH,HA,ak,aw⟩:=qO h hA ok hsg;have au:Hid (∀e∈s.log,0<=e.m.f/\e.m.f<8):=λe he=>⟨(ok.ids e he).f0,(ok.ids e he).f8⟩;clear h hA hf ok hsg;by_cases af:s.step=2
 .cases hm:s.most (votesNoB 2 (s.round:Int)) with
  |true=>
   have ai:Hid (s.zf4 i=(true,s.nothing i 3 3)):=by unfold Hid za.zf4;rw[zj2 ⟨af,hm⟩]
   have q2:(s.step:Int)=2:=by omega
   clear af;go_enter func113,ntmps113;go_wp2_with (first|(go_at_call 160;refine(ZN 2 (s.round:Int) _).mono ?_;rintro e w2 ⟨g,lb,rfl,eg,aa,ah⟩;have ao:=zc eg;have al:=zc (aa s.log);have ae:=zc ah;clear eg aa ah)|(go_at_call 150;have ad:=ky nb kb cb g lb (votesNoB 2 (s.round:Int)) V s w2 (HA.o.below ae) ak.o.dom ao al au;rw[hm] at ad;refine ad.mono ?_;rintro e w3 ⟨rfl,ag⟩;have aj:Hid (BW w w3):=ae.o.trans (ag.mono ae.o.size);clear ag ad)|fail)
   have av:=zc (qw (HH.o.below aj) ak hN aw);refine av.o.mono ?_;rintro e w4 ⟨rfl,F4,R4,aq,ar⟩;have an:Hid (yC B es m F R nb kb rb cb n i (true,s.nothing i 3 3) w (.returned (bA true)) w4):=⟨rfl,F4,R4,aq,(Goes.below aj).trans ar⟩;clear aq ar av;go_wp2;go_ret;rw[ai.o];exact an
  |false=>
   have ai:Hid (s.zf4 i=(false,s)):=by unfold Hid za.zf4;rw[zj3 (λh=>by rw[hm] at h;cases h.2)]
   have q2:(s.step:Int)=2:=by omega
   clear af;go_enter func113,ntmps113;go_wp2_with (first|(go_at_call 160;refine(ZN 2 (s.round:Int) _).mono ?_;rintro e w2 ⟨g,lb,rfl,eg,aa,ah⟩;have ao:=zc eg;have al:=zc (aa s.log);have ae:=zc ah;clear eg aa ah)|(go_at_call 150;have ad:=ky nb kb cb g lb (votesNoB 2 (s.round:Int)) V s w2 (HA.o.below ae) ak.o.dom ao al au;rw[hm] at ad;refine ad.mono ?_;rintro e w3 ⟨rfl,ag⟩;have aj:Hid (BW w w3):=ae.o.trans (ag.mono ae.o.size);clear ag ad))
   go_ret;rw[ai.o];exact yC.same HH aj
 have ai:Hid (s.zf4 i=(false,s)):=by unfold Hid za.zf4;rw[zj3 (λh=>af h.1)]
 have q2:((s.step:Int)==2)=false:=by rw[zjY];omega
 have q2':¬(s.step:Int)=2:=by omega
 clear af;go_enter func113,ntmps113;go_wp2;go_ret;rw[ai.o];exact yC.same HH (zjB _ w)
theorem xj(h:NodeW B es m F R nb kb rb cb n i s w)(ok:YI N s)(hN:N<=10000000)(hsg:(s.sg i).length<=1000000000000):
 Calls prog 114 #[pA nb 0] w (yC B es m F R nb kb rb cb n i (s.zf7) w):=by
 obtain⟨V,hA,hf⟩:=h.node;have c44:cE w nb 44 (iA s.step):=hA.cell 44 rfl;have c43:cE w nb 43 (iA s.round):=hA.cell 43 rfl;have c48:cE w nb 48 (bA s.b2):=hA.cell 48 rfl;have c49:cE w nb 49 (bA s.b3):=hA.cell 49 rfl;obtain⟨HH,HA,ah,HSG⟩:=qO h hA ok hsg;have au:Hid (∀e∈s.log,0<=e.m.f/\e.m.f<8):=λe he=>⟨(ok.ids e he).f0,(ok.ids e he).f8⟩;clear h hA hf ok hsg;by_cases ag:s.step=2
 .cases hb:s.b2 with
  |true=>
   have ae:Hid (s.zf7=(false,s)):=by unfold Hid za.zf7;rw[zj3 (λh=>by rw[hb] at h;cases h.2.1)]
   rw[hb] at c48;have q2:(s.step:Int)=2:=by omega
   clear ag hb;go_enter func114,ntmps114;go_wp2;go_ret;rw[ae.o];exact yC.same HH (zjB _ w)
  |false=>
   rw[hb] at c48;cases hm:s.most (votesB 2 (s.round:Int)) with
   |true=>
    have ae:Hid (s.zf7=(true,s.timer 2 2)):=by unfold Hid za.zf7;rw[zj2 ⟨ag,hb,hm⟩]
    have q2:(s.step:Int)=2:=by omega
    clear ag hb;go_enter func114,ntmps114;go_wp2_with (first|(go_at_call 161;refine(xF 2 (s.round:Int) _).mono ?_;rintro e w2 ⟨g,lb,rfl,eg,aa,aj⟩;have ao:=zc eg;have al:=zc (aa s.log);have af:=zc aj;clear eg aa aj)|(go_at_call 150;have ad:=ky nb kb cb g lb (votesB 2 (s.round:Int)) V s w2 (HA.o.below af) ah.o.dom ao al au;rw[hm] at ad;refine ad.mono ?_;rintro e w3 ⟨rfl,ai⟩;have ak:Hid (BW w w3):=af.o.trans (ai.mono af.o.size);clear ai ad)|fail)
    have av:=zc (ju 2 2 (zj1 (zj0 rfl)) (HH.o.below ak.o) (by have:=ah.o.tims;omega) (by have:=ah.o.tb;omega) ah.o.time (by omega) (by have:=ah.o.rnd;omega));refine av.o.mono ?_;rintro e w4 ⟨rfl,F4,aq,ar⟩;have an:Hid (yC B es m F R nb kb rb cb n i (true,s.timer 2 2) w (.returned (bA true)) w4):=⟨rfl,F4,R,aq,(Goes.below ak).trans ar⟩;clear aq ar av;go_wp2;go_ret;rw[ae.o];exact an
   |false=>
    have ae:Hid (s.zf7=(false,s)):=by unfold Hid za.zf7;rw[zj3 (λh=>by rw[hm] at h;cases h.2.2)]
    have q2:(s.step:Int)=2:=by omega
    clear ag hb;go_enter func114,ntmps114;go_wp2_with (first|(go_at_call 161;refine(xF 2 (s.round:Int) _).mono ?_;rintro e w2 ⟨g,lb,rfl,eg,aa,aj⟩;have ao:=zc eg;have al:=zc (aa s.log);have af:=zc aj;clear eg aa aj)|(go_at_call 150;have ad:=ky nb kb cb g lb (votesB 2 (s.round:Int)) V s w2 (HA.o.below af) ah.o.dom ao al au;rw[hm] at ad;refine ad.mono ?_;rintro e w3 ⟨rfl,ai⟩;have ak:Hid (BW w w3):=af.o.trans (ai.mono af.o.size);clear ai ad))
    go_ret;rw[ae.o];exact yC.same HH ak
 have ae:Hid (s.zf7=(false,s)):=by unfold Hid za.zf7;rw[zj3 (λh=>ag h.1)]
 have q2:((s.step:Int)==2)=false:=by rw[zjY];omega
 have q2':¬(s.step:Int)=2:=by omega
 clear ag;go_enter func114,ntmps114;go_wp2;go_ret;rw[ae.o];exact yC.same HH (zjB _ w)
theorem vj(h:NodeW B es m F R nb kb rb cb n i s w)(ok:YI N s)(hN:N<=10000000)(hsg:(s.sg i).length<=1000000000000):
 Calls prog 115 #[pA nb 0] w (yC B es m F R nb kb rb cb n i (s.zf9) w):=by
 obtain⟨V,hA,hf⟩:=h.node;have c44:cE w nb 44 (iA s.step):=hA.cell 44 rfl;have c43:cE w nb 43 (iA s.round):=hA.cell 43 rfl;have c48:cE w nb 48 (bA s.b2):=hA.cell 48 rfl;have c49:cE w nb 49 (bA s.b3):=hA.cell 49 rfl;obtain⟨HH,HA,af,HSG⟩:=qO h hA ok hsg;have ar:Hid (∀e∈s.log,0<=e.m.f/\e.m.f<8):=λe he=>⟨(ok.ids e he).f0,(ok.ids e he).f8⟩;clear h hA hf ok hsg;cases hb:s.b3 with
 |true=>
  have ai:Hid (s.zf9=(false,s)):=by unfold Hid za.zf9;rw[zj3 (λh=>by rw[hb] at h;cases h.1)]
  rw[hb] at c49;clear hb;go_enter func115,ntmps115;go_wp2;go_ret;rw[ai.o];exact yC.same HH (zjB _ w)
 |false=>
  rw[hb] at c49;cases hm:s.most (votesB 3 (s.round:Int)) with
  |true=>
   have ai:Hid (s.zf9=(true,s.timer 3 2)):=by unfold Hid za.zf9;rw[zj2 ⟨hb,hm⟩]
   clear hb;go_enter func115,ntmps115;go_wp2_with (first|(go_at_call 161;refine(xF 3 (s.round:Int) _).mono ?_;rintro e w2 ⟨g,lb,rfl,eg,aa,ah⟩;have an:=zc eg;have ak:=zc (aa s.log);have ae:=zc ah;clear eg aa ah)|(go_at_call 150;have ad:=ky nb kb cb g lb (votesB 3 (s.round:Int)) V s w2 (HA.o.below ae) af.o.dom an ak ar;rw[hm] at ad;refine ad.mono ?_;rintro e w3 ⟨rfl,ag⟩;have aj:Hid (BW w w3):=ae.o.trans (ag.mono ae.o.size);clear ag ad)|fail)
   have au:=zc (ju 3 2 (zj1 (zj1 rfl)) (HH.o.below aj.o) (by have:=af.o.tims;omega) (by have:=af.o.tb;omega) af.o.time (by omega) (by have:=af.o.rnd;omega));refine au.o.mono ?_;rintro e w4 ⟨rfl,F4,ao,aq⟩;have al:Hid (yC B es m F R nb kb rb cb n i (true,s.timer 3 2) w (.returned (bA true)) w4):=⟨rfl,F4,R,ao,(Goes.below aj).trans aq⟩;clear ao aq au;go_wp2;go_ret;rw[ai.o];exact al
  |false=>
   have ai:Hid (s.zf9=(false,s)):=by unfold Hid za.zf9;rw[zj3 (λh=>by rw[hm] at h;cases h.2)]
   clear hb;go_enter func115,ntmps115;go_wp2_with (first|(go_at_call 161;refine(xF 3 (s.round:Int) _).mono ?_;rintro e w2 ⟨g,lb,rfl,eg,aa,ah⟩;have an:=zc eg;have ak:=zc (aa s.log);have ae:=zc ah;clear eg aa ah)|(go_at_call 150;have ad:=ky nb kb cb g lb (votesB 3 (s.round:Int)) V s w2 (HA.o.below ae) af.o.dom an ak ar;rw[hm] at ad;refine ad.mono ?_;rintro e w3 ⟨rfl,ag⟩;have aj:Hid (BW w w3):=ae.o.trans (ag.mono ae.o.size);clear ag ad))
   go_ret;rw[ai.o];exact yC.same HH aj
end
section
variable{s:za}{i nb kb cb:Nat}{w:World}
def za.zgF(s:za):Option zl:=propF s.log (s.round:Int) λp=>s.most (votesForB 2 (s.round:Int) p.m.s)&&s.zgc p.m.s
def za.zhM(s:za):za:={ s with held:=true }
def za.zfZ(s:za)(t:zj5):za:={ s with held:=true,vr:=(s.round:Int),vv:=t }
def za.zf3(s:za):za:={ s with lr:=s.vr,lv:=s.vv }
def za.zgm(s:za)(i:Nat):Bool×za:=
 if ¬s.step=1/\s.held=false then(match s.zgF with|none=>(false,s)|some p=>(true,if s.step=2 then((s.zfZ p.m.s).zf3.zfI i 3 0 false p.m.s).zfO 3 else s.zfZ p.m.s)) else(false,s)
theorem xZ(h:¬(¬s.step=1/\s.held=false)):s.zgm i=(false,s):=by unfold za.zgm;rw[zj3 h]
theorem qE(h:s.zgF=none):s.zgm i=(false,s):=by
 unfold za.zgm;rw[h];split<;>rfl
theorem jH{p:zl}(h1:¬s.step=1)(h2:s.held=false)(h:s.zgF=some p):s.zgm i=(true,if s.step=2 then((s.zfZ p.m.s).zf3.zfI i 3 0 false p.m.s).zfO 3 else s.zfZ p.m.s):=by unfold za.zgm;rw[zj2 ⟨h1,h2⟩,h]
theorem Z8{V:yc}{s':za}(h:w.heap[nb]? =some (.cells (nodeA kb cb V s') 135 (0,0))):w.rangeAt nb 41 [iA s'.vr,sA s'.vv]:=λj v hv=>by
 match j,hv with
 |0,hv=>simp at hv;subst hv;exact zjD w nb 41 _ _ _ h
 |1,hv=>simp at hv;subst hv;exact zjD w nb 42 _ _ _ h
 |j+2,hv=>simp at hv
theorem zdk{B:Nat}{es:List Addr}{m:Int}{F R:Nat->Prop}{rb n N:Nat}(h:NodeW B es m F R nb kb rb cb n i s w)(ok:YI N s)(hN:N<=10000000)(hsg:(s.sg i).length<=1000000000000):
 Calls prog 112 #[pA nb 0] w (yC B es m F R nb kb rb cb n i (s.zgm i) w):=by
 have hmf:∀(fn:Fn) (first cap:Array Value) (w:World),(Instr.makeFunc fn first cap).run prog w=.ok (.func fn first cap) w:=λ_ _ _ _=>rfl;obtain⟨V,aP,hf⟩:=h.node;obtain⟨a1,a8⟩:=h.glob.sent.at 1 (by omega);obtain⟨w1,aq⟩:=gen (w.alloc (.cells #[pA nb 0] 26));have aN:BW w w1:=by rw[aq];exact bwA w
 have a6:w1.heap[w.heap.size]? =some (.cells #[pA nb 0] 26 (0,0)):=by rw[aq];exact zjC w _
 have c1:cN w1 w 0 (pA nb 0):=zjD w1 w.heap.size 0 _ _ _ a6;have au:nb≠w.heap.size:=by have:=zg aP.blk;omega
 have aD:=aP.below aN;obtain⟨p,c,-,c37,hm,hE⟩:=aD.logAt;have c44:cE w1 nb 44 (iA s.step):=aD.cell 44 rfl;have c45:cE w1 nb 45 (bA s.held):=aD.cell 45 rfl;have C43:Hid (cE w1 nb 43 (iA s.round)):=aD.cell 43 rfl;obtain⟨C37,C1,C44,C45⟩:=qO c37 c1 c44 c45;have c1':(w.alloc (.cells #[pA nb 0] 26)).cell? (nA w 0)=some (pA nb 0):=by rw[<-aq];exact c1
 have c44':(w.alloc (.cells #[pA nb 0] 26)).cell? (aA nb 44)=some (iA s.step):=by rw[<-aq];exact c44
 have c45':(w.alloc (.cells #[pA nb 0] 26)).cell? (aA nb 45)=some (bA s.held):=by rw[<-aq];exact c45
 obtain⟨HH,HA,HF,aY,br,bu,ax,aX⟩:=jR h aP hf ok hsg a8 aN aq;have aT:=h.below aN;have ag:Hid (∀W,BW w1 W->Calls prog 148 #[.slice p s.log.length c,iA s.round,.func (.func 159) #[] #[pA w.heap.size 0]] W λe w'=>e=.returned (ve s.zgF)/\BW W w'):=λW hW=>vw 159 _ _ s.log (s.round:Int) p c W (enters_of func159 (by decide) rfl) (hE.ext (Ext.of hW)) hm (zae nb kb cb w.heap.size B es m V s _ W (aD.below hW) (zjF aT.bl hW.size) (aT.below hW).glob (Ext.cell c1 (Ext.of hW)) ok.dom (λe he=>⟨(ok.ids e he).f0,(ok.ids e he).f8⟩) (λe he=>(ok.ids e (List.mem_filter.1 he).1).z));have af:=ag;clear h aP aD hf ok hsg a8 hE hm c37 c1 c44 c45 aN a6 aq aT;obtain⟨x,aQ⟩:=gen s.zgF;rw[<-aQ] at ag af;have aW:=zc aQ;clear aQ;by_cases aE:s.step=1
 .have ai:=zc (xZ (s:=s) (i:=i) (λh=>h.1 aE));have q1:(s.step:Int)=1:=by omega
  clear aE;go_enter func112,ntmps112;go_wp2;go_ret;rw[ai.o];exact yC.same HH (by rw[<-aX.o];exact ax)
 have q1:((s.step:Int)==1)=false:=by rw[zjY];omega
 have q1':¬(s.step:Int)=1:=by omega
 have bq:=zc aE;cases az:s.held with
 |true=>
  have ai:=zc (xZ (s:=s) (i:=i) (λh=>by rw[az] at h;cases h.2));rw[az] at c45';clear aE az;go_enter func112,ntmps112;go_wp2;go_ret;rw[ai.o];exact yC.same HH (by rw[<-aX.o];exact ax)
 |false=>
  have bs:=zc az;rw[az] at c45';clear aE az;go_enter func112,ntmps112
  go_upto_region 3 with fail
  rw[<-aX.o];clear c1' c44' c45'
  go_cut [3,4] (λu3 u4 wc=>∃pb,u3=pA pb 0/\u4=bA x.isSome/\wc.heap[pb]? =some (.cells (x.getD yl).cells 164 (0,0))/\w1.heap.size<=pb/\BW w1 wc)
  case first=>
   refine rgd (S:=λX=>BW w1 X) ((zjB _ w1).drew) λhH=>?_;refine zQ [(0,some 19,pA nb 0),(1,some 20,pA nb 0),(2,some 21,pA nb 37),(3,some 22,.slice p s.log.length c),(4,some 23,pA nb 0),(5,some 24,pA nb 0),(6,some 25,pA nb 43),(7,some 26,pA nb 43),(8,some 27,iA s.round),(9,some 28,.func (.func 159) #[] #[pA w.heap.size 0])] _ _ hH (λx h=>aI (show cN x w 0 (pA nb 0) from Ext.cell C1.o (Ext.of h)) (aI (show cE x nb 37 (.slice p s.log.length c) from Ext.cell C37.o (Ext.of h)) (show cE x nb 43 (iA s.round) from Ext.cell C43.o (Ext.of h)))) ?_;simp only[ze,AP,pA];refine Jp 10 14 (λK hK=>?_) λK hK=>?_
   .go_simp;refine(ag _ (by first|exact hH|exact(zjB _ w1).drew)).mono ?_;rintro en X2 ⟨rfl,aB⟩;have ah:BW w1 X2:=(zjB _ w1).drew.trans (aB.mono (zjA _));clear aB;refine hK.out _ _ ah λhH=>?_;clear hK K
    try simp only[AP,AQ]
    refine takeN [(11,some 18,ve x),(12,some 30,.agg (x.getD yl).cells),(13,some 31,bA x.isSome)] _ _ hH (by repeat(first|exact zj7|((first|(refine tkc rfl rfl (zj0 ⟨by rfl,λx h=>?_⟩) ?_;focus(unfold ve;go_simp;done))|(refine tkc rfl rfl (zj0 ⟨by rfl,λx h=>?_⟩) ?_;focus(go_simp;done)));simp only[AP]))) ?_;simp only[ze,AP];refine zv 14 λK hK=>?_;go_simp;obtain⟨X3,ad⟩:=gen (X2.alloc (.cells #[iA 0,iA 0,iA 0,iA 0,iA 0,bA false,sA ⟨#[]⟩,sA ⟨#[]⟩,bA false] 164));have ba:BW X2 X3:=by rw[ad];exact bwA X2
    have ak:X3.heap[X2.heap.size]? =some (.cells #[iA 0,iA 0,iA 0,iA 0,iA 0,bA false,sA ⟨#[]⟩,sA ⟨#[]⟩,bA false] 164 (0,0)):=by rw[ad];exact zjC X2 _
    rw[<-ad];have ao:BW w1 X3:=ah.trans (ba.mono ah.size);refine hK.out _ _ ao λhH=>?_;clear hK K ad
    try simp only[AP,AQ]
    refine zv 15 λK hK=>?_;rw[zj2 (by rfl)];refine zo 164 _ _ rfl X2.heap.size 0 ((x.getD yl).cells) rfl rfl 164 #[iA 0,iA 0,iA 0,iA 0,iA 0,bA false,sA ⟨#[]⟩,sA ⟨#[]⟩,bA false] ak (by simp[zl.cells]) (by simp[zl.cells,Value.oneCell']) (by rw[Tryz.zfS];simp[zl.cells]) ?_;intro X aF aH;have aa:cL X X2.heap.size ((x.getD yl).cells) 164:=aF;have hX:BW w1 X:=ao.trans (aH.below ah.size);refine hK.out _ _ hX λhH=>?_;clear hK K
    try simp only[AP,AQ]
    refine y7 [(16,some 4,bA x.isSome)] _ _ hH ?_;simp only[ze,AP];refine dnr ?_;obtain⟨pb,aj⟩:=gen X2.heap.size;rw[<-aj] at aa;rw[<-aj];have ay:w1.heap.size<=pb:=by rw[aj];exact ah.size
    clear aj aF aH ba ak ao ah;clear hH;go_wp2_with fail
    go_meet
    case rel=>exact⟨pb,rfl,rfl,aa,ay,hX⟩
   go_simp;obtain⟨X3,ad⟩:∃z,z=(w1.alloc (.cells #[iA 0,iA 0,iA 0,iA 0,iA 0,bA false,sA ⟨#[]⟩,sA ⟨#[]⟩,bA false] 164)).drew:=⟨_,rfl⟩;have ao:BW w1 X3:=by rw[ad];exact(bwA w1).drew
   have ak:X3.heap[w1.heap.size]? =some (.cells #[iA 0,iA 0,iA 0,iA 0,iA 0,bA false,sA ⟨#[]⟩,sA ⟨#[]⟩,bA false] 164 (0,0)):=by rw[ad];exact zjC w1 _
   rw[<-ad];refine hK.out _ _ ao λhH=>?_;clear hK K ad
   try simp only[AP,AQ]
   refine zv 10 λK hK=>?_;go_simp;refine(af _ (by first|exact hH|exact(zjB _ w1).drew)).mono ?_;rintro en X2 ⟨rfl,aB⟩;have ah:BW w1 X2:=ao.trans (aB.mono ao.size);have aG:=blk ak aB;refine hK.out _ _ ah λhH=>?_;clear hK K
   try simp only[AP,AQ]
   refine takeN [(11,some 18,ve x),(12,some 30,.agg (x.getD yl).cells),(13,some 31,bA x.isSome)] _ _ hH (by repeat(first|exact zj7|((first|(refine tkc rfl rfl (zj0 ⟨by rfl,λx h=>?_⟩) ?_;focus(unfold ve;go_simp;done))|(refine tkc rfl rfl (zj0 ⟨by rfl,λx h=>?_⟩) ?_;focus(go_simp;done)));simp only[AP]))) ?_;simp only[ze,AP];refine zv 15 λK hK=>?_;rw[zj2 (by rfl)];refine zo 164 _ _ rfl w1.heap.size 0 ((x.getD yl).cells) rfl rfl 164 #[iA 0,iA 0,iA 0,iA 0,iA 0,bA false,sA ⟨#[]⟩,sA ⟨#[]⟩,bA false] aG (by simp[zl.cells]) (by simp[zl.cells,Value.oneCell']) (by rw[Tryz.zfS];simp[zl.cells]) ?_;intro X aF aH;have aa:cL X w1.heap.size ((x.getD yl).cells) 164:=aF;have hX:BW w1 X:=ah.trans (aH.below (zjA _));refine hK.out _ _ hX λhH=>?_;clear hK K
   try simp only[AP,AQ]
   refine y7 [(16,some 4,bA x.isSome)] _ _ hH ?_;simp only[ze,AP];refine dnr ?_;obtain⟨pb,aj⟩:=gen w1.heap.size;rw[<-aj] at aa;rw[<-aj];have ay:w1.heap.size<=pb:=by rw[aj];exact zjA _
   clear aj aF aH aB aG ak ao ah;clear hH;go_wp2_with fail
   go_meet
   case rel=>exact⟨pb,rfl,rfl,aa,ay,hX⟩
  obtain⟨X,bo⟩:=gen wc;subst bo;obtain⟨pb,rfl,rfl,aa,ay,hX⟩:=hcut;cases x with
  |none=>
   have ai:=zc (qE (i:=i) aW.o.symm);have hsm:Option.isSome (none:Option zl)=false:=rfl;have av:Hid (BW w X):=ax.o.trans (hX.mono ax.o.size);clear hX aa ay;go_wp2;go_ret;rw[ai.o];exact yC.same HH av
  |some p=>
   have ai:=zc (jH (i:=i) bq bs aW.o.symm);have hz:=(aY.o.ids p (List.mem_of_find?_eq_some aW.o.symm)).z;obtain⟨⟨pk,ph,pr,pf,pvv,pnl,pt⟩,pfr,po⟩:=p;have hz:pt.size<=24:=hz;have av:Hid (BW w X):=ax.o.trans (hX.mono ax.o.size);have k6:cE X pb 6 (sA pt):=zjD X pb 6 _ _ _ aa;have k0:cN X w 0 (pA nb 0):=Ext.cell C1.o (Ext.of hX);have aR:nb≠pb:=by have:=zg HA.o.blk;have:=ax.o.size;omega
   have aC:=HA.o.below av;have aZ:=zc aC;have k45:cE X nb 45 (bA s.held):=aC.cell 45 rfl;have z45:X.frozen? (aA nb 45)=false:=aC.frozen 45;obtain⟨X1,aO⟩:=gen (X.setCell (aA nb 45) (bA true));have aK:kq nb X X1:=by rw[aO];exact zf _ _ _ _
   have a7:X1.heap[nb]? =some (.cells (nodeA kb cb V s.zhM) 135 (0,0)):=by rw[aO];exact setCell_row aC.blk 45 _
   have bn:Hid (NodeAt nb kb cb V s.zhM X1):=aC.store a7 aK rfl rfl rfl rfl rfl rfl;have l0:cN X1 w 0 (pA nb 0):=(aK.cell (p:=(nA w 0)) (λe=>au e.symm)).trans k0;have l6:cE X1 pb 6 (sA pt):=(aK.cell (p:=(aA pb 6)) (λe=>aR e.symm)).trans k6;have l43:cE X1 nb 43 (iA s.round):=bn.o.cell 43 rfl;obtain⟨bp,aL,K0⟩:=zS aO aK k0;clear aC hX aa ay aO aK a7 k6;go_wp2_with fail
   rw[<-bp.o];refine rgd (S:=λW=>cN W w 0 (pA nb 0)/\cE W nb 43 (iA s.round)/\cE W pb 6 (sA pt)) ⟨l0,l43,l6⟩ λhH=>?_;refine zQ [(0,some 38,pA nb 0),(1,some 39,pA nb 0),(2,some 40,pA nb 0),(3,some 41,pA nb 43),(4,some 42,pA nb 43),(5,some 43,iA s.round),(6,some 44,pA pb 0),(7,some 45,pA pb 6),(8,some 46,sA pt),(9,some 47,.agg #[iA s.round,sA pt]),(10,some 48,pA nb 0),(11,some 49,pA nb 41)] _ _ hH (λx h=>aI h.1 (aI h.2.1 (h.2.2))) ?_;simp only[ze,AP,pA];refine zv 12 λK hK=>?_;rw[zj2 (by rfl)];refine zo 127 _ _ rfl nb 41 #[iA s.round,sA pt] rfl rfl 135 (nodeA kb cb V (s.zhM)) bn.o.blk (by rw[kM];simp) (by simp[Value.oneCell']) Tryz.zgs ?_;intro X2 aG an;have aM:cL X2 nb (nodeA kb cb V (s.zfZ pt)) 135:=aG;have j1:cN X2 w 0 (pA nb 0):=(an.cell (p:=(nA w 0)) (λe=>au e.symm)).trans hH.1;have j2:cE X2 nb 43 (iA s.round):=zjD X2 nb 43 _ _ _ aM;have j3:cE X2 pb 6 (sA pt):=(an.cell (p:=(aA pb 6)) (λe=>aR e.symm)).trans hH.2.2;refine hK.out _ _ ⟨j1,j2,j3⟩ λhH=>?_;clear hK K aG hH;refine dnr ?_;have ar:kq nb X X2:=⟨an.os.trans aL.o.os,an.tape.trans aL.o.tape,an.output.trans aL.o.output,an.size.trans aL.o.size,λk hk=>(an.block k hk).trans (aL.o.block k hk)⟩;have bm:Hid (NodeAt nb kb cb V (s.zfZ pt) X2):=aZ.o.store aM ar rfl rfl rfl rfl rfl rfl;obtain⟨ae,bk⟩:=zn ar aM;have j44:cE X2 nb 44 (iA s.step):=bm.o.cell 44 rfl;clear an ar aM l0 l6 l43 k45 z45 k0;by_cases h2:s.step=2
   .rw [zj2 h2] at ai;have q2:(s.step:Int)=2:=by omega
    clear h2;have r41:X2.rangeAt nb 41 [iA s.round,sA pt]:=Z8 bk;go_wp2_with fail
    refine rgd (S:=λW=>cN W w 0 (pA nb 0)/\cE W pb 6 (sA pt)/\W.rangeAt nb 41 [iA s.round,sA pt]) ⟨j1,j3,r41⟩ λhH=>?_;refine takeN [(0,some 56,pA nb 0),(1,some 57,pA nb 0),(2,some 58,pA nb 0),(3,some 59,pA nb 41),(4,some 60,.agg ([iA s.round,sA pt]).toArray),(5,some 61,pA nb 0),(6,some 62,pA nb 39)] _ _ hH (by repeat(first|exact zj7|((first|refine tkc rfl rfl (zka (by rfl) 127 _ rfl nb 41 rfl ([iA s.round,sA pt]) _ (λw h=>id h.2.2) underlying127 rfl (by rw[Tryz.zgs];rfl)) ?_|(refine tkc rfl rfl (zj0 ⟨by rfl,λx h=>?_⟩) ?_;focus(have f0:cN x w 0 (pA nb 0):=h.1;go_simp;done)));simp only[AP]))) ?_;simp only[ze,AP,pA];refine zv 7 λK hK=>?_;rw[zj2 (by rfl)];refine zo 127 _ _ rfl nb 39 #[iA s.round,sA pt] rfl rfl 135 (nodeA kb cb V (s.zfZ pt)) bm.o.blk (by rw[kM];simp) (by simp[Value.oneCell']) Tryz.zgs ?_;intro X3 ak al;have aS:cL X3 nb (nodeA kb cb V (s.zfZ pt).zf3) 135:=ak;have i1:cN X3 w 0 (pA nb 0):=(al.cell (p:=(nA w 0)) (λe=>au e.symm)).trans hH.1;have i2:cE X3 pb 6 (sA pt):=(al.cell (p:=(aA pb 6)) (λe=>aR e.symm)).trans hH.2.1;have i3:X3.rangeAt nb 41 [iA s.round,sA pt]:=Z8 aS;refine hK.out _ _ ⟨i1,i2,i3⟩ λhH=>?_;clear hK K ak hH;refine dnr ?_;have aJ:kq nb X X3:=⟨al.os.trans ae.o.os,al.tape.trans ae.o.tape,al.output.trans ae.o.output,al.size.trans ae.o.size,λk hk=>(al.block k hk).trans (ae.o.block k hk)⟩;obtain⟨bc,bg⟩:=(HH.o.below av).cellAt (s':=(s.zfZ pt).zf3) aZ HF aS aJ rfl rfl rfl rfl rfl rfl rfl;have bt:=zc bg;have i1':=i1;have bj:=zc (vQ 3 0 0 0 0 false pt a1 bc bu.o (by have:=aY.o.log;show s.log.length<=_;omega) (by have:=aY.o.ahead;show s.ahead.length<=_;omega) (by have:=br.o;show(s.sg i).length<=_;omega) (by unfold maxLen;omega));clear bc bg aJ aS al i3 r41 j1 j2 j3 j44;go_wp2_with fail
    refine bj.o.mono ?_;rintro e w4 ⟨rfl,F4,R4,aU,aV⟩;obtain⟨c44,f44⟩:=aU.zhj;obtain⟨bb,bf⟩:=aU.zgW 3;have hb4:w4.cell? (nA w 0)=some (pA nb 0):=(zjH (w:=X3) (a:=(nA w 0)) (aV.same.block w.heap.size (QL i1) (λx=>x.elim (λx=>by have:=(HH.o.fl _ x).2;omega) (λx=>by have:=(HH.o.rl _ x).2;omega)))).trans i1;have aw:Hid (yC B es m F R nb kb rb cb n i (true,((s.zfZ pt).zf3.zfI i 3 0 false pt).zfO 3) w (.returned (bA true)) (w4.setCell (aA nb 44) (iA 3))):=⟨rfl,F4,R4,bb,((Goes.below av).trans bt).trans (aV.trans bf)⟩;clear aU aV bb bf bj i1 i1' i2;go_wp2;go_ret;rw[ai.o];exact aw
   rw[zj3 h2] at ai;have q2:((s.step:Int)==2)=false:=by rw[zjY];omega
   have q2':¬(s.step:Int)=2:=by omega
   clear h2;obtain⟨bd,bh⟩:=(HH.o.below av).cellAt (s':=s.zfZ pt) aZ HF bk ae rfl rfl rfl rfl rfl rfl rfl;have aw:Hid (yC B es m F R nb kb rb cb n i (true,s.zfZ pt) w (.returned (bA true)) X2):=⟨rfl,F,R,bd,(Goes.below av).trans bh⟩;clear bd bh;go_wp2;go_ret;rw[ai.o];exact aw
end
section
variable{s t:za}{i gk:Nat}{dec:za->Bool×za}
def za.zfT(dec:za->Bool×za)(i:Nat)(s:za):Bool×za:=
 if(dec s).1=true then dec s else if(s.zf1 i).1=true then s.zf1 i else if(s.zfU i newB).1=true then s.zfU i newB else if(s.zfU i s.zgT).1=true then s.zfU i s.zgT else
 if(s.zgm i).1=true then s.zgm i else if(s.zf4 i).1=true then s.zf4 i else if s.zf7.1=true then s.zf7 else s.zf9
theorem QG(h:¬(s.zf1 i).1=true):s.zf1 i=(false,s):=by
 unfold za.zf1 at h ⊢;split
 .rfl
 rename_i r hr;rw[hr] at h;exact absurd rfl h
theorem gj{fits:zl->Bool}(h:¬(s.zfU i fits).1=true):s.zfU i fits=(false,s):=by
 by_cases h1:s.step=1
 .cases hp:propF s.log (s.round:Int) fits with
  |none=>exact qg h1 hp
  |some p=>
   unfold za.zfU at h;rw[zj2 h1,hp] at h;exact absurd rfl h
 exact yR h1
theorem VP(h:¬(s.zgm i).1=true):s.zgm i=(false,s):=by
 by_cases h1:¬s.step=1/\s.held=false
 .cases hp:s.zgF with
  |none=>exact qE hp
  |some p=>
   rw[jH h1.1 h1.2 hp] at h;exact absurd rfl h
 exact xZ h1
theorem QD(h:¬(s.zf4 i).1=true):s.zf4 i=(false,s):=by
 unfold za.zf4 at h ⊢;split
 .rename_i h1;rw[zj2 h1] at h;exact absurd rfl h
 rfl
theorem Q2(h:¬s.zf7.1=true):s.zf7=(false,s):=by
 unfold za.zf7 at h ⊢;split
 .rename_i h1;rw[zj2 h1] at h;exact absurd rfl h
 rfl
theorem Q1(h:¬s.zf9.1=true):s.zf9=(false,s):=by
 unfold za.zf9 at h ⊢;split
 .rename_i h1;rw[zj2 h1] at h;exact absurd rfl h
 rfl
theorem kZ{r:Bool×za}(h:r.1=true):r=(true,r.2):=by rw[<-h]
def RunTo(dec:za->Bool×za)(i:Nat)(G:za->Prop)(t:za):Nat->za->Prop
 |0,s=>G s/\(s.zfT dec i).1=false/\s=t
 |k+1,s=>G s/\(s.zfT dec i).1=true/\RunTo dec i G t k (s.zfT dec i).2
theorem je{G:za->Prop}{s1:za}(hr:RunTo dec i G t gk s)(h:s.zfT dec i=(true,s1)):∃q,gk=q+1/\RunTo dec i G t q s1:=by
 cases gk with
 |zero=>have h1:=hr.2.1;rw[h] at h1;cases h1
 |succ q=>have h1:=hr.2.2;rw[h] at h1;exact⟨q,rfl,h1⟩
theorem zcK{G:za->Prop}(hr:RunTo dec i G t gk s)(h:(s.zfT dec i).1=false):s=t:=by
 cases gk with
 |zero=>exact hr.2.2
 |succ q=>have h1:=hr.2.1;rw[h] at h1;cases h1
theorem Gc{B:Nat}{es:List Addr}{m:Int}{F R:Nat->Prop}{nb kb rb cb n N k:Nat}{s0:za}{w:World}(dec:za->Bool×za)(G:za->Prop)(hfalse:∀s,¬(dec s).1=true->dec s=(false,s))(hGok:∀s,G s->YI N s/\(s.sg i).length<=1000000000000)(hN:N<=10000000)
 (hdec:∀(F R:Nat->Prop) (s:za) (W:World),NodeW B es m F R nb kb rb cb n i s W->G s->Calls prog 108 #[pA nb 0] W (yC B es m F R nb kb rb cb n i (dec s) W))
 (h:NodeW B es m F R nb kb rb cb n i s0 w) (hrun:RunTo dec i G t k s0):
 Calls prog 55 #[pA nb 0] w λen w'=>en=.returned (.tuple #[])/\∃F' R',NodeW B es m F' R' nb kb rb cb n i t w'/\Goes F R w F' R' w':=by
 obtain⟨au,aB,ay⟩:=zS hdec hfalse hGok;have ax:Hid (∃(s:za) (F' R':Nat->Prop),NodeW B es m F' R' nb kb rb cb n i s w/\Goes F R w F' R' w/\RunTo dec i G t k s):=⟨s0,F,R,h,Goes.refl F R w,hrun⟩;clear hdec hfalse hGok h hrun;go_enter func55,ntmps55;go_wp2
 go_loopg [] k (λq wr=>∃(s:za) (F' R':Nat->Prop),NodeW B es m F' R' nb kb rb cb n i s wr/\Goes F R w F' R' wr/\RunTo dec i G t q s)
 case atStart=>exact ax
 obtain⟨s,F0,R0,av,aw,aq⟩:=hrel;obtain⟨HW,aa,ak⟩:=zS av aw aq;have ar:G s:=by cases gk with|zero=>exact aq.1|succ q=>exact aq.1
 have az:=zc ar;have an:=zc (ay s ar).1;have al:=zc (ay s ar).2;clear av aw aq ar ax;go_wp2_with fail
 have hc:=au.o _ _ s _ HW az;by_cases h0:(dec s).1=true
 .have he:=kZ h0;obtain⟨q,rfl,ah⟩:=je ak (by unfold za.zfT;rw[zj2 h0,he]);obtain⟨s1,ai⟩:∃z,z=(dec s).2:=⟨_,rfl⟩;rw[<-ai] at he ah;rw[he] at hc;have aj:=zc ah;clear ah he ai h0;refine hc.mono ?_;rintro e wk ⟨rfl,Fk,Rk,ad,ae⟩;obtain⟨ag,af⟩:=zn (aa.o.trans ae) ad;clear ad ae hc HW aa;have HW:=af;have aa:=ag;clear af ag;go_wp2
  go_roundg q
  case measure=>omega
  case rel=>exact⟨s1,Fk,Rk,HW,aa,aj⟩
 have N0:=zc h0;have he:=aB.o s h0;rw[he] at hc;clear he h0;refine hc.mono ?_;rintro e wk ⟨rfl,Fk,Rk,ad,ae⟩;obtain⟨ag,af⟩:=zn (aa.o.trans ae) ad;clear ad ae hc HW aa;have HW:=af;have aa:=ag;clear af ag;go_wp2_with fail
 have hc:=Zv HW an hN al;by_cases h1:(s.zf1 i).1=true
 .have he:=kZ h1;obtain⟨q,rfl,ah⟩:=je ak (by unfold za.zfT;rw[zj3 N0.o,zj2 h1,he]);obtain⟨s1,ai⟩:∃z,z=(s.zf1 i).2:=⟨_,rfl⟩;rw[<-ai] at he ah;rw[he] at hc;have aj:=zc ah;clear ah he ai h1;refine hc.mono ?_;rintro e wk ⟨rfl,Fk,Rk,ad,ae⟩;obtain⟨ag,af⟩:=zn (aa.o.trans ae) ad;clear ad ae hc HW aa;have HW:=af;have aa:=ag;clear af ag;go_wp2
  go_roundg q
  case measure=>omega
  case rel=>exact⟨s1,Fk,Rk,HW,aa,aj⟩
 have N1:=zc h1;have he:=QG h1;rw[he] at hc;clear he h1;refine hc.mono ?_;rintro e wk ⟨rfl,Fk,Rk,ad,ae⟩;obtain⟨ag,af⟩:=zn (aa.o.trans ae) ad;clear ad ae hc HW aa;have HW:=af;have aa:=ag;clear af ag;go_wp2_with fail
 have hc:=QQ HW an hN al;by_cases h2:(s.zfU i newB).1=true
 .have he:=kZ h2;obtain⟨q,rfl,ah⟩:=je ak (by unfold za.zfT;rw[zj3 N0.o,zj3 N1.o,zj2 h2,he]);obtain⟨s1,ai⟩:∃z,z=(s.zfU i newB).2:=⟨_,rfl⟩;rw[<-ai] at he ah;rw[he] at hc;have aj:=zc ah;clear ah he ai h2;refine hc.mono ?_;rintro e wk ⟨rfl,Fk,Rk,ad,ae⟩;obtain⟨ag,af⟩:=zn (aa.o.trans ae) ad;clear ad ae hc HW aa;have HW:=af;have aa:=ag;clear af ag;go_wp2
  go_roundg q
  case measure=>omega
  case rel=>exact⟨s1,Fk,Rk,HW,aa,aj⟩
 have N2:=zc h2;have he:=gj h2;rw[he] at hc;clear he h2;refine hc.mono ?_;rintro e wk ⟨rfl,Fk,Rk,ad,ae⟩;obtain⟨ag,af⟩:=zn (aa.o.trans ae) ad;clear ad ae hc HW aa;have HW:=af;have aa:=ag;clear af ag;go_wp2_with fail
 have hc:=QP HW an hN al;by_cases h3:(s.zfU i s.zgT).1=true
 .have he:=kZ h3;obtain⟨q,rfl,ah⟩:=je ak (by unfold za.zfT;rw[zj3 N0.o,zj3 N1.o,zj3 N2.o,zj2 h3,he]);obtain⟨s1,ai⟩:∃z,z=(s.zfU i s.zgT).2:=⟨_,rfl⟩;rw[<-ai] at he ah;rw[he] at hc;have aj:=zc ah;clear ah he ai h3;refine hc.mono ?_;rintro e wk ⟨rfl,Fk,Rk,ad,ae⟩;obtain⟨ag,af⟩:=zn (aa.o.trans ae) ad;clear ad ae hc HW aa;have HW:=af;have aa:=ag;clear af ag;go_wp2
  go_roundg q
  case measure=>omega
  case rel=>exact⟨s1,Fk,Rk,HW,aa,aj⟩
 have N3:=zc h3;have he:=gj h3;rw[he] at hc;clear he h3;refine hc.mono ?_;rintro e wk ⟨rfl,Fk,Rk,ad,ae⟩;obtain⟨ag,af⟩:=zn (aa.o.trans ae) ad;clear ad ae hc HW aa;have HW:=af;have aa:=ag;clear af ag;go_wp2_with fail
 have hc:=zdk HW an hN al;by_cases h4:(s.zgm i).1=true
 .have he:=kZ h4;obtain⟨q,rfl,ah⟩:=je ak (by unfold za.zfT;rw[zj3 N0.o,zj3 N1.o,zj3 N2.o,zj3 N3.o,zj2 h4,he]);obtain⟨s1,ai⟩:∃z,z=(s.zgm i).2:=⟨_,rfl⟩;rw[<-ai] at he ah;rw[he] at hc;have aj:=zc ah;clear ah he ai h4;refine hc.mono ?_;rintro e wk ⟨rfl,Fk,Rk,ad,ae⟩;obtain⟨ag,af⟩:=zn (aa.o.trans ae) ad;clear ad ae hc HW aa;have HW:=af;have aa:=ag;clear af ag;go_wp2
  go_roundg q
  case measure=>omega
  case rel=>exact⟨s1,Fk,Rk,HW,aa,aj⟩
 have N4:=zc h4;have he:=VP h4;rw[he] at hc;clear he h4;refine hc.mono ?_;rintro e wk ⟨rfl,Fk,Rk,ad,ae⟩;obtain⟨ag,af⟩:=zn (aa.o.trans ae) ad;clear ad ae hc HW aa;have HW:=af;have aa:=ag;clear af ag;go_wp2_with fail
 have hc:=zah HW an hN al;by_cases h5:(s.zf4 i).1=true
 .have he:=kZ h5;obtain⟨q,rfl,ah⟩:=je ak (by unfold za.zfT;rw[zj3 N0.o,zj3 N1.o,zj3 N2.o,zj3 N3.o,zj3 N4.o,zj2 h5,he]);obtain⟨s1,ai⟩:∃z,z=(s.zf4 i).2:=⟨_,rfl⟩;rw[<-ai] at he ah;rw[he] at hc;have aj:=zc ah;clear ah he ai h5;refine hc.mono ?_;rintro e wk ⟨rfl,Fk,Rk,ad,ae⟩;obtain⟨ag,af⟩:=zn (aa.o.trans ae) ad;clear ad ae hc HW aa;have HW:=af;have aa:=ag;clear af ag;go_wp2
  go_roundg q
  case measure=>omega
  case rel=>exact⟨s1,Fk,Rk,HW,aa,aj⟩
 have N5:=zc h5;have he:=QD h5;rw[he] at hc;clear he h5;refine hc.mono ?_;rintro e wk ⟨rfl,Fk,Rk,ad,ae⟩;obtain⟨ag,af⟩:=zn (aa.o.trans ae) ad;clear ad ae hc HW aa;have HW:=af;have aa:=ag;clear af ag;go_wp2_with fail
 have hc:=xj HW an hN al;by_cases h6:(s.zf7).1=true
 .have he:=kZ h6;obtain⟨q,rfl,ah⟩:=je ak (by unfold za.zfT;rw[zj3 N0.o,zj3 N1.o,zj3 N2.o,zj3 N3.o,zj3 N4.o,zj3 N5.o,zj2 h6,he]);obtain⟨s1,ai⟩:∃z,z=(s.zf7).2:=⟨_,rfl⟩;rw[<-ai] at he ah;rw[he] at hc;have aj:=zc ah;clear ah he ai h6;refine hc.mono ?_;rintro e wk ⟨rfl,Fk,Rk,ad,ae⟩;obtain⟨ag,af⟩:=zn (aa.o.trans ae) ad;clear ad ae hc HW aa;have HW:=af;have aa:=ag;clear af ag;go_wp2
  go_roundg q
  case measure=>omega
  case rel=>exact⟨s1,Fk,Rk,HW,aa,aj⟩
 have N6:=zc h6;have he:=Q2 h6;rw[he] at hc;clear he h6;refine hc.mono ?_;rintro e wk ⟨rfl,Fk,Rk,ad,ae⟩;obtain⟨ag,af⟩:=zn (aa.o.trans ae) ad;clear ad ae hc HW aa;have HW:=af;have aa:=ag;clear af ag;go_wp2_with fail
 have hc:=vj HW an hN al;by_cases h7:(s.zf9).1=true
 .have he:=kZ h7;obtain⟨q,rfl,ah⟩:=je ak (by unfold za.zfT;rw[zj3 N0.o,zj3 N1.o,zj3 N2.o,zj3 N3.o,zj3 N4.o,zj3 N5.o,zj3 N6.o,he]);obtain⟨s1,ai⟩:∃z,z=(s.zf9).2:=⟨_,rfl⟩;rw[<-ai] at he ah;rw[he] at hc;have aj:=zc ah;clear ah he ai h7;refine hc.mono ?_;rintro e wk ⟨rfl,Fk,Rk,ad,ae⟩;obtain⟨ag,af⟩:=zn (aa.o.trans ae) ad;clear ad ae hc HW aa;have HW:=af;have aa:=ag;clear af ag;go_wp2
  go_roundg q
  case measure=>omega
  case rel=>exact⟨s1,Fk,Rk,HW,aa,aj⟩
 have N7:=zc h7;have he:=Q1 h7;have E7:Hid (s.zf9.1=false):=by unfold Hid;rw[he]
 rw[he] at hc;clear he h7;refine hc.mono ?_;rintro e wk ⟨rfl,Fk,Rk,ad,ae⟩;obtain⟨ag,af⟩:=zn (aa.o.trans ae) ad;clear ad ae hc HW aa;have HW:=af;have aa:=ag;clear af ag;have HT:=zc (zcK ak (by unfold za.zfT;rw[zj3 N0.o,zj3 N1.o,zj3 N2.o,zj3 N3.o,zj3 N4.o,zj3 N5.o,zj3 N6.o,E7.o]));have ao:Hid (∃F' R',NodeW B es m F' R' nb kb rb cb n i t wk/\Goes F R w F' R' wk):=⟨Fk,Rk,by rw[<-HT.o];exact HW,aa⟩;go_wp2;first|exact bodyPost_end (v:=.tuple #[]) (by simp[results,results55]) rfl ⟨rfl,ao.o⟩|exact zjT (v:=.tuple #[]) (by simp[results,results55]) rfl ⟨rfl,ao.o⟩
end
section
theorem Qw(f:Value)(w:World):Calls prog 141 #[.slice none 0 0,f] w λe w'=>e=.returned (iA (-1))/\w'=w:=by
 go_enter func141,ntmps141;go_wp2
 go_loop [5,8] (λ_ k=>k=iA 0) (λ_ _=>0)
 case atStart=>rfl
 subst hrel;go_wp2;go_ret;exact⟨rfl,rfl⟩
theorem xg(f:Value)(w:World):Calls prog 104 #[.slice none 0 0,f] w (zfz (.slice none 0 0) [] w):=by
 have HI:=zc (Qw f w);go_enter func104,ntmps104;go_wp2_with fail
 refine HI.o.mono ?_;rintro e w2 ⟨rfl,aa⟩;have ad:=aa.symm;clear aa;subst ad;go_wp2;go_ret;exact⟨_,rfl,zjZ _ _ _ _,λg h=>h,⟨rfl,rfl,rfl,zjA _,λ_ _ _=>rfl⟩⟩
def xc:yc:=⟨[],.slice none 0 0,.slice none 0 0,.slice none 0 0,.slice none 0 0,.slice none 0 0⟩
def yJ(y:Nat->Int)(sg:Nat->List zj5):za:=⟨y,[],[],[],[],0,⟨#[]⟩,0,⟨#[]⟩,0,0,false,false,false,false,0,[],0,[],sg⟩
theorem Tryz.zh3(kb cb:Nat)(y:Nat->Int)(sg:Nat->List zj5)(W:World):(Instr.build 135 #[(0,pA kb 0),(1,.agg (regA y)),(11,.agg #[.chan (some cb)])]).run prog W=.ok (.agg (nodeA kb cb xc (yJ y sg))) W:=by kernel_rfl
theorem Tryz.ziH(kb cb:Nat)(y:Nat->Int)(sg:Nat->List zj5)(W:World):(Instr.box 135 (.agg (nodeA kb cb xc (yJ y sg)))).run prog W=.ok (pA W.heap.size 0) (W.alloc (.cells (nodeA kb cb xc (yJ y sg)) 135)):=by kernel_rfl
section
variable{P:Program}
theorem jK{ops:Array Oper}{S:World->Prop}{op:Oper}{a:Act}(hw:Region.wanted op (yielded ops a.tmps)=true)(t:TypeId)(i0 i1 i2:Nat)(x0 x1 x2:Operand)(ho:op.op=.build t #[(i0,x0),(i1,x1),(i2,x2)])(v0 v1 v2 v:Value)
 (h0:a.eval x0=v0) (h1:a.eval x1=v1) (h2:a.eval x2=v2) (hr:∀W,(Instr.build t #[(i0,v0),(i1,v1),(i2,v2)]).run P W=.ok v W):YieldsIf P ops S op v a:=
 .inl ⟨hw,λw _=>by
  unfold execOp;simp only[ho,List.map_toArray,List.map_cons,List.map_nil,h0,h1,h2,hr,Sem.run_bind,Sem.run_pure,Result.andThen_ok]⟩
theorem GA{op:Oper}{a:Act}{w w':World}{K:Act->World->Prop}{Q:Exit->Act->World->Prop}(t:TypeId)(x:Operand)(ho:op.op=.box t x)(vx v:Value)(hx:a.eval x=vx)(hr:(Instr.box t vx).run P w=.ok v w')(h:K (a.put op.dst v) w'):op.wp P a w K Q:=by
 unfold Oper.wp execOp;simp only[ho,hx,hr,Sem.run_bind,Sem.run_pure,Result.andThen_ok];exact h
end
theorem zdn(g:Nat->Int)(p:Option Addr)(n cap:Nat)(b:Addr)(y:Nat->Int)(w:World)(hl:qW w w.heap.size p n (λi=>iA (g i)))(hg:w.cell? (aA 1 0)=some (eA b))(h:vB g n=(y,true)):
 Calls prog 52 #[.slice p n cap] w λe w'=>e=.returned (.tuple #[.agg (regA y),.nilIface])/\BW w w':=by
 have:=ZH g p n cap b w hl hg;rw[h] at this;exact this
def zfx(B:Nat)(es:List Addr)(m:Int)(R:Nat->Prop)(kb rb n i:Nat)(t:za)(w:World)(e:Ending)(w':World):Prop:=
 ∃nb cb F' R',e=.returned (.tuple #[pA nb 0,.nilIface])/\NodeW B es m F' R' nb kb rb cb n i t w'/\Goes (λ_=>False) R w F' R' w'
theorem zbx{y:Nat->Int}{sg:Nat->List zj5}(hx:Dom y)(hp:0<sumTo y 8):YI 0 ((yJ y sg).zfK []):=
 ⟨hx,hp,zjG _,zjG _,zjA _,zjA _,zjA _,zjA _,zjG _,λe he=>(by cases he),λe he=>(by cases he),zjG _,λe he=>(by cases he),zjG _⟩
theorem zbE{B:Nat}{es:List Addr}{m:Int}{R:Nat->Prop}{kb rb n i N k:Nat}{sg:Nat->List zj5}{t:za}{w:World}(dec:za->Bool×za)(G:za->Prop)(hfalse:∀s,¬(dec s).1=true->dec s=(false,s))(hGok:∀s,G s->YI N s/\(s.sg i).length<=1000000000000)(hN:N<=10000000)
 (hdec:∀(nb cb:Nat) (F R:Nat->Prop) (s:za) (W:World),NodeW B es m F R nb kb rb cb n i s W->G s->Calls prog 108 #[pA nb 0] W (yC B es m F R nb kb rb cb n i (dec s) W))
 (g:Nat->Int) (p:Option Addr) (q cap:Nat) (y:Nat->Int) (hl:qW w w.heap.size p q (λj=>iA (g j))) (hgen:vB g q=(y,true)) (hx:Dom y) (hp:0<sumTo y 8)
 (hring:vh R rb n sg w) (hkey:qh w kb rb i) (hin:i<n) (hkr:¬R kb) (hrl:∀k,R k->B<=k/\k<w.heap.size) (hglob:kH B es m w) (hbl:B<=w.heap.size) (hsg:(sg i).length<=1000000000000)
 (hrun:RunTo dec i G t k (((yJ y sg).zfK []).zfH i 0)):
 Calls prog 12 #[pA kb 0,.slice p q cap] w (zfx B es m R kb rb n i t w):=by
 obtain⟨a0,aG⟩:=hglob.sent.at 0 (by omega);obtain⟨al,aU,az,aW,aq,aY,ar,aT⟩:=jR (zdn g p q cap a0 y w hl (hglob.sent.cell 0 _ _ rfl aG) hgen) hring hkey hkr hrl hglob hbl hsg;obtain⟨ay,aC,a7,aX,HX,HP⟩:=JQ hrun hdec hfalse hGok hx hp;have z0:=yV;clear hl hgen hring hkey hkr hrl hglob hbl hsg hrun hdec hfalse hGok hx hp aG;go_enter func12,ntmps12;go_wp2_with fail
 refine al.o.mono ?_;rintro e w1 ⟨rfl,aL⟩;have aD:=zc aL;clear aL al;go_wp2_with (first|(refine zp rfl 116 _ _ rfl w1.heap.size y rfl rfl 116 (regA yk) (zjC w1 _) (zj _) Tryz.zfG ?_;intro w2 aE aF;have aV:=zc aE;have au:Hid (BW w w2):=(aD.o.alloc aD.o.size _).trans (aF.below aD.o.size);clear aE aF)|fail)
 refine rgd (S:=λX=>BW w2 X) ((zjB _ w2).drew) λhH=>?_;refine takeN [(0,some 17,pA kb 0),(1,some 18,.agg (regA y))] _ _ hH (by repeat(first|exact zj7|((first|refine tkc rfl rfl (qH (by rfl) 116 _ rfl w1.heap.size rfl 116 y _ (λw h=>blk aV h) underlying116 rfl Tryz.zfG) ?_|(refine tkc rfl rfl (zj0 ⟨by rfl,λx h=>?_⟩) ?_;focus(go_simp;done)));simp only[AP]))) ?_;simp only[ze,AP,pA];refine zv 2 λK hK=>?_;go_simp;refine(KC _).mono ?_;rintro e X2 ⟨cb,aJ,rfl,aH,aK⟩;have aj:BW w2 X2:=(zjB _ w2).drew.trans (aK.mono (zjA _));have ai:w2.heap.size<=cb:=aJ;clear aK aJ;refine hK.out _ _ aj λhH=>?_;clear hK K
 try simp only[AP,AQ]
 refine takeN [(3,some 20,.agg (nodeA kb cb xc (yJ y sg)))] _ _ hH (by repeat(first|exact zj7|(refine tkc rfl rfl (jK (by rfl) 135 0 1 11 _ _ _ rfl (pA kb 0) (.agg (regA y)) (.agg #[.chan (some cb)]) _ rfl rfl rfl (λW=>Tryz.zh3 kb cb y sg W)) ?_;simp only[AP]))) ?_;simp only[ze,AP];refine zv 4 λK hK=>?_;rw[zj2 (by rfl)];refine GA 135 _ rfl (.agg (nodeA kb cb xc (yJ y sg))) _ rfl (Tryz.ziH kb cb y sg X2) ?_;obtain⟨X3,ad⟩:=gen (X2.alloc (.cells (nodeA kb cb xc (yJ y sg)) 135));have av:BW X2 X3:=by rw[ad];exact bwA X2
 have an:X3.heap[X2.heap.size]? =some (.cells (nodeA kb cb xc (yJ y sg)) 135 (0,0)):=by rw[ad];exact zjC X2 _
 rw[<-ad];have aw:BW w2 X3:=aj.trans (av.mono aj.size);refine hK.out _ _ aw λhH=>?_;clear hK K ad
 try simp only[AP,AQ]
 refine yd [5] hH (λ_ h=>h) ?_;refine dnr ?_;obtain⟨nb,ao⟩:=gen X2.heap.size;rw[<-ao] at an;rw[<-ao];have ae:w.heap.size<=nb:=by rw[ao];exact zjF au.o.size aj.size
 have ah:Hid (BW w X3):=au.o.trans (aw.mono au.o.size);have ag:w.heap.size<=cb:=zjF au.o.size ai;have af:qX X3 cb []:=by
  obtain⟨x1,x2,hc⟩:=aH;exact⟨x1,x2,(av.block cb (zg hc)).trans hc⟩
 have ax:NodeAt nb kb cb xc (yJ y sg) X3:=⟨an,rfl,zjZ _ _ _ _,λd hd=>(by cases hd),zjZ _ _ _ _,zjZ _ _ _ _,zjZ _ _ _ _,zjZ _ _ _ _,af,λg h=>(by cases h),λd hd=>(by cases hd),List.Pairwise.nil⟩;have aa:∀k,xc.zgH nb cb k->k=nb\/k=cb:=λk hk=>by
  rcases hk with h|h|h|h|h|h|h|⟨d,hd,h⟩
  .exact zj0 h
  .exact zj1 h
  all_goals first|cases h|cases hd
 have aO:NodeW B es m (λk=>k=nb\/k=cb) R nb kb rb cb n i (yJ y sg) X3:=by
  refine⟨⟨xc,ax,aa⟩,aU.o.frame λk hk=>ah.o.block k (aq k hk).2,az.o.keep (ah.o.block kb az.o.lt),hin,λk hk hR=>?_,λhk=>?_,aW,λk hk=>?_,λk hk=>⟨(aq k hk).1,zjE (aq k hk).2 ah.o.size⟩,aY.o.below ar ah,zjF ar ah.o.size⟩
  .have:=(aq.o k hR).2
   rcases hk with rfl|rfl<;>omega
  .have:=az.o.lt
   rcases hk with h|h<;>omega
  rcases hk with rfl|rfl
  .exact ⟨zjF ar ae,zg an⟩
  exact⟨zjF ar ag,qT af⟩
 have a6:Hid (Goes (λ_=>False) R w (λk=>k=nb\/k=cb) R X3):=by
  refine⟨λk hk=>?_,λk hk=>zj0 hk,{ ah with block:=λk hk _=>ah.o.block k hk }⟩;rcases hk with rfl|rfl
  .exact zj1 ae
  exact zj1 ag
 have aS:=zc (vJ (N:=0) [] aO ax aa (λW b0 _ _=>xg _ W) (zbx HX.o HP.o) (by omega) aT.o);clear aO ax aa af aH ag ai ae av an aw aj ao;go_wp2_with fail
 refine aS.o.mono ?_;rintro e w5 ⟨rfl,F5,R5,aN,aQ⟩;have ak:NodeW B es m F5 R5 nb kb rb cb n i (((yJ y sg).zfK []).zfH i 0) w5:=aN;obtain⟨aZ,aR⟩:=zn aQ (Gc dec G a7 aX hN (aC nb cb) ak ay);clear aN ak aQ aS;go_wp2_with fail
 refine aR.o.mono ?_;rintro e w6 ⟨rfl,F6,R6,aM,aP⟩;have aB:Hid (zfx B es m R kb rb n i t w (.returned (.tuple #[pA nb 0,.nilIface])) w6):=⟨nb,cb,F6,R6,rfl,aM,a6.o.trans (aZ.o.trans aP)⟩;clear aM aP aR;go_wp2;go_ret2;exact aB

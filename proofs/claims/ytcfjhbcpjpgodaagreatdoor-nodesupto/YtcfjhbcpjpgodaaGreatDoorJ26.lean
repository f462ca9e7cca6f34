import Derived.Test.YtcfjhbcpjpgodaaGreatDoorJ25
namespace Go.Proofs.YtcfjhbcpjpgodaaGreatDoor
open Go.RowKit Proofs.Tryz
set_option maxRecDepth 100000
set_option maxHeartbeats 0
set_option linter.all false
def zc0(Post:Bool->World->Prop)(e:Ending)(w':World):Prop:=∃b,e=.returned (bA b)/\Post b w'
def za.zdE(s:za)(r:Nat):Option zt:=propF s.log (r:Int) λp=>s.most (votesForB 3 (r:Int) p.m.s)&&s.zdK p.m.s
theorem Xl{B:Nat}{es:List Addr}{m:Int}{nb kb cb N:Nat}{s:za}{V:yg}{w:World}(Post:Bool->World->Prop)(hA:NodeAt nb kb cb V s w)(hB:B<=w.heap.size)(hg:qw B es m w)(ok:YS N s)
 (hkeep:∀(p:zt) (r:Nat),r<=20->(∀q,q<r->s.zdE q=none)->s.zdE r=some p->∀W,BW w W->Calls prog 153 #[pA nb 0,.agg p.cells] W (zc0 Post))
 (hno:(∀q,q<=20->s.zdE q=none)->∀W,BW w W->Post false W):
 Calls prog 108 #[pA nb 0] w (zc0 Post):=by
 have hmf:∀(fn:Fn) (first cap:Array Value) (w:World),(Instr.makeFunc fn first cap).run prog w=.ok (.func fn first cap) w:=λ_ _ _ _=>rfl;obtain⟨p,c,-,c37,hm,hE⟩:=hA.logAt;obtain⟨HA,HG,aR,ay,av,aH,HE,HM⟩:=vF hA hg hB ok hkeep hno hE hm;have C37W:=zc c37;have C0:Hid (cN (w.alloc (.cells #[pA nb 0] 26)) w 0 (pA nb 0)):=zgs _ w.heap.size 0 _ _ _ (zgr w _);clear hA hg hB ok hkeep hno hE hm c37;go_enter func108,ntmps108;go_wp2;go_loopw [3,4,5,6] (λ_ _ _ i wr=>∃j:Nat,j<=21/\i=iA j/\(∀r,r<j->s.zdE r=none)/\cN wr w 0 (pA nb 0)/\BW w wr) (λ_ _ _ i _=>21-(intOf i).toNat)
 case atStart=>exact⟨0,zgv _,rfl,λr hr=>absurd hr (Nat.not_lt_zero r),C0.o,bwA w⟩
 obtain⟨j,hj,rfl,ai,aN,hb⟩:=hrel;obtain⟨aK,aJ,aY⟩:=zC hb ai aN;clear hb ai aN C0;by_cases ar:j=21
 .have hge:¬(j:Int)<21:=by omega
  have aF:=zc (aH.o (λq hq=>aJ.o q (by omega)) wr aK.o);clear ar;go_wp2;go_ret;exact⟨false,rfl,aF⟩
 have aT:(j:Int)<21:=by omega
 obtain⟨w1,aw⟩:=gen (wr.alloc (.cells #[iA j] 3));have aD:BW wr w1:=by rw[aw];exact bwA wr
 have aM:w1.heap[wr.heap.size]? =some (.cells #[iA j] 3 (0,0)):=by rw[aw];exact zgr wr _
 have au:BW w w1:=aK.o.trans (aD.mono aK.o.size);have C1:Hid (cN w1 w 0 (pA nb 0)):=Ext.cell aY (Ext.of aD);have C2:Hid (cN w1 wr 0 (iA j)):=zgs w1 wr.heap.size 0 _ _ _ aM;have C37:Hid (cE w1 nb 37 (.slice p s.log.length c)):=Ext.cell C37W.o (Ext.of au);have az:=zc au;have ae:Hid (∀W,BW w1 W->Calls prog 148 #[.slice p s.log.length c,iA j,.func (.func 149) #[] #[pA w.heap.size 0,pA wr.heap.size 0]] W λe w'=>e=.returned (jz (s.zdE j))/\BW W w'):=λW hW=>by
  have ax:=au.trans (hW.mono au.size);exact jJ 149 _ _ s.log (j:Int) p c W (enters_of func149 (by decide) rfl) (HE.o.ext (Ext.of ax)) HM (Qz j wr.heap.size nb kb cb w.heap.size B es m V s _ W (HA.o.below ax) (zgu aR ax.size) (HG.o.below aR ax) (Ext.cell C1.o (Ext.of hW)) ay.o.dom (λe he=>⟨(ay.o.ids e he).f0,(ay.o.ids e he).f8⟩) (λe he=>(ay.o.ids e (List.mem_filter.1 he).1).z) (Ext.cell C2.o (Ext.of hW)))
 have ad:=ae;have aV:=zc aw;clear ar aD aM au aw;obtain⟨x,aB⟩:=gen (s.zdE j);rw[<-aB] at ae ad;have aP:=zc aB;clear aB
 go_upto_region 4 with fail
 rw[<-aV.o]
 go_cut [4,5,6] from 6 to 23 (λu4 u5 u6 wc=>∃pb,u6=iA j/\u4=pA pb 0/\u5=bA x.isSome/\wc.heap[pb]? =some (.cells (x.getD zJ).cells 164 (0,0))/\w1.heap.size<=pb/\BW w1 wc)
 case first=>
  refine rgd (S:=λX=>BW w1 X) ((zgq _ w1).drew) λhH=>?_;refine zx [0,1,2,3,4,5] hH (λx h=>aI (show cN x w 0 (pA nb 0) from Ext.cell C1.o (Ext.of h)) (aI (show cE x nb 37 (.slice p s.log.length c) from Ext.cell C37.o (Ext.of h)) (show cN x wr 0 (iA j) from Ext.cell C2.o (Ext.of h)))) ?_;refine gn 6 10 (λK hK=>?_) λK hK=>?_
  .go_simp;refine(ae _ (by first|exact hH|exact(zgq _ w1).drew)).mono ?_;rintro en X2 ⟨rfl,al⟩;have af:BW w1 X2:=(zgq _ w1).drew.trans (al.mono (zgp _));clear al;refine hK.out _ _ af λhH=>?_;clear hK K
   try simp only[AP,AQ]
   refine takeN [(7,some 9,jz x),(8,some 17,.agg (x.getD zJ).cells),(9,some 18,bA x.isSome)] _ _ hH (by repeat(first|exact zgY|((first|(refine tkc rfl rfl (zgR ⟨by rfl,λx h=>?_⟩) ?_;focus(unfold jz;go_simp;done))|(refine tkc rfl rfl (zgR ⟨by rfl,λx h=>?_⟩) ?_;focus(go_simp;done)));simp only[AP]))) ?_;simp only[zh,AP];refine zp 10 λK hK=>?_;go_simp;obtain⟨X3,ab⟩:=gen (X2.alloc (.cells #[iA 0,iA 0,iA 0,iA 0,iA 0,bA false,sA ⟨#[]⟩,sA ⟨#[]⟩,bA false] 164));have aO:BW X2 X3:=by rw[ab];exact bwA X2
   have ao:X3.heap[X2.heap.size]? =some (.cells #[iA 0,iA 0,iA 0,iA 0,iA 0,bA false,sA ⟨#[]⟩,sA ⟨#[]⟩,bA false] 164 (0,0)):=by rw[ab];exact zgr X2 _
   rw[<-ab];have aj:BW w1 X3:=af.trans (aO.mono af.size);refine hK.out _ _ aj λhH=>?_;clear hK K ab
   try simp only[AP,AQ]
   refine zp 11 λK hK=>?_;rw[zgT (by rfl)];refine zr 164 _ _ rfl X2.heap.size 0 ((x.getD zJ).cells) rfl rfl 164 #[iA 0,iA 0,iA 0,iA 0,iA 0,bA false,sA ⟨#[]⟩,sA ⟨#[]⟩,bA false] ao (by simp[zt.cells]) (by simp[zt.cells,Value.oneCell']) (by rw[Tryz.zc5];simp[zt.cells]) ?_;intro X an aq;have aa:cL X X2.heap.size ((x.getD zJ).cells) 164:=an;have hX:BW w1 X:=aj.trans (aq.below af.size);refine hK.out _ _ hX λhH=>?_;clear hK K
   try simp only[AP,AQ]
   refine zx [12] hH (λ_ h=>h) ?_;refine dnr ?_;obtain⟨pb,ag⟩:=gen X2.heap.size;rw[<-ag] at aa;rw[<-ag];have ak:w1.heap.size<=pb:=by rw[ag];exact af.size
   clear ag an aq aO ao aj af;clear hH;go_wp2_with fail
   go_meet
   case rel=>exact⟨pb,rfl,rfl,rfl,aa,ak,hX⟩
  go_simp;obtain⟨X3,ab⟩:∃z,z=(w1.alloc (.cells #[iA 0,iA 0,iA 0,iA 0,iA 0,bA false,sA ⟨#[]⟩,sA ⟨#[]⟩,bA false] 164)).drew:=⟨_,rfl⟩;have aj:BW w1 X3:=by rw[ab];exact(bwA w1).drew
  have ao:X3.heap[w1.heap.size]? =some (.cells #[iA 0,iA 0,iA 0,iA 0,iA 0,bA false,sA ⟨#[]⟩,sA ⟨#[]⟩,bA false] 164 (0,0)):=by rw[ab];exact zgr w1 _
  rw[<-ab];refine hK.out _ _ aj λhH=>?_;clear hK K ab
  try simp only[AP,AQ]
  refine zp 6 λK hK=>?_;go_simp;refine(ad _ (by first|exact hH|exact(zgq _ w1).drew)).mono ?_;rintro en X2 ⟨rfl,al⟩;have af:BW w1 X2:=aj.trans (al.mono aj.size);have aL:=blk ao al;refine hK.out _ _ af λhH=>?_;clear hK K
  try simp only[AP,AQ]
  refine takeN [(7,some 9,jz x),(8,some 17,.agg (x.getD zJ).cells),(9,some 18,bA x.isSome)] _ _ hH (by repeat(first|exact zgY|((first|(refine tkc rfl rfl (zgR ⟨by rfl,λx h=>?_⟩) ?_;focus(unfold jz;go_simp;done))|(refine tkc rfl rfl (zgR ⟨by rfl,λx h=>?_⟩) ?_;focus(go_simp;done)));simp only[AP]))) ?_;simp only[zh,AP];refine zp 11 λK hK=>?_;rw[zgT (by rfl)];refine zr 164 _ _ rfl w1.heap.size 0 ((x.getD zJ).cells) rfl rfl 164 #[iA 0,iA 0,iA 0,iA 0,iA 0,bA false,sA ⟨#[]⟩,sA ⟨#[]⟩,bA false] aL (by simp[zt.cells]) (by simp[zt.cells,Value.oneCell']) (by rw[Tryz.zc5];simp[zt.cells]) ?_;intro X an aq;have aa:cL X w1.heap.size ((x.getD zJ).cells) 164:=an;have hX:BW w1 X:=af.trans (aq.below (zgp _));refine hK.out _ _ hX λhH=>?_;clear hK K
  try simp only[AP,AQ]
  refine zx [12] hH (λ_ h=>h) ?_;refine dnr ?_;obtain⟨pb,ag⟩:=gen w1.heap.size;rw[<-ag] at aa;rw[<-ag];have ak:w1.heap.size<=pb:=by rw[ag];exact zgp _
  clear ag an aq al aL ao aj af;clear hH;go_wp2_with fail
  go_meet
  case rel=>exact⟨pb,rfl,rfl,rfl,aa,ak,hX⟩
 obtain⟨X,aU⟩:=gen wc;subst aU;obtain⟨pb,rfl,rfl,rfl,aa,ak,hX⟩:=hcut;cases x with
 |none=>
  have aG:Hid (s.zdE j=none):=aP.o.symm;have aS:Option.isSome (none:Option zt)=false:=rfl;have aE:Hid (BW w X):=az.o.trans (hX.mono az.o.size);have aC:cN X w 0 (pA nb 0):=Ext.cell C1.o (Ext.of hX);have aX:=zc aC;clear hX aa ak aC;go_wp2;go_roundw
  case rel=>
   refine⟨j+1,by omega,by go_num,λr hr=>?_,aX.o,aE.o⟩;rcases Nat.lt_or_ge r j with h1|h1
   .exact aJ r h1
   have e:r=j:=by omega
   rw[e];exact aG
  simp[intOf];omega
 |some pv=>
  have aG:Hid (s.zdE j=some pv):=aP.o.symm;have aS:Option.isSome (some pv)=true:=rfl;have aE:Hid (BW w X):=az.o.trans (hX.mono az.o.size);have aC:cN X w 0 (pA nb 0):=Ext.cell C1.o (Ext.of hX);have aQ:=zc (av.o pv j (by omega) aJ.o aG.o X aE.o);have aW:=zc aa;clear hX ak aa;go_wp2_with (first|(refine zg4 rfl 164 _ rfl pb rfl 164 ((some pv).getD zJ).cells (0,0) _ aW underlying164 rfl (by rw[Tryz.zc5];simp[zt.cells]) ?_)|fail)
  refine aQ.o.mono ?_;rintro en Y ⟨bo,rfl,ah⟩;have aF:=zc ah;clear ah aQ;go_wp2;go_ret;exact⟨bo,rfl,aF⟩
section
variable{B nb kb rb cb n i N:Nat}{es:List Addr}{m:Int}{F R:Nat->Prop}{s:za}{w:World}
def yK(B:Nat)(es:List Addr)(m:Int)(F R:Nat->Prop)(nb kb rb cb n i:Nat)(r:Bool×za)(w:World)(e:Ending)(w':World):Prop:=
 e=.returned (bA r.1)/\∃F' R',NodeW B es m F' R' nb kb rb cb n i r.2 w'/\Goes F R w F' R' w'
def za.zdr(s:za)(st:Nat):za:={ s with step:=st }
theorem NodeW.zek(h:NodeW B es m F R nb kb rb cb n i s w)(st:Nat):
 NodeW B es m F R nb kb rb cb n i (s.zdr st) (w.setCell (aA nb 44) (iA st))/\Goes F R w F R (w.setCell (aA nb 44) (iA st)):=by
 obtain⟨V,hA,hf⟩:=h.node;exact h.cellAt (s':=s.zdr st) hA hf (setCell_row hA.blk 44 _) (zd _ _ _ _) rfl rfl rfl rfl rfl rfl rfl
theorem NodeW.zeF(h:NodeW B es m F R nb kb rb cb n i s w):w.cell? (aA nb 44)=some (iA s.step)/\w.frozen? (aA nb 44)=false:=by
 obtain⟨V,hA,hf⟩:=h.node;exact⟨hA.cell 44 rfl,hA.frozen 44⟩
def za.nothing(s:za)(i:Nat)(k:Int)(st:Nat):za:=(s.zc8 i k 0 true ⟨#[]⟩).zdr st
theorem qE(h:NodeW B es m F R nb kb rb cb n i s w)(ok:YS N s)(hN:N<=10000000)(hsg:(s.sg i).length<=1000000000000):
 Calls prog 131 #[pA nb 0] w λen w'=>en=.returned (.tuple #[])/\∃F' R',NodeW B es m F' R' nb kb rb cb n i (s.nothing i 2 2) w'/\Goes F R w F' R' w':=by
 obtain⟨a1,ad⟩:=h.glob.sent.at 1 (by omega);have ah:=zc (vi 2 0 0 0 0 true ⟨#[]⟩ a1 h ad (by have:=ok.log;omega) (by have:=ok.ahead;omega) (by omega) (by decide));clear h ok hsg ad;go_enter func131,ntmps131;go_wp2_with fail
 refine ah.o.mono ?_;rintro e w4 ⟨rfl,F4,R4,ab,ag⟩;obtain⟨c44,f44⟩:=ab.zeF;obtain⟨ae,af⟩:=ab.zek 2;have aa:Hid (∃F' R',NodeW B es m F' R' nb kb rb cb n i (s.nothing i 2 2) (w4.setCell (aA nb 44) (iA 2))/\Goes F R w F' R' (w4.setCell (aA nb 44) (iA 2))):=⟨F4,R4,ae,ag.trans af⟩;clear ab ag ae af ah;go_wp2;first|exact bodyPost_end (v:=.tuple #[]) (by simp[results,results131]) rfl ⟨rfl,aa.o⟩|exact zgJ (v:=.tuple #[]) (by simp[results,results131]) rfl ⟨rfl,aa.o⟩
theorem kT(h:NodeW B es m F R nb kb rb cb n i s w)(ok:YS N s)(hN:N<=10000000)(hsg:(s.sg i).length<=1000000000000):
 Calls prog 132 #[pA nb 0] w λen w'=>en=.returned (.tuple #[])/\∃F' R',NodeW B es m F' R' nb kb rb cb n i (s.nothing i 3 3) w'/\Goes F R w F' R' w':=by
 obtain⟨a1,ad⟩:=h.glob.sent.at 1 (by omega);have ah:=zc (vi 3 0 0 0 0 true ⟨#[]⟩ a1 h ad (by have:=ok.log;omega) (by have:=ok.ahead;omega) (by omega) (by decide));clear h ok hsg ad;go_enter func132,ntmps132;go_wp2_with fail
 refine ah.o.mono ?_;rintro e w4 ⟨rfl,F4,R4,ab,ag⟩;obtain⟨c44,f44⟩:=ab.zeF;obtain⟨ae,af⟩:=ab.zek 3;have aa:Hid (∃F' R',NodeW B es m F' R' nb kb rb cb n i (s.nothing i 3 3) (w4.setCell (aA nb 44) (iA 3))/\Goes F R w F' R' (w4.setCell (aA nb 44) (iA 3))):=⟨F4,R4,ae,ag.trans af⟩;clear ab ag ae af ah;go_wp2;first|exact bodyPost_end (v:=.tuple #[]) (by simp[results,results132]) rfl ⟨rfl,aa.o⟩|exact zgJ (v:=.tuple #[]) (by simp[results,results132]) rfl ⟨rfl,aa.o⟩
end
section
variable{s:za}{i:Nat}{fits:zt->Bool}{p:zt}
def za.zeq(s:za)(p:zt):Bool:=s.zdK p.m.s&&(decide (s.lr<=p.m.v)||decide (s.lv=p.m.s))
def za.zc6(s:za)(i:Nat)(fits:zt->Bool):Bool×za:=
 if s.step=1 then(match propF s.log (s.round:Int) fits with|none=>(false,s)|some p=>(true,if s.zeq p=true then(s.zc8 i 2 0 false p.m.s).zdr 2 else s.nothing i 2 2)) else(false,s)
theorem yZ(h:¬s.step=1):s.zc6 i fits=(false,s):=by unfold za.zc6;rw[zgU h]
theorem y7(h:s.step=1)(hp:propF s.log (s.round:Int) fits=none):s.zc6 i fits=(false,s):=by unfold za.zc6;rw[zgT h,hp]
theorem jX(h:s.step=1)(hp:propF s.log (s.round:Int) fits=some p):s.zc6 i fits=(true,if s.zeq p=true then(s.zc8 i 2 0 false p.m.s).zdr 2 else s.nothing i 2 2):=by unfold za.zc6;rw[zgT h,hp]
theorem vZ(h:s.step=1)(hp:propF s.log (s.round:Int) fits=some p)(hm:s.zeq p=true):s.zc6 i fits=(true,(s.zc8 i 2 0 false p.m.s).zdr 2):=by rw[jX h hp,zgT hm]
theorem x8(h:s.step=1)(hp:propF s.log (s.round:Int) fits=some p)(hm:s.zeq p=false):s.zc6 i fits=(true,s.nothing i 2 2):=by rw[jX h hp,zgU (by rw[hm];exact zgN)]
theorem YQ{B:Nat}{es:List Addr}{m:Int}{F R:Nat->Prop}{nb kb rb cb n N:Nat}{w:World}(g:Nat)(lb:Array Value)(fits:zt->Bool)(h:NodeW B es m F R nb kb rb cb n i s w)(ok:YS N s)(hN:N<=10000000)(hsg:(s.sg i).length<=1000000000000)(eg:kR g)(hfit:∀W,BW w W->FitsAt g lb fits (s.log.filter λe=>decide (e.m.k=1)&&decide (e.m.r=(s.round:Int))) W):
 Calls prog 156 #[pA nb 0,.func (.func g) #[] lb] w (yK B es m F R nb kb rb cb n i (s.zc6 i fits) w):=by
 obtain⟨V,hA,hf⟩:=h.node;obtain⟨p,c,-,c37,hm,hE⟩:=hA.logAt;obtain⟨a1,aL⟩:=h.glob.sent.at 1 (by omega);obtain⟨a11,au⟩:=h.glob.sent.at 11 (by omega);have c44:cE w nb 44 (iA s.step):=hA.cell 44 rfl;have C43:Hid (cE w nb 43 (iA s.round)):=hA.cell 43 rfl;obtain⟨C37,HH,HA,ay,aS,aY,aG⟩:=Qq c37 h hA ok hsg aL au;have af:Hid (∀W,BW w W->Calls prog 148 #[.slice p s.log.length c,iA s.round,.func (.func g) #[] lb] W λe w'=>e=.returned (jz (propF s.log (s.round:Int) fits))/\BW W w'):=λW hW=>jJ g lb fits s.log (s.round:Int) p c W eg (hE.ext (Ext.of hW)) hm (hfit W hW);have ae:=af;obtain⟨x,aE⟩:=gen (propF s.log (s.round:Int) fits);rw[<-aE] at af ae;have aF:=zc aE;clear h hA hf ok hsg aL au hfit eg hE hm c37;clear aE;by_cases az:s.step=1
 .have aR:=zc az;have q44:(s.step:Int)=1:=by omega
  clear az;go_enter func156,ntmps156
  go_upto_region 3 with fail
  go_cut [5,6] (λu5 u6 wc=>∃pb,u5=pA pb 0/\u6=bA x.isSome/\wc.heap[pb]? =some (.cells (x.getD zJ).cells 164 (0,0))/\w.heap.size<=pb/\BW w wc)
  case first=>
   refine rgd (S:=λX=>BW w X) ((zgq _ w).drew) λhH=>?_;refine zZ [(0,some 14,pA nb 0),(1,some 15,pA nb 0),(2,some 16,pA nb 37),(3,some 17,.slice p s.log.length c),(4,some 18,pA nb 0),(5,some 19,pA nb 0),(6,some 20,pA nb 43),(7,some 21,pA nb 43),(8,some 22,iA s.round),(9,some 23,.func (.func g) #[] lb)] _ _ hH (λx h=>aI (show cE x nb 37 (.slice p s.log.length c) from Ext.cell C37.o (Ext.of h)) (show cE x nb 43 (iA s.round) from Ext.cell C43.o (Ext.of h))) ?_;simp only[zh,AP,pA];refine gn 10 14 (λK hK=>?_) λK hK=>?_
   .go_simp;refine(af _ (by first|exact hH|exact(zgq _ w).drew)).mono ?_;rintro en X2 ⟨rfl,al⟩;have ag:BW w X2:=(zgq _ w).drew.trans (al.mono (zgp _));clear al;refine hK.out _ _ ag λhH=>?_;clear hK K
    try simp only[AP,AQ]
    refine takeN [(11,some 13,jz x),(12,some 25,.agg (x.getD zJ).cells),(13,some 26,bA x.isSome)] _ _ hH (by repeat(first|exact zgY|((first|(refine tkc rfl rfl (zgR ⟨by rfl,λx h=>?_⟩) ?_;focus(unfold jz;go_simp;done))|(refine tkc rfl rfl (zgR ⟨by rfl,λx h=>?_⟩) ?_;focus(go_simp;done)));simp only[AP]))) ?_;simp only[zh,AP];refine zp 14 λK hK=>?_;go_simp;obtain⟨X3,ab⟩:=gen (X2.alloc (.cells #[iA 0,iA 0,iA 0,iA 0,iA 0,bA false,sA ⟨#[]⟩,sA ⟨#[]⟩,bA false] 164));have aM:BW X2 X3:=by rw[ab];exact bwA X2
    have aq:X3.heap[X2.heap.size]? =some (.cells #[iA 0,iA 0,iA 0,iA 0,iA 0,bA false,sA ⟨#[]⟩,sA ⟨#[]⟩,bA false] 164 (0,0)):=by rw[ab];exact zgr X2 _
    rw[<-ab];have ai:BW w X3:=ag.trans (aM.mono ag.size);refine hK.out _ _ ai λhH=>?_;clear hK K ab
    try simp only[AP,AQ]
    refine zp 15 λK hK=>?_;rw[zgT (by rfl)];refine zr 164 _ _ rfl X2.heap.size 0 ((x.getD zJ).cells) rfl rfl 164 #[iA 0,iA 0,iA 0,iA 0,iA 0,bA false,sA ⟨#[]⟩,sA ⟨#[]⟩,bA false] aq (by simp[zt.cells]) (by simp[zt.cells,Value.oneCell']) (by rw[Tryz.zc5];simp[zt.cells]) ?_;intro X ao ar;have aa:cL X X2.heap.size ((x.getD zJ).cells) 164:=ao;have hX:BW w X:=ai.trans (ar.below ag.size);refine hK.out _ _ hX λhH=>?_;clear hK K
    try simp only[AP,AQ]
    refine y8 [(16,some 6,bA x.isSome)] _ _ hH ?_;simp only[zh,AP];refine dnr ?_;obtain⟨pb,ah⟩:=gen X2.heap.size;rw[<-ah] at aa;rw[<-ah];have ak:w.heap.size<=pb:=by rw[ah];exact ag.size
    clear ah ao ar aM aq ai ag;clear hH;go_wp2_with fail
    go_meet
    case rel=>exact⟨pb,rfl,rfl,aa,ak,hX⟩
   go_simp;obtain⟨X3,ab⟩:∃z,z=(w.alloc (.cells #[iA 0,iA 0,iA 0,iA 0,iA 0,bA false,sA ⟨#[]⟩,sA ⟨#[]⟩,bA false] 164)).drew:=⟨_,rfl⟩;have ai:BW w X3:=by rw[ab];exact(bwA w).drew
   have aq:X3.heap[w.heap.size]? =some (.cells #[iA 0,iA 0,iA 0,iA 0,iA 0,bA false,sA ⟨#[]⟩,sA ⟨#[]⟩,bA false] 164 (0,0)):=by rw[ab];exact zgr w _
   rw[<-ab];refine hK.out _ _ ai λhH=>?_;clear hK K ab
   try simp only[AP,AQ]
   refine zp 10 λK hK=>?_;go_simp;refine(ae _ (by first|exact hH|exact(zgq _ w).drew)).mono ?_;rintro en X2 ⟨rfl,al⟩;have ag:BW w X2:=ai.trans (al.mono ai.size);have aJ:=blk aq al;refine hK.out _ _ ag λhH=>?_;clear hK K
   try simp only[AP,AQ]
   refine takeN [(11,some 13,jz x),(12,some 25,.agg (x.getD zJ).cells),(13,some 26,bA x.isSome)] _ _ hH (by repeat(first|exact zgY|((first|(refine tkc rfl rfl (zgR ⟨by rfl,λx h=>?_⟩) ?_;focus(unfold jz;go_simp;done))|(refine tkc rfl rfl (zgR ⟨by rfl,λx h=>?_⟩) ?_;focus(go_simp;done)));simp only[AP]))) ?_;simp only[zh,AP];refine zp 15 λK hK=>?_;rw[zgT (by rfl)];refine zr 164 _ _ rfl w.heap.size 0 ((x.getD zJ).cells) rfl rfl 164 #[iA 0,iA 0,iA 0,iA 0,iA 0,bA false,sA ⟨#[]⟩,sA ⟨#[]⟩,bA false] aJ (by simp[zt.cells]) (by simp[zt.cells,Value.oneCell']) (by rw[Tryz.zc5];simp[zt.cells]) ?_;intro X ao ar;have aa:cL X w.heap.size ((x.getD zJ).cells) 164:=ao;have hX:BW w X:=ag.trans (ar.below (zgp _));refine hK.out _ _ hX λhH=>?_;clear hK K
   try simp only[AP,AQ]
   refine y8 [(16,some 6,bA x.isSome)] _ _ hH ?_;simp only[zh,AP];refine dnr ?_;obtain⟨pb,ah⟩:=gen w.heap.size;rw[<-ah] at aa;rw[<-ah];have ak:w.heap.size<=pb:=by rw[ah];exact zgp _
   clear ah ao ar al aJ aq ai ag;clear hH;go_wp2_with fail
   go_meet
   case rel=>exact⟨pb,rfl,rfl,aa,ak,hX⟩
  obtain⟨X,aW⟩:=gen wc;subst aW;obtain⟨pb,rfl,rfl,aa,ak,hX⟩:=hcut;cases x with
  |none=>
   have ad:=zc (y7 (i:=i) aR aF.o.symm);have hsm:Option.isSome (none:Option zt)=false:=rfl;have aw:=zc hX;clear hX aa ak;go_wp2;go_ret;exact⟨by rw[ad.o];rfl,F,R,by rw[ad.o];exact HH.o.below aw,Goes.below aw⟩
  |some p=>
   have ad:=zc (jX (i:=i) aR aF.o.symm);have hz:p.m.s.size<=24:=(ay.o.ids p (List.mem_of_find?_eq_some aF.o.symm)).z;obtain⟨⟨pk,ph,pr,pf,pvv,pnl,pt⟩,pfr,po⟩:=p;have hz:pt.size<=24:=hz;obtain⟨q,hq⟩:=gen (s.zeq ⟨⟨pk,ph,pr,pf,pvv,pnl,pt⟩,pfr,po⟩);rw[<-hq] at ad;have aw:=zc hX;have e4:cE X pb 4 (iA pvv):=zgs X pb 4 _ _ _ aa;have e6:cE X pb 6 (sA pt):=zgs X pb 6 _ _ _ aa;have aD:=HA.o.below hX;obtain⟨aX,aQ⟩:=ze aD.reg (HH.o.below hX);have e39:cE X nb 39 (iA s.lr):=aD.cell 39 rfl;have e40:cE X nb 40 (sA s.lv):=aD.cell 40 rfl;have d4:∀u:Ext X,cE u.W pb 4 (iA pvv):=λu=>Ext.cell e4 u;have d6:∀u:Ext X,cE u.W pb 6 (sA pt):=λu=>Ext.cell e6 u;have d39:∀u:Ext X,cE u.W nb 39 (iA s.lr):=λu=>Ext.cell e39 u;have d40:∀u:Ext X,cE u.W nb 40 (sA s.lv):=λu=>Ext.cell e40 u;have E6:=zc e6;clear e4 e6 e39 e40 aD hX aa ak;haveI:=Ext.ne X
   go_upto_region 6 with fail
   go_cut [58] (λu58 wc=>u58=bA q/\BW X wc)
   case first=>
    have aU:((behindR s.x pt).2=false/\q=false)\/((behindR s.x pt).2=true/\(decide (s.lr<=pvv)=true/\q=true\/decide (s.lr<=pvv)=false/\(s.lv=pt/\q=true\/¬s.lv=pt/\q=false))):=by
     rw[hq];unfold za.zeq za.zdK;cases(behindR s.x pt).2<;>by_cases aT:s.lr<=pvv<;>by_cases aB:s.lv=pt<;>simp[aT,aB]
    clear hq;rcases aU with⟨aK,rfl⟩|⟨aK,⟨qlr,rfl⟩|⟨qlr,⟨aB,rfl⟩|⟨aB,rfl⟩⟩⟩;all_goals
     try have qlv:=kP aB
     refine zB (by kernel_rfl) (by kernel_rfl) ?_;repeat(first|go_big_quiet_skip|(go_big_quiet_want;first|(refine zP (some 32) rfl 116 _ rfl nb 1 rfl (yd s.x) _ (Ext.range aX) underlying116 rfl (by rw[Tryz.zc2];simp[yd]) ?_;simp only[AP];go_big_quiet_on)|(go_big_quiet_op;first|go_big_quiet_on|(apply Exists.intro;refine⟨λu=>?_,?_⟩;(· (have hc:=Calls.ext u (kE s.x pt a11 m u.W ay.o.dom (by omega) ((aQ.o.below u.b).glob.sent.cell 11 _ _ rfl aG.o) (aQ.o.below u.b).glob.len);rw[aK] at hc;exact hc));go_big_quiet_on))))
     refine wpQuiet_nil ?_;rintro _ ⟨u,rfl⟩;go_wp2_with fail
     go_meet
     case rel=>exact⟨rfl,u.b⟩
   obtain⟨Y,aV⟩:=gen wc;subst aV;obtain⟨rfl,aC⟩:=hcut;have aH:Hid (BW w Y):=aw.o.trans (aC.mono aw.o.size);have aP:=zc (HH.o.below aH);clear this d4 d6 d39 d40 hq;cases q with
   |true=>
    rw[zgT rfl] at ad;have y6:cE Y pb 6 (sA pt):=Ext.cell E6.o (Ext.of aC);clear aC;have ax:=zc (vi 2 0 0 0 0 false pt a1 aP.o aY.o (by have:=ay.o.log;omega) (by have:=ay.o.ahead;omega) (by have:=aS.o;omega) (by unfold maxLen;omega));go_wp2_with fail
    refine ax.o.mono ?_;rintro e w4 ⟨rfl,F4,R4,an,av⟩;obtain⟨c44,f44⟩:=an.zeF;obtain⟨aN,aO⟩:=an.zek 2;have aj:Hid (∃F' R',NodeW B es m F' R' nb kb rb cb n i ((s.zc8 i 2 0 false pt).zdr 2) (w4.setCell (aA nb 44) (iA 2))/\Goes F R w F' R' (w4.setCell (aA nb 44) (iA 2))):=⟨F4,R4,aN,(Goes.below aH).trans (av.trans aO)⟩;clear an av aN aO ax;go_wp2;go_ret;exact⟨by rw[ad.o];rfl,by rw[ad.o];exact aj⟩
   |false=>
    rw[zgU zgN] at ad;clear aC;have ax:=zc (qE aP ay hN aS);go_wp2_with fail
    refine ax.o.mono ?_;rintro e w4 ⟨rfl,F4,R4,an,av⟩;have aj:Hid (∃F' R',NodeW B es m F' R' nb kb rb cb n i (s.nothing i 2 2) w4/\Goes F R w F' R' w4):=⟨F4,R4,an,(Goes.below aH).trans av⟩;clear an av ax;go_wp2;go_ret;exact⟨by rw[ad.o];rfl,by rw[ad.o];exact aj⟩
 have ad:=zc (yZ (i:=i) (fits:=fits) az);have q44:((s.step:Int)==1)=false:=by rw[zgP];omega
 have q44':¬(s.step:Int)=1:=by omega
 clear az;go_enter func156,ntmps156;go_wp2;go_ret;exact⟨by rw[ad.o];rfl,F,R,by rw[ad.o];exact HH,Goes.refl F R w⟩
end
section
variable{B nb kb rb cb n i N:Nat}{es:List Addr}{m:Int}{F R:Nat->Prop}{w w':World}{s:za}
theorem yK.from{r:Bool×za}{w1:World}{e:Ending}(hb:BW w w1)(h:yK B es m F R nb kb rb cb n i r w1 e w'):yK B es m F R nb kb rb cb n i r w e w':=by
 obtain⟨h1,F',R',h2,h3⟩:=h;exact⟨h1,F',R',h2,(Goes.below hb).trans h3⟩
theorem yK.same(h:NodeW B es m F R nb kb rb cb n i s w)(hb:BW w w'):yK B es m F R nb kb rb cb n i (false,s) w (.returned (bA false)) w':=⟨rfl,F,R,h.below hb,Goes.below hb⟩
def Kf(p:zt):Bool:=decide (p.m.v<0)
def za.zdY(s:za)(p:zt):Bool:=decide (0<=p.m.v)&&s.most (votesForB 2 p.m.v p.m.s)
theorem Kt(h:NodeW B es m F R nb kb rb cb n i s w)(ok:YS N s)(hN:N<=10000000)(hsg:(s.sg i).length<=1000000000000):
 Calls prog 110 #[pA nb 0] w (yK B es m F R nb kb rb cb n i (s.zc6 i Kf) w):=by
 have HC:=zc (YQ 157 #[] Kf h ok hN hsg (enters_of func157 (by decide) rfl) (λW hW=>Gx _ W));clear h ok hsg;go_enter func110,ntmps110;go_wp2_with fail
 refine HC.o.mono ?_;rintro e w2 ⟨rfl,h2⟩;have H2:=zc h2;clear h2 HC;go_wp2;go_ret;exact⟨rfl,H2⟩
theorem Ks(h:NodeW B es m F R nb kb rb cb n i s w)(ok:YS N s)(hN:N<=10000000)(hsg:(s.sg i).length<=1000000000000):
 Calls prog 111 #[pA nb 0] w (yK B es m F R nb kb rb cb n i (s.zc6 i s.zdY) w):=by
 have hmf:∀(fn:Fn) (first cap:Array Value) (w:World),(Instr.makeFunc fn first cap).run prog w=.ok (.func fn first cap) w:=λ_ _ _ _=>rfl;obtain⟨w1,aa⟩:=gen (w.alloc (.cells #[pA nb 0] 26));have ad:BW w w1:=by rw[aa];exact bwA w
 have c1:w1.cell? (nA w 0)=some (pA nb 0):=by rw[aa];exact zgs _ w.heap.size 0 _ _ _ (zgr w _)
 have c1':(w.alloc (.cells #[pA nb 0] 26)).cell? (nA w 0)=some (pA nb 0):=by rw[<-aa];exact c1
 have ab:=h.below ad;obtain⟨V,hA,hf⟩:=ab.node;have HC:=zc (YQ 158 #[pA w.heap.size 0] s.zdY ab ok hN hsg (enters_of func158 (by decide) rfl) (λW hW=>Gl nb kb cb w.heap.size B es m V s _ W (hA.below hW) (zgu ab.bl hW.size) (ab.below hW).glob (Ext.cell c1 (Ext.of hW)) ok.dom (λe he=>⟨(ok.ids e he).f0,(ok.ids e he).f8⟩) (λe he=>(ok.ids e (List.mem_filter.1 he).1).z)));obtain⟨af,ae⟩:=ze ad aa;clear h ok hsg ab hA hf c1 ad aa;go_enter func111,ntmps111;go_wp2_with fail
 rw[<-ae.o];refine HC.o.mono ?_;intro e w2 h2;obtain⟨rfl,h3⟩:=yK.from af h2;have H2:=zc h3;clear h2 h3 HC;go_wp2;go_ret;exact⟨rfl,H2⟩
def za.zdq(s:za)(r:Nat):Bool:=decide (s.round<r)&&Qi 1 s.x (sendB (λe=>decide (e.m.r=(r:Int))) s.log)
def za.zde(s:za)(i:Nat):Bool×za:=match(List.range 21).find? s.zdq with|none=>(false,s)|some r=>(true,s.zc9 i r)
theorem jO(h:∀r,s.round<r->r<=20->s.zdq r=false):s.zde i=(false,s):=by
 unfold za.zde;have e:(List.range 21).find? s.zdq=none:=by
  rw[List.find?_eq_none];intro r hr;rw[List.mem_range] at hr;by_cases hl:s.round<r
  .rw [h r hl (by omega)];exact zgN
  unfold za.zdq;rw[zgH hl,Bool.false_and];exact zgN
 rw[e]
theorem gD{r:Nat}(h:∀q,s.round<q->q<r->s.zdq q=false)(hr:r<=20)(hy:s.zdq r=true):s.zde i=(true,s.zc9 i r):=by
 unfold za.zde;have e:(List.range 21).find? s.zdq=some r:=by
  rw[List.find?_range_eq_some];refine⟨hy,by rw[List.mem_range];omega,λq hq=>?_⟩;by_cases hl:s.round<q
  .rw [h q hl hq];rfl
  unfold za.zdq;rw[zgH hl,Bool.false_and];rfl
 rw[e]
theorem gO(h:NodeW B es m F R nb kb rb cb n i s w)(ok:YS N s)(hN:N<=10000000)(hsg:(s.sg i).length<=1000000000000):
 Calls prog 109 #[pA nb 0] w (yK B es m F R nb kb rb cb n i (s.zde i) w):=by
 have hmf:∀(fn:Fn) (first cap:Array Value) (w:World),(Instr.makeFunc fn first cap).run prog w=.ok (.func fn first cap) w:=λ_ _ _ _=>rfl;obtain⟨V,hA,hf⟩:=h.node;have c43:cE w nb 43 (iA s.round):=hA.cell 43 rfl;have hrd:(s.round:Int)<=20:=by have:=ok.rnd;omega
 obtain⟨HH,HA,ad,aB⟩:=yi h hA ok hsg;clear h hA hf ok hsg;go_enter func109,ntmps109;go_wp2;go_loopw [3] (λq wr=>∃(j b:Nat),s.round<j/\j<=21/\q=pA b 0/\w.heap.size<=b/\cL wr b #[iA j] 3/\(∀r,s.round<r->r<j->s.zdq r=false)/\BW w wr) (λq wr=>21-(intOf ((wr.cell? ((match q with| .pointer (some a)=>a|_=>(aA 0 0)))).getD undef)).toNat)
 case atStart=>
  have hj:((s.round:Int)+1)=((s.round+1:Nat):Int):=by omega
  refine⟨s.round+1,w.heap.size,by omega,by omega,rfl,zgp _,?_,λr h1 h2=>by omega,bwA w⟩;rw[<-hj];exact zgr w _
 obtain⟨j,rb0,aw,hj2,rfl,hrb,ah,aa,hb⟩:=hrel;obtain⟨HB,ak,aD⟩:=zC hb aa ah;have aj:cE wr rb0 0 (iA j):=zgs wr rb0 0 _ _ _ ah;have aq:wr.frozen? (aA rb0 0)=false:=zq ah 0;have ai:=zc aj;clear hb aa ah;by_cases ag:j=21
 .have hge:¬(j:Int)<=20:=by omega
  have al:Hid (s.zde i=(false,s)):=jO (λr h1 h2=>ak.o r h1 (by omega));clear ag;go_wp2;go_ret;rw[al.o];exact yK.same HH HB
 have hle:(j:Int)<=20:=by omega
 obtain⟨p,c,-,c37,hm,hE⟩:=(HA.o.below HB).logAt;obtain⟨HE,HM⟩:=ze hE hm;have HR:=zc (HA.o.below HB).reg;have c37u:∀u:Ext wr,cE u.W nb 37 (.slice p s.log.length c):=λu=>Ext.cell c37 u;clear hE hm c37 ag;haveI:=Ext.ne wr;cases af:Qi 1 s.x (sendB (λe=>decide (e.m.r=(j:Int))) s.log) with
 |true=>
  have al:Hid (s.zde i=(true,s.zc9 i j)):=gD ak.o (by omega) (by unfold za.zdq;rw[zgG aw,af];rfl);go_wp2_with fail
  refine zB (by kernel_rfl) (by kernel_rfl) ?_;repeat(first|go_big_quiet_skip|(go_big_quiet_want;first|(refine zP (some 17) rfl 116 _ rfl nb 1 rfl (yd s.x) _ (Ext.range HR) underlying116 rfl (by rw[Tryz.zc2];simp[yd]) ?_;simp only[AP];go_big_quiet_on)|(go_big_quiet_op;first|go_big_quiet_on|(apply Exists.intro;refine⟨λu=>?_,?_⟩;(· (first|exact Calls.ext u (vR 155 #[pA rb0 0] (λe=>decide (e.m.r=(j:Int))) s.log p c u.W (enters_of func155 (by decide) rfl) (HE.o.ext u) HM.o (gE rb0 (j:Int) s.log u.W (Ext.cell ai.o u)) (λe he=>⟨(ad.o.ids e he).f0,(ad.o.ids e he).f8⟩))|(have hc:=Calls.ext u (jM 1 s.x (sendB (λe=>decide (e.m.r=(j:Int))) s.log) u.W ad.o.dom (by omega) (by omega));rw[af] at hc;exact hc)));go_big_quiet_on))))
  refine wpQuiet_nil ?_;rintro _ ⟨u,rfl⟩;obtain⟨X,hX⟩:=gen u.W;have ab:BW wr X:=by rw[hX];exact u.b
  have az:cE X rb0 0 (iA j):=Ext.cell ai (Ext.of ab);rw[<-hX];clear hX u this c37u aj aq;have ae:Hid (BW w X):=HB.o.trans (ab.mono HB.o.size);have av:=zc (qL j (HH.o.below ae.o) ad.o hN (by omega) aB.o);clear ab;go_wp2_with fail
  refine av.o.mono ?_;rintro e w4 ⟨rfl,F4,R4,ar,au⟩;have an:Hid (yK B es m F R nb kb rb cb n i (s.zde i) w (.returned (bA true)) w4):=by rw[al.o];exact⟨rfl,F4,R4,ar,(Goes.below ae).trans au⟩
  clear ar au av;go_wp2;go_ret;exact an
 |false=>
  have aC:Hid (∀r,s.round<r->r<j+1->s.zdq r=false):=λr h1 h2=>by
   rcases Nat.lt_or_ge r j with h3|h3
   .exact ak r h1 h3
   have e:r=j:=by omega
   rw[e];unfold za.zdq;rw[af,Bool.and_false]
  go_wp2_with fail
  refine zB (by kernel_rfl) (by kernel_rfl) ?_;repeat(first|go_big_quiet_skip|(go_big_quiet_want;first|(refine zP (some 17) rfl 116 _ rfl nb 1 rfl (yd s.x) _ (Ext.range HR) underlying116 rfl (by rw[Tryz.zc2];simp[yd]) ?_;simp only[AP];go_big_quiet_on)|(go_big_quiet_op;first|go_big_quiet_on|(apply Exists.intro;refine⟨λu=>?_,?_⟩;(· (first|exact Calls.ext u (vR 155 #[pA rb0 0] (λe=>decide (e.m.r=(j:Int))) s.log p c u.W (enters_of func155 (by decide) rfl) (HE.o.ext u) HM.o (gE rb0 (j:Int) s.log u.W (Ext.cell ai.o u)) (λe he=>⟨(ad.o.ids e he).f0,(ad.o.ids e he).f8⟩))|(have hc:=Calls.ext u (jM 1 s.x (sendB (λe=>decide (e.m.r=(j:Int))) s.log) u.W ad.o.dom (by omega) (by omega));rw[af] at hc;exact hc)));go_big_quiet_on))))
  refine wpQuiet_nil ?_;rintro _ ⟨u,rfl⟩;obtain⟨X,hX⟩:=gen u.W;have ab:BW wr X:=by rw[hX];exact u.b
  have ao:cL X rb0 #[iA j] 3:=blk aD ab;have az:cE X rb0 0 (iA j):=zgs X rb0 0 _ _ _ ao;rw[<-hX];clear hX u this c37u aj aq af;have ae:Hid (BW w X):=HB.o.trans (ab.mono HB.o.size);have ay:cN (X.alloc (.cells #[iA j] 3)) X 0 (iA j):=zgs _ X.heap.size 0 _ _ _ (zgr X _);have ax:(X.alloc (.cells #[iA j] 3)).frozen? (nA X 0)=false:=zq (zgr X _) 0;clear ab ao;go_wp2;go_roundw
  case rel=>
   have hj:((j:Int)+1)=((j+1:Nat):Int):=by omega
   refine⟨j+1,X.heap.size,by omega,by omega,rfl,ae.o.size,?_,aC.o,ae.o.alloc ae.o.size _⟩;rw[<-hj];exact zgr X _
  case measure=>
   have m1:cN (X.alloc (.cells #[iA ((j:Int)+1)] 3)) X 0 (iA ((j:Int)+1)):=zgs _ X.heap.size 0 _ _ _ (zgr X _);have m2:=ai.o;simp[intOf,m1,m2];omega
end
section
variable{B nb kb rb cb n i N:Nat}{es:List Addr}{m:Int}{F R:Nat->Prop}{s:za}{w:World}
def za.zdd(s:za)(i:Nat):Bool×za:=if s.step=2/\s.most (votesNoB 2 (s.round:Int))=true then(true,s.nothing i 3 3) else(false,s)
def za.zdi(s:za):Bool×za:=if s.step=2/\s.b2=false/\s.most (votesB 2 (s.round:Int))=true then(true,s.timer 2 2) else(false,s)
def za.zdl(s:za):Bool×za:=if s.b3=false/\s.most (votesB 3 (s.round:Int))=true then(true,s.timer 3 2) else(false,s)
theorem Xc(h:NodeW B es m F R nb kb rb cb n i s w)(ok:YS N s)(hN:N<=10000000)(hsg:(s.sg i).length<=1000000000000):
 Calls prog 113 #[pA nb 0] w (yK B es m F R nb kb rb cb n i (s.zdd i) w):=by
 obtain⟨V,hA,hf⟩:=h.node;have c44:cE w nb 44 (iA s.step):=hA.cell 44 rfl;have c43:cE w nb 43 (iA s.round):=hA.cell 43 rfl;have c48:cE w nb 48 (bA s.b2):=hA.cell 48 rfl;have c49:cE w nb 49 (bA s.b3):=hA.cell 49 rfl;obtain⟨HH,HA,aj,av⟩:=yi h hA ok hsg;have ar:Hid (∀e∈s.log,0<=e.m.f/\e.m.f<8):=λe he=>⟨(ok.ids e he).f0,(ok.ids e he).f8⟩;clear h hA hf ok hsg;by_cases ae:s.step=2
 .cases hm:s.most (votesNoB 2 (s.round:Int)) with
  |true=>
   have ah:Hid (s.zdd i=(true,s.nothing i 3 3)):=by unfold Hid za.zdd;rw[zgT ⟨ae,hm⟩]
   have q2:(s.step:Int)=2:=by omega
   clear ae;go_enter func113,ntmps113;go_wp2_with (first|(go_at_call 160;refine(Zf 2 (s.round:Int) _).mono ?_;rintro e w2 ⟨g,lb,rfl,eg,aa,ag⟩;have an:=zc eg;have ak:=zc (aa s.log);have ad:=zc ag;clear eg aa ag)|(go_at_call 150;have ab:=ki nb kb cb g lb (votesNoB 2 (s.round:Int)) V s w2 (HA.o.below ad) aj.o.dom an ak ar;rw[hm] at ab;refine ab.mono ?_;rintro e w3 ⟨rfl,af⟩;have ai:Hid (BW w w3):=ad.o.trans (af.mono ad.o.size);clear af ab)|fail)
   have au:=zc (kT (HH.o.below ai) aj hN av);refine au.o.mono ?_;rintro e w4 ⟨rfl,F4,R4,ao,aq⟩;have al:Hid (yK B es m F R nb kb rb cb n i (true,s.nothing i 3 3) w (.returned (bA true)) w4):=⟨rfl,F4,R4,ao,(Goes.below ai).trans aq⟩;clear ao aq au;go_wp2;go_ret;rw[ah.o];exact al
  |false=>
   have ah:Hid (s.zdd i=(false,s)):=by unfold Hid za.zdd;rw[zgU (λh=>by rw[hm] at h;cases h.2)]
   have q2:(s.step:Int)=2:=by omega
   clear ae;go_enter func113,ntmps113;go_wp2_with (first|(go_at_call 160;refine(Zf 2 (s.round:Int) _).mono ?_;rintro e w2 ⟨g,lb,rfl,eg,aa,ag⟩;have an:=zc eg;have ak:=zc (aa s.log);have ad:=zc ag;clear eg aa ag)|(go_at_call 150;have ab:=ki nb kb cb g lb (votesNoB 2 (s.round:Int)) V s w2 (HA.o.below ad) aj.o.dom an ak ar;rw[hm] at ab;refine ab.mono ?_;rintro e w3 ⟨rfl,af⟩;have ai:Hid (BW w w3):=ad.o.trans (af.mono ad.o.size);clear af ab))
   go_ret;rw[ah.o];exact yK.same HH ai
 have ah:Hid (s.zdd i=(false,s)):=by unfold Hid za.zdd;rw[zgU (λh=>ae h.1)]
 have q2:((s.step:Int)==2)=false:=by rw[zgP];omega
 have q2':¬(s.step:Int)=2:=by omega
 clear ae;go_enter func113,ntmps113;go_wp2;go_ret;rw[ah.o];exact yK.same HH (zgq _ w)
theorem vQ(h:NodeW B es m F R nb kb rb cb n i s w)(ok:YS N s)(hN:N<=10000000)(hsg:(s.sg i).length<=1000000000000):
 Calls prog 114 #[pA nb 0] w (yK B es m F R nb kb rb cb n i (s.zdi) w):=by
 obtain⟨V,hA,hf⟩:=h.node;have c44:cE w nb 44 (iA s.step):=hA.cell 44 rfl;have c43:cE w nb 43 (iA s.round):=hA.cell 43 rfl;have c48:cE w nb 48 (bA s.b2):=hA.cell 48 rfl;have c49:cE w nb 49 (bA s.b3):=hA.cell 49 rfl;obtain⟨HH,HA,ag,HSG⟩:=yi h hA ok hsg;have ar:Hid (∀e∈s.log,0<=e.m.f/\e.m.f<8):=λe he=>⟨(ok.ids e he).f0,(ok.ids e he).f8⟩;clear h hA hf ok hsg;by_cases af:s.step=2
 .cases hb:s.b2 with
  |true=>
   have ad:Hid (s.zdi=(false,s)):=by unfold Hid za.zdi;rw[zgU (λh=>by rw[hb] at h;cases h.2.1)]
   rw[hb] at c48;have q2:(s.step:Int)=2:=by omega
   clear af hb;go_enter func114,ntmps114;go_wp2;go_ret;rw[ad.o];exact yK.same HH (zgq _ w)
  |false=>
   rw[hb] at c48;cases hm:s.most (votesB 2 (s.round:Int)) with
   |true=>
    have ad:Hid (s.zdi=(true,s.timer 2 2)):=by unfold Hid za.zdi;rw[zgT ⟨af,hb,hm⟩]
    have q2:(s.step:Int)=2:=by omega
    clear af hb;go_enter func114,ntmps114;go_wp2_with (first|(go_at_call 161;refine(xg 2 (s.round:Int) _).mono ?_;rintro e w2 ⟨g,lb,rfl,eg,aa,ai⟩;have an:=zc eg;have ak:=zc (aa s.log);have ae:=zc ai;clear eg aa ai)|(go_at_call 150;have ab:=ki nb kb cb g lb (votesB 2 (s.round:Int)) V s w2 (HA.o.below ae) ag.o.dom an ak ar;rw[hm] at ab;refine ab.mono ?_;rintro e w3 ⟨rfl,ah⟩;have aj:Hid (BW w w3):=ae.o.trans (ah.mono ae.o.size);clear ah ab)|fail)
    have au:=zc (qK 2 2 (zgS (zgR rfl)) (HH.o.below aj.o) (by have:=ag.o.tims;omega) (by have:=ag.o.tb;omega) ag.o.time (by omega) (by have:=ag.o.rnd;omega));refine au.o.mono ?_;rintro e w4 ⟨rfl,F4,ao,aq⟩;have al:Hid (yK B es m F R nb kb rb cb n i (true,s.timer 2 2) w (.returned (bA true)) w4):=⟨rfl,F4,R,ao,(Goes.below aj).trans aq⟩;clear ao aq au;go_wp2;go_ret;rw[ad.o];exact al
   |false=>
    have ad:Hid (s.zdi=(false,s)):=by unfold Hid za.zdi;rw[zgU (λh=>by rw[hm] at h;cases h.2.2)]
    have q2:(s.step:Int)=2:=by omega
    clear af hb;go_enter func114,ntmps114;go_wp2_with (first|(go_at_call 161;refine(xg 2 (s.round:Int) _).mono ?_;rintro e w2 ⟨g,lb,rfl,eg,aa,ai⟩;have an:=zc eg;have ak:=zc (aa s.log);have ae:=zc ai;clear eg aa ai)|(go_at_call 150;have ab:=ki nb kb cb g lb (votesB 2 (s.round:Int)) V s w2 (HA.o.below ae) ag.o.dom an ak ar;rw[hm] at ab;refine ab.mono ?_;rintro e w3 ⟨rfl,ah⟩;have aj:Hid (BW w w3):=ae.o.trans (ah.mono ae.o.size);clear ah ab))
    go_ret;rw[ad.o];exact yK.same HH aj
 have ad:Hid (s.zdi=(false,s)):=by unfold Hid za.zdi;rw[zgU (λh=>af h.1)]
 have q2:((s.step:Int)==2)=false:=by rw[zgP];omega
 have q2':¬(s.step:Int)=2:=by omega
 clear af;go_enter func114,ntmps114;go_wp2;go_ret;rw[ad.o];exact yK.same HH (zgq _ w)
theorem jA(h:NodeW B es m F R nb kb rb cb n i s w)(ok:YS N s)(hN:N<=10000000)(hsg:(s.sg i).length<=1000000000000):
 Calls prog 115 #[pA nb 0] w (yK B es m F R nb kb rb cb n i (s.zdl) w):=by
 obtain⟨V,hA,hf⟩:=h.node;have c44:cE w nb 44 (iA s.step):=hA.cell 44 rfl;have c43:cE w nb 43 (iA s.round):=hA.cell 43 rfl;have c48:cE w nb 48 (bA s.b2):=hA.cell 48 rfl;have c49:cE w nb 49 (bA s.b3):=hA.cell 49 rfl;obtain⟨HH,HA,ae,HSG⟩:=yi h hA ok hsg;have aq:Hid (∀e∈s.log,0<=e.m.f/\e.m.f<8):=λe he=>⟨(ok.ids e he).f0,(ok.ids e he).f8⟩;clear h hA hf ok hsg;cases hb:s.b3 with
 |true=>
  have ah:Hid (s.zdl=(false,s)):=by unfold Hid za.zdl;rw[zgU (λh=>by rw[hb] at h;cases h.1)]
  rw[hb] at c49;clear hb;go_enter func115,ntmps115;go_wp2;go_ret;rw[ah.o];exact yK.same HH (zgq _ w)
 |false=>
  rw[hb] at c49;cases hm:s.most (votesB 3 (s.round:Int)) with
  |true=>
   have ah:Hid (s.zdl=(true,s.timer 3 2)):=by unfold Hid za.zdl;rw[zgT ⟨hb,hm⟩]
   clear hb;go_enter func115,ntmps115;go_wp2_with (first|(go_at_call 161;refine(xg 3 (s.round:Int) _).mono ?_;rintro e w2 ⟨g,lb,rfl,eg,aa,ag⟩;have al:=zc eg;have aj:=zc (aa s.log);have ad:=zc ag;clear eg aa ag)|(go_at_call 150;have ab:=ki nb kb cb g lb (votesB 3 (s.round:Int)) V s w2 (HA.o.below ad) ae.o.dom al aj aq;rw[hm] at ab;refine ab.mono ?_;rintro e w3 ⟨rfl,af⟩;have ai:Hid (BW w w3):=ad.o.trans (af.mono ad.o.size);clear af ab)|fail)
   have ar:=zc (qK 3 2 (zgS (zgS rfl)) (HH.o.below ai.o) (by have:=ae.o.tims;omega) (by have:=ae.o.tb;omega) ae.o.time (by omega) (by have:=ae.o.rnd;omega));refine ar.o.mono ?_;rintro e w4 ⟨rfl,F4,an,ao⟩;have ak:Hid (yK B es m F R nb kb rb cb n i (true,s.timer 3 2) w (.returned (bA true)) w4):=⟨rfl,F4,R,an,(Goes.below ai).trans ao⟩;clear an ao ar;go_wp2;go_ret;rw[ah.o];exact ak
  |false=>
   have ah:Hid (s.zdl=(false,s)):=by unfold Hid za.zdl;rw[zgU (λh=>by rw[hm] at h;cases h.2)]
   clear hb;go_enter func115,ntmps115;go_wp2_with (first|(go_at_call 161;refine(xg 3 (s.round:Int) _).mono ?_;rintro e w2 ⟨g,lb,rfl,eg,aa,ag⟩;have al:=zc eg;have aj:=zc (aa s.log);have ad:=zc ag;clear eg aa ag)|(go_at_call 150;have ab:=ki nb kb cb g lb (votesB 3 (s.round:Int)) V s w2 (HA.o.below ad) ae.o.dom al aj aq;rw[hm] at ab;refine ab.mono ?_;rintro e w3 ⟨rfl,af⟩;have ai:Hid (BW w w3):=ad.o.trans (af.mono ad.o.size);clear af ab))
   go_ret;rw[ah.o];exact yK.same HH ai
end
section
variable{s:za}{i nb kb cb:Nat}{w:World}
def za.zed(s:za):Option zt:=propF s.log (s.round:Int) λp=>s.most (votesForB 2 (s.round:Int) p.m.s)&&s.zdK p.m.s
def za.ze4(s:za):za:={ s with held:=true }
def za.zdk(s:za)(t:zgW):za:={ s with held:=true,vr:=(s.round:Int),vv:=t }
def za.zdx(s:za):za:={ s with lr:=s.vr,lv:=s.vv }
def za.zdy(s:za)(i:Nat):Bool×za:=
 if ¬s.step=1/\s.held=false then(match s.zed with|none=>(false,s)|some p=>(true,if s.step=2 then((s.zdk p.m.s).zdx.zc8 i 3 0 false p.m.s).zdr 3 else s.zdk p.m.s)) else(false,s)
theorem vu(h:¬(¬s.step=1/\s.held=false)):s.zdy i=(false,s):=by unfold za.zdy;rw[zgU h]
theorem qY(h:s.zed=none):s.zdy i=(false,s):=by
 unfold za.zdy;rw[h];split<;>rfl
theorem qX{p:zt}(h1:¬s.step=1)(h2:s.held=false)(h:s.zed=some p):s.zdy i=(true,if s.step=2 then((s.zdk p.m.s).zdx.zc8 i 3 0 false p.m.s).zdr 3 else s.zdk p.m.s):=by unfold za.zdy;rw[zgT ⟨h1,h2⟩,h]
theorem Zu{V:yg}{s':za}(h:w.heap[nb]? =some (.cells (nodeA kb cb V s') 135 (0,0))):w.rangeAt nb 41 [iA s'.vr,sA s'.vv]:=λj v hv=>by
 match j,hv with
 |0,hv=>simp at hv;subst hv;exact zgs w nb 41 _ _ _ h
 |1,hv=>simp at hv;subst hv;exact zgs w nb 42 _ _ _ h
 |j+2,hv=>simp at hv
theorem zbc{B:Nat}{es:List Addr}{m:Int}{F R:Nat->Prop}{rb n N:Nat}(h:NodeW B es m F R nb kb rb cb n i s w)(ok:YS N s)(hN:N<=10000000)(hsg:(s.sg i).length<=1000000000000):
 Calls prog 112 #[pA nb 0] w (yK B es m F R nb kb rb cb n i (s.zdy i) w):=by
 have hmf:∀(fn:Fn) (first cap:Array Value) (w:World),(Instr.makeFunc fn first cap).run prog w=.ok (.func fn first cap) w:=λ_ _ _ _=>rfl;obtain⟨V,aO,hf⟩:=h.node;obtain⟨a1,a7⟩:=h.glob.sent.at 1 (by omega);obtain⟨w1,ao⟩:=gen (w.alloc (.cells #[pA nb 0] 26));have aM:BW w w1:=by rw[ao];exact bwA w
 have aZ:w1.heap[w.heap.size]? =some (.cells #[pA nb 0] 26 (0,0)):=by rw[ao];exact zgr w _
 have c1:cN w1 w 0 (pA nb 0):=zgs w1 w.heap.size 0 _ _ _ aZ;have ar:nb≠w.heap.size:=by have:=zj aO.blk;omega
 have aC:=aO.below aM;obtain⟨p,c,-,c37,hm,hE⟩:=aC.logAt;have c44:cE w1 nb 44 (iA s.step):=aC.cell 44 rfl;have c45:cE w1 nb 45 (bA s.held):=aC.cell 45 rfl;have C43:Hid (cE w1 nb 43 (iA s.round)):=aC.cell 43 rfl;obtain⟨C37,C1,C44,C45⟩:=yi c37 c1 c44 c45;have c1':(w.alloc (.cells #[pA nb 0] 26)).cell? (nA w 0)=some (pA nb 0):=by rw[<-ao];exact c1
 have c44':(w.alloc (.cells #[pA nb 0] 26)).cell? (aA nb 44)=some (iA s.step):=by rw[<-ao];exact c44
 have c45':(w.alloc (.cells #[pA nb 0] 26)).cell? (aA nb 45)=some (bA s.held):=by rw[<-ao];exact c45
 obtain⟨HH,HA,HF,aX,br,bu,aw,aW⟩:=vF h aO hf ok hsg a7 aM ao;have aS:=h.below aM;have af:Hid (∀W,BW w1 W->Calls prog 148 #[.slice p s.log.length c,iA s.round,.func (.func 159) #[] #[pA w.heap.size 0]] W λe w'=>e=.returned (jz s.zed)/\BW W w'):=λW hW=>jJ 159 _ _ s.log (s.round:Int) p c W (enters_of func159 (by decide) rfl) (hE.ext (Ext.of hW)) hm (Xa nb kb cb w.heap.size B es m V s _ W (aC.below hW) (zgu aS.bl hW.size) (aS.below hW).glob (Ext.cell c1 (Ext.of hW)) ok.dom (λe he=>⟨(ok.ids e he).f0,(ok.ids e he).f8⟩) (λe he=>(ok.ids e (List.mem_filter.1 he).1).z));have ae:=af;clear h aO aC hf ok hsg a7 hE hm c37 c1 c44 c45 aM aZ ao aS;obtain⟨x,aP⟩:=gen s.zed;rw[<-aP] at af ae;have aV:=zc aP;clear aP;by_cases aD:s.step=1
 .have ah:=zc (vu (s:=s) (i:=i) (λh=>h.1 aD));have q1:(s.step:Int)=1:=by omega
  clear aD;go_enter func112,ntmps112;go_wp2;go_ret;rw[ah.o];exact yK.same HH (by rw[<-aW.o];exact aw)
 have q1:((s.step:Int)==1)=false:=by rw[zgP];omega
 have q1':¬(s.step:Int)=1:=by omega
 have bq:=zc aD;cases ay:s.held with
 |true=>
  have ah:=zc (vu (s:=s) (i:=i) (λh=>by rw[ay] at h;cases h.2));rw[ay] at c45';clear aD ay;go_enter func112,ntmps112;go_wp2;go_ret;rw[ah.o];exact yK.same HH (by rw[<-aW.o];exact aw)
 |false=>
  have bs:=zc ay;rw[ay] at c45';clear aD ay;go_enter func112,ntmps112
  go_upto_region 3 with fail
  rw[<-aW.o];clear c1' c44' c45'
  go_cut [3,4] (λu3 u4 wc=>∃pb,u3=pA pb 0/\u4=bA x.isSome/\wc.heap[pb]? =some (.cells (x.getD zJ).cells 164 (0,0))/\w1.heap.size<=pb/\BW w1 wc)
  case first=>
   refine rgd (S:=λX=>BW w1 X) ((zgq _ w1).drew) λhH=>?_;refine zZ [(0,some 19,pA nb 0),(1,some 20,pA nb 0),(2,some 21,pA nb 37),(3,some 22,.slice p s.log.length c),(4,some 23,pA nb 0),(5,some 24,pA nb 0),(6,some 25,pA nb 43),(7,some 26,pA nb 43),(8,some 27,iA s.round),(9,some 28,.func (.func 159) #[] #[pA w.heap.size 0])] _ _ hH (λx h=>aI (show cN x w 0 (pA nb 0) from Ext.cell C1.o (Ext.of h)) (aI (show cE x nb 37 (.slice p s.log.length c) from Ext.cell C37.o (Ext.of h)) (show cE x nb 43 (iA s.round) from Ext.cell C43.o (Ext.of h)))) ?_;simp only[zh,AP,pA];refine gn 10 14 (λK hK=>?_) λK hK=>?_
   .go_simp;refine(af _ (by first|exact hH|exact(zgq _ w1).drew)).mono ?_;rintro en X2 ⟨rfl,az⟩;have ag:BW w1 X2:=(zgq _ w1).drew.trans (az.mono (zgp _));clear az;refine hK.out _ _ ag λhH=>?_;clear hK K
    try simp only[AP,AQ]
    refine takeN [(11,some 18,jz x),(12,some 30,.agg (x.getD zJ).cells),(13,some 31,bA x.isSome)] _ _ hH (by repeat(first|exact zgY|((first|(refine tkc rfl rfl (zgR ⟨by rfl,λx h=>?_⟩) ?_;focus(unfold jz;go_simp;done))|(refine tkc rfl rfl (zgR ⟨by rfl,λx h=>?_⟩) ?_;focus(go_simp;done)));simp only[AP]))) ?_;simp only[zh,AP];refine zp 14 λK hK=>?_;go_simp;obtain⟨X3,ab⟩:=gen (X2.alloc (.cells #[iA 0,iA 0,iA 0,iA 0,iA 0,bA false,sA ⟨#[]⟩,sA ⟨#[]⟩,bA false] 164));have a8:BW X2 X3:=by rw[ab];exact bwA X2
    have aj:X3.heap[X2.heap.size]? =some (.cells #[iA 0,iA 0,iA 0,iA 0,iA 0,bA false,sA ⟨#[]⟩,sA ⟨#[]⟩,bA false] 164 (0,0)):=by rw[ab];exact zgr X2 _
    rw[<-ab];have an:BW w1 X3:=ag.trans (a8.mono ag.size);refine hK.out _ _ an λhH=>?_;clear hK K ab
    try simp only[AP,AQ]
    refine zp 15 λK hK=>?_;rw[zgT (by rfl)];refine zr 164 _ _ rfl X2.heap.size 0 ((x.getD zJ).cells) rfl rfl 164 #[iA 0,iA 0,iA 0,iA 0,iA 0,bA false,sA ⟨#[]⟩,sA ⟨#[]⟩,bA false] aj (by simp[zt.cells]) (by simp[zt.cells,Value.oneCell']) (by rw[Tryz.zc5];simp[zt.cells]) ?_;intro X aE aG;have aa:cL X X2.heap.size ((x.getD zJ).cells) 164:=aE;have hX:BW w1 X:=an.trans (aG.below ag.size);refine hK.out _ _ hX λhH=>?_;clear hK K
    try simp only[AP,AQ]
    refine y8 [(16,some 4,bA x.isSome)] _ _ hH ?_;simp only[zh,AP];refine dnr ?_;obtain⟨pb,ai⟩:=gen X2.heap.size;rw[<-ai] at aa;rw[<-ai];have ax:w1.heap.size<=pb:=by rw[ai];exact ag.size
    clear ai aE aG a8 aj an ag;clear hH;go_wp2_with fail
    go_meet
    case rel=>exact⟨pb,rfl,rfl,aa,ax,hX⟩
   go_simp;obtain⟨X3,ab⟩:∃z,z=(w1.alloc (.cells #[iA 0,iA 0,iA 0,iA 0,iA 0,bA false,sA ⟨#[]⟩,sA ⟨#[]⟩,bA false] 164)).drew:=⟨_,rfl⟩;have an:BW w1 X3:=by rw[ab];exact(bwA w1).drew
   have aj:X3.heap[w1.heap.size]? =some (.cells #[iA 0,iA 0,iA 0,iA 0,iA 0,bA false,sA ⟨#[]⟩,sA ⟨#[]⟩,bA false] 164 (0,0)):=by rw[ab];exact zgr w1 _
   rw[<-ab];refine hK.out _ _ an λhH=>?_;clear hK K ab
   try simp only[AP,AQ]
   refine zp 10 λK hK=>?_;go_simp;refine(ae _ (by first|exact hH|exact(zgq _ w1).drew)).mono ?_;rintro en X2 ⟨rfl,az⟩;have ag:BW w1 X2:=an.trans (az.mono an.size);have aF:=blk aj az;refine hK.out _ _ ag λhH=>?_;clear hK K
   try simp only[AP,AQ]
   refine takeN [(11,some 18,jz x),(12,some 30,.agg (x.getD zJ).cells),(13,some 31,bA x.isSome)] _ _ hH (by repeat(first|exact zgY|((first|(refine tkc rfl rfl (zgR ⟨by rfl,λx h=>?_⟩) ?_;focus(unfold jz;go_simp;done))|(refine tkc rfl rfl (zgR ⟨by rfl,λx h=>?_⟩) ?_;focus(go_simp;done)));simp only[AP]))) ?_;simp only[zh,AP];refine zp 15 λK hK=>?_;rw[zgT (by rfl)];refine zr 164 _ _ rfl w1.heap.size 0 ((x.getD zJ).cells) rfl rfl 164 #[iA 0,iA 0,iA 0,iA 0,iA 0,bA false,sA ⟨#[]⟩,sA ⟨#[]⟩,bA false] aF (by simp[zt.cells]) (by simp[zt.cells,Value.oneCell']) (by rw[Tryz.zc5];simp[zt.cells]) ?_;intro X aE aG;have aa:cL X w1.heap.size ((x.getD zJ).cells) 164:=aE;have hX:BW w1 X:=ag.trans (aG.below (zgp _));refine hK.out _ _ hX λhH=>?_;clear hK K
   try simp only[AP,AQ]
   refine y8 [(16,some 4,bA x.isSome)] _ _ hH ?_;simp only[zh,AP];refine dnr ?_;obtain⟨pb,ai⟩:=gen w1.heap.size;rw[<-ai] at aa;rw[<-ai];have ax:w1.heap.size<=pb:=by rw[ai];exact zgp _
   clear ai aE aG az aF aj an ag;clear hH;go_wp2_with fail
   go_meet
   case rel=>exact⟨pb,rfl,rfl,aa,ax,hX⟩
  obtain⟨X,bo⟩:=gen wc;subst bo;obtain⟨pb,rfl,rfl,aa,ax,hX⟩:=hcut;cases x with
  |none=>
   have ah:=zc (qY (i:=i) aV.o.symm);have hsm:Option.isSome (none:Option zt)=false:=rfl;have au:Hid (BW w X):=aw.o.trans (hX.mono aw.o.size);clear hX aa ax;go_wp2;go_ret;rw[ah.o];exact yK.same HH au
  |some p=>
   have ah:=zc (qX (i:=i) bq bs aV.o.symm);have hz:=(aX.o.ids p (List.mem_of_find?_eq_some aV.o.symm)).z;obtain⟨⟨pk,ph,pr,pf,pvv,pnl,pt⟩,pfr,po⟩:=p;have hz:pt.size<=24:=hz;have au:Hid (BW w X):=aw.o.trans (hX.mono aw.o.size);have k6:cE X pb 6 (sA pt):=zgs X pb 6 _ _ _ aa;have k0:cN X w 0 (pA nb 0):=Ext.cell C1.o (Ext.of hX);have aQ:nb≠pb:=by have:=zj HA.o.blk;have:=aw.o.size;omega
   have aB:=HA.o.below au;have aY:=zc aB;have k45:cE X nb 45 (bA s.held):=aB.cell 45 rfl;have z45:X.frozen? (aA nb 45)=false:=aB.frozen 45;obtain⟨X1,aN⟩:=gen (X.setCell (aA nb 45) (bA true));have aJ:ko nb X X1:=by rw[aN];exact zd _ _ _ _
   have a6:X1.heap[nb]? =some (.cells (nodeA kb cb V s.ze4) 135 (0,0)):=by rw[aN];exact setCell_row aB.blk 45 _
   have bn:Hid (NodeAt nb kb cb V s.ze4 X1):=aB.store a6 aJ rfl rfl rfl rfl rfl rfl;have l0:cN X1 w 0 (pA nb 0):=(aJ.cell (p:=(nA w 0)) (λe=>ar e.symm)).trans k0;have l6:cE X1 pb 6 (sA pt):=(aJ.cell (p:=(aA pb 6)) (λe=>aQ e.symm)).trans k6;have l43:cE X1 nb 43 (iA s.round):=bn.o.cell 43 rfl;obtain⟨bp,aK,K0⟩:=zC aN aJ k0;clear aB hX aa ax aN aJ a6 k6;go_wp2_with fail
   rw[<-bp.o];refine rgd (S:=λW=>cN W w 0 (pA nb 0)/\cE W nb 43 (iA s.round)/\cE W pb 6 (sA pt)) ⟨l0,l43,l6⟩ λhH=>?_;refine zZ [(0,some 38,pA nb 0),(1,some 39,pA nb 0),(2,some 40,pA nb 0),(3,some 41,pA nb 43),(4,some 42,pA nb 43),(5,some 43,iA s.round),(6,some 44,pA pb 0),(7,some 45,pA pb 6),(8,some 46,sA pt),(9,some 47,.agg #[iA s.round,sA pt]),(10,some 48,pA nb 0),(11,some 49,pA nb 41)] _ _ hH (λx h=>aI h.1 (aI h.2.1 (h.2.2))) ?_;simp only[zh,AP,pA];refine zp 12 λK hK=>?_;rw[zgT (by rfl)];refine zr 127 _ _ rfl nb 41 #[iA s.round,sA pt] rfl rfl 135 (nodeA kb cb V (s.ze4)) bn.o.blk (by rw[kD];simp) (by simp[Value.oneCell']) Tryz.zdJ ?_;intro X2 aF al;have aL:cL X2 nb (nodeA kb cb V (s.zdk pt)) 135:=aF;have j1:cN X2 w 0 (pA nb 0):=(al.cell (p:=(nA w 0)) (λe=>ar e.symm)).trans hH.1;have j2:cE X2 nb 43 (iA s.round):=zgs X2 nb 43 _ _ _ aL;have j3:cE X2 pb 6 (sA pt):=(al.cell (p:=(aA pb 6)) (λe=>aQ e.symm)).trans hH.2.2;refine hK.out _ _ ⟨j1,j2,j3⟩ λhH=>?_;clear hK K aF hH;refine dnr ?_;have aq:ko nb X X2:=⟨al.os.trans aK.o.os,al.tape.trans aK.o.tape,al.output.trans aK.o.output,al.size.trans aK.o.size,λk hk=>(al.block k hk).trans (aK.o.block k hk)⟩;have bm:Hid (NodeAt nb kb cb V (s.zdk pt) X2):=aY.o.store aL aq rfl rfl rfl rfl rfl rfl;obtain⟨ad,bj⟩:=ze aq aL;have j44:cE X2 nb 44 (iA s.step):=bm.o.cell 44 rfl;clear al aq aL l0 l6 l43 k45 z45 k0;by_cases h2:s.step=2
   .rw [zgT h2] at ah;have q2:(s.step:Int)=2:=by omega
    clear h2;have r41:X2.rangeAt nb 41 [iA s.round,sA pt]:=Zu bj;go_wp2_with fail
    refine rgd (S:=λW=>cN W w 0 (pA nb 0)/\cE W pb 6 (sA pt)/\W.rangeAt nb 41 [iA s.round,sA pt]) ⟨j1,j3,r41⟩ λhH=>?_;refine takeN [(0,some 56,pA nb 0),(1,some 57,pA nb 0),(2,some 58,pA nb 0),(3,some 59,pA nb 41),(4,some 60,.agg ([iA s.round,sA pt]).toArray),(5,some 61,pA nb 0),(6,some 62,pA nb 39)] _ _ hH (by repeat(first|exact zgY|((first|refine tkc rfl rfl (zg3 (by rfl) 127 _ rfl nb 41 rfl ([iA s.round,sA pt]) _ (λw h=>id h.2.2) underlying127 rfl (by rw[Tryz.zdJ];rfl)) ?_|(refine tkc rfl rfl (zgR ⟨by rfl,λx h=>?_⟩) ?_;focus(have f0:cN x w 0 (pA nb 0):=h.1;go_simp;done)));simp only[AP]))) ?_;simp only[zh,AP,pA];refine zp 7 λK hK=>?_;rw[zgT (by rfl)];refine zr 127 _ _ rfl nb 39 #[iA s.round,sA pt] rfl rfl 135 (nodeA kb cb V (s.zdk pt)) bm.o.blk (by rw[kD];simp) (by simp[Value.oneCell']) Tryz.zdJ ?_;intro X3 aj ak;have aR:cL X3 nb (nodeA kb cb V (s.zdk pt).zdx) 135:=aj;have i1:cN X3 w 0 (pA nb 0):=(ak.cell (p:=(nA w 0)) (λe=>ar e.symm)).trans hH.1;have i2:cE X3 pb 6 (sA pt):=(ak.cell (p:=(aA pb 6)) (λe=>aQ e.symm)).trans hH.2.1;have i3:X3.rangeAt nb 41 [iA s.round,sA pt]:=Zu aR;refine hK.out _ _ ⟨i1,i2,i3⟩ λhH=>?_;clear hK K aj hH;refine dnr ?_;have aH:ko nb X X3:=⟨ak.os.trans ad.o.os,ak.tape.trans ad.o.tape,ak.output.trans ad.o.output,ak.size.trans ad.o.size,λk hk=>(ak.block k hk).trans (ad.o.block k hk)⟩;obtain⟨bb,bf⟩:=(HH.o.below au).cellAt (s':=(s.zdk pt).zdx) aY HF aR aH rfl rfl rfl rfl rfl rfl rfl;have bt:=zc bf;have i1':=i1;have bh:=zc (vi 3 0 0 0 0 false pt a1 bb bu.o (by have:=aX.o.log;show s.log.length<=_;omega) (by have:=aX.o.ahead;show s.ahead.length<=_;omega) (by have:=br.o;show(s.sg i).length<=_;omega) (by unfold maxLen;omega));clear bb bf aH aR ak i3 r41 j1 j2 j3 j44;go_wp2_with fail
    refine bh.o.mono ?_;rintro e w4 ⟨rfl,F4,R4,aT,aU⟩;obtain⟨c44,f44⟩:=aT.zeF;obtain⟨ba,bd⟩:=aT.zek 3;have hb4:w4.cell? (nA w 0)=some (pA nb 0):=(zgw (w:=X3) (a:=(nA w 0)) (aU.same.block w.heap.size (Kp i1) (λx=>x.elim (λx=>by have:=(HH.o.fl _ x).2;omega) (λx=>by have:=(HH.o.rl _ x).2;omega)))).trans i1;have av:Hid (yK B es m F R nb kb rb cb n i (true,((s.zdk pt).zdx.zc8 i 3 0 false pt).zdr 3) w (.returned (bA true)) (w4.setCell (aA nb 44) (iA 3))):=⟨rfl,F4,R4,ba,((Goes.below au).trans bt).trans (aU.trans bd)⟩;clear aT aU ba bd bh i1 i1' i2;go_wp2;go_ret;rw[ah.o];exact av
   rw[zgU h2] at ah;have q2:((s.step:Int)==2)=false:=by rw[zgP];omega
   have q2':¬(s.step:Int)=2:=by omega
   clear h2;obtain⟨bc,bg⟩:=(HH.o.below au).cellAt (s':=s.zdk pt) aY HF bj ad rfl rfl rfl rfl rfl rfl rfl;have av:Hid (yK B es m F R nb kb rb cb n i (true,s.zdk pt) w (.returned (bA true)) X2):=⟨rfl,F,R,bc,(Goes.below au).trans bg⟩;clear bc bg;go_wp2;go_ret;rw[ah.o];exact av
end
section
variable{s t:za}{i gk:Nat}{dec:za->Bool×za}
def za.zdp(dec:za->Bool×za)(i:Nat)(s:za):Bool×za:=
 if(dec s).1=true then dec s else if(s.zde i).1=true then s.zde i else if(s.zc6 i Kf).1=true then s.zc6 i Kf else if(s.zc6 i s.zdY).1=true then s.zc6 i s.zdY else
 if(s.zdy i).1=true then s.zdy i else if(s.zdd i).1=true then s.zdd i else if s.zdi.1=true then s.zdi else s.zdl
theorem xC(h:¬(s.zde i).1=true):s.zde i=(false,s):=by
 unfold za.zde at h ⊢;split
 .rfl
 rename_i r hr;rw[hr] at h;exact absurd rfl h
theorem qa{fits:zt->Bool}(h:¬(s.zc6 i fits).1=true):s.zc6 i fits=(false,s):=by
 by_cases h1:s.step=1
 .cases hp:propF s.log (s.round:Int) fits with
  |none=>exact y7 h1 hp
  |some p=>
   unfold za.zc6 at h;rw[zgT h1,hp] at h;exact absurd rfl h
 exact yZ h1
theorem ZG(h:¬(s.zdy i).1=true):s.zdy i=(false,s):=by
 by_cases h1:¬s.step=1/\s.held=false
 .cases hp:s.zed with
  |none=>exact qY hp
  |some p=>
   rw[qX h1.1 h1.2 hp] at h;exact absurd rfl h
 exact vu h1
theorem Kl(h:¬(s.zdd i).1=true):s.zdd i=(false,s):=by
 unfold za.zdd at h ⊢;split
 .rename_i h1;rw[zgT h1] at h;exact absurd rfl h
 rfl
theorem KD(h:¬s.zdi.1=true):s.zdi=(false,s):=by
 unfold za.zdi at h ⊢;split
 .rename_i h1;rw[zgT h1] at h;exact absurd rfl h
 rfl
theorem gf(h:¬s.zdl.1=true):s.zdl=(false,s):=by
 unfold za.zdl at h ⊢;split
 .rename_i h1;rw[zgT h1] at h;exact absurd rfl h
 rfl
theorem kK{r:Bool×za}(h:r.1=true):r=(true,r.2):=by rw[<-h]
def RunTo(dec:za->Bool×za)(i:Nat)(G:za->Prop)(t:za):Nat->za->Prop
 |0,s=>G s/\(s.zdp dec i).1=false/\s=t
 |k+1,s=>G s/\(s.zdp dec i).1=true/\RunTo dec i G t k (s.zdp dec i).2
theorem qC{G:za->Prop}{s1:za}(hr:RunTo dec i G t gk s)(h:s.zdp dec i=(true,s1)):∃q,gk=q+1/\RunTo dec i G t q s1:=by
 cases gk with
 |zero=>have h1:=hr.2.1;rw[h] at h1;cases h1
 |succ q=>have h1:=hr.2.2;rw[h] at h1;exact⟨q,rfl,h1⟩
theorem zaG{G:za->Prop}(hr:RunTo dec i G t gk s)(h:(s.zdp dec i).1=false):s=t:=by
 cases gk with
 |zero=>exact hr.2.2
 |succ q=>have h1:=hr.2.1;rw[h] at h1;cases h1
theorem Vd{B:Nat}{es:List Addr}{m:Int}{F R:Nat->Prop}{nb kb rb cb n N k:Nat}{s0:za}{w:World}(dec:za->Bool×za)(G:za->Prop)(hfalse:∀s,¬(dec s).1=true->dec s=(false,s))(hGok:∀s,G s->YS N s/\(s.sg i).length<=1000000000000)(hN:N<=10000000)
 (hdec:∀(F R:Nat->Prop) (s:za) (W:World),NodeW B es m F R nb kb rb cb n i s W->G s->Calls prog 108 #[pA nb 0] W (yK B es m F R nb kb rb cb n i (dec s) W))
 (h:NodeW B es m F R nb kb rb cb n i s0 w) (hrun:RunTo dec i G t k s0):
 Calls prog 55 #[pA nb 0] w λen w'=>en=.returned (.tuple #[])/\∃F' R',NodeW B es m F' R' nb kb rb cb n i t w'/\Goes F R w F' R' w':=by
 obtain⟨ar,az,ax⟩:=zC hdec hfalse hGok;have aw:Hid (∃(s:za) (F' R':Nat->Prop),NodeW B es m F' R' nb kb rb cb n i s w/\Goes F R w F' R' w/\RunTo dec i G t k s):=⟨s0,F,R,h,Goes.refl F R w,hrun⟩;clear hdec hfalse hGok h hrun;go_enter func55,ntmps55;go_wp2
 go_loopg [] k (λq wr=>∃(s:za) (F' R':Nat->Prop),NodeW B es m F' R' nb kb rb cb n i s wr/\Goes F R w F' R' wr/\RunTo dec i G t q s)
 case atStart=>exact aw
 obtain⟨s,F0,R0,au,av,ao⟩:=hrel;obtain⟨HW,aa,aj⟩:=zC au av ao;have aq:G s:=by cases gk with|zero=>exact ao.1|succ q=>exact ao.1
 have ay:=zc aq;have al:=zc (ax s aq).1;have ak:=zc (ax s aq).2;clear au av ao aq aw;go_wp2_with fail
 have hc:=ar.o _ _ s _ HW ay;by_cases h0:(dec s).1=true
 .have he:=kK h0;obtain⟨q,rfl,ag⟩:=qC aj (by unfold za.zdp;rw[zgT h0,he]);obtain⟨s1,ah⟩:∃z,z=(dec s).2:=⟨_,rfl⟩;rw[<-ah] at he ag;rw[he] at hc;have ai:=zc ag;clear ag he ah h0;refine hc.mono ?_;rintro e wk ⟨rfl,Fk,Rk,ab,ad⟩;obtain⟨af,ae⟩:=ze (aa.o.trans ad) ab;clear ab ad hc HW aa;have HW:=ae;have aa:=af;clear ae af;go_wp2
  go_roundg q
  case measure=>omega
  case rel=>exact⟨s1,Fk,Rk,HW,aa,ai⟩
 have N0:=zc h0;have he:=az.o s h0;rw[he] at hc;clear he h0;refine hc.mono ?_;rintro e wk ⟨rfl,Fk,Rk,ab,ad⟩;obtain⟨af,ae⟩:=ze (aa.o.trans ad) ab;clear ab ad hc HW aa;have HW:=ae;have aa:=af;clear ae af;go_wp2_with fail
 have hc:=gO HW al hN ak;by_cases h1:(s.zde i).1=true
 .have he:=kK h1;obtain⟨q,rfl,ag⟩:=qC aj (by unfold za.zdp;rw[zgU N0.o,zgT h1,he]);obtain⟨s1,ah⟩:∃z,z=(s.zde i).2:=⟨_,rfl⟩;rw[<-ah] at he ag;rw[he] at hc;have ai:=zc ag;clear ag he ah h1;refine hc.mono ?_;rintro e wk ⟨rfl,Fk,Rk,ab,ad⟩;obtain⟨af,ae⟩:=ze (aa.o.trans ad) ab;clear ab ad hc HW aa;have HW:=ae;have aa:=af;clear ae af;go_wp2
  go_roundg q
  case measure=>omega
  case rel=>exact⟨s1,Fk,Rk,HW,aa,ai⟩
 have N1:=zc h1;have he:=xC h1;rw[he] at hc;clear he h1;refine hc.mono ?_;rintro e wk ⟨rfl,Fk,Rk,ab,ad⟩;obtain⟨af,ae⟩:=ze (aa.o.trans ad) ab;clear ab ad hc HW aa;have HW:=ae;have aa:=af;clear ae af;go_wp2_with fail
 have hc:=Kt HW al hN ak;by_cases h2:(s.zc6 i Kf).1=true
 .have he:=kK h2;obtain⟨q,rfl,ag⟩:=qC aj (by unfold za.zdp;rw[zgU N0.o,zgU N1.o,zgT h2,he]);obtain⟨s1,ah⟩:∃z,z=(s.zc6 i Kf).2:=⟨_,rfl⟩;rw[<-ah] at he ag;rw[he] at hc;have ai:=zc ag;clear ag he ah h2;refine hc.mono ?_;rintro e wk ⟨rfl,Fk,Rk,ab,ad⟩;obtain⟨af,ae⟩:=ze (aa.o.trans ad) ab;clear ab ad hc HW aa;have HW:=ae;have aa:=af;clear ae af;go_wp2
  go_roundg q
  case measure=>omega
  case rel=>exact⟨s1,Fk,Rk,HW,aa,ai⟩
 have N2:=zc h2;have he:=qa h2;rw[he] at hc;clear he h2;refine hc.mono ?_;rintro e wk ⟨rfl,Fk,Rk,ab,ad⟩;obtain⟨af,ae⟩:=ze (aa.o.trans ad) ab;clear ab ad hc HW aa;have HW:=ae;have aa:=af;clear ae af;go_wp2_with fail
 have hc:=Ks HW al hN ak;by_cases h3:(s.zc6 i s.zdY).1=true
 .have he:=kK h3;obtain⟨q,rfl,ag⟩:=qC aj (by unfold za.zdp;rw[zgU N0.o,zgU N1.o,zgU N2.o,zgT h3,he]);obtain⟨s1,ah⟩:∃z,z=(s.zc6 i s.zdY).2:=⟨_,rfl⟩;rw[<-ah] at he ag;rw[he] at hc;have ai:=zc ag;clear ag he ah h3;refine hc.mono ?_;rintro e wk ⟨rfl,Fk,Rk,ab,ad⟩;obtain⟨af,ae⟩:=ze (aa.o.trans ad) ab;clear ab ad hc HW aa;have HW:=ae;have aa:=af;clear ae af;go_wp2
  go_roundg q
  case measure=>omega
  case rel=>exact⟨s1,Fk,Rk,HW,aa,ai⟩
 have N3:=zc h3;have he:=qa h3;rw[he] at hc;clear he h3;refine hc.mono ?_;rintro e wk ⟨rfl,Fk,Rk,ab,ad⟩;obtain⟨af,ae⟩:=ze (aa.o.trans ad) ab;clear ab ad hc HW aa;have HW:=ae;have aa:=af;clear ae af;go_wp2_with fail
 have hc:=zbc HW al hN ak;by_cases h4:(s.zdy i).1=true
 .have he:=kK h4;obtain⟨q,rfl,ag⟩:=qC aj (by unfold za.zdp;rw[zgU N0.o,zgU N1.o,zgU N2.o,zgU N3.o,zgT h4,he]);obtain⟨s1,ah⟩:∃z,z=(s.zdy i).2:=⟨_,rfl⟩;rw[<-ah] at he ag;rw[he] at hc;have ai:=zc ag;clear ag he ah h4;refine hc.mono ?_;rintro e wk ⟨rfl,Fk,Rk,ab,ad⟩;obtain⟨af,ae⟩:=ze (aa.o.trans ad) ab;clear ab ad hc HW aa;have HW:=ae;have aa:=af;clear ae af;go_wp2
  go_roundg q
  case measure=>omega
  case rel=>exact⟨s1,Fk,Rk,HW,aa,ai⟩
 have N4:=zc h4;have he:=ZG h4;rw[he] at hc;clear he h4;refine hc.mono ?_;rintro e wk ⟨rfl,Fk,Rk,ab,ad⟩;obtain⟨af,ae⟩:=ze (aa.o.trans ad) ab;clear ab ad hc HW aa;have HW:=ae;have aa:=af;clear ae af;go_wp2_with fail
 have hc:=Xc HW al hN ak;by_cases h5:(s.zdd i).1=true
 .have he:=kK h5;obtain⟨q,rfl,ag⟩:=qC aj (by unfold za.zdp;rw[zgU N0.o,zgU N1.o,zgU N2.o,zgU N3.o,zgU N4.o,zgT h5,he]);obtain⟨s1,ah⟩:∃z,z=(s.zdd i).2:=⟨_,rfl⟩;rw[<-ah] at he ag;rw[he] at hc;have ai:=zc ag;clear ag he ah h5;refine hc.mono ?_;rintro e wk ⟨rfl,Fk,Rk,ab,ad⟩;obtain⟨af,ae⟩:=ze (aa.o.trans ad) ab;clear ab ad hc HW aa;have HW:=ae;have aa:=af;clear ae af;go_wp2
  go_roundg q
  case measure=>omega
  case rel=>exact⟨s1,Fk,Rk,HW,aa,ai⟩
 have N5:=zc h5;have he:=Kl h5;rw[he] at hc;clear he h5;refine hc.mono ?_;rintro e wk ⟨rfl,Fk,Rk,ab,ad⟩;obtain⟨af,ae⟩:=ze (aa.o.trans ad) ab;clear ab ad hc HW aa;have HW:=ae;have aa:=af;clear ae af;go_wp2_with fail
 have hc:=vQ HW al hN ak;by_cases h6:(s.zdi).1=true
 .have he:=kK h6;obtain⟨q,rfl,ag⟩:=qC aj (by unfold za.zdp;rw[zgU N0.o,zgU N1.o,zgU N2.o,zgU N3.o,zgU N4.o,zgU N5.o,zgT h6,he]);obtain⟨s1,ah⟩:∃z,z=(s.zdi).2:=⟨_,rfl⟩;rw[<-ah] at he ag;rw[he] at hc;have ai:=zc ag;clear ag he ah h6;refine hc.mono ?_;rintro e wk ⟨rfl,Fk,Rk,ab,ad⟩;obtain⟨af,ae⟩:=ze (aa.o.trans ad) ab;clear ab ad hc HW aa;have HW:=ae;have aa:=af;clear ae af;go_wp2
  go_roundg q
  case measure=>omega
  case rel=>exact⟨s1,Fk,Rk,HW,aa,ai⟩
 have N6:=zc h6;have he:=KD h6;rw[he] at hc;clear he h6;refine hc.mono ?_;rintro e wk ⟨rfl,Fk,Rk,ab,ad⟩;obtain⟨af,ae⟩:=ze (aa.o.trans ad) ab;clear ab ad hc HW aa;have HW:=ae;have aa:=af;clear ae af;go_wp2_with fail
 have hc:=jA HW al hN ak;by_cases h7:(s.zdl).1=true
 .have he:=kK h7;obtain⟨q,rfl,ag⟩:=qC aj (by unfold za.zdp;rw[zgU N0.o,zgU N1.o,zgU N2.o,zgU N3.o,zgU N4.o,zgU N5.o,zgU N6.o,he]);obtain⟨s1,ah⟩:∃z,z=(s.zdl).2:=⟨_,rfl⟩;rw[<-ah] at he ag;rw[he] at hc;have ai:=zc ag;clear ag he ah h7;refine hc.mono ?_;rintro e wk ⟨rfl,Fk,Rk,ab,ad⟩;obtain⟨af,ae⟩:=ze (aa.o.trans ad) ab;clear ab ad hc HW aa;have HW:=ae;have aa:=af;clear ae af;go_wp2
  go_roundg q
  case measure=>omega
  case rel=>exact⟨s1,Fk,Rk,HW,aa,ai⟩
 have N7:=zc h7;have he:=gf h7;have E7:Hid (s.zdl.1=false):=by unfold Hid;rw[he]
 rw[he] at hc;clear he h7;refine hc.mono ?_;rintro e wk ⟨rfl,Fk,Rk,ab,ad⟩;obtain⟨af,ae⟩:=ze (aa.o.trans ad) ab;clear ab ad hc HW aa;have HW:=ae;have aa:=af;clear ae af;have HT:=zc (zaG aj (by unfold za.zdp;rw[zgU N0.o,zgU N1.o,zgU N2.o,zgU N3.o,zgU N4.o,zgU N5.o,zgU N6.o,E7.o]));have an:Hid (∃F' R',NodeW B es m F' R' nb kb rb cb n i t wk/\Goes F R w F' R' wk):=⟨Fk,Rk,by rw[<-HT.o];exact HW,aa⟩;go_wp2;first|exact bodyPost_end (v:=.tuple #[]) (by simp[results,results55]) rfl ⟨rfl,an.o⟩|exact zgJ (v:=.tuple #[]) (by simp[results,results55]) rfl ⟨rfl,an.o⟩
end
section
theorem Ki(f:Value)(w:World):Calls prog 141 #[.slice none 0 0,f] w λe w'=>e=.returned (iA (-1))/\w'=w:=by
 go_enter func141,ntmps141;go_wp2
 go_loop [5,8] (λ_ k=>k=iA 0) (λ_ _=>0)
 case atStart=>rfl
 subst hrel;go_wp2;go_ret;exact⟨rfl,rfl⟩
theorem vO(f:Value)(w:World):Calls prog 104 #[.slice none 0 0,f] w (zcZ (.slice none 0 0) [] w):=by
 have HI:=zc (Ki f w);go_enter func104,ntmps104;go_wp2_with fail
 refine HI.o.mono ?_;rintro e w2 ⟨rfl,aa⟩;have ab:=aa.symm;clear aa;subst ab;go_wp2;go_ret;exact⟨_,rfl,zgQ _ _ _ _,λg h=>h,⟨rfl,rfl,rfl,zgp _,λ_ _ _=>rfl⟩⟩
def vK:yg:=⟨[],.slice none 0 0,.slice none 0 0,.slice none 0 0,.slice none 0 0,.slice none 0 0⟩
def yR(y:Nat->Int)(sg:Nat->List zgW):za:=⟨y,[],[],[],[],0,⟨#[]⟩,0,⟨#[]⟩,0,0,false,false,false,false,0,[],0,[],sg⟩
theorem Tryz.zfo(kb cb:Nat)(y:Nat->Int)(sg:Nat->List zgW)(W:World):(Instr.build 135 #[(0,pA kb 0),(1,.agg (regA y)),(11,.agg #[.chan (some cb)])]).run prog W=.ok (.agg (nodeA kb cb vK (yR y sg))) W:=by kernel_rfl
theorem Tryz.zfS(kb cb:Nat)(y:Nat->Int)(sg:Nat->List zgW)(W:World):(Instr.box 135 (.agg (nodeA kb cb vK (yR y sg)))).run prog W=.ok (pA W.heap.size 0) (W.alloc (.cells (nodeA kb cb vK (yR y sg)) 135)):=by kernel_rfl
section
variable{P:Program}
theorem q9{ops:Array Oper}{S:World->Prop}{op:Oper}{a:Act}(hw:Region.wanted op (yielded ops a.tmps)=true)(t:TypeId)(i0 i1 i2:Nat)(x0 x1 x2:Operand)(ho:op.op=.build t #[(i0,x0),(i1,x1),(i2,x2)])(v0 v1 v2 v:Value)
 (h0:a.eval x0=v0) (h1:a.eval x1=v1) (h2:a.eval x2=v2) (hr:∀W,(Instr.build t #[(i0,v0),(i1,v1),(i2,v2)]).run P W=.ok v W):YieldsIf P ops S op v a:=
 .inl ⟨hw,λw _=>by
  unfold execOp;simp only[ho,List.map_toArray,List.map_cons,List.map_nil,h0,h1,h2,hr,Sem.run_bind,Sem.run_pure,Result.andThen_ok]⟩
theorem Yd{op:Oper}{a:Act}{w w':World}{K:Act->World->Prop}{Q:Exit->Act->World->Prop}(t:TypeId)(x:Operand)(ho:op.op=.box t x)(vx v:Value)(hx:a.eval x=vx)(hr:(Instr.box t vx).run P w=.ok v w')(h:K (a.put op.dst v) w'):op.wp P a w K Q:=by
 unfold Oper.wp execOp;simp only[ho,hx,hr,Sem.run_bind,Sem.run_pure,Result.andThen_ok];exact h
end
theorem zbe(g:Nat->Int)(p:Option Addr)(n cap:Nat)(b:Addr)(y:Nat->Int)(w:World)(hl:kG w w.heap.size p n (λi=>iA (g i)))(hg:w.cell? (aA 1 0)=some (eA b))(h:gN g n=(y,true)):
 Calls prog 52 #[.slice p n cap] w λe w'=>e=.returned (.tuple #[.agg (regA y),.nilIface])/\BW w w':=by
 have:=Vf g p n cap b w hl hg;rw[h] at this;exact this
def zcY(B:Nat)(es:List Addr)(m:Int)(R:Nat->Prop)(kb rb n i:Nat)(t:za)(w:World)(e:Ending)(w':World):Prop:=
 ∃nb cb F' R',e=.returned (.tuple #[pA nb 0,.nilIface])/\NodeW B es m F' R' nb kb rb cb n i t w'/\Goes (λ_=>False) R w F' R' w'
theorem Gp{y:Nat->Int}{sg:Nat->List zgW}(hx:Dom y)(hp:0<sumTo y 8):YS 0 ((yR y sg).zdb []):=
 ⟨hx,hp,zgv _,zgv _,zgp _,zgp _,zgp _,zgp _,zgv _,λe he=>(by cases he),λe he=>(by cases he),zgv _,λe he=>(by cases he),zgv _⟩
theorem zbS{B:Nat}{es:List Addr}{m:Int}{R:Nat->Prop}{kb rb n i N k:Nat}{sg:Nat->List zgW}{t:za}{w:World}(dec:za->Bool×za)(G:za->Prop)(hfalse:∀s,¬(dec s).1=true->dec s=(false,s))(hGok:∀s,G s->YS N s/\(s.sg i).length<=1000000000000)(hN:N<=10000000)
 (hdec:∀(nb cb:Nat) (F R:Nat->Prop) (s:za) (W:World),NodeW B es m F R nb kb rb cb n i s W->G s->Calls prog 108 #[pA nb 0] W (yK B es m F R nb kb rb cb n i (dec s) W))
 (g:Nat->Int) (p:Option Addr) (q cap:Nat) (y:Nat->Int) (hl:kG w w.heap.size p q (λj=>iA (g j))) (hgen:gN g q=(y,true)) (hx:Dom y) (hp:0<sumTo y 8)
 (hring:RingI R rb n sg w) (hkey:kq w kb rb i) (hin:i<n) (hkr:¬R kb) (hrl:∀k,R k->B<=k/\k<w.heap.size) (hglob:qw B es m w) (hbl:B<=w.heap.size) (hsg:(sg i).length<=1000000000000)
 (hrun:RunTo dec i G t k (((yR y sg).zdb []).zc9 i 0)):
 Calls prog 12 #[pA kb 0,.slice p q cap] w (zcY B es m R kb rb n i t w):=by
 obtain⟨a0,aF⟩:=hglob.sent.at 0 (by omega);obtain⟨ak,aT,ay,aV,ao,aX,aq,aS⟩:=vF (zbe g p q cap a0 y w hl (hglob.sent.cell 0 _ _ rfl aF) hgen) hring hkey hkr hrl hglob hbl hsg;obtain⟨ax,aB,a1,aW,HX,HP⟩:=xz hrun hdec hfalse hGok hx hp;have z0:=zX;clear hl hgen hring hkey hkr hrl hglob hbl hsg hrun hdec hfalse hGok hx hp aF;go_enter func12,ntmps12;go_wp2_with fail
 refine ak.o.mono ?_;rintro e w1 ⟨rfl,aK⟩;have aC:=zc aK;clear aK ak;go_wp2_with (first|(refine zk rfl 116 _ _ rfl w1.heap.size y rfl rfl 116 (regA zA) (zgr w1 _) (zg _) Tryz.zc2 ?_;intro w2 aD aE;have aU:=zc aD;have ar:Hid (BW w w2):=(aC.o.alloc aC.o.size _).trans (aE.below aC.o.size);clear aD aE)|fail)
 refine rgd (S:=λX=>BW w2 X) ((zgq _ w2).drew) λhH=>?_;refine takeN [(0,some 17,pA kb 0),(1,some 18,.agg (regA y))] _ _ hH (by repeat(first|exact zgY|((first|refine tkc rfl rfl (zv (by rfl) 116 _ rfl w1.heap.size rfl 116 y _ (λw h=>blk aU h) underlying116 rfl Tryz.zc2) ?_|(refine tkc rfl rfl (zgR ⟨by rfl,λx h=>?_⟩) ?_;focus(go_simp;done)));simp only[AP]))) ?_;simp only[zh,AP,pA];refine zp 2 λK hK=>?_;go_simp;refine(YN _).mono ?_;rintro e X2 ⟨cb,aH,rfl,aG,aJ⟩;have ai:BW w2 X2:=(zgq _ w2).drew.trans (aJ.mono (zgp _));have ah:w2.heap.size<=cb:=aH;clear aJ aH;refine hK.out _ _ ai λhH=>?_;clear hK K
 try simp only[AP,AQ]
 refine takeN [(3,some 20,.agg (nodeA kb cb vK (yR y sg)))] _ _ hH (by repeat(first|exact zgY|(refine tkc rfl rfl (q9 (by rfl) 135 0 1 11 _ _ _ rfl (pA kb 0) (.agg (regA y)) (.agg #[.chan (some cb)]) _ rfl rfl rfl (λW=>Tryz.zfo kb cb y sg W)) ?_;simp only[AP]))) ?_;simp only[zh,AP];refine zp 4 λK hK=>?_;rw[zgT (by rfl)];refine Yd 135 _ rfl (.agg (nodeA kb cb vK (yR y sg))) _ rfl (Tryz.zfS kb cb y sg X2) ?_;obtain⟨X3,ab⟩:=gen (X2.alloc (.cells (nodeA kb cb vK (yR y sg)) 135));have au:BW X2 X3:=by rw[ab];exact bwA X2
 have al:X3.heap[X2.heap.size]? =some (.cells (nodeA kb cb vK (yR y sg)) 135 (0,0)):=by rw[ab];exact zgr X2 _
 rw[<-ab];have av:BW w2 X3:=ai.trans (au.mono ai.size);refine hK.out _ _ av λhH=>?_;clear hK K ab
 try simp only[AP,AQ]
 refine zx [5] hH (λ_ h=>h) ?_;refine dnr ?_;obtain⟨nb,an⟩:=gen X2.heap.size;rw[<-an] at al;rw[<-an];have ad:w.heap.size<=nb:=by rw[an];exact zgu ar.o.size ai.size
 have ag:Hid (BW w X3):=ar.o.trans (av.mono ar.o.size);have af:w.heap.size<=cb:=zgu ar.o.size ah;have ae:qx X3 cb []:=by
  obtain⟨x1,x2,hc⟩:=aG;exact⟨x1,x2,(au.block cb (zj hc)).trans hc⟩
 have aw:NodeAt nb kb cb vK (yR y sg) X3:=⟨al,rfl,zgQ _ _ _ _,λd hd=>(by cases hd),zgQ _ _ _ _,zgQ _ _ _ _,zgQ _ _ _ _,zgQ _ _ _ _,ae,λg h=>(by cases h),λd hd=>(by cases hd),List.Pairwise.nil⟩;have aa:∀k,vK.zd4 nb cb k->k=nb\/k=cb:=λk hk=>by
  rcases hk with h|h|h|h|h|h|h|⟨d,hd,h⟩
  .exact zgR h
  .exact zgS h
  all_goals first|cases h|cases hd
 have aN:NodeW B es m (λk=>k=nb\/k=cb) R nb kb rb cb n i (yR y sg) X3:=by
  refine⟨⟨vK,aw,aa⟩,aT.o.frame λk hk=>ag.o.block k (ao k hk).2,ay.o.keep (ag.o.block kb ay.o.lt),hin,λk hk hR=>?_,λhk=>?_,aV,λk hk=>?_,λk hk=>⟨(ao k hk).1,zgt (ao k hk).2 ag.o.size⟩,aX.o.below aq ag,zgu aq ag.o.size⟩
  .have:=(ao.o k hR).2
   rcases hk with rfl|rfl<;>omega
  .have:=ay.o.lt
   rcases hk with h|h<;>omega
  rcases hk with rfl|rfl
  .exact ⟨zgu aq ad,zj al⟩
  exact⟨zgu aq af,qq ae⟩
 have aZ:Hid (Goes (λ_=>False) R w (λk=>k=nb\/k=cb) R X3):=by
  refine⟨λk hk=>?_,λk hk=>zgR hk,{ ag with block:=λk hk _=>ag.o.block k hk }⟩;rcases hk with rfl|rfl
  .exact zgS ad
  exact zgS af
 have aR:=zc (jW (N:=0) [] aN aw aa (λW b0 _ _=>vO _ W) (Gp HX.o HP.o) (by omega) aS.o);clear aN aw aa ae aG af ah ad au al av ai an;go_wp2_with fail
 refine aR.o.mono ?_;rintro e w5 ⟨rfl,F5,R5,aM,aP⟩;have aj:NodeW B es m F5 R5 nb kb rb cb n i (((yR y sg).zdb []).zc9 i 0) w5:=aM;obtain⟨aY,aQ⟩:=ze aP (Vd dec G a1 aW hN (aB nb cb) aj ax);clear aM aj aP aR;go_wp2_with fail
 refine aQ.o.mono ?_;rintro e w6 ⟨rfl,F6,R6,aL,aO⟩;have az:Hid (zcY B es m R kb rb n i t w (.returned (.tuple #[pA nb 0,.nilIface])) w6):=⟨nb,cb,F6,R6,rfl,aL,aZ.o.trans (aY.o.trans aO)⟩;clear aL aO aQ;go_wp2;go_ret2;exact az

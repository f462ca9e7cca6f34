import Derived.Test.YtcfjhbcpjpgodaaGreatDoorJ26
import Derived.Test.YtcfjhbcpjpgodaaGreatDoorJ30
namespace Go.Proofs.YtcfjhbcpjpgodaaGreatDoor
open Go.RowKit Proofs.Tryz
set_option maxRecDepth 100000
set_option maxHeartbeats 0
set_option linter.all false
section
variable{B nb kb rb cb n i:Nat}{es:List Addr}{m:Int}{F R:Nat->Prop}{s:za}
theorem zbb(y:Nat->Int):∀v∈(regA y).toList,v.oneCell'=true:=λv hv=>by
 unfold regA yU at hv;obtain⟨i,_,rfl⟩:=List.mem_map.1 hv;rfl
theorem zbz(kb cb:Nat)(V:yc)(s:za)(y:Nat->Int):((nodeA kb cb V s).toList.take 1++(regA y).toList++(nodeA kb cb V s).toList.drop (1+(regA y).size)).toArray=nodeA kb cb V { s with x:=y }:=by
 rw[zj];unfold nodeA Ql regA;simp[yU,List.range,List.range.loop]
theorem zbA(kb cb:Nat)(V:yc)(s:za)(v:Value)(d:xC)(cv:Value):(nodeA kb cb V s).setIfInBounds 35 v=nodeA kb cb { V with dv:=v,ds:=V.ds++[(d,cv)] } { s with dec:=s.dec++[d] }:=by
 unfold nodeA Ql;simp[yU,List.range,List.range.loop]
theorem X8{pb bx:Nat}{V:yc}{y:Nat->Int}{E:Array Value}{t fr:zj5}{L:List zj5}{cv:Value}{p3 dp:Option Addr}{cap3 dc:Nat}{w2 Z w3 w4:World}
 (h:NodeW B es m F R nb kb rb cb n i s w2) (hA:NodeAt nb kb cb V s w2) (hf:∀k,V.zgH nb cb k->F k) (hbx:w2.heap[bx]? =some (.cells E 164 (0,0))) (hpb:w2.heap[pb]? =some (.cells (regA y) 116 (0,0))) (hdv:V.dv=.slice dp V.ds.length dc) (hxv:Value.ownBlock (.slice dp V.ds.length dc)≠some bx) (hpv:Value.ownBlock (.slice dp V.ds.length dc)≠some pb) (hxn:bx≠nb) (hpn:pb≠nb) (hBZ:BW w2 Z)
 (hown3:w3.ownsRow 0 175 4 (.slice p3 (V.ds.length+1) cap3) (V.ds.length+1) (Zi V.ds++[sA t,sA fr,cv,bA false])) (hgrow3:Z.grownBy w3 (Value.ownBlock (.slice dp V.ds.length dc))) (hat3:Value.ownBlock (.slice p3 (V.ds.length+1) cap3)=Value.ownBlock (.slice dp V.ds.length dc)\/Value.ownBlock (.slice p3 (V.ds.length+1) cap3)=some Z.heap.size)
 (hq4:w4.heap[nb]? =some (.cells ((nodeA kb cb V s).setIfInBounds 35 (.slice p3 (V.ds.length+1) cap3)) 135 (0,0))) (ho4:kq nb w3 w4) (hcv:Z.ownsRow 0 9 1 cv L.length (L.map .string)) (hcb:∀g,cv.ownBlock=some g->w2.heap.size<=g):
 ∃F',NodeW B es m F' R nb kb rb cb n i { s with dec:=s.dec++[⟨t,fr,L,false⟩] } w4/\Goes F R w2 F' R w4/\w4.heap[bx]? =some (.cells E 164 (0,0))/\w4.heap[pb]? =some (.cells (regA y) 116 (0,0)):=by
 rw[<-hdv] at hxv hpv hgrow3 hat3;have hs:zk (λk=>k=nb\/some k=V.dv.ownBlock) w2 w4:=by
  refine⟨ho4.os.trans (hgrow3.os.trans hBZ.os),ho4.tape.trans (hgrow3.tape.trans hBZ.tape),ho4.output.trans (hgrow3.output.trans hBZ.output),?_,λk hk hn=>?_⟩
  .rw [ho4.size];exact zjF hBZ.size hgrow3.size
  rw[ho4.block k (λe=>hn (zj0 e)),hgrow3.block k (zjE hk hBZ.size) (λe=>hn (zj1 e)),hBZ.block k hk]
 have hnl:nb<w2.heap.size:=zg hA.blk;have ad:∀g,Value.ownBlock (.slice p3 (V.ds.length+1) cap3)=some g->V.dv.ownBlock=some g\/w2.heap.size<=g:=λg hg=>by
  rcases hat3 with h1|h1
  .exact zj0 (h1.symm.trans hg)
  rw[h1] at hg;cases hg;exact zj1 hBZ.size
 have ae:=hA.rows.1;have aa:∀g,Value.ownBlock (.slice p3 (V.ds.length+1) cap3)=some g->g≠nb:=λg hg e=>by
  rcases ad g hg with h1|h1
  .exact ae (e▸h1)
  omega
 have af:∀g,cv.ownBlock=some g->w4.heap[g]? =Z.heap[g]? :=λg hg=>by
  have h1:=hcb g hg;have h2:=(hcv.lt g hg).2;rw[ho4.block g (by omega),hgrow3.block g h2 (λe=>by have:=(hA.dec.lt g e.symm).2;omega)]
 obtain⟨F',h1,h2⟩:=h.ziG hA hf (.slice p3 (V.ds.length+1) cap3) cv ⟨t,fr,L,false⟩ (by rw[<-zbA];exact hq4) (by rw[Xa];exact zb hown3 (λg hg _=>ho4.block g (aa g hg))) (zb hcv λg hg _=>af g hg) hcb (by
  rcases hat3 with h1|h1
  .exact zj0 h1
  refine zj1 λg hg=>?_;rw[h1] at hg;cases hg;exact hBZ.size) hs
 exact⟨F',h1,h2,(hs.block bx (zg hbx) (λe=>e.elim hxn (λe=>hxv e.symm))).trans hbx,(hs.block pb (zg hpb) (λe=>e.elim hpn (λe=>hpv e.symm))).trans hpb⟩
theorem zdg{S T:Nat}(p:zl){w:World}(h:NodeW B es m F R nb kb rb cb n i s w)(ok:NOk S T i 0 s)(hT:T<=1000000000000)(hS:S<=900000000000)(hp:p∈s.log)(hg:s.zgc p.m.s=true):
 Calls prog 153 #[pA nb 0,.agg p.cells] w (yC B es m F R nb kb rb cb n i (true,s.zfR i p) w):=by
 obtain⟨V,hA,hf⟩:=h.node;obtain⟨iW,bu,br,bq,bp⟩:=info_parts Tryz.ziE;have bt:=(ok.log.ok p hp).z;have b6:=zc (ok.next (st:=1) (e:= -1) hp hg (λe=> !(s.kept p).zfJ e.m) (by omega) (by omega));have bI:=zc (ok.st (by omega) hT hS);obtain⟨b1,b2⟩:=zn hT hS;have b7:Hid (s.zfF<12):=by
  have h1:=ok.log.hh p hp;unfold Hid;omega
 have bU:=zm hA.dec;obtain⟨dp,dc,edv⟩:=bU;obtain⟨⟨kd,H,r,f,v,nl,t⟩,fr,own⟩:=p;have bR:t.size<=24:=bt;obtain⟨y,hy⟩:∃y,(y,true)=zi s.x t:=⟨(zi s.x t).1,by rw[<-show(zi s.x t).2=true from hg]⟩;have HY:Hid ((zi s.x t).1=y):=by unfold Hid;rw[<-hy]
 obtain⟨a11,aN⟩:=h.glob.sent.at 11 (by omega);show Calls prog 153 #[pA nb 0,.agg #[iA kd,iA H,iA r,iA f,iA v,bA nl,sA t,sA fr,bA own]] w _;obtain⟨w1,aV⟩:=gen (w.alloc (.cells #[iA kd,iA H,iA r,iA f,iA v,bA nl,sA t,sA fr,bA own] 164));have aP:BW w w1:=by rw[aV];exact bwA w
 have bb:w1.heap[w.heap.size]? =some (.cells #[iA kd,iA H,iA r,iA f,iA v,bA nl,sA t,sA fr,bA own] 164 (0,0)):=by rw[aV];exact zjC w _
 have C6:Hid (cN w1 w 6 (sA t)):=zjD w1 w.heap.size 6 _ _ _ bb;have aF:Hid (∀W,BW w1 W->Calls prog 94 #[.agg (regA s.x),sA t] W λe w'=>e=.returned (.tuple #[.agg (regA y),.nilIface])/\BW W w'):=λW hW=>by
  have bw:=h.glob.below h.bl (aP.trans (hW.mono aP.size));have h1:=zci (o:=true) s.x t a11 m y W ok.dom (by omega) (bw.sent.cell 11 _ _ rfl aN) bw.len hy;simp only[if_true] at h1;exact h1
 have bJ:Hid (w1.rangeAt nb 1 (yU s.x)):=(hA.below aP).reg;obtain⟨aL,HH,HA,HF,bk,HP,HG,aY⟩:=jR edv h hA hf ok hp hg aP;obtain⟨ch,bZ⟩:=zn bb aV;clear h hA hf ok hT hS hp hg bt hy aN aP bb aV edv;go_enter func153,ntmps153
 go_upto_region 1 with fail
 rw[<-bZ.o]
 go_cut [5,6] (λu5 u6 wc=>∃pb,u5=pA pb 0/\u6=.nilIface/\cL wc pb (regA y) 116/\w1.heap.size<=pb/\BW w1 wc)
 case first=>
  refine rgd (S:=λX=>BW w1 X) ((zjB _ w1).drew) λhH=>?_;refine takeN [(0,some 8,pA nb 0),(1,some 9,pA nb 0),(2,some 10,pA nb 1),(3,some 11,.agg (regA s.x)),(4,some 12,pA w.heap.size 0),(5,some 13,pA w.heap.size 6),(6,some 14,sA t)] _ _ hH (by repeat(first|exact zj7|((first|refine tkc rfl rfl (zka (by rfl) 116 _ rfl nb 1 rfl (yU s.x) _ (λw h=>Ext.range bJ (Ext.of h)) underlying116 rfl (by rw[Tryz.zfG];simp[yU])) ?_|(refine tkc rfl rfl (zj0 ⟨by rfl,λx h=>?_⟩) ?_;focus(have f0:cN x w 6 (sA t):=Ext.cell C6.o (Ext.of h);go_simp;done)));simp only[AP]))) ?_;simp only[ze,AP,pA];refine Jp 7 11 (λK hK=>?_) λK hK=>?_
  .go_simp;refine(aF _ (by first|exact hH|exact(zjB _ w1).drew)).mono ?_;rintro en X2 ⟨rfl,aO⟩;have aw:BW w1 X2:=(zjB _ w1).drew.trans (aO.mono (zjA _));clear aO;refine hK.out _ _ aw λhH=>?_;clear hK K
   try simp only[AP,AQ]
   refine yd [8,9,10] hH (λ_ h=>h) ?_;refine zv 11 λK hK=>?_;have z0:=yV;go_simp;clear z0;obtain⟨X3,af⟩:=gen (X2.alloc (.cells (regA yk) 116));have bV:BW X2 X3:=by rw[af];exact bwA X2
   have a7:X3.heap[X2.heap.size]? =some (.cells (regA yk) 116 (0,0)):=by rw[af];exact zjC X2 _
   rw[<-af];have aJ:BW w1 X3:=aw.trans (bV.mono aw.size);refine hK.out _ _ aJ λhH=>?_;clear hK K af
   try simp only[AP,AQ]
   refine zv 12 λK hK=>?_;rw[zj2 (by rfl)];refine zX 116 _ _ rfl X2.heap.size y rfl rfl 116 (regA yk) a7 (zj _) Tryz.zfG ?_;intro X a6 a8;have hX:BW w1 X:=aJ.trans (a8.below aw.size);refine hK.out _ _ hX λhH=>?_;clear hK K
   try simp only[AP,AQ]
   refine yd [13] hH (λ_ h=>h) ?_;refine dnr ?_;go_wp2_with fail
   go_meet
   case rel=>exact⟨X2.heap.size,rfl,rfl,a6,aw.size,hX⟩
  have z0:=yV;go_simp;clear z0;obtain⟨X3,af⟩:∃z,z=(w1.alloc (.cells (regA yk) 116)).drew:=⟨_,rfl⟩;have aJ:BW w1 X3:=by rw[af];exact(bwA w1).drew
  have a7:X3.heap[w1.heap.size]? =some (.cells (regA yk) 116 (0,0)):=by rw[af];exact zjC w1 _
  rw[<-af];refine hK.out _ _ aJ λhH=>?_;clear hK K af
  try simp only[AP,AQ]
  refine zv 7 λK hK=>?_;go_simp;refine(aF _ (by first|exact hH|exact(zjB _ w1).drew)).mono ?_;rintro en X2 ⟨rfl,aO⟩;have aw:BW w1 X2:=aJ.trans (aO.mono aJ.size);have bS:=blk a7 aO;refine hK.out _ _ aw λhH=>?_;clear hK K
  try simp only[AP,AQ]
  refine yd [8,9,10] hH (λ_ h=>h) ?_;refine zv 12 λK hK=>?_;rw[zj2 (by rfl)];refine zX 116 _ _ rfl w1.heap.size y rfl rfl 116 (regA yk) bS (zj _) Tryz.zfG ?_;intro X a6 a8;have hX:BW w1 X:=aw.trans (a8.below (zjA _));refine hK.out _ _ hX λhH=>?_;clear hK K
  try simp only[AP,AQ]
  refine yd [13] hH (λ_ h=>h) ?_;refine dnr ?_;go_wp2_with fail
  go_meet
  case rel=>exact⟨w1.heap.size,rfl,rfl,a6,zjA _,hX⟩
 obtain⟨pb,rfl,rfl,bs,bT,bg⟩:=hcut;obtain⟨w2,bQ⟩:=gen wc;subst bQ;have bo:Hid (BW w w2):=aY.o.trans (bg.mono aY.o.size);have ad:Hid (cL w2 w.heap.size #[iA kd,iA H,iA r,iA f,iA v,bA nl,sA t,sA fr,bA own] 164):=blk ch bg;obtain⟨aS,bO,ar⟩:=zS bs (HH.o.below bo) (HA.o.below bo);have bL:Hid (w2.ownsRow 0 175 4 (.slice dp V.ds.length dc) V.ds.length (Zi V.ds)):=by
  have h1:=ar.o.dec;rw[aL.o] at h1;exact h1
 have aR:Hid (nb≠w.heap.size):=λe=>by have:=zg HA.o.blk;omega
 have bK:Hid (pb≠nb):=λe=>by have h1:=zg HA.o.blk;have h2:=aY.o.size;omega
 have aQ:Hid (V.dv.ownBlock≠some w.heap.size):=λe=>by have:=(HA.o.dec.lt _ e).2;omega
 have bh:Hid (V.dv.ownBlock≠some pb):=λe=>by have h1:=(HA.o.dec.lt _ e).2;have h2:=aY.o.size;omega
 rw[aL.o] at aQ bh;have bH:Hid (w.heap.size<w2.heap.size):=zg ad;have bN:Hid (nb<w2.heap.size):=zg ar.o.blk;have bM:Hid (Value.ownBlock (.slice dp V.ds.length dc)≠some nb):=by have h1:=ar.o.rows.1;rw[aL.o] at h1;exact h1
 have aT:=zc ar.o.blk;have aE:Hid ((nodeA kb cb V s)[35]? =some (.slice dp V.ds.length dc)):=by rw[<-aL.o];rfl
 have C35:Hid (cE w2 nb 35 (.slice dp V.ds.length dc)):=ar.o.cell 35 aE;have aK:Hid (V.ds.length<=12):=by have h1:=ar.o.len;have h2:=b7.o;unfold Hid;omega
 obtain⟨CT,bf⟩:=gen (certTo (votesForB 3 r t) s.log 8);have ax:Hid (∀W,BW w2 W->Calls prog 185 #[pA nb 0,.agg #[iA kd,iA H,iA r,iA f,iA v,bA nl,sA t,sA fr,bA own]] W λe w'=>∃v,e=.returned v/\w'.ownsRow W.heap.size 9 1 v (CT).length ((CT).map .string)/\BW W w'):=λW hW=>by
  rw[bf];exact Ys nb kb cb ⟨⟨kd,H,r,f,v,nl,t⟩,fr,own⟩ V s W (ar.o.below hW) (by have:=bI.o.1.log;omega)
 have cf:=zc bf;clear bf;clear bs bT bg aF bJ C6
 go_upto_region 4 with fail
 go_cut [] (λwc=>∃F',NodeW B es m F' R nb kb rb cb n i { s with dec:=s.dec++[⟨t,fr,CT,false⟩] } wc/\Goes F R w2 F' R wc/\cL wc w.heap.size #[iA kd,iA H,iA r,iA f,iA v,bA nl,sA t,sA fr,bA own] 164/\cL wc pb (regA y) 116)
 case first=>
  refine rgd (S:=λW=>cL W w.heap.size #[iA kd,iA H,iA r,iA f,iA v,bA nl,sA t,sA fr,bA own] 164) ad λhH=>?_;refine takeN [(0,some 20,pA nb 0),(1,some 21,pA nb 0),(2,some 22,pA nb 0),(3,some 23,pA nb 35),(5,some 25,pA w.heap.size 0),(6,some 26,pA w.heap.size 6),(7,some 27,sA t),(8,some 28,pA w.heap.size 7),(9,some 29,sA fr),(10,some 30,pA nb 0),(11,some 31,.agg ([iA kd,iA H,iA r,iA f,iA v,bA nl,sA t,sA fr,bA own]).toArray)] _ _ hH (by repeat(first|exact zj7|((first|refine tkc rfl rfl (zka (by rfl) 164 _ rfl w.heap.size 0 rfl ([iA kd,iA H,iA r,iA f,iA v,bA nl,sA t,sA fr,bA own]) _ (λw h=>yG h) underlying164 rfl (by rw[Tryz.zfS];rfl)) ?_|(refine tkc rfl rfl (zj0 ⟨by rfl,λx h=>?_⟩) ?_;focus(have f0:cN x w 6 (sA t):=zjD x w.heap.size 6 _ _ _ h;have f1:cN x w 7 (sA fr):=zjD x w.heap.size 7 _ _ _ h;go_simp;done)));simp only[AP]))) ?_;simp only[ze,AP,pA];have c35d:cE w2.drew nb 35 (.slice dp V.ds.length dc):=C35.o;refine Jp 4 12 (λK hK=>?_) λK hK=>?_
  .go_simp;refine hK.out _ _ ad λhH=>?_;clear hK K
   try simp only[AP,AQ]
   refine zv 12 λK hK=>?_;go_simp;refine(ax _ ((zjB _ w2).drew)).mono ?_;rintro en X ⟨cv,rfl,au,bc⟩;obtain⟨cp,cc,rfl⟩:=zm au;have al:BW w2 X:=(zjB _ w2).drew.trans (bc.mono (zjA _));refine hK.out _ _ (blk ad al) λhH=>?_;clear hK K
   try simp only[AP,AQ]
   refine takeN [(13,some 33,.agg #[sA t,sA fr,.slice cp (CT).length cc,bA false])] _ _ hH (by repeat(first|exact zj7|(refine tkc rfl rfl (jK (by rfl) 175 0 1 2 _ _ _ rfl (sA t) (sA fr) (.slice cp (CT).length cc) (.agg #[sA t,sA fr,.slice cp (CT).length cc,bA false]) rfl rfl rfl (λW=>Tryz.zhI t fr cp (CT).length cc W)) ?_;simp only[AP]))) ?_;simp only[ze,AP];refine zv 14 λK hK=>?_;go_simp;obtain⟨Z,aj⟩:=gen (X.alloc (.cells #[sA t,sA fr,.slice cp (CT).length cc,bA false] 175));have av:BW X Z:=by rw[aj];exact bwA X
   have aU:Z.heap[X.heap.size]? =some (.cells #[sA t,sA fr,.slice cp (CT).length cc,bA false] 175 (0,0)):=by rw[aj];exact zjC X _
   rw[<-aj];clear aj;have ag:BW w2 Z:=al.trans (av.mono al.size);have ba:∀g,Value.ownBlock (.slice cp (CT).length cc)=some g->w2.heap.size<=g:=λg hg=>(au.lt g hg).1;have aq:=zb (jD au (zjG _)) (λg _ hg=>av.block g hg);refine hK.out _ _ (blk ad ag) λhH=>?_;clear hK K
   try simp only[AP,AQ]
   refine zv 15 λK hK=>?_;rw[zj2 (by rfl)];have ak:Z.ownsRow 0 175 4 (.slice dp V.ds.length dc) V.ds.length (Zi V.ds):=zb bL (λg _ hg=>ag.block g hg);refine yj _ _ _ 123 rfl 0 175 iW (.agg #[sA zj4,sA zj4,.slice none 0 0,bA false]) 4 64 underlying123 bu br bq bp rfl (by decide) (.slice dp V.ds.length dc) V.ds.length (Zi V.ds) rfl ak (nA X 0) 1 1 [sA t,sA fr,.slice cp (CT).length cc,bA false] rfl rfl ?n1 ?n2 (by have:=aK.o;unfold maxLen;omega) (by have:=aK.o;omega) (by have:=aK.o;omega) ?_
   case n1=>
    intro j u hj;rw[addr_add,zj8,zjD Z X.heap.size j _ _ _ aU];simpa using hj
   case n2=>
    intro u hu;simp at hu;rcases hu with rfl|rfl|rfl|rfl<;>rfl
   intro v3 w3 ah aa aC;have ai:cL w3 nb (nodeA kb cb V s) 135:=(aa.block nb (zjE bN ag.size) (λe=>bM e.symm)).trans (blk aT ag);have ae:cL w3 w.heap.size #[iA kd,iA H,iA r,iA f,iA v,bA nl,sA t,sA fr,bA own] 164:=(aa.block w.heap.size (zjE bH ag.size) (λe=>aQ e.symm)).trans (blk ad ag);refine hK.out _ _ ae λhH=>?_;clear hK K;simp only[AP,AQ];refine yd [16,17] hH (λ_ h=>h) ?_;have c03:cE w3 nb 35 (.slice dp V.ds.length dc):=(zjD w3 nb 35 _ _ _ ai).trans aE;have f03:w3.frozen? (aA nb 35)=false:=zt ai 35;obtain⟨p3,cap3,rfl⟩:=zm ah;refine zv 18 λK hK=>?_;go_simp;obtain⟨w4,an⟩:∃z,z=(w3.setCell (aA nb 35) (.slice p3 (V.ds.length+1) cap3)):=⟨_,rfl⟩;have ao:kq nb w3 w4:=by rw[an];exact zf w3 nb 35 _
   have aH:w4.heap[nb]? =some (.cells ((nodeA kb cb V s).setIfInBounds 35 (.slice p3 (V.ds.length+1) cap3)) 135 (0,0)):=by
    rw[an];exact setCell_row ai 35 _
   rw[<-an];have aB:cL w4 w.heap.size #[iA kd,iA H,iA r,iA f,iA v,bA nl,sA t,sA fr,bA own] 164:=(ao.block _ (by have:=aR.o;omega)).trans ae;refine hK.out _ _ aB λhH=>?_;clear hK K hH an;refine dnr ?_;go_wp2_with fail
   go_meet
   case rel=>exact X8 bO ar HF ad aS aL aQ bh (λe=>aR e.symm) bK ag ah aa aC aH ao aq ba
  go_simp;refine(ax _ ((zjB _ w2).drew)).mono ?_;rintro en X ⟨cv,rfl,au,bc⟩;obtain⟨cp,cc,rfl⟩:=zm au;have al:BW w2 X:=(zjB _ w2).drew.trans (bc.mono (zjA _));have ba:∀g,Value.ownBlock (.slice cp (CT).length cc)=some g->w2.heap.size<=g:=λg hg=>(au.lt g hg).1;have c35X:cE X nb 35 (.slice dp V.ds.length dc):=Ext.cell C35.o (Ext.of al);refine hK.out _ _ (blk ad al) λhH=>?_;clear hK K
  try simp only[AP,AQ]
  refine takeN [(13,some 33,.agg #[sA t,sA fr,.slice cp (CT).length cc,bA false])] _ _ hH (by repeat(first|exact zj7|(refine tkc rfl rfl (jK (by rfl) 175 0 1 2 _ _ _ rfl (sA t) (sA fr) (.slice cp (CT).length cc) (.agg #[sA t,sA fr,.slice cp (CT).length cc,bA false]) rfl rfl rfl (λW=>Tryz.zhI t fr cp (CT).length cc W)) ?_;simp only[AP]))) ?_;simp only[ze,AP];refine Jp 4 14 (λK hK=>?_) λK hK=>?_;focus
   go_simp;refine hK.out _ _ (blk ad al) λhH=>?_;clear hK K
   try simp only[AP,AQ]
   refine zv 14 λK hK=>?_;go_simp;obtain⟨Z,aj⟩:=gen (X.alloc (.cells #[sA t,sA fr,.slice cp (CT).length cc,bA false] 175));have av:BW X Z:=by rw[aj];exact bwA X
   have aU:Z.heap[X.heap.size]? =some (.cells #[sA t,sA fr,.slice cp (CT).length cc,bA false] 175 (0,0)):=by rw[aj];exact zjC X _
   rw[<-aj];clear aj;have ag:BW w2 Z:=al.trans (av.mono al.size);have aq:=zb (jD au (zjG _)) (λg _ hg=>av.block g hg)
  rotate_left;focus
   go_simp;obtain⟨Z,aj⟩:=gen (X.alloc (.cells #[sA t,sA fr,.slice cp (CT).length cc,bA false] 175));have av:BW X Z:=by rw[aj];exact bwA X
   have aU:Z.heap[X.heap.size]? =some (.cells #[sA t,sA fr,.slice cp (CT).length cc,bA false] 175 (0,0)):=by rw[aj];exact zjC X _
   rw[<-aj];clear aj;have ag:BW w2 Z:=al.trans (av.mono al.size);have aq:=zb (jD au (zjG _)) (λg _ hg=>av.block g hg);have c35Z:cE Z nb 35 (.slice dp V.ds.length dc):=Ext.cell C35.o (Ext.of ag);refine hK.out _ _ (blk ad ag) λhH=>?_;clear hK K
   try simp only[AP,AQ]
   refine zv 4 λK hK=>?_;go_simp
  rotate_left;all_goals
   refine hK.out _ _ (blk ad ag) λhH=>?_;clear hK K
   try simp only[AP,AQ]
   refine zv 15 λK hK=>?_;rw[zj2 (by rfl)];have ak:Z.ownsRow 0 175 4 (.slice dp V.ds.length dc) V.ds.length (Zi V.ds):=zb bL (λg _ hg=>ag.block g hg);refine yj _ _ _ 123 rfl 0 175 iW (.agg #[sA zj4,sA zj4,.slice none 0 0,bA false]) 4 64 underlying123 bu br bq bp rfl (by decide) (.slice dp V.ds.length dc) V.ds.length (Zi V.ds) rfl ak (nA X 0) 1 1 [sA t,sA fr,.slice cp (CT).length cc,bA false] rfl rfl ?n1 ?n2 (by have:=aK.o;unfold maxLen;omega) (by have:=aK.o;omega) (by have:=aK.o;omega) ?_
   case n1=>
    intro j u hj;rw[addr_add,zj8,zjD Z X.heap.size j _ _ _ aU];simpa using hj
   case n2=>
    intro u hu;simp at hu;rcases hu with rfl|rfl|rfl|rfl<;>rfl
   intro v3 w3 ah aa aC;have ai:cL w3 nb (nodeA kb cb V s) 135:=(aa.block nb (zjE bN ag.size) (λe=>bM e.symm)).trans (blk aT ag);have ae:cL w3 w.heap.size #[iA kd,iA H,iA r,iA f,iA v,bA nl,sA t,sA fr,bA own] 164:=(aa.block w.heap.size (zjE bH ag.size) (λe=>aQ e.symm)).trans (blk ad ag);refine hK.out _ _ ae λhH=>?_;clear hK K;simp only[AP,AQ];refine yd [16,17] hH (λ_ h=>h) ?_;have c03:cE w3 nb 35 (.slice dp V.ds.length dc):=(zjD w3 nb 35 _ _ _ ai).trans aE;have f03:w3.frozen? (aA nb 35)=false:=zt ai 35;obtain⟨p3,cap3,rfl⟩:=zm ah;refine zv 18 λK hK=>?_;go_simp;obtain⟨w4,an⟩:∃z,z=(w3.setCell (aA nb 35) (.slice p3 (V.ds.length+1) cap3)):=⟨_,rfl⟩;have ao:kq nb w3 w4:=by rw[an];exact zf w3 nb 35 _
   have aH:w4.heap[nb]? =some (.cells ((nodeA kb cb V s).setIfInBounds 35 (.slice p3 (V.ds.length+1) cap3)) 135 (0,0)):=by
    rw[an];exact setCell_row ai 35 _
   rw[<-an];have aB:cL w4 w.heap.size #[iA kd,iA H,iA r,iA f,iA v,bA nl,sA t,sA fr,bA own] 164:=(ao.block _ (by have:=aR.o;omega)).trans ae;refine hK.out _ _ aB λhH=>?_;clear hK K hH an;refine dnr ?_;go_wp2_with fail
   go_meet
   case rel=>exact X8 bO ar HF ad aS aL aQ bh (λe=>aR e.symm) bK ag ah aa aC aH ao aq ba
 obtain⟨F3,aW,bF,ae,aM⟩:=hcut;obtain⟨w3,bP⟩:=gen wc;subst bP;obtain⟨V3,aX,bz⟩:=aW.node;have cg:=zc ae;have bj:Hid (RegAt w3 pb 116 y):=aM;have ay:=zc aX.blk;have C63:Hid (cN w3 w 6 (sA t)):=zjD w3 w.heap.size 6 _ _ _ ae;obtain⟨s3,aZ⟩:∃z:za,z={ s with dec:=s.dec++[⟨t,fr,CT,false⟩] }:=⟨_,rfl⟩;rw[<-aZ] at aW aX ay;obtain⟨b3,bY,cj,cd⟩:=qO aZ aW aX bz;have ca:Hid (Goes F R w F3 R w3):=(Goes.below bo).trans bF;clear aW aX bz bF ae aM aZ;go_wp2_with (first|(refine zr rfl 116 _ rfl pb rfl 116 y _ bj underlying116 rfl Tryz.zfG ?_)|(refine kI rfl 116 _ _ rfl nb 1 (regA y) rfl rfl 135 (nodeA kb cb V3 s3) ay (by rw[kM,zj];omega) (zbb y) (by rw[Tryz.zfG,zj]) ?_;intro w4 aH ao;have c64:cN w4 w 6 (sA t):=(ao.cell (p:=(nA w 6)) (λe=>aR e.symm)).trans C63.o;have b4:=zc aH;have b5:=zc ao;clear aH ao)|fail)
 have bd:=bY.o.cellAt (s':={ s3 with x:=y }) cj cd (by rw[<-zbz];exact b4) b5 rfl rfl rfl rfl rfl rfl rfl;refine(zal t bd.1 (by omega)).mono ?_;rintro en w5 ⟨rfl,F5,bC,bE⟩;have b9:Hid (Goes F R w F5 R w5):=ca.o.trans (bd.2.trans bE);obtain⟨s5,az⟩:∃z:za,z=s.kept ⟨⟨kd,H,r,f,v,nl,t⟩,fr,own⟩:=⟨_,rfl⟩;have e5:({ s3 with x:=y,wait:=kP s3.wait (pcs t) }:za)=s5:=by
  rw[az,b3.o,cf.o,<-HY.o];rfl
 have aD:NodeW B es m F5 R nb kb rb cb n i s5 w5:=by
  rw[<-e5];exact bC
 obtain⟨V5,bG,bx⟩:=aD.node;have aG:=(b6.o.st (by omega) b1.o b2.o).1;rw[<-az] at aG;have bn:=zc (vJ (N:=2000) (s5.ahead.filter λe=> !s5.zfJ e.m) aD bG bx (λW b0 bW hc=>zcX nb kb cb b0 V5 s5.unlock W bW hc aG.dom aG.pos aG.hgt (λe he=>by
  have h1:e∈s.ahead:=by rw[az] at he;exact he
  exact⟨(bk.o.ahead.ok e h1).r0,(bk.o.ahead.ok e h1).r20⟩)) { aG with rnd:=by show s5.round<=20;rw[az];exact bk.o.rnd } (by omega) (by rw[az];exact bI.o.2))
 have bm:Hid ((if s5.zfF=12 then(s5.zfK (s5.ahead.filter λe=> !s5.zfJ e.m)).zfL 0 0 else(s5.zfK (s5.ahead.filter λe=> !s5.zfJ e.m)).zfH i 0)=s.zfR i ⟨⟨kd,H,r,f,v,nl,t⟩,fr,own⟩):=by
  unfold Hid za.zfR;rw[zu,<-az]
 rw[bm.o] at bn;clear bd bC aD bG bx bE e5 az aG c64;go_wp2_with fail
 refine bn.o.mono ?_;rintro en w6 ⟨rfl,F6,R6,bB,bD⟩;obtain⟨bX,b8⟩:=zn bB bD;clear bB bD bn;go_wp2;go_ret;exact⟨rfl,F6,R6,bX,b9.o.trans b8⟩
end
section
variable{B nb kb rb cb n i S T:Nat}{es:List Addr}{m:Int}{F R:Nat->Prop}{s:za}{w:World}
theorem Kx(h:NodeW B es m F R nb kb rb cb n i s w)(ok:NOk S T i 0 s)(hT:T<=1000000000000)(hS:S<=900000000000):
 Calls prog 108 #[pA nb 0] w (yC B es m F R nb kb rb cb n i (za.zfY i s) w):=by
 obtain⟨V,hA,hf⟩:=h.node;refine(Kw (λb w'=>b=(za.zfY i s).1/\∃F' R',NodeW B es m F' R' nb kb rb cb n i (za.zfY i s).2 w'/\Goes F R w F' R' w') hA h.bl h.glob (ok.st (by omega) hT hS).1 (λp r hr aa hp W hW=>?_) (λaa W hW=>?_)).mono ?_
 .obtain ⟨h1,_,_,_,h2⟩:=yO hp
  refine(zdg p (h.below hW) ok hT hS h1 h2).mono ?_;rintro e w' ⟨rfl,F',R',h3,h4⟩;rw[qa (zb5 hr aa hp)];exact⟨true,rfl,rfl,F',R',h3,(Goes.below hW).trans h4⟩
 .rw [qR (J6 aa)];exact⟨rfl,F,R,h.below hW,Goes.below hW⟩
 rintro e w' ⟨b,rfl,rfl,F',R',h3,h4⟩;exact⟨rfl,F',R',h3,h4⟩
theorem Ge(h:NodeW B es m F R nb kb rb cb n i s w)(ok:NOk S T i 0 s)(hT:T<=1000000000000)(hS:S<=900000000000):
 Calls prog 55 #[pA nb 0] w λen w'=>en=.returned (.tuple #[])/\∃F' R',NodeW B es m F' R' nb kb rb cb n i (s.zge i) w'/\Goes F R w F' R' w':=by
 obtain⟨⟨k,hk⟩,_⟩:=ok.runs;exact Gc (N:=2000) (za.zfY i) (NOk S T i 0) Ky (λs hs=>hs.st (by omega) hT hS) (by omega) (λF R s W hW hs=>Kx hW hs hT hS) h hk

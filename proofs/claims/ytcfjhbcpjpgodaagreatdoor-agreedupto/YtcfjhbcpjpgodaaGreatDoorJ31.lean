/- Proved here: a node behind one decision more. -/
import Derived.Test.YtcfjhbcpjpgodaaGreatDoorJ18
import Derived.Test.YtcfjhbcpjpgodaaGreatDoorJ25
import Derived.Test.YtcfjhbcpjpgodaaGreatDoorJ26
import Derived.Deep.DeepCutAuto
import Derived.Test.YtcfjhbcpjpgodaaGreatDoorTakeL
namespace Go.Proofs.YtcfjhbcpjpgodaaGreatDoor
open Go.RowKit Go.Proofs.Tryz
set_option linter.unusedSimpArgs false
set_option linter.unusedVariables false
set_option maxRecDepth 100000
set_option maxHeartbeats 6400000
variable{B nb kb rb cb n i S T:Nat}{es:List Addr}{m:Int}{F R:Nat→Prop}{s:NodeS}{V:NodeV}{w:World}
theorem Tryz.infoDcn:(prog.info? 175).map (fun i=>(i.zero,i.size,i.bytes))=some (some (.agg #[.string ByteArray.empty,.string ByteArray.empty,.slice none 0 0,.bool false]),4,64):=by kernel_rfl
theorem Tryz.buildDcn(t fr:ByteArray)(p:Option Addr)(n c:Nat)(W:World):(Instr.build 175 #[(0,.string t),(1,.string fr),(2,.slice p n c)]).run prog W=.ok (.agg #[.string t,.string fr,.slice p n c,.bool false]) W:=by kernel_rfl
theorem NodeW.decTurn{w':World}(h:NodeW B es m F R nb kb rb cb n i s w)(hA:NodeAt nb kb cb V s w)(hf:∀k,V.foot nb cb k→F k)(v' cv:Value)(d:DcnV)
 (hb:w'.heap[nb]? =some (.cells (nodeA kb cb { V with dv:=v',ds:=V.ds++[(d,cv)] } { s with dec:=s.dec++[d] }) 135 (0,0))) (hown:w'.ownsRow 0 175 4 v' (V.ds.length+1) (dcnL (V.ds++[(d,cv)]))) (hc:w'.ownsRow 0 9 1 cv d.cert.length (d.cert.map .string)) (hcn:∀g,cv.ownBlock=some g→w.heap.size≤g)
 (hat:v'.ownBlock=V.dv.ownBlock∨∀g,v'.ownBlock=some g→w.heap.size≤g) (hs:SameBut (fun k=>k=nb∨some k=V.dv.ownBlock) w w'):∃F',NodeW B es m F' R nb kb rb cb n i { s with dec:=s.dec++[d] } w'∧Goes F R w F' R w':=by
 obtain⟨n1,n2,n3,n4,n5,n6⟩:=hA.rows;have hv:∀g,v'.ownBlock=some g→V.dv.ownBlock=some g∨w.heap.size≤g:=fun g hg=>by
  rcases hat with h1|h1
  .exact Or.inl (h1.symm.trans hg)
  exact Or.inr (h1 g hg)
 have hN:NodeAt nb kb cb { V with dv:=v',ds:=V.ds++[(d,cv)] } { s with dec:=s.dec++[d] } w':=by
  refine⟨hb,?_,?_,?_,?_,?_,?_,?_,?_,hA.alog,?_,?_⟩
  .show (V.ds++[(d,cv)]).map (·.1)=s.dec++[d]
   rw[List.map_append,hA.eds];rfl
  .show w'.ownsRow 0 175 4 v' (V.ds++[(d,cv)]).length (dcnL (V.ds++[(d,cv)]));rw[List.length_append];exact hown
  .intro d' hd';rcases List.mem_append.1 hd' with hd|hd
   .exact own_blocks (hA.cert d' hd) fun g e hg=>hs.block g hg (fun x=>x.elim (fun x=>n6 d' hd (x▸e)) (fun x=>own_tt (hA.cert d' hd) hA.dec (by decide) g e x.symm))
   rw[List.mem_singleton] at hd;rw[hd];exact hc
  .exact own_blocks hA.wait fun g e hg=>hs.block g hg (fun x=>x.elim (fun x=>n2 (x▸e)) (fun x=>own_tt hA.wait hA.dec (by decide) g e x.symm))
  .exact own_blocks hA.log fun g e hg=>hs.block g hg (fun x=>x.elim (fun x=>n3 (x▸e)) (fun x=>own_tt hA.log hA.dec (by decide) g e x.symm))
  .exact own_blocks hA.ahead fun g e hg=>hs.block g hg (fun x=>x.elim (fun x=>n4 (x▸e)) (fun x=>own_tt hA.ahead hA.dec (by decide) g e x.symm))
  .exact own_blocks hA.tims fun g e hg=>hs.block g hg (fun x=>x.elim (fun x=>n5 (x▸e)) (fun x=>own_tt hA.tims hA.dec (by decide) g e x.symm))
  .obtain ⟨a,b,hc⟩:=hA.chan
   exact⟨a,b,(hs.block cb (chan_lt hA.chan) (fun x=>x.elim (fun x=>hA.nc x.symm) (fun x=>own_nc hA.dec hA.chan x.symm))).trans hc⟩
  .intro d' hd' g hg ha;rcases List.mem_append.1 hd' with hd|hd
   .exact hA.awc d' hd g hg ha
   rw[List.mem_singleton] at hd;rw[hd] at hg;have h1:=hcn g hg;have h2:=(hA.wait.lt g ha).2;omega
  show(V.ds++[(d,cv)]).Pairwise fun d e=>∀g,d.2.ownBlock=some g→e.2.ownBlock≠some g;rw[List.pairwise_append];refine⟨hA.acc,List.pairwise_singleton _ _,fun a ha b hb g hg hg2=>?_⟩;rw[List.mem_singleton] at hb;rw[hb] at hg2;have h1:=hcn g hg2;have h2:=((hA.cert a ha).lt g hg).2;omega
 refine⟨fun k=>F k∨v'.ownBlock=some k∨cv.ownBlock=some k,?_⟩;refine h.turnF ⟨_,hN,fun k hk=>?_⟩ rfl (fun k hk=>?_) (fun k hk=>?_) ⟨hs.os,hs.tape,hs.output,hs.size,fun k hk hn=>hs.block k hk (fun x=>x.elim (fun x=>hn (x▸hf nb (Or.inl rfl))) (fun x=>hn (hf k (Or.inr (Or.inr (Or.inl x.symm))))))⟩
 .rcases hk with rfl|rfl|e|e|e|e|e|⟨d',hd',e⟩
  .exact Or.inl (hf _ (Or.inl rfl))
  .exact Or.inl (hf _ (Or.inr (Or.inl rfl)))
  .exact Or.inr (Or.inl e)
  .exact Or.inl (hf k (Or.inr (Or.inr (Or.inr (Or.inl e)))))
  .exact Or.inl (hf k (Or.inr (Or.inr (Or.inr (Or.inr (Or.inl e))))))
  .exact Or.inl (hf k (Or.inr (Or.inr (Or.inr (Or.inr (Or.inr (Or.inl e)))))))
  .exact Or.inl (hf k (Or.inr (Or.inr (Or.inr (Or.inr (Or.inr (Or.inr (Or.inl e))))))))
  rcases List.mem_append.1 hd' with hd|hd
  .exact Or.inl (hf k (Or.inr (Or.inr (Or.inr (Or.inr (Or.inr (Or.inr (Or.inr ⟨d',hd,e⟩))))))))
  rw[List.mem_singleton] at hd;rw[hd] at e;exact Or.inr (Or.inr e)
 .rcases hk with hk|hk|hk
  .exact Or.inl hk
  .rcases hv k hk with h1|h1
   .exact Or.inl (hf k (Or.inr (Or.inr (Or.inl h1))))
   exact Or.inr h1
  exact Or.inr (hcn k hk)
 rcases hk with hk|hk|hk
 .exact Nat.lt_of_lt_of_le (h.fl k hk).2 hs.size
 .exact (hown.lt k hk).2
 exact(hc.lt k hk).2
theorem regA_oneK(y:Nat→Int):∀v∈(regA y).toList,v.oneCell'=true:=fun v hv=>by
 unfold regA regL at hv;obtain⟨i,_,rfl⟩:=List.mem_map.1 hv;rfl
theorem nodeA_reg(kb cb:Nat)(V:NodeV)(s:NodeS)(y:Nat→Int):((nodeA kb cb V s).toList.take 1++(regA y).toList++(nodeA kb cb V s).toList.drop (1+(regA y).size)).toArray=nodeA kb cb V { s with x:=y }:=by
 rw[regA_size];unfold nodeA nodeL regA;simp[regL,List.range,List.range.loop]
theorem nodeA_dec(kb cb:Nat)(V:NodeV)(s:NodeS)(v:Value)(d:DcnV)(cv:Value):(nodeA kb cb V s).setIfInBounds 35 v=nodeA kb cb { V with dv:=v,ds:=V.ds++[(d,cv)] } { s with dec:=s.dec++[d] }:=by
 unfold nodeA nodeL;simp[regL,List.range,List.range.loop]
theorem keep_dec{pb bx:Nat}{y:Nat→Int}{E:Array Value}{t fr:ByteArray}{L:List ByteArray}{cv:Value}{p3 dp:Option Addr}{cap3 dc:Nat}{w2 Z w3 w4:World}
 (h:NodeW B es m F R nb kb rb cb n i s w2) (hA:NodeAt nb kb cb V s w2) (hf:∀k,V.foot nb cb k→F k) (hbx:w2.heap[bx]? =some (.cells E 164 (0,0))) (hpb:w2.heap[pb]? =some (.cells (regA y) 116 (0,0))) (hdv:V.dv=.slice dp V.ds.length dc) (hxv:Value.ownBlock (.slice dp V.ds.length dc)≠some bx) (hpv:Value.ownBlock (.slice dp V.ds.length dc)≠some pb) (hxn:bx≠nb) (hpn:pb≠nb) (hBZ:Below w2.heap.size w2 Z)
 (hown3:w3.ownsRow 0 175 4 (.slice p3 (V.ds.length+1) cap3) (V.ds.length+1) (dcnL V.ds++[.string t,.string fr,cv,.bool false])) (hgrow3:Z.grownBy w3 (Value.ownBlock (.slice dp V.ds.length dc))) (hat3:Value.ownBlock (.slice p3 (V.ds.length+1) cap3)=Value.ownBlock (.slice dp V.ds.length dc)∨Value.ownBlock (.slice p3 (V.ds.length+1) cap3)=some Z.heap.size)
 (hq4:w4.heap[nb]? =some (.cells ((nodeA kb cb V s).setIfInBounds 35 (.slice p3 (V.ds.length+1) cap3)) 135 (0,0))) (ho4:Only nb w3 w4) (hcv:Z.ownsRow 0 9 1 cv L.length (L.map .string)) (hcb:∀g,cv.ownBlock=some g→w2.heap.size≤g):
 ∃F',NodeW B es m F' R nb kb rb cb n i { s with dec:=s.dec++[⟨t,fr,L,false⟩] } w4∧Goes F R w2 F' R w4∧w4.heap[bx]? =some (.cells E 164 (0,0))∧w4.heap[pb]? =some (.cells (regA y) 116 (0,0)):=by
 rw[←hdv] at hxv hpv hgrow3 hat3;have hs:SameBut (fun k=>k=nb∨some k=V.dv.ownBlock) w2 w4:=by
  refine⟨ho4.os.trans (hgrow3.os.trans hBZ.os),ho4.tape.trans (hgrow3.tape.trans hBZ.tape),ho4.output.trans (hgrow3.output.trans hBZ.output),?_,fun k hk hn=>?_⟩
  .rw [ho4.size];exact Nat.le_trans hBZ.size hgrow3.size
  rw[ho4.block k (fun e=>hn (Or.inl e)),hgrow3.block k (Nat.lt_of_lt_of_le hk hBZ.size) (fun e=>hn (Or.inr e)),hBZ.block k hk]
 have hnl:nb<w2.heap.size:=row_lt0 hA.blk;have hv3:∀g,Value.ownBlock (.slice p3 (V.ds.length+1) cap3)=some g→V.dv.ownBlock=some g∨w2.heap.size≤g:=fun g hg=>by
  rcases hat3 with h1|h1
  .exact Or.inl (h1.symm.trans hg)
  rw[h1] at hg;cases hg;exact Or.inr hBZ.size
 have hn1:=hA.rows.1;have hv3n:∀g,Value.ownBlock (.slice p3 (V.ds.length+1) cap3)=some g→g≠nb:=fun g hg e=>by
  rcases hv3 g hg with h1|h1
  .exact hn1 (e▸h1)
  omega
 have hcl:∀g,cv.ownBlock=some g→w4.heap[g]? =Z.heap[g]? :=fun g hg=>by
  have h1:=hcb g hg;have h2:=(hcv.lt g hg).2;rw[ho4.block g (by omega),hgrow3.block g h2 (fun e=>by have:=(hA.dec.lt g e.symm).2;omega)]
 obtain⟨F',h1,h2⟩:=h.decTurn hA hf (.slice p3 (V.ds.length+1) cap3) cv ⟨t,fr,L,false⟩ (by rw[←nodeA_dec];exact hq4) (by rw[dcnL_append];exact own_blocks hown3 (fun g hg _=>ho4.block g (hv3n g hg))) (own_blocks hcv fun g hg _=>hcl g hg) hcb (by
  rcases hat3 with h1|h1
  .exact Or.inl h1
  refine Or.inr (fun g hg=>?_);rw[h1] at hg;cases hg;exact hBZ.size) hs
 exact⟨F',h1,h2,(hs.block bx (row_lt0 hbx) (fun e=>e.elim hxn (fun e=>hxv e.symm))).trans hbx,(hs.block pb (row_lt0 hpb) (fun e=>e.elim hpn (fun e=>hpv e.symm))).trans hpb⟩
theorem keep_yes(p:EntV){w:World}(h:NodeW B es m F R nb kb rb cb n i s w)(ok:NOk S T i 0 s)(hT:T≤1000000000000)(hS:S≤900000000000)(hp:p∈s.log)(hg:s.good p.m.s=true):
 Calls prog 153 #[.pointer (some ⟨nb,0,none⟩),.agg p.cells] w (RuleP B es m F R nb kb rb cb n i (true,s.keepS i p) w):=by
 obtain⟨V,hA,hf⟩:=h.node;obtain⟨iW,hiW,hz0,hz1,hz2⟩:=info_parts Tryz.infoDcn;have hpz:=(ok.log.ok p hp).z;have HNX:=hide (ok.next (st:=1) (e:= -1) hp hg (fun e=> !(s.kept p).outsider e.m) (by omega) (by omega));have HST:=hide (ok.st (by omega) hT hS);obtain⟨HTT,HSS⟩:=hide2 hT hS;have HLH:Hid (s.height<12):=by
  have h1:=ok.log.hh p hp;unfold Hid;omega
 have hdv:=own_slice hA.dec;obtain⟨dp,dc,edv⟩:=hdv;obtain⟨⟨kd,H,r,f,v,nl,t⟩,fr,own⟩:=p;have ht24:t.size≤24:=hpz;obtain⟨y,hy⟩:∃y,(y,true)=behindR s.x t:=⟨(behindR s.x t).1,by rw[←show(behindR s.x t).2=true from hg]⟩;have HY:Hid ((behindR s.x t).1=y):=by unfold Hid;rw[←hy]
 obtain⟨a11,he11⟩:=h.glob.sent.at 11 (by omega);show Calls prog 153 #[.pointer (some ⟨nb,0,none⟩),.agg #[.int .i64 kd,.int .i64 H,.int .i64 r,.int .i64 f,.int .i64 v,.bool nl,.string t,.string fr,.bool own]] w _;obtain⟨w1,hw1⟩:=gen (w.alloc (.cells #[.int .i64 kd,.int .i64 H,.int .i64 r,.int .i64 f,.int .i64 v,.bool nl,.string t,.string fr,.bool own] 164));have hb1:Below w.heap.size w w1:=by rw[hw1];exact(Below.refl _ w).alloc (Nat.le_refl _) _
 have hbx:w1.heap[w.heap.size]? =some (.cells #[.int .i64 kd,.int .i64 H,.int .i64 r,.int .i64 f,.int .i64 v,.bool nl,.string t,.string fr,.bool own] 164 (0,0)):=by rw[hw1];exact heap_alloc_new w _
 have C6:Hid (w1.cell? ⟨w.heap.size,6,none⟩=some (.string t)):=cell_of_row w1 w.heap.size 6 _ _ _ hbx;have HBEH:Hid (∀W,Below w1.heap.size w1 W→Calls prog 94 #[.agg (regA s.x),.string t] W fun e w'=>e=.returned (.tuple #[.agg (regA y),.nilIface])∧Below W.heap.size W w'):=fun W hW=>by
  have hgw:=h.glob.below h.bl (hb1.trans (hW.mono hb1.size));have h1:=behindN (o:=true) s.x t a11 m y W ok.dom (by omega) (hgw.sent.cell 11 _ _ rfl he11) hgw.len hy;simp only[if_true] at h1;exact h1
 have HRG:Hid (w1.rangeAt nb 1 (regL s.x)):=(hA.below hb1).reg;obtain⟨HDV,HH,HA,HF,HOK,HP,HG,HB1⟩:=hide8 edv h hA hf ok hp hg hb1;obtain⟨HBX,HW1⟩:=hide2 hbx hw1;clear h hA hf ok hT hS hp hg hpz hy he11 hb1 hbx hw1 edv;go_enter func153,ntmps153
 go_upto_region 1 with fail
 rw[←HW1.out]
 go_cut [5,6] (fun u5 u6 wc=>∃pb,u5=.pointer (some ⟨pb,0,none⟩)∧u6=.nilIface∧wc.heap[pb]? =some (.cells (regA y) 116 (0,0))∧w1.heap.size≤pb∧Below w1.heap.size w1 wc)
 case first=>
  refine rgd (S:=fun X=>Below w1.heap.size w1 X) ((Below.refl _ w1).drew) (fun hH=>?_);refine takeN [(0,some 8,pA nb 0),(1,some 9,pA nb 0),(2,some 10,pA nb 1),(3,some 11,.agg (regA s.x)),(4,some 12,pA w.heap.size 0),(5,some 13,pA w.heap.size 6),(6,some 14,.string t)] _ _ hH (by repeat(first|exact True.intro|((first|refine tkc rfl rfl (yieldsIf_load_mid (by rfl) 116 _ rfl nb 1 rfl (regL s.x) _ (fun w h=>Ext.range HRG.out (Ext.of h)) underlying116 rfl (by rw[Tryz.sizeRegistry];simp[regL])) ?_|(refine tkc rfl rfl (Or.inl ⟨by rfl,fun x h=>?_⟩) ?_;focus(have f0:x.cell? ⟨w.heap.size,6,none⟩=some (.string t):=Ext.cell C6.out (Ext.of h);go_simp;done)));simp only[AP]))) ?_;simp only[takesA,AP,pA];refine rdy2 7 11 (fun K hK=>?_) (fun K hK=>?_)
  .go_simp;refine(HBEH.out _ (by first|exact hH|exact(Below.refl _ w1).drew)).mono ?_;rintro en X2 ⟨rfl,hb2⟩;have hX2:Below w1.heap.size w1 X2:=(Below.refl _ w1).drew.trans (hb2.mono (Nat.le_refl _));clear hb2;refine hK.out _ _ hX2 (fun hH=>?_);clear hK K
   try simp only[AP,AQ]
   refine takeM [(8,some 7,.tuple #[.agg (regA y),.nilIface]),(9,some 16,.agg (regA y)),(10,some 17,.nilIface)] _ _ hH ?_;simp only[takesA,AP];refine rdy1 11 (fun K hK=>?_);have z0:=regA_zero;go_simp;clear z0;obtain⟨X3,hX3e⟩:=gen (X2.alloc (.cells (regA reg0) 116));have hb3:Below X2.heap.size X2 X3:=by rw[hX3e];exact(Below.refl _ X2).alloc (Nat.le_refl _) _
   have hq3:X3.heap[X2.heap.size]? =some (.cells (regA reg0) 116 (0,0)):=by rw[hX3e];exact heap_alloc_new X2 _
   rw[←hX3e];have hX3:Below w1.heap.size w1 X3:=hX2.trans (hb3.mono hX2.size);refine hK.out _ _ hX3 (fun hH=>?_);clear hK K hX3e
   try simp only[AP,AQ]
   refine rdy1 12 (fun K hK=>?_);rw[if_pos (by rfl)];refine wp_store_reg 116 _ _ rfl X2.heap.size y rfl rfl 116 (regA reg0) hq3 (regA_size _) Tryz.sizeRegistry ?_;intro X hqX hoX;have hX:Below w1.heap.size w1 X:=hX3.trans (hoX.below hX2.size);refine hK.out _ _ hX (fun hH=>?_);clear hK K
   try simp only[AP,AQ]
   refine takeM [(13,some 6,.nilIface)] _ _ hH ?_;simp only[takesA,AP];refine dnr ?_;go_wp2_with fail
   go_meet
   case rel=>exact⟨X2.heap.size,rfl,rfl,hqX,hX2.size,hX⟩
  have z0:=regA_zero;go_simp;clear z0;obtain⟨X3,hX3e⟩:∃z,z=(w1.alloc (.cells (regA reg0) 116)).drew:=⟨_,rfl⟩;have hX3:Below w1.heap.size w1 X3:=by rw[hX3e];exact((Below.refl _ w1).alloc (Nat.le_refl _) _).drew
  have hq3:X3.heap[w1.heap.size]? =some (.cells (regA reg0) 116 (0,0)):=by rw[hX3e];exact heap_alloc_new w1 _
  rw[←hX3e];refine hK.out _ _ hX3 (fun hH=>?_);clear hK K hX3e
  try simp only[AP,AQ]
  refine rdy1 7 (fun K hK=>?_);go_simp;refine(HBEH.out _ (by first|exact hH|exact(Below.refl _ w1).drew)).mono ?_;rintro en X2 ⟨rfl,hb2⟩;have hX2:Below w1.heap.size w1 X2:=hX3.trans (hb2.mono hX3.size);have hq2:=blk hq3 hb2;refine hK.out _ _ hX2 (fun hH=>?_);clear hK K
  try simp only[AP,AQ]
  refine takeM [(8,some 7,.tuple #[.agg (regA y),.nilIface]),(9,some 16,.agg (regA y)),(10,some 17,.nilIface)] _ _ hH ?_;simp only[takesA,AP];refine rdy1 12 (fun K hK=>?_);rw[if_pos (by rfl)];refine wp_store_reg 116 _ _ rfl w1.heap.size y rfl rfl 116 (regA reg0) hq2 (regA_size _) Tryz.sizeRegistry ?_;intro X hqX hoX;have hX:Below w1.heap.size w1 X:=hX2.trans (hoX.below (Nat.le_refl _));refine hK.out _ _ hX (fun hH=>?_);clear hK K
  try simp only[AP,AQ]
  refine takeM [(13,some 6,.nilIface)] _ _ hH ?_;simp only[takesA,AP];refine dnr ?_;go_wp2_with fail
  go_meet
  case rel=>exact⟨w1.heap.size,rfl,rfl,hqX,Nat.le_refl _,hX⟩
 obtain⟨pb,rfl,rfl,hqp,hpb,hBc⟩:=hcut;obtain⟨w2,hw2⟩:=gen wc;subst hw2;have HB2:Hid (Below w.heap.size w w2):=HB1.out.trans (hBc.mono HB1.out.size);have HBX2:Hid (w2.heap[w.heap.size]? =some (.cells #[.int .i64 kd,.int .i64 H,.int .i64 r,.int .i64 f,.int .i64 v,.bool nl,.string t,.string fr,.bool own] 164 (0,0))):=blk HBX.out hBc;obtain⟨HPB2,HH2,HA2⟩:=hide3 hqp (HH.out.below HB2.out) (HA.out.below HB2.out);have HOW:Hid (w2.ownsRow 0 175 4 (.slice dp V.ds.length dc) V.ds.length (dcnL V.ds)):=by
  have h1:=HA2.out.dec;rw[HDV.out] at h1;exact h1
 have HXN:Hid (nb≠w.heap.size):=fun e=>by have:=row_lt0 HA.out.blk;omega
 have HPN:Hid (pb≠nb):=fun e=>by have h1:=row_lt0 HA.out.blk;have h2:=HB1.out.size;omega
 have HXV:Hid (V.dv.ownBlock≠some w.heap.size):=fun e=>by have:=(HA.out.dec.lt _ e).2;omega
 have HPV:Hid (V.dv.ownBlock≠some pb):=fun e=>by have h1:=(HA.out.dec.lt _ e).2;have h2:=HB1.out.size;omega
 rw[HDV.out] at HXV HPV;have HXL:Hid (w.heap.size<w2.heap.size):=row_lt0 HBX2.out;have HNL:Hid (nb<w2.heap.size):=row_lt0 HA2.out.blk;have HNV:Hid (Value.ownBlock (.slice dp V.ds.length dc)≠some nb):=by have h1:=HA2.out.rows.1;rw[HDV.out] at h1;exact h1
 have HBLK:=hide HA2.out.blk;have HC35:Hid ((nodeA kb cb V s)[35]? =some (.slice dp V.ds.length dc)):=by rw[←HDV.out];rfl
 have C35:Hid (w2.cell? ⟨nb,35,none⟩=some (.slice dp V.ds.length dc)):=HA2.out.cell 35 HC35.out;have HLN:Hid (V.ds.length≤12):=by have h1:=HA2.out.len;have h2:=HLH.out;unfold Hid;omega
 obtain⟨CT,hCT⟩:=gen (certTo (votesForB 3 r t) s.log 8);have HCERT:Hid (∀W,Below w2.heap.size w2 W→Calls prog 185 #[.pointer (some ⟨nb,0,none⟩),.agg #[.int .i64 kd,.int .i64 H,.int .i64 r,.int .i64 f,.int .i64 v,.bool nl,.string t,.string fr,.bool own]] W fun e w'=>∃v,e=.returned v∧w'.ownsRow W.heap.size 9 1 v (CT).length ((CT).map .string)∧Below W.heap.size W w'):=fun W hW=>by
  rw[hCT];exact certificate_any nb kb cb ⟨⟨kd,H,r,f,v,nl,t⟩,fr,own⟩ V s W (HA2.out.below hW) (by have:=HST.out.1.log;omega)
 have HCT:=hide hCT;clear hCT;clear hqp hpb hBc HBEH HRG C6
 go_upto_region 4 with fail
 go_cut [] (fun wc=>∃F',NodeW B es m F' R nb kb rb cb n i { s with dec:=s.dec++[⟨t,fr,CT,false⟩] } wc∧Goes F R w2 F' R wc∧wc.heap[w.heap.size]? =some (.cells #[.int .i64 kd,.int .i64 H,.int .i64 r,.int .i64 f,.int .i64 v,.bool nl,.string t,.string fr,.bool own] 164 (0,0))∧wc.heap[pb]? =some (.cells (regA y) 116 (0,0)))
 case first=>
  refine rgd (S:=fun W=>W.heap[w.heap.size]? =some (.cells #[.int .i64 kd,.int .i64 H,.int .i64 r,.int .i64 f,.int .i64 v,.bool nl,.string t,.string fr,.bool own] 164 (0,0))) HBX2.out (fun hH=>?_);refine takeN [(0,some 20,pA nb 0),(1,some 21,pA nb 0),(2,some 22,pA nb 0),(3,some 23,pA nb 35),(5,some 25,pA w.heap.size 0),(6,some 26,pA w.heap.size 6),(7,some 27,.string t),(8,some 28,pA w.heap.size 7),(9,some 29,.string fr),(10,some 30,pA nb 0),(11,some 31,.agg ([.int .i64 kd,.int .i64 H,.int .i64 r,.int .i64 f,.int .i64 v,.bool nl,.string t,.string fr,.bool own]).toArray)] _ _ hH (by repeat(first|exact True.intro|((first|refine tkc rfl rfl (yieldsIf_load_mid (by rfl) 164 _ rfl w.heap.size 0 rfl ([.int .i64 kd,.int .i64 H,.int .i64 r,.int .i64 f,.int .i64 v,.bool nl,.string t,.string fr,.bool own]) _ (fun w h=>row_range h) underlying164 rfl (by rw[Tryz.sizeEnt];rfl)) ?_|(refine tkc rfl rfl (Or.inl ⟨by rfl,fun x h=>?_⟩) ?_;focus(have f0:x.cell? ⟨w.heap.size,6,none⟩=some (.string t):=cell_of_row x w.heap.size 6 _ _ _ h;have f1:x.cell? ⟨w.heap.size,7,none⟩=some (.string fr):=cell_of_row x w.heap.size 7 _ _ _ h;go_simp;done)));simp only[AP]))) ?_;simp only[takesA,AP,pA];have c35d:w2.drew.cell? ⟨nb,35,none⟩=some (.slice dp V.ds.length dc):=C35.out;refine rdy2 4 12 (fun K hK=>?_) (fun K hK=>?_)
  .go_simp;refine hK.out _ _ HBX2.out (fun hH=>?_);clear hK K
   try simp only[AP,AQ]
   refine rdy1 12 (fun K hK=>?_);go_simp;refine(HCERT.out _ ((Below.refl _ w2).drew)).mono ?_;rintro en X ⟨cv,rfl,hcv,hbX⟩;obtain⟨cp,cc,rfl⟩:=own_slice hcv;have hBX:Below w2.heap.size w2 X:=(Below.refl _ w2).drew.trans (hbX.mono (Nat.le_refl _));refine hK.out _ _ (blk HBX2.out hBX) (fun hH=>?_);clear hK K
   try simp only[AP,AQ]
   refine takeN [(13,some 33,.agg #[.string t,.string fr,.slice cp (CT).length cc,.bool false])] _ _ hH (by repeat(first|exact True.intro|(refine tkc rfl rfl (yields_build3 (by rfl) 175 0 1 2 _ _ _ rfl (.string t) (.string fr) (.slice cp (CT).length cc) (.agg #[.string t,.string fr,.slice cp (CT).length cc,.bool false]) rfl rfl rfl (fun W=>Tryz.buildDcn t fr cp (CT).length cc W)) ?_;simp only[AP]))) ?_;simp only[takesA,AP];refine rdy1 14 (fun K hK=>?_);go_simp;obtain⟨Z,hZe⟩:=gen (X.alloc (.cells #[.string t,.string fr,.slice cp (CT).length cc,.bool false] 175));have hbZ:Below X.heap.size X Z:=by rw[hZe];exact(Below.refl _ X).alloc (Nat.le_refl _) _
   have hxZ:Z.heap[X.heap.size]? =some (.cells #[.string t,.string fr,.slice cp (CT).length cc,.bool false] 175 (0,0)):=by rw[hZe];exact heap_alloc_new X _
   rw[←hZe];clear hZe;have hBZ:Below w2.heap.size w2 Z:=hBX.trans (hbZ.mono hBX.size);have hcb:∀g,Value.ownBlock (.slice cp (CT).length cc)=some g→w2.heap.size≤g:=fun g hg=>(hcv.lt g hg).1;have hcvZ:=own_blocks (own_baseC hcv (Nat.zero_le _)) (fun g _ hg=>hbZ.block g hg);refine hK.out _ _ (blk HBX2.out hBZ) (fun hH=>?_);clear hK K
   try simp only[AP,AQ]
   refine rdy1 15 (fun K hK=>?_);rw[if_pos (by rfl)];have hown2:Z.ownsRow 0 175 4 (.slice dp V.ds.length dc) V.ds.length (dcnL V.ds):=own_blocks HOW.out (fun g _ hg=>hBZ.block g hg);refine wp_append_at _ _ _ 123 rfl 0 175 iW (.agg #[.string ByteArray.empty,.string ByteArray.empty,.slice none 0 0,.bool false]) 4 64 underlying123 hiW hz0 hz1 hz2 rfl (by decide) (.slice dp V.ds.length dc) V.ds.length (dcnL V.ds) rfl hown2 ⟨X.heap.size,0,none⟩ 1 1 [.string t,.string fr,.slice cp (CT).length cc,.bool false] rfl rfl ?n1 ?n2 (by have:=HLN.out;unfold maxLen;omega) (by have:=HLN.out;omega) (by have:=HLN.out;omega) ?_
   case n1=>
    intro j u hj;rw[addr_add,Nat.zero_add,cell_of_row Z X.heap.size j _ _ _ hxZ];simpa using hj
   case n2=>
    intro u hu;simp at hu;rcases hu with rfl|rfl|rfl|rfl<;>rfl
   intro v3 w3 hown3 hgrow3 hat3;have hnb3:w3.heap[nb]? =some (.cells (nodeA kb cb V s) 135 (0,0)):=(hgrow3.block nb (Nat.lt_of_lt_of_le HNL.out hBZ.size) (fun e=>HNV.out e.symm)).trans (blk HBLK.out hBZ);have hbx3:w3.heap[w.heap.size]? =some (.cells #[.int .i64 kd,.int .i64 H,.int .i64 r,.int .i64 f,.int .i64 v,.bool nl,.string t,.string fr,.bool own] 164 (0,0)):=(hgrow3.block w.heap.size (Nat.lt_of_lt_of_le HXL.out hBZ.size) (fun e=>HXV.out e.symm)).trans (blk HBX2.out hBZ);refine hK.out _ _ hbx3 (fun hH=>?_);clear hK K;simp only[AP,AQ];refine takeM [(16,some 36,pA nb 0),(17,some 37,pA nb 35)] _ _ hH ?_;simp only[takesA,AP,pA];have c03:w3.cell? ⟨nb,35,none⟩=some (.slice dp V.ds.length dc):=(cell_of_row w3 nb 35 _ _ _ hnb3).trans HC35.out;have f03:w3.frozen? ⟨nb,35,none⟩=false:=frozen_row hnb3 35;obtain⟨p3,cap3,rfl⟩:=own_slice hown3;refine rdy1 18 (fun K hK=>?_);go_simp;obtain⟨w4,hw4⟩:∃z,z=(w3.setCell ⟨nb,35,none⟩ (.slice p3 (V.ds.length+1) cap3)):=⟨_,rfl⟩;have ho4:Only nb w3 w4:=by rw[hw4];exact only_setCell w3 nb 35 _
   have hq4:w4.heap[nb]? =some (.cells ((nodeA kb cb V s).setIfInBounds 35 (.slice p3 (V.ds.length+1) cap3)) 135 (0,0)):=by
    rw[hw4];exact setCell_row hnb3 35 _
   rw[←hw4];have hbx4:w4.heap[w.heap.size]? =some (.cells #[.int .i64 kd,.int .i64 H,.int .i64 r,.int .i64 f,.int .i64 v,.bool nl,.string t,.string fr,.bool own] 164 (0,0)):=(ho4.block _ (by have:=HXN.out;omega)).trans hbx3;refine hK.out _ _ hbx4 (fun hH=>?_);clear hK K hH hw4;refine dnr ?_;go_wp2_with fail
   go_meet
   case rel=>exact keep_dec HH2.out HA2.out HF.out HBX2.out HPB2.out HDV.out HXV.out HPV.out (fun e=>HXN.out e.symm) HPN.out hBZ hown3 hgrow3 hat3 hq4 ho4 hcvZ hcb
  go_simp;refine(HCERT.out _ ((Below.refl _ w2).drew)).mono ?_;rintro en X ⟨cv,rfl,hcv,hbX⟩;obtain⟨cp,cc,rfl⟩:=own_slice hcv;have hBX:Below w2.heap.size w2 X:=(Below.refl _ w2).drew.trans (hbX.mono (Nat.le_refl _));have hcb:∀g,Value.ownBlock (.slice cp (CT).length cc)=some g→w2.heap.size≤g:=fun g hg=>(hcv.lt g hg).1;have c35X:X.cell? ⟨nb,35,none⟩=some (.slice dp V.ds.length dc):=Ext.cell C35.out (Ext.of hBX);refine hK.out _ _ (blk HBX2.out hBX) (fun hH=>?_);clear hK K
  try simp only[AP,AQ]
  refine takeN [(13,some 33,.agg #[.string t,.string fr,.slice cp (CT).length cc,.bool false])] _ _ hH (by repeat(first|exact True.intro|(refine tkc rfl rfl (yields_build3 (by rfl) 175 0 1 2 _ _ _ rfl (.string t) (.string fr) (.slice cp (CT).length cc) (.agg #[.string t,.string fr,.slice cp (CT).length cc,.bool false]) rfl rfl rfl (fun W=>Tryz.buildDcn t fr cp (CT).length cc W)) ?_;simp only[AP]))) ?_;simp only[takesA,AP];refine rdy2 4 14 (fun K hK=>?_) (fun K hK=>?_);focus
   go_simp;refine hK.out _ _ (blk HBX2.out hBX) (fun hH=>?_);clear hK K
   try simp only[AP,AQ]
   refine rdy1 14 (fun K hK=>?_);go_simp;obtain⟨Z,hZe⟩:=gen (X.alloc (.cells #[.string t,.string fr,.slice cp (CT).length cc,.bool false] 175));have hbZ:Below X.heap.size X Z:=by rw[hZe];exact(Below.refl _ X).alloc (Nat.le_refl _) _
   have hxZ:Z.heap[X.heap.size]? =some (.cells #[.string t,.string fr,.slice cp (CT).length cc,.bool false] 175 (0,0)):=by rw[hZe];exact heap_alloc_new X _
   rw[←hZe];clear hZe;have hBZ:Below w2.heap.size w2 Z:=hBX.trans (hbZ.mono hBX.size);have hcvZ:=own_blocks (own_baseC hcv (Nat.zero_le _)) (fun g _ hg=>hbZ.block g hg)
  rotate_left;focus
   go_simp;obtain⟨Z,hZe⟩:=gen (X.alloc (.cells #[.string t,.string fr,.slice cp (CT).length cc,.bool false] 175));have hbZ:Below X.heap.size X Z:=by rw[hZe];exact(Below.refl _ X).alloc (Nat.le_refl _) _
   have hxZ:Z.heap[X.heap.size]? =some (.cells #[.string t,.string fr,.slice cp (CT).length cc,.bool false] 175 (0,0)):=by rw[hZe];exact heap_alloc_new X _
   rw[←hZe];clear hZe;have hBZ:Below w2.heap.size w2 Z:=hBX.trans (hbZ.mono hBX.size);have hcvZ:=own_blocks (own_baseC hcv (Nat.zero_le _)) (fun g _ hg=>hbZ.block g hg);have c35Z:Z.cell? ⟨nb,35,none⟩=some (.slice dp V.ds.length dc):=Ext.cell C35.out (Ext.of hBZ);refine hK.out _ _ (blk HBX2.out hBZ) (fun hH=>?_);clear hK K
   try simp only[AP,AQ]
   refine rdy1 4 (fun K hK=>?_);go_simp
  rotate_left;all_goals
   refine hK.out _ _ (blk HBX2.out hBZ) (fun hH=>?_);clear hK K
   try simp only[AP,AQ]
   refine rdy1 15 (fun K hK=>?_);rw[if_pos (by rfl)];have hown2:Z.ownsRow 0 175 4 (.slice dp V.ds.length dc) V.ds.length (dcnL V.ds):=own_blocks HOW.out (fun g _ hg=>hBZ.block g hg);refine wp_append_at _ _ _ 123 rfl 0 175 iW (.agg #[.string ByteArray.empty,.string ByteArray.empty,.slice none 0 0,.bool false]) 4 64 underlying123 hiW hz0 hz1 hz2 rfl (by decide) (.slice dp V.ds.length dc) V.ds.length (dcnL V.ds) rfl hown2 ⟨X.heap.size,0,none⟩ 1 1 [.string t,.string fr,.slice cp (CT).length cc,.bool false] rfl rfl ?n1 ?n2 (by have:=HLN.out;unfold maxLen;omega) (by have:=HLN.out;omega) (by have:=HLN.out;omega) ?_
   case n1=>
    intro j u hj;rw[addr_add,Nat.zero_add,cell_of_row Z X.heap.size j _ _ _ hxZ];simpa using hj
   case n2=>
    intro u hu;simp at hu;rcases hu with rfl|rfl|rfl|rfl<;>rfl
   intro v3 w3 hown3 hgrow3 hat3;have hnb3:w3.heap[nb]? =some (.cells (nodeA kb cb V s) 135 (0,0)):=(hgrow3.block nb (Nat.lt_of_lt_of_le HNL.out hBZ.size) (fun e=>HNV.out e.symm)).trans (blk HBLK.out hBZ);have hbx3:w3.heap[w.heap.size]? =some (.cells #[.int .i64 kd,.int .i64 H,.int .i64 r,.int .i64 f,.int .i64 v,.bool nl,.string t,.string fr,.bool own] 164 (0,0)):=(hgrow3.block w.heap.size (Nat.lt_of_lt_of_le HXL.out hBZ.size) (fun e=>HXV.out e.symm)).trans (blk HBX2.out hBZ);refine hK.out _ _ hbx3 (fun hH=>?_);clear hK K;simp only[AP,AQ];refine takeM [(16,some 36,pA nb 0),(17,some 37,pA nb 35)] _ _ hH ?_;simp only[takesA,AP,pA];have c03:w3.cell? ⟨nb,35,none⟩=some (.slice dp V.ds.length dc):=(cell_of_row w3 nb 35 _ _ _ hnb3).trans HC35.out;have f03:w3.frozen? ⟨nb,35,none⟩=false:=frozen_row hnb3 35;obtain⟨p3,cap3,rfl⟩:=own_slice hown3;refine rdy1 18 (fun K hK=>?_);go_simp;obtain⟨w4,hw4⟩:∃z,z=(w3.setCell ⟨nb,35,none⟩ (.slice p3 (V.ds.length+1) cap3)):=⟨_,rfl⟩;have ho4:Only nb w3 w4:=by rw[hw4];exact only_setCell w3 nb 35 _
   have hq4:w4.heap[nb]? =some (.cells ((nodeA kb cb V s).setIfInBounds 35 (.slice p3 (V.ds.length+1) cap3)) 135 (0,0)):=by
    rw[hw4];exact setCell_row hnb3 35 _
   rw[←hw4];have hbx4:w4.heap[w.heap.size]? =some (.cells #[.int .i64 kd,.int .i64 H,.int .i64 r,.int .i64 f,.int .i64 v,.bool nl,.string t,.string fr,.bool own] 164 (0,0)):=(ho4.block _ (by have:=HXN.out;omega)).trans hbx3;refine hK.out _ _ hbx4 (fun hH=>?_);clear hK K hH hw4;refine dnr ?_;go_wp2_with fail
   go_meet
   case rel=>exact keep_dec HH2.out HA2.out HF.out HBX2.out HPB2.out HDV.out HXV.out HPV.out (fun e=>HXN.out e.symm) HPN.out hBZ hown3 hgrow3 hat3 hq4 ho4 hcvZ hcb
 obtain⟨F3,hW3,hG3,hbx3,hpb3⟩:=hcut;obtain⟨w3,hw3⟩:=gen wc;subst hw3;obtain⟨V3,hA3,hf3⟩:=hW3.node;have HBX3:=hide hbx3;have HPB3:Hid (RegAt w3 pb 116 y):=hpb3;have HBLK3:=hide hA3.blk;have C63:Hid (w3.cell? ⟨w.heap.size,6,none⟩=some (.string t)):=cell_of_row w3 w.heap.size 6 _ _ _ hbx3;obtain⟨s3,hs3⟩:∃z:NodeS,z={ s with dec:=s.dec++[⟨t,fr,CT,false⟩] }:=⟨_,rfl⟩;rw[←hs3] at hW3 hA3 HBLK3;obtain⟨HS3,HW3,HA3,HF3⟩:=hide4 hs3 hW3 hA3 hf3;have HG3:Hid (Goes F R w F3 R w3):=(Goes.below HB2.out).trans hG3;clear hW3 hA3 hf3 hG3 hbx3 hpb3 hs3;go_wp2_with (first|(refine wpList_load_reg rfl 116 _ rfl pb rfl 116 y _ HPB3.out underlying116 rfl Tryz.sizeRegistry ?_)|(refine wpList_store_midN rfl 116 _ _ rfl nb 1 (regA y) rfl rfl 135 (nodeA kb cb V3 s3) HBLK3.out (by rw[nodeA_size,regA_size];omega) (regA_oneK y) (by rw[Tryz.sizeRegistry,regA_size]) ?_;intro w4 hq4 ho4;have c64:w4.cell? ⟨w.heap.size,6,none⟩=some (.string t):=(ho4.cell (p:=⟨w.heap.size,6,none⟩) (fun e=>HXN.out e.symm)).trans C63.out;have HQ4:=hide hq4;have HO4:=hide ho4;clear hq4 ho4)|fail)
 have hW4:=HW3.out.cellAt (s':={ s3 with x:=y }) HA3.out HF3.out (by rw[←nodeA_reg];exact HQ4.out) HO4.out rfl rfl rfl rfl rfl rfl rfl;refine(forget_any t hW4.1 (by omega)).mono ?_;rintro en w5 ⟨rfl,F5,hW5,hG5⟩;have HG5:Hid (Goes F R w F5 R w5):=HG3.out.trans (hW4.2.trans hG5);obtain⟨s5,hs5⟩:∃z:NodeS,z=s.kept ⟨⟨kd,H,r,f,v,nl,t⟩,fr,own⟩:=⟨_,rfl⟩;have e5:({ s3 with x:=y,wait:=forgetL s3.wait (pcs t) }:NodeS)=s5:=by
  rw[hs5,HS3.out,HCT.out,←HY.out];rfl
 have hW5b:NodeW B es m F5 R nb kb rb cb n i s5 w5:=by
  rw[←e5];exact hW5
 obtain⟨V5,hA5,hf5⟩:=hW5b.node;have hst:=(HNX.out.st (by omega) HTT.out HSS.out).1;rw[←hs5] at hst;have HBH:=hide (beginHeight_raw (N:=2000) (s5.ahead.filter fun e=> !s5.outsider e.m) hW5b hA5 hf5 (fun W b0 hAW hc=>outs_del nb kb cb b0 V5 s5.unlock W hAW hc hst.dom hst.pos hst.hgt (fun e he=>by
  have h1:e∈s.ahead:=by rw[hs5] at he;exact he
  exact⟨(HOK.out.ahead.ok e h1).r0,(HOK.out.ahead.ok e h1).r20⟩)) ⟨hst.dom,hst.pos,hst.hgt,by show s5.round≤20;rw[hs5];exact HOK.out.rnd,hst.log,hst.ahead,hst.tims,hst.tb,hst.time,hst.ids,hst.ida,hst.wait,hst.waitz,hst.vz⟩ (by omega) (by rw[hs5];exact HST.out.2))
 have HFIN:Hid ((if s5.height=12 then(s5.nextLog (s5.ahead.filter fun e=> !s5.outsider e.m)).turned 0 0 else(s5.nextLog (s5.ahead.filter fun e=> !s5.outsider e.m)).beginR i 0)=s.keepS i ⟨⟨kd,H,r,f,v,nl,t⟩,fr,own⟩):=by
  unfold Hid NodeS.keepS;rw[beginH_eq,←hs5]
 rw[HFIN.out] at HBH;clear hW4 hW5 hW5b hA5 hf5 hG5 e5 hs5 hst c64;go_wp2_with fail
 refine HBH.out.mono ?_;rintro en w6 ⟨rfl,F6,R6,hW6,hG6⟩;obtain⟨HW6,HG6⟩:=hide2 hW6 hG6;clear hW6 hG6 HBH;go_wp2;go_ret;exact⟨rfl,F6,R6,HW6.out,HG5.out.trans HG6.out⟩
theorem decide_all(h:NodeW B es m F R nb kb rb cb n i s w)(ok:NOk S T i 0 s)(hT:T≤1000000000000)(hS:S≤900000000000):
 Calls prog 108 #[.pointer (some ⟨nb,0,none⟩)] w (RuleP B es m F R nb kb rb cb n i (NodeS.decS i s) w):=by
 obtain⟨V,hA,hf⟩:=h.node;refine(decide_raw (fun b w'=>b=(NodeS.decS i s).1∧∃F' R',NodeW B es m F' R' nb kb rb cb n i (NodeS.decS i s).2 w'∧Goes F R w F' R' w') hA h.bl h.glob (ok.st (by omega) hT hS).1 (fun p r hr hno hp W hW=>?_) (fun hno W hW=>?_)).mono ?_
 .obtain ⟨h1,_,_,_,h2⟩:=decAt_mem hp
  refine(keep_yes p (h.below hW) ok hT hS h1 h2).mono ?_;rintro e w' ⟨rfl,F',R',h3,h4⟩;rw[decS_some (decF_some hr hno hp)];exact⟨true,rfl,rfl,F',R',h3,(Goes.below hW).trans h4⟩
 .rw [decS_none (decF_none hno)];exact⟨rfl,F,R,h.below hW,Goes.below hW⟩
 rintro e w' ⟨b,rfl,rfl,F',R',h3,h4⟩;exact⟨rfl,F',R',h3,h4⟩
theorem goOn_all(h:NodeW B es m F R nb kb rb cb n i s w)(ok:NOk S T i 0 s)(hT:T≤1000000000000)(hS:S≤900000000000):
 Calls prog 55 #[.pointer (some ⟨nb,0,none⟩)] w fun en w'=>en=.returned (.tuple #[])∧∃F' R',NodeW B es m F' R' nb kb rb cb n i (s.goOnS i) w'∧Goes F R w F' R' w':=by
 obtain⟨⟨k,hk⟩,_⟩:=ok.runs;exact goOn_any (N:=2000) (NodeS.decS i) (NOk S T i 0) decS_false (fun s hs=>hs.st (by omega) hT hS) (by omega) (fun F R s W hW hs=>decide_all hW hs hT hS) h hk
end Go.Proofs.YtcfjhbcpjpgodaaGreatDoor

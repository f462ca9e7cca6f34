/- Proved here: what a node tells of itself without turning: its height, who proposes, who has no say, whether senders have most. -/
import Derived.Test.YtcfjhbcpjpgodaaGreatDoorJ16
import Derived.Test.YtcfjhbcpjpgodaaGreatDoorJ17
import Derived.Maps.AppendAt
import Derived.Test.YtcfjhbcpjpgodaaGreatDoorTakeL
namespace Go.Proofs.YtcfjhbcpjpgodaaGreatDoor
open Go.RowKit Go.Proofs.Tryz
set_option maxRecDepth 100000
set_option linter.unusedSimpArgs false
set_option maxHeartbeats 6400000
theorem NodeAt.below{nb kb cb:Nat}{V:NodeV}{s:NodeS}{w w':World}(h:NodeAt nb kb cb V s w)(hb:Below w.heap.size w w'):NodeAt nb kb cb V s w':=h.frame fun k hk=>hb.block k (h.lt k hk)
theorem GlobAt.below{B:Nat}{es:List Addr}{m:Int}{w w':World}(h:GlobAt B es m w)(hB:B≤w.heap.size)(hb:Below w.heap.size w w'):GlobAt B es m w':=h.same fun k hk=>hb.block k (Nat.lt_of_lt_of_le hk hB)
theorem NodeAt.len{nb kb cb:Nat}{V:NodeV}{s:NodeS}{w:World}(h:NodeAt nb kb cb V s w):V.ds.length=s.height:=by
 have e:=congrArg List.length h.eds;rw[List.length_map] at e;exact e
theorem nodeL_reg(kb cb:Nat)(V:NodeV)(s:NodeS)(j:Nat)(hj:j<34):(nodeA kb cb V s)[1+j]? =some (.int .i64 (s.x j)):=by
 unfold nodeA nodeL;rw[List.getElem?_toArray,Nat.add_comm,List.getElem?_cons_succ,List.getElem?_append_left (by simp[regL];omega)];simp[regL,hj]
theorem NodeAt.reg{nb kb cb:Nat}{V:NodeV}{s:NodeS}{w:World}(h:NodeAt nb kb cb V s w):w.rangeAt nb 1 (regL s.x):=fun j v hv=>by
 have hj:j<34:=by have:=(List.getElem?_eq_some_iff.1 hv).1;simpa [regL] using this
 rw[h.cell (1+j) (nodeL_reg kb cb V s j hj)];have:(regL s.x)[j]? =some (.int .i64 (s.x j)):=by simp[regL,hj]
 rw[this] at hv;exact hv
theorem height_any(nb kb cb:Nat)(V:NodeV)(s:NodeS)(w:World)(hA:NodeAt nb kb cb V s w):
 Calls prog 73 #[.pointer (some ⟨nb,0,none⟩)] w fun e w'=>e=.returned (.int .i64 (s.height:Int))∧w'=w:=by
 obtain⟨p,c,hv⟩:=own_slice hA.dec;rw[hA.len] at hv;have c35:w.cell? ⟨nb,35,none⟩=some V.dv:=hA.cell 35 rfl;rw[hv] at c35;clear hA hv;go_enter func73,ntmps73;go_wp2;go_ret;exact⟨rfl,rfl⟩
theorem nodeProposer_any(nb kb cb r:Nat)(V:NodeV)(s:NodeS)(w:World)(hA:NodeAt nb kb cb V s w)(hx:Dom s.x)(hp:0<sumTo s.x 8)(hh:s.height≤12)(hr:r≤1000):
 Calls prog 143 #[.pointer (some ⟨nb,0,none⟩),.int .i64 (r:Int)] w fun e w'=>e=.returned (.int .i64 (s.prop r:Int))∧Below w.heap.size w w':=by
 obtain⟨HA,HX,HP,HR⟩:=hide4 hA hx hp hA.reg;have hh2:(s.height:Int)≤12:=by omega
 have hr2:(r:Int)≤1000:=by omega
 have HE1:Hid ((s.height:Int)+(r:Int)=((s.height+r:Nat):Int)):=by unfold Hid;omega
 clear hA hx hp;go_enter func143,ntmps143;go_wp2_with fail
 haveI:=Ext.ne w;refine wp_region_ext (by kernel_rfl) (by kernel_rfl) ?_;repeat(first|go_big_quiet_skip|(go_big_quiet_want;first|(refine quiet_load_mid (some 8) rfl 116 _ rfl nb 1 rfl (regL s.x) _ (Ext.range HR.out) underlying116 rfl (by rw[Tryz.sizeRegistry];simp[regL]) ?_;simp only[AP];go_big_quiet_on)|(go_big_quiet_op;first|go_big_quiet_on|(apply Exists.intro;refine⟨fun u=>?_,?_⟩;(· (first|(exact Calls.extSame u (height_any nb kb cb V s u.W (HA.out.below u.b)))|(rw[HE1.out];exact Calls.ext u (proposer_any s.x (s.height+r) u.W HX.out HP.out (by omega)))));go_big_quiet_on))))
 refine wpQuiet_nil ?_;rintro _ ⟨u,rfl⟩;go_wp2;go_ret;exact⟨rfl,u.b⟩
theorem NodeAt.logAt{nb kb cb:Nat}{V:NodeV}{s:NodeS}{w:World}(h:NodeAt nb kb cb V s w):∃p c,V.lv=.slice p s.log.length c∧w.cell? ⟨nb,37,none⟩=some (.slice p s.log.length c)∧s.log.length≤maxLen∧EntsAt w w.heap.size p s.log.length (fun i=>s.log.getD i ent0):=by
 obtain⟨p,c,e,h1,h2⟩:=own_ents h.log;have c37:w.cell? ⟨nb,37,none⟩=some V.lv:=h.cell 37 rfl;rw[e] at c37;exact⟨p,c,e,c37,h1,h2⟩
theorem EntsAt.ext{w:World}{p:Option Addr}{n:Nat}{es:Nat→EntV}(h:EntsAt w w.heap.size p n es)(u:Ext w):EntsAt u.W u.W.heap.size p n es:=(h.below u.b).more u.b.size
theorem FitsAt.ext{g:Nat}{lb:Array Value}{fits:EntV→Bool}{l:List EntV}{w:World}(h:FitsAt g lb fits l w)(u:Ext w):FitsAt g lb fits l u.W:=h.later u.b
theorem most_any(nb kb cb g:Nat)(lb:Array Value)(fits:EntV→Bool)(V:NodeV)(s:NodeS)(w:World)(hA:NodeAt nb kb cb V s w)(hx:Dom s.x)(eg:EntersP g)(hf:FitsAt g lb fits s.log w)(hid:∀e∈s.log,0≤e.m.f∧e.m.f<8):
 Calls prog 150 #[.pointer (some ⟨nb,0,none⟩),.func (.func g) #[] lb] w fun e w'=>e=.returned (.bool (s.most fits))∧Below w.heap.size w w':=by
 obtain⟨p,c,-,c37,hm,hE⟩:=hA.logAt;obtain⟨HE,HM,HX,HR,HF,HID,HEG⟩:=hide7 hE hm hx hA.reg hf hid eg;have c37u:=fun u:Ext w=>Ext.cell c37 u;clear hA hx hE hm hf hid eg c37;go_enter func150,ntmps150;go_wp2_with fail
 haveI:=Ext.ne w;refine wp_region_ext (by kernel_rfl) (by kernel_rfl) ?_;repeat(first|go_big_quiet_skip|(go_big_quiet_want;first|(refine quiet_load_mid (some 8) rfl 116 _ rfl nb 1 rfl (regL s.x) _ (Ext.range HR.out) underlying116 rfl (by rw[Tryz.sizeRegistry];simp[regL]) ?_;simp only[AP];go_big_quiet_on)|(go_big_quiet_op;first|go_big_quiet_on|(apply Exists.intro;refine⟨fun u=>?_,?_⟩;(· (first|(exact Calls.ext u (senders_any g lb fits s.log p c u.W HEG.out (HE.out.ext u) HM.out (HF.out.ext u) HID.out))|(exact Calls.ext u (moreThan_any 2 s.x (sendB fits s.log) u.W HX.out (by omega) (by omega)))));go_big_quiet_on))))
 refine wpQuiet_nil ?_;rintro _ ⟨u,rfl⟩;go_wp2;go_ret;exact⟨rfl,u.b⟩
theorem isOutsider_any(nb kb cb:Nat)(m:MsgV)(V:NodeV)(s:NodeS)(w:World)(hA:NodeAt nb kb cb V s w)(hx:Dom s.x)(hp:0<sumTo s.x 8)(hh:s.height≤12)(hr:0≤m.r∧m.r≤20):
 Calls prog 106 #[.pointer (some ⟨nb,0,none⟩),.agg m.cells] w fun e w'=>e=.returned (.bool (s.outsider m))∧Below w.heap.size w w':=by
 obtain⟨K,H,R,f,v,nl,t⟩:=m;obtain⟨r,rfl⟩:∃r:Nat,R=(r:Int):=⟨R.toNat,by simp only at hr;omega⟩;have hr2:r≤1000:=by simp only at hr;omega
 show Calls prog 106 #[.pointer (some ⟨nb,0,none⟩),.agg #[.int .i64 K,.int .i64 H,.int .i64 (r:Int),.int .i64 f,.int .i64 v,.bool nl,.string t]] w _;obtain⟨w1,hw1⟩:=gen (w.alloc (.cells #[.int .i64 K,.int .i64 H,.int .i64 (r:Int),.int .i64 f,.int .i64 v,.bool nl,.string t] 57));have hb1:Below w.heap.size w w1:=by rw[hw1];exact(Below.refl _ w).alloc (Nat.le_refl _) _
 have hq1:w1.heap[w.heap.size]? =some (.cells #[.int .i64 K,.int .i64 H,.int .i64 (r:Int),.int .i64 f,.int .i64 v,.bool nl,.string t] 57 (0,0)):=by rw[hw1];exact heap_alloc_new w _
 have hA1:=hA.below hb1;have k0:∀u:Ext w1,u.W.cell? ⟨w.heap.size,0,none⟩=some (.int .i64 K):=fun u=>Ext.cell (cell_of_row w1 w.heap.size 0 _ _ _ hq1) u;have k2:∀u:Ext w1,u.W.cell? ⟨w.heap.size,2,none⟩=some (.int .i64 (r:Int)):=fun u=>Ext.cell (cell_of_row w1 w.heap.size 2 _ _ _ hq1) u;have k3:∀u:Ext w1,u.W.cell? ⟨w.heap.size,3,none⟩=some (.int .i64 f):=fun u=>Ext.cell (cell_of_row w1 w.heap.size 3 _ _ _ hq1) u;obtain⟨HA,HX,HP,HR,HB1,HW1⟩:=hide6 hA1 hx hp hA1.reg hb1 hw1;clear hA hx hp hA1 hb1 hq1 hr hw1;by_cases h0:powI s.x f=0
 .have HO:Hid (s.outsider ⟨K,H,(r:Int),f,v,nl,t⟩=true):=by unfold Hid NodeS.outsider;simp[h0]
  go_enter func106,ntmps106;go_wp2_with fail
  rw[←HW1.out];haveI:=Ext.ne w1;refine wp_region_ext (by kernel_rfl) (by kernel_rfl) ?_;repeat(first|go_big_quiet_skip|(go_big_quiet_want;first|(refine quiet_load_mid (some 8) rfl 116 _ rfl nb 1 rfl (regL s.x) _ (Ext.range HR.out) underlying116 rfl (by rw[Tryz.sizeRegistry];simp[regL]) ?_;simp only[AP];go_big_quiet_on)|(go_big_quiet_op;first|go_big_quiet_on|(apply Exists.intro;refine⟨fun u=>?_,?_⟩;(· (first|(have hc:=Calls.ext u (power_any s.x f u.W);rw[h0] at hc;exact hc)));go_big_quiet_on))))
  refine wpQuiet_nil ?_;rintro _ ⟨u,rfl⟩;go_wp2;go_ret;exact⟨ret_b HO.out.symm,HB1.out.trans (u.b.mono HB1.out.size)⟩
 obtain⟨pw,hpw⟩:=gen (powI s.x f);have q1:(pw==0)=false:=by rw[beq_eq_false_iff_ne,hpw];exact h0
 have HPW:=hide hpw;clear hpw;by_cases hk:K=1
 .subst hk;have HO:Hid (s.outsider ⟨1,H,(r:Int),f,v,nl,t⟩= !decide (f=(s.prop r:Int))):=by unfold Hid NodeS.outsider;simp[h0]
  clear h0;go_enter func106,ntmps106;go_wp2_with fail
  rw[←HW1.out];haveI:=Ext.ne w1;refine wp_region_ext (by kernel_rfl) (by kernel_rfl) ?_;repeat(first|go_big_quiet_skip|(go_big_quiet_want;first|(refine quiet_load_mid (some 8) rfl 116 _ rfl nb 1 rfl (regL s.x) _ (Ext.range HR.out) underlying116 rfl (by rw[Tryz.sizeRegistry];simp[regL]) ?_;simp only[AP];go_big_quiet_on)|(go_big_quiet_op;first|go_big_quiet_on|(apply Exists.intro;refine⟨fun u=>?_,?_⟩;(· (first|(have hc:=Calls.ext u (power_any s.x f u.W);rw[←HPW.out] at hc;exact hc)|(exact Calls.ext u (nodeProposer_any nb kb cb r V s u.W (HA.out.below u.b) HX.out HP.out hh hr2))));go_big_quiet_on))))
  refine wpQuiet_nil ?_;rintro _ ⟨u,rfl⟩;go_wp2;go_ret;exact⟨ret_b (by rw[HO.out];first|rfl|(simp only[bne];rfl)|(rw[Bool.eq_iff_iff];simp)),HB1.out.trans (u.b.mono HB1.out.size)⟩
 have HO:Hid (s.outsider ⟨K,H,(r:Int),f,v,nl,t⟩=false):=by unfold Hid NodeS.outsider;simp[h0,hk]
 have q2:(K==1)=false:=by rw[beq_eq_false_iff_ne];exact hk
 clear h0;go_enter func106,ntmps106;go_wp2_with fail
 rw[←HW1.out];haveI:=Ext.ne w1;refine wp_region_ext (by kernel_rfl) (by kernel_rfl) ?_;repeat(first|go_big_quiet_skip|(go_big_quiet_want;first|(refine quiet_load_mid (some 8) rfl 116 _ rfl nb 1 rfl (regL s.x) _ (Ext.range HR.out) underlying116 rfl (by rw[Tryz.sizeRegistry];simp[regL]) ?_;simp only[AP];go_big_quiet_on)|(go_big_quiet_op;first|go_big_quiet_on|(apply Exists.intro;refine⟨fun u=>?_,?_⟩;(· (first|(have hc:=Calls.ext u (power_any s.x f u.W);rw[←HPW.out] at hc;exact hc)));go_big_quiet_on))))
 refine wpQuiet_nil ?_;rintro _ ⟨u,rfl⟩;go_wp2;go_ret;exact⟨ret_b HO.out.symm,HB1.out.trans (u.b.mono HB1.out.size)⟩
theorem logOf_any(nb kb cb:Nat)(h:Int)(V:NodeV)(s:NodeS)(w:World)(hA:NodeAt nb kb cb V s w):
 Calls prog 126 #[.pointer (some ⟨nb,0,none⟩),.int .i64 h] w fun e w'=>e=.returned (.pointer (some ⟨nb,if h=(s.height:Int) then 37 else 38,none⟩))∧w'=w:=by
 have HA:=hide hA;clear hA;by_cases hh:h=(s.height:Int)
 .subst hh;go_enter func126,ntmps126;go_wp2_with (go_at_call 73;refine(height_any nb kb cb V s w HA.out).mono ?_;rintro e w2 ⟨rfl,hw2⟩;have hw3:=hw2.symm;clear hw2;subst hw3)
  go_ret;exact⟨by simp,rfl⟩
 rw[if_neg hh];go_enter func126,ntmps126;go_wp2_with (go_at_call 73;refine(height_any nb kb cb V s w HA.out).mono ?_;rintro e w2 ⟨rfl,hw2⟩;have hw3:=hw2.symm;clear hw2;subst hw3)
 go_ret;exact⟨rfl,rfl⟩
def TakeE(nb off:Nat)(C:Array Value)(T:TypeId)(l:List EntV)(e:EntV)(v:Value)(w:World)(en:Ending)(w':World):Prop:=
 ∃v',en=.returned (.tuple #[])∧w'.heap[nb]? =some (.cells (C.setIfInBounds off v') T (0,0))∧w'.ownsRow 0 164 9 v' (l.length+1) (entL (l++[e]))∧(v'.ownBlock=v.ownBlock∨∀g,v'.ownBlock=some g→w.heap.size≤g)∧SameBut (fun k=>k=nb∨some k=v.ownBlock) w w'
theorem take_raw(nb off:Nat)(C:Array Value)(T:TypeId)(l:List EntV)(e:EntV)(v:Value)(w:World)(hq:w.heap[nb]? =some (.cells C T (0,0)))(ht:T≠164)(hc0:C[off]? =some v)(hown:w.ownsRow 0 164 9 v l.length (entL l))(hlen:l.length≤100000000)
 (hlog:∀W,Below w.heap.size w W→Calls prog 126 #[.pointer (some ⟨nb,0,none⟩),.int .i64 e.m.h] W fun en w'=>en=.returned (.pointer (some ⟨nb,off,none⟩))∧w'=W):
 Calls prog 81 #[.pointer (some ⟨nb,0,none⟩),.agg e.cells] w (TakeE nb off C T l e v w):=by
 obtain⟨iW,hiW,hz0,hz1,hz2⟩:=info_parts Tryz.infoEnt;obtain⟨p,cap,rfl⟩:=own_slice hown;obtain⟨⟨kd,H,r,f,v,nl,t⟩,fr,own⟩:=e;have hpl:nb<w.heap.size:=row_lt0 hq;have hpv:∀g,Value.ownBlock (.slice p l.length cap)=some g→g≠nb:=fun g hg e=>by
  subst e;exact own_ne hown hq ht hg
 show Calls prog 81 #[.pointer (some ⟨nb,0,none⟩),.agg #[.int .i64 kd,.int .i64 H,.int .i64 r,.int .i64 f,.int .i64 v,.bool nl,.string t,.string fr,.bool own]] w _;obtain⟨w1,hw1⟩:=gen (w.alloc (.cells #[.int .i64 kd,.int .i64 H,.int .i64 r,.int .i64 f,.int .i64 v,.bool nl,.string t,.string fr,.bool own] 164));have hb1:Below w.heap.size w w1:=by rw[hw1];exact(Below.refl _ w).alloc (Nat.le_refl _) _
 have hbx:w1.heap[w.heap.size]? =some (.cells #[.int .i64 kd,.int .i64 H,.int .i64 r,.int .i64 f,.int .i64 v,.bool nl,.string t,.string fr,.bool own] 164 (0,0)):=by rw[hw1];exact heap_alloc_new w _
 have hz:w1.heap.size=w.heap.size+1:=by rw[hw1];simp
 have hq1:w1.heap[nb]? =some (.cells C T (0,0)):=blk hq hb1;have c0:w1.cell? ⟨nb,off,none⟩=some (.slice p l.length cap):=(cell_of_row w1 nb off _ _ _ hq1).trans hc0;have cH:w1.cell? ⟨w.heap.size,1,none⟩=some (.int .i64 H):=cell_of_row w1 w.heap.size 1 _ _ _ hbx;have cH':(w.alloc (.cells #[.int .i64 kd,.int .i64 H,.int .i64 r,.int .i64 f,.int .i64 v,.bool nl,.string t,.string fr,.bool own] 164)).cell? ⟨w.heap.size,1,none⟩=some (.int .i64 H):=by rw[←hw1];exact cH
 have hown1:w1.ownsRow 0 164 9 (.slice p l.length cap) l.length (entL l):=own_blocks hown (fun g _ hg=>hb1.block g hg);obtain⟨HZ,HOWN,HLO,HW1⟩:=hide4 hz hown (hlog w1 hb1) hw1;clear hz hown hlog hw1;go_enter func81,ntmps81;go_wp2_with fail
 rw[←HW1.out];refine HLO.out.mono ?_;rintro e w2 ⟨rfl,hw2⟩;have hw3:=hw2.symm;clear hw2;subst hw3;go_wp2_with fail
 have hl1:nb<w1.heap.size:=Nat.lt_of_lt_of_le hpl hb1.size;have hl2:w.heap.size<w1.heap.size:=row_lt0 hbx;refine rgd (S:=fun W=>W.heap[w.heap.size]? =some (.cells #[.int .i64 kd,.int .i64 H,.int .i64 r,.int .i64 f,.int .i64 v,.bool nl,.string t,.string fr,.bool own] 164 (0,0))) hbx (fun hH=>?_);refine takeN [(0,some 10,pA nb off),(1,some 11,pA nb off),(2,some 12,pA nb off),(4,some 14,.agg #[.int .i64 kd,.int .i64 H,.int .i64 r,.int .i64 f,.int .i64 v,.bool nl,.string t,.string fr,.bool own])] _ _ hH (by repeat(first|exact True.intro|((first|refine tkc rfl rfl (yieldsIf_load_mid (by rfl) 164 _ rfl w.heap.size 0 rfl [.int .i64 kd,.int .i64 H,.int .i64 r,.int .i64 f,.int .i64 v,.bool nl,.string t,.string fr,.bool own] _ (fun w h=>row_range h) underlying164 rfl (by rw[Tryz.sizeEnt];rfl)) ?_|(refine tkc rfl rfl (Or.inl ⟨by rfl,fun x h=>?_⟩) ?_;focus(go_simp;done)));simp only[AP]))) ?_;simp only[takesA,AP,pA];refine wpAnyH_ready (rs:=[3,5]) (by kernel_rfl) (by simp) ?_;have c0':w1.drew.cell? ⟨nb,off,none⟩=some (.slice p l.length cap):=c0;refine AllReadyH.cons rfl (fun K hK=>?_) (AllReadyH.cons rfl (fun K hK=>?_) AllReadyH.nil);focus
  go_simp;refine hK.out _ _ hbx (fun hH=>?_);clear hK K;refine rdy1 5 (fun K hK=>?_)
 rotate_left;focus
  go_simp;refine hK.out _ _ (blk hbx (((Below.refl _ w1).alloc (Nat.le_refl _) _).drew)) (fun hH=>?_);clear hK K;refine rdy1 3 (fun K hK=>?_);have c0'':(w1.alloc (.cells #[.int .i64 kd,.int .i64 H,.int .i64 r,.int .i64 f,.int .i64 v,.bool nl,.string t,.string fr,.bool own] 164)).cell? ⟨nb,off,none⟩=some (.slice p l.length cap):=(World.cell?_of_block (w:=w1) (a:=⟨nb,off,none⟩) (Below.heap_alloc w1 _ nb hl1)).trans c0
 rotate_left;all_goals
  go_simp;obtain⟨w2,hw2⟩:∃z,z=(w1.alloc (.cells #[.int .i64 kd,.int .i64 H,.int .i64 r,.int .i64 f,.int .i64 v,.bool nl,.string t,.string fr,.bool own] 164)).drew:=⟨_,rfl⟩;have hb2:Below w1.heap.size w1 w2:=by rw[hw2];exact((Below.refl _ w1).alloc (Nat.le_refl _) _).drew
  have hx2:w2.heap[w1.heap.size]? =some (.cells #[.int .i64 kd,.int .i64 H,.int .i64 r,.int .i64 f,.int .i64 v,.bool nl,.string t,.string fr,.bool own] 164 (0,0)):=by
   rw[hw2];exact heap_alloc_new w1 _
  have hz2':w2.heap.size=w1.heap.size+1:=by rw[hw2];show(w1.alloc _).heap.size=_;simp
  rw[←hw2];refine hK.out _ _ (blk hbx hb2) (fun hH=>?_);clear hK K hw2;refine rdy1 6 (fun K hK=>?_);rw[if_pos (by rfl)];have hown2:w2.ownsRow 0 164 9 (.slice p l.length cap) l.length (entL l):=own_blocks hown1 (fun g _ hg=>hb2.block g hg);refine wp_append_at _ _ _ 125 rfl 0 164 iW (.agg #[.int .i64 0,.int .i64 0,.int .i64 0,.int .i64 0,.int .i64 0,.bool false,.string ByteArray.empty,.string ByteArray.empty,.bool false]) 9 88 underlying125 hiW hz0 hz1 hz2 rfl (by decide) (.slice p l.length cap) l.length (entL l) rfl hown2 ⟨w1.heap.size,0,none⟩ 1 1 [.int .i64 kd,.int .i64 H,.int .i64 r,.int .i64 f,.int .i64 v,.bool nl,.string t,.string fr,.bool own] rfl rfl ?n1 ?n2 (by unfold maxLen;omega) (by omega) (by omega) ?_
  case n1=>
   intro j u hj;rw[addr_add,Nat.zero_add,cell_of_row w2 w1.heap.size j _ _ _ hx2];simpa using hj
  case n2=>
   intro u hu;simp at hu;rcases hu with rfl|rfl|rfl|rfl|rfl|rfl|rfl|rfl|rfl<;>rfl
  intro v3 w3 hown3 hgrow3 hat3;have hnb3:w3.heap[nb]? =some (.cells C T (0,0)):=(hgrow3.block nb (by omega) (fun e=>hpv nb e.symm rfl)).trans (blk hq1 hb2);have hbx3:w3.heap[w.heap.size]? =some (.cells #[.int .i64 kd,.int .i64 H,.int .i64 r,.int .i64 f,.int .i64 v,.bool nl,.string t,.string fr,.bool own] 164 (0,0)):=(hgrow3.block w.heap.size (by omega) (fun e=>by have:=(HOWN.out.lt _ e.symm).2;omega)).trans (blk hbx hb2);refine hK.out _ _ hbx3 (fun hH=>?_);clear hK K;simp only[AP,AQ];refine takeM [(7,some 17,pA nb off)] _ _ hH ?_;simp only[takesA,AP,pA];have c03:w3.cell? ⟨nb,off,none⟩=some (.slice p l.length cap):=(cell_of_row w3 nb off _ _ _ hnb3).trans hc0;have f03:w3.frozen? ⟨nb,off,none⟩=false:=frozen_row hnb3 off;obtain⟨p3,cap3,rfl⟩:=own_slice hown3;refine rdy1 8 (fun K hK=>?_);go_simp;obtain⟨w4,hw4⟩:∃z,z=(w3.setCell ⟨nb,off,none⟩ (.slice p3 (l.length+1) cap3)):=⟨_,rfl⟩;have ho4:Only nb w3 w4:=by rw[hw4];exact only_setCell w3 nb off _
  have hq4:w4.heap[nb]? =some (.cells (C.setIfInBounds off (.slice p3 (l.length+1) cap3)) T (0,0)):=by
   rw[hw4];exact setCell_row hnb3 off _
  rw[←hw4];have hbx4:w4.heap[w.heap.size]? =some (.cells #[.int .i64 kd,.int .i64 H,.int .i64 r,.int .i64 f,.int .i64 v,.bool nl,.string t,.string fr,.bool own] 164 (0,0)):=(ho4.block _ (by omega)).trans hbx3;refine hK.out _ _ hbx4 (fun hH=>?_);clear hK K hH hw4;refine dnr ?_;have HEND:Hid (TakeE nb off C T l ⟨⟨kd,H,r,f,v,nl,t⟩,fr,own⟩ (.slice p l.length cap) w (.returned (.tuple #[])) w4):=by
   have hnv:∀g,Value.ownBlock (.slice p3 (l.length+1) cap3)=some g→g≠nb:=fun g hg e=>by
    subst e;rcases hat3 with h|h
    .exact hpv _ (h.symm.trans hg) rfl
    .have h2:=h.symm.trans hg;cases h2;omega
   refine⟨.slice p3 (l.length+1) cap3,rfl,hq4,?_,?_,?_⟩
   .rw [entL_append];exact own_blocks hown3 (fun g hg _=>ho4.block g (hnv g hg))
   .rcases hat3 with h|h
    .exact Or.inl h
    .refine Or.inr (fun g hg=>?_);have h2:=h.symm.trans hg;cases h2;omega
   .refine ⟨?_,?_,?_,?_,fun k hk hn=>?_⟩
    .rw [ho4.os,hgrow3.os,hb2.os,hb1.os]
    .rw [ho4.tape,hgrow3.tape,hb2.tape,hb1.tape]
    .rw [ho4.output,hgrow3.output,hb2.output,hb1.output]
    .rw [ho4.size];exact Nat.le_trans hb1.size (Nat.le_trans hb2.size hgrow3.size)
    .have hk1:k<w1.heap.size:=Nat.lt_of_lt_of_le hk hb1.size;rw[ho4.block k (fun e=>hn (Or.inl e)),hgrow3.block k (by omega) (fun e=>hn (Or.inr e)),hb2.block k hk1,hb1.block k hk]
  exact bodyPost_end (v:=.tuple #[]) (by simp[results,results81]) rfl HEND.out
theorem NodeW.logTurn{B:Nat}{es:List Addr}{m:Int}{F R:Nat→Prop}{nb kb rb cb n i:Nat}{s s':NodeS}{V:NodeV}{w w':World}(h:NodeW B es m F R nb kb rb cb n i s w)(hA:NodeAt nb kb cb V s w)(hf:∀k,V.foot nb cb k→F k)(v':Value)
 (hb:w'.heap[nb]? =some (.cells (nodeA kb cb { V with lv:=v' } s') 135 (0,0))) (hown:w'.ownsRow 0 164 9 v' s'.log.length (entL s'.log)) (hat:v'.ownBlock=V.lv.ownBlock∨∀g,v'.ownBlock=some g→w.heap.size≤g) (hs:SameBut (fun k=>k=nb∨some k=V.lv.ownBlock) w w')
 (edec:s'.dec=s.dec)
 (ewait:s'.wait=s.wait)
 (eahead:s'.ahead=s.ahead)
 (etims:s'.tims=s.tims)
 (eout:s'.out=s.out)
 (esg:s'.sg=s.sg):∃F',NodeW B es m F' R nb kb rb cb n i s' w'∧Goes F R w F' R w':=by
 obtain⟨n1,n2,n3,n4,n5,n6⟩:=hA.rows;have hv:∀g,v'.ownBlock=some g→V.lv.ownBlock=some g∨w.heap.size≤g:=fun g hg=>by
  rcases hat with h1|h1
  .exact Or.inl (h1.symm.trans hg)
  exact Or.inr (h1 g hg)
 have hN:NodeAt nb kb cb { V with lv:=v' } s' w':=by
  refine⟨hb,by rw[edec];exact hA.eds,?_,?_,?_,?_,?_,?_,?_,?_,?_,hA.acc⟩
  .exact own_blocks hA.dec fun g e hg=>hs.block g hg (fun x=>x.elim (fun x=>n1 (x▸e)) (fun x=>own_tt hA.dec hA.log (by decide) g e x.symm))
  .exact fun d hd=>own_blocks (hA.cert d hd) fun g e hg=>hs.block g hg (fun x=>x.elim (fun x=>n6 d hd (x▸e)) (fun x=>own_tt (hA.cert d hd) hA.log (by decide) g e x.symm))
  .rw [ewait];exact own_blocks hA.wait fun g e hg=>hs.block g hg (fun x=>x.elim (fun x=>n2 (x▸e)) (fun x=>own_tt hA.wait hA.log (by decide) g e x.symm))
  .exact hown
  .rw [eahead];exact own_blocks hA.ahead fun g e hg=>hs.block g hg (fun x=>x.elim (fun x=>n4 (x▸e)) (fun x=>hA.alog g x.symm e))
  .rw [etims];exact own_blocks hA.tims fun g e hg=>hs.block g hg (fun x=>x.elim (fun x=>n5 (x▸e)) (fun x=>own_tt hA.tims hA.log (by decide) g e x.symm))
  .rw [eout];obtain⟨a,b,hc⟩:=hA.chan;exact⟨a,b,(hs.block cb (chan_lt hA.chan) (fun x=>x.elim (fun x=>hA.nc x.symm) (fun x=>own_nc hA.log hA.chan x.symm))).trans hc⟩
  .intro g hg ha;rcases hv g hg with h1|h1
   .exact hA.alog g h1 ha
   have:=(hA.ahead.lt g ha).2;omega
  exact hA.awc
 refine⟨fun k=>F k∨v'.ownBlock=some k,?_⟩;refine h.turnF ⟨_,hN,fun k hk=>?_⟩ esg (fun k hk=>?_) (fun k hk=>?_) ⟨hs.os,hs.tape,hs.output,hs.size,fun k hk hn=>hs.block k hk (fun x=>x.elim (fun x=>hn (x▸hf nb (Or.inl rfl))) (fun x=>hn (hf k (Or.inr (Or.inr (Or.inr (Or.inr (Or.inl x.symm))))))))⟩
 .rcases hk with rfl|rfl|e|e|e|e|e|⟨d,hd,e⟩
  .exact Or.inl (hf _ (Or.inl rfl))
  .exact Or.inl (hf _ (Or.inr (Or.inl rfl)))
  .exact Or.inl (hf k (Or.inr (Or.inr (Or.inl e))))
  .exact Or.inl (hf k (Or.inr (Or.inr (Or.inr (Or.inl e)))))
  .exact Or.inr e
  .exact Or.inl (hf k (Or.inr (Or.inr (Or.inr (Or.inr (Or.inr (Or.inl e)))))))
  .exact Or.inl (hf k (Or.inr (Or.inr (Or.inr (Or.inr (Or.inr (Or.inr (Or.inl e))))))))
  exact Or.inl (hf k (Or.inr (Or.inr (Or.inr (Or.inr (Or.inr (Or.inr (Or.inr (⟨d,hd,e⟩)))))))))
 .rcases hk with hk|hk
  .exact Or.inl hk
  rcases hv k hk with h1|h1
  .exact Or.inl (hf k (Or.inr (Or.inr (Or.inr (Or.inr (Or.inl h1))))))
  exact Or.inr h1
 rcases hk with hk|hk
 .exact Nat.lt_of_lt_of_le (h.fl k hk).2 hs.size
 exact(hown.lt k hk).2
theorem NodeW.aheadTurn{B:Nat}{es:List Addr}{m:Int}{F R:Nat→Prop}{nb kb rb cb n i:Nat}{s s':NodeS}{V:NodeV}{w w':World}(h:NodeW B es m F R nb kb rb cb n i s w)(hA:NodeAt nb kb cb V s w)(hf:∀k,V.foot nb cb k→F k)(v':Value)
 (hb:w'.heap[nb]? =some (.cells (nodeA kb cb { V with av:=v' } s') 135 (0,0))) (hown:w'.ownsRow 0 164 9 v' s'.ahead.length (entL s'.ahead)) (hat:v'.ownBlock=V.av.ownBlock∨∀g,v'.ownBlock=some g→w.heap.size≤g) (hs:SameBut (fun k=>k=nb∨some k=V.av.ownBlock) w w')
 (edec:s'.dec=s.dec)
 (ewait:s'.wait=s.wait)
 (elog:s'.log=s.log)
 (etims:s'.tims=s.tims)
 (eout:s'.out=s.out)
 (esg:s'.sg=s.sg):∃F',NodeW B es m F' R nb kb rb cb n i s' w'∧Goes F R w F' R w':=by
 obtain⟨n1,n2,n3,n4,n5,n6⟩:=hA.rows;have hv:∀g,v'.ownBlock=some g→V.av.ownBlock=some g∨w.heap.size≤g:=fun g hg=>by
  rcases hat with h1|h1
  .exact Or.inl (h1.symm.trans hg)
  exact Or.inr (h1 g hg)
 have hN:NodeAt nb kb cb { V with av:=v' } s' w':=by
  refine⟨hb,by rw[edec];exact hA.eds,?_,?_,?_,?_,?_,?_,?_,?_,?_,hA.acc⟩
  .exact own_blocks hA.dec fun g e hg=>hs.block g hg (fun x=>x.elim (fun x=>n1 (x▸e)) (fun x=>own_tt hA.dec hA.ahead (by decide) g e x.symm))
  .exact fun d hd=>own_blocks (hA.cert d hd) fun g e hg=>hs.block g hg (fun x=>x.elim (fun x=>n6 d hd (x▸e)) (fun x=>own_tt (hA.cert d hd) hA.ahead (by decide) g e x.symm))
  .rw [ewait];exact own_blocks hA.wait fun g e hg=>hs.block g hg (fun x=>x.elim (fun x=>n2 (x▸e)) (fun x=>own_tt hA.wait hA.ahead (by decide) g e x.symm))
  .rw [elog];exact own_blocks hA.log fun g e hg=>hs.block g hg (fun x=>x.elim (fun x=>n3 (x▸e)) (fun x=>hA.alog g e x.symm))
  .exact hown
  .rw [etims];exact own_blocks hA.tims fun g e hg=>hs.block g hg (fun x=>x.elim (fun x=>n5 (x▸e)) (fun x=>own_tt hA.tims hA.ahead (by decide) g e x.symm))
  .rw [eout];obtain⟨a,b,hc⟩:=hA.chan;exact⟨a,b,(hs.block cb (chan_lt hA.chan) (fun x=>x.elim (fun x=>hA.nc x.symm) (fun x=>own_nc hA.ahead hA.chan x.symm))).trans hc⟩
  .intro g hg ha;rcases hv g ha with h1|h1
   .exact hA.alog g hg h1
   have:=(hA.log.lt g hg).2;omega
  exact hA.awc
 refine⟨fun k=>F k∨v'.ownBlock=some k,?_⟩;refine h.turnF ⟨_,hN,fun k hk=>?_⟩ esg (fun k hk=>?_) (fun k hk=>?_) ⟨hs.os,hs.tape,hs.output,hs.size,fun k hk hn=>hs.block k hk (fun x=>x.elim (fun x=>hn (x▸hf nb (Or.inl rfl))) (fun x=>hn (hf k (Or.inr (Or.inr (Or.inr (Or.inr (Or.inr (Or.inl x.symm)))))))))⟩
 .rcases hk with rfl|rfl|e|e|e|e|e|⟨d,hd,e⟩
  .exact Or.inl (hf _ (Or.inl rfl))
  .exact Or.inl (hf _ (Or.inr (Or.inl rfl)))
  .exact Or.inl (hf k (Or.inr (Or.inr (Or.inl e))))
  .exact Or.inl (hf k (Or.inr (Or.inr (Or.inr (Or.inl e)))))
  .exact Or.inl (hf k (Or.inr (Or.inr (Or.inr (Or.inr (Or.inl e))))))
  .exact Or.inr e
  .exact Or.inl (hf k (Or.inr (Or.inr (Or.inr (Or.inr (Or.inr (Or.inr (Or.inl e))))))))
  exact Or.inl (hf k (Or.inr (Or.inr (Or.inr (Or.inr (Or.inr (Or.inr (Or.inr (⟨d,hd,e⟩)))))))))
 .rcases hk with hk|hk
  .exact Or.inl hk
  rcases hv k hk with h1|h1
  .exact Or.inl (hf k (Or.inr (Or.inr (Or.inr (Or.inr (Or.inr (Or.inl h1)))))))
  exact Or.inr h1
 rcases hk with hk|hk
 .exact Nat.lt_of_lt_of_le (h.fl k hk).2 hs.size
 exact(hown.lt k hk).2
theorem NodeW.timsTurn{B:Nat}{es:List Addr}{m:Int}{F R:Nat→Prop}{nb kb rb cb n i:Nat}{s s':NodeS}{V:NodeV}{w w':World}(h:NodeW B es m F R nb kb rb cb n i s w)(hA:NodeAt nb kb cb V s w)(hf:∀k,V.foot nb cb k→F k)(v':Value)
 (hb:w'.heap[nb]? =some (.cells (nodeA kb cb { V with tv:=v' } s') 135 (0,0))) (hown:w'.ownsRow 0 223 5 v' s'.tims.length (timL s'.tims)) (hat:v'.ownBlock=V.tv.ownBlock∨∀g,v'.ownBlock=some g→w.heap.size≤g) (hs:SameBut (fun k=>k=nb∨some k=V.tv.ownBlock) w w')
 (edec:s'.dec=s.dec)
 (ewait:s'.wait=s.wait)
 (elog:s'.log=s.log)
 (eahead:s'.ahead=s.ahead)
 (eout:s'.out=s.out)
 (esg:s'.sg=s.sg):∃F',NodeW B es m F' R nb kb rb cb n i s' w'∧Goes F R w F' R w':=by
 obtain⟨n1,n2,n3,n4,n5,n6⟩:=hA.rows;have hv:∀g,v'.ownBlock=some g→V.tv.ownBlock=some g∨w.heap.size≤g:=fun g hg=>by
  rcases hat with h1|h1
  .exact Or.inl (h1.symm.trans hg)
  exact Or.inr (h1 g hg)
 have hN:NodeAt nb kb cb { V with tv:=v' } s' w':=by
  refine⟨hb,by rw[edec];exact hA.eds,?_,?_,?_,?_,?_,?_,?_,?_,?_,hA.acc⟩
  .exact own_blocks hA.dec fun g e hg=>hs.block g hg (fun x=>x.elim (fun x=>n1 (x▸e)) (fun x=>own_tt hA.dec hA.tims (by decide) g e x.symm))
  .exact fun d hd=>own_blocks (hA.cert d hd) fun g e hg=>hs.block g hg (fun x=>x.elim (fun x=>n6 d hd (x▸e)) (fun x=>own_tt (hA.cert d hd) hA.tims (by decide) g e x.symm))
  .rw [ewait];exact own_blocks hA.wait fun g e hg=>hs.block g hg (fun x=>x.elim (fun x=>n2 (x▸e)) (fun x=>own_tt hA.wait hA.tims (by decide) g e x.symm))
  .rw [elog];exact own_blocks hA.log fun g e hg=>hs.block g hg (fun x=>x.elim (fun x=>n3 (x▸e)) (fun x=>own_tt hA.log hA.tims (by decide) g e x.symm))
  .rw [eahead];exact own_blocks hA.ahead fun g e hg=>hs.block g hg (fun x=>x.elim (fun x=>n4 (x▸e)) (fun x=>own_tt hA.ahead hA.tims (by decide) g e x.symm))
  .exact hown
  .rw [eout];obtain⟨a,b,hc⟩:=hA.chan;exact⟨a,b,(hs.block cb (chan_lt hA.chan) (fun x=>x.elim (fun x=>hA.nc x.symm) (fun x=>own_nc hA.tims hA.chan x.symm))).trans hc⟩
  .exact hA.alog
  exact hA.awc
 refine⟨fun k=>F k∨v'.ownBlock=some k,?_⟩;refine h.turnF ⟨_,hN,fun k hk=>?_⟩ esg (fun k hk=>?_) (fun k hk=>?_) ⟨hs.os,hs.tape,hs.output,hs.size,fun k hk hn=>hs.block k hk (fun x=>x.elim (fun x=>hn (x▸hf nb (Or.inl rfl))) (fun x=>hn (hf k (Or.inr (Or.inr (Or.inr (Or.inr (Or.inr (Or.inr (Or.inl x.symm))))))))))⟩
 .rcases hk with rfl|rfl|e|e|e|e|e|⟨d,hd,e⟩
  .exact Or.inl (hf _ (Or.inl rfl))
  .exact Or.inl (hf _ (Or.inr (Or.inl rfl)))
  .exact Or.inl (hf k (Or.inr (Or.inr (Or.inl e))))
  .exact Or.inl (hf k (Or.inr (Or.inr (Or.inr (Or.inl e)))))
  .exact Or.inl (hf k (Or.inr (Or.inr (Or.inr (Or.inr (Or.inl e))))))
  .exact Or.inl (hf k (Or.inr (Or.inr (Or.inr (Or.inr (Or.inr (Or.inl e)))))))
  .exact Or.inr e
  exact Or.inl (hf k (Or.inr (Or.inr (Or.inr (Or.inr (Or.inr (Or.inr (Or.inr (⟨d,hd,e⟩)))))))))
 .rcases hk with hk|hk
  .exact Or.inl hk
  rcases hv k hk with h1|h1
  .exact Or.inl (hf k (Or.inr (Or.inr (Or.inr (Or.inr (Or.inr (Or.inr (Or.inl h1))))))))
  exact Or.inr h1
 rcases hk with hk|hk
 .exact Nat.lt_of_lt_of_le (h.fl k hk).2 hs.size
 exact(hown.lt k hk).2
theorem NodeW.waitTurn{B:Nat}{es:List Addr}{m:Int}{F R:Nat→Prop}{nb kb rb cb n i:Nat}{s s':NodeS}{V:NodeV}{w w':World}(h:NodeW B es m F R nb kb rb cb n i s w)(hA:NodeAt nb kb cb V s w)(hf:∀k,V.foot nb cb k→F k)(v':Value)
 (hb:w'.heap[nb]? =some (.cells (nodeA kb cb { V with wv:=v' } s') 135 (0,0))) (hown:w'.ownsRow 0 9 1 v' s'.wait.length (List.map Value.string s'.wait)) (hat:v'.ownBlock=V.wv.ownBlock∨∀g,v'.ownBlock=some g→w.heap.size≤g) (hs:SameBut (fun k=>k=nb∨some k=V.wv.ownBlock) w w')
 (edec:s'.dec=s.dec)
 (elog:s'.log=s.log)
 (eahead:s'.ahead=s.ahead)
 (etims:s'.tims=s.tims)
 (eout:s'.out=s.out)
 (esg:s'.sg=s.sg):∃F',NodeW B es m F' R nb kb rb cb n i s' w'∧Goes F R w F' R w':=by
 obtain⟨n1,n2,n3,n4,n5,n6⟩:=hA.rows;have hv:∀g,v'.ownBlock=some g→V.wv.ownBlock=some g∨w.heap.size≤g:=fun g hg=>by
  rcases hat with h1|h1
  .exact Or.inl (h1.symm.trans hg)
  exact Or.inr (h1 g hg)
 have hN:NodeAt nb kb cb { V with wv:=v' } s' w':=by
  refine⟨hb,by rw[edec];exact hA.eds,?_,?_,?_,?_,?_,?_,?_,?_,?_,hA.acc⟩
  .exact own_blocks hA.dec fun g e hg=>hs.block g hg (fun x=>x.elim (fun x=>n1 (x▸e)) (fun x=>own_tt hA.dec hA.wait (by decide) g e x.symm))
  .exact fun d hd=>own_blocks (hA.cert d hd) fun g e hg=>hs.block g hg (fun x=>x.elim (fun x=>n6 d hd (x▸e)) (fun x=>hA.awc d hd g e x.symm))
  .exact hown
  .rw [elog];exact own_blocks hA.log fun g e hg=>hs.block g hg (fun x=>x.elim (fun x=>n3 (x▸e)) (fun x=>own_tt hA.log hA.wait (by decide) g e x.symm))
  .rw [eahead];exact own_blocks hA.ahead fun g e hg=>hs.block g hg (fun x=>x.elim (fun x=>n4 (x▸e)) (fun x=>own_tt hA.ahead hA.wait (by decide) g e x.symm))
  .rw [etims];exact own_blocks hA.tims fun g e hg=>hs.block g hg (fun x=>x.elim (fun x=>n5 (x▸e)) (fun x=>own_tt hA.tims hA.wait (by decide) g e x.symm))
  .rw [eout];obtain⟨a,b,hc⟩:=hA.chan;exact⟨a,b,(hs.block cb (chan_lt hA.chan) (fun x=>x.elim (fun x=>hA.nc x.symm) (fun x=>own_nc hA.wait hA.chan x.symm))).trans hc⟩
  .exact hA.alog
  intro d hd g hg ha;rcases hv g ha with h1|h1
  .exact hA.awc d hd g hg h1
  have:=((hA.cert d hd).lt g hg).2;omega
 refine⟨fun k=>F k∨v'.ownBlock=some k,?_⟩;refine h.turnF ⟨_,hN,fun k hk=>?_⟩ esg (fun k hk=>?_) (fun k hk=>?_) ⟨hs.os,hs.tape,hs.output,hs.size,fun k hk hn=>hs.block k hk (fun x=>x.elim (fun x=>hn (x▸hf nb (Or.inl rfl))) (fun x=>hn (hf k (Or.inr (Or.inr (Or.inr (Or.inl x.symm)))))))⟩
 .rcases hk with rfl|rfl|e|e|e|e|e|⟨d,hd,e⟩
  .exact Or.inl (hf _ (Or.inl rfl))
  .exact Or.inl (hf _ (Or.inr (Or.inl rfl)))
  .exact Or.inl (hf k (Or.inr (Or.inr (Or.inl e))))
  .exact Or.inr e
  .exact Or.inl (hf k (Or.inr (Or.inr (Or.inr (Or.inr (Or.inl e))))))
  .exact Or.inl (hf k (Or.inr (Or.inr (Or.inr (Or.inr (Or.inr (Or.inl e)))))))
  .exact Or.inl (hf k (Or.inr (Or.inr (Or.inr (Or.inr (Or.inr (Or.inr (Or.inl e))))))))
  exact Or.inl (hf k (Or.inr (Or.inr (Or.inr (Or.inr (Or.inr (Or.inr (Or.inr (⟨d,hd,e⟩)))))))))
 .rcases hk with hk|hk
  .exact Or.inl hk
  rcases hv k hk with h1|h1
  .exact Or.inl (hf k (Or.inr (Or.inr (Or.inr (Or.inl h1)))))
  exact Or.inr h1
 rcases hk with hk|hk
 .exact Nat.lt_of_lt_of_le (h.fl k hk).2 hs.size
 exact(hown.lt k hk).2
theorem NodeW.outTurn{B:Nat}{es:List Addr}{m:Int}{F R:Nat→Prop}{nb kb rb cb n i:Nat}{s:NodeS}{out':List ByteArray}{w w':World}(h:NodeW B es m F R nb kb rb cb n i s w)(hc:ChanAt w' cb out')(ho:OnlyC cb w w'):
 NodeW B es m F R nb kb rb cb n i { s with out:=out' } w'∧Goes F R w F R w':=by
 obtain⟨V,hA,hf⟩:=h.node;have hN:NodeAt nb kb cb V { s with out:=out' } w':=by
  refine⟨(ho.block nb hA.nc).trans hA.blk,hA.eds,own_blocks hA.dec fun g e _=>ho.block g (fun x=>own_nc hA.dec hA.chan (x▸e)),fun d hd=>own_blocks (hA.cert d hd) fun g e _=>ho.block g (fun x=>own_nc (hA.cert d hd) hA.chan (x▸e)),own_blocks hA.wait fun g e _=>ho.block g (fun x=>own_nc hA.wait hA.chan (x▸e)),own_blocks hA.log fun g e _=>ho.block g (fun x=>own_nc hA.log hA.chan (x▸e)),own_blocks hA.ahead fun g e _=>ho.block g (fun x=>own_nc hA.ahead hA.chan (x▸e)),own_blocks hA.tims fun g e _=>ho.block g (fun x=>own_nc hA.tims hA.chan (x▸e)),hc,hA.alog,hA.awc,hA.acc⟩
 exact h.turnF ⟨V,hN,hf⟩ rfl (fun k hk=>Or.inl hk) (fun k hk=>by rw[ho.size];exact(h.fl k hk).2) ⟨ho.os,ho.tape,ho.output,by rw[ho.size];exact Nat.le_refl _,fun k _ hn=>ho.block k (fun e=>hn (e▸hf cb (Or.inr (Or.inl rfl))))⟩
def NodeS.takeS(s:NodeS)(e:EntV):NodeS:=if e.m.h=(s.height:Int) then { s with log:=s.log++[e] } else { s with ahead:=s.ahead++[e] }
theorem nodeTake_any{B:Nat}{es:List Addr}{m:Int}{F R:Nat→Prop}{nb kb rb cb n i:Nat}{s:NodeS}(e:EntV){w:World}(h:NodeW B es m F R nb kb rb cb n i s w)(hl:s.log.length≤100000000)(ha:s.ahead.length≤100000000):
 Calls prog 81 #[.pointer (some ⟨nb,0,none⟩),.agg e.cells] w fun en w'=>en=.returned (.tuple #[])∧∃F',NodeW B es m F' R nb kb rb cb n i (s.takeS e) w'∧Goes F R w F' R w':=by
 obtain⟨V,hA,hf⟩:=h.node;have hlo:∀W,Below w.heap.size w W→Calls prog 126 #[.pointer (some ⟨nb,0,none⟩),.int .i64 e.m.h] W fun en w'=>en=.returned (.pointer (some ⟨nb,if e.m.h=(s.height:Int) then 37 else 38,none⟩))∧w'=W:=fun W hW=>logOf_any nb kb cb e.m.h V s W (hA.below hW);by_cases hh:e.m.h=(s.height:Int)
 .rw [if_pos hh] at hlo;refine(take_raw nb 37 (nodeA kb cb V s) 135 s.log e V.lv w hA.blk (by decide) rfl hA.log hl hlo).mono ?_;rintro en w' ⟨v',rfl,h1,h2,h3,h4⟩;refine⟨rfl,?_⟩;unfold NodeS.takeS;rw[if_pos hh];exact h.logTurn (s':={ s with log:=s.log++[e] }) hA hf v' h1 (by rw[List.length_append];exact h2) h3 h4 rfl rfl rfl rfl rfl rfl
 rw[if_neg hh] at hlo;refine(take_raw nb 38 (nodeA kb cb V s) 135 s.ahead e V.av w hA.blk (by decide) rfl hA.ahead ha hlo).mono ?_;rintro en w' ⟨v',rfl,h1,h2,h3,h4⟩;refine⟨rfl,?_⟩;unfold NodeS.takeS;rw[if_neg hh];exact h.aheadTurn (s':={ s with ahead:=s.ahead++[e] }) hA hf v' h1 (by rw[List.length_append];exact h2) h3 h4 rfl rfl rfl rfl rfl rfl
theorem sendS_none{s:NodeS}{i:Nat}{k v:Int}{nl:Bool}{t:ByteArray}(h:powI s.x (i:Int)=0):s.sendS i k v nl t=s:=by unfold NodeS.sendS;rw[if_pos h]
theorem sendS_no{s:NodeS}{i:Nat}{k v:Int}{nl:Bool}{t:ByteArray}(h:hasB k (s.height:Int) (s.round:Int) (i:Int) v nl t.size=false):s.sendS i k v nl t=s:=by
 unfold NodeS.sendS;split
 .rfl
 rw[if_neg (by rw[h];exact Bool.false_ne_true)]
theorem sendS_yes{s:NodeS}{i:Nat}{k v:Int}{nl:Bool}{t:ByteArray}(h:¬powI s.x (i:Int)=0)(hb:hasB k (s.height:Int) (s.round:Int) (i:Int) v nl t.size=true):
 s.sendS i k v nl t={ { s with sg:=signR s.sg i (s.enc i k v nl t) } with out:=put1 s.out (s.enc i k v nl t) }.takeS ⟨s.msg i k v nl t,s.enc i k v nl t,true⟩:=by
 unfold NodeS.sendS;rw[if_neg h,if_pos hb];exact(if_pos rfl).symm
theorem NodeAt.fresh{nb kb cb:Nat}{V:NodeV}{s:NodeS}{w:World}(h:NodeAt nb kb cb V s w):∀j,V.foot nb cb j→j≠w.heap.size:=fun j hj e=>by have:=h.lt j hj;omega
theorem Tryz.sizeMsg7:(prog.info? 57).map (·.size)=some 7:=by kernel_rfl
theorem send_any{B:Nat}{es:List Addr}{m:Int}{F R:Nat→Prop}{nb kb rb cb n i:Nat}{s:NodeS}(k h0 r0 f0 v:Int)(nl:Bool)(t:ByteArray)(a1':Addr){w:World}(h:NodeW B es m F R nb kb rb cb n i s w)(he1:es[1]? =some a1')(hl:s.log.length≤100000000)(ha:s.ahead.length≤100000000)(hsg:(s.sg i).length≤4000000000000)(ht:t.size≤maxLen):
 Calls prog 147 #[.pointer (some ⟨nb,0,none⟩),.agg #[.int .i64 k,.int .i64 h0,.int .i64 r0,.int .i64 f0,.int .i64 v,.bool nl,.string t]] w fun en w'=>en=.returned (.tuple #[])∧∃F' R',NodeW B es m F' R' nb kb rb cb n i (s.sendS i k v nl t) w'∧Goes F R w F' R' w':=by
 have HH:=hide h;obtain⟨V,hA,hf⟩:=h.node

 obtain⟨w1,hw1⟩:=gen (w.alloc (.cells #[.int .i64 k,.int .i64 h0,.int .i64 r0,.int .i64 f0,.int .i64 v,.bool nl,.string t] 57));have hb1:Below w.heap.size w w1:=by rw[hw1];exact(Below.refl _ w).alloc (Nat.le_refl _) _
 have hq1:w1.heap[w.heap.size]? =some (.cells #[.int .i64 k,.int .i64 h0,.int .i64 r0,.int .i64 f0,.int .i64 v,.bool nl,.string t] 57 (0,0)):=by rw[hw1];exact heap_alloc_new w _
 have hz1:w1.heap.size=w.heap.size+1:=by rw[hw1];simp
 have HNF:=hide hA.fresh;have hA1:=hA.below hb1;have c0:w1.cell? ⟨nb,0,none⟩=some (.pointer (some ⟨kb,0,none⟩)):=hA1.cell 0 rfl;have c0':(w.alloc (.cells #[.int .i64 k,.int .i64 h0,.int .i64 r0,.int .i64 f0,.int .i64 v,.bool nl,.string t] 57)).cell? ⟨nb,0,none⟩=some (.pointer (some ⟨kb,0,none⟩)):=by rw[←hw1];exact c0
 obtain⟨HA1,HR1,HB1,HQ1,HZ1,HW1,HSG,HT⟩:=hide8 hA1 hA1.reg hb1 hq1 hz1 hw1 hsg ht;obtain⟨HE1,HL,HAH⟩:=hide3 he1 hl ha;have HKEY:Hid (KeyAt w1 kb rb i):=(HH.out.below hb1).key;clear hA1 hb1 hq1 hz1 hw1 hsg ht he1 hl ha h hf hA;by_cases hp0:powI s.x (i:Int)=0
 .have HS:Hid (s.sendS i k v nl t=s):=sendS_none hp0;go_enter func147,ntmps147;go_wp2_with fail
  rw[←HW1.out];refine(keyId_any kb rb i w1 HKEY.out).mono ?_;rintro e w2 ⟨rfl,hw2⟩;have hw3:=hw2.symm;clear hw2;subst hw3;clear c0';go_wp2_with (first|(refine wpList_load_mid rfl 116 _ rfl nb 1 rfl (regL s.x) _ HR1.out underlying116 rfl (by rw[Tryz.sizeRegistry];simp[regL]) ?_)|fail)
  refine(power_any s.x (i:Int) w1).mono ?_;rintro e w3 ⟨rfl,hb3⟩;have HB3:Hid (Below w.heap.size w w3):=HB1.out.trans (hb3.mono HB1.out.size);clear hb3;rw[hp0];go_wp2;exact bodyPost_ret (v:=.tuple #[]) (by simp[results,results147]) rfl ⟨rfl,F,R,by rw[HS.out];exact HH.out.below HB3.out,Goes.below HB3.out⟩
 obtain⟨pw,hpw⟩:=gen (powI s.x (i:Int));have q0:decide (pw=0)=false:=decide_eq_false (by rw[hpw];exact hp0);have q1:¬pw=0:=by rw[hpw];exact hp0
 have HPW:=hide hpw;clear hpw;go_enter func147,ntmps147;go_wp2_with fail
 rw[←HW1.out];refine(keyId_any kb rb i w1 HKEY.out).mono ?_;rintro e w2 ⟨rfl,hw2⟩;have hw3:=hw2.symm;clear hw2;subst hw3;clear c0';go_wp2_with (first|(refine wpList_load_mid rfl 116 _ rfl nb 1 rfl (regL s.x) _ HR1.out underlying116 rfl (by rw[Tryz.sizeRegistry];simp[regL]) ?_)|fail)
 refine(power_any s.x (i:Int) w1).mono ?_;rintro e w3 ⟨rfl,hb3⟩;have HB3:=hide hb3;have HQ3:Hid (w3.heap[w.heap.size]? =some (.cells #[.int .i64 k,.int .i64 h0,.int .i64 r0,.int .i64 f0,.int .i64 v,.bool nl,.string t] 57 (0,0))):=blk HQ1.out hb3;have HA3:Hid (NodeAt nb kb cb V s w3):=HA1.out.below hb3;have HBW:Hid (Below w.heap.size w w3):=HB1.out.trans (hb3.mono HB1.out.size);clear hb3;rw[←HPW.out];go_wp2_with fail
 refine rgd (S:=fun W=>NodeAt nb kb cb V s W) (HA3.out.frame fun _ _=>rfl) (fun hH=>?_);refine takeN [(0,some 19,pA nb 0),(2,some 21,pA nb 0),(3,some 22,pA nb 0),(4,some 23,pA nb 43),(5,some 24,pA nb 43),(6,some 25,.int .i64 (s.round:Int)),(7,some 26,.int .i64 (i:Int))] _ _ hH (by repeat(first|exact True.intro|(refine tkc rfl rfl (Or.inl ⟨by rfl,fun x h=>by have f0:x.cell? ⟨nb,43,none⟩=some (.int .i64 (s.round:Int)):=h.cell 43 rfl;go_simp⟩) ?_;simp only[AP]))) ?_;simp only[takesA,AP,pA];refine rdy1 1 (fun K hK=>?_);go_simp;refine(height_any nb kb cb V s _ hH).mono ?_;rintro e w4 ⟨rfl,hw4⟩;have hw5:=hw4.symm;clear hw4;subst hw5;refine hK.out _ _ hH (fun hH=>?_);clear hK K
 try simp only[AP,AQ]
 refine takeM [(8,some 27,pA w.heap.size 1)] _ _ hH ?_;simp only[takesA,AP,pA];have q0:w3.drew.heap[w.heap.size]? =some (.cells #[.int .i64 k,.int .i64 h0,.int .i64 r0,.int .i64 f0,.int .i64 v,.bool nl,.string t] 57 (0,0)):=HQ3.out;have fz0:w3.drew.frozen? ⟨w.heap.size,1,none⟩=false:=frozen_row q0 1;have cz0:w3.drew.cell? ⟨w.heap.size,1,none⟩=some (.int .i64 h0):=cell_of_row w3.drew w.heap.size 1 _ _ _ q0;refine rdy1 9 (fun K hK=>?_);go_simp;obtain⟨a1,ha0⟩:∃z,z=(w3.setCell ⟨w.heap.size,1,none⟩ (.int .i64 (s.height:Int))).drew:=⟨_,rfl⟩;have o0:Only w.heap.size w3.drew a1:=by rw[ha0];have hx:=only_setCell w3 w.heap.size 1 (.int .i64 (s.height:Int));exact⟨hx.os,hx.tape,hx.output,hx.size,hx.block⟩
 have g0:a1.heap[w.heap.size]? =some (.cells #[.int .i64 k,.int .i64 (s.height:Int),.int .i64 r0,.int .i64 f0,.int .i64 v,.bool nl,.string t] 57 (0,0)):=by rw[ha0];exact setCell_row (w:=w3) q0 1 _
 rw[←ha0];have n0:NodeAt nb kb cb V s a1:=hH.frame fun j hj=>o0.block j (fun e=>HNF.out j hj e);refine hK.out _ _ n0 (fun hH=>?_);clear hK K ha0
 try simp only[AP,AQ]
 refine takeM [(10,some 28,pA w.heap.size 2)] _ _ hH ?_;simp only[takesA,AP,pA];have q1:a1.heap[w.heap.size]? =some (.cells #[.int .i64 k,.int .i64 (s.height:Int),.int .i64 r0,.int .i64 f0,.int .i64 v,.bool nl,.string t] 57 (0,0)):=g0;have fz1:a1.frozen? ⟨w.heap.size,2,none⟩=false:=frozen_row q1 2;have cz1:a1.cell? ⟨w.heap.size,2,none⟩=some (.int .i64 r0):=cell_of_row a1 w.heap.size 2 _ _ _ q1;refine rdy1 11 (fun K hK=>?_);go_simp;obtain⟨a2,ha1⟩:=gen (a1.setCell ⟨w.heap.size,2,none⟩ (.int .i64 (s.round:Int)));have o1:Only w.heap.size a1 a2:=by rw[ha1];have hx:=only_setCell a1 w.heap.size 2 (.int .i64 (s.round:Int));exact⟨hx.os,hx.tape,hx.output,hx.size,hx.block⟩
 have g1:a2.heap[w.heap.size]? =some (.cells #[.int .i64 k,.int .i64 (s.height:Int),.int .i64 (s.round:Int),.int .i64 f0,.int .i64 v,.bool nl,.string t] 57 (0,0)):=by rw[ha1];exact setCell_row (w:=a1) q1 2 _
 rw[←ha1];have n1:NodeAt nb kb cb V s a2:=hH.frame fun j hj=>o1.block j (fun e=>HNF.out j hj e);refine hK.out _ _ n1 (fun hH=>?_);clear hK K ha1
 try simp only[AP,AQ]
 refine takeM [(12,some 29,pA w.heap.size 3)] _ _ hH ?_;simp only[takesA,AP,pA];have q2:a2.heap[w.heap.size]? =some (.cells #[.int .i64 k,.int .i64 (s.height:Int),.int .i64 (s.round:Int),.int .i64 f0,.int .i64 v,.bool nl,.string t] 57 (0,0)):=g1;have fz2:a2.frozen? ⟨w.heap.size,3,none⟩=false:=frozen_row q2 3;have cz2:a2.cell? ⟨w.heap.size,3,none⟩=some (.int .i64 f0):=cell_of_row a2 w.heap.size 3 _ _ _ q2;refine rdy1 13 (fun K hK=>?_);go_simp;obtain⟨a3,ha2⟩:=gen (a2.setCell ⟨w.heap.size,3,none⟩ (.int .i64 (i:Int)));have o2:Only w.heap.size a2 a3:=by rw[ha2];have hx:=only_setCell a2 w.heap.size 3 (.int .i64 (i:Int));exact⟨hx.os,hx.tape,hx.output,hx.size,hx.block⟩
 have g2:a3.heap[w.heap.size]? =some (.cells #[.int .i64 k,.int .i64 (s.height:Int),.int .i64 (s.round:Int),.int .i64 (i:Int),.int .i64 v,.bool nl,.string t] 57 (0,0)):=by rw[ha2];exact setCell_row (w:=a2) q2 3 _
 rw[←ha2];have n2:NodeAt nb kb cb V s a3:=hH.frame fun j hj=>o2.block j (fun e=>HNF.out j hj e);refine hK.out _ _ n2 (fun hH=>?_);clear hK K ha2
 try simp only[AP,AQ]
 refine dnr ?_;have HBA:Hid (Below w.heap.size w a3):=HBW.out.drew.trans (((o0.below (Nat.le_refl _)).trans (o1.below (Nat.le_refl _))).trans (o2.below (Nat.le_refl _)) |>.mono (by exact Nat.le_refl _));obtain⟨HG3,HWA⟩:=hide2 g2 (HH.out.below HBA.out);have heF:a3.cell? ⟨2,0,none⟩=some (.iface 294 (.pointer (some a1'))):=HWA.out.glob.sent.cell 1 _ _ rfl HE1.out;have HENC:=hide (wireEncode_any k (s.height:Int) (s.round:Int) (i:Int) v nl t a1' a3 HT.out heF);clear heF HQ1 HR1 HA1 HKEY c0 g2 g1 g0 o0 o1 o2 n0 n1 n2 q2 cz0 cz1 cz2 fz0 fz1 fz2;go_wp2_with (first|(refine wpList_load_row rfl 57 _ rfl w.heap.size rfl 57 #[.int .i64 k,.int .i64 (s.height:Int),.int .i64 (s.round:Int),.int .i64 (i:Int),.int .i64 v,.bool nl,.string t] (0,0) _ HG3.out underlying57 rfl Tryz.sizeMsg7 ?_)|fail)
 refine HENC.out.mono ?_;rintro e w5 ⟨rfl,hb5⟩;have HB5:Hid (Below w.heap.size w w5):=HBA.out.trans (hb5.mono HBA.out.size);have HQ5:Hid (w5.heap[w.heap.size]? =some (.cells #[.int .i64 k,.int .i64 (s.height:Int),.int .i64 (s.round:Int),.int .i64 (i:Int),.int .i64 v,.bool nl,.string t] 57 (0,0))):=blk HG3.out hb5;clear hb5 HENC;by_cases hhb:hasB k (s.height:Int) (s.round:Int) (i:Int) v nl t.size=true
 .rw [hhb];unfold formE;simp only[if_true];obtain⟨fr,hfr⟩:=gen (encS k (s.height:Int) (s.round:Int) (i:Int) v nl t);rw[←hfr];have HFR:=hide hfr;clear hfr;obtain⟨HSS,HW5⟩:=hide2 (sendS_yes (s:=s) (i:=i) (k:=k) (v:=v) (nl:=nl) (t:=t) hp0 hhb) (HH.out.below HB5.out);obtain⟨V5,hA5,hf5⟩:=HW5.out.node;have d0:w5.cell? ⟨nb,0,none⟩=some (.pointer (some ⟨kb,0,none⟩)):=hA5.cell 0 rfl;have HSI:=hide (sign_any R rb n kb i s.sg fr w5 HW5.out.ring HW5.out.idn HW5.out.key HSG.out (fun j hj=>(HW5.out.rl j hj).2));clear hA5 hf5 hhb hp0 HG3 HWA;go_wp2_with fail
  refine HSI.out.mono ?_;rintro e w6 ⟨rfl,hs6⟩;obtain⟨R6,hW6,hG6⟩:=HW5.out.turnR hs6;obtain⟨HW6,HG6⟩:=hide2 hW6 hG6;have HQ6:Hid (w6.heap[w.heap.size]? =some (.cells #[.int .i64 k,.int .i64 (s.height:Int),.int .i64 (s.round:Int),.int .i64 (i:Int),.int .i64 v,.bool nl,.string t] 57 (0,0))):=(hG6.same.block _ (row_lt0 HQ5.out) (fun x=>x.elim (fun x=>by have:=(HH.out.fl _ x).2;omega) (fun x=>by have:=(HH.out.rl _ x).2;omega))).trans HQ5.out;clear hs6 hW6 hG6 HSI d0;obtain⟨w7,hw7⟩:=gen (w6.alloc (.cells #[.string fr] 9));have hb7:Below w6.heap.size w6 w7:=by rw[hw7];exact(Below.refl _ w6).alloc (Nat.le_refl _) _
  have hq7:w7.heap[w6.heap.size]? =some (.cells #[.string fr] 9 (0,0)):=by rw[hw7];exact heap_alloc_new w6 _
  have HW7:=hide (HW6.out.below hb7);have HQ7:Hid (w7.heap[w.heap.size]? =some (.cells #[.int .i64 k,.int .i64 (s.height:Int),.int .i64 (s.round:Int),.int .i64 (i:Int),.int .i64 v,.bool nl,.string t] 57 (0,0))):=blk HQ6.out hb7;obtain⟨V7,hA7,hf7⟩:=HW7.out.node;have hnc7:w6.heap.size≠cb:=fun e=>by
   obtain⟨x1,x2,h2⟩:=hA7.chan;rw[←e,hq7] at h2;cases h2
  have hcell7:∀j,j<1→∃b o,(some ⟨w6.heap.size,0,none⟩:Option Addr)=some ⟨b,o,none⟩∧b≠cb∧w7.cell? ⟨b,o+j,none⟩=some (.string ((fun _=>fr) j)):=fun j hj=>by
   have e0:j=0:=by omega
   subst e0;exact⟨w6.heap.size,0,rfl,hnc7,cell_of_row w7 w6.heap.size 0 _ _ _ hq7⟩
  have HPUT:=hide (put_any nb 53 cb 1 1 (some ⟨w6.heap.size,0,none⟩) (fun _=>fr) s.out w7 (by omega) hA7.nc hA7.chan (hA7.cell 53 rfl) hcell7);clear hcell7 hnc7;obtain⟨HB7,HWW7⟩:=hide2 hb7 hw7;clear hb7 hq7 hA7 hf7 hw7;go_wp2_with fail
  rw[←HWW7.out];refine HPUT.out.mono ?_;rintro e w8 ⟨rfl,hch8,ho8⟩;obtain⟨hW8,hG8⟩:=HW7.out.outTurn hch8 ho8;have HW8:=hide hW8;have HG8:Hid (Goes F R w F R6 w8):=((Goes.below (F:=F) (R:=R) HB5.out).trans HG6.out).trans ((Goes.below (F:=F) (R:=R6) HB7.out).trans hG8);have HQ8:Hid (w8.heap[w.heap.size]? =some (.cells #[.int .i64 k,.int .i64 (s.height:Int),.int .i64 (s.round:Int),.int .i64 (i:Int),.int .i64 v,.bool nl,.string t] 57 (0,0))):=(ho8.block _ (fun e=>by obtain⟨x1,x2,h2⟩:=hch8;have h3:=(ho8.block w.heap.size);have h1:=HQ7.out;obtain⟨V7,hA7,hf7⟩:=HW7.out.node;obtain⟨y1,y2,h4⟩:=hA7.chan;rw[←e,h1] at h4;cases h4)).trans HQ7.out;clear hch8 ho8 hW8 hG8 HPUT;have HTK:=hide (nodeTake_any (⟨⟨k,(s.height:Int),(s.round:Int),(i:Int),v,nl,t⟩,fr,true⟩:EntV) HW8.out HL.out HAH.out);go_wp2_with (first|(refine wpList_load_row rfl 57 _ rfl w.heap.size rfl 57 #[.int .i64 k,.int .i64 (s.height:Int),.int .i64 (s.round:Int),.int .i64 (i:Int),.int .i64 v,.bool nl,.string t] (0,0) _ HQ8.out underlying57 rfl Tryz.sizeMsg7 ?_)|fail)
  refine HTK.out.mono ?_;rintro e w9 ⟨rfl,F9,hW9,hG9⟩;have HEND:Hid (∃F' R',NodeW B es m F' R' nb kb rb cb n i (s.sendS i k v nl t) w9∧Goes F R w F' R' w9):=by
   refine⟨F9,R6,?_,HG8.out.trans hG9⟩;rw[HSS.out];unfold NodeS.enc NodeS.msg;rw[←HFR.out];exact hW9
  clear hW9 hG9 HTK;go_wp2;first|exact bodyPost_end (v:=.tuple #[]) (by simp[results,results147]) rfl ⟨rfl,HEND.out⟩|exact bodyPost_ret (v:=.tuple #[]) (by simp[results,results147]) rfl ⟨rfl,HEND.out⟩
 have hhb':hasB k (s.height:Int) (s.round:Int) (i:Int) v nl t.size=false:=by simpa using hhb
 have HS:Hid (s.sendS i k v nl t=s):=sendS_no hhb';rw[hhb'];unfold formE;simp only[Bool.false_eq_true,if_false];clear hhb hhb';go_wp2;exact bodyPost_ret (v:=.tuple #[]) (by simp[results,results147]) rfl ⟨rfl,F,R,by rw[HS.out];exact HH.out.below HB5.out,Goes.below HB5.out⟩
def NodeS.begunS(s:NodeS)(num:Nat):NodeS:={ s with b1:=if num=1 then true else s.b1,b2:=if num=2 then true else s.b2,b3:=if num=3 then true else s.b3 }
theorem nodeA_begun(kb cb num:Nat)(V:NodeV)(s:NodeS)(h:num=1∨num=2∨num=3):(nodeA kb cb V s).setIfInBounds (46+num) (.bool true)=nodeA kb cb V (s.begunS num):=by
 rcases h with rfl|rfl|rfl<;>rfl
theorem nodeA_begunAt(kb cb num:Nat)(V:NodeV)(s:NodeS)(h:num=1∨num=2∨num=3):∃b,(nodeA kb cb V s)[46+num]? =some (.bool b):=by
 rcases h with rfl|rfl|rfl
 .exact ⟨s.b1,rfl⟩
 .exact ⟨s.b2,rfl⟩
 exact⟨s.b3,rfl⟩
theorem height_begun(nb kb cb num:Nat)(V:NodeV)(s:NodeS)(w:World)(hA:NodeAt nb kb cb V (s.begunS num) w):
 Calls prog 73 #[.pointer (some ⟨nb,0,none⟩)] w fun e w'=>e=.returned (.int .i64 (s.height:Int))∧w'=w:=height_any nb kb cb V (s.begunS num) w hA
theorem timer_end{B:Nat}{es:List Addr}{m:Int}{F R:Nat→Prop}{nb kb rb cb n i num ticks:Nat}{s:NodeS}{V:NodeV}{v4:Value}{w w1 w3 w4:World}(h:NodeW B es m F R nb kb rb cb n i s w)(hA:NodeAt nb kb cb V s w)(hf:∀k,V.foot nb cb k→F k)
 (hw1:w1=w.setCell ⟨nb,46+num,none⟩ (.bool true)) (hA1:NodeAt nb kb cb V (s.begunS num) w1) (hb3:Below w1.heap.size w1 w3)
 (hn4:w4.heap[nb]? =some (.cells (((nodeA kb cb V (s.begunS num)).setIfInBounds 51 v4).setIfInBounds (51+1) (.int .i64 ((s.tb:Int)+1))) 135 (0,0)))
 (ho4:w4.ownsRow 0 223 5 v4 (s.tims.length+1) (timL (upT s.tims.length (s.tims++[⟨(num:Int),(s.height:Int),(s.round:Int),(s.time:Int)+ticks+s.round,(s.tb:Int)⟩]) s.tims.length)))
 (hat4:v4.ownBlock=V.tv.ownBlock∨∀g,v4.ownBlock=some g→w3.heap.size≤g) (hs4:SameBut (fun k=>k=nb∨some k=V.tv.ownBlock) w3 w4):
 ∃F',NodeW B es m F' R nb kb rb cb n i (s.timer num ticks) w4∧Goes F R w F' R w4:=by
 have ho1:Only nb w w1:=by rw[hw1];exact only_setCell _ _ _ _
 obtain⟨hW1,hG1⟩:=h.cellAt (s':=s.begunS num) hA hf hA1.blk ho1 rfl rfl rfl rfl rfl rfl rfl;have hW3:=hW1.below hb3;have hA3:=hA1.below hb3;have e:w4.heap[nb]? =some (.cells (nodeA kb cb { V with tv:=v4 } (s.timer num ticks)) 135 (0,0)):=by
  rw[hn4];have e1:((s.tb:Int)+1)=((s.tb+1:Nat):Int):=by omega
  rw[e1];rfl
 have hlen:(s.timer num ticks).tims.length=s.tims.length+1:=by
  show(upT s.tims.length (s.tims++[_]) s.tims.length).length=_;rw[upT_length,List.length_append];rfl
 obtain⟨F',h1,h2⟩:=hW3.timsTurn (s':=s.timer num ticks) hA3 hf v4 e (by rw[hlen];exact ho4) hat4 hs4 rfl rfl rfl rfl rfl rfl;exact⟨F',h1,(hG1.trans (Goes.below hb3)).trans h2⟩
theorem beginTimer_any{B:Nat}{es:List Addr}{m:Int}{F R:Nat→Prop}{nb kb rb cb n i:Nat}{s:NodeS}(num ticks:Nat){w:World}(hnum:num=1∨num=2∨num=3)(h:NodeW B es m F R nb kb rb cb n i s w)(htl:s.tims.length≤100000000)(htb:s.tb≤1000000000)(htm:s.time≤1000000000000)(htk:ticks≤1000)(hr:s.round≤1000):
 Calls prog 145 #[.pointer (some ⟨nb,0,none⟩),.int .i64 (num:Int),.int .i64 (ticks:Int)] w fun en w'=>en=.returned (.tuple #[])∧∃F',NodeW B es m F' R nb kb rb cb n i (s.timer num ticks) w'∧Goes F R w F' R w':=by
 obtain⟨V,hA,hf⟩:=h.node;obtain⟨w1,hw1⟩:=gen (w.setCell ⟨nb,46+num,none⟩ (.bool true));have ho1:Only nb w w1:=by rw[hw1];exact only_setCell _ _ _ _
 have hA1:NodeAt nb kb cb V (s.begunS num) w1:=hA.store (by rw[hw1,setCell_row hA.blk,nodeA_begun kb cb num V s hnum]) ho1 rfl rfl rfl rfl rfl rfl;obtain⟨bx,hbx⟩:=nodeA_begunAt kb cb num V s hnum;have c46:w.cell? ⟨nb,46+num,none⟩=some (.bool bx):=hA.cell (46+num) hbx;have f46:w.frozen? ⟨nb,46+num,none⟩=false:=hA.frozen (46+num);have hn4:(num:Int)<4:=by omega
 have hn0:¬(num:Int)<0:=by omega
 obtain⟨HH,HAT,HF,HA1,HW1,HTL⟩:=hide6 h hA hf hA1 hw1 htl;have HTB:Hid (0≤(s.tb:Int)∧(s.tb:Int)≤1000000000):=by unfold Hid;omega
 have htm2:(s.time:Int)≤1000000000000:=by omega
 have htk2:(ticks:Int)≤1000:=by omega
 have hr2:(s.round:Int)≤1000:=by omega
 have hwa:IntKind.i64.wrap ((s.time:Int)+(ticks:Int))=(s.time:Int)+ticks:=wrap_small _ (by omega) (by omega);have hwb:IntKind.i64.wrap ((s.time:Int)+(ticks:Int)+(s.round:Int))=(s.time:Int)+ticks+s.round:=wrap_small _ (by omega) (by omega);clear h hA hf hA1 hw1 htl htb htm htk hr ho1 hbx;go_enter func145,ntmps145;go_wp2_with fail
 rw[←HW1.out];refine rgd (S:=fun W=>NodeAt nb kb cb V (s.begunS num) W) (HA1.out.frame fun _ _=>rfl) (fun hH=>?_);refine takeN [(0,some 13,.int .i64 (num:Int)),(1,some 14,pA nb 0),(3,some 16,pA nb 0),(4,some 17,pA nb 0),(5,some 18,pA nb 43),(6,some 19,pA nb 43),(7,some 20,.int .i64 (s.round:Int))] _ _ hH (by repeat(first|exact True.intro|(refine tkc rfl rfl (Or.inl ⟨by rfl,fun x h=>by have f0:x.cell? ⟨nb,43,none⟩=some (.int .i64 (s.round:Int)):=h.cell 43 rfl;go_simp⟩) ?_;simp only[AP]))) ?_;simp only[takesA,AP,pA];refine rdy2 2 9 (fun K hK=>?_) (fun K hK=>?_);focus
  go_simp;refine(height_begun nb kb cb num V s _ hH).mono ?_;rintro e w4 ⟨rfl,hw4⟩;have hw5:=hw4.symm;clear hw4;subst hw5;refine hK.out _ _ hH (fun hH=>?_);clear hK K
  try simp only[AP,AQ]
  refine takeM [(8,some 21,.agg #[.int .i64 (num:Int),.int .i64 (s.height:Int),.int .i64 (s.round:Int)])] _ _ hH ?_;simp only[takesA,AP];refine rdy1 9 (fun K hK=>?_);go_simp;obtain⟨w2,hw2⟩:∃z,z=(w1.alloc (.cells #[.int .i64 0,.int .i64 0,.int .i64 0] 177)).drew:=⟨_,rfl⟩;have hb2:Below w1.heap.size w1 w2:=by rw[hw2];exact((Below.refl _ w1).alloc (Nat.le_refl _) _).drew
  have hq2:w2.heap[w1.heap.size]? =some (.cells #[.int .i64 0,.int .i64 0,.int .i64 0] 177 (0,0)):=by rw[hw2];exact heap_alloc_new w1 _
  rw[←hw2];refine hK.out _ _ (HA1.out.below hb2) (fun hH=>?_);clear hK K hw2
  try simp only[AP,AQ]
 rotate_left;focus
  go_simp;obtain⟨w2,hw2⟩:∃z,z=(w1.alloc (.cells #[.int .i64 0,.int .i64 0,.int .i64 0] 177)).drew:=⟨_,rfl⟩;have hb2:Below w1.heap.size w1 w2:=by rw[hw2];exact((Below.refl _ w1).alloc (Nat.le_refl _) _).drew
  have hq2:w2.heap[w1.heap.size]? =some (.cells #[.int .i64 0,.int .i64 0,.int .i64 0] 177 (0,0)):=by rw[hw2];exact heap_alloc_new w1 _
  rw[←hw2];refine hK.out _ _ (HA1.out.below hb2) (fun hH=>?_);clear hK K hw2
  try simp only[AP,AQ]
  refine rdy1 2 (fun K hK=>?_);go_simp;refine(height_begun nb kb cb num V s _ hH).mono ?_;rintro e w4 ⟨rfl,hw4⟩;have hw5:=hw4.symm;clear hw4;subst hw5;refine hK.out _ _ hH (fun hH=>?_);clear hK K
  try simp only[AP,AQ]
  refine takeM [(8,some 21,.agg #[.int .i64 (num:Int),.int .i64 (s.height:Int),.int .i64 (s.round:Int)])] _ _ hH ?_;simp only[takesA,AP]
 rotate_left;all_goals
  refine rdy1 10 (fun K hK=>?_);rw[if_pos (by rfl)];refine wp_store_midG 177 _ _ rfl w1.heap.size 0 #[.int .i64 (num:Int),.int .i64 (s.height:Int),.int .i64 (s.round:Int)] rfl rfl 177 #[.int .i64 0,.int .i64 0,.int .i64 0] hq2 (by simp) (by simp[Value.oneCell']) Tryz.sizeTimer ?_;intro w3 hq3 ho3;have hq3':w3.heap[w1.heap.size]? =some (.cells #[.int .i64 (num:Int),.int .i64 (s.height:Int),.int .i64 (s.round:Int)] 177 (0,0)):=hq3;have hb3:Below w1.heap.size w1 w3:=hb2.trans (ho3.below (Nat.le_refl _));refine hK.out _ _ (HA1.out.below hb3) (fun hH=>?_);clear hK K hH;refine dnr ?_;obtain⟨HQ3,HB3,HA3⟩:=hide3 hq3' hb3 (HA1.out.below hb3);have HNE:Hid (w1.heap.size≠nb):=fun e=>by have:=row_lt0 HA1.out.blk;omega
  clear hq3 hq3' hb3 ho3 hb2 hq2;have j1:w3.cell? ⟨nb,50,none⟩=some (.int .i64 (s.time:Int)):=HA3.out.cell 50 rfl;have j2:w3.cell? ⟨nb,43,none⟩=some (.int .i64 (s.round:Int)):=HA3.out.cell 43 rfl;go_wp2_with fail
  refine rgd (S:=fun W=>W.cell? ⟨nb,50,none⟩=some (.int .i64 (s.time:Int))∧W.cell? ⟨nb,43,none⟩=some (.int .i64 (s.round:Int))∧W.heap[w1.heap.size]? =some (.cells #[.int .i64 (num:Int),.int .i64 (s.height:Int),.int .i64 (s.round:Int)] 177 (0,0))) ⟨j1,j2,HQ3.out⟩ (fun hH=>?_);refine takeN [(0,some 22,pA nb 0),(1,some 23,pA nb 0),(2,some 24,pA nb 51),(3,some 25,.agg #[.int .i64 (num:Int),.int .i64 (s.height:Int),.int .i64 (s.round:Int)]),(4,some 26,pA nb 0),(5,some 27,pA nb 0),(6,some 28,pA nb 50),(7,some 29,.int .i64 (s.time:Int)),(8,some 30,.int .i64 (ticks:Int)),(9,some 31,.int .i64 ((s.time:Int)+ticks)),(10,some 32,pA nb 0),(11,some 33,pA nb 0),(12,some 34,pA nb 43),(13,some 35,pA nb 43),(14,some 36,.int .i64 (s.round:Int)),(15,some 37,.int .i64 ((s.time:Int)+ticks+s.round))] _ _ hH (by repeat(first|exact True.intro|((first|refine tkc rfl rfl (yieldsIf_load_mid (by rfl) 177 _ rfl w1.heap.size 0 rfl [.int .i64 (num:Int),.int .i64 (s.height:Int),.int .i64 (s.round:Int)] _ (fun w h=>row_range h.2.2) underlying177 rfl (by rw[Tryz.sizeTimer];rfl)) ?_|(refine tkc rfl rfl (Or.inl ⟨by rfl,fun x h=>?_⟩) ?_;focus(have f0:x.cell? ⟨nb,50,none⟩=some (.int .i64 (s.time:Int)):=h.1;have f1:x.cell? ⟨nb,43,none⟩=some (.int .i64 (s.round:Int)):=h.2.1;go_simp;done)));simp only[AP]))) ?_;simp only[takesA,AP,pA];refine rdy1 16 (fun K hK=>?_);go_simp;refine(begin_any nb 51 0 (nodeA kb cb V (s.begunS num)) 135 s.tims V.tv (num:Int) (s.height:Int) (s.round:Int) ((s.time:Int)+ticks+s.round) (s.tb:Int) w3.drew HA3.out.blk (by decide) rfl rfl HA3.out.tims (Nat.zero_le _) HTL.out HTB.out).mono ?_;rintro e w4 ⟨v4,rfl,hn4,ho4,hat4,hs4⟩;obtain⟨HN4,HO4,HAT4,HS4⟩:=hide4 hn4 ho4 hat4 hs4;have hk1:w4.cell? ⟨nb,50,none⟩=some (.int .i64 (s.time:Int)):=cell_of_row w4 nb 50 _ _ _ hn4;have hk2:w4.cell? ⟨nb,43,none⟩=some (.int .i64 (s.round:Int)):=cell_of_row w4 nb 43 _ _ _ hn4;have hk3:w4.heap[w1.heap.size]? =some (.cells #[.int .i64 (num:Int),.int .i64 (s.height:Int),.int .i64 (s.round:Int)] 177 (0,0)):=(hs4.block _ (row_lt0 HQ3.out) (fun x=>x.elim (fun x=>HNE.out x) (fun x=>own_ne HA3.out.tims HQ3.out (by decide) x.symm))).trans HQ3.out;clear hn4 ho4 hat4 hs4;refine hK.out _ _ ⟨hk1,hk2,hk3⟩ (fun hH=>?_);clear hK K hH hk1 hk2 hk3;refine dnr ?_;have HEND:=hide (timer_end (ticks:=ticks) HH.out HAT.out HF.out HW1.out HA1.out HB3.out.drew HN4.out HO4.out HAT4.out HS4.out);go_wp2;first|exact bodyPost_end (v:=.tuple #[]) (by simp[results,results145]) rfl ⟨rfl,HEND.out⟩|exact bodyPost_ret (v:=.tuple #[]) (by simp[results,results145]) rfl ⟨rfl,HEND.out⟩
theorem longB_no{b t:ByteArray}(h:b=⟨#[]⟩):longB b t=t:=by unfold longB;rw[if_pos h]
theorem longB_yes{b t:ByteArray}(h:¬b=⟨#[]⟩):longB b t=b++⟨#[44]⟩++t:=by unfold longB;rw[if_neg h]
theorem stepB_yes{x:Nat→Int}{b t c:ByteArray}(hc:longB b t=c)(h1:c.size≤24)(h2:(behindR x c).2=true):stepB x b t=c:=by unfold stepB;rw[hc,if_pos ⟨h1,h2⟩]
theorem stepB_long{x:Nat→Int}{b t c:ByteArray}(hc:longB b t=c)(h1:¬c.size≤24):stepB x b t=b:=by unfold stepB;rw[hc,if_neg (fun h=>h1 h.1)]
theorem stepB_bad{x:Nat→Int}{b t c:ByteArray}(hc:longB b t=c)(h2:(behindR x c).2=false):stepB x b t=b:=by unfold stepB;rw[hc,if_neg (fun h=>by rw[h2] at h;cases h.2)]
theorem block_any(x:Nat→Int)(l:List ByteArray)(p:Option Addr)(cap:Nat)(a11:Addr)(m:Int)(w:World)(hx:Dom x)(hl:Lies w w.heap.size p l.length (fun i=>.string (l.getD i ByteArray.empty)))(hm:l.length≤1000)(hz:∀t∈l,t.size≤1000)
 (hg:w.cell? ⟨11,0,none⟩=some (.iface 294 (.pointer (some a11)))) (hml:w.cell? ⟨13,0,none⟩=some (.int .i64 m)):
 Calls prog 146 #[.agg (regA x),.slice p l.length cap] w fun e w'=>e=.returned (.string (blockF x l))∧Below w.heap.size w w':=by
 obtain⟨HL,HX,HZ,HG,HML⟩:=hide5 hl hx hz hg hml;have HQ0:Hid (RegAt (w.alloc (.cells (regA x) 116)) w.heap.size 116 x):=RegAt.alloc w _ x;clear hl hx hz hg hml;have hmx:(l.length:Int)≤1000:=by omega
 go_enter func146,ntmps146;go_wp2;go_loopw [5,7,8,11] (fun v _ _ i wr=>∃j:Nat,j≤l.length∧i=.int .i64 j∧v=.string (blockF x (l.take j))∧wr.heap[w.heap.size]? =some (.cells (regA x) 116 (0,0))∧Below w.heap.size w wr) (fun _ _ _ i _=>l.length-(intOf i).toNat)
 case atStart=>exact⟨0,Nat.zero_le _,rfl,rfl,HQ0.out,(Below.refl _ w).alloc (Nat.le_refl _) _⟩
 obtain⟨j,hj,rfl,rfl,hq,hb⟩:=hrel;obtain⟨HB,HQ⟩:=hide2 hb hq;clear hb hq HQ0;by_cases hend:j=l.length
 .have hge:¬(j:Int)<l.length:=by omega
  have HE:Hid (blockF x (l.take j)=blockF x l):=by rw[hend,List.take_length];exact rfl
  clear hend;rw[HE.out];go_wp2;go_ret;exact⟨rfl,HB.out⟩
 have hlt:j<l.length:=by omega
 have hlt2:(j:Int)<l.length:=by omega
 obtain⟨b0,o0,rfl,hbb,hcl⟩:=HL.out.below HB.out j hlt;obtain⟨t,ht⟩:=gen (l.getD j ByteArray.empty);have hc14:wr.cell? ⟨b0,o0+j,none⟩=some (.string t):=by rw[ht];exact hcl
 have htz:t.size≤1000:=by
  rw[ht,List.getD_eq_getElem?_getD,List.getElem?_eq_getElem hlt];exact HZ.out _ (List.getElem_mem hlt)
 obtain⟨b,hbk⟩:=gen (blockF x (l.take j));have hbz:b.size≤24:=by rw[hbk];exact blockF_size x _
 have HST:Hid (blockF x (l.take (j+1))=stepB x b t):=by unfold Hid;rw[blockF_step x l j hlt,←hbk,←ht]
 rw[←hbk];clear hend hcl hbb ht hbk;by_cases hbe:b=⟨#[]⟩
 .subst hbe;have hlong:longB ⟨#[]⟩ t=t:=longB_no rfl;have HLO:=hide hlong;clear hlong;by_cases hz:t.size≤24
  .cases hgd:(behindR x t).2 with
   |true=>
    have hz2:(t.size:Int)≤24:=by omega
    have HCG:=hide (isGood_any x t a11 m wr HX.out (by omega) ((HB.out.cell (p:=⟨11,0,none⟩) (World.block_lt_of_cell? _ _ HG.out)).trans HG.out) ((HB.out.cell (p:=⟨13,0,none⟩) (World.block_lt_of_cell? _ _ HML.out)).trans HML.out));have HS:Hid (stepB x ⟨#[]⟩ t=t):=stepB_yes HLO.out hz hgd;clear hz;go_wp2_with (first|(refine wpList_load_rowW (by rfl) 116 _ rfl w.heap.size rfl 116 (regA x) _ HQ.out underlying116 rfl (by rw[Tryz.sizeRegistry,regA_size]) ?_)|(go_at_call 152;refine HCG.out.mono ?_;rintro e w2 ⟨rfl,hb2⟩;have HB2:=hide hb2;clear hb2;rw[hgd])|fail)
    go_roundw
    case rel=>exact⟨j+1,by omega,by go_num,by rw[HST.out,HS.out],blk HQ.out HB2.out,HB.out.trans (HB2.out.mono HB.out.size)⟩
    case measure=>simp[intOf];omega
   |false=>
    have hz2:(t.size:Int)≤24:=by omega
    have HCG:=hide (isGood_any x t a11 m wr HX.out (by omega) ((HB.out.cell (p:=⟨11,0,none⟩) (World.block_lt_of_cell? _ _ HG.out)).trans HG.out) ((HB.out.cell (p:=⟨13,0,none⟩) (World.block_lt_of_cell? _ _ HML.out)).trans HML.out));have HS:Hid (stepB x ⟨#[]⟩ t=⟨#[]⟩):=stepB_bad HLO.out hgd;clear hz;go_wp2_with (first|(refine wpList_load_rowW (by rfl) 116 _ rfl w.heap.size rfl 116 (regA x) _ HQ.out underlying116 rfl (by rw[Tryz.sizeRegistry,regA_size]) ?_)|(go_at_call 152;refine HCG.out.mono ?_;rintro e w2 ⟨rfl,hb2⟩;have HB2:=hide hb2;clear hb2;rw[hgd])|fail)
    go_roundw
    case rel=>exact⟨j+1,by omega,by go_num,by rw[HST.out,HS.out],blk HQ.out HB2.out,HB.out.trans (HB2.out.mono HB.out.size)⟩
    case measure=>simp[intOf];omega
  have hz2:¬(t.size:Int)≤24:=by omega
  have HS:Hid (stepB x ⟨#[]⟩ t=⟨#[]⟩):=stepB_long HLO.out hz;clear hz;go_wp2_with fail
  go_roundw
  case rel=>exact⟨j+1,by omega,by go_num,by rw[HST.out,HS.out],HQ.out,HB.out⟩
  case measure=>simp[intOf];omega
 have hlong0:longB b t=b++⟨#[44]⟩++t:=longB_yes hbe;have qe:b.toList.isEmpty=false:=by rw[List.isEmpty_eq_false_iff];intro e;rw[ByteArray.toList_eq] at e;exact hbe (ByteArray.ext (Array.ext' e))
 obtain⟨c,hc⟩:=gen (b++⟨#[44]⟩++t);rw[←hc] at hlong0;have hlong:=hlong0;have HC:=hide hc;have hs2:(⟨#[44]⟩:ByteArray).size=1:=rfl;have hs1:(b++(⟨#[44]⟩:ByteArray)).size=b.size+1:=by rw[ByteArray.size_append];rfl
 clear hlong0 hc;have HLO:=hide hlong;clear hlong;by_cases hz:c.size≤24
 .cases hgd:(behindR x c).2 with
  |true=>
   have hz2:(c.size:Int)≤24:=by omega
   have HCG:=hide (isGood_any x c a11 m wr HX.out (by omega) ((HB.out.cell (p:=⟨11,0,none⟩) (World.block_lt_of_cell? _ _ HG.out)).trans HG.out) ((HB.out.cell (p:=⟨13,0,none⟩) (World.block_lt_of_cell? _ _ HML.out)).trans HML.out));have HS:Hid (stepB x b t=c):=stepB_yes HLO.out hz hgd;clear hz;have hc2:=HC.out.symm;go_wp2_with (first|(refine wpList_load_rowW (by rfl) 116 _ rfl w.heap.size rfl 116 (regA x) _ HQ.out underlying116 rfl (by rw[Tryz.sizeRegistry,regA_size]) ?_)|(go_at_call 152;refine HCG.out.mono ?_;rintro e w2 ⟨rfl,hb2⟩;have HB2:=hide hb2;clear hb2;rw[hgd])|fail)
   go_roundw
   case rel=>exact⟨j+1,by omega,by go_num,by rw[HST.out,HS.out],blk HQ.out HB2.out,HB.out.trans (HB2.out.mono HB.out.size)⟩
   case measure=>simp[intOf];omega
  |false=>
   have hz2:(c.size:Int)≤24:=by omega
   have HCG:=hide (isGood_any x c a11 m wr HX.out (by omega) ((HB.out.cell (p:=⟨11,0,none⟩) (World.block_lt_of_cell? _ _ HG.out)).trans HG.out) ((HB.out.cell (p:=⟨13,0,none⟩) (World.block_lt_of_cell? _ _ HML.out)).trans HML.out));have HS:Hid (stepB x b t=b):=stepB_bad HLO.out hgd;clear hz;have hc2:=HC.out.symm;go_wp2_with (first|(refine wpList_load_rowW (by rfl) 116 _ rfl w.heap.size rfl 116 (regA x) _ HQ.out underlying116 rfl (by rw[Tryz.sizeRegistry,regA_size]) ?_)|(go_at_call 152;refine HCG.out.mono ?_;rintro e w2 ⟨rfl,hb2⟩;have HB2:=hide hb2;clear hb2;rw[hgd])|fail)
   go_roundw
   case rel=>exact⟨j+1,by omega,by go_num,by rw[HST.out,HS.out],blk HQ.out HB2.out,HB.out.trans (HB2.out.mono HB.out.size)⟩
   case measure=>simp[intOf];omega
 have hz2:¬(c.size:Int)≤24:=by omega
 have HS:Hid (stepB x b t=b):=stepB_long HLO.out hz;clear hz;have hc2:=HC.out.symm;go_wp2_with fail
 go_roundw
 case rel=>exact⟨j+1,by omega,by go_num,by rw[HST.out,HS.out],HQ.out,HB.out⟩
 case measure=>simp[intOf];omega
structure EntOk (e:EntV):Prop where
 f0:0≤e.m.f
 f8:e.m.f<8
 r0:0≤e.m.r
 r20:e.m.r≤20
 z:e.m.s.size≤24
structure StOk (N:Nat) (s:NodeS):Prop where
 dom:Dom s.x
 pos:0<sumTo s.x 8
 hgt:s.height≤12
 rnd:s.round≤20
 log:s.log.length≤N
 ahead:s.ahead.length≤N
 tims:s.tims.length≤N
 tb:s.tb≤N
 time:s.time≤1000000000000
 ids:∀e∈s.log,EntOk e
 ida:∀e∈s.ahead,EntOk e
 wait:s.wait.length≤5
 waitz:∀t∈s.wait,t.size≤1000
 vz:s.vv.size≤24
section
variable{P:Program}
theorem wpList_store_midN{ops:Array Oper}{rest:List Oper}{op:Oper}{a:Act}{w:World}{Q:Exit→Act→World→Prop}(hgd:op.guard=none)(ty:TypeId)(p y:Operand)(ho:op.op=.store ty p y)
 (g off:Nat) (D:Array Value) (hp:a.eval p=.pointer (some ⟨g,off,none⟩)) (hy:a.eval y=.agg D) (t:TypeId) (C:Array Value) (hg:w.heap[g]? =some (.cells C t (0,0))) (hC:off+D.size≤C.size) (h1:∀v∈D.toList,v.oneCell'=true) (hi:(P.info? ty).map (·.size)=some D.size)
 (h:∀w',w'.heap[g]? =some (.cells (C.toList.take off++D.toList++C.toList.drop (off+D.size)).toArray t (0,0))→Only g w w'→wpList P ops Q rest (a.put op.dst undef) w'):wpList P ops Q (op::rest) a w:=
 wpList_plain hgd fun _ hK=>wp_store_midG ty p y ho g off D hp hy t C hg hC h1 hi (fun w' h1 h2=>hK _ _ (h w' h1 h2))
end
theorem SentN.at{es:List Addr}{w:World}(h:SentN es w)(k:Nat)(hk:k<12):∃a,es[k]? =some a:=by
 have hl:es.length=12:=h.len;exact⟨es[k]'(by omega),List.getElem?_eq_getElem (by omega)⟩
theorem nodeA_turned(kb cb r st:Nat)(V:NodeV)(s:NodeS):((nodeA kb cb V s).toList.take 43++(#[.int .i64 (r:Int),.int .i64 (st:Int),.bool false,.bool false,.bool false,.bool false,.bool false]:Array Value).toList++(nodeA kb cb V s).toList.drop (43+7)).toArray=nodeA kb cb V (s.turned r st):=by
 unfold nodeA nodeL NodeS.turned;rfl
theorem nodeA_turned1(kb cb r:Nat)(V:NodeV)(s:NodeS):((nodeA kb cb V s).toList.take 43++(#[.int .i64 (r:Int),.int .i64 1,.bool false,.bool false,.bool false,.bool false,.bool false]:Array Value).toList++(nodeA kb cb V s).toList.drop (43+7)).toArray=nodeA kb cb V (s.turned r 1):=nodeA_turned kb cb r 1 V s
theorem Tryz.sizeTurn:(prog.info? 130).map (·.size)=some 7:=by kernel_rfl
theorem prop_turned(s:NodeS)(r st q:Nat):(s.turned r st).prop q=s.prop q:=rfl
theorem beginRound_any{B:Nat}{es:List Addr}{m:Int}{F R:Nat→Prop}{nb kb rb cb n i N:Nat}{s:NodeS}(r:Nat){w:World}(h:NodeW B es m F R nb kb rb cb n i s w)(ok:StOk N s)(hN:N≤10000000)(hr:r≤20)(hsg:(s.sg i).length≤1000000000000):
 Calls prog 107 #[.pointer (some ⟨nb,0,none⟩),.int .i64 (r:Int)] w fun en w'=>en=.returned (.tuple #[])∧∃F' R',NodeW B es m F' R' nb kb rb cb n i (s.beginR i r) w'∧Goes F R w F' R' w':=by
 obtain⟨V,hA,hf⟩:=h.node;obtain⟨a1,he1⟩:=h.glob.sent.at 1 (by omega);obtain⟨a11,he11⟩:=h.glob.sent.at 11 (by omega);obtain⟨HH,HA,HF,HOK,HSG,HE1,HE11⟩:=hide7 h hA hf ok hsg he1 he11;clear h hA hf ok hsg he1 he11;go_enter func107,ntmps107;go_wp2_with (first|(refine wpList_store_midN rfl 130 _ _ rfl nb 43 #[.int .i64 (r:Int),.int .i64 1,.bool false,.bool false,.bool false,.bool false,.bool false] rfl rfl 135 (nodeA kb cb V s) HA.out.blk (by rw[nodeA_size];simp) (by simp[Value.oneCell']) Tryz.sizeTurn ?_;intro w1 hq1 ho1;have HQ1:=hide hq1;have HO1:=hide ho1;clear hq1 ho1)|fail)
 obtain⟨hW1,hG1⟩:=HH.out.cellAt (s':=s.turned r 1) HA.out HF.out (by rw[HQ1.out];exact congrArg (fun z=>some (Obj.cells z 135 (0,0))) (nodeA_turned1 kb cb r V s)) HO1.out rfl rfl rfl rfl rfl rfl rfl;obtain⟨HW1,HG1⟩:=hide2 hW1 hG1;have hA1:NodeAt nb kb cb V (s.turned r 1) w1:=HA.out.store (by rw[HQ1.out];exact congrArg (fun z=>some (Obj.cells z 135 (0,0))) (nodeA_turned1 kb cb r V s)) HO1.out rfl rfl rfl rfl rfl rfl;obtain⟨HA1,HR1⟩:=hide2 hA1 hA1.reg;have k0:∀u:Ext w1,u.W.cell? ⟨nb,0,none⟩=some (.pointer (some ⟨kb,0,none⟩)):=fun u=>Ext.cell (hA1.cell 0 rfl) u;clear hW1 hG1 hA1;haveI:=Ext.ne w1;obtain⟨pr,hpr⟩:=gen (s.prop r);have HPR:=hide hpr;clear hpr;by_cases hp:pr=i
 .have hp2:(pr:Int)=(i:Int):=by omega
  have q1:((pr:Int)==(i:Int))=true:=by rw[beq_iff_eq];exact hp2
  have HB:Hid (s.beginR i r=(s.turned r 1).sendS i 1 s.vr false (if s.vr<0 then blockF s.x s.wait else s.vv)):=by
   unfold Hid NodeS.beginR;rw[←HPR.out,if_pos hp]
  clear hp;refine wp_region_ext (by kernel_rfl) (by kernel_rfl) ?_;repeat(first|go_big_quiet_skip|(go_big_quiet_want;(go_big_quiet_op;first|go_big_quiet_on|(apply Exists.intro;refine⟨fun u=>?_,?_⟩;(· (first|(have hc:=Calls.ext u (nodeProposer_any nb kb cb r V (s.turned r 1) u.W (HA1.out.below u.b) HOK.out.dom HOK.out.pos HOK.out.hgt (by omega));rw[prop_turned,←HPR.out] at hc;exact hc)|exact Calls.extSame u (keyId_any kb rb i u.W (HW1.out.below u.b).key)));go_big_quiet_on))))
  refine wpQuiet_nil ?_;rintro _ ⟨u,rfl⟩;obtain⟨w2,hw2⟩:=gen u.W;have hb2:Below w1.heap.size w1 w2:=by rw[hw2];exact u.b
  rw[←hw2];clear hw2 u this k0;have HB2:=hide hb2;have hA2:=HA1.out.below hb2;obtain⟨HA2,HR2,HW2⟩:=hide3 hA2 hA2.reg (HW1.out.below hb2);have k41:w2.cell? ⟨nb,41,none⟩=some (.int .i64 s.vr):=hA2.cell 41 rfl;have k42:w2.cell? ⟨nb,42,none⟩=some (.string s.vv):=hA2.cell 42 rfl;clear hb2 hA2;by_cases hv:s.vr<0;focus
   rw[if_pos hv] at HB;obtain⟨p,c,ew,hwl,hli⟩:=own_lies HA2.out.wait;have k36:w2.cell? ⟨nb,36,none⟩=some V.wv:=HA2.out.cell 36 rfl;rw[ew] at k36;have k36u:∀u:Ext w2,u.W.cell? ⟨nb,36,none⟩=some (.slice p s.wait.length c):=fun u=>Ext.cell k36 u;have HLI:Hid (Lies w2 w2.heap.size p s.wait.length fun j=>.string (s.wait.getD j ByteArray.empty)):=hli;clear hli hwl ew k36;haveI:=Ext.ne w2;go_wp2_with fail
   refine wp_region_ext (by kernel_rfl) (by kernel_rfl) ?_;repeat(first|go_big_quiet_skip|(go_big_quiet_want;first|(refine quiet_load_mid (some 35) rfl 116 _ rfl nb 1 rfl (regL s.x) _ (Ext.range HR2.out) underlying116 rfl (by rw[Tryz.sizeRegistry];simp[regL]) ?_;simp only[AP];go_big_quiet_on)|(go_big_quiet_op;first|go_big_quiet_on|(apply Exists.intro;refine⟨fun u=>?_,?_⟩;(· exact Calls.ext u (block_any s.x s.wait p c a11 m u.W HOK.out.dom ((HLI.out.below u.b).more u.b.size) (by have:=HOK.out.wait;omega) HOK.out.waitz (((HW2.out.below u.b).glob.sent).cell 11 _ _ rfl HE11.out) (HW2.out.below u.b).glob.len));go_big_quiet_on))))
   refine wpQuiet_nil ?_;rintro _ ⟨u,rfl⟩;obtain⟨w3,hw3⟩:=gen u.W;have hb3:Below w2.heap.size w2 w3:=by rw[hw3];exact u.b
   rw[←hw3];clear hw3 u this k36u;obtain⟨HB3,HW3⟩:=hide2 hb3 (HW2.out.below hb3);have k41':w3.cell? ⟨nb,41,none⟩=some (.int .i64 s.vr):=(HA2.out.below hb3).cell 41 rfl;have HSE:=hide (send_any 1 0 0 0 s.vr false (blockF s.x s.wait) a1 HW3.out HE1.out (by have:=HOK.out.log;show s.log.length≤_;omega) (by have:=HOK.out.ahead;show s.ahead.length≤_;omega) (by have:=HSG.out;show(s.sg i).length≤_;omega) (by have:=blockF_size s.x s.wait;unfold maxLen;omega));clear hb3;go_wp2_with fail
   refine HSE.out.mono ?_;rintro e w4 ⟨rfl,F4,R4,hW4,hG4⟩;have HEND:Hid (∃F' R',NodeW B es m F' R' nb kb rb cb n i (s.beginR i r) w4∧Goes F R w F' R' w4):=⟨F4,R4,by rw[HB.out];exact hW4,((HG1.out.trans (Goes.below HB2.out)).trans (Goes.below HB3.out)).trans hG4⟩
  rotate_left;focus
   rw[if_neg hv] at HB;have HSE:=hide (send_any 1 0 0 0 s.vr false s.vv a1 HW2.out HE1.out (by have:=HOK.out.log;show s.log.length≤_;omega) (by have:=HOK.out.ahead;show s.ahead.length≤_;omega) (by have:=HSG.out;show(s.sg i).length≤_;omega) (by have:=HOK.out.vz;unfold maxLen;omega));go_wp2_with fail
   refine HSE.out.mono ?_;rintro e w4 ⟨rfl,F4,R4,hW4,hG4⟩;have HEND:Hid (∃F' R',NodeW B es m F' R' nb kb rb cb n i (s.beginR i r) w4∧Goes F R w F' R' w4):=⟨F4,R4,by rw[HB.out];exact hW4,(HG1.out.trans (Goes.below HB2.out)).trans hG4⟩
  rotate_left;all_goals
   clear hW4 hG4 HSE;go_wp2;first|exact bodyPost_end (v:=.tuple #[]) (by simp[results,results107]) rfl ⟨rfl,HEND.out⟩|exact bodyPost_ret (v:=.tuple #[]) (by simp[results,results107]) rfl ⟨rfl,HEND.out⟩
 have hp2:¬(pr:Int)=(i:Int):=by omega
 have q1:((pr:Int)==(i:Int))=false:=by rw[beq_eq_false_iff_ne];exact hp2
 have HB:Hid (s.beginR i r=(s.turned r 1).timer 1 3):=by
  unfold Hid NodeS.beginR;rw[←HPR.out,if_neg hp]
 clear hp;refine wp_region_ext (by kernel_rfl) (by kernel_rfl) ?_;repeat(first|go_big_quiet_skip|(go_big_quiet_want;(go_big_quiet_op;first|go_big_quiet_on|(apply Exists.intro;refine⟨fun u=>?_,?_⟩;(· (first|(have hc:=Calls.ext u (nodeProposer_any nb kb cb r V (s.turned r 1) u.W (HA1.out.below u.b) HOK.out.dom HOK.out.pos HOK.out.hgt (by omega));rw[prop_turned,←HPR.out] at hc;exact hc)|exact Calls.extSame u (keyId_any kb rb i u.W (HW1.out.below u.b).key)));go_big_quiet_on))))
 refine wpQuiet_nil ?_;rintro _ ⟨u,rfl⟩;obtain⟨w2,hw2⟩:=gen u.W;have hb2:Below w1.heap.size w1 w2:=by rw[hw2];exact u.b
 rw[←hw2];clear hw2 u this k0;obtain⟨HB2,HW2⟩:=hide2 hb2 (HW1.out.below hb2);clear hb2;have HTM:=hide (beginTimer_any 1 3 (Or.inl rfl) HW2.out (by have:=HOK.out.tims;show s.tims.length≤_;omega) (by have:=HOK.out.tb;show s.tb≤_;omega) HOK.out.time (by omega) (by show r≤_;omega));go_wp2_with fail
 refine HTM.out.mono ?_;rintro e w4 ⟨rfl,F4,hW4,hG4⟩;have HEND:Hid (∃F' R',NodeW B es m F' R' nb kb rb cb n i (s.beginR i r) w4∧Goes F R w F' R' w4):=⟨F4,R,by rw[HB.out];exact hW4,(HG1.out.trans (Goes.below HB2.out)).trans hG4⟩;clear hW4 hG4 HTM;go_wp2;first|exact bodyPost_end (v:=.tuple #[]) (by simp[results,results107]) rfl ⟨rfl,HEND.out⟩|exact bodyPost_ret (v:=.tuple #[]) (by simp[results,results107]) rfl ⟨rfl,HEND.out⟩
theorem Tryz.sizeChoice:(prog.info? 127).map (·.size)=some 2:=by kernel_rfl
def NodeS.unlock(s:NodeS):NodeS:={ s with lr:= -1,lv:=⟨#[]⟩,vr:= -1,vv:=⟨#[]⟩ }
def NodeS.nextLog(s:NodeS)(l:List EntV):NodeS:={ s.unlock with log:=l,ahead:=[] }
theorem beginH_eq(s:NodeS)(i:Nat):s.beginH i=if s.height=12 then(s.nextLog (s.ahead.filter fun e=> !s.outsider e.m)).turned 0 0 else(s.nextLog (s.ahead.filter fun e=> !s.outsider e.m)).beginR i 0:=rfl
def DelP(v:Value)(l:List EntV)(w:World)(e:Ending)(w':World):Prop:=
 ∃v',e=.returned v'∧w'.ownsRow 0 164 9 v' l.length (entL l)∧(∀g,v'.ownBlock=some g→v.ownBlock=some g)∧SameBut (fun k=>some k=v.ownBlock) w w'
theorem NodeAt.nextTurn{nb kb cb:Nat}{V:NodeV}{s:NodeS}{l:List EntV}{v':Value}{w w':World}(hA:NodeAt nb kb cb V s.unlock w)(hb:w'.heap[nb]? =some (.cells (nodeA kb cb { V with lv:=v',av:=.slice none 0 0 } (s.nextLog l)) 135 (0,0)))
 (hown:w'.ownsRow 0 164 9 v' l.length (entL l)) (hs:SameBut (fun k=>k=nb∨some k=V.av.ownBlock) w w'):NodeAt nb kb cb { V with lv:=v',av:=.slice none 0 0 } (s.nextLog l) w':=by
 obtain⟨n1,n2,n3,n4,n5,n6⟩:=hA.rows;refine⟨hb,hA.eds,?_,?_,?_,hown,World.ownsRow_nil _ _ _ _,?_,?_,(fun g _ h=>by cases h),hA.awc,hA.acc⟩
 .exact own_blocks hA.dec fun g e hg=>hs.block g hg (fun x=>x.elim (fun x=>n1 (x▸e)) (fun x=>own_tt hA.dec hA.ahead (by decide) g e x.symm))
 .exact fun d hd=>own_blocks (hA.cert d hd) fun g e hg=>hs.block g hg (fun x=>x.elim (fun x=>n6 d hd (x▸e)) (fun x=>own_tt (hA.cert d hd) hA.ahead (by decide) g e x.symm))
 .exact own_blocks hA.wait fun g e hg=>hs.block g hg (fun x=>x.elim (fun x=>n2 (x▸e)) (fun x=>own_tt hA.wait hA.ahead (by decide) g e x.symm))
 .exact own_blocks hA.tims fun g e hg=>hs.block g hg (fun x=>x.elim (fun x=>n5 (x▸e)) (fun x=>own_tt hA.tims hA.ahead (by decide) g e x.symm))
 obtain⟨a,b,hc⟩:=hA.chan;exact⟨a,b,(hs.block cb (chan_lt hA.chan) (fun x=>x.elim (fun x=>hA.nc x.symm) (fun x=>own_nc hA.ahead hA.chan x.symm))).trans hc⟩
theorem beginHeight_raw{B:Nat}{es:List Addr}{m:Int}{F R:Nat→Prop}{nb kb rb cb n i N:Nat}{s:NodeS}{V:NodeV}(l:List EntV){w:World}(h:NodeW B es m F R nb kb rb cb n i s w)(hA:NodeAt nb kb cb V s w)(hf:∀k,V.foot nb cb k→F k)
 (hdel:∀(W:World) (b0:Nat),NodeAt nb kb cb V s.unlock W→W.cell? ⟨b0,0,none⟩=some (.pointer (some ⟨nb,0,none⟩))→Calls prog 104 #[V.av,.func (.func 105) #[] #[.pointer (some ⟨b0,0,none⟩)]] W (DelP V.av l W))
 (ok:StOk N (s.nextLog l)) (hN:N≤10000000) (hsg:(s.sg i).length≤1000000000000):
 Calls prog 54 #[.pointer (some ⟨nb,0,none⟩)] w fun en w'=>en=.returned (.tuple #[])∧∃F' R',NodeW B es m F' R' nb kb rb cb n i (if s.height=12 then(s.nextLog l).turned 0 0 else(s.nextLog l).beginR i 0) w'∧Goes F R w F' R' w':=by
 obtain⟨HH,HA,HF,HDEL,HOK,HSG⟩:=hide6 h hA hf hdel ok hsg;have hnl:nb<w.heap.size:=row_lt0 hA.blk;have hne0:nb≠w.heap.size:=by omega
 have HNV:Hid (V.av.ownBlock≠some w.heap.size):=fun e=>by have:=(hA.ahead.lt _ e).2;omega
 obtain⟨w1,hw1⟩:=gen (w.alloc (.cells #[.pointer (some ⟨nb,0,none⟩)] 26));have hb1:Below w.heap.size w w1:=by rw[hw1];exact(Below.refl _ w).alloc (Nat.le_refl _) _
 have hq1:w1.heap[w.heap.size]? =some (.cells #[.pointer (some ⟨nb,0,none⟩)] 26 (0,0)):=by rw[hw1];exact heap_alloc_new w _
 have hz1:w1.heap.size=w.heap.size+1:=by rw[hw1];simp
 obtain⟨HB1,HQ1,HZ1,HW1⟩:=hide4 hb1 hq1 hz1 hw1;clear h hA hf hdel ok hsg hb1 hq1 hz1 hw1;go_enter func54,ntmps54;go_wp2_with fail
 rw[←HW1.out];obtain⟨w2,hw2⟩:=gen (w1.alloc (.cells #[.int .i64 (-1),.string ⟨#[]⟩] 127));have HB2:Hid (Below w1.heap.size w1 w2):=by rw[hw2];exact(Below.refl _ w1).alloc (Nat.le_refl _) _
 have HQ2:Hid (w2.heap[w1.heap.size]? =some (.cells #[.int .i64 (-1),.string ⟨#[]⟩] 127 (0,0))):=by rw[hw2];exact heap_alloc_new w1 _
 rw[←hw2];clear hw2;obtain⟨b1,hb1e⟩:=gen (w.heap.size+1);rw[HZ1.out,←hb1e] at HQ2;rw[←hb1e];have hne1:nb≠b1:=by omega
 have HBA:Hid (Below w.heap.size w w2):=HB1.out.trans (HB2.out.mono HB1.out.size);have HA0:=hide (HA.out.below HBA.out);have hj0:w2.cell? ⟨w.heap.size,0,none⟩=some (.pointer (some ⟨nb,0,none⟩)):=cell_of_row w2 w.heap.size 0 _ _ _ (blk HQ1.out HB2.out);have hj1:w2.heap[b1]? =some (.cells #[.int .i64 (-1),.string ⟨#[]⟩] 127 (0,0)):=HQ2.out;refine rgd (S:=fun W=>W.cell? ⟨w.heap.size,0,none⟩=some (.pointer (some ⟨nb,0,none⟩))∧W.heap[b1]? =some (.cells #[.int .i64 (-1),.string ⟨#[]⟩] 127 (0,0))) ⟨hj0,hj1⟩ (fun hH=>?_);refine takeN [(0,some 4,pA nb 0),(1,some 5,pA nb 0),(2,some 6,.agg ([.int .i64 (-1),.string ⟨#[]⟩]).toArray),(3,some 7,.agg ([.int .i64 (-1),.string ⟨#[]⟩]).toArray),(4,some 8,pA nb 0),(5,some 9,pA nb 39)] _ _ hH (by repeat(first|exact True.intro|((first|refine tkc rfl rfl (yieldsIf_load_mid (by rfl) 127 _ rfl b1 0 rfl ([.int .i64 (-1),.string ⟨#[]⟩]) _ (fun w h=>row_range h.2) underlying127 rfl (by rw[Tryz.sizeChoice];rfl)) ?_|(refine tkc rfl rfl (Or.inl ⟨by rfl,fun x h=>?_⟩) ?_;focus(have f0:x.cell? ⟨w.heap.size,0,none⟩=some (.pointer (some ⟨nb,0,none⟩)):=h.1;go_simp;done)));simp only[AP]))) ?_;simp only[takesA,AP,pA];refine rdy1 6 (fun K hK=>?_);rw[if_pos (by rfl)];refine wp_store_midG 127 _ _ rfl nb 39 #[.int .i64 (-1),.string ⟨#[]⟩] rfl rfl 135 (nodeA kb cb V s) (HA0.out.blk) (by rw[nodeA_size];simp) (by simp[Value.oneCell']) Tryz.sizeChoice ?_;intro wb hqwb howb;have hnwb:wb.heap[nb]? =some (.cells (nodeA kb cb V { s with lr:= -1,lv:=⟨#[]⟩ }) 135 (0,0)):=hqwb;refine hK.out _ _ ⟨(howb.cell (p:=⟨w.heap.size,0,none⟩) (fun e=>hne0 e.symm)).trans hH.1,(howb.block b1 (fun e=>hne1 e.symm)).trans hH.2⟩ (fun hH=>?_);clear hK K;clear hqwb
 try simp only[AP,AQ]
 refine takeM [(7,some 10,pA nb 0),(8,some 11,pA nb 41)] _ _ hH ?_;simp only[takesA,AP,pA];refine rdy1 9 (fun K hK=>?_);rw[if_pos (by rfl)];refine wp_store_midG 127 _ _ rfl nb 41 #[.int .i64 (-1),.string ⟨#[]⟩] rfl rfl 135 (nodeA kb cb V { s with lr:= -1,lv:=⟨#[]⟩ }) (hnwb) (by rw[nodeA_size];simp) (by simp[Value.oneCell']) Tryz.sizeChoice ?_;intro wc hqwc howc;have hnwc:wc.heap[nb]? =some (.cells (nodeA kb cb V s.unlock) 135 (0,0)):=hqwc;refine hK.out _ _ ⟨(howc.cell (p:=⟨w.heap.size,0,none⟩) (fun e=>hne0 e.symm)).trans hH.1,(howc.block b1 (fun e=>hne1 e.symm)).trans hH.2⟩ (fun hH=>?_);clear hK K;clear hqwc
 try simp only[AP,AQ]
 refine dnr ?_;have howc2:Only nb w2 wc:=⟨howc.os.trans howb.os,howc.tape.trans howb.tape,howc.output.trans howb.output,howc.size.trans howb.size,fun k hk=>(howc.block k hk).trans (howb.block k hk)⟩;have HAC:Hid (NodeAt nb kb cb V s.unlock wc):=HA0.out.store hnwc howc2 rfl rfl rfl rfl rfl rfl;obtain⟨hWC,hGC⟩:=(HH.out.below HBA.out).cellAt (s':=s.unlock) HA0.out HF.out hnwc howc2 rfl rfl rfl rfl rfl rfl rfl;have HWC:=hide hWC;have HGC:Hid (Goes F R w F R wc):=(Goes.below HBA.out).trans hGC;have hjc:wc.cell? ⟨w.heap.size,0,none⟩=some (.pointer (some ⟨nb,0,none⟩)):=hH.1;clear hWC hGC hnwc hnwb howc howb howc2 hj0 hj1;go_wp2_with fail
 refine rgd (S:=fun W=>W.cell? ⟨w.heap.size,0,none⟩=some (.pointer (some ⟨nb,0,none⟩))) hjc (fun hH=>?_);refine takeN [(0,some 12,pA nb 0),(1,some 13,pA nb 0),(2,some 14,pA nb 0),(3,some 15,pA nb 0),(4,some 16,pA nb 38),(6,some 18,.func (.func 105) #[] #[.pointer (some ⟨w.heap.size,0,none⟩)])] _ _ hH (by repeat(first|exact True.intro|(refine tkc rfl rfl (Or.inl ⟨by rfl,fun x h=>by have f0:x.cell? ⟨w.heap.size,0,none⟩=some (.pointer (some ⟨nb,0,none⟩)):=h;go_simp⟩) ?_;simp only[AP]))) ?_;simp only[takesA,AP,pA];have k38:wc.drew.cell? ⟨nb,38,none⟩=some V.av:=HAC.out.cell 38 rfl;refine rdy1 5 (fun K hK=>?_);go_simp;refine hK.out _ _ hH (fun hH=>?_);clear hK K
 try simp only[AP,AQ]
 refine rdy1 7 (fun K hK=>?_);go_simp;refine(HDEL.out wc.drew w.heap.size (HAC.out.frame fun _ _=>rfl) hH).mono ?_;rintro e wd ⟨v4,rfl,hown4,hat4,hs4⟩;have hnd:wd.heap[nb]? =some (.cells (nodeA kb cb V s.unlock) 135 (0,0)):=(hs4.block nb (row_lt0 HAC.out.blk) (fun x=>HAC.out.rows.2.2.2.1 x.symm)).trans HAC.out.blk;have hld:wd.cell? ⟨w.heap.size,0,none⟩=some (.pointer (some ⟨nb,0,none⟩)):=(World.cell?_of_block (w:=wc) (a:=⟨w.heap.size,0,none⟩) (hs4.block w.heap.size (cell_lt' hH) (fun x=>HNV.out x.symm))).trans hH;refine hK.out _ _ hld (fun hH=>?_);clear hK K
 try simp only[AP,AQ]
 refine takeM [(8,some 20,pA nb 0),(9,some 21,pA nb 37)] _ _ hH ?_;simp only[takesA,AP,pA];obtain⟨p4,c4,rfl⟩:=own_slice hown4;have cfwe:wd.cell? ⟨nb,37,none⟩=some (V.lv):=cell_of_row wd nb 37 _ _ _ hnd;have fzwe:wd.frozen? ⟨nb,37,none⟩=false:=frozen_row hnd 37;refine rdy1 10 (fun K hK=>?_);go_simp;obtain⟨we,hwwe⟩:=gen (wd.setCell ⟨nb,37,none⟩ (.slice p4 (l.length) c4));have howe:Only nb wd we:=by rw[hwwe];exact only_setCell _ _ _ _
 have hnwe:=setCell_row hnd 37 (.slice p4 (l.length) c4);rw[←hwwe] at hnwe;rw[←hwwe];refine hK.out _ _ ((howe.cell (p:=⟨w.heap.size,0,none⟩) (fun e=>hne0 e.symm)).trans hH) (fun hH=>?_);clear hK K;clear hwwe
 try simp only[AP,AQ]
 refine takeM [(11,some 22,pA nb 0),(12,some 23,pA nb 38)] _ _ hH ?_;simp only[takesA,AP,pA];have cfwf:we.cell? ⟨nb,38,none⟩=some (V.av):=cell_of_row we nb 38 _ _ _ hnwe;have fzwf:we.frozen? ⟨nb,38,none⟩=false:=frozen_row hnwe 38;refine rdy1 13 (fun K hK=>?_);go_simp;obtain⟨wf,hwwf⟩:=gen (we.setCell ⟨nb,38,none⟩ (.slice none 0 0));have howf:Only nb we wf:=by rw[hwwf];exact only_setCell _ _ _ _
 have hnwf:=setCell_row hnwe 38 (.slice none 0 0);rw[←hwwf] at hnwf;rw[←hwwf];refine hK.out _ _ ((howf.cell (p:=⟨w.heap.size,0,none⟩) (fun e=>hne0 e.symm)).trans hH) (fun hH=>?_);clear hK K;clear hwwf
 try simp only[AP,AQ]
 refine dnr ?_;have hjf:wf.cell? ⟨w.heap.size,0,none⟩=some (.pointer (some ⟨nb,0,none⟩)):=hH;have hsF:SameBut (fun k=>k=nb∨some k=V.av.ownBlock) wc wf:=by
  refine⟨?_,?_,?_,?_,fun k hk hn=>?_⟩
  .rw [howf.os,howe.os,hs4.os];rfl
  .rw [howf.tape,howe.tape,hs4.tape];rfl
  .rw [howf.output,howe.output,hs4.output];rfl
  .rw [howf.size,howe.size];exact hs4.size
  rw[howf.block k (fun e=>hn (Or.inl e)),howe.block k (fun e=>hn (Or.inl e))];exact hs4.block k hk (fun e=>hn (Or.inr e))
 have hv4:Value.ownBlock (.slice p4 l.length c4)≠some nb:=fun e=>HAC.out.rows.2.2.2.1 (hat4 nb e);have hownf:wf.ownsRow 0 164 9 (.slice p4 l.length c4) l.length (entL l):=own_blocks hown4 fun g e _=>(howf.block g (fun x=>hv4 (x▸e))).trans (howe.block g (fun x=>hv4 (x▸e)));have hAF:NodeAt nb kb cb { V with lv:=.slice p4 l.length c4,av:=.slice none 0 0 } (s.nextLog l) wf:=HAC.out.nextTurn hnwf hownf hsF;have HAF:=hide hAF;have hfF:∀k,({ V with lv:=.slice p4 l.length c4,av:=.slice none 0 0 }:NodeV).foot nb cb k→F k:=fun k hk=>by
  rcases hk with rfl|rfl|e|e|e|e|e|⟨d,hd,e⟩
  .exact HF.out _ (Or.inl rfl)
  .exact HF.out _ (Or.inr (Or.inl rfl))
  .exact HF.out k (Or.inr (Or.inr (Or.inl e)))
  .exact HF.out k (Or.inr (Or.inr (Or.inr (Or.inl e))))
  .exact HF.out k (Or.inr (Or.inr (Or.inr (Or.inr (Or.inr (Or.inl (hat4 k e)))))))
  .cases e
  .exact HF.out k (Or.inr (Or.inr (Or.inr (Or.inr (Or.inr (Or.inr (Or.inl e)))))))
  exact HF.out k (Or.inr (Or.inr (Or.inr (Or.inr (Or.inr (Or.inr (Or.inr ⟨d,hd,e⟩)))))))
 have HFF:=hide hfF;obtain⟨hWF,hGF⟩:=HWC.out.turnF (s':=s.nextLog l) (F':=F) ⟨_,hAF,hfF⟩ rfl (fun k hk=>Or.inl hk) (fun k hk=>Nat.lt_of_lt_of_le (HWC.out.fl k hk).2 hsF.size) ⟨hsF.os,hsF.tape,hsF.output,hsF.size,fun k hk hn=>hsF.block k hk (fun x=>x.elim (fun x=>hn (x▸HF.out nb (Or.inl rfl))) (fun x=>hn (HF.out k (Or.inr (Or.inr (Or.inr (Or.inr (Or.inr (Or.inl x.symm)))))))))⟩;have HWF:=hide hWF;have HGF:Hid (Goes F R w F R wf):=HGC.out.trans hGF;clear hWF hGF hfF hAF hownf hv4 hsF hnwf hnwe hnd hld howf howe hs4 hat4 hown4 cfwe cfwf fzwe fzwf k38;have HHT:=hide (height_any nb kb cb _ (s.nextLog l) wf HAF.out);go_wp2_with fail
 refine HHT.out.mono ?_;rintro e w9 ⟨rfl,hw9⟩;have hw10:=hw9.symm;clear hw9;subst hw10;have ehh:(s.nextLog l).height=s.height:=rfl;rw[ehh];by_cases h12:s.height=12
 .have h12i:(s.height:Int)=12:=by omega
  clear h12 ehh;go_wp2_with (first|(refine wpList_store_midN rfl 130 _ _ rfl nb 43 #[.int .i64 0,.int .i64 0,.bool false,.bool false,.bool false,.bool false,.bool false] rfl rfl 135 (nodeA kb cb { V with lv:=.slice p4 l.length c4,av:=.slice none 0 0 } (s.nextLog l)) HAF.out.blk (by rw[nodeA_size];simp) (by simp[Value.oneCell']) Tryz.sizeTurn ?_;intro w11 hq11 ho11;have HQ11:=hide hq11;have HO11:=hide ho11;clear hq11 ho11)|fail)
  obtain⟨hW11,hG11⟩:=HWF.out.cellAt (s':=(s.nextLog l).turned 0 0) HAF.out HFF.out (by rw[HQ11.out];exact congrArg (fun z=>some (Obj.cells z 135 (0,0))) (nodeA_turned kb cb 0 0 _ (s.nextLog l))) HO11.out rfl rfl rfl rfl rfl rfl rfl;first|exact bodyPost_ret (v:=.tuple #[]) (by simp[results,results54]) rfl ⟨rfl,F,R,hW11,HGF.out.trans hG11⟩|exact bodyPost_end (v:=.tuple #[]) (by simp[results,results54]) rfl ⟨rfl,F,R,hW11,HGF.out.trans hG11⟩
 have h12i:¬(s.height:Int)=12:=by omega
 have q12:((s.height:Int)==12)=false:=by rw[beq_eq_false_iff_ne];exact h12i
 clear h12 ehh;have HBR:=hide (beginRound_any 0 HWF.out HOK.out hN (by omega) HSG.out);go_wp2_with fail
 refine HBR.out.mono ?_;rintro e w12 ⟨rfl,F12,R12,hW12,hG12⟩;have HEND:Hid (∃F' R',NodeW B es m F' R' nb kb rb cb n i ((s.nextLog l).beginR i 0) w12∧Goes F R w F' R' w12):=⟨F12,R12,hW12,HGF.out.trans hG12⟩;clear hW12 hG12 HBR;go_wp2;first|exact bodyPost_end (v:=.tuple #[]) (by simp[results,results54]) rfl ⟨rfl,HEND.out⟩|exact bodyPost_ret (v:=.tuple #[]) (by simp[results,results54]) rfl ⟨rfl,HEND.out⟩
end Go.Proofs.YtcfjhbcpjpgodaaGreatDoor

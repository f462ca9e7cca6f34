/- Proved here: what the rule of holding comes to. -/
import Derived.Test.YtcfjhbcpjpgodaaGreatDoorJ20
import Derived.Deep.LoopGhost
import Derived.Test.YtcfjhbcpjpgodaaGreatDoorTakeL
namespace Go.Proofs.YtcfjhbcpjpgodaaGreatDoor
open Go.RowKit Go.Proofs.Tryz
set_option linter.unusedSimpArgs false
set_option linter.unusedVariables false
set_option maxRecDepth 100000
set_option maxHeartbeats 6400000
def NodeS.holdF(s:NodeS):Option EntV:=propF s.log (s.round:Int) fun p=>s.most (votesForB 2 (s.round:Int) p.m.s)&&s.good p.m.s
def NodeS.holdOn(s:NodeS):NodeS:={ s with held:=true }
def NodeS.held1(s:NodeS)(t:ByteArray):NodeS:={ s with held:=true,vr:=(s.round:Int),vv:=t }
def NodeS.lock1(s:NodeS):NodeS:={ s with lr:=s.vr,lv:=s.vv }
def NodeS.holdS(s:NodeS)(i:Nat):Bool×NodeS:=
 if ¬s.step=1∧s.held=false then(match s.holdF with|none=>(false,s)|some p=>(true,if s.step=2 then((s.held1 p.m.s).lock1.sendS i 3 0 false p.m.s).atStep 3 else s.held1 p.m.s)) else(false,s)
theorem holdS_no{s:NodeS}{i:Nat}(h:¬(¬s.step=1∧s.held=false)):s.holdS i=(false,s):=by unfold NodeS.holdS;rw[if_neg h]
theorem holdS_none{s:NodeS}{i:Nat}(h:s.holdF=none):s.holdS i=(false,s):=by
 unfold NodeS.holdS;rw[h];split<;>rfl
theorem holdS_some{s:NodeS}{i:Nat}{p:EntV}(h1:¬s.step=1)(h2:s.held=false)(h:s.holdF=some p):s.holdS i=(true,if s.step=2 then((s.held1 p.m.s).lock1.sendS i 3 0 false p.m.s).atStep 3 else s.held1 p.m.s):=by unfold NodeS.holdS;rw[if_pos ⟨h1,h2⟩,h]
theorem nodeA_valid{nb kb cb:Nat}{V:NodeV}{s':NodeS}{w:World}(h:w.heap[nb]? =some (.cells (nodeA kb cb V s') 135 (0,0))):w.rangeAt nb 41 [.int .i64 s'.vr,.string s'.vv]:=fun j v hv=>by
 match j,hv with
 |0,hv=>simp at hv;subst hv;exact cell_of_row w nb 41 _ _ _ h
 |1,hv=>simp at hv;subst hv;exact cell_of_row w nb 42 _ _ _ h
 |j+2,hv=>simp at hv
theorem hold_step{B:Nat}{es:List Addr}{m:Int}{F R:Nat→Prop}{nb kb rb cb n i N:Nat}{s:NodeS}{w:World}(h:NodeW B es m F R nb kb rb cb n i s w)(ok:StOk N s)(hN:N≤10000000)(hsg:(s.sg i).length≤1000000000000)(hst:s.step=1):
 Calls prog 112 #[.pointer (some ⟨nb,0,none⟩)] w (RuleP B es m F R nb kb rb cb n i (s.holdS i) w):=by
 have HRU:=hide (holdS_no (s:=s) (i:=i) (fun h=>h.1 hst));have hmf:∀(fn:Fn) (first cap:Array Value) (w:World),(Instr.makeFunc fn first cap).run prog w=.ok (.func fn first cap) w:=fun _ _ _ _=>rfl;obtain⟨V,hA0,hf⟩:=h.node;obtain⟨a1,he1⟩:=h.glob.sent.at 1 (by omega);obtain⟨w1,hw1⟩:=gen (w.alloc (.cells #[.pointer (some ⟨nb,0,none⟩)] 26));have hb1:Below w.heap.size w w1:=by rw[hw1];exact(Below.refl _ w).alloc (Nat.le_refl _) _
 have hq1:w1.heap[w.heap.size]? =some (.cells #[.pointer (some ⟨nb,0,none⟩)] 26 (0,0)):=by rw[hw1];exact heap_alloc_new w _
 have c1:w1.cell? ⟨w.heap.size,0,none⟩=some (.pointer (some ⟨nb,0,none⟩)):=cell_of_row w1 w.heap.size 0 _ _ _ hq1;have hne0:nb≠w.heap.size:=by have:=row_lt0 hA0.blk;omega
 have hA1:=hA0.below hb1;obtain⟨p,c,-,c37,hm,hE⟩:=hA1.logAt;have c44:w1.cell? ⟨nb,44,none⟩=some (.int .i64 (s.step:Int)):=hA1.cell 44 rfl;have c45:w1.cell? ⟨nb,45,none⟩=some (.bool s.held):=hA1.cell 45 rfl;have C43:Hid (w1.cell? ⟨nb,43,none⟩=some (.int .i64 (s.round:Int))):=hA1.cell 43 rfl;obtain⟨C37,C1,C44,C45⟩:=hide4 c37 c1 c44 c45;have c1':(w.alloc (.cells #[.pointer (some ⟨nb,0,none⟩)] 26)).cell? ⟨w.heap.size,0,none⟩=some (.pointer (some ⟨nb,0,none⟩)):=by rw[←hw1];exact c1
 have c44':(w.alloc (.cells #[.pointer (some ⟨nb,0,none⟩)] 26)).cell? ⟨nb,44,none⟩=some (.int .i64 (s.step:Int)):=by rw[←hw1];exact c44
 have c45':(w.alloc (.cells #[.pointer (some ⟨nb,0,none⟩)] 26)).cell? ⟨nb,45,none⟩=some (.bool s.held):=by rw[←hw1];exact c45
 obtain⟨HH,HA,HF,HOK,HSG,HE1,HB1,HW1⟩:=hide8 h hA0 hf ok hsg he1 hb1 hw1;have hWW:=h.below hb1;have HPROP:Hid (∀W,Below w1.heap.size w1 W→Calls prog 148 #[.slice p s.log.length c,.int .i64 (s.round:Int),.func (.func 159) #[] #[.pointer (some ⟨w.heap.size,0,none⟩)]] W fun e w'=>e=.returned (propR s.holdF)∧Below W.heap.size W w'):=fun W hW=>proposal_any 159 _ _ s.log (s.round:Int) p c W (enters_of func159 (by decide) rfl) (hE.ext (Ext.of hW)) hm (hold1_fits nb kb cb w.heap.size B es m V s _ W (hA1.below hW) (Nat.le_trans hWW.bl hW.size) (hWW.below hW).glob (Ext.cell c1 (Ext.of hW)) ok.dom (fun e he=>⟨(ok.ids e he).f0,(ok.ids e he).f8⟩) (fun e he=>(ok.ids e (List.mem_filter.1 he).1).z));have HPROPB:=HPROP;clear h hA0 hA1 hf ok hsg he1 hE hm c37 c1 c44 c45 hb1 hq1 hw1 hWW;have q1:(s.step:Int)=1:=by omega
 clear hst;go_enter func112,ntmps112;go_wp2;go_ret;rw[HRU.out];exact RuleP.same HH.out (by rw[←HW1.out];exact HB1.out)
theorem hold_held{B:Nat}{es:List Addr}{m:Int}{F R:Nat→Prop}{nb kb rb cb n i N:Nat}{s:NodeS}{w:World}(h:NodeW B es m F R nb kb rb cb n i s w)(ok:StOk N s)(hN:N≤10000000)(hsg:(s.sg i).length≤1000000000000)(hst:¬s.step=1)(hhe:s.held=true):
 Calls prog 112 #[.pointer (some ⟨nb,0,none⟩)] w (RuleP B es m F R nb kb rb cb n i (s.holdS i) w):=by
 have HRU:=hide (holdS_no (s:=s) (i:=i) (fun h=>by rw[hhe] at h;cases h.2));have hmf:∀(fn:Fn) (first cap:Array Value) (w:World),(Instr.makeFunc fn first cap).run prog w=.ok (.func fn first cap) w:=fun _ _ _ _=>rfl;obtain⟨V,hA0,hf⟩:=h.node;obtain⟨a1,he1⟩:=h.glob.sent.at 1 (by omega);obtain⟨w1,hw1⟩:=gen (w.alloc (.cells #[.pointer (some ⟨nb,0,none⟩)] 26));have hb1:Below w.heap.size w w1:=by rw[hw1];exact(Below.refl _ w).alloc (Nat.le_refl _) _
 have hq1:w1.heap[w.heap.size]? =some (.cells #[.pointer (some ⟨nb,0,none⟩)] 26 (0,0)):=by rw[hw1];exact heap_alloc_new w _
 have c1:w1.cell? ⟨w.heap.size,0,none⟩=some (.pointer (some ⟨nb,0,none⟩)):=cell_of_row w1 w.heap.size 0 _ _ _ hq1;have hne0:nb≠w.heap.size:=by have:=row_lt0 hA0.blk;omega
 have hA1:=hA0.below hb1;obtain⟨p,c,-,c37,hm,hE⟩:=hA1.logAt;have c44:w1.cell? ⟨nb,44,none⟩=some (.int .i64 (s.step:Int)):=hA1.cell 44 rfl;have c45:w1.cell? ⟨nb,45,none⟩=some (.bool s.held):=hA1.cell 45 rfl;have C43:Hid (w1.cell? ⟨nb,43,none⟩=some (.int .i64 (s.round:Int))):=hA1.cell 43 rfl;obtain⟨C37,C1,C44,C45⟩:=hide4 c37 c1 c44 c45;have c1':(w.alloc (.cells #[.pointer (some ⟨nb,0,none⟩)] 26)).cell? ⟨w.heap.size,0,none⟩=some (.pointer (some ⟨nb,0,none⟩)):=by rw[←hw1];exact c1
 have c44':(w.alloc (.cells #[.pointer (some ⟨nb,0,none⟩)] 26)).cell? ⟨nb,44,none⟩=some (.int .i64 (s.step:Int)):=by rw[←hw1];exact c44
 have c45':(w.alloc (.cells #[.pointer (some ⟨nb,0,none⟩)] 26)).cell? ⟨nb,45,none⟩=some (.bool s.held):=by rw[←hw1];exact c45
 obtain⟨HH,HA,HF,HOK,HSG,HE1,HB1,HW1⟩:=hide8 h hA0 hf ok hsg he1 hb1 hw1;have hWW:=h.below hb1;have HPROP:Hid (∀W,Below w1.heap.size w1 W→Calls prog 148 #[.slice p s.log.length c,.int .i64 (s.round:Int),.func (.func 159) #[] #[.pointer (some ⟨w.heap.size,0,none⟩)]] W fun e w'=>e=.returned (propR s.holdF)∧Below W.heap.size W w'):=fun W hW=>proposal_any 159 _ _ s.log (s.round:Int) p c W (enters_of func159 (by decide) rfl) (hE.ext (Ext.of hW)) hm (hold1_fits nb kb cb w.heap.size B es m V s _ W (hA1.below hW) (Nat.le_trans hWW.bl hW.size) (hWW.below hW).glob (Ext.cell c1 (Ext.of hW)) ok.dom (fun e he=>⟨(ok.ids e he).f0,(ok.ids e he).f8⟩) (fun e he=>(ok.ids e (List.mem_filter.1 he).1).z));have HPROPB:=HPROP;clear h hA0 hA1 hf ok hsg he1 hE hm c37 c1 c44 c45 hb1 hq1 hw1 hWW;have q1:((s.step:Int)==1)=false:=by rw[beq_eq_false_iff_ne];omega
 have q1':¬(s.step:Int)=1:=by omega
 rw[hhe] at c45';clear hst hhe;go_enter func112,ntmps112;go_wp2;go_ret;rw[HRU.out];exact RuleP.same HH.out (by rw[←HW1.out];exact HB1.out)
theorem hold_none{B:Nat}{es:List Addr}{m:Int}{F R:Nat→Prop}{nb kb rb cb n i N:Nat}{s:NodeS}{w:World}(h:NodeW B es m F R nb kb rb cb n i s w)(ok:StOk N s)(hN:N≤10000000)(hsg:(s.sg i).length≤1000000000000)(hst:¬s.step=1)(hhe:s.held=false)(hpf:s.holdF=none):
 Calls prog 112 #[.pointer (some ⟨nb,0,none⟩)] w (RuleP B es m F R nb kb rb cb n i (s.holdS i) w):=by
 have HRU:=hide (holdS_none (i:=i) hpf);have hmf:∀(fn:Fn) (first cap:Array Value) (w:World),(Instr.makeFunc fn first cap).run prog w=.ok (.func fn first cap) w:=fun _ _ _ _=>rfl;obtain⟨V,hA0,hf⟩:=h.node;obtain⟨a1,he1⟩:=h.glob.sent.at 1 (by omega);obtain⟨w1,hw1⟩:=gen (w.alloc (.cells #[.pointer (some ⟨nb,0,none⟩)] 26));have hb1:Below w.heap.size w w1:=by rw[hw1];exact(Below.refl _ w).alloc (Nat.le_refl _) _
 have hq1:w1.heap[w.heap.size]? =some (.cells #[.pointer (some ⟨nb,0,none⟩)] 26 (0,0)):=by rw[hw1];exact heap_alloc_new w _
 have c1:w1.cell? ⟨w.heap.size,0,none⟩=some (.pointer (some ⟨nb,0,none⟩)):=cell_of_row w1 w.heap.size 0 _ _ _ hq1;have hne0:nb≠w.heap.size:=by have:=row_lt0 hA0.blk;omega
 have hA1:=hA0.below hb1;obtain⟨p,c,-,c37,hm,hE⟩:=hA1.logAt;have c44:w1.cell? ⟨nb,44,none⟩=some (.int .i64 (s.step:Int)):=hA1.cell 44 rfl;have c45:w1.cell? ⟨nb,45,none⟩=some (.bool s.held):=hA1.cell 45 rfl;have C43:Hid (w1.cell? ⟨nb,43,none⟩=some (.int .i64 (s.round:Int))):=hA1.cell 43 rfl;obtain⟨C37,C1,C44,C45⟩:=hide4 c37 c1 c44 c45;have c1':(w.alloc (.cells #[.pointer (some ⟨nb,0,none⟩)] 26)).cell? ⟨w.heap.size,0,none⟩=some (.pointer (some ⟨nb,0,none⟩)):=by rw[←hw1];exact c1
 have c44':(w.alloc (.cells #[.pointer (some ⟨nb,0,none⟩)] 26)).cell? ⟨nb,44,none⟩=some (.int .i64 (s.step:Int)):=by rw[←hw1];exact c44
 have c45':(w.alloc (.cells #[.pointer (some ⟨nb,0,none⟩)] 26)).cell? ⟨nb,45,none⟩=some (.bool s.held):=by rw[←hw1];exact c45
 obtain⟨HH,HA,HF,HOK,HSG,HE1,HB1,HW1⟩:=hide8 h hA0 hf ok hsg he1 hb1 hw1;have hWW:=h.below hb1;have HPROP:Hid (∀W,Below w1.heap.size w1 W→Calls prog 148 #[.slice p s.log.length c,.int .i64 (s.round:Int),.func (.func 159) #[] #[.pointer (some ⟨w.heap.size,0,none⟩)]] W fun e w'=>e=.returned (propR s.holdF)∧Below W.heap.size W w'):=fun W hW=>proposal_any 159 _ _ s.log (s.round:Int) p c W (enters_of func159 (by decide) rfl) (hE.ext (Ext.of hW)) hm (hold1_fits nb kb cb w.heap.size B es m V s _ W (hA1.below hW) (Nat.le_trans hWW.bl hW.size) (hWW.below hW).glob (Ext.cell c1 (Ext.of hW)) ok.dom (fun e he=>⟨(ok.ids e he).f0,(ok.ids e he).f8⟩) (fun e he=>(ok.ids e (List.mem_filter.1 he).1).z));have HPROPB:=HPROP;clear h hA0 hA1 hf ok hsg he1 hE hm c37 c1 c44 c45 hb1 hq1 hw1 hWW;have q1:((s.step:Int)==1)=false:=by rw[beq_eq_false_iff_ne];omega
 have q1':¬(s.step:Int)=1:=by omega
 rw[hhe] at c45';rw[hpf] at HPROP HPROPB;obtain⟨x,hxe⟩:∃x:Option EntV,x=none:=⟨none,rfl⟩;rw[←hxe] at HPROP HPROPB;have hsm:x.isSome=false:=by rw[hxe];rfl
 clear hst hhe hpf hxe;go_enter func112,ntmps112;go_wp2_with fail
 rw[←HW1.out];clear c1' c44' c45';refine rgd (S:=fun X=>Below w1.heap.size w1 X) ((Below.refl _ w1).drew) (fun hH=>?_);refine takeN [(0,some 19,pA nb 0),(1,some 20,pA nb 0),(2,some 21,pA nb 37),(3,some 22,.slice p s.log.length c),(4,some 23,pA nb 0),(5,some 24,pA nb 0),(6,some 25,pA nb 43),(7,some 26,pA nb 43),(8,some 27,.int .i64 (s.round:Int)),(9,some 28,.func (.func 159) #[] #[.pointer (some ⟨w.heap.size,0,none⟩)])] _ _ hH (by repeat(first|exact True.intro|(refine tkc rfl rfl (Or.inl ⟨by rfl,fun x h=>by have f0:x.cell? ⟨w.heap.size,0,none⟩=some (.pointer (some ⟨nb,0,none⟩)):=Ext.cell C1.out (Ext.of h);have f1:x.cell? ⟨nb,37,none⟩=some (.slice p s.log.length c):=Ext.cell C37.out (Ext.of h);have f2:x.cell? ⟨nb,43,none⟩=some (.int .i64 (s.round:Int)):=Ext.cell C43.out (Ext.of h);go_simp⟩) ?_;simp only[AP]))) ?_;simp only[takesA,AP,pA];refine rdy2 10 14 (fun K hK=>?_) (fun K hK=>?_);focus
  go_simp;refine(HPROP.out _ (by first|exact hH|exact(Below.refl _ w1).drew)).mono ?_;rintro en X2 ⟨rfl,hb2⟩;have hX2:Below w1.heap.size w1 X2:=(Below.refl _ w1).drew.trans (hb2.mono (Nat.le_refl _));clear hb2;refine hK.out _ _ hX2 (fun hH=>?_);clear hK K
  try simp only[AP,AQ]
  refine takeN [(11,some 18,propR x),(12,some 30,.agg (x.getD ent0).cells),(13,some 31,.bool false)] _ _ hH (by repeat(first|exact True.intro|((first|(refine tkc rfl rfl (Or.inl ⟨by rfl,fun x h=>?_⟩) ?_;focus(unfold propR;go_simp;done))|(refine tkc rfl rfl (Or.inl ⟨by rfl,fun x h=>?_⟩) ?_;focus(go_simp;done)));simp only[AP]))) ?_;simp only[takesA,AP];refine rdy1 14 (fun K hK=>?_);go_simp;obtain⟨X3,hX3e⟩:=gen (X2.alloc (.cells #[.int .i64 0,.int .i64 0,.int .i64 0,.int .i64 0,.int .i64 0,.bool false,.string ⟨#[]⟩,.string ⟨#[]⟩,.bool false] 164));have hb3:Below X2.heap.size X2 X3:=by rw[hX3e];exact(Below.refl _ X2).alloc (Nat.le_refl _) _
  have hq3:X3.heap[X2.heap.size]? =some (.cells #[.int .i64 0,.int .i64 0,.int .i64 0,.int .i64 0,.int .i64 0,.bool false,.string ⟨#[]⟩,.string ⟨#[]⟩,.bool false] 164 (0,0)):=by rw[hX3e];exact heap_alloc_new X2 _
  rw[←hX3e];have hX3:Below w1.heap.size w1 X3:=hX2.trans (hb3.mono hX2.size);refine hK.out _ _ hX3 (fun hH=>?_);clear hK K hX3e
  try simp only[AP,AQ]
  refine rdy1 15 (fun K hK=>?_);rw[if_pos (by rfl)];refine wp_store_midG 164 _ _ rfl X2.heap.size 0 ((x.getD ent0).cells) rfl rfl 164 #[.int .i64 0,.int .i64 0,.int .i64 0,.int .i64 0,.int .i64 0,.bool false,.string ⟨#[]⟩,.string ⟨#[]⟩,.bool false] hq3 (by simp[EntV.cells]) (by simp[EntV.cells,Value.oneCell']) (by rw[Tryz.sizeEnt];simp[EntV.cells]) ?_;intro X hqX hoX;have hqX2:X.heap[X2.heap.size]? =some (.cells ((x.getD ent0).cells) 164 (0,0)):=hqX;have hX:Below w1.heap.size w1 X:=hX3.trans (hoX.below hX2.size);refine hK.out _ _ hX (fun hH=>?_);clear hK K
  try simp only[AP,AQ]
  refine takeM [(16,some 4,.bool false)] _ _ hH ?_;simp only[takesA,AP];refine dnr ?_;obtain⟨pb,hpb⟩:=gen X2.heap.size;rw[←hpb] at hqX2;rw[←hpb];have hpw:w1.heap.size≤pb:=by rw[hpb];exact hX2.size
  clear hpb hqX hoX hb3 hq3 hX3 hX2
 rotate_left;focus
  go_simp;obtain⟨X3,hX3e⟩:∃z,z=(w1.alloc (.cells #[.int .i64 0,.int .i64 0,.int .i64 0,.int .i64 0,.int .i64 0,.bool false,.string ⟨#[]⟩,.string ⟨#[]⟩,.bool false] 164)).drew:=⟨_,rfl⟩;have hX3:Below w1.heap.size w1 X3:=by rw[hX3e];exact((Below.refl _ w1).alloc (Nat.le_refl _) _).drew
  have hq3:X3.heap[w1.heap.size]? =some (.cells #[.int .i64 0,.int .i64 0,.int .i64 0,.int .i64 0,.int .i64 0,.bool false,.string ⟨#[]⟩,.string ⟨#[]⟩,.bool false] 164 (0,0)):=by rw[hX3e];exact heap_alloc_new w1 _
  rw[←hX3e];refine hK.out _ _ hX3 (fun hH=>?_);clear hK K hX3e
  try simp only[AP,AQ]
  refine rdy1 10 (fun K hK=>?_);go_simp;refine(HPROPB.out _ (by first|exact hH|exact(Below.refl _ w1).drew)).mono ?_;rintro en X2 ⟨rfl,hb2⟩;have hX2:Below w1.heap.size w1 X2:=hX3.trans (hb2.mono hX3.size);have hq2:=blk hq3 hb2;refine hK.out _ _ hX2 (fun hH=>?_);clear hK K
  try simp only[AP,AQ]
  refine takeN [(11,some 18,propR x),(12,some 30,.agg (x.getD ent0).cells),(13,some 31,.bool false)] _ _ hH (by repeat(first|exact True.intro|((first|(refine tkc rfl rfl (Or.inl ⟨by rfl,fun x h=>?_⟩) ?_;focus(unfold propR;go_simp;done))|(refine tkc rfl rfl (Or.inl ⟨by rfl,fun x h=>?_⟩) ?_;focus(go_simp;done)));simp only[AP]))) ?_;simp only[takesA,AP];refine rdy1 15 (fun K hK=>?_);rw[if_pos (by rfl)];refine wp_store_midG 164 _ _ rfl w1.heap.size 0 ((x.getD ent0).cells) rfl rfl 164 #[.int .i64 0,.int .i64 0,.int .i64 0,.int .i64 0,.int .i64 0,.bool false,.string ⟨#[]⟩,.string ⟨#[]⟩,.bool false] hq2 (by simp[EntV.cells]) (by simp[EntV.cells,Value.oneCell']) (by rw[Tryz.sizeEnt];simp[EntV.cells]) ?_;intro X hqX hoX;have hqX2:X.heap[w1.heap.size]? =some (.cells ((x.getD ent0).cells) 164 (0,0)):=hqX;have hX:Below w1.heap.size w1 X:=hX2.trans (hoX.below (Nat.le_refl _));refine hK.out _ _ hX (fun hH=>?_);clear hK K
  try simp only[AP,AQ]
  refine takeM [(16,some 4,.bool false)] _ _ hH ?_;simp only[takesA,AP];refine dnr ?_;obtain⟨pb,hpb⟩:=gen w1.heap.size;rw[←hpb] at hqX2;rw[←hpb];have hpw:w1.heap.size≤pb:=by rw[hpb];exact Nat.le_refl _
  clear hpb hqX hoX hb2 hq2 hq3 hX3 hX2
 rotate_left;all_goals
  have HXB:Hid (Below w.heap.size w X):=HB1.out.trans (hX.mono HB1.out.size);clear hX hqX2 hpw;go_wp2;go_ret;rw[HRU.out];exact RuleP.same HH.out HXB.out
theorem hold_lock{B:Nat}{es:List Addr}{m:Int}{F R:Nat→Prop}{nb kb rb cb n i N:Nat}{s:NodeS}{w:World}(h:NodeW B es m F R nb kb rb cb n i s w)(ok:StOk N s)(hN:N≤10000000)(hsg:(s.sg i).length≤1000000000000)(pk ph pr pf pvv:Int)(pnl:Bool)(pt pfr:ByteArray)(po:Bool)(hst:¬s.step=1)(hhe:s.held=false)(hpf:s.holdF=some ⟨⟨pk,ph,pr,pf,pvv,pnl,pt⟩,pfr,po⟩)(hz:pt.size≤24)(h2:s.step=2):
 Calls prog 112 #[.pointer (some ⟨nb,0,none⟩)] w (RuleP B es m F R nb kb rb cb n i (s.holdS i) w):=by
 have HRU:=hide (holdS_some (i:=i) hst hhe hpf);rw[if_pos h2] at HRU;have hmf:∀(fn:Fn) (first cap:Array Value) (w:World),(Instr.makeFunc fn first cap).run prog w=.ok (.func fn first cap) w:=fun _ _ _ _=>rfl;obtain⟨V,hA0,hf⟩:=h.node;obtain⟨a1,he1⟩:=h.glob.sent.at 1 (by omega);obtain⟨w1,hw1⟩:=gen (w.alloc (.cells #[.pointer (some ⟨nb,0,none⟩)] 26));have hb1:Below w.heap.size w w1:=by rw[hw1];exact(Below.refl _ w).alloc (Nat.le_refl _) _
 have hq1:w1.heap[w.heap.size]? =some (.cells #[.pointer (some ⟨nb,0,none⟩)] 26 (0,0)):=by rw[hw1];exact heap_alloc_new w _
 have c1:w1.cell? ⟨w.heap.size,0,none⟩=some (.pointer (some ⟨nb,0,none⟩)):=cell_of_row w1 w.heap.size 0 _ _ _ hq1;have hne0:nb≠w.heap.size:=by have:=row_lt0 hA0.blk;omega
 have hA1:=hA0.below hb1;obtain⟨p,c,-,c37,hm,hE⟩:=hA1.logAt;have c44:w1.cell? ⟨nb,44,none⟩=some (.int .i64 (s.step:Int)):=hA1.cell 44 rfl;have c45:w1.cell? ⟨nb,45,none⟩=some (.bool s.held):=hA1.cell 45 rfl;have C43:Hid (w1.cell? ⟨nb,43,none⟩=some (.int .i64 (s.round:Int))):=hA1.cell 43 rfl;obtain⟨C37,C1,C44,C45⟩:=hide4 c37 c1 c44 c45;have c1':(w.alloc (.cells #[.pointer (some ⟨nb,0,none⟩)] 26)).cell? ⟨w.heap.size,0,none⟩=some (.pointer (some ⟨nb,0,none⟩)):=by rw[←hw1];exact c1
 have c44':(w.alloc (.cells #[.pointer (some ⟨nb,0,none⟩)] 26)).cell? ⟨nb,44,none⟩=some (.int .i64 (s.step:Int)):=by rw[←hw1];exact c44
 have c45':(w.alloc (.cells #[.pointer (some ⟨nb,0,none⟩)] 26)).cell? ⟨nb,45,none⟩=some (.bool s.held):=by rw[←hw1];exact c45
 obtain⟨HH,HA,HF,HOK,HSG,HE1,HB1,HW1⟩:=hide8 h hA0 hf ok hsg he1 hb1 hw1;have hWW:=h.below hb1;have HPROP:Hid (∀W,Below w1.heap.size w1 W→Calls prog 148 #[.slice p s.log.length c,.int .i64 (s.round:Int),.func (.func 159) #[] #[.pointer (some ⟨w.heap.size,0,none⟩)]] W fun e w'=>e=.returned (propR s.holdF)∧Below W.heap.size W w'):=fun W hW=>proposal_any 159 _ _ s.log (s.round:Int) p c W (enters_of func159 (by decide) rfl) (hE.ext (Ext.of hW)) hm (hold1_fits nb kb cb w.heap.size B es m V s _ W (hA1.below hW) (Nat.le_trans hWW.bl hW.size) (hWW.below hW).glob (Ext.cell c1 (Ext.of hW)) ok.dom (fun e he=>⟨(ok.ids e he).f0,(ok.ids e he).f8⟩) (fun e he=>(ok.ids e (List.mem_filter.1 he).1).z));have HPROPB:=HPROP;clear h hA0 hA1 hf ok hsg he1 hE hm c37 c1 c44 c45 hb1 hq1 hw1 hWW;have q1:((s.step:Int)==1)=false:=by rw[beq_eq_false_iff_ne];omega
 have q1':¬(s.step:Int)=1:=by omega
 rw[hhe] at c45';rw[hpf] at HPROP HPROPB;obtain⟨x,hxe⟩:∃x:Option EntV,x=some ⟨⟨pk,ph,pr,pf,pvv,pnl,pt⟩,pfr,po⟩:=⟨_,rfl⟩;rw[←hxe] at HPROP HPROPB;have hsm:x.isSome=true:=by rw[hxe];rfl
 have HXE:=hide hxe;have q2:(s.step:Int)=2:=by omega
 clear hst hhe hpf hxe h2;go_enter func112,ntmps112;go_wp2_with fail
 rw[←HW1.out];clear c1' c44' c45';refine rgd (S:=fun X=>Below w1.heap.size w1 X) ((Below.refl _ w1).drew) (fun hH=>?_);refine takeN [(0,some 19,pA nb 0),(1,some 20,pA nb 0),(2,some 21,pA nb 37),(3,some 22,.slice p s.log.length c),(4,some 23,pA nb 0),(5,some 24,pA nb 0),(6,some 25,pA nb 43),(7,some 26,pA nb 43),(8,some 27,.int .i64 (s.round:Int)),(9,some 28,.func (.func 159) #[] #[.pointer (some ⟨w.heap.size,0,none⟩)])] _ _ hH (by repeat(first|exact True.intro|(refine tkc rfl rfl (Or.inl ⟨by rfl,fun x h=>by have f0:x.cell? ⟨w.heap.size,0,none⟩=some (.pointer (some ⟨nb,0,none⟩)):=Ext.cell C1.out (Ext.of h);have f1:x.cell? ⟨nb,37,none⟩=some (.slice p s.log.length c):=Ext.cell C37.out (Ext.of h);have f2:x.cell? ⟨nb,43,none⟩=some (.int .i64 (s.round:Int)):=Ext.cell C43.out (Ext.of h);go_simp⟩) ?_;simp only[AP]))) ?_;simp only[takesA,AP,pA];refine rdy2 10 14 (fun K hK=>?_) (fun K hK=>?_);focus
  go_simp;refine(HPROP.out _ (by first|exact hH|exact(Below.refl _ w1).drew)).mono ?_;rintro en X2 ⟨rfl,hb2⟩;have hX2:Below w1.heap.size w1 X2:=(Below.refl _ w1).drew.trans (hb2.mono (Nat.le_refl _));clear hb2;refine hK.out _ _ hX2 (fun hH=>?_);clear hK K
  try simp only[AP,AQ]
  refine takeN [(11,some 18,propR x),(12,some 30,.agg (x.getD ent0).cells),(13,some 31,.bool true)] _ _ hH (by repeat(first|exact True.intro|((first|(refine tkc rfl rfl (Or.inl ⟨by rfl,fun x h=>?_⟩) ?_;focus(unfold propR;go_simp;done))|(refine tkc rfl rfl (Or.inl ⟨by rfl,fun x h=>?_⟩) ?_;focus(go_simp;done)));simp only[AP]))) ?_;simp only[takesA,AP];refine rdy1 14 (fun K hK=>?_);go_simp;obtain⟨X3,hX3e⟩:=gen (X2.alloc (.cells #[.int .i64 0,.int .i64 0,.int .i64 0,.int .i64 0,.int .i64 0,.bool false,.string ⟨#[]⟩,.string ⟨#[]⟩,.bool false] 164));have hb3:Below X2.heap.size X2 X3:=by rw[hX3e];exact(Below.refl _ X2).alloc (Nat.le_refl _) _
  have hq3:X3.heap[X2.heap.size]? =some (.cells #[.int .i64 0,.int .i64 0,.int .i64 0,.int .i64 0,.int .i64 0,.bool false,.string ⟨#[]⟩,.string ⟨#[]⟩,.bool false] 164 (0,0)):=by rw[hX3e];exact heap_alloc_new X2 _
  rw[←hX3e];have hX3:Below w1.heap.size w1 X3:=hX2.trans (hb3.mono hX2.size);refine hK.out _ _ hX3 (fun hH=>?_);clear hK K hX3e
  try simp only[AP,AQ]
  refine rdy1 15 (fun K hK=>?_);rw[if_pos (by rfl)];refine wp_store_midG 164 _ _ rfl X2.heap.size 0 ((x.getD ent0).cells) rfl rfl 164 #[.int .i64 0,.int .i64 0,.int .i64 0,.int .i64 0,.int .i64 0,.bool false,.string ⟨#[]⟩,.string ⟨#[]⟩,.bool false] hq3 (by simp[EntV.cells]) (by simp[EntV.cells,Value.oneCell']) (by rw[Tryz.sizeEnt];simp[EntV.cells]) ?_;intro X hqX hoX;have hqX2:X.heap[X2.heap.size]? =some (.cells ((x.getD ent0).cells) 164 (0,0)):=hqX;have hX:Below w1.heap.size w1 X:=hX3.trans (hoX.below hX2.size);refine hK.out _ _ hX (fun hH=>?_);clear hK K
  try simp only[AP,AQ]
  refine takeM [(16,some 4,.bool true)] _ _ hH ?_;simp only[takesA,AP];refine dnr ?_;obtain⟨pb,hpb⟩:=gen X2.heap.size;rw[←hpb] at hqX2;rw[←hpb];have hpw:w1.heap.size≤pb:=by rw[hpb];exact hX2.size
  clear hpb hqX hoX hb3 hq3 hX3 hX2
 rotate_left;focus
  go_simp;obtain⟨X3,hX3e⟩:∃z,z=(w1.alloc (.cells #[.int .i64 0,.int .i64 0,.int .i64 0,.int .i64 0,.int .i64 0,.bool false,.string ⟨#[]⟩,.string ⟨#[]⟩,.bool false] 164)).drew:=⟨_,rfl⟩;have hX3:Below w1.heap.size w1 X3:=by rw[hX3e];exact((Below.refl _ w1).alloc (Nat.le_refl _) _).drew
  have hq3:X3.heap[w1.heap.size]? =some (.cells #[.int .i64 0,.int .i64 0,.int .i64 0,.int .i64 0,.int .i64 0,.bool false,.string ⟨#[]⟩,.string ⟨#[]⟩,.bool false] 164 (0,0)):=by rw[hX3e];exact heap_alloc_new w1 _
  rw[←hX3e];refine hK.out _ _ hX3 (fun hH=>?_);clear hK K hX3e
  try simp only[AP,AQ]
  refine rdy1 10 (fun K hK=>?_);go_simp;refine(HPROPB.out _ (by first|exact hH|exact(Below.refl _ w1).drew)).mono ?_;rintro en X2 ⟨rfl,hb2⟩;have hX2:Below w1.heap.size w1 X2:=hX3.trans (hb2.mono hX3.size);have hq2:=blk hq3 hb2;refine hK.out _ _ hX2 (fun hH=>?_);clear hK K
  try simp only[AP,AQ]
  refine takeN [(11,some 18,propR x),(12,some 30,.agg (x.getD ent0).cells),(13,some 31,.bool true)] _ _ hH (by repeat(first|exact True.intro|((first|(refine tkc rfl rfl (Or.inl ⟨by rfl,fun x h=>?_⟩) ?_;focus(unfold propR;go_simp;done))|(refine tkc rfl rfl (Or.inl ⟨by rfl,fun x h=>?_⟩) ?_;focus(go_simp;done)));simp only[AP]))) ?_;simp only[takesA,AP];refine rdy1 15 (fun K hK=>?_);rw[if_pos (by rfl)];refine wp_store_midG 164 _ _ rfl w1.heap.size 0 ((x.getD ent0).cells) rfl rfl 164 #[.int .i64 0,.int .i64 0,.int .i64 0,.int .i64 0,.int .i64 0,.bool false,.string ⟨#[]⟩,.string ⟨#[]⟩,.bool false] hq2 (by simp[EntV.cells]) (by simp[EntV.cells,Value.oneCell']) (by rw[Tryz.sizeEnt];simp[EntV.cells]) ?_;intro X hqX hoX;have hqX2:X.heap[w1.heap.size]? =some (.cells ((x.getD ent0).cells) 164 (0,0)):=hqX;have hX:Below w1.heap.size w1 X:=hX2.trans (hoX.below (Nat.le_refl _));refine hK.out _ _ hX (fun hH=>?_);clear hK K
  try simp only[AP,AQ]
  refine takeM [(16,some 4,.bool true)] _ _ hH ?_;simp only[takesA,AP];refine dnr ?_;obtain⟨pb,hpb⟩:=gen w1.heap.size;rw[←hpb] at hqX2;rw[←hpb];have hpw:w1.heap.size≤pb:=by rw[hpb];exact Nat.le_refl _
  clear hpb hqX hoX hb2 hq2 hq3 hX3 hX2
 rotate_left;all_goals
  rw[HXE.out] at hqX2;have HXB:Hid (Below w.heap.size w X):=HB1.out.trans (hX.mono HB1.out.size);have k6:X.cell? ⟨pb,6,none⟩=some (.string pt):=cell_of_row X pb 6 _ _ _ hqX2;have k0:X.cell? ⟨w.heap.size,0,none⟩=some (.pointer (some ⟨nb,0,none⟩)):=Ext.cell C1.out (Ext.of hX);have hnp:nb≠pb:=by have:=row_lt0 HA.out.blk;have:=HB1.out.size;omega
  have hAX:=HA.out.below HXB.out;have HAX:=hide hAX;have k45:X.cell? ⟨nb,45,none⟩=some (.bool s.held):=hAX.cell 45 rfl;have z45:X.frozen? ⟨nb,45,none⟩=false:=hAX.frozen 45;obtain⟨X1,hX1⟩:=gen (X.setCell ⟨nb,45,none⟩ (.bool true));have ho1:Only nb X X1:=by rw[hX1];exact only_setCell _ _ _ _
  have hn1:X1.heap[nb]? =some (.cells (nodeA kb cb V s.holdOn) 135 (0,0)):=by rw[hX1];exact setCell_row hAX.blk 45 _
  have HA1:Hid (NodeAt nb kb cb V s.holdOn X1):=hAX.store hn1 ho1 rfl rfl rfl rfl rfl rfl;have l0:X1.cell? ⟨w.heap.size,0,none⟩=some (.pointer (some ⟨nb,0,none⟩)):=(ho1.cell (p:=⟨w.heap.size,0,none⟩) (fun e=>hne0 e.symm)).trans k0;have l6:X1.cell? ⟨pb,6,none⟩=some (.string pt):=(ho1.cell (p:=⟨pb,6,none⟩) (fun e=>hnp e.symm)).trans k6;have l43:X1.cell? ⟨nb,43,none⟩=some (.int .i64 (s.round:Int)):=HA1.out.cell 43 rfl;obtain⟨HX1,HO1,K0⟩:=hide3 hX1 ho1 k0;clear hAX hX hqX2 hpw hX1 ho1 hn1 k6;go_wp2_with fail
  rw[←HX1.out];refine rgd (S:=fun W=>W.cell? ⟨w.heap.size,0,none⟩=some (.pointer (some ⟨nb,0,none⟩))∧W.cell? ⟨nb,43,none⟩=some (.int .i64 (s.round:Int))∧W.cell? ⟨pb,6,none⟩=some (.string pt)) ⟨l0,l43,l6⟩ (fun hH=>?_);refine takeN [(0,some 38,pA nb 0),(1,some 39,pA nb 0),(2,some 40,pA nb 0),(3,some 41,pA nb 43),(4,some 42,pA nb 43),(5,some 43,.int .i64 (s.round:Int)),(6,some 44,pA pb 0),(7,some 45,pA pb 6),(8,some 46,.string pt),(9,some 47,.agg #[.int .i64 (s.round:Int),.string pt]),(10,some 48,pA nb 0),(11,some 49,pA nb 41)] _ _ hH (by repeat(first|exact True.intro|(refine tkc rfl rfl (Or.inl ⟨by rfl,fun x h=>by have f0:x.cell? ⟨w.heap.size,0,none⟩=some (.pointer (some ⟨nb,0,none⟩)):=h.1;have f1:x.cell? ⟨nb,43,none⟩=some (.int .i64 (s.round:Int)):=h.2.1;have f2:x.cell? ⟨pb,6,none⟩=some (.string pt):=h.2.2;go_simp⟩) ?_;simp only[AP]))) ?_;simp only[takesA,AP,pA];refine rdy1 12 (fun K hK=>?_);rw[if_pos (by rfl)];refine wp_store_midG 127 _ _ rfl nb 41 #[.int .i64 (s.round:Int),.string pt] rfl rfl 135 (nodeA kb cb V (s.holdOn)) HA1.out.blk (by rw[nodeA_size];simp) (by simp[Value.oneCell']) Tryz.sizeChoice ?_;intro X2 hq2 ho2;have hn2:X2.heap[nb]? =some (.cells (nodeA kb cb V (s.held1 pt)) 135 (0,0)):=hq2;have j1:X2.cell? ⟨w.heap.size,0,none⟩=some (.pointer (some ⟨nb,0,none⟩)):=(ho2.cell (p:=⟨w.heap.size,0,none⟩) (fun e=>hne0 e.symm)).trans hH.1;have j2:X2.cell? ⟨nb,43,none⟩=some (.int .i64 (s.round:Int)):=cell_of_row X2 nb 43 _ _ _ hn2;have j3:X2.cell? ⟨pb,6,none⟩=some (.string pt):=(ho2.cell (p:=⟨pb,6,none⟩) (fun e=>hnp e.symm)).trans hH.2.2;refine hK.out _ _ ⟨j1,j2,j3⟩ (fun hH=>?_);clear hK K hq2 hH;refine dnr ?_;have ho12:Only nb X X2:=⟨ho2.os.trans HO1.out.os,ho2.tape.trans HO1.out.tape,ho2.output.trans HO1.out.output,ho2.size.trans HO1.out.size,fun k hk=>(ho2.block k hk).trans (HO1.out.block k hk)⟩;have HA2:Hid (NodeAt nb kb cb V (s.held1 pt) X2):=HAX.out.store hn2 ho12 rfl rfl rfl rfl rfl rfl;obtain⟨HO12,HN2⟩:=hide2 ho12 hn2;have j44:X2.cell? ⟨nb,44,none⟩=some (.int .i64 (s.step:Int)):=HA2.out.cell 44 rfl;clear ho2 ho12 hn2 l0 l6 l43 k45 z45 k0;have r41:X2.rangeAt nb 41 [.int .i64 (s.round:Int),.string pt]:=nodeA_valid HN2.out;go_wp2_with fail
  refine rgd (S:=fun W=>W.cell? ⟨w.heap.size,0,none⟩=some (.pointer (some ⟨nb,0,none⟩))∧W.cell? ⟨pb,6,none⟩=some (.string pt)∧W.rangeAt nb 41 [.int .i64 (s.round:Int),.string pt]) ⟨j1,j3,r41⟩ (fun hH=>?_);refine takeN [(0,some 56,pA nb 0),(1,some 57,pA nb 0),(2,some 58,pA nb 0),(3,some 59,pA nb 41),(4,some 60,.agg ([.int .i64 (s.round:Int),.string pt]).toArray),(5,some 61,pA nb 0),(6,some 62,pA nb 39)] _ _ hH (by repeat(first|exact True.intro|((first|refine tkc rfl rfl (yieldsIf_load_mid (by rfl) 127 _ rfl nb 41 rfl ([.int .i64 (s.round:Int),.string pt]) _ (fun w h=>id h.2.2) underlying127 rfl (by rw[Tryz.sizeChoice];rfl)) ?_|(refine tkc rfl rfl (Or.inl ⟨by rfl,fun x h=>?_⟩) ?_;focus(have f0:x.cell? ⟨w.heap.size,0,none⟩=some (.pointer (some ⟨nb,0,none⟩)):=h.1;go_simp;done)));simp only[AP]))) ?_;simp only[takesA,AP,pA];refine rdy1 7 (fun K hK=>?_);rw[if_pos (by rfl)];refine wp_store_midG 127 _ _ rfl nb 39 #[.int .i64 (s.round:Int),.string pt] rfl rfl 135 (nodeA kb cb V (s.held1 pt)) HA2.out.blk (by rw[nodeA_size];simp) (by simp[Value.oneCell']) Tryz.sizeChoice ?_;intro X3 hq3 ho3;have hn3:X3.heap[nb]? =some (.cells (nodeA kb cb V (s.held1 pt).lock1) 135 (0,0)):=hq3;have i1:X3.cell? ⟨w.heap.size,0,none⟩=some (.pointer (some ⟨nb,0,none⟩)):=(ho3.cell (p:=⟨w.heap.size,0,none⟩) (fun e=>hne0 e.symm)).trans hH.1;have i2:X3.cell? ⟨pb,6,none⟩=some (.string pt):=(ho3.cell (p:=⟨pb,6,none⟩) (fun e=>hnp e.symm)).trans hH.2.1;have i3:X3.rangeAt nb 41 [.int .i64 (s.round:Int),.string pt]:=nodeA_valid hn3;refine hK.out _ _ ⟨i1,i2,i3⟩ (fun hH=>?_);clear hK K hq3 hH;refine dnr ?_;have ho13:Only nb X X3:=⟨ho3.os.trans HO12.out.os,ho3.tape.trans HO12.out.tape,ho3.output.trans HO12.out.output,ho3.size.trans HO12.out.size,fun k hk=>(ho3.block k hk).trans (HO12.out.block k hk)⟩;obtain⟨hW3,hG3⟩:=(HH.out.below HXB.out).cellAt (s':=(s.held1 pt).lock1) HAX.out HF.out hn3 ho13 rfl rfl rfl rfl rfl rfl rfl;have HG3:=hide hG3;have i1':=i1;have HSE:=hide (send_any 3 0 0 0 0 false pt a1 hW3 HE1.out (by have:=HOK.out.log;show s.log.length≤_;omega) (by have:=HOK.out.ahead;show s.ahead.length≤_;omega) (by have:=HSG.out;show(s.sg i).length≤_;omega) (by unfold maxLen;omega));clear hW3 hG3 ho13 hn3 ho3 i3 r41 j1 j2 j3 j44;go_wp2_with fail
  refine HSE.out.mono ?_;rintro e w4 ⟨rfl,F4,R4,hW4,hG4⟩;obtain⟨c44,f44⟩:=hW4.stepAt;obtain⟨hW5,hG5⟩:=hW4.setStep 3;have hb4:w4.cell? ⟨w.heap.size,0,none⟩=some (.pointer (some ⟨nb,0,none⟩)):=(World.cell?_of_block (w:=X3) (a:=⟨w.heap.size,0,none⟩) (hG4.same.block w.heap.size (cell_lt' i1) (fun x=>x.elim (fun x=>by have:=(HH.out.fl _ x).2;omega) (fun x=>by have:=(HH.out.rl _ x).2;omega)))).trans i1;have HEND:Hid (RuleP B es m F R nb kb rb cb n i (true,((s.held1 pt).lock1.sendS i 3 0 false pt).atStep 3) w (.returned (.bool true)) (w4.setCell ⟨nb,44,none⟩ (.int .i64 3))):=⟨rfl,F4,R4,hW5,((Goes.below HXB.out).trans HG3.out).trans (hG4.trans hG5)⟩;clear hW4 hG4 hW5 hG5 HSE i1 i1' i2;go_wp2;go_ret;rw[HRU.out];exact HEND.out
theorem hold_other{B:Nat}{es:List Addr}{m:Int}{F R:Nat→Prop}{nb kb rb cb n i N:Nat}{s:NodeS}{w:World}(h:NodeW B es m F R nb kb rb cb n i s w)(ok:StOk N s)(hN:N≤10000000)(hsg:(s.sg i).length≤1000000000000)(pk ph pr pf pvv:Int)(pnl:Bool)(pt pfr:ByteArray)(po:Bool)(hst:¬s.step=1)(hhe:s.held=false)(hpf:s.holdF=some ⟨⟨pk,ph,pr,pf,pvv,pnl,pt⟩,pfr,po⟩)(hz:pt.size≤24)(h2:¬s.step=2):
 Calls prog 112 #[.pointer (some ⟨nb,0,none⟩)] w (RuleP B es m F R nb kb rb cb n i (s.holdS i) w):=by
 have HRU:=hide (holdS_some (i:=i) hst hhe hpf);rw[if_neg h2] at HRU;have hmf:∀(fn:Fn) (first cap:Array Value) (w:World),(Instr.makeFunc fn first cap).run prog w=.ok (.func fn first cap) w:=fun _ _ _ _=>rfl;obtain⟨V,hA0,hf⟩:=h.node;obtain⟨a1,he1⟩:=h.glob.sent.at 1 (by omega);obtain⟨w1,hw1⟩:=gen (w.alloc (.cells #[.pointer (some ⟨nb,0,none⟩)] 26));have hb1:Below w.heap.size w w1:=by rw[hw1];exact(Below.refl _ w).alloc (Nat.le_refl _) _
 have hq1:w1.heap[w.heap.size]? =some (.cells #[.pointer (some ⟨nb,0,none⟩)] 26 (0,0)):=by rw[hw1];exact heap_alloc_new w _
 have c1:w1.cell? ⟨w.heap.size,0,none⟩=some (.pointer (some ⟨nb,0,none⟩)):=cell_of_row w1 w.heap.size 0 _ _ _ hq1;have hne0:nb≠w.heap.size:=by have:=row_lt0 hA0.blk;omega
 have hA1:=hA0.below hb1;obtain⟨p,c,-,c37,hm,hE⟩:=hA1.logAt;have c44:w1.cell? ⟨nb,44,none⟩=some (.int .i64 (s.step:Int)):=hA1.cell 44 rfl;have c45:w1.cell? ⟨nb,45,none⟩=some (.bool s.held):=hA1.cell 45 rfl;have C43:Hid (w1.cell? ⟨nb,43,none⟩=some (.int .i64 (s.round:Int))):=hA1.cell 43 rfl;obtain⟨C37,C1,C44,C45⟩:=hide4 c37 c1 c44 c45;have c1':(w.alloc (.cells #[.pointer (some ⟨nb,0,none⟩)] 26)).cell? ⟨w.heap.size,0,none⟩=some (.pointer (some ⟨nb,0,none⟩)):=by rw[←hw1];exact c1
 have c44':(w.alloc (.cells #[.pointer (some ⟨nb,0,none⟩)] 26)).cell? ⟨nb,44,none⟩=some (.int .i64 (s.step:Int)):=by rw[←hw1];exact c44
 have c45':(w.alloc (.cells #[.pointer (some ⟨nb,0,none⟩)] 26)).cell? ⟨nb,45,none⟩=some (.bool s.held):=by rw[←hw1];exact c45
 obtain⟨HH,HA,HF,HOK,HSG,HE1,HB1,HW1⟩:=hide8 h hA0 hf ok hsg he1 hb1 hw1;have hWW:=h.below hb1;have HPROP:Hid (∀W,Below w1.heap.size w1 W→Calls prog 148 #[.slice p s.log.length c,.int .i64 (s.round:Int),.func (.func 159) #[] #[.pointer (some ⟨w.heap.size,0,none⟩)]] W fun e w'=>e=.returned (propR s.holdF)∧Below W.heap.size W w'):=fun W hW=>proposal_any 159 _ _ s.log (s.round:Int) p c W (enters_of func159 (by decide) rfl) (hE.ext (Ext.of hW)) hm (hold1_fits nb kb cb w.heap.size B es m V s _ W (hA1.below hW) (Nat.le_trans hWW.bl hW.size) (hWW.below hW).glob (Ext.cell c1 (Ext.of hW)) ok.dom (fun e he=>⟨(ok.ids e he).f0,(ok.ids e he).f8⟩) (fun e he=>(ok.ids e (List.mem_filter.1 he).1).z));have HPROPB:=HPROP;clear h hA0 hA1 hf ok hsg he1 hE hm c37 c1 c44 c45 hb1 hq1 hw1 hWW;have q1:((s.step:Int)==1)=false:=by rw[beq_eq_false_iff_ne];omega
 have q1':¬(s.step:Int)=1:=by omega
 rw[hhe] at c45';rw[hpf] at HPROP HPROPB;obtain⟨x,hxe⟩:∃x:Option EntV,x=some ⟨⟨pk,ph,pr,pf,pvv,pnl,pt⟩,pfr,po⟩:=⟨_,rfl⟩;rw[←hxe] at HPROP HPROPB;have hsm:x.isSome=true:=by rw[hxe];rfl
 have HXE:=hide hxe;have q2:((s.step:Int)==2)=false:=by rw[beq_eq_false_iff_ne];omega
 have q2':¬(s.step:Int)=2:=by omega
 clear hst hhe hpf hxe h2;go_enter func112,ntmps112;go_wp2_with fail
 rw[←HW1.out];clear c1' c44' c45';refine rgd (S:=fun X=>Below w1.heap.size w1 X) ((Below.refl _ w1).drew) (fun hH=>?_);refine takeN [(0,some 19,pA nb 0),(1,some 20,pA nb 0),(2,some 21,pA nb 37),(3,some 22,.slice p s.log.length c),(4,some 23,pA nb 0),(5,some 24,pA nb 0),(6,some 25,pA nb 43),(7,some 26,pA nb 43),(8,some 27,.int .i64 (s.round:Int)),(9,some 28,.func (.func 159) #[] #[.pointer (some ⟨w.heap.size,0,none⟩)])] _ _ hH (by repeat(first|exact True.intro|(refine tkc rfl rfl (Or.inl ⟨by rfl,fun x h=>by have f0:x.cell? ⟨w.heap.size,0,none⟩=some (.pointer (some ⟨nb,0,none⟩)):=Ext.cell C1.out (Ext.of h);have f1:x.cell? ⟨nb,37,none⟩=some (.slice p s.log.length c):=Ext.cell C37.out (Ext.of h);have f2:x.cell? ⟨nb,43,none⟩=some (.int .i64 (s.round:Int)):=Ext.cell C43.out (Ext.of h);go_simp⟩) ?_;simp only[AP]))) ?_;simp only[takesA,AP,pA];refine rdy2 10 14 (fun K hK=>?_) (fun K hK=>?_);focus
  go_simp;refine(HPROP.out _ (by first|exact hH|exact(Below.refl _ w1).drew)).mono ?_;rintro en X2 ⟨rfl,hb2⟩;have hX2:Below w1.heap.size w1 X2:=(Below.refl _ w1).drew.trans (hb2.mono (Nat.le_refl _));clear hb2;refine hK.out _ _ hX2 (fun hH=>?_);clear hK K
  try simp only[AP,AQ]
  refine takeN [(11,some 18,propR x),(12,some 30,.agg (x.getD ent0).cells),(13,some 31,.bool true)] _ _ hH (by repeat(first|exact True.intro|((first|(refine tkc rfl rfl (Or.inl ⟨by rfl,fun x h=>?_⟩) ?_;focus(unfold propR;go_simp;done))|(refine tkc rfl rfl (Or.inl ⟨by rfl,fun x h=>?_⟩) ?_;focus(go_simp;done)));simp only[AP]))) ?_;simp only[takesA,AP];refine rdy1 14 (fun K hK=>?_);go_simp;obtain⟨X3,hX3e⟩:=gen (X2.alloc (.cells #[.int .i64 0,.int .i64 0,.int .i64 0,.int .i64 0,.int .i64 0,.bool false,.string ⟨#[]⟩,.string ⟨#[]⟩,.bool false] 164));have hb3:Below X2.heap.size X2 X3:=by rw[hX3e];exact(Below.refl _ X2).alloc (Nat.le_refl _) _
  have hq3:X3.heap[X2.heap.size]? =some (.cells #[.int .i64 0,.int .i64 0,.int .i64 0,.int .i64 0,.int .i64 0,.bool false,.string ⟨#[]⟩,.string ⟨#[]⟩,.bool false] 164 (0,0)):=by rw[hX3e];exact heap_alloc_new X2 _
  rw[←hX3e];have hX3:Below w1.heap.size w1 X3:=hX2.trans (hb3.mono hX2.size);refine hK.out _ _ hX3 (fun hH=>?_);clear hK K hX3e
  try simp only[AP,AQ]
  refine rdy1 15 (fun K hK=>?_);rw[if_pos (by rfl)];refine wp_store_midG 164 _ _ rfl X2.heap.size 0 ((x.getD ent0).cells) rfl rfl 164 #[.int .i64 0,.int .i64 0,.int .i64 0,.int .i64 0,.int .i64 0,.bool false,.string ⟨#[]⟩,.string ⟨#[]⟩,.bool false] hq3 (by simp[EntV.cells]) (by simp[EntV.cells,Value.oneCell']) (by rw[Tryz.sizeEnt];simp[EntV.cells]) ?_;intro X hqX hoX;have hqX2:X.heap[X2.heap.size]? =some (.cells ((x.getD ent0).cells) 164 (0,0)):=hqX;have hX:Below w1.heap.size w1 X:=hX3.trans (hoX.below hX2.size);refine hK.out _ _ hX (fun hH=>?_);clear hK K
  try simp only[AP,AQ]
  refine takeM [(16,some 4,.bool true)] _ _ hH ?_;simp only[takesA,AP];refine dnr ?_;obtain⟨pb,hpb⟩:=gen X2.heap.size;rw[←hpb] at hqX2;rw[←hpb];have hpw:w1.heap.size≤pb:=by rw[hpb];exact hX2.size
  clear hpb hqX hoX hb3 hq3 hX3 hX2
 rotate_left;focus
  go_simp;obtain⟨X3,hX3e⟩:∃z,z=(w1.alloc (.cells #[.int .i64 0,.int .i64 0,.int .i64 0,.int .i64 0,.int .i64 0,.bool false,.string ⟨#[]⟩,.string ⟨#[]⟩,.bool false] 164)).drew:=⟨_,rfl⟩;have hX3:Below w1.heap.size w1 X3:=by rw[hX3e];exact((Below.refl _ w1).alloc (Nat.le_refl _) _).drew
  have hq3:X3.heap[w1.heap.size]? =some (.cells #[.int .i64 0,.int .i64 0,.int .i64 0,.int .i64 0,.int .i64 0,.bool false,.string ⟨#[]⟩,.string ⟨#[]⟩,.bool false] 164 (0,0)):=by rw[hX3e];exact heap_alloc_new w1 _
  rw[←hX3e];refine hK.out _ _ hX3 (fun hH=>?_);clear hK K hX3e
  try simp only[AP,AQ]
  refine rdy1 10 (fun K hK=>?_);go_simp;refine(HPROPB.out _ (by first|exact hH|exact(Below.refl _ w1).drew)).mono ?_;rintro en X2 ⟨rfl,hb2⟩;have hX2:Below w1.heap.size w1 X2:=hX3.trans (hb2.mono hX3.size);have hq2:=blk hq3 hb2;refine hK.out _ _ hX2 (fun hH=>?_);clear hK K
  try simp only[AP,AQ]
  refine takeN [(11,some 18,propR x),(12,some 30,.agg (x.getD ent0).cells),(13,some 31,.bool true)] _ _ hH (by repeat(first|exact True.intro|((first|(refine tkc rfl rfl (Or.inl ⟨by rfl,fun x h=>?_⟩) ?_;focus(unfold propR;go_simp;done))|(refine tkc rfl rfl (Or.inl ⟨by rfl,fun x h=>?_⟩) ?_;focus(go_simp;done)));simp only[AP]))) ?_;simp only[takesA,AP];refine rdy1 15 (fun K hK=>?_);rw[if_pos (by rfl)];refine wp_store_midG 164 _ _ rfl w1.heap.size 0 ((x.getD ent0).cells) rfl rfl 164 #[.int .i64 0,.int .i64 0,.int .i64 0,.int .i64 0,.int .i64 0,.bool false,.string ⟨#[]⟩,.string ⟨#[]⟩,.bool false] hq2 (by simp[EntV.cells]) (by simp[EntV.cells,Value.oneCell']) (by rw[Tryz.sizeEnt];simp[EntV.cells]) ?_;intro X hqX hoX;have hqX2:X.heap[w1.heap.size]? =some (.cells ((x.getD ent0).cells) 164 (0,0)):=hqX;have hX:Below w1.heap.size w1 X:=hX2.trans (hoX.below (Nat.le_refl _));refine hK.out _ _ hX (fun hH=>?_);clear hK K
  try simp only[AP,AQ]
  refine takeM [(16,some 4,.bool true)] _ _ hH ?_;simp only[takesA,AP];refine dnr ?_;obtain⟨pb,hpb⟩:=gen w1.heap.size;rw[←hpb] at hqX2;rw[←hpb];have hpw:w1.heap.size≤pb:=by rw[hpb];exact Nat.le_refl _
  clear hpb hqX hoX hb2 hq2 hq3 hX3 hX2
 rotate_left;all_goals
  rw[HXE.out] at hqX2;have HXB:Hid (Below w.heap.size w X):=HB1.out.trans (hX.mono HB1.out.size);have k6:X.cell? ⟨pb,6,none⟩=some (.string pt):=cell_of_row X pb 6 _ _ _ hqX2;have k0:X.cell? ⟨w.heap.size,0,none⟩=some (.pointer (some ⟨nb,0,none⟩)):=Ext.cell C1.out (Ext.of hX);have hnp:nb≠pb:=by have:=row_lt0 HA.out.blk;have:=HB1.out.size;omega
  have hAX:=HA.out.below HXB.out;have HAX:=hide hAX;have k45:X.cell? ⟨nb,45,none⟩=some (.bool s.held):=hAX.cell 45 rfl;have z45:X.frozen? ⟨nb,45,none⟩=false:=hAX.frozen 45;obtain⟨X1,hX1⟩:=gen (X.setCell ⟨nb,45,none⟩ (.bool true));have ho1:Only nb X X1:=by rw[hX1];exact only_setCell _ _ _ _
  have hn1:X1.heap[nb]? =some (.cells (nodeA kb cb V s.holdOn) 135 (0,0)):=by rw[hX1];exact setCell_row hAX.blk 45 _
  have HA1:Hid (NodeAt nb kb cb V s.holdOn X1):=hAX.store hn1 ho1 rfl rfl rfl rfl rfl rfl;have l0:X1.cell? ⟨w.heap.size,0,none⟩=some (.pointer (some ⟨nb,0,none⟩)):=(ho1.cell (p:=⟨w.heap.size,0,none⟩) (fun e=>hne0 e.symm)).trans k0;have l6:X1.cell? ⟨pb,6,none⟩=some (.string pt):=(ho1.cell (p:=⟨pb,6,none⟩) (fun e=>hnp e.symm)).trans k6;have l43:X1.cell? ⟨nb,43,none⟩=some (.int .i64 (s.round:Int)):=HA1.out.cell 43 rfl;obtain⟨HX1,HO1,K0⟩:=hide3 hX1 ho1 k0;clear hAX hX hqX2 hpw hX1 ho1 hn1 k6;go_wp2_with fail
  rw[←HX1.out];refine rgd (S:=fun W=>W.cell? ⟨w.heap.size,0,none⟩=some (.pointer (some ⟨nb,0,none⟩))∧W.cell? ⟨nb,43,none⟩=some (.int .i64 (s.round:Int))∧W.cell? ⟨pb,6,none⟩=some (.string pt)) ⟨l0,l43,l6⟩ (fun hH=>?_);refine takeN [(0,some 38,pA nb 0),(1,some 39,pA nb 0),(2,some 40,pA nb 0),(3,some 41,pA nb 43),(4,some 42,pA nb 43),(5,some 43,.int .i64 (s.round:Int)),(6,some 44,pA pb 0),(7,some 45,pA pb 6),(8,some 46,.string pt),(9,some 47,.agg #[.int .i64 (s.round:Int),.string pt]),(10,some 48,pA nb 0),(11,some 49,pA nb 41)] _ _ hH (by repeat(first|exact True.intro|(refine tkc rfl rfl (Or.inl ⟨by rfl,fun x h=>by have f0:x.cell? ⟨w.heap.size,0,none⟩=some (.pointer (some ⟨nb,0,none⟩)):=h.1;have f1:x.cell? ⟨nb,43,none⟩=some (.int .i64 (s.round:Int)):=h.2.1;have f2:x.cell? ⟨pb,6,none⟩=some (.string pt):=h.2.2;go_simp⟩) ?_;simp only[AP]))) ?_;simp only[takesA,AP,pA];refine rdy1 12 (fun K hK=>?_);rw[if_pos (by rfl)];refine wp_store_midG 127 _ _ rfl nb 41 #[.int .i64 (s.round:Int),.string pt] rfl rfl 135 (nodeA kb cb V (s.holdOn)) HA1.out.blk (by rw[nodeA_size];simp) (by simp[Value.oneCell']) Tryz.sizeChoice ?_;intro X2 hq2 ho2;have hn2:X2.heap[nb]? =some (.cells (nodeA kb cb V (s.held1 pt)) 135 (0,0)):=hq2;have j1:X2.cell? ⟨w.heap.size,0,none⟩=some (.pointer (some ⟨nb,0,none⟩)):=(ho2.cell (p:=⟨w.heap.size,0,none⟩) (fun e=>hne0 e.symm)).trans hH.1;have j2:X2.cell? ⟨nb,43,none⟩=some (.int .i64 (s.round:Int)):=cell_of_row X2 nb 43 _ _ _ hn2;have j3:X2.cell? ⟨pb,6,none⟩=some (.string pt):=(ho2.cell (p:=⟨pb,6,none⟩) (fun e=>hnp e.symm)).trans hH.2.2;refine hK.out _ _ ⟨j1,j2,j3⟩ (fun hH=>?_);clear hK K hq2 hH;refine dnr ?_;have ho12:Only nb X X2:=⟨ho2.os.trans HO1.out.os,ho2.tape.trans HO1.out.tape,ho2.output.trans HO1.out.output,ho2.size.trans HO1.out.size,fun k hk=>(ho2.block k hk).trans (HO1.out.block k hk)⟩;have HA2:Hid (NodeAt nb kb cb V (s.held1 pt) X2):=HAX.out.store hn2 ho12 rfl rfl rfl rfl rfl rfl;obtain⟨HO12,HN2⟩:=hide2 ho12 hn2;have j44:X2.cell? ⟨nb,44,none⟩=some (.int .i64 (s.step:Int)):=HA2.out.cell 44 rfl;clear ho2 ho12 hn2 l0 l6 l43 k45 z45 k0;obtain⟨hW2,hG2⟩:=(HH.out.below HXB.out).cellAt (s':=s.held1 pt) HAX.out HF.out HN2.out HO12.out rfl rfl rfl rfl rfl rfl rfl;have HEND:Hid (RuleP B es m F R nb kb rb cb n i (true,s.held1 pt) w (.returned (.bool true)) X2):=⟨rfl,F,R,hW2,(Goes.below HXB.out).trans hG2⟩;clear hW2 hG2;go_wp2;go_ret;rw[HRU.out];exact HEND.out
theorem hold_any{B:Nat}{es:List Addr}{m:Int}{F R:Nat→Prop}{nb kb rb cb n i N:Nat}{s:NodeS}{w:World}(h:NodeW B es m F R nb kb rb cb n i s w)(ok:StOk N s)(hN:N≤10000000)(hsg:(s.sg i).length≤1000000000000):
 Calls prog 112 #[.pointer (some ⟨nb,0,none⟩)] w (RuleP B es m F R nb kb rb cb n i (s.holdS i) w):=by
 by_cases hst:s.step=1
 .exact hold_step h ok hN hsg hst
 cases hhe:s.held with
 |true=>exact hold_held h ok hN hsg hst hhe
 |false=>
  cases hpf:s.holdF with
  |none=>exact hold_none h ok hN hsg hst hhe hpf
  |some p=>
   have hmem:p∈s.log:=List.mem_of_find?_eq_some hpf;have hz:=(ok.ids p hmem).z;obtain⟨⟨pk,ph,pr,pf,pvv,pnl,pt⟩,pfr,po⟩:=p;by_cases h2:s.step=2
   .exact hold_lock h ok hN hsg pk ph pr pf pvv pnl pt pfr po hst hhe hpf hz h2
   exact hold_other h ok hN hsg pk ph pr pf pvv pnl pt pfr po hst hhe hpf hz h2
def NodeS.oneS(dec:NodeS→Bool×NodeS)(i:Nat)(s:NodeS):Bool×NodeS:=
 if(dec s).1=true then dec s else if(s.followS i).1=true then s.followS i else if(s.answerS i newB).1=true then s.answerS i newB else if(s.answerS i s.oldB).1=true then s.answerS i s.oldB else
 if(s.holdS i).1=true then s.holdS i else if(s.giveUpS i).1=true then s.giveUpS i else if s.wait2S.1=true then s.wait2S else s.wait3S
theorem followS_false{s:NodeS}{i:Nat}(h:¬(s.followS i).1=true):s.followS i=(false,s):=by
 unfold NodeS.followS at h ⊢;split
 .rfl
 rename_i r hr;rw[hr] at h;exact absurd rfl h
theorem answerS_false{s:NodeS}{i:Nat}{fits:EntV→Bool}(h:¬(s.answerS i fits).1=true):s.answerS i fits=(false,s):=by
 by_cases h1:s.step=1
 .cases hp:propF s.log (s.round:Int) fits with
  |none=>exact answerS_none h1 hp
  |some p=>
   unfold NodeS.answerS at h;rw[if_pos h1,hp] at h;exact absurd rfl h
 exact answerS_step h1
theorem holdS_false{s:NodeS}{i:Nat}(h:¬(s.holdS i).1=true):s.holdS i=(false,s):=by
 by_cases h1:¬s.step=1∧s.held=false
 .cases hp:s.holdF with
  |none=>exact holdS_none hp
  |some p=>
   rw[holdS_some h1.1 h1.2 hp] at h;exact absurd rfl h
 exact holdS_no h1
theorem giveUpS_false{s:NodeS}{i:Nat}(h:¬(s.giveUpS i).1=true):s.giveUpS i=(false,s):=by
 unfold NodeS.giveUpS at h ⊢;split
 .rename_i h1;rw[if_pos h1] at h;exact absurd rfl h
 rfl
theorem wait2S_false{s:NodeS}(h:¬s.wait2S.1=true):s.wait2S=(false,s):=by
 unfold NodeS.wait2S at h ⊢;split
 .rename_i h1;rw[if_pos h1] at h;exact absurd rfl h
 rfl
theorem wait3S_false{s:NodeS}(h:¬s.wait3S.1=true):s.wait3S=(false,s):=by
 unfold NodeS.wait3S at h ⊢;split
 .rename_i h1;rw[if_pos h1] at h;exact absurd rfl h
 rfl
theorem pair_true{r:Bool×NodeS}(h:r.1=true):r=(true,r.2):=by rw[←h]
def RunTo(dec:NodeS→Bool×NodeS)(i:Nat)(G:NodeS→Prop)(t:NodeS):Nat→NodeS→Prop
 |0,s=>G s∧(s.oneS dec i).1=false∧s=t
 |k+1,s=>G s∧(s.oneS dec i).1=true∧RunTo dec i G t k (s.oneS dec i).2
theorem goOn_any{B:Nat}{es:List Addr}{m:Int}{F R:Nat→Prop}{nb kb rb cb n i N k:Nat}{s0 t:NodeS}{w:World}(dec:NodeS→Bool×NodeS)(G:NodeS→Prop)(hfalse:∀s,¬(dec s).1=true→dec s=(false,s))(hGok:∀s,G s→StOk N s∧(s.sg i).length≤1000000000000)(hN:N≤10000000)
 (hdec:∀(F R:Nat→Prop) (s:NodeS) (W:World),NodeW B es m F R nb kb rb cb n i s W→G s→Calls prog 108 #[.pointer (some ⟨nb,0,none⟩)] W (RuleP B es m F R nb kb rb cb n i (dec s) W))
 (h:NodeW B es m F R nb kb rb cb n i s0 w) (hrun:RunTo dec i G t k s0):
 Calls prog 55 #[.pointer (some ⟨nb,0,none⟩)] w fun en w'=>en=.returned (.tuple #[])∧∃F' R',NodeW B es m F' R' nb kb rb cb n i t w'∧Goes F R w F' R' w':=by
 obtain⟨HDEC,HFA,HGO⟩:=hide3 hdec hfalse hGok;have HST:Hid (∃(s:NodeS) (F' R':Nat→Prop),NodeW B es m F' R' nb kb rb cb n i s w∧Goes F R w F' R' w∧RunTo dec i G t k s):=⟨s0,F,R,h,Goes.refl F R w,hrun⟩;clear hdec hfalse hGok h hrun;go_enter func55,ntmps55;go_wp2
 go_loopg [] k (fun q wr=>∃(s:NodeS) (F' R':Nat→Prop),NodeW B es m F' R' nb kb rb cb n i s wr∧Goes F R w F' R' wr∧RunTo dec i G t q s)
 case atStart=>exact HST.out
 obtain⟨s,F0,R0,hW0,hGW,hru⟩:=hrel;obtain⟨HW0,HGW,HRU⟩:=hide3 hW0 hGW hru;have hGs:G s:=by cases gk with|zero=>exact hru.1|succ q=>exact hru.1
 have HGS:=hide hGs;have HOK:=hide (HGO.out s hGs).1;have HSG:=hide (HGO.out s hGs).2;clear hW0 hGW hru hGs HST;by_cases h0:(dec s).1=true
 .have he0:=pair_true h0;obtain⟨s1,hs1⟩:∃z,z=(dec s).2:=⟨_,rfl⟩;rw[←hs1] at he0;have hone:s.oneS dec i=(true,s1):=by unfold NodeS.oneS;rw[if_pos h0,he0]
  have HONE:=hide hone;clear hone hs1 h0;go_wp2_with (first|(go_at_call 108;have hc:=HDEC.out _ _ s _ HW0.out HGS.out;rw[he0] at hc;refine hc.mono ?_;rintro e v1 ⟨rfl,F1,R1,hW1,hG1⟩;have HW1:=hide hW1;have HG1:=hide hG1;clear hW1 hG1 hc))
  obtain⟨q,hq,hrq⟩:∃q,gk=q+1∧RunTo dec i G t q s1:=by
   have hr:=HRU.out;cases gk with
   |zero=>have h1:=hr.2.1;rw[HONE.out] at h1;cases h1
   |succ q=>have h1:=hr.2.2;rw[HONE.out] at h1;exact⟨q,rfl,h1⟩
  go_roundg q
  case measure=>omega
  case rel=>exact⟨s1,F1,R1,HW1.out,HGW.out.trans (HG1.out),hrq⟩
 have he0:=HFA.out s h0;by_cases h1:(s.followS i).1=true
 .have he1:=pair_true h1;obtain⟨s1,hs1⟩:∃z,z=(s.followS i).2:=⟨_,rfl⟩;rw[←hs1] at he1;have hone:s.oneS dec i=(true,s1):=by unfold NodeS.oneS;rw[if_neg h0,if_pos h1,he1]
  have HONE:=hide hone;clear hone hs1 h0 h1;go_wp2_with (first|(go_at_call 108;have hc:=HDEC.out _ _ s _ HW0.out HGS.out;rw[he0] at hc;refine hc.mono ?_;rintro e v1 ⟨rfl,F1,R1,hW1,hG1⟩;have HW1:=hide hW1;have HG1:=hide hG1;clear hW1 hG1 hc)|(go_at_call 109;have hc:=followOthers_any HW1.out HOK.out hN HSG.out;rw[he1] at hc;refine hc.mono ?_;rintro e v2 ⟨rfl,F2,R2,hW2,hG2⟩;have HW2:=hide hW2;have HG2:=hide hG2;clear hW2 hG2 hc))
  obtain⟨q,hq,hrq⟩:∃q,gk=q+1∧RunTo dec i G t q s1:=by
   have hr:=HRU.out;cases gk with
   |zero=>have h1:=hr.2.1;rw[HONE.out] at h1;cases h1
   |succ q=>have h1:=hr.2.2;rw[HONE.out] at h1;exact⟨q,rfl,h1⟩
  go_roundg q
  case measure=>omega
  case rel=>exact⟨s1,F2,R2,HW2.out,HGW.out.trans ((HG1.out).trans HG2.out),hrq⟩
 have he1:=followS_false h1;by_cases h2:(s.answerS i newB).1=true
 .have he2:=pair_true h2;obtain⟨s1,hs1⟩:∃z,z=(s.answerS i newB).2:=⟨_,rfl⟩;rw[←hs1] at he2;have hone:s.oneS dec i=(true,s1):=by unfold NodeS.oneS;rw[if_neg h0,if_neg h1,if_pos h2,he2]
  have HONE:=hide hone;clear hone hs1 h0 h1 h2;go_wp2_with (first|(go_at_call 108;have hc:=HDEC.out _ _ s _ HW0.out HGS.out;rw[he0] at hc;refine hc.mono ?_;rintro e v1 ⟨rfl,F1,R1,hW1,hG1⟩;have HW1:=hide hW1;have HG1:=hide hG1;clear hW1 hG1 hc)|(go_at_call 109;have hc:=followOthers_any HW1.out HOK.out hN HSG.out;rw[he1] at hc;refine hc.mono ?_;rintro e v2 ⟨rfl,F2,R2,hW2,hG2⟩;have HW2:=hide hW2;have HG2:=hide hG2;clear hW2 hG2 hc)|(go_at_call 110;have hc:=answerNew_any HW2.out HOK.out hN HSG.out;rw[he2] at hc;refine hc.mono ?_;rintro e v3 ⟨rfl,F3,R3,hW3,hG3⟩;have HW3:=hide hW3;have HG3:=hide hG3;clear hW3 hG3 hc))
  obtain⟨q,hq,hrq⟩:∃q,gk=q+1∧RunTo dec i G t q s1:=by
   have hr:=HRU.out;cases gk with
   |zero=>have h1:=hr.2.1;rw[HONE.out] at h1;cases h1
   |succ q=>have h1:=hr.2.2;rw[HONE.out] at h1;exact⟨q,rfl,h1⟩
  go_roundg q
  case measure=>omega
  case rel=>exact⟨s1,F3,R3,HW3.out,HGW.out.trans (((HG1.out).trans HG2.out).trans HG3.out),hrq⟩
 have he2:=answerS_false h2;by_cases h3:(s.answerS i s.oldB).1=true
 .have he3:=pair_true h3;obtain⟨s1,hs1⟩:∃z,z=(s.answerS i s.oldB).2:=⟨_,rfl⟩;rw[←hs1] at he3;have hone:s.oneS dec i=(true,s1):=by unfold NodeS.oneS;rw[if_neg h0,if_neg h1,if_neg h2,if_pos h3,he3]
  have HONE:=hide hone;clear hone hs1 h0 h1 h2 h3;go_wp2_with (first|(go_at_call 108;have hc:=HDEC.out _ _ s _ HW0.out HGS.out;rw[he0] at hc;refine hc.mono ?_;rintro e v1 ⟨rfl,F1,R1,hW1,hG1⟩;have HW1:=hide hW1;have HG1:=hide hG1;clear hW1 hG1 hc)|(go_at_call 109;have hc:=followOthers_any HW1.out HOK.out hN HSG.out;rw[he1] at hc;refine hc.mono ?_;rintro e v2 ⟨rfl,F2,R2,hW2,hG2⟩;have HW2:=hide hW2;have HG2:=hide hG2;clear hW2 hG2 hc)|(go_at_call 110;have hc:=answerNew_any HW2.out HOK.out hN HSG.out;rw[he2] at hc;refine hc.mono ?_;rintro e v3 ⟨rfl,F3,R3,hW3,hG3⟩;have HW3:=hide hW3;have HG3:=hide hG3;clear hW3 hG3 hc)|(go_at_call 111;have hc:=answerOld_any HW3.out HOK.out hN HSG.out;rw[he3] at hc;refine hc.mono ?_;rintro e v4 ⟨rfl,F4,R4,hW4,hG4⟩;have HW4:=hide hW4;have HG4:=hide hG4;clear hW4 hG4 hc))
  obtain⟨q,hq,hrq⟩:∃q,gk=q+1∧RunTo dec i G t q s1:=by
   have hr:=HRU.out;cases gk with
   |zero=>have h1:=hr.2.1;rw[HONE.out] at h1;cases h1
   |succ q=>have h1:=hr.2.2;rw[HONE.out] at h1;exact⟨q,rfl,h1⟩
  go_roundg q
  case measure=>omega
  case rel=>exact⟨s1,F4,R4,HW4.out,HGW.out.trans ((((HG1.out).trans HG2.out).trans HG3.out).trans HG4.out),hrq⟩
 have he3:=answerS_false h3;by_cases h4:(s.holdS i).1=true
 .have he4:=pair_true h4;obtain⟨s1,hs1⟩:∃z,z=(s.holdS i).2:=⟨_,rfl⟩;rw[←hs1] at he4;have hone:s.oneS dec i=(true,s1):=by unfold NodeS.oneS;rw[if_neg h0,if_neg h1,if_neg h2,if_neg h3,if_pos h4,he4]
  have HONE:=hide hone;clear hone hs1 h0 h1 h2 h3 h4;go_wp2_with (first|(go_at_call 108;have hc:=HDEC.out _ _ s _ HW0.out HGS.out;rw[he0] at hc;refine hc.mono ?_;rintro e v1 ⟨rfl,F1,R1,hW1,hG1⟩;have HW1:=hide hW1;have HG1:=hide hG1;clear hW1 hG1 hc)|(go_at_call 109;have hc:=followOthers_any HW1.out HOK.out hN HSG.out;rw[he1] at hc;refine hc.mono ?_;rintro e v2 ⟨rfl,F2,R2,hW2,hG2⟩;have HW2:=hide hW2;have HG2:=hide hG2;clear hW2 hG2 hc)|(go_at_call 110;have hc:=answerNew_any HW2.out HOK.out hN HSG.out;rw[he2] at hc;refine hc.mono ?_;rintro e v3 ⟨rfl,F3,R3,hW3,hG3⟩;have HW3:=hide hW3;have HG3:=hide hG3;clear hW3 hG3 hc)|(go_at_call 111;have hc:=answerOld_any HW3.out HOK.out hN HSG.out;rw[he3] at hc;refine hc.mono ?_;rintro e v4 ⟨rfl,F4,R4,hW4,hG4⟩;have HW4:=hide hW4;have HG4:=hide hG4;clear hW4 hG4 hc)|(go_at_call 112;have hc:=hold_any HW4.out HOK.out hN HSG.out;rw[he4] at hc;refine hc.mono ?_;rintro e v5 ⟨rfl,F5,R5,hW5,hG5⟩;have HW5:=hide hW5;have HG5:=hide hG5;clear hW5 hG5 hc))
  obtain⟨q,hq,hrq⟩:∃q,gk=q+1∧RunTo dec i G t q s1:=by
   have hr:=HRU.out;cases gk with
   |zero=>have h1:=hr.2.1;rw[HONE.out] at h1;cases h1
   |succ q=>have h1:=hr.2.2;rw[HONE.out] at h1;exact⟨q,rfl,h1⟩
  go_roundg q
  case measure=>omega
  case rel=>exact⟨s1,F5,R5,HW5.out,HGW.out.trans (((((HG1.out).trans HG2.out).trans HG3.out).trans HG4.out).trans HG5.out),hrq⟩
 have he4:=holdS_false h4;by_cases h5:(s.giveUpS i).1=true
 .have he5:=pair_true h5;obtain⟨s1,hs1⟩:∃z,z=(s.giveUpS i).2:=⟨_,rfl⟩;rw[←hs1] at he5;have hone:s.oneS dec i=(true,s1):=by unfold NodeS.oneS;rw[if_neg h0,if_neg h1,if_neg h2,if_neg h3,if_neg h4,if_pos h5,he5]
  have HONE:=hide hone;clear hone hs1 h0 h1 h2 h3 h4 h5;go_wp2_with (first|(go_at_call 108;have hc:=HDEC.out _ _ s _ HW0.out HGS.out;rw[he0] at hc;refine hc.mono ?_;rintro e v1 ⟨rfl,F1,R1,hW1,hG1⟩;have HW1:=hide hW1;have HG1:=hide hG1;clear hW1 hG1 hc)|(go_at_call 109;have hc:=followOthers_any HW1.out HOK.out hN HSG.out;rw[he1] at hc;refine hc.mono ?_;rintro e v2 ⟨rfl,F2,R2,hW2,hG2⟩;have HW2:=hide hW2;have HG2:=hide hG2;clear hW2 hG2 hc)|(go_at_call 110;have hc:=answerNew_any HW2.out HOK.out hN HSG.out;rw[he2] at hc;refine hc.mono ?_;rintro e v3 ⟨rfl,F3,R3,hW3,hG3⟩;have HW3:=hide hW3;have HG3:=hide hG3;clear hW3 hG3 hc)|(go_at_call 111;have hc:=answerOld_any HW3.out HOK.out hN HSG.out;rw[he3] at hc;refine hc.mono ?_;rintro e v4 ⟨rfl,F4,R4,hW4,hG4⟩;have HW4:=hide hW4;have HG4:=hide hG4;clear hW4 hG4 hc)|(go_at_call 112;have hc:=hold_any HW4.out HOK.out hN HSG.out;rw[he4] at hc;refine hc.mono ?_;rintro e v5 ⟨rfl,F5,R5,hW5,hG5⟩;have HW5:=hide hW5;have HG5:=hide hG5;clear hW5 hG5 hc)|(go_at_call 113;have hc:=giveUp_any HW5.out HOK.out hN HSG.out;rw[he5] at hc;refine hc.mono ?_;rintro e v6 ⟨rfl,F6,R6,hW6,hG6⟩;have HW6:=hide hW6;have HG6:=hide hG6;clear hW6 hG6 hc))
  obtain⟨q,hq,hrq⟩:∃q,gk=q+1∧RunTo dec i G t q s1:=by
   have hr:=HRU.out;cases gk with
   |zero=>have h1:=hr.2.1;rw[HONE.out] at h1;cases h1
   |succ q=>have h1:=hr.2.2;rw[HONE.out] at h1;exact⟨q,rfl,h1⟩
  go_roundg q
  case measure=>omega
  case rel=>exact⟨s1,F6,R6,HW6.out,HGW.out.trans ((((((HG1.out).trans HG2.out).trans HG3.out).trans HG4.out).trans HG5.out).trans HG6.out),hrq⟩
 have he5:=giveUpS_false h5;by_cases h6:(s.wait2S).1=true
 .have he6:=pair_true h6;obtain⟨s1,hs1⟩:∃z,z=(s.wait2S).2:=⟨_,rfl⟩;rw[←hs1] at he6;have hone:s.oneS dec i=(true,s1):=by unfold NodeS.oneS;rw[if_neg h0,if_neg h1,if_neg h2,if_neg h3,if_neg h4,if_neg h5,if_pos h6,he6]
  have HONE:=hide hone;clear hone hs1 h0 h1 h2 h3 h4 h5 h6;go_wp2_with (first|(go_at_call 108;have hc:=HDEC.out _ _ s _ HW0.out HGS.out;rw[he0] at hc;refine hc.mono ?_;rintro e v1 ⟨rfl,F1,R1,hW1,hG1⟩;have HW1:=hide hW1;have HG1:=hide hG1;clear hW1 hG1 hc)|(go_at_call 109;have hc:=followOthers_any HW1.out HOK.out hN HSG.out;rw[he1] at hc;refine hc.mono ?_;rintro e v2 ⟨rfl,F2,R2,hW2,hG2⟩;have HW2:=hide hW2;have HG2:=hide hG2;clear hW2 hG2 hc)|(go_at_call 110;have hc:=answerNew_any HW2.out HOK.out hN HSG.out;rw[he2] at hc;refine hc.mono ?_;rintro e v3 ⟨rfl,F3,R3,hW3,hG3⟩;have HW3:=hide hW3;have HG3:=hide hG3;clear hW3 hG3 hc)|(go_at_call 111;have hc:=answerOld_any HW3.out HOK.out hN HSG.out;rw[he3] at hc;refine hc.mono ?_;rintro e v4 ⟨rfl,F4,R4,hW4,hG4⟩;have HW4:=hide hW4;have HG4:=hide hG4;clear hW4 hG4 hc)|(go_at_call 112;have hc:=hold_any HW4.out HOK.out hN HSG.out;rw[he4] at hc;refine hc.mono ?_;rintro e v5 ⟨rfl,F5,R5,hW5,hG5⟩;have HW5:=hide hW5;have HG5:=hide hG5;clear hW5 hG5 hc)|(go_at_call 113;have hc:=giveUp_any HW5.out HOK.out hN HSG.out;rw[he5] at hc;refine hc.mono ?_;rintro e v6 ⟨rfl,F6,R6,hW6,hG6⟩;have HW6:=hide hW6;have HG6:=hide hG6;clear hW6 hG6 hc)|(go_at_call 114;have hc:=waitForPrevotes_any HW6.out HOK.out hN HSG.out;rw[he6] at hc;refine hc.mono ?_;rintro e v7 ⟨rfl,F7,R7,hW7,hG7⟩;have HW7:=hide hW7;have HG7:=hide hG7;clear hW7 hG7 hc))
  obtain⟨q,hq,hrq⟩:∃q,gk=q+1∧RunTo dec i G t q s1:=by
   have hr:=HRU.out;cases gk with
   |zero=>have h1:=hr.2.1;rw[HONE.out] at h1;cases h1
   |succ q=>have h1:=hr.2.2;rw[HONE.out] at h1;exact⟨q,rfl,h1⟩
  go_roundg q
  case measure=>omega
  case rel=>exact⟨s1,F7,R7,HW7.out,HGW.out.trans (((((((HG1.out).trans HG2.out).trans HG3.out).trans HG4.out).trans HG5.out).trans HG6.out).trans HG7.out),hrq⟩
 have he6:=wait2S_false h6;by_cases h7:(s.wait3S).1=true
 .have he7:=pair_true h7;obtain⟨s1,hs1⟩:∃z,z=(s.wait3S).2:=⟨_,rfl⟩;rw[←hs1] at he7;have hone:s.oneS dec i=(true,s1):=by unfold NodeS.oneS;rw[if_neg h0,if_neg h1,if_neg h2,if_neg h3,if_neg h4,if_neg h5,if_neg h6,he7]
  have HONE:=hide hone;clear hone hs1 h0 h1 h2 h3 h4 h5 h6 h7;go_wp2_with (first|(go_at_call 108;have hc:=HDEC.out _ _ s _ HW0.out HGS.out;rw[he0] at hc;refine hc.mono ?_;rintro e v1 ⟨rfl,F1,R1,hW1,hG1⟩;have HW1:=hide hW1;have HG1:=hide hG1;clear hW1 hG1 hc)|(go_at_call 109;have hc:=followOthers_any HW1.out HOK.out hN HSG.out;rw[he1] at hc;refine hc.mono ?_;rintro e v2 ⟨rfl,F2,R2,hW2,hG2⟩;have HW2:=hide hW2;have HG2:=hide hG2;clear hW2 hG2 hc)|(go_at_call 110;have hc:=answerNew_any HW2.out HOK.out hN HSG.out;rw[he2] at hc;refine hc.mono ?_;rintro e v3 ⟨rfl,F3,R3,hW3,hG3⟩;have HW3:=hide hW3;have HG3:=hide hG3;clear hW3 hG3 hc)|(go_at_call 111;have hc:=answerOld_any HW3.out HOK.out hN HSG.out;rw[he3] at hc;refine hc.mono ?_;rintro e v4 ⟨rfl,F4,R4,hW4,hG4⟩;have HW4:=hide hW4;have HG4:=hide hG4;clear hW4 hG4 hc)|(go_at_call 112;have hc:=hold_any HW4.out HOK.out hN HSG.out;rw[he4] at hc;refine hc.mono ?_;rintro e v5 ⟨rfl,F5,R5,hW5,hG5⟩;have HW5:=hide hW5;have HG5:=hide hG5;clear hW5 hG5 hc)|(go_at_call 113;have hc:=giveUp_any HW5.out HOK.out hN HSG.out;rw[he5] at hc;refine hc.mono ?_;rintro e v6 ⟨rfl,F6,R6,hW6,hG6⟩;have HW6:=hide hW6;have HG6:=hide hG6;clear hW6 hG6 hc)|(go_at_call 114;have hc:=waitForPrevotes_any HW6.out HOK.out hN HSG.out;rw[he6] at hc;refine hc.mono ?_;rintro e v7 ⟨rfl,F7,R7,hW7,hG7⟩;have HW7:=hide hW7;have HG7:=hide hG7;clear hW7 hG7 hc)|(go_at_call 115;have hc:=waitForPrecommits_any HW7.out HOK.out hN HSG.out;rw[he7] at hc;refine hc.mono ?_;rintro e v8 ⟨rfl,F8,R8,hW8,hG8⟩;have HW8:=hide hW8;have HG8:=hide hG8;clear hW8 hG8 hc))
  obtain⟨q,hq,hrq⟩:∃q,gk=q+1∧RunTo dec i G t q s1:=by
   have hr:=HRU.out;cases gk with
   |zero=>have h1:=hr.2.1;rw[HONE.out] at h1;cases h1
   |succ q=>have h1:=hr.2.2;rw[HONE.out] at h1;exact⟨q,rfl,h1⟩
  go_roundg q
  case measure=>omega
  case rel=>exact⟨s1,F8,R8,HW8.out,HGW.out.trans ((((((((HG1.out).trans HG2.out).trans HG3.out).trans HG4.out).trans HG5.out).trans HG6.out).trans HG7.out).trans HG8.out),hrq⟩
 have he7:=wait3S_false h7;have hone:(s.oneS dec i).1=false:=by unfold NodeS.oneS;rw[if_neg h0,if_neg h1,if_neg h2,if_neg h3,if_neg h4,if_neg h5,if_neg h6,he7]
 have HT:Hid (s=t):=by
  have hr:=HRU.out;cases gk with
  |zero=>exact hr.2.2
  |succ q=>have h1:=hr.2.1;rw[hone] at h1;cases h1
 clear hone h0 h1 h2 h3 h4 h5 h6 h7;go_wp2_with (first|(go_at_call 108;have hc:=HDEC.out _ _ s _ HW0.out HGS.out;rw[he0] at hc;refine hc.mono ?_;rintro e v1 ⟨rfl,F1,R1,hW1,hG1⟩;have HW1:=hide hW1;have HG1:=hide hG1;clear hW1 hG1 hc)|(go_at_call 109;have hc:=followOthers_any HW1.out HOK.out hN HSG.out;rw[he1] at hc;refine hc.mono ?_;rintro e v2 ⟨rfl,F2,R2,hW2,hG2⟩;have HW2:=hide hW2;have HG2:=hide hG2;clear hW2 hG2 hc)|(go_at_call 110;have hc:=answerNew_any HW2.out HOK.out hN HSG.out;rw[he2] at hc;refine hc.mono ?_;rintro e v3 ⟨rfl,F3,R3,hW3,hG3⟩;have HW3:=hide hW3;have HG3:=hide hG3;clear hW3 hG3 hc)|(go_at_call 111;have hc:=answerOld_any HW3.out HOK.out hN HSG.out;rw[he3] at hc;refine hc.mono ?_;rintro e v4 ⟨rfl,F4,R4,hW4,hG4⟩;have HW4:=hide hW4;have HG4:=hide hG4;clear hW4 hG4 hc)|(go_at_call 112;have hc:=hold_any HW4.out HOK.out hN HSG.out;rw[he4] at hc;refine hc.mono ?_;rintro e v5 ⟨rfl,F5,R5,hW5,hG5⟩;have HW5:=hide hW5;have HG5:=hide hG5;clear hW5 hG5 hc)|(go_at_call 113;have hc:=giveUp_any HW5.out HOK.out hN HSG.out;rw[he5] at hc;refine hc.mono ?_;rintro e v6 ⟨rfl,F6,R6,hW6,hG6⟩;have HW6:=hide hW6;have HG6:=hide hG6;clear hW6 hG6 hc)|(go_at_call 114;have hc:=waitForPrevotes_any HW6.out HOK.out hN HSG.out;rw[he6] at hc;refine hc.mono ?_;rintro e v7 ⟨rfl,F7,R7,hW7,hG7⟩;have HW7:=hide hW7;have HG7:=hide hG7;clear hW7 hG7 hc)|(go_at_call 115;have hc:=waitForPrecommits_any HW7.out HOK.out hN HSG.out;rw[he7] at hc;refine hc.mono ?_;rintro e v8 ⟨rfl,F8,R8,hW8,hG8⟩;have HW8:=hide hW8;have HG8:=hide hG8;clear hW8 hG8 hc))
 have HEND:Hid (∃F' R',NodeW B es m F' R' nb kb rb cb n i t v8∧Goes F R w F' R' v8):=⟨F8,R8,by rw[←HT.out];exact HW8.out,HGW.out.trans ((((((((HG1.out).trans HG2.out).trans HG3.out).trans HG4.out).trans HG5.out).trans HG6.out).trans HG7.out).trans HG8.out)⟩;first|exact bodyPost_end (v:=.tuple #[]) (by simp[results,results55]) rfl ⟨rfl,HEND.out⟩|exact bodyPost_ret (v:=.tuple #[]) (by simp[results,results55]) rfl ⟨rfl,HEND.out⟩
theorem indexFunc_nil(f:Value)(w:World):Calls prog 141 #[.slice none 0 0,f] w fun e w'=>e=.returned (.int .i64 (-1))∧w'=w:=by
 go_enter func141,ntmps141;go_wp2
 go_loop [5,8] (fun _ k=>k=.int .i64 0) (fun _ _=>0)
 case atStart=>rfl
 subst hrel;go_wp2;go_ret;exact⟨rfl,rfl⟩
theorem deleteFunc_nil(f:Value)(w:World):Calls prog 104 #[.slice none 0 0,f] w (DelP (.slice none 0 0) [] w):=by
 have HI:=hide (indexFunc_nil f w);go_enter func104,ntmps104;go_wp2_with fail
 refine HI.out.mono ?_;rintro e w2 ⟨rfl,hw2⟩;have hw3:=hw2.symm;clear hw2;subst hw3;go_wp2;go_ret;exact⟨_,rfl,World.ownsRow_nil _ _ _ _,fun g h=>h,⟨rfl,rfl,rfl,Nat.le_refl _,fun _ _ _=>rfl⟩⟩
def nodeV0:NodeV:=⟨[],.slice none 0 0,.slice none 0 0,.slice none 0 0,.slice none 0 0,.slice none 0 0⟩
def nodeS0(y:Nat→Int)(sg:Nat→List ByteArray):NodeS:=⟨y,[],[],[],[],0,⟨#[]⟩,0,⟨#[]⟩,0,0,false,false,false,false,0,[],0,[],sg⟩
theorem Tryz.buildNode(kb cb:Nat)(y:Nat→Int)(sg:Nat→List ByteArray)(W:World):(Instr.build 135 #[(0,.pointer (some ⟨kb,0,none⟩)),(1,.agg (regA y)),(11,.agg #[.chan (some cb)])]).run prog W=.ok (.agg (nodeA kb cb nodeV0 (nodeS0 y sg))) W:=by kernel_rfl
theorem Tryz.boxNode(kb cb:Nat)(y:Nat→Int)(sg:Nat→List ByteArray)(W:World):(Instr.box 135 (.agg (nodeA kb cb nodeV0 (nodeS0 y sg)))).run prog W=.ok (.pointer (some ⟨W.heap.size,0,none⟩)) (W.alloc (.cells (nodeA kb cb nodeV0 (nodeS0 y sg)) 135)):=by kernel_rfl
section
variable{P:Program}
theorem yields_build3{ops:Array Oper}{S:World→Prop}{op:Oper}{a:Act}(hw:Region.wanted op (yielded ops a.tmps)=true)(t:TypeId)(i0 i1 i2:Nat)(x0 x1 x2:Operand)(ho:op.op=.build t #[(i0,x0),(i1,x1),(i2,x2)])(v0 v1 v2 v:Value)
 (h0:a.eval x0=v0) (h1:a.eval x1=v1) (h2:a.eval x2=v2) (hr:∀W,(Instr.build t #[(i0,v0),(i1,v1),(i2,v2)]).run P W=.ok v W):YieldsIf P ops S op v a:=
 .inl ⟨hw,fun w _=>by
  unfold execOp;simp only[ho,List.map_toArray,List.map_cons,List.map_nil,h0,h1,h2,hr,Sem.run_bind,Sem.run_pure,Result.andThen_ok]⟩
theorem wp_box_run{op:Oper}{a:Act}{w w':World}{K:Act→World→Prop}{Q:Exit→Act→World→Prop}(t:TypeId)(x:Operand)(ho:op.op=.box t x)(vx v:Value)(hx:a.eval x=vx)(hr:(Instr.box t vx).run P w=.ok v w')(h:K (a.put op.dst v) w'):op.wp P a w K Q:=by
 unfold Oper.wp execOp;simp only[ho,hx,hr,Sem.run_bind,Sem.run_pure,Result.andThen_ok];exact h
end
theorem genN_yes(g:Nat→Int)(p:Option Addr)(n cap:Nat)(b:Addr)(y:Nat→Int)(w:World)(hl:Lies w w.heap.size p n (fun i=>.int .i64 (g i)))(hg:w.cell? ⟨1,0,none⟩=some (.iface 294 (.pointer (some b))))(h:genR g n=(y,true)):
 Calls prog 52 #[.slice p n cap] w fun e w'=>e=.returned (.tuple #[.agg (regA y),.nilIface])∧Below w.heap.size w w':=by
 have:=genP_any g p n cap b w hl hg;rw[h] at this;exact this
def NewP(B:Nat)(es:List Addr)(m:Int)(R:Nat→Prop)(kb rb n i:Nat)(t:NodeS)(w:World)(e:Ending)(w':World):Prop:=
 ∃nb cb F' R',e=.returned (.tuple #[.pointer (some ⟨nb,0,none⟩),.nilIface])∧NodeW B es m F' R' nb kb rb cb n i t w'∧Goes (fun _=>False) R w F' R' w'
theorem nodeS0_ok{y:Nat→Int}{sg:Nat→List ByteArray}(hx:Dom y)(hp:0<sumTo y 8):StOk 0 ((nodeS0 y sg).nextLog []):=
 ⟨hx,hp,Nat.zero_le _,Nat.zero_le _,Nat.le_refl _,Nat.le_refl _,Nat.le_refl _,Nat.le_refl _,Nat.zero_le _,fun e he=>(by cases he),fun e he=>(by cases he),Nat.zero_le _,fun e he=>(by cases he),Nat.zero_le _⟩
theorem new_yes{B:Nat}{es:List Addr}{m:Int}{R:Nat→Prop}{kb rb n i N k:Nat}{sg:Nat→List ByteArray}{t:NodeS}{w:World}(dec:NodeS→Bool×NodeS)(G:NodeS→Prop)(hfalse:∀s,¬(dec s).1=true→dec s=(false,s))(hGok:∀s,G s→StOk N s∧(s.sg i).length≤1000000000000)(hN:N≤10000000)
 (hdec:∀(nb cb:Nat) (F R:Nat→Prop) (s:NodeS) (W:World),NodeW B es m F R nb kb rb cb n i s W→G s→Calls prog 108 #[.pointer (some ⟨nb,0,none⟩)] W (RuleP B es m F R nb kb rb cb n i (dec s) W))
 (g:Nat→Int) (p:Option Addr) (q cap:Nat) (y:Nat→Int) (hl:Lies w w.heap.size p q (fun j=>.int .i64 (g j))) (hgen:genR g q=(y,true)) (hx:Dom y) (hp:0<sumTo y 8)
 (hring:RingI R rb n sg w) (hkey:KeyAt w kb rb i) (hin:i<n) (hkr:¬R kb) (hrl:∀k,R k→B≤k∧k<w.heap.size) (hglob:GlobAt B es m w) (hbl:B≤w.heap.size) (hsg:(sg i).length≤1000000000000)
 (hrun:RunTo dec i G t k (((nodeS0 y sg).nextLog []).beginR i 0)):
 Calls prog 12 #[.pointer (some ⟨kb,0,none⟩),.slice p q cap] w (NewP B es m R kb rb n i t w):=by
 obtain⟨a0,he0⟩:=hglob.sent.at 0 (by omega);obtain⟨HGEN,HRI,HKE,HKR,HRL,HGL,HBL,HSG⟩:=hide8 (genN_yes g p q cap a0 y w hl (hglob.sent.cell 0 _ _ rfl he0) hgen) hring hkey hkr hrl hglob hbl hsg;obtain⟨HRUN,HDEC,HFA,HGO,HX,HP⟩:=hide6 hrun hdec hfalse hGok hx hp;have z0:=regA_zero;clear hl hgen hring hkey hkr hrl hglob hbl hsg hrun hdec hfalse hGok hx hp he0;go_enter func12,ntmps12;go_wp2_with fail
 refine HGEN.out.mono ?_;rintro e w1 ⟨rfl,hb1⟩;have HB1:=hide hb1;clear hb1 HGEN;go_wp2_with (first|(refine wpList_store_reg rfl 116 _ _ rfl w1.heap.size y rfl rfl 116 (regA reg0) (heap_alloc_new w1 _) (regA_size _) Tryz.sizeRegistry ?_;intro w2 hq2 ho2;have HQ2:=hide hq2;have HB2:Hid (Below w.heap.size w w2):=(HB1.out.alloc HB1.out.size _).trans (ho2.below HB1.out.size);clear hq2 ho2)|fail)
 refine rgd (S:=fun X=>Below w2.heap.size w2 X) ((Below.refl _ w2).drew) (fun hH=>?_);refine takeN [(0,some 17,pA kb 0),(1,some 18,.agg (regA y))] _ _ hH (by repeat(first|exact True.intro|((first|refine tkc rfl rfl (yields_load_reg (by rfl) 116 _ rfl w1.heap.size rfl 116 y _ (fun w h=>blk HQ2.out h) underlying116 rfl Tryz.sizeRegistry) ?_|(refine tkc rfl rfl (Or.inl ⟨by rfl,fun x h=>?_⟩) ?_;focus(go_simp;done)));simp only[AP]))) ?_;simp only[takesA,AP,pA];refine rdy1 2 (fun K hK=>?_);go_simp;refine(boxNew_any _).mono ?_;rintro e X2 ⟨cb,hcb,rfl,hch,hb2⟩;have hX2:Below w2.heap.size w2 X2:=(Below.refl _ w2).drew.trans (hb2.mono (Nat.le_refl _));have hcbw:w2.heap.size≤cb:=hcb;clear hb2 hcb;refine hK.out _ _ hX2 (fun hH=>?_);clear hK K
 try simp only[AP,AQ]
 refine takeN [(3,some 20,.agg (nodeA kb cb nodeV0 (nodeS0 y sg)))] _ _ hH (by repeat(first|exact True.intro|(refine tkc rfl rfl (yields_build3 (by rfl) 135 0 1 11 _ _ _ rfl (.pointer (some ⟨kb,0,none⟩)) (.agg (regA y)) (.agg #[.chan (some cb)]) _ rfl rfl rfl (fun W=>Tryz.buildNode kb cb y sg W)) ?_;simp only[AP]))) ?_;simp only[takesA,AP];refine rdy1 4 (fun K hK=>?_);rw[if_pos (by rfl)];refine wp_box_run 135 _ rfl (.agg (nodeA kb cb nodeV0 (nodeS0 y sg))) _ rfl (Tryz.boxNode kb cb y sg X2) ?_;obtain⟨X3,hX3e⟩:=gen (X2.alloc (.cells (nodeA kb cb nodeV0 (nodeS0 y sg)) 135));have hb3:Below X2.heap.size X2 X3:=by rw[hX3e];exact(Below.refl _ X2).alloc (Nat.le_refl _) _
 have hq3:X3.heap[X2.heap.size]? =some (.cells (nodeA kb cb nodeV0 (nodeS0 y sg)) 135 (0,0)):=by rw[hX3e];exact heap_alloc_new X2 _
 rw[←hX3e];have hX3:Below w2.heap.size w2 X3:=hX2.trans (hb3.mono hX2.size);refine hK.out _ _ hX3 (fun hH=>?_);clear hK K hX3e
 try simp only[AP,AQ]
 refine takeM [(5,some 8,pA X2.heap.size 0)] _ _ hH ?_;simp only[takesA,AP,pA];refine dnr ?_;obtain⟨nb,hnb⟩:=gen X2.heap.size;rw[←hnb] at hq3;rw[←hnb];have hnbw:w.heap.size≤nb:=by rw[hnb];exact Nat.le_trans HB2.out.size hX2.size
 have HBX:Hid (Below w.heap.size w X3):=HB2.out.trans (hX3.mono HB2.out.size);have hcbx:w.heap.size≤cb:=Nat.le_trans HB2.out.size hcbw;have hch3:ChanAt X3 cb []:=by
  obtain⟨x1,x2,hc⟩:=hch;exact⟨x1,x2,(hb3.block cb (row_lt0 hc)).trans hc⟩
 have hA3:NodeAt nb kb cb nodeV0 (nodeS0 y sg) X3:=⟨hq3,rfl,World.ownsRow_nil _ _ _ _,fun d hd=>(by cases hd),World.ownsRow_nil _ _ _ _,World.ownsRow_nil _ _ _ _,World.ownsRow_nil _ _ _ _,World.ownsRow_nil _ _ _ _,hch3,fun g h=>(by cases h),fun d hd=>(by cases hd),List.Pairwise.nil⟩;have hfoot:∀k,nodeV0.foot nb cb k→k=nb∨k=cb:=fun k hk=>by
  rcases hk with h|h|h|h|h|h|h|⟨d,hd,h⟩
  .exact Or.inl h
  .exact Or.inr h
  all_goals first|cases h|cases hd
 have hW3:NodeW B es m (fun k=>k=nb∨k=cb) R nb kb rb cb n i (nodeS0 y sg) X3:=by
  refine⟨⟨nodeV0,hA3,hfoot⟩,HRI.out.frame fun k hk=>HBX.out.block k (HRL.out k hk).2,HKE.out.keep (HBX.out.block kb HKE.out.lt),hin,fun k hk hR=>?_,fun hk=>?_,HKR.out,fun k hk=>?_,fun k hk=>⟨(HRL.out k hk).1,Nat.lt_of_lt_of_le (HRL.out k hk).2 HBX.out.size⟩,HGL.out.below HBL.out HBX.out,Nat.le_trans HBL.out HBX.out.size⟩
  .have:=(HRL.out k hR).2
   rcases hk with rfl|rfl<;>omega
  .have:=HKE.out.lt
   rcases hk with h|h<;>omega
  rcases hk with rfl|rfl
  .exact ⟨Nat.le_trans HBL.out hnbw,row_lt0 hq3⟩
  exact⟨Nat.le_trans HBL.out hcbx,chan_lt hch3⟩
 have HG3:Hid (Goes (fun _=>False) R w (fun k=>k=nb∨k=cb) R X3):=by
  refine⟨fun k hk=>?_,fun k hk=>Or.inl hk,⟨HBX.out.os,HBX.out.tape,HBX.out.output,HBX.out.size,fun k hk _=>HBX.out.block k hk⟩⟩;rcases hk with rfl|rfl
  .exact Or.inr hnbw
  exact Or.inr hcbx
 have HBH:=hide (beginHeight_raw (N:=0) [] hW3 hA3 hfoot (fun W b0 _ _=>deleteFunc_nil _ W) (nodeS0_ok HX.out HP.out) (by omega) HSG.out);clear hW3 hA3 hfoot hch3 hch hcbx hcbw hnbw hb3 hq3 hX3 hX2 hnb;go_wp2_with fail
 refine HBH.out.mono ?_;rintro e w5 ⟨rfl,F5,R5,hW5,hG5⟩;have hW5':NodeW B es m F5 R5 nb kb rb cb n i (((nodeS0 y sg).nextLog []).beginR i 0) w5:=hW5;obtain⟨HG5,HGN⟩:=hide2 hG5 (goOn_any dec G HFA.out HGO.out hN (HDEC.out nb cb) hW5' HRUN.out);clear hW5 hW5' hG5 HBH;go_wp2_with fail
 refine HGN.out.mono ?_;rintro e w6 ⟨rfl,F6,R6,hW6,hG6⟩;have HEND:Hid (NewP B es m R kb rb n i t w (.returned (.tuple #[.pointer (some ⟨nb,0,none⟩),.nilIface])) w6):=⟨nb,cb,F6,R6,rfl,hW6,HG3.out.trans (HG5.out.trans hG6)⟩;clear hW6 hG6 HGN;go_wp2;go_ret2;exact HEND.out
theorem Tryz.sizeState:(prog.info? 61).map (·.size)=some 7:=by kernel_rfl
def stateA(s:NodeS):Array Value:=#[.int .i64 (s.height:Int),.int .i64 (s.round:Int),.int .i64 (s.step:Int),.int .i64 s.lr,.int .i64 s.vr,.string s.lv,.string s.vv]
theorem state_any(nb kb cb:Nat)(V:NodeV)(s:NodeS)(w:World)(hA:NodeAt nb kb cb V s w):
 Calls prog 20 #[.pointer (some ⟨nb,0,none⟩)] w fun e w'=>e=.returned (.agg (stateA s))∧Below w.heap.size w w':=by
 obtain⟨w1,hw1⟩:=gen (w.alloc (.cells #[.int .i64 0,.int .i64 0,.int .i64 0,.int .i64 0,.int .i64 0,.string ⟨#[]⟩,.string ⟨#[]⟩] 61));have HB1:Hid (Below w.heap.size w w1):=by rw[hw1];exact(Below.refl _ w).alloc (Nat.le_refl _) _
 have HQ1:Hid (w1.heap[w.heap.size]? =some (.cells #[.int .i64 0,.int .i64 0,.int .i64 0,.int .i64 0,.int .i64 0,.string ⟨#[]⟩,.string ⟨#[]⟩] 61 (0,0))):=by rw[hw1];exact heap_alloc_new w _
 obtain⟨HA,HA1,HW1⟩:=hide3 hA (hA.below HB1.out) hw1;clear hA hw1;go_enter func20,ntmps20;go_wp2_with fail
 rw[←HW1.out];refine rgd (S:=fun W=>NodeAt nb kb cb V s W) (HA1.out.frame fun _ _=>rfl) (fun hH=>?_);refine takeN [(0,some 3,pA nb 0),(2,some 5,pA nb 0),(3,some 6,pA nb 0),(4,some 7,pA nb 43),(5,some 8,pA nb 43),(6,some 9,.int .i64 (s.round:Int)),(7,some 10,pA nb 0),(8,some 11,pA nb 0),(9,some 12,pA nb 43),(10,some 13,pA nb 44),(11,some 14,.int .i64 (s.step:Int)),(12,some 15,pA nb 0),(13,some 16,pA nb 0),(14,some 17,pA nb 39),(15,some 18,pA nb 39),(16,some 19,.int .i64 s.lr),(17,some 20,pA nb 0),(18,some 21,pA nb 0),(19,some 22,pA nb 41),(20,some 23,pA nb 41),(21,some 24,.int .i64 s.vr),(22,some 25,pA nb 0),(23,some 26,pA nb 0),(24,some 27,pA nb 39),(25,some 28,pA nb 40),(26,some 29,.string s.lv),(27,some 30,pA nb 0),(28,some 31,pA nb 0),(29,some 32,pA nb 41),(30,some 33,pA nb 42),(31,some 34,.string s.vv)] _ _ hH (by repeat(first|exact True.intro|(refine tkc rfl rfl (Or.inl ⟨by rfl,fun x h=>by have f0:x.cell? ⟨nb,43,none⟩=some (.int .i64 (s.round:Int)):=h.cell 43 rfl;have f1:x.cell? ⟨nb,44,none⟩=some (.int .i64 (s.step:Int)):=h.cell 44 rfl;have f2:x.cell? ⟨nb,39,none⟩=some (.int .i64 s.lr):=h.cell 39 rfl;have f3:x.cell? ⟨nb,41,none⟩=some (.int .i64 s.vr):=h.cell 41 rfl;have f4:x.cell? ⟨nb,40,none⟩=some (.string s.lv):=h.cell 40 rfl;have f5:x.cell? ⟨nb,42,none⟩=some (.string s.vv):=h.cell 42 rfl;go_simp⟩) ?_;simp only[AP]))) ?_;simp only[takesA,AP,pA];refine rdy1 1 (fun K hK=>?_);go_simp;refine(height_any nb kb cb V s _ hH).mono ?_;rintro e w4 ⟨rfl,hw4⟩;have hw5:=hw4.symm;clear hw4;subst hw5;refine hK.out _ _ hH (fun hH=>?_);clear hK K
 try simp only[AP,AQ]
 refine takeM [(32,some 35,.agg #[.int .i64 (s.height:Int),.int .i64 (s.round:Int),.int .i64 (s.step:Int),.int .i64 s.lr,.int .i64 s.vr,.string s.lv,.string s.vv])] _ _ hH ?_;simp only[takesA,AP];refine rdy1 33 (fun K hK=>?_);rw[if_pos (by rfl)];refine wp_store_midG 61 _ _ rfl w.heap.size 0 #[.int .i64 (s.height:Int),.int .i64 (s.round:Int),.int .i64 (s.step:Int),.int .i64 s.lr,.int .i64 s.vr,.string s.lv,.string s.vv] rfl rfl 61 #[.int .i64 0,.int .i64 0,.int .i64 0,.int .i64 0,.int .i64 0,.string ⟨#[]⟩,.string ⟨#[]⟩] HQ1.out (by simp) (by simp[Value.oneCell']) Tryz.sizeState ?_;intro X hqX hoX;have HQX:Hid (X.heap[w.heap.size]? =some (.cells #[.int .i64 (s.height:Int),.int .i64 (s.round:Int),.int .i64 (s.step:Int),.int .i64 s.lr,.int .i64 s.vr,.string s.lv,.string s.vv] 61 (0,0))):=hqX;have HBX:Hid (Below w.heap.size w X):=HB1.out.drew.trans (hoX.below (Nat.le_refl _));refine hK.out _ _ (HA.out.below HBX.out) (fun hH=>?_);clear hK K hH hqX hoX;refine dnr ?_;go_wp2;exact bodyPost_ret (v:=.agg (stateA s)) (results_rowG1 results20 _ _ w.heap.size 61 _ _ rfl HQX.out underlying61 rfl Tryz.sizeState) rfl ⟨rfl,HBX.out⟩
def SentP(B:Nat)(es:List Addr)(m:Int)(F R:Nat→Prop)(nb kb rb n i:Nat)(s:NodeS)(w:World)(e:Ending)(w':World):Prop:=
 ∃v cb' F',e=.returned v∧w'.ownsRow w.heap.size 9 1 v s.out.length (s.out.map .string)∧NodeW B es m F' R nb kb rb cb' n i { s with out:=[] } w'∧Goes F R w F' R w'∧∀g,v.ownBlock=some g→¬F' g
theorem NodeAt.sent{nb kb cb nc:Nat}{V:NodeV}{s:NodeS}{w w':World}(hA:NodeAt nb kb cb V s w)(hb:w'.heap[nb]? =some (.cells (nodeA kb nc V { s with out:=[] }) 135 (0,0)))(hch:ChanAt w' nc [])(hs:∀k,k<w.heap.size→k≠cb→k≠nb→w'.heap[k]? =w.heap[k]?):NodeAt nb kb nc V { s with out:=[] } w':=by
 obtain⟨n1,n2,n3,n4,n5,n6⟩:=hA.rows;exact⟨hb,hA.eds,own_blocks hA.dec fun g e hg=>hs g hg (fun x=>own_nc hA.dec hA.chan (x▸e)) (fun x=>n1 (x▸e)),fun d hd=>own_blocks (hA.cert d hd) fun g e hg=>hs g hg (fun x=>own_nc (hA.cert d hd) hA.chan (x▸e)) (fun x=>n6 d hd (x▸e)),own_blocks hA.wait fun g e hg=>hs g hg (fun x=>own_nc hA.wait hA.chan (x▸e)) (fun x=>n2 (x▸e)),own_blocks hA.log fun g e hg=>hs g hg (fun x=>own_nc hA.log hA.chan (x▸e)) (fun x=>n3 (x▸e)),own_blocks hA.ahead fun g e hg=>hs g hg (fun x=>own_nc hA.ahead hA.chan (x▸e)) (fun x=>n4 (x▸e)),own_blocks hA.tims fun g e hg=>hs g hg (fun x=>own_nc hA.tims hA.chan (x▸e)) (fun x=>n5 (x▸e)),hch,hA.alog,hA.awc,hA.acc⟩
theorem sent_any{B:Nat}{es:List Addr}{m:Int}{F R:Nat→Prop}{nb kb rb cb n i:Nat}{s:NodeS}{w:World}(h:NodeW B es m F R nb kb rb cb n i s w)(hlen:s.out.length≤100):
 Calls prog 31 #[.pointer (some ⟨nb,0,none⟩)] w (SentP B es m F R nb kb rb n i s w):=by
 obtain⟨V,hA,hf⟩:=h.node;obtain⟨HT,HH,HA,HF⟩:=hide4 (take_any nb 53 cb (nodeA kb cb V s) 135 s.out w hlen hA.blk rfl hA.chan) h hA hf;clear h hA hf;go_enter func31,ntmps31;go_wp2_with fail
 refine HT.out.mono ?_;rintro e w2 ⟨v,nc,rfl,hown,hnc,hch,hvn,hb2,hos,htp,hou,hsz,hs⟩;have hN:=HA.out.sent hb2 hch hs;have HEND:Hid (SentP B es m F R nb kb rb n i s w (.returned v) w2):=by
  obtain⟨hW,hG⟩:=HH.out.turnF (F':=fun k=>F k∨k=nc) (cb':=nc) (s':={ s with out:=[] }) ⟨V,hN,fun k hk=>by
   rcases hk with h1|h1|h1
   .exact Or.inl (HF.out k (Or.inl h1))
   .exact Or.inr h1
   .exact Or.inl (HF.out k (Or.inr (Or.inr h1)))⟩ rfl (fun k hk=>by
   rcases hk with h1|h1
   .exact Or.inl h1
   .exact Or.inr (by rw[h1];exact hnc)) (fun k hk=>by
   rcases hk with h1|h1
   .exact Nat.lt_of_lt_of_le (HH.out.fl k h1).2 hsz
   rw[h1];exact chan_lt hch) ⟨hos,htp,hou,hsz,fun k hk hn=>hs k hk (fun e=>hn (e▸HF.out cb (Or.inr (Or.inl rfl)))) (fun e=>hn (e▸HF.out nb (Or.inl rfl)))⟩
  refine⟨v,nc,_,rfl,hown,hW,hG,fun g hg hF=>?_⟩;rcases hF with h1|h1
  .have h2:=(HH.out.fl g h1).2;have h3:=(hown.lt g hg).1;omega
  exact hvn g hg h1
 clear hN hown hch hvn hb2 hs HT;go_wp2;go_ret;exact HEND.out
theorem decide_none{B:Nat}{es:List Addr}{m:Int}{F R:Nat→Prop}{nb kb rb cb n i N:Nat}{s:NodeS}{w:World}(h:NodeW B es m F R nb kb rb cb n i s w)(ok:StOk N s)(hno:∀q,q≤20→s.decAt q=none):
 Calls prog 108 #[.pointer (some ⟨nb,0,none⟩)] w (RuleP B es m F R nb kb rb cb n i (false,s) w):=by
 obtain⟨V,hA,hf⟩:=h.node;refine(decide_raw (fun b w'=>b=false∧Below w.heap.size w w') hA h.bl h.glob ok (fun p r hr _ hp=>?_) (fun _ W hW=>⟨rfl,hW⟩)).mono ?_
 .rw [hno r hr] at hp;cases hp
 rintro e w' ⟨b,rfl,rfl,hb⟩;exact RuleP.same h hb
theorem powB_none(x:Nat→Int)(b:Nat→Bool)(h:∀i,b i=false):∀k,powB x b k=0
 |0=>rfl
 |k+1=>by
  unfold powB;rw[h k,powB_none x b h k];simp
theorem moreB_none{t:Int}{x:Nat→Int}{fits:EntV→Bool}{l:List EntV}(hx:Dom x)(ht:0≤t)(h:∀e∈l,fits e=false):moreB t x (sendB fits l)=false:=by
 have hb:∀i,sendB fits l i=false:=fun i=>by
  unfold sendB;rw[List.any_eq_false];intro e he;rw[h e he];simp
 unfold moreB;rw[powB_none x _ hb 8];have h1:=(sumTo_bound x 8 (fun i _=>hx i)).1;have h2:0≤t*sumTo x 8:=Int.mul_nonneg ht h1;exact decide_eq_false (by omega)
def four:Nat→Int:=regOf (fun _=>1) 4
theorem four_gen:genR (fun _=>1) 4=(four,true):=by
 rw[genR_good _ 4 (by decide) (fun i _=>⟨by show(0:Int)≤1;decide,by show(1:Int)≤9;decide⟩)];rfl
theorem four_dom:Dom four:=fun i=>by
 unfold four regOf;split
 .exact ⟨by show(0:Int)≤1;decide,by show(1:Int)≤9;decide⟩
 .exact ⟨by decide,by decide⟩
theorem four_pos:0<sumTo four 8:=by decide
def msg1:MsgV:=⟨1,0,0,0,-1,false,⟨#[]⟩⟩
def msg2:MsgV:=⟨2,0,0,0,0,false,⟨#[]⟩⟩
def fr1:ByteArray:=encS 1 0 0 0 (-1) false ⟨#[]⟩
def fr2:ByteArray:=encS 2 0 0 0 0 false ⟨#[]⟩
def sg0:Nat→List ByteArray:=fun _=>[]
def aliveS1:NodeS:=⟨four,[],[],[⟨msg1,fr1,true⟩],[],-1,⟨#[]⟩,-1,⟨#[]⟩,0,1,false,false,false,false,0,[],0,[fr1],signR sg0 0 fr1⟩
def aliveS2:NodeS:=⟨four,[],[],[⟨msg1,fr1,true⟩,⟨msg2,fr2,true⟩],[],-1,⟨#[]⟩,-1,⟨#[]⟩,0,2,false,false,false,false,0,[],0,[fr1,fr2],signR (signR sg0 0 fr1) 0 fr2⟩
theorem alive_s1:((nodeS0 four sg0).nextLog []).beginR 0 0=aliveS1:=by
 unfold NodeS.beginR;rw[if_pos (by decide)];have hv:((nodeS0 four sg0).nextLog []).vr= -1:=rfl;rw[hv,if_pos (by decide)];rw[sendS_yes (by decide) (by decide)];rfl
theorem alive_s2:(aliveS1.sendS 0 2 0 false ⟨#[]⟩).atStep 2=aliveS2:=by
 rw[sendS_yes (by decide) (by decide)];rfl
theorem alive_ent(e:EntV)(h:e∈aliveS2.log):e=⟨msg1,fr1,true⟩∨e=⟨msg2,fr2,true⟩:=by
 rcases List.mem_cons.1 h with h|h
 .exact Or.inl h
 rcases List.mem_cons.1 h with h|h
 .exact Or.inr h
 cases h
theorem alive_sub(e:EntV)(h:e∈aliveS1.log):e∈aliveS2.log:=by
 rcases List.mem_cons.1 h with h|h
 .rw [h];exact List.mem_cons_self
 cases h
theorem alive_eok(e:EntV)(h:e∈aliveS2.log):EntOk e:=by
 rcases alive_ent e h with rfl|rfl
 .exact ⟨by decide,by decide,by decide,by decide,by decide⟩
 exact⟨by decide,by decide,by decide,by decide,by decide⟩
theorem alive_no3(r:Int)(t:ByteArray)(e:EntV)(h:e∈aliveS2.log):votesForB 3 r t e=false:=by
 rcases alive_ent e h with rfl|rfl<;>simp[votesForB,msg1,msg2]
theorem alive_dec{s:NodeS}(hx:s.x=four)(hl:∀e∈s.log,e∈aliveS2.log)(q:Nat):s.decAt q=none:=by
 refine propF_none (fun e _=>?_);have hm:s.most (votesForB 3 (q:Int) e.m.s)=false:=by
  unfold NodeS.most;rw[hx];exact moreB_none four_dom (by decide) (fun e' he'=>alive_no3 _ _ e' (hl e' he'))
 unfold propB;simp[hm]
theorem alive_follow{s:NodeS}(hx:s.x=four)(hr:s.round=0)(hl:∀e∈s.log,e∈aliveS2.log):s.followS 0=(false,s):=by
 refine followS_none (fun r h1 h2=>?_);have hm:moreB 1 s.x (sendB (fun e=>decide (e.m.r=(r:Int))) s.log)=false:=by
  rw[hx];refine moreB_none four_dom (by decide) (fun e he=>?_);rw[hr] at h1;rcases alive_ent e (hl e he) with rfl|rfl
  .exact decide_eq_false (by show¬(0:Int)=(r:Int);omega)
  exact decide_eq_false (by show¬(0:Int)=(r:Int);omega)
 unfold NodeS.roundB;rw[hm,Bool.and_false]
def AliveG(s:NodeS):Prop:=StOk 100 s∧(s.sg 0).length≤1000000000000∧∀q,q≤20→s.decAt q=none
theorem alive_len1:(aliveS1.sg 0).length≤1:=by
 show(signR sg0 0 fr1 0).length≤1;unfold signR sg0;split<;>simp
theorem alive_len2:(aliveS2.sg 0).length≤2:=by
 show(signR (signR sg0 0 fr1) 0 fr2 0).length≤2;have h1:(signR sg0 0 fr1 0).length≤1:=alive_len1;generalize signR sg0 0 fr1=z at h1 ⊢;unfold signR;split
 .simp;omega
 omega
theorem alive_g1:AliveG aliveS1:=⟨⟨four_dom,four_pos,by decide,by decide,by decide,by decide,by decide,by decide,by decide,fun e he=>alive_eok e (alive_sub e he),fun e he=>(by cases he),by decide,fun t ht=>(by cases ht),by decide⟩,by have:=alive_len1;omega,fun q _=>alive_dec rfl alive_sub q⟩
theorem alive_g2:AliveG aliveS2:=⟨⟨four_dom,four_pos,by decide,by decide,by decide,by decide,by decide,by decide,by decide,fun e he=>alive_eok e he,fun e he=>(by cases he),by decide,fun t ht=>(by cases ht),by decide⟩,by have:=alive_len2;omega,fun q _=>alive_dec rfl (fun e he=>he) q⟩
def decNo(s:NodeS):Bool×NodeS:=(false,s)
theorem alive_ans:aliveS1.answerS 0 newB=(true,aliveS2):=by
 rw[answerS_yes (p:=⟨msg1,fr1,true⟩) rfl rfl (by unfold NodeS.mayS;rw[show aliveS1.good (⟨msg1,fr1,true⟩:EntV).m.s=true from congrArg Prod.snd (behind_empty four ⟨#[]⟩ rfl)];decide)];rw[show(⟨msg1,fr1,true⟩:EntV).m.s=⟨#[]⟩ from rfl,alive_s2]
theorem alive_one1:aliveS1.oneS decNo 0=(true,aliveS2):=by
 unfold NodeS.oneS;rw[if_neg (by unfold decNo;exact Bool.false_ne_true),alive_follow rfl rfl alive_sub,if_neg Bool.false_ne_true,alive_ans,if_pos rfl]
theorem alive_hold:aliveS2.holdF=none:=by
 refine propF_none (fun e he=>?_);have hm:aliveS2.most (votesForB 2 0 e.m.s)=false:=by
  rcases alive_ent e he with rfl|rfl
  .decide
  decide
 unfold propB;rw[show((aliveS2.round:Nat):Int)=0 from rfl];simp only[hm,Bool.false_and,Bool.and_false]
theorem alive_one2:(aliveS2.oneS decNo 0).1=false:=by
 have h2:¬aliveS2.step=1:=by decide
 unfold NodeS.oneS;rw[if_neg (by unfold decNo;exact Bool.false_ne_true),alive_follow rfl rfl (fun e he=>he),if_neg Bool.false_ne_true,answerS_step h2,if_neg Bool.false_ne_true,answerS_step h2,if_neg Bool.false_ne_true,holdS_none alive_hold,if_neg Bool.false_ne_true];have hg:aliveS2.giveUpS 0=(false,aliveS2):=by
  unfold NodeS.giveUpS;rw[if_neg (fun h=>by have h1:=h.2;revert h1;decide)]
 have hw:aliveS2.wait2S=(false,aliveS2):=by
  unfold NodeS.wait2S;rw[if_neg (fun h=>by have h1:=h.2.2;revert h1;decide)]
 have hw3:aliveS2.wait3S=(false,aliveS2):=by
  unfold NodeS.wait3S;rw[if_neg (fun h=>by have h1:=h.2;revert h1;decide)]
 rw[hg,if_neg Bool.false_ne_true,hw,if_neg Bool.false_ne_true,hw3]
theorem alive_run:RunTo decNo 0 AliveG aliveS2 1 (((nodeS0 four sg0).nextLog []).beginR 0 0):=by
 rw[alive_s1];refine⟨alive_g1,by rw[alive_one1],?_⟩;rw[alive_one1];exact⟨alive_g2,alive_one2,rfl⟩
theorem key_cellN{w:World}{base n kc f:Nat}{kp:Option Addr}{ks:Nat→Nat}(h:w.ownsRow base 45 1 (.slice kp n kc) n (keyL ks n))(hf:f<n):∃b,kp=some ⟨b,0,none⟩∧base≤b∧b<w.heap.size∧w.cell? ⟨b,f,none⟩=some (.pointer (some ⟨ks f,0,none⟩)):=by
 rcases h.2 with⟨e,hn⟩|⟨g,cap,cur,e,hb,hg,hnc,hcm,hcs,ht⟩
 .omega
 cases e;refine⟨g,rfl,hb,row_lt0 hg,?_⟩;rw[cell_of_row w g f _ _ _ hg];have e1:(cur.toList.take (n*1))[f]? =(keyL ks n)[f]? :=by rw[ht]
 rw[List.getElem?_take,if_pos (by omega)] at e1;rw[←Array.getElem?_toList,e1];simp[keyL,hf]
def aliveA:Array Value:=#[.int .i64 0,.int .i64 0,.int .i64 2,.int .i64 (-1),.int .i64 (-1),.string ⟨#[]⟩,.string ⟨#[]⟩]
theorem alive_state:stateA aliveS2=aliveA:=rfl
theorem Tryz.eqlState(W:World):(binOp .eql 61 (.agg aliveA) (.agg aliveA)).run prog W=.ok (.bool true) W:=by kernel_rfl
theorem keepAlive_any{B:Nat}{es:List Addr}{m:Int}(w:World)(hg:GlobAt B es m w)(hbl:B≤w.heap.size):
 Calls prog 45 #[] w fun e w'=>e=.returned (.bool true)∧Below w.heap.size w w':=by
 have HNW:Hid (Calls prog 9 #[.int .i64 4] w fun e w'=>∃(ov:Value) (kp:Option Addr) (kc:Nat) (ks:Nat→Nat),e=.returned (.tuple #[.pointer (some ⟨w.heap.size,0,none⟩),.slice kp 4 kc])∧
  RingI (fun k=>k=w.heap.size∨some k=ov.ownBlock) w.heap.size 4 (fun _=>[]) w'∧w'.ownsRow (w.heap.size+1) 30 1 ov 4 (List.replicate 4 (.slice none 0 0))∧
  w'.ownsRow (w.heap.size+1) 45 1 (.slice kp 4 kc) 4 (keyL ks 4)∧(∀i,i<4→w.heap.size<ks i∧KeyAt w' (ks i) w.heap.size i)∧Below w.heap.size w w'):=ringNew_any 4 w (by omega) (by omega)
 obtain⟨HG,HBL⟩:=hide2 hg hbl;clear hg hbl;go_enter func45,ntmps45;go_wp2_with fail
 refine HNW.out.mono ?_;rintro e w1 ⟨ov,kp,kc,ks,rfl,hring,hov,hkeys,hks,hb1⟩;obtain⟨kg,rfl,hkg1,hkg2,hc0⟩:=key_cellN (f:=0) hkeys (by omega);obtain⟨kb,hkb⟩:=gen (ks 0);rw[←hkb] at hc0;have hkey:KeyAt w1 kb w.heap.size 0:=by rw[hkb];exact(hks 0 (by omega)).2
 have hkbw:w.heap.size<kb:=by rw[hkb];exact(hks 0 (by omega)).1
 obtain⟨R,hR⟩:∃R:Nat→Prop,R=fun k=>k=w.heap.size∨some k=ov.ownBlock:=⟨_,rfl⟩;rw[←hR] at hring;have hRn:∀k,R k→w.heap.size≤k∧k<w1.heap.size:=fun k hk=>by
  rw[hR] at hk;rcases hk with rfl|hk
  .exact ⟨Nat.le_refl _,Nat.lt_trans hkbw hkey.lt⟩
  have h:=hov.lt k hk.symm;exact⟨by omega,h.2⟩
 have hRk:¬R kb:=fun hk=>by
  rw[hR] at hk;rcases hk with h|h
  .omega
  exact own_ne hov hkey (by decide) h.symm
 obtain⟨w2,hw2⟩:=gen (w1.alloc (.cells #[.int .i64 1,.int .i64 1,.int .i64 1,.int .i64 1] 3));have hb2:Below w1.heap.size w1 w2:=by rw[hw2];exact(Below.refl _ w1).alloc (Nat.le_refl _) _
 have hq2:w2.heap[w1.heap.size]? =some (.cells #[.int .i64 1,.int .i64 1,.int .i64 1,.int .i64 1] 3 (0,0)):=by rw[hw2];exact heap_alloc_new w1 _
 have hbw2:Below w.heap.size w w2:=hb1.trans (hb2.mono hb1.size);have hlies:Lies w2 w2.heap.size (some ⟨w1.heap.size,0,none⟩) 4 (fun j=>.int .i64 ((fun _=>(1:Int)) j)):=fun j hj=>by
  refine⟨w1.heap.size,0,rfl,row_lt0 hq2,?_⟩;rw[cell_of_row w2 w1.heap.size (0+j) _ _ _ hq2];match j,hj with
  |0,_=>rfl
  |1,_=>rfl
  |2,_=>rfl
  |3,_=>rfl
 have HNEW:=hide (new_yes (B:=B) (es:=es) (m:=m) (R:=R) (kb:=kb) (rb:=w.heap.size) (n:=4) (i:=0) (N:=100) (k:=1) (sg:=sg0) (t:=aliveS2) (w:=w2) decNo AliveG (fun s h=>rfl) (fun s h=>⟨h.1,h.2.1⟩) (by omega) (fun nb cb F R s W hW hs=>decide_none hW hs.1 hs.2.2)
  (fun _=>1) (some ⟨w1.heap.size,0,none⟩) 4 4 four hlies four_gen four_dom four_pos (hring.frame fun k hk=>hb2.block k (hRn k hk).2) (hkey.keep (hb2.block kb hkey.lt)) (by omega) hRk (fun k hk=>⟨Nat.le_trans HBL.out (hRn k hk).1,Nat.lt_of_lt_of_le (hRn k hk).2 hb2.size⟩) (HG.out.below HBL.out hbw2) (Nat.le_trans HBL.out hbw2.size) (by decide) alive_run)
 obtain⟨HRN,HBW2,HW2⟩:=hide3 hRn hbw2 hw2;clear hring hov hkeys hks hb1 hkg1 hkg2 hkey hkbw hRn hRk hlies hq2 hb2 hbw2 hw2 hR hkb HNW HG;go_wp2_with fail
 rw[←HW2.out];refine HNEW.out.mono ?_;rintro e w3 ⟨nb,cb,F3,R3,rfl,hW3,hG3⟩;obtain⟨V3,hA3,hf3⟩:=hW3.node;have HST:=hide (state_any nb kb cb V3 aliveS2 w3 hA3);rw[alive_state] at HST;obtain⟨HW3,HG3⟩:=hide2 hW3 hG3;clear hW3 hG3 hA3 hf3 HNEW hc0;go_wp2_with fail
 refine HST.out.mono ?_;rintro e w4 ⟨rfl,hb4⟩;have HB4:=hide hb4;clear hb4 HST;obtain⟨w5,hw5⟩:=gen (w4.alloc (.cells aliveA 61));have hb5:Below w4.heap.size w4 w5:=by rw[hw5];exact(Below.refl _ w4).alloc (Nat.le_refl _) _
 have hq5:w5.heap[w4.heap.size]? =some (.cells aliveA 61 (0,0)):=by rw[hw5];exact heap_alloc_new w4 _
 have HB35:Hid (Below w3.heap.size w3 w5):=HB4.out.trans (hb5.mono HB4.out.size);have HSE:=hide (sent_any (HW3.out.below HB35.out) (by decide));obtain⟨HQ5,HW5⟩:=hide2 hq5 hw5;clear hb5 hq5 hw5;have hw5':w5=w4.alloc (.cells #[.int .i64 0,.int .i64 0,.int .i64 2,.int .i64 (-1),.int .i64 (-1),.string ⟨#[]⟩,.string ⟨#[]⟩] 61):=HW5.out;have HW5':=hide hw5';clear hw5';unfold aliveA;go_wp2_with fail
 rw[←HW5'.out];refine HSE.out.mono ?_;rintro e w6 ⟨v,cb6,F6,rfl,hown,hW6,hG6,hvF⟩;obtain⟨p6,c6,rfl⟩:=own_slice hown;have hlen6:aliveS2.out.length=2:=rfl;rw[hlen6];have hq6:w6.heap[w4.heap.size]? =some (.cells #[.int .i64 0,.int .i64 0,.int .i64 2,.int .i64 (-1),.int .i64 (-1),.string ⟨#[]⟩,.string ⟨#[]⟩] 61 (0,0)):=(hG6.same.block _ (row_lt0 HQ5.out) (fun x=>x.elim (fun x=>by have h1:=(HW3.out.fl _ x).2;have h2:=HB4.out.size;omega) (fun x=>by have h1:=(HW3.out.rl _ x).2;have h2:=HB4.out.size;omega))).trans HQ5.out;have HQ6:=hide hq6;have HEND:Hid (Below w.heap.size w w6):=by
  have hnF:∀k,k<w.heap.size→¬(F3 k∨R3 k):=fun k hk hx=>by
   have hz:=HBW2.out.size;rcases hx with hx|hx
   .rcases HG3.out.ff k hx with h1|h1
    .exact h1
    omega
   rcases HG3.out.rr k hx with h1|h1
   .have:=(HRN.out k h1).1;omega
   omega
  refine⟨?_,?_,?_,?_,fun k hk=>?_⟩
  .rw [hG6.same.os,HB35.out.os,HG3.out.same.os,HBW2.out.os]
  .rw [hG6.same.tape,HB35.out.tape,HG3.out.same.tape,HBW2.out.tape]
  .rw [hG6.same.output,HB35.out.output,HG3.out.same.output,HBW2.out.output]
  .exact Nat.le_trans HBW2.out.size (Nat.le_trans HG3.out.same.size (Nat.le_trans HB35.out.size hG6.same.size))
  have hk2:k<w2.heap.size:=Nat.lt_of_lt_of_le hk HBW2.out.size;have hk3:k<w3.heap.size:=Nat.lt_of_lt_of_le hk2 HG3.out.same.size;rw[hG6.same.block k (Nat.lt_of_lt_of_le hk3 HB35.out.size) (hnF k hk),HB35.out.block k hk3,HG3.out.same.block k hk2 (fun x=>x.elim (fun x=>x) (fun x=>by have:=(HRN.out k x).1;omega)),HBW2.out.block k hk]
 have heq:∀W,(binOp .eql 61 (.agg #[.int .i64 0,.int .i64 0,.int .i64 2,.int .i64 (-1),.int .i64 (-1),.string ⟨#[]⟩,.string ⟨#[]⟩]) (.agg #[.int .i64 0,.int .i64 0,.int .i64 2,.int .i64 (-1),.int .i64 (-1),.string ⟨#[]⟩,.string ⟨#[]⟩])).run prog W=.ok (.bool true) W:=Tryz.eqlState;clear hown hW6 hG6 hvF hq6 HSE HW5 HW5' HQ5;go_wp2_with (first|(refine wpList_load_row rfl 61 _ rfl w4.heap.size rfl 61 #[.int .i64 0,.int .i64 0,.int .i64 2,.int .i64 (-1),.int .i64 (-1),.string ⟨#[]⟩,.string ⟨#[]⟩] (0,0) _ HQ6.out underlying61 rfl Tryz.sizeState ?_)|fail)
 go_ret;exact⟨rfl,HEND.out⟩
end Go.Proofs.YtcfjhbcpjpgodaaGreatDoor

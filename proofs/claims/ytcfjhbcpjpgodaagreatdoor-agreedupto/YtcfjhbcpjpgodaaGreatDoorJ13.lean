/- Proved here: what the program's Behind answers for a registry and a text. -/
import Derived.Test.YtcfjhbcpjpgodaaGreatDoorJ9
import Derived.Test.YtcfjhbcpjpgodaaGreatDoorShelfB
import Derived.Test.YtcfjhbcpjpgodaaGreatDoorJ12
import Derived.Stop.LaidErr
import Derived.Test.YtcfjhbcpjpgodaaGreatDoorJ17
import Derived.Test.YtcfjhbcpjpgodaaGreatDoorTakeL
namespace Go.Proofs.YtcfjhbcpjpgodaaGreatDoor
open Go.RowKit Go.Proofs.Tryz
set_option maxRecDepth 100000
set_option maxHeartbeats 3200000
theorem getD_cells(l:List ByteArray)(N j:Nat)(h:j<l.length):(Lib.cellsOf l N)[j]? =some (.string (l.getD j ByteArray.empty)):=by
 unfold Lib.cellsOf;rw[List.getElem?_toArray,List.getElem?_append_left (by simpa using h),List.getElem?_map,List.getElem?_eq_getElem h,List.getD_eq_getElem?_getD,List.getElem?_eq_getElem h];rfl
theorem splitN_at(s:ByteArray)(m:Int)(w:World)(hs:s.size<4294967281)(hm:w.cell? ⟨13,0,none⟩=some (.int .i64 m)):
 Calls prog 133 #[.string s,.string ⟨#[44]⟩,.int .i64 4] w fun e w'=>∃n cap,e=.returned (.slice (some ⟨w.heap.size,0,none⟩) n cap)∧Below w.heap.size w w'∧w.heap.size<w'.heap.size∧(3<(cuts s 0 0).length→n=4)∧
  ((cuts s 0 0).length≤3→n=(cuts s 0 0).length∧∀j,j<n→w'.cell? ⟨w.heap.size,j,none⟩=some (.string ((cuts s 0 0).getD j ByteArray.empty))):=by
 refine(Tryz.strings_SplitN s comma 4 m w hs hm (by decide) (by decide) (by decide)).mono ?_;rintro e w' ⟨rfl,rfl⟩;refine⟨_,_,rfl,(Below.refl _ w).alloc (Nat.le_refl _) _,by simp,fun h=>splitN_many s h,fun h=>?_⟩;rw[splitN_few s h];refine⟨rfl,fun j hj=>?_⟩;rw[cell_of_row _ w.heap.size j _ _ _ (heap_alloc_new w _),getD_cells _ _ _ hj]
section
variable{P:Program}
theorem wpList_wanted{ops:Array Oper}{rest:List Oper}{op:Oper}{a:Act}{w:World}{Q:Exit→Act→World→Prop}(hw:Region.wanted op (yielded ops a.tmps)=true)
 (h:∀K:Act→World→Prop,(∀a w,wpList P ops Q rest a w→K a w)→op.wp P a w K Q):wpList P ops Q (op::rest) a w:=
 wpList_step fun K hK=>by rw[if_pos hw];exact h K hK
theorem wpList_load_rowW{ops:Array Oper}{rest:List Oper}{op:Oper}{a:Act}{w:World}{Q:Exit→Act→World→Prop}(hw:Region.wanted op (yielded ops a.tmps)=true)(ty:TypeId)(p:Operand)(ho:op.op=.load ty p)
 (g:Nat) (hp:a.eval p=.pointer (some ⟨g,0,none⟩)) (t:TypeId) (cs:Array Value) (d:TypeDesc) (hg:w.heap[g]? =some (.cells cs t (0,0))) (hu:P.underlying ty=some d) (hd:d.isRow=true) (hi:(P.info? ty).map (·.size)=some cs.size)
 (h:wpList P ops Q rest (a.put op.dst (.agg cs)) w):wpList P ops Q (op::rest) a w:=
 wpList_wanted hw fun _ hK=>wp_load_row ty p ho g hp t cs (0,0) d hg hu (by cases d<;>simp_all) hi (hK _ _ h)
end
theorem behindP_any(x:Nat→Int)(s:ByteArray)(b:Addr)(m:Int)(w:World)(hx:Dom x)(hs:s.size<4294967281)(hg:w.cell? ⟨11,0,none⟩=some (.iface 294 (.pointer (some b))))(hm:w.cell? ⟨13,0,none⟩=some (.int .i64 m)):
 Calls prog 94 #[.agg (regA x),.string s] w fun e w'=>e=.returned (.tuple #[.agg (regA (goodR (behindR x s))),errIf (behindR x s).2 b])∧Below w.heap.size w w':=by
 have z0:=regA_zero;have hgl:11<w.heap.size:=World.block_lt_of_cell? _ _ hg;obtain⟨W,hW⟩:∃W,W=(w.alloc (.cells (regA x) 116)).alloc (.cells (regA reg0) 116):=⟨_,rfl⟩;have HR1:Hid (RegAt W w.heap.size 116 x):=by
  unfold Hid;rw[hW];exact(RegAt.alloc w _ x).below ((Below.refl _ _).alloc (Nat.le_refl _) _)
 have HR2:Hid (RegAt W (w.heap.size+1) 116 reg0):=by
  unfold Hid;have h:=RegAt.alloc (w.alloc (.cells (regA x) 116)) 116 reg0;have e1:(w.alloc (.cells (regA x) 116)).heap.size=w.heap.size+1:=by simp
  rw[e1] at h;rw[hW];exact h
 have HB:Hid (Below w.heap.size w W):=by
  unfold Hid;rw[hW];exact((Below.refl _ w).alloc (Nat.le_refl _) _).alloc (by simp) _
 have hWs:W.heap.size=w.heap.size+1+1:=by rw[hW];simp
 obtain⟨HG,HX⟩:=hide2 hg hx;have HMX:=hide ((HB.out.cell (p:=⟨13,0,none⟩) (by exact World.block_lt_of_cell? _ _ hm)).trans hm);have hW2:=hW.symm;clear hW hx hg hm;by_cases hs0:s.size=0
 .have HF:=hide (behind_empty x s hs0);have hse:s=ByteArray.empty:=by
   apply ByteArray.ext;apply Array.ext';have:s.data.toList.length=0:=by simpa using hs0
   rw[List.length_eq_zero_iff.1 this];rfl
  clear hs0 hs;subst hse;go_enter func94,ntmps94;go_wp2_with (first|(refine wpList_load_reg rfl 116 _ rfl _ rfl 116 _ _ HR1.out underlying116 rfl Tryz.sizeRegistry ?_)|(refine wpList_store_reg rfl 116 _ _ rfl (w.heap.size+1) _ rfl rfl 116 _ HR2.out (regA_size _) Tryz.sizeRegistry ?_;intro w2 hq ho))
  exact bodyPost_ret (v:=.tuple #[.agg (regA x),.nilIface]) (results_reg2 results94 _ _ (w.heap.size+1) 116 _ _ _ rfl rfl hq underlying116 rfl Tryz.sizeRegistry) rfl ⟨by rw[HF.out];rfl,HB.out.trans (ho.below (by omega))⟩
 have hne:=not_nil_text hs0;have HSP:=hide (splitN_at s m W hs HMX.out);go_enter func94,ntmps94;go_wp2_with fail
 refine HSP.out.mono ?_;rintro e w1 ⟨n,cap,rfl,hb1,hsz1,hmany,hfew⟩;have HB1:Hid (Below w.heap.size w w1):=HB.out.trans (hb1.mono HB.out.size);obtain⟨H11,H21⟩:=hide2 (HR1.out.below hb1) (HR2.out.below hb1);have HG1:=hide ((HB1.out.cell (p:=⟨11,0,none⟩) (by exact hgl)).trans HG.out);rw[hWs] at hfew hsz1;rw[hWs];clear HSP HMX hne hb1 hW2 HR1 HR2;by_cases h3:3<(cuts s 0 0).length
 .obtain rfl:=hmany h3;have HF:=hide (behind_many x s hs0 h3);clear hfew hmany h3;go_wp2_with fail
  refine rgd (S:=fun W'=>W'.cell? ⟨11,0,none⟩=some (.iface 294 (.pointer (some b)))) HG1.out (fun hH=>?_);refine takeM [(0,some 20,.agg (regA reg0)),(1,some 21,.iface 294 (.pointer (some b)))] _ _ hH ?_;simp only[takesA,AP];refine rdy1 2 (fun K hK=>?_);rw[if_pos (by rfl)];refine wp_store_reg 116 _ _ rfl (w.heap.size+1) reg0 rfl rfl 116 (regA reg0) H21.out.drew (regA_size _) Tryz.sizeRegistry ?_;intro w2 hq ho;refine hK.out _ _ ((ho.cell (p:=⟨11,0,none⟩) (by show 11≠(w.heap.size+1);omega)).trans hH) (fun hH=>?_);clear hK K;refine rdy1 3 (fun K hK=>?_);go_simp;refine hK.out _ _ hH (fun hH=>?_);clear hK K;refine dnr ?_;go_wp2;exact bodyPost_ret (v:=.tuple #[.agg (regA reg0),.iface 294 (.pointer (some b))]) (results_reg2 results94 _ _ (w.heap.size+1) 116 reg0 _ _ rfl rfl hq underlying116 rfl Tryz.sizeRegistry) rfl ⟨by unfold goodR;rw[HF.out];rfl,(HB1.out.drew).trans (ho.below (by omega))⟩
 obtain⟨hn,hcells⟩:=hfew (by omega);have hn3:¬3<(n:Int):=by omega
 obtain⟨HC,HN⟩:=hide2 hcells hn;have H3:Hid ((cuts s 0 0).length≤3):=by unfold Hid;omega
 clear hmany h3 hcells hn hfew;obtain⟨L,hL⟩:=gen (cuts s 0 0);rw[←hL] at HC HN;have HL:=hide hL;clear hL;go_wp2;go_loopw [7,9,10,11,24] (fun ch _ _ _ i wr=>∃(k:Nat) (y:Nat→Int),k≤L.length∧i=.int .i64 k∧ch=.int .i64 (votes (L.take k):Nat)∧(L.take k).all formB=true∧behindL x L=behindL y (L.drop k)∧Dom y∧RegAt wr w.heap.size 116 y∧RegAt wr (w.heap.size+1) 116 reg0∧Below w.heap.size w wr∧w.heap.size+1+1<wr.heap.size∧∀j,j<n→wr.cell? ⟨w.heap.size+1+1,j,none⟩=some (.string (L.getD j ByteArray.empty))) (fun _ _ _ _ i _=>L.length-(intOf i).toNat)
 case atStart=>exact⟨0,x,by omega,rfl,rfl,rfl,rfl,HX.out,H11.out,H21.out,HB1.out,by omega,HC.out⟩
 clear H11 H21 HB1 HG1 HC HX HB;obtain⟨k,y,hk,rfl,rfl,hall,hbl,hdy,h1,h2,hb,hsz,hcl⟩:=hrel;obtain⟨HA,HBL,HDY,H1,H2,HB,HC⟩:=hide7 hall hbl hdy h1 h2 hb hcl;have HGr:=hide ((hb.cell (p:=⟨11,0,none⟩) (by exact hgl)).trans HG.out);clear hall hbl hdy h1 h2 hb hcl;by_cases hkn:k=L.length
 .have hge:¬(k:Int)<n:=by have:=HN.out;omega
  have HT:Hid (L.take k=L):=by unfold Hid;rw[hkn,List.take_length]
  have HE:Hid (behindL x L=(y,true)):=by unfold Hid;rw[HBL.out,hkn,List.drop_length];rfl
  have HA2:Hid (L.all formB=true):=by have:=HA.out;rw[HT.out] at this;exact this
  rw[HT.out];have hvl:votes L≤3:=by have h5:=votes_le L;have h6:=H3.out;rw[←HL.out] at h6;omega
  clear hkn;by_cases hv:votes L<2
  .have HF:Hid (behindR x s=(y,true)):=by
    have h4:=HL.out;have h5:=H3.out;have h6:=HA2.out;have h7:=HE.out;rw[h4] at h6 h7 hv;exact behind_good x y s hs0 h5 h6 hv h7
   have hv1:¬1<((votes L:Nat):Int):=by omega
   clear hv;go_wp2_with (first|(refine wpList_load_reg rfl 116 _ rfl _ rfl 116 _ _ H1.out underlying116 rfl Tryz.sizeRegistry ?_)|(refine wpList_store_reg rfl 116 _ _ rfl (w.heap.size+1) _ rfl rfl 116 _ H2.out (regA_size _) Tryz.sizeRegistry ?_;intro w2 hq ho))
   exact bodyPost_ret (v:=.tuple #[.agg (regA y),.nilIface]) (results_reg2 results94 _ _ (w.heap.size+1) 116 _ _ _ rfl rfl hq underlying116 rfl Tryz.sizeRegistry) rfl ⟨by rw[HF.out];rfl,HB.out.trans (ho.below (by omega))⟩
  have HF:Hid ((behindR x s).2=false):=behind_votes x s hs0 (by rw[←HL.out];omega);have hv1:1<((votes L:Nat):Int):=by omega
  clear hv;go_wp2_with fail
  refine rgd (S:=fun W'=>W'.cell? ⟨11,0,none⟩=some (.iface 294 (.pointer (some b)))) HGr.out (fun hH=>?_);refine takeM [(0,some 54,.agg (regA reg0)),(1,some 55,.iface 294 (.pointer (some b)))] _ _ hH ?_;simp only[takesA,AP];refine rdy1 2 (fun K hK=>?_);rw[if_pos (by rfl)];refine wp_store_reg 116 _ _ rfl (w.heap.size+1) reg0 rfl rfl 116 (regA reg0) H2.out.drew (regA_size _) Tryz.sizeRegistry ?_;intro w2 hq ho;refine hK.out _ _ ((ho.cell (p:=⟨11,0,none⟩) (by show 11≠(w.heap.size+1);omega)).trans hH) (fun hH=>?_);clear hK K;refine rdy1 3 (fun K hK=>?_);go_simp;refine hK.out _ _ hH (fun hH=>?_);clear hK K;refine dnr ?_;go_wp2;exact bodyPost_ret (v:=.tuple #[.agg (regA reg0),.iface 294 (.pointer (some b))]) (results_reg2 results94 _ _ (w.heap.size+1) 116 reg0 _ _ rfl rfl hq underlying116 rfl Tryz.sizeRegistry) rfl ⟨by unfold goodR;rw[HF.out];rfl,(HB.out.drew).trans (ho.below (by omega))⟩
 have hlt:k<L.length:=by omega
 have hki:(k:Int)<n:=by have:=HN.out;omega
 obtain⟨t,ht⟩:=gen (L.getD k ByteArray.empty);have hcr:wr.cell? ⟨w.heap.size+1+1,k,none⟩=some (.string t):=by rw[ht];exact HC.out k (by have:=HN.out;omega)
 obtain⟨HTS,HBS⟩:=hide2 (take_step L k hlt t ht) (behindL_step y L k hlt t ht);have HTF:Hid (formB t=false→(behindR x s).2=false):=fun h=>behind_form x s hs0 k (by rw[←HL.out];exact hlt) (by rw[←HL.out,←ht];exact h);have hvb:votes (L.take k)≤3:=by have h5:=votes_le (L.take k);rw[List.length_take] at h5;have h6:=H3.out;rw[←HL.out] at h6;omega
 clear ht hkn;cases hfb:formB t with
 |false=>
  have HFB:Hid (formN t.size (byt t 0) (byt t 1) (byt t 2)=false):=hfb;have HF:=hide (HTF.out hfb);clear hfb;go_wp2_with fail
  refine(read_any t _).mono ?_;rintro e w3 ⟨⟨a,q,c,he,-⟩,hb3⟩;rw[HFB.out] at he;subst he;have HB3:Hid (Below w.heap.size w w3):=HB.out.trans (hb3.mono HB.out.size);have H23:=hide (H2.out.below hb3);clear hb3;go_wp2_with (refine wpList_store_rowG rfl 226 _ _ rfl w3.heap.size #[.int .u8 a,.int .i64 q,.int .i64 c] rfl rfl 226 #[.int .u8 0,.int .i64 0,.int .i64 0] (heap_alloc_new w3 _) rfl (by simp[Value.oneCell']) Tryz.sizeRecord ?_;intro w4 hq ho;have HO4:=hide ho;clear hq ho)
  have HB4:Hid (Below w3.heap.size w3 w4):=((Below.refl _ w3).alloc (Nat.le_refl _) _).trans (HO4.out.below (Nat.le_refl _));have HB5:Hid (Below w.heap.size w w4):=HB3.out.trans (HB4.out.mono HB3.out.size);have H24:=hide (H23.out.below HB4.out);have HG4:=hide ((HB5.out.cell (p:=⟨11,0,none⟩) (by exact hgl)).trans HG.out);refine rgd (S:=fun W'=>W'.cell? ⟨11,0,none⟩=some (.iface 294 (.pointer (some b)))) HG4.out (fun hH=>?_);refine takeM [(0,some 41,.agg (regA reg0)),(1,some 42,.iface 294 (.pointer (some b)))] _ _ hH ?_;simp only[takesA,AP];refine rdy1 2 (fun K hK=>?_);rw[if_pos (by rfl)];refine wp_store_reg 116 _ _ rfl (w.heap.size+1) reg0 rfl rfl 116 (regA reg0) H24.out.drew (regA_size _) Tryz.sizeRegistry ?_;intro w2 hq ho;refine hK.out _ _ ((ho.cell (p:=⟨11,0,none⟩) (by show 11≠(w.heap.size+1);omega)).trans hH) (fun hH=>?_);clear hK K;refine rdy1 3 (fun K hK=>?_);go_simp;refine hK.out _ _ hH (fun hH=>?_);clear hK K;refine dnr ?_;go_wp2;exact bodyPost_ret (v:=.tuple #[.agg (regA reg0),.iface 294 (.pointer (some b))]) (results_reg2 results94 _ _ (w.heap.size+1) 116 reg0 _ _ rfl rfl hq underlying116 rfl Tryz.sizeRegistry) rfl ⟨by unfold goodR;rw[HF.out];rfl,(HB5.out.drew).trans (ho.below (by omega))⟩
 |true=>
  have HFB:Hid (formN t.size (byt t 0) (byt t 1) (byt t 2)=true):=hfb;obtain⟨HNP,HFS,HFT⟩:=hide3 (next_prog y t hfb) (form_spots t hfb) hfb;clear hfb;go_wp2_with fail
  refine(read_any t _).mono ?_;rintro e w3 ⟨⟨a,q,c,he,hrec⟩,hb3⟩;rw[HFB.out] at he;subst he;obtain⟨rfl,rfl,rfl⟩:=hrec HFB.out;have HB3:Hid (Below w.heap.size w w3):=HB.out.trans (hb3.mono HB.out.size);obtain⟨H13,H23⟩:=hide2 (H1.out.below hb3) (H2.out.below hb3);have HC3:Hid (∀j,j<n→w3.cell? ⟨w.heap.size+1+1,j,none⟩=some (.string (L.getD j ByteArray.empty))):=fun j hj=>(hb3.cell (p:=⟨w.heap.size+1+1,j,none⟩) (by exact hsz)).trans (HC.out j hj);have hsz3:w.heap.size+1+1<w3.heap.size:=Nat.lt_of_lt_of_le hsz hb3.size;have HKD:=hide HFS.out.1;obtain⟨-,hs1,hs2,hn0,hn9,hiq⟩:=HFS.out;generalize hkd:byt t 0=kd at HFB HNP HKD hs1 hs2 hn0 hn9 hiq ⊢;generalize (idxN kd (byt t 1))=q at HNP hs1 hs2 hiq ⊢;generalize (numN kd (byt t 2))=num at HNP hn0 hn9 ⊢;obtain⟨i,hi⟩:=gen q.toNat;rw[←hi] at HNP hs1 hs2 hiq;clear hi;subst hiq;obtain⟨HS1,HS2,HKT,HN0,HN9⟩:=hide5 hs1 hs2 hkd hn0 hn9;clear hb3 hs1 hs2 HFS hkd HFB hrec hn0 hn9;go_wp2_with (first|(refine wpList_store_rowG rfl 226 _ _ rfl w3.heap.size #[.int .u8 kd,.int .i64 (i:Int),.int .i64 num] rfl rfl 226 #[.int .u8 0,.int .i64 0,.int .i64 0] (heap_alloc_new w3 _) rfl (by simp[Value.oneCell']) Tryz.sizeRecord ?_;intro w4 hq ho;have HQ4:=hide hq;have HO4:=hide ho;clear hq ho)|(refine wpList_load_rowW (by rfl) 116 _ rfl w.heap.size rfl 116 (regA y) _ (H13.out.below (((Below.refl _ w3).alloc (Nat.le_refl _) _).trans (HO4.out.below (Nat.le_refl _)))) underlying116 rfl (by rw[regA_size];exact Tryz.sizeRegistry) ?_)|(refine wpList_load_rowW (by rfl) 226 _ rfl w3.heap.size rfl 226 #[.int .u8 kd,.int .i64 (i:Int),.int .i64 num] _ HQ4.out underlying226 rfl Tryz.sizeRecord ?_))
  refine(may_any y kd i num _ HDY.out HKD.out HS1.out HS2.out HN0.out HN9.out).mono ?_;rintro e w5 ⟨rfl,hb5⟩;have HB4:Hid (Below w3.heap.size w3 w4):=(((Below.refl _ w3).alloc (Nat.le_refl _) _).trans (HO4.out.below (Nat.le_refl _)));have hq4:=HQ4.out;have h34:w3.heap.size<w4.heap.size:=row_lt hq4;have HB5:Hid (Below w.heap.size w w5):=(HB3.out.trans (HB4.out.mono HB3.out.size)).trans (hb5.mono (Nat.le_trans HB3.out.size HB4.out.size));have HB35:Hid (Below w3.heap.size w3 w5):=HB4.out.trans (hb5.mono HB4.out.size);have HQ5:Hid (w5.heap[w3.heap.size]? =some (.cells #[.int .u8 kd,.int .i64 (i:Int),.int .i64 num] 226 (0,0))):=(hb5.block _ h34).trans hq4;obtain⟨H15,H25⟩:=hide2 (H13.out.below HB35.out) (H23.out.below HB35.out);have HC5:Hid (∀j,j<n→w5.cell? ⟨w.heap.size+1+1,j,none⟩=some (.string (L.getD j ByteArray.empty))):=fun j hj=>(HB35.out.cell (p:=⟨w.heap.size+1+1,j,none⟩) (by exact hsz3)).trans (HC3.out j hj);have hsz5:w.heap.size+1+1<w5.heap.size:=Nat.lt_of_lt_of_le hsz3 HB35.out.size;have HG5:=hide ((HB5.out.cell (p:=⟨11,0,none⟩) (by exact hgl)).trans HG.out);clear hq4 hb5 H13 H23 HC3 HQ4 HO4;cases hmb:mayB y kd i num with
  |false=>
   have HF:Hid ((behindR x s).2=false):=by
    refine behind_next x s hs0 ?_;rw[←HL.out,HBL.out,HBS.out,HNP.out,hmb];rfl
   clear hmb;go_wp2_with fail
   refine rgd (S:=fun W'=>W'.cell? ⟨11,0,none⟩=some (.iface 294 (.pointer (some b)))) HG5.out (fun hH=>?_);refine takeM [(0,some 41,.agg (regA reg0)),(1,some 42,.iface 294 (.pointer (some b)))] _ _ hH ?_;simp only[takesA,AP];refine rdy1 2 (fun K hK=>?_);rw[if_pos (by rfl)];refine wp_store_reg 116 _ _ rfl (w.heap.size+1) reg0 rfl rfl 116 (regA reg0) H25.out.drew (regA_size _) Tryz.sizeRegistry ?_;intro w2 hq ho;refine hK.out _ _ ((ho.cell (p:=⟨11,0,none⟩) (by show 11≠(w.heap.size+1);omega)).trans hH) (fun hH=>?_);clear hK K;refine rdy1 3 (fun K hK=>?_);go_simp;refine hK.out _ _ hH (fun hH=>?_);clear hK K;refine dnr ?_;go_wp2;exact bodyPost_ret (v:=.tuple #[.agg (regA reg0),.iface 294 (.pointer (some b))]) (results_reg2 results94 _ _ (w.heap.size+1) 116 reg0 _ _ rfl rfl hq underlying116 rfl Tryz.sizeRegistry) rfl ⟨by unfold goodR;rw[HF.out];rfl,(HB5.out.drew).trans (ho.below (by omega))⟩
  |true=>
   have HBN:Hid (behindL x L=behindL (upd y (spot kd i) num) (L.drop (k+1))):=by
    unfold Hid;rw[HBL.out,HBS.out,HNP.out,hmb];rfl
   have HDZ:Hid (Dom (upd y (spot kd i) num)):=by
    have h:=HDY.out.next HFT.out;rw[HNP.out] at h;exact h
   clear hmb;have hk0:w5.cell? ⟨w3.heap.size,0,none⟩=some (.int .u8 kd):=cell_of_row w5 w3.heap.size 0 _ _ _ HQ5.out;by_cases h118:kd=118
   .subst h118;have HV:Hid (votes (L.take (k+1))=votes (L.take k)+1):=by unfold Hid;rw[HTS.out,votes_append,HKT.out];rfl
    go_wp2_with (first|(refine wpList_load_reg rfl 116 _ rfl w.heap.size rfl 116 y _ H15.out underlying116 rfl Tryz.sizeRegistry ?_)|(refine wpList_load_row rfl 226 _ rfl w3.heap.size rfl 226 #[.int .u8 118,.int .i64 (i:Int),.int .i64 num] (0,0) _ HQ5.out underlying226 rfl Tryz.sizeRecord ?_)|fail)
    refine(with_any y 118 i num _ (fun _=>HS1.out (by simp)) (fun h=>absurd rfl h)).mono ?_;rintro e w6 ⟨rfl,hb6⟩;have HB6:Hid (Below w.heap.size w w6):=HB5.out.trans (hb6.mono HB5.out.size);obtain⟨H16,H26⟩:=hide2 (H15.out.below hb6) (H25.out.below hb6);have HC6:Hid (∀j,j<n→w6.cell? ⟨w.heap.size+1+1,j,none⟩=some (.string (L.getD j ByteArray.empty))):=fun j hj=>(hb6.cell (p:=⟨w.heap.size+1+1,j,none⟩) (by exact hsz5)).trans (HC5.out j hj);have hsz6:w.heap.size+1+1<w6.heap.size:=Nat.lt_of_lt_of_le hsz5 hb6.size;clear hb6;go_wp2_with (refine wpList_store_reg rfl 116 _ _ rfl w.heap.size _ rfl rfl 116 _ H16.out (regA_size _) Tryz.sizeRegistry ?_;intro w7 hq ho)
    go_roundw
    case rel=>
     refine⟨k+1,upd y (spot 118 i) num,by omega,by go_num,by rw[HV.out];go_num,?_,HBN.out,HDZ.out,hq,H26.out.only ho (by omega),HB6.out.trans (ho.below (Nat.le_refl _)),by rw[ho.size];exact hsz6,fun j hj=>(ho.cell (p:=⟨w.heap.size+1+1,j,none⟩) (by show w.heap.size+1+1≠w.heap.size;omega)).trans (HC6.out j hj)⟩;rw[HTS.out,List.all_append,HA.out];simp[HFT.out]
    case measure=>simp[intOf];omega
   have HV:Hid (votes (L.take (k+1))=votes (L.take k)):=by unfold Hid;rw[HTS.out,votes_append,HKT.out,if_neg h118];rfl
   have hkb:(kd==118)=false:=by simpa using h118
   clear h118;go_wp2_with (first|(refine wpList_load_reg rfl 116 _ rfl w.heap.size rfl 116 y _ H15.out underlying116 rfl Tryz.sizeRegistry ?_)|(refine wpList_load_row rfl 226 _ rfl w3.heap.size rfl 226 #[.int .u8 kd,.int .i64 (i:Int),.int .i64 num] (0,0) _ HQ5.out underlying226 rfl Tryz.sizeRecord ?_)|fail)
   refine(with_any y kd i num _ HS1.out HS2.out).mono ?_;rintro e w6 ⟨rfl,hb6⟩;have HB6:Hid (Below w.heap.size w w6):=HB5.out.trans (hb6.mono HB5.out.size);obtain⟨H16,H26⟩:=hide2 (H15.out.below hb6) (H25.out.below hb6);have HC6:Hid (∀j,j<n→w6.cell? ⟨w.heap.size+1+1,j,none⟩=some (.string (L.getD j ByteArray.empty))):=fun j hj=>(hb6.cell (p:=⟨w.heap.size+1+1,j,none⟩) (by exact hsz5)).trans (HC5.out j hj);have hsz6:w.heap.size+1+1<w6.heap.size:=Nat.lt_of_lt_of_le hsz5 hb6.size;clear hb6;go_wp2_with (refine wpList_store_reg rfl 116 _ _ rfl w.heap.size _ rfl rfl 116 _ H16.out (regA_size _) Tryz.sizeRegistry ?_;intro w7 hq ho)
   go_roundw
   case rel=>
    refine⟨k+1,upd y (spot kd i) num,by omega,by go_num,by rw[HV.out],?_,HBN.out,HDZ.out,hq,H26.out.only ho (by omega),HB6.out.trans (ho.below (Nat.le_refl _)),by rw[ho.size];exact hsz6,fun j hj=>(ho.cell (p:=⟨w.heap.size+1+1,j,none⟩) (by show w.heap.size+1+1≠w.heap.size;omega)).trans (HC6.out j hj)⟩;rw[HTS.out,List.all_append,HA.out];simp[HFT.out]
   case measure=>simp[intOf];omega
theorem behindN{o:Bool}(x:Nat→Int)(s:ByteArray)(b:Addr)(m:Int)(z:Nat→Int)(w:World)(hx:Dom x)(hs:s.size<4294967281)(hg:w.cell? ⟨11,0,none⟩=some (.iface 294 (.pointer (some b))))(hm:w.cell? ⟨13,0,none⟩=some (.int .i64 m))(h:(z,o)=behindR x s):
 Calls prog 94 #[.agg (regA x),.string s] w fun e w'=>e=.returned (.tuple #[.agg (regA (if o then z else reg0)),if o then .nilIface else .iface 294 (.pointer (some b))])∧Below w.heap.size w w':=by
 have h1:=behindP_any x s b m w hx hs hg hm;rw[←h] at h1;cases o<;>exact h1
theorem isGood_any(x:Nat→Int)(s:ByteArray)(b:Addr)(m:Int)(w:World)(hx:Dom x)(hs:s.size<4294967281)(hg:w.cell? ⟨11,0,none⟩=some (.iface 294 (.pointer (some b))))(hm:w.cell? ⟨13,0,none⟩=some (.int .i64 m)):
 Calls prog 152 #[.agg (regA x),.string s] w fun e w'=>e=.returned (.bool (behindR x s).2)∧Below w.heap.size w w':=by
 have HR:=hide (RegAt.alloc w 116 x);obtain⟨z,hz⟩:=gen (behindR x s);obtain⟨z,o⟩:=z;obtain⟨HZ,HC⟩:=hide2 hz (behindN x s b m z (w.alloc (.cells (regA x) 116)) hx hs (cell?_alloc_old _ hg) (cell?_alloc_old _ hm) hz);have z0:=regA_zero;clear hx hs hg hm hz;cases o with
 |true=>
  go_enter func152,ntmps152;go_wp2_with (first|(refine wpList_load_reg rfl 116 _ rfl w.heap.size rfl 116 x _ HR.out underlying116 rfl Tryz.sizeRegistry ?_)|fail)
  refine HC.out.mono ?_;rintro e w2 ⟨rfl,hb2⟩;have HB2:Hid (Below w.heap.size w w2):=((Below.refl _ w).alloc (Nat.le_refl _) _).trans (hb2.mono (by simp));clear hb2;simp only[if_true];go_wp2_with (first|(refine wpList_store_reg rfl 116 _ _ rfl w2.heap.size z rfl rfl 116 (regA reg0) (heap_alloc_new w2 _) (regA_size _) Tryz.sizeRegistry ?_;intro w3 hq3 ho3;have HB3:Hid (Below w.heap.size w w3):=(HB2.out.alloc HB2.out.size _).trans (ho3.below HB2.out.size);clear hq3 ho3)|fail)
  go_ret;exact⟨by rw[←HZ.out];rfl,HB3.out⟩
 |false=>
  go_enter func152,ntmps152;go_wp2_with (first|(refine wpList_load_reg rfl 116 _ rfl w.heap.size rfl 116 x _ HR.out underlying116 rfl Tryz.sizeRegistry ?_)|fail)
  refine HC.out.mono ?_;rintro e w2 ⟨rfl,hb2⟩;have HB2:Hid (Below w.heap.size w w2):=((Below.refl _ w).alloc (Nat.le_refl _) _).trans (hb2.mono (by simp));clear hb2;simp only[Bool.false_eq_true,if_false];go_wp2_with (first|(refine wpList_store_reg rfl 116 _ _ rfl w2.heap.size reg0 rfl rfl 116 (regA reg0) (heap_alloc_new w2 _) (regA_size _) Tryz.sizeRegistry ?_;intro w3 hq3 ho3;have HB3:Hid (Below w.heap.size w w3):=(HB2.out.alloc HB2.out.size _).trans (ho3.below HB2.out.size);clear hq3 ho3)|fail)
  go_ret;exact⟨by rw[←HZ.out];rfl,HB3.out⟩
def powI(x:Nat→Int)(id:Int):Int:=if 0≤id∧id<8 then x id.toNat else 0
theorem power_any(x:Nat→Int)(id:Int)(w:World):
 Calls prog 142 #[.agg (regA x),.int .i64 id] w fun e w'=>e=.returned (.int .i64 (powI x id))∧Below w.heap.size w w':=by
 have HR:=hide (RegAt.alloc w 116 x);by_cases hn:id<0
 .have e0:powI x id=0:=by unfold powI;rw[if_neg (by omega)]
  rw[e0];clear e0;go_enter func142,ntmps142;go_wp2;go_ret;exact⟨rfl,(Below.refl _ w).alloc (Nat.le_refl _) _⟩
 by_cases h8:8≤id
 .have e0:powI x id=0:=by unfold powI;rw[if_neg (by omega)]
  rw[e0];clear e0;go_enter func142,ntmps142;go_wp2;go_ret;exact⟨rfl,(Below.refl _ w).alloc (Nat.le_refl _) _⟩
 obtain⟨i,rfl⟩:∃i:Nat,id=(i:Int):=⟨id.toNat,by omega⟩;have e0:powI x (i:Int)=x i:=by unfold powI;rw[if_pos (by omega)];rfl
 rw[e0];clear e0;have hi8:i<8:=by omega
 have hi82:(i:Int)<8:=by omega
 have hc:=HR.out.cell i (by omega);go_enter func142,ntmps142;go_wp2;go_ret;exact⟨rfl,(Below.refl _ w).alloc (Nat.le_refl _) _⟩
def idsTo(x:Nat→Int)(k:Nat):List Nat:=(List.range k).filter fun i=>decide (0<x i)
def turnOf(x:Nat→Int)(t:Nat):Nat:=(idsTo x 8).getD (t % (idsTo x 8).length) 0
theorem idsTo_step(x:Nat→Int)(k:Nat):idsTo x (k+1)=idsTo x k++if 0<x k then [k] else []:=by
 unfold idsTo;rw[List.range_succ,List.filter_append];by_cases h:0<x k
 .rw [if_pos h,List.filter_cons_of_pos (by simpa using h)];rfl
 rw[if_neg h,List.filter_cons_of_neg (by simpa using h)];rfl
theorem idsTo_le(x:Nat→Int)(k:Nat):(idsTo x k).length≤k:=by
 unfold idsTo;have:=List.length_filter_le (fun i=>decide (0<x i)) (List.range k);simpa using this
theorem sumTo_ids(x:Nat→Int)(hx:Dom x):∀k,idsTo x k=[]→sumTo x k=0
 |0,_=>rfl
 |k+1,h=>by
  rw[idsTo_step] at h;have h1:=List.append_eq_nil_iff.1 h;have h2:=sumTo_ids x hx k h1.1;have h3:=hx k;have h4:¬0<x k:=fun hp=>by rw[if_pos hp] at h1;simp at h1
  simp only[sumTo];omega
theorem ids_pos{x:Nat→Int}(hx:Dom x)(hp:0<sumTo x 8):0<(idsTo x 8).length:=by
 rcases Nat.eq_zero_or_pos (idsTo x 8).length with h|h
 .have:=sumTo_ids x hx 8 (List.length_eq_zero_iff.1 h)
  omega
 exact h
def idL(l:List Nat):List Value:=l.map fun(i:Nat)=>Value.int .i64 (i:Int)
theorem proposer_any(x:Nat→Int)(t:Nat)(w:World)(hx:Dom x)(hp:0<sumTo x 8)(ht:t≤1000000000):
 Calls prog 182 #[.agg (regA x),.int .i64 (t:Int)] w fun e w'=>e=.returned (.int .i64 (turnOf x t:Int))∧Below w.heap.size w w':=by
 obtain⟨i3,hi3,hz0,hz1,hz2⟩:=info_parts Tryz.infoInt;obtain⟨HR,HPOS,HT⟩:=hide3 (RegAt.alloc w 116 x) (ids_pos hx hp) ht;clear hx hp ht;go_enter func182,ntmps182;go_wp2_with (refine wpList_load_mid rfl 46 _ rfl w.heap.size 0 rfl (powL x 8) _ (powL_range HR.out) underlying46 rfl (by rw[powL_length];exact Tryz.sizePowers) ?_)
 go_loopw [5,6,7,10] (fun v _ _ i wr=>∃k:Nat,k≤8∧i=.int .i64 k∧wr.ownsRow w.heap.size 3 1 v (idsTo x k).length (idL (idsTo x k))∧Below w.heap.size w wr) (fun _ _ _ i _=>8-(intOf i).toNat)
 case atStart=>exact⟨0,by omega,rfl,World.ownsRow_nil _ _ _ _,(Below.refl _ w).alloc (Nat.le_refl _) _⟩
 obtain⟨k,hk,rfl,hv,hb⟩:=hrel;obtain⟨HV,HB⟩:=hide2 hv hb;clear hv hb;by_cases hlt:k<8
 .have hg:=index_pow (powL x 8).toArray k (x k) hlt (powL_get x 8 k hlt);have hk2:(k:Int)<8:=by omega
  have hle:=idsTo_le x k;obtain⟨L,hL⟩:=gen (idsTo x k);rw[←hL] at HV hle;have HLL:=hide hL;clear hL;have hwz:w.heap.size≤wr.heap.size:=HB.out.size;by_cases hpk:0<x k
  .have HS:Hid (idsTo x (k+1)=L++[k]):=by unfold Hid;rw[idsTo_step,if_pos hpk,HLL.out]
   have hpd:decide (0<x k)=true:=decide_eq_true hpk;go_wp2_with (first|(at_builtin;refine wpList_append_at _ rfl _ _ 22 rfl w.heap.size 3 i3 (.int .i64 0) 1 8 underlying22 hi3 hz0 hz1 hz2 rfl (by decide) _ _ _ rfl (own_blocks HV.out (fun g _ hg=>Below.heap_alloc wr (.cells #[.int .i64 (k:Int)] 3) g hg)) ⟨wr.heap.size,0,none⟩ 1 1 [.int .i64 (k:Int)] rfl rfl ?c1 ?c2 ?c3 ?c4 ?c5 ?_)|go_in)
   case c1=>
    intro j u hj;match j,hj with
    |0,hj=>simp at hj;subst hj;simp[Addr.add]
   case c2=>first|rfl|(intro u hu;simp at hu;subst hu;rfl)
   case c3=>unfold maxLen;omega
   case c4=>omega
   case c5=>first|omega|(simp;omega)
   intro v4 w4 hown hgrow hat;have HB4:Hid (Below w.heap.size w w4):=(HB.out.alloc hwz _).grown hgrow (by simp;omega) (fun k hk=>(HV.out.lt k hk).1);have HOWN:=hide hown;clear hown hgrow hat;go_wp2;go_roundw
   case rel=>
    refine⟨k+1,by omega,by go_num,?_,HB4.out⟩;rw[HS.out,List.length_append];unfold idL;rw[List.map_append];exact HOWN.out
   case measure=>simp[intOf];omega
  have HS:Hid (idsTo x (k+1)=L):=by unfold Hid;rw[idsTo_step,if_neg hpk,HLL.out,List.append_nil]
  have hpd:decide (0<x k)=false:=decide_eq_false hpk;go_wp2;go_roundw
  case rel=>
   refine⟨k+1,by omega,by go_num,?_,HB.out⟩;rw[HS.out];exact HV.out
  case measure=>simp[intOf];omega
 obtain rfl:k=8:=by omega
 obtain⟨vp,vc,rfl⟩:=own_slice HV.out;obtain⟨n,hn⟩:∃n,n=(idsTo x 8).length:=⟨_,rfl⟩;have hn0:0<n:=by rw[hn];exact HPOS.out
 have hn8:n≤8:=by rw[hn];exact idsTo_le x 8
 obtain⟨r,hr⟩:=gen (t % n);have hrn:r<n:=by rw[hr];exact Nat.mod_lt _ hn0
 have hci:∃g,vp=some ⟨g,0,none⟩∧wr.cell? ⟨g,r,none⟩=some (.int .i64 (turnOf x t:Int)):=by
  rcases HV.out.2 with⟨_,h0⟩|⟨g,cap,cur,e0,hb,hg,hnc,hcm,hcs,htk⟩
  .omega
  cases e0;refine⟨g,rfl,?_⟩;rw[cell_of_row wr g r _ _ _ hg];have e1:(cur.toList.take ((idsTo x 8).length*1))[r]? =(idL (idsTo x 8))[r]? :=by rw[htk]
  rw[List.getElem?_take,if_pos (by omega)] at e1;rw[←Array.getElem?_toList,e1];unfold idL turnOf;rw[List.getElem?_map,←hn,←hr,List.getD_eq_getElem?_getD,List.getElem?_eq_getElem (by omega)];rfl
 obtain⟨g,rfl,hc⟩:=hci;have hrem:Int.tmod (t:Int) (n:Int)=(r:Int):=by rw[hr];rfl
 have hnz:((n:Int)==0)=false:=by simp;omega
 have hnz2:¬(n:Int)=0:=by omega
 have hrn2:(r:Int)<n:=by omega
 obtain⟨T,hTT⟩:∃T:Int,T=(turnOf x t:Int):=⟨_,rfl⟩;rw[←hTT] at hc;have HTT:=hide hTT;rw[←hn];clear HV hn hr hTT;go_wp2;go_ret;exact⟨by rw[←HTT.out];rfl,HB.out⟩
end Go.Proofs.YtcfjhbcpjpgodaaGreatDoor

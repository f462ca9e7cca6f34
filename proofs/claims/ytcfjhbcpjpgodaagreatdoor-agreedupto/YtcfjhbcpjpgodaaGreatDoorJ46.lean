/- Proved here: what the program's openAll reads out of a certificate: its messages; or why it is refused. -/
import Derived.Test.YtcfjhbcpjpgodaaGreatDoorJ33
import Derived.Test.YtcfjhbcpjpgodaaGreatDoorJ16
import Derived.Test.YtcfjhbcpjpgodaaGreatDoorJ24
import Derived.Test.YtcfjhbcpjpgodaaGreatDoorJ3
import Derived.Test.YtcfjhbcpjpgodaaGreatDoorJ45
import Derived.Test.YtcfjhbcpjpgodaaGreatDoorJ28
import Derived.Test.YtcfjhbcpjpgodaaGreatDoorJ36
import Derived.Test.YtcfjhbcpjpgodaaGreatDoorTakeL
namespace Go.Proofs.YtcfjhbcpjpgodaaGreatDoor
open Go.RowKit Go.Proofs.Tryz
set_option maxRecDepth 100000
set_option maxHeartbeats 12800000
def seenM(sg:Nat→List ByteArray)(n:Nat)(fr:Nat→ByteArray)(i:Nat):MsgV:=if signedB sg n (decV (fr i)).f (fr i) then decV (fr i) else msg0
theorem seenM_step(sg:Nat→List ByteArray)(n:Nat)(fr:Nat→ByteArray)(k:Nat):(List.range (k+1)).map (seenM sg n fr)=(List.range k).map (seenM sg n fr)++[seenM sg n fr k]:=by rw[List.range_succ,List.map_append];rfl
theorem own_not{w:World}{base e size n g:Nat}{t:TypeId}{v:Value}{xs:List Value}{C:Array Value}(h:w.ownsRow base e size v n xs)(hg:w.heap[g]? =some (.cells C t (0,0)))(ht:t≠e):some g≠v.ownBlock:=by
 intro e1;rcases h.2 with⟨rfl,_⟩|⟨g1,_,_,rfl,_,hh1,_⟩
 .cases e1
 cases e1;rw[hh1] at hg;exact ht (by simpa using(Obj.cells.inj (Option.some.inj hg)).2.1.symm)
theorem RefAt.keep{w w':World}{g:Nat}{f:Int}{b:Addr}(h:RefAt w g f b)(hb:Below w.heap.size w w'):RefAt w' g f b:=by
 unfold RefAt at h ⊢;rw[hb.block g (row_lt0 h)];exact h
def OpenAllP(sg:Nat→List ByteArray)(n:Nat)(fr:Nat→ByteArray)(m:Nat)(bF bS:Addr)(w:World)(e:Ending)(w':World):Prop:=
 Below w.heap.size w w'∧
  (((∀i,i<m→decOk (fr i)=true)∧(∀i,i<m→signedB sg n (decV (fr i)).f (fr i)=true)∧∃v,e=.returned (.tuple #[v,.nilIface])∧w'.ownsRow w.heap.size 57 7 v m (msgL ((List.range m).map fun i=>decV (fr i))))∨
   ((∃i,i<m∧decOk (fr i)=false)∧∃g f,RefAt w' g f bF∧e=.returned (.tuple #[.slice none 0 0,refV g]))∨
   ((∀i,i<m→decOk (fr i)=true)∧(∃i,i<m∧signedB sg n (decV (fr i)).f (fr i)=false)∧∃g f,RefAt w' g f bS∧e=.returned (.tuple #[.slice none 0 0,refV g])))
def UnsI(sg:Nat→List ByteArray)(n:Nat)(fr:Nat→ByteArray)(k:Nat)(bS:Addr)(wr:World)(u:Value):Prop:=
 (u=.nilIface∧∀i,i<k→signedB sg n (decV (fr i)).f (fr i)=true)∨(∃i,i<k∧signedB sg n (decV (fr i)).f (fr i)=false)∧∃g f,u=refV g∧RefAt wr g f bS
theorem UnsI.next{sg:Nat→List ByteArray}{n:Nat}{fr:Nat→ByteArray}{k:Nat}{bS:Addr}{w w':World}{u:Value}(h:UnsI sg n fr k bS w u)(hk:∀g f b,RefAt w g f b→RefAt w' g f b)(hs:signedB sg n (decV (fr k)).f (fr k)=true):UnsI sg n fr (k+1) bS w' u:=by
 rcases h with⟨h1,h2⟩|⟨⟨i,hi,h1⟩,g,f,h2,h3⟩
 .refine Or.inl ⟨h1,fun i hi=>?_⟩;by_cases e:i=k
  .rw [e];exact hs
  exact h2 i (by omega)
 exact Or.inr ⟨⟨i,by omega,h1⟩,g,f,h2,hk _ _ _ h3⟩
theorem openAll_any(F:Nat→Prop)(rb n:Nat)(sg:Nat→List ByteArray)(fr:Nat→ByteArray)(p:Option Addr)(m cap:Nat)(es:List Addr)(bF bS:Addr)(w:World)(hr:RingI F rb n sg w)(hlt:∀k,F k→k<w.heap.size)(hS:SentF es w)(he1:es[1]? =some bF)(he2:es[2]? =some bS)
 (hl:Lies w w.heap.size p m (fun i=>.string (fr i))) (hm:m≤1000000000):
 Calls prog 95 #[.pointer (some ⟨rb,0,none⟩),.slice p m cap] w (OpenAllP sg n fr m bF bS w):=by
 obtain⟨iM,hiM,hy0,hy1,hy2⟩:=info_parts Tryz.infoMsg;obtain⟨HR,HLT,HSE,HE1,HE2,HL,HM⟩:=hide7 hr hlt hS he1 he2 hl hm;have hmx:(m:Int)≤9223372036854775807:=by omega
 have HNE:Hid (bS≠bF):=fun e=>by
  obtain⟨h1',e1'⟩:=List.getElem?_eq_some_iff.1 he1;obtain⟨h2',e2'⟩:=List.getElem?_eq_some_iff.1 he2;have h3:=(List.pairwise_iff_getElem.1 hS.nodup) 1 2 h1' h2' (by omega);exact h3 (by rw[e1',e2',e])
 clear hr hlt hS he1 he2 hl hm;go_enter func95,ntmps95;go_wp2;go_loopw [6,7,9,10,11,14] (fun v u _ _ _ i wr=>∃k:Nat,k≤m∧i=.int .i64 k∧(∀i,i<k→decOk (fr i)=true)∧wr.ownsRow w.heap.size 57 7 v k (msgL ((List.range k).map (seenM sg n fr)))∧UnsI sg n fr k bS wr u∧Below w.heap.size w wr) (fun _ _ _ _ _ i _=>m-(intOf i).toNat)
 case atStart=>exact⟨0,Nat.zero_le _,rfl,fun i hi=>by omega,World.ownsRow_nil _ _ _ _,Or.inl ⟨rfl,fun i hi=>by omega⟩,Below.refl _ _⟩
 obtain⟨k,hk,rfl,hao,hv,hun,hb⟩:=hrel;obtain⟨HAO,HV,HUN,HB⟩:=hide4 hao hv hun hb;clear hao hv hun hb;by_cases hkn:k=m
 .subst hkn;rcases HUN.out with⟨rfl,hall⟩|⟨hno,g,f,rfl,hra⟩
  .have HALL:=hide hall;clear hall;go_wp2;go_ret2;refine⟨HB.out,Or.inl ⟨HAO.out,HALL.out,_,rfl,?_⟩⟩;have h:=HV.out;rw[List.map_congr_left (f:=seenM sg n fr) (g:=fun i=>decV (fr i)) (fun i hi=>by unfold seenM;rw[if_pos (HALL.out i (by simpa using hi))])] at h;exact h
  have HNO:=hide hno;have HRA:=hide hra;clear hno hra;unfold refV;go_wp2;go_ret2;exact⟨HB.out,Or.inr (Or.inr ⟨HAO.out,HNO.out,g,f,HRA.out,rfl⟩)⟩
 have hlt:k<m:=by omega
 have hlt2:(k:Int)<m:=by omega
 have HK:=hide hlt;obtain⟨pb,po,rfl,hpb,hc⟩:=HL.out k hlt;have hcr:wr.cell? ⟨pb,po+k,none⟩=some (.string (fr k)):=(HB.out.cell (p:=⟨pb,po+k,none⟩) (by exact hpb)).trans hc;obtain⟨t,ht⟩:=gen (fr k);rw[←ht] at hcr;have HT:=hide ht;have hkx:k≤1000000000:=by have:=HM.out;omega
 clear hc ht hkn;have HSE0:=hide (HSE.out.later HB.out);have HO:=hide (open_any F rb n sg t bF bS wr (HR.out.frame (fun k hk=>HB.out.block k (HLT.out k hk))) (fun k hk=>Nat.lt_of_lt_of_le (HLT.out k hk) HB.out.size) (HSE0.out.cell 1 _ _ rfl HE1.out) (HSE0.out.cell 2 _ _ rfl HE2.out));obtain⟨mm,hmm⟩:=gen (decV t);obtain⟨K,H,R,Fm,V,nl,s⟩:=mm;have HMM:=hide hmm;clear hmm;go_wp2_with fail
 refine HO.out.mono ?_;clear HO;rintro e w1 ⟨hb1,hcase⟩;have HBW:Hid (Below w.heap.size w w1):=HB.out.trans (hb1.mono HB.out.size);have HV1:=hide (own_keep HV.out hb1);have hws:w.heap.size≤w1.heap.size:=HBW.out.size;have HSE1:=hide (HSE0.out.later hb1);have HRK1:Hid (∀g f b,RefAt wr g f b→RefAt w1 g f b):=fun g f b h=>h.keep hb1;clear hb1 hcr;rcases hcase with⟨hd,hs,rfl⟩|⟨hd,g,hg,hra,rfl⟩|⟨hd,hs,g,hg,hra,rfl⟩
 .rw [←HMM.out];have HD:Hid (decOk (fr k)=true):=by unfold Hid;rw[←HT.out];exact hd
  have HSG:Hid (signedB sg n (decV (fr k)).f (fr k)=true):=by unfold Hid;rw[←HT.out];exact hs
  have seenM_yes:seenM sg n fr k=⟨K,H,R,Fm,V,nl,s⟩:=by unfold seenM;rw[if_pos HSG.out,←HT.out,HMM.out]
  have HSY:=hide seenM_yes;clear hd hs seenM_yes;unfold MsgV.cells;go_wp2_with (first|(refine wpList_store_new rfl 57 _ _ rfl w1 #[.int .i64 K,.int .i64 H,.int .i64 R,.int .i64 Fm,.int .i64 V,.bool nl,.string s] rfl rfl 57 _ rfl (by simp[Value.oneCell']) Tryz.sizeMsg ?_;intro w2 hq2 hb2 hz2;have HQ2:=hide hq2;have HV2:=hide (own_keep HV1.out hb2);have HS2:=hide (HSE1.out.later hb2);have hcf:w2.cell? ⟨2,0,none⟩=some (.iface 294 (.pointer (some bF))):=HS2.out.cell 1 _ _ rfl HE1.out;have HB2:=hide hb2;have HZ2:=hide hz2;clear hq2 hz2 hb2)|fail)
  refine(is_nil bF w2).mono ?_;rintro e wy ⟨rfl,hwy⟩;have hwv:=hwy.symm;clear hwy;subst hwv;clear hcf;go_wp2_with (first|(refine wpList_load_row rfl 57 _ rfl w1.heap.size rfl 57 #[.int .i64 K,.int .i64 H,.int .i64 R,.int .i64 Fm,.int .i64 V,.bool nl,.string s] (0,0) _ HQ2.out underlying57 rfl Tryz.sizeMsg ?_)|(at_builtin;refine wpList_append_at _ rfl _ _ 185 rfl w.heap.size 57 iM _ 7 64 underlying185 hiM hy0 hy1 hy2 rfl (by decide) _ _ _ rfl (own_keep HV2.out ((Below.refl _ w2).alloc (Nat.le_refl _) (.cells #[.int .i64 K,.int .i64 H,.int .i64 R,.int .i64 Fm,.int .i64 V,.bool nl,.string s] 57))) ⟨w2.heap.size,0,none⟩ 1 1 [.int .i64 K,.int .i64 H,.int .i64 R,.int .i64 Fm,.int .i64 V,.bool nl,.string s] rfl rfl ?c1 ?c2 ?c3 ?c4 ?c5 ?_)|go_in)
  case c1=>
   intro j u hj;rw[addr_add,Nat.zero_add];rw[cell_of_row _ _ j _ _ _ (heap_alloc_new w2 (.cells #[.int .i64 K,.int .i64 H,.int .i64 R,.int .i64 Fm,.int .i64 V,.bool nl,.string s] 57))];simpa using hj
  case c2=>simp[Value.oneCell']
  case c3=>unfold maxLen;omega
  case c4=>omega
  case c5=>have:=HZ2.out;simp;omega
  intro v5 w5 hown5 hgrow5 hat5;have hz2:=HZ2.out;have HO5:Hid (w5.ownsRow w.heap.size 57 7 v5 (k+1) (msgL ((List.range (k+1)).map (seenM sg n fr)))):=by
   unfold Hid;rw[seenM_step,msgL_append,HSY.out];exact hown5
  have HB25:Hid (Below w.heap.size w2 w5):=((Below.refl _ w2).alloc (by omega) _).grown hgrow5 (by simp;omega) (fun k hk=>(HV2.out.lt k hk).1);have HB5:Hid (Below w.heap.size w w5):=(HBW.out.trans (HB2.out.mono hws)).trans HB25.out;have HG5:Hid (∀g f b,RefAt w2 g f b→RefAt w5 g f b):=fun g f b h=>by
   unfold RefAt at h ⊢;rw[hgrow5.block g (by have:=row_lt0 h;simp;omega) (own_not HV2.out h (by decide)),Below.heap_alloc _ _ _ (row_lt0 h)];exact h
  clear hown5 hgrow5 hat5 hz2;go_wp2;go_roundw
  case rel=>exact⟨k+1,HK.out,by go_num,fun i hi=>(by by_cases e:i=k;(rw[e];exact HD.out);exact HAO.out i (by omega)),HO5.out,HUN.out.next (fun g f b h=>HG5.out g f b ((HRK1.out g f b h).keep HB2.out)) HSG.out,HB5.out⟩
  case measure=>have:=HK.out;simp[intOf];omega
 .have HD:Hid (decOk (fr k)=false):=by unfold Hid;rw[←HT.out];exact hd
  have HRA:=hide hra;clear hd hg hra;unfold MsgV.cells msg0 refV;go_wp2_with (first|(refine wpList_store_new rfl 57 _ _ rfl w1 #[.int .i64 0,.int .i64 0,.int .i64 0,.int .i64 0,.int .i64 0,.bool false,.string ⟨#[]⟩] rfl rfl 57 _ rfl (by simp[Value.oneCell']) Tryz.sizeMsg ?_;intro w2 hq2 hb2 hz2;have HQ2:=hide hq2;have HV2:=hide (own_keep HV1.out hb2);have HS2:=hide (HSE1.out.later hb2);have hcf:w2.cell? ⟨2,0,none⟩=some (.iface 294 (.pointer (some bF))):=HS2.out.cell 1 _ _ rfl HE1.out;have HB2:=hide hb2;have HZ2:=hide hz2;clear hq2 hz2 hb2)|fail)
  refine(is_refused_same g (-1) bF w2 (HRA.out.keep HB2.out)).mono ?_;rintro e wy ⟨rfl,hwy⟩;have hwv:=hwy.symm;clear hwy;subst hwv;go_wp2;go_ret2;exact⟨HBW.out.trans (HB2.out.mono hws),Or.inr (Or.inl ⟨⟨k,HK.out,HD.out⟩,g,-1,HRA.out.keep HB2.out,rfl⟩)⟩
 have HD:Hid (decOk (fr k)=true):=by unfold Hid;rw[←HT.out];exact hd
 have HSG:Hid (signedB sg n (decV (fr k)).f (fr k)=false):=by unfold Hid;rw[←HT.out];exact hs
 have seenM_no:seenM sg n fr k=msg0:=by unfold seenM;rw[HSG.out];rfl
 obtain⟨HSY,HRA⟩:=hide2 seenM_no hra;clear hd hs hg hra seenM_no;unfold MsgV.cells msg0 refV;obtain⟨cF,tF,hbF⟩:=HSE1.out.blk bF (List.mem_of_getElem? HE1.out);obtain⟨cS,tS,hbS⟩:=HSE1.out.blk bS (List.mem_of_getElem? HE2.out);obtain⟨HBF,HBS⟩:=hide2 hbF hbS;clear hbF hbS;go_wp2_with (first|(refine wpList_store_new rfl 57 _ _ rfl w1 #[.int .i64 0,.int .i64 0,.int .i64 0,.int .i64 0,.int .i64 0,.bool false,.string ⟨#[]⟩] rfl rfl 57 _ rfl (by simp[Value.oneCell']) Tryz.sizeMsg ?_;intro w2 hq2 hb2 hz2;have HQ2:=hide hq2;have HV2:=hide (own_keep HV1.out hb2);have HS2:=hide (HSE1.out.later hb2);have hcf:w2.cell? ⟨2,0,none⟩=some (.iface 294 (.pointer (some bF))):=HS2.out.cell 1 _ _ rfl HE1.out;have HB2:=hide hb2;have HZ2:=hide hz2;clear hq2 hz2 hb2)|fail)
 refine(is_refused_other g _ bS bF _ _ _ _ w2 (HRA.out.keep HB2.out) HNE.out (blk HBS.out HB2.out) (blk HBF.out HB2.out)).mono ?_;rintro e wy ⟨rfl,hwy⟩;have hwv:=hwy.symm;clear hwy;subst hwv;clear hcf;go_wp2_with (first|(refine wpList_load_row rfl 57 _ rfl w1.heap.size rfl 57 #[.int .i64 0,.int .i64 0,.int .i64 0,.int .i64 0,.int .i64 0,.bool false,.string ⟨#[]⟩] (0,0) _ HQ2.out underlying57 rfl Tryz.sizeMsg ?_)|(at_builtin;refine wpList_append_at _ rfl _ _ 185 rfl w.heap.size 57 iM _ 7 64 underlying185 hiM hy0 hy1 hy2 rfl (by decide) _ _ _ rfl (own_keep HV2.out ((Below.refl _ w2).alloc (Nat.le_refl _) (.cells #[.int .i64 0,.int .i64 0,.int .i64 0,.int .i64 0,.int .i64 0,.bool false,.string ⟨#[]⟩] 57))) ⟨w2.heap.size,0,none⟩ 1 1 [.int .i64 0,.int .i64 0,.int .i64 0,.int .i64 0,.int .i64 0,.bool false,.string ⟨#[]⟩] rfl rfl ?c1 ?c2 ?c3 ?c4 ?c5 ?_)|go_in)
 case c1=>
  intro j u hj;rw[addr_add,Nat.zero_add];rw[cell_of_row _ _ j _ _ _ (heap_alloc_new w2 (.cells #[.int .i64 0,.int .i64 0,.int .i64 0,.int .i64 0,.int .i64 0,.bool false,.string ⟨#[]⟩] 57))];simpa using hj
 case c2=>simp[Value.oneCell']
 case c3=>unfold maxLen;omega
 case c4=>omega
 case c5=>have:=HZ2.out;simp;omega
 intro v5 w5 hown5 hgrow5 hat5;have hz2:=HZ2.out;have HO5:Hid (w5.ownsRow w.heap.size 57 7 v5 (k+1) (msgL ((List.range (k+1)).map (seenM sg n fr)))):=by
  unfold Hid;rw[seenM_step,msgL_append,HSY.out];exact hown5
 have HB25:Hid (Below w.heap.size w2 w5):=((Below.refl _ w2).alloc (by omega) _).grown hgrow5 (by simp;omega) (fun k hk=>(HV2.out.lt k hk).1);have HB5:Hid (Below w.heap.size w w5):=(HBW.out.trans (HB2.out.mono hws)).trans HB25.out;have HG5:Hid (∀g f b,RefAt w2 g f b→RefAt w5 g f b):=fun g f b h=>by
  unfold RefAt at h ⊢;rw[hgrow5.block g (by have:=row_lt0 h;simp;omega) (own_not HV2.out h (by decide)),Below.heap_alloc _ _ _ (row_lt0 h)];exact h
 clear hown5 hgrow5 hat5 hz2;go_wp2;go_roundw
 case rel=>exact⟨k+1,HK.out,by go_num,fun i hi=>(by by_cases e:i=k;(rw[e];exact HD.out);exact HAO.out i (by omega)),HO5.out,Or.inr ⟨⟨k,by omega,HSG.out⟩,g,_,rfl,HG5.out _ _ _ (HRA.out.keep HB2.out)⟩,HB5.out⟩
 case measure=>have:=HK.out;simp[intOf];omega
def TypAt(w:World):Prop:=w.cell? ⟨12,0,none⟩=some (.iface 211 (.agg #[.pointer (some ⟨16,42,none⟩)]))
theorem TypAt.below{w w':World}(h:TypAt w)(hb:Below w.heap.size w w'):TypAt w':=by
 unfold TypAt at h ⊢;rw[hb.cell (p:=⟨12,0,none⟩) (by exact World.block_lt_of_cell? _ _ h)];exact h
theorem why_any(g:Nat)(f:Int)(b:Addr)(w:World)(hr:RefAt w g f b)(hT:TypAt w):
 Calls prog 96 #[refV g] w fun e w'=>e=.returned (.iface 294 (.pointer (some b)))∧Below w.heap.size w w':=by
 have hc1:w.cell? ⟨g,1,none⟩=some (.iface 294 (.pointer (some b))):=cell_of_row w g 1 _ _ _ hr;have hgl:g<w.heap.size:=row_lt0 hr;have HT:=hide hT;clear hr hT;unfold refV;go_enter func96,ntmps96;go_wp2_with fail
 refine(as_hit ⟨g,0,none⟩ ⟨w.heap.size,0,none⟩ (.pointer none) _ (HT.out.below ((Below.refl _ w).alloc (Nat.le_refl _) _)) (by simp) (by simp)).mono ?_;rintro e w1 ⟨rfl,hw1⟩;have HB:Hid (Below w.heap.size w w1):=by
  unfold Hid;rw[hw1];exact(((((((Below.refl _ w).alloc (Nat.le_refl _) _).alloc (by simp) _).alloc (by simp;omega) _).alloc (by simp;omega) _).alloc (by simp;omega) _).setCell (by exact Nat.le_refl _) _)
 have q0:w1.cell? ⟨w.heap.size,0,none⟩=some (.pointer (some ⟨g,0,none⟩)):=by
  rw[hw1];refine World.cell?_setCell_same _ _ _ (u:=.pointer none) ?_;rw[World.cell?_alloc_lt _ _ ⟨w.heap.size,0,none⟩ (by simp;omega),World.cell?_alloc_lt _ _ ⟨w.heap.size,0,none⟩ (by simp;omega),World.cell?_alloc_lt _ _ ⟨w.heap.size,0,none⟩ (by simp;omega),World.cell?_alloc_lt _ _ ⟨w.heap.size,0,none⟩ (by simp)];exact cell_of_row _ _ 0 _ _ _ (heap_alloc_new w _)
 have q1:w1.cell? ⟨g,1,none⟩=some (.iface 294 (.pointer (some b))):=(HB.out.cell (p:=⟨g,1,none⟩) (by exact hgl)).trans hc1;clear hw1 hc1;go_wp2;go_ret;exact⟨rfl,HB.out⟩
theorem own_msgsD{w:World}{base m:Nat}{v:Value}{fr:Nat→ByteArray}(h:w.ownsRow base 57 7 v m (msgL ((List.range m).map fun i=>decV (fr i)))):∃p c,v=.slice p m c∧MsgsAt w w.heap.size p m (fun i=>decV (fr i)):=by
 obtain⟨L,hL⟩:∃L,L=(List.range m).map fun i=>decV (fr i):=⟨_,rfl⟩;have hl:L.length=m:=by rw[hL];simp
 rw[←hL,←hl] at h;obtain⟨p,c,e,hm⟩:=own_msgs h;rw[hl] at e hm;refine⟨p,c,e,fun i hi=>?_⟩;have h1:=hm i hi;have e1:L.getD i msg0=decV (fr i):=by rw[hL,List.getD_eq_getElem?_getD];simp[hi]
 simp only[e1] at h1;exact h1
section
variable{P:Program}
theorem wpList_store_midG{ops:Array Oper}{rest:List Oper}{op:Oper}{a:Act}{w:World}{Q:Exit→Act→World→Prop}(hgd:op.guard=none)(ty:TypeId)(p y:Operand)(ho:op.op=.store ty p y)
 (g off:Nat) (D:Array Value) (hp:a.eval p=.pointer (some ⟨g,off,none⟩)) (hy:a.eval y=.agg D) (t:TypeId) (C:Array Value) (hg:w.heap[g]? =some (.cells C t (0,0))) (hC:off+D.size≤C.size) (h1:∀v∈D.toList,v.oneCell'=true) (hi:(P.info? ty).map (·.size)=some D.size)
 (h:∀w',w'.heap[g]? =some (.cells (C.toList.take off++D.toList++C.toList.drop (off+D.size)).toArray t (0,0))→Only g w w'→wpList P ops Q rest (a.put op.dst undef) w'):wpList P ops Q (op::rest) a w:=
 wpList_plain hgd fun _ hK=>by
  have hs:=run_storeCells_at P g off t D.toList 0 C w hg (by simp;omega) h1;have hr:(storeVar ty ⟨g,off,none⟩ (.agg D)).run P w=.ok () (w.setRow g (C.toList.take off++D.toList++C.toList.drop (off+D.size)).toArray):=by
   simp only[Nat.add_zero,Array.length_toList] at hs;cases hq:P.info? ty with
   |none=>simp[hq] at hi
   |some i=>
    have hz:i.size=D.size:=by simpa [hq] using hi
    simp[storeVar,sizeOf,typeInfo,hq,Value.cells,hz,hs]
  unfold Oper.wp execOp;simp only[ho,hp,hy,Instr.storeAt,Instr.sureAddr,Sem.run_bind,Sem.run_pure,Result.andThen_ok,hr];exact hK _ _ (h _ (setRow_heap _ _ C _ t (0,0) hg) (only_setRow _ _ _))
end
theorem clientA_reg(rb:Nat)(x y:Nat→Int)(h:Int):((clientA rb x h).toList.take 1++(regA y).toList++(clientA rb x h).toList.drop (1+(regA y).size)).toArray=clientA rb y h:=by
 unfold clientA regA;simp[regL_length]
theorem clientA_height(rb:Nat)(x:Nat→Int)(h h':Int):(clientA rb x h).setIfInBounds 35 (.int .i64 h')=clientA rb x h':=by
 unfold clientA;simp[regL_length]
theorem behindC_yes(x:Nat→Int)(s:ByteArray)(b:Addr)(m:Int)(z:Nat→Int)(w:World)(hx:Dom x)(hs:s.size<4294967281)(hg:w.cell? ⟨11,0,none⟩=some (.iface 294 (.pointer (some b))))(hm:w.cell? ⟨13,0,none⟩=some (.int .i64 m))(h:(z,true)=behindR x s):
 Calls prog 94 #[.agg (regA x),.string s] w fun e w'=>e=.returned (.tuple #[.agg (regA z),.nilIface])∧Below w.heap.size w w':=by
 have:=behindP_any x s b m w hx hs hg hm;rw[←h] at this;exact this
theorem behindC_no(x:Nat→Int)(s:ByteArray)(b:Addr)(m:Int)(z:Nat→Int)(w:World)(hx:Dom x)(hs:s.size<4294967281)(hg:w.cell? ⟨11,0,none⟩=some (.iface 294 (.pointer (some b))))(hm:w.cell? ⟨13,0,none⟩=some (.int .i64 m))(h:(z,false)=behindR x s):
 Calls prog 94 #[.agg (regA x),.string s] w fun e w'=>e=.returned (.tuple #[.agg (regA reg0),.iface 294 (.pointer (some b))])∧Below w.heap.size w w':=by
 have:=behindP_any x s b m w hx hs hg hm;rw[←h] at this;exact this
def ButP(g:Nat)(w w':World):Prop:=SameBut (fun k=>k=g) w w'
def AcceptP(cb rb n:Nat)(sg:Nat→List ByteArray)(x:Nat→Int)(h:Int)(block:ByteArray)(fr:Nat→ByteArray)(m:Nat)(es:List Addr)(w:World)(e:Ending)(w':World):Prop:=
 (∃c b,e=.returned (.iface 294 (.pointer (some b)))∧es[c]? =some b∧Below w.heap.size w w'∧
  ((c=11∧(behindR x block).2=false)∨(c=1∧(behindR x block).2=true∧∃i,i<m∧decOk (fr i)=false)∨
   (c=2∧(behindR x block).2=true∧(∀i,i<m→decOk (fr i)=true)∧∃i,i<m∧signedB sg n (decV (fr i)).f (fr i)=false)∨
   (c=9∧(behindR x block).2=true∧(∀i,i<m→decOk (fr i)=true)∧(∀i,i<m→signedB sg n (decV (fr i)).f (fr i)=true)∧¬CertOk x h block (fun i=>decV (fr i)) m)))∨
 (e=.returned .nilIface∧(behindR x block).2=true∧(∀i,i<m→decOk (fr i)=true)∧(∀i,i<m→signedB sg n (decV (fr i)).f (fr i)=true)∧CertOk x h block (fun i=>decV (fr i)) m∧
  ClientAt w' cb rb (behindR x block).1 (h+1)∧ButP cb w w')
theorem accept_any(F:Nat→Prop)(cb rb n:Nat)(sg:Nat→List ByteArray)(x:Nat→Int)(h:Int)(block:ByteArray)(fr:Nat→ByteArray)(p:Option Addr)(m cap:Nat)(es:List Addr)(a1 a2 a9 a11:Addr)(mx:Int)(w:World)(hx:Dom x)(hh0:0≤h)(hh:h≤1000000000)(hs:block.size<4294967281)
 (hc:ClientAt w cb rb x h) (hr:RingI F rb n sg w) (hlt:∀k,F k→k<w.heap.size) (hS:SentF es w) (he1:es[1]? =some a1) (he2:es[2]? =some a2) (he9:es[9]? =some a9) (he11:es[11]? =some a11) (hT:TypAt w) (hmx:w.cell? ⟨13,0,none⟩=some (.int .i64 mx))
 (hl:Lies w w.heap.size p m (fun i=>.string (fr i))) (hm:m≤1000000000):
 Calls prog 46 #[.pointer (some ⟨cb,0,none⟩),.string block,.slice p m cap] w (AcceptP cb rb n sg x h block fr m es w):=by
 obtain⟨HX,HC,HR,HLT,HSE,HE1,HE2,HE9⟩:=hide8 hx hc hr hlt hS he1 he2 he9;obtain⟨HE11,HT,HL,HM,HMX,HSZ⟩:=hide6 he11 hT hl hm hmx hs;have hc0:w.cell? ⟨cb,0,none⟩=some (.pointer (some ⟨rb,0,none⟩)):=hc.ring;have hcbl:cb<w.heap.size:=row_lt0 hc;clear hx hc hr hlt hS he1 he2 he9 he11 hT hl hm hmx hs;obtain⟨z,hz⟩:=gen (behindR x block);obtain⟨y,o⟩:=z;have HZ:=hide hz;have z0:=regA_zero;clear hz;cases o with
 |false=>
  go_enter func46,ntmps46;go_wp2_with (first|(refine wpList_load_mid rfl 116 _ rfl cb 1 rfl (regL x) _ HC.out.reg underlying116 rfl (by rw[Tryz.sizeRegistry];simp[regL]) ?_)|fail)
  refine(behindC_no x block a11 mx y w HX.out HSZ.out (HSE.out.cell 11 _ _ rfl HE11.out) HMX.out HZ.out).mono ?_;rintro e w1 ⟨rfl,hb1⟩;have HB1:=hide hb1;clear hb1;go_wp2_with (first|(refine wpList_store_reg rfl 116 _ _ rfl w1.heap.size reg0 rfl rfl 116 (regA reg0) (heap_alloc_new w1 _) (regA_size _) Tryz.sizeRegistry ?_;intro w2 hq2 ho2;have HQ2:=hide hq2;have HB2:Hid (Below w.heap.size w w2):=(HB1.out.alloc HB1.out.size _).trans (ho2.below HB1.out.size);have HZ2:Hid (w1.heap.size<w2.heap.size):=row_lt0 hq2;have hcr:w2.cell? ⟨cb,0,none⟩=some (.pointer (some ⟨rb,0,none⟩)):=(HB2.out.cell (p:=⟨cb,0,none⟩) (by exact hcbl)).trans hc0;clear hq2 ho2)|fail)
  go_ret;exact Or.inl ⟨11,a11,rfl,HE11.out,HB2.out,Or.inl ⟨rfl,by rw[←HZ.out]⟩⟩
 |true=>
  go_enter func46,ntmps46;go_wp2_with (first|(refine wpList_load_mid rfl 116 _ rfl cb 1 rfl (regL x) _ HC.out.reg underlying116 rfl (by rw[Tryz.sizeRegistry];simp[regL]) ?_)|fail)
  refine(behindC_yes x block a11 mx y w HX.out HSZ.out (HSE.out.cell 11 _ _ rfl HE11.out) HMX.out HZ.out).mono ?_;rintro e w1 ⟨rfl,hb1⟩;have HB1:=hide hb1;clear hb1;go_wp2_with (first|(refine wpList_store_reg rfl 116 _ _ rfl w1.heap.size y rfl rfl 116 (regA reg0) (heap_alloc_new w1 _) (regA_size _) Tryz.sizeRegistry ?_;intro w2 hq2 ho2;have HQ2:=hide hq2;have HB2:Hid (Below w.heap.size w w2):=(HB1.out.alloc HB1.out.size _).trans (ho2.below HB1.out.size);have HZ2:Hid (w1.heap.size<w2.heap.size):=row_lt0 hq2;have hcr:w2.cell? ⟨cb,0,none⟩=some (.pointer (some ⟨rb,0,none⟩)):=(HB2.out.cell (p:=⟨cb,0,none⟩) (by exact hcbl)).trans hc0;clear hq2 ho2)|fail)
  have HS2:=hide (HSE.out.later HB2.out);have HG:Hid ((behindR x block).2=true):=by unfold Hid;rw[←HZ.out]
  have HO:=hide (openAll_any F rb n sg fr p m cap es a1 a2 w2 (HR.out.frame (fun k hk=>HB2.out.block k (HLT.out k hk))) (fun k hk=>Nat.lt_of_lt_of_le (HLT.out k hk) HB2.out.size) HS2.out HE1.out HE2.out ((HL.out.below HB2.out).more HB2.out.size) HM.out);refine HO.out.mono ?_;clear HO;rintro e w3 ⟨hb3,⟨hok,hsg,v,rfl,hov⟩|⟨hno,g,f,hra,rfl⟩|⟨hok,hno,g,f,hra,rfl⟩⟩
  .obtain ⟨mp,mc,rfl,hms⟩:=own_msgsD hov
   obtain⟨HOK,HSG⟩:=hide2 hok hsg;have HB3:Hid (Below w.heap.size w w3):=HB2.out.trans (hb3.mono HB2.out.size);have HQ3:=hide (blk HQ2.out hb3);have HZ3:Hid (w1.heap.size<w3.heap.size):=Nat.lt_of_lt_of_le HZ2.out hb3.size;have HID:=hide (isDecided_any cb rb x h block (fun i=>decV (fr i)) mp m mc w3 HX.out (HC.out.keep HB3.out) hms (fun i hi=>by have:=decV_ok (HOK.out i hi);omega) HM.out);clear hok hsg hov hms hb3 hcr;go_wp2_with fail
   refine HID.out.mono ?_;clear HID;rintro e w4 ⟨r,rfl,hiff,hb4⟩;have HB4:Hid (Below w.heap.size w w4):=HB3.out.trans (hb4.mono HB3.out.size);obtain⟨HQ4,HC4⟩:=hide2 (blk HQ3.out hb4) (HC.out.keep HB4.out);have hc9:w4.cell? ⟨9,0,none⟩=some (.iface 294 (.pointer (some a9))):=(HSE.out.later HB4.out).cell 9 _ _ rfl HE9.out;have HZ4:Hid (w1.heap.size<w4.heap.size):=Nat.lt_of_lt_of_le HZ3.out hb4.size;have HIF:=hide hiff;clear hiff hb4;cases r with
   |false=>
    go_wp2;go_ret;exact Or.inl ⟨9,a9,rfl,HE9.out,HB4.out,Or.inr (Or.inr (Or.inr ⟨rfl,HG.out,HOK.out,HSG.out,fun hc=>(by have:=HIF.out.2 hc;cases this)⟩))⟩
   |true=>
    have hne:¬w1.heap.size=cb:=by have:=HB1.out.size;omega
    go_wp2_with (first|(refine wpList_load_reg rfl 116 _ rfl w1.heap.size rfl 116 y _ HQ4.out underlying116 rfl Tryz.sizeRegistry ?_)|(refine wpList_store_midG rfl 116 _ _ rfl cb 1 (regA y) rfl rfl 170 _ HC4.out (by rw[clientA_size,regA_size];decide) (regA_one y) (by rw[regA_size];exact Tryz.sizeRegistry) ?_;intro w5 hq5 ho5;rw[clientA_reg] at hq5;have HC5:Hid (ClientAt w5 cb rb y h):=hq5;have hch:w5.cell? ⟨cb,35,none⟩=some (.int .i64 h):=HC5.out.height;have hcf:w5.frozen? ⟨cb,35,none⟩=false:=frozen_row HC5.out 35;have HO5:=hide ho5;clear hq5 ho5)|fail)
    go_ret;refine Or.inr ⟨rfl,HG.out,HOK.out,HSG.out,HIF.out.1 (by trivial),?_,?_⟩
    .have h5:=HC5.out;unfold ClientAt at h5 ⊢;rw[←HZ.out,←clientA_height rb y h (h+1)];simp[World.setCell,Array.getElem?_modify,h5]
    have hon:=only_setCell w5 cb 35 (.int .i64 (h+1));refine⟨?_,?_,?_,?_,fun k hk hne=>?_⟩
    .rw [hon.os,HO5.out.os,HB4.out.os]
    .rw [hon.tape,HO5.out.tape,HB4.out.tape]
    .rw [hon.output,HO5.out.output,HB4.out.output]
    .rw [hon.size,HO5.out.size];exact HB4.out.size
    rw[hon.block k hne,HO5.out.block k hne,HB4.out.block k hk]
  .have HNO:=hide hno;have HRA:=hide hra;have HB3:Hid (Below w.heap.size w w3):=HB2.out.trans (hb3.mono HB2.out.size);clear hno hra hb3 hcr;have HW:=hide (why_any g f a1 w3 HRA.out (HT.out.below HB3.out));unfold refV at HW ⊢;go_wp2_with fail
   refine HW.out.mono ?_;rintro e w4 ⟨rfl,hb4⟩;have HB4:Hid (Below w.heap.size w w4):=HB3.out.trans (hb4.mono HB3.out.size);clear hb4;go_wp2;go_ret;exact Or.inl ⟨1,a1,rfl,HE1.out,HB4.out,Or.inr (Or.inl ⟨rfl,HG.out,HNO.out⟩)⟩
  have HNO:=hide hno;obtain⟨HOK,HRA⟩:=hide2 hok hra;have HB3:Hid (Below w.heap.size w w3):=HB2.out.trans (hb3.mono HB2.out.size);clear hno hra hok hb3 hcr;have HW:=hide (why_any g f a2 w3 HRA.out (HT.out.below HB3.out));unfold refV at HW ⊢;go_wp2_with fail
  refine HW.out.mono ?_;rintro e w4 ⟨rfl,hb4⟩;have HB4:Hid (Below w.heap.size w w4):=HB3.out.trans (hb4.mono HB3.out.size);clear hb4;go_wp2;go_ret;exact Or.inl ⟨2,a2,rfl,HE2.out,HB4.out,Or.inr (Or.inr (Or.inl ⟨rfl,HG.out,HOK.out,HNO.out⟩))⟩
theorem Tryz.buildClient(rb:Nat)(y:Nat→Int)(W:World):(Instr.build 170 #[(0,.pointer (some ⟨rb,0,none⟩)),(1,.agg (regA y))]).run prog W=.ok (.agg (clientA rb y 0)) W:=by kernel_rfl
theorem Tryz.boxClient(rb:Nat)(y:Nat→Int)(h:Int)(W:World):(Instr.box 170 (.agg (clientA rb y h))).run prog W=.ok (.pointer (some ⟨W.heap.size,0,none⟩)) (W.alloc (.cells (clientA rb y h) 170)):=by kernel_rfl
theorem Tryz.sizeToldC:(prog.info? 72).map (·.size)=some 3:=by kernel_rfl
section
variable{P:Program}
theorem wpList_build2{ops:Array Oper}{rest:List Oper}{op:Oper}{a:Act}{w:World}{Q:Exit→Act→World→Prop}(hgd:op.guard=none)(t:TypeId)(i0 i1:Nat)(x0 x1:Operand)(ho:op.op=.build t #[(i0,x0),(i1,x1)])(v0 v1 v:Value)
 (h0:a.eval x0=v0) (h1:a.eval x1=v1) (hr:(Instr.build t #[(i0,v0),(i1,v1)]).run P w=.ok v w) (h:wpList P ops Q rest (a.put op.dst v) w):wpList P ops Q (op::rest) a w:=
 wpList_plain hgd fun _ hK=>by
  unfold Oper.wp execOp;simp only[ho,List.map_toArray,List.map_cons,List.map_nil,h0,h1,hr,Sem.run_bind,Sem.run_pure,Result.andThen_ok];exact hK _ _ h
theorem wpList_box_run{ops:Array Oper}{rest:List Oper}{op:Oper}{a:Act}{w w':World}{Q:Exit→Act→World→Prop}(hgd:op.guard=none)(t:TypeId)(x:Operand)(ho:op.op=.box t x)(vx v:Value)
 (hx:a.eval x=vx) (hr:(Instr.box t vx).run P w=.ok v w') (h:wpList P ops Q rest (a.put op.dst v) w'):wpList P ops Q (op::rest) a w:=
 wpList_plain hgd fun _ hK=>by
  unfold Oper.wp execOp;simp only[ho,hx,hr,Sem.run_bind,Sem.run_pure,Result.andThen_ok];exact hK _ _ h
end
theorem clientHeight_any(cb rb:Nat)(x:Nat→Int)(h:Int)(w:World)(hc:ClientAt w cb rb x h):Calls prog 36 #[.pointer (some ⟨cb,0,none⟩)] w fun e w'=>e=.returned (.int .i64 h)∧w'=w:=by
 have hch:=hc.height;clear hc;go_enter func36,ntmps36;go_wp2;go_ret;exact⟨rfl,rfl⟩
theorem genC_yes(g:Nat→Int)(p:Option Addr)(n cap:Nat)(b:Addr)(y:Nat→Int)(w:World)(hl:Lies w w.heap.size p n (fun i=>.int .i64 (g i)))(hg:w.cell? ⟨1,0,none⟩=some (.iface 294 (.pointer (some b))))(h:genR g n=(y,true)):
 Calls prog 52 #[.slice p n cap] w fun e w'=>e=.returned (.tuple #[.agg (regA y),.nilIface])∧Below w.heap.size w w':=by
 have:=genP_any g p n cap b w hl hg;rw[h] at this;exact this
theorem follow_yes(rb:Nat)(g:Nat→Int)(p:Option Addr)(n cap:Nat)(b:Addr)(y:Nat→Int)(w:World)(hl:Lies w w.heap.size p n (fun i=>.int .i64 (g i)))(hg:w.cell? ⟨1,0,none⟩=some (.iface 294 (.pointer (some b))))(h:genR g n=(y,true)):
 Calls prog 33 #[.pointer (some ⟨rb,0,none⟩),.slice p n cap] w fun e w'=>∃cb,w.heap.size≤cb∧e=.returned (.tuple #[.pointer (some ⟨cb,0,none⟩),.nilIface])∧ClientAt w' cb rb y 0∧Below w.heap.size w w':=by
 have HG:=hide (genC_yes g p n cap b y w hl hg h);have z0:=regA_zero;clear hl hg h;go_enter func33,ntmps33;go_wp2_with fail
 refine HG.out.mono ?_;rintro e w1 ⟨rfl,hb1⟩;have HB1:=hide hb1;clear hb1;go_wp2_with (first|(refine wpList_store_reg rfl 116 _ _ rfl w1.heap.size y rfl rfl 116 (regA reg0) (heap_alloc_new w1 _) (regA_size _) Tryz.sizeRegistry ?_;intro w2 hq2 ho2;have HQ2:=hide hq2;have HB2:Hid (Below w.heap.size w w2):=(HB1.out.alloc HB1.out.size _).trans (ho2.below HB1.out.size);clear hq2 ho2)|(refine wpList_load_reg rfl 116 _ rfl w1.heap.size rfl 116 y _ HQ2.out underlying116 rfl Tryz.sizeRegistry ?_)|(refine wpList_build2 rfl 170 0 1 _ _ rfl (.pointer (some ⟨rb,0,none⟩)) (.agg (regA y)) _ rfl rfl (Tryz.buildClient rb y _) ?_)|(refine wpList_box_run rfl 170 _ rfl (.agg (clientA rb y 0)) _ rfl (Tryz.boxClient rb y 0 _) ?_)|fail)
 go_ret2;exact⟨w2.heap.size,HB2.out.size,rfl,heap_alloc_new w2 _,HB2.out.alloc HB2.out.size _⟩
theorem clientRegistry_any(cb rb:Nat)(x:Nat→Int)(h:Int)(w:World)(hc:ClientAt w cb rb x h)(hx:Dom x):
 Calls prog 88 #[.pointer (some ⟨cb,0,none⟩)] w fun e w'=>∃p r,e=.returned (.agg #[p,.string (nameB (memb x 26)),r])∧w'.ownsRow w.heap.size 3 1 p 8 (powL x 8)∧w'.ownsRow w.heap.size 3 1 r (memb x 26).length (roleL x (memb x 26))∧(∀g,p.ownBlock=some g→r.ownBlock≠some g)∧Below w.heap.size w w':=by
 obtain⟨HC,HX⟩:=hide2 hc hx;clear hc hx;go_enter func88,ntmps88;have HC2:=hide (HC.out.keep ((Below.refl _ w).alloc (Nat.le_refl _) (.cells #[.slice none 0 0,.string ⟨#[]⟩,.slice none 0 0] 72)));go_wp2_with (first|(refine wpList_load_mid rfl 116 _ rfl cb 1 rfl (regL x) _ HC2.out.reg underlying116 rfl (by rw[Tryz.sizeRegistry];simp[regL]) ?_)|fail)
 refine(tell_any x _ HX.out).mono ?_;rintro e w1 ⟨p,r,rfl,hp,hr,hpr,hb1⟩;obtain⟨pp,pc,rfl⟩:=own_slice hp;obtain⟨rp,rc,rfl⟩:=own_slice hr;obtain⟨HP,HRR,HPR,HB1⟩:=hide4 hp hr hpr hb1;have HQ0:Hid (w1.heap[w.heap.size]? =some (.cells #[.slice none 0 0,.string ⟨#[]⟩,.slice none 0 0] 72 (0,0))):=blk (heap_alloc_new w _) hb1;clear hp hr hpr hb1;go_wp2_with (first|(refine wpList_store_rowG rfl 72 _ _ rfl w.heap.size #[.slice pp 8 pc,.string (nameB (memb x 26)),.slice rp (memb x 26).length rc] rfl rfl 72 _ HQ0.out rfl (by simp[Value.oneCell']) Tryz.sizeToldC ?_;intro w3 hq3 ho3)|fail)
 have hsz:w.heap.size+1≤w1.heap.size:=by have:=HB1.out.size;simp at this;omega
 have keep:∀{e n:Nat} {v:Value} {xs:List Value},w1.ownsRow (w.alloc (.cells #[.slice none 0 0,.string ⟨#[]⟩,.slice none 0 0] 72)).heap.size e 1 v n xs→w3.ownsRow w.heap.size e 1 v n xs:=fun h=>own_base (own_blocks h (fun g hg hlt=>ho3.block g (fun e=>by have:=(h.lt g hg).1;simp at this;omega))) (by simp);exact bodyPost_ret (v:=.agg #[.slice pp 8 pc,.string (nameB (memb x 26)),.slice rp (memb x 26).length rc]) (results_rowG1 results88 _ _ w.heap.size 72 _ _ rfl hq3 underlying72 rfl Tryz.sizeToldC) rfl ⟨_,_,rfl,keep HP.out,keep HRR.out,HPR.out,(((Below.refl _ w).alloc (Nat.le_refl _) _).trans (HB1.out.mono (by simp))).trans (ho3.below (Nat.le_refl _))⟩
end Go.Proofs.YtcfjhbcpjpgodaaGreatDoor

/- Proved here: what the program's registry tells: its powers, its names, its roles. -/
import Derived.Test.YtcfjhbcpjpgodaaGreatDoorJ13
import Derived.Test.YtcfjhbcpjpgodaaGreatDoorJ5
import Derived.Test.YtcfjhbcpjpgodaaGreatDoorBase
import Derived.Deep.RegionHeld
import Derived.Test.YtcfjhbcpjpgodaaGreatDoorMarks
import Derived.Lib.SlBuf
import Derived.Laws.MakeOwn
import Derived.Test.YtcfjhbcpjpgodaaGreatDoorJ26
import Derived.Test.YtcfjhbcpjpgodaaGreatDoorTakeL
namespace Go.Proofs.YtcfjhbcpjpgodaaGreatDoor
open Go.RowKit Go.Proofs.Tryz
set_option maxRecDepth 100000
set_option linter.unusedSimpArgs false
set_option linter.unusedVariables false
set_option maxHeartbeats 6400000
variable{w:World}{g nb kb cb B rb n i:Nat}{V:NodeV}{s:NodeS}{es:List Addr}{m:Int}{F R:Nat→Prop}
theorem Tryz.infoByteT:(prog.info? 5).map (fun i=>(i.zero,i.size,i.bytes))=some (some (.int .u8 0),1,1):=by kernel_rfl
def rolL(x:Nat→Int):List Value:=(List.range 26).map fun j=>.int .i64 (x (8+j))
def byteL(l:List Nat):List Value:=l.map fun(j:Nat)=>.int .u8 (97+(j:Int))
theorem rolL_length(x:Nat→Int):(rolL x).length=26:=by simp[rolL]
theorem rolL_get(x:Nat→Int)(i:Nat)(h:i<26):(rolL x).toArray[i]? =some (.int .i64 (x (8+i))):=by simp[rolL,h]
theorem byteL_append(l:List Nat)(k:Nat):byteL (l++[k])=byteL l++[.int .u8 (97+(k:Int))]:=by simp[byteL]
theorem rolL_range{t:TypeId}{x:Nat→Int}(h:RegAt w g t x):w.rangeAt g 8 (rolL x):=fun j v hv=>by
 have hj:j<26:=by have:=(List.getElem?_eq_some_iff.1 hv).1;simpa [rolL] using this
 rw[h.cell (8+j) (by omega)];have:(rolL x)[j]? =some (.int .i64 (x (8+j))):=by simp[rolL,hj]
 rw[this] at hv;exact hv
theorem index_rol(C:Array Value)(k:Nat)(v:Int)(hk:k<26)(hg:C[k]? =some (.int .i64 v))(W:World):(Instr.index 47 (.agg C) (.int .i64 (k:Int))).run prog W=.ok (.int .i64 v) W:=by
 have h:0≤(k:Int)∧(k:Int)<((26:Nat):Int):=by omega
 simp[Instr.index,run_underlying underlying47,asIntOf,go_sem,Tryz.sizeOf3,Tryz.isAgg3,hg,hk]
theorem conv_names(w:World)(base:Nat)(v:Value)(l:List Nat)(h:w.ownsRow base 5 1 v l.length (byteL l)):(convert 153 9 v).run prog w=.ok (.string (nameB l)) w:=by
 rcases h.2 with⟨rfl,hn⟩|⟨g,cap,cur,rfl,hb,hg,hnc,hcm,hcs,ht⟩
 .obtain rfl:=List.length_eq_zero_iff.1 hn;exact run_convert_bytes_nil w 153 5 underlying153 underlying5 0 0 9 underlying9
 refine run_convert_bytes_arg w 153 5 underlying153 underlying5 g 0 l.length cap (l.map fun(j:Nat)=>(j:Int)+97) (by simp) (fun i hi=>?_) 9 underlying9;rw[cell_of_row w g (0+i) _ _ _ hg,Nat.zero_add];have e1:(cur.toList.take (l.length*1))[i]? =(byteL l)[i]? :=by rw[ht]
 rw[List.getElem?_take,if_pos (by omega)] at e1;rw[←Array.getElem?_toList,e1];simp[byteL,hi,Int.add_comm]
theorem own_of_row{base:Nat}{t:TypeId}{l:List Value}(h:w.heap[g]? =some (.cells l.toArray t (0,0)))(hb:base≤g)(hl:l.length≤maxLen):w.ownsRow base t 1 (.slice (some ⟨g,0,none⟩) l.length l.length) l.length l:=
 ⟨by simp,Or.inr ⟨g,l.length,l.toArray,rfl,hb,h,Nat.le_refl _,hl,by simp,by simp⟩⟩
theorem tell_any(x:Nat→Int)(w:World)(hx:Dom x):
 Calls prog 76 #[.agg (regA x)] w fun e w'=>∃p r,e=.returned (.agg #[p,.string (nameB (memb x 26)),r])∧w'.ownsRow w.heap.size 3 1 p 8 (powL x 8)∧w'.ownsRow w.heap.size 3 1 r (memb x 26).length (roleL x (memb x 26))∧(∀g,p.ownBlock=some g→r.ownBlock≠some g)∧Below w.heap.size w w':=by
 obtain⟨i3,hi,hz0,hz1,hz2⟩:=info_parts Tryz.infoInt;obtain⟨i5,hi5,hz50,hz51,hz52⟩:=info_parts Tryz.infoByteT;have hmk:∀W:World,(Instr.makeSlice 22 (.int .i64 8) (.int .i64 8)).run prog W=.ok (.slice (some ⟨W.heap.size,0,none⟩) 8 8) (W.alloc (.cells #[.int .i64 0,.int .i64 0,.int .i64 0,.int .i64 0,.int .i64 0,.int .i64 0,.int .i64 0,.int .i64 0] 3)):=fun W=>by
  have h:=run_makeSlice (P:=prog) W 22 3 i3 (.int .i64 0) underlying22 hi hz0 .i64 .i64 8 8 (by decide) (by decide) (by rw[hz1];decide) (by rw[hz2];decide) (by decide);have e:madeCells (Value.cells (.int .i64 0)) (Int.toNat 8*1)=#[.int .i64 0,.int .i64 0,.int .i64 0,.int .i64 0,.int .i64 0,.int .i64 0,.int .i64 0,.int .i64 0]:=by kernel_rfl
  rw[h,hz1,e];rfl
 have HX:=hide hx;clear hx;obtain⟨W,hW⟩:∃W,W=(((w.alloc (.cells (regA x) 116)).alloc (.cells #[.slice none 0 0,.string ⟨#[]⟩,.slice none 0 0] 72)).alloc (.cells #[.int .i64 0,.int .i64 0,.int .i64 0,.int .i64 0,.int .i64 0,.int .i64 0,.int .i64 0,.int .i64 0] 3)):=⟨_,rfl⟩;have e1:(w.alloc (.cells (regA x) 116)).heap.size=w.heap.size+1:=by simp
 have e2:((w.alloc (.cells (regA x) 116)).alloc (.cells #[.slice none 0 0,.string ⟨#[]⟩,.slice none 0 0] 72)).heap.size=w.heap.size+1+1:=by simp
 have hWs:W.heap.size=w.heap.size+1+1+1:=by rw[hW];simp
 have HR:Hid (RegAt W w.heap.size 116 x):=by
  unfold Hid;rw[hW];exact((RegAt.alloc w _ x).below ((Below.refl _ _).alloc (Nat.le_refl _) _)).below ((Below.refl _ _).alloc (Nat.le_refl _) _)
 have HT1:Hid (ToldAt W (w.heap.size+1) (.slice none 0 0) ByteArray.empty (.slice none 0 0)):=by
  unfold Hid;have h:ToldAt ((w.alloc (.cells (regA x) 116)).alloc (.cells #[.slice none 0 0,.string ⟨#[]⟩,.slice none 0 0] 72)) (w.alloc (.cells (regA x) 116)).heap.size (.slice none 0 0) ByteArray.empty (.slice none 0 0):=heap_alloc_new (w.alloc (.cells (regA x) 116)) _;rw[e1] at h;rw[hW];exact h.block (Below.heap_alloc _ _ (w.heap.size+1) h.lt)
 have HZ:Hid (W.heap[w.heap.size+1+1]? =some (.cells #[.int .i64 0,.int .i64 0,.int .i64 0,.int .i64 0,.int .i64 0,.int .i64 0,.int .i64 0,.int .i64 0] 3 (0,0))):=by
  unfold Hid;have h:=heap_alloc_new ((w.alloc (.cells (regA x) 116)).alloc (.cells #[.slice none 0 0,.string ⟨#[]⟩,.slice none 0 0] 72)) (.cells #[.int .i64 0,.int .i64 0,.int .i64 0,.int .i64 0,.int .i64 0,.int .i64 0,.int .i64 0,.int .i64 0] 3);rw[e2] at h;rw[hW];exact h
 have HB:Hid (Below w.heap.size w W):=by
  unfold Hid;rw[hW];exact(((Below.refl _ w).alloc (Nat.le_refl _) _).alloc (by simp) _).alloc (by rw[e2];omega) _
 have hW2:=hW.symm;clear hW e1 e2;have HN3:=hide (heap_alloc_new W (.cells #[.slice none 0 0,.string ⟨#[]⟩,.slice none 0 0] 72));go_enter func76,ntmps76;go_wp2_with (refine wpList_store_rowG rfl 72 _ _ rfl W.heap.size #[.slice (some ⟨w.heap.size+1+1,0,none⟩) 8 8,.string ⟨#[]⟩,.slice none 0 0] (by rw[hWs];rfl) rfl 72 #[.slice none 0 0,.string ⟨#[]⟩,.slice none 0 0] HN3.out rfl (by simp[Value.oneCell']) Tryz.sizeTold ?_;intro w4 hq ho)
 have HQ:Hid (ToldAt w4 (w.heap.size+1+1+1) (.slice (some ⟨w.heap.size+1+1,0,none⟩) 8 8) ByteArray.empty (.slice none 0 0)):=by have:=hq;rw[hWs] at this;exact this
 have HO:Hid (Only (w.heap.size+1+1+1) (W.alloc (.cells #[.slice none 0 0,.string ⟨#[]⟩,.slice none 0 0] 72)) w4):=by have:=ho;rw[hWs] at this;exact this
 clear hq ho HN3 hmk;have HB4:Hid (Below W.heap.size W w4):=((Below.refl _ W).alloc (Nat.le_refl _) _).trans (HO.out.below (by omega));have HR4:=hide (HR.out.below HB4.out);have HT14:=hide (HT1.out.block (HB4.out.block (w.heap.size+1) (by omega)));have HZ4:Hid (w4.heap[w.heap.size+1+1]? =some (.cells #[.int .i64 0,.int .i64 0,.int .i64 0,.int .i64 0,.int .i64 0,.int .i64 0,.int .i64 0,.int .i64 0] 3 (0,0))):=(HB4.out.block _ (by omega)).trans HZ.out;have HBW:Hid (Below w.heap.size w w4):=HB.out.trans (HB4.out.mono HB.out.size);clear HB4 HO HR HT1 HZ HB hW2;refine rgd (S:=fun W'=>ToldAt W' (w.heap.size+1+1+1) (.slice (some ⟨w.heap.size+1+1,0,none⟩) 8 8) ByteArray.empty (.slice none 0 0)) HQ.out (fun hH=>?_);refine takeN [(0,some 9,pA (w.heap.size+1+1+1) 0),(1,some 10,.slice (some ⟨w.heap.size+1+1,0,none⟩) 8 8),(2,some 11,pA w.heap.size 0),(3,some 12,.slice (some ⟨w.heap.size,0,none⟩) 8 8)] _ _ hH (by repeat(first|exact True.intro|(refine tkc rfl rfl (Or.inl ⟨by rfl,fun x h=>by have f0:=h.cell.1;go_simp⟩) ?_;simp only[AP]))) ?_;simp only[takesA,AP,pA];refine rdy1 4 (fun K hK=>?_);rw[if_pos (by rfl)];refine Lib.wp_copy_run _ _ _ 22 22 rfl _ _ rfl rfl (run_copy_row (P:=prog) _ 22 22 _ 3 (w.heap.size+1+1) 0 8 8 ⟨w.heap.size,0,none⟩ 8 8 #[.int .i64 0,.int .i64 0,.int .i64 0,.int .i64 0,.int .i64 0,.int .i64 0,.int .i64 0,.int .i64 0] 3 (powL x 8) underlying22 (by rw[hi];simp[hz1]) HZ4.out (by rw[powL_length];rfl) (fun j v hv=>?_) (by rw[powL_length];decide) (fun v hv=>?_)) ?_
 .have hj:j<8:=by have:=(List.getElem?_eq_some_iff.1 hv).1;rwa [powL_length] at this
  rw[addr_add,Nat.zero_add];have h:=HR4.out.cell j (by omega);have h2:(powL x 8)[j]? =some (.int .i64 (x j)):=by simp[powL,hj]
  rw[h2] at hv;cases hv;exact h
 .simp only[powL,List.mem_map] at hv;obtain⟨i,_,rfl⟩:=hv;rfl
 obtain⟨w5,hw5⟩:=gen (w4.drew.setRow (w.heap.size+1+1) ((#[.int .i64 0,.int .i64 0,.int .i64 0,.int .i64 0,.int .i64 0,.int .i64 0,.int .i64 0,.int .i64 0]:Array Value).toList.take 0++powL x 8++(#[.int .i64 0,.int .i64 0,.int .i64 0,.int .i64 0,.int .i64 0,.int .i64 0,.int .i64 0,.int .i64 0]:Array Value).toList.drop (0+(powL x 8).length)).toArray);have HO5:Hid (Only (w.heap.size+1+1) w4 w5):=by unfold Hid;rw[hw5];exact⟨rfl,rfl,rfl,by simp,fun k hk=>setRow_other _ _ _ _ hk⟩
 have HP5:Hid (w5.heap[w.heap.size+1+1]? =some (.cells (powL x 8).toArray 3 (0,0))):=by
  unfold Hid;rw[hw5,setRow_heap w4.drew _ #[.int .i64 0,.int .i64 0,.int .i64 0,.int .i64 0,.int .i64 0,.int .i64 0,.int .i64 0,.int .i64 0] _ 3 (0,0) HZ4.out];have e:(#[.int .i64 0,.int .i64 0,.int .i64 0,.int .i64 0,.int .i64 0,.int .i64 0,.int .i64 0,.int .i64 0]:Array Value).toList.drop (0+(powL x 8).length)=[]:=by rw[powL_length];rfl
  rw[e,List.take_zero,List.nil_append,List.append_nil]
 rw[←hw5];clear hw5;have HT35:Hid (ToldAt w5 (w.heap.size+1+1+1) (.slice (some ⟨w.heap.size+1+1,0,none⟩) 8 8) ByteArray.empty (.slice none 0 0)):=hH.block (HO5.out.block _ (by omega));refine hK.out _ _ HT35.out (fun hH=>?_);clear hK K;refine dnr ?_;have HR5:=hide (HR4.out.only HO5.out (by omega));have HT15:=hide (HT14.out.block (HO5.out.block (w.heap.size+1) (by omega)));have HB5:Hid (Below w.heap.size w w5):=HBW.out.trans (HO5.out.below (by omega));have hs5:w.heap.size+1+1+1<w5.heap.size:=HT35.out.lt;clear HQ HR4 HT14 HZ4 HBW HO5 hH;go_wp2_with (refine wpList_load_mid rfl 47 _ rfl w.heap.size 8 rfl (rolL x) _ (rolL_range HR5.out) underlying47 rfl (by rw[rolL_length];exact Tryz.sizeRoles) ?_)
 go_loopw [4,5,6,16] (fun nm _ _ i ws=>∃(k:Nat) (rv:Value),k≤26∧i=.int .i64 k∧But w5.heap.size (w.heap.size+1+1+1) w5 ws∧ToldAt ws (w.heap.size+1+1+1) (.slice (some ⟨w.heap.size+1+1,0,none⟩) 8 8) ByteArray.empty rv∧ws.ownsRow w5.heap.size 5 1 nm (memb x k).length (byteL (memb x k))∧ws.ownsRow w5.heap.size 3 1 rv (memb x k).length (roleL x (memb x k))) (fun _ _ _ i _=>26-(intOf i).toNat)
 case atStart=>exact⟨0,.slice none 0 0,by omega,rfl,But.refl _ _ _,HT35.out,World.ownsRow_nil _ _ _ _,World.ownsRow_nil _ _ _ _⟩
 obtain⟨k,rv,hk,rfl,hbt,htw,hon,hor⟩:=hrel;obtain⟨HBT,HTW,HON,HOR,HBS⟩:=hide5 hbt htw hon hor hbt.size;clear hbt htw hon hor;by_cases hk26:k=26
 .subst hk26;have HT1W:=hide (HT15.out.block (HBT.out.block (w.heap.size+1) (by omega) (by omega)));have HPW:=hide ((HBT.out.block (w.heap.size+1+1) (by omega) (by omega)).trans HP5.out);have HBW:=hide (HB5.out.trans (HBT.out.below (B':=w.heap.size) (by omega) (by omega)));have hcv:=conv_names wr w5.heap.size _ (memb x 26) HON.out;obtain⟨np,nc,rfl⟩:=own_slice HON.out;obtain⟨rp,rc,rfl⟩:=own_slice HOR.out;have hc1:=HTW.out.cell.2.1;have hf1:=HTW.out.frozen 1;obtain⟨HTN,HON1⟩:=hide2 (HTW.out.set1 (nameB (memb x 26))) (only_setCell wr (w.heap.size+1+1+1) 1 (.string (nameB (memb x 26))));generalize hgW:wr.setCell ⟨w.heap.size+1+1+1,1,none⟩ (.string (nameB (memb x 26)))=w6 at HTN HON1;go_wp2_with (first|(refine wpList_load_row rfl 72 _ rfl (w.heap.size+1+1+1) rfl 72 _ (0,0) _ HTN.out underlying72 rfl Tryz.sizeTold ?_)|(refine wpList_store_rowG rfl 72 _ _ rfl (w.heap.size+1) _ rfl rfl 72 _ (HT1W.out.block (HON1.out.block (w.heap.size+1) (by omega))) rfl (by simp[Value.oneCell']) Tryz.sizeTold ?_;intro w7 hq ho))
  have hb6:∀g,g≠(w.heap.size+1)→g≠(w.heap.size+1+1+1)→w7.heap[g]? =wr.heap[g]? :=fun g h1 h2=>(ho.block g h1).trans (HON1.out.block g h2);have HP7:Hid (w7.heap[w.heap.size+1+1]? =some (.cells (powL x 8).toArray 3 (0,0))):=(hb6 _ (by omega) (by omega)).trans HPW.out;have HOR7:Hid (w7.ownsRow w5.heap.size 3 1 (.slice rp (memb x 26).length rc) (memb x 26).length (roleL x (memb x 26))):=own_blocks HOR.out (fun g hg _=>hb6 g (by have:=(HOR.out.lt g hg).1;omega) (by have:=(HOR.out.lt g hg).1;omega));have HP8:=hide (own_of_row (base:=w.heap.size) HP7.out (by omega) (by rw[powL_length];unfold maxLen;omega));rw[powL_length] at HP8;exact bodyPost_ret (v:=.agg #[.slice (some ⟨w.heap.size+1+1,0,none⟩) 8 8,.string (nameB (memb x 26)),.slice rp (memb x 26).length rc]) (results_cell_row results76 _ _ (w.heap.size+1) 72 _ (0,0) _ rfl hq underlying72 rfl Tryz.sizeTold) rfl ⟨_,_,rfl,HP8.out,own_base HOR7.out (by omega),fun g e1 e2=>by(have h1:=(HOR7.out.lt g e2).1;have e3:some (w.heap.size+1+1)=some g:=e1;have e4:=Option.some.inj e3;omega),(HBW.out.trans (HON1.out.below (by omega))).trans (ho.below (by omega))⟩
 have hki:(k:Int)<26:=by omega
 have hkl:k<26:=by omega
 have hix:=index_rol (rolL x).toArray k (x (8+k)) hkl (rolL_get x k hkl);clear hk26;by_cases hpos:0<x (8+k)
 .have HMY:=hide (memb_yes x k hpos);have hml:=memb_length x k;have hzb:(x (8+k)==0)=false:=by simp;omega
  have hzn:(x (8+k) != 0)=true:=by simp;omega
  clear hpos;go_wp2_with (first|(at_builtin;refine wpList_append_own _ rfl _ _ 153 rfl w5.heap.size 5 i5 (.int .u8 0) 1 1 underlying153 hi5 hz50 hz51 hz52 rfl (by decide) _ _ _ rfl (HON.out.alloc _) ⟨wr.heap.size,0,none⟩ 1 1 [.int .u8 (97+(k:Int))] rfl rfl ?c1 ?c2 ?c3 ?c4 ?c5 ?_)|go_in)
  case c1=>
   intro j u hj;match j,hj with
   |0,hj=>simp at hj;subst hj;simp[Addr.add]
  case c2=>intro u hu;simp at hu;subst hu;rfl
  case c3=>unfold maxLen;omega
  case c4=>omega
  case c5=>have:=HBS.out;simp;omega
  intro nm' w6 hown6 hgrow6 _;have HON6:=hide hown6;have HAP:Hid (∀g,rv.ownBlock=some g→_ ):=own_apart HOR.out HON.out (by decide);have HOR6:Hid (w6.ownsRow w5.heap.size 3 1 rv (memb x k).length (roleL x (memb x k))):=own_blocks (HOR.out.alloc (.cells #[.int .u8 (97+(k:Int))] 5)) (fun g hg hlt=>hgrow6.block g hlt (fun e=>HAP.out g hg e.symm));have HB6:Hid (Below w5.heap.size wr w6):=((Below.refl _ wr).alloc HBS.out _).grown hgrow6 (by have:=HBS.out;simp;omega) (fun j hj=>(HON.out.lt j hj).1);clear hown6 hgrow6 HAP;have HT6:=hide (HTW.out.block (HB6.out.block (w.heap.size+1+1+1) (by omega)));have hc6:=HT6.out.cell.2.2;have hs6:w5.heap.size≤w6.heap.size:=Nat.le_trans HBS.out HB6.out.size;go_wp2_with (first|(at_builtin;refine wpList_append_own _ rfl _ _ 22 rfl w5.heap.size 3 i3 (.int .i64 0) 1 8 underlying22 hi hz0 hz1 hz2 rfl (by decide) _ _ _ rfl (HOR6.out.alloc _) ⟨w6.heap.size,0,none⟩ 1 1 [.int .i64 (x (8+k))] rfl rfl ?c1 ?c2 ?c3 ?c4 ?c5 ?_)|go_in)
  case c1=>
   intro j u hj;match j,hj with
   |0,hj=>simp at hj;subst hj;simp[Addr.add]
  case c2=>intro u hu;simp at hu;subst hu;rfl
  case c3=>unfold maxLen;omega
  case c4=>omega
  case c5=>simp;omega
  intro rv' w7 hown7 hgrow7 _;obtain⟨rp,rc,rfl⟩:=own_slice hown7;have HOR7:=hide hown7;have HAP:=hide (own_apart HON6.out HOR6.out (by decide));have HON7:=hide (own_blocks (HON6.out.alloc (.cells #[.int .i64 (x (8+k))] 3)) (fun g hg hlt=>hgrow7.block g hlt (fun e=>HAP.out g hg e.symm)));have HB7:Hid (Below w5.heap.size wr w7):=(HB6.out.alloc (by omega) _).grown hgrow7 (by simp;omega) (fun j hj=>(HOR6.out.lt j hj).1);clear hown7 hgrow7 HAP hc6;have HT7:=hide (HTW.out.block (HB7.out.block (w.heap.size+1+1+1) (by omega)));have hc7:=HT7.out.cell.2.2;have hf7:=HT7.out.frozen 2;go_wp2;go_roundw
  case rel=>
   refine⟨k+1,.slice rp ((memb x k).length+1) rc,by omega,by go_num,(HBT.out.trans (But.of_below HB7.out)).trans (But.of_only (only_setCell _ _ _ _)),HT7.out.set2 _,?_,?_⟩
   .exact own_blocks (by rw[HMY.out,byteL_append,List.length_append];exact HON7.out) (fun g hg _=>(only_setCell _ _ _ _).block g (by have:=(HON7.out.lt g hg).1;omega))
   exact own_blocks (by rw[HMY.out,roleL_append,List.length_append];exact HOR7.out) (fun g hg _=>(only_setCell _ _ _ _).block g (by have:=(HOR7.out.lt g hg).1;omega))
  case measure=>simp[intOf];omega
 have HMN:=hide (memb_no x k hpos);have hz:x (8+k)=0:=by have:=HX.out (8+k);omega
 rw[hz] at hix;clear hpos hz;go_wp2;go_roundw
 case rel=>exact⟨k+1,rv,by omega,by go_num,HBT.out,HTW.out,by rw[HMN.out];exact HON.out,by rw[HMN.out];exact HOR.out⟩
 case measure=>simp[intOf];omega
theorem Tryz.sizeToldN:(prog.info? 72).map (·.size)=some 3:=by kernel_rfl
theorem Tryz.sizeRecN:(prog.info? 226).map (·.size)=some 3:=by kernel_rfl
theorem nodeRegistry_any(hA:NodeAt nb kb cb V s w)(hx:Dom s.x):
 Calls prog 23 #[.pointer (some ⟨nb,0,none⟩)] w fun e w'=>∃p r,e=.returned (.agg #[p,.string (nameB (memb s.x 26)),r])∧w'.ownsRow w.heap.size 3 1 p 8 (powL s.x 8)∧w'.ownsRow w.heap.size 3 1 r (memb s.x 26).length (roleL s.x (memb s.x 26))∧(∀g,p.ownBlock=some g→r.ownBlock≠some g)∧Below w.heap.size w w':=by
 obtain⟨HX,HRG⟩:=hide2 hx ((hA.below ((Below.refl _ w).alloc (Nat.le_refl _) (.cells #[.slice none 0 0,.string ⟨#[]⟩,.slice none 0 0] 72))).reg);clear hx hA;go_enter func23,ntmps23;go_wp2_with (first|(refine wpList_load_mid rfl 116 _ rfl nb 1 rfl (regL s.x) _ HRG.out underlying116 rfl (by rw[Tryz.sizeRegistry];simp[regL]) ?_)|fail)
 refine(tell_any s.x _ HX.out).mono ?_;rintro e w1 ⟨p,r,rfl,hp,hr,hpr,hb1⟩;obtain⟨pp,pc,rfl⟩:=own_slice hp;obtain⟨rp,rc,rfl⟩:=own_slice hr;obtain⟨HP,HRR,HPR,HB1⟩:=hide4 hp hr hpr hb1;have HQ0:Hid (w1.heap[w.heap.size]? =some (.cells #[.slice none 0 0,.string ⟨#[]⟩,.slice none 0 0] 72 (0,0))):=blk (heap_alloc_new w _) hb1;clear hp hr hpr hb1;go_wp2_with (first|(refine wpList_store_rowG rfl 72 _ _ rfl w.heap.size #[.slice pp 8 pc,.string (nameB (memb s.x 26)),.slice rp (memb s.x 26).length rc] rfl rfl 72 _ HQ0.out rfl (by simp[Value.oneCell']) Tryz.sizeToldN ?_;intro w3 hq3 ho3)|fail)
 have hsz:w.heap.size+1≤w1.heap.size:=by have:=HB1.out.size;simp at this;omega
 have keep:∀{e n:Nat} {v:Value} {xs:List Value},w1.ownsRow (w.alloc (.cells #[.slice none 0 0,.string ⟨#[]⟩,.slice none 0 0] 72)).heap.size e 1 v n xs→w3.ownsRow w.heap.size e 1 v n xs:=fun h=>own_base (own_blocks h (fun g hg hlt=>ho3.block g (fun e=>by have:=(h.lt g hg).1;simp at this;omega))) (by simp);exact bodyPost_ret (v:=.agg #[.slice pp 8 pc,.string (nameB (memb s.x 26)),.slice rp (memb s.x 26).length rc]) (results_rowG1 results23 _ _ w.heap.size 72 _ _ rfl hq3 underlying72 rfl Tryz.sizeToldN) rfl ⟨_,_,rfl,keep HP.out,keep HRR.out,HPR.out,(((Below.refl _ w).alloc (Nat.le_refl _) _).trans (HB1.out.mono (by simp))).trans (ho3.below (Nat.le_refl _))⟩
theorem isRecord_any(t:ByteArray)(w:World):Calls prog 123 #[.string t] w fun e w'=>e=.returned (.bool (formB t))∧Below w.heap.size w w':=by
 have HRD:=hide (read_any t w);go_enter func123,ntmps123;go_wp2_with fail
 refine HRD.out.mono ?_;rintro e w1 ⟨⟨a,b,c,rfl,_⟩,hb1⟩;have HB1:=hide hb1;obtain⟨o,ho⟩:=gen (formN t.size (byt t 0) (byt t 1) (byt t 2));have HO:Hid (formB t=o):=ho.symm;rw[←ho];clear hb1 ho HRD;go_wp2_with (first|(refine wpList_store_new rfl 226 _ _ rfl w1 #[.int .u8 a,.int .i64 b,.int .i64 c] rfl rfl 226 _ rfl (by simp[Value.oneCell']) Tryz.sizeRecN ?_;intro w2 hq2 hb2 hz2;have HB2:=hide hb2;clear hq2 hb2 hz2)|fail)
 go_ret;exact⟨by rw[HO.out];rfl,HB1.out.trans (HB2.out.mono HB1.out.size)⟩
theorem sub_turn{wc cap3:Nat}{t:ByteArray}{wp p3:Option Addr}{w2 Z w3 w4:World}
 (h:NodeW B es m F R nb kb rb cb n i s w2) (hA:NodeAt nb kb cb V s w2) (hf:∀k,V.foot nb cb k→F k) (hwv:V.wv=.slice wp s.wait.length wc) (hBZ:Below w2.heap.size w2 Z)
 (hown3:w3.ownsRow 0 9 1 (.slice p3 (s.wait.length+1) cap3) (s.wait.length+1) (s.wait.map .string++[.string t])) (hgrow3:Z.grownBy w3 (Value.ownBlock (.slice wp s.wait.length wc))) (hat3:Value.ownBlock (.slice p3 (s.wait.length+1) cap3)=Value.ownBlock (.slice wp s.wait.length wc)∨Value.ownBlock (.slice p3 (s.wait.length+1) cap3)=some Z.heap.size)
 (hq4:w4.heap[nb]? =some (.cells ((nodeA kb cb V s).setIfInBounds 36 (.slice p3 (s.wait.length+1) cap3)) 135 (0,0))) (ho4:Only nb w3 w4):
 ∃F',NodeW B es m F' R nb kb rb cb n i { s with wait:=s.wait++[t] } w4∧Goes F R w2 F' R w4:=by
 rw[←hwv] at hgrow3 hat3;have hs:SameBut (fun k=>k=nb∨some k=V.wv.ownBlock) w2 w4:=by
  refine⟨ho4.os.trans (hgrow3.os.trans hBZ.os),ho4.tape.trans (hgrow3.tape.trans hBZ.tape),ho4.output.trans (hgrow3.output.trans hBZ.output),?_,fun k hk hn=>?_⟩
  .rw [ho4.size];exact Nat.le_trans hBZ.size hgrow3.size
  rw[ho4.block k (fun e=>hn (Or.inl e)),hgrow3.block k (Nat.lt_of_lt_of_le hk hBZ.size) (fun e=>hn (Or.inr e)),hBZ.block k hk]
 have hnl:nb<w2.heap.size:=row_lt0 hA.blk;have hv3n:∀g,Value.ownBlock (.slice p3 (s.wait.length+1) cap3)=some g→g≠nb:=fun g hg e=>by
  rcases hat3 with h1|h1
  .exact hA.rows.2.1 (e▸(h1.symm.trans hg))
  rw[h1] at hg;cases hg;have:=hBZ.size;omega
 refine h.waitTurn (s':={ s with wait:=s.wait++[t] }) hA hf (.slice p3 (s.wait.length+1) cap3) (by rw[←nodeA_wait];exact hq4) ?_ ?_ hs rfl rfl rfl rfl rfl rfl
 .show World.ownsRow w4 0 _ 1 _ (s.wait++[t]).length ((s.wait++[t]).map .string);rw[List.length_append,List.map_append];exact own_blocks hown3 (fun g hg _=>ho4.block g (hv3n g hg))
 rcases hat3 with h1|h1
 .exact Or.inl h1
 refine Or.inr (fun g hg=>?_);rw[h1] at hg;cases hg;exact hBZ.size
theorem submit_any(t:ByteArray){w:World}(h:NodeW B es m F R nb kb rb cb n i s w)(hR:GlobR B es w)(hw5:s.wait.length≤5):
 Calls prog 62 #[.pointer (some ⟨nb,0,none⟩),.string t] w fun e w'=>e=.returned (sentV es (s.subE t))∧∃F',NodeW B es m F' R nb kb rb cb n i (s.subS t) w'∧Goes F R w F' R w':=by
 obtain⟨iW,hiW,hz0,hz1,hz2⟩:=info_parts Tryz.infoStrB;obtain⟨V,hA,hf⟩:=h.node;obtain⟨a11,he11⟩:=h.glob.sent.at 11 (by omega);obtain⟨a8,he8⟩:=h.glob.sent.at 8 (by omega);obtain⟨wp,wc,hwv⟩:=own_slice hA.wait;obtain⟨HIS,HH,HR,HA,HF,HWV,HE8,HE11⟩:=hide8 (isRecord_any t w) h hR hA hf hwv he8 he11;clear h hR hA hf hwv he8 he11;go_enter func62,ntmps62;go_wp2_with fail
 refine HIS.out.mono ?_;rintro e w2 ⟨rfl,hb2⟩;obtain⟨HB2,HH2,HA2⟩:=hide3 hb2 (HH.out.below hb2) (HA.out.below hb2);have c11:w2.cell? ⟨11,0,none⟩=some (.iface 294 (.pointer (some a11))):=HH2.out.glob.sent.cell 11 _ _ rfl HE11.out;have c8:w2.cell? ⟨8,0,none⟩=some (.iface 294 (.pointer (some a8))):=(HR.out.below HH.out.bl hb2).cell 8 _ _ rfl HE8.out;have C36:Hid (w2.cell? ⟨nb,36,none⟩=some (.slice wp s.wait.length wc)):=by
  have h1:w2.cell? ⟨nb,36,none⟩=some V.wv:=HA2.out.cell 36 rfl;rw[HWV.out] at h1;exact h1
 clear hb2 HIS;cases hfm:formB t with
 |false=>
  have HSE:Hid (s.subE t=some 11):=by unfold Hid NodeS.subE;rw[if_pos hfm]
  have HSS:Hid (s.subS t=s):=by unfold Hid NodeS.subS;rw[if_neg (by rw[HSE.out];simp)]
  clear hfm;go_wp2;go_ret;exact⟨by rw[HSE.out,sent_at HE11.out];rfl,F,by rw[HSS.out];exact HH2.out,Goes.below HB2.out⟩
 |true=>
  have hfm2:¬formB t=false:=by rw[hfm];exact Bool.noConfusion
  have c36:=C36.out;by_cases h5:5≤s.wait.length
  .have HSE:Hid (s.subE t=some 8):=by unfold Hid NodeS.subE;rw[if_neg hfm2,if_pos h5]
   have HSS:Hid (s.subS t=s):=by unfold Hid NodeS.subS;rw[if_neg (by rw[HSE.out];simp)]
   have h5i:5≤(s.wait.length:Int):=by omega
   clear hfm hfm2;go_wp2;go_ret;exact⟨by rw[HSE.out,sent_at HE8.out];rfl,F,by rw[HSS.out];exact HH2.out,Goes.below HB2.out⟩
  have HSE:Hid (s.subE t=none):=by unfold Hid NodeS.subE;rw[if_neg hfm2,if_neg h5]
  have HSS:Hid (s.subS t={ s with wait:=s.wait++[t] }):=by unfold Hid NodeS.subS;rw[if_pos HSE.out]
  have h5i:¬5≤(s.wait.length:Int):=by omega
  have htz:t.size≤1000:=form_le hfm;have HOW:Hid (w2.ownsRow 0 9 1 (.slice wp s.wait.length wc) s.wait.length (s.wait.map .string)):=by
   have h1:=HA2.out.wait;rw[HWV.out] at h1;exact h1
  have HNL:Hid (nb<w2.heap.size):=row_lt0 HA2.out.blk;have HNV:Hid (Value.ownBlock (.slice wp s.wait.length wc)≠some nb):=by have h1:=HA2.out.rows.2.1;rw[HWV.out] at h1;exact h1
  have HBLK:=hide HA2.out.blk;have HC36:Hid ((nodeA kb cb V s)[36]? =some (.slice wp s.wait.length wc)):=by rw[←HWV.out];rfl
  clear hfm hfm2 c11 c8
  go_upto_region 5 with fail
  refine rgd (S:=fun _=>True) trivial (fun hH=>?_);refine takeM [(0,some 16,pA nb 0),(1,some 17,pA nb 0),(2,some 18,pA nb 0),(3,some 19,pA nb 36),(5,some 21,.string t)] _ _ hH ?_;simp only[takesA,AP,pA];have c36d:w2.drew.cell? ⟨nb,36,none⟩=some (.slice wp s.wait.length wc):=C36.out;refine rdy2 4 6 (fun K hK=>?_) (fun K hK=>?_)
  .go_simp;refine hK.out _ _ trivial (fun hH=>?_);clear hK K
   try simp only[AP,AQ]
   refine rdy1 6 (fun K hK=>?_);go_simp;refine(clone_any t _ (by omega)).mono ?_;rintro en X ⟨rfl,hbX⟩;have hBX:Below w2.heap.size w2 X:=(Below.refl _ w2).drew.trans (hbX.mono (Nat.le_refl _));refine hK.out _ _ trivial (fun hH=>?_);clear hK K hbX
   try simp only[AP,AQ]
   refine rdy1 7 (fun K hK=>?_);go_simp;obtain⟨Z,hZe⟩:=gen (X.alloc (.cells #[.string t] 9));have hbZ:Below X.heap.size X Z:=by rw[hZe];exact(Below.refl _ X).alloc (Nat.le_refl _) _
   have hxZ:Z.heap[X.heap.size]? =some (.cells #[.string t] 9 (0,0)):=by rw[hZe];exact heap_alloc_new X _
   rw[←hZe];clear hZe;have hBZ:Below w2.heap.size w2 Z:=hBX.trans (hbZ.mono hBX.size);refine hK.out _ _ trivial (fun hH=>?_);clear hK K
   try simp only[AP,AQ]
   refine rdy1 8 (fun K hK=>?_);rw[if_pos (by rfl)];have hown2:Z.ownsRow 0 9 1 (.slice wp s.wait.length wc) s.wait.length (s.wait.map .string):=own_blocks HOW.out (fun g _ hg=>hBZ.block g hg);refine wp_append_at _ _ _ 30 rfl 0 9 iW (.string ByteArray.empty) 1 16 underlying30 hiW hz0 hz1 hz2 rfl (by decide) (.slice wp s.wait.length wc) s.wait.length (s.wait.map .string) rfl hown2 ⟨X.heap.size,0,none⟩ 1 1 [.string t] rfl rfl ?n1 ?n2 (by unfold maxLen;omega) (by omega) (by omega) ?_
   case n1=>
    intro j u hj;rw[addr_add,Nat.zero_add,cell_of_row Z X.heap.size j _ _ _ hxZ];simpa using hj
   case n2=>
    intro u hu;simp at hu;subst hu;rfl
   intro v3 w3 hown3 hgrow3 hat3;have hnb3:w3.heap[nb]? =some (.cells (nodeA kb cb V s) 135 (0,0)):=(hgrow3.block nb (Nat.lt_of_lt_of_le HNL.out hBZ.size) (fun e=>HNV.out e.symm)).trans (blk HBLK.out hBZ);refine hK.out _ _ trivial (fun hH=>?_);clear hK K;simp only[AP,AQ];refine takeM [(9,some 25,pA nb 0),(10,some 26,pA nb 36)] _ _ hH ?_;simp only[takesA,AP,pA];have c03:w3.cell? ⟨nb,36,none⟩=some (.slice wp s.wait.length wc):=(cell_of_row w3 nb 36 _ _ _ hnb3).trans HC36.out;have f03:w3.frozen? ⟨nb,36,none⟩=false:=frozen_row hnb3 36;obtain⟨p3,cap3,rfl⟩:=own_slice hown3;refine rdy1 11 (fun K hK=>?_);go_simp;obtain⟨w4,hw4⟩:∃z,z=(w3.setCell ⟨nb,36,none⟩ (.slice p3 (s.wait.length+1) cap3)):=⟨_,rfl⟩;have ho4:Only nb w3 w4:=by rw[hw4];exact only_setCell w3 nb 36 _
   have hq4:w4.heap[nb]? =some (.cells ((nodeA kb cb V s).setIfInBounds 36 (.slice p3 (s.wait.length+1) cap3)) 135 (0,0)):=by
    rw[hw4];exact setCell_row hnb3 36 _
   rw[←hw4];refine hK.out _ _ trivial (fun hH=>?_);clear hK K hH hw4;refine dnr ?_;have HEND:=hide (sub_turn HH2.out HA2.out HF.out HWV.out hBZ hown3 hgrow3 hat3 hq4 ho4);clear hown3 hgrow3 hat3 hq4 ho4 hnb3 c03 f03 hBZ hbZ hxZ hown2;go_wp2;go_ret;obtain⟨F',h1,h2⟩:=HEND.out;exact⟨by rw[HSE.out];rfl,F',by rw[HSS.out];exact h1,(Goes.below HB2.out).trans h2⟩
  go_simp;refine(clone_any t _ (by omega)).mono ?_;rintro en X ⟨rfl,hbX⟩;have hBX:Below w2.heap.size w2 X:=(Below.refl _ w2).drew.trans (hbX.mono (Nat.le_refl _));refine hK.out _ _ trivial (fun hH=>?_);clear hK K hbX
  try simp only[AP,AQ]
  have c36X:X.cell? ⟨nb,36,none⟩=some (.slice wp s.wait.length wc):=Ext.cell C36.out (Ext.of hBX);refine rdy2 4 7 (fun K hK=>?_) (fun K hK=>?_);focus
   go_simp;refine hK.out _ _ trivial (fun hH=>?_);clear hK K
   try simp only[AP,AQ]
   refine rdy1 7 (fun K hK=>?_);go_simp;obtain⟨Z,hZe⟩:=gen (X.alloc (.cells #[.string t] 9));have hbZ:Below X.heap.size X Z:=by rw[hZe];exact(Below.refl _ X).alloc (Nat.le_refl _) _
   have hxZ:Z.heap[X.heap.size]? =some (.cells #[.string t] 9 (0,0)):=by rw[hZe];exact heap_alloc_new X _
   rw[←hZe];clear hZe;have hBZ:Below w2.heap.size w2 Z:=hBX.trans (hbZ.mono hBX.size)
  rotate_left;focus
   go_simp;obtain⟨Z,hZe⟩:=gen (X.alloc (.cells #[.string t] 9));have hbZ:Below X.heap.size X Z:=by rw[hZe];exact(Below.refl _ X).alloc (Nat.le_refl _) _
   have hxZ:Z.heap[X.heap.size]? =some (.cells #[.string t] 9 (0,0)):=by rw[hZe];exact heap_alloc_new X _
   rw[←hZe];clear hZe;have hBZ:Below w2.heap.size w2 Z:=hBX.trans (hbZ.mono hBX.size);refine hK.out _ _ trivial (fun hH=>?_);clear hK K
   try simp only[AP,AQ]
   have c36Z:Z.cell? ⟨nb,36,none⟩=some (.slice wp s.wait.length wc):=Ext.cell C36.out (Ext.of hBZ);refine rdy1 4 (fun K hK=>?_);go_simp
  rotate_left;all_goals
   refine hK.out _ _ trivial (fun hH=>?_);clear hK K
   try simp only[AP,AQ]
   refine rdy1 8 (fun K hK=>?_);rw[if_pos (by rfl)];have hown2:Z.ownsRow 0 9 1 (.slice wp s.wait.length wc) s.wait.length (s.wait.map .string):=own_blocks HOW.out (fun g _ hg=>hBZ.block g hg);refine wp_append_at _ _ _ 30 rfl 0 9 iW (.string ByteArray.empty) 1 16 underlying30 hiW hz0 hz1 hz2 rfl (by decide) (.slice wp s.wait.length wc) s.wait.length (s.wait.map .string) rfl hown2 ⟨X.heap.size,0,none⟩ 1 1 [.string t] rfl rfl ?n1 ?n2 (by unfold maxLen;omega) (by omega) (by omega) ?_
   case n1=>
    intro j u hj;rw[addr_add,Nat.zero_add,cell_of_row Z X.heap.size j _ _ _ hxZ];simpa using hj
   case n2=>
    intro u hu;simp at hu;subst hu;rfl
   intro v3 w3 hown3 hgrow3 hat3;have hnb3:w3.heap[nb]? =some (.cells (nodeA kb cb V s) 135 (0,0)):=(hgrow3.block nb (Nat.lt_of_lt_of_le HNL.out hBZ.size) (fun e=>HNV.out e.symm)).trans (blk HBLK.out hBZ);refine hK.out _ _ trivial (fun hH=>?_);clear hK K;simp only[AP,AQ];refine takeM [(9,some 25,pA nb 0),(10,some 26,pA nb 36)] _ _ hH ?_;simp only[takesA,AP,pA];have c03:w3.cell? ⟨nb,36,none⟩=some (.slice wp s.wait.length wc):=(cell_of_row w3 nb 36 _ _ _ hnb3).trans HC36.out;have f03:w3.frozen? ⟨nb,36,none⟩=false:=frozen_row hnb3 36;obtain⟨p3,cap3,rfl⟩:=own_slice hown3;refine rdy1 11 (fun K hK=>?_);go_simp;obtain⟨w4,hw4⟩:∃z,z=(w3.setCell ⟨nb,36,none⟩ (.slice p3 (s.wait.length+1) cap3)):=⟨_,rfl⟩;have ho4:Only nb w3 w4:=by rw[hw4];exact only_setCell w3 nb 36 _
   have hq4:w4.heap[nb]? =some (.cells ((nodeA kb cb V s).setIfInBounds 36 (.slice p3 (s.wait.length+1) cap3)) 135 (0,0)):=by
    rw[hw4];exact setCell_row hnb3 36 _
   rw[←hw4];refine hK.out _ _ trivial (fun hH=>?_);clear hK K hH hw4;refine dnr ?_;have HEND:=hide (sub_turn HH2.out HA2.out HF.out HWV.out hBZ hown3 hgrow3 hat3 hq4 ho4);clear hown3 hgrow3 hat3 hq4 ho4 hnb3 c03 f03 hBZ hbZ hxZ hown2;go_wp2;go_ret;obtain⟨F',h1,h2⟩:=HEND.out;exact⟨by rw[HSE.out];rfl,F',by rw[HSS.out];exact h1,(Goes.below HB2.out).trans h2⟩
end Go.Proofs.YtcfjhbcpjpgodaaGreatDoor

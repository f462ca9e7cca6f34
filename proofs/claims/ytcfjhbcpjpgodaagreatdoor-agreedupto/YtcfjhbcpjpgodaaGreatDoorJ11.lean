/- Proved here: what a log tells: has it a frame; how many like one; who has sent what fits, their frames, the first proposal that fits. -/
import Derived.Test.YtcfjhbcpjpgodaaGreatDoorJ4
import Derived.Test.YtcfjhbcpjpgodaaGreatDoorJ13
import Derived.BigQuiet
import Derived.Shelf.Abstract
import Derived.Stop.LaidErr
import Derived.Test.YtcfjhbcpjpgodaaGreatDoorTakeL
namespace Go.Proofs.YtcfjhbcpjpgodaaGreatDoor
open Go.RowKit Go.Proofs.Tryz
set_option maxRecDepth 100000
set_option maxHeartbeats 3200000
variable{l:List EntV}{g:Nat}{fits:EntV→Bool}{r:Int}
def hasF(l:List EntV)(f:ByteArray):Bool:=l.any fun e=>decide (e.fr=f)
theorem hasF_no{f:ByteArray}(h:∀e∈l,e.fr≠f):hasF l f=false:=by
 unfold hasF;rw[List.any_eq_false];intro e he;simpa using h e he
theorem has_any(l:List EntV)(p:Option Addr)(cap:Nat)(t:ByteArray)(w:World)(hl:EntsAt w w.heap.size p l.length (fun i=>l.getD i ent0))(hm:l.length≤maxLen):
 Calls prog 127 #[.slice p l.length cap,.string t] w fun e w'=>e=.returned (.bool (hasF l t))∧Below w.heap.size w w':=by
 have HL:=hide hl;have hmx:l.length≤9223372036854775807:=by unfold maxLen at hm;omega
 clear hl hm;go_enter func127,ntmps127;go_wp2;go_loopw [6,9] (fun _ i wr=>∃j:Nat,j≤l.length∧i=.int .i64 j∧(∀e∈l.take j,e.fr≠t)∧Below w.heap.size w wr) (fun _ i _=>l.length-(intOf i).toNat)
 case atStart=>exact⟨0,Nat.zero_le _,rfl,fun e he=>by simp at he,Below.refl _ _⟩
 obtain⟨j,hj,rfl,hno,hb⟩:=hrel;obtain⟨HB,HNO⟩:=hide2 hb hno;clear hb hno;by_cases hend:j=l.length
 .have HF:Hid (hasF l t=false):=hasF_no (by have h:=HNO.out;rw[hend,List.take_length] at h;exact h);have hge:¬(j:Int)<l.length:=by omega
  clear hend;go_wp2;go_ret;exact⟨ret_b HF.out.symm,HB.out⟩
 have hlt:j<l.length:=by omega
 have hlt2:(j:Int)<l.length:=by omega
 obtain⟨b,o,rfl,hbb,hrg⟩:=HL.out.below HB.out j hlt;obtain⟨ev,hev⟩:=gen (l.getD j ent0);have hrg':=hrg;simp only[←hev] at hrg';obtain⟨⟨K,H,R,f,V,nl,s⟩,fr,own⟩:=ev;have HRG:Hid (wr.rangeAt b (o+j*9) [.int .i64 K,.int .i64 H,.int .i64 R,.int .i64 f,.int .i64 V,.bool nl,.string s,.string fr,.bool own]):=hrg';have HEV:=hide hev;clear hrg hrg' hev hbb;by_cases hst:fr=t
 .have HF:Hid (hasF l t=true):=by
   unfold Hid hasF;rw[List.any_eq_true];refine⟨_,getD_mem l ent0 j hlt,?_⟩;rw[←HEV.out];simpa using hst
  subst hst;go_wp2_with (first|(refine wpList_load_mid rfl 164 _ rfl b (o+j*9) rfl [.int .i64 K,.int .i64 H,.int .i64 R,.int .i64 f,.int .i64 V,.bool nl,.string s,.string fr,.bool own] _ HRG.out underlying164 rfl Tryz.sizeEnt ?_)|(refine wpList_store_new rfl 164 _ _ rfl wr #[.int .i64 K,.int .i64 H,.int .i64 R,.int .i64 f,.int .i64 V,.bool nl,.string s,.string fr,.bool own] rfl rfl 164 _ rfl (by simp[Value.oneCell']) Tryz.sizeEnt ?_;intro w2 hq2 hb2 hz2;have c7:w2.cell? ⟨wr.heap.size,7,none⟩=some (.string fr):=cell_of_row w2 wr.heap.size 7 _ _ _ hq2;have HQ2:=hide hq2;have HB2:Hid (Below wr.heap.size wr w2):=hb2;clear hq2 hb2 hz2)|fail)
  go_ret;exact⟨ret_b HF.out.symm,HB.out.trans (HB2.out.mono HB.out.size)⟩
 have q1:=text_ne hst;have HN2:Hid (∀e∈l.take (j+1),e.fr≠t):=by
  intro e he;rw[take_stepE l ent0 j hlt,List.mem_append] at he;rcases he with he|he
  .exact HNO.out e he
  rw[List.mem_singleton] at he;rw[he,←HEV.out];exact hst
 go_wp2_with (first|(refine wpList_load_mid rfl 164 _ rfl b (o+j*9) rfl [.int .i64 K,.int .i64 H,.int .i64 R,.int .i64 f,.int .i64 V,.bool nl,.string s,.string fr,.bool own] _ HRG.out underlying164 rfl Tryz.sizeEnt ?_)|(refine wpList_store_new rfl 164 _ _ rfl wr #[.int .i64 K,.int .i64 H,.int .i64 R,.int .i64 f,.int .i64 V,.bool nl,.string s,.string fr,.bool own] rfl rfl 164 _ rfl (by simp[Value.oneCell']) Tryz.sizeEnt ?_;intro w2 hq2 hb2 hz2;have c7:w2.cell? ⟨wr.heap.size,7,none⟩=some (.string fr):=cell_of_row w2 wr.heap.size 7 _ _ _ hq2;have HQ2:=hide hq2;have HB2:Hid (Below wr.heap.size wr w2):=hb2;clear hq2 hb2 hz2)|fail)
 go_roundw
 case rel=>exact⟨j+1,by omega,by go_num,HN2.out,HB.out.trans (HB2.out.mono HB.out.size)⟩
 case measure=>simp[intOf];omega
def likeB(m:MsgV)(e:EntV):Bool:=decide (e.m.k=m.k∧e.m.h=m.h∧e.m.r=m.r∧e.m.f=m.f)
def likeN(l:List EntV)(m:MsgV):Nat:=(l.filter (likeB m)).length
theorem likeN_step(l:List EntV)(m:MsgV)(k:Nat)(h:k<l.length):likeN (l.take (k+1)) m=likeN (l.take k) m+if likeB m (l.getD k ent0) then 1 else 0:=by
 unfold likeN;rw[take_stepE l ent0 k h,List.filter_append,List.length_append];cases hb:likeB m (l.getD k ent0) with
 |true=>
  rw[List.filter_cons_of_pos hb];rfl
 |false=>
  rw[List.filter_cons_of_neg (by rw[hb];decide)];rfl
def FitsAt(g:Nat)(lb:Array Value)(fits:EntV→Bool)(l:List EntV)(w:World):Prop:=
 ∀(W:World) (e:EntV),e∈l→Below w.heap.size w W→Calls prog g (#[.agg e.cells]++lb) W fun en w'=>en=.returned (.bool (fits e))∧Below W.heap.size W w'
theorem FitsAt.later{lb:Array Value}{w w':World}(h:FitsAt g lb fits l w)(hb:Below w.heap.size w w'):FitsAt g lb fits l w':=fun W e he hW=>h W e he (hb.trans (hW.mono hb.size))
def EntersP(g:Nat):Prop:=∀(args:Array Value) (w:World),(callFunc g args).run prog w=.ok (.enter g args) w
def sendB(fits:EntV→Bool)(l:List EntV):Nat→Bool:=fun i=>l.any fun e=>fits e&&decide (e.m.f=(i:Int))
theorem sendB_step{k:Nat}(h:k<l.length)(i:Nat):sendB fits (l.take (k+1)) i=(sendB fits (l.take k) i||(fits (l.getD k ent0)&&decide ((l.getD k ent0).m.f=(i:Int)))):=by
 unfold sendB;rw[take_stepE l ent0 k h,List.any_append];simp
theorem boolA_congr{b b':Nat→Bool}(h:∀i,i<8→b i=b' i):boolA b=boolA b':=by
 unfold boolA;rw[h 0 (by omega),h 1 (by omega),h 2 (by omega),h 3 (by omega),h 4 (by omega),h 5 (by omega),h 6 (by omega),h 7 (by omega)]
theorem senders_any(g:Nat)(lb:Array Value)(fits:EntV→Bool)(l:List EntV)(p:Option Addr)(cap:Nat)(w:World)(eg:EntersP g)(hl:EntsAt w w.heap.size p l.length (fun i=>l.getD i ent0))(hm:l.length≤maxLen)(hf:FitsAt g lb fits l w)(hid:∀e∈l,0≤e.m.f∧e.m.f<8):
 Calls prog 154 #[.slice p l.length cap,.func (.func g) #[] lb] w fun e w'=>e=.returned (.agg (boolA (sendB fits l)))∧Below w.heap.size w w':=by
 obtain⟨HL,HF,HID⟩:=hide3 hl hf hid;have hmx:l.length≤9223372036854775807:=by unfold maxLen at hm;omega
 have eg':∀(args:Array Value) (w:World),(callFunc g args).run prog w=.ok (.enter g args) w:=eg;clear hl hm hf hid eg;go_enter func154,ntmps154;go_wp2;go_loopw [7,10] (fun _ i wr=>∃j:Nat,j≤l.length∧i=.int .i64 j∧wr.heap[w.heap.size]? =some (.cells (boolA fun _=>false) 190 (0,0))∧wr.heap[w.heap.size+1]? =some (.cells (boolA (sendB fits (l.take j))) 190 (0,0))∧Below w.heap.size w wr) (fun _ i _=>l.length-(intOf i).toNat)
 case atStart=>
  refine⟨0,Nat.zero_le _,rfl,?_,?_,((Below.refl _ w).alloc (Nat.le_refl _) _).alloc (by simp) _⟩
  .rw [Below.heap_alloc _ _ w.heap.size (by simp)];exact heap_alloc_new w _
  have h:=heap_alloc_new (w.alloc (.cells (boolA fun _=>false) 190)) (.cells (boolA fun _=>false) 190);have e1:(w.alloc (.cells (boolA fun _=>false) 190)).heap.size=w.heap.size+1:=by simp
  rw[e1] at h;exact h
 obtain⟨j,hj,rfl,hq0,hq1,hb⟩:=hrel;obtain⟨HB,HQ0,HQ1⟩:=hide3 hb hq0 hq1;clear hb hq0 hq1;by_cases hend:j=l.length
 .have hge:¬(j:Int)<l.length:=by omega
  have HQE:Hid (wr.heap[w.heap.size+1]? =some (.cells (boolA (sendB fits l)) 190 (0,0))):=by have h:=HQ1.out;rw[hend,List.take_length] at h;exact h
  clear hend;go_wp2_with (first|(refine wpList_load_row rfl 190 _ rfl (w.heap.size+1) rfl 190 (boolA (sendB fits l)) (0,0) _ HQE.out underlying190 rfl Tryz.sizeBools ?_)|(refine wpList_store_rowG rfl 190 _ _ rfl w.heap.size (boolA (sendB fits l)) rfl rfl 190 _ HQ0.out rfl (by simp[boolA,Value.oneCell']) Tryz.sizeBools ?_;intro w3 hq3 ho3;have HQ3:=hide hq3;have HB3:Hid (Below w.heap.size w w3):=HB.out.trans (ho3.below (Nat.le_refl _));clear hq3 ho3)|fail)
  exact bodyPost_ret (v:=.agg (boolA (sendB fits l))) (results_rowG1 results154 _ _ w.heap.size 190 _ _ rfl HQ3.out underlying190 rfl Tryz.sizeBools) rfl ⟨rfl,HB3.out⟩
 have hlt:j<l.length:=by omega
 have hlt2:(j:Int)<l.length:=by omega
 have hz:w.heap.size+1<wr.heap.size:=row_lt0 HQ1.out;obtain⟨b,o,rfl,hbb,hrg⟩:=HL.out.below HB.out j hlt;obtain⟨ev,hev⟩:=gen (l.getD j ent0);have hrg':=hrg;simp only[←hev] at hrg';obtain⟨⟨K,H,R,f,V,nl,s⟩,fr,own⟩:=ev;have HRG:Hid (wr.rangeAt b (o+j*9) [.int .i64 K,.int .i64 H,.int .i64 R,.int .i64 f,.int .i64 V,.bool nl,.string s,.string fr,.bool own]):=hrg';have HEV:=hide hev;clear hrg hrg' hev hbb;have HMEM:=hide (getD_mem l ent0 j hlt);rw[←HEV.out] at HMEM;obtain⟨fi,rfl⟩:∃fi:Nat,f=(fi:Int):=⟨f.toNat,by have:=HID.out _ HMEM.out;simp only at this;omega⟩;have hfi:fi<8:=by have:=HID.out _ HMEM.out;simp only at this;omega
 have hfi2:(fi:Int)<8:=by omega
 have HCL:=hide (fun W hW=>HF.out W _ HMEM.out hW);go_wp2_with (first|(refine wpList_load_mid rfl 164 _ rfl b (o+j*9) rfl [.int .i64 K,.int .i64 H,.int .i64 R,.int .i64 (fi:Int),.int .i64 V,.bool nl,.string s,.string fr,.bool own] _ HRG.out underlying164 rfl Tryz.sizeEnt ?_)|(refine wpList_store_new rfl 164 _ _ rfl wr #[.int .i64 K,.int .i64 H,.int .i64 R,.int .i64 (fi:Int),.int .i64 V,.bool nl,.string s,.string fr,.bool own] rfl rfl 164 _ rfl (by simp[Value.oneCell']) Tryz.sizeEnt ?_;intro w2 hq2 hb2 hz2;have HQ2:=hide hq2;have HB2:Hid (Below wr.heap.size wr w2):=hb2;clear hq2 hb2 hz2)|(refine wpList_load_row rfl 164 _ rfl wr.heap.size rfl 164 #[.int .i64 K,.int .i64 H,.int .i64 R,.int .i64 (fi:Int),.int .i64 V,.bool nl,.string s,.string fr,.bool own] (0,0) _ HQ2.out underlying164 rfl Tryz.sizeEnt ?_)|fail)
 have HCW:=hide (HCL.out w2 (HB.out.trans (HB2.out.mono HB.out.size)));cases hft:fits ⟨⟨K,H,R,(fi:Int),V,nl,s⟩,fr,own⟩ with
 |false=>
  rw[hft] at HCW;go_wp2_with (go_at_fn g;refine HCW.out.mono ?_;rintro e w3 ⟨rfl,hb3⟩;have HB23:=hide hb3;clear hb3)
  have HB3:Hid (Below wr.heap.size wr w3):=HB2.out.trans (HB23.out.mono HB2.out.size);go_roundw
  case rel=>
   refine⟨j+1,by omega,by go_num,blk HQ0.out HB3.out,?_,HB.out.trans (HB3.out.mono HB.out.size)⟩;rw[boolA_congr (b':=sendB fits (l.take j)) (fun i hi=>by rw[sendB_step hlt,←HEV.out,hft];simp)];exact blk HQ1.out HB3.out
  case measure=>simp[intOf];omega
 |true=>
  rw[hft] at HCW;go_wp2_with (go_at_fn g;refine HCW.out.mono ?_;rintro e w3 ⟨rfl,hb3⟩;have HB23:=hide hb3;have HB3:Hid (Below wr.heap.size wr w3):=HB2.out.trans (hb3.mono HB2.out.size);have d3:w3.cell? ⟨wr.heap.size,3,none⟩=some (.int .i64 (fi:Int)):=cell_of_row w3 wr.heap.size 3 _ _ _ (blk HQ2.out hb3);have d4:w3.cell? ⟨w.heap.size+1,fi,none⟩=some (.bool (sendB fits (l.take j) fi)):=(cell_of_row w3 _ fi _ _ _ (blk HQ1.out HB3.out)).trans (boolA_get _ fi hfi);have d5:w3.frozen? ⟨w.heap.size+1,fi,none⟩=false:=frozen_row (blk HQ1.out HB3.out) fi;clear hb3)
  go_roundw
  case rel=>
   refine⟨j+1,by omega,by go_num,?_,?_,(HB.out.trans (HB3.out.mono HB.out.size)).setCell (by exact Nat.le_succ _) _⟩
   .rw [Below.heap_setCell _ _ _ _ (by show w.heap.size≠w.heap.size+1;omega)];exact blk HQ0.out HB3.out
   have h1:=blk HQ1.out HB3.out;rw[boolA_congr (b':=yesB (sendB fits (l.take j)) fi) (fun i hi=>by
    rw[sendB_step hlt,←HEV.out,hft];unfold yesB;by_cases e:i=fi
    .subst e;simp
    rw[if_neg e];have e2:¬((fi:Int)=(i:Int)):=by omega
    simp[e2]),←boolA_set _ fi hfi]
   simp[World.setCell,Array.getElem?_modify,h1]
  case measure=>simp[intOf];omega
def framesL(fits:EntV→Bool)(l:List EntV):List ByteArray:=(l.filter fits).map (·.fr)
theorem framesL_le(fits:EntV→Bool)(l:List EntV):(framesL fits l).length≤l.length:=by
 unfold framesL;rw[List.length_map];exact List.length_filter_le fits l
theorem framesL_step(fits:EntV→Bool)(l:List EntV)(j:Nat)(h:j<l.length):framesL fits (l.take (j+1))=if fits (l.getD j ent0)=true then framesL fits (l.take j)++[(l.getD j ent0).fr] else framesL fits (l.take j):=by
 unfold framesL;rw[take_stepE l ent0 j h,List.filter_append];by_cases hf:fits (l.getD j ent0)=true
 .rw [if_pos hf,List.filter_cons_of_pos hf,List.filter_nil,List.map_append];rfl
 rw[if_neg hf,List.filter_cons_of_neg hf,List.filter_nil,List.append_nil]
theorem frames_any(g:Nat)(lb:Array Value)(fits:EntV→Bool)(l:List EntV)(p:Option Addr)(cap:Nat)(w:World)(eg:EntersP g)(hl:EntsAt w w.heap.size p l.length (fun i=>l.getD i ent0))(hm:l.length≤1000000000)(hf:FitsAt g lb fits l w):
 Calls prog 92 #[.slice p l.length cap,.func (.func g) #[] lb] w fun e w'=>∃v,e=.returned v∧w'.ownsRow w.heap.size 9 1 v (framesL fits l).length ((framesL fits l).map .string)∧Below w.heap.size w w':=by
 obtain⟨i9,hi9,hz0,hz1,hz2⟩:=info_parts Tryz.infoString;obtain⟨HL,HF⟩:=hide2 hl hf;have hmx:l.length≤9223372036854775807:=by omega
 have HM:=hide hm;have eg':∀(args:Array Value) (w:World),(callFunc g args).run prog w=.ok (.enter g args) w:=eg;clear hl hm hf eg;go_enter func92,ntmps92;go_wp2;go_loopw [5,7,10] (fun v _ i wr=>∃j:Nat,j≤l.length∧i=.int .i64 j∧wr.ownsRow w.heap.size 9 1 v (framesL fits (l.take j)).length ((framesL fits (l.take j)).map .string)∧Below w.heap.size w wr) (fun _ _ i _=>l.length-(intOf i).toNat)
 case atStart=>exact⟨0,Nat.zero_le _,rfl,World.ownsRow_nil _ _ _ _,Below.refl _ _⟩
 obtain⟨j,hj,rfl,hv,hb⟩:=hrel;obtain⟨HB,HV⟩:=hide2 hb hv;clear hb hv;by_cases hend:j=l.length
 .have hge:¬(j:Int)<l.length:=by omega
  have HVE:=HV.out;rw[hend,List.take_length] at HVE;have HVE2:=hide HVE;clear hend HVE;go_wp2;go_ret;exact⟨_,rfl,HVE2.out,HB.out⟩
 have hlt:j<l.length:=by omega
 have hlt2:(j:Int)<l.length:=by omega
 obtain⟨b,o,rfl,hbb,hrg⟩:=HL.out.below HB.out j hlt;obtain⟨ev,hev⟩:=gen (l.getD j ent0);have hrg':=hrg;simp only[←hev] at hrg';obtain⟨⟨K,H,R,f,V,nl,s⟩,fr,own⟩:=ev;have HRG:Hid (wr.rangeAt b (o+j*9) [.int .i64 K,.int .i64 H,.int .i64 R,.int .i64 f,.int .i64 V,.bool nl,.string s,.string fr,.bool own]):=hrg';have HEV:=hide hev;clear hrg hrg' hev hbb;have HMEM:=hide (getD_mem l ent0 j hlt);rw[←HEV.out] at HMEM;have HCL:=hide (fun W hW=>HF.out W _ HMEM.out hW);go_wp2_with (first|(refine wpList_load_mid rfl 164 _ rfl b (o+j*9) rfl [.int .i64 K,.int .i64 H,.int .i64 R,.int .i64 f,.int .i64 V,.bool nl,.string s,.string fr,.bool own] _ HRG.out underlying164 rfl Tryz.sizeEnt ?_)|(refine wpList_store_new rfl 164 _ _ rfl wr #[.int .i64 K,.int .i64 H,.int .i64 R,.int .i64 f,.int .i64 V,.bool nl,.string s,.string fr,.bool own] rfl rfl 164 _ rfl (by simp[Value.oneCell']) Tryz.sizeEnt ?_;intro w2 hq2 hb2 hz2;have HQ2:=hide hq2;have HB2:Hid (Below wr.heap.size wr w2):=hb2;clear hq2 hb2 hz2)|(refine wpList_load_row rfl 164 _ rfl wr.heap.size rfl 164 #[.int .i64 K,.int .i64 H,.int .i64 R,.int .i64 f,.int .i64 V,.bool nl,.string s,.string fr,.bool own] (0,0) _ HQ2.out underlying164 rfl Tryz.sizeEnt ?_)|fail)
 have HCW:=hide (HCL.out w2 (HB.out.trans (HB2.out.mono HB.out.size)));have hle:(framesL fits (l.take j)).length≤1000000000:=by
  have h1:=framesL_le fits (l.take j);have h2:(l.take j).length≤l.length:=by rw[List.length_take];omega
  have:=HM.out;omega
 obtain⟨L,hL⟩:=gen (framesL fits (l.take j));rw[←hL] at HV hle;have HLL:=hide hL;clear hL;cases hft:fits ⟨⟨K,H,R,f,V,nl,s⟩,fr,own⟩ with
 |false=>
  rw[hft] at HCW;go_wp2_with (go_at_fn g;refine HCW.out.mono ?_;rintro e w3 ⟨rfl,hb3⟩;have HB23:=hide hb3;clear hb3)
  have HB3:Hid (Below wr.heap.size wr w3):=HB2.out.trans (HB23.out.mono HB2.out.size);go_roundw
  case rel=>
   refine⟨j+1,by omega,by go_num,?_,HB.out.trans (HB3.out.mono HB.out.size)⟩;rw[framesL_step fits l j hlt,←HEV.out,hft,if_neg (by decide),←HLL.out];exact own_keep HV.out HB3.out
  case measure=>simp[intOf];omega
 |true=>
  rw[hft] at HCW;have hwz:w.heap.size≤wr.heap.size:=HB.out.size;go_wp2_with (first|(go_at_fn g;refine HCW.out.mono ?_;rintro e w3 ⟨rfl,hb3⟩;have HB23:=hide hb3;have HB3:Hid (Below wr.heap.size wr w3):=HB2.out.trans (hb3.mono HB2.out.size);have d7:w3.cell? ⟨wr.heap.size,7,none⟩=some (.string fr):=cell_of_row w3 wr.heap.size 7 _ _ _ (blk HQ2.out hb3);have hwz3:w.heap.size≤w3.heap.size:=Nat.le_trans hwz HB3.out.size;clear hb3)|(at_builtin;refine wpList_append_at _ rfl _ _ 30 rfl w.heap.size 9 i9 (.string ByteArray.empty) 1 16 underlying30 hi9 hz0 hz1 hz2 rfl (by decide) _ _ _ rfl (own_keep (own_keep HV.out HB3.out) ((Below.refl _ w3).alloc (Nat.le_refl _) (.cells #[.string fr] 9))) ⟨w3.heap.size,0,none⟩ 1 1 [.string fr] rfl rfl ?c1 ?c2 ?c3 ?c4 ?c5 ?_)|go_in)
  case c1=>
   intro j u hj;match j,hj with
   |0,hj=>simp at hj;subst hj;simp[Addr.add]
  case c2=>first|rfl|(intro u hu;simp at hu;subst hu;rfl)
  case c3=>unfold maxLen;omega
  case c4=>omega
  case c5=>first|omega|(simp;omega)
  intro v4 w4 hown hgrow hat;have HB4:Hid (Below w.heap.size w w4):=((HB.out.trans (HB3.out.mono HB.out.size)).alloc hwz3 _).grown hgrow (by simp;omega) (fun k hk=>(HV.out.lt k hk).1);have HOWN:=hide hown;clear hown hgrow hat;go_wp2;go_roundw
  case rel=>
   refine⟨j+1,by omega,by go_num,?_,HB4.out⟩;rw[framesL_step fits l j hlt,←HEV.out,hft,←HLL.out,if_pos rfl,List.length_append,List.map_append];exact HOWN.out
  case measure=>simp[intOf];omega
def propB(r:Int)(fits:EntV→Bool)(e:EntV):Bool:=decide (e.m.k=1)&&decide (e.m.r=r)&&fits e
def propF(l:List EntV)(r:Int)(fits:EntV→Bool):Option EntV:=l.find? (propB r fits)
theorem propF_none(h:∀e∈l,propB r fits e=false):propF l r fits=none:=by
 unfold propF;rw[List.find?_eq_none];intro e he;rw[h e he];decide
theorem propF_some{j:Nat}(hj:j<l.length)(h:∀e∈l.take j,propB r fits e=false)(hp:propB r fits (l.getD j ent0)=true):propF l r fits=some (l.getD j ent0):=by
 unfold propF;have e:l.take j++(l.getD j ent0::l.drop (j+1))=l:=by
  have h1:=take_stepE l ent0 j hj;have h2:=List.take_append_drop (j+1) l;rw[h1,List.append_assoc] at h2;exact h2
 have e2:List.find? (propB r fits) (l.take j++(l.getD j ent0::l.drop (j+1)))=some (l.getD j ent0):=by
  rw[List.find?_append,List.find?_eq_none.2 (fun x hx=>by rw[h x hx];decide),List.find?_cons_of_pos hp];rfl
 rw[e] at e2;exact e2
def propR(x:Option EntV):Value:=.tuple #[.agg (x.getD ent0).cells,.bool x.isSome]
theorem proposal_any(g:Nat)(lb:Array Value)(fits:EntV→Bool)(l:List EntV)(r:Int)(p:Option Addr)(cap:Nat)(w:World)(eg:EntersP g)(hl:EntsAt w w.heap.size p l.length (fun i=>l.getD i ent0))(hm:l.length≤maxLen)(hf:FitsAt g lb fits (l.filter fun e=>decide (e.m.k=1)&&decide (e.m.r=r)) w):
 Calls prog 148 #[.slice p l.length cap,.int .i64 r,.func (.func g) #[] lb] w fun e w'=>e=.returned (propR (propF l r fits))∧Below w.heap.size w w':=by
 obtain⟨HL,HF⟩:=hide2 hl hf;have hmx:l.length≤9223372036854775807:=by unfold maxLen at hm;omega
 have eg':∀(args:Array Value) (w:World),(callFunc g args).run prog w=.ok (.enter g args) w:=eg;clear hl hm hf eg;go_enter func148,ntmps148;go_wp2;go_loopw [9,12] (fun _ i wr=>∃j:Nat,j≤l.length∧i=.int .i64 j∧(∀e∈l.take j,propB r fits e=false)∧wr.heap[w.heap.size]? =some (.cells ent0.cells 164 (0,0))∧Below w.heap.size w wr) (fun _ i _=>l.length-(intOf i).toNat)
 case atStart=>exact⟨0,Nat.zero_le _,rfl,fun e he=>by simp at he,heap_alloc_new w _,(Below.refl _ w).alloc (Nat.le_refl _) _⟩
 obtain⟨j,hj,rfl,hno,hq,hb⟩:=hrel;obtain⟨HB,HQ,HNO⟩:=hide3 hb hq hno;clear hb hq hno;by_cases hend:j=l.length
 .have hge:¬(j:Int)<l.length:=by omega
  have HN:Hid (propF l r fits=none):=propF_none (by have h:=HNO.out;rw[hend,List.take_length] at h;exact h);clear hend;go_wp2_with (first|(refine wpList_store_rowG rfl 164 _ _ rfl w.heap.size ent0.cells rfl rfl 164 _ HQ.out rfl (by simp[EntV.cells,Value.oneCell']) Tryz.sizeEnt ?_;intro w3 hq3 ho3;have HQ3:=hide hq3;have HB3:Hid (Below w.heap.size w w3):=HB.out.trans (ho3.below (Nat.le_refl _));clear hq3 ho3)|fail)
  exact bodyPost_ret (v:=propR none) (results_rowG2 results148 _ _ w.heap.size 164 _ _ _ rfl rfl HQ3.out underlying164 rfl Tryz.sizeEnt) rfl ⟨by rw[HN.out],HB3.out⟩
 have hlt:j<l.length:=by omega
 have hlt2:(j:Int)<l.length:=by omega
 obtain⟨b,o,rfl,hbb,hrg⟩:=HL.out.below HB.out j hlt;obtain⟨ev,hev⟩:=gen (l.getD j ent0);have hrg':=hrg;simp only[←hev] at hrg';obtain⟨⟨K,H,R,f,V,nl,s⟩,fr,own⟩:=ev;have HRG:Hid (wr.rangeAt b (o+j*9) [.int .i64 K,.int .i64 H,.int .i64 R,.int .i64 f,.int .i64 V,.bool nl,.string s,.string fr,.bool own]):=hrg';have HEV:=hide hev;clear hrg hrg' hev hbb;have hz:w.heap.size<wr.heap.size:=row_lt0 HQ.out;have hMEM:=getD_mem l ent0 j hlt;rw[←HEV.out] at hMEM;have HNX:Hid (propB r fits ⟨⟨K,H,R,f,V,nl,s⟩,fr,own⟩=false→∀e∈l.take (j+1),propB r fits e=false):=by
  intro h0 e he;rw[take_stepE l ent0 j hlt,List.mem_append] at he;rcases he with he|he
  .exact HNO.out e he
  rw[List.mem_singleton] at he;rw[he,←HEV.out];exact h0
 by_cases hk1:K=1
 .by_cases hrr:R=r
  .subst hk1;subst hrr;have HCL:=hide (fun W hW=>HF.out W ⟨⟨1,H,R,f,V,nl,s⟩,fr,own⟩ (List.mem_filter.2 ⟨hMEM,by simp⟩) hW);have qrr:(R==R)=true:=by simp
   clear hMEM;cases hft:fits ⟨⟨1,H,R,f,V,nl,s⟩,fr,own⟩ with
   |false=>
    have HP0:Hid (propB R fits ⟨⟨1,H,R,f,V,nl,s⟩,fr,own⟩=false):=by unfold Hid propB;rw[hft];simp
    go_wp2_with (first|(refine wpList_load_mid rfl 164 _ rfl b (o+j*9) rfl [.int .i64 1,.int .i64 H,.int .i64 R,.int .i64 f,.int .i64 V,.bool nl,.string s,.string fr,.bool own] _ HRG.out underlying164 rfl Tryz.sizeEnt ?_)|(refine wpList_store_new rfl 164 _ _ rfl wr #[.int .i64 1,.int .i64 H,.int .i64 R,.int .i64 f,.int .i64 V,.bool nl,.string s,.string fr,.bool own] rfl rfl 164 _ rfl (by simp[Value.oneCell']) Tryz.sizeEnt ?_;intro w2 hq2 hb2 hz2;have c0:w2.cell? ⟨wr.heap.size,0,none⟩=some (.int .i64 1):=cell_of_row w2 wr.heap.size 0 _ _ _ hq2;have c2:w2.cell? ⟨wr.heap.size,2,none⟩=some (.int .i64 R):=cell_of_row w2 wr.heap.size 2 _ _ _ hq2;have HQ2:=hide hq2;have HB2:Hid (Below wr.heap.size wr w2):=hb2;clear hq2 hb2 hz2)|(refine wpList_load_rowW rfl 164 _ rfl wr.heap.size rfl 164 #[.int .i64 1,.int .i64 H,.int .i64 R,.int .i64 f,.int .i64 V,.bool nl,.string s,.string fr,.bool own] _ HQ2.out underlying164 rfl Tryz.sizeEnt ?_)|(go_at_fn g;refine(HCL.out w2 (HB.out.trans (HB2.out.mono HB.out.size))).mono ?_;rw[hft];rintro e w3 ⟨rfl,hb3⟩;have HB3:Hid (Below wr.heap.size wr w3):=HB2.out.trans (hb3.mono HB2.out.size);clear hb3)|fail)
    go_roundw
    case rel=>exact⟨j+1,by omega,by go_num,HNX.out HP0.out,blk HQ.out HB3.out,HB.out.trans (HB3.out.mono HB.out.size)⟩
    case measure=>simp[intOf];omega
   |true=>
    have HPS:Hid (propF l R fits=some ⟨⟨1,H,R,f,V,nl,s⟩,fr,own⟩):=by
     unfold Hid;rw[propF_some hlt HNO.out (by rw[←HEV.out];unfold propB;rw[hft];simp),←HEV.out]
    go_wp2_with (first|(refine wpList_load_mid rfl 164 _ rfl b (o+j*9) rfl [.int .i64 1,.int .i64 H,.int .i64 R,.int .i64 f,.int .i64 V,.bool nl,.string s,.string fr,.bool own] _ HRG.out underlying164 rfl Tryz.sizeEnt ?_)|(refine wpList_store_new rfl 164 _ _ rfl wr #[.int .i64 1,.int .i64 H,.int .i64 R,.int .i64 f,.int .i64 V,.bool nl,.string s,.string fr,.bool own] rfl rfl 164 _ rfl (by simp[Value.oneCell']) Tryz.sizeEnt ?_;intro w2 hq2 hb2 hz2;have c0:w2.cell? ⟨wr.heap.size,0,none⟩=some (.int .i64 1):=cell_of_row w2 wr.heap.size 0 _ _ _ hq2;have c2:w2.cell? ⟨wr.heap.size,2,none⟩=some (.int .i64 R):=cell_of_row w2 wr.heap.size 2 _ _ _ hq2;have HQ2:=hide hq2;have HB2:Hid (Below wr.heap.size wr w2):=hb2;clear hq2 hb2 hz2)|(refine wpList_load_rowW rfl 164 _ rfl wr.heap.size rfl 164 #[.int .i64 1,.int .i64 H,.int .i64 R,.int .i64 f,.int .i64 V,.bool nl,.string s,.string fr,.bool own] _ HQ2.out underlying164 rfl Tryz.sizeEnt ?_)|(go_at_fn g;refine(HCL.out w2 (HB.out.trans (HB2.out.mono HB.out.size))).mono ?_;rw[hft];rintro e w3 ⟨rfl,hb3⟩;have HB3:Hid (Below wr.heap.size wr w3):=HB2.out.trans (hb3.mono HB2.out.size);have HQ23:=hide (blk HQ2.out hb3);have HQR3:=hide (blk HQ.out HB3.out);clear hb3)|(refine wpList_load_row rfl 164 _ rfl wr.heap.size rfl 164 #[.int .i64 1,.int .i64 H,.int .i64 R,.int .i64 f,.int .i64 V,.bool nl,.string s,.string fr,.bool own] (0,0) _ HQ23.out underlying164 rfl Tryz.sizeEnt ?_)|(refine wpList_store_rowG rfl 164 _ _ rfl w.heap.size #[.int .i64 1,.int .i64 H,.int .i64 R,.int .i64 f,.int .i64 V,.bool nl,.string s,.string fr,.bool own] rfl rfl 164 _ HQR3.out rfl (by simp[Value.oneCell']) Tryz.sizeEnt ?_;intro w4 hq4 ho4;have HQ4:=hide hq4;have HB4:Hid (Below w.heap.size w w4):=(HB.out.trans (HB3.out.mono HB.out.size)).trans (ho4.below (Nat.le_refl _));clear hq4 ho4)|fail)
    exact bodyPost_ret (v:=propR (some ⟨⟨1,H,R,f,V,nl,s⟩,fr,own⟩)) (results_rowG2 results148 _ _ w.heap.size 164 _ _ _ rfl rfl HQ4.out underlying164 rfl Tryz.sizeEnt) rfl ⟨by rw[HPS.out],HB4.out⟩
  subst hk1;have HP0:Hid (propB r fits ⟨⟨1,H,R,f,V,nl,s⟩,fr,own⟩=false):=by unfold Hid propB;simp[hrr]
  have qrr:(R==r)=false:=by simpa using hrr
  clear hMEM;go_wp2_with (first|(refine wpList_load_mid rfl 164 _ rfl b (o+j*9) rfl [.int .i64 1,.int .i64 H,.int .i64 R,.int .i64 f,.int .i64 V,.bool nl,.string s,.string fr,.bool own] _ HRG.out underlying164 rfl Tryz.sizeEnt ?_)|(refine wpList_store_new rfl 164 _ _ rfl wr #[.int .i64 1,.int .i64 H,.int .i64 R,.int .i64 f,.int .i64 V,.bool nl,.string s,.string fr,.bool own] rfl rfl 164 _ rfl (by simp[Value.oneCell']) Tryz.sizeEnt ?_;intro w2 hq2 hb2 hz2;have c0:w2.cell? ⟨wr.heap.size,0,none⟩=some (.int .i64 1):=cell_of_row w2 wr.heap.size 0 _ _ _ hq2;have c2:w2.cell? ⟨wr.heap.size,2,none⟩=some (.int .i64 R):=cell_of_row w2 wr.heap.size 2 _ _ _ hq2;have HQ2:=hide hq2;have HB2:Hid (Below wr.heap.size wr w2):=hb2;clear hq2 hb2 hz2)|fail)
  go_roundw
  case rel=>exact⟨j+1,by omega,by go_num,HNX.out HP0.out,blk HQ.out HB2.out,HB.out.trans (HB2.out.mono HB.out.size)⟩
  case measure=>simp[intOf];omega
 have HP0:Hid (propB r fits ⟨⟨K,H,R,f,V,nl,s⟩,fr,own⟩=false):=by unfold Hid propB;simp[hk1]
 have qkk:(K==1)=false:=by simpa using hk1
 clear hMEM;go_wp2_with (first|(refine wpList_load_mid rfl 164 _ rfl b (o+j*9) rfl [.int .i64 K,.int .i64 H,.int .i64 R,.int .i64 f,.int .i64 V,.bool nl,.string s,.string fr,.bool own] _ HRG.out underlying164 rfl Tryz.sizeEnt ?_)|(refine wpList_store_new rfl 164 _ _ rfl wr #[.int .i64 K,.int .i64 H,.int .i64 R,.int .i64 f,.int .i64 V,.bool nl,.string s,.string fr,.bool own] rfl rfl 164 _ rfl (by simp[Value.oneCell']) Tryz.sizeEnt ?_;intro w2 hq2 hb2 hz2;have c0:w2.cell? ⟨wr.heap.size,0,none⟩=some (.int .i64 K):=cell_of_row w2 wr.heap.size 0 _ _ _ hq2;have HQ2:=hide hq2;have HB2:Hid (Below wr.heap.size wr w2):=hb2;clear hq2 hb2 hz2)|fail)
 go_roundw
 case rel=>exact⟨j+1,by omega,by go_num,HNX.out HP0.out,blk HQ.out HB2.out,HB.out.trans (HB2.out.mono HB.out.size)⟩
 case measure=>simp[intOf];omega
theorem callsF_fits{fn:Func}{c:Code}(hf:prog.funcs[g]? =some fn)(hname:(fn.name== "runtime.NumGoroutine")=false)(hb:fn.body=some c):EntersP g:=enters_of hf hname hb
def votesB(k r:Int)(e:EntV):Bool:=decide (e.m.k=k)&&decide (e.m.r=r)
def votesForB(k r:Int)(t:ByteArray)(e:EntV):Bool:=decide (e.m.k=k)&&decide (e.m.r=r)&& !e.m.nl&&decide (e.m.s=t)
def votesNoB(k r:Int)(e:EntV):Bool:=decide (e.m.k=k)&&decide (e.m.r=r)&&e.m.nl
theorem votes1(e:EntV)(b1 b2:Nat)(k r:Int)(W:World)(h1:W.cell? ⟨b1,0,none⟩=some (.int .i64 k))(h2:W.cell? ⟨b2,0,none⟩=some (.int .i64 r)):
 Calls prog 188 #[.agg e.cells,.pointer (some ⟨b1,0,none⟩),.pointer (some ⟨b2,0,none⟩)] W fun en w'=>en=.returned (.bool (votesB k r e))∧Below W.heap.size W w':=by
 obtain⟨⟨K,H,R,f,V,nl,s⟩,fr,own⟩:=e;have g1:=fun o=>cell?_alloc_old o h1;have g2:=fun o=>cell?_alloc_old o h2;clear h1 h2;show Calls prog 188 #[.agg #[.int .i64 K,.int .i64 H,.int .i64 R,.int .i64 f,.int .i64 V,.bool nl,.string s,.string fr,.bool own],.pointer (some ⟨b1,0,none⟩),.pointer (some ⟨b2,0,none⟩)] W _;by_cases hk:K=k
 .subst hk;have qk:(K==K)=true:=by simp
  by_cases hr:R=r
  .subst hr;have qr:(R==R)=true:=by simp
   go_enter func188,ntmps188;go_wp2;go_ret;exact⟨ret_b (by simp[votesB]),(Below.refl _ W).alloc (Nat.le_refl _) _⟩
  have qr:(R==r)=false:=by simpa using hr
  go_enter func188,ntmps188;go_wp2;go_ret;exact⟨ret_b (by simp[votesB,hr]),(Below.refl _ W).alloc (Nat.le_refl _) _⟩
 have qk:(K==k)=false:=by simpa using hk
 go_enter func188,ntmps188;go_wp2;go_ret;exact⟨ret_b (by simp[votesB,hk]),(Below.refl _ W).alloc (Nat.le_refl _) _⟩
theorem votesNo1(e:EntV)(b1 b2:Nat)(k r:Int)(W:World)(h1:W.cell? ⟨b1,0,none⟩=some (.int .i64 k))(h2:W.cell? ⟨b2,0,none⟩=some (.int .i64 r)):
 Calls prog 187 #[.agg e.cells,.pointer (some ⟨b1,0,none⟩),.pointer (some ⟨b2,0,none⟩)] W fun en w'=>en=.returned (.bool (votesNoB k r e))∧Below W.heap.size W w':=by
 obtain⟨⟨K,H,R,f,V,nl,s⟩,fr,own⟩:=e;have g1:=fun o=>cell?_alloc_old o h1;have g2:=fun o=>cell?_alloc_old o h2;clear h1 h2;show Calls prog 187 #[.agg #[.int .i64 K,.int .i64 H,.int .i64 R,.int .i64 f,.int .i64 V,.bool nl,.string s,.string fr,.bool own],.pointer (some ⟨b1,0,none⟩),.pointer (some ⟨b2,0,none⟩)] W _;by_cases hk:K=k
 .subst hk;have qk:(K==K)=true:=by simp
  by_cases hr:R=r
  .subst hr;have qr:(R==R)=true:=by simp
   cases nl with
   |true=>
    go_enter func187,ntmps187;go_wp2;go_ret;exact⟨ret_b (by simp[votesNoB]),(Below.refl _ W).alloc (Nat.le_refl _) _⟩
   |false=>
    go_enter func187,ntmps187;go_wp2;go_ret;exact⟨ret_b (by simp[votesNoB]),(Below.refl _ W).alloc (Nat.le_refl _) _⟩
  have qr:(R==r)=false:=by simpa using hr
  go_enter func187,ntmps187;go_wp2;go_ret;exact⟨ret_b (by simp[votesNoB,hr]),(Below.refl _ W).alloc (Nat.le_refl _) _⟩
 have qk:(K==k)=false:=by simpa using hk
 go_enter func187,ntmps187;go_wp2;go_ret;exact⟨ret_b (by simp[votesNoB,hk]),(Below.refl _ W).alloc (Nat.le_refl _) _⟩
theorem votesFor1(e:EntV)(b1 b2 b3:Nat)(k r:Int)(t:ByteArray)(W:World)(h1:W.cell? ⟨b1,0,none⟩=some (.int .i64 k))(h2:W.cell? ⟨b2,0,none⟩=some (.int .i64 r))(h3:W.cell? ⟨b3,0,none⟩=some (.string t)):
 Calls prog 184 #[.agg e.cells,.pointer (some ⟨b1,0,none⟩),.pointer (some ⟨b2,0,none⟩),.pointer (some ⟨b3,0,none⟩)] W fun en w'=>en=.returned (.bool (votesForB k r t e))∧Below W.heap.size W w':=by
 obtain⟨⟨K,H,R,f,V,nl,s⟩,fr,own⟩:=e;have g1:=fun o=>cell?_alloc_old o h1;have g2:=fun o=>cell?_alloc_old o h2;have g3:=fun o=>cell?_alloc_old o h3;clear h1 h2 h3;show Calls prog 184 #[.agg #[.int .i64 K,.int .i64 H,.int .i64 R,.int .i64 f,.int .i64 V,.bool nl,.string s,.string fr,.bool own],.pointer (some ⟨b1,0,none⟩),.pointer (some ⟨b2,0,none⟩),.pointer (some ⟨b3,0,none⟩)] W _;by_cases hk:K=k
 .subst hk;have qk:(K==K)=true:=by simp
  by_cases hr:R=r
  .subst hr;have qr:(R==R)=true:=by simp
   cases nl with
   |true=>
    go_enter func184,ntmps184;go_wp2;go_ret;exact⟨ret_b (by simp[votesForB]),(Below.refl _ W).alloc (Nat.le_refl _) _⟩
   |false=>
    by_cases hs:s=t
    .subst hs;go_enter func184,ntmps184;go_wp2;go_ret;exact⟨ret_b (by simp[votesForB]),(Below.refl _ W).alloc (Nat.le_refl _) _⟩
    have q1:=text_ne hs;go_enter func184,ntmps184;go_wp2;go_ret;exact⟨ret_b (by simp[votesForB,hs]),(Below.refl _ W).alloc (Nat.le_refl _) _⟩
  have qr:(R==r)=false:=by simpa using hr
  go_enter func184,ntmps184;go_wp2;go_ret;exact⟨ret_b (by simp[votesForB,hr]),(Below.refl _ W).alloc (Nat.le_refl _) _⟩
 have qk:(K==k)=false:=by simpa using hk
 go_enter func184,ntmps184;go_wp2;go_ret;exact⟨ret_b (by simp[votesForB,hk]),(Below.refl _ W).alloc (Nat.le_refl _) _⟩
theorem votes_any(k r:Int)(w:World):
 Calls prog 161 #[.int .i64 k,.int .i64 r] w fun e w'=>∃g lb,e=.returned (.func (.func g) #[] lb)∧EntersP g∧(∀l,FitsAt g lb (votesB k r) l w')∧Below w.heap.size w w':=by
 have hmf:∀(fn:Fn) (first cap:Array Value) (w:World),(Instr.makeFunc fn first cap).run prog w=.ok (.func fn first cap) w:=fun _ _ _ _=>rfl;go_enter func161,ntmps161;go_wp2;go_ret;have hz:((w.alloc (.cells #[.int .i64 k] 3)).alloc (.cells #[.int .i64 r] 3)).heap.size=w.heap.size+2:=by simp
 have hb:Below w.heap.size w ((w.alloc (.cells #[.int .i64 k] 3)).alloc (.cells #[.int .i64 r] 3)):=(((Below.refl _ w).alloc (Nat.le_refl _) _).alloc (by simp) _);have q1:((w.alloc (.cells #[.int .i64 k] 3)).alloc (.cells #[.int .i64 r] 3)).heap[w.heap.size]? =some (.cells #[.int .i64 k] 3 (0,0)):=by
  have h:=heap_alloc_new w (.cells #[.int .i64 k] 3);rw[Below.heap_alloc (w.alloc (.cells #[.int .i64 k] 3)) _ (w.heap.size) (by simp;try omega)];exact h
 have q2:((w.alloc (.cells #[.int .i64 k] 3)).alloc (.cells #[.int .i64 r] 3)).heap[w.heap.size+1]? =some (.cells #[.int .i64 r] 3 (0,0)):=by
  have h:=heap_alloc_new (w.alloc (.cells #[.int .i64 k] 3)) (.cells #[.int .i64 r] 3);have e1:(w.alloc (.cells #[.int .i64 k] 3)).heap.size=w.heap.size+1:=by simp
  rw[e1] at h;exact h
 obtain⟨W0,hW0⟩:∃z,z=((w.alloc (.cells #[.int .i64 k] 3)).alloc (.cells #[.int .i64 r] 3)):=⟨_,rfl⟩;rw[←hW0] at hz hb q1 q2 ⊢;refine⟨188,_,rfl,callsF_fits func188 (by kernel_rfl) rfl,fun l W e _ hW=>?_,hb⟩;exact votes1 e w.heap.size (w.heap.size+1) k r W (cell_of_row W _ 0 _ _ _ (blk q1 hW)) (cell_of_row W _ 0 _ _ _ (blk q2 hW))
theorem votesNo_any(k r:Int)(w:World):
 Calls prog 160 #[.int .i64 k,.int .i64 r] w fun e w'=>∃g lb,e=.returned (.func (.func g) #[] lb)∧EntersP g∧(∀l,FitsAt g lb (votesNoB k r) l w')∧Below w.heap.size w w':=by
 have hmf:∀(fn:Fn) (first cap:Array Value) (w:World),(Instr.makeFunc fn first cap).run prog w=.ok (.func fn first cap) w:=fun _ _ _ _=>rfl;go_enter func160,ntmps160;go_wp2;go_ret;have hz:((w.alloc (.cells #[.int .i64 k] 3)).alloc (.cells #[.int .i64 r] 3)).heap.size=w.heap.size+2:=by simp
 have hb:Below w.heap.size w ((w.alloc (.cells #[.int .i64 k] 3)).alloc (.cells #[.int .i64 r] 3)):=(((Below.refl _ w).alloc (Nat.le_refl _) _).alloc (by simp) _);have q1:((w.alloc (.cells #[.int .i64 k] 3)).alloc (.cells #[.int .i64 r] 3)).heap[w.heap.size]? =some (.cells #[.int .i64 k] 3 (0,0)):=by
  have h:=heap_alloc_new w (.cells #[.int .i64 k] 3);rw[Below.heap_alloc (w.alloc (.cells #[.int .i64 k] 3)) _ (w.heap.size) (by simp;try omega)];exact h
 have q2:((w.alloc (.cells #[.int .i64 k] 3)).alloc (.cells #[.int .i64 r] 3)).heap[w.heap.size+1]? =some (.cells #[.int .i64 r] 3 (0,0)):=by
  have h:=heap_alloc_new (w.alloc (.cells #[.int .i64 k] 3)) (.cells #[.int .i64 r] 3);have e1:(w.alloc (.cells #[.int .i64 k] 3)).heap.size=w.heap.size+1:=by simp
  rw[e1] at h;exact h
 obtain⟨W0,hW0⟩:∃z,z=((w.alloc (.cells #[.int .i64 k] 3)).alloc (.cells #[.int .i64 r] 3)):=⟨_,rfl⟩;rw[←hW0] at hz hb q1 q2 ⊢;refine⟨187,_,rfl,callsF_fits func187 (by kernel_rfl) rfl,fun l W e _ hW=>?_,hb⟩;exact votesNo1 e w.heap.size (w.heap.size+1) k r W (cell_of_row W _ 0 _ _ _ (blk q1 hW)) (cell_of_row W _ 0 _ _ _ (blk q2 hW))
theorem votesFor_any(k r:Int)(t:ByteArray)(w:World):
 Calls prog 151 #[.int .i64 k,.int .i64 r,.string t] w fun e w'=>∃g lb,e=.returned (.func (.func g) #[] lb)∧EntersP g∧(∀l,FitsAt g lb (votesForB k r t) l w')∧Below w.heap.size w w':=by
 have hmf:∀(fn:Fn) (first cap:Array Value) (w:World),(Instr.makeFunc fn first cap).run prog w=.ok (.func fn first cap) w:=fun _ _ _ _=>rfl;go_enter func151,ntmps151;go_wp2;go_ret;have hz:(((w.alloc (.cells #[.int .i64 k] 3)).alloc (.cells #[.int .i64 r] 3)).alloc (.cells #[.string t] 9)).heap.size=w.heap.size+3:=by simp
 have hb:Below w.heap.size w (((w.alloc (.cells #[.int .i64 k] 3)).alloc (.cells #[.int .i64 r] 3)).alloc (.cells #[.string t] 9)):=((((Below.refl _ w).alloc (Nat.le_refl _) _).alloc (by simp) _).alloc (by simp;omega) _);have q1:(((w.alloc (.cells #[.int .i64 k] 3)).alloc (.cells #[.int .i64 r] 3)).alloc (.cells #[.string t] 9)).heap[w.heap.size]? =some (.cells #[.int .i64 k] 3 (0,0)):=by
  have h:=heap_alloc_new w (.cells #[.int .i64 k] 3);rw[Below.heap_alloc ((w.alloc (.cells #[.int .i64 k] 3)).alloc (.cells #[.int .i64 r] 3)) _ (w.heap.size) (by simp;try omega)];rw[Below.heap_alloc (w.alloc (.cells #[.int .i64 k] 3)) _ (w.heap.size) (by simp;try omega)];exact h
 have q2:(((w.alloc (.cells #[.int .i64 k] 3)).alloc (.cells #[.int .i64 r] 3)).alloc (.cells #[.string t] 9)).heap[w.heap.size+1]? =some (.cells #[.int .i64 r] 3 (0,0)):=by
  have h:=heap_alloc_new (w.alloc (.cells #[.int .i64 k] 3)) (.cells #[.int .i64 r] 3);have e1:(w.alloc (.cells #[.int .i64 k] 3)).heap.size=w.heap.size+1:=by simp
  rw[e1] at h;rw[Below.heap_alloc ((w.alloc (.cells #[.int .i64 k] 3)).alloc (.cells #[.int .i64 r] 3)) _ (w.heap.size+1) (by simp;try omega)];exact h
 have q3:(((w.alloc (.cells #[.int .i64 k] 3)).alloc (.cells #[.int .i64 r] 3)).alloc (.cells #[.string t] 9)).heap[w.heap.size+2]? =some (.cells #[.string t] 9 (0,0)):=by
  have h:=heap_alloc_new ((w.alloc (.cells #[.int .i64 k] 3)).alloc (.cells #[.int .i64 r] 3)) (.cells #[.string t] 9);have e1:((w.alloc (.cells #[.int .i64 k] 3)).alloc (.cells #[.int .i64 r] 3)).heap.size=w.heap.size+2:=by simp
  rw[e1] at h;exact h
 obtain⟨W0,hW0⟩:∃z,z=(((w.alloc (.cells #[.int .i64 k] 3)).alloc (.cells #[.int .i64 r] 3)).alloc (.cells #[.string t] 9)):=⟨_,rfl⟩;rw[←hW0] at hz hb q1 q2 q3 ⊢;refine⟨184,_,rfl,callsF_fits func184 (by kernel_rfl) rfl,fun l W e _ hW=>?_,hb⟩;exact votesFor1 e w.heap.size (w.heap.size+1) (w.heap.size+2) k r t W (cell_of_row W _ 0 _ _ _ (blk q1 hW)) (cell_of_row W _ 0 _ _ _ (blk q2 hW)) (cell_of_row W _ 0 _ _ _ (blk q3 hW))
end Go.Proofs.YtcfjhbcpjpgodaaGreatDoor

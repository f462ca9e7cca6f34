/- Proved here: what a node forgets of what waits, once a block is decided. -/
import Derived.Test.YtcfjhbcpjpgodaaGreatDoorJ21
import Derived.Test.YtcfjhbcpjpgodaaGreatDoorShelfC
import Derived.Test.YtcfjhbcpjpgodaaGreatDoorJ18
import Derived.Test.YtcfjhbcpjpgodaaGreatDoorJ5
import Derived.Test.YtcfjhbcpjpgodaaGreatDoorJ8
import Derived.Test.YtcfjhbcpjpgodaaGreatDoorJ27
import Derived.Test.YtcfjhbcpjpgodaaGreatDoorJ24
import Derived.Test.YtcfjhbcpjpgodaaGreatDoorTakeL
namespace Go.Proofs.YtcfjhbcpjpgodaaGreatDoor
open Go.RowKit Go.Proofs.Tryz
set_option maxRecDepth 100000
set_option maxHeartbeats 3200000
variable{t fr:ByteArray}{m:MsgV}{n i r h S T j:Nat}{s s' s2:NodeS}{x:Nat→Int}{p:EntV}{l:List EntV}{e:Int}
def pcs(t:ByteArray):List ByteArray:=Lib.splitB comma 0 (Lib.countB t comma) t
theorem pcs_length(t:ByteArray):(pcs t).length=Lib.countB t comma+1:=Lib.splitB_all comma (by decide) 0 _ t rfl
theorem splitPc_any(t:ByteArray)(m:Int)(w:World)(hs:t.size<4294967281)(hm:w.cell? ⟨13,0,none⟩=some (.int .i64 m)):
 Calls prog 202 #[.string t,.string ⟨#[44]⟩] w fun e w'=>e=.returned (.slice (some ⟨w.heap.size,0,none⟩) (pcs t).length (pcs t).length)∧w'=w.alloc (.cells ((pcs t).map Value.string).toArray 9):=by
 refine(Tryz.strings_Split t comma m w hs hm (by decide)).mono ?_;rintro e w' ⟨rfl,rfl⟩;exact⟨by rw[pcs_length],rfl⟩
def eraseT(t:ByteArray):List ByteArray→List ByteArray
 | []=>[]
 |e::l=>if e=t then l else e::eraseT t l
theorem eraseT_none:∀(l:List ByteArray),(∀e∈l,e≠t)→eraseT t l=l
 | [],_=>rfl
 |e::l,h=>by
  unfold eraseT;rw[if_neg (h e (List.mem_cons_self ..)),eraseT_none l fun x hx=>h x (List.mem_cons_of_mem _ hx)]
theorem eraseT_some:∀(l:List ByteArray) (j:Nat),j<l.length→(∀e∈l.take j,e≠t)→l.getD j ByteArray.empty=t→eraseT t l=l.eraseIdx j
 | [],j,h,_,_=>by simp at h
 |e::l,0,_,_,ht=>by
  unfold eraseT;rw[if_pos (show e=t from ht)];rfl
 |e::l,j+1,hj,ha,ht=>by
  unfold eraseT;rw[if_neg (ha e (by simp)),eraseT_some l j (by simpa using hj) (fun x hx=>ha x (by rw[List.take_succ_cons];exact List.mem_cons_of_mem _ hx)) (by simpa using ht)];rfl
theorem idxT_cases(t:ByteArray):∀l:List ByteArray,(∀e∈l,e≠t)∨∃k,k<l.length∧(∀e∈l.take k,e≠t)∧l.getD k ByteArray.empty=t
 | []=>Or.inl (by simp)
 |e::l=>by
  by_cases he:e=t
  .exact Or.inr ⟨0,by simp,by simp,by simpa using he⟩
  .rcases idxT_cases t l with h|⟨k,hk,ha,ht⟩
   .left;intro x hx;rcases List.mem_cons.1 hx with rfl|hx
    .exact he
    .exact h x hx
   .right;refine⟨k+1,by simpa using hk,?_,by simpa using ht⟩;intro x hx;rw[List.take_succ_cons] at hx;rcases List.mem_cons.1 hx with rfl|hx
    .exact he
    .exact ha x hx
def forgetL(l ps:List ByteArray):List ByteArray:=ps.foldl (fun l t=>eraseT t l) l
theorem forgetL_step(l ps:List ByteArray)(k:Nat)(h:k<ps.length):forgetL l (ps.take (k+1))=eraseT (ps.getD k ByteArray.empty) (forgetL l (ps.take k)):=by
 unfold forgetL;rw[take_stepE ps ByteArray.empty k h,List.foldl_append];rfl
theorem nodeA_wait(kb cb:Nat)(V:NodeV)(s:NodeS)(v:Value)(l:List ByteArray):(nodeA kb cb V s).setIfInBounds 36 v=nodeA kb cb { V with wv:=v } { s with wait:=l }:=by
 unfold nodeA nodeL;rfl
theorem forget_any{B:Nat}{es:List Addr}{m:Int}{F R:Nat→Prop}{nb kb rb cb:Nat}(t:ByteArray){w:World}(h:NodeW B es m F R nb kb rb cb n i s w)(ht:t.size≤1000000):
 Calls prog 186 #[.pointer (some ⟨nb,0,none⟩),.string t] w fun en w'=>en=.returned (.tuple #[])∧∃F',NodeW B es m F' R nb kb rb cb n i { s with wait:=forgetL s.wait (pcs t) } w'∧Goes F R w F' R w':=by
 have HSP:=hide (splitPc_any t m w (by omega) h.glob.len);have HH:=hide h;obtain⟨ps,hps⟩:=gen (pcs t);rw[←hps] at HSP ⊢;have hpl:ps.length≤9223372036854775807:=by
  rw[hps];have h1:=Lib.splitB_length_le comma 0 (Lib.countB t comma) t;have h2:Lib.countB t comma≤t.size:=Lib.countB_le comma (by decide) t.size t (Nat.le_refl _);unfold pcs;omega
 clear h ht hps;go_enter func186,ntmps186;go_wp2_with fail
 refine HSP.out.mono ?_;rintro e w1 ⟨rfl,hw1⟩;have HB1:Hid (Below w.heap.size w w1):=by rw[hw1];exact(Below.refl _ w).alloc (Nat.le_refl _) _
 have HQ1:Hid (w1.heap[w.heap.size]? =some (.cells (ps.map Value.string).toArray 9 (0,0))):=by rw[hw1];exact heap_alloc_new w _
 have hz1:w.heap.size<w1.heap.size:=row_lt0 HQ1.out;have HNP:Hid (¬(F w.heap.size∨R w.heap.size)):=fun x=>x.elim (fun x=>Nat.lt_irrefl _ (HH.out.fl _ x).2) (fun x=>Nat.lt_irrefl _ (HH.out.rl _ x).2);have HH1:Hid (NodeW B es m F R nb kb rb cb n i s w1):=HH.out.below HB1.out;clear hw1 HSP;go_wp2;go_loopw [5,6,10] (fun _ _ kv wr=>∃(k:Nat) (F':Nat→Prop),k≤ps.length∧kv=.int .i64 k∧NodeW B es m F' R nb kb rb cb n i { s with wait:=forgetL s.wait (ps.take k) } wr∧Goes F R w1 F' R wr) (fun _ _ kv _=>ps.length-(intOf kv).toNat)
 case atStart=>exact⟨0,F,Nat.zero_le _,rfl,HH1.out,Goes.refl _ _ _⟩
 obtain⟨k,F',hk,rfl,hn,hgo⟩:=hrel;obtain⟨HN,HGO⟩:=hide2 hn hgo;clear hn hgo;by_cases hend:k=ps.length
 .have hge:¬(k:Int)<ps.length:=by omega
  have HFIN:Hid (NodeW B es m F' R nb kb rb cb n i { s with wait:=forgetL s.wait ps } wr):=by
   have h:=HN.out;rw[hend,List.take_length] at h;exact h
  have HG:Hid (Goes F R w F' R wr):=(Goes.below HB1.out).trans HGO.out;clear hend;go_wp2;first|exact bodyPost_end (v:=.tuple #[]) (by simp[results,results186]) rfl ⟨rfl,F',HFIN.out,HG.out⟩|exact bodyPost_ret (v:=.tuple #[]) (by simp[results,results186]) rfl ⟨rfl,F',HFIN.out,HG.out⟩
 have hlt:k<ps.length:=by omega
 have hlt2:(k:Int)<ps.length:=by omega
 have hqr:wr.heap[w.heap.size]? =some (.cells (ps.map Value.string).toArray 9 (0,0)):=(HGO.out.same.block _ hz1 HNP.out).trans HQ1.out;obtain⟨rc,hrc⟩:=gen (ps.getD k ByteArray.empty);have hpc:wr.cell? ⟨w.heap.size,k,none⟩=some (.string rc):=by
  rw[cell_of_row wr w.heap.size k _ _ _ hqr,hrc];simp[List.getD_eq_getElem?_getD,hlt]
 have hstep:=forgetL_step s.wait ps k hlt;rw[←hrc] at hstep;obtain⟨L,hL⟩:=gen (forgetL s.wait (ps.take k));rw[←hL] at hstep HN;have HSTEP:=hide hstep;clear hqr hrc hstep hL;obtain⟨V,hA,hf⟩:=HN.out.node;obtain⟨p,c,ewv,hlm,hlies⟩:=own_lies hA.wait;have hc36:wr.cell? ⟨nb,36,none⟩=some (.slice p L.length c):=by rw[hA.cell 36 (v:=V.wv) rfl,ewv]
 obtain⟨HIX,HA,HF⟩:=hide3 (indexT_any L rc p c wr hlies hlm) hA hf;clear hA hf hlies;rcases idxT_cases rc L with hno|⟨j,hj,hno,hjt⟩
 .rw [idxT_none L 0 hno] at HIX;have HE:=hide (eraseT_none L hno);clear hno;go_wp2_with (first|(go_at_call 203;refine HIX.out.mono ?_;rintro e w2 ⟨rfl,hb2⟩;have HB2:=hide hb2;clear hb2)|fail)
  go_roundw
  case rel=>
   refine⟨k+1,F',by omega,by go_num,?_,HGO.out.trans (Goes.below HB2.out)⟩;rw[HSTEP.out,HE.out];exact HN.out.below HB2.out
  case measure=>simp[intOf];omega
 rw[idxT_some L 0 j hj hno hjt,Nat.zero_add] at HIX;have HE:=hide (eraseT_some L j hj hno hjt);have hjl:j≤9223372036854775806:=by
  have hlm2:L.length≤maxLen:=hlm;unfold maxLen at hlm2;omega
 clear hno hjt;obtain⟨g,rfl⟩:∃g,p=some ⟨g,0,none⟩:=by
  rcases HA.out.wait.2 with⟨_,h0⟩|⟨g,cap,cur,e0,_⟩
  .simp only at h0;omega
  rw[ewv] at e0;cases e0;exact⟨g,rfl⟩
 have hgn:nb≠g:=fun e=>(HA.out.rows).2.1 (by rw[ewv,e];rfl);obtain⟨HJ,HEWV⟩:=hide2 hj ewv;clear hj hlm ewv;go_wp2_with (first|(go_at_call 203;refine HIX.out.mono ?_;rintro e w2 ⟨rfl,hb2⟩;have HB2:=hide hb2;have hd36:w2.cell? ⟨nb,36,none⟩=some (.slice (some ⟨g,0,none⟩) L.length c):=(hb2.cell (p:=⟨nb,36,none⟩) (by exact row_lt0 HA.out.blk)).trans hc36;have HDL:=hide (delete1_any g c j 0 L w2 (by have h:=(HA.out.below hb2).wait;rw[HEWV.out] at h;exact h) HJ.out);rw[show((j+1:Nat):Int)=(j:Int)+1 by omega] at HDL;clear hb2)|(go_at_call 204;refine HDL.out.mono ?_;rintro e w3 ⟨rfl,hown3,hs3⟩;have HO3:=hide hown3;have HS3:=hide hs3;have he36:w3.cell? ⟨nb,36,none⟩=some (.slice (some ⟨g,0,none⟩) L.length c):=(World.cell?_of_block (w:=w2) (a:=⟨nb,36,none⟩) (hs3.block nb (World.block_lt_of_cell? _ _ hd36) hgn)).trans hd36;have hfz36:w3.frozen? ⟨nb,36,none⟩=false:=frozen_row ((hs3.block nb (World.block_lt_of_cell? _ _ hd36) hgn).trans (HA.out.below HB2.out).blk) 36;clear hown3 hs3)|fail)
 have HA2:Hid (NodeAt nb kb cb V { s with wait:=L } w2):=HA.out.below HB2.out;have hblk3:w3.heap[nb]? =some (.cells (nodeA kb cb V { s with wait:=L }) 135 (0,0)):=(HS3.out.block nb (row_lt0 HA2.out.blk) hgn).trans HA2.out.blk;obtain⟨w4,hw4⟩:=gen (w3.setCell ⟨nb,36,none⟩ (.slice (some ⟨g,0,none⟩) (L.eraseIdx j).length c));have ho4:Only nb w3 w4:=by rw[hw4];exact only_setCell _ _ _ _
 have hblk4:w4.heap[nb]? =some (.cells (nodeA kb cb { V with wv:=.slice (some ⟨g,0,none⟩) (L.eraseIdx j).length c } { s with wait:=L.eraseIdx j }) 135 (0,0)):=by
  rw[hw4,setCell_row hblk3,nodeA_wait kb cb V _ _ (L.eraseIdx j)]
 have hT:=(HN.out.below HB2.out).waitTurn (s':={ s with wait:=L.eraseIdx j }) (w':=w4) HA2.out HF.out (.slice (some ⟨g,0,none⟩) (L.eraseIdx j).length c) hblk4 (own_blocks HO3.out fun g' e _=>ho4.block g' (fun x=>hgn (x▸(by cases e;rfl)))) (Or.inl (by rw[HEWV.out];rfl)) ⟨ho4.os.trans HS3.out.os,ho4.tape.trans HS3.out.tape,ho4.output.trans HS3.out.output,Nat.le_trans HS3.out.size (Nat.le_of_eq ho4.size.symm),fun q hq hne=>(ho4.block q (fun x=>hne (Or.inl x))).trans (HS3.out.block q hq (fun x=>hne (Or.inr (by rw[HEWV.out,x];rfl))))⟩ rfl rfl rfl rfl rfl rfl;obtain⟨F2,hN2,hG2⟩:=hT;obtain⟨HN2,HG2,HW4⟩:=hide3 hN2 hG2 hw4;clear hN2 hG2 ho4 hblk4 hblk3 hw4;first|rw[←HW4.out]|skip
 go_roundw
 case rel=>
  refine⟨k+1,F2,by omega,by go_num,?_,(HGO.out.trans (Goes.below HB2.out)).trans HG2.out⟩;rw[HSTEP.out,HE.out];exact HN2.out
 case measure=>simp[intOf];omega
theorem sumTo_high(x:Nat→Int)(k:Nat)(v:Int)(n:Nat)(h:n≤k):sumTo (upd x k v) n=sumTo x n:=by
 induction n with
 |zero=>rfl
 |succ n ih=>
  simp only[sumTo];rw[ih (by omega),upd_other _ _ _ _ (by omega)]
theorem next_power(h:0<sumTo x 8)(hn:(nextT x t).2=true):0<sumTo (nextT x t).1 8:=by
 unfold nextT nextR at hn ⊢;split
 .rename_i e;rw[if_pos e] at hn;have h2:=(Bool.and_eq_true_iff.1 hn).1;exact of_decide_eq_true h2
 split
 .rw [sumTo_high _ _ _ _ (by omega)];exact h
 split
 .rw [sumTo_high _ _ _ _ (by omega)];exact h
 rw[sumTo_high _ _ _ _ (by omega)];exact h
theorem behindL_power:∀(l:List ByteArray) (x:Nat→Int),0<sumTo x 8→(behindL x l).2=true→0<sumTo (behindL x l).1 8
 | [],_,h,_=>h
 |t::l,x,h,hn=>by
  rw[behindL] at hn ⊢;by_cases e:(nextT x t).2=true
  .rw [if_pos e] at hn ⊢;exact behindL_power l _ (next_power h e) hn
  .rw [if_neg e] at hn;cases hn
theorem behind_power{b:ByteArray}(h:0<sumTo x 8)(hn:(behindR x b).2=true):0<sumTo (behindR x b).1 8:=by
 unfold behindR goOn at hn ⊢;split
 .rename_i e;rw[if_pos e] at hn;exact behindL_power _ x h hn
 rename_i e;rw[if_neg e] at hn;cases hn
theorem gen_power{g:Nat→Int}(h:(genR g n).2=true):0<sumTo (genR g n).1 8:=by
 unfold genR at h ⊢;split
 .rename_i e;rw[if_pos e] at h;have e8:sumTo (regOf g n) 8=sumTo g n:=by
   have h1:=sumTo_regOf g n (8-n);have h2:=e.1;rw[show n+(8-n)=8 by omega] at h1;exact h1
  rw[e8];exact of_decide_eq_true h
 rename_i e;rw[if_neg e] at h;cases h
def NodeS.kept(s:NodeS)(p:EntV):NodeS:={ s with dec:=s.dec++[⟨p.m.s,p.fr,certTo (votesForB 3 p.m.r p.m.s) s.log 8,false⟩],x:=(behindR s.x p.m.s).1,wait:=forgetL s.wait (pcs p.m.s) }
def NodeS.keepS(s:NodeS)(i:Nat)(p:EntV):NodeS:=(s.kept p).beginH i
def NodeS.decF(s:NodeS):Option EntV:=(List.range 21).findSome? s.decAt
def NodeS.decS(i:Nat)(s:NodeS):Bool×NodeS:=match s.decF with|none=>(false,s)|some p=>(true,s.keepS i p)
theorem decS_none(h:s.decF=none):NodeS.decS i s=(false,s):=by unfold NodeS.decS;rw[h]
theorem decS_some(h:s.decF=some p):NodeS.decS i s=(true,s.keepS i p):=by unfold NodeS.decS;rw[h]
theorem decS_false(s:NodeS)(h:¬(NodeS.decS i s).1=true):NodeS.decS i s=(false,s):=by
 cases hd:s.decF with
 |none=>exact decS_none hd
 |some p=>rw[decS_some hd] at h;exact absurd rfl h
theorem fs_none{α:Type}(f:Nat→Option α)(n:Nat)(h:∀q,q<n→f q=none):(List.range n).findSome? f=none:=by
 rw[List.findSome?_eq_none_iff];intro x hx;exact h x (List.mem_range.1 hx)
theorem fs_some{α:Type}(f:Nat→Option α)(r:Nat)(p:α)(h0:∀q,q<r→f q=none)(h1:f r=some p):∀d,(List.range (r+1+d)).findSome? f=some p
 |0=>by
  rw[Nat.add_zero,List.range_succ,List.findSome?_append,fs_none f r h0];simp[h1]
 |d+1=>by
  rw[show r+1+(d+1)=(r+1+d)+1 from rfl,List.range_succ,List.findSome?_append,fs_some f r p h0 h1 d];rfl
theorem decF_none(h:∀q,q≤20→s.decAt q=none):s.decF=none:=fs_none _ 21 fun q hq=>h q (by omega)
theorem decF_some(hr:r≤20)(h0:∀q,q<r→s.decAt q=none)(h1:s.decAt r=some p):s.decF=some p:=by
 have:=fs_some s.decAt r p h0 h1 (20-r);rw[show r+1+(20-r)=21 by omega] at this;exact this
theorem decF_at(h:s.decF=some p):∃r,r≤20∧s.decAt r=some p:=by
 obtain⟨r,hr,h1⟩:=List.exists_of_findSome?_eq_some h;exact⟨r,by have:=List.mem_range.1 hr;omega,h1⟩
theorem propF_mem{r:Int}{fits:EntV→Bool}(h:propF l r fits=some p):p∈l∧p.m.k=1∧p.m.r=r∧fits p=true:=by
 have h1:=List.mem_of_find?_eq_some h;have h2:propB r fits p=true:=List.find?_some h;unfold propB at h2;rw[Bool.and_eq_true_iff,Bool.and_eq_true_iff] at h2;exact⟨h1,of_decide_eq_true h2.1.1,of_decide_eq_true h2.1.2,h2.2⟩
def cameB(k r f:Int)(e:EntV):Bool:= !e.own&&(decide (e.m.k=k)&&decide (e.m.r=r)&&decide (e.m.f=f))
structure LogOk (h:Nat) (l:List EntV):Prop where
 ok:∀e∈l,EntOk e
 kk:∀e∈l,1≤e.m.k∧e.m.k≤3
 hh:∀e∈l,e.m.h=(h:Int)∧e.m.h<12
 two:∀k r f:Int,l.countP (cameB k r f)≤2
theorem LogOk.nil(h:Nat):LogOk h []:=⟨(fun _ h=>by cases h),(fun _ h=>by cases h),(fun _ h=>by cases h),(fun _ _ _=>by simp)⟩
theorem LogOk.filter(hl:LogOk h l)(p:EntV→Bool):LogOk h (l.filter p):=
 ⟨fun e he=>hl.ok e ((List.mem_filter.1 he).1),fun e he=>hl.kk e ((List.mem_filter.1 he).1),fun e he=>hl.hh e ((List.mem_filter.1 he).1),fun k r f=>Nat.le_trans (List.filter_sublist.countP_le) (hl.two k r f)⟩
theorem LogOk.own(hl:LogOk h l){e:EntV}(ho:e.own=true)(h1:EntOk e)(h2:1≤e.m.k∧e.m.k≤3)(h3:e.m.h=(h:Int)∧e.m.h<12):LogOk h (l++[e]):=by
 refine⟨fun x hx=>?_,fun x hx=>?_,fun x hx=>?_,fun k r f=>?_⟩
 .rcases List.mem_append.1 hx with hx|hx
  .exact hl.ok x hx
  rw[List.mem_singleton.1 hx];exact h1
 .rcases List.mem_append.1 hx with hx|hx
  .exact hl.kk x hx
  rw[List.mem_singleton.1 hx];exact h2
 .rcases List.mem_append.1 hx with hx|hx
  .exact hl.hh x hx
  rw[List.mem_singleton.1 hx];exact h3
 rw[List.countP_append];have:List.countP (cameB k r f) [e]=0:=by simp[cameB,ho]
 have:=hl.two k r f;omega
theorem LogOk.more(hl:LogOk h l){e:EntV}(hn:l.countP (cameB e.m.k e.m.r e.m.f)≤1)(h1:EntOk e)(h2:1≤e.m.k∧e.m.k≤3)(h3:e.m.h=(h:Int)∧e.m.h<12):LogOk h (l++[e]):=by
 refine⟨fun x hx=>?_,fun x hx=>?_,fun x hx=>?_,fun k r f=>?_⟩
 .rcases List.mem_append.1 hx with hx|hx
  .exact hl.ok x hx
  rw[List.mem_singleton.1 hx];exact h1
 .rcases List.mem_append.1 hx with hx|hx
  .exact hl.kk x hx
  rw[List.mem_singleton.1 hx];exact h2
 .rcases List.mem_append.1 hx with hx|hx
  .exact hl.hh x hx
  rw[List.mem_singleton.1 hx];exact h3
 rw[List.countP_append];by_cases hk:cameB k r f e=true
 .have:List.countP (cameB k r f) [e]≤1:=List.countP_le_length
  unfold cameB at hk;rw[Bool.and_eq_true_iff,Bool.and_eq_true_iff,Bool.and_eq_true_iff] at hk;have e1:=of_decide_eq_true hk.2.1.1;have e2:=of_decide_eq_true hk.2.1.2;have e3:=of_decide_eq_true hk.2.2;rw[e1,e2,e3] at hn;omega
 have:List.countP (cameB k r f) [e]=0:=by simp[hk]
 have:=hl.two k r f;omega
theorem pigeon{α:Type}(f:α→Nat)(c:Nat):∀(m:Nat) (l:List α),(∀e∈l,f e<m)→(∀j,j<m→l.countP (fun e=>decide (f e=j))≤c)→l.length≤c*m
 |0,l,h,_=>by
  cases l with
  |nil=>simp
  |cons a l=>exact absurd (h a (List.mem_cons_self ..)) (by omega)
 |m+1,l,h,hc=>by
  have h1:=pigeon f c m (l.filter fun e=> !decide (f e=m)) (fun e he=>by
   have h2:=h e ((List.mem_filter.1 he).1);have h3:=(List.mem_filter.1 he).2;have h4:f e≠m:=by simpa using h3
   omega) (fun j hj=>Nat.le_trans (List.filter_sublist.countP_le) (hc j (by omega)))
  have h2:=hc m (by omega);have h3:=List.length_eq_countP_add_countP (fun e=>decide (f e=m)) (l:=l);have h4:List.countP (fun a=>decide ¬decide (f a=m)=true) l=(l.filter fun e=> !decide (f e=m)).length:=by
   rw[List.countP_eq_length_filter]
   congr 1
   apply List.filter_congr;intro x _;simp
  rw[Nat.mul_add,Nat.mul_one];omega
def keyN(e:EntV):Nat:=(((e.m.k-1)*21+e.m.r)*8+e.m.f).toNat
theorem LogOk.came(hl:LogOk h l):(l.filter fun e=> !e.own).length≤1008:=by
 have hb:∀e∈l,1≤e.m.k∧e.m.k≤3∧0≤e.m.r∧e.m.r≤20∧0≤e.m.f∧e.m.f<8:=fun e he=>⟨(hl.kk e he).1,(hl.kk e he).2,(hl.ok e he).r0,(hl.ok e he).r20,(hl.ok e he).f0,(hl.ok e he).f8⟩;refine pigeon keyN 2 504 _ (fun e he=>?_) (fun j hj=>?_)
 .obtain ⟨h1,h2,h3,h4,h5,h6⟩:=hb e ((List.mem_filter.1 he).1)
  unfold keyN;omega
 rw[List.countP_filter];by_cases hx:∃e0,e0∈l∧keyN e0=j
 .obtain ⟨e0,he0,hk0⟩:=hx
  refine Nat.le_trans (List.countP_mono_left (fun e he hp=>?_)) (hl.two e0.m.k e0.m.r e0.m.f);rw[Bool.and_eq_true_iff] at hp;have hk:=of_decide_eq_true hp.1;obtain⟨a1,a2,a3,a4,a5,a6⟩:=hb e0 he0;obtain⟨b1,b2,b3,b4,b5,b6⟩:=hb e he;unfold keyN at hk hk0;unfold cameB;rw[hp.2,decide_eq_true (show e.m.k=e0.m.k by omega),decide_eq_true (show e.m.r=e0.m.r by omega),decide_eq_true (show e.m.f=e0.m.f by omega)];rfl
 have:List.countP (fun a=>decide (keyN a=j)&& !a.own) l=0:=by
  rw[List.countP_eq_zero];intro a ha hp;rw[Bool.and_eq_true_iff] at hp;exact hx ⟨a,ha,of_decide_eq_true hp.1⟩
 omega
def ownN(l:List EntV):Nat:=l.countP fun e=>e.own
theorem log_len(l:List EntV):l.length=ownN l+(l.filter fun e=> !e.own).length:=by
 unfold ownN;rw[List.length_eq_countP_add_countP (fun e:EntV=>e.own) (l:=l),List.countP_eq_length_filter (p:=fun a:EntV=>decide ¬a.own=true)]
 congr 2
 apply List.filter_congr;intro x _;simp
def NodeS.flags(s:NodeS):Nat:=s.b1.toNat+s.b2.toNat+s.b3.toNat
theorem flags_le(s:NodeS):s.flags≤3:=by
 unfold NodeS.flags;have h1:=Bool.toNat_le s.b1;have h2:=Bool.toNat_le s.b2;have h3:=Bool.toNat_le s.b3;omega
structure NOk (S T i:Nat) (e:Int) (s:NodeS):Prop where
 dom:Dom s.x
 pos:0<sumTo s.x 8
 hgt:s.height≤12
 rnd:s.round≤20
 stp:s.step≤3
 log:LogOk s.height s.log
 ahead:LogOk (s.height+1) s.ahead
 ao:∀e∈s.ahead,e.own=false
 own:(ownN s.log:Int)≤4*s.round+s.step+e
 sg:((s.sg i).length:Int)≤S+84*s.height+4*s.round+s.step+e
 tb:s.tb≤3*(21*s.height+s.round)+s.flags
 tims:s.tims.length≤s.tb
 time:s.time≤T
 wait:s.wait.length≤5
 waitz:∀t∈s.wait,t.size≤1000
 vz:s.vv.size≤24
 cert:∀d∈s.dec,d.cert.length≤100000
 out:s.out.length≤100
theorem NOk.mono{e':Int}(h:NOk S T i e s)(he:e≤e'):NOk S T i e' s:=
 ⟨h.dom,h.pos,h.hgt,h.rnd,h.stp,h.log,h.ahead,h.ao,by have:=h.own;omega,by have:=h.sg;omega,h.tb,h.tims,h.time,h.wait,h.waitz,h.vz,h.cert,h.out⟩
theorem NOk.lens(h:NOk S T i e s)(he:e≤1):s.log.length≤2000∧s.ahead.length≤2000:=by
 have h1:=h.log.came;have h2:=h.ahead.came;have h3:=log_len s.log;have h4:=log_len s.ahead;have h5:ownN s.ahead=0:=by
  unfold ownN;rw[List.countP_eq_zero];intro a ha hp;rw[h.ao a ha] at hp;cases hp
 have h6:=h.own;have h7:=h.rnd;have h8:=h.stp;omega
theorem NOk.st(h:NOk S T i e s)(he:e≤1)(hT:T≤1000000000000)(hS:S≤900000000000):StOk 2000 s∧(s.sg i).length≤1000000000000:=by
 obtain⟨h1,h2⟩:=h.lens he;have h3:=h.tb;have h4:=h.tims;have h5:=h.hgt;have h6:=h.rnd;have h7:=flags_le s;have h8:=h.sg;have h9:=h.stp;exact⟨⟨h.dom,h.pos,h.hgt,h.rnd,h1,h2,by omega,by omega,Nat.le_trans h.time hT,h.log.ok,h.ahead.ok,h.wait,h.waitz,h.vz⟩,by omega⟩
theorem signR_lenN{sg:Nat→List ByteArray}{k:Nat}{u:ByteArray}:(signR sg k u i).length≤(sg i).length+1:=by
 unfold signR;split
 .rename_i h1;rw[h1.1,List.length_append];exact Nat.le_refl _
 omega
theorem put1_le{out:List ByteArray}{f:ByteArray}(h:out.length≤100):(put1 out f).length≤100:=by
 unfold put1;split
 .rw [List.length_append,List.length_singleton];omega
 exact h
theorem NOk.send(h:NOk S T i e s)(k v:Int)(nl:Bool)(t:ByteArray):NOk S T i (e+1) (s.sendS i k v nl t):=by
 unfold NodeS.sendS;split
 .exact h.mono (by omega)
 split
 .rename_i hp hb;have hb2:=of_decide_eq_true hb;obtain⟨b1,b2,b3,b4,b5,b6,b7,b8⟩:=hb2;have hr:=h.rnd;refine⟨h.dom,h.pos,h.hgt,h.rnd,h.stp,?_,h.ahead,h.ao,?_,?_,h.tb,h.tims,h.time,h.wait,h.waitz,h.vz,h.cert,put1_le h.out⟩
  .refine h.log.own rfl ⟨b5,b6,b3,by show(s.round:Int)≤20;omega,b7⟩ ?_ ⟨rfl,b2⟩;show 1≤k∧k≤3;omega
  .have h1:=h.own;show((ownN (s.log++[_]):Nat):Int)≤4*(s.round:Int)+(s.step:Int)+(e+1);unfold ownN at h1 ⊢;rw[List.countP_append];simp only[List.countP_singleton,if_true];omega
  have h1:=h.sg;have h2:=signR_lenN (sg:=s.sg) (k:=i) (i:=i) (u:=s.enc i k v nl t);show(((signR s.sg i (s.enc i k v nl t) i).length:Nat):Int)≤S+84*(s.height:Int)+4*(s.round:Int)+(s.step:Int)+(e+1);omega
 exact h.mono (by omega)
theorem NOk.step{st:Nat}(h:NOk S T i e s)(hst:st≤3):NOk S T i (e+s.step-st) (s.atStep st):=by
 refine⟨h.dom,h.pos,h.hgt,h.rnd,hst,h.log,h.ahead,h.ao,?_,?_,h.tb,h.tims,h.time,h.wait,h.waitz,h.vz,h.cert,h.out⟩
 .have h1:=h.own;show(ownN s.log:Int)≤4*(s.round:Int)+(st:Int)+(e+s.step-st);omega
 have h1:=h.sg;show((s.sg i).length:Int)≤S+84*(s.height:Int)+4*(s.round:Int)+(st:Int)+(e+s.step-st);omega
theorem NOk.timer{num ticks:Nat}(h:NOk S T i e s)(hn:num=1∧s.b1=false∨num=2∧s.b2=false∨num=3∧s.b3=false):NOk S T i e (s.timer num ticks):=by
 refine⟨h.dom,h.pos,h.hgt,h.rnd,h.stp,h.log,h.ahead,h.ao,h.own,h.sg,?_,?_,h.time,h.wait,h.waitz,h.vz,h.cert,h.out⟩
 .have h1:=h.tb;show s.tb+1≤3*(21*s.height+s.round)+(s.timer num ticks).flags;have h2:(s.timer num ticks).flags=s.flags+1:=by
   unfold NodeS.flags NodeS.timer;rcases hn with⟨rfl,h⟩|⟨rfl,h⟩|⟨rfl,h⟩<;>simp[h]<;>omega
  omega
 have h1:=h.tims;show(upT s.tims.length (s.tims++[_]) s.tims.length).length≤s.tb+1;rw[upT_length,List.length_append];simp only[List.length_singleton];omega
theorem NOk.turn{st:Nat}(h:NOk S T i e s)(hr:s.round<r)(hr2:r≤20)(hst:st≤3):NOk S T i (e+(4*s.round+s.step)-(4*r+st)) (s.turned r st):=by
 refine⟨h.dom,h.pos,h.hgt,hr2,hst,h.log,h.ahead,h.ao,?_,?_,?_,h.tims,h.time,h.wait,h.waitz,h.vz,h.cert,h.out⟩
 .have h1:=h.own;show(ownN s.log:Int)≤4*(r:Int)+(st:Int)+(e+(4*s.round+s.step)-(4*r+st));omega
 .have h1:=h.sg;show((s.sg i).length:Int)≤S+84*(s.height:Int)+4*(r:Int)+(st:Int)+(e+(4*s.round+s.step)-(4*r+st));omega
 have h1:=h.tb;have h2:=flags_le s;show s.tb≤3*(21*s.height+r)+(s.turned r st).flags;have h3:(s.turned r st).flags=0:=rfl;omega
theorem NOk.begin(h:NOk S T i (-1) (s.turned r 1)):NOk S T i 0 (s.beginR i r):=by
 unfold NodeS.beginR;split
 .have:=h.send 1 s.vr false (if s.vr<0 then blockF s.x s.wait else s.vv)
  exact this.mono (by omega)
 exact(h.timer (Or.inl ⟨rfl,rfl⟩)).mono (by omega)
theorem eraseT_sub(t:ByteArray):∀l:List ByteArray,(eraseT t l).Sublist l
 | []=>List.Sublist.refl _
 |e::l=>by
  unfold eraseT;split
  .exact List.sublist_cons_self _ _
  .exact (eraseT_sub t l).cons_cons e
theorem forgetL_sub(l:List ByteArray)(ps:List ByteArray):(forgetL l ps).Sublist l:=by
 unfold forgetL;induction ps generalizing l with
 |nil=>exact List.Sublist.refl _
 |cons p ps ih=>exact(ih _).trans (eraseT_sub p l)
theorem NOk.next{st:Nat}(h:NOk S T i 0 s)(hp:p∈s.log)(hg:s.good p.m.s=true)(q:EntV→Bool)(hst:st≤3)(he:0≤st+e):NOk S T i e (((s.kept p).nextLog ((s.kept p).ahead.filter q)).turned 0 st):=by
 have hh:s.height<12:=by
  have:=h.log.hh p hp;omega
 have hk:(s.kept p).height=s.height+1:=by
  show(s.dec++[_]).length=s.dec.length+1;simp
 have hln:=(h.lens (by omega)).1;have hH:(((s.kept p).nextLog ((s.kept p).ahead.filter q)).turned 0 st).height=s.height+1:=hk;have hws:=forgetL_sub s.wait (pcs p.m.s);have hr:=h.rnd;have hs:=h.stp;have hz:ownN ((s.kept p).ahead.filter q)=0:=by
  unfold ownN;rw[List.countP_eq_zero];intro a ha hp;rw[h.ao a ((List.mem_filter.1 ha).1)] at hp;cases hp
 refine⟨h.dom.behind _,behind_power h.pos hg,by rw[hH];omega,Nat.zero_le _,hst,?_,LogOk.nil _,(fun _ h=>by cases h),?_,?_,?_,?_,h.time,?_,?_,Nat.zero_le _,?_,h.out⟩
 .rw [hH];exact h.ahead.filter q
 .show (ownN ((s.kept p).ahead.filter q):Int)≤4*((0:Nat):Int)+(st:Int)+e
  rw[hz];omega
 .have h1:=h.sg;rw[hH];show((s.sg i).length:Int)≤S+84*((s.height+1:Nat):Int)+4*((0:Nat):Int)+(st:Int)+e;omega
 .have h1:=h.tb;have h2:=flags_le s;rw[hH];show s.tb≤3*(21*(s.height+1)+0)+0;omega
 .exact h.tims
 .exact Nat.le_trans hws.length_le h.wait
 .exact fun t ht=>h.waitz t (hws.subset ht)
 intro d hd;rcases List.mem_append.1 (show d∈s.dec++[_] from hd) with h1|h1
 .exact h.cert d h1
 rw[List.mem_singleton.1 h1];have:=certTo_le (votesForB 3 p.m.r p.m.s) s.log 8;show(certTo (votesForB 3 p.m.r p.m.s) s.log 8).length≤100000;omega
theorem NOk.keep(h:NOk S T i 0 s)(hp:p∈s.log)(hg:s.good p.m.s=true):NOk S T i 0 (s.keepS i p):=by
 unfold NodeS.keepS;rw[beginH_eq];split
 .exact h.next hp hg _ (by omega) (by omega)
 exact NOk.begin (h.next hp hg _ (by omega) (by omega))
theorem decAt_mem(h:s.decAt r=some p):p∈s.log∧p.m.k=1∧p.m.r=(r:Int)∧s.most (votesForB 3 (r:Int) p.m.s)=true∧s.good p.m.s=true:=by
 obtain⟨h1,h2,h3,h4⟩:=propF_mem h;exact⟨h1,h2,h3,Bool.and_eq_true_iff.1 h4⟩
def NodeS.rank(s:NodeS):Nat:=8*(21*s.height+s.round)+s.step+s.held.toNat+s.b2.toNat+s.b3.toNat
theorem sendS_keeps(s:NodeS)(i:Nat)(k v:Int)(nl:Bool)(t:ByteArray):(s.sendS i k v nl t).dec=s.dec∧(s.sendS i k v nl t).round=s.round∧(s.sendS i k v nl t).step=s.step∧(s.sendS i k v nl t).held=s.held∧(s.sendS i k v nl t).b1=s.b1∧(s.sendS i k v nl t).b2=s.b2∧(s.sendS i k v nl t).b3=s.b3∧(s.sendS i k v nl t).x=s.x∧(s.sendS i k v nl t).wait=s.wait∧(s.sendS i k v nl t).ahead=s.ahead∧(s.sendS i k v nl t).time=s.time∧(s.sendS i k v nl t).tims=s.tims:=by
 unfold NodeS.sendS;split
 .exact ⟨rfl,rfl,rfl,rfl,rfl,rfl,rfl,rfl,rfl,rfl,rfl,rfl⟩
 split
 .exact ⟨rfl,rfl,rfl,rfl,rfl,rfl,rfl,rfl,rfl,rfl,rfl,rfl⟩
 exact⟨rfl,rfl,rfl,rfl,rfl,rfl,rfl,rfl,rfl,rfl,rfl,rfl⟩
theorem rank_send(s:NodeS)(i:Nat)(k v:Int)(nl:Bool)(t:ByteArray):(s.sendS i k v nl t).rank=s.rank:=by
 obtain⟨h1,h2,h3,h4,h5,h6,h7,-⟩:=sendS_keeps s i k v nl t;unfold NodeS.rank NodeS.height;rw[h1,h2,h3,h4,h6,h7]
theorem rank_begin(s:NodeS)(i r:Nat):(s.beginR i r).rank=8*(21*s.height+r)+1:=by
 unfold NodeS.beginR;split
 .rw [rank_send];rfl
 rfl
theorem rank_flags(s:NodeS):s.held.toNat+s.b2.toNat+s.b3.toNat≤3:=by
 have h1:=Bool.toNat_le s.held;have h2:=Bool.toNat_le s.b2;have h3:=Bool.toNat_le s.b3;omega
theorem NOk.rank(h:NOk S T i e s):s.rank≤2190:=by
 have h1:=h.hgt;have h2:=h.rnd;have h3:=h.stp;have h4:=rank_flags s;unfold NodeS.rank;omega
theorem NOk.one(h:NOk S T i 0 s)(ht:(s.oneS (NodeS.decS i) i).1=true):NOk S T i 0 (s.oneS (NodeS.decS i) i).2∧s.rank<(s.oneS (NodeS.decS i) i).2.rank:=by
 have hr:=h.rnd;have hs:=h.stp;have hf:=rank_flags s;unfold NodeS.oneS at ht ⊢;split
 .rename_i h1;cases hd:s.decF with
  |none=>rw[decS_none hd] at h1;cases h1
  |some p=>
   rw[decS_some hd];obtain⟨r,_,h2⟩:=decF_at hd;obtain⟨h3,_,_,_,h4⟩:=decAt_mem h2;refine⟨h.keep h3 h4,?_⟩;have hk:(s.kept p).height=s.height+1:=by
    show(s.dec++[_]).length=s.dec.length+1;simp
   show s.rank<(s.keepS i p).rank;unfold NodeS.keepS;rw[beginH_eq];split
   .show s.rank<8*(21*(s.kept p).height+0)+0+0+0+0;unfold NodeS.rank;omega
   rw[rank_begin];show s.rank<8*(21*(s.kept p).height+0)+1;unfold NodeS.rank;omega
 rename_i h0;rw[if_neg h0] at ht;split
 .rename_i h1;unfold NodeS.followS at h1 ⊢;split
  .rename_i h2;rw[h2] at h1;cases h1
  rename_i r h2;have h3:=List.mem_range.1 (List.mem_of_find?_eq_some h2);have h4:s.roundB r=true:=List.find?_some h2;unfold NodeS.roundB at h4;have h5:=of_decide_eq_true (Bool.and_eq_true_iff.1 h4).1;refine⟨NOk.begin ((h.turn h5 (by omega) (by omega)).mono (by omega)),?_⟩;show s.rank<(s.beginR i r).rank;rw[rank_begin];unfold NodeS.rank;omega
 rename_i h1;rw[if_neg h1] at ht;have hans:∀fits,(s.answerS i fits).1=true→NOk S T i 0 (s.answerS i fits).2∧s.rank<(s.answerS i fits).2.rank:=fun fits h2=>by
  by_cases h3:s.step=1
  .cases hp:propF s.log (s.round:Int) fits with
   |none=>rw[answerS_none h3 hp] at h2;cases h2
   |some p=>
    by_cases hm:s.mayS p=true
    .rw [answerS_yes h3 hp hm];refine⟨((h.send 2 0 false p.m.s).step (st:=2) (by omega)).mono ?_,?_⟩
     .rw [(sendS_keeps s i 2 0 false p.m.s).2.2.1,h3];omega
     have h4:=rank_send s i 2 0 false p.m.s;have h5:=(sendS_keeps s i 2 0 false p.m.s).2.2.1;unfold NodeS.rank at h4 ⊢;show _<8*(21*(s.sendS i 2 0 false p.m.s).height+(s.sendS i 2 0 false p.m.s).round)+2+(s.sendS i 2 0 false p.m.s).held.toNat+(s.sendS i 2 0 false p.m.s).b2.toNat+(s.sendS i 2 0 false p.m.s).b3.toNat;omega
    rw[answerS_no h3 hp (by simpa using hm)];refine⟨((h.send 2 0 true ⟨#[]⟩).step (st:=2) (by omega)).mono ?_,?_⟩
    .rw [(sendS_keeps s i 2 0 true ⟨#[]⟩).2.2.1,h3];omega
    have h4:=rank_send s i 2 0 true ⟨#[]⟩;have h5:=(sendS_keeps s i 2 0 true ⟨#[]⟩).2.2.1;unfold NodeS.rank at h4 ⊢;show _<8*(21*(s.sendS i 2 0 true ⟨#[]⟩).height+(s.sendS i 2 0 true ⟨#[]⟩).round)+2+(s.sendS i 2 0 true ⟨#[]⟩).held.toNat+(s.sendS i 2 0 true ⟨#[]⟩).b2.toNat+(s.sendS i 2 0 true ⟨#[]⟩).b3.toNat;omega
  rw[answerS_step h3] at h2;cases h2
 split
 .rename_i h2;exact hans _ h2
 rename_i h2;rw[if_neg h2] at ht;split
 .rename_i h3;exact hans _ h3
 rename_i h3;rw[if_neg h3] at ht;split
 .rename_i h4;by_cases h5:¬s.step=1∧s.held=false
  .cases hp:s.holdF with
   |none=>rw[holdS_none hp] at h4;cases h4
   |some p=>
    rw[holdS_some h5.1 h5.2 hp];obtain⟨hpm,_,_,_⟩:=propF_mem hp;have hz:=(h.log.ok p hpm).z;have h6:NOk S T i 0 (s.held1 p.m.s):=⟨h.dom,h.pos,h.hgt,h.rnd,h.stp,h.log,h.ahead,h.ao,h.own,h.sg,h.tb,h.tims,h.time,h.wait,h.waitz,hz,h.cert,h.out⟩;have h7:(s.held1 p.m.s).rank=s.rank+1:=by
     unfold NodeS.rank;rw[h5.2];show 8*(21*s.height+s.round)+s.step+1+s.b2.toNat+s.b3.toNat=8*(21*s.height+s.round)+s.step+0+s.b2.toNat+s.b3.toNat+1;omega
    split
    .rename_i h8;have h9:NOk S T i 0 (s.held1 p.m.s).lock1:=⟨h6.dom,h6.pos,h6.hgt,h6.rnd,h6.stp,h6.log,h6.ahead,h6.ao,h6.own,h6.sg,h6.tb,h6.tims,h6.time,h6.wait,h6.waitz,h6.vz,h6.cert,h6.out⟩;have h10:(s.held1 p.m.s).lock1.step=2:=h8;refine⟨((h9.send 3 0 false p.m.s).step (st:=3) (by omega)).mono ?_,?_⟩
     .rw [(sendS_keeps (s.held1 p.m.s).lock1 i 3 0 false p.m.s).2.2.1,h10];omega
     have h11:=rank_send (s.held1 p.m.s).lock1 i 3 0 false p.m.s;have h12:=(sendS_keeps (s.held1 p.m.s).lock1 i 3 0 false p.m.s).2.2.1;have h13:(s.held1 p.m.s).lock1.rank=s.rank+1:=h7;show s.rank<(((s.held1 p.m.s).lock1.sendS i 3 0 false p.m.s).atStep 3).rank;have h14:(((s.held1 p.m.s).lock1.sendS i 3 0 false p.m.s).atStep 3).rank+((s.held1 p.m.s).lock1.sendS i 3 0 false p.m.s).step=((s.held1 p.m.s).lock1.sendS i 3 0 false p.m.s).rank+3:=by
      unfold NodeS.rank NodeS.atStep NodeS.height;dsimp only
      omega
     omega
    refine⟨h6,?_⟩;show s.rank<(s.held1 p.m.s).rank;omega
  rw[holdS_no h5] at h4;cases h4
 rename_i h4;rw[if_neg h4] at ht;split
 .rename_i h5;unfold NodeS.giveUpS at h5 ⊢;split
  .rename_i h6;refine⟨((h.send 3 0 true ⟨#[]⟩).step (st:=3) (by omega)).mono ?_,?_⟩
   .rw [(sendS_keeps s i 3 0 true ⟨#[]⟩).2.2.1,h6.1];omega
   have h7:=rank_send s i 3 0 true ⟨#[]⟩;have h8:=(sendS_keeps s i 3 0 true ⟨#[]⟩).2.2.1;have h9:((s.sendS i 3 0 true ⟨#[]⟩).atStep 3).rank+(s.sendS i 3 0 true ⟨#[]⟩).step=(s.sendS i 3 0 true ⟨#[]⟩).rank+3:=by
    unfold NodeS.rank NodeS.atStep NodeS.height;dsimp only
    omega
   show s.rank<((s.sendS i 3 0 true ⟨#[]⟩).atStep 3).rank;omega
  rename_i h6;rw[if_neg h6] at h5;cases h5
 rename_i h5;rw[if_neg h5] at ht;split
 .rename_i h6;unfold NodeS.wait2S at h6 ⊢;split
  .rename_i h7;refine⟨h.timer (Or.inr (Or.inl ⟨rfl,h7.2.1⟩)),?_⟩;unfold NodeS.rank;rw[h7.2.1];show 8*(21*s.height+s.round)+s.step+s.held.toNat+0+s.b3.toNat<8*(21*s.height+s.round)+s.step+s.held.toNat+1+s.b3.toNat;omega
  rename_i h7;rw[if_neg h7] at h6;cases h6
 rename_i h6;rw[if_neg h6] at ht;unfold NodeS.wait3S at ht ⊢;split
 .rename_i h7;refine⟨h.timer (Or.inr (Or.inr ⟨rfl,h7.1⟩)),?_⟩;unfold NodeS.rank;rw[h7.1];show 8*(21*s.height+s.round)+s.step+s.held.toNat+s.b2.toNat+0<8*(21*s.height+s.round)+s.step+s.held.toNat+s.b2.toNat+1;omega
 rename_i h7;rw[if_neg h7] at ht;cases ht
def NodeS.goF(i:Nat):Nat→NodeS→NodeS
 |0,s=>s
 |f+1,s=>if(s.oneS (NodeS.decS i) i).1=true then NodeS.goF i f (s.oneS (NodeS.decS i) i).2 else s
def NodeS.goOnS(s:NodeS)(i:Nat):NodeS:=NodeS.goF i 2200 s
theorem run_go:∀(f:Nat) (s:NodeS),NOk S T i 0 s→2190<f+s.rank→∃k,RunTo (NodeS.decS i) i (NOk S T i 0) (NodeS.goF i f s) k s
 |0,s,h,hf=>by
  have:=h.rank;omega
 |f+1,s,h,hf=>by
  by_cases h1:(s.oneS (NodeS.decS i) i).1=true
  .obtain ⟨h2,h3⟩:=h.one h1
   obtain⟨k,hk⟩:=run_go f _ h2 (by omega);refine⟨k+1,h,h1,?_⟩;unfold NodeS.goF;rw[if_pos h1];exact hk
  .refine ⟨0,h,by simpa using h1,?_⟩
   unfold NodeS.goF;rw[if_neg h1]
theorem run_end{dec:NodeS→Bool×NodeS}{G:NodeS→Prop}{t:NodeS}:∀(k:Nat) (s:NodeS),RunTo dec i G t k s→G t
 |0,s,h=>by
  have h1:=h.1;rw[h.2.2] at h1;exact h1
 |k+1,s,h=>run_end k _ h.2.2
theorem NOk.runs(h:NOk S T i 0 s):(∃k,RunTo (NodeS.decS i) i (NOk S T i 0) (s.goOnS i) k s)∧NOk S T i 0 (s.goOnS i):=by
 obtain⟨k,hk⟩:=run_go 2200 s h (by omega);exact⟨⟨k,hk⟩,run_end k s hk⟩
def putL(out l:List ByteArray):List ByteArray:=l.foldl put1 out
theorem putN_putL(l:List ByteArray):∀(m i:Nat) (out:List ByteArray),i+m=l.length→putN (fun k=>l.getD k ByteArray.empty) out i m=putL out (l.drop i)
 |0,i,out,h=>by
  rw[List.drop_eq_nil_of_le (by omega)];rfl
 |m+1,i,out,h=>by
  rw[putN,putN_putL l m (i+1) _ (by omega),List.drop_eq_getElem_cons (i:=i) (by omega),List.getD_eq_getElem?_getD,List.getElem?_eq_getElem (by omega)];rfl
theorem putN_all(l:List ByteArray)(out:List ByteArray):putN (fun k=>l.getD k ByteArray.empty) out 0 l.length=putL out l:=by
 rw[putN_putL l l.length 0 out (by omega),List.drop_zero]
theorem putL_le(l:List ByteArray):∀(out:List ByteArray),out.length≤100→(putL out l).length≤100:=by
 induction l with
 |nil=>intro out h;exact h
 |cons a l ih=>
  intro out h;refine ih _ ?_;unfold put1;split
  .rw [List.length_append,List.length_singleton];omega
  exact h
def NodeS.logAtH(s:NodeS)(h:Int):List EntV:=if h=(s.height:Int) then s.log else s.ahead
def NodeS.refS(s:NodeS)(m:MsgV)(fr:ByteArray):Option Nat:=
 if m.h<(s.height:Int) then some 3
 else if(s.height:Int)+1<m.h∨20<m.r then some 4
 else if m.h=(s.height:Int)∧s.outsider m=true then some 5
 else if hasF (s.logAtH m.h) fr=true then some 6
 else if 2≤likeN (s.logAtH m.h) m then some 7
 else none
def NodeS.tellS(s:NodeS)(h:Nat):NodeS:=
 if(s.dec.getD h dcn0).told=true then s
 else { s with dec:=s.dec.set h { s.dec.getD h dcn0 with told:=true },out:=putL s.out ((s.dec.getD h dcn0).prop::(s.dec.getD h dcn0).cert) }
def NodeS.recvS(s:NodeS)(i:Nat)(m:MsgV)(fr:ByteArray):NodeS:=
 if m.h<(s.height:Int) then s.tellS m.h.toNat
 else match s.refS m fr with
 |some _=>s
 |none=>(s.takeS ⟨m,fr,false⟩).goOnS i
def NodeS.receiveS(s:NodeS)(n i:Nat)(fr:ByteArray):NodeS:=
 if decOk fr=true∧signedB s.sg n (decV fr).f fr=true then s.recvS i (decV fr) fr else s
theorem like_came(l:List EntV)(m:MsgV)(h:Nat)(hl:LogOk h l)(hm:m.h=(h:Int)):l.countP (cameB m.k m.r m.f)≤likeN l m:=by
 unfold likeN;rw[←List.countP_eq_length_filter];refine List.countP_mono_left (fun e he hp=>?_);unfold cameB at hp;rw[Bool.and_eq_true_iff,Bool.and_eq_true_iff,Bool.and_eq_true_iff] at hp;unfold likeB;exact decide_eq_true ⟨of_decide_eq_true hp.2.1.1,by rw[(hl.hh e he).1,hm],of_decide_eq_true hp.2.1.2,of_decide_eq_true hp.2.2⟩
theorem refS_none(h:s.refS m fr=none):¬m.h<(s.height:Int)∧¬((s.height:Int)+1<m.h∨20<m.r)∧¬(m.h=(s.height:Int)∧s.outsider m=true)∧¬hasF (s.logAtH m.h) fr=true∧¬2≤likeN (s.logAtH m.h) m:=by
 unfold NodeS.refS at h;split at h
 .cases h
 split at h
 .cases h
 split at h
 .cases h
 split at h
 .cases h
 split at h
 .cases h
 rename_i h1 h2 h3 h4 h5;exact⟨h1,h2,h3,h4,h5⟩
theorem NOk.take(h:NOk S T i 0 s)(hr:s.refS m fr=none)(hm:0≤m.h∧m.h<12∧0≤m.r∧m.r≤255∧0≤m.f∧m.f<8∧m.s.size≤24∧1≤m.k∧m.k≤3):NOk S T i 0 (s.takeS ⟨m,fr,false⟩):=by
 obtain⟨h1,h2,h3,h4,h5⟩:=refS_none hr;obtain⟨m1,m2,m3,m4,m5,m6,m7,m8,m9⟩:=hm;have hok:EntOk ⟨m,fr,false⟩:=⟨m5,m6,m3,by show m.r≤20;omega,m7⟩;unfold NodeS.takeS;split
 .rename_i e;have e2:m.h=(s.height:Int):=e;have hl:=like_came s.log m s.height h.log e2;unfold NodeS.logAtH at h5;rw[if_pos e2] at h5;refine⟨h.dom,h.pos,h.hgt,h.rnd,h.stp,h.log.more (by show s.log.countP (cameB m.k m.r m.f)≤1;omega) hok ⟨m8,m9⟩ ⟨e2,m2⟩,h.ahead,h.ao,?_,h.sg,h.tb,h.tims,h.time,h.wait,h.waitz,h.vz,h.cert,h.out⟩;have h6:=h.own;show((ownN (s.log++[_]):Nat):Int)≤4*(s.round:Int)+(s.step:Int)+0;unfold ownN at h6 ⊢;rw[List.countP_append,List.countP_singleton,if_neg (by exact Bool.false_ne_true)];omega
 rename_i e;have e2:¬m.h=(s.height:Int):=e;have e3:m.h=((s.height+1:Nat):Int):=by omega
 have hl:=like_came s.ahead m (s.height+1) h.ahead e3;unfold NodeS.logAtH at h5;rw[if_neg e2] at h5;refine⟨h.dom,h.pos,h.hgt,h.rnd,h.stp,h.log,h.ahead.more (by show s.ahead.countP (cameB m.k m.r m.f)≤1;omega) hok ⟨m8,m9⟩ ⟨e3,m2⟩,?_,h.own,h.sg,h.tb,h.tims,h.time,h.wait,h.waitz,h.vz,h.cert,h.out⟩;intro x hx;rcases List.mem_append.1 hx with hx|hx
 .exact h.ao x hx
 rw[List.mem_singleton.1 hx]
theorem NOk.tell(h:NOk S T i 0 s)(k:Nat)(hk:k<s.height):NOk S T i 0 (s.tellS k):=by
 unfold NodeS.tellS;split
 .exact h
 have hH:(s.dec.set k { s.dec.getD k dcn0 with told:=true }).length=s.dec.length:=List.length_set;have hm:s.dec.getD k dcn0∈s.dec:=by
  rw[List.getD_eq_getElem?_getD,List.getElem?_eq_getElem hk];exact List.getElem_mem _
 refine⟨h.dom,h.pos,?_,h.rnd,h.stp,?_,?_,h.ao,h.own,?_,?_,h.tims,h.time,h.wait,h.waitz,h.vz,?_,putL_le _ _ h.out⟩
 .show (s.dec.set k _).length≤12
  rw[hH];exact h.hgt
 .show LogOk (s.dec.set k _).length s.log;rw[hH];exact h.log
 .show LogOk ((s.dec.set k _).length+1) s.ahead;rw[hH];exact h.ahead
 .have h1:=h.sg;show((s.sg i).length:Int)≤S+84*(((s.dec.set k _).length:Nat):Int)+4*(s.round:Int)+(s.step:Int)+0;rw[hH];exact h1
 .have h1:=h.tb;show s.tb≤3*(21*(s.dec.set k _).length+s.round)+s.flags;rw[hH];exact h1
 intro d hd;rcases List.mem_or_eq_of_mem_set hd with h1|h1
 .exact h.cert d h1
 have h2:=h.cert _ hm;rw[h1];exact h2
theorem NOk.recv(h:NOk S T i 0 s)(hm:0≤m.h∧m.h<12∧0≤m.r∧m.r≤255∧0≤m.f∧m.f<8∧m.s.size≤24∧1≤m.k∧m.k≤3):NOk S T i 0 (s.recvS i m fr):=by
 unfold NodeS.recvS;split
 .exact h.tell _ (by omega)
 split
 .exact h
 rename_i h1;exact(h.take h1 hm).runs.2
theorem NOk.receive(h:NOk S T i 0 s):NOk S T i 0 (s.receiveS n i fr):=by
 unfold NodeS.receiveS;split
 .rename_i h1;exact h.recv (decV_ok h1.1)
 exact h
def NodeS.expS(s:NodeS)(i:Nat)(t:TimV):NodeS:=
 if t.h=(s.height:Int)∧t.r=(s.round:Int) then
  (if t.n=1∧s.step=1 then s.nothing i 2 2
   else if t.n=2∧s.step=2 then s.nothing i 3 3
   else if t.n=3∧s.round<20 then s.beginR i (s.round+1)
   else s)
 else s
theorem NOk.exp{t:TimV}(h:NOk S T i 0 s):NOk S T i 0 (s.expS i t):=by
 have hs:=h.stp;unfold NodeS.expS;split
 .split
  .rename_i h1;refine((h.send 2 0 true ⟨#[]⟩).step (st:=2) (by omega)).mono ?_;rw[(sendS_keeps s i 2 0 true ⟨#[]⟩).2.2.1,h1.2];omega
  split
  .rename_i h1;refine((h.send 3 0 true ⟨#[]⟩).step (st:=3) (by omega)).mono ?_;rw[(sendS_keeps s i 3 0 true ⟨#[]⟩).2.2.1,h1.2];omega
  split
  .rename_i h1;exact NOk.begin ((h.turn (by omega) (by omega) (by omega)).mono (by omega))
  exact h
 exact h

/- The heap holds what it held. -/
theorem swapT_perm{l:List TimV}(hi:i<l.length)(hj:j<l.length):(swapT l i j).Perm l:=by
 unfold swapT;rw[List.getD_eq_getElem?_getD,List.getD_eq_getElem?_getD,List.getElem?_eq_getElem hi,List.getElem?_eq_getElem hj];exact List.set_set_perm hi hj
theorem upT_perm:∀(f:Nat) (l:List TimV) (i:Nat),i<l.length→(upT f l i).Perm l
 |0,l,_,_=>List.Perm.refl l
 |f+1,l,i,h=>by
  rw[upT];split
  .exact List.Perm.refl l
  .split
   .exact (upT_perm f _ _ (by rw[swapT_length];omega)).trans (swapT_perm h (by omega))
   .exact List.Perm.refl l
theorem leastF_lt(l:List TimV):∀(f c m:Nat),leastF l f c m=m∨leastF l f c m<l.length
 |0,_,_=>Or.inl rfl
 |f+1,c,m=>by
  rw[leastF];split
  .rename_i h;rcases leastF_lt l f (c+1) c with h1|h1
   .exact Or.inr (by rw[h1];exact h.1)
   .exact Or.inr h1
  .exact leastF_lt l f (c+1) m
theorem leastF_out(l:List TimV):∀(f c m:Nat),l.length≤c→leastF l f c m=m
 |0,_,_,_=>rfl
 |f+1,c,m,h=>by
  rw[leastF,if_neg (by omega)];exact leastF_out l f (c+1) m (by omega)
theorem downT_perm:∀(f:Nat) (l:List TimV) (i:Nat),(downT f l i).Perm l
 |0,l,_=>List.Perm.refl l
 |f+1,l,i=>by
  rw[downT];split
  .exact List.Perm.refl l
  .rename_i h;have h1:leastT l i<l.length:=(leastF_lt l 2 (2*i+1) i).resolve_left h;have h2:i<l.length:=by
    rcases Nat.lt_or_ge i l.length with h3|h3
    .exact h3
    .exact absurd (leastF_out l 2 (2*i+1) i (by omega)) h
   exact(downT_perm f _ _).trans (swapT_perm h2 h1)
theorem restT_perm(t:TimV)(l:List TimV):(restT (t::l)).Perm l:=by
 unfold restT;refine(downT_perm _ _ _).trans ?_;rcases List.eq_nil_or_concat l with rfl|⟨l',z,e0⟩
 .exact List.Perm.refl _
 rw[List.concat_eq_append] at e0;subst e0;have e1:(t::(l'++[z])).length-1=l'.length+1:=by simp
 have e2:(t::(l'++[z])).getD (l'.length+1) tim0=z:=by simp
 rw[e1,e2,List.set_cons_zero,List.take_succ_cons,List.take_left];have h:=(List.perm_middle (a:=z) (l₁:=l') (l₂:=[])).symm;rw[List.append_nil] at h;exact h
def NodeS.dueN(s:NodeS):Nat:=s.tims.countP fun t=>decide (t.due≤(s.time:Int))
def DueSame(s s':NodeS):Prop:=s'.time=s.time∧s'.dueN=s.dueN
theorem DueSame.refl(s:NodeS):DueSame s s:=⟨rfl,rfl⟩
theorem DueSame.trans(h:DueSame s s')(h':DueSame s' s2):DueSame s s2:=⟨h'.1.trans h.1,h'.2.trans h.2⟩
theorem due_of(h1:s'.time=s.time)(h2:s'.tims=s.tims):DueSame s s':=⟨h1,by unfold NodeS.dueN;rw[h1,h2]⟩
theorem due_send(s:NodeS)(i:Nat)(k v:Int)(nl:Bool)(t:ByteArray):DueSame s (s.sendS i k v nl t):=by
 obtain⟨-,-,-,-,-,-,-,-,-,-,h1,h2⟩:=sendS_keeps s i k v nl t;exact due_of h1 h2
theorem due_timer(s:NodeS)(num ticks:Nat)(ht:0<ticks):DueSame s (s.timer num ticks):=by
 refine⟨rfl,?_⟩;show List.countP (fun t=>decide (t.due≤(s.time:Int))) (upT s.tims.length (s.tims++[_]) s.tims.length)=_;rw[(upT_perm _ _ _ (by simp)).countP_eq,List.countP_append,List.countP_singleton,if_neg ?_]
 .rfl
 rw[decide_eq_true_eq];show¬(s.time:Int)+(ticks:Int)+(s.round:Int)≤(s.time:Int);omega
theorem due_begin(s:NodeS)(i r:Nat):DueSame s (s.beginR i r):=by
 unfold NodeS.beginR;split
 .exact (due_of (s:=s) (s':=s.turned r 1) rfl rfl).trans (due_send _ _ _ _ _ _)
 exact(due_of (s:=s) (s':=s.turned r 1) rfl rfl).trans (due_timer _ _ _ (by omega))
theorem due_nothing(s:NodeS)(i:Nat)(k:Int)(st:Nat):DueSame s (s.nothing i k st):=
 (due_send s i k 0 true ⟨#[]⟩).trans (due_of rfl rfl)
theorem due_keep(s:NodeS)(i:Nat)(p:EntV):DueSame s (s.keepS i p):=by
 unfold NodeS.keepS;rw[beginH_eq];split
 .exact due_of rfl rfl
 exact(due_of (s:=s) (s':=(s.kept p).nextLog ((s.kept p).ahead.filter fun e=> !(s.kept p).outsider e.m)) rfl rfl).trans (due_begin _ _ _)
theorem due_answer(s:NodeS)(i:Nat)(fits:EntV→Bool):DueSame s (s.answerS i fits).2:=by
 unfold NodeS.answerS;split
 .split
  .exact DueSame.refl s
  dsimp only
  split
  .exact (due_send s i 2 0 false _).trans (due_of rfl rfl)
  exact due_nothing s i 2 2
 exact DueSame.refl s
theorem due_one(s:NodeS)(i:Nat):DueSame s (s.oneS (NodeS.decS i) i).2:=by
 unfold NodeS.oneS;split
 .unfold NodeS.decS;split
  .exact DueSame.refl s
  exact due_keep s i _
 split
 .unfold NodeS.followS;split
  .exact DueSame.refl s
  exact due_begin s i _
 split
 .exact due_answer s i _
 split
 .exact due_answer s i _
 split
 .unfold NodeS.holdS;split
  .split
   .exact DueSame.refl s
   dsimp only
   split
   .exact (due_of (s:=s) (s':=(s.held1 _).lock1) rfl rfl).trans ((due_send _ _ _ _ _ _).trans (due_of rfl rfl))
   exact due_of rfl rfl
  exact DueSame.refl s
 split
 .unfold NodeS.giveUpS;split
  .exact due_nothing s i 3 3
  exact DueSame.refl s
 split
 .unfold NodeS.wait2S;split
  .exact due_timer s 2 2 (by omega)
  exact DueSame.refl s
 unfold NodeS.wait3S;split
 .exact due_timer s 3 2 (by omega)
 exact DueSame.refl s
theorem due_goF(i:Nat):∀(f:Nat) (s:NodeS),DueSame s (NodeS.goF i f s)
 |0,s=>DueSame.refl s
 |f+1,s=>by
  rw[NodeS.goF];split
  .exact (due_one s i).trans (due_goF i f _)
  .exact DueSame.refl s
theorem due_exp(s:NodeS)(i:Nat)(t:TimV):DueSame s (s.expS i t):=by
 unfold NodeS.expS;split
 .split
  .exact due_nothing s i 2 2
  split
  .exact due_nothing s i 3 3
  split
  .exact due_begin s i _
  exact DueSame.refl s
 exact DueSame.refl s
def NodeS.tick0(s:NodeS):NodeS:={ s with time:=s.time+1,dec:=s.dec.map fun d=>{ d with told:=false } }
def NodeS.popS(s:NodeS):NodeS:={ s with tims:=restT s.tims }
def NodeS.dueF(i:Nat):Nat→NodeS→NodeS
 |0,s=>s
 |f+1,s=>match s.tims with
  | []=>s
  |t::_=>if t.due≤(s.time:Int) then NodeS.dueF i f ((s.popS.expS i t).goOnS i) else s
def NodeS.again(s:NodeS):NodeS:=if s.time % 5=0 then { s with out:=putL s.out (framesL (fun e=>e.own) s.log) } else s
def NodeS.tickS(s:NodeS)(i:Nat):NodeS:=(NodeS.dueF i (s.tims.length+1) s.tick0).again
theorem pop_due{t:TimV}{l:List TimV}(h:s.tims=t::l)(hd:t.due≤(s.time:Int)):s.popS.dueN+1=s.dueN:=by
 show List.countP (fun t=>decide (t.due≤(s.time:Int))) (restT s.tims)+1=_;unfold NodeS.dueN;rw[h,(restT_perm t l).countP_eq,List.countP_cons,if_pos (decide_eq_true hd)]
theorem due_step{t:TimV}{l:List TimV}(h:s.tims=t::l)(hd:t.due≤(s.time:Int)):((s.popS.expS i t).goOnS i).dueN+1=s.dueN:=by
 have h1:DueSame s.popS ((s.popS.expS i t).goOnS i):=(due_exp _ _ _).trans (due_goF i 2200 _);rw[h1.2];exact pop_due h hd
theorem NOk.pop(h:NOk S T i 0 s):NOk S T i 0 s.popS:=by
 refine⟨h.dom,h.pos,h.hgt,h.rnd,h.stp,h.log,h.ahead,h.ao,h.own,h.sg,h.tb,?_,h.time,h.wait,h.waitz,h.vz,h.cert,h.out⟩;have h1:=h.tims;show(restT s.tims).length≤s.tb;cases hl:s.tims with
 |nil=>exact Nat.zero_le _
 |cons t l=>
  rw[(restT_perm t l).length_eq];rw[hl] at h1;simp only[List.length_cons] at h1;omega
theorem NOk.tick0(h:NOk S T i 0 s):NOk S (T+1) i 0 s.tick0:=by
 have hH:s.tick0.height=s.height:=by
  show(s.dec.map _).length=s.dec.length;simp
 refine⟨h.dom,h.pos,?_,h.rnd,h.stp,?_,?_,h.ao,h.own,?_,?_,h.tims,?_,h.wait,h.waitz,h.vz,?_,h.out⟩
 .rw [hH];exact h.hgt
 .rw [hH];exact h.log
 .rw [hH];exact h.ahead
 .rw [hH];exact h.sg
 .rw [hH];exact h.tb
 .have:=h.time
  show s.time+1≤T+1;omega
 intro d hd;obtain⟨d',hd',rfl⟩:=List.mem_map.1 (show d∈s.dec.map _ from hd);exact h.cert d' hd'
theorem NOk.dueF:∀(f:Nat) (s:NodeS),NOk S T i 0 s→NOk S T i 0 (NodeS.dueF i f s)
 |0,_,h=>h
 |f+1,s,h=>by
  rw[NodeS.dueF];split
  .exact h
  .split
   .exact NOk.dueF f _ (h.pop.exp).runs.2
   .exact h
theorem NOk.again(h:NOk S T i 0 s):NOk S T i 0 s.again:=by
 unfold NodeS.again;split
 .exact ⟨h.dom,h.pos,h.hgt,h.rnd,h.stp,h.log,h.ahead,h.ao,h.own,h.sg,h.tb,h.tims,h.time,h.wait,h.waitz,h.vz,h.cert,putL_le _ _ h.out⟩
 exact h
theorem NOk.tick(h:NOk S T i 0 s):NOk S (T+1) i 0 (s.tickS i):=(NOk.dueF _ _ h.tick0).again
def NodeS.subE(s:NodeS)(t:ByteArray):Option Nat:=if formB t=false then some 11 else if 5≤s.wait.length then some 8 else none
def NodeS.subS(s:NodeS)(t:ByteArray):NodeS:=if s.subE t=none then { s with wait:=s.wait++[t] } else s
theorem form_le(h:formB t=true):t.size≤1000:=by
 unfold formB formN at h;have h1:=of_decide_eq_true h;omega
theorem subE_none(h:s.subE t=none):formB t=true∧s.wait.length<5:=by
 unfold NodeS.subE at h;split at h
 .cases h
 split at h
 .cases h
 rename_i h1 h2;exact⟨by simpa using h1,by omega⟩
theorem NOk.sub(h:NOk S T i 0 s):NOk S T i 0 (s.subS t):=by
 unfold NodeS.subS;split
 .rename_i h1;obtain⟨h2,h3⟩:=subE_none h1;refine⟨h.dom,h.pos,h.hgt,h.rnd,h.stp,h.log,h.ahead,h.ao,h.own,h.sg,h.tb,h.tims,h.time,?_,?_,h.vz,h.cert,h.out⟩
  .show (s.wait++[t]).length≤5
   rw[List.length_append,List.length_singleton];omega
  intro u hu;rcases List.mem_append.1 (show u∈s.wait++[t] from hu) with h4|h4
  .exact h.waitz u h4
  rw[List.mem_singleton.1 h4];exact form_le h2
 exact h
theorem NOk.sent(h:NOk S T i 0 s):NOk S T i 0 { s with out:=[] }:=⟨h.dom,h.pos,h.hgt,h.rnd,h.stp,h.log,h.ahead,h.ao,h.own,h.sg,h.tb,h.tims,h.time,h.wait,h.waitz,h.vz,h.cert,Nat.zero_le _⟩
theorem NOk.ring{sg':Nat→List ByteArray}(h:NOk S T i 0 s)(he:sg' i=s.sg i):NOk S T i 0 { s with sg:=sg' }:=⟨h.dom,h.pos,h.hgt,h.rnd,h.stp,h.log,h.ahead,h.ao,h.own,by show((sg' i).length:Int)≤_;rw[he];exact h.sg,h.tb,h.tims,h.time,h.wait,h.waitz,h.vz,h.cert,h.out⟩
def SgO(j:Nat)(s s':NodeS):Prop:=∀k,k≠j→s'.sg k=s.sg k
theorem SgO.refl(j:Nat)(s:NodeS):SgO j s s:=fun _ _=>rfl
theorem SgO.trans(h:SgO j s s')(h':SgO j s' s2):SgO j s s2:=fun k hk=>(h' k hk).trans (h k hk)
theorem sgo_of(h:s'.sg=s.sg):SgO j s s':=fun k _=>by rw[h]
theorem sgo_send(s:NodeS)(j:Nat)(k v:Int)(nl:Bool)(t:ByteArray):SgO j s (s.sendS j k v nl t):=by
 unfold NodeS.sendS;split
 .exact SgO.refl j s
 split
 .intro a ha;exact signR_other ha
 exact SgO.refl j s
theorem sgo_begin(s:NodeS)(j r:Nat):SgO j s (s.beginR j r):=by
 unfold NodeS.beginR;split
 .exact (sgo_of (s:=s) (s':=s.turned r 1) rfl).trans (sgo_send _ _ _ _ _ _)
 exact sgo_of rfl
theorem sgo_nothing(s:NodeS)(j:Nat)(k:Int)(st:Nat):SgO j s (s.nothing j k st):=(sgo_send s j k 0 true ⟨#[]⟩).trans (sgo_of rfl)
theorem sgo_keep(s:NodeS)(j:Nat)(p:EntV):SgO j s (s.keepS j p):=by
 unfold NodeS.keepS;rw[beginH_eq];split
 .exact sgo_of rfl
 exact(sgo_of (s:=s) (s':=(s.kept p).nextLog ((s.kept p).ahead.filter fun e=> !(s.kept p).outsider e.m)) rfl).trans (sgo_begin _ _ _)
theorem sgo_answer(s:NodeS)(j:Nat)(fits:EntV→Bool):SgO j s (s.answerS j fits).2:=by
 unfold NodeS.answerS;split
 .split
  .exact SgO.refl j s
  dsimp only
  split
  .exact (sgo_send s j 2 0 false _).trans (sgo_of rfl)
  exact sgo_nothing s j 2 2
 exact SgO.refl j s
theorem sgo_one(s:NodeS)(j:Nat):SgO j s (s.oneS (NodeS.decS j) j).2:=by
 unfold NodeS.oneS;split
 .unfold NodeS.decS;split
  .exact SgO.refl j s
  exact sgo_keep s j _
 split
 .unfold NodeS.followS;split
  .exact SgO.refl j s
  exact sgo_begin s j _
 split
 .exact sgo_answer s j _
 split
 .exact sgo_answer s j _
 split
 .unfold NodeS.holdS;split
  .split
   .exact SgO.refl j s
   dsimp only
   split
   .exact (sgo_of (s:=s) (s':=(s.held1 _).lock1) rfl).trans ((sgo_send _ _ _ _ _ _).trans (sgo_of rfl))
   exact sgo_of rfl
  exact SgO.refl j s
 split
 .unfold NodeS.giveUpS;split
  .exact sgo_nothing s j 3 3
  exact SgO.refl j s
 split
 .unfold NodeS.wait2S;split
  .exact sgo_of rfl
  exact SgO.refl j s
 unfold NodeS.wait3S;split
 .exact sgo_of rfl
 exact SgO.refl j s
theorem sgo_goF(j:Nat):∀(f:Nat) (s:NodeS),SgO j s (NodeS.goF j f s)
 |0,s=>SgO.refl j s
 |f+1,s=>by
  rw[NodeS.goF];split
  .exact (sgo_one s j).trans (sgo_goF j f _)
  .exact SgO.refl j s
theorem sgo_exp(s:NodeS)(j:Nat)(t:TimV):SgO j s (s.expS j t):=by
 unfold NodeS.expS;split
 .split
  .exact sgo_nothing s j 2 2
  split
  .exact sgo_nothing s j 3 3
  split
  .exact sgo_begin s j _
  exact SgO.refl j s
 exact SgO.refl j s
theorem sgo_take(s:NodeS)(j:Nat)(e:EntV):SgO j s (s.takeS e):=by
 unfold NodeS.takeS;split<;>exact sgo_of rfl
theorem sgo_tell(s:NodeS)(j h:Nat):SgO j s (s.tellS h):=by
 unfold NodeS.tellS;split
 .exact SgO.refl j s
 exact sgo_of rfl
theorem sgo_receive(s:NodeS)(n j:Nat)(fr:ByteArray):SgO j s (s.receiveS n j fr):=by
 unfold NodeS.receiveS;split
 .unfold NodeS.recvS;split
  .exact sgo_tell s j _
  split
  .exact SgO.refl j s
  exact(sgo_take s j _).trans (sgo_goF j 2200 _)
 exact SgO.refl j s
theorem sgo_dueF(j:Nat):∀(f:Nat) (s:NodeS),SgO j s (NodeS.dueF j f s)
 |0,s=>SgO.refl j s
 |f+1,s=>by
  rw[NodeS.dueF];split
  .exact SgO.refl j s
  .split
   .exact ((sgo_of (s:=s) (s':=s.popS) rfl).trans ((sgo_exp _ _ _).trans (sgo_goF j 2200 _))).trans (sgo_dueF j f _)
   .exact SgO.refl j s
theorem sgo_tick(s:NodeS)(j:Nat):SgO j s (s.tickS j):=by
 unfold NodeS.tickS NodeS.again;split
 .exact ((sgo_of (s:=s) (s':=s.tick0) rfl).trans (sgo_dueF j _ _)).trans (sgo_of rfl)
 exact(sgo_of (s:=s) (s':=s.tick0) rfl).trans (sgo_dueF j _ _)
theorem sgo_sub(s:NodeS)(j:Nat)(t:ByteArray):SgO j s (s.subS t):=by
 unfold NodeS.subS;split
 .exact sgo_of rfl
 exact SgO.refl j s
end Go.Proofs.YtcfjhbcpjpgodaaGreatDoor

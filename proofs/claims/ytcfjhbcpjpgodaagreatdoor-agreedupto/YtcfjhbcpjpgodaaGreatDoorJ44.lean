/- Proved here: what frame of synodkeep tells: a message's frame, or nothing. -/
import Derived.Test.YtcfjhbcpjpgodaaGreatDoorJ15
import Derived.Test.YtcfjhbcpjpgodaaGreatDoorBase
import Derived.Test.YtcfjhbcpjpgodaaGreatDoorJ8
import Derived.Test.YtcfjhbcpjpgodaaGreatDoorJ12
import Derived.Maps.AppendAt
import Derived.BigQuiet
import Derived.WalkSmall
import Derived.Test.YtcfjhbcpjpgodaaGreatDoorTakeL
namespace Go.Proofs.YtcfjhbcpjpgodaaGreatDoor
open Go.RowKit Go.Proofs.Tryz
set_option maxRecDepth 100000
set_option maxHeartbeats 3200000
theorem Tryz.sizeMsgK:(prog.info? 57).map (·.size)=some 7:=by kernel_rfl
theorem keepFrame_any(K H R F V:Int)(nl:Bool)(s:ByteArray)(b:Addr)(w:World)(hs:s.size≤maxLen)(hb:w.cell? ⟨2,0,none⟩=some (.iface 294 (.pointer (some b)))):
 Calls prog 43 #[.agg #[.int .i64 K,.int .i64 H,.int .i64 R,.int .i64 F,.int .i64 V,.bool nl,.string s]] w fun e w'=>e=.returned (.string (encS K H R F V nl s))∧Below w.heap.size w w':=by
 obtain⟨HQ,HC⟩:=hide2 (heap_alloc_new w (.cells #[.int .i64 K,.int .i64 H,.int .i64 R,.int .i64 F,.int .i64 V,.bool nl,.string s] 57)) (synodEncode_any K H R F V nl s b (w.alloc (.cells #[.int .i64 K,.int .i64 H,.int .i64 R,.int .i64 F,.int .i64 V,.bool nl,.string s] 57)) hs (cell?_alloc_old _ hb));clear hs hb;by_cases hh:hasB K H R F V nl s.size=true;focus
  rw[hh] at HC;unfold formE at HC;simp only[if_true] at HC
 rotate_left;focus
  have hh2:hasB K H R F V nl s.size=false:=by simpa using hh
  rw[hh2] at HC;unfold formE at HC;simp only[Bool.false_eq_true,if_false] at HC;rw[encS_no hh2] at HC ⊢
 rotate_left;all_goals
  go_enter func43,ntmps43;go_wp2_with (first|(refine wpList_load_row rfl 57 _ rfl w.heap.size rfl 57 #[.int .i64 K,.int .i64 H,.int .i64 R,.int .i64 F,.int .i64 V,.bool nl,.string s] (0,0) _ HQ.out underlying57 rfl Tryz.sizeMsgK ?_)|fail)
  refine HC.out.mono ?_;rintro e w2 ⟨rfl,hb2⟩;have HB2:Hid (Below w.heap.size w w2):=((Below.refl _ w).alloc (Nat.le_refl _) _).trans (hb2.mono (by simp));clear hb2;go_wp2;go_ret;exact⟨rfl,HB2.out⟩
theorem keepPick_any(c:Int)(n:Nat)(w:World)(h1: -9223372036854775808≤c)(h2:c≤9223372036854775807)(hn:1≤n)(hn2:n≤1000000000):
 Calls prog 26 #[.int .i64 c,.int .i64 (n:Int)] w fun e w'=>(∃r:Nat,r<n∧e=.returned (.int .i64 (r:Int)))∧w'=w:=by
 have hz:((n:Int)==0)=false:=by simp;omega
 have hz2:¬(n:Int)=0:=by omega
 by_cases hc:c<0
 .obtain ⟨d,hd⟩:∃d:Int,d= -(c+1):=⟨_,rfl⟩
  have hd0:0≤d:=by omega
  have hd1:d≤9223372036854775807:=by omega
  obtain⟨r,hr⟩:∃r:Nat,(r:Int)=d.tmod n:=⟨(d.tmod n).toNat,by rw[Int.toNat_of_nonneg (Int.tmod_nonneg _ hd0)]⟩;have hrn:r<n:=by have:=Int.tmod_lt_of_pos d (show(0:Int)<n by omega);omega
  obtain⟨HR,HD,HN⟩:=hide3 hr hd hrn;clear hr hrn;go_enter func26,ntmps26;go_wp2;go_ret;refine⟨⟨r,HN.out,?_⟩,rfl⟩;show Ending.returned (Value.int .i64 (-(c+1).tmod (n:Int)))=_;rw[HR.out,HD.out,Int.neg_tmod]

 obtain⟨r,hr⟩:∃r:Nat,(r:Int)=c.tmod n:=⟨(c.tmod n).toNat,by rw[Int.toNat_of_nonneg (Int.tmod_nonneg _ (by omega))]⟩;have hrn:r<n:=by have:=Int.tmod_lt_of_pos c (show(0:Int)<n by omega);omega
 obtain⟨HR,HN⟩:=hide2 hr hrn;clear hr hrn;go_enter func26,ntmps26;go_wp2;go_ret;refine⟨⟨r,HN.out,?_⟩,rfl⟩;show Ending.returned (Value.int .i64 (c % (n:Int)))=_;rw[HR.out,Int.tmod_eq_emod_of_nonneg (by omega)]
def bitI(z:Int)(j:Nat):Int:=bits .and .i64 (z / 2^j) 1
theorem own_numsK{w:World}{base n:Nat}{v:Value}{g:Nat→Int}(h:w.ownsRow base 3 1 v n ((List.range n).map fun i=>.int .i64 (g i))):∃p c,v=.slice p n c∧Lies w w.heap.size p n (fun i=>.int .i64 (g i)):=by
 rcases h.2 with⟨rfl,hn⟩|⟨gb,cap,cur,rfl,hb,hg,hnc,hcm,hcs,ht⟩
 .exact ⟨none,0,by rw[hn],fun i hi=>by omega⟩
 refine⟨_,cap,rfl,fun i hi=>⟨gb,0,rfl,row_lt0 hg,?_⟩⟩;rw[cell_of_row w gb _ _ _ _ hg,Nat.zero_add];have e1:(cur.toList.take (n*1))[i]? =((List.range n).map fun i=>Value.int .i64 (g i))[i]? :=by rw[ht]
 rw[List.getElem?_take,if_pos (by omega)] at e1;rw[←Array.getElem?_toList,e1];simp[hi]
theorem powers_any(raw:Nat→Int)(p:Option Addr)(q cap n:Nat)(w:World)(hl:Lies w w.heap.size p q (fun i=>.int .i64 (raw i)))(hq:q≤maxLen)(hr:∀i,i<q→-9223372036854775808≤raw i∧raw i≤9223372036854775807)(hn:n≤8):
 Calls prog 25 #[.slice p q cap,.int .i64 (n:Int)] w fun e w'=>∃(v:Value) (g:Nat→Int),e=.returned v∧w'.ownsRow w.heap.size 3 1 v n ((List.range n).map fun i=>.int .i64 (g i))∧(∀i,i<n→1≤g i∧g i≤3)∧Below w.heap.size w w':=by
 obtain⟨iI,hiI,hz0,hz1,hz2⟩:=info_parts Tryz.infoInt;obtain⟨HL,HR⟩:=hide2 hl hr;have hmx:(q:Int)≤9223372036854775807:=by unfold maxLen at hq;omega
 have hn8:(n:Int)≤8:=by omega
 clear hl hr hq;go_enter func25,ntmps25;go_wp2;go_loopw [5,6,7] (fun v i _ wr=>∃(j:Nat) (g:Nat→Int),j≤n∧i=.int .i64 j∧wr.ownsRow w.heap.size 3 1 v j ((List.range j).map fun i=>.int .i64 (g i))∧(∀i,i<j→1≤g i∧g i≤3)∧Below w.heap.size w wr) (fun _ i _ _=>n-(intOf i).toNat)
 case atStart=>exact⟨0,fun _=>0,Nat.zero_le _,rfl,World.ownsRow_nil _ _ _ _,fun i hi=>absurd hi (Nat.not_lt_zero i),Below.refl _ _⟩
 obtain⟨j,g,hj,rfl,hv,hgb,hb⟩:=hrel;obtain⟨HB,HV,HGB⟩:=hide3 hb hv hgb;clear hb hv hgb;by_cases hend:j=n
 .subst hend;go_wp2;go_ret;exact⟨_,g,rfl,HV.out,HGB.out,HB.out⟩
 have hlt2:(j:Int)<n:=by omega
 clear hend;have fin:∀(x:Int) (v':Value) (wr':World),1≤x→x≤3→wr'.ownsRow w.heap.size 3 1 v' (j+1) (((List.range j).map fun i=>Value.int .i64 (g i))++[.int .i64 x])→Below w.heap.size w wr'→
  ∃(j':Nat) (g':Nat→Int),j'≤n∧(Value.int .i64 ((j:Int)+1))=.int .i64 j'∧wr'.ownsRow w.heap.size 3 1 v' j' ((List.range j').map fun i=>.int .i64 (g' i))∧(∀i,i<j'→1≤g' i∧g' i≤3)∧Below w.heap.size w wr':=fun x v' wr' h1 h3 ho hbb=>by
  refine⟨j+1,fun i=>if i=j then x else g i,by omega,by go_num,?_,fun i hi=>?_,hbb⟩
  .have e:(List.range (j+1)).map (fun i=>Value.int .i64 (if i=j then x else g i))=((List.range j).map fun i=>Value.int .i64 (g i))++[.int .i64 x]:=by
    rw[List.range_succ,List.map_append]
    congr 1
    .apply List.map_congr_left;intro i hi;rw[List.mem_range] at hi;rw[if_neg (by omega)]
    .simp
   rw[e];exact ho
  .simp only
   split
   .exact ⟨h1,h3⟩
   .exact HGB.out i (by omega)
 have FIN:=hide fin;clear fin;by_cases hjq:j<q
 .have hjq2:(j:Int)<q:=by omega
  obtain⟨b,o,rfl,-,hc⟩:=HL.out.below HB.out j hjq;obtain⟨x,hx⟩:=gen (raw j);have hcj:wr.cell? ⟨b,o+j,none⟩=some (.int .i64 x):=by rw[hx];exact hc
  have hxb:=HR.out j hjq;rw[←hx] at hxb;have HPK:=hide (keepPick_any x 3 wr hxb.1 hxb.2 (by omega) (by omega));clear hc hx hxb;go_wp2_with fail
  refine HPK.out.mono ?_;rintro e w2 ⟨⟨r,hr3,rfl⟩,hw2⟩;have hw3:=hw2.symm;clear hw2;subst hw3;have hr3i:(r:Int)<3:=by omega
  go_wp2_with (first|(at_builtin;refine wpList_append_own _ rfl _ _ 22 rfl w.heap.size 3 iI (.int .i64 0) 1 8 underlying22 hiI hz0 hz1 hz2 rfl (by decide) _ _ _ rfl (HV.out.alloc _) ⟨wr.heap.size,0,none⟩ 1 1 [.int .i64 (1+(r:Int))] rfl rfl ?c1 ?c2 ?c3 ?c4 ?c5 ?_)|go_in)
  case c1=>
   intro j u hj;match j,hj with
   |0,hj=>simp at hj;subst hj;simp[Addr.add]
  case c2=>first|rfl|(intro u hu;simp at hu;subst hu;rfl)
  case c3=>unfold maxLen;omega
  case c4=>omega
  case c5=>have:=HB.out.size;first|omega|(simp;omega)
  intro rv' w7 hown7 hgrow7 _;obtain⟨rp,rc,rfl⟩:=own_slice hown7;have HOR7:=hide hown7;have HB7:Hid (Below w.heap.size w w7):=(HB.out.alloc HB.out.size _).grown hgrow7 (by have:=HB.out.size;simp;omega) (fun j hj=>(HV.out.lt j hj).1);clear hown7 hgrow7;go_wp2;go_roundw
  case rel=>exact FIN.out (1+(r:Int)) _ _ (by omega) (by omega) HOR7.out HB7.out
  case measure=>simp[intOf];omega
 have hjq2:¬(j:Int)<q:=by omega
 go_wp2_with (first|(at_builtin;refine wpList_append_own _ rfl _ _ 22 rfl w.heap.size 3 iI (.int .i64 0) 1 8 underlying22 hiI hz0 hz1 hz2 rfl (by decide) _ _ _ rfl (HV.out.alloc _) ⟨wr.heap.size,0,none⟩ 1 1 [.int .i64 (1)] rfl rfl ?c1 ?c2 ?c3 ?c4 ?c5 ?_)|go_in)
 case c2=>first|rfl|(intro u hu;simp at hu;subst hu;rfl)
 case c3=>unfold maxLen;omega
 case c4=>omega
 case c5=>have:=HB.out.size;first|omega|(simp;omega)
 intro rv' w7 hown7 hgrow7 _;obtain⟨rp,rc,rfl⟩:=own_slice hown7;have HOR7:=hide hown7;have HB7:Hid (Below w.heap.size w w7):=(HB.out.alloc HB.out.size _).grown hgrow7 (by have:=HB.out.size;simp;omega) (fun j hj=>(HV.out.lt j hj).1);clear hown7 hgrow7;go_wp2;go_roundw
 case rel=>exact FIN.out (1) _ _ (by omega) (by omega) HOR7.out HB7.out
 case measure=>simp[intOf];omega
theorem keepSame_any(a b:Nat→Int)(p q:Option Addr)(n m cap cap':Nat)(w:World)(hn:n≤maxLen)(ha:Lies w w.heap.size p n (fun i=>.int .i64 (a i)))(hb:Lies w w.heap.size q m (fun i=>.int .i64 (b i))):
 Calls prog 47 #[.slice p n cap,.slice q m cap'] w fun e w'=>(∃o,e=.returned (.bool o)∧(n=m→(∀i,i<n→a i=b i)→o=true))∧Below w.heap.size w w':=by
 obtain⟨HA,HB⟩:=hide2 ha hb;have hmx:n≤9223372036854775807:=by unfold maxLen at hn;omega
 clear ha hb hn;by_cases hnm:n=m
 .subst hnm;go_enter func47,ntmps47;go_wp2;go_loopw [5] (fun i wr=>∃k:Nat,k≤n∧i=.int .i64 k∧Below w.heap.size w wr) (fun i _=>n-(intOf i).toNat)
  case atStart=>exact⟨0,Nat.zero_le _,rfl,Below.refl _ _⟩
  obtain⟨k,hk,rfl,hbw⟩:=hrel;have HBW:=hide hbw;clear hbw;by_cases hkn:k=n
  .subst hkn;go_wp2;go_ret;exact⟨⟨true,rfl,fun _ _=>rfl⟩,HBW.out⟩
  have hlt:k<n:=by omega
  have hlt2:(k:Int)<n:=by omega
  obtain⟨b1,o1,rfl,hb1,hc1⟩:=HA.out k hlt;obtain⟨b2,o2,rfl,hb2,hc2⟩:=HB.out k hlt;have hr1:wr.cell? ⟨b1,o1+k,none⟩=some (.int .i64 (a k)):=(HBW.out.cell (p:=⟨b1,o1+k,none⟩) (by exact hb1)).trans hc1;have hr2:wr.cell? ⟨b2,o2+k,none⟩=some (.int .i64 (b k)):=(HBW.out.cell (p:=⟨b2,o2+k,none⟩) (by exact hb2)).trans hc2;clear hc1 hc2 hkn;by_cases he:a k=b k
  .have heb:(a k==b k)=true:=by simpa using he
   clear he;go_wp2_with fail
   go_quiet (fail)
   all_goals go_wp2
   go_roundw
   case rel=>exact⟨k+1,by omega,by go_num,below_drewN HBW.out _⟩
   case measure=>simp[intOf];omega
  have heb:(a k==b k)=false:=by simpa using he
  have HN:=hide he;clear he;go_wp2_with fail
  go_quiet (fail)
  all_goals go_wp2
  go_ret;exact⟨⟨false,rfl,fun _ h=>absurd (h k hlt) HN.out⟩,below_drewN HBW.out _⟩
 have hne:¬((n:Int)=m):=by omega
 have HN:=hide hnm;clear hnm;go_enter func47,ntmps47;go_wp2;go_ret;exact⟨⟨false,rfl,fun h=>absurd h HN.out⟩,Below.refl _ _⟩
end Go.Proofs.YtcfjhbcpjpgodaaGreatDoor

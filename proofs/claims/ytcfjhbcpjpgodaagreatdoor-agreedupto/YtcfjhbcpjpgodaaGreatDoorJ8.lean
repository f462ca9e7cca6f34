/- Proved here: the program's registry behind a record. -/
import Derived.Test.YtcfjhbcpjpgodaaGreatDoorJ5
import Derived.BigQuiet
import Derived.Test.YtcfjhbcpjpgodaaGreatDoorTakeL
namespace Go.Proofs.YtcfjhbcpjpgodaaGreatDoor
open Go.RowKit Go.Proofs.Tryz
set_option maxRecDepth 100000
set_option maxHeartbeats 3200000
variable{n g:Nat}{c0 c1 c2 a b c:Int}{w w':World}
def spot(kind:Int)(i:Nat):Nat:=if kind=118 then i else 8+i
theorem with_any(x:Nat→Int)(kind:Int)(i:Nat)(num:Int)(w:World)(h1:kind=118→i<8)(h2:kind≠118→i<26):
 Calls prog 136 #[.agg (regA x),.agg #[.int .u8 kind,.int .i64 (i:Int),.int .i64 num]] w fun e w'=>e=.returned (.agg (regA (upd x (spot kind i) num)))∧Below w.heap.size w w':=by
 have z0:=regA_zero;have e2:∀o1 o2:Obj,((w.alloc o1).alloc o2).heap.size=w.heap.size+1+1:=fun o1 o2=>by simp
 obtain⟨W,hW⟩:∃W,W=((w.alloc (.cells (regA x) 116)).alloc (.cells #[.int .u8 kind,.int .i64 (i:Int),.int .i64 num] 226)).alloc (.cells (regA reg0) 116):=⟨_,rfl⟩;have HR:Hid (RegAt W w.heap.size 116 x):=by
  unfold Hid;rw[hW];exact((RegAt.alloc w _ x).below ((Below.refl _ _).alloc (Nat.le_refl _) _)).below ((Below.refl _ _).alloc (Nat.le_refl _) _)
 have HR2:Hid (RegAt W (w.heap.size+1+1) 116 reg0):=by
  unfold Hid;have h:=RegAt.alloc ((w.alloc (.cells (regA x) 116)).alloc (.cells #[.int .u8 kind,.int .i64 (i:Int),.int .i64 num] 226)) 116 reg0;rw[e2] at h;rw[hW];exact h
 have hrow:W.heap[w.heap.size+1]? =some (.cells #[.int .u8 kind,.int .i64 (i:Int),.int .i64 num] 226 (0,0)):=by
  have h:=heap_alloc_new (w.alloc (.cells (regA x) 116)) (.cells #[.int .u8 kind,.int .i64 (i:Int),.int .i64 num] 226);have e1:(w.alloc (.cells (regA x) 116)).heap.size=w.heap.size+1:=by simp
  rw[e1] at h;rw[hW,Below.heap_alloc _ _ (w.heap.size+1) (by rw[e2];omega)];exact h
 have hk0:=cell_of_row W (w.heap.size+1) 0 _ _ _ hrow;have hk1:=cell_of_row W (w.heap.size+1) 1 _ _ _ hrow;have hk2:=cell_of_row W (w.heap.size+1) 2 _ _ _ hrow;simp only[List.getElem?_toArray,List.getElem?_cons_zero,List.getElem?_cons_succ] at hk0 hk1 hk2;have HB:Hid (Below w.heap.size w W):=by
  unfold Hid;rw[hW];exact(((Below.refl _ w).alloc (Nat.le_refl _) _).alloc (by simp) _).alloc (by rw[e2];omega) _
 have hW2:=hW.symm;clear hrow e2 hW;by_cases hk:kind=118
 .have hi8:(i:Int)<8:=by have:=h1 hk;omega
  have hsp:spot kind i=i:=if_pos hk;subst hk;have hc:=HR.out.cell i (by omega);have hf:=HR.out.frozen i;have HU:=hide (HR.out.set i num (by omega));have HO:=hide (only_setCell W w.heap.size i (.int .i64 num));rw[hsp];go_enter func136,ntmps136;go_wp2_with (first|(refine wpList_load_reg rfl 116 _ rfl _ rfl 116 _ _ HU.out underlying116 rfl Tryz.sizeRegistry ?_)|(refine wpList_store_reg rfl 116 _ _ rfl (w.heap.size+1+1) _ rfl rfl 116 _ (HR2.out.only HO.out (by omega)) (regA_size _) Tryz.sizeRegistry ?_;intro w5 hq ho))
  exact bodyPost_ret (v:=.agg (regA (upd x i num))) (results_reg1 results136 _ _ (w.heap.size+1+1) 116 _ _ rfl hq underlying116 rfl Tryz.sizeRegistry) rfl ⟨rfl,(HB.out.trans (HO.out.below (Nat.le_refl _))).trans (ho.below (by omega))⟩
 have hi8:(i:Int)<26:=by have:=h2 hk;omega
 have hsp:spot kind i=8+i:=if_neg hk;have hkb:(kind==118)=false:=by simpa using hk
 have hc:=HR.out.cell (8+i) (by omega);have hf:=HR.out.frozen (8+i);have HU:=hide (HR.out.set (8+i) num (by omega));have HO:=hide (only_setCell W w.heap.size (8+i) (.int .i64 num));rw[hsp];clear hk;go_enter func136,ntmps136;go_wp2_with (first|(refine wpList_load_reg rfl 116 _ rfl _ rfl 116 _ _ HU.out underlying116 rfl Tryz.sizeRegistry ?_)|(refine wpList_store_reg rfl 116 _ _ rfl (w.heap.size+1+1) _ rfl rfl 116 _ (HR2.out.only HO.out (by omega)) (regA_size _) Tryz.sizeRegistry ?_;intro w5 hq ho))
 exact bodyPost_ret (v:=.agg (regA (upd x (8+i) num))) (results_reg1 results136 _ _ (w.heap.size+1+1) 116 _ _ rfl hq underlying116 rfl Tryz.sizeRegistry) rfl ⟨rfl,(HB.out.trans (HO.out.below (Nat.le_refl _))).trans (ho.below (by omega))⟩
theorem place_in(c a b:Int)(w:World)(ha:0≤a)(hb:b≤255)(h:a≤c∧c≤b):
 Calls prog 181 #[.int .u8 c,.int .u8 a,.int .u8 b] w fun e w'=>e=.returned (.tuple #[.int .i64 (c-a),.bool true])∧w'=w:=by
 have h1:=place_any c a b w ha hb;rw[if_pos h,decide_eq_true h] at h1;exact h1
theorem place_out(c a b:Int)(w:World)(ha:0≤a)(hb:b≤255)(h:¬(a≤c∧c≤b)):
 Calls prog 181 #[.int .u8 c,.int .u8 a,.int .u8 b] w fun e w'=>e=.returned (.tuple #[.int .i64 0,.bool false])∧w'=w:=by
 have h1:=place_any c a b w ha hb;rw[if_neg h,decide_eq_false h] at h1;exact h1
theorem results_row2{P:Program}{fn:Func}{p q:Tmp}{ty:TypeId}(h:fn.results=#[.cell p ty,.tmp q])(tmps:Array Value)(w:World)(g:Nat)(t:TypeId)(cs:Array Value)(d:TypeDesc)(v:Value)
 (hp:tmps.getD p undef=.pointer (some ⟨g,0,none⟩)) (hq:tmps.getD q undef=v) (hg:w.heap[g]? =some (.cells cs t (0,0)))
 (hu:P.underlying ty=some d) (hd:d.isRow=true) (hi:(P.info? ty).map (·.size)=some cs.size):
 (results fn tmps).run P w=.ok (.tuple #[.agg cs,v]) w:=by
 have hp':tmps[p]?.getD undef=.pointer (some ⟨g,0,none⟩):=by simpa using hp
 have hq':tmps[q]?.getD undef=v:=by simpa using hq
 simp[results,h,hp',hq',asAddr,run_loadVar_row w g t ty cs (0,0) d hg hu (by cases d<;>simp_all) hi]
theorem Tryz.sizeRecord:(prog.info? 226).map (·.size)=some 3:=by kernel_rfl
def idxN(c0 c1:Int):Int:=if c0=118 then c1-48 else c1-97
def numN(c0 c2:Int):Int:=if c0=108 then 0 else c2-48
def ReadP(n:Nat)(c0 c1 c2:Int)(w:World)(e:Ending)(w':World):Prop:=
 (∃a b c,e=.returned (.tuple #[.agg #[.int .u8 a,.int .i64 b,.int .i64 c],.bool (formN n c0 c1 c2)])∧(formN n c0 c1 c2=true→a=c0∧b=idxN c0 c1∧c=numN c0 c2))∧Below w.heap.size w w'
theorem ReadP.yes(hf:formN n c0 c1 c2=true)(ha:a=c0)(hb:b=idxN c0 c1)(hc:c=numN c0 c2)(hw:Below w.heap.size w w'):ReadP n c0 c1 c2 w (.returned (.tuple #[.agg #[.int .u8 a,.int .i64 b,.int .i64 c],.bool true])) w':=
 ⟨⟨a,b,c,by rw[hf],fun _=>⟨ha,hb,hc⟩⟩,hw⟩
theorem ReadP.no(hf:formN n c0 c1 c2=false)(hw:Below w.heap.size w w'):ReadP n c0 c1 c2 w (.returned (.tuple #[.agg #[.int .u8 a,.int .i64 b,.int .i64 c],.bool false])) w':=
 ⟨⟨a,b,c,by rw[hf],fun h=>by rw[hf] at h;cases h⟩,hw⟩
theorem read_size(t:ByteArray)(w:World)(h:t.size<2∨3<t.size)(c0 c1 c2:Int):
 Calls prog 134 #[.string t] w (ReadP t.size c0 c1 c2 w):=by
 have HF:Hid (formN t.size c0 c1 c2=false):=decide_eq_false (by omega);have z3:((t.size:Int)==2)=false:=by simp;omega
 have z4:((t.size:Int)==3)=false:=by simp;omega
 clear h;go_enter func134,ntmps134;go_wp2_with (refine wpList_store_rowG rfl 226 _ _ rfl w.heap.size #[.int .u8 0,.int .i64 0,.int .i64 0] rfl rfl 226 #[.int .u8 0,.int .i64 0,.int .i64 0] (heap_alloc_new w _) rfl (by simp[Value.oneCell']) Tryz.sizeRecord ?_;intro w5 hq ho)
 exact bodyPost_ret (v:=.tuple #[.agg #[.int .u8 0,.int .i64 0,.int .i64 0],.bool false]) (results_row2 results134 _ _ w.heap.size 226 _ _ _ rfl rfl hq underlying226 rfl Tryz.sizeRecord) rfl (ReadP.no HF.out (((Below.refl _ w).alloc (Nat.le_refl _) _).trans (ho.below (Nat.le_refl _))))
theorem read_two(t:ByteArray)(c0 c1 c2:Int)(w:World)(hz:t.size=2)(b0:0≤c0∧c0≤255)(b1:0≤c1∧c1≤255)(b2:0≤c2∧c2≤255)(a0:∀W:World,(Instr.index 9 (.string t) (.int .i64 0)).run prog W=.ok (.int .u8 c0) W)(a1:∀W:World,(Instr.index 9 (.string t) (.int .i64 1)).run prog W=.ok (.int .u8 c1) W):
 Calls prog 134 #[.string t] w (ReadP 2 c0 c1 c2 w):=by
 have z3:((t.size:Int)==2)=true:=by simp;omega
 have z4:((t.size:Int)==3)=false:=by simp;omega
 clear hz;by_cases k:c0=108
 .subst k;by_cases l1:97≤c1∧c1≤122
  .have HF:Hid (formN 2 108 c1 c2=true):=decide_eq_true (by omega);have HP1:Hid (∀W:World,Calls prog 181 #[.int .u8 c1,.int .u8 97,.int .u8 122] W fun e w'=>e=.returned (.tuple #[.int .i64 (c1-97),.bool true])∧w'=W):=fun W=>place_in _ _ _ W (by decide) (by decide) l1;clear l1 b2;go_enter func134,ntmps134;go_wp2_with fail
   refine(HP1.out _).mono ?_;rintro e w1 ⟨rfl,hw1⟩;have hw2:=hw1.symm;clear hw1;subst hw2;go_wp2_with (refine wpList_store_rowG rfl 226 _ _ rfl w.heap.size #[.int .u8 108,.int .i64 (c1-97),.int .i64 0] rfl rfl 226 #[.int .u8 0,.int .i64 0,.int .i64 0] (heap_alloc_new w _) rfl (by simp[Value.oneCell']) Tryz.sizeRecord ?_;intro w5 hq ho)
   exact bodyPost_ret (v:=.tuple #[.agg #[.int .u8 108,.int .i64 (c1-97),.int .i64 0],.bool true]) (results_row2 results134 _ _ w.heap.size 226 _ _ _ rfl rfl hq underlying226 rfl Tryz.sizeRecord) rfl (ReadP.yes HF.out (by simp) (by simp[idxN]) (by simp[numN]) (((Below.refl _ w).alloc (Nat.le_refl _) _).trans (ho.below (Nat.le_refl _))))
  have HF:Hid (formN 2 108 c1 c2=false):=decide_eq_false (by omega);have HP1:Hid (∀W:World,Calls prog 181 #[.int .u8 c1,.int .u8 97,.int .u8 122] W fun e w'=>e=.returned (.tuple #[.int .i64 0,.bool false])∧w'=W):=fun W=>place_out _ _ _ W (by decide) (by decide) l1;clear l1 b2;go_enter func134,ntmps134;go_wp2_with fail
  refine(HP1.out _).mono ?_;rintro e w1 ⟨rfl,hw1⟩;have hw2:=hw1.symm;clear hw1;subst hw2;go_wp2_with (refine wpList_store_rowG rfl 226 _ _ rfl w.heap.size #[.int .u8 108,.int .i64 0,.int .i64 0] rfl rfl 226 #[.int .u8 0,.int .i64 0,.int .i64 0] (heap_alloc_new w _) rfl (by simp[Value.oneCell']) Tryz.sizeRecord ?_;intro w5 hq ho)
  exact bodyPost_ret (v:=.tuple #[.agg #[.int .u8 108,.int .i64 0,.int .i64 0],.bool false]) (results_row2 results134 _ _ w.heap.size 226 _ _ _ rfl rfl hq underlying226 rfl Tryz.sizeRecord) rfl (ReadP.no HF.out (((Below.refl _ w).alloc (Nat.le_refl _) _).trans (ho.below (Nat.le_refl _))))
 have HF:Hid (formN 2 c0 c1 c2=false):=decide_eq_false (by omega);have j1:(c0==108)=false:=by simpa using k
 clear k;go_enter func134,ntmps134;go_wp2_with (refine wpList_store_rowG rfl 226 _ _ rfl w.heap.size #[.int .u8 0,.int .i64 0,.int .i64 0] rfl rfl 226 #[.int .u8 0,.int .i64 0,.int .i64 0] (heap_alloc_new w _) rfl (by simp[Value.oneCell']) Tryz.sizeRecord ?_;intro w5 hq ho)
 exact bodyPost_ret (v:=.tuple #[.agg #[.int .u8 0,.int .i64 0,.int .i64 0],.bool false]) (results_row2 results134 _ _ w.heap.size 226 _ _ _ rfl rfl hq underlying226 rfl Tryz.sizeRecord) rfl (ReadP.no HF.out (((Below.refl _ w).alloc (Nat.le_refl _) _).trans (ho.below (Nat.le_refl _))))
theorem read_three_j(t:ByteArray)(c1 c2:Int)(w:World)(hz:t.size=3)(b1:0≤c1∧c1≤255)(b2:0≤c2∧c2≤255)(a0:∀W:World,(Instr.index 9 (.string t) (.int .i64 0)).run prog W=.ok (.int .u8 106) W)(a1:∀W:World,(Instr.index 9 (.string t) (.int .i64 1)).run prog W=.ok (.int .u8 c1) W)(a2:∀W:World,(Instr.index 9 (.string t) (.int .i64 2)).run prog W=.ok (.int .u8 c2) W):
 Calls prog 134 #[.string t] w (ReadP 3 106 c1 c2 w):=by
 have z3:((t.size:Int)==2)=false:=by simp;omega
 have z4:((t.size:Int)==3)=true:=by simp;omega
 clear hz;by_cases l1:97≤c1∧c1≤122
 .have HP1:Hid (∀W:World,Calls prog 181 #[.int .u8 c1,.int .u8 97,.int .u8 122] W fun e w'=>e=.returned (.tuple #[.int .i64 (c1-97),.bool true])∧w'=W):=fun W=>place_in _ _ _ W (by decide) (by decide) l1;by_cases d2:48≤c2∧c2≤57
  .have HP2:Hid (∀W:World,Calls prog 181 #[.int .u8 c2,.int .u8 48,.int .u8 57] W fun e w'=>e=.returned (.tuple #[.int .i64 (c2-48),.bool true])∧w'=W):=fun W=>place_in _ _ _ W (by decide) (by decide) d2;by_cases d3:48<c2
   .have HF:Hid (formN 3 106 c1 c2=true):=decide_eq_true (by omega);clear l1 d2;go_enter func134,ntmps134;go_wp2_with fail
    refine(HP1.out _).mono ?_;rintro e w1 ⟨rfl,hw1⟩;have hw2:=hw1.symm;clear hw1;subst hw2;go_wp2_with fail
    refine(HP2.out _).mono ?_;rintro e w1 ⟨rfl,hw1⟩;have hw2:=hw1.symm;clear hw1;subst hw2;go_wp2_with (refine wpList_store_rowG rfl 226 _ _ rfl w.heap.size #[.int .u8 106,.int .i64 (c1-97),.int .i64 (c2-48)] rfl rfl 226 #[.int .u8 0,.int .i64 0,.int .i64 0] (heap_alloc_new w _) rfl (by simp[Value.oneCell']) Tryz.sizeRecord ?_;intro w5 hq ho)
    exact bodyPost_ret (v:=.tuple #[.agg #[.int .u8 106,.int .i64 (c1-97),.int .i64 (c2-48)],.bool true]) (results_row2 results134 _ _ w.heap.size 226 _ _ _ rfl rfl hq underlying226 rfl Tryz.sizeRecord) rfl (ReadP.yes HF.out (by simp) (by simp[idxN]) (by simp[numN]) (((Below.refl _ w).alloc (Nat.le_refl _) _).trans (ho.below (Nat.le_refl _))))
   have HF:Hid (formN 3 106 c1 c2=false):=decide_eq_false (by omega);have d4:decide (48<c2)=false:=decide_eq_false d3;clear l1 d2 d3;go_enter func134,ntmps134;go_wp2_with fail
   refine(HP1.out _).mono ?_;rintro e w1 ⟨rfl,hw1⟩;have hw2:=hw1.symm;clear hw1;subst hw2;go_wp2_with fail
   refine(HP2.out _).mono ?_;rintro e w1 ⟨rfl,hw1⟩;have hw2:=hw1.symm;clear hw1;subst hw2;go_wp2_with (refine wpList_store_rowG rfl 226 _ _ rfl w.heap.size #[.int .u8 106,.int .i64 (c1-97),.int .i64 (c2-48)] rfl rfl 226 #[.int .u8 0,.int .i64 0,.int .i64 0] (heap_alloc_new w _) rfl (by simp[Value.oneCell']) Tryz.sizeRecord ?_;intro w5 hq ho)
   exact bodyPost_ret (v:=.tuple #[.agg #[.int .u8 106,.int .i64 (c1-97),.int .i64 (c2-48)],.bool false]) (results_row2 results134 _ _ w.heap.size 226 _ _ _ rfl rfl hq underlying226 rfl Tryz.sizeRecord) rfl (ReadP.no HF.out (((Below.refl _ w).alloc (Nat.le_refl _) _).trans (ho.below (Nat.le_refl _))))
  have HP2:Hid (∀W:World,Calls prog 181 #[.int .u8 c2,.int .u8 48,.int .u8 57] W fun e w'=>e=.returned (.tuple #[.int .i64 0,.bool false])∧w'=W):=fun W=>place_out _ _ _ W (by decide) (by decide) d2;have HF:Hid (formN 3 106 c1 c2=false):=decide_eq_false (by omega);clear l1 d2;go_enter func134,ntmps134;go_wp2_with fail
  refine(HP1.out _).mono ?_;rintro e w1 ⟨rfl,hw1⟩;have hw2:=hw1.symm;clear hw1;subst hw2;go_wp2_with fail
  refine(HP2.out _).mono ?_;rintro e w1 ⟨rfl,hw1⟩;have hw2:=hw1.symm;clear hw1;subst hw2;go_wp2_with (refine wpList_store_rowG rfl 226 _ _ rfl w.heap.size #[.int .u8 106,.int .i64 (c1-97),.int .i64 0] rfl rfl 226 #[.int .u8 0,.int .i64 0,.int .i64 0] (heap_alloc_new w _) rfl (by simp[Value.oneCell']) Tryz.sizeRecord ?_;intro w5 hq ho)
  exact bodyPost_ret (v:=.tuple #[.agg #[.int .u8 106,.int .i64 (c1-97),.int .i64 0],.bool false]) (results_row2 results134 _ _ w.heap.size 226 _ _ _ rfl rfl hq underlying226 rfl Tryz.sizeRecord) rfl (ReadP.no HF.out (((Below.refl _ w).alloc (Nat.le_refl _) _).trans (ho.below (Nat.le_refl _))))
 have HP1:Hid (∀W:World,Calls prog 181 #[.int .u8 c1,.int .u8 97,.int .u8 122] W fun e w'=>e=.returned (.tuple #[.int .i64 0,.bool false])∧w'=W):=fun W=>place_out _ _ _ W (by decide) (by decide) l1;have HF:Hid (formN 3 106 c1 c2=false):=decide_eq_false (by omega);clear l1;by_cases d2:48≤c2∧c2≤57
 .have HP2:Hid (∀W:World,Calls prog 181 #[.int .u8 c2,.int .u8 48,.int .u8 57] W fun e w'=>e=.returned (.tuple #[.int .i64 (c2-48),.bool true])∧w'=W):=fun W=>place_in _ _ _ W (by decide) (by decide) d2;clear d2;go_enter func134,ntmps134;go_wp2_with fail
  refine(HP1.out _).mono ?_;rintro e w1 ⟨rfl,hw1⟩;have hw2:=hw1.symm;clear hw1;subst hw2;go_wp2_with fail
  refine(HP2.out _).mono ?_;rintro e w1 ⟨rfl,hw1⟩;have hw2:=hw1.symm;clear hw1;subst hw2;go_wp2_with (refine wpList_store_rowG rfl 226 _ _ rfl w.heap.size #[.int .u8 106,.int .i64 0,.int .i64 (c2-48)] rfl rfl 226 #[.int .u8 0,.int .i64 0,.int .i64 0] (heap_alloc_new w _) rfl (by simp[Value.oneCell']) Tryz.sizeRecord ?_;intro w5 hq ho)
  exact bodyPost_ret (v:=.tuple #[.agg #[.int .u8 106,.int .i64 0,.int .i64 (c2-48)],.bool false]) (results_row2 results134 _ _ w.heap.size 226 _ _ _ rfl rfl hq underlying226 rfl Tryz.sizeRecord) rfl (ReadP.no HF.out (((Below.refl _ w).alloc (Nat.le_refl _) _).trans (ho.below (Nat.le_refl _))))
 have HP2:Hid (∀W:World,Calls prog 181 #[.int .u8 c2,.int .u8 48,.int .u8 57] W fun e w'=>e=.returned (.tuple #[.int .i64 0,.bool false])∧w'=W):=fun W=>place_out _ _ _ W (by decide) (by decide) d2;clear d2;go_enter func134,ntmps134;go_wp2_with fail
 refine(HP1.out _).mono ?_;rintro e w1 ⟨rfl,hw1⟩;have hw2:=hw1.symm;clear hw1;subst hw2;go_wp2_with fail
 refine(HP2.out _).mono ?_;rintro e w1 ⟨rfl,hw1⟩;have hw2:=hw1.symm;clear hw1;subst hw2;go_wp2_with (refine wpList_store_rowG rfl 226 _ _ rfl w.heap.size #[.int .u8 106,.int .i64 0,.int .i64 0] rfl rfl 226 #[.int .u8 0,.int .i64 0,.int .i64 0] (heap_alloc_new w _) rfl (by simp[Value.oneCell']) Tryz.sizeRecord ?_;intro w5 hq ho)
 exact bodyPost_ret (v:=.tuple #[.agg #[.int .u8 106,.int .i64 0,.int .i64 0],.bool false]) (results_row2 results134 _ _ w.heap.size 226 _ _ _ rfl rfl hq underlying226 rfl Tryz.sizeRecord) rfl (ReadP.no HF.out (((Below.refl _ w).alloc (Nat.le_refl _) _).trans (ho.below (Nat.le_refl _))))
theorem read_three_r(t:ByteArray)(c1 c2:Int)(w:World)(hz:t.size=3)(b1:0≤c1∧c1≤255)(b2:0≤c2∧c2≤255)(a0:∀W:World,(Instr.index 9 (.string t) (.int .i64 0)).run prog W=.ok (.int .u8 114) W)(a1:∀W:World,(Instr.index 9 (.string t) (.int .i64 1)).run prog W=.ok (.int .u8 c1) W)(a2:∀W:World,(Instr.index 9 (.string t) (.int .i64 2)).run prog W=.ok (.int .u8 c2) W):
 Calls prog 134 #[.string t] w (ReadP 3 114 c1 c2 w):=by
 have z3:((t.size:Int)==2)=false:=by simp;omega
 have z4:((t.size:Int)==3)=true:=by simp;omega
 clear hz;by_cases l1:97≤c1∧c1≤122
 .have HP1:Hid (∀W:World,Calls prog 181 #[.int .u8 c1,.int .u8 97,.int .u8 122] W fun e w'=>e=.returned (.tuple #[.int .i64 (c1-97),.bool true])∧w'=W):=fun W=>place_in _ _ _ W (by decide) (by decide) l1;by_cases d2:48≤c2∧c2≤57
  .have HP2:Hid (∀W:World,Calls prog 181 #[.int .u8 c2,.int .u8 48,.int .u8 57] W fun e w'=>e=.returned (.tuple #[.int .i64 (c2-48),.bool true])∧w'=W):=fun W=>place_in _ _ _ W (by decide) (by decide) d2;by_cases d3:48<c2
   .have HF:Hid (formN 3 114 c1 c2=true):=decide_eq_true (by omega);clear l1 d2;go_enter func134,ntmps134;go_wp2_with fail
    refine(HP1.out _).mono ?_;rintro e w1 ⟨rfl,hw1⟩;have hw2:=hw1.symm;clear hw1;subst hw2;go_wp2_with fail
    refine(HP2.out _).mono ?_;rintro e w1 ⟨rfl,hw1⟩;have hw2:=hw1.symm;clear hw1;subst hw2;go_wp2_with (refine wpList_store_rowG rfl 226 _ _ rfl w.heap.size #[.int .u8 114,.int .i64 (c1-97),.int .i64 (c2-48)] rfl rfl 226 #[.int .u8 0,.int .i64 0,.int .i64 0] (heap_alloc_new w _) rfl (by simp[Value.oneCell']) Tryz.sizeRecord ?_;intro w5 hq ho)
    exact bodyPost_ret (v:=.tuple #[.agg #[.int .u8 114,.int .i64 (c1-97),.int .i64 (c2-48)],.bool true]) (results_row2 results134 _ _ w.heap.size 226 _ _ _ rfl rfl hq underlying226 rfl Tryz.sizeRecord) rfl (ReadP.yes HF.out (by simp) (by simp[idxN]) (by simp[numN]) (((Below.refl _ w).alloc (Nat.le_refl _) _).trans (ho.below (Nat.le_refl _))))
   have HF:Hid (formN 3 114 c1 c2=false):=decide_eq_false (by omega);have d4:decide (48<c2)=false:=decide_eq_false d3;clear l1 d2 d3;go_enter func134,ntmps134;go_wp2_with fail
   refine(HP1.out _).mono ?_;rintro e w1 ⟨rfl,hw1⟩;have hw2:=hw1.symm;clear hw1;subst hw2;go_wp2_with fail
   refine(HP2.out _).mono ?_;rintro e w1 ⟨rfl,hw1⟩;have hw2:=hw1.symm;clear hw1;subst hw2;go_wp2_with (refine wpList_store_rowG rfl 226 _ _ rfl w.heap.size #[.int .u8 114,.int .i64 (c1-97),.int .i64 (c2-48)] rfl rfl 226 #[.int .u8 0,.int .i64 0,.int .i64 0] (heap_alloc_new w _) rfl (by simp[Value.oneCell']) Tryz.sizeRecord ?_;intro w5 hq ho)
   exact bodyPost_ret (v:=.tuple #[.agg #[.int .u8 114,.int .i64 (c1-97),.int .i64 (c2-48)],.bool false]) (results_row2 results134 _ _ w.heap.size 226 _ _ _ rfl rfl hq underlying226 rfl Tryz.sizeRecord) rfl (ReadP.no HF.out (((Below.refl _ w).alloc (Nat.le_refl _) _).trans (ho.below (Nat.le_refl _))))
  have HP2:Hid (∀W:World,Calls prog 181 #[.int .u8 c2,.int .u8 48,.int .u8 57] W fun e w'=>e=.returned (.tuple #[.int .i64 0,.bool false])∧w'=W):=fun W=>place_out _ _ _ W (by decide) (by decide) d2;have HF:Hid (formN 3 114 c1 c2=false):=decide_eq_false (by omega);clear l1 d2;go_enter func134,ntmps134;go_wp2_with fail
  refine(HP1.out _).mono ?_;rintro e w1 ⟨rfl,hw1⟩;have hw2:=hw1.symm;clear hw1;subst hw2;go_wp2_with fail
  refine(HP2.out _).mono ?_;rintro e w1 ⟨rfl,hw1⟩;have hw2:=hw1.symm;clear hw1;subst hw2;go_wp2_with (refine wpList_store_rowG rfl 226 _ _ rfl w.heap.size #[.int .u8 114,.int .i64 (c1-97),.int .i64 0] rfl rfl 226 #[.int .u8 0,.int .i64 0,.int .i64 0] (heap_alloc_new w _) rfl (by simp[Value.oneCell']) Tryz.sizeRecord ?_;intro w5 hq ho)
  exact bodyPost_ret (v:=.tuple #[.agg #[.int .u8 114,.int .i64 (c1-97),.int .i64 0],.bool false]) (results_row2 results134 _ _ w.heap.size 226 _ _ _ rfl rfl hq underlying226 rfl Tryz.sizeRecord) rfl (ReadP.no HF.out (((Below.refl _ w).alloc (Nat.le_refl _) _).trans (ho.below (Nat.le_refl _))))
 have HP1:Hid (∀W:World,Calls prog 181 #[.int .u8 c1,.int .u8 97,.int .u8 122] W fun e w'=>e=.returned (.tuple #[.int .i64 0,.bool false])∧w'=W):=fun W=>place_out _ _ _ W (by decide) (by decide) l1;have HF:Hid (formN 3 114 c1 c2=false):=decide_eq_false (by omega);clear l1;by_cases d2:48≤c2∧c2≤57
 .have HP2:Hid (∀W:World,Calls prog 181 #[.int .u8 c2,.int .u8 48,.int .u8 57] W fun e w'=>e=.returned (.tuple #[.int .i64 (c2-48),.bool true])∧w'=W):=fun W=>place_in _ _ _ W (by decide) (by decide) d2;clear d2;go_enter func134,ntmps134;go_wp2_with fail
  refine(HP1.out _).mono ?_;rintro e w1 ⟨rfl,hw1⟩;have hw2:=hw1.symm;clear hw1;subst hw2;go_wp2_with fail
  refine(HP2.out _).mono ?_;rintro e w1 ⟨rfl,hw1⟩;have hw2:=hw1.symm;clear hw1;subst hw2;go_wp2_with (refine wpList_store_rowG rfl 226 _ _ rfl w.heap.size #[.int .u8 114,.int .i64 0,.int .i64 (c2-48)] rfl rfl 226 #[.int .u8 0,.int .i64 0,.int .i64 0] (heap_alloc_new w _) rfl (by simp[Value.oneCell']) Tryz.sizeRecord ?_;intro w5 hq ho)
  exact bodyPost_ret (v:=.tuple #[.agg #[.int .u8 114,.int .i64 0,.int .i64 (c2-48)],.bool false]) (results_row2 results134 _ _ w.heap.size 226 _ _ _ rfl rfl hq underlying226 rfl Tryz.sizeRecord) rfl (ReadP.no HF.out (((Below.refl _ w).alloc (Nat.le_refl _) _).trans (ho.below (Nat.le_refl _))))
 have HP2:Hid (∀W:World,Calls prog 181 #[.int .u8 c2,.int .u8 48,.int .u8 57] W fun e w'=>e=.returned (.tuple #[.int .i64 0,.bool false])∧w'=W):=fun W=>place_out _ _ _ W (by decide) (by decide) d2;clear d2;go_enter func134,ntmps134;go_wp2_with fail
 refine(HP1.out _).mono ?_;rintro e w1 ⟨rfl,hw1⟩;have hw2:=hw1.symm;clear hw1;subst hw2;go_wp2_with fail
 refine(HP2.out _).mono ?_;rintro e w1 ⟨rfl,hw1⟩;have hw2:=hw1.symm;clear hw1;subst hw2;go_wp2_with (refine wpList_store_rowG rfl 226 _ _ rfl w.heap.size #[.int .u8 114,.int .i64 0,.int .i64 0] rfl rfl 226 #[.int .u8 0,.int .i64 0,.int .i64 0] (heap_alloc_new w _) rfl (by simp[Value.oneCell']) Tryz.sizeRecord ?_;intro w5 hq ho)
 exact bodyPost_ret (v:=.tuple #[.agg #[.int .u8 114,.int .i64 0,.int .i64 0],.bool false]) (results_row2 results134 _ _ w.heap.size 226 _ _ _ rfl rfl hq underlying226 rfl Tryz.sizeRecord) rfl (ReadP.no HF.out (((Below.refl _ w).alloc (Nat.le_refl _) _).trans (ho.below (Nat.le_refl _))))
theorem read_three_v(t:ByteArray)(c1 c2:Int)(w:World)(hz:t.size=3)(b1:0≤c1∧c1≤255)(b2:0≤c2∧c2≤255)(a0:∀W:World,(Instr.index 9 (.string t) (.int .i64 0)).run prog W=.ok (.int .u8 118) W)(a1:∀W:World,(Instr.index 9 (.string t) (.int .i64 1)).run prog W=.ok (.int .u8 c1) W)(a2:∀W:World,(Instr.index 9 (.string t) (.int .i64 2)).run prog W=.ok (.int .u8 c2) W):
 Calls prog 134 #[.string t] w (ReadP 3 118 c1 c2 w):=by
 have z3:((t.size:Int)==2)=false:=by simp;omega
 have z4:((t.size:Int)==3)=true:=by simp;omega
 clear hz;by_cases l1:48≤c1∧c1≤55
 .have HP1:Hid (∀W:World,Calls prog 181 #[.int .u8 c1,.int .u8 48,.int .u8 55] W fun e w'=>e=.returned (.tuple #[.int .i64 (c1-48),.bool true])∧w'=W):=fun W=>place_in _ _ _ W (by decide) (by decide) l1;by_cases d2:48≤c2∧c2≤57
  .have HP2:Hid (∀W:World,Calls prog 181 #[.int .u8 c2,.int .u8 48,.int .u8 57] W fun e w'=>e=.returned (.tuple #[.int .i64 (c2-48),.bool true])∧w'=W):=fun W=>place_in _ _ _ W (by decide) (by decide) d2;have HF:Hid (formN 3 118 c1 c2=true):=decide_eq_true (by omega);clear l1 d2;go_enter func134,ntmps134;go_wp2_with fail
   refine(HP1.out _).mono ?_;rintro e w1 ⟨rfl,hw1⟩;have hw2:=hw1.symm;clear hw1;subst hw2;go_wp2_with fail
   refine(HP2.out _).mono ?_;rintro e w1 ⟨rfl,hw1⟩;have hw2:=hw1.symm;clear hw1;subst hw2;go_wp2_with (refine wpList_store_rowG rfl 226 _ _ rfl w.heap.size #[.int .u8 118,.int .i64 (c1-48),.int .i64 (c2-48)] rfl rfl 226 #[.int .u8 0,.int .i64 0,.int .i64 0] (heap_alloc_new w _) rfl (by simp[Value.oneCell']) Tryz.sizeRecord ?_;intro w5 hq ho)
   exact bodyPost_ret (v:=.tuple #[.agg #[.int .u8 118,.int .i64 (c1-48),.int .i64 (c2-48)],.bool true]) (results_row2 results134 _ _ w.heap.size 226 _ _ _ rfl rfl hq underlying226 rfl Tryz.sizeRecord) rfl (ReadP.yes HF.out (by simp) (by simp[idxN]) (by simp[numN]) (((Below.refl _ w).alloc (Nat.le_refl _) _).trans (ho.below (Nat.le_refl _))))
  have HP2:Hid (∀W:World,Calls prog 181 #[.int .u8 c2,.int .u8 48,.int .u8 57] W fun e w'=>e=.returned (.tuple #[.int .i64 0,.bool false])∧w'=W):=fun W=>place_out _ _ _ W (by decide) (by decide) d2;have HF:Hid (formN 3 118 c1 c2=false):=decide_eq_false (by omega);clear l1 d2;go_enter func134,ntmps134;go_wp2_with fail
  refine(HP1.out _).mono ?_;rintro e w1 ⟨rfl,hw1⟩;have hw2:=hw1.symm;clear hw1;subst hw2;go_wp2_with fail
  refine(HP2.out _).mono ?_;rintro e w1 ⟨rfl,hw1⟩;have hw2:=hw1.symm;clear hw1;subst hw2;go_wp2_with (refine wpList_store_rowG rfl 226 _ _ rfl w.heap.size #[.int .u8 118,.int .i64 (c1-48),.int .i64 0] rfl rfl 226 #[.int .u8 0,.int .i64 0,.int .i64 0] (heap_alloc_new w _) rfl (by simp[Value.oneCell']) Tryz.sizeRecord ?_;intro w5 hq ho)
  exact bodyPost_ret (v:=.tuple #[.agg #[.int .u8 118,.int .i64 (c1-48),.int .i64 0],.bool false]) (results_row2 results134 _ _ w.heap.size 226 _ _ _ rfl rfl hq underlying226 rfl Tryz.sizeRecord) rfl (ReadP.no HF.out (((Below.refl _ w).alloc (Nat.le_refl _) _).trans (ho.below (Nat.le_refl _))))
 have HP1:Hid (∀W:World,Calls prog 181 #[.int .u8 c1,.int .u8 48,.int .u8 55] W fun e w'=>e=.returned (.tuple #[.int .i64 0,.bool false])∧w'=W):=fun W=>place_out _ _ _ W (by decide) (by decide) l1;have HF:Hid (formN 3 118 c1 c2=false):=decide_eq_false (by omega);clear l1;by_cases d2:48≤c2∧c2≤57
 .have HP2:Hid (∀W:World,Calls prog 181 #[.int .u8 c2,.int .u8 48,.int .u8 57] W fun e w'=>e=.returned (.tuple #[.int .i64 (c2-48),.bool true])∧w'=W):=fun W=>place_in _ _ _ W (by decide) (by decide) d2;clear d2;go_enter func134,ntmps134;go_wp2_with fail
  refine(HP1.out _).mono ?_;rintro e w1 ⟨rfl,hw1⟩;have hw2:=hw1.symm;clear hw1;subst hw2;go_wp2_with fail
  refine(HP2.out _).mono ?_;rintro e w1 ⟨rfl,hw1⟩;have hw2:=hw1.symm;clear hw1;subst hw2;go_wp2_with (refine wpList_store_rowG rfl 226 _ _ rfl w.heap.size #[.int .u8 118,.int .i64 0,.int .i64 (c2-48)] rfl rfl 226 #[.int .u8 0,.int .i64 0,.int .i64 0] (heap_alloc_new w _) rfl (by simp[Value.oneCell']) Tryz.sizeRecord ?_;intro w5 hq ho)
  exact bodyPost_ret (v:=.tuple #[.agg #[.int .u8 118,.int .i64 0,.int .i64 (c2-48)],.bool false]) (results_row2 results134 _ _ w.heap.size 226 _ _ _ rfl rfl hq underlying226 rfl Tryz.sizeRecord) rfl (ReadP.no HF.out (((Below.refl _ w).alloc (Nat.le_refl _) _).trans (ho.below (Nat.le_refl _))))
 have HP2:Hid (∀W:World,Calls prog 181 #[.int .u8 c2,.int .u8 48,.int .u8 57] W fun e w'=>e=.returned (.tuple #[.int .i64 0,.bool false])∧w'=W):=fun W=>place_out _ _ _ W (by decide) (by decide) d2;clear d2;go_enter func134,ntmps134;go_wp2_with fail
 refine(HP1.out _).mono ?_;rintro e w1 ⟨rfl,hw1⟩;have hw2:=hw1.symm;clear hw1;subst hw2;go_wp2_with fail
 refine(HP2.out _).mono ?_;rintro e w1 ⟨rfl,hw1⟩;have hw2:=hw1.symm;clear hw1;subst hw2;go_wp2_with (refine wpList_store_rowG rfl 226 _ _ rfl w.heap.size #[.int .u8 118,.int .i64 0,.int .i64 0] rfl rfl 226 #[.int .u8 0,.int .i64 0,.int .i64 0] (heap_alloc_new w _) rfl (by simp[Value.oneCell']) Tryz.sizeRecord ?_;intro w5 hq ho)
 exact bodyPost_ret (v:=.tuple #[.agg #[.int .u8 118,.int .i64 0,.int .i64 0],.bool false]) (results_row2 results134 _ _ w.heap.size 226 _ _ _ rfl rfl hq underlying226 rfl Tryz.sizeRecord) rfl (ReadP.no HF.out (((Below.refl _ w).alloc (Nat.le_refl _) _).trans (ho.below (Nat.le_refl _))))
theorem read_three_o(t:ByteArray)(c0 c1 c2:Int)(w:World)(hz:t.size=3)(h1:c0≠106)(h2:c0≠114)(h3:c0≠118)(a0:∀W:World,(Instr.index 9 (.string t) (.int .i64 0)).run prog W=.ok (.int .u8 c0) W):
 Calls prog 134 #[.string t] w (ReadP 3 c0 c1 c2 w):=by
 have z3:((t.size:Int)==2)=false:=by simp;omega
 have z4:((t.size:Int)==3)=true:=by simp;omega
 have HF:Hid (formN 3 c0 c1 c2=false):=decide_eq_false (by omega);have j1:(c0==106)=false:=by simpa using h1
 have j2:(c0==114)=false:=by simpa using h2
 have j3:(c0==118)=false:=by simpa using h3
 clear hz h1 h2 h3;go_enter func134,ntmps134;go_wp2_with (refine wpList_store_rowG rfl 226 _ _ rfl w.heap.size #[.int .u8 0,.int .i64 0,.int .i64 0] rfl rfl 226 #[.int .u8 0,.int .i64 0,.int .i64 0] (heap_alloc_new w _) rfl (by simp[Value.oneCell']) Tryz.sizeRecord ?_;intro w5 hq ho)
 exact bodyPost_ret (v:=.tuple #[.agg #[.int .u8 0,.int .i64 0,.int .i64 0],.bool false]) (results_row2 results134 _ _ w.heap.size 226 _ _ _ rfl rfl hq underlying226 rfl Tryz.sizeRecord) rfl (ReadP.no HF.out (((Below.refl _ w).alloc (Nat.le_refl _) _).trans (ho.below (Nat.le_refl _))))
theorem read_any(t:ByteArray)(w:World):
 Calls prog 134 #[.string t] w (ReadP t.size (byt t 0) (byt t 1) (byt t 2) w):=by
 by_cases h:t.size<2∨3<t.size
 .exact read_size t w h _ _ _
 by_cases h2:t.size=2
 .rw [h2];exact read_two t _ _ _ w h2 (byt_bd _ _) (byt_bd _ _) (byt_bd _ _) (index_byt t 0 (by omega)) (index_byt t 1 (by omega))
 have h3:t.size=3:=by omega
 have i0:=index_byt t 0 (by omega);have i1:=index_byt t 1 (by omega);have i2:=index_byt t 2 (by omega);rw[h3];by_cases k1:byt t 0=106
 .rw [k1] at i0 ⊢;exact read_three_j t _ _ w h3 (byt_bd _ _) (byt_bd _ _) i0 i1 i2
 by_cases k2:byt t 0=114
 .rw [k2] at i0 ⊢;exact read_three_r t _ _ w h3 (byt_bd _ _) (byt_bd _ _) i0 i1 i2
 by_cases k3:byt t 0=118
 .rw [k3] at i0 ⊢;exact read_three_v t _ _ w h3 (byt_bd _ _) (byt_bd _ _) i0 i1 i2
 exact read_three_o t _ _ _ w h3 k1 k2 k3 i0
theorem row_lt{o:Obj}(h:w.heap[g]? =some o):g<w.heap.size:=by
 rcases Nat.lt_or_ge g w.heap.size with h'|h'
 .exact h'
 simp[Array.getElem?_eq_none h'] at h
theorem row_range{l:List Value}{t:TypeId}(h:w.heap[g]? =some (.cells l.toArray t (0,0))):w.rangeAt g 0 l:=fun j v hv=>by
 rw[Nat.zero_add,cell_of_row w g j _ _ _ h,List.getElem?_toArray];exact hv
def mayB(x:Nat→Int)(kind:Int)(i:Nat)(num:Int):Bool:=
 if kind=118 then decide (x i≠num)&&decide (0<sumTo (upd x i num) 8)
 else if kind=106 then decide (x (8+i)=0)
 else if kind=108 then decide (x (8+i)≠0)
 else decide (x (8+i)≠0)&&decide (x (8+i)≠num)
theorem may_j(x:Nat→Int)(i:Nat)(num:Int)(w:World)(hi:i<26):
 Calls prog 135 #[.agg (regA x),.agg #[.int .u8 106,.int .i64 (i:Int),.int .i64 num]] w fun e w'=>e=.returned (.bool (mayB x 106 i num))∧Below w.heap.size w w':=by
 obtain⟨W,hW⟩:∃W,W=(w.alloc (.cells (regA x) 116)).alloc (.cells #[.int .u8 106,.int .i64 (i:Int),.int .i64 num] 226):=⟨_,rfl⟩;have HR:Hid (RegAt W w.heap.size 116 x):=by
  unfold Hid;rw[hW];exact(RegAt.alloc w _ x).below ((Below.refl _ _).alloc (Nat.le_refl _) _)
 have hrow:W.heap[w.heap.size+1]? =some (.cells #[.int .u8 106,.int .i64 (i:Int),.int .i64 num] 226 (0,0)):=by
  have h:=heap_alloc_new (w.alloc (.cells (regA x) 116)) (.cells #[.int .u8 106,.int .i64 (i:Int),.int .i64 num] 226);have e1:(w.alloc (.cells (regA x) 116)).heap.size=w.heap.size+1:=by simp
  rw[e1] at h;rw[hW];exact h
 have hk0:=cell_of_row W (w.heap.size+1) 0 _ _ _ hrow;have hk1:=cell_of_row W (w.heap.size+1) 1 _ _ _ hrow;have hk2:=cell_of_row W (w.heap.size+1) 2 _ _ _ hrow;simp only[List.getElem?_toArray,List.getElem?_cons_zero,List.getElem?_cons_succ] at hk0 hk1 hk2;have HROW:=hide hrow;have HB:Hid (Below w.heap.size w W):=by
  unfold Hid;rw[hW];exact((Below.refl _ w).alloc (Nat.le_refl _) _).alloc (by simp) _
 have hW2:=hW.symm;clear hrow hW;have hi8:(i:Int)<26:=by omega
 have hc:=HR.out.cell (8+i) (by omega);by_cases hz:x (8+i)=0
 .have HF:Hid (mayB x 106 i num=true):=by unfold Hid mayB;simp[hz]
  rw[hz] at hc;clear hz hi;go_enter func135,ntmps135;go_wp2;go_ret;exact⟨ret_b HF.out.symm,HB.out⟩
 have HF:Hid (mayB x 106 i num=false):=by unfold Hid mayB;simp[hz]
 have hzb:(x (8+i)==0)=false:=by simpa using hz
 have hzn:(x (8+i) != 0)=true:=by simpa using hz
 clear hz hi;go_enter func135,ntmps135;go_wp2;go_ret;exact⟨ret_b HF.out.symm,HB.out⟩
theorem may_l(x:Nat→Int)(i:Nat)(num:Int)(w:World)(hi:i<26):
 Calls prog 135 #[.agg (regA x),.agg #[.int .u8 108,.int .i64 (i:Int),.int .i64 num]] w fun e w'=>e=.returned (.bool (mayB x 108 i num))∧Below w.heap.size w w':=by
 obtain⟨W,hW⟩:∃W,W=(w.alloc (.cells (regA x) 116)).alloc (.cells #[.int .u8 108,.int .i64 (i:Int),.int .i64 num] 226):=⟨_,rfl⟩;have HR:Hid (RegAt W w.heap.size 116 x):=by
  unfold Hid;rw[hW];exact(RegAt.alloc w _ x).below ((Below.refl _ _).alloc (Nat.le_refl _) _)
 have hrow:W.heap[w.heap.size+1]? =some (.cells #[.int .u8 108,.int .i64 (i:Int),.int .i64 num] 226 (0,0)):=by
  have h:=heap_alloc_new (w.alloc (.cells (regA x) 116)) (.cells #[.int .u8 108,.int .i64 (i:Int),.int .i64 num] 226);have e1:(w.alloc (.cells (regA x) 116)).heap.size=w.heap.size+1:=by simp
  rw[e1] at h;rw[hW];exact h
 have hk0:=cell_of_row W (w.heap.size+1) 0 _ _ _ hrow;have hk1:=cell_of_row W (w.heap.size+1) 1 _ _ _ hrow;have hk2:=cell_of_row W (w.heap.size+1) 2 _ _ _ hrow;simp only[List.getElem?_toArray,List.getElem?_cons_zero,List.getElem?_cons_succ] at hk0 hk1 hk2;have HROW:=hide hrow;have HB:Hid (Below w.heap.size w W):=by
  unfold Hid;rw[hW];exact((Below.refl _ w).alloc (Nat.le_refl _) _).alloc (by simp) _
 have hW2:=hW.symm;clear hrow hW;have hi8:(i:Int)<26:=by omega
 have hc:=HR.out.cell (8+i) (by omega);by_cases hz:x (8+i)=0
 .have HF:Hid (mayB x 108 i num=false):=by unfold Hid mayB;simp[hz]
  rw[hz] at hc;clear hz hi;go_enter func135,ntmps135;go_wp2;go_ret;exact⟨ret_b HF.out.symm,HB.out⟩
 have HF:Hid (mayB x 108 i num=true):=by unfold Hid mayB;simp[hz]
 have hzb:(x (8+i)==0)=false:=by simpa using hz
 have hzn:(x (8+i) != 0)=true:=by simpa using hz
 clear hz hi;go_enter func135,ntmps135;go_wp2;go_ret;exact⟨ret_b HF.out.symm,HB.out⟩
theorem may_r(x:Nat→Int)(i:Nat)(num:Int)(w:World)(hi:i<26):
 Calls prog 135 #[.agg (regA x),.agg #[.int .u8 114,.int .i64 (i:Int),.int .i64 num]] w fun e w'=>e=.returned (.bool (mayB x 114 i num))∧Below w.heap.size w w':=by
 obtain⟨W,hW⟩:∃W,W=(w.alloc (.cells (regA x) 116)).alloc (.cells #[.int .u8 114,.int .i64 (i:Int),.int .i64 num] 226):=⟨_,rfl⟩;have HR:Hid (RegAt W w.heap.size 116 x):=by
  unfold Hid;rw[hW];exact(RegAt.alloc w _ x).below ((Below.refl _ _).alloc (Nat.le_refl _) _)
 have hrow:W.heap[w.heap.size+1]? =some (.cells #[.int .u8 114,.int .i64 (i:Int),.int .i64 num] 226 (0,0)):=by
  have h:=heap_alloc_new (w.alloc (.cells (regA x) 116)) (.cells #[.int .u8 114,.int .i64 (i:Int),.int .i64 num] 226);have e1:(w.alloc (.cells (regA x) 116)).heap.size=w.heap.size+1:=by simp
  rw[e1] at h;rw[hW];exact h
 have hk0:=cell_of_row W (w.heap.size+1) 0 _ _ _ hrow;have hk1:=cell_of_row W (w.heap.size+1) 1 _ _ _ hrow;have hk2:=cell_of_row W (w.heap.size+1) 2 _ _ _ hrow;simp only[List.getElem?_toArray,List.getElem?_cons_zero,List.getElem?_cons_succ] at hk0 hk1 hk2;have HROW:=hide hrow;have HB:Hid (Below w.heap.size w W):=by
  unfold Hid;rw[hW];exact((Below.refl _ w).alloc (Nat.le_refl _) _).alloc (by simp) _
 have hW2:=hW.symm;clear hrow hW;have hi8:(i:Int)<26:=by omega
 have hc:=HR.out.cell (8+i) (by omega);by_cases hz:x (8+i)=0
 .have HF:Hid (mayB x 114 i num=false):=by unfold Hid mayB;simp[hz]
  rw[hz] at hc;clear hz hi;go_enter func135,ntmps135;go_wp2;go_quiet (fail)
  go_wp2;go_ret;exact⟨ret_b HF.out.symm,below_drewN HB.out _⟩
 have hzb:(x (8+i)==0)=false:=by simpa using hz
 have hzn:(x (8+i) != 0)=true:=by simpa using hz
 by_cases hn:x (8+i)=num;focus
  have HF:Hid (mayB x 114 i num=false):=by unfold Hid mayB;simp[hn]
  have hnb:(x (8+i)==num)=true:=by simpa using hn
  have hnn:(x (8+i) != num)=false:=by simpa using hn
 rotate_left;focus
  have HF:Hid (mayB x 114 i num=true):=by unfold Hid mayB;simp[hz,hn]
  have hnb:(x (8+i)==num)=false:=by simpa using hn
  have hnn:(x (8+i) != num)=true:=by simpa using hn
 rotate_left;all_goals
  clear hz hi hn;go_enter func135,ntmps135;go_wp2;go_quiet (fail)
  go_wp2;go_ret;exact⟨ret_b HF.out.symm,below_drewN HB.out _⟩
theorem may_v(x:Nat→Int)(i:Nat)(num:Int)(w:World)(hx:Dom x)(hi:i<8)(hn0:0≤num)(hn9:num≤9):
 Calls prog 135 #[.agg (regA x),.agg #[.int .u8 118,.int .i64 (i:Int),.int .i64 num]] w fun e w'=>e=.returned (.bool (mayB x 118 i num))∧Below w.heap.size w w':=by
 obtain⟨W,hW⟩:∃W,W=(w.alloc (.cells (regA x) 116)).alloc (.cells #[.int .u8 118,.int .i64 (i:Int),.int .i64 num] 226):=⟨_,rfl⟩;have HR:Hid (RegAt W w.heap.size 116 x):=by
  unfold Hid;rw[hW];exact(RegAt.alloc w _ x).below ((Below.refl _ _).alloc (Nat.le_refl _) _)
 have hrow:W.heap[w.heap.size+1]? =some (.cells #[.int .u8 118,.int .i64 (i:Int),.int .i64 num] 226 (0,0)):=by
  have h:=heap_alloc_new (w.alloc (.cells (regA x) 116)) (.cells #[.int .u8 118,.int .i64 (i:Int),.int .i64 num] 226);have e1:(w.alloc (.cells (regA x) 116)).heap.size=w.heap.size+1:=by simp
  rw[e1] at h;rw[hW];exact h
 have hk0:=cell_of_row W (w.heap.size+1) 0 _ _ _ hrow;have hk1:=cell_of_row W (w.heap.size+1) 1 _ _ _ hrow;have hk2:=cell_of_row W (w.heap.size+1) 2 _ _ _ hrow;simp only[List.getElem?_toArray,List.getElem?_cons_zero,List.getElem?_cons_succ] at hk0 hk1 hk2;have HROW:=hide hrow;have HB:Hid (Below w.heap.size w W):=by
  unfold Hid;rw[hW];exact((Below.refl _ w).alloc (Nat.le_refl _) _).alloc (by simp) _
 have hW2:=hW.symm;clear hrow hW;have hi8:(i:Int)<8:=by omega
 have HX:=hide hx;have HY:Hid (∀j,j<8→0≤upd x i num j∧upd x i num j≤9):=fun j _=>(hx.set i num hn0 hn9) j;clear hx hn0 hn9;by_cases hn:x i=num
 .have HF:Hid (mayB x 118 i num=false):=by unfold Hid mayB;simp[hn]
  have hnb:(x i==num)=true:=by simpa using hn
  have hnn:(x i != num)=false:=by simpa using hn
  clear hn;go_enter func135,ntmps135;go_wp2_with fail
  refine rgd (S:=fun W'=>RegAt W' w.heap.size 116 x∧W'.heap[w.heap.size+1]? =some (.cells #[.int .u8 118,.int .i64 (i:Int),.int .i64 num] 226 (0,0))∧Below w.heap.size w W') ⟨HR.out.drew,HROW.out,HB.out.drew⟩ (fun hH=>?_);refine takeN [(0,some 43,pA (w.heap.size+1) 1),(1,some 44,.int .i64 (i:Int)),(2,some 45,pA w.heap.size 0),(3,some 46,pA w.heap.size i),(4,some 47,.int .i64 (x i)),(5,some 48,pA (w.heap.size+1) 2),(6,some 49,.int .i64 num),(7,some 50,.bool false),(8,some 51,.bool false),(9,some 52,undef),(10,some 53,undef),(11,some 54,undef),(12,some 55,undef),(13,some 56,undef),(14,some 57,.bool false)] _ _ hH (by repeat(first|exact True.intro|((first|(refine tkc rfl rfl (Or.inl ⟨by rfl,fun x h=>?_⟩) ?_;focus(have hcx:=cell_of_row _ _ 1 _ _ _ h.2.1;simp only[List.getElem?_toArray,List.getElem?_cons_zero,List.getElem?_cons_succ] at hcx;go_simp;done))|(refine tkc rfl rfl (Or.inl ⟨by rfl,fun x h=>?_⟩) ?_;focus(have hcx:=cell_of_row _ _ 2 _ _ _ h.2.1;simp only[List.getElem?_toArray,List.getElem?_cons_zero,List.getElem?_cons_succ] at hcx;go_simp;done))|(refine tkc rfl rfl (Or.inl ⟨by rfl,fun x h=>?_⟩) ?_;focus(have f0:=h.1.cell i (by omega);go_simp;done))|refine tkc rfl rfl (Or.inr ⟨by rfl,rfl⟩) ?_);simp only[AP]))) ?_;simp only[takesA,AP,pA];refine rdy1 15 (fun K hK=>?_);go_simp;refine hK.out _ _ hH (fun hH=>?_);clear hK K;refine dnr ?_;go_wp2;go_ret;exact⟨ret_b HF.out.symm,hH.2.2⟩
 by_cases hs:0<sumTo (upd x i num) 8;focus
  have HF:Hid (mayB x 118 i num=true):=by unfold Hid mayB;simp[hn,hs]
  have hnb:(x i==num)=false:=by simpa using hn
  have hnn:(x i != num)=true:=by simpa using hn
  clear hn;go_enter func135,ntmps135;go_wp2_with fail
  refine rgd (S:=fun W'=>RegAt W' w.heap.size 116 x∧W'.heap[w.heap.size+1]? =some (.cells #[.int .u8 118,.int .i64 (i:Int),.int .i64 num] 226 (0,0))∧Below w.heap.size w W') ⟨HR.out.drew,HROW.out,HB.out.drew⟩ (fun hH=>?_);refine takeN [(0,some 43,pA (w.heap.size+1) 1),(1,some 44,.int .i64 (i:Int)),(2,some 45,pA w.heap.size 0),(3,some 46,pA w.heap.size i),(4,some 47,.int .i64 (x i)),(5,some 48,pA (w.heap.size+1) 2),(6,some 49,.int .i64 num),(7,some 50,.bool true),(8,some 51,.bool true),(9,some 52,.agg (regA x)),(10,some 53,.agg #[.int .u8 118,.int .i64 (i:Int),.int .i64 num])] _ _ hH (by repeat(first|exact True.intro|((first|refine tkc rfl rfl (yields_load_reg (by rfl) 116 _ rfl w.heap.size rfl 116 x _ (fun w h=>h.1) underlying116 rfl Tryz.sizeRegistry) ?_|refine tkc rfl rfl (yieldsIf_load_mid (by rfl) 226 _ rfl (w.heap.size+1) 0 rfl [.int .u8 118,.int .i64 (i:Int),.int .i64 num] _ (fun w h=>row_range h.2.1) underlying226 rfl (by rw[Tryz.sizeRecord];rfl)) ?_|(refine tkc rfl rfl (Or.inl ⟨by rfl,fun x h=>?_⟩) ?_;focus(have hcx:=cell_of_row _ _ 1 _ _ _ h.2.1;simp only[List.getElem?_toArray,List.getElem?_cons_zero,List.getElem?_cons_succ] at hcx;go_simp;done))|(refine tkc rfl rfl (Or.inl ⟨by rfl,fun x h=>?_⟩) ?_;focus(have hcx:=cell_of_row _ _ 2 _ _ _ h.2.1;simp only[List.getElem?_toArray,List.getElem?_cons_zero,List.getElem?_cons_succ] at hcx;go_simp;done))|(refine tkc rfl rfl (Or.inl ⟨by rfl,fun x h=>?_⟩) ?_;focus(have f0:=h.1.cell i (by omega);go_simp;done)));simp only[AP]))) ?_;simp only[takesA,AP,pA];refine rdy1 11 (fun K hK=>?_);go_simp;go_wp2_with ((go_at_call 136;refine(with_any x 118 i num _ (fun _=>hi) (fun h=>absurd rfl h)).mono ?_;rintro e w1 ⟨rfl,hb1⟩))
  have hsz:=hH.2.2.size;refine hK.out _ _ ⟨hH.1.below hb1,(hb1.block _ (row_lt hH.2.1)).trans hH.2.1,hH.2.2.trans (hb1.mono hsz)⟩ (fun hH=>?_);clear hK K hb1 hsz;have hsp:spot 118 i=i:=if_pos rfl;rw[hsp];refine rdy1 12 (fun K hK=>?_);go_simp;go_wp2_with ((go_at_call 103;refine(total_any (upd x i num) _ HY.out).mono ?_;rintro e w1 ⟨rfl,hb1⟩))
  have hsz:=hH.2.2.size;refine hK.out _ _ ⟨hH.1.below hb1,(hb1.block _ (row_lt hH.2.1)).trans hH.2.1,hH.2.2.trans (hb1.mono hsz)⟩ (fun hH=>?_);clear hK K hb1 hsz;refine takeM [(13,some 56,.bool true),(14,some 57,.bool true)] _ _ hH ?_
 rotate_left;focus
  have HF:Hid (mayB x 118 i num=false):=by unfold Hid mayB;simp[hn,hs]
  have hnb:(x i==num)=false:=by simpa using hn
  have hnn:(x i != num)=true:=by simpa using hn
  clear hn;go_enter func135,ntmps135;go_wp2_with fail
  refine rgd (S:=fun W'=>RegAt W' w.heap.size 116 x∧W'.heap[w.heap.size+1]? =some (.cells #[.int .u8 118,.int .i64 (i:Int),.int .i64 num] 226 (0,0))∧Below w.heap.size w W') ⟨HR.out.drew,HROW.out,HB.out.drew⟩ (fun hH=>?_);refine takeN [(0,some 43,pA (w.heap.size+1) 1),(1,some 44,.int .i64 (i:Int)),(2,some 45,pA w.heap.size 0),(3,some 46,pA w.heap.size i),(4,some 47,.int .i64 (x i)),(5,some 48,pA (w.heap.size+1) 2),(6,some 49,.int .i64 num),(7,some 50,.bool true),(8,some 51,.bool true),(9,some 52,.agg (regA x)),(10,some 53,.agg #[.int .u8 118,.int .i64 (i:Int),.int .i64 num])] _ _ hH (by repeat(first|exact True.intro|((first|refine tkc rfl rfl (yields_load_reg (by rfl) 116 _ rfl w.heap.size rfl 116 x _ (fun w h=>h.1) underlying116 rfl Tryz.sizeRegistry) ?_|refine tkc rfl rfl (yieldsIf_load_mid (by rfl) 226 _ rfl (w.heap.size+1) 0 rfl [.int .u8 118,.int .i64 (i:Int),.int .i64 num] _ (fun w h=>row_range h.2.1) underlying226 rfl (by rw[Tryz.sizeRecord];rfl)) ?_|(refine tkc rfl rfl (Or.inl ⟨by rfl,fun x h=>?_⟩) ?_;focus(have hcx:=cell_of_row _ _ 1 _ _ _ h.2.1;simp only[List.getElem?_toArray,List.getElem?_cons_zero,List.getElem?_cons_succ] at hcx;go_simp;done))|(refine tkc rfl rfl (Or.inl ⟨by rfl,fun x h=>?_⟩) ?_;focus(have hcx:=cell_of_row _ _ 2 _ _ _ h.2.1;simp only[List.getElem?_toArray,List.getElem?_cons_zero,List.getElem?_cons_succ] at hcx;go_simp;done))|(refine tkc rfl rfl (Or.inl ⟨by rfl,fun x h=>?_⟩) ?_;focus(have f0:=h.1.cell i (by omega);go_simp;done)));simp only[AP]))) ?_;simp only[takesA,AP,pA];refine rdy1 11 (fun K hK=>?_);go_simp;go_wp2_with ((go_at_call 136;refine(with_any x 118 i num _ (fun _=>hi) (fun h=>absurd rfl h)).mono ?_;rintro e w1 ⟨rfl,hb1⟩))
  have hsz:=hH.2.2.size;refine hK.out _ _ ⟨hH.1.below hb1,(hb1.block _ (row_lt hH.2.1)).trans hH.2.1,hH.2.2.trans (hb1.mono hsz)⟩ (fun hH=>?_);clear hK K hb1 hsz;have hsp:spot 118 i=i:=if_pos rfl;rw[hsp];refine rdy1 12 (fun K hK=>?_);go_simp;go_wp2_with ((go_at_call 103;refine(total_any (upd x i num) _ HY.out).mono ?_;rintro e w1 ⟨rfl,hb1⟩))
  have hsz:=hH.2.2.size;refine hK.out _ _ ⟨hH.1.below hb1,(hb1.block _ (row_lt hH.2.1)).trans hH.2.1,hH.2.2.trans (hb1.mono hsz)⟩ (fun hH=>?_);clear hK K hb1 hsz;refine takeM [(13,some 56,.bool false),(14,some 57,.bool false)] _ _ hH ?_
 rotate_left;all_goals
  simp only[takesA,AP];refine rdy1 15 (fun K hK=>?_);go_simp;refine hK.out _ _ hH (fun hH=>?_);clear hK K;refine dnr ?_;go_wp2;go_ret;exact⟨ret_b HF.out.symm,hH.2.2⟩
theorem may_any(x:Nat→Int)(kind:Int)(i:Nat)(num:Int)(w:World)(hx:Dom x)(hk:kind=106∨kind=108∨kind=114∨kind=118)(h1:kind=118→i<8)(h2:kind≠118→i<26)(hn0:0≤num)(hn9:num≤9):
 Calls prog 135 #[.agg (regA x),.agg #[.int .u8 kind,.int .i64 (i:Int),.int .i64 num]] w fun e w'=>e=.returned (.bool (mayB x kind i num))∧Below w.heap.size w w':=by
 rcases hk with rfl|rfl|rfl|rfl
 .exact may_j x i num w (h2 (by decide))
 .exact may_l x i num w (h2 (by decide))
 .exact may_r x i num w (h2 (by decide))
 exact may_v x i num w hx (h1 rfl) hn0 hn9
def goodR(r:(Nat→Int)×Bool):Nat→Int:=if r.2 then r.1 else reg0
def errV(b:Addr):Value:=.iface 294 (.pointer (some b))
def errIf(o:Bool)(b:Addr):Value:=if o then .nilIface else errV b
theorem sumTo_regOf(g:Nat→Int)(n:Nat):∀m,sumTo (regOf g n) (n+m)=sumTo g n:=by
 intro m;induction m with
 |zero=>
  have h:∀k,k≤n→sumTo (regOf g n) k=sumTo g k:=by
   intro k;induction k with
   |zero=>intro _;rfl
   |succ k ih=>intro hk;simp only[sumTo];rw[ih (by omega),regOf,if_pos (by omega)]
  exact h n (Nat.le_refl _)
 |succ m ih=>
  rw[←Nat.add_assoc];simp only[sumTo];rw[ih,regOf,if_neg (by omega)];omega
theorem genP_any(g:Nat→Int)(p:Option Addr)(n cap:Nat)(b:Addr)(w:World)(hl:Lies w w.heap.size p n (fun i=>.int .i64 (g i)))(hg:w.cell? ⟨1,0,none⟩=some (.iface 294 (.pointer (some b)))):
 Calls prog 52 #[.slice p n cap] w fun e w'=>e=.returned (.tuple #[.agg (regA (goodR (genR g n))),errIf (genR g n).2 b])∧Below w.heap.size w w':=by
 have z0:=regA_zero;have hgl:1<w.heap.size:=World.block_lt_of_cell? _ _ hg;obtain⟨W,hW⟩:∃W,W=(w.alloc (.cells (regA reg0) 116)).alloc (.cells (regA reg0) 116):=⟨_,rfl⟩;have HR1:Hid (RegAt W w.heap.size 116 reg0):=by
  unfold Hid;rw[hW];exact(RegAt.alloc w _ reg0).below ((Below.refl _ _).alloc (Nat.le_refl _) _)
 have HR2:Hid (RegAt W (w.heap.size+1) 116 reg0):=by
  unfold Hid;have h:=RegAt.alloc (w.alloc (.cells (regA reg0) 116)) 116 reg0;have e1:(w.alloc (.cells (regA reg0) 116)).heap.size=w.heap.size+1:=by simp
  rw[e1] at h;rw[hW];exact h
 have HB:Hid (Below w.heap.size w W):=by
  unfold Hid;rw[hW];exact((Below.refl _ w).alloc (Nat.le_refl _) _).alloc (by simp) _
 obtain⟨HG,HL⟩:=hide2 hg hl;have hW2:=hW.symm;clear hW hl hg;by_cases hn:n≤8
 .have hni:¬8<(n:Int):=by omega
  go_enter func52,ntmps52;go_wp2;go_loopw [5,6,14] (fun _ _ i wr=>∃k:Nat,k≤n∧(∀j,j<k→0≤g j∧g j≤9)∧i=.int .i64 k∧RegAt wr w.heap.size 116 reg0∧RegAt wr (w.heap.size+1) 116 (regOf g k)∧Below w.heap.size w wr) (fun _ _ i _=>n-(intOf i).toNat)
  case atStart=>exact⟨0,by omega,fun j hj=>by omega,rfl,HR1.out,by rw[regOf_zero];exact HR2.out,HB.out⟩
  clear HR1 HR2 HB hW2;obtain⟨k,hk,hd,rfl,h1,h2,hb⟩:=hrel;obtain⟨HD,HB,H1,H2⟩:=hide4 hd hb h1 h2;have HGr:=hide ((hb.cell (p:=⟨1,0,none⟩) (by exact hgl)).trans HG.out);clear hd hb h1 h2;by_cases hkn:k=n
  .subst hkn;have HT:=hide (total_any (regOf g k) wr (fun i hi=>by unfold regOf;split;exact HD.out i ‹_›;omega));have HSU:Hid (sumTo (regOf g k) 8=sumTo g k):=by have:=sumTo_regOf g k (8-k);rw[Nat.add_sub_cancel' hn] at this;exact this
   obtain⟨HSB,HGEN⟩:=hide2 (sumTo_bound g k HD.out) (genR_good g k hn HD.out);go_wp2_with (first|(refine wpList_load_reg rfl 116 _ rfl _ rfl 116 _ _ H2.out underlying116 rfl Tryz.sizeRegistry ?_)|fail)
   refine HT.out.mono ?_;rintro e w1 ⟨rfl,hb1⟩;rw[HSU.out];obtain⟨H11,H21⟩:=hide2 (H1.out.below hb1) (H2.out.below hb1);have HB1:Hid (Below w.heap.size w w1):=HB.out.trans (hb1.mono HB.out.size);have HG1:=hide ((HB1.out.cell (p:=⟨1,0,none⟩) (by exact hgl)).trans HG.out);clear hb1 HT;by_cases hs:sumTo g k=0
   .have HF:Hid (genR g k=(regOf g k,false)):=by unfold Hid;rw[HGEN.out,decide_eq_false (by omega)]
    rw[hs];clear hs;go_wp2_with fail
    refine rgd (S:=fun W'=>W'.cell? ⟨1,0,none⟩=some (.iface 294 (.pointer (some b)))) HG1.out (fun hH=>?_);refine takeM [(0,some 35,.agg (regA reg0)),(1,some 36,.iface 294 (.pointer (some b)))] _ _ hH ?_;simp only[takesA,AP];refine rdy1 2 (fun K hK=>?_);rw[if_pos (by rfl)];refine wp_store_reg 116 _ _ rfl w.heap.size reg0 rfl rfl 116 (regA reg0) H11.out.drew (regA_size _) Tryz.sizeRegistry ?_;intro w2 hq ho;refine hK.out _ _ ((ho.cell (p:=⟨1,0,none⟩) (by show 1≠w.heap.size;omega)).trans hH) (fun hH=>?_);clear hK K;refine rdy1 3 (fun K hK=>?_);go_simp;refine hK.out _ _ hH (fun hH=>?_);clear hK K;refine dnr ?_;go_wp2;exact bodyPost_ret (v:=.tuple #[.agg (regA reg0),.iface 294 (.pointer (some b))]) (results_reg2 results52 _ _ w.heap.size 116 reg0 _ _ rfl rfl hq underlying116 rfl Tryz.sizeRegistry) rfl ⟨by rw[HF.out];rfl,(HB1.out.drew).trans (ho.below (Nat.le_refl _))⟩
   have HF:Hid (genR g k=(regOf g k,true)):=by unfold Hid;rw[HGEN.out,decide_eq_true (by have:=HSB.out;omega)]
   have hsb:(sumTo g k==0)=false:=by simpa using hs
   clear hs;go_wp2_with (first|(refine wpList_load_reg rfl 116 _ rfl _ rfl 116 _ _ H21.out underlying116 rfl Tryz.sizeRegistry ?_)|(refine wpList_store_reg rfl 116 _ _ rfl w.heap.size _ rfl rfl 116 _ H11.out (regA_size _) Tryz.sizeRegistry ?_;intro w2 hq ho))
   exact bodyPost_ret (v:=.tuple #[.agg (regA (regOf g k)),.nilIface]) (results_reg2 results52 _ _ w.heap.size 116 _ _ _ rfl rfl hq underlying116 rfl Tryz.sizeRegistry) rfl ⟨by rw[HF.out];rfl,HB1.out.trans (ho.below (Nat.le_refl _))⟩
  have hlt:k<n:=by omega
  have hki:(k:Int)<n:=by omega
  obtain⟨bb,o,rfl,hbb,hc⟩:=HL.out k hlt;have hcr:=(HB.out.cell (p:=⟨bb,o+k,none⟩) (by exact hbb)).trans hc;clear hc hkn;by_cases hneg:g k<0
  .have HF:Hid (genR g n=(reg0,false)):=genR_bad g n (fun hh=>by have:=hh.2 k hlt;omega);go_wp2_with fail
   refine rgd (S:=fun W'=>W'.cell? ⟨1,0,none⟩=some (.iface 294 (.pointer (some b)))) HGr.out (fun hH=>?_);refine takeM [(0,some 25,.agg (regA reg0)),(1,some 26,.iface 294 (.pointer (some b)))] _ _ hH ?_;simp only[takesA,AP];refine rdy1 2 (fun K hK=>?_);rw[if_pos (by rfl)];refine wp_store_reg 116 _ _ rfl w.heap.size reg0 rfl rfl 116 (regA reg0) H1.out.drew (regA_size _) Tryz.sizeRegistry ?_;intro w2 hq ho;refine hK.out _ _ ((ho.cell (p:=⟨1,0,none⟩) (by show 1≠w.heap.size;omega)).trans hH) (fun hH=>?_);clear hK K;refine rdy1 3 (fun K hK=>?_);go_simp;refine hK.out _ _ hH (fun hH=>?_);clear hK K;refine dnr ?_;go_wp2;exact bodyPost_ret (v:=.tuple #[.agg (regA reg0),.iface 294 (.pointer (some b))]) (results_reg2 results52 _ _ w.heap.size 116 reg0 _ _ rfl rfl hq underlying116 rfl Tryz.sizeRegistry) rfl ⟨by rw[HF.out];rfl,(HB.out.drew).trans (ho.below (Nat.le_refl _))⟩
  by_cases hbig:9<g k
  .have HF:Hid (genR g n=(reg0,false)):=genR_bad g n (fun hh=>by have:=hh.2 k hlt;omega);go_wp2_with fail
   refine rgd (S:=fun W'=>W'.cell? ⟨1,0,none⟩=some (.iface 294 (.pointer (some b)))) HGr.out (fun hH=>?_);refine takeM [(0,some 25,.agg (regA reg0)),(1,some 26,.iface 294 (.pointer (some b)))] _ _ hH ?_;simp only[takesA,AP];refine rdy1 2 (fun K hK=>?_);rw[if_pos (by rfl)];refine wp_store_reg 116 _ _ rfl w.heap.size reg0 rfl rfl 116 (regA reg0) H1.out.drew (regA_size _) Tryz.sizeRegistry ?_;intro w2 hq ho;refine hK.out _ _ ((ho.cell (p:=⟨1,0,none⟩) (by show 1≠w.heap.size;omega)).trans hH) (fun hH=>?_);clear hK K;refine rdy1 3 (fun K hK=>?_);go_simp;refine hK.out _ _ hH (fun hH=>?_);clear hK K;refine dnr ?_;go_wp2;exact bodyPost_ret (v:=.tuple #[.agg (regA reg0),.iface 294 (.pointer (some b))]) (results_reg2 results52 _ _ w.heap.size 116 reg0 _ _ rfl rfl hq underlying116 rfl Tryz.sizeRegistry) rfl ⟨by rw[HF.out];rfl,(HB.out.drew).trans (ho.below (Nat.le_refl _))⟩
  have hcell:=H2.out.cell k (by omega);have hfz:=H2.out.frozen k;have hk8:(k:Int)<8:=by omega
  go_wp2;go_roundw
  case rel=>
   refine⟨k+1,by omega,fun j hj=>?_,by go_num,?_,?_,?_⟩
   .by_cases hj2:j<k
    .exact HD.out j hj2
    obtain rfl:j=k:=by omega
    omega
   .exact H1.out.only (only_setCell _ _ _ _) (by omega)
   .rw [←regOf_succ];exact H2.out.set k (g k) (by omega)
   exact HB.out.trans ((only_setCell _ _ _ _).below (by omega))
  case measure=>simp[intOf];omega
 have hni:8<(n:Int):=by omega
 have HF:Hid (genR g n=(reg0,false)):=genR_bad g n (fun hh=>hn hh.1);have HG1:=hide ((HB.out.cell (p:=⟨1,0,none⟩) (by exact hgl)).trans HG.out);clear hn;go_enter func52,ntmps52;go_wp2_with fail
 refine rgd (S:=fun W'=>W'.cell? ⟨1,0,none⟩=some (.iface 294 (.pointer (some b)))) HG1.out (fun hH=>?_);refine takeM [(0,some 10,.agg (regA reg0)),(1,some 11,.iface 294 (.pointer (some b)))] _ _ hH ?_;simp only[takesA,AP];refine rdy1 2 (fun K hK=>?_);rw[if_pos (by rfl)];refine wp_store_reg 116 _ _ rfl w.heap.size reg0 rfl rfl 116 (regA reg0) HR1.out.drew (regA_size _) Tryz.sizeRegistry ?_;intro w2 hq ho;refine hK.out _ _ ((ho.cell (p:=⟨1,0,none⟩) (by show 1≠w.heap.size;omega)).trans hH) (fun hH=>?_);clear hK K;refine rdy1 3 (fun K hK=>?_);go_simp;refine hK.out _ _ hH (fun hH=>?_);clear hK K;refine dnr ?_;go_wp2;exact bodyPost_ret (v:=.tuple #[.agg (regA reg0),.iface 294 (.pointer (some b))]) (results_reg2 results52 _ _ w.heap.size 116 reg0 _ _ rfl rfl hq underlying116 rfl Tryz.sizeRegistry) rfl ⟨by rw[HF.out];rfl,(HB.out.drew).trans (ho.below (Nat.le_refl _))⟩
end Go.Proofs.YtcfjhbcpjpgodaaGreatDoor

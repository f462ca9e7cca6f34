import Derived.Test.YtcfjhbcpjpgodaaGreatDoorJ12
namespace Go.Proofs.YtcfjhbcpjpgodaaGreatDoor
open Go.RowKit Proofs.Tryz
set_option maxRecDepth 100000
set_option maxHeartbeats 0
set_option linter.all false
variable{n:Nat}{c0 c1 c2 a b c:Int}{w w':World}
theorem jf(c a b:Int)(w:World)(ha:0<=a)(hb:b<=255)(h:a<=c/\c<=b):
 Calls prog 181 #[.int .u8 c,.int .u8 a,.int .u8 b] w λe w'=>e=.returned (.tuple #[iA (c-a),bA true])/\w'=w:=by
 have h1:=Qd c a b w ha hb;rw[zgT h,zgG h] at h1;exact h1
theorem ql(c a b:Int)(w:World)(ha:0<=a)(hb:b<=255)(h:¬(a<=c/\c<=b)):
 Calls prog 181 #[.int .u8 c,.int .u8 a,.int .u8 b] w λe w'=>e=.returned (.tuple #[iA 0,bA false])/\w'=w:=by
 have h1:=Qd c a b w ha hb;rw[zgU h,zgH h] at h1;exact h1
theorem zG{P:Program}{fn:Func}{p q:Tmp}{ty:TypeId}(h:fn.results=#[.cell p ty,.tmp q])(tmps:Array Value)(w:World)(g:Nat)(t:TypeId)(cs:Array Value)(d:TypeDesc)(v:Value)
 (hp:tmps.getD p undef=pA g 0) (hq:tmps.getD q undef=v) (hg:w.heap[g]? =some (.cells cs t (0,0)))
 (hu:P.underlying ty=some d) (hd:d.isRow=true) (hi:(P.info? ty).map (·.size)=some cs.size):
 (results fn tmps).run P w=.ok (.tuple #[.agg cs,v]) w:=by
 have ab:tmps[p]?.getD undef=pA g 0:=by simpa using hp
 have aa:tmps[q]?.getD undef=v:=by simpa using hq
 simp[results,h,ab,aa,asAddr,run_loadVar_row w g t ty cs (0,0) d hg hu (by cases d<;>simp_all) hi]
theorem Tryz.zc4:(prog.info? 226).map (·.size)=some 3:=by kernel_rfl
def idxN(c0 c1:Int):Int:=if c0=118 then c1-48 else c1-97
def numN(c0 c2:Int):Int:=if c0=108 then 0 else c2-48
def qf(n:Nat)(c0 c1 c2:Int)(w:World)(e:Ending)(w':World):Prop:=
 (∃a b c,e=.returned (.tuple #[.agg #[.int .u8 a,iA b,iA c],bA (yn n c0 c1 c2)])/\(yn n c0 c1 c2=true->a=c0/\b=idxN c0 c1/\c=numN c0 c2))/\BW w w'
theorem qf.yes(hf:yn n c0 c1 c2=true)(ha:a=c0)(hb:b=idxN c0 c1)(hc:c=numN c0 c2)(hw:BW w w'):qf n c0 c1 c2 w (.returned (.tuple #[.agg #[.int .u8 a,iA b,iA c],bA true])) w':=
 ⟨⟨a,b,c,by rw[hf],λ_=>⟨ha,hb,hc⟩⟩,hw⟩
theorem qf.no(hf:yn n c0 c1 c2=false)(hw:BW w w'):qf n c0 c1 c2 w (.returned (.tuple #[.agg #[.int .u8 a,iA b,iA c],bA false])) w':=
 ⟨⟨a,b,c,by rw[hf],λh=>by rw[hf] at h;cases h⟩,hw⟩
theorem Gd(t:zgW)(w:World)(h:t.size<2\/3<t.size)(c0 c1 c2:Int):
 Calls prog 134 #[sA t] w (qf t.size c0 c1 c2 w):=by
 have HF:Hid (yn t.size c0 c1 c2=false):=zgH (by omega);have z3:((t.size:Int)==2)=false:=by simp;omega
 have z4:((t.size:Int)==3)=false:=by simp;omega
 clear h;go_enter func134,ntmps134;go_wp2_with (refine zi rfl 226 _ _ rfl w.heap.size #[.int .u8 0,iA 0,iA 0] rfl rfl 226 #[.int .u8 0,iA 0,iA 0] (zgr w _) rfl (by simp[Value.oneCell']) Tryz.zc4 ?_;intro w5 hq ho)
 exact zgJ (v:=.tuple #[.agg #[.int .u8 0,iA 0,iA 0],bA false]) (zG results134 _ _ w.heap.size 226 _ _ _ rfl rfl hq underlying226 rfl Tryz.zc4) rfl (qf.no HF ((bwA w).trans (ho.below (zgp _))))
theorem zaP(t:zgW)(c0 c1 c2:Int)(w:World)(hz:t.size=2)(b0:0<=c0/\c0<=255)(b1:0<=c1/\c1<=255)(b2:0<=c2/\c2<=255)(a0:∀W:World,(Instr.index 9 (sA t) (iA 0)).run prog W=.ok (.int .u8 c0) W)(a1:∀W:World,(Instr.index 9 (sA t) (iA 1)).run prog W=.ok (.int .u8 c1) W):
 Calls prog 134 #[sA t] w (qf 2 c0 c1 c2 w):=by
 have z3:((t.size:Int)==2)=true:=by simp;omega
 have z4:((t.size:Int)==3)=false:=by simp;omega
 clear hz;by_cases k:c0=108
 .subst k;by_cases l1:97<=c1/\c1<=122
  .have HF:Hid (yn 2 108 c1 c2=true):=zgG (by omega);have ad:Hid (∀W:World,Calls prog 181 #[.int .u8 c1,.int .u8 97,.int .u8 122] W λe w'=>e=.returned (.tuple #[iA (c1-97),bA true])/\w'=W):=λW=>jf _ _ _ W (by decide) (by decide) l1;clear l1 b2;go_enter func134,ntmps134;go_wp2_with fail
   refine(ad _).mono ?_;rintro e w1 ⟨rfl,aa⟩;have ab:=aa.symm;clear aa;subst ab;go_wp2_with (refine zi rfl 226 _ _ rfl w.heap.size #[.int .u8 108,iA (c1-97),iA 0] rfl rfl 226 #[.int .u8 0,iA 0,iA 0] (zgr w _) rfl (by simp[Value.oneCell']) Tryz.zc4 ?_;intro w5 hq ho)
   exact zgJ (v:=.tuple #[.agg #[.int .u8 108,iA (c1-97),iA 0],bA true]) (zG results134 _ _ w.heap.size 226 _ _ _ rfl rfl hq underlying226 rfl Tryz.zc4) rfl (qf.yes HF.o (by simp) (by simp[idxN]) (by simp[numN]) ((bwA w).trans (ho.below (zgp _))))
  have HF:Hid (yn 2 108 c1 c2=false):=zgH (by omega);have ad:Hid (∀W:World,Calls prog 181 #[.int .u8 c1,.int .u8 97,.int .u8 122] W λe w'=>e=.returned (.tuple #[iA 0,bA false])/\w'=W):=λW=>ql _ _ _ W (by decide) (by decide) l1;clear l1 b2;go_enter func134,ntmps134;go_wp2_with fail
  refine(ad _).mono ?_;rintro e w1 ⟨rfl,aa⟩;have ab:=aa.symm;clear aa;subst ab;go_wp2_with (refine zi rfl 226 _ _ rfl w.heap.size #[.int .u8 108,iA 0,iA 0] rfl rfl 226 #[.int .u8 0,iA 0,iA 0] (zgr w _) rfl (by simp[Value.oneCell']) Tryz.zc4 ?_;intro w5 hq ho)
  exact zgJ (v:=.tuple #[.agg #[.int .u8 108,iA 0,iA 0],bA false]) (zG results134 _ _ w.heap.size 226 _ _ _ rfl rfl hq underlying226 rfl Tryz.zc4) rfl (qf.no HF ((bwA w).trans (ho.below (zgp _))))
 have HF:Hid (yn 2 c0 c1 c2=false):=zgH (by omega);have j1:(c0==108)=false:=by simpa using k
 clear k;go_enter func134,ntmps134;go_wp2_with (refine zi rfl 226 _ _ rfl w.heap.size #[.int .u8 0,iA 0,iA 0] rfl rfl 226 #[.int .u8 0,iA 0,iA 0] (zgr w _) rfl (by simp[Value.oneCell']) Tryz.zc4 ?_;intro w5 hq ho)
 exact zgJ (v:=.tuple #[.agg #[.int .u8 0,iA 0,iA 0],bA false]) (zG results134 _ _ w.heap.size 226 _ _ _ rfl rfl hq underlying226 rfl Tryz.zc4) rfl (qf.no HF ((bwA w).trans (ho.below (zgp _))))
theorem gm(t:zgW)(c0 c1 c2:Int)(w:World)(hz:t.size=3)(b1:0<=c1/\c1<=255)(b2:0<=c2/\c2<=255)(a0:∀W:World,(Instr.index 9 (sA t) (iA 0)).run prog W=.ok (.int .u8 c0) W)(a1:∀W:World,(Instr.index 9 (sA t) (iA 1)).run prog W=.ok (.int .u8 c1) W)(a2:∀W:World,(Instr.index 9 (sA t) (iA 2)).run prog W=.ok (.int .u8 c2) W)(hc0:(c0==106)=true\/(c0==106)=false/\(c0==114)=true):
 Calls prog 134 #[sA t] w (qf 3 c0 c1 c2 w):=by
 have HC:Hid (c0=106\/c0=114):=by simp only[beq_iff_eq,beq_eq_false_iff_ne] at hc0;unfold Hid;omega
 have n108:(c0==108)=false:=beq_eq_false_iff_ne.2 (by have:=HC.o;omega);rcases hc0 with q1|⟨q1,q2⟩;all_goals
  have z3:((t.size:Int)==2)=false:=by simp;omega
  have z4:((t.size:Int)==3)=true:=by simp;omega
  clear hz;by_cases l1:97<=c1/\c1<=122
  .have ae:Hid (∀W:World,Calls prog 181 #[.int .u8 c1,.int .u8 97,.int .u8 122] W λe w'=>e=.returned (.tuple #[iA (c1-97),bA true])/\w'=W):=λW=>jf _ _ _ W (by decide) (by decide) l1;by_cases d2:48<=c2/\c2<=57
   .have ad:Hid (∀W:World,Calls prog 181 #[.int .u8 c2,.int .u8 48,.int .u8 57] W λe w'=>e=.returned (.tuple #[iA (c2-48),bA true])/\w'=W):=λW=>jf _ _ _ W (by decide) (by decide) d2;by_cases d3:48<c2
    .have HF:Hid (yn 3 c0 c1 c2=true):=zgG (by have:=HC.o;omega);clear l1 d2;go_enter func134,ntmps134;go_wp2_with fail
     refine(ae _).mono ?_;rintro e w1 ⟨rfl,aa⟩;have ab:=aa.symm;clear aa;subst ab;go_wp2_with fail
     refine(ad _).mono ?_;rintro e w1 ⟨rfl,aa⟩;have ab:=aa.symm;clear aa;subst ab;go_wp2_with (refine zi rfl 226 _ _ rfl w.heap.size #[.int .u8 c0,iA (c1-97),iA (c2-48)] rfl rfl 226 #[.int .u8 0,iA 0,iA 0] (zgr w _) rfl (by simp[Value.oneCell']) Tryz.zc4 ?_;intro w5 hq ho)
     exact zgJ (v:=.tuple #[.agg #[.int .u8 c0,iA (c1-97),iA (c2-48)],bA true]) (zG results134 _ _ w.heap.size 226 _ _ _ rfl rfl hq underlying226 rfl Tryz.zc4) rfl (qf.yes HF.o (by simp) (by unfold idxN;rw[zgU (by have:=HC.o;omega)]) (by unfold numN;rw[zgU (by have:=HC.o;omega)]) ((bwA w).trans (ho.below (zgp _))))
    .have HF:Hid (yn 3 c0 c1 c2=false):=zgH (by have:=HC.o;omega);have d4:decide (48<c2)=false:=zgH d3;clear l1 d2 d3;go_enter func134,ntmps134;go_wp2_with fail
     refine(ae _).mono ?_;rintro e w1 ⟨rfl,aa⟩;have ab:=aa.symm;clear aa;subst ab;go_wp2_with fail
     refine(ad _).mono ?_;rintro e w1 ⟨rfl,aa⟩;have ab:=aa.symm;clear aa;subst ab;go_wp2_with (refine zi rfl 226 _ _ rfl w.heap.size #[.int .u8 c0,iA (c1-97),iA (c2-48)] rfl rfl 226 #[.int .u8 0,iA 0,iA 0] (zgr w _) rfl (by simp[Value.oneCell']) Tryz.zc4 ?_;intro w5 hq ho)
     exact zgJ (v:=.tuple #[.agg #[.int .u8 c0,iA (c1-97),iA (c2-48)],bA false]) (zG results134 _ _ w.heap.size 226 _ _ _ rfl rfl hq underlying226 rfl Tryz.zc4) rfl (qf.no HF ((bwA w).trans (ho.below (zgp _))))
   .have ad:Hid (∀W:World,Calls prog 181 #[.int .u8 c2,.int .u8 48,.int .u8 57] W λe w'=>e=.returned (.tuple #[iA 0,bA false])/\w'=W):=λW=>ql _ _ _ W (by decide) (by decide) d2;have HF:Hid (yn 3 c0 c1 c2=false):=zgH (by have:=HC.o;omega);clear l1 d2;go_enter func134,ntmps134;go_wp2_with fail
    refine(ae _).mono ?_;rintro e w1 ⟨rfl,aa⟩;have ab:=aa.symm;clear aa;subst ab;go_wp2_with fail
    refine(ad _).mono ?_;rintro e w1 ⟨rfl,aa⟩;have ab:=aa.symm;clear aa;subst ab;go_wp2_with (refine zi rfl 226 _ _ rfl w.heap.size #[.int .u8 c0,iA (c1-97),iA 0] rfl rfl 226 #[.int .u8 0,iA 0,iA 0] (zgr w _) rfl (by simp[Value.oneCell']) Tryz.zc4 ?_;intro w5 hq ho)
    exact zgJ (v:=.tuple #[.agg #[.int .u8 c0,iA (c1-97),iA 0],bA false]) (zG results134 _ _ w.heap.size 226 _ _ _ rfl rfl hq underlying226 rfl Tryz.zc4) rfl (qf.no HF ((bwA w).trans (ho.below (zgp _))))
  .have ae:Hid (∀W:World,Calls prog 181 #[.int .u8 c1,.int .u8 97,.int .u8 122] W λe w'=>e=.returned (.tuple #[iA 0,bA false])/\w'=W):=λW=>ql _ _ _ W (by decide) (by decide) l1;have HF:Hid (yn 3 c0 c1 c2=false):=zgH (by have:=HC.o;omega);clear l1;by_cases d2:48<=c2/\c2<=57
   .have ad:Hid (∀W:World,Calls prog 181 #[.int .u8 c2,.int .u8 48,.int .u8 57] W λe w'=>e=.returned (.tuple #[iA (c2-48),bA true])/\w'=W):=λW=>jf _ _ _ W (by decide) (by decide) d2;clear d2;go_enter func134,ntmps134;go_wp2_with fail
    refine(ae _).mono ?_;rintro e w1 ⟨rfl,aa⟩;have ab:=aa.symm;clear aa;subst ab;go_wp2_with fail
    refine(ad _).mono ?_;rintro e w1 ⟨rfl,aa⟩;have ab:=aa.symm;clear aa;subst ab;go_wp2_with (refine zi rfl 226 _ _ rfl w.heap.size #[.int .u8 c0,iA 0,iA (c2-48)] rfl rfl 226 #[.int .u8 0,iA 0,iA 0] (zgr w _) rfl (by simp[Value.oneCell']) Tryz.zc4 ?_;intro w5 hq ho)
    exact zgJ (v:=.tuple #[.agg #[.int .u8 c0,iA 0,iA (c2-48)],bA false]) (zG results134 _ _ w.heap.size 226 _ _ _ rfl rfl hq underlying226 rfl Tryz.zc4) rfl (qf.no HF ((bwA w).trans (ho.below (zgp _))))
   .have ad:Hid (∀W:World,Calls prog 181 #[.int .u8 c2,.int .u8 48,.int .u8 57] W λe w'=>e=.returned (.tuple #[iA 0,bA false])/\w'=W):=λW=>ql _ _ _ W (by decide) (by decide) d2;clear d2;go_enter func134,ntmps134;go_wp2_with fail
    refine(ae _).mono ?_;rintro e w1 ⟨rfl,aa⟩;have ab:=aa.symm;clear aa;subst ab;go_wp2_with fail
    refine(ad _).mono ?_;rintro e w1 ⟨rfl,aa⟩;have ab:=aa.symm;clear aa;subst ab;go_wp2_with (refine zi rfl 226 _ _ rfl w.heap.size #[.int .u8 c0,iA 0,iA 0] rfl rfl 226 #[.int .u8 0,iA 0,iA 0] (zgr w _) rfl (by simp[Value.oneCell']) Tryz.zc4 ?_;intro w5 hq ho)
    exact zgJ (v:=.tuple #[.agg #[.int .u8 c0,iA 0,iA 0],bA false]) (zG results134 _ _ w.heap.size 226 _ _ _ rfl rfl hq underlying226 rfl Tryz.zc4) rfl (qf.no HF ((bwA w).trans (ho.below (zgp _))))
theorem K6(t:zgW)(c1 c2:Int)(w:World)(hz:t.size=3)(b1:0<=c1/\c1<=255)(b2:0<=c2/\c2<=255)(a0:∀W:World,(Instr.index 9 (sA t) (iA 0)).run prog W=.ok (.int .u8 118) W)(a1:∀W:World,(Instr.index 9 (sA t) (iA 1)).run prog W=.ok (.int .u8 c1) W)(a2:∀W:World,(Instr.index 9 (sA t) (iA 2)).run prog W=.ok (.int .u8 c2) W):
 Calls prog 134 #[sA t] w (qf 3 118 c1 c2 w):=by
 have z3:((t.size:Int)==2)=false:=by simp;omega
 have z4:((t.size:Int)==3)=true:=by simp;omega
 clear hz;by_cases l1:48<=c1/\c1<=55
 .have ae:Hid (∀W:World,Calls prog 181 #[.int .u8 c1,.int .u8 48,.int .u8 55] W λe w'=>e=.returned (.tuple #[iA (c1-48),bA true])/\w'=W):=λW=>jf _ _ _ W (by decide) (by decide) l1;by_cases d2:48<=c2/\c2<=57
  .have ad:Hid (∀W:World,Calls prog 181 #[.int .u8 c2,.int .u8 48,.int .u8 57] W λe w'=>e=.returned (.tuple #[iA (c2-48),bA true])/\w'=W):=λW=>jf _ _ _ W (by decide) (by decide) d2;have HF:Hid (yn 3 118 c1 c2=true):=zgG (by omega);clear l1 d2;go_enter func134,ntmps134;go_wp2_with fail
   refine(ae _).mono ?_;rintro e w1 ⟨rfl,aa⟩;have ab:=aa.symm;clear aa;subst ab;go_wp2_with fail
   refine(ad _).mono ?_;rintro e w1 ⟨rfl,aa⟩;have ab:=aa.symm;clear aa;subst ab;go_wp2_with (refine zi rfl 226 _ _ rfl w.heap.size #[.int .u8 118,iA (c1-48),iA (c2-48)] rfl rfl 226 #[.int .u8 0,iA 0,iA 0] (zgr w _) rfl (by simp[Value.oneCell']) Tryz.zc4 ?_;intro w5 hq ho)
   exact zgJ (v:=.tuple #[.agg #[.int .u8 118,iA (c1-48),iA (c2-48)],bA true]) (zG results134 _ _ w.heap.size 226 _ _ _ rfl rfl hq underlying226 rfl Tryz.zc4) rfl (qf.yes HF.o (by simp) (by simp[idxN]) (by simp[numN]) ((bwA w).trans (ho.below (zgp _))))
  have ad:Hid (∀W:World,Calls prog 181 #[.int .u8 c2,.int .u8 48,.int .u8 57] W λe w'=>e=.returned (.tuple #[iA 0,bA false])/\w'=W):=λW=>ql _ _ _ W (by decide) (by decide) d2;have HF:Hid (yn 3 118 c1 c2=false):=zgH (by omega);clear l1 d2;go_enter func134,ntmps134;go_wp2_with fail
  refine(ae _).mono ?_;rintro e w1 ⟨rfl,aa⟩;have ab:=aa.symm;clear aa;subst ab;go_wp2_with fail
  refine(ad _).mono ?_;rintro e w1 ⟨rfl,aa⟩;have ab:=aa.symm;clear aa;subst ab;go_wp2_with (refine zi rfl 226 _ _ rfl w.heap.size #[.int .u8 118,iA (c1-48),iA 0] rfl rfl 226 #[.int .u8 0,iA 0,iA 0] (zgr w _) rfl (by simp[Value.oneCell']) Tryz.zc4 ?_;intro w5 hq ho)
  exact zgJ (v:=.tuple #[.agg #[.int .u8 118,iA (c1-48),iA 0],bA false]) (zG results134 _ _ w.heap.size 226 _ _ _ rfl rfl hq underlying226 rfl Tryz.zc4) rfl (qf.no HF ((bwA w).trans (ho.below (zgp _))))
 have ae:Hid (∀W:World,Calls prog 181 #[.int .u8 c1,.int .u8 48,.int .u8 55] W λe w'=>e=.returned (.tuple #[iA 0,bA false])/\w'=W):=λW=>ql _ _ _ W (by decide) (by decide) l1;have HF:Hid (yn 3 118 c1 c2=false):=zgH (by omega);clear l1;by_cases d2:48<=c2/\c2<=57
 .have ad:Hid (∀W:World,Calls prog 181 #[.int .u8 c2,.int .u8 48,.int .u8 57] W λe w'=>e=.returned (.tuple #[iA (c2-48),bA true])/\w'=W):=λW=>jf _ _ _ W (by decide) (by decide) d2;clear d2;go_enter func134,ntmps134;go_wp2_with fail
  refine(ae _).mono ?_;rintro e w1 ⟨rfl,aa⟩;have ab:=aa.symm;clear aa;subst ab;go_wp2_with fail
  refine(ad _).mono ?_;rintro e w1 ⟨rfl,aa⟩;have ab:=aa.symm;clear aa;subst ab;go_wp2_with (refine zi rfl 226 _ _ rfl w.heap.size #[.int .u8 118,iA 0,iA (c2-48)] rfl rfl 226 #[.int .u8 0,iA 0,iA 0] (zgr w _) rfl (by simp[Value.oneCell']) Tryz.zc4 ?_;intro w5 hq ho)
  exact zgJ (v:=.tuple #[.agg #[.int .u8 118,iA 0,iA (c2-48)],bA false]) (zG results134 _ _ w.heap.size 226 _ _ _ rfl rfl hq underlying226 rfl Tryz.zc4) rfl (qf.no HF ((bwA w).trans (ho.below (zgp _))))
 have ad:Hid (∀W:World,Calls prog 181 #[.int .u8 c2,.int .u8 48,.int .u8 57] W λe w'=>e=.returned (.tuple #[iA 0,bA false])/\w'=W):=λW=>ql _ _ _ W (by decide) (by decide) d2;clear d2;go_enter func134,ntmps134;go_wp2_with fail
 refine(ae _).mono ?_;rintro e w1 ⟨rfl,aa⟩;have ab:=aa.symm;clear aa;subst ab;go_wp2_with fail
 refine(ad _).mono ?_;rintro e w1 ⟨rfl,aa⟩;have ab:=aa.symm;clear aa;subst ab;go_wp2_with (refine zi rfl 226 _ _ rfl w.heap.size #[.int .u8 118,iA 0,iA 0] rfl rfl 226 #[.int .u8 0,iA 0,iA 0] (zgr w _) rfl (by simp[Value.oneCell']) Tryz.zc4 ?_;intro w5 hq ho)
 exact zgJ (v:=.tuple #[.agg #[.int .u8 118,iA 0,iA 0],bA false]) (zG results134 _ _ w.heap.size 226 _ _ _ rfl rfl hq underlying226 rfl Tryz.zc4) rfl (qf.no HF ((bwA w).trans (ho.below (zgp _))))
theorem K7(t:zgW)(c0 c1 c2:Int)(w:World)(hz:t.size=3)(h1:c0≠106)(h2:c0≠114)(h3:c0≠118)(a0:∀W:World,(Instr.index 9 (sA t) (iA 0)).run prog W=.ok (.int .u8 c0) W):
 Calls prog 134 #[sA t] w (qf 3 c0 c1 c2 w):=by
 have z3:((t.size:Int)==2)=false:=by simp;omega
 have z4:((t.size:Int)==3)=true:=by simp;omega
 have HF:Hid (yn 3 c0 c1 c2=false):=zgH (by omega);have j1:(c0==106)=false:=by simpa using h1
 have j2:(c0==114)=false:=by simpa using h2
 have j3:(c0==118)=false:=by simpa using h3
 clear hz h1 h2 h3;go_enter func134,ntmps134;go_wp2_with (refine zi rfl 226 _ _ rfl w.heap.size #[.int .u8 0,iA 0,iA 0] rfl rfl 226 #[.int .u8 0,iA 0,iA 0] (zgr w _) rfl (by simp[Value.oneCell']) Tryz.zc4 ?_;intro w5 hq ho)
 exact zgJ (v:=.tuple #[.agg #[.int .u8 0,iA 0,iA 0],bA false]) (zG results134 _ _ w.heap.size 226 _ _ _ rfl rfl hq underlying226 rfl Tryz.zc4) rfl (qf.no HF ((bwA w).trans (ho.below (zgp _))))
theorem Ka(t:zgW)(w:World):
 Calls prog 134 #[sA t] w (qf t.size (byt t 0) (byt t 1) (byt t 2) w):=by
 by_cases h:t.size<2\/3<t.size
 .exact Gd t w h _ _ _
 by_cases h2:t.size=2
 .rw [h2];exact zaP t _ _ _ w h2 (qs _ _) (qs _ _) (qs _ _) (zY t 0 (by omega)) (zY t 1 (by omega))
 have h3:t.size=3:=by omega
 have i0:=zY t 0 (by omega);have i1:=zY t 1 (by omega);have i2:=zY t 2 (by omega);rw[h3];by_cases k1:byt t 0=106
 .rw [k1] at i0 ⊢;exact gm t _ _ _ w h3 (qs _ _) (qs _ _) i0 i1 i2 (zgR rfl)
 by_cases k2:byt t 0=114
 .rw [k2] at i0 ⊢;exact gm t _ _ _ w h3 (qs _ _) (qs _ _) i0 i1 i2 (zgS ⟨rfl,rfl⟩)
 by_cases k3:byt t 0=118
 .rw [k3] at i0 ⊢;exact K6 t _ _ w h3 (qs _ _) (qs _ _) i0 i1 i2
 exact K7 t _ _ _ w h3 k1 k2 k3 i0

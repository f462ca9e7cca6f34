/- Proved here: plain facts on a registry as thirty-four numbers in a row. -/
import Derived.Test.YtcfjhbcpjpgodaaGreatDoorBase
import Derived.WalkKit
import Derived.WalkSpells
import Derived.WalkLawsBesides
import Derived.Laws.Rows
import Derived.Deep.MidRow
import Derived.Laws.CopyRow
import Derived.Deep.RegionHeld
import Derived.Deep.DeepCutAuto
import Derived.Laws.Strings
import Derived.Lib.Strings
import Derived.OwnWalk
import Derived.ChangeKeysEq
import Derived.Laws.BytesArg
import Derived.Test.YtcfjhbcpjpgodaaGreatDoorTakeL
namespace Go.Proofs.YtcfjhbcpjpgodaaGreatDoor
open Go.RowKit Go.Proofs.Tryz
set_option maxRecDepth 100000
set_option maxHeartbeats 400000
def regL(x:Nat→Int):List Value:=(List.range 34).map fun i=>.int .i64 (x i)
def regA(x:Nat→Int):Array Value:=(regL x).toArray
theorem regA_size(x:Nat→Int):(regA x).size=34:=by simp[regA,regL]
theorem regA_get(x:Nat→Int)(i:Nat)(h:i<34):(regA x)[i]? =some (.int .i64 (x i)):=by
 simp[regA,regL,h]
def upd(x:Nat→Int)(k:Nat)(v:Int):Nat→Int:=fun i=>if i=k then v else x i
theorem upd_same(x:Nat→Int)(k:Nat)(v:Int):upd x k v k=v:=by simp[upd]
theorem upd_other(x:Nat→Int)(k i:Nat)(v:Int)(h:i≠k):upd x k v i=x i:=by simp[upd,h]
theorem regA_set(x:Nat→Int)(k:Nat)(v:Int)(h:k<34):(regA x).setIfInBounds k (.int .i64 v)=regA (upd x k v):=by
 apply Array.ext_getElem?;intro i;by_cases hi:i<34
 .rw [regA_get _ i hi,Array.getElem?_setIfInBounds];by_cases e:k=i
  .subst e;rw[if_pos rfl,if_pos (by rw[regA_size];exact h),upd_same]
  rw[if_neg e,regA_get _ i hi,upd_other _ _ _ _ (fun h=>e h.symm)]
 rw[Array.getElem?_eq_none (by simp[regA_size];omega),Array.getElem?_eq_none (by rw[regA_size];omega)]
def RegAt(w:World)(g:Nat)(t:TypeId)(x:Nat→Int):Prop:=w.heap[g]? =some (.cells (regA x) t (0,0))
theorem RegAt.lt{w:World}{g:Nat}{t:TypeId}{x:Nat→Int}(h:RegAt w g t x):g<w.heap.size:=by
 rcases Nat.lt_or_ge g w.heap.size with h'|h'
 .exact h'
 unfold RegAt at h;simp[Array.getElem?_eq_none h'] at h
theorem RegAt.alloc(w:World)(t:TypeId)(x:Nat→Int):RegAt (w.alloc (.cells (regA x) t)) w.heap.size t x:=heap_alloc_new w _
theorem RegAt.later{w w':World}{B g:Nat}{t:TypeId}{x:Nat→Int}(h:RegAt w g t x)(hb:Below B w w')(hg:g<B):RegAt w' g t x:=by
 unfold RegAt at h ⊢;rw[hb.block g hg];exact h
theorem RegAt.cell{w:World}{g:Nat}{t:TypeId}{x:Nat→Int}(h:RegAt w g t x)(i:Nat)(hi:i<34):w.cell? ⟨g,i,none⟩=some (.int .i64 (x i)):=by
 rw[cell_of_row w g i _ t _ h,regA_get x i hi]
theorem RegAt.frozen{w:World}{g:Nat}{t:TypeId}{x:Nat→Int}(h:RegAt w g t x)(i:Nat):w.frozen? ⟨g,i,none⟩=false:=by
 unfold RegAt at h;simp[World.frozen?,h]
theorem RegAt.set{w:World}{g:Nat}{t:TypeId}{x:Nat→Int}(h:RegAt w g t x)(k:Nat)(v:Int)(hk:k<34):RegAt (w.setCell ⟨g,k,none⟩ (.int .i64 v)) g t (upd x k v):=by
 unfold RegAt at h ⊢;rw[←regA_set x k v hk];simp[World.setCell,Array.getElem?_modify,h]
def sumTo(x:Nat→Int):Nat→Int
 |0=>0
 |n+1=>sumTo x n+x n
theorem sumTo_bound(x:Nat→Int)(n:Nat)(h:∀i,i<n→0≤x i∧x i≤9):0≤sumTo x n∧sumTo x n≤9*n:=by
 induction n with
 |zero=>simp[sumTo]
 |succ n ih=>
  have h1:=ih fun i hi=>h i (by omega);have h2:=h n (by omega);simp only[sumTo];omega
theorem RegAt.only{w w':World}{g g':Nat}{t:TypeId}{x:Nat→Int}(h:RegAt w g t x)(ho:Only g' w w')(hg:g≠g'):RegAt w' g t x:=by
 unfold RegAt at h ⊢;rw[ho.block g hg];exact h
theorem RegAt.drew{w:World}{g:Nat}{t:TypeId}{x:Nat→Int}(h:RegAt w g t x):RegAt w.drew g t x:=h
theorem RegAt.below{w w':World}{g:Nat}{t:TypeId}{x:Nat→Int}(h:RegAt w g t x)(hb:Below w.heap.size w w'):RegAt w' g t x:=h.later hb h.lt
theorem regA_one(x:Nat→Int):∀v∈(regA x).toList,v.oneCell'=true:=by
 intro v hv;simp only[regA,regL,List.toList_toArray,List.mem_map] at hv;obtain⟨i,_,rfl⟩:=hv;rfl
section
variable{P:Program}
theorem run_storeVar_row(w:World)(g:Nat)(t ty:TypeId)(C:Array Value)(x:Nat→Int)(hg:w.heap[g]? =some (.cells C t (0,0)))(hC:C.size=34)(hi:(P.info? ty).map (·.size)=some 34):
 (storeVar ty ⟨g,0,none⟩ (.agg (regA x))).run P w=.ok () (w.setRow g (regA x)):=by
 have h:=run_storeCells_at P g 0 t (regA x).toList 0 C w hg (by simp[regA_size,hC]) (regA_one x);have e:(C.toList.take (0+0)++(regA x).toList++C.toList.drop (0+0+(regA x).toList.length)).toArray=regA x:=by
  rw[Nat.add_zero,List.take_zero,List.nil_append,List.drop_of_length_le (by simp[regA_size,hC]),List.append_nil,Array.toArray_toList]
 rw[e] at h;cases hq:P.info? ty with
 |none=>simp[hq] at hi
 |some i=>
  have hs:i.size=34:=by simpa [hq] using hi
  simp[storeVar,sizeOf,typeInfo,hq,Value.cells,hs,regA_size,h]
theorem wp_store_reg{op:Oper}{a:Act}{w:World}{K:Act→World→Prop}{Q:Exit→Act→World→Prop}(ty:TypeId)(p y:Operand)(ho:op.op=.store ty p y)
 (g:Nat) (x:Nat→Int) (hp:a.eval p=.pointer (some ⟨g,0,none⟩)) (hy:a.eval y=.agg (regA x)) (t:TypeId) (C:Array Value) (hg:w.heap[g]? =some (.cells C t (0,0))) (hC:C.size=34) (hi:(P.info? ty).map (·.size)=some 34)
 (h:∀w',RegAt w' g t x→Only g w w'→K (a.put op.dst undef) w'):op.wp P a w K Q:=by
 unfold Oper.wp execOp;simp only[ho,hp,hy,Instr.storeAt,Instr.sureAddr,Sem.run_bind,Sem.run_pure,Result.andThen_ok,run_storeVar_row w g t ty C x hg hC hi];exact h _ (setRow_heap _ _ C _ t (0,0) hg) (only_setRow _ _ _)
theorem wpList_store_reg{ops:Array Oper}{rest:List Oper}{op:Oper}{a:Act}{w:World}{Q:Exit→Act→World→Prop}(hgd:op.guard=none)(ty:TypeId)(p y:Operand)(ho:op.op=.store ty p y)
 (g:Nat) (x:Nat→Int) (hp:a.eval p=.pointer (some ⟨g,0,none⟩)) (hy:a.eval y=.agg (regA x)) (t:TypeId) (C:Array Value) (hg:w.heap[g]? =some (.cells C t (0,0))) (hC:C.size=34) (hi:(P.info? ty).map (·.size)=some 34)
 (h:∀w',RegAt w' g t x→Only g w w'→wpList P ops Q rest (a.put op.dst undef) w'):wpList P ops Q (op::rest) a w:=
 wpList_plain hgd fun _ hK=>wp_store_reg ty p y ho g x hp hy t C hg hC hi fun w' h1 h2=>hK _ _ (h w' h1 h2)
theorem wpList_load_reg{ops:Array Oper}{rest:List Oper}{op:Oper}{a:Act}{w:World}{Q:Exit→Act→World→Prop}(hgd:op.guard=none)(ty:TypeId)(p:Operand)(ho:op.op=.load ty p)
 (g:Nat) (hp:a.eval p=.pointer (some ⟨g,0,none⟩)) (t:TypeId) (x:Nat→Int) (d:TypeDesc) (hg:RegAt w g t x) (hu:P.underlying ty=some d) (hd:d.isRow=true) (hi:(P.info? ty).map (·.size)=some 34)
 (h:wpList P ops Q rest (a.put op.dst (.agg (regA x))) w):wpList P ops Q (op::rest) a w:=
 wpList_load_row hgd ty p ho g hp t (regA x) (0,0) d hg hu (by cases d<;>simp_all) (by rw[regA_size];exact hi) h
theorem RegAt.range{w:World}{g:Nat}{t:TypeId}{x:Nat→Int}(h:RegAt w g t x):w.rangeAt g 0 (regL x):=fun j v hv=>by
 have hj:j<34:=by have:=(List.getElem?_eq_some_iff.1 hv).1;simpa [regL] using this
 rw[Nat.zero_add,h.cell j hj];have:(regL x)[j]? =some (.int .i64 (x j)):=by simp[regL,hj]
 rw[this] at hv;exact hv
theorem yields_load_reg{ops:Array Oper}{S:World→Prop}{op:Oper}{a:Act}(hw:Region.wanted op (yielded ops a.tmps)=true)(ty:TypeId)(p:Operand)(ho:op.op=.load ty p)
 (g:Nat) (hp:a.eval p=.pointer (some ⟨g,0,none⟩)) (t:TypeId) (x:Nat→Int) (d:TypeDesc) (hS:∀w,S w→RegAt w g t x) (hu:P.underlying ty=some d) (hd:d.isRow=true) (hi:(P.info? ty).map (·.size)=some 34):
 YieldsIf P ops S op (.agg (regA x)) a:=
 yieldsIf_load_mid hw ty p ho g 0 hp (regL x) d (fun w h=>(hS w h).range) hu hd (by rw[hi];simp[regL])
end
theorem results_reg2{P:Program}{fn:Func}{p q:Tmp}{ty:TypeId}(h:fn.results=#[.cell p ty,.tmp q])(tmps:Array Value)(w:World)(g:Nat)(t:TypeId)(x:Nat→Int)(d:TypeDesc)(v:Value)
 (hp:tmps.getD p undef=.pointer (some ⟨g,0,none⟩)) (hq:tmps.getD q undef=v) (hg:RegAt w g t x)
 (hu:P.underlying ty=some d) (hd:d.isRow=true) (hi:(P.info? ty).map (·.size)=some 34):
 (results fn tmps).run P w=.ok (.tuple #[.agg (regA x),v]) w:=by
 have hp':tmps[p]?.getD undef=.pointer (some ⟨g,0,none⟩):=by simpa using hp
 have hq':tmps[q]?.getD undef=v:=by simpa using hq
 simp[results,h,hp',hq',asAddr,run_loadVar_row w g t ty (regA x) (0,0) d hg hu (by cases d<;>simp_all) (by rw[regA_size];exact hi)]
theorem results_reg1{P:Program}{fn:Func}{p:Tmp}{ty:TypeId}(h:fn.results=#[.cell p ty])(tmps:Array Value)(w:World)(g:Nat)(t:TypeId)(x:Nat→Int)(d:TypeDesc)
 (hp:tmps.getD p undef=.pointer (some ⟨g,0,none⟩)) (hg:RegAt w g t x)
 (hu:P.underlying ty=some d) (hd:d.isRow=true) (hi:(P.info? ty).map (·.size)=some 34):
 (results fn tmps).run P w=.ok (.agg (regA x)) w:=
 results_cell_row h tmps w g t (regA x) (0,0) d hp hg hu (by cases d<;>simp_all) (by rw[regA_size];exact hi)
theorem Tryz.sizeRegistry:(prog.info? 116).map (·.size)=some 34:=by kernel_rfl
theorem Tryz.sizePowers:(prog.info? 46).map (·.size)=some 8:=by kernel_rfl
theorem Tryz.sizeRoles:(prog.info? 47).map (·.size)=some 26:=by kernel_rfl
def reg0:Nat→Int:=fun _=>0
theorem regA_zero:(#[.int .i64 0,.int .i64 0,.int .i64 0,.int .i64 0,.int .i64 0,.int .i64 0,.int .i64 0,.int .i64 0,.int .i64 0,.int .i64 0,.int .i64 0,.int .i64 0,.int .i64 0,.int .i64 0,.int .i64 0,.int .i64 0,.int .i64 0,.int .i64 0,.int .i64 0,.int .i64 0,.int .i64 0,.int .i64 0,.int .i64 0,.int .i64 0,.int .i64 0,.int .i64 0,.int .i64 0,.int .i64 0,.int .i64 0,.int .i64 0,.int .i64 0,.int .i64 0,.int .i64 0,.int .i64 0]:Array Value)=regA reg0:=by kernel_rfl
def formN(n:Nat)(c0 c1 c2:Int):Bool:=
 decide ((n=2∧c0=108∧97≤c1∧c1≤122)∨(n=3∧(c0=106∨c0=114)∧97≤c1∧c1≤122∧49≤c2∧c2≤57)∨(n=3∧c0=118∧48≤c1∧c1≤55∧48≤c2∧c2≤57))
def formB(t:ByteArray):Bool:=formN t.size (byt t 0) (byt t 1) (byt t 2)
def cutsN(b:ByteArray):Nat→Nat→Nat→List ByteArray
 |0,_,_=>[]
 |n+1,fr,i=>if i<b.size then(if byt b i=44 then b.extract fr i::cutsN b n (i+1) (i+1) else cutsN b n fr (i+1)) else if i=b.size then [b.extract fr i] else []
def cuts(b:ByteArray)(fr i:Nat):List ByteArray:=cutsN b (b.size+1-i) fr i
theorem cuts_go(b:ByteArray)(fr i:Nat)(h:i<b.size)(h2:byt b i≠44):cuts b fr i=cuts b fr (i+1):=by
 unfold cuts;rw[show b.size+1-i=(b.size+1-(i+1))+1 by omega,cutsN,if_pos h,if_neg h2]
theorem cuts_at(b:ByteArray)(fr i:Nat)(h:i<b.size)(h2:byt b i=44):cuts b fr i=b.extract fr i::cuts b (i+1) (i+1):=by
 unfold cuts;rw[show b.size+1-i=(b.size+1-(i+1))+1 by omega,cutsN,if_pos h,if_pos h2]
theorem cuts_out(b:ByteArray)(fr i:Nat)(h:b.size<i):cuts b fr i=[]:=by
 unfold cuts;rw[show b.size+1-i=0 by omega,cutsN]
theorem cuts_end(b:ByteArray)(fr:Nat):cuts b fr b.size=b.extract fr b.size::cuts b (b.size+1) (b.size+1):=by
 rw[cuts_out b _ (b.size+1) (by omega)];unfold cuts;rw[show b.size+1-b.size=0+1 by omega,cutsN,if_neg (by omega),if_pos rfl]
theorem byt_piece(b:ByteArray)(fr i j:Nat)(h:fr+j<i):byt (b.extract fr i) j=byt b (fr+j):=by
 unfold byt;rw[Lib.extract_data];rw[List.getD_eq_getElem?_getD,List.getD_eq_getElem?_getD,List.getElem?_take,if_pos (by omega),List.getElem?_drop]
theorem size_piece(b:ByteArray)(fr i:Nat)(h:i≤b.size):(b.extract fr i).size=i-fr:=by
 simp[ByteArray.size_extract];omega
def votes:List ByteArray→Nat
 | []=>0
 |t::l=>votes l+if byt t 0=118 then 1 else 0
theorem votes_append(a:List ByteArray)(t:ByteArray):votes (a++[t])=votes a+if byt t 0=118 then 1 else 0:=by
 induction a with
 |nil=>simp[votes]
 |cons x l ih=>simp only[List.cons_append,votes,ih];omega
theorem votes_le(a:List ByteArray):votes a≤a.length:=by
 induction a with
 |nil=>simp[votes]
 |cons x l ih=>simp only[votes,List.length_cons];split<;>omega
def splitR(b:ByteArray):List ByteArray×Bool:=
 if b.size=0 then([],true) else if(cuts b 0 0).all formB then(cuts b 0 0,decide ((cuts b 0 0).length≤3)&&decide (votes (cuts b 0 0)<2)) else([],false)
theorem not_nil_text{b:ByteArray}(h:¬b.size=0):(b.toList==[])=false:=by
 apply Bool.eq_false_iff.2;intro e;have e1:b.toList=[]:=by simpa using e
 have e2:b.toList.length=b.size:=by rw[ByteArray.toList_eq];simp
 rw[e1] at e2;exact h e2.symm
def regOf(g:Nat→Int)(k:Nat):Nat→Int:=fun i=>if i<k then g i else 0
theorem regOf_zero(g:Nat→Int):regOf g 0=reg0:=by funext i;simp[regOf,reg0]
theorem regOf_succ(g:Nat→Int)(k:Nat):upd (regOf g k) k (g k)=regOf g (k+1):=by
 funext i;simp only[upd,regOf];by_cases h:i=k
 .subst h;simp
 rw[if_neg h];by_cases h2:i<k
 .rw [if_pos h2,if_pos (by omega)]
 rw[if_neg h2,if_neg (by omega)]
def genR(g:Nat→Int)(n:Nat):(Nat→Int)×Bool:=if n≤8∧∀i,i<n→0≤g i∧g i≤9 then(regOf g n,decide (0<sumTo g n)) else(reg0,false)
theorem genR_bad(g:Nat→Int)(n:Nat)(h:¬(n≤8∧∀i,i<n→0≤g i∧g i≤9)):genR g n=(reg0,false):=if_neg h
theorem genR_good(g:Nat→Int)(n:Nat)(h:n≤8)(h2:∀i,i<n→0≤g i∧g i≤9):genR g n=(regOf g n,decide (0<sumTo g n)):=if_pos ⟨h,h2⟩
def nextR(x:Nat→Int)(c0 c1 c2:Int):(Nat→Int)×Bool:=
 if c0=118 then(upd x (c1-48).toNat (c2-48),decide (0<sumTo (upd x (c1-48).toNat (c2-48)) 8)&&decide (x (c1-48).toNat≠c2-48))
 else if c0=108 then(upd x (8+(c1-97).toNat) 0,decide (x (8+(c1-97).toNat)≠0)&&decide (x (8+(c1-97).toNat)≠0))
 else if c0=106 then(upd x (8+(c1-97).toNat) (c2-48),decide (x (8+(c1-97).toNat)=0)&&decide (x (8+(c1-97).toNat)≠c2-48))
 else(upd x (8+(c1-97).toNat) (c2-48),decide (x (8+(c1-97).toNat)≠0)&&decide (x (8+(c1-97).toNat)≠c2-48))
def nextT(x:Nat→Int)(t:ByteArray):(Nat→Int)×Bool:=nextR x (byt t 0) (byt t 1) (byt t 2)
def Dom(x:Nat→Int):Prop:=∀i,0≤x i∧x i≤9
theorem Dom.set{x:Nat→Int}(h:Dom x)(k:Nat)(v:Int)(h0:0≤v)(h1:v≤9):Dom (upd x k v):=by
 intro i;unfold upd;split
 .exact ⟨h0,h1⟩
 exact h i
theorem Dom.next{x:Nat→Int}{t:ByteArray}(h:Dom x)(hf:formB t=true):Dom (nextT x t).1:=by
 have hf':=of_decide_eq_true hf;unfold nextT nextR;split
 .exact h.set _ _ (by omega) (by omega)
 split
 .exact h.set _ _ (by omega) (by omega)
 split
 .exact h.set _ _ (by omega) (by omega)
 exact h.set _ _ (by omega) (by omega)
def behindL:(Nat→Int)→List ByteArray→(Nat→Int)×Bool
 |x,[]=>(x,true)
 |x,t::l=>if(nextT x t).2 then behindL (nextT x t).1 l else((nextT x t).1,false)
def goOn(y:Nat→Int)(o:Bool)(l:List ByteArray):(Nat→Int)×Bool:=if o then behindL y l else(y,false)
def behindR(x:Nat→Int)(b:ByteArray):(Nat→Int)×Bool:=goOn x (splitR b).2 (splitR b).1
theorem splitR_form(b:ByteArray)(k:Nat)(hk:k<(splitR b).1.length):formB ((splitR b).1.getD k ByteArray.empty)=true:=by
 unfold splitR at hk ⊢;split at hk
 .simp at hk
 rename_i h0;rw[if_neg h0];split at hk
 .rename_i h1;rw[if_pos h1];simp only at hk ⊢;rw[List.getD_eq_getElem?_getD,List.getElem?_eq_getElem hk];exact List.all_eq_true.1 h1 _ (List.getElem_mem hk)
 simp at hk
theorem Dom.zero:Dom reg0:=fun _=>by simp[reg0]
theorem Dom.gen(g:Nat→Int)(n:Nat):Dom (genR g n).1:=by
 unfold genR;split
 .rename_i h;intro i;simp only[regOf];split
  .exact h.2 i (by assumption)
  omega
 exact Dom.zero
theorem Dom.behindL:∀(l:List ByteArray) (x:Nat→Int),Dom x→(∀t∈l,formB t=true)→Dom (behindL x l).1
 | [],x,h,_=>h
 |t::l,x,h,hl=>by
  unfold Go.Proofs.YtcfjhbcpjpgodaaGreatDoor.behindL;split
  .exact Dom.behindL l _ (h.next (hl t (by simp))) (fun t ht=>hl t (by simp[ht]))
  .exact h.next (hl t (by simp))
theorem Dom.behind{x:Nat→Int}(b:ByteArray)(h:Dom x):Dom (behindR x b).1:=by
 unfold behindR goOn;split
 .refine Dom.behindL _ x h (fun t ht=>?_);obtain⟨k,hk,rfl⟩:=List.getElem_of_mem ht;have:=splitR_form b k hk;rw[List.getD_eq_getElem?_getD,List.getElem?_eq_getElem hk] at this;exact this
 exact h
def powL(x:Nat→Int)(k:Nat):List Value:=(List.range k).map fun j=>.int .i64 (x j)
theorem powL_length(x:Nat→Int)(k:Nat):(powL x k).length=k:=by simp[powL]
def memb(x:Nat→Int)(k:Nat):List Nat:=(List.range k).filter fun j=>decide (0<x (8+j))
theorem memb_yes(x:Nat→Int)(k:Nat)(h:0<x (8+k)):memb x (k+1)=memb x k++[k]:=by simp[memb,List.range_succ,h]
theorem memb_no(x:Nat→Int)(k:Nat)(h:¬0<x (8+k)):memb x (k+1)=memb x k:=by simp[memb,List.range_succ,h]
theorem memb_length(x:Nat→Int)(k:Nat):(memb x k).length≤k:=by
 have:=List.length_filter_le (fun j=>decide (0<x (8+j))) (List.range k);simpa [memb] using this
def nameB(l:List Nat):ByteArray:=strOfNums (l.map fun(j:Nat)=>(j:Int)+97)
def roleL(x:Nat→Int)(l:List Nat):List Value:=l.map fun j=>.int .i64 (x (8+j))
theorem roleL_append(x:Nat→Int)(l:List Nat)(k:Nat):roleL x (l++[k])=roleL x l++[.int .i64 (x (8+k))]:=by simp[roleL]
def ToldAt(w:World)(g:Nat)(p:Value)(s:ByteArray)(r:Value):Prop:=w.heap[g]? =some (.cells #[p,.string s,r] 72 (0,0))
theorem ToldAt.cell{w:World}{g:Nat}{p:Value}{s:ByteArray}{r:Value}(h:ToldAt w g p s r):w.cell? ⟨g,0,none⟩=some p∧w.cell? ⟨g,1,none⟩=some (.string s)∧w.cell? ⟨g,2,none⟩=some r:=
 ⟨cell_of_row w g 0 _ _ _ h,cell_of_row w g 1 _ _ _ h,cell_of_row w g 2 _ _ _ h⟩
theorem ToldAt.frozen{w:World}{g:Nat}{p:Value}{s:ByteArray}{r:Value}(h:ToldAt w g p s r)(i:Nat):w.frozen? ⟨g,i,none⟩=false:=by
 unfold ToldAt at h;simp[World.frozen?,h]
theorem ToldAt.lt{w:World}{g:Nat}{p:Value}{s:ByteArray}{r:Value}(h:ToldAt w g p s r):g<w.heap.size:=by
 rcases Nat.lt_or_ge g w.heap.size with h'|h'
 .exact h'
 unfold ToldAt at h;simp[Array.getElem?_eq_none h'] at h
theorem ToldAt.set1{w:World}{g:Nat}{p:Value}{s:ByteArray}{r:Value}(h:ToldAt w g p s r)(v:ByteArray):ToldAt (w.setCell ⟨g,1,none⟩ (.string v)) g p v r:=by
 unfold ToldAt at h ⊢;simp[World.setCell,Array.getElem?_modify,h]
theorem ToldAt.set2{w:World}{g:Nat}{p:Value}{s:ByteArray}{r:Value}(h:ToldAt w g p s r)(v:Value):ToldAt (w.setCell ⟨g,2,none⟩ v) g p s v:=by
 unfold ToldAt at h ⊢;simp[World.setCell,Array.getElem?_modify,h]
theorem ToldAt.block{w w':World}{g:Nat}{p:Value}{s:ByteArray}{r:Value}(h:ToldAt w g p s r)(hb:w'.heap[g]? =w.heap[g]?):ToldAt w' g p s r:=by
 unfold ToldAt at h ⊢;rw[hb];exact h
structure But (B g:Nat) (w w':World):Prop where
 os:w'.os=w.os
 tape:w'.tape=w.tape
 output:w'.output=w.output
 size:w.heap.size≤w'.heap.size
 block:∀k,k<B→k≠g→w'.heap[k]? =w.heap[k]?
theorem But.refl(B g:Nat)(w:World):But B g w w:=⟨rfl,rfl,rfl,Nat.le_refl _,fun _ _ _=>rfl⟩
theorem But.trans{B g:Nat}{a b c:World}(h:But B g a b)(k:But B g b c):But B g a c:=
 ⟨k.os.trans h.os,k.tape.trans h.tape,k.output.trans h.output,Nat.le_trans h.size k.size,fun i hi hg=>(k.block i hi hg).trans (h.block i hi hg)⟩
theorem But.of_below{B g:Nat}{w w':World}(h:Below B w w'):But B g w w':=⟨h.os,h.tape,h.output,h.size,fun k hk _=>h.block k hk⟩
theorem But.of_only{B g:Nat}{w w':World}(h:Only g w w'):But B g w w':=⟨h.os,h.tape,h.output,by rw[h.size];exact Nat.le_refl _,fun k _ hg=>h.block k hg⟩
theorem But.below{B B' g:Nat}{w w':World}(h:But B g w w')(hg:B'≤g)(hB:B'≤B):Below B' w w':=⟨h.os,h.tape,h.output,h.size,fun k hk=>h.block k (by omega) (by omega)⟩
section
variable{P:Program}
end
theorem Tryz.sizeTold:(prog.info? 72).map (·.size)=some 3:=by kernel_rfl
theorem powL_get(x:Nat→Int)(n i:Nat)(h:i<n):(powL x n).toArray[i]? =some (.int .i64 (x i)):=by simp[powL,h]
theorem powL_range{w:World}{g:Nat}{t:TypeId}{x:Nat→Int}(h:RegAt w g t x):w.rangeAt g 0 (powL x 8):=fun j v hv=>by
 have hj:j<8:=by have:=(List.getElem?_eq_some_iff.1 hv).1;simpa [powL] using this
 rw[Nat.zero_add,h.cell j (by omega)];have:(powL x 8)[j]? =some (.int .i64 (x j)):=by simp[powL,hj]
 rw[this] at hv;exact hv
theorem index_pow(C:Array Value)(k:Nat)(v:Int)(hk:k<8)(hg:C[k]? =some (.int .i64 v))(W:World):(Instr.index 46 (.agg C) (.int .i64 (k:Int))).run prog W=.ok (.int .i64 v) W:=by
 have h:0≤(k:Int)∧(k:Int)<((8:Nat):Int):=by omega
 simp[Instr.index,run_underlying underlying46,asIntOf,go_sem,Tryz.sizeOf3,Tryz.isAgg3,hg,hk]
theorem total_any(x:Nat→Int)(w:World)(hx:∀i,i<8→0≤x i∧x i≤9):
 Calls prog 103 #[.agg (regA x)] w fun e w'=>e=.returned (.int .i64 (sumTo x 8))∧Below w.heap.size w w':=by
 have HX:=hide hx;clear hx;have HR:=hide (RegAt.alloc w 116 x);go_enter func103,ntmps103;go_wp2_with (refine wpList_load_mid rfl 46 _ rfl w.heap.size 0 rfl (powL x 8) _ (powL_range HR.out) underlying46 rfl (by rw[powL_length];exact Tryz.sizePowers) ?_)
 go_loop [3,5,8] (fun n _ i=>∃k:Nat,k≤8∧i=.int .i64 k∧n=.int .i64 (sumTo x k)) (fun _ _ i=>8-(intOf i).toNat)
 case atStart=>exact⟨0,by omega,rfl,rfl⟩
 obtain⟨k,hk,rfl,rfl⟩:=hrel;by_cases hlt:k<8
 .have hg:=index_pow (powL x 8).toArray k (x k) hlt (powL_get x 8 k hlt);have hb:=sumTo_bound x k (fun i hi=>HX.out i (by omega));have hxk:=HX.out k hlt;have hk2:(k:Int)<8:=by omega
  go_wp2
  go_round
  case rel=>exact⟨k+1,by omega,by go_num,rfl⟩
  case measure=>simp[intOf];omega
 obtain rfl:k=8:=by omega
 go_wp2;go_ret;exact⟨rfl,(Below.refl _ _).alloc (Nat.le_refl _) _⟩
theorem place_any(c a b:Int)(w:World)(ha:0≤a)(hb:b≤255):
 Calls prog 181 #[.int .u8 c,.int .u8 a,.int .u8 b] w fun e w'=>e=.returned (.tuple #[.int .i64 (if a≤c∧c≤b then c-a else 0),.bool (decide (a≤c∧c≤b))])∧w'=w:=by
 by_cases h2:c<a
 .rw [if_neg (by omega),decide_eq_false (by omega)];go_enter func181,ntmps181;go_wp2;go_ret2;exact⟨rfl,rfl⟩
 by_cases h3:b<c
 .rw [if_neg (by omega),decide_eq_false (by omega)];go_enter func181,ntmps181;go_wp2;go_ret2;exact⟨rfl,rfl⟩
 rw[if_pos (by omega),decide_eq_true (by omega)];go_enter func181,ntmps181;go_wp2;go_ret2;exact⟨rfl,rfl⟩
end Go.Proofs.YtcfjhbcpjpgodaaGreatDoor

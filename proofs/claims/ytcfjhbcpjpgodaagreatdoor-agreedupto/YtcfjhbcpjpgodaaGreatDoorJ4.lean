/- Proved here: small laws on rows of a log's entries. -/
import Derived.Test.YtcfjhbcpjpgodaaGreatDoorJ3
import Derived.Test.YtcfjhbcpjpgodaaGreatDoorJ12
import Derived.Test.YtcfjhbcpjpgodaaGreatDoorJ5
namespace Go.Proofs.YtcfjhbcpjpgodaaGreatDoor
open Go.RowKit Go.Proofs.Tryz
structure EntV where
 m:MsgV
 fr:ByteArray
 own:Bool
def ent0:EntV:=⟨msg0,⟨#[]⟩,false⟩
def EntV.cells(e:EntV):Array Value:=#[.int .i64 e.m.k,.int .i64 e.m.h,.int .i64 e.m.r,.int .i64 e.m.f,.int .i64 e.m.v,.bool e.m.nl,.string e.m.s,.string e.fr,.bool e.own]
theorem Tryz.infoEnt:(prog.info? 164).map (fun i=>(i.zero,i.size,i.bytes))=some (some (.agg #[.int .i64 0,.int .i64 0,.int .i64 0,.int .i64 0,.int .i64 0,.bool false,.string ByteArray.empty,.string ByteArray.empty,.bool false]),9,88):=by kernel_rfl
theorem Tryz.sizeEnt:(prog.info? 164).map (·.size)=some 9:=by kernel_rfl
def entL(l:List EntV):List Value:=l.flatMap fun m=>m.cells.toList
theorem entL_append(l:List EntV)(m:EntV):entL (l++[m])=entL l++m.cells.toList:=by simp[entL]
theorem entL_length(l:List EntV):(entL l).length=l.length*9:=by
 induction l with
 |nil=>rfl
 |cons m l ih=>simp only[entL,List.flatMap_cons,List.length_append,List.length_cons] at ih ⊢;rw[ih];simp[EntV.cells];omega
def EntsAt(w:World)(B:Nat)(p:Option Addr)(n:Nat)(es:Nat→EntV):Prop:=∀i,i<n→∃b o,p=some ⟨b,o,none⟩∧b<B∧w.rangeAt b (o+i*9) (es i).cells.toList
theorem EntsAt.below{w w':World}{B:Nat}{p:Option Addr}{n:Nat}{es:Nat→EntV}(h:EntsAt w B p n es)(hb:Below B w w'):EntsAt w' B p n es:=fun i hi=>by
 obtain⟨b,o,e,hB,hr⟩:=h i hi;exact⟨b,o,e,hB,fun j v hv=>(hb.cell (p:=⟨b,o+i*9+j,none⟩) (by exact hB)).trans (hr j v hv)⟩
theorem EntsAt.more{w:World}{B B':Nat}{p:Option Addr}{n:Nat}{es:Nat→EntV}(h:EntsAt w B p n es)(hb:B≤B'):EntsAt w B' p n es:=fun i hi=>by
 obtain⟨b,o,e,hB,hr⟩:=h i hi;exact⟨b,o,e,Nat.lt_of_lt_of_le hB hb,hr⟩
theorem entL_get(l:List EntV)(j:Nat)(hj:j<9):∀i,i<l.length→(entL l)[i*9+j]? =((l.getD i ent0).cells.toList)[j]? :=by
 induction l with
 |nil=>intro i hi;simp at hi
 |cons m l ih=>
  intro i hi;have e:entL (m::l)=m.cells.toList++entL l:=by simp[entL]
  have hc:m.cells.toList.length=9:=by simp[EntV.cells]
  rw[e];cases i with
  |zero=>
   rw[Nat.zero_mul,Nat.zero_add,List.getElem?_append_left (by omega)];rfl
  |succ i=>
   rw[List.getElem?_append_right (by omega),hc,show(i+1)*9+j-9=i*9+j by omega];have h2:=ih i (by simpa using hi);simpa using h2
theorem own_ents{w:World}{base:Nat}{v:Value}{l:List EntV}(h:w.ownsRow base 164 9 v l.length (entL l)):∃p c,v=.slice p l.length c∧l.length≤maxLen∧EntsAt w w.heap.size p l.length (fun i=>l.getD i ent0):=by
 rcases h.2 with⟨rfl,hn⟩|⟨g,cap,cur,rfl,hb,hg,hnc,hcm,hcs,ht⟩
 .exact ⟨none,0,by rw[hn],by rw[hn];exact Nat.zero_le _,fun i hi=>by omega⟩
 refine⟨_,cap,rfl,Nat.le_trans hnc hcm,fun i hi=>⟨g,0,rfl,row_lt0 hg,fun j v hv=>?_⟩⟩;rw[cell_of_row w g _ _ _ _ hg,Nat.zero_add];have hj:j<9:=by have:=(List.getElem?_eq_some_iff.1 hv).1;simpa [EntV.cells] using this
 have e1:(cur.toList.take (l.length*9))[i*9+j]? =(entL l)[i*9+j]? :=by rw[ht]
 have hlt:i*9+j<l.length*9:=by
  have:(i+1)*9≤l.length*9:=Nat.mul_le_mul_right 9 (by omega);omega
 rw[List.getElem?_take,if_pos hlt] at e1;rw[←Array.getElem?_toList,e1,←hv];exact entL_get l j hj i hi
theorem take_stepE{α:Type}(l:List α)(d:α)(k:Nat)(h:k<l.length):l.take (k+1)=l.take k++[l.getD k d]:=by
 rw[←List.take_append_getElem h,List.getD_eq_getElem?_getD,List.getElem?_eq_getElem h];rfl
theorem getD_mem{α:Type}(l:List α)(d:α)(k:Nat)(h:k<l.length):l.getD k d∈l:=by
 rw[List.getD_eq_getElem?_getD,List.getElem?_eq_getElem h];exact List.getElem_mem h
structure TimV where
 n:Int
 h:Int
 r:Int
 due:Int
 beg:Int
def tim0:TimV:=⟨0,0,0,0,0⟩
def TimV.cells(e:TimV):Array Value:=#[.int .i64 e.n,.int .i64 e.h,.int .i64 e.r,.int .i64 e.due,.int .i64 e.beg]
theorem Tryz.infoTim:(prog.info? 223).map (fun i=>(i.zero,i.size,i.bytes))=some (some (.agg #[.int .i64 0,.int .i64 0,.int .i64 0,.int .i64 0,.int .i64 0]),5,40):=by kernel_rfl
theorem Tryz.sizeTim:(prog.info? 223).map (·.size)=some 5:=by kernel_rfl
def timL(l:List TimV):List Value:=l.flatMap fun m=>m.cells.toList
theorem timL_append(l:List TimV)(m:TimV):timL (l++[m])=timL l++m.cells.toList:=by simp[timL]
theorem timL_length(l:List TimV):(timL l).length=l.length*5:=by
 induction l with
 |nil=>rfl
 |cons m l ih=>simp only[timL,List.flatMap_cons,List.length_append,List.length_cons] at ih ⊢;rw[ih];simp[TimV.cells];omega
def TimsAt(w:World)(B:Nat)(p:Option Addr)(n:Nat)(es:Nat→TimV):Prop:=∀i,i<n→∃b o,p=some ⟨b,o,none⟩∧b<B∧w.rangeAt b (o+i*5) (es i).cells.toList
theorem timL_get(l:List TimV)(j:Nat)(hj:j<5):∀i,i<l.length→(timL l)[i*5+j]? =((l.getD i tim0).cells.toList)[j]? :=by
 induction l with
 |nil=>intro i hi;simp at hi
 |cons m l ih=>
  intro i hi;have e:timL (m::l)=m.cells.toList++timL l:=by simp[timL]
  have hc:m.cells.toList.length=5:=by simp[TimV.cells]
  rw[e];cases i with
  |zero=>
   rw[Nat.zero_mul,Nat.zero_add,List.getElem?_append_left (by omega)];rfl
  |succ i=>
   rw[List.getElem?_append_right (by omega),hc,show(i+1)*5+j-5=i*5+j by omega];have h2:=ih i (by simpa using hi);simpa using h2
section
variable{P:Program}
theorem wp_store_rowG{op:Oper}{a:Act}{w:World}{K:Act→World→Prop}{Q:Exit→Act→World→Prop}(ty:TypeId)(p y:Operand)(ho:op.op=.store ty p y)
 (g:Nat) (D:Array Value) (hp:a.eval p=.pointer (some ⟨g,0,none⟩)) (hy:a.eval y=.agg D) (t:TypeId) (C:Array Value) (hg:w.heap[g]? =some (.cells C t (0,0))) (hC:C.size=D.size) (h1:∀v∈D.toList,v.oneCell'=true) (hi:(P.info? ty).map (·.size)=some D.size)
 (h:∀w',w'.heap[g]? =some (.cells D t (0,0))→Only g w w'→K (a.put op.dst undef) w'):op.wp P a w K Q:=by
 unfold Oper.wp execOp;simp only[ho,hp,hy,Instr.storeAt,Instr.sureAddr,Sem.run_bind,Sem.run_pure,Result.andThen_ok,run_storeVar_rowG w g t ty C D hg hC h1 hi];exact h _ (setRow_heap _ _ C _ t (0,0) hg) (only_setRow _ _ _)
end
end Go.Proofs.YtcfjhbcpjpgodaaGreatDoor

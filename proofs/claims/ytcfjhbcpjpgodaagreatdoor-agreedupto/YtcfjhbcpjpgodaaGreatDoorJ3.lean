/- Proved here: laws for whole rows: one stored into a block that has just been made; results that lie in memory; blocks behind several stores. -/
import Derived.Test.YtcfjhbcpjpgodaaGreatDoorBase
import Derived.Test.YtcfjhbcpjpgodaaGreatDoorJ1
import Derived.Test.YtcfjhbcpjpgodaaGreatDoorJ17
namespace Go.Proofs.YtcfjhbcpjpgodaaGreatDoor
open Go.RowKit Go.Proofs.Tryz
theorem results_rowG2{P:Program}{fn:Func}{p q:Tmp}{ty:TypeId}(h:fn.results=#[.cell p ty,.tmp q])(tmps:Array Value)(w:World)(g:Nat)(t:TypeId)(cs:Array Value)(d:TypeDesc)(v:Value)
 (hp:tmps.getD p undef=.pointer (some ⟨g,0,none⟩)) (hq:tmps.getD q undef=v) (hg:w.heap[g]? =some (.cells cs t (0,0)))
 (hu:P.underlying ty=some d) (hd:d.isRow=true) (hi:(P.info? ty).map (·.size)=some cs.size):
 (results fn tmps).run P w=.ok (.tuple #[.agg cs,v]) w:=by
 have hp':tmps[p]?.getD undef=.pointer (some ⟨g,0,none⟩):=by simpa using hp
 have hq':tmps[q]?.getD undef=v:=by simpa using hq
 simp[results,h,hp',hq',asAddr,run_loadVar_row w g t ty cs (0,0) d hg hu (by cases d<;>simp_all) hi]
theorem results_rowG1{P:Program}{fn:Func}{p:Tmp}{ty:TypeId}(h:fn.results=#[.cell p ty])(tmps:Array Value)(w:World)(g:Nat)(t:TypeId)(cs:Array Value)(d:TypeDesc)
 (hp:tmps.getD p undef=.pointer (some ⟨g,0,none⟩)) (hg:w.heap[g]? =some (.cells cs t (0,0)))
 (hu:P.underlying ty=some d) (hd:d.isRow=true) (hi:(P.info? ty).map (·.size)=some cs.size):
 (results fn tmps).run P w=.ok (.agg cs) w:=by
 have hp':tmps[p]?.getD undef=.pointer (some ⟨g,0,none⟩):=by simpa using hp
 simp[results,h,hp',asAddr,run_loadVar_row w g t ty cs (0,0) d hg hu (by cases d<;>simp_all) hi]
section
variable{P:Program}
theorem wpList_store_new{ops:Array Oper}{rest:List Oper}{op:Oper}{a:Act}{Q:Exit→Act→World→Prop}(hgd:op.guard=none)(ty:TypeId)(p y:Operand)(ho:op.op=.store ty p y)
 (w1:World) (D:Array Value) (hp:a.eval p=.pointer (some ⟨w1.heap.size,0,none⟩)) (hy:a.eval y=.agg D) (t:TypeId) (C:Array Value) (hC:C.size=D.size) (h1:∀v∈D.toList,v.oneCell'=true) (hi:(P.info? ty).map (·.size)=some D.size)
 (h:∀w',w'.heap[w1.heap.size]? =some (.cells D t (0,0))→Below w1.heap.size w1 w'→w'.heap.size=w1.heap.size+1→wpList P ops Q rest (a.put op.dst undef) w'):wpList P ops Q (op::rest) a (w1.alloc (.cells C t)):=
 wpList_store_rowG hgd ty p y ho w1.heap.size D hp hy t C (heap_alloc_new w1 _) hC h1 hi fun w' hq ho=>h w' hq (((Below.refl _ w1).alloc (Nat.le_refl _) _).trans (ho.below (Nat.le_refl _))) (by rw[ho.size];simp)
end
theorem Tryz.infoMsg:(prog.info? 57).map (fun i=>(i.zero,i.size,i.bytes))=some (some (.agg #[.int .i64 0,.int .i64 0,.int .i64 0,.int .i64 0,.int .i64 0,.bool false,.string ByteArray.empty]),7,64):=by kernel_rfl
def msgL(l:List MsgV):List Value:=l.flatMap fun m=>m.cells.toList
theorem msgL_append(l:List MsgV)(m:MsgV):msgL (l++[m])=msgL l++m.cells.toList:=by simp[msgL]
theorem own_keep{w w':World}{base e size n:Nat}{v:Value}{xs:List Value}(h:w.ownsRow base e size v n xs)(hb:Below w.heap.size w w'):w'.ownsRow base e size v n xs:=own_blocks h (fun g _ hg=>hb.block g hg)
def MsgsAt(w:World)(B:Nat)(p:Option Addr)(n:Nat)(ms:Nat→MsgV):Prop:=∀i,i<n→∃b o,p=some ⟨b,o,none⟩∧b<B∧w.rangeAt b (o+i*7) (ms i).cells.toList
theorem MsgsAt.below{w w':World}{B:Nat}{p:Option Addr}{n:Nat}{ms:Nat→MsgV}(h:MsgsAt w B p n ms)(hb:Below B w w'):MsgsAt w' B p n ms:=fun i hi=>by
 obtain⟨b,o,e,hB,hr⟩:=h i hi;exact⟨b,o,e,hB,fun j v hv=>(hb.cell (p:=⟨b,o+i*7+j,none⟩) (by exact hB)).trans (hr j v hv)⟩
theorem blk{w w':World}{g:Nat}{o:Obj}(h:w.heap[g]? =some o)(hb:Below w.heap.size w w'):w'.heap[g]? =some o:=(hb.block g (row_lt0 h)).trans h
theorem msgL_get(l:List MsgV)(j:Nat)(hj:j<7):∀i,i<l.length→(msgL l)[i*7+j]? =((l.getD i msg0).cells.toList)[j]? :=by
 induction l with
 |nil=>intro i hi;simp at hi
 |cons m l ih=>
  intro i hi;have e:msgL (m::l)=m.cells.toList++msgL l:=by simp[msgL]
  have hc:m.cells.toList.length=7:=by simp[MsgV.cells]
  rw[e];cases i with
  |zero=>
   rw[Nat.zero_mul,Nat.zero_add,List.getElem?_append_left (by omega)];rfl
  |succ i=>
   rw[List.getElem?_append_right (by omega),hc,show(i+1)*7+j-7=i*7+j by omega];have h2:=ih i (by simpa using hi);simpa using h2
theorem own_msgs{w:World}{base:Nat}{v:Value}{l:List MsgV}(h:w.ownsRow base 57 7 v l.length (msgL l)):∃p c,v=.slice p l.length c∧MsgsAt w w.heap.size p l.length (fun i=>l.getD i msg0):=by
 rcases h.2 with⟨rfl,hn⟩|⟨g,cap,cur,rfl,hb,hg,hnc,hcm,hcs,ht⟩
 .exact ⟨none,0,by rw[hn],fun i hi=>by omega⟩
 refine⟨_,cap,rfl,fun i hi=>⟨g,0,rfl,row_lt0 hg,fun j v hv=>?_⟩⟩;rw[cell_of_row w g _ _ _ _ hg,Nat.zero_add];have hj:j<7:=by have:=(List.getElem?_eq_some_iff.1 hv).1;simpa [MsgV.cells] using this
 have e1:(cur.toList.take (l.length*7))[i*7+j]? =(msgL l)[i*7+j]? :=by rw[ht]
 have hlt:i*7+j<l.length*7:=by
  have:(i+1)*7≤l.length*7:=Nat.mul_le_mul_right 7 (by omega);omega
 rw[List.getElem?_take,if_pos hlt] at e1;rw[←Array.getElem?_toList,e1,←hv];exact msgL_get l j hj i hi
end Go.Proofs.YtcfjhbcpjpgodaaGreatDoor

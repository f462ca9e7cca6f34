/- Proved here: what the walks of all the functions share: lists by number, rows that are owned, blocks that turn and blocks that stay. -/
import Derived.Test.YtcfjhbcpjpgodaaGreatDoorRows
import Derived.Below
import Derived.WalkKit
import Derived.WalkSpells
import Derived.WalkLawsBesides
import Derived.Laws.Rows
import Derived.Laws.CopyRow
import Derived.Laws.Strings
import Derived.Laws.BytesArg
import Derived.Lib.Strings
import Derived.Deep.MidRow
import Derived.Deep.RegionHeld
import Derived.Deep.DeepCutAuto
import Derived.OwnWalk
namespace Go.Proofs.YtcfjhbcpjpgodaaGreatDoor
open Go.RowKit Go.Proofs.Tryz
theorem hide{p:Prop}(h:p):Hid p:=h
structure Only (g:Nat) (w w':World):Prop where
 os:w'.os=w.os
 tape:w'.tape=w.tape
 output:w'.output=w.output
 size:w'.heap.size=w.heap.size
 block:∀k,k≠g→w'.heap[k]? =w.heap[k]?
theorem Only.below{g B:Nat}{w w':World}(h:Only g w w')(hB:B≤g):Below B w w':=⟨h.os,h.tape,h.output,by rw[h.size];exact Nat.le_refl _,fun k hk=>h.block k (by omega)⟩
theorem Only.cell{g:Nat}{w w':World}(h:Only g w w'){p:Addr}(hp:p.block≠g):w'.cell? p=w.cell? p:=World.cell?_of_block (w:=w) (h.block p.block hp)
theorem only_setRow(w:World)(g:Nat)(cs:Array Value):Only g w (w.setRow g cs):=⟨rfl,rfl,rfl,by simp,fun k hk=>setRow_other _ _ _ _ hk⟩
theorem only_setCell(w:World)(g i:Nat)(v:Value):Only g w (w.setCell ⟨g,i,none⟩ v):=⟨rfl,rfl,rfl,by simp[World.setCell],fun k hk=>by simp[World.setCell,Array.getElem?_modify];omega⟩
def Lies(w:World)(B:Nat)(p:Option Addr)(n:Nat)(f:Nat→Value):Prop:=∀i,i<n→∃b o,p=some ⟨b,o,none⟩∧b<B∧w.cell? ⟨b,o+i,none⟩=some (f i)
theorem Lies.below{w w':World}{B:Nat}{p:Option Addr}{n:Nat}{f:Nat→Value}(h:Lies w B p n f)(hb:Below B w w'):Lies w' B p n f:=fun i hi=>by
 obtain⟨b,o,e,h1,h2⟩:=h i hi;exact⟨b,o,e,h1,(hb.cell (by exact h1)).trans h2⟩
theorem Lies.more{w:World}{B B':Nat}{p:Option Addr}{n:Nat}{f:Nat→Value}(h:Lies w B p n f)(hB:B≤B'):Lies w B' p n f:=fun i hi=>by
 obtain⟨b,o,e,h1,h2⟩:=h i hi;exact⟨b,o,e,by omega,h2⟩
theorem addr_add(b o j:Nat):(⟨b,o,none⟩:Addr).add j=⟨b,o+j,none⟩:=by
 unfold Addr.add;split
 .rename_i h;subst h;rfl
 rfl
theorem own_base{base base' e size n:Nat}{v:Value}{xs:List Value}{w:World}(h:w.ownsRow base e size v n xs)(hb:base'≤base):w.ownsRow base' e size v n xs:=by
 refine⟨h.1,?_⟩;rcases h.2 with h1|⟨k,cap,cur,e1,hk,hr⟩
 .exact Or.inl h1
 exact Or.inr ⟨k,cap,cur,e1,Nat.le_trans hb hk,hr⟩
theorem own_slice{base e size n:Nat}{v:Value}{xs:List Value}{w:World}(h:w.ownsRow base e size v n xs):∃p c,v=.slice p n c:=by
 rcases h.2 with⟨rfl,rfl⟩|⟨g,cap,cur,rfl,_⟩
 .exact ⟨none,0,rfl⟩
 exact⟨_,cap,rfl⟩
theorem own_blocks{w w':World}{base e size n:Nat}{v:Value}{xs:List Value}(h:w.ownsRow base e size v n xs)(hb:∀g,v.ownBlock=some g→g<w.heap.size→w'.heap[g]? =w.heap[g]?):w'.ownsRow base e size v n xs:=by
 refine⟨h.1,?_⟩;rcases h.2 with h1|⟨k,cap,cur,rfl,hk,hg,hr⟩
 .exact Or.inl h1
 refine Or.inr ⟨k,cap,cur,rfl,hk,?_,hr⟩;have hlt:k<w.heap.size:=by
  rcases Nat.lt_or_ge k w.heap.size with h'|h'
  .exact h'
  simp[Array.getElem?_eq_none h'] at hg
 rw[hb k rfl hlt];exact hg
theorem own_apart{w:World}{b1 b2 e1 e2 n1 n2:Nat}{v1 v2:Value}{xs1 xs2:List Value}(h1:w.ownsRow b1 e1 1 v1 n1 xs1)(h2:w.ownsRow b2 e2 1 v2 n2 xs2)(he:e1≠e2):∀g,v1.ownBlock=some g→v2.ownBlock≠some g:=by
 intro g hg hg2;rcases h1.2 with⟨rfl,_⟩|⟨g1,_,_,rfl,_,hh1,_⟩
 .cases hg
 rcases h2.2 with⟨rfl,_⟩|⟨g2,_,_,rfl,_,hh2,_⟩
 .cases hg2
 cases hg;cases hg2;rw[hh1] at hh2;exact he (by simpa using(Obj.cells.inj (Option.some.inj hh2)).2.1)
theorem own_lies{w:World}{base:Nat}{e:TypeId}{v:Value}{l:List ByteArray}(h:w.ownsRow base e 1 v l.length (l.map .string)):
 ∃p cap,v=.slice p l.length cap∧l.length≤maxLen∧Lies w w.heap.size p l.length (fun i=>.string (l.getD i ByteArray.empty)):=by
 rcases h.2 with⟨rfl,hn⟩|⟨g,cap,cur,rfl,hb,hg,hnc,hcm,hcs,ht⟩
 .exact ⟨none,0,by rw[hn],by rw[hn];exact Nat.zero_le _,fun i hi=>by omega⟩
 refine⟨_,cap,rfl,Nat.le_trans hnc hcm,fun i hi=>⟨g,0,rfl,?_,?_⟩⟩
 .rcases Nat.lt_or_ge g w.heap.size with h'|h'
  .exact h'
  simp[Array.getElem?_eq_none h'] at hg
 rw[cell_of_row w g (0+i) _ e _ hg,Nat.zero_add];have e1:(cur.toList.take (l.length*1))[i]? =(l.map Value.string)[i]? :=by rw[ht]
 rw[List.getElem?_take,if_pos (by omega)] at e1;rw[←Array.getElem?_toList,e1,List.getElem?_map];simp only[List.getD_eq_getElem?_getD,List.getElem?_eq_getElem hi];rfl
theorem ret_b{a b:Bool}(h:a=b):Ending.returned (.bool a)=.returned (.bool b):=by rw[h]
section
variable{P:Program}
theorem takeD{ops:Array Oper}{Q:Exit→Act→World→Prop}{md:Region.Mode}{S:World→Prop}(i:Nat)(d:Option Tmp)(v:Value){oi:Oper}{fuel:Nat}{listed:Array Bool}{a:Act}{w:World}(hi:ops[i]? =some oi)(hd:oi.dst=d)
 (hs:Region.noSelect ops=true) (hf:Region.free md ops listed i=true) (hr:(Region.ready md ops listed).contains i=true)
 (hQ:∀c a w,Q (.panic c) (a.put d v) w→Q (.panic c) a w) (hy:YieldsIf P ops S oi v a) (hS:S w)
 (h:wpAnyH P md ops Q S fuel (listed.setIfInBounds i true) (a.put d v) w):wpAnyH P md ops Q S (fuel+1) listed a w:=by
 subst hd;exact wpAnyH_take hi hs hf hr hQ hy hS h
theorem run_storeVar_rowG(w:World)(g:Nat)(t ty:TypeId)(C D:Array Value)(hg:w.heap[g]? =some (.cells C t (0,0)))(hC:C.size=D.size)(h1:∀v∈D.toList,v.oneCell'=true)(hi:(P.info? ty).map (·.size)=some D.size):
 (storeVar ty ⟨g,0,none⟩ (.agg D)).run P w=.ok () (w.setRow g D):=by
 have h:=run_storeCells_at P g 0 t D.toList 0 C w hg (by simp[hC]) h1;have e:(C.toList.take (0+0)++D.toList++C.toList.drop (0+0+D.toList.length)).toArray=D:=by
  rw[Nat.add_zero,List.take_zero,List.nil_append,List.drop_of_length_le (by simp[hC]),List.append_nil,Array.toArray_toList]
 rw[e] at h;cases hq:P.info? ty with
 |none=>simp[hq] at hi
 |some i=>
  have hs:i.size=D.size:=by simpa [hq] using hi
  simp[storeVar,sizeOf,typeInfo,hq,Value.cells,hs,h]
theorem wpList_store_rowG{ops:Array Oper}{rest:List Oper}{op:Oper}{a:Act}{w:World}{Q:Exit→Act→World→Prop}(hgd:op.guard=none)(ty:TypeId)(p y:Operand)(ho:op.op=.store ty p y)
 (g:Nat) (D:Array Value) (hp:a.eval p=.pointer (some ⟨g,0,none⟩)) (hy:a.eval y=.agg D) (t:TypeId) (C:Array Value) (hg:w.heap[g]? =some (.cells C t (0,0))) (hC:C.size=D.size) (h1:∀v∈D.toList,v.oneCell'=true) (hi:(P.info? ty).map (·.size)=some D.size)
 (h:∀w',w'.heap[g]? =some (.cells D t (0,0))→Only g w w'→wpList P ops Q rest (a.put op.dst undef) w'):wpList P ops Q (op::rest) a w:=
 wpList_plain hgd fun _ hK=>by
  unfold Oper.wp execOp;simp only[ho,hp,hy,Instr.storeAt,Instr.sureAddr,Sem.run_bind,Sem.run_pure,Result.andThen_ok,run_storeVar_rowG w g t ty C D hg hC h1 hi];exact hK _ _ (h _ (setRow_heap _ _ C _ t (0,0) hg) (only_setRow _ _ _))
end
theorem Tryz.infoString:(prog.info? 9).map (fun i=>(i.zero,i.size,i.bytes))=some (some (.string ByteArray.empty),1,16):=by kernel_rfl
theorem Tryz.infoInt:(prog.info? 3).map (fun i=>(i.zero,i.size,i.bytes))=some (some (.int .i64 0),1,8):=by kernel_rfl
def byt(t:ByteArray)(i:Nat):Int:=((t.data.toList.getD i 0).toNat:Int)
theorem byt_bd(t:ByteArray)(i:Nat):0≤byt t i∧byt t i≤255:=by
 unfold byt;have:=(t.data.toList.getD i 0).toNat_lt;omega
theorem index_byt(t:ByteArray)(i:Nat)(h:i<t.size)(W:World):(Instr.index 9 (.string t) (.int .i64 (i:Int))).run prog W=.ok (.int .u8 (byt t i)) W:=by
 rw[run_index_string _ _ _ _ _ underlying9];have e:byt t i=(t[i].toNat:Int):=by
  unfold byt;have hl:i<t.data.toList.length:=by simpa using h
  rw[List.getD_eq_getElem?_getD,List.getElem?_eq_getElem hl];rfl
 simp[h,e]
theorem row_lt0{w:World}{g:Nat}{o:Obj}(h:w.heap[g]? =some o):g<w.heap.size:=by
 rcases Nat.lt_or_ge g w.heap.size with h'|h'
 .exact h'
 simp[Array.getElem?_eq_none h'] at h
def NilOr(p:Option Addr)(n cap:Nat):Prop:=(p=none∧n=0∧cap=0)∨∃b o,p=some ⟨b,o,none⟩
end Go.Proofs.YtcfjhbcpjpgodaaGreatDoor

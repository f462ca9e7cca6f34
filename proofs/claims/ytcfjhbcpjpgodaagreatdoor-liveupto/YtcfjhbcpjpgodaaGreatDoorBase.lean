import Derived.Test.YtcfjhbcpjpgodaaGreatDoorRows
import Derived.WalkSpells
import Derived.WalkLawsBesides
import Derived.Lib.Strings
import Derived.Deep.RegionHeld
import Derived.Deep.DeepCutAuto
namespace Go.Proofs.YtcfjhbcpjpgodaaGreatDoor
theorem _root_.Go.RowKit.Hid.o {p:Prop} (h:_root_.Go.RowKit.Hid p):p:=h
open Go.RowKit Proofs.Tryz
abbrev zjA:=@Nat.le_refl
abbrev zjB:=@Below.refl
abbrev zjC:=@heap_alloc_new
abbrev zjD:=@cell_of_row
abbrev zjE:=@Nat.lt_of_lt_of_le
abbrev zjF:=@Nat.le_trans
abbrev zjG:=@Nat.zero_le
abbrev zjH:=@World.cell?_of_block
abbrev zjI:=@World.block_lt_of_cell?
abbrev zjJ:=@List.getElem?_eq_getElem
abbrev zjK:=@List.getD_eq_getElem?_getD
abbrev zjL:=@List.getElem?_eq_some_iff
abbrev zjM:=@List.getElem?_append_right
abbrev zjN:=@List.getElem?_append_left
abbrev zjO:=@List.length_append
abbrev zjP:=@of_decide_eq_true
abbrev zjQ:=@decide_eq_true
abbrev zjR:=@decide_eq_false
abbrev zjS:=@Nat.le_of_lt
abbrev zjT:=@bodyPost_ret
abbrev zjU:=@List.mem_append
abbrev zjV:=@List.mem_cons_self
abbrev zjW:=@List.mem_singleton
abbrev zjX:=@Bool.false_ne_true
abbrev zjY:=@beq_eq_false_iff_ne
abbrev zjZ:=@World.ownsRow_nil
abbrev zj0:=@Or.inl
abbrev zj1:=@Or.inr
abbrev zj2:=@if_pos
abbrev zj3:=@if_neg
abbrev zj4:=@ByteArray.empty
abbrev zj5:=@ByteArray
abbrev zj6:=@wpList_load_mid
abbrev zj7:=@True.intro
abbrev zj8:=@Nat.zero_add
abbrev zj9:=@Below.heap_alloc
abbrev zka:=@yieldsIf_load_mid
abbrev zkb:=@wpList_load_row
abbrev zkc:=@List.getElem?_take
abbrev zkd:=@Option.some.inj
abbrev zke:=@List.take_length
abbrev zkf:=@Array.getElem?_toList
abbrev cE(w:World)(b o:Nat)(v:Value):Prop:=w.cell? ⟨b,o,none⟩=some v
abbrev cN(w u:World)(o:Nat)(v:Value):Prop:=w.cell? ⟨u.heap.size,o,none⟩=some v
abbrev cL(w:World)(b:Nat)(a:Array Value)(t:TypeId):Prop:=w.heap[b]? =some (.cells a t (0,0))
abbrev iA(x:Int):Value:=.int .i64 x
abbrev aA(b o:Nat):Addr:=⟨b,o,none⟩
abbrev nA(w:World)(o:Nat):Addr:=⟨w.heap.size,o,none⟩
abbrev mA:Array Value:=#[.int .i64 0,.int .i64 0,.int .i64 0,.int .i64 0,.int .i64 0,.bool false,.string ⟨#[]⟩]
abbrev sA(t:ByteArray):Value:=.string t
abbrev bA(b:Bool):Value:=.bool b
abbrev BW(w v:World):Prop:=Below w.heap.size w v
theorem bwA(w:World){o:Obj}:Below w.heap.size w (w.alloc o):=(Below.refl _ w).alloc (Nat.le_refl _) _
abbrev eA(a:Addr):Value:=.iface 294 (.pointer (some a))
abbrev pA(b o:Nat):Value:=.pointer (some ⟨b,o,none⟩)
theorem zc{p:Prop}(h:p):Hid p:=h
structure kq (g:Nat) (w w':World):Prop where
 os:w'.os=w.os
 tape:w'.tape=w.tape
 output:w'.output=w.output
 size:w'.heap.size=w.heap.size
 block:∀k,k≠g->w'.heap[k]? =w.heap[k]?
theorem kq.below{g B:Nat}{w w':World}(h:kq g w w')(hB:B<=g):Below B w w':=⟨h.os,h.tape,h.output,by rw[h.size];exact Nat.le_refl _,λk hk=>h.block k (by omega)⟩
theorem kq.cell{g:Nat}{w w':World}(h:kq g w w'){p:Addr}(hp:p.block≠g):w'.cell? p=w.cell? p:=World.cell?_of_block (w:=w) (h.block p.block hp)
theorem y9(w:World)(g:Nat)(cs:Array Value):kq g w (w.setRow g cs):=⟨rfl,rfl,rfl,by simp,λk hk=>setRow_other _ _ _ _ hk⟩
theorem zf(w:World)(g i:Nat)(v:Value):kq g w (w.setCell (aA g i) v):=⟨rfl,rfl,rfl,by simp[World.setCell],λk hk=>by simp[World.setCell,Array.getElem?_modify];omega⟩
def qW(w:World)(B:Nat)(p:Option Addr)(n:Nat)(f:Nat->Value):Prop:=∀i,i<n->∃b o,p=some (aA b o)/\b<B/\w.cell? (aA b (o+i))=some (f i)
theorem qW.below{w w':World}{B:Nat}{p:Option Addr}{n:Nat}{f:Nat->Value}(h:qW w B p n f)(hb:Below B w w'):qW w' B p n f:=λi hi=>by
 obtain⟨b,o,e,h1,h2⟩:=h i hi;exact⟨b,o,e,h1,(hb.cell (by exact h1)).trans h2⟩
theorem qW.more{w:World}{B B':Nat}{p:Option Addr}{n:Nat}{f:Nat->Value}(h:qW w B p n f)(hB:B<=B'):qW w B' p n f:=λi hi=>by
 obtain⟨b,o,e,h1,h2⟩:=h i hi;exact⟨b,o,e,by omega,h2⟩
theorem addr_add(b o j:Nat):((aA b o):Addr).add j=(aA b (o+j)):=by
 unfold Addr.add;split
 .rename_i h;subst h;rfl
 rfl
theorem vU{base base' e size n:Nat}{v:Value}{xs:List Value}{w:World}(h:w.ownsRow base e size v n xs)(hb:base'<=base):w.ownsRow base' e size v n xs:=by
 refine⟨h.1,?_⟩;rcases h.2 with h1|⟨k,cap,cur,e1,hk,hr⟩
 .exact Or.inl h1
 exact Or.inr ⟨k,cap,cur,e1,Nat.le_trans hb hk,hr⟩
theorem zm{base e size n:Nat}{v:Value}{xs:List Value}{w:World}(h:w.ownsRow base e size v n xs):∃p c,v=.slice p n c:=by
 rcases h.2 with⟨rfl,rfl⟩|⟨g,cap,cur,rfl,_⟩
 .exact ⟨none,0,rfl⟩
 exact⟨_,cap,rfl⟩
theorem zb{w w':World}{base e size n:Nat}{v:Value}{xs:List Value}(h:w.ownsRow base e size v n xs)(hb:∀g,v.ownBlock=some g->g<w.heap.size->w'.heap[g]? =w.heap[g]?):w'.ownsRow base e size v n xs:=by
 refine⟨h.1,?_⟩;rcases h.2 with h1|⟨k,cap,cur,rfl,hk,hg,hr⟩
 .exact Or.inl h1
 refine Or.inr ⟨k,cap,cur,rfl,hk,?_,hr⟩;have aa:k<w.heap.size:=by
  rcases Nat.lt_or_ge k w.heap.size with h'|h'
  .exact h'
  simp[Array.getElem?_eq_none h'] at hg
 rw[hb k rfl aa];exact hg
theorem xR{w:World}{b1 b2 e1 e2 n1 n2:Nat}{v1 v2:Value}{xs1 xs2:List Value}(h1:w.ownsRow b1 e1 1 v1 n1 xs1)(h2:w.ownsRow b2 e2 1 v2 n2 xs2)(he:e1≠e2):∀g,v1.ownBlock=some g->v2.ownBlock≠some g:=by
 intro g hg ad;rcases h1.2 with⟨rfl,_⟩|⟨g1,_,_,rfl,_,ae,_⟩
 .cases hg
 rcases h2.2 with⟨rfl,_⟩|⟨g2,_,_,rfl,_,aa,_⟩
 .cases ad
 cases hg;cases ad;rw[ae] at aa;exact he (by simpa using(Obj.cells.inj (Option.some.inj aa)).2.1)
theorem kV{w:World}{base:Nat}{e:TypeId}{v:Value}{l:List ByteArray}(h:w.ownsRow base e 1 v l.length (l.map .string)):
 ∃p cap,v=.slice p l.length cap/\l.length<=maxLen/\qW w w.heap.size p l.length (λi=>sA (l.getD i ByteArray.empty)):=by
 rcases h.2 with⟨rfl,hn⟩|⟨g,cap,cur,rfl,hb,hg,aa,ad,hcs,ht⟩
 .exact ⟨none,0,by rw[hn],by rw[hn];exact Nat.zero_le _,λi hi=>by omega⟩
 refine⟨_,cap,rfl,Nat.le_trans aa ad,λi hi=>⟨g,0,rfl,?_,?_⟩⟩
 .rcases Nat.lt_or_ge g w.heap.size with h'|h'
  .exact h'
  simp[Array.getElem?_eq_none h'] at hg
 rw[cell_of_row w g (0+i) _ e _ hg,Nat.zero_add];have e1:(cur.toList.take (l.length*1))[i]? =(l.map Value.string)[i]? :=by rw[ht]
 rw[List.getElem?_take,if_pos (by omega)] at e1;rw[<-Array.getElem?_toList,e1,List.getElem?_map];simp only[List.getD_eq_getElem?_getD,List.getElem?_eq_getElem hi];rfl
theorem yz{a b:Bool}(h:a=b):Ending.returned (bA a)=.returned (bA b):=by rw[h]
section
variable{P:Program}
theorem zfk{ops:Array Oper}{Q:Exit->Act->World->Prop}{md:Region.Mode}{S:World->Prop}(i:Nat)(d:Option Tmp)(v:Value){oi:Oper}{fuel:Nat}{listed:Array Bool}{a:Act}{w:World}(hi:ops[i]? =some oi)(hd:oi.dst=d)
 (hs:Region.noSelect ops=true) (hf:Region.free md ops listed i=true) (hr:(Region.ready md ops listed).contains i=true)
 (hQ:∀c a w,Q (.panic c) (a.put d v) w->Q (.panic c) a w) (hy:YieldsIf P ops S oi v a) (hS:S w)
 (h:wpAnyH P md ops Q S fuel (listed.setIfInBounds i true) (a.put d v) w):wpAnyH P md ops Q S (fuel+1) listed a w:=by
 subst hd;exact wpAnyH_take hi hs hf hr hQ hy hS h
theorem kL(w:World)(g:Nat)(t ty:TypeId)(C D:Array Value)(hg:w.heap[g]? =some (.cells C t (0,0)))(hC:C.size=D.size)(h1:∀v∈D.toList,v.oneCell'=true)(hi:(P.info? ty).map (·.size)=some D.size):
 (storeVar ty (aA g 0) (.agg D)).run P w=.ok () (w.setRow g D):=by
 have h:=run_storeCells_at P g 0 t D.toList 0 C w hg (by simp[hC]) h1;have e:(C.toList.take (0+0)++D.toList++C.toList.drop (0+0+D.toList.length)).toArray=D:=by
  rw[Nat.add_zero,List.take_zero,List.nil_append,List.drop_of_length_le (by simp[hC]),List.append_nil,Array.toArray_toList]
 rw[e] at h;cases hq:P.info? ty with
 |none=>simp[hq] at hi
 |some i=>
  have hs:i.size=D.size:=by simpa [hq] using hi
  simp[storeVar,sizeOf,typeInfo,hq,Value.cells,hs,h]
theorem zd{ops:Array Oper}{rest:List Oper}{op:Oper}{a:Act}{w:World}{Q:Exit->Act->World->Prop}(hgd:op.guard=none)(ty:TypeId)(p y:Operand)(ho:op.op=.store ty p y)
 (g:Nat) (D:Array Value) (hp:a.eval p=pA g 0) (hy:a.eval y=.agg D) (t:TypeId) (C:Array Value) (hg:w.heap[g]? =some (.cells C t (0,0))) (hC:C.size=D.size) (h1:∀v∈D.toList,v.oneCell'=true) (hi:(P.info? ty).map (·.size)=some D.size)
 (h:∀w',w'.heap[g]? =some (.cells D t (0,0))->kq g w w'->wpList P ops Q rest (a.put op.dst undef) w'):wpList P ops Q (op::rest) a w:=
 wpList_plain hgd λ_ hK=>by
  unfold Oper.wp execOp;simp only[ho,hp,hy,Instr.storeAt,Instr.sureAddr,Sem.run_bind,Sem.run_pure,Result.andThen_ok,kL w g t ty C D hg hC h1 hi];exact hK _ _ (h _ (setRow_heap _ _ C _ t (0,0) hg) (y9 _ _ _))
end
theorem Tryz.zgM:(prog.info? 9).map (λi=>(i.zero,i.size,i.bytes))=some (some (sA ByteArray.empty),1,16):=by kernel_rfl
theorem Tryz.zhp:(prog.info? 3).map (λi=>(i.zero,i.size,i.bytes))=some (some (iA 0),1,8):=by kernel_rfl
def byt(t:ByteArray)(i:Nat):Int:=((t.data.toList.getD i 0).toNat:Int)
theorem ga(t:ByteArray)(i:Nat):0<=byt t i/\byt t i<=255:=by
 unfold byt;have:=(t.data.toList.getD i 0).toNat_lt;omega
theorem vA(t:ByteArray)(i:Nat)(h:i<t.size)(W:World):(Instr.index 9 (sA t) (iA i)).run prog W=.ok (.int .u8 (byt t i)) W:=by
 rw[run_index_string _ _ _ _ _ underlying9];have e:byt t i=(t[i].toNat:Int):=by
  unfold byt;have hl:i<t.data.toList.length:=by simpa using h
  rw[List.getD_eq_getElem?_getD,List.getElem?_eq_getElem hl];rfl
 simp[h,e]
theorem zg{w:World}{g:Nat}{o:Obj}(h:w.heap[g]? =some o):g<w.heap.size:=by
 rcases Nat.lt_or_ge g w.heap.size with h'|h'
 .exact h'
 simp[Array.getElem?_eq_none h'] at h
def YQ(p:Option Addr)(n cap:Nat):Prop:=(p=none/\n=0/\cap=0)\/∃b o,p=some (aA b o)

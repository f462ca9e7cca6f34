import Derived.Test.YtcfjhbcpjpgodaaGreatDoorRows
import Derived.WalkSpells
import Derived.WalkLawsBesides
import Derived.Lib.Strings
import Derived.Deep.RegionHeld
import Derived.Deep.DeepCutAuto
namespace Go.Proofs.YtcfjhbcpjpgodaaGreatDoor
theorem _root_.Go.RowKit.Hid.o {p:Prop} (h:_root_.Go.RowKit.Hid p):p:=h
open Go.RowKit Proofs.Tryz
abbrev zgp:=@Nat.le_refl
abbrev zgq:=@Below.refl
abbrev zgr:=@heap_alloc_new
abbrev zgs:=@cell_of_row
abbrev zgt:=@Nat.lt_of_lt_of_le
abbrev zgu:=@Nat.le_trans
abbrev zgv:=@Nat.zero_le
abbrev zgw:=@World.cell?_of_block
abbrev zgx:=@World.block_lt_of_cell?
abbrev zgy:=@List.getElem?_eq_getElem
abbrev zgz:=@List.getD_eq_getElem?_getD
abbrev zgA:=@List.getElem?_eq_some_iff
abbrev zgB:=@Array.getElem?_eq_some_iff
abbrev zgC:=@List.getElem?_append_right
abbrev zgD:=@List.getElem?_append_left
abbrev zgE:=@List.length_append
abbrev zgF:=@of_decide_eq_true
abbrev zgG:=@decide_eq_true
abbrev zgH:=@decide_eq_false
abbrev zgI:=@Nat.le_of_lt
abbrev zgJ:=@bodyPost_ret
abbrev zgK:=@List.mem_append
abbrev zgL:=@List.mem_cons_self
abbrev zgM:=@List.mem_singleton
abbrev zgN:=@Bool.false_ne_true
abbrev zgO:=@Nat.lt_irrefl
abbrev zgP:=@beq_eq_false_iff_ne
abbrev zgQ:=@World.ownsRow_nil
abbrev zgR:=@Or.inl
abbrev zgS:=@Or.inr
abbrev zgT:=@if_pos
abbrev zgU:=@if_neg
abbrev zgV:=@ByteArray.empty
abbrev zgW:=@ByteArray
abbrev zgX:=@wpList_load_mid
abbrev zgY:=@True.intro
abbrev zgZ:=@below_drewN
abbrev zg0:=@Nat.zero_add
abbrev zg1:=@List.replicate
abbrev zg2:=@Below.heap_alloc
abbrev zg3:=@yieldsIf_load_mid
abbrev zg4:=@wpList_load_row
abbrev zg5:=@List.getElem?_take
abbrev zg6:=@Option.some.inj
abbrev zg7:=@List.take_length
abbrev zg8:=@Array.getElem?_toList
abbrev cE(w:World)(b o:Nat)(v:Value):Prop:=w.cell? ⟨b,o,none⟩=some v
abbrev cN(w u:World)(o:Nat)(v:Value):Prop:=w.cell? ⟨u.heap.size,o,none⟩=some v
abbrev cL(w:World)(b:Nat)(a:Array Value)(t:TypeId):Prop:=w.heap[b]? =some (.cells a t (0,0))
abbrev iA(x:Int):Value:=.int .i64 x
abbrev aA(b o:Nat):Addr:=⟨b,o,none⟩
abbrev nA(w:World)(o:Nat):Addr:=⟨w.heap.size,o,none⟩
abbrev mA:Array Value:=#[.int .i64 0,.int .i64 0,.int .i64 0,.int .i64 0,.int .i64 0,.bool false,.string ⟨#[]⟩]
abbrev sA(t:ByteArray):Value:=.string t
abbrev bA(b:Bool):Value:=.bool b
abbrev BW(w v:World):Prop:=Below w.heap.size w v
theorem bwA(w:World){o:Obj}:Below w.heap.size w (w.alloc o):=(Below.refl _ w).alloc (Nat.le_refl _) _
abbrev eA(a:Addr):Value:=.iface 294 (.pointer (some a))
abbrev pA(b o:Nat):Value:=.pointer (some ⟨b,o,none⟩)
theorem zc{p:Prop}(h:p):Hid p:=h
structure ko (g:Nat) (w w':World):Prop where
 os:w'.os=w.os
 tape:w'.tape=w.tape
 output:w'.output=w.output
 size:w'.heap.size=w.heap.size
 block:∀k,k≠g->w'.heap[k]? =w.heap[k]?
theorem ko.below{g B:Nat}{w w':World}(h:ko g w w')(hB:B<=g):Below B w w':=⟨h.os,h.tape,h.output,by rw[h.size];exact Nat.le_refl _,λk hk=>h.block k (by omega)⟩
theorem ko.cell{g:Nat}{w w':World}(h:ko g w w'){p:Addr}(hp:p.block≠g):w'.cell? p=w.cell? p:=World.cell?_of_block (w:=w) (h.block p.block hp)
theorem yW(w:World)(g:Nat)(cs:Array Value):ko g w (w.setRow g cs):=⟨rfl,rfl,rfl,by simp,λk hk=>setRow_other _ _ _ _ hk⟩
theorem zd(w:World)(g i:Nat)(v:Value):ko g w (w.setCell (aA g i) v):=⟨rfl,rfl,rfl,by simp[World.setCell],λk hk=>by simp[World.setCell,Array.getElem?_modify];omega⟩
def kG(w:World)(B:Nat)(p:Option Addr)(n:Nat)(f:Nat->Value):Prop:=∀i,i<n->∃b o,p=some (aA b o)/\b<B/\w.cell? (aA b (o+i))=some (f i)
theorem kG.below{w w':World}{B:Nat}{p:Option Addr}{n:Nat}{f:Nat->Value}(h:kG w B p n f)(hb:Below B w w'):kG w' B p n f:=λi hi=>by
 obtain⟨b,o,e,h1,h2⟩:=h i hi;exact⟨b,o,e,h1,(hb.cell (by exact h1)).trans h2⟩
theorem kG.more{w:World}{B B':Nat}{p:Option Addr}{n:Nat}{f:Nat->Value}(h:kG w B p n f)(hB:B<=B'):kG w B' p n f:=λi hi=>by
 obtain⟨b,o,e,h1,h2⟩:=h i hi;exact⟨b,o,e,by omega,h2⟩
theorem addr_add(b o j:Nat):((aA b o):Addr).add j=(aA b (o+j)):=by
 unfold Addr.add;split
 .rename_i h;subst h;rfl
 rfl
theorem yU{base base' e size n:Nat}{v:Value}{xs:List Value}{w:World}(h:w.ownsRow base e size v n xs)(hb:base'<=base):w.ownsRow base' e size v n xs:=by
 refine⟨h.1,?_⟩;rcases h.2 with h1|⟨k,cap,cur,e1,hk,hr⟩
 .exact Or.inl h1
 exact Or.inr ⟨k,cap,cur,e1,Nat.le_trans hb hk,hr⟩
theorem zl{base e size n:Nat}{v:Value}{xs:List Value}{w:World}(h:w.ownsRow base e size v n xs):∃p c,v=.slice p n c:=by
 rcases h.2 with⟨rfl,rfl⟩|⟨g,cap,cur,rfl,_⟩
 .exact ⟨none,0,rfl⟩
 exact⟨_,cap,rfl⟩
theorem zb{w w':World}{base e size n:Nat}{v:Value}{xs:List Value}(h:w.ownsRow base e size v n xs)(hb:∀g,v.ownBlock=some g->g<w.heap.size->w'.heap[g]? =w.heap[g]?):w'.ownsRow base e size v n xs:=by
 refine⟨h.1,?_⟩;rcases h.2 with h1|⟨k,cap,cur,rfl,hk,hg,hr⟩
 .exact Or.inl h1
 refine Or.inr ⟨k,cap,cur,rfl,hk,?_,hr⟩;have aa:k<w.heap.size:=by
  rcases Nat.lt_or_ge k w.heap.size with h'|h'
  .exact h'
  simp[Array.getElem?_eq_none h'] at hg
 rw[hb k rfl aa];exact hg
theorem yA{w:World}{b1 b2 e1 e2 n1 n2:Nat}{v1 v2:Value}{xs1 xs2:List Value}(h1:w.ownsRow b1 e1 1 v1 n1 xs1)(h2:w.ownsRow b2 e2 1 v2 n2 xs2)(he:e1≠e2):∀g,v1.ownBlock=some g->v2.ownBlock≠some g:=by
 intro g hg ab;rcases h1.2 with⟨rfl,_⟩|⟨g1,_,_,rfl,_,ad,_⟩
 .cases hg
 rcases h2.2 with⟨rfl,_⟩|⟨g2,_,_,rfl,_,aa,_⟩
 .cases ab
 cases hg;cases ab;rw[ad] at aa;exact he (by simpa using(Obj.cells.inj (Option.some.inj aa)).2.1)
theorem zL{w:World}{base:Nat}{e:TypeId}{v:Value}{l:List ByteArray}(h:w.ownsRow base e 1 v l.length (l.map .string)):
 ∃p cap,v=.slice p l.length cap/\l.length<=maxLen/\kG w w.heap.size p l.length (λi=>sA (l.getD i ByteArray.empty)):=by
 rcases h.2 with⟨rfl,hn⟩|⟨g,cap,cur,rfl,hb,hg,aa,ab,hcs,ht⟩
 .exact ⟨none,0,by rw[hn],by rw[hn];exact Nat.zero_le _,λi hi=>by omega⟩
 refine⟨_,cap,rfl,Nat.le_trans aa ab,λi hi=>⟨g,0,rfl,?_,?_⟩⟩
 .rcases Nat.lt_or_ge g w.heap.size with h'|h'
  .exact h'
  simp[Array.getElem?_eq_none h'] at hg
 rw[cell_of_row w g (0+i) _ e _ hg,Nat.zero_add];have e1:(cur.toList.take (l.length*1))[i]? =(l.map Value.string)[i]? :=by rw[ht]
 rw[List.getElem?_take,if_pos (by omega)] at e1;rw[<-Array.getElem?_toList,e1,List.getElem?_map];simp only[List.getD_eq_getElem?_getD,List.getElem?_eq_getElem hi];rfl
theorem zS{a b:Bool}(h:a=b):Ending.returned (bA a)=.returned (bA b):=by rw[h]
section
variable{P:Program}
theorem zcz{ops:Array Oper}{Q:Exit->Act->World->Prop}{md:Region.Mode}{S:World->Prop}(i:Nat)(d:Option Tmp)(v:Value){oi:Oper}{fuel:Nat}{listed:Array Bool}{a:Act}{w:World}(hi:ops[i]? =some oi)(hd:oi.dst=d)
 (hs:Region.noSelect ops=true) (hf:Region.free md ops listed i=true) (hr:(Region.ready md ops listed).contains i=true)
 (hQ:∀c a w,Q (.panic c) (a.put d v) w->Q (.panic c) a w) (hy:YieldsIf P ops S oi v a) (hS:S w)
 (h:wpAnyH P md ops Q S fuel (listed.setIfInBounds i true) (a.put d v) w):wpAnyH P md ops Q S (fuel+1) listed a w:=by
 subst hd;exact wpAnyH_take hi hs hf hr hQ hy hS h
theorem kB(w:World)(g:Nat)(t ty:TypeId)(C D:Array Value)(hg:w.heap[g]? =some (.cells C t (0,0)))(hC:C.size=D.size)(h1:∀v∈D.toList,v.oneCell'=true)(hi:(P.info? ty).map (·.size)=some D.size):
 (storeVar ty (aA g 0) (.agg D)).run P w=.ok () (w.setRow g D):=by
 have h:=run_storeCells_at P g 0 t D.toList 0 C w hg (by simp[hC]) h1;have e:(C.toList.take (0+0)++D.toList++C.toList.drop (0+0+D.toList.length)).toArray=D:=by
  rw[Nat.add_zero,List.take_zero,List.nil_append,List.drop_of_length_le (by simp[hC]),List.append_nil,Array.toArray_toList]
 rw[e] at h;cases hq:P.info? ty with
 |none=>simp[hq] at hi
 |some i=>
  have hs:i.size=D.size:=by simpa [hq] using hi
  simp[storeVar,sizeOf,typeInfo,hq,Value.cells,hs,h]
theorem zi{ops:Array Oper}{rest:List Oper}{op:Oper}{a:Act}{w:World}{Q:Exit->Act->World->Prop}(hgd:op.guard=none)(ty:TypeId)(p y:Operand)(ho:op.op=.store ty p y)
 (g:Nat) (D:Array Value) (hp:a.eval p=pA g 0) (hy:a.eval y=.agg D) (t:TypeId) (C:Array Value) (hg:w.heap[g]? =some (.cells C t (0,0))) (hC:C.size=D.size) (h1:∀v∈D.toList,v.oneCell'=true) (hi:(P.info? ty).map (·.size)=some D.size)
 (h:∀w',w'.heap[g]? =some (.cells D t (0,0))->ko g w w'->wpList P ops Q rest (a.put op.dst undef) w'):wpList P ops Q (op::rest) a w:=
 wpList_plain hgd λ_ hK=>by
  unfold Oper.wp execOp;simp only[ho,hp,hy,Instr.storeAt,Instr.sureAddr,Sem.run_bind,Sem.run_pure,Result.andThen_ok,kB w g t ty C D hg hC h1 hi];exact hK _ _ (h _ (setRow_heap _ _ C _ t (0,0) hg) (yW _ _ _))
end
theorem Tryz.zdz:(prog.info? 9).map (λi=>(i.zero,i.size,i.bytes))=some (some (sA ByteArray.empty),1,16):=by kernel_rfl
def VA(f:Nat->Value)(n:Nat)(m:Value):List Value:=(List.range n).map f++List.replicate 8 m
theorem X6(f:Nat->Value)(n:Nat)(m:Value)(i:Nat)(hi:i<n+8):(VA f n m)[i]? =some (if i<n then f i else m):=by
 unfold VA;by_cases h:i<n
 .rw [if_pos h,List.getElem?_append_left (by simpa using h)];simp[h]
 rw[if_neg h,List.getElem?_append_right (by simp;omega)];rw[List.getElem?_replicate,if_pos (by simp;omega)]
theorem Km(t e:TypeId)(hu:prog.underlying t=some (.slice e))(a:Option Addr)(n c:Nat)(W:World):(binOp .eql t (.slice a n c) (.slice none 0 0)).run prog W=.ok (bA a.isNone) W:=Lib.run_eql_slice_nil W t e a n c 0 0 hu
theorem Tryz.zeh:(prog.info? 3).map (λi=>(i.zero,i.size,i.bytes))=some (some (iA 0),1,8):=by kernel_rfl
def byt(t:ByteArray)(i:Nat):Int:=((t.data.toList.getD i 0).toNat:Int)
theorem qs(t:ByteArray)(i:Nat):0<=byt t i/\byt t i<=255:=by
 unfold byt;have:=(t.data.toList.getD i 0).toNat_lt;omega
theorem zY(t:ByteArray)(i:Nat)(h:i<t.size)(W:World):(Instr.index 9 (sA t) (iA i)).run prog W=.ok (.int .u8 (byt t i)) W:=by
 rw[run_index_string _ _ _ _ _ underlying9];have e:byt t i=(t[i].toNat:Int):=by
  unfold byt;have hl:i<t.data.toList.length:=by simpa using h
  rw[List.getD_eq_getElem?_getD,List.getElem?_eq_getElem hl];rfl
 simp[h,e]
theorem zj{w:World}{g:Nat}{o:Obj}(h:w.heap[g]? =some o):g<w.heap.size:=by
 rcases Nat.lt_or_ge g w.heap.size with h'|h'
 .exact h'
 simp[Array.getElem?_eq_none h'] at h
def ga(p:Option Addr)(n cap:Nat):Prop:=(p=none/\n=0/\cap=0)\/∃b o,p=some (aA b o)

import Derived.Test.YtcfjhbcpjpgodaaGreatDoorJ40
import Derived.Test.YtcfjhbcpjpgodaaGreatDoorJ36
namespace Go.Proofs.YtcfjhbcpjpgodaaGreatDoor
open Go.RowKit Proofs.Tryz
variable{w w':World}{es:List Addr}{F R:Nat->Prop}{B rb n a b:Nat}{m:Int}
theorem zeL{ab:Nat}{ak at1 af ac mk mh mr mf mv:Int}{mn:Bool}{ms rec:zj5}{t:TypeId}(h:w.heap[ab]? =some (.cells #[.int .i64 ak,.int .i64 at1,.int .i64 af,.int .i64 ac,.int .i64 mk,.int .i64 mh,.int .i64 mr,.int .i64 mf,.int .i64 mv,.bool mn,.string ms,.string rec] t (0,0))):w.rangeAt ab 4 [.int .i64 mk,.int .i64 mh,.int .i64 mr,.int .i64 mf,.int .i64 mv,.bool mn,.string ms]:=λj v hv=>by
 match j,hv with
 |0,hv=>simp at hv;subst hv;exact zjD w ab 4 _ _ _ h
 |1,hv=>simp at hv;subst hv;exact zjD w ab 5 _ _ _ h
 |2,hv=>simp at hv;subst hv;exact zjD w ab 6 _ _ _ h
 |3,hv=>simp at hv;subst hv;exact zjD w ab 7 _ _ _ h
 |4,hv=>simp at hv;subst hv;exact zjD w ab 8 _ _ _ h
 |5,hv=>simp at hv;subst hv;exact zjD w ab 9 _ _ _ h
 |6,hv=>simp at hv;subst hv;exact zjD w ab 10 _ _ _ h
 |j+7,hv=>simp at hv
theorem xL{o:Option (Int×Nat)}{e:Ending}(h:zdJ es o w F R e w'):∃v,e=.returned v:=by
 unfold zdJ at h;split at h
 .exact ⟨_,h⟩
 obtain⟨g,a,h1,_⟩:=h;exact⟨_,h1⟩
theorem vt{Fs:Nat->Nat->Prop}{nbs ks cbs:Nat->Nat}{T cc:Nat}{gv kv nv sv:Value}{st:Nat->za}{said:List zj5}{W:World}(h:kR B es m Fs R nbs ks cbs rb n T cc gv kv nv sv st said w)(i:Nat)(hi:i<n)(fr:zj5)(hW:Below w.heap.size w W)(hT:T<=1000000000000):
 Calls prog 29 #[.pointer (some ⟨nbs i,0,none⟩),.string fr] W (Xn B es m (Fs i) R (nbs i) (ks i) rb (cbs i) n i (st i) fr w):=by
 refine(qM fr ((h.below hW).city.node i hi) (h.below hW).city.globR (h.city.ok i hi) hT (by omega)).mono ?_;rintro e w' ⟨F',R',h1,h2,h3⟩;refine⟨F',R',h1,(Goes.below hW).trans h2,?_⟩;unfold zdJ at h3 ⊢;split at h3
 .exact h3
 obtain⟨g,a,e1,e2,e3,e4⟩:=h3;exact⟨g,a,e1,e2,zjF hW.size e3,e4⟩
theorem Tryz.zhc:(prog.info? 135).map (·.size)=some 54:=by kernel_rfl
theorem Z7(h:a=b)(w:World):(binOp .eql 26 (.pointer (some ⟨a,0,none⟩)) (.pointer (some ⟨b,0,none⟩))).run prog w=.ok (.bool true) w:=by
 subst h;obtain⟨j,hj,hjs⟩:=Option.map_eq_some_iff.1 Tryz.zhc;exact run_eql_ptr_same (P:=prog) w ⟨a,0,none⟩ underlying26 hj
theorem Zb{C D:Array Value}{t u:TypeId}(h:a≠b)(ha:w.heap[a]? =some (.cells C t (0,0)))(hb:w.heap[b]? =some (.cells D u (0,0))):(binOp .eql 26 (.pointer (some ⟨a,0,none⟩)) (.pointer (some ⟨b,0,none⟩))).run prog w=.ok (.bool false) w:=by
 obtain⟨j,hj,aa⟩:=Option.map_eq_some_iff.1 Tryz.zhc;exact run_eql_ptr_other (P:=prog) w underlying26 hj (by rw[aa];decide) (λe=>h (congrArg Addr.block e)) ha hb
theorem NodeW.ziJ{nb kb cb i:Nat}{s:za}(h:NodeW B es m F R nb kb rb cb n i s w):∃C,w.heap[nb]? =some (.cells C 135 (0,0)):=by
 obtain⟨V,hA,_⟩:=h.node;exact⟨_,hA.blk⟩
theorem xD(x:Int)(h0: -9223372036854775808<=x)(h1:x<=9223372036854775807):IntKind.i64.wrap x=x:=by
 have h:=wrap_i64_ediv x 1 h0 h1 (by omega);rw[Int.ediv_one] at h;exact h
theorem Below.zjw(h:Below B w w')(hB:B<=w.heap.size):B<=w'.heap.size:=zjF hB h.size

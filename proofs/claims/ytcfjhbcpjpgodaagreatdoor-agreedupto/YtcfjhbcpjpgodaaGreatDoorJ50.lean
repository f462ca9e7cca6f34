/- Proved here: a list of numbers, and a list of texts, that came in as arguments, as the walk wants them: by number, with the bounds that the second form's bulk gives. -/
import Derived.Test.YtcfjhbcpjpgodaaGreatDoorRows
import Derived.Test.YtcfjhbcpjpgodaaGreatDoorJ14
import Derived.SliceStrings
import Derived.ChangeSlices
import Derived.WideShapes
import Derived.ProofKit
import Derived.OpenShut
import Derived.Test.YtcfjhbcpjpgodaaGreatDoorJ48
import Derived.Deep.Slices
namespace Go.Proofs.YtcfjhbcpjpgodaaGreatDoor
open Go.ChangeShapes Go.WideShapes Go.ChangeAt Go.RowKit Go.Proofs.Tryz
set_option maxRecDepth 100000
variable{W:World}{fuel:Nat}{sp:Nat→Bool}{held:Bool}{cs:List Value}{p:List MemPlace}
theorem bulk_pos{H:Type}(d:DataW H):1≤Rows.uptoBulk d:=by
 cases d with
 |lit l=>cases l<;>simp[Rows.uptoBulk]
 |nil=>simp[Rows.uptoBulk]
 |ptr d=>simp[Rows.uptoBulk]
 |slice elems spare=>simp[Rows.uptoBulk]
 |agg parts=>simp[Rows.uptoBulk]
 |iface t d=>simp[Rows.uptoBulk]
 |map entries=>simp[Rows.uptoBulk]
 |held h=>simp[Rows.uptoBulk]
theorem bulk_len{H:Type}:∀l:List (DataW H),l.length≤Rows.uptoBulkAll l
 | []=>Nat.zero_le _
 |x::l=>by
  have h1:=bulk_pos x;have h2:=bulk_len l;simp only[Rows.uptoBulkAll,List.length_cons];omega
theorem bulk_mem{H:Type}{d:DataW H}:∀{l:List (DataW H)},d∈l→Rows.uptoBulk d≤Rows.uptoBulkAll l
 |x::l,h=>by
  simp only[Rows.uptoBulkAll];rcases List.mem_cons.1 h with rfl|h
  .omega
  .have:=bulk_mem h
   omega
theorem ok_spot{base:Nat}{t e:TypeId}{a:Addr}{n cap:Nat}(hu:prog.underlying t=some (.slice e))(h:Value.okWide prog W .any base t (.slice (some a) n cap)):a.spot=none:=by
 simp only[Value.okWide,hu,Cell.okWide,Cell.ok] at h;exact h.2.2.2.1
theorem Tryz.cellsI:prog.cellsOf 3=1:=by kernel_rfl
theorem Tryz.cellsActA:prog.cellsOf 81=12:=by kernel_rfl
theorem Tryz.cellsMsgA:prog.cellsOf 57=7:=by kernel_rfl
theorem Tryz.cellsIntA:prog.cellsOf 3=1:=by kernel_rfl
theorem Tryz.cellsBoolA:prog.cellsOf 4=1:=by kernel_rfl
theorem Tryz.cellsStrA:prog.cellsOf 9=1:=by kernel_rfl
theorem actMsg_of_cells{H:Type}{enc:TypeId×Value→H}{base:Nat}{d:DataW H}(hl:cs.length=7)(h:DataW.trod enc prog W base sp held fuel 57 cs=some (d,p)):
 p=[]∧∃m:MsgV,cs=m.cells.toList∧in64 m.f∧m.s.size≤Rows.uptoBulk d:=by
 obtain⟨xs,n,_,hx,_,hlen,hf⟩:=DataW.trod_struct underlying57 h;match cs,hl,xs,hlen with
 | [c0,c1,c2,c3,c4,c5,c6],_,[y0,y1,y2,y3,y4,y5,y6],_=>
  have t0:=hf 0 _ rfl;have t1:=hf 1 _ rfl;have t2:=hf 2 _ rfl;have t3:=hf 3 _ rfl;have t4:=hf 4 _ rfl;have t5:=hf 5 _ rfl;have t6:=hf 6 _ rfl;simp[Tryz.cellsIntA,Tryz.cellsBoolA,Tryz.cellsStrA] at t0 t1 t2 t3 t4 t5 t6;obtain⟨K,e0,rfl,_⟩:=DataW.trod_int underlying3 t0;obtain⟨H',e1,rfl,_⟩:=DataW.trod_int underlying3 t1;obtain⟨R,e2,rfl,_⟩:=DataW.trod_int underlying3 t2;obtain⟨F,e3,rfl,wF⟩:=DataW.trod_int underlying3 t3;obtain⟨V,e4,rfl,_⟩:=DataW.trod_int underlying3 t4;obtain⟨nl,e5,rfl⟩:=DataW.trod_bool underlying4 t5;obtain⟨s,e6,rfl,hs⟩:=DataW.trod_string underlying9 t6;simp only[List.cons.injEq,and_true] at e0 e1 e2 e3 e4 e5 e6;subst e0 e1 e2 e3 e4 e5 e6;have hx1:=congrArg (·.1) hx;have hx2:=congrArg (·.2) hx;simp only at hx1 hx2;refine⟨by simpa using hx2,⟨K,H',R,F,V,nl,s⟩,rfl,⟨(bounds_i64 wF).1,(bounds_i64 wF).2⟩,?_⟩;rw[hx1];simp[Rows.uptoBulk,Rows.uptoBulkAll];first|omega|done
theorem act_of_cells{H:Type}{enc:TypeId×Value→H}{base:Nat}{d:DataW H}(hl:cs.length=12)(hd:Rows.uptoBulk d≤1048576)(h:DataW.trod enc prog W base sp held fuel 81 cs=some (d,p)):
 p=[]∧∃a:ActV,cs=a.cells.toList∧ActOk a:=by
 obtain⟨xs,n,_,hx,_,hlen,hf⟩:=DataW.trod_struct underlying81 h;match cs,hl,xs,hlen with
 | [c0,c1,c2,c3,c4,c5,c6,c7,c8,c9,c10,c11],_,[y0,y1,y2,y3,y4,y5],_=>
  have t0:=hf 0 _ rfl;have t1:=hf 1 _ rfl;have t2:=hf 2 _ rfl;have t3:=hf 3 _ rfl;have t4:=hf 4 _ rfl;have t5:=hf 5 _ rfl;simp[Tryz.cellsIntA,Tryz.cellsStrA,Tryz.cellsMsgA] at t0 t1 t2 t3 t4 t5;obtain⟨K,e0,rfl,w0⟩:=DataW.trod_int underlying3 t0;obtain⟨T,e1,rfl,w1⟩:=DataW.trod_int underlying3 t1;obtain⟨F,e2,rfl,w2⟩:=DataW.trod_int underlying3 t2;obtain⟨C,e3,rfl,w3⟩:=DataW.trod_int underlying3 t3;obtain⟨y4d,y4p⟩:=y4;obtain⟨hp4,m,e4,hmf,hms⟩:=actMsg_of_cells rfl t4;obtain⟨s,e5,rfl,hs⟩:=DataW.trod_string underlying9 t5;obtain⟨mk,mh,mr,mf,mv,mn,ms⟩:=m;simp only[MsgV.cells,List.cons.injEq,and_true] at e0 e1 e2 e3 e4 e5;obtain⟨rfl,rfl,rfl,rfl,rfl,rfl,rfl⟩:=e4;subst e0 e1 e2 e3 e5;have hx1:=congrArg (·.1) hx;have hx2:=congrArg (·.2) hx;simp only at hx1 hx2;rw[hx1] at hd;simp[Rows.uptoBulk,Rows.uptoBulkAll] at hd;have hms':ms.size≤Rows.uptoBulk y4d:=hms;refine⟨by rw[hx2];simpa using hp4,⟨K,T,F,C,⟨mk,mh,mr,mf,mv,mn,ms⟩,s⟩,rfl,⟨⟨(bounds_i64 w0).1,(bounds_i64 w0).2⟩,⟨(bounds_i64 w1).1,(bounds_i64 w1).2⟩,⟨(bounds_i64 w2).1,(bounds_i64 w2).2⟩,⟨(bounds_i64 w3).1,(bounds_i64 w3).2⟩,hmf,?_⟩⟩;show ms.size≤_;omega
def act0:ActV:=⟨0,0,0,0,⟨0,0,0,0,0,false,ByteArray.empty⟩,ByteArray.empty⟩
theorem open_acts{H:Type}{enc:TypeId×Value→H}{base:Nat}{v:Value}{d:DataW H}(hd:Rows.uptoBulk d≤1048576)(hv:Value.okWide prog W .any base 75 v)(h:DataW.Trod enc prog W 0 (fun _=>true) true 75 v d p):
 ∃(pa:Option Addr) (n cap:Nat) (a:Nat→ActV),v=.slice pa n cap∧ActsAt W W.heap.size pa n a∧(∀i,i<n→ActOk (a i))∧n≤Rows.uptoBulk d∧∀x∈p,x.block<W.heap.size:=by
 obtain⟨pa,n,cap,rfl⟩:=okWide_slice underlying75 hv;obtain⟨fuel,hf⟩:=h;have hf':DataW.trod enc prog W 0 (fun _=>true) true fuel 75 [.slice pa n cap]=some (d,p):=hf;rcases Deep.open_slice underlying75 hf' with⟨hcs,hx⟩|⟨a,len,cap',m,k,D,Pl,hcs,_,hl,hm,hmm,hx,hel⟩
 .simp at hcs hx;obtain⟨rfl,rfl,rfl⟩:=hcs;obtain⟨rfl,rfl⟩:=hx;exact⟨none,0,0,fun _=>act0,rfl,fun i hi=>by omega,fun i hi=>by omega,Nat.zero_le _,fun x hx=>by cases hx⟩
 simp only[List.cons.injEq,Value.slice.injEq,and_true] at hcs;obtain⟨rfl,rfl,rfl⟩:=hcs;simp only[Prod.mk.injEq] at hx;obtain⟨rfl,rfl⟩:=hx;simp only[if_true] at hmm;obtain⟨b,o,sp⟩:=a;obtain rfl:sp=none:=ok_spot underlying75 hv;rw[Tryz.cellsActA] at hel ⊢;have hDb:∀i,i<m→Rows.uptoBulk (D i)≤1048576:=fun i hi=>by
  simp only[Rows.uptoBulk] at hd;by_cases hin:i<n
  .have:=bulk_mem (H:=H) (d:=D i) (l:=(List.range n).map D) (List.mem_map.2 ⟨i,by simpa using hin,rfl⟩)
   omega
  have:=bulk_mem (H:=H) (d:=D i) (l:=(List.range (m-n)).map fun j=>D (n+j)) (List.mem_map.2 ⟨i-n,by simp;omega,by rw[show n+(i-n)=i by omega]⟩);omega
 have each:∀i,i<m→∃q:ActV,Pl i=[]∧W.rangeAt b (o+i*12) q.cells.toList∧ActOk q:=fun i hi=>by
  obtain⟨cs',h1,h2⟩:=hel i hi;obtain⟨_,hlen,hcell⟩:=World.cells?_some h1;obtain⟨hp,q,rfl,hq⟩:=act_of_cells hlen (hDb i hi) h2;refine⟨q,hp,fun j u hj=>?_,hq⟩;have hj9:j<12:=by have:=(List.getElem?_eq_some_iff.1 hj).1;omega
  have e:=hcell j (by omega);rw[addr_add,addr_add] at e;rw[e,←hj]
 haveI:Inhabited ActV:=⟨act0⟩;obtain⟨ts,hts⟩:=Deep.choose_lt each;refine⟨some ⟨b,o,none⟩,n,cap,ts,rfl,fun i hi=>⟨b,o,rfl,?_,(hts i (by omega)).2.1⟩,fun i hi=>(hts i (by omega)).2.2,?_,fun x hx=>?_⟩
 .have h2:=(hts i (by omega)).2.1 0 _ rfl;exact World.block_lt_of_cell? _ _ h2
 .have h1:=bulk_len (H:=H) ((List.range n).map D);simp only[Rows.uptoBulk];simp at h1;omega
 rcases List.mem_append.1 hx with hx|hx
 .simp only[MemPlace.row,List.mem_map,List.mem_range] at hx;obtain⟨i,hi,rfl⟩:=hx;have h2:=(hts (i / 12) (by omega)).2.1 0 _ rfl;exact World.block_lt_of_cell? _ _ h2
 rw[List.mem_flatMap] at hx;obtain⟨i,hi,hx⟩:=hx;rw[(hts i (by simpa using hi)).1] at hx;cases hx
end Go.Proofs.YtcfjhbcpjpgodaaGreatDoor

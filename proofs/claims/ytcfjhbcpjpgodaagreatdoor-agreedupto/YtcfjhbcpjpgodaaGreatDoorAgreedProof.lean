/- Proved here: AgreedUptoCardSaid: called with whatever list of numbers, whatever two numbers and whatever acts (together of the form's bulk), in whatever world in which the listed variables lie as the program's text lays them, Agreed returns true, and whatever was there reads as it did. -/
import Derived.Test.YtcfjhbcpjpgodaaGreatDoorCards
import Derived.Test.YtcfjhbcpjpgodaaGreatDoorTie
import Derived.Test.YtcfjhbcpjpgodaaGreatDoorJ49
import Derived.Test.YtcfjhbcpjpgodaaGreatDoorJ50
import Derived.LaidHandle
import Derived.ProofKit
import Derived.LaidMore
import Derived.OpenShut
import Derived.Stop.Joined
import Derived.Deep.DeepHandedRow
import Derived.Deep.DeepWitnessRowRef
import Derived.Shelf.Vars
namespace Go.Proofs.YtcfjhbcpjpgodaaGreatDoor
open Go.ChangeShapes Go.WideShapes Go.ChangeAt Go.RowKit Go.Proofs.Tryz
set_option maxRecDepth 100000
variable{W:World}
theorem agreed_own:ownKnob prog.godebug=none:=by kernel_rfl
theorem laidMet_tail{P:Program}{x:String×DataW Unit}{r:List (String×DataW Unit)}{w:World}(h:laidMet P (x::r) w):laidMet P r w:=by
 obtain⟨ps,hv,hnd,hrows⟩:=h;obtain⟨g,t,cs,fuel,p,q,_,_,_,_,hq,rfl⟩:=hv;refine⟨q,hq,List.Nodup.sublist (List.sublist_append_right _ _) hnd,fun b off hm=>hrows b off (by simp[hm])⟩
theorem Tryz.etC:prog.globalNamed "errors.errorType" =some 12:=by kernel_rfl
theorem Tryz.rtC:(prog.cutTypes.find? (·.1== "internal/reflectlite.rtype")).map (·.2)=some 211:=by kernel_rfl
theorem Tryz.oneRowC:((List.range 323).filter fun t=>prog.rowNamed t [101,114,114,111,114])=[42]:=by kernel_rfl
theorem Tryz.sizeC:prog.types.size=323:=by kernel_rfl
theorem Tryz.handleC:typeHandle prog 42=.pointer (some ⟨16,42,none⟩):=by kernel_rfl
theorem agreed_parts(h:laidMetH prog Rows.agreedUptoRow.laid W):(∃es,Sent es W)∧TypAt W:=by
 have f1:(Rows.agreedUptoRow.laid.filter fun x=>x.2.handleName?.isSome)=[("errors.errorType",Rows.laid_errors_errorType)]:=by kernel_rfl
 have f2:(Rows.agreedUptoRow.laid.filter fun x=>x.2.handleName?.isNone)=("unicode/utf8.acceptRanges",Rows.laid_unicode_utf8_acceptRanges)::(sentNames.map (fun x=>(x.1,.iface "*errors.errorString" (.ptr (.agg [.lit (.string x.2)]))))++[("unicode/utf8.first",Rows.laid_unicode_utf8_first)]):=by kernel_rfl
 unfold laidMetH at h;rw[f1,f2] at h;have h':laidMet prog (("unicode/utf8.acceptRanges",Rows.laid_unicode_utf8_acceptRanges)::(sentNames.map (fun x=>(x.1,.iface "*errors.errorString" (.ptr (.agg [.lit (.string x.2)]))))++[("unicode/utf8.first",Rows.laid_unicode_utf8_first)])) W∧handlesMet prog [("errors.errorType",Rows.laid_errors_errorType)] W:=h;refine⟨sent_of_laid [("unicode/utf8.first",Rows.laid_unicode_utf8_first)] (laidMet_tail h'.1),?_⟩;obtain⟨name,u,ty,e1,e2,e3,e4,e5⟩:=h'.2 _ (List.mem_singleton.2 rfl);have en:name=[101,114,114,111,114]:=(Option.some.inj e1).symm;subst en;obtain rfl:=Option.some.inj (Tryz.rtC.symm.trans e2);have hm:ty∈(List.range 323).filter fun t=>prog.rowNamed t [101,114,114,111,114]:=List.mem_filter.2 ⟨List.mem_range.2 (by rw[←Tryz.sizeC];exact e3),e4⟩;rw[Tryz.oneRowC] at hm;obtain rfl:=List.mem_singleton.1 hm;rw[Tryz.handleC] at e5;unfold TypAt;simpa using World.var?_cell Tryz.etC e5 0
theorem open_numsS{H:Type}{enc:TypeId×Value→H}{base:Nat}{v:Value}{d:DataW H}{p:List MemPlace}(hv:Value.okWide prog W .any base 22 v)(h:DataW.Trod enc prog W 0 (fun _=>true) true 22 v d p):
 ∃(pa:Option Addr) (n cap:Nat) (g:Nat→Int),v=.slice pa n cap∧Lies W W.heap.size pa n (fun i=>.int .i64 (g i))∧n≤Rows.uptoBulk d∧(∀i,i<n→-9223372036854775808≤g i∧g i≤9223372036854775807)∧∀x∈p,x.block<W.heap.size:=by
 obtain⟨pa,n,cap,rfl⟩:=okWide_slice underlying22 hv;obtain⟨fuel,hf⟩:=h;have hf':DataW.trod enc prog W 0 (fun _=>true) true fuel 22 [.slice pa n cap]=some (d,p):=hf;rcases open_ints underlying22 underlying3 Tryz.cellsI hf' with⟨hcs,hx⟩|⟨a,len,cap',zs,hcs,_,hl,hm,hz,hx,hcell,hwf⟩
 .simp at hcs hx;obtain⟨rfl,rfl,rfl⟩:=hcs;obtain⟨rfl,rfl⟩:=hx;exact⟨none,0,0,fun _=>0,rfl,fun i hi=>by omega,Nat.zero_le _,fun i hi=>by omega,fun x hx=>by cases hx⟩
 simp at hcs hx;obtain⟨rfl,rfl,rfl⟩:=hcs;obtain⟨rfl,rfl⟩:=hx;simp only[if_true] at hz;obtain⟨b,o,sp⟩:=a;obtain rfl:sp=none:=ok_spot underlying22 hv;have hc2:∀i,i<zs.length→W.cell? ⟨b,o+i,none⟩=some (.int .i64 (zs.getD i 0)):=fun i hi=>by rw[←addr_add];exact hcell i hi
 refine⟨_,n,cap,fun i=>zs.getD i 0,rfl,fun i hi=>⟨b,o,rfl,World.block_lt_of_cell? _ _ (hc2 i (by omega)),hc2 i (by omega)⟩,?_,fun i hi=>?_,fun x hx=>?_⟩
 .have h1:=bulk_len (H:=H) (lits .i64 (zs.take n));have h2:(lits (H:=H) .i64 (zs.take n)).length=n:=by simp[lits];omega
  simp only[Rows.uptoBulk];omega
 .have h1:zs.getD i 0∈zs:=by rw[List.getD_eq_getElem?_getD,List.getElem?_eq_getElem (by omega)];exact List.getElem_mem (by omega)
  have h2:=bounds_i64 (hwf _ h1);exact⟨h2.1,h2.2⟩
 simp only[MemPlace.row,List.mem_map,List.mem_range] at hx;obtain⟨i,hi,rfl⟩:=hx;exact World.block_lt_of_cell? _ _ (hc2 i hi)

theorem agreed_door(os:Os)(args:Array Value):laidMetH prog Rows.agreedUptoRow.laid (({ World.doorLaid prog 254 os with heap:=(((World.doorLaid prog 254 os).heap.modify 12 fun o=>match o with| .cells _ t frozen=>.cells #[.iface 211 (.agg #[.pointer (some ⟨16,42,none⟩)])] t frozen|o=>o).modify 15 fun o=>match o with| .cells _ t frozen=>.cells ([128,191,160,191,128,159,144,191,128,143,0,0,0,0,0,0,0,0,0,0,0,0,0,0,0,0,0,0,0,0,0,0].map fun(z:Nat)=>Value.int .u8 (z:Int)).toArray t frozen|o=>o).modify 14 fun o=>match o with| .cells _ t frozen=>.cells (Go.Pinned.utf8FirstZ.map fun(z:Nat)=>Value.int .u8 (z:Int)).toArray t frozen|o=>o } : World).forCall (fun _ _=>0) ⟨#[],args,[]⟩).memory:=
 laidMetH_of_parts (laidMet_of_run' 8 (by kernel_rfl) (by kernel_rfl)) (by kernel_rfl)
theorem agreed_reads(os:Os){H:Type}(enc:TypeId×Value→H):∃places,DataW.whole enc prog (({ World.doorLaid prog 254 os with heap:=(((World.doorLaid prog 254 os).heap.modify 12 fun o=>match o with| .cells _ t frozen=>.cells #[.iface 211 (.agg #[.pointer (some ⟨16,42,none⟩)])] t frozen|o=>o).modify 15 fun o=>match o with| .cells _ t frozen=>.cells ([128,191,160,191,128,159,144,191,128,143,0,0,0,0,0,0,0,0,0,0,0,0,0,0,0,0,0,0,0,0,0,0].map fun(z:Nat)=>Value.int .u8 (z:Int)).toArray t frozen|o=>o).modify 14 fun o=>match o with| .cells _ t frozen=>.cells (Go.Pinned.utf8FirstZ.map fun(z:Nat)=>Value.int .u8 (z:Int)).toArray t frozen|o=>o } : World).forCall (fun _ _=>0) ⟨#[],#[.slice none 0 0,.int .i64 0,.int .i64 0,.slice none 0 0],[]⟩).memory Tryz.f5.params.toList Rows.agreedSpec.vars false #[Value.slice none 0 0,Value.int .i64 0,Value.int .i64 0,Value.slice none 0 0].toList 8=some ([.nil,.lit (.int .i64 0),.lit (.int .i64 0),.nil],[],places):=
 ⟨[],by kernel_rfl⟩
theorem agreed_lifted(os:Os)(started:os.Started)(H:Type)(enc:TypeId×Value→H)(F:Stop.Interp):
 ReturnsInHanded {} Tryz.checked os 5 .any ((Rows.OpenSpec.upto Rows.agreedSpec).preRow enc prog Tryz.f5 Rows.agreedUptoRow.domain false Rows.agreedUptoRow.laid) (((Rows.OpenSpec.upto Rows.agreedSpec).at F).post enc prog Tryz.f5 false true false false):=by
 obtain⟨places,hx⟩:=agreed_reads os enc;refine returnsInHanded_of_row (C:=Tryz.checked) (s:=Rows.OpenSpec.upto Rows.agreedSpec) agreed_own started (by kernel_rfl) func5
  (witness_row_atRef (enc:=enc) (C:=Tryz.checked) false ({ World.doorLaid prog 254 os with heap:=(((World.doorLaid prog 254 os).heap.modify 12 fun o=>match o with| .cells _ t frozen=>.cells #[.iface 211 (.agg #[.pointer (some ⟨16,42,none⟩)])] t frozen|o=>o).modify 15 fun o=>match o with| .cells _ t frozen=>.cells ([128,191,160,191,128,159,144,191,128,143,0,0,0,0,0,0,0,0,0,0,0,0,0,0,0,0,0,0,0,0,0,0].map fun(z:Nat)=>Value.int .u8 (z:Int)).toArray t frozen|o=>o).modify 14 fun o=>match o with| .cells _ t frozen=>.cells (Go.Pinned.utf8FirstZ.map fun(z:Nat)=>Value.int .u8 (z:Int)).toArray t frozen|o=>o } : World) #[.slice none 0 0,.int .i64 0,.int .i64 0,.slice none 0 0] rfl (by kernel_rfl) (by kernel_rfl) (by kernel_rfl)
   (OpenSpec.preRow_of_cond 8 hx (by kernel_rfl) (fun k hk=>by cases hk;kernel_rfl) (by kernel_rfl) (agreed_door os _))) ?_
 intro W base args ds gs before hval0 hW _ hcond _ hL hsh _;have hval:∀(j:Nat) t v,Tryz.f5.params[j]? =some t→args[j]? =some v→Value.okWide prog W .any base t v:=hval0;have hW':=hW;obtain⟨p,q,hA0,hV,rfl,hfz,hnd⟩:=hW;have hA:DataW.TrodAll enc prog W 0 (fun _=>true) true Tryz.f5.params.toList args.toList ds p:=hA0;rw[Tryz.params5] at hA hval;obtain⟨v0,vs0,d0,ds0,p0,q0,ea0,rfl,rfl,h0,hA1⟩:=trodAll_cons hA;obtain⟨v1,vs1,d1,ds1,p1,q1,ea1,rfl,rfl,h1,hA2⟩:=trodAll_cons hA1;obtain⟨v2,vs2,d2,ds2,p2,q2,ea2,rfl,rfl,h2,hA3⟩:=trodAll_cons hA2;obtain⟨v3,vs3,d3,ds3,p3,q3,ea3,rfl,rfl,h3,hA4⟩:=trodAll_cons hA3;obtain⟨rfl,rfl,rfl⟩:=trodAll_nil hA4;have eargs:args=#[v0,v1,v2,v3]:=by
  apply Array.toList_inj.1;rw[ea0,ea1,ea2,ea3]
 subst eargs;clear ea0 ea1 ea2 ea3;obtain⟨rfl,rfl⟩:=trodVars_none hV;obtain⟨⟨es,hS⟩,hTy⟩:=agreed_parts hL;obtain⟨m,hm⟩:=cell_of_shapedOpen_int (P:=prog) (g:=13) (t:=3) (zero:=#[.int .i64 0]) hsh (of_decide_eq_true (by kernel_rfl)) (by kernel_rfl) rfl (by kernel_rfl) (by kernel_rfl) underlying3;have hk:=hcond _ rfl;have hbd:Rows.uptoBulk d0+Rows.uptoBulk d1+Rows.uptoBulk d2+Rows.uptoBulk d3≤1048576:=by
  have h2:=of_decide_eq_true hk;simp only[List.cons_append,List.nil_append,Rows.uptoBulkAll] at h2;omega
 obtain⟨pa,n,cap,g,rfl,hl,hn,hgb,hlt0⟩:=open_numsS (hval 0 22 v0 rfl rfl) h0;obtain⟨s1,rfl,rfl,rfl,w1⟩:=open_int underlying3 (hval 1 3 v1 rfl rfl) h1;obtain⟨s2,rfl,rfl,rfl,w2⟩:=open_int underlying3 (hval 2 3 v2 rfl rfl) h2;obtain⟨ap,an,acap,acts,rfl,hacts,hao,han,hlt3⟩:=open_acts (by omega) (hval 3 75 v3 rfl rfl) h3;clear hA0 hval0;refine(agreed_walk g pa n cap s1 s2 acts ap an acap W hl (by omega) hgb ⟨(bounds_i64 w1).1,(bounds_i64 w1).2⟩ hacts (by omega) hao ⟨hS,hTy,hm⟩).mono fun e W' ⟨he,hb⟩=>?_;subst he;have e1:((Rows.OpenSpec.upto Rows.agreedSpec).at F).fn H ([d0,.lit (.int .i64 s1),.lit (.int .i64 s2),d3]++[])={ results:=[.lit (.bool true)],args:=[d0,.lit (.int .i64 s1),.lit (.int .i64 s2),d3] }:=rfl;refine⟨_,rfl,_,_,_,[],p0++([]++([]++(p3++[]))),[],hW',?_,?_,?_,hb.frame _,fun h=>by cases h⟩
 .rw [e1];exact trodAll_mk1 (shut_bool underlying4 true)
 .rw [e1];exact trodAll_cons_mk (Below.trod (by kernel_rfl) (by kernel_rfl) (of_decide_eq_true (by kernel_rfl)) h0 hb hlt0) (trodAll_cons_mk (Below.trod (by kernel_rfl) (by kernel_rfl) (of_decide_eq_true (by kernel_rfl)) h1 hb (fun x hx=>by cases hx)) (trodAll_cons_mk (Below.trod (by kernel_rfl) (by kernel_rfl) (of_decide_eq_true (by kernel_rfl)) h2 hb (fun x hx=>by cases hx)) (trodAll_cons_mk (Below.trod (by kernel_rfl) (by kernel_rfl) (of_decide_eq_true (by kernel_rfl)) h3 hb hlt3) trodAll_mk0)))
 rw[e1];rfl
theorem agreed_holds:Rows.AgreedUptoSaid:=
 OpenClaim.holds_of_cond 5 Tryz.f5 rfl rfl rfl rfl rfl rfl rfl ⟨rfl,rfl,rfl,rfl,rfl⟩ rfl rfl rfl rfl rfl (by kernel_rfl) func5 (by kernel_rfl)
  (of_decide_eq_true (by kernel_rfl)) (by unfold Func.isWrapper;first|(rw[if_pos (by decide+kernel)];kernel_rfl)|(rw[if_neg (by decide+kernel)];exact⟨rfl,rfl⟩))
  (fun os started H enc _ F=>by rw[OpenClaim.pre_eq_preRow];exact agreed_lifted os started H enc F)
theorem agreed_plain(f:FuncId)(fn:Func)(hf:Tryz.pinned.checked.prog.funcNamed "synod/synodkeep.Agreed" =some f)(hfn:Tryz.pinned.checked.prog.funcs[f]? =some fn):
 true=Tryz.pinned.checked.prog.looks []∧∀(j:Nat) t,fn.params[j]? =some t→Tryz.pinned.checked.prog.wantsStandIn t=false:=by
 obtain rfl:f=5:=Option.some.inj ((show prog.funcNamed "synod/synodkeep.Agreed" =some 5 by kernel_rfl).symm.trans hf) |>.symm;obtain rfl:fn=Tryz.f5:=(Option.some.inj (func5.symm.trans hfn)).symm;refine⟨by kernel_rfl,fun j t ht=>?_⟩;rw[Tryz.params5] at ht;have hm:t∈[22,3,3,75]:=by simpa using Array.mem_of_getElem? ht
 have hall:([22,3,3,75].all fun u=> !prog.wantsStandIn u)=true:=by kernel_rfl
 exact(show prog.wantsStandIn t=false by simpa using List.all_eq_true.1 hall t hm)
theorem agreed_card:Rows.AgreedUptoCardSaid:=
 Claim7.holds_tied_plain_at .later [] _ _ _ _ agreed_holds (fun _ h=>by cases h) (by kernel_rfl) (fun _ h=>by cases h) agreedUpto_row_tie rfl ⟨rfl,rfl⟩ (by kernel_rfl) rfl agreed_plain (by kernel_rfl)

#print axioms agreed_card
end Go.Proofs.YtcfjhbcpjpgodaaGreatDoor

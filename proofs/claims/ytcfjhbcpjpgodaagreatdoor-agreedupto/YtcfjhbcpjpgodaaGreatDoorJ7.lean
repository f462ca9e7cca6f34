/- Proved here: what Put leaves in the box's channel: the frames behind those that lie there, as far as there is room. -/
import Derived.Test.YtcfjhbcpjpgodaaGreatDoorBase
import Derived.Conc.LoneSelect
import Derived.Test.YtcfjhbcpjpgodaaGreatDoorJ3
import Derived.Maps.AppendAt
import Derived.Test.YtcfjhbcpjpgodaaGreatDoorTakeL
namespace Go.Proofs.YtcfjhbcpjpgodaaGreatDoor
open Go.Conc Go.RowKit
set_option maxRecDepth 100000
def sndSeq:Code→Code| .seq _ b=>b|c=>c
def fstSeq:Code→Code| .seq a _=>a|c=>c
def unBlock:Code→Code| .block _ c=>c|c=>c
def unLoop:Code→Code| .loop c=>c|c=>c
def put1(out:List ByteArray)(f:ByteArray):List ByteArray:=if out.length<100 then out++[f] else out
def putN(fr:Nat→ByteArray):List ByteArray→Nat→Nat→List ByteArray
 |out,_,0=>out
 |out,i,m+1=>putN fr (put1 out (fr i)) (i+1) m
def bufA(out:List ByteArray):Array Value:=(out.map Value.string).toArray
theorem bufA_push(out:List ByteArray)(f:ByteArray):(bufA out).push (.string f)=bufA (out++[f]):=by simp[bufA]
theorem bufA_size(out:List ByteArray):(bufA out).size=out.length:=by simp[bufA]
def ChanAt(w:World)(cb:Nat)(out:List ByteArray):Prop:=∃s r,w.heap[cb]? =some (.chan 100 (bufA out) false s r false)
structure OnlyC (cb:Nat) (w w':World):Prop where
 os:w'.os=w.os
 tape:w'.tape=w.tape
 output:w'.output=w.output
 size:w'.heap.size=w.heap.size
 block:∀k,k≠cb→w'.heap[k]? =w.heap[k]?
theorem OnlyC.refl(cb:Nat)(w:World):OnlyC cb w w:=⟨rfl,rfl,rfl,rfl,fun _ _=>rfl⟩
theorem OnlyC.trans{cb:Nat}{w w' w'':World}(h:OnlyC cb w w')(h':OnlyC cb w' w''):OnlyC cb w w'':=⟨h'.os.trans h.os,h'.tape.trans h.tape,h'.output.trans h.output,h'.size.trans h.size,fun k hk=>(h'.block k hk).trans (h.block k hk)⟩
theorem OnlyC.set(w:World)(c cap:Nat)(buf:Array Value)(cl:Bool)(s r:Nat)(tm:Bool):OnlyC c w (w.setChan c cap buf cl s r tm):=
 ⟨rfl,rfl,rfl,size_setChan w c cap buf cl s r tm,fun k hk=>by simp only[World.setChan];rw[Array.getElem?_setIfInBounds_ne (by omega)]⟩
theorem OnlyC.cell{cb:Nat}{w w':World}(h:OnlyC cb w w'){b o:Nat}{v:Value}(hc:w.cell? ⟨b,o,none⟩=some v)(hb:b≠cb):w'.cell? ⟨b,o,none⟩=some v:=(World.cell?_of_block (w:=w) (a:=⟨b,o,none⟩) (h.block b hb)).trans hc
def PutEnds(cs:List Frame)(cb:Nat)(out:List ByteArray)(w0:World)(g':Goroutine)(w':World):Prop:=∃e fr,g'=G fr cs∧(e=.returned (.tuple #[])∧ChanAt w' cb out∧OnlyC cb w0 w')∧fr.fn=91∧fr.leaving Tryz.prog w' e
theorem put_exit(LB:Code)(hLB:LB=unLoop (unBlock (sndSeq (Tryz.f91.body.getD .skip))))(pb off cb n cap i:Nat)(ad:Option Addr)(out:List ByteArray)(h:¬(i:Int)<n)(cs:List Frame)(w0 W:World)(hch:ChanAt W cb out)(ho:OnlyC cb w0 W)(j2 j3 j4 j5 j9 j10 j11 j12 j13 j14 j15 j16 j17 j18 j19 j20:Value):
 LoneTo Tryz.prog (PutEnds cs cb out w0) (G ((base 91).at ⟨#[.pointer (some ⟨pb,off,none⟩),.slice ad n cap,j2,j3,j4,j5,.slice ad n cap,.int .i64 (n:Int),.int .i64 (i:Int),j9,j10,j11,j12,j13,j14,j15,j16,j17,j18,j19,j20],[]⟩ [.code LB,.inLoop LB,.inBlock 0]) cs) W:=by
 subst hLB;refine LoneTo.goes (n:=20) ?_;simp only[Tryz.f91,Option.getD_some,sndSeq,unBlock,unLoop]
 s_c stepG_seq
 s_reg
 s_op
 s_c stepG_region_end
 s_c stepG_seq
 s_cond false
 s_exit
 s_c stepG_end
 s_stop
 exact LoneTo.done ⟨.returned (.tuple #[]),_,rfl,⟨rfl,hch,ho⟩,rfl,rfl,rfl,rfl,_,Tryz.func91,by simp[results,Tryz.f91,Frame.at]⟩
theorem put_loop(LB:Code)(hLB:LB=unLoop (unBlock (sndSeq (Tryz.f91.body.getD .skip))))(pb off cb n cap:Nat)(ad:Option Addr)(fr:Nat→ByteArray)(hn:n≤1000000000)(cs:List Frame)(w0:World)(hpb:pb≠cb):
 ∀(m i:Nat) (out:List ByteArray) (W:World) (j2 j3 j4 j5 j9 j10 j11 j12 j13 j14 j15 j16 j17 j18 j19 j20:Value),i+m=n→ChanAt W cb out→OnlyC cb w0 W→W.cell? ⟨pb,off,none⟩=some (.chan (some cb))→
  (∀k,k<n→∃b o,ad=some ⟨b,o,none⟩∧b≠cb∧W.cell? ⟨b,o+k,none⟩=some (.string (fr k)))→
  LoneTo Tryz.prog (PutEnds cs cb (putN fr out i m) w0) (G ((base 91).at ⟨#[.pointer (some ⟨pb,off,none⟩),.slice ad n cap,j2,j3,j4,j5,.slice ad n cap,.int .i64 (n:Int),.int .i64 (i:Int),j9,j10,j11,j12,j13,j14,j15,j16,j17,j18,j19,j20],[]⟩ [.code LB,.inLoop LB,.inBlock 0]) cs) W:=by
 intro m;induction m with
 |zero=>
  intro i out W j2 j3 j4 j5 j9 j10 j11 j12 j13 j14 j15 j16 j17 j18 j19 j20 hi hch ho _ _;exact put_exit LB hLB pb off cb n cap i ad out (by omega) cs w0 W hch ho _ _ _ _ _ _ _ _ _ _ _ _ _ _ _ _
 |succ m ih=>
  intro i out W j2 j3 j4 j5 j9 j10 j11 j12 j13 j14 j15 j16 j17 j18 j19 j20 hi hch ho hcp hl;have h:(i:Int)<n:=by omega
  have hin:i<n:=by omega
  have hw1:IntKind.i64.wrap ((i:Int)+1)=(i:Int)+1:=wrap_small ((i:Int)+1) (by omega) (by omega);have e2:((i+1:Nat):Int)=(i:Int)+1:=by omega
  obtain⟨b,o,rfl,hb,hce⟩:=hl i hin;obtain⟨s,r,hcb⟩:=hch;have goal:∀(out':List ByteArray) (W':World) (k2 k3 k4 k5 k9 k10 k11 k12 k13 k14 k15 k16 k17 k18 k19 k20:Value),out'=put1 out (fr i)→ChanAt W' cb out'→OnlyC cb W W'→
   LoneTo Tryz.prog (PutEnds cs cb (putN fr out i (m+1)) w0) (G ((base 91).at ⟨#[.pointer (some ⟨pb,off,none⟩),.slice (some ⟨b,o,none⟩) n cap,k2,k3,k4,k5,.slice (some ⟨b,o,none⟩) n cap,.int .i64 (n:Int),.int .i64 ((i:Int)+1),k9,k10,k11,k12,k13,k14,k15,k16,k17,k18,k19,k20],[]⟩ [.code LB,.inLoop LB,.inBlock 0]) cs) W':=by
   intro out' W' k2 k3 k4 k5 k9 k10 k11 k12 k13 k14 k15 k16 k17 k18 k19 k20 eo hch' ho';have h1:=ih (i+1) out' W' k2 k3 k4 k5 k9 k10 k11 k12 k13 k14 k15 k16 k17 k18 k19 k20 (by omega) hch' (ho.trans ho') (ho'.cell hcp hpb) (fun k hk=>by
    obtain⟨b',o',e',hb',hc'⟩:=hl k hk;exact⟨b',o',e',hb',ho'.cell hc' hb'⟩)
   rw[e2] at h1;show LoneTo Tryz.prog (PutEnds cs cb (putN fr (put1 out (fr i)) (i+1) m) w0) _ W';rw[←eo];exact h1
  by_cases hroom:out.length<100;focus
   have ep:put1 out (fr i)=out++[fr i]:=if_pos hroom;have hfin:=fun k2 k3 k4 k5 k9 k10 k11 k12 k13 k14 k15 k16 k17 k18 k19 k20=>goal (out++[fr i]) (W.setChan cb 100 (bufA (out++[fr i])) false (s+1) r false) k2 k3 k4 k5 k9 k10 k11 k12 k13 k14 k15 k16 k17 k18 k19 k20 ep.symm ⟨s+1,r,heap_setChan W cb 100 _ false (s+1) r false (by rcases Nat.lt_or_ge cb W.heap.size with h'|h';exact h';simp[Array.getElem?_eq_none h'] at hcb)⟩ (OnlyC.set W cb 100 _ false (s+1) r false);clear goal ih hl;subst hLB;refine LoneTo.goes (n:=60) ?_;simp only[Tryz.f91,Option.getD_some,sndSeq,unBlock,unLoop]
   s_c stepG_seq
   s_reg
   s_op
   s_c stepG_region_end
   s_c stepG_seq
   s_cond true
   s_c stepG_skip
   s_c stepG_seq
   s_c stepG_block
   s_c stepG_seq
   s_reg
   s_op
   s_op
   s_op
   s_c stepG_region_end
   s_c stepG_seq
   s_c stepG_seq
   s_reg
   s_op
   s_op
   s_op
   s_op
   s_c stepG_region_end
   s_reg
   s_op
   s_c stepG_region_end
   s_c stepG_seq
   s_reg
   s_stop
   refine LoneTo.step (step_lone_select_send_room (c:=cb) (cap:=100) (buf:=bufA out) (s:=s) (r:=r) (tm:=false) (stepG_comm (cases:=#[scase cb (.string (fr i)) (.string ⟨#[]⟩)]) (blocking:=false) (shape:=.select) (w':=W) rfl rfl (by decide) (by simp[go_sem,execOp,scase,Act.eval])) hcb (by rw[bufA_size];exact hroom)) ?_;rw[Frame.finish_at,bufA_push]
   walk_nrm
   refine LoneTo.goes (n:=40) ?_
   s_op
   s_op
   s_c stepG_region_end
   s_c stepG_block
   s_cond true
  rotate_left;focus
   have ep:put1 out (fr i)=out:=if_neg hroom;have hfin:=fun k2 k3 k4 k5 k9 k10 k11 k12 k13 k14 k15 k16 k17 k18 k19 k20=>goal out W k2 k3 k4 k5 k9 k10 k11 k12 k13 k14 k15 k16 k17 k18 k19 k20 ep.symm ⟨s,r,hcb⟩ (OnlyC.refl cb W);clear goal ih hl;subst hLB;refine LoneTo.goes (n:=60) ?_;simp only[Tryz.f91,Option.getD_some,sndSeq,unBlock,unLoop]
   s_c stepG_seq
   s_reg
   s_op
   s_c stepG_region_end
   s_c stepG_seq
   s_cond true
   s_c stepG_skip
   s_c stepG_seq
   s_c stepG_block
   s_c stepG_seq
   s_reg
   s_op
   s_op
   s_op
   s_c stepG_region_end
   s_c stepG_seq
   s_c stepG_seq
   s_reg
   s_op
   s_op
   s_op
   s_op
   s_c stepG_region_end
   s_reg
   s_op
   s_c stepG_region_end
   s_c stepG_seq
   s_reg
   s_stop
   refine LoneTo.step (step_lone_select_send_full (c:=cb) (cap:=100) (buf:=bufA out) (s:=s) (r:=r) (tm:=false) (stepG_comm (cases:=#[scase cb (.string (fr i)) (.string ⟨#[]⟩)]) (blocking:=false) (shape:=.select) (w':=W) rfl rfl (by decide) (by simp[go_sem,execOp,scase,Act.eval])) hcb (by rw[bufA_size];omega)) ?_;rw[Frame.finish_at]
   walk_nrm
   refine LoneTo.goes (n:=40) ?_
   s_op
   s_op
   s_c stepG_region_end
   s_c stepG_block
   s_cond false
  rotate_left;all_goals
   s_c stepG_skip
   s_c stepG_inBlock
   s_c stepG_inBlock
   s_reg
   s_op
   s_op
   s_c stepG_region_end
   s_c stepG_inLoop
   s_stop
   exact hfin _ _ _ _ _ _ _ _ _ _ _ _ _ _ _ _
theorem put_any(pb off cb n cap:Nat)(ad:Option Addr)(fr:Nat→ByteArray)(out:List ByteArray)(w:World)(hn:n≤1000000000)(hpb:pb≠cb)(hch:ChanAt w cb out)(hcp:w.cell? ⟨pb,off,none⟩=some (.chan (some cb)))
 (hl:∀k,k<n→∃b o,ad=some ⟨b,o,none⟩∧b≠cb∧w.cell? ⟨b,o+k,none⟩=some (.string (fr k))):
 Calls Tryz.prog 91 #[.pointer (some ⟨pb,off,none⟩),.slice ad n cap] w fun e w'=>e=.returned (.tuple #[])∧ChanAt w' cb (putN fr out 0 n)∧OnlyC cb w w':=by
 refine calls_of_loneTo fun cs=>?_;have e:Frame.enter Tryz.prog 91 #[.pointer (some ⟨pb,off,none⟩),.slice ad n cap] .normal=(base 91).at ⟨#[.pointer (some ⟨pb,off,none⟩),.slice ad n cap,undef,undef,undef,undef,undef,undef,undef,undef,undef,undef,undef,undef,undef,undef,undef,undef,undef,undef,undef],[]⟩ [.code (Tryz.f91.body.getD .skip)]:=by
  simp[Frame.enter,Frame.at,Tryz.func91,base,Tryz.f91]
 rw[e];have hgo:=fun j2 j3 j4 j5 j9 j10 j11 j12 j13 j14 j15 j16 j17 j18 j19 j20=>put_loop _ rfl pb off cb n cap ad fr hn cs w hpb n 0 out w j2 j3 j4 j5 j9 j10 j11 j12 j13 j14 j15 j16 j17 j18 j19 j20 (by omega) hch (OnlyC.refl cb w) hcp hl;refine LoneTo.goes (n:=20) ?_;simp only[Tryz.f91,Option.getD_some,sndSeq,unBlock,unLoop] at hgo ⊢
 s_c stepG_seq
 s_reg
 s_op
 s_op
 s_op
 s_c stepG_region_end
 s_c stepG_block
 s_c stepG_loop
 s_stop
 exact hgo _ _ _ _ _ _ _ _ _ _ _ _ _ _ _ _
section
variable{P:Program}
theorem stepG_leaveE{main:Bool}{fr c:Frame}{cs:List Frame}{w:World}{fn:Func}{v:Value}(hm:fr.mode=.returning)(hn:fr.kind=.normal)(hd:fr.defers=[])(hf:P.funcs[fr.fn]? =some fn)
 (hr:(results fn fr.tmps).run P w=.ok v w):∃es,stepG P main (G fr (c::cs)) w=.go (G (c.finish v) cs) w es:=by
 simp[G,stepG,unwind,doReturn,hm,hn,hd,hf,hr,GStep.after]
theorem uponK_append{o:Oper}{a:Act}{K:Act→World→Prop}{w w':World}{v y v':Value}{s x:Operand}{t:TypeId}(ho:o.op=.call { callee:=.builtin .append,args:=#[s,x],argTypes:=#[t,t] })(hs:a.eval s=v)(hx:a.eval x=y)
 (hr:(Builtin.append_ #[t,t] o.type #[v,y]).run P w=.ok v' w') (h:K (a.put o.dst v') w'):uponK o a K ((execOp a.eval o).run P w):=by
 unfold execOp;simp only[ho,resolve,invoke,builtin,Sem.run_bind,Sem.run_pure,Result.andThen_ok,List.map_toArray,List.map_cons,List.map_nil,hs,hx,hr];exact h
theorem uponK_close{o:Oper}{a:Act}{K:Act→World→Prop}{w w':World}{v v':Value}{x:Operand}{t:TypeId}(ho:o.op=.call { callee:=.builtin .close,args:=#[x],argTypes:=#[t] })(hx:a.eval x=v)
 (hr:(Builtin.close_ #[t] o.type #[v]).run P w=.ok v' w') (h:K (a.put o.dst v') w'):uponK o a K ((execOp a.eval o).run P w):=by
 unfold execOp;simp only[ho,resolve,invoke,builtin,Sem.run_bind,Sem.run_pure,Result.andThen_ok,List.map_toArray,List.map_cons,List.map_nil,hx,hr];exact h
theorem LoneTo.callBy{Q:Goroutine→World→Prop}{b:Frame}{a:Act}{ops:Array Oper}{i:Nat}{rest:List Nat}{k:List Item}{cs:List Frame}{w:World}{o:Oper}{f:FuncId}{fn:Func}{c:Code}{args:Array Operand}{ats:Array TypeId}{R:Ending→World→Prop}{vs:Array Value}
 (ho:ops[i]? =some o) (hw:Region.wanted o (yielded ops a.tmps)=true) (hk:b.kind≠.early) (hop:o.op=.call { callee:=.value (.func f),args,argTypes:=ats })
 (hf:P.funcs[f]? =some fn) (hname:(fn.name== "runtime.NumGoroutine")=false) (hb:fn.body=some c)
 (hvs:args.map a.eval=vs) (hC:Calls P f vs w R) (hR:∀e w',R e w'→∃v,e=.returned v∧LoneTo P Q (G (b.at (a.put o.dst v) (.inRegion ops rest::k)) cs) w'):
 LoneTo P Q (G (b.at a (.inRegion ops (i::rest)::k)) cs) w:=by
 subst hvs;have hb':fn.body.isNone=false:=by rw[hb];rfl
 have h1:=stepG_enter (main:=true) (cs:=cs) (k:=k) (rest:=rest) ho hw hk (run_call_body (w:=w) hop hf hname hb');refine LoneTo.step (step_solo_go rfl h1) ?_;obtain⟨e,w',fr,hr,hcomes,hfn,hl⟩:=hC (b.at a (.inRegion ops (i::rest)::k)::cs);obtain⟨v,rfl,hgo⟩:=hR e w' hr;obtain⟨hm,hd,hn,fn',hf',hres⟩:=hl;obtain⟨es,h2⟩:=stepG_leaveE (P:=P) (main:=true) (c:=b.at a (.inRegion ops (i::rest)::k)) (cs:=cs) hm hn hd hf' hres;have hst:Steps P (solo (G (Frame.enter P f (args.map a.eval) .normal) (b.at a (.inRegion ops (i::rest)::k)::cs)) w) (solo (G fr (b.at a (.inRegion ops (i::rest)::k)::cs)) w'):=hcomes;have h3:LoneTo P Q (G fr (b.at a (.inRegion ops (i::rest)::k)::cs)) w':=by
  refine LoneTo.step (step_solo_go rfl h2) ?_;rw[Frame.finish_at];have e:((ops[i]?).bind (·.dst))=o.dst:=by rw[ho];rfl
  rw[e];exact hgo
 obtain⟨g2,w2,hs2,hq⟩:=h3;exact⟨g2,w2,hst.trans hs2,hq⟩
end
theorem Tryz.infoStrB:(Tryz.prog.info? 9).map (fun i=>(i.zero,i.size,i.bytes))=some (some (.string ByteArray.empty),1,16):=by kernel_rfl
theorem Tryz.mkBox(w:World):(Instr.makeChan 119 (.int .i64 100)).run Tryz.prog w=.ok (.chan (some w.heap.size)) (w.alloc (.chan 100 #[] false 0 0 false)):=by
 obtain⟨i,hi,hz,hs,hb⟩:=info_parts Tryz.infoStrB;simpa using run_makeChan (P:=Tryz.prog) (w:=w) Tryz.underlying119 hi .i64 100 (by omega) (by rw[hb];omega)
theorem Tryz.sizeBox:(Tryz.prog.info? 121).map (·.size)=some 1:=by kernel_rfl
theorem boxNew_any(w:World):Calls Tryz.prog 53 #[] w fun e w'=>∃nc,w.heap.size≤nc∧e=.returned (.agg #[.chan (some nc)])∧ChanAt w' nc []∧Below w.heap.size w w':=by
 have hmc:=Tryz.mkBox;go_enter Tryz.func53,Tryz.ntmps53;go_wp2;have q0:((w.alloc (.cells #[.chan (some (w.heap.size+1))] 121)).alloc (.chan 100 #[] false 0 0 false)).heap[w.heap.size]? =some (.cells #[.chan (some (w.heap.size+1))] 121 (0,0)):=by
  rw[Below.heap_alloc _ _ w.heap.size (by simp)];exact heap_alloc_new w _
 have q1:((w.alloc (.cells #[.chan (some (w.heap.size+1))] 121)).alloc (.chan 100 #[] false 0 0 false)).heap[w.heap.size+1]? =some (.chan 100 (bufA []) false 0 0 false):=by
  have h:=heap_alloc_new (w.alloc (.cells #[.chan (some (w.heap.size+1))] 121)) (.chan 100 #[] false 0 0 false);simpa [bufA] using h
 exact bodyPost_ret (v:=.agg #[.chan (some (w.heap.size+1))]) (results_rowG1 Tryz.results53 _ _ w.heap.size 121 _ _ rfl q0 Tryz.underlying121 rfl Tryz.sizeBox) rfl ⟨_,Nat.le_succ _,rfl,⟨0,0,q1⟩,((Below.refl _ w).alloc (Nat.le_refl _) _).alloc (by simp) _⟩
def TakeP(pb off cb:Nat)(C:Array Value)(t:TypeId)(out:List ByteArray)(w:World)(e:Ending)(w':World):Prop:=
 ∃v nc,e=.returned v∧w'.ownsRow w.heap.size 9 1 v out.length (out.map .string)∧w.heap.size≤nc∧ChanAt w' nc []∧(∀g,v.ownBlock=some g→g≠nc)∧
  w'.heap[pb]? =some (.cells (C.setIfInBounds off (.chan (some nc))) t (0,0))∧w'.os=w.os∧w'.tape=w.tape∧w'.output=w.output∧w.heap.size≤w'.heap.size∧∀k,k<w.heap.size→k≠cb→k≠pb→w'.heap[k]? =w.heap[k]?
structure ButC (cb:Nat) (w w':World):Prop where
 os:w'.os=w.os
 tape:w'.tape=w.tape
 output:w'.output=w.output
 size:w.heap.size≤w'.heap.size
 block:∀k,k<w.heap.size→k≠cb→w'.heap[k]? =w.heap[k]?
theorem ButC.trans{cb:Nat}{w w' w'':World}(h:ButC cb w w')(h':ButC cb w' w''):ButC cb w w'':=⟨h'.os.trans h.os,h'.tape.trans h.tape,h'.output.trans h.output,Nat.le_trans h.size h'.size,fun k hk hn=>(h'.block k (Nat.lt_of_lt_of_le hk h.size) hn).trans (h.block k hk hn)⟩
theorem ButC.only{cb:Nat}{w w':World}(h:OnlyC cb w w'):ButC cb w w':=⟨h.os,h.tape,h.output,by rw[h.size];exact Nat.le_refl _,fun k _ hn=>h.block k hn⟩
theorem bufA_drop(out:List ByteArray)(i:Nat)(h:i<out.length):(bufA (out.drop i)).extract 1 (bufA (out.drop i)).size=bufA (out.drop (i+1)):=by
 unfold bufA;rw[List.drop_eq_getElem_cons h];apply Array.toList_inj.1;simp;rw[List.take_of_length_le (by simp;omega)]
theorem bufA_first(out:List ByteArray)(i:Nat)(h:i<out.length):(bufA (out.drop i)).getD 0 undef=.string (out.getD i ByteArray.empty):=by
 unfold bufA;rw[List.drop_eq_getElem_cons h,List.getD_eq_getElem?_getD,List.getElem?_eq_getElem h];simp;rw[List.getElem?_eq_getElem h];rfl
theorem take_loop(LB AF:Code)(hLB:LB=unLoop (unBlock (sndSeq (fstSeq (sndSeq (sndSeq (sndSeq (Tryz.f85.body.getD .skip))))))))(pb off cb:Nat)(out:List ByteArray)(hlen:out.length≤100)(cs:List Frame)(w0:World)(hcb0:cb<w0.heap.size)(Q:Goroutine→World→Prop)
 (hex:∀(W:World) (v j1 j2 j4 j5 j6 j7 j8 j9 j10 j11 j13 j14 j15 j16 j17 j18 j19 j20 j21 j22 j23:Value),W.ownsRow w0.heap.size 9 1 v out.length (out.map .string)→ButC cb w0 W→
  LoneTo Tryz.prog Q (G ((base 85).at ⟨#[.pointer (some ⟨pb,off,none⟩),j1,j2,v,j4,j5,j6,j7,j8,j9,j10,j11,.chan (some cb),j13,j14,j15,j16,j17,j18,j19,j20,j21,j22,j23],[]⟩ [.code AF]) cs) W):
 ∀(m i:Nat) (W:World) (v j1 j2 j4 j5 j6 j7 j8 j9 j10 j11 j13 j14 j15 j16 j17 j18 j19 j20 j21 j22 j23:Value),i+m=out.length→(∃s r,W.heap[cb]? =some (.chan 100 (bufA (out.drop i)) true s r false))→W.ownsRow w0.heap.size 9 1 v i ((out.take i).map .string)→ButC cb w0 W→
  LoneTo Tryz.prog Q (G ((base 85).at ⟨#[.pointer (some ⟨pb,off,none⟩),j1,j2,v,j4,j5,j6,j7,j8,j9,j10,j11,.chan (some cb),j13,j14,j15,j16,j17,j18,j19,j20,j21,j22,j23],[]⟩ [.code LB,.inLoop LB,.inBlock 0,.code AF]) cs) W:=by
 intro m;induction m with
 |zero=>
  intro i W v j1 j2 j4 j5 j6 j7 j8 j9 j10 j11 j13 j14 j15 j16 j17 j18 j19 j20 j21 j22 j23 hi hch hown hb;obtain⟨s,r,hcb⟩:=hch;have hi2:i=out.length:=by omega
  have hd:bufA (out.drop i)=#[]:=by rw[hi2,List.drop_length];rfl
  rw[hd] at hcb;have hown2:W.ownsRow w0.heap.size 9 1 v out.length (out.map .string):=by rw[hi2,List.take_length] at hown;exact hown
  have hfin:=fun j1 j2 j4 j5 j6 j7 j8 j9 j10 j11 j13 j14 j15 j16 j17 j18 j19 j20 j21 j22 j23=>hex W v j1 j2 j4 j5 j6 j7 j8 j9 j10 j11 j13 j14 j15 j16 j17 j18 j19 j20 j21 j22 j23 hown2 hb;clear hex hown hown2;subst hLB;refine LoneTo.goes (n:=10) ?_;simp only[Tryz.f85,Option.getD_some,sndSeq,fstSeq,unBlock,unLoop]
  s_c stepG_seq
  s_reg
  s_stop
  refine LoneTo.step (step_lone_recv_shut true (c:=cb) (z:=.string ⟨#[]⟩) (cap:=100) (s:=s) (r:=r) (tm:=false) (stepG_comm (cases:=#[rcase cb (.string ⟨#[]⟩)]) (blocking:=true) (shape:=.recv true) (w':=W) rfl rfl (by decide) (by simp[go_sem,execOp,rcase,Act.eval])) hcb) ?_;rw[Frame.finish_at];simp only[got,if_true]
  walk_nrm
  refine LoneTo.goes (n:=20) ?_
  s_op
  s_c stepG_region_end
  s_c stepG_seq
  s_cond false
  s_exit
  s_stop
  exact hfin _ _ _ _ _ _ _ _ _ _ _ _ _ _ _ _ _ _ _ _ _
 |succ m ih=>
  intro i W v j1 j2 j4 j5 j6 j7 j8 j9 j10 j11 j13 j14 j15 j16 j17 j18 j19 j20 j21 j22 j23 hi hch hown hb;obtain⟨s,r,hcb⟩:=hch;have hin:i<out.length:=by omega
  obtain⟨f,hf⟩:=gen (out.getD i ByteArray.empty);obtain⟨W1,hW1⟩:=gen (W.setChan cb 100 (bufA (out.drop (i+1))) true s (r+1) false);have hcl:cb<W.heap.size:=Nat.lt_of_lt_of_le hcb0 hb.size;have ho1:OnlyC cb W W1:=by rw[hW1];exact OnlyC.set W cb 100 _ true s (r+1) false
  have hc1:W1.heap[cb]? =some (.chan 100 (bufA (out.drop (i+1))) true s (r+1) false):=by rw[hW1];exact heap_setChan W cb 100 _ true s (r+1) false hcl
  have hown1:W1.ownsRow w0.heap.size 9 1 v i ((out.take i).map .string):=own_blocks hown (fun g e _=>ho1.block g (fun e2=>by have:=(hown.lt g e).1;omega));have hb1:ButC cb w0 W1:=hb.trans (ButC.only ho1);obtain⟨i9,hi9,hz0,hz1,hz2⟩:=info_parts Tryz.infoStrB;have hown2:(W1.alloc (.cells #[.string f] 9)).ownsRow w0.heap.size 9 1 v i ((out.take i).map .string):=own_blocks hown1 (fun g _ hg=>Below.heap_alloc W1 _ g hg);obtain⟨v',w',hr,hown3,hgrow,-,-⟩:=run_append_own_at (P:=Tryz.prog) (W1.alloc (.cells #[.string f] 9)) w0.heap.size 30 30 9 i9 (.string ByteArray.empty) 1 16 Tryz.underlying30 hi9 hz0 hz1 hz2 rfl (by decide) v i ((out.take i).map .string) hown2 ⟨W1.heap.size,0,none⟩ 1 1 [.string f] rfl (fun j u hj=>by
   match j,hj with
   |0,hj=>simp at hj;subst hj;simp[Addr.add]) (fun u hu=>by simp at hu;subst hu;rfl) (by unfold maxLen;omega) (by omega) (by have:=hb1.size;simp;omega)
  have hown4:w'.ownsRow w0.heap.size 9 1 v' (i+1) ((out.take (i+1)).map .string):=by
   have e:out.take (i+1)=out.take i++[f]:=by
    rw[←List.take_append_getElem hin,hf,List.getD_eq_getElem?_getD,List.getElem?_eq_getElem hin];rfl
   rw[e,List.map_append];exact hown3
  have hb4:ButC cb w0 w':=by
   refine⟨hgrow.os.trans hb1.os,hgrow.tape.trans hb1.tape,hgrow.output.trans hb1.output,Nat.le_trans hb1.size (Nat.le_trans (by simp) hgrow.size),fun k hk hn=>?_⟩;have hk1:k<W1.heap.size:=Nat.lt_of_lt_of_le hk hb1.size;rw[hgrow.block k (by simp;omega) (fun e=>by have:=(hown2.lt k e.symm).1;omega),Below.heap_alloc W1 _ k hk1];exact hb1.block k hk hn
  have hc4:w'.heap[cb]? =some (.chan 100 (bufA (out.drop (i+1))) true s (r+1) false):=by
   have hk1:cb<W1.heap.size:=Nat.lt_of_lt_of_le hcb0 hb1.size;rw[hgrow.block cb (by simp;omega) (fun e=>by have:=(hown2.lt cb e.symm).1;omega),Below.heap_alloc W1 _ cb hk1];exact hc1
  have hfin:=fun j1 j2 j4 j5 j6 j7 j8 j9 j10 j11 j13 j14 j15 j16 j17 j18 j19 j20 j21 j22 j23=>ih (i+1) w' v' j1 j2 j4 j5 j6 j7 j8 j9 j10 j11 j13 j14 j15 j16 j17 j18 j19 j20 j21 j22 j23 (by omega) ⟨s,r+1,hc4⟩ hown4 hb4;have hbf:=bufA_first out i hin;rw[←hf] at hbf;have hbd:=bufA_drop out i hin;have hsz:0<(bufA (out.drop i)).size:=by rw[bufA_size,List.length_drop];omega
  clear hex ih hown hown1 hown2 hown3 hown4 hgrow hb hb1 hb4 hc1 hc4 ho1 hf;subst hLB;refine LoneTo.goes (n:=10) ?_;simp only[Tryz.f85,Option.getD_some,sndSeq,fstSeq,unBlock,unLoop]
  s_c stepG_seq
  s_reg
  s_stop
  refine LoneTo.step (step_lone_recv_buf true (c:=cb) (z:=.string ⟨#[]⟩) (cap:=100) (buf:=bufA (out.drop i)) (closed:=true) (s:=s) (r:=r) (tm:=false) (stepG_comm (cases:=#[rcase cb (.string ⟨#[]⟩)]) (blocking:=true) (shape:=.recv true) (w':=W) rfl rfl (by decide) (by simp[go_sem,execOp,rcase,Act.eval])) hcb hsz) ?_;rw[Frame.finish_at,hbd,hbf,←hW1];clear hW1 hbd hbf hcb hsz;simp only[got,if_true]
  walk_nrm
  refine LoneTo.goes (n:=40) ?_
  s_op
  s_c stepG_region_end
  s_c stepG_seq
  s_cond true
  s_c stepG_skip
  s_c stepG_block
  s_c stepG_seq
  s_reg
  s_op
  s_op
  s_c stepG_region_end
  s_reg
  s_op
  s_op
  s_op
  s_in
  refine goes_oper_k rfl rfl (by decide) (fun K hK=>?_);refine uponK_append rfl rfl rfl hr (hK _ _ ⟨trivial,?_⟩);clear hK K
  walk_nrm
  s_op
  s_c stepG_region_end
  s_c stepG_inBlock
  s_c stepG_inLoop
  s_stop
  exact hfin _ _ _ _ _ _ _ _ _ _ _ _ _ _ _ _ _ _ _ _ _
theorem take_any(pb off cb:Nat)(C:Array Value)(t:TypeId)(out:List ByteArray)(w:World)(hlen:out.length≤100)(hq:w.heap[pb]? =some (.cells C t (0,0)))(hC:C[off]? =some (.chan (some cb)))(hch:ChanAt w cb out):
 Calls Tryz.prog 85 #[.pointer (some ⟨pb,off,none⟩)] w (TakeP pb off cb C t out w):=by
 obtain⟨s,r,hcb⟩:=hch;have hpc:pb≠cb:=fun e=>by rw[e,hcb] at hq;cases hq
 have hcl:cb<w.heap.size:=row_lt0 hcb;have hpl:pb<w.heap.size:=row_lt0 hq;have hc0:w.cell? ⟨pb,off,none⟩=some (.chan (some cb)):=(cell_of_row w pb off _ _ _ hq).trans hC;refine calls_of_loneTo (fun cs=>?_) (by rintro _ ⟨_,_,h,_⟩;cases h);have e:Frame.enter Tryz.prog 85 #[.pointer (some ⟨pb,off,none⟩)] .normal=(base 85).at ⟨#[.pointer (some ⟨pb,off,none⟩),undef,undef,undef,undef,undef,undef,undef,undef,undef,undef,undef,undef,undef,undef,undef,undef,undef,undef,undef,undef,undef,undef,undef],[]⟩ [.code (Tryz.f85.body.getD .skip)]:=by
  simp[Frame.enter,Frame.at,Tryz.func85,base,Tryz.f85]
 rw[e];obtain⟨W1,hW1⟩:=gen (w.setChan cb 100 (bufA out) true s r false);have ho1:OnlyC cb w W1:=by rw[hW1];exact OnlyC.set w cb 100 _ true s r false
 have hc1:W1.heap[cb]? =some (.chan 100 (bufA out) true s r false):=by rw[hW1];exact heap_setChan w cb 100 _ true s r false hcl
 have hc2:W1.cell? ⟨pb,off,none⟩=some (.chan (some cb)):=ho1.cell hc0 hpc;have hex:∀(W:World) (v j1 j2 j4 j5 j6 j7 j8 j9 j10 j11 j13 j14 j15 j16 j17 j18 j19 j20 j21 j22 j23:Value),W.ownsRow w.heap.size 9 1 v out.length (out.map .string)→ButC cb w W→
  LoneTo Tryz.prog (fun g' w'=>∃e fr,g'=G fr cs∧TakeP pb off cb C t out w e w'∧fr.fn=85∧fr.leaving Tryz.prog w' e) (G ((base 85).at ⟨#[.pointer (some ⟨pb,off,none⟩),j1,j2,v,j4,j5,j6,j7,j8,j9,j10,j11,.chan (some cb),j13,j14,j15,j16,j17,j18,j19,j20,j21,j22,j23],[]⟩ [.code (sndSeq (sndSeq (sndSeq (sndSeq (Tryz.f85.body.getD .skip)))))]) cs) W:=by
  intro W v j1 j2 j4 j5 j6 j7 j8 j9 j10 j11 j13 j14 j15 j16 j17 j18 j19 j20 j21 j22 j23 hown hb;refine LoneTo.goes (n:=10) ?_;simp only[Tryz.f85,Option.getD_some,sndSeq]
  s_c stepG_seq
  s_reg
  s_op
  s_stop
  refine LoneTo.callBy rfl rfl (by decide) rfl Tryz.func53 (by kernel_rfl) rfl (vs:=#[]) (by simp) (boxNew_any W) (fun e w3 hR=>?_);obtain⟨nc,hnc,rfl,hch3,hb3⟩:=hR;refine⟨_,rfl,?_⟩;have hq3:w3.heap[pb]? =some (.cells C t (0,0)):=(hb3.block pb (Nat.lt_of_lt_of_le hpl hb.size)).trans ((hb.block pb hpl hpc).trans hq);have c3:w3.cell? ⟨pb,off,none⟩=some (.chan (some cb)):=(cell_of_row w3 pb off _ _ _ hq3).trans hC;have f3:w3.frozen? ⟨pb,off,none⟩=false:=by simp[World.frozen?,hq3]
  have hncw:w.heap.size≤nc:=Nat.le_trans hb.size hnc
  walk_nrm
  refine LoneTo.goes (n:=20) ?_
  s_op
  s_op
  s_c stepG_region_end
  s_c stepG_seq
  s_reg
  s_op
  s_op
  s_c stepG_region_end
  s_c stepG_ret'
  s_stop
  have hon:=only_setCell w3 pb off (.chan (some nc));have hnp:nc≠pb:=by omega
  have hvb:∀g,v.ownBlock=some g→w.heap.size≤g∧g<W.heap.size:=fun g hg=>hown.lt g hg;refine LoneTo.done ⟨.returned v,_,rfl,⟨v,nc,rfl,?_,hncw,?_,?_,?_,?_,?_,?_,?_,?_⟩,rfl,rfl,rfl,rfl,_,Tryz.func85,by simp[results,Tryz.f85,Frame.at]⟩
  .exact own_blocks (own_blocks hown (fun g _ hg=>hb3.block g hg)) (fun g hg _=>hon.block g (by have:=(hvb g hg).1;omega))
  .obtain ⟨s3,r3,h3⟩:=hch3
   exact⟨s3,r3,(hon.block nc hnp).trans h3⟩
  .exact fun g hg=>by have:=(hvb g hg).2;omega
  .simp [World.setCell,Array.getElem?_modify,hq3]
  .rw [hon.os,hb3.os,hb.os]
  .rw [hon.tape,hb3.tape,hb.tape]
  .rw [hon.output,hb3.output,hb.output]
  .rw [hon.size];exact Nat.le_trans hb.size hb3.size
  .intro k hk hkc hkp;rw[hon.block k hkp,hb3.block k (Nat.lt_of_lt_of_le hk hb.size),hb.block k hk hkc]
 have hloop:=fun j1 j2 j4 j5 j6 j7 j8 j9 j10 j11 j13 j14 j15 j16 j17 j18 j19 j20 j21 j22 j23=>take_loop _ _ rfl pb off cb out hlen cs w hcl _ hex out.length 0 W1 (.slice none 0 0) j1 j2 j4 j5 j6 j7 j8 j9 j10 j11 j13 j14 j15 j16 j17 j18 j19 j20 j21 j22 j23 (by omega) ⟨s,r,hc1⟩ (World.ownsRow_nil _ _ _ _) (ButC.only ho1);have hclose:∀ats ty,(Builtin.close_ ats ty #[.chan (some cb)]).run Tryz.prog w=.ok (.tuple #[]) W1:=fun ats ty=>by rw[hW1];exact run_close_open (P:=Tryz.prog) (w:=w) ats ty hcb
 clear hex hW1 ho1 hc1;refine LoneTo.goes (n:=40) ?_;simp only[Tryz.f85,Option.getD_some,sndSeq,fstSeq,unBlock,unLoop] at hloop ⊢
 s_c stepG_seq
 s_reg
 s_op
 s_c stepG_region_end
 s_c stepG_seq
 s_reg
 s_op
 s_op
 s_op
 s_op
 s_in
 refine goes_oper_k rfl rfl (by decide) (fun K hK=>?_);refine uponK_close rfl rfl (hclose _ _) (hK _ _ ⟨trivial,?_⟩);clear hK K
 walk_nrm
 s_c stepG_region_end
 s_c stepG_seq
 s_reg
 s_op
 s_c stepG_region_end
 s_c stepG_seq
 s_c stepG_seq
 s_reg
 s_op
 s_op
 s_op
 s_op
 s_c stepG_region_end
 s_c stepG_block
 s_c stepG_loop
 s_stop
 exact hloop _ _ _ _ _ _ _ _ _ _ _ _ _ _ _ _ _ _ _ _ _
end Go.Proofs.YtcfjhbcpjpgodaaGreatDoor

import Derived.Conc.LoneSelect
import Derived.Test.YtcfjhbcpjpgodaaGreatDoorJ5
import Derived.Test.YtcfjhbcpjpgodaaGreatDoorTakeL
namespace Go.Proofs.YtcfjhbcpjpgodaaGreatDoor
open Go.Conc Go.RowKit Proofs.Tryz
set_option maxRecDepth 100000
set_option maxHeartbeats 0
set_option linter.all false
section
variable{cb:Nat}{w w':World}
def kF:Code->Code| .seq _ b=>b|c=>c
def Gg:Code->Code| .seq a _=>a|c=>c
def jr:Code->Code| .block _ c=>c|c=>c
def xb:Code->Code| .loop c=>c|c=>c
def put1(out:List zj5)(f:zj5):List zj5:=if out.length<100 then out++[f] else out
def zcq(fr:Nat->zj5):List zj5->Nat->Nat->List zj5
 |out,_,0=>out
 |out,i,m+1=>zcq fr (put1 out (fr i)) (i+1) m
def bufA(out:List zj5):Array Value:=(out.map Value.string).toArray
theorem zcd(out:List zj5)(f:zj5):(bufA out).push (sA f)=bufA (out++[f]):=by simp[bufA]
theorem Yu(out:List zj5):(bufA out).size=out.length:=by simp[bufA]
def qX(w:World)(cb:Nat)(out:List zj5):Prop:=∃s r,w.heap[cb]? =some (.chan 100 (bufA out) false s r false)
structure qB (cb:Nat) (w w':World):Prop where
 os:w'.os=w.os
 tape:w'.tape=w.tape
 output:w'.output=w.output
 size:w'.heap.size=w.heap.size
 block:∀k,k≠cb->w'.heap[k]? =w.heap[k]?
theorem qB.refl(cb:Nat)(w:World):qB cb w w:=⟨rfl,rfl,rfl,rfl,λ_ _=>rfl⟩
theorem qB.trans{w'':World}(h:qB cb w w')(h':qB cb w' w''):qB cb w w'':=⟨h'.os.trans h.os,h'.tape.trans h.tape,h'.output.trans h.output,h'.size.trans h.size,λk hk=>(h'.block k hk).trans (h.block k hk)⟩
theorem qB.set(w:World)(c cap:Nat)(buf:Array Value)(cl:Bool)(s r:Nat)(tm:Bool):qB c w (w.setChan c cap buf cl s r tm):=
 ⟨rfl,rfl,rfl,size_setChan w c cap buf cl s r tm,λk hk=>by simp only[World.setChan];rw[Array.getElem?_setIfInBounds_ne (by omega)]⟩
theorem qB.cell(h:qB cb w w'){b o:Nat}{v:Value}(hc:w.cell? (aA b o)=some v)(hb:b≠cb):w'.cell? (aA b o)=some v:=(zjH (w:=w) (a:=(aA b o)) (h.block b hb)).trans hc
def QR(cs:List Frame)(cb:Nat)(out:List zj5)(w0:World)(g':Goroutine)(w':World):Prop:=∃e fr,g'=G fr cs/\(e=.returned (.tuple #[])/\qX w' cb out/\qB cb w0 w')/\fr.fn=91/\fr.leaving prog w' e
theorem zcR(LB:Code)(hLB:LB=xb (jr (kF (Tryz.f91.body.getD .skip))))(pb off cb n cap i:Nat)(ad:Option Addr)(out:List zj5)(h:¬(i:Int)<n)(cs:List Frame)(w0 W:World)(hch:qX W cb out)(ho:qB cb w0 W)(j2 j3 j4 j5 j9 j10 j11 j12 j13 j14 j15 j16 j17 j18 j19 j20:Value):
 LoneTo prog (QR cs cb out w0) (G ((base 91).at ⟨#[pA pb off,.slice ad n cap,j2,j3,j4,j5,.slice ad n cap,iA n,iA i,j9,j10,j11,j12,j13,j14,j15,j16,j17,j18,j19,j20],[]⟩ [.code LB,.inLoop LB,.inBlock 0]) cs) W:=by
 subst hLB;refine LoneTo.goes (n:=20) ?_;simp only[Tryz.f91,Option.getD_some,kF,jr,xb]
 s_c stepG_seq
 s_reg
 s_op
 s_c stepG_region_end
 s_c stepG_seq
 s_cond false
 s_exit
 s_c stepG_end
 s_stop
 exact LoneTo.done ⟨.returned (.tuple #[]),_,rfl,⟨rfl,hch,ho⟩,rfl,rfl,rfl,rfl,_,func91,by simp[results,Tryz.f91,Frame.at]⟩
theorem zcQ(LB:Code)(hLB:LB=xb (jr (kF (Tryz.f91.body.getD .skip))))(pb off cb n cap:Nat)(ad:Option Addr)(fr:Nat->zj5)(hn:n<=1000000000)(cs:List Frame)(w0:World)(hpb:pb≠cb):
 ∀(m i:Nat) (out:List zj5) (W:World) (j2 j3 j4 j5 j9 j10 j11 j12 j13 j14 j15 j16 j17 j18 j19 j20:Value),i+m=n->qX W cb out->qB cb w0 W->W.cell? (aA pb off)=some (.chan (some cb))->
  (∀k,k<n->∃b o,ad=some (aA b o)/\b≠cb/\W.cell? (aA b (o+k))=some (sA (fr k)))->
  LoneTo prog (QR cs cb (zcq fr out i m) w0) (G ((base 91).at ⟨#[pA pb off,.slice ad n cap,j2,j3,j4,j5,.slice ad n cap,iA n,iA i,j9,j10,j11,j12,j13,j14,j15,j16,j17,j18,j19,j20],[]⟩ [.code LB,.inLoop LB,.inBlock 0]) cs) W:=by
 intro m;induction m with
 |zero=>
  intro i out W j2 j3 j4 j5 j9 j10 j11 j12 j13 j14 j15 j16 j17 j18 j19 j20 hi ai ho _ _;exact zcR LB hLB pb off cb n cap i ad out (by omega) cs w0 W ai ho _ _ _ _ _ _ _ _ _ _ _ _ _ _ _ _
 |succ m ih=>
  intro i out W j2 j3 j4 j5 j9 j10 j11 j12 j13 j14 j15 j16 j17 j18 j19 j20 hi ai ho al hl;have h:(i:Int)<n:=by omega
  have ak:i<n:=by omega
  have hw1:IntKind.i64.wrap ((i:Int)+1)=(i:Int)+1:=wrap_small ((i:Int)+1) (by omega) (by omega);have e2:((i+1:Nat):Int)=(i:Int)+1:=by omega
  obtain⟨b,o,rfl,hb,hce⟩:=hl i ak;obtain⟨s,r,af⟩:=ai;have goal:∀(out':List zj5) (W':World) (k2 k3 k4 k5 k9 k10 k11 k12 k13 k14 k15 k16 k17 k18 k19 k20:Value),out'=put1 out (fr i)->qX W' cb out'->qB cb W W'->
   LoneTo prog (QR cs cb (zcq fr out i (m+1)) w0) (G ((base 91).at ⟨#[pA pb off,.slice (some (aA b o)) n cap,k2,k3,k4,k5,.slice (some (aA b o)) n cap,iA n,iA ((i:Int)+1),k9,k10,k11,k12,k13,k14,k15,k16,k17,k18,k19,k20],[]⟩ [.code LB,.inLoop LB,.inBlock 0]) cs) W':=by
   intro out' W' k2 k3 k4 k5 k9 k10 k11 k12 k13 k14 k15 k16 k17 k18 k19 k20 eo ah ag;have h1:=ih (i+1) out' W' k2 k3 k4 k5 k9 k10 k11 k12 k13 k14 k15 k16 k17 k18 k19 k20 (by omega) ah (ho.trans ag) (ag.cell al hpb) (λk hk=>by
    obtain⟨b',o',e',aj,an⟩:=hl k hk;exact⟨b',o',e',aj,ag.cell an aj⟩)
   rw[e2] at h1;show LoneTo prog (QR cs cb (zcq fr (put1 out (fr i)) (i+1) m) w0) _ W';rw[<-eo];exact h1
  by_cases aa:out.length<100;focus
   have ep:put1 out (fr i)=out++[fr i]:=zj2 aa;have ae:=λk2 k3 k4 k5 k9 k10 k11 k12 k13 k14 k15 k16 k17 k18 k19 k20=>goal (out++[fr i]) (W.setChan cb 100 (bufA (out++[fr i])) false (s+1) r false) k2 k3 k4 k5 k9 k10 k11 k12 k13 k14 k15 k16 k17 k18 k19 k20 ep.symm ⟨s+1,r,heap_setChan W cb 100 _ false (s+1) r false (by rcases Nat.lt_or_ge cb W.heap.size with h'|h';exact h';simp[Array.getElem?_eq_none h'] at af)⟩ (qB.set W cb 100 _ false (s+1) r false);clear goal ih hl;subst hLB;refine LoneTo.goes (n:=60) ?_;simp only[Tryz.f91,Option.getD_some,kF,jr,xb]
   s_c stepG_seq
   s_reg
   s_op
   s_c stepG_region_end
   s_c stepG_seq
   s_cond true
   s_c stepG_skip
   s_c stepG_seq
   s_c stepG_block
   s_c stepG_seq
   s_reg
   s_op
   s_op
   s_op
   s_c stepG_region_end
   s_c stepG_seq
   s_c stepG_seq
   s_reg
   s_op
   s_op
   s_op
   s_op
   s_c stepG_region_end
   s_reg
   s_op
   s_c stepG_region_end
   s_c stepG_seq
   s_reg
   s_stop
   refine LoneTo.step (step_lone_select_send_room (c:=cb) (cap:=100) (buf:=bufA out) (s:=s) (r:=r) (tm:=false) (stepG_comm (cases:=#[scase cb (sA (fr i)) (sA ⟨#[]⟩)]) (blocking:=false) (shape:=.select) (w':=W) rfl rfl (by decide) (by simp[go_sem,execOp,scase,Act.eval])) af (by rw[Yu];exact aa)) ?_;rw[Frame.finish_at,zcd]
   walk_nrm
   refine LoneTo.goes (n:=40) ?_
   s_op
   s_op
   s_c stepG_region_end
   s_c stepG_block
   s_cond true
  rotate_left;focus
   have ep:put1 out (fr i)=out:=zj3 aa;have ae:=λk2 k3 k4 k5 k9 k10 k11 k12 k13 k14 k15 k16 k17 k18 k19 k20=>goal out W k2 k3 k4 k5 k9 k10 k11 k12 k13 k14 k15 k16 k17 k18 k19 k20 ep.symm ⟨s,r,af⟩ (qB.refl cb W);clear goal ih hl;subst hLB;refine LoneTo.goes (n:=60) ?_;simp only[Tryz.f91,Option.getD_some,kF,jr,xb]
   s_c stepG_seq
   s_reg
   s_op
   s_c stepG_region_end
   s_c stepG_seq
   s_cond true
   s_c stepG_skip
   s_c stepG_seq
   s_c stepG_block
   s_c stepG_seq
   s_reg
   s_op
   s_op
   s_op
   s_c stepG_region_end
   s_c stepG_seq
   s_c stepG_seq
   s_reg
   s_op
   s_op
   s_op
   s_op
   s_c stepG_region_end
   s_reg
   s_op
   s_c stepG_region_end
   s_c stepG_seq
   s_reg
   s_stop
   refine LoneTo.step (step_lone_select_send_full (c:=cb) (cap:=100) (buf:=bufA out) (s:=s) (r:=r) (tm:=false) (stepG_comm (cases:=#[scase cb (sA (fr i)) (sA ⟨#[]⟩)]) (blocking:=false) (shape:=.select) (w':=W) rfl rfl (by decide) (by simp[go_sem,execOp,scase,Act.eval])) af (by rw[Yu];omega)) ?_;rw[Frame.finish_at]
   walk_nrm
   refine LoneTo.goes (n:=40) ?_
   s_op
   s_op
   s_c stepG_region_end
   s_c stepG_block
   s_cond false
  rotate_left;all_goals
   s_c stepG_skip
   s_c stepG_inBlock
   s_c stepG_inBlock
   s_reg
   s_op
   s_op
   s_c stepG_region_end
   s_c stepG_inLoop
   s_stop
   exact ae _ _ _ _ _ _ _ _ _ _ _ _ _ _ _ _
theorem Qf(pb off cb n cap:Nat)(ad:Option Addr)(fr:Nat->zj5)(out:List zj5)(w:World)(hn:n<=1000000000)(hpb:pb≠cb)(hch:qX w cb out)(hcp:w.cell? (aA pb off)=some (.chan (some cb)))
 (hl:∀k,k<n->∃b o,ad=some (aA b o)/\b≠cb/\w.cell? (aA b (o+k))=some (sA (fr k))):
 Calls prog 91 #[pA pb off,.slice ad n cap] w λe w'=>e=.returned (.tuple #[])/\qX w' cb (zcq fr out 0 n)/\qB cb w w':=by
 refine calls_of_loneTo λcs=>?_;have e:Frame.enter prog 91 #[pA pb off,.slice ad n cap] .normal=(base 91).at ⟨#[pA pb off,.slice ad n cap,undef,undef,undef,undef,undef,undef,undef,undef,undef,undef,undef,undef,undef,undef,undef,undef,undef,undef,undef],[]⟩ [.code (Tryz.f91.body.getD .skip)]:=by
  simp[Frame.enter,Frame.at,func91,base,Tryz.f91]
 rw[e];have aa:=λj2 j3 j4 j5 j9 j10 j11 j12 j13 j14 j15 j16 j17 j18 j19 j20=>zcQ _ rfl pb off cb n cap ad fr hn cs w hpb n 0 out w j2 j3 j4 j5 j9 j10 j11 j12 j13 j14 j15 j16 j17 j18 j19 j20 (by omega) hch (qB.refl cb w) hcp hl;refine LoneTo.goes (n:=20) ?_;simp only[Tryz.f91,Option.getD_some,kF,jr,xb] at aa ⊢
 s_c stepG_seq
 s_reg
 s_op
 s_op
 s_op
 s_c stepG_region_end
 s_c stepG_block
 s_c stepG_loop
 s_stop
 exact aa _ _ _ _ _ _ _ _ _ _ _ _ _ _ _ _
end
section
section
variable{P:Program}
theorem Jc{main:Bool}{fr c:Frame}{cs:List Frame}{w:World}{fn:Func}{v:Value}(hm:fr.mode=.returning)(hn:fr.kind=.normal)(hd:fr.defers=[])(hf:P.funcs[fr.fn]? =some fn)
 (hr:(results fn fr.tmps).run P w=.ok v w):∃es,stepG P main (G fr (c::cs)) w=.go (G (c.finish v) cs) w es:=by
 simp[G,stepG,unwind,doReturn,hm,hn,hd,hf,hr,GStep.after]
theorem Q4{o:Oper}{a:Act}{K:Act->World->Prop}{w w':World}{v y v':Value}{s x:Operand}{t:TypeId}(ho:o.op=.call { callee:=.builtin .append,args:=#[s,x],argTypes:=#[t,t] })(hs:a.eval s=v)(hx:a.eval x=y)
 (hr:(Builtin.append_ #[t,t] o.type #[v,y]).run P w=.ok v' w') (h:K (a.put o.dst v') w'):uponK o a K ((execOp a.eval o).run P w):=by
 unfold execOp;simp only[ho,resolve,invoke,builtin,Sem.run_bind,Sem.run_pure,Result.andThen_ok,List.map_toArray,List.map_cons,List.map_nil,hs,hx,hr];exact h
theorem Vn{o:Oper}{a:Act}{K:Act->World->Prop}{w w':World}{v v':Value}{x:Operand}{t:TypeId}(ho:o.op=.call { callee:=.builtin .close,args:=#[x],argTypes:=#[t] })(hx:a.eval x=v)
 (hr:(Builtin.close_ #[t] o.type #[v]).run P w=.ok v' w') (h:K (a.put o.dst v') w'):uponK o a K ((execOp a.eval o).run P w):=by
 unfold execOp;simp only[ho,resolve,invoke,builtin,Sem.run_bind,Sem.run_pure,Result.andThen_ok,List.map_toArray,List.map_cons,List.map_nil,hx,hr];exact h
theorem LoneTo.zi1{Q:Goroutine->World->Prop}{b:Frame}{a:Act}{ops:Array Oper}{i:Nat}{rest:List Nat}{k:List Item}{cs:List Frame}{w:World}{o:Oper}{f:FuncId}{fn:Func}{c:Code}{args:Array Operand}{ats:Array TypeId}{R:Ending->World->Prop}{vs:Array Value}
 (ho:ops[i]? =some o) (hw:Region.wanted o (yielded ops a.tmps)=true) (hk:b.kind≠.early) (hop:o.op=.call { callee:=.value (.func f),args,argTypes:=ats })
 (hf:P.funcs[f]? =some fn) (hname:(fn.name== "runtime.NumGoroutine")=false) (hb:fn.body=some c)
 (hvs:args.map a.eval=vs) (hC:Calls P f vs w R) (hR:∀e w',R e w'->∃v,e=.returned v/\LoneTo P Q (G (b.at (a.put o.dst v) (.inRegion ops rest::k)) cs) w'):
 LoneTo P Q (G (b.at a (.inRegion ops (i::rest)::k)) cs) w:=by
 subst hvs;have ai:fn.body.isNone=false:=by rw[hb];rfl
 have h1:=stepG_enter (main:=true) (cs:=cs) (k:=k) (rest:=rest) ho hw hk (run_call_body (w:=w) hop hf hname ai);refine LoneTo.step (step_solo_go rfl h1) ?_;obtain⟨e,w',fr,hr,aa,hfn,hl⟩:=hC (b.at a (.inRegion ops (i::rest)::k)::cs);obtain⟨v,rfl,ag⟩:=hR e w' hr;obtain⟨hm,hd,hn,fn',ah,ad⟩:=hl;obtain⟨es,h2⟩:=Jc (P:=P) (main:=true) (c:=b.at a (.inRegion ops (i::rest)::k)) (cs:=cs) hm hn hd ah ad;have ae:Steps P (solo (G (Frame.enter P f (args.map a.eval) .normal) (b.at a (.inRegion ops (i::rest)::k)::cs)) w) (solo (G fr (b.at a (.inRegion ops (i::rest)::k)::cs)) w'):=aa;have h3:LoneTo P Q (G fr (b.at a (.inRegion ops (i::rest)::k)::cs)) w':=by
  refine LoneTo.step (step_solo_go rfl h2) ?_;rw[Frame.finish_at];have e:((ops[i]?).bind (·.dst))=o.dst:=by rw[ho];rfl
  rw[e];exact ag
 obtain⟨g2,w2,af,hq⟩:=h3;exact⟨g2,w2,ae.trans af,hq⟩
end
theorem Tryz.zgC:(prog.info? 9).map (λi=>(i.zero,i.size,i.bytes))=some (some (sA zj4),1,16):=by kernel_rfl
theorem Tryz.zji(w:World):(Instr.makeChan 119 (iA 100)).run prog w=.ok (.chan (some w.heap.size)) (w.alloc (.chan 100 #[] false 0 0 false)):=by
 obtain⟨i,hi,hz,hs,hb⟩:=info_parts Tryz.zgC;simpa using run_makeChan (P:=prog) (w:=w) underlying119 hi .i64 100 (by omega) (by rw[hb];omega)
theorem Tryz.ziw:(prog.info? 121).map (·.size)=some 1:=by kernel_rfl
theorem KC(w:World):Calls prog 53 #[] w λe w'=>∃nc,w.heap.size<=nc/\e=.returned (.agg #[.chan (some nc)])/\qX w' nc []/\BW w w':=by
 have hmc:=Tryz.zji;go_enter func53,ntmps53;go_wp2;have q0:((w.alloc (.cells #[.chan (some (w.heap.size+1))] 121)).alloc (.chan 100 #[] false 0 0 false)).heap[w.heap.size]? =some (.cells #[.chan (some (w.heap.size+1))] 121 (0,0)):=by
  rw[zj9 _ _ w.heap.size (by simp)];exact zjC w _
 have q1:((w.alloc (.cells #[.chan (some (w.heap.size+1))] 121)).alloc (.chan 100 #[] false 0 0 false)).heap[w.heap.size+1]? =some (.chan 100 (bufA []) false 0 0 false):=by
  have h:=zjC (w.alloc (.cells #[.chan (some (w.heap.size+1))] 121)) (.chan 100 #[] false 0 0 false);simpa [bufA] using h
 exact zjT (v:=.agg #[.chan (some (w.heap.size+1))]) (kx results53 _ _ w.heap.size 121 _ _ rfl q0 underlying121 rfl Tryz.ziw) rfl ⟨_,Nat.le_succ _,rfl,⟨0,0,q1⟩,(bwA w).alloc (by simp) _⟩
def zfd(pb off cb:Nat)(C:Array Value)(t:TypeId)(out:List zj5)(w:World)(e:Ending)(w':World):Prop:=
 ∃v nc,e=.returned v/\w'.ownsRow w.heap.size 9 1 v out.length (out.map .string)/\w.heap.size<=nc/\qX w' nc []/\(∀g,v.ownBlock=some g->g≠nc)/\
  w'.heap[pb]? =some (.cells (C.setIfInBounds off (.chan (some nc))) t (0,0))/\w'.os=w.os/\w'.tape=w.tape/\w'.output=w.output/\w.heap.size<=w'.heap.size/\∀k,k<w.heap.size->k≠cb->k≠pb->w'.heap[k]? =w.heap[k]?
structure zaJ (cb:Nat) (w w':World):Prop where
 os:w'.os=w.os
 tape:w'.tape=w.tape
 output:w'.output=w.output
 size:w.heap.size<=w'.heap.size
 block:∀k,k<w.heap.size->k≠cb->w'.heap[k]? =w.heap[k]?
theorem zaJ.trans{cb:Nat}{w w' w'':World}(h:zaJ cb w w')(h':zaJ cb w' w''):zaJ cb w w'':=⟨h'.os.trans h.os,h'.tape.trans h.tape,h'.output.trans h.output,zjF h.size h'.size,λk hk hn=>(h'.block k (zjE hk h.size) hn).trans (h.block k hk hn)⟩
theorem zaJ.only{cb:Nat}{w w':World}(h:qB cb w w'):zaJ cb w w':=⟨h.os,h.tape,h.output,by rw[h.size];exact zjA _,λk _ hn=>h.block k hn⟩
theorem zce(out:List zj5)(i:Nat)(h:i<out.length):(bufA (out.drop i)).extract 1 (bufA (out.drop i)).size=bufA (out.drop (i+1)):=by
 unfold bufA;rw[List.drop_eq_getElem_cons h];apply Array.toList_inj.1;simp;rw[List.take_of_length_le (by simp;omega)]
theorem zaw(out:List zj5)(i:Nat)(h:i<out.length):(bufA (out.drop i)).getD 0 undef=sA (out.getD i zj4):=by
 unfold bufA;rw[List.drop_eq_getElem_cons h,zjK,zjJ h];simp;rw[zjJ h];rfl
theorem zaV(LB AF:Code)(hLB:LB=xb (jr (kF (Gg (kF (kF (kF (Tryz.f85.body.getD .skip))))))))(pb off cb:Nat)(out:List zj5)(hlen:out.length<=100)(cs:List Frame)(w0:World)(hcb0:cb<w0.heap.size)(Q:Goroutine->World->Prop)
 (hex:∀(W:World) (v j1 j2 j4 j5 j6 j7 j8 j9 j10 j11 j13 j14 j15 j16 j17 j18 j19 j20 j21 j22 j23:Value),W.ownsRow w0.heap.size 9 1 v out.length (out.map .string)->zaJ cb w0 W->
  LoneTo prog Q (G ((base 85).at ⟨#[pA pb off,j1,j2,v,j4,j5,j6,j7,j8,j9,j10,j11,.chan (some cb),j13,j14,j15,j16,j17,j18,j19,j20,j21,j22,j23],[]⟩ [.code AF]) cs) W):
 ∀(m i:Nat) (W:World) (v j1 j2 j4 j5 j6 j7 j8 j9 j10 j11 j13 j14 j15 j16 j17 j18 j19 j20 j21 j22 j23:Value),i+m=out.length->(∃s r,W.heap[cb]? =some (.chan 100 (bufA (out.drop i)) true s r false))->W.ownsRow w0.heap.size 9 1 v i ((out.take i).map .string)->zaJ cb w0 W->
  LoneTo prog Q (G ((base 85).at ⟨#[pA pb off,j1,j2,v,j4,j5,j6,j7,j8,j9,j10,j11,.chan (some cb),j13,j14,j15,j16,j17,j18,j19,j20,j21,j22,j23],[]⟩ [.code LB,.inLoop LB,.inBlock 0,.code AF]) cs) W:=by
 intro m;induction m with
 |zero=>
  intro i W v j1 j2 j4 j5 j6 j7 j8 j9 j10 j11 j13 j14 j15 j16 j17 j18 j19 j20 j21 j22 j23 hi ar ae hb;obtain⟨s,r,ak⟩:=ar;have aw:i=out.length:=by omega
  have hd:bufA (out.drop i)=#[]:=by rw[aw,List.drop_length];rfl
  rw[hd] at ak;have aa:W.ownsRow w0.heap.size 9 1 v out.length (out.map .string):=by rw[aw,zke] at ae;exact ae
  have aj:=λj1 j2 j4 j5 j6 j7 j8 j9 j10 j11 j13 j14 j15 j16 j17 j18 j19 j20 j21 j22 j23=>hex W v j1 j2 j4 j5 j6 j7 j8 j9 j10 j11 j13 j14 j15 j16 j17 j18 j19 j20 j21 j22 j23 aa hb;clear hex ae aa;subst hLB;refine LoneTo.goes (n:=10) ?_;simp only[Tryz.f85,Option.getD_some,kF,Gg,jr,xb]
  s_c stepG_seq
  s_reg
  s_stop
  refine LoneTo.step (step_lone_recv_shut true (c:=cb) (z:=sA ⟨#[]⟩) (cap:=100) (s:=s) (r:=r) (tm:=false) (stepG_comm (cases:=#[rcase cb (sA ⟨#[]⟩)]) (blocking:=true) (shape:=.recv true) (w':=W) rfl rfl (by decide) (by simp[go_sem,execOp,rcase,Act.eval])) ak) ?_;rw[Frame.finish_at];simp only[got,if_true]
  walk_nrm
  refine LoneTo.goes (n:=20) ?_
  s_op
  s_c stepG_region_end
  s_c stepG_seq
  s_cond false
  s_exit
  s_stop
  exact aj _ _ _ _ _ _ _ _ _ _ _ _ _ _ _ _ _ _ _ _ _
 |succ m ih=>
  intro i W v j1 j2 j4 j5 j6 j7 j8 j9 j10 j11 j13 j14 j15 j16 j17 j18 j19 j20 j21 j22 j23 hi ar ae hb;obtain⟨s,r,ak⟩:=ar;have al:i<out.length:=by omega
  obtain⟨f,hf⟩:=gen (out.getD i zj4);obtain⟨W1,an⟩:=gen (W.setChan cb 100 (bufA (out.drop (i+1))) true s (r+1) false);have aG:cb<W.heap.size:=zjE hcb0 hb.size;have ao:qB cb W W1:=by rw[an];exact qB.set W cb 100 _ true s (r+1) false
  have ay:W1.heap[cb]? =some (.chan 100 (bufA (out.drop (i+1))) true s (r+1) false):=by rw[an];exact heap_setChan W cb 100 _ true s (r+1) false aG
  have ai:W1.ownsRow w0.heap.size 9 1 v i ((out.take i).map .string):=zb ae (λg e _=>ao.block g (λe2=>by have:=(ae.lt g e).1;omega));have af:zaJ cb w0 W1:=hb.trans (zaJ.only ao);obtain⟨i9,aF,aE,aD,aC⟩:=info_parts Tryz.zgC;have aa:(W1.alloc (.cells #[sA f] 9)).ownsRow w0.heap.size 9 1 v i ((out.take i).map .string):=zb ai (λg _ hg=>zj9 W1 _ g hg);obtain⟨v',w',hr,ah,ad,-,-⟩:=run_append_own_at (P:=prog) (W1.alloc (.cells #[sA f] 9)) w0.heap.size 30 30 9 i9 (sA zj4) 1 16 underlying30 aF aE aD aC rfl (by decide) v i ((out.take i).map .string) aa (nA W1 0) 1 1 [sA f] rfl (λj u hj=>by
   match j,hj with
   |0,hj=>simp at hj;subst hj;simp[Addr.add]) (λu hu=>by simp at hu;subst hu;rfl) (by unfold maxLen;omega) (by omega) (by have:=af.size;simp;omega)
  have ag:w'.ownsRow w0.heap.size 9 1 v' (i+1) ((out.take (i+1)).map .string):=by
   have e:out.take (i+1)=out.take i++[f]:=by
    rw[<-List.take_append_getElem al,hf,zjK,zjJ al];rfl
   rw[e,List.map_append];exact ah
  have aB:zaJ cb w0 w':=by
   refine⟨ad.os.trans af.os,ad.tape.trans af.tape,ad.output.trans af.output,zjF af.size (zjF (by simp) ad.size),λk hk hn=>?_⟩;have aq:k<W1.heap.size:=zjE hk af.size;rw[ad.block k (by simp;omega) (λe=>by have:=(aa.lt k e.symm).1;omega),zj9 W1 _ k aq];exact af.block k hk hn
  have ax:w'.heap[cb]? =some (.chan 100 (bufA (out.drop (i+1))) true s (r+1) false):=by
   have aq:cb<W1.heap.size:=zjE hcb0 af.size;rw[ad.block cb (by simp;omega) (λe=>by have:=(aa.lt cb e.symm).1;omega),zj9 W1 _ cb aq];exact ay
  have aj:=λj1 j2 j4 j5 j6 j7 j8 j9 j10 j11 j13 j14 j15 j16 j17 j18 j19 j20 j21 j22 j23=>ih (i+1) w' v' j1 j2 j4 j5 j6 j7 j8 j9 j10 j11 j13 j14 j15 j16 j17 j18 j19 j20 j21 j22 j23 (by omega) ⟨s,r+1,ax⟩ ag aB;have au:=zaw out i al;rw[<-hf] at au;have az:=zce out i al;have av:0<(bufA (out.drop i)).size:=by rw[Yu,List.length_drop];omega
  clear hex ih ae ai aa ah ag ad hb af aB ay ax ao hf;subst hLB;refine LoneTo.goes (n:=10) ?_;simp only[Tryz.f85,Option.getD_some,kF,Gg,jr,xb]
  s_c stepG_seq
  s_reg
  s_stop
  refine LoneTo.step (step_lone_recv_buf true (c:=cb) (z:=sA ⟨#[]⟩) (cap:=100) (buf:=bufA (out.drop i)) (closed:=true) (s:=s) (r:=r) (tm:=false) (stepG_comm (cases:=#[rcase cb (sA ⟨#[]⟩)]) (blocking:=true) (shape:=.recv true) (w':=W) rfl rfl (by decide) (by simp[go_sem,execOp,rcase,Act.eval])) ak av) ?_;rw[Frame.finish_at,az,au,<-an];clear an az au ak av;simp only[got,if_true]
  walk_nrm
  refine LoneTo.goes (n:=40) ?_
  s_op
  s_c stepG_region_end
  s_c stepG_seq
  s_cond true
  s_c stepG_skip
  s_c stepG_block
  s_c stepG_seq
  s_reg
  s_op
  s_op
  s_c stepG_region_end
  s_reg
  s_op
  s_op
  s_op
  s_in
  refine goes_oper_k rfl rfl (by decide) λK hK=>?_;refine Q4 rfl rfl rfl hr (hK _ _ ⟨trivial,?_⟩);clear hK K
  walk_nrm
  s_op
  s_c stepG_region_end
  s_c stepG_inBlock
  s_c stepG_inLoop
  s_stop
  exact aj _ _ _ _ _ _ _ _ _ _ _ _ _ _ _ _ _ _ _ _ _
theorem zcz(pb off cb:Nat)(C:Array Value)(t:TypeId)(out:List zj5)(w:World)(hlen:out.length<=100)(hq:w.heap[pb]? =some (.cells C t (0,0)))(hC:C[off]? =some (.chan (some cb)))(hch:qX w cb out):
 Calls prog 85 #[pA pb off] w (zfd pb off cb C t out w):=by
 obtain⟨s,r,al⟩:=hch;have aq:pb≠cb:=λe=>by rw[e,al] at hq;cases hq
 have au:cb<w.heap.size:=zg al;have ao:pb<w.heap.size:=zg hq;have aB:w.cell? (aA pb off)=some (.chan (some cb)):=(zjD w pb off _ _ _ hq).trans hC;refine calls_of_loneTo (λcs=>?_) (by rintro _ ⟨_,_,h,_⟩;cases h);have e:Frame.enter prog 85 #[pA pb off] .normal=(base 85).at ⟨#[pA pb off,undef,undef,undef,undef,undef,undef,undef,undef,undef,undef,undef,undef,undef,undef,undef,undef,undef,undef,undef,undef,undef,undef,undef],[]⟩ [.code (Tryz.f85.body.getD .skip)]:=by
  simp[Frame.enter,Frame.at,func85,base,Tryz.f85]
 rw[e];obtain⟨W1,ag⟩:=gen (w.setChan cb 100 (bufA out) true s r false);have ai:qB cb w W1:=by rw[ag];exact qB.set w cb 100 _ true s r false
 have av:W1.heap[cb]? =some (.chan 100 (bufA out) true s r false):=by rw[ag];exact heap_setChan w cb 100 _ true s r false au
 have hc2:W1.cell? (aA pb off)=some (.chan (some cb)):=ai.cell aB aq;have ar:∀(W:World) (v j1 j2 j4 j5 j6 j7 j8 j9 j10 j11 j13 j14 j15 j16 j17 j18 j19 j20 j21 j22 j23:Value),W.ownsRow w.heap.size 9 1 v out.length (out.map .string)->zaJ cb w W->
  LoneTo prog (λg' w'=>∃e fr,g'=G fr cs/\zfd pb off cb C t out w e w'/\fr.fn=85/\fr.leaving prog w' e) (G ((base 85).at ⟨#[pA pb off,j1,j2,v,j4,j5,j6,j7,j8,j9,j10,j11,.chan (some cb),j13,j14,j15,j16,j17,j18,j19,j20,j21,j22,j23],[]⟩ [.code (kF (kF (kF (kF (Tryz.f85.body.getD .skip)))))]) cs) W:=by
  intro W v j1 j2 j4 j5 j6 j7 j8 j9 j10 j11 j13 j14 j15 j16 j17 j18 j19 j20 j21 j22 j23 af hb;refine LoneTo.goes (n:=10) ?_;simp only[Tryz.f85,Option.getD_some,kF]
  s_c stepG_seq
  s_reg
  s_op
  s_stop
  refine LoneTo.zi1 rfl rfl (by decide) rfl func53 (by kernel_rfl) rfl (vs:=#[]) (by simp) (KC W) λe w3 hR=>?_;obtain⟨nc,ax,rfl,ak,ae⟩:=hR;refine⟨_,rfl,?_⟩;have ah:w3.heap[pb]? =some (.cells C t (0,0)):=(ae.block pb (zjE ao hb.size)).trans ((hb.block pb ao aq).trans hq);have c3:w3.cell? (aA pb off)=some (.chan (some cb)):=(zjD w3 pb off _ _ _ ah).trans hC;have f3:w3.frozen? (aA pb off)=false:=by simp[World.frozen?,ah]
  have aj:w.heap.size<=nc:=zjF hb.size ax
  walk_nrm
  refine LoneTo.goes (n:=20) ?_
  s_op
  s_op
  s_c stepG_region_end
  s_c stepG_seq
  s_reg
  s_op
  s_op
  s_c stepG_region_end
  s_c stepG_ret'
  s_stop
  have hon:=zf w3 pb off (.chan (some nc));have aw:nc≠pb:=by omega
  have an:∀g,v.ownBlock=some g->w.heap.size<=g/\g<W.heap.size:=λg hg=>af.lt g hg;refine LoneTo.done ⟨.returned v,_,rfl,⟨v,nc,rfl,?_,aj,?_,?_,?_,?_,?_,?_,?_,?_⟩,rfl,rfl,rfl,rfl,_,func85,by simp[results,Tryz.f85,Frame.at]⟩
  .exact zb (zb af (λg _ hg=>ae.block g hg)) (λg hg _=>hon.block g (by have:=(an g hg).1;omega))
  .obtain ⟨s3,r3,h3⟩:=ak
   exact⟨s3,r3,(hon.block nc aw).trans h3⟩
  .exact λg hg=>by have:=(an g hg).2;omega
  .simp [World.setCell,Array.getElem?_modify,ah]
  .rw [hon.os,ae.os,hb.os]
  .rw [hon.tape,ae.tape,hb.tape]
  .rw [hon.output,ae.output,hb.output]
  .rw [hon.size];exact zjF hb.size ae.size
  .intro k hk az ay;rw[hon.block k ay,ae.block k (zjE hk hb.size),hb.block k hk az]
 have aa:=λj1 j2 j4 j5 j6 j7 j8 j9 j10 j11 j13 j14 j15 j16 j17 j18 j19 j20 j21 j22 j23=>zaV _ _ rfl pb off cb out hlen cs w au _ ar out.length 0 W1 (.slice none 0 0) j1 j2 j4 j5 j6 j7 j8 j9 j10 j11 j13 j14 j15 j16 j17 j18 j19 j20 j21 j22 j23 (by omega) ⟨s,r,av⟩ (zjZ _ _ _ _) (zaJ.only ai);have ad:∀ats ty,(Builtin.close_ ats ty #[.chan (some cb)]).run prog w=.ok (.tuple #[]) W1:=λats ty=>by rw[ag];exact run_close_open (P:=prog) (w:=w) ats ty al
 clear ar ag ai av;refine LoneTo.goes (n:=40) ?_;simp only[Tryz.f85,Option.getD_some,kF,Gg,jr,xb] at aa ⊢
 s_c stepG_seq
 s_reg
 s_op
 s_c stepG_region_end
 s_c stepG_seq
 s_reg
 s_op
 s_op
 s_op
 s_op
 s_in
 refine goes_oper_k rfl rfl (by decide) λK hK=>?_;refine Vn rfl rfl (ad _ _) (hK _ _ ⟨trivial,?_⟩);clear hK K
 walk_nrm
 s_c stepG_region_end
 s_c stepG_seq
 s_reg
 s_op
 s_c stepG_region_end
 s_c stepG_seq
 s_c stepG_seq
 s_reg
 s_op
 s_op
 s_op
 s_op
 s_c stepG_region_end
 s_c stepG_block
 s_c stepG_loop
 s_stop
 exact aa _ _ _ _ _ _ _ _ _ _ _ _ _ _ _ _ _ _ _ _ _

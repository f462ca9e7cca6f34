/- Proved here: what New makes: a node that has begun, and done its rules. -/
import Derived.Test.YtcfjhbcpjpgodaaGreatDoorJ31
import Derived.Test.YtcfjhbcpjpgodaaGreatDoorJ25
import Derived.Test.YtcfjhbcpjpgodaaGreatDoorJ30
import Derived.Test.YtcfjhbcpjpgodaaGreatDoorJ34
import Derived.Test.YtcfjhbcpjpgodaaGreatDoorJ44
import Derived.Test.YtcfjhbcpjpgodaaGreatDoorTakeL
namespace Go.Proofs.YtcfjhbcpjpgodaaGreatDoor
open Go.RowKit Go.Proofs.Tryz
set_option linter.unusedSimpArgs false
set_option linter.unusedVariables false
set_option maxRecDepth 100000
set_option maxHeartbeats 12800000
def bornS(y:Nat→Int)(sg:Nat→List ByteArray)(i:Nat):NodeS:=((nodeS0 y sg).nextLog []).beginR i 0
theorem born_ok{y:Nat→Int}{sg:Nat→List ByteArray}{i S:Nat}(hx:Dom y)(hp:0<sumTo y 8)(hs:(sg i).length≤S):NOk S 0 i 0 (bornS y sg i):=by
 refine NOk.begin ?_;refine⟨hx,hp,Nat.zero_le _,Nat.zero_le _,by show(1:Nat)≤3;omega,LogOk.nil _,LogOk.nil _,(fun _ h=>by cases h),?_,?_,Nat.zero_le _,Nat.zero_le _,Nat.zero_le _,Nat.zero_le _,(fun _ h=>by cases h),Nat.zero_le _,(fun _ h=>by cases h),Nat.zero_le _⟩
 .show ((ownN ([]:List EntV):Nat):Int)≤4*((0:Nat):Int)+((1:Nat):Int)+(-1)
  unfold ownN;simp
 show(((sg i).length:Nat):Int)≤S+84*((0:Nat):Int)+4*((0:Nat):Int)+((1:Nat):Int)+(-1);omega
theorem born_sg(y:Nat→Int)(sg:Nat→List ByteArray)(i k:Nat)(hk:k≠i):((bornS y sg i).goOnS i).sg k=sg k:=by
 have h1:SgO i ((nodeS0 y sg).nextLog []) ((bornS y sg i).goOnS i):=(sgo_begin _ _ _).trans (sgo_goF i 2200 _);exact h1 k hk
theorem new_all{B:Nat}{es:List Addr}{m:Int}{R:Nat→Prop}{kb rb n i S:Nat}{sg:Nat→List ByteArray}{w:World}
 (g:Nat→Int) (p:Option Addr) (q cap:Nat) (y:Nat→Int) (hl:Lies w w.heap.size p q (fun j=>.int .i64 (g j))) (hgen:genR g q=(y,true)) (hx:Dom y) (hp:0<sumTo y 8)
 (hring:RingI R rb n sg w) (hkey:KeyAt w kb rb i) (hin:i<n) (hkr:¬R kb) (hrl:∀k,R k→B≤k∧k<w.heap.size) (hglob:GlobAt B es m w) (hbl:B≤w.heap.size) (hsg:(sg i).length≤S) (hS:S≤900000000000):
 Calls prog 12 #[.pointer (some ⟨kb,0,none⟩),.slice p q cap] w (NewP B es m R kb rb n i ((bornS y sg i).goOnS i) w):=by
 have hok:=born_ok (i:=i) hx hp hsg;obtain⟨⟨k,hk⟩,_⟩:=hok.runs;exact new_yes (N:=2000) (NodeS.decS i) (NOk S 0 i 0) decS_false (fun s hs=>hs.st (by omega) (by omega) hS) (by omega) (fun nb cb F R s W hW hs=>decide_all hW hs (by omega) hS) g p q cap y hl hgen hx hp hring hkey hin hkr hrl hglob hbl (by omega) hk
theorem genC_all{g:Nat→Int}{n:Nat}(hn:n≤8)(hn1:1≤n)(hgb:∀i,i<n→1≤g i∧g i≤3):genR g n=(regOf g n,true):=by
 rw[genR_good g n hn (fun i hi=>by have:=hgb i hi;omega)];have h:0<sumTo g n:=by
  obtain⟨k,rfl⟩:∃k,n=k+1:=⟨n-1,by omega⟩;have h1:=sumTo_bound g k (fun i hi=>by have:=hgb i (by omega);omega);have h2:=hgb k (by omega);unfold sumTo;omega
 rw[decide_eq_true h]
def honK(hon:Nat→Bool)(k:Nat):Nat→Bool:=fun j=>hon j&&decide (j<k)
theorem honK_lt{hon:Nat→Bool}{k j:Nat}(h:honK hon k j=true):j<k∧hon j=true:=by
 unfold honK at h;rw[Bool.and_eq_true_iff] at h;exact⟨of_decide_eq_true h.2,h.1⟩
theorem honK_in{hon:Nat→Bool}{k j:Nat}(h:j<k)(hh:hon j=true):honK hon k j=true:=by
 unfold honK;rw[hh,decide_eq_true h];rfl
theorem honK_up{hon:Nat→Bool}{k j:Nat}(h:honK hon (k+1) j=true)(hne:j≠k):honK hon k j=true:=by
 have h1:=honK_lt h;exact honK_in (by omega) h1.2
theorem honK_skip{hon:Nat→Bool}{k:Nat}(h:hon k=false):honK hon (k+1)=honK hon k:=by
 funext j;unfold honK;by_cases e:j=k
 .rw [e,h];rfl
 congr 1
 apply decide_eq_decide.2;omega
theorem CityWL.born{B:Nat}{es:List Addr}{m:Int}{hon:Nat→Bool}{Fs:Nat→Nat→Prop}{R F' R':Nat→Prop}{nbs ks cbs:Nat→Nat}{rb n k nb cb:Nat}{sg:Nat→List ByteArray}{st:Nat→NodeS}{s':NodeS}{w w':World}(h:CityWL B es m (honK hon k) Fs R nbs ks cbs rb n 0 st sg w)(hN:NodeW B es m F' R' nb (ks k) rb cb n k s' w')(hG:Goes (fun _=>False) R w F' R' w')(hok:NOk 0 0 k 0 s')(hsg:∀i,i≠k→s'.sg i=sg i):
 CityWL B es m (honK hon (k+1)) (updF Fs k F') R' (updN nbs k nb) ks (updN cbs k cb) rb n 0 (updS st k s') s'.sg w':=by
 have hF':∀b,F' b→w.heap.size≤b:=fun b hb=>(hG.ff b hb).elim (fun e=>e.elim) id;have hR':∀b,R' b→R b∨w.heap.size≤b:=hG.rr;have hkl:∀i,i<n→ks i<w.heap.size:=fun i hi=>(h.key i hi).lt;have hsame:∀b,b<w.heap.size→¬R b→w'.heap[b]? =w.heap[b]? :=fun b hb hn=>hG.same.block b hb (fun e=>e.elim (fun e=>e.elim) hn);have hkey:∀i,i<n→KeyAt w' (ks i) rb i:=fun i hi=>(h.key i hi).keep (hsame _ (hkl i hi) (h.kr i hi));have hkr':∀i,i<n→¬R' (ks i):=fun i hi hr=>(hR' _ hr).elim (h.kr i hi) (fun e=>by have:=hkl i hi;omega);refine⟨fun j hj hh=>?_,fun j hj hh=>?_,fun j hj hh=>?_,fun a b x ha hb hha hhb hab hx hy=>?_,fun j i hj hh hi hx=>?_,hN.ring,hkey,hkr',hN.rl,hN.glob,h.globR.same fun b hb=>hsame b (Nat.lt_of_lt_of_le hb h.bl) (fun e=>by have:=(h.rl b e).1;omega),hN.bl⟩
 .by_cases e:j=k
  .subst e;rw[updF_at,updN_at,updN_at,updS_at];exact hN
  rw[updF_ne e,updN_ne e,updN_ne e,updS_ne e];have hj1:=h.node j hj (honK_up hh e);refine⟨(hj1.node.frame (fun b hb=>hsame b (hj1.fl b hb).2 (hj1.fr b hb))).signed _,hN.ring,hkey j hj1.idn,hj1.idn,fun b hb hr=>?_,hj1.kf,hkr' j hj1.idn,fun b hb=>⟨(hj1.fl b hb).1,Nat.lt_of_lt_of_le (hj1.fl b hb).2 hG.same.size⟩,hN.rl,hN.glob,hN.bl⟩;rcases hR' b hr with h1|h1
  .exact hj1.fr b hb h1
  have:=(hj1.fl b hb).2;omega
 .by_cases e:j=k
  .subst e;rw[updS_at];exact hok
  rw[updS_ne e];refine(h.ok j hj (honK_up hh e)).ring ?_;rw[hsg j e,h.sgs j hj (honK_up hh e)]
 .by_cases e:j=k
  .rw [e,updS_at]
  rw[updS_ne e]
 .by_cases ea:a=k
  .have eb:b≠k:=fun e=>hab (ea.trans e.symm);rw[ea,updF_at] at hx;rw[updF_ne eb] at hy;have h1:=hF' x hx;have:=((h.node b hb (honK_up hhb eb)).fl x hy).2;omega
  rw[updF_ne ea] at hx;by_cases eb:b=k
  .rw [eb,updF_at] at hy;have h1:=hF' x hy;have:=((h.node a ha (honK_up hha ea)).fl x hx).2;omega
  rw[updF_ne eb] at hy;exact h.apart a b x ha hb (honK_up hha ea) (honK_up hhb eb) hab hx hy
 by_cases e:j=k
 .rw [e,updF_at] at hx;have h1:=hF' _ hx;have:=hkl i hi;omega
 rw[updF_ne e] at hx;exact h.keys j i hj (honK_up hh e) hi hx
theorem OutL.born{B:Nat}{hon:Nat→Bool}{Fs:Nat→Nat→Prop}{R F' R':Nat→Prop}{ks:Nat→Nat}{n k b:Nat}{w w':World}(h:OutL B (honK hon k) Fs R ks n w b)(hG:Goes (fun _=>False) R w F' R' w'):OutL B (honK hon (k+1)) (updF Fs k F') R' ks n w' b:=by
 refine⟨h.1,Nat.lt_of_lt_of_le h.2.1 hG.same.size,fun j hj hh hb=>?_,fun hb=>?_,h.2.2.2.2⟩
 .by_cases e:j=k
  .rw [e,updF_at] at hb;exact(hG.ff b hb).elim (fun e=>e.elim) (fun h1=>by have:=h.2.1;omega)
  rw[updF_ne e] at hb;exact h.2.2.1 j hj (honK_up hh e) hb
 rcases hG.rr b hb with h1|h1
 .exact h.2.2.2.1 h1
 have:=h.2.1;omega
theorem nodeL'_step(hon:Nat→Bool)(nbs:Nat→Nat)(k b:Nat)(hh:hon k=true):nodeL' hon (updN nbs k b) (k+1)=nodeL' hon nbs k++[.pointer (some ⟨b,0,none⟩)]:=by
 unfold nodeL';rw[List.range_succ,List.map_append]
 congr 1
 .apply List.map_congr_left;intro i hi;have:i≠k:=by have:=List.mem_range.1 hi;omega
  unfold ptL;rw[updN_ne this]
 simp[ptL,hh,updN_at]
theorem nodeL'_none(hon:Nat→Bool)(nbs:Nat→Nat)(k:Nat)(hh:hon k=false):nodeL' hon nbs (k+1)=nodeL' hon nbs k++[.pointer none]:=by
 unfold nodeL';rw[List.range_succ,List.map_append]
 congr 1
 simp[ptL,hh]
structure CityPL (B:Nat) (es:List Addr) (m:Int) (hon:Nat→Bool) (x0:Nat→Int) (Fs:Nat→Nat→Prop) (R:Nat→Prop) (nbs ks cbs:Nat→Nat) (rb n k cc:Nat) (gv kv nv:Value) (sg:Nat→List ByteArray) (st:Nat→NodeS) (w:World):Prop where
 city:CityWL B es m (honK hon k) Fs R nbs ks cbs rb n 0 st sg w
 ci:CI n (honK hon k) x0 ⟨st,sg,[]⟩
 fresh:∀i,i<n→honK hon k i=false→sg i=[]
 blk:w.heap[cc]? =some (.cells #[gv,.pointer (some ⟨rb,0,none⟩),kv,nv,.slice none 0 0] 84 (0,0))
 keyr:w.ownsRow 0 45 1 kv n (keyL ks n)
 nodes:w.ownsRow 0 26 1 nv k (nodeL' hon nbs k)
 occ:OutL B (honK hon k) Fs R ks n w cc
 okv:∀g,kv.ownBlock=some g→OutL B (honK hon k) Fs R ks n w g
 onv:∀g,nv.ownBlock=some g→OutL B (honK hon k) Fs R ks n w g
theorem CI.born{n k:Nat}{hon:Nat→Bool}{x0:Nat→Int}{st:Nat→NodeS}{sg:Nat→List ByteArray}{s':NodeS}(h:CI n (honK hon k) x0 ⟨st,sg,[]⟩)(hN:NI n k x0 s')(hsg:∀i,i≠k→s'.sg i=sg i)(hle:SgLe sg s'.sg):CI n (honK hon (k+1)) x0 ⟨updS st k s',s'.sg,[]⟩:=by
 refine⟨fun j hj hh=>?_,fun j hj hh=>?_⟩
 .by_cases e:j=k
  .subst e;show NI n j x0 (updS st j s' j);rw[updS_at];exact hN
  show NI n j x0 (updS st k s' j);rw[updS_ne e];have hs:=h.sg j hj (honK_up hh e);have hs':(st j).sg=sg:=hs;refine(h.ni j hj (honK_up hh e)).others ?_ ?_
  .show SgLe (st j).sg s'.sg;rw[hs'];exact hle
  show s'.sg j=(st j).sg j;rw[hs',hsg j e]
 by_cases e:j=k
 .subst e;show(updS st j s' j).sg=s'.sg;rw[updS_at]
 show(updS st k s' j).sg=s'.sg;rw[updS_ne e]
theorem CityPL.turn{B:Nat}{es:List Addr}{m:Int}{hon:Nat→Bool}{x0:Nat→Int}{Fs:Nat→Nat→Prop}{R:Nat→Prop}{nbs ks cbs:Nat→Nat}{rb n k cc:Nat}{gv kv nv nv':Value}{sg:Nat→List ByteArray}{st:Nat→NodeS}{w w':World}(hc:CityWL B es m (honK hon k) Fs R nbs ks cbs rb n 0 st sg w)(hci:CI n (honK hon k) x0 ⟨st,sg,[]⟩)(hfr:∀i,i<n→honK hon k i=false→sg i=[])(hblk0:w.heap[cc]? =some (.cells #[gv,.pointer (some ⟨rb,0,none⟩),kv,nv,.slice none 0 0] 84 (0,0)))(hkeyr:w.ownsRow 0 45 1 kv n (keyL ks n))(hnv:∀(g:Nat),nv.ownBlock=some g→∃c,w.heap[g]? =some (.cells c 26 (0,0)))(occ:OutL B (honK hon k) Fs R ks n w cc)(okv:∀g,kv.ownBlock=some g→OutL B (honK hon k) Fs R ks n w g)(onv:∀g,nv.ownBlock=some g→OutL B (honK hon k) Fs R ks n w g)
 (hblk:w'.heap[cc]? =some (.cells #[gv,.pointer (some ⟨rb,0,none⟩),kv,nv',.slice none 0 0] 84 (0,0))) (hown:w'.ownsRow 0 26 1 nv' k (nodeL' hon nbs k)) (hat:nv'.ownBlock=nv.ownBlock∨∀g,nv'.ownBlock=some g→w.heap.size≤g) (hs:SameBut (fun b=>b=cc∨some b=nv.ownBlock) w w'):
 CityPL B es m hon x0 Fs R nbs ks cbs rb n k cc gv kv nv' sg st w':=by
 refine⟨hc.other hs (fun b e=>e.elim (fun e=>e▸occ) (fun e=>onv b e.symm)),hci,hfr,hblk,own_blocks hkeyr fun g hg hl=>hs.block g hl (fun e=>e.elim (fun e=>own_ne hkeyr hblk0 (by decide) (e▸hg)) (fun e=>?_)),hown,occ.keep hs.size,fun g hg=>(okv g hg).keep hs.size,fun g hg=>?_⟩
 .obtain ⟨c,h1⟩:=hnv g e.symm
  exact own_ne hkeyr h1 (by decide) hg
 rcases hat with h1|h1
 .exact (onv g (h1▸hg)).keep hs.size
 have h2:=h1 g hg;refine⟨Nat.le_trans hc.bl h2,(hown.lt g hg).2,fun j hj hh hb=>?_,fun hb=>?_,fun i hi e=>?_⟩
 .have:=((hc.node j hj hh).fl g hb).2
  omega
 .have:=(hc.rl g hb).2
  omega
 have:=(hc.key i hi).lt;omega
theorem honK_all{hon:Nat→Bool}{n j:Nat}(hj:j<n):honK hon n j=hon j:=by
 unfold honK;rw[decide_eq_true hj,Bool.and_true]
theorem CityPL.done{B:Nat}{es:List Addr}{m:Int}{hon:Nat→Bool}{x0:Nat→Int}{Fs:Nat→Nat→Prop}{R:Nat→Prop}{nbs ks cbs:Nat→Nat}{rb n cc:Nat}{gv kv nv:Value}{sg:Nat→List ByteArray}{st:Nat→NodeS}{w:World}(h:CityPL B es m hon x0 Fs R nbs ks cbs rb n n cc gv kv nv sg st w)(hn:0<n):CityEL B es m hon x0 (fun _=>none) rb n cc 0 0 gv st sg [] w:=by
 have ho:∀b,OutL B (honK hon n) Fs R ks n w b→OutL B hon Fs R ks n w b:=fun b hb=>⟨hb.1,hb.2.1,fun j hj hh=>hb.2.2.1 j hj (by rw[honK_all hj];exact hh),hb.2.2.2⟩;refine⟨Nat.zero_le _,Fs,R,nbs,ks,cbs,kv,nv,.slice none 0 0,⟨⟨fun j hj hh=>h.city.node j hj (by rw[honK_all hj];exact hh),fun j hj hh=>h.city.ok j hj (by rw[honK_all hj];exact hh),fun j hj hh=>h.city.sgs j hj (by rw[honK_all hj];exact hh),fun a b x ha hb hha hhb=>h.city.apart a b x ha hb (by rw[honK_all ha];exact hha) (by rw[honK_all hb];exact hhb),fun j i hj hh hi=>h.city.keys j i hj (by rw[honK_all hj];exact hh) hi,h.city.ring,h.city.key,h.city.kr,h.city.rl,h.city.glob,h.city.globR,h.city.bl⟩,⟨fun j hj hh=>h.ci.ni j hj (by rw[honK_all hj];exact hh),fun j hj hh=>h.ci.sg j hj (by rw[honK_all hj];exact hh)⟩,fun q hq hqh=>?_,hn,h.blk,h.keyr,h.nodes,World.ownsRow_nil _ _ _ _,ho _ h.occ,fun g hg=>ho _ (h.okv g hg),fun g hg=>ho _ (h.onv g hg),fun g hg=>(by cases hg),fun b o hb=>(by cases hb)⟩⟩;rw[h.fresh q hq (by rw[honK_all hq];exact hqh)];exact Nat.le_refl _
theorem born_ni{n i:Nat}{y:Nat→Int}{sg:Nat→List ByteArray}(hi:i<n)(hs:sg i=[]):NI n i y ((bornS y sg i).goOnS i):=by
 refine NI.goOn ?_ hi;unfold bornS;refine NI.beginR ?_ hi;refine⟨rfl,(fun _ h=>by cases h),(fun _ h=>by cases h),(fun h b hb=>by have hb':([]:List ByteArray)[h]? =some b:=hb;cases hb'),(fun fr hf=>?_),(fun fr hf=>?_),(fun fr hf=>?_),(fun fr hf=>?_),(fun h0=>?_),ND.nil,ND.nil,(fun h d hd=>?_),(fun fr hf=>?_)⟩
 .have hf':fr∈sg i:=hf;rw[hs] at hf';cases hf'
 .have hf':fr∈sg i:=hf;rw[hs] at hf';cases hf'
 .have hf':fr∈sg i:=hf;rw[hs] at hf';cases hf'
 .have hf':fr∈sg i:=hf;rw[hs] at hf';cases hf'
 .exact absurd h0 (by show¬(0:Int)≤-1;decide)
 .have hd':([]:List (ByteArray×List ByteArray))[h]? =some d:=hd;cases hd'
 have hf':fr∈sg i:=hf;rw[hs] at hf';cases hf'
theorem Tryz.buildCity(p:Option Addr)(n c:Nat)(W:World):(Instr.build 84 #[(0,.slice p n c)]).run prog W=.ok (.agg #[.slice p n c,.pointer none,.slice none 0 0,.slice none 0 0,.slice none 0 0]) W:=by kernel_rfl
theorem Tryz.boxCity(p:Option Addr)(n c:Nat)(W:World):(Instr.box 84 (.agg #[.slice p n c,.pointer none,.slice none 0 0,.slice none 0 0,.slice none 0 0])).run prog W=.ok (.pointer (some ⟨W.heap.size,0,none⟩)) (W.alloc (.cells #[.slice p n c,.pointer none,.slice none 0 0,.slice none 0 0,.slice none 0 0] 84)):=by kernel_rfl
theorem Tryz.infoNodeQ:(prog.info? 26).map (fun i=>(i.zero,i.size,i.bytes))=some (some (.pointer none),1,8):=by kernel_rfl
section
variable{P:Program}
theorem wpList_build1{ops:Array Oper}{rest:List Oper}{op:Oper}{a:Act}{w:World}{Q:Exit→Act→World→Prop}(hgd:op.guard=none)(t:TypeId)(i0:Nat)(x0:Operand)(ho:op.op=.build t #[(i0,x0)])(v0 v:Value)
 (h0:a.eval x0=v0) (hr:(Instr.build t #[(i0,v0)]).run P w=.ok v w) (h:wpList P ops Q rest (a.put op.dst v) w):wpList P ops Q (op::rest) a w:=
 wpList_plain hgd fun _ hK=>by
  unfold Oper.wp execOp;simp only[ho,List.map_toArray,List.map_cons,List.map_nil,h0,hr,Sem.run_bind,Sem.run_pure,Result.andThen_ok];exact hK _ _ h
theorem wpList_boxC{ops:Array Oper}{rest:List Oper}{op:Oper}{a:Act}{w w':World}{Q:Exit→Act→World→Prop}(hgd:op.guard=none)(t:TypeId)(x:Operand)(ho:op.op=.box t x)(vx v:Value)
 (hx:a.eval x=vx) (hr:(Instr.box t vx).run P w=.ok v w') (h:wpList P ops Q rest (a.put op.dst v) w'):wpList P ops Q (op::rest) a w:=
 wpList_plain hgd fun _ hK=>by
  unfold Oper.wp execOp;simp only[ho,hx,hr,Sem.run_bind,Sem.run_pure,Result.andThen_ok];exact hK _ _ h
end
def honB(lies:Int):Nat→Bool:=fun j=> !decide (bitI lies j=1)
theorem born_su(y:Nat→Int)(sg:Nat→List ByteArray)(i:Nat):SgLe sg ((bornS y sg i).goOnS i).sg:=by
 have h1:SgU i ((nodeS0 y sg).nextLog []) ((bornS y sg i).goOnS i):=(sgu_begin _ i 0).trans (sgu_goF i 2200 _);exact h1
theorem city_anyL{es:List Addr}{m:Int}(lies:Int)(g:Nat→Int)(gp:Option Addr)(n gc:Nat)(w:World)(hl:Lies w w.heap.size gp n (fun i=>.int .i64 (g i)))(hgb:∀i,i<n→1≤g i∧g i≤3)(hn:n≤8)(hn1:1≤n)(hglob:GlobAt w.heap.size es m w)(hglobR:GlobR w.heap.size es w):
 Calls prog 27 #[.slice gp n gc,.int .i64 lies] w fun e w'=>∃cc rb st sg said,e=.returned (.pointer (some ⟨cc,0,none⟩))∧CityEL w.heap.size es m (honB lies) (regOf g n) (fun _=>none) rb n cc 0 (100*n) (.slice gp n gc) st sg said w'∧Below w.heap.size w w':=by
 obtain⟨iW,hiW,hz0,hz1,hz2⟩:=info_parts Tryz.infoNodeQ;obtain⟨w1,hw1⟩:=gen (w.alloc (.cells #[.slice gp n gc,.pointer none,.slice none 0 0,.slice none 0 0,.slice none 0 0] 84));have hb1:Below w.heap.size w w1:=by rw[hw1];exact(Below.refl _ w).alloc (Nat.le_refl _) _
 have hq1:w1.heap[w.heap.size]? =some (.cells #[.slice gp n gc,.pointer none,.slice none 0 0,.slice none 0 0,.slice none 0 0] 84 (0,0)):=by rw[hw1];exact heap_alloc_new w _
 obtain⟨HAL,HL,HGB,HGL,HGR,HB1,HQ1,HW1⟩:=hide8 (keepAlive_any w1 (hglob.below (Nat.le_refl _) hb1) hb1.size) hl hgb hglob hglobR hb1 hq1 hw1;clear hl hgb hglob hglobR hb1 hq1 hw1;go_enter func27,ntmps27;go_wp2_with (first|(refine wpList_build1 rfl 84 0 _ rfl (.slice gp n gc) _ rfl (Tryz.buildCity gp n gc _) ?_)|(refine wpList_boxC rfl 84 _ rfl _ _ rfl (Tryz.boxCity gp n gc _) ?_)|fail)
 rw[←HW1.out];refine HAL.out.mono ?_;rintro e w2 ⟨rfl,hb2⟩;have HB2:Hid (Below w.heap.size w w2):=HB1.out.trans (hb2.mono HB1.out.size);have HQ2:Hid (w2.heap[w.heap.size]? =some (.cells #[.slice gp n gc,.pointer none,.slice none 0 0,.slice none 0 0,.slice none 0 0] 84 (0,0))):=blk HQ1.out hb2;have HRN:=hide (ringNew_any n w2 hn1 (by omega));clear hb2 HAL;go_wp2_with fail
 refine HRN.out.mono ?_;rintro e w3 ⟨ov,kp,kc,ks,rfl,hring,hov,hkr,hks,hb3⟩;obtain⟨cc,hcc⟩:=gen w.heap.size;obtain⟨rb,hrb⟩:=gen w2.heap.size;have hccrb:cc<rb:=by have:=row_lt0 HQ2.out;omega
 have hq3:w3.heap[cc]? =some (.cells #[.slice gp n gc,.pointer none,.slice none 0 0,.slice none 0 0,.slice none 0 0] 84 (0,0)):=by rw[hcc];exact blk HQ2.out hb3
 obtain⟨w3a,hw3a⟩:=gen (w3.setCell ⟨cc,1,none⟩ (.pointer (some ⟨rb,0,none⟩)));have hq3a:w3a.heap[cc]? =some (.cells #[.slice gp n gc,.pointer (some ⟨rb,0,none⟩),.slice none 0 0,.slice none 0 0,.slice none 0 0] 84 (0,0)):=by rw[hw3a,setCell_row hq3 1 _];rfl
 have ho3a:Only cc w3 w3a:=by rw[hw3a];exact only_setCell w3 cc 1 _
 obtain⟨w4,hw4⟩:=gen (w3a.setCell ⟨cc,2,none⟩ (.slice kp n kc));have hq4:w4.heap[cc]? =some (.cells #[.slice gp n gc,.pointer (some ⟨rb,0,none⟩),.slice kp n kc,.slice none 0 0,.slice none 0 0] 84 (0,0)):=by rw[hw4,setCell_row hq3a 2 _];rfl
 have ho4:Only cc w3a w4:=by rw[hw4];exact only_setCell w3a cc 2 _
 have hs4:SameBut (fun b=>b=cc) w3 w4:=⟨ho4.os.trans ho3a.os,ho4.tape.trans ho3a.tape,ho4.output.trans ho3a.output,by rw[ho4.size,ho3a.size];exact Nat.le_refl _,fun b _ hb=>(ho4.block b hb).trans (ho3a.block b hb)⟩;have c1:w3.cell? ⟨cc,1,none⟩=some (.pointer none):=cell_of_row w3 cc 1 _ _ _ hq3;have f1:w3.frozen? ⟨cc,1,none⟩=false:=frozen_row hq3 1;have c2:(w3.setCell ⟨cc,1,none⟩ (.pointer (some ⟨rb,0,none⟩))).cell? ⟨cc,2,none⟩=some (.slice none 0 0):=by rw[←hw3a];exact cell_of_row w3a cc 2 _ _ _ hq3a
 have f2:(w3.setCell ⟨cc,1,none⟩ (.pointer (some ⟨rb,0,none⟩))).frozen? ⟨cc,2,none⟩=false:=by rw[←hw3a];exact frozen_row hq3a 2
 have HBW4:Hid (Below w.heap.size w w4):=(HB2.out.trans (hb3.mono HB2.out.size)).trans (Below.same hs4 (fun b e=>by rw[e,hcc];exact Nat.le_refl _) (Nat.le_trans HB2.out.size hb3.size));have hsz4:w4.heap.size=w3.heap.size:=by rw[ho4.size,ho3a.size]
 rw[←hrb] at hring hov hkr hks;have hR:∀b,(b=rb∨some b=ov.ownBlock)→b≠cc:=fun b h=>h.elim (fun e=>by omega) (fun e=>fun e2=>by have:=(hov.lt b e.symm).1;omega);have hkc:∀i,i<n→ks i≠cc:=fun i hi=>by have:=(hks i hi).1;omega
 have hkey4:∀i,i<n→KeyAt w4 (ks i) rb i:=fun i hi=>(hks i hi).2.keep (hs4.block _ (hks i hi).2.lt (hkc i hi));have hK0:∀j,honK (honB lies) 0 j=true→False:=fun j hh=>absurd (honK_lt hh).1 (by omega);have HCP:Hid (CityPL w.heap.size es m (honB lies) (regOf g n) (fun _ _=>False) (fun b=>b=rb∨some b=ov.ownBlock) (fun _=>0) ks (fun _=>0) rb n 0 cc (.slice gp n gc) (.slice kp n kc) (.slice none 0 0) (fun _=>[]) (fun _=>nodeS0 (fun _=>0) (fun _=>[])) w4):=by
  have hB3:w.heap.size≤w3.heap.size:=Nat.le_trans HB2.out.size hb3.size;refine⟨⟨fun j hj hh=>(hK0 j hh).elim,fun j hj hh=>(hK0 j hh).elim,fun j hj hh=>(hK0 j hh).elim,fun a b x ha hb hha=>(hK0 a hha).elim,fun j i hj hh=>(hK0 j hh).elim,hring.frame (fun b hb=>hs4.block b ?_ (hR b hb)),hkey4,fun i hi h=>?_,fun b hb=>⟨?_,?_⟩,HGL.out.below (Nat.le_refl _) HBW4.out,HGR.out.below (Nat.le_refl _) HBW4.out,HBW4.out.size⟩,⟨fun j hj hh=>(hK0 j hh).elim,fun j hj hh=>(hK0 j hh).elim⟩,fun i hi hh=>rfl,hq4,?_,World.ownsRow_nil _ _ _ _,⟨by rw[hcc];exact Nat.le_refl _,row_lt0 hq4,fun j hj hh=>(hK0 j hh).elim,fun h=>hR cc h rfl,hkc⟩,fun b hb=>?_,fun b hb=>by cases hb⟩
  .exact hb.elim (fun e=>by rw[e];have:=hb3.size;have h2:=(hks 0 (by omega)).2.lt;have h3:=(hks 0 (by omega)).1;omega) (fun e=>(hov.lt b e.symm).2)
  .rcases h with h|h
   .have:=(hks i hi).1
    omega
   exact own_ne hov (hks i hi).2 (by decide) h.symm
  .exact hb.elim (fun e=>by rw[e,hrb];exact HB2.out.size) (fun e=>by have h1:=(hov.lt b e.symm).1;have h2:=HB2.out.size;omega)
  .rw [hsz4];exact hb.elim (fun e=>by rw[e];have h2:=(hks 0 (by omega)).2.lt;have h3:=(hks 0 (by omega)).1;omega) (fun e=>(hov.lt b e.symm).2)
  .exact own_blocks (own_baseC hkr (Nat.zero_le _)) fun b hb hlt=>hs4.block b hlt (fun e=>by have h1:=(hkr.lt b hb).1;omega)
  have h1:=(hkr.lt b hb).1;have h2:=(hkr.lt b hb).2;refine⟨by have:=HB2.out.size;omega,by rw[hsz4];exact h2,fun j hj hh=>(hK0 j hh).elim,fun h=>?_,fun i hi e=>?_⟩
  .rcases h with h|h
   .omega
   exact own_tt hkr hov (by decide) b hb h.symm
  exact own_ne hkr (hks i hi).2 (by decide) (e▸hb)
 clear hK0;have HW4:=hide (show w4=(w3.setCell ⟨cc,1,none⟩ (.pointer (some ⟨rb,0,none⟩))).setCell ⟨cc,2,none⟩ (.slice kp n kc) by rw[hw4,hw3a]);have HCC:=hide hcc
 try rw[←hcc]
 try rw[←hrb]
 clear hring hov hkr hks hb3 hq3 hq3a ho3a ho4 hs4 hw4 hw3a hsz4 hR hkc hkey4 hq4 HRN hrb hcc;go_wp2
 try rw[←HW4.out]
 go_loopw [7,8,9] (fun iv _ _ wr=>∃(k:Nat) (Fs:Nat→Nat→Prop) (R:Nat→Prop) (nbs cbs:Nat→Nat) (nv:Value) (sg:Nat→List ByteArray) (st:Nat→NodeS),k≤n∧iv=.int .i64 k∧CityPL w.heap.size es m (honB lies) (regOf g n) Fs R nbs ks cbs rb n k cc (.slice gp n gc) (.slice kp n kc) nv sg st wr∧Below w.heap.size w wr) (fun iv _ _ _=>n-(intOf iv).toNat)
 case atStart=>exact⟨0,_,_,_,_,_,_,_,Nat.zero_le _,rfl,HCP.out,HBW4.out⟩
 obtain⟨k,Fs,R,nbs,cbs,nv,sg,st,hkn,rfl,hP,hbw⟩:=hrel;obtain⟨HP,HBW⟩:=hide2 hP hbw;have c2k:wr.cell? ⟨cc,2,none⟩=some (.slice kp n kc):=cell_of_row wr cc 2 _ _ _ hP.blk;clear hP hbw HCP;by_cases hend:k=n
 .have hge:¬(k:Int)<n:=by omega
  subst hend;have HHE:=hide (hears_anyL (HP.out.done (by omega)) hn (by omega));clear c2k;go_wp2_with fail
  refine HHE.out.mono ?_;rintro e w9 ⟨rfl,st2,sg2,said2,hmv2,hE2,hb2⟩;have HE2:=hide hE2;have HB9:Hid (Below w.heap.size w w9):=HBW.out.trans hb2;clear hmv2 hE2 hb2 HHE;go_wp2;go_ret;exact⟨cc,rb,st2,sg2,said2,rfl,HE2.out.mono (Nat.le_refl _) (by omega),HB9.out⟩
 have hk:k<n:=by omega
 have hlt2:(k:Int)<n:=by omega
 have hk64:(0:Int)≤k:=by omega
 by_cases hbit:bitI lies k=1;focus
  have hhk:honB lies k=false:=by unfold honB;rw[decide_eq_true hbit];rfl
  obtain⟨np,nc,hnv⟩:=own_slice HP.out.nodes;subst hnv;have hblk5:=HP.out.blk;have hb6:Below wr.heap.size wr (wr.alloc (.cells #[.pointer none] 26)):=(Below.refl _ wr).alloc (Nat.le_refl _) _;have HB6:=hide hb6;have c35:(wr.alloc (.cells #[.pointer none] 26)).cell? ⟨cc,3,none⟩=some (.slice np k nc):=cell_of_row _ cc 3 _ _ _ (blk hblk5 hb6);have c35w:wr.cell? ⟨cc,3,none⟩=some (.slice np k nc):=cell_of_row _ cc 3 _ _ _ hblk5;have HOWN:Hid ((wr.alloc (.cells #[.pointer none] 26)).ownsRow 0 26 1 (.slice np k nc) k (nodeL' (honB lies) nbs k)):=own_blocks HP.out.nodes fun b _ hb=>hb6.block b hb;have HN1:Hid (∀(j:Nat) (u:Value),[Value.pointer none][j]? =some u→(wr.alloc (.cells #[.pointer none] 26)).cell? ((⟨wr.heap.size,0,none⟩:Addr).add j)=some u):=fun j u hj=>by
   rw[addr_add,Nat.zero_add,cell_of_row _ wr.heap.size j _ _ _ (heap_alloc_new wr _)];simpa using hj
  obtain⟨HBLK6,HHK⟩:=hide2 (blk hblk5 hb6) hhk;have hbit2:bits .and .i64 (lies / 2^k) 1=1:=hbit;clear hb6 hblk5 hend hhk hbit;go_wp2_with (at_builtin;refine wpList_append_at _ rfl _ _ 82 rfl 0 26 iW (.pointer none) 1 8 underlying82 hiW hz0 hz1 hz2 rfl (by decide) (.slice np k nc) k (nodeL' (honB lies) nbs k) rfl HOWN.out ⟨wr.heap.size,0,none⟩ 1 1 [.pointer none] rfl rfl HN1.out (fun u hu=>by simp at hu;subst hu;rfl) (by unfold maxLen;omega) (by omega) (Nat.zero_le _) ?_;intro v7 w7 hown7 hgrow7 hat7;obtain⟨p7,c7,rfl⟩:=own_slice hown7;have hcc7:w7.heap[cc]? =some (.cells #[.slice gp n gc,.pointer (some ⟨rb,0,none⟩),.slice kp n kc,.slice np k nc,.slice none 0 0] 84 (0,0)):=(hgrow7.block cc (row_lt0 HBLK6.out) (fun e=>own_ne HP.out.nodes HP.out.blk (by decide) e.symm)).trans HBLK6.out;have c37:w7.cell? ⟨cc,3,none⟩=some (.slice np k nc):=cell_of_row w7 cc 3 _ _ _ hcc7;have f37:w7.frozen? ⟨cc,3,none⟩=false:=frozen_row hcc7 3;have HOWN7:=hide hown7;have HGR7:=hide hgrow7;have HAT7:=hide hat7;have HCC7:=hide hcc7;clear hown7 hgrow7 hat7 hcc7)
  obtain⟨w8,hw8⟩:=gen (w7.setCell ⟨cc,3,none⟩ (.slice p7 (k+1) c7));have ho8:Only cc w7 w8:=by rw[hw8];exact only_setCell w7 cc 3 _
  have hq8:w8.heap[cc]? =some (.cells #[.slice gp n gc,.pointer (some ⟨rb,0,none⟩),.slice kp n kc,.slice p7 (k+1) c7,.slice none 0 0] 84 (0,0)):=by rw[hw8,setCell_row HCC7.out 3 _];rfl
  have hs8:SameBut (fun b=>b=cc∨some b=Value.ownBlock (.slice np k nc)) wr w8:=by
   refine⟨ho8.os.trans (HGR7.out.os.trans HB6.out.os),ho8.tape.trans (HGR7.out.tape.trans HB6.out.tape),ho8.output.trans (HGR7.out.output.trans HB6.out.output),?_,fun b hb hnb=>?_⟩
   .rw [ho8.size];exact Nat.le_trans HB6.out.size HGR7.out.size
   .rw [ho8.block b (fun e=>hnb (Or.inl e)),HGR7.out.block b (Nat.lt_of_lt_of_le hb HB6.out.size) (fun e=>hnb (Or.inr e)),HB6.out.block b hb]
  have hv8:∀b,Value.ownBlock (.slice p7 (k+1) c7)=some b→b≠cc:=fun b hb e=>by
   rcases HAT7.out with h1|h1
   .exact own_ne HP.out.nodes HP.out.blk (by decide) (e▸(h1.symm.trans hb))
   .rw [h1] at hb;cases hb;have h2:=row_lt0 HBLK6.out;omega
  have HEND:Hid (CityPL w.heap.size es m (honB lies) (regOf g n) Fs R nbs ks cbs rb n (k+1) cc (.slice gp n gc) (.slice kp n kc) (.slice p7 (k+1) c7) sg st w8):=by
   have hP:=HP.out;have e1:=honK_skip (k:=k) HHK.out;refine CityPL.turn (nv:=.slice np k nc) (by rw[e1];exact hP.city) (by rw[e1];exact hP.ci) (by rw[e1];exact hP.fresh) hP.blk hP.keyr (fun b hb=>own_ty hP.nodes hb) (by rw[e1];exact hP.occ) (by rw[e1];exact hP.okv) (by rw[e1];exact hP.onv) hq8 ?_ ?_ hs8
   .rw [nodeL'_none _ _ _ HHK.out];exact own_blocks HOWN7.out fun b hb _=>ho8.block b (hv8 b hb)
   .rcases HAT7.out with h1|h1
    .exact Or.inl h1
    .refine Or.inr (fun b hb=>?_);rw[h1] at hb;cases hb;exact HB6.out.size
  have HBW8:Hid (Below w.heap.size w w8):=HBW.out.trans (Below.same hs8 (fun b e=>e.elim (fun e=>e▸HP.out.occ.1) (fun e=>(HP.out.onv b e.symm).1)) HP.out.city.bl)
 rotate_left;focus
  have hhk:honB lies k=true:=by unfold honB;rw[decide_eq_false hbit];rfl
  have hbit2:(bits .and .i64 (lies / 2^k) 1==1)=false:=by rw[beq_eq_false_iff_ne];exact hbit
  clear hbit;obtain⟨kg,hkp,_,hkgl,ck⟩:=key_cellN HP.out.keyr hk;subst hkp;have hsk:sg k=[]:=HP.out.fresh k hk (by cases e:honK (honB lies) k k with|false=>rfl|true=>exact absurd (honK_lt e).1 (by omega));have HNI:=hide (born_ni (y:=regOf g n) hk hsk);have hgen:=genC_all (g:=g) hn hn1 HGB.out;have hpos:=gen_power (g:=g) (n:=n) (by rw[hgen]);have hdom:=Dom.gen g n;rw[hgen] at hpos hdom;have HNW:=hide (new_all (S:=0) (B:=w.heap.size) (es:=es) (m:=m) g gp n gc (regOf g n) ((HL.out.below HBW.out).more HBW.out.size) hgen hdom hpos HP.out.city.ring (HP.out.city.key k hk) hk (HP.out.city.kr k hk) HP.out.city.rl HP.out.city.glob HP.out.city.bl (by rw[hsk];exact Nat.le_refl _) (by omega));have HOKB:=hide ((born_ok (i:=k) (S:=0) hdom hpos (show(sg k).length≤0 by rw[hsk];exact Nat.le_refl _)).runs.2);clear hgen hpos hdom hend hsk;go_wp2_with fail
  refine HNW.out.mono ?_;rintro e w5 ⟨nb,cb,F',R',rfl,hN,hG⟩;have hb5:∀b,OutL w.heap.size (honK (honB lies) k) Fs R ks n wr b→w5.heap[b]? =wr.heap[b]? :=fun b hb=>hG.same.block b hb.2.1 (fun e=>e.elim (fun e=>e.elim) hb.2.2.2.1);have hB5:=HP.out.city.born hN hG HOKB.out (fun i hi=>born_sg (regOf g n) sg k i hi);have hblk5:=(hb5 cc HP.out.occ).trans HP.out.blk;have hkr5:=own_blocks HP.out.keyr fun b hb _=>hb5 b (HP.out.okv b hb);have hnr5:=own_blocks HP.out.nodes fun b hb _=>hb5 b (HP.out.onv b hb);have hoc5:=HP.out.occ.born hG;have hok5:=fun b (hb:Value.ownBlock (.slice (some ⟨kg,0,none⟩) n kc)=some b)=>(HP.out.okv b hb).born hG;have hon5:=fun b (hb:nv.ownBlock=some b)=>(HP.out.onv b hb).born hG;have HCI:=hide (HP.out.ci.born HNI.out (fun i hi=>born_sg (regOf g n) sg k i hi) (born_su (regOf g n) sg k));have HFR:Hid (∀i,i<n→honK (honB lies) (k+1) i=false→((bornS (regOf g n) sg k).goOnS k).sg i=[]):=fun i hi hh=>by
   have hne:i≠k:=fun e=>by rw[e,honK_in (Nat.lt_succ_self k) hhk] at hh;cases hh
   rw[born_sg (regOf g n) sg k i hne];refine HP.out.fresh i hi ?_;cases e:honK (honB lies) k i with
   |false=>rfl
   |true=>rw[honK_in (by have:=(honK_lt e).1;omega) (honK_lt e).2] at hh;cases hh
  clear hb5;obtain⟨np,nc,hnv⟩:=own_slice hnr5;subst hnv;have HBW5:Hid (Below w.heap.size w w5):=HBW.out.trans (Below.of_goes hG (fun b e=>e.elim) (fun b e=>(HP.out.city.rl b e).1) HP.out.city.bl);have hb6:Below w5.heap.size w5 (w5.alloc (.cells #[.pointer (some ⟨nb,0,none⟩)] 26)):=(Below.refl _ w5).alloc (Nat.le_refl _) _;have HB6:=hide hb6;have c35:(w5.alloc (.cells #[.pointer (some ⟨nb,0,none⟩)] 26)).cell? ⟨cc,3,none⟩=some (.slice np k nc):=cell_of_row _ cc 3 _ _ _ (blk hblk5 hb6);have c35w:w5.cell? ⟨cc,3,none⟩=some (.slice np k nc):=cell_of_row _ cc 3 _ _ _ hblk5;have HOWN:Hid ((w5.alloc (.cells #[.pointer (some ⟨nb,0,none⟩)] 26)).ownsRow 0 26 1 (.slice np k nc) k (nodeL' (honB lies) nbs k)):=own_blocks hnr5 fun b _ hb=>hb6.block b hb;have HN1:Hid (∀(j:Nat) (u:Value),[Value.pointer (some ⟨nb,0,none⟩)][j]? =some u→(w5.alloc (.cells #[.pointer (some ⟨nb,0,none⟩)] 26)).cell? ((⟨w5.heap.size,0,none⟩:Addr).add j)=some u):=fun j u hj=>by
   rw[addr_add,Nat.zero_add,cell_of_row _ w5.heap.size j _ _ _ (heap_alloc_new w5 _)];simpa using hj
  obtain⟨HBLK6,HNR,HB5,HBLK5,HKR5,HOC,HOKV,HON⟩:=hide8 (blk hblk5 hb6) hnr5 hB5 hblk5 hkr5 hoc5 hok5 hon5;clear hN hG hB5 hblk5 hkr5 hnr5 hoc5 hok5 hon5 hb6 HNW HOKB;go_wp2_with (at_builtin;refine wpList_append_at _ rfl _ _ 82 rfl 0 26 iW (.pointer none) 1 8 underlying82 hiW hz0 hz1 hz2 rfl (by decide) (.slice np k nc) k (nodeL' (honB lies) nbs k) rfl HOWN.out ⟨w5.heap.size,0,none⟩ 1 1 [.pointer (some ⟨nb,0,none⟩)] rfl rfl HN1.out (fun u hu=>by simp at hu;subst hu;rfl) (by unfold maxLen;omega) (by omega) (Nat.zero_le _) ?_;intro v7 w7 hown7 hgrow7 hat7;obtain⟨p7,c7,rfl⟩:=own_slice hown7;have hcc7:w7.heap[cc]? =some (.cells #[.slice gp n gc,.pointer (some ⟨rb,0,none⟩),.slice (some ⟨kg,0,none⟩) n kc,.slice np k nc,.slice none 0 0] 84 (0,0)):=(hgrow7.block cc (row_lt0 HBLK6.out) (fun e=>own_ne HNR.out HBLK5.out (by decide) e.symm)).trans HBLK6.out;have c37:w7.cell? ⟨cc,3,none⟩=some (.slice np k nc):=cell_of_row w7 cc 3 _ _ _ hcc7;have f37:w7.frozen? ⟨cc,3,none⟩=false:=frozen_row hcc7 3;have HOWN7:=hide hown7;have HGR7:=hide hgrow7;have HAT7:=hide hat7;have HCC7:=hide hcc7;clear hown7 hgrow7 hat7 hcc7)
  obtain⟨w8,hw8⟩:=gen (w7.setCell ⟨cc,3,none⟩ (.slice p7 (k+1) c7));have ho8:Only cc w7 w8:=by rw[hw8];exact only_setCell w7 cc 3 _
  have hq8:w8.heap[cc]? =some (.cells #[.slice gp n gc,.pointer (some ⟨rb,0,none⟩),.slice (some ⟨kg,0,none⟩) n kc,.slice p7 (k+1) c7,.slice none 0 0] 84 (0,0)):=by rw[hw8,setCell_row HCC7.out 3 _];rfl
  have hs8:SameBut (fun b=>b=cc∨some b=Value.ownBlock (.slice np k nc)) w5 w8:=by
   refine⟨ho8.os.trans (HGR7.out.os.trans HB6.out.os),ho8.tape.trans (HGR7.out.tape.trans HB6.out.tape),ho8.output.trans (HGR7.out.output.trans HB6.out.output),?_,fun b hb hnb=>?_⟩
   .rw [ho8.size];exact Nat.le_trans HB6.out.size HGR7.out.size
   .rw [ho8.block b (fun e=>hnb (Or.inl e)),HGR7.out.block b (Nat.lt_of_lt_of_le hb HB6.out.size) (fun e=>hnb (Or.inr e)),HB6.out.block b hb]
  have hv8:∀b,Value.ownBlock (.slice p7 (k+1) c7)=some b→b≠cc:=fun b hb e=>by
   rcases HAT7.out with h1|h1
   .exact own_ne HNR.out HBLK5.out (by decide) (e▸(h1.symm.trans hb))
   .rw [h1] at hb;cases hb;have h2:=row_lt0 HBLK6.out;omega
  have HEND:Hid (CityPL w.heap.size es m (honB lies) (regOf g n) (updF Fs k F') R' (updN nbs k nb) ks (updN cbs k cb) rb n (k+1) cc (.slice gp n gc) (.slice (some ⟨kg,0,none⟩) n kc) (.slice p7 (k+1) c7) ((bornS (regOf g n) sg k).goOnS k).sg (updS st k ((bornS (regOf g n) sg k).goOnS k)) w8):=by
   refine CityPL.turn HB5.out HCI.out HFR.out HBLK5.out HKR5.out (fun b hb=>own_ty HNR.out hb) HOC.out HOKV.out HON.out hq8 ?_ ?_ hs8
   .rw [nodeL'_step _ _ _ _ hhk];exact own_blocks HOWN7.out fun b hb _=>ho8.block b (hv8 b hb)
   .rcases HAT7.out with h1|h1
    .exact Or.inl h1
    .refine Or.inr (fun b hb=>?_);rw[h1] at hb;cases hb;exact HB6.out.size
  have HBW8:Hid (Below w.heap.size w w8):=HBW5.out.trans (Below.same hs8 (fun b e=>e.elim (fun e=>e▸HOC.out.1) (fun e=>(HON.out b e.symm).1)) HB5.out.bl)
 rotate_left;all_goals
  try rw[←hw8]
  clear hw8 ho8 hq8 hs8 hv8
  try go_wp2
  go_roundw
  case rel=>exact⟨k+1,_,_,_,_,_,_,_,by omega,by go_num,HEND.out,HBW8.out⟩
  case measure=>simp[intOf];omega
end Go.Proofs.YtcfjhbcpjpgodaaGreatDoor

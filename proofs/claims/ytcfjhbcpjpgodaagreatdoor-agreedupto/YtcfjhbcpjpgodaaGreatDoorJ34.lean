/- Proved here: nodes that share a ring, some of whom lie (those are none), in memory, with the texts that were said; what stays of them where one of them turns. -/
import Derived.Test.YtcfjhbcpjpgodaaGreatDoorJ30
import Derived.Test.YtcfjhbcpjpgodaaGreatDoorJ29
import Derived.Test.YtcfjhbcpjpgodaaGreatDoorJ33
import Derived.Laws.Closers25
import Derived.LaidEqlPtr
import Derived.Test.YtcfjhbcpjpgodaaGreatDoorTakeL
namespace Go.Proofs.YtcfjhbcpjpgodaaGreatDoor
open Go.RowKit Go.Proofs.Tryz
set_option linter.unusedSimpArgs false
set_option linter.unusedVariables false
set_option maxRecDepth 100000
set_option maxHeartbeats 12800000
variable{B rb n T T' j cb' b cc M M' ab a g cap q:Nat}{es:List Addr}{m:Int}{hon:Nat→Bool}{Fs:Nat→Nat→Prop}{R F' R' F:Nat→Prop}{nbs ks cbs:Nat→Nat}{st:Nat→NodeS}{sg:Nat→List ByteArray}{s':NodeS}{w w' w3 w4:World}{x0:Nat→Int}{said':List ByteArray}{Q:Nat→Option Obj}{gv kv nv sv sv':Value}{A:Array Value}{fr:ByteArray}
structure CityWL (B:Nat) (es:List Addr) (m:Int) (hon:Nat→Bool) (Fs:Nat→Nat→Prop) (R:Nat→Prop) (nbs ks cbs:Nat→Nat) (rb n T:Nat) (st:Nat→NodeS) (sg:Nat→List ByteArray) (w:World):Prop where
 node:∀j,j<n→hon j=true→NodeW B es m (Fs j) R (nbs j) (ks j) rb (cbs j) n j (st j) w
 ok:∀j,j<n→hon j=true→NOk 0 T j 0 (st j)
 sgs:∀j,j<n→hon j=true→(st j).sg=sg
 apart:∀j k b,j<n→k<n→hon j=true→hon k=true→j≠k→Fs j b→¬Fs k b
 keys:∀j k,j<n→hon j=true→k<n→¬Fs j (ks k)
 ring:RingI R rb n sg w
 key:∀k,k<n→KeyAt w (ks k) rb k
 kr:∀k,k<n→¬R (ks k)
 rl:∀b,R b→B≤b∧b<w.heap.size
 glob:GlobAt B es m w
 globR:GlobR B es w
 bl:B≤w.heap.size
def OutL(B:Nat)(hon:Nat→Bool)(Fs:Nat→Nat→Prop)(R:Nat→Prop)(ks:Nat→Nat)(n:Nat)(w:World)(b:Nat):Prop:=B≤b∧b<w.heap.size∧(∀j,j<n→hon j=true→¬Fs j b)∧¬R b∧∀k,k<n→ks k≠b
theorem CityWL.step(h:CityWL B es m hon Fs R nbs ks cbs rb n T st sg w)(hj:j<n)(hh:hon j=true)(hN:NodeW B es m F' R' (nbs j) (ks j) rb cb' n j s' w')(hG:Goes (Fs j) R w F' R' w')(hok:NOk 0 T' j 0 s')(hT:T≤T')(hsg:SgO j (st j) s'):
 CityWL B es m hon (updF Fs j F') R' nbs ks (updN cbs j cb') rb n T' (updS st j s') s'.sg w':=by
 have hF':∀b,F' b→Fs j b∨w.heap.size≤b:=hG.ff;have hR':∀b,R' b→R b∨w.heap.size≤b:=hG.rr;have hkl:∀k,k<n→ks k<w.heap.size:=fun k hk=>(h.key k hk).lt;have hsame:∀k b,k<n→hon k=true→k≠j→Fs k b→w'.heap[b]? =w.heap[b]? :=fun k b hk hhk hne hb=>hG.same.block b ((h.node k hk hhk).fl b hb).2 (fun e=>e.elim (fun e=>h.apart k j b hk hj hhk hh hne hb e) (fun e=>(h.node k hk hhk).fr b hb e));have hR'k:∀k,k<n→¬R' (ks k):=fun k hk hr=>by
  rcases hR' _ hr with h1|h1
  .exact h.kr k hk h1
  have:=hkl k hk;omega
 have hlow:∀b,b<B→w'.heap[b]? =w.heap[b]? :=fun b hb=>hG.same.block b (Nat.lt_of_lt_of_le hb h.bl) (fun e=>e.elim (fun e=>by have:=((h.node j hj hh).fl b e).1;omega) (fun e=>by have:=(h.rl b e).1;omega));have hkey:∀k,k<n→KeyAt w' (ks k) rb k:=fun k hk=>(h.key k hk).keep (hG.same.block _ (hkl k hk) (fun x=>x.elim (h.keys j k hj hh hk) (h.kr k hk)));refine⟨fun k hk hhk=>?_,fun k hk hhk=>?_,fun k hk hhk=>?_,fun a b x ha hb hha hhb hab hx hy=>?_,fun a b ha hha hb hx=>?_,hN.ring,hkey,hR'k,hN.rl,hN.glob,h.globR.same hlow,hN.bl⟩
 .by_cases e:k=j
  .subst e;rw[updF_at,updN_at,updS_at];exact hN
  rw[updF_ne e,updN_ne e,updS_ne e];have hk1:=h.node k hk hhk;refine⟨(hk1.node.frame (fun b hb=>hsame k b hk hhk e hb)).signed _,hN.ring,hkey k hk,hk1.idn,fun b hb hr=>?_,hk1.kf,hR'k k hk,fun b hb=>⟨(hk1.fl b hb).1,Nat.lt_of_lt_of_le (hk1.fl b hb).2 hG.same.size⟩,hN.rl,hN.glob,hN.bl⟩;rcases hR' b hr with h1|h1
  .exact hk1.fr b hb h1
  have:=(hk1.fl b hb).2;omega
 .by_cases e:k=j
  .subst e;rw[updS_at];exact hok
  rw[updS_ne e];refine((h.ok k hk hhk).later hT).ring ?_;rw[hsg k e,h.sgs j hj hh,h.sgs k hk hhk]
 .by_cases e:k=j
  .rw [e,updS_at]
  rw[updS_ne e]
 .by_cases ea:a=j
  .have eb:b≠j:=fun e=>hab (ea.trans e.symm);rw[ea,updF_at] at hx;rw[updF_ne eb] at hy;rcases hF' x hx with h1|h1
   .exact h.apart b j x hb hj hhb hh eb hy h1
   have:=((h.node b hb hhb).fl x hy).2;omega
  rw[updF_ne ea] at hx;by_cases eb:b=j
  .rw [eb,updF_at] at hy;rcases hF' x hy with h1|h1
   .exact h.apart a j x ha hj hha hh ea hx h1
   have:=((h.node a ha hha).fl x hx).2;omega
  rw[updF_ne eb] at hy;exact h.apart a b x ha hb hha hhb hab hx hy
 by_cases ea:a=j
 .rw [ea,updF_at] at hx;rcases hF' _ hx with h1|h1
  .exact h.keys j b hj hh hb h1
  have:=hkl b hb;omega
 rw[updF_ne ea] at hx;exact h.keys a b ha hha hb hx
theorem CityWL.other{D:Nat→Prop}(h:CityWL B es m hon Fs R nbs ks cbs rb n T st sg w)(hs:SameBut D w w')(hD:∀b,D b→OutL B hon Fs R ks n w b):
 CityWL B es m hon Fs R nbs ks cbs rb n T st sg w':=by
 have hlow:∀b,b<B→w'.heap[b]? =w.heap[b]? :=fun b hb=>hs.block b (Nat.lt_of_lt_of_le hb h.bl) (fun e=>by have:=(hD b e).1;omega);have hring:RingI R rb n sg w':=h.ring.frame (fun b hb=>hs.block b (h.rl b hb).2 (fun e=>(hD b e).2.2.2.1 hb));have hrl:∀b,R b→B≤b∧b<w'.heap.size:=fun b hb=>⟨(h.rl b hb).1,Nat.lt_of_lt_of_le (h.rl b hb).2 hs.size⟩;refine⟨fun k hk hhk=>?_,h.ok,h.sgs,h.apart,h.keys,hring,fun k hk=>(h.key k hk).keep (hs.block _ (h.key k hk).lt (fun e=>(hD _ e).2.2.2.2 k hk rfl)),h.kr,hrl,h.glob.same hlow,h.globR.same hlow,Nat.le_trans h.bl hs.size⟩;have hk1:=h.node k hk hhk;exact⟨hk1.node.frame (fun b hb=>hs.block b (hk1.fl b hb).2 (fun e=>(hD b e).2.2.1 k hk hhk hb)),by rw[h.sgs k hk hhk];exact hring,hk1.key.keep (hs.block _ hk1.key.lt (fun e=>(hD _ e).2.2.2.2 k hk rfl)),hk1.idn,hk1.fr,hk1.kf,hk1.kr,fun b hb=>⟨(hk1.fl b hb).1,Nat.lt_of_lt_of_le (hk1.fl b hb).2 hs.size⟩,hrl,hk1.glob.same hlow,Nat.le_trans hk1.bl hs.size⟩
theorem OutL.step(h:OutL B hon Fs R ks n w b)(hG:Goes (Fs j) R w F' R' w')(hj:j<n)(hh:hon j=true):OutL B hon (updF Fs j F') R' ks n w' b:=by
 refine⟨h.1,Nat.lt_of_lt_of_le h.2.1 hG.same.size,fun k hk hhk hb=>?_,fun hb=>?_,h.2.2.2.2⟩
 .by_cases e:k=j
  .rw [e,updF_at] at hb;rcases hG.ff b hb with h1|h1
   .exact h.2.2.1 j hj hh h1
   have:=h.2.1;omega
  rw[updF_ne e] at hb;exact h.2.2.1 k hk hhk hb
 rcases hG.rr b hb with h1|h1
 .exact h.2.2.2.1 h1
 have:=h.2.1;omega
theorem OutL.keep(h:OutL B hon Fs R ks n w b)(hs:w.heap.size≤w'.heap.size):OutL B hon Fs R ks n w' b:=⟨h.1,Nat.lt_of_lt_of_le h.2.1 hs,h.2.2⟩
def ptL(hon:Nat→Bool)(nbs:Nat→Nat)(j:Nat):Value:=if hon j=true then .pointer (some ⟨nbs j,0,none⟩) else .pointer none
def nodeL'(hon:Nat→Bool)(nbs:Nat→Nat)(n:Nat):List Value:=(List.range n).map (ptL hon nbs)
theorem ptL_yes(h:hon j=true):ptL hon nbs j=.pointer (some ⟨nbs j,0,none⟩):=by unfold ptL;rw[if_pos h]
theorem ptL_no(h:hon j=false):ptL hon nbs j=.pointer none:=by unfold ptL;rw[if_neg (by rw[h];decide)]
structure CityOL (B:Nat) (es:List Addr) (m:Int) (hon:Nat→Bool) (x0:Nat→Int) (Q:Nat→Option Obj) (Fs:Nat→Nat→Prop) (R:Nat→Prop) (nbs ks cbs:Nat→Nat) (rb n T cc:Nat) (gv kv nv sv:Value) (st:Nat→NodeS) (sg:Nat→List ByteArray) (said:List ByteArray) (w:World):Prop where
 city:CityWL B es m hon Fs R nbs ks cbs rb n T st sg w
 ci:CI n hon x0 ⟨st,sg,said⟩
 lies:∀q,q<n→hon q=false→(sg q).length≤said.length
 npos:0<n
 blk:w.heap[cc]? =some (.cells #[gv,.pointer (some ⟨rb,0,none⟩),kv,nv,sv] 84 (0,0))
 keyr:w.ownsRow 0 45 1 kv n (keyL ks n)
 nodes:w.ownsRow 0 26 1 nv n (nodeL' hon nbs n)
 said:w.ownsRow 0 9 1 sv said.length (said.map .string)
 occ:OutL B hon Fs R ks n w cc
 okv:∀g,kv.ownBlock=some g→OutL B hon Fs R ks n w g
 onv:∀g,nv.ownBlock=some g→OutL B hon Fs R ks n w g
 osv:∀g,sv.ownBlock=some g→OutL B hon Fs R ks n w g
 guest:∀b o,Q b=some o→OutL B hon Fs R ks n w b∧w.heap[b]? =some o∧b≠cc∧sv.ownBlock≠some b
theorem CI.said{said:List ByteArray}(h:CI n hon x0 ⟨st,sg,said⟩):CI n hon x0 ⟨st,sg,said'⟩:=⟨h.ni,h.sg⟩
theorem CityOL.step{said:List ByteArray}(h:CityOL B es m hon x0 Q Fs R nbs ks cbs rb n T cc gv kv nv sv st sg said w)(hj:j<n)(hh:hon j=true)(hN:NodeW B es m F' R' (nbs j) (ks j) rb cb' n j s' w')(hG:Goes (Fs j) R w F' R' w')(hok:NOk 0 T' j 0 s')(hT:T≤T')(hsg:SgO j (st j) s')(hu:SgU j (st j) s')(hni:NI n j x0 s'):
 CityOL B es m hon x0 Q (updF Fs j F') R' nbs ks (updN cbs j cb') rb n T' cc gv kv nv sv (updS st j s') s'.sg said w'∧SgLe sg s'.sg:=by
 have hb:∀b,OutL B hon Fs R ks n w b→w'.heap[b]? =w.heap[b]? :=fun b hb=>hG.same.block b hb.2.1 (fun e=>e.elim (hb.2.2.1 j hj hh) hb.2.2.2.1);refine⟨⟨h.city.step hj hh hN hG hok hT hsg,h.ci.step hj hh hni hsg hu said,fun q hq hqh=>?_,h.npos,(hb cc h.occ).trans h.blk,own_blocks h.keyr fun g hg _=>hb g (h.okv g hg),own_blocks h.nodes fun g hg _=>hb g (h.onv g hg),own_blocks h.said fun g hg _=>hb g (h.osv g hg),h.occ.step hG hj hh,fun g hg=>(h.okv g hg).step hG hj hh,fun g hg=>(h.onv g hg).step hG hj hh,fun g hg=>(h.osv g hg).step hG hj hh,fun b o e=>⟨(h.guest b o e).1.step hG hj hh,(hb b (h.guest b o e).1).trans (h.guest b o e).2.1,(h.guest b o e).2.2⟩⟩,?_⟩
 .have hne:q≠j:=fun e=>by rw[e,hh] at hqh;cases hqh
  rw[hsg q hne,h.city.sgs j hj hh];exact h.lies q hq hqh
 rw[←h.city.sgs j hj hh];exact hu
theorem CityOL.below{said:List ByteArray}(h:CityOL B es m hon x0 Q Fs R nbs ks cbs rb n T cc gv kv nv sv st sg said w)(hb:Below w.heap.size w w'):CityOL B es m hon x0 Q Fs R nbs ks cbs rb n T cc gv kv nv sv st sg said w':=by
 have hs:SameBut (fun _=>False) w w':=⟨hb.os,hb.tape,hb.output,hb.size,fun k hk _=>hb.block k hk⟩;exact⟨h.city.other hs (fun _ e=>e.elim),h.ci,h.lies,h.npos,(hb.block cc h.occ.2.1).trans h.blk,own_blocks h.keyr fun g _ hg=>hb.block g hg,own_blocks h.nodes fun g _ hg=>hb.block g hg,own_blocks h.said fun g _ hg=>hb.block g hg,h.occ.keep hb.size,fun g hg=>(h.okv g hg).keep hb.size,fun g hg=>(h.onv g hg).keep hb.size,fun g hg=>(h.osv g hg).keep hb.size,fun b o e=>⟨(h.guest b o e).1.keep hb.size,(hb.block b (h.guest b o e).1.2.1).trans (h.guest b o e).2.1,(h.guest b o e).2.2⟩⟩
theorem CityOL.saidTurn{said:List ByteArray}(h:CityOL B es m hon x0 Q Fs R nbs ks cbs rb n T cc gv kv nv sv st sg said w)(hblk:w'.heap[cc]? =some (.cells #[gv,.pointer (some ⟨rb,0,none⟩),kv,nv,sv'] 84 (0,0)))(hown:w'.ownsRow 0 9 1 sv' said'.length (said'.map .string))(hat:sv'.ownBlock=sv.ownBlock∨∀g,sv'.ownBlock=some g→w.heap.size≤g)(hs:SameBut (fun k=>k=cc∨some k=sv.ownBlock) w w')(hle:said.length≤said'.length):
 CityOL B es m hon x0 Q Fs R nbs ks cbs rb n T cc gv kv nv sv' st sg said' w':=by
 refine⟨h.city.other hs (fun b e=>e.elim (fun e=>e▸h.occ) (fun e=>h.osv b e.symm)),h.ci.said,fun q hq hqh=>Nat.le_trans (h.lies q hq hqh) hle,h.npos,hblk,own_blocks h.keyr fun g hg hl=>hs.block g hl (fun e=>e.elim (fun e=>own_ne h.keyr h.blk (by decide) (e▸hg)) (fun e=>own_tt h.keyr h.said (by decide) g hg e.symm)),own_blocks h.nodes fun g hg hl=>hs.block g hl (fun e=>e.elim (fun e=>own_ne h.nodes h.blk (by decide) (e▸hg)) (fun e=>own_tt h.nodes h.said (by decide) g hg e.symm)),hown,h.occ.keep hs.size,fun g hg=>(h.okv g hg).keep hs.size,fun g hg=>(h.onv g hg).keep hs.size,fun g hg=>?_,fun b o e=>?_⟩;rotate_left
 .obtain ⟨g1,g2,g3,g4⟩:=h.guest b o e
  refine⟨g1.keep hs.size,(hs.block b g1.2.1 (fun e=>e.elim g3 (fun e=>g4 e.symm))).trans g2,g3,fun e=>?_⟩;rcases hat with h1|h1
  .exact g4 (h1.symm.trans e)
  have h2:=h1 b e;have h3:=g1.2.1;omega
 rcases hat with h1|h1
 .exact (h.osv g (h1▸hg)).keep hs.size
 .have h2:=h1 g hg;refine⟨Nat.le_trans h.city.bl h2,(hown.lt g hg).2,fun j hj hh hb=>?_,fun hb=>?_,fun k hkn e=>?_⟩
  .have:=((h.city.node j hj hh).fl g hb).2
   omega
  .have:=(h.city.rl g hb).2
   omega
  have:=(h.city.key k hkn).lt;omega
theorem CityOL.nodeAt{said:List ByteArray}(h:CityOL B es m hon x0 Q Fs R nbs ks cbs rb n T cc gv kv nv sv st sg said w):∃g cap,nv=.slice (some ⟨g,0,none⟩) n cap∧n≤maxLen∧g≠cc∧∀j,j<n→w.cell? ⟨g,j,none⟩=some (ptL hon nbs j):=by
 have hp:=h.npos;rcases h.nodes.2 with⟨_,h1⟩|⟨g,cap,cur,h1,hb,hg,hnc,hcm,hcs,ht⟩
 .omega
 refine⟨g,cap,h1,by omega,fun e=>own_ne h.nodes h.blk (by decide) (by rw[h1,e];rfl),fun j hj=>?_⟩;rw[cell_of_row w g j _ _ _ hg];have e1:(cur.toList.take (n*1))[j]? =(nodeL' hon nbs n)[j]? :=by rw[ht]
 rw[List.getElem?_take,if_pos (by omega)] at e1;rw[←Array.getElem?_toList,e1];simp[nodeL',hj]
def CityEL(B:Nat)(es:List Addr)(m:Int)(hon:Nat→Bool)(x0:Nat→Int)(Q:Nat→Option Obj)(rb n cc T M:Nat)(gv:Value)(st:Nat→NodeS)(sg:Nat→List ByteArray)(said:List ByteArray)(w:World):Prop:=
 said.length≤M∧∃(Fs:Nat→Nat→Prop) (R:Nat→Prop) (nbs ks cbs:Nat→Nat) (kv nv sv:Value),CityOL B es m hon x0 Q Fs R nbs ks cbs rb n T cc gv kv nv sv st sg said w
theorem CityEL.below{said:List ByteArray}(h:CityEL B es m hon x0 Q rb n cc T M gv st sg said w)(hb:Below w.heap.size w w'):CityEL B es m hon x0 Q rb n cc T M gv st sg said w':=by
 obtain⟨h1,Fs,R,nbs,ks,cbs,kv,nv,sv,h2⟩:=h;exact⟨h1,Fs,R,nbs,ks,cbs,kv,nv,sv,h2.below hb⟩
theorem CityOL.mono{said:List ByteArray}(h:CityOL B es m hon x0 Q Fs R nbs ks cbs rb n T cc gv kv nv sv st sg said w)(hT:T≤T'):CityOL B es m hon x0 Q Fs R nbs ks cbs rb n T' cc gv kv nv sv st sg said w:=
 ⟨⟨h.city.node,fun j hj hh=>(h.city.ok j hj hh).later hT,h.city.sgs,h.city.apart,h.city.keys,h.city.ring,h.city.key,h.city.kr,h.city.rl,h.city.glob,h.city.globR,h.city.bl⟩,h.ci,h.lies,h.npos,h.blk,h.keyr,h.nodes,h.said,h.occ,h.okv,h.onv,h.osv,h.guest⟩
theorem CityEL.mono{said:List ByteArray}(h:CityEL B es m hon x0 Q rb n cc T M gv st sg said w)(hT:T≤T')(hM:M≤M'):CityEL B es m hon x0 Q rb n cc T' M' gv st sg said w:=by
 obtain⟨h1,Fs,R,nbs,ks,cbs,kv,nv,sv,h2⟩:=h;exact⟨Nat.le_trans h1 hM,Fs,R,nbs,ks,cbs,kv,nv,sv,h2.mono hT⟩
theorem CityEL.bl{said:List ByteArray}(h:CityEL B es m hon x0 Q rb n cc T M gv st sg said w):B≤w.heap.size:=by
 obtain⟨h1,Fs,R,nbs,ks,cbs,kv,nv,sv,h2⟩:=h;exact h2.city.bl
def AfterL(B:Nat)(es:List Addr)(m:Int)(hon:Nat→Bool)(x0:Nat→Int)(Q:Nat→Option Obj)(rb n cc T M:Nat)(gv:Value)(sg:Nat→List ByteArray)(w w':World):Prop:=∃st' sg' said',SgLe sg sg'∧CityEL B es m hon x0 Q rb n cc T M gv st' sg' said' w'∧Below B w w'
theorem hears_turnL{said out:List ByteArray}{X:World}(h:CityOL B es m hon x0 Q Fs R nbs ks cbs rb n T cc gv kv nv sv st sg said X)
 (hown3:w3.ownsRow 0 9 1 sv' (said.length+out.length) (said.map .string++out.map .string)) (hgrow3:X.grownBy w3 sv.ownBlock) (hat3:sv'.ownBlock=sv.ownBlock∨sv'.ownBlock=some X.heap.size)
 (hq4:w4.heap[cc]? =some (.cells #[gv,.pointer (some ⟨rb,0,none⟩),kv,nv,sv'] 84 (0,0))) (ho4:Only cc w3 w4):
 CityOL B es m hon x0 Q Fs R nbs ks cbs rb n T cc gv kv nv sv' st sg (said++out) w4∧Below B X w4:=by
 have hs:SameBut (fun k=>k=cc∨some k=sv.ownBlock) X w4:=by
  refine⟨ho4.os.trans hgrow3.os,ho4.tape.trans hgrow3.tape,ho4.output.trans hgrow3.output,?_,fun k hk hn=>?_⟩
  .rw [ho4.size];exact hgrow3.size
  rw[ho4.block k (fun e=>hn (Or.inl e)),hgrow3.block k hk (fun e=>hn (Or.inr e))]
 have hv:∀g,sv'.ownBlock=some g→g≠cc:=fun g hg e=>by
  rcases hat3 with h1|h1
  .exact own_ne h.said h.blk (by decide) (e▸(h1.symm.trans hg))
  rw[h1] at hg;cases hg;have:=h.occ.2.1;omega
 refine⟨h.saidTurn hq4 ?_ ?_ hs (by rw[List.length_append];omega),Below.same hs (fun k e=>e.elim (fun e=>e▸h.occ.1) (fun e=>(h.osv k e.symm).1)) h.city.bl⟩
 .rw [List.length_append,List.map_append];exact own_blocks hown3 fun g hg _=>ho4.block g (hv g hg)
 rcases hat3 with h1|h1
 .exact Or.inl h1
 refine Or.inr (fun g hg=>?_);rw[h1] at hg;cases hg;exact Nat.le_refl _
theorem hears_anyL{said:List ByteArray}(h:CityEL B es m hon x0 Q rb n cc T M gv st sg said w)(hn:n≤8)(hM:M+100*n≤4000000000000):
 Calls prog 42 #[.pointer (some ⟨cc,0,none⟩)] w fun e w'=>e=.returned (.tuple #[])∧AfterL B es m hon x0 Q rb n cc T (M+100*n) gv sg w w':=by
 obtain⟨iW,hiW,hz0,hz1,hz2⟩:=info_parts Tryz.infoStrB;have HH:=hide h;clear h;go_enter func42,ntmps42;go_wp2;go_loopw [2] (fun iv wr=>∃(k:Nat) (st1:Nat→NodeS) (sg1:Nat→List ByteArray) (said1:List ByteArray),k≤n∧iv=.int .i64 k∧SgLe sg sg1∧CityEL B es m hon x0 Q rb n cc T (M+100*k) gv st1 sg1 said1 wr∧Below B w wr) (fun iv _=>n-(intOf iv).toNat)
 case atStart=>exact⟨0,st,sg,said,Nat.zero_le _,rfl,SgLe.refl _,HH.out,Below.refl _ _⟩
 obtain⟨k,st1,sg1,said1,hkn,rfl,hmv,hE,hbw⟩:=hrel;obtain⟨HMV,HBW1,HE⟩:=hide3 hmv hbw hE;clear hmv hbw;obtain⟨hlen,Fs,R,nbs,ks,cbs,kv,nv,sv,hO⟩:=hE;obtain⟨g,cap,rfl,hmax,hgc,hnp⟩:=hO.nodeAt;have c3:wr.cell? ⟨cc,3,none⟩=some (.slice (some ⟨g,0,none⟩) n cap):=cell_of_row wr cc 3 _ _ _ hO.blk;by_cases hend:k=n
 .have hge:¬(k:Int)<n:=by omega
  have HEND:Hid (AfterL B es m hon x0 Q rb n cc T (M+100*n) gv sg w wr):=⟨st1,sg1,said1,HMV.out,HE.out.mono (Nat.le_refl _) (by omega),HBW1.out⟩;clear hO hnp hend;go_wp2;first|exact bodyPost_end (v:=.tuple #[]) (by simp[results,results42]) rfl ⟨rfl,HEND.out⟩|exact bodyPost_ret (v:=.tuple #[]) (by simp[results,results42]) rfl ⟨rfl,HEND.out⟩
 have hk:k<n:=by omega
 have hlt2:(k:Int)<n:=by omega
 have ck0:=hnp k hk;by_cases hh:hon k=true
 .have ck:wr.cell? ⟨g,k,none⟩=some (.pointer (some ⟨nbs k,0,none⟩)):=by rw[ck0,ptL_yes hh]
  clear ck0;obtain⟨sp,sc,hsv⟩:=own_slice hO.said;subst hsv;obtain⟨HO,HO1⟩:=hide2 hO hO;have HLEN:Hid (said1.length≤M+100*k):=hlen;have HOL:Hid ((st1 k).out.length≤100):=(hO.city.ok k hk hh).out;obtain⟨C3,CK⟩:=hide2 c3 ck;have C4:Hid (wr.cell? ⟨cc,4,none⟩=some (.slice sp said1.length sc)):=cell_of_row wr cc 4 _ _ _ hO.blk;have HOG:Hid (OutL B hon Fs R ks n wr g):=hO.onv g rfl;have HGC:=hide hgc;have HSENT:Hid (∀W,Below wr.heap.size wr W→Calls prog 31 #[.pointer (some ⟨nbs k,0,none⟩)] W (SentP B es m (Fs k) R (nbs k) (ks k) rb n k (st1 k) wr)):=fun W hW=>by
   refine(sent_any ((hO.city.node k hk hh).below hW) HOL.out).mono ?_;rintro e w' ⟨v,cb',F',h1,h2,h3,h4,h5⟩;exact⟨v,cb',F',h1,own_baseC h2 hW.size,h3,(Goes.below hW).trans h4,h5⟩
  clear hO hnp hend hlen c3 ck HE;have c3:=C3.out;have ck:=CK.out
  go_upto_region 4 with fail
  refine rgd (S:=fun W=>W.cell? ⟨cc,3,none⟩=some (.slice (some ⟨g,0,none⟩) n cap)∧W.cell? ⟨g,k,none⟩=some (.pointer (some ⟨nbs k,0,none⟩))) ⟨C3.out,CK.out⟩ (fun hH=>?_);refine takeN [(0,some 20,pA cc 0),(1,some 21,pA cc 0),(2,some 22,pA cc 0),(3,some 23,pA cc 4),(5,some 25,pA cc 0),(6,some 26,pA cc 0),(7,some 27,pA cc 3),(8,some 28,.slice (some ⟨g,0,none⟩) n cap),(9,some 29,.int .i64 (k:Int)),(10,some 30,pA g k),(11,some 31,pA (nbs k) 0)] _ _ hH (by repeat(first|exact True.intro|(refine tkc rfl rfl (Or.inl ⟨by rfl,fun x h=>by have f0:x.cell? ⟨cc,3,none⟩=some (.slice (some ⟨g,0,none⟩) n cap):=h.1;have f1:x.cell? ⟨g,k,none⟩=some (.pointer (some ⟨nbs k,0,none⟩)):=h.2;go_simp⟩) ?_;simp only[AP]))) ?_;simp only[takesA,AP,pA];have c4d:wr.drew.cell? ⟨cc,4,none⟩=some (.slice sp said1.length sc):=C4.out;refine rdy2 4 12 (fun K hK=>?_) (fun K hK=>?_);focus
   go_simp;refine hK.out _ _ hH (fun hH=>?_);clear hK K
   try simp only[AP,AQ]
   refine rdy1 12 (fun K hK=>?_);go_simp;refine(HSENT.out _ ((Below.refl _ wr).drew)).mono ?_;rintro en X ⟨v,cb2,F2,rfl,hv,hW2,hG2,hvF⟩;obtain⟨hO2,hle2⟩:=HO1.out.step hk hh hW2 hG2 (HO1.out.city.ok k hk hh).sent (Nat.le_refl _) (sgo_of rfl) (sgu_of rfl) (HO1.out.ci.ni k hk hh).sent;obtain⟨p5,c5,rfl,hm5,hl5⟩:=own_lies hv;have hn5:=own_nilorC hv;have hb2:∀b,OutL B hon Fs R ks n wr b→X.heap[b]? =wr.heap[b]? :=fun b hb=>(hG2.same.block b hb.2.1 (fun e=>e.elim (hb.2.2.1 k hk hh) hb.2.2.2.1));have hS2:X.cell? ⟨cc,3,none⟩=some (.slice (some ⟨g,0,none⟩) n cap)∧X.cell? ⟨g,k,none⟩=some (.pointer (some ⟨nbs k,0,none⟩)):=⟨(World.cell?_of_block (w:=wr) (a:=⟨cc,3,none⟩) (hb2 cc HO.out.occ)).trans C3.out,(World.cell?_of_block (w:=wr) (a:=⟨g,k,none⟩) (hb2 g HOG.out)).trans CK.out⟩
  rotate_left;focus
   go_simp;refine(HSENT.out _ ((Below.refl _ wr).drew)).mono ?_;rintro en X ⟨v,cb2,F2,rfl,hv,hW2,hG2,hvF⟩;obtain⟨hO2,hle2⟩:=HO1.out.step hk hh hW2 hG2 (HO1.out.city.ok k hk hh).sent (Nat.le_refl _) (sgo_of rfl) (sgu_of rfl) (HO1.out.ci.ni k hk hh).sent;obtain⟨p5,c5,rfl,hm5,hl5⟩:=own_lies hv;have hn5:=own_nilorC hv;have hb2:∀b,OutL B hon Fs R ks n wr b→X.heap[b]? =wr.heap[b]? :=fun b hb=>(hG2.same.block b hb.2.1 (fun e=>e.elim (hb.2.2.1 k hk hh) hb.2.2.2.1));have hS2:X.cell? ⟨cc,3,none⟩=some (.slice (some ⟨g,0,none⟩) n cap)∧X.cell? ⟨g,k,none⟩=some (.pointer (some ⟨nbs k,0,none⟩)):=⟨(World.cell?_of_block (w:=wr) (a:=⟨cc,3,none⟩) (hb2 cc HO.out.occ)).trans C3.out,(World.cell?_of_block (w:=wr) (a:=⟨g,k,none⟩) (hb2 g HOG.out)).trans CK.out⟩;have c4X:X.cell? ⟨cc,4,none⟩=some (.slice sp said1.length sc):=cell_of_row X cc 4 _ _ _ hO2.blk;refine hK.out _ _ hS2 (fun hH=>?_);clear hK K
   try simp only[AP,AQ]
   refine rdy1 4 (fun K hK=>?_);go_simp
  rotate_left;all_goals
   refine hK.out _ _ hS2 (fun hH=>?_);clear hK K
   try simp only[AP,AQ]
   refine rdy1 13 (fun K hK=>?_);rw[if_pos (by rfl)];have hown2:=hO2.said;refine wp_append_texts _ _ 30 rfl 0 9 iW (.string ByteArray.empty) 16 underlying30 hiW hz0 hz1 hz2 rfl (.slice sp said1.length sc) said1.length (said1.map .string) rfl hown2 p5 (st1 k).out.length c5 (fun i=>(st1 k).out.getD i ByteArray.empty) rfl hn5 hl5 (by have h1:=HLEN.out;have h2:=HOL.out;unfold maxLen;omega) (by have h1:=HLEN.out;have h2:=HOL.out;omega) (Nat.zero_le _) ?_;intro v3 w3 hown3 hgrow3 hat3;rw[range_getD] at hown3;have hcc3:w3.heap[cc]? =X.heap[cc]? :=hgrow3.block cc hO2.occ.2.1 (fun e=>own_ne hO2.said hO2.blk (by decide) e.symm);have hg3:w3.heap[g]? =X.heap[g]? :=hgrow3.block g (HOG.out.step hG2 hk hh).2.1 (fun e=>own_tt hO2.nodes hO2.said (by decide) g rfl e.symm);refine hK.out _ _ ⟨(World.cell?_of_block (w:=X) (a:=⟨cc,3,none⟩) hcc3).trans hS2.1,(World.cell?_of_block (w:=X) (a:=⟨g,k,none⟩) hg3).trans hS2.2⟩ (fun hH=>?_);clear hK K;simp only[AP,AQ];refine takeM [(14,some 34,pA cc 0),(15,some 35,pA cc 4)] _ _ hH ?_;simp only[takesA,AP,pA];have hblk3:=hcc3.trans hO2.blk;have c43:w3.cell? ⟨cc,4,none⟩=some (.slice sp said1.length sc):=cell_of_row w3 cc 4 _ _ _ hblk3;have f43:w3.frozen? ⟨cc,4,none⟩=false:=frozen_row hblk3 4;obtain⟨p3,cap3,rfl⟩:=own_slice hown3;refine rdy1 16 (fun K hK=>?_);go_simp;obtain⟨w4,hw4⟩:∃z,z=(w3.setCell ⟨cc,4,none⟩ (.slice p3 (said1.length+(st1 k).out.length) cap3)):=⟨_,rfl⟩;have ho4:Only cc w3 w4:=by rw[hw4];exact only_setCell w3 cc 4 _
   have hq4:w4.heap[cc]? =some (.cells #[gv,.pointer (some ⟨rb,0,none⟩),kv,.slice (some ⟨g,0,none⟩) n cap,.slice p3 (said1.length+(st1 k).out.length) cap3] 84 (0,0)):=by
    rw[hw4,setCell_row hblk3 4 _];rfl
   rw[←hw4];clear hw4;refine hK.out _ _ ⟨(ho4.cellN (a:=3) hblk3 hq4 rfl rfl).trans hH.1,(ho4.cell (p:=⟨g,k,none⟩) HGC.out).trans hH.2⟩ (fun hH=>?_);clear hK K hH;refine dnr ?_;have HLE2:=hide hle2;clear hle2;have HEND:=hide (hears_turnL hO2 hown3 hgrow3 hat3 hq4 ho4);have HBW:Hid (Below B w w4):=HBW1.out.trans ((Below.of_goes hG2 (fun j hj=>((HO1.out.city.node k hk hh).fl j hj).1) (fun j hj=>((HO1.out.city.node k hk hh).rl j hj).1) HO1.out.city.bl).trans HEND.out.2);clear hown3 hgrow3 hat3 hq4 ho4 hblk3 c43 f43 hcc3 hg3 hown2 hS2 hb2 hO2 hW2 hG2 hvF hv hl5 hn5 hm5;go_wp2;go_roundw
   case rel=>exact⟨k+1,_,_,_,by omega,by go_num,SgLe.trans HMV.out HLE2.out,⟨by rw[List.length_append];have h1:=HLEN.out;have h2:=HOL.out;omega,_,_,_,_,_,_,_,_,HEND.out.1⟩,HBW.out⟩
   case measure=>simp[intOf];omega
 have hhf:hon k=false:=by simpa using hh
 have ck:wr.cell? ⟨g,k,none⟩=some (.pointer none):=by rw[ck0,ptL_no hhf]
 clear ck0 hO hnp hend hh hhf;go_wp2;go_roundw
 case rel=>exact⟨k+1,st1,sg1,said1,by omega,by go_num,HMV.out,HE.out.mono (Nat.le_refl _) (by omega),HBW1.out⟩
 case measure=>simp[intOf];omega
theorem act_msg{ak at1 af ac mk mh mr mf mv:Int}{mn:Bool}{ms rec:ByteArray}{t:TypeId}(h:w.heap[ab]? =some (.cells #[.int .i64 ak,.int .i64 at1,.int .i64 af,.int .i64 ac,.int .i64 mk,.int .i64 mh,.int .i64 mr,.int .i64 mf,.int .i64 mv,.bool mn,.string ms,.string rec] t (0,0))):w.rangeAt ab 4 [.int .i64 mk,.int .i64 mh,.int .i64 mr,.int .i64 mf,.int .i64 mv,.bool mn,.string ms]:=fun j v hv=>by
 match j,hv with
 |0,hv=>simp at hv;subst hv;exact cell_of_row w ab 4 _ _ _ h
 |1,hv=>simp at hv;subst hv;exact cell_of_row w ab 5 _ _ _ h
 |2,hv=>simp at hv;subst hv;exact cell_of_row w ab 6 _ _ _ h
 |3,hv=>simp at hv;subst hv;exact cell_of_row w ab 7 _ _ _ h
 |4,hv=>simp at hv;subst hv;exact cell_of_row w ab 8 _ _ _ h
 |5,hv=>simp at hv;subst hv;exact cell_of_row w ab 9 _ _ _ h
 |6,hv=>simp at hv;subst hv;exact cell_of_row w ab 10 _ _ _ h
 |j+7,hv=>simp at hv
theorem recv_ret{o:Option (Int×Nat)}{e:Ending}(h:RecvV es o w F R e w'):∃v,e=.returned v:=by
 unfold RecvV at h;split at h
 .exact ⟨_,h⟩
 obtain⟨g,a,h1,_⟩:=h;exact⟨_,h1⟩
theorem Tryz.sizeNodeP:(prog.info? 135).map (·.size)=some 54:=by kernel_rfl
theorem nodeEq_same(h:a=b)(w:World):(binOp .eql 26 (.pointer (some ⟨a,0,none⟩)) (.pointer (some ⟨b,0,none⟩))).run prog w=.ok (.bool true) w:=by
 subst h;obtain⟨j,hj,hjs⟩:=Option.map_eq_some_iff.1 Tryz.sizeNodeP;exact run_eql_ptr_same (P:=prog) w ⟨a,0,none⟩ underlying26 hj
theorem nodeEq_other{C D:Array Value}{t u:TypeId}(h:a≠b)(ha:w.heap[a]? =some (.cells C t (0,0)))(hb:w.heap[b]? =some (.cells D u (0,0))):(binOp .eql 26 (.pointer (some ⟨a,0,none⟩)) (.pointer (some ⟨b,0,none⟩))).run prog w=.ok (.bool false) w:=by
 obtain⟨j,hj,hjs⟩:=Option.map_eq_some_iff.1 Tryz.sizeNodeP;exact run_eql_ptr_other (P:=prog) w underlying26 hj (by rw[hjs];decide) (fun e=>h (congrArg Addr.block e)) ha hb
theorem NodeW.blkE{nb kb cb i:Nat}{s:NodeS}(h:NodeW B es m F R nb kb rb cb n i s w):∃C,w.heap[nb]? =some (.cells C 135 (0,0)):=by
 obtain⟨V,hA,_⟩:=h.node;exact⟨_,hA.blk⟩
theorem wrap_any(x:Int)(h0: -9223372036854775808≤x)(h1:x≤9223372036854775807):IntKind.i64.wrap x=x:=by
 have h:=wrap_i64_ediv x 1 h0 h1 (by omega);rw[Int.ediv_one] at h;exact h
theorem Below.bl2(h:Below B w w')(hB:B≤w.heap.size):B≤w'.heap.size:=Nat.le_trans hB h.size
def CityGL(B:Nat)(es:List Addr)(m:Int)(hon:Nat→Bool)(x0:Nat→Int)(Q:Nat→Option Obj)(nbs ks:Nat→Nat)(gv kv nv:Value)(rb n cc T M ab:Nat)(A:Array Value)(tA:TypeId)(st:Nat→NodeS)(sg:Nat→List ByteArray)(said:List ByteArray)(w:World):Prop:=
 said.length≤M∧∃(Fs:Nat→Nat→Prop) (R:Nat→Prop) (cbs:Nat→Nat) (sv:Value),CityOL B es m hon x0 Q Fs R nbs ks cbs rb n T cc gv kv nv sv st sg said w∧OutL B hon Fs R ks n w ab∧w.heap[ab]? =some (.cells A tA (0,0))
theorem CityGL.e{tA:TypeId}{said:List ByteArray}(h:CityGL B es m hon x0 Q nbs ks gv kv nv rb n cc T M ab A tA st sg said w):CityEL B es m hon x0 Q rb n cc T M gv st sg said w:=by
 obtain⟨h1,Fs,R,cbs,sv,h2,_⟩:=h;exact⟨h1,Fs,R,nbs,ks,cbs,kv,nv,sv,h2⟩
theorem CityGL.mono{tA:TypeId}{said:List ByteArray}(h:CityGL B es m hon x0 Q nbs ks gv kv nv rb n cc T M ab A tA st sg said w)(hT:T≤T')(hM:M≤M'):CityGL B es m hon x0 Q nbs ks gv kv nv rb n cc T' M' ab A tA st sg said w:=by
 obtain⟨h1,Fs,R,cbs,sv,h2,h3,h4⟩:=h;exact⟨Nat.le_trans h1 hM,Fs,R,cbs,sv,h2.mono hT,h3,h4⟩
theorem CityGL.below{tA:TypeId}{said:List ByteArray}(h:CityGL B es m hon x0 Q nbs ks gv kv nv rb n cc T M ab A tA st sg said w)(hb:Below w.heap.size w w'):CityGL B es m hon x0 Q nbs ks gv kv nv rb n cc T M ab A tA st sg said w':=by
 obtain⟨h1,Fs,R,cbs,sv,h2,h3,h4⟩:=h;exact⟨h1,Fs,R,cbs,sv,h2.below hb,h3.keep hb.size,(hb.block ab h3.2.1).trans h4⟩
theorem CityGL.of{tA:TypeId}{said:List ByteArray}(h:CityOL B es m hon x0 Q Fs R nbs ks cbs rb n T cc gv kv nv sv st sg said w)(hM:said.length≤M)(hb:Below w.heap.size w w')(hab:w.heap.size≤ab)(hq:w'.heap[ab]? =some (.cells A tA (0,0))):CityGL B es m hon x0 Q nbs ks gv kv nv rb n cc T M ab A tA st sg said w':=by
 refine⟨hM,Fs,R,cbs,sv,h.below hb,⟨Nat.le_trans h.city.bl hab,row_lt0 hq,fun j hj hh hf=>?_,fun hr=>?_,fun k hk e=>?_⟩,hq⟩
 .have:=((h.city.node j hj hh).fl ab hf).2
  omega
 .have:=(h.city.rl ab hr).2
  omega
 have:=(h.city.key k hk).lt;omega
theorem CityGL.turn{tA:TypeId}{said:List ByteArray}(hM:said.length≤M)(hO:CityOL B es m hon x0 Q Fs R nbs ks cbs rb n T cc gv kv nv sv st sg said w)(hab:OutL B hon Fs R ks n w ab)(hq:w.heap[ab]? =some (.cells A tA (0,0)))(hj:j<n)(hh:hon j=true)(hN:NodeW B es m F' R' (nbs j) (ks j) rb cb' n j s' w')(hG:Goes (Fs j) R w F' R' w')(hok:NOk 0 T' j 0 s')(hT:T≤T')(hsg:SgO j (st j) s')(hu:SgU j (st j) s')(hni:NI n j x0 s'):
 CityGL B es m hon x0 Q nbs ks gv kv nv rb n cc T' M ab A tA (updS st j s') s'.sg said w'∧Below B w w'∧SgLe sg s'.sg:=
 ⟨⟨hM,_,_,_,_,(hO.step hj hh hN hG hok hT hsg hu hni).1,hab.step hG hj hh,(hG.same.block ab hab.2.1 (fun e=>e.elim (hab.2.2.1 j hj hh) hab.2.2.2.1)).trans hq⟩,(hO.city.node j hj hh).goesB hG,(hO.step hj hh hN hG hok hT hsg hu hni).2⟩
theorem CityOL.nodeCell{said:List ByteArray}(h:CityOL B es m hon x0 Q Fs R nbs ks cbs rb n T cc gv kv (.slice (some ⟨g,0,none⟩) n cap) sv st sg said w)(j:Nat)(hj:j<n):w.cell? ⟨g,j,none⟩=some (ptL hon nbs j):=by
 obtain⟨g',cap',e,_,_,h1⟩:=h.nodeAt;cases e;exact h1 j hj
theorem CityOL.nodeYes{said:List ByteArray}(h:CityOL B es m hon x0 Q Fs R nbs ks cbs rb n T cc gv kv (.slice (some ⟨g,0,none⟩) n cap) sv st sg said w)(j:Nat)(hj:j<n)(hh:hon j=true):w.cell? ⟨g,j,none⟩=some (.pointer (some ⟨nbs j,0,none⟩)):=by
 rw[h.nodeCell j hj,ptL_yes hh]
theorem CityOL.nodeNo{said:List ByteArray}(h:CityOL B es m hon x0 Q Fs R nbs ks cbs rb n T cc gv kv (.slice (some ⟨g,0,none⟩) n cap) sv st sg said w)(j:Nat)(hj:j<n)(hh:hon j=false):w.cell? ⟨g,j,none⟩=some (.pointer none):=by
 rw[h.nodeCell j hj,ptL_no hh]
theorem CityOL.saidAt{said:List ByteArray}(h:CityOL B es m hon x0 Q Fs R nbs ks cbs rb n T cc gv kv nv sv st sg said w):∃p c,sv=.slice p said.length c∧w.cell? ⟨cc,4,none⟩=some (.slice p said.length c)∧∀j,j<said.length→∃b,p=some ⟨b,0,none⟩∧w.cell? ⟨b,j,none⟩=some (.string (said.getD j ByteArray.empty))∧OutL B hon Fs R ks n w b:=by
 rcases h.said.2 with⟨e,h1⟩|⟨b,cap,cur,e,hb,hg,hnc,hcm,hcs,ht⟩
 .refine ⟨none,0,by rw[e,h1],?_,fun j hj=>by omega⟩
  have h2:w.cell? ⟨cc,4,none⟩=some sv:=cell_of_row w cc 4 _ _ _ h.blk;rw[h2,e,h1]
 refine⟨some ⟨b,0,none⟩,cap,e,?_,fun j hj=>⟨b,rfl,?_,h.osv b (by rw[e];rfl)⟩⟩
 .have h2:w.cell? ⟨cc,4,none⟩=some sv:=cell_of_row w cc 4 _ _ _ h.blk;rw[h2,e]
 rw[cell_of_row w b j _ _ _ hg];have e1:(cur.toList.take (said.length*1))[j]? =(said.map Value.string)[j]? :=by rw[ht]
 rw[List.getElem?_take,if_pos (by omega)] at e1;rw[←Array.getElem?_toList,e1,List.getElem?_map];simp only[List.getD_eq_getElem?_getD,List.getElem?_eq_getElem hj];rfl
theorem recv_fromL{said:List ByteArray}{W:World}(h:CityOL B es m hon x0 Q Fs R nbs ks cbs rb n T cc gv kv nv sv st sg said w)(i:Nat)(hi:i<n)(hh:hon i=true)(fr:ByteArray)(hW:Below w.heap.size w W)(hT:T≤1000000000000):
 Calls prog 29 #[.pointer (some ⟨nbs i,0,none⟩),.string fr] W (RecvP B es m (Fs i) R (nbs i) (ks i) rb (cbs i) n i (st i) fr w):=by
 refine(receive_any fr ((h.below hW).city.node i hi hh) (h.below hW).city.globR (h.city.ok i hi hh) hT (by omega)).mono ?_;rintro e w' ⟨F',R',h1,h2,h3⟩;refine⟨F',R',h1,(Goes.below hW).trans h2,?_⟩;unfold RecvV at h3 ⊢;split at h3
 .exact h3
 obtain⟨g,a,e1,e2,e3,e4⟩:=h3;exact⟨g,a,e1,e2,Nat.le_trans hW.size e3,e4⟩
theorem nodeEq_nil(a:Nat)(w:World):(binOp .eql 26 (.pointer (some ⟨a,0,none⟩)) (.pointer none)).run prog w=.ok (.bool false) w:=by
 go_simp
theorem nodeEq_any{said:List ByteArray}(h:CityOL B es m hon x0 Q Fs R nbs ks cbs rb n T cc gv kv nv sv st sg said w){i t:Nat}(hi:i<n)(hh:hon i=true)(ht:t<n):∃b,(binOp .eql 26 (.pointer (some ⟨nbs i,0,none⟩)) (ptL hon nbs t)).run prog w=.ok (.bool b) w:=by
 cases hht:hon t with
 |false=>rw[ptL_no hht];exact⟨false,nodeEq_nil _ w⟩
 |true=>
  rw[ptL_yes hht];by_cases e:nbs i=nbs t
  .exact ⟨true,nodeEq_same e w⟩
  obtain⟨Ci,hCi⟩:=(h.city.node i hi hh).blkE;obtain⟨Ct,hCt⟩:=(h.city.node t ht hht).blkE;exact⟨false,nodeEq_other e hCi hCt⟩
theorem CityWL.lie(h:CityWL B es m hon Fs R nbs ks cbs rb n T st sg w)(hq:hon q=false)(hp:SignP R rb n (signR sg q fr) w w'):
 ∃R',CityWL B es m hon Fs R' nbs ks cbs rb n T (fun k=>{ st k with sg:=signR sg q fr }) (signR sg q fr) w'∧(∀b,OutL B hon Fs R ks n w b→OutL B hon Fs R' ks n w' b∧w'.heap[b]? =w.heap[b]?)∧Below B w w':=by
 have hp':=hp;obtain⟨R',hr,hR,hl,hs⟩:=hp';have hlow:∀b,b<B→w'.heap[b]? =w.heap[b]? :=fun b hb=>hs.block b (Nat.lt_of_lt_of_le hb h.bl) (fun e=>by have:=(h.rl b e).1;omega);have hrl:∀b,R' b→B≤b∧b<w'.heap.size:=fun b hb=>⟨by
  rcases hR b hb with h1|h1
  .exact (h.rl b h1).1
  exact Nat.le_trans h.bl h1,hl b hb⟩
 have hkr:∀k,k<n→¬R' (ks k):=fun k hk hb=>by
  rcases hR _ hb with h1|h1
  .exact h.kr k hk h1
  have:=(h.key k hk).lt;omega
 refine⟨R',⟨fun k hk hh=>?_,fun k hk hh=>?_,fun k hk hh=>rfl,h.apart,h.keys,hr,fun k hk=>(h.key k hk).keep (hs.block _ (h.key k hk).lt (h.kr k hk)),hkr,hrl,h.glob.same hlow,h.globR.same hlow,Nat.le_trans h.bl hs.size⟩,fun b hb=>⟨⟨hb.1,Nat.lt_of_lt_of_le hb.2.1 hs.size,hb.2.2.1,fun e=>?_,hb.2.2.2.2⟩,hs.block b hb.2.1 hb.2.2.2.1⟩,⟨hs.os,hs.tape,hs.output,hs.size,hlow⟩⟩
 .have hk1:=h.node k hk hh;refine⟨(hk1.node.frame (fun b hb=>hs.block b (hk1.fl b hb).2 (hk1.fr b hb))).signed _,hr,hk1.key.keep (hs.block _ hk1.key.lt hk1.kr),hk1.idn,fun b hb hb'=>?_,hk1.kf,hkr k hk,fun b hb=>⟨(hk1.fl b hb).1,Nat.lt_of_lt_of_le (hk1.fl b hb).2 hs.size⟩,hrl,hk1.glob.same hlow,Nat.le_trans hk1.bl hs.size⟩;rcases hR b hb' with h1|h1
  .exact hk1.fr b hb h1
  have:=(hk1.fl b hb).2;omega
 .refine (h.ok k hk hh).ring ?_
  rw[h.sgs k hk hh];exact signR_other fun e=>by rw[e,hq] at hh;cases hh
 rcases hR b e with h1|h1
 .exact hb.2.2.2.1 h1
 have:=hb.2.1;omega
theorem signR_lenL(sg:Nat→List ByteArray)(q:Nat)(fr:ByteArray)(k:Nat):(signR sg q fr k).length≤(sg k).length+1:=by
 unfold signR;split
 .rename_i h;rw[h.1,List.length_append];exact Nat.le_refl _
 omega
theorem CityOL.lie{said:List ByteArray}{w1 w2:World}(h:CityOL B es m hon x0 Q Fs R nbs ks cbs rb n T cc gv kv nv sv st sg said w)(hq:hon q=false)(hp:SignP R rb n (signR sg q fr) w w1)(hbw:Below w1.heap.size w1 w2)
 (hown3:w3.ownsRow 0 9 1 sv' (said.length+1) (said.map .string++[.string fr])) (hgrow3:w2.grownBy w3 sv.ownBlock) (hat3:sv'.ownBlock=sv.ownBlock∨sv'.ownBlock=some w2.heap.size)
 (hq4:w4.heap[cc]? =some (.cells #[gv,.pointer (some ⟨rb,0,none⟩),kv,nv,sv'] 84 (0,0))) (ho4:Only cc w3 w4):
 ∃R',CityOL B es m hon x0 Q Fs R' nbs ks cbs rb n T cc gv kv nv sv' (fun k=>{ st k with sg:=signR sg q fr }) (signR sg q fr) (said++[fr]) w4∧Below B w w4∧SgLe sg (signR sg q fr)∧∀b,OutL B hon Fs R ks n w b→b≠cc→sv.ownBlock≠some b→OutL B hon Fs R' ks n w4 b∧w4.heap[b]? =w.heap[b]? :=by
 obtain⟨R',hW,hO,hB⟩:=h.city.lie hq hp;have hsz1:w.heap.size≤w1.heap.size:=by
  obtain⟨_,_,_,_,hs⟩:=hp;exact hs.size
 have hs:SameBut (fun k=>k=cc∨some k=sv.ownBlock) w1 w4:=by
  refine⟨ho4.os.trans (hgrow3.os.trans hbw.os),ho4.tape.trans (hgrow3.tape.trans hbw.tape),ho4.output.trans (hgrow3.output.trans hbw.output),?_,fun k hk hn=>?_⟩
  .rw [ho4.size];exact Nat.le_trans hbw.size hgrow3.size
  rw[ho4.block k (fun e=>hn (Or.inl e)),hgrow3.block k (Nat.lt_of_lt_of_le hk hbw.size) (fun e=>hn (Or.inr e)),hbw.block k hk]
 have hD:∀b,(b=cc∨some b=sv.ownBlock)→OutL B hon Fs R' ks n w1 b:=fun b e=>(hO b (e.elim (fun e=>e▸h.occ) (fun e=>h.osv b e.symm))).1;have hv:∀g,sv'.ownBlock=some g→g≠cc:=fun g hg e=>by
  rcases hat3 with h1|h1
  .exact own_ne h.said h.blk (by decide) (e▸(h1.symm.trans hg))
  rw[h1] at hg;cases hg;have h2:=h.occ.2.1;have h3:=hbw.size;omega
 have keep:∀b,OutL B hon Fs R ks n w b→b≠cc→sv.ownBlock≠some b→OutL B hon Fs R' ks n w4 b∧w4.heap[b]? =w.heap[b]? :=fun b hb hc hsb=>by
  obtain⟨k1,k2⟩:=hO b hb;exact⟨k1.keep hs.size,(hs.block b k1.2.1 (fun e=>e.elim hc (fun e=>hsb e.symm))).trans k2⟩
 have hown4:w4.ownsRow 0 9 1 sv' (said++[fr]).length ((said++[fr]).map .string):=by
  rw[List.length_append,List.map_append];exact own_blocks hown3 fun g hg _=>ho4.block g (hv g hg)
 refine⟨R',⟨hW.other hs hD,h.ci.lie hq fr (said++[fr]),fun k hk hhk=>?_,h.npos,hq4,own_blocks h.keyr fun g hg hl=>(keep g (h.okv g hg) (fun e=>own_ne h.keyr h.blk (by decide) (e▸hg)) (fun e=>own_tt h.keyr h.said (by decide) g hg e)).2,own_blocks h.nodes fun g hg hl=>(keep g (h.onv g hg) (fun e=>own_ne h.nodes h.blk (by decide) (e▸hg)) (fun e=>own_tt h.nodes h.said (by decide) g hg e)).2,hown4,((hO cc h.occ).1).keep hs.size,fun g hg=>((hO g (h.okv g hg)).1).keep hs.size,fun g hg=>((hO g (h.onv g hg)).1).keep hs.size,fun g hg=>?_,fun b o e=>?_⟩,hB.trans (Below.same hs (fun k e=>(hD k e).1) hW.bl),signR_le _ _ _,keep⟩
 .have h1:=signR_lenL sg q fr k;have h2:=h.lies k hk hhk;show(signR sg q fr k).length≤(said++[fr]).length;rw[List.length_append];simp only[List.length_cons,List.length_nil];omega
 .rcases hat3 with h1|h1
  .exact ((hO g (h.osv g (h1▸hg))).1).keep hs.size
  rw[h1] at hg;cases hg;have h3:=hbw.size;refine⟨Nat.le_trans hW.bl h3,(hown4.lt _ h1).2,fun j hj hh hb=>?_,fun hb=>?_,fun k hkn e=>?_⟩
  .have:=((hW.node j hj hh).fl _ hb).2
   omega
  .have:=(hW.rl _ hb).2
   omega
  have:=(hW.key k hkn).lt;omega
 obtain⟨g1,g2,g3,g4⟩:=h.guest b o e;obtain⟨k1,k2⟩:=keep b g1 g3 g4;refine⟨k1,k2.trans g2,g3,fun e=>?_⟩;rcases hat3 with h1|h1
 .exact g4 (h1.symm.trans e)
 rw[h1] at e;cases e;have h3:=hbw.size;have h4:=g1.2.1;omega
end Go.Proofs.YtcfjhbcpjpgodaaGreatDoor

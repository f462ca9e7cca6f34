/- Proved here: what a walk wants of those five sentinels that certificates and blocks come to: they hold pointers, all different. -/
import Derived.Test.YtcfjhbcpjpgodaaGreatDoorJ14
import Derived.Test.YtcfjhbcpjpgodaaGreatDoorJ6
import Derived.Test.YtcfjhbcpjpgodaaGreatDoorJ7
import Derived.Test.YtcfjhbcpjpgodaaGreatDoorJ11
import Derived.Test.YtcfjhbcpjpgodaaGreatDoorJ13
import Derived.Test.YtcfjhbcpjpgodaaGreatDoorJ15
import Derived.Test.YtcfjhbcpjpgodaaGreatDoorJ17
namespace Go.Proofs.YtcfjhbcpjpgodaaGreatDoor
open Go.RowKit
variable{es:List Addr}{w w':World}{cb nb kb B rb i n e size g:Nat}{out:List ByteArray}{F R F':Nat→Prop}{m:Int}{v:Value}{xs:List Value}{C:Array Value}
def fiveB(i:Nat):Bool:=i==0||i==1||i==2||i==9||i==11
structure SentF (es:List Addr) (w:World):Prop where
 len:es.length=sentGs.length
 nodup:es.Nodup
 cellF:∀(i g:Nat) (a:Addr),sentGs[i]? =some g→es[i]? =some a→fiveB i=true→w.cell? ⟨g,0,none⟩=some (.iface 294 (.pointer (some a)))
 blk:∀a,a∈es→∃c t,w.heap[a.block]? =some (.cells c t (0,0))
theorem SentF.cell(h:SentF es w)(i g:Nat)(a:Addr)(hg:sentGs[i]? =some g)(ha:es[i]? =some a)(hi:fiveB i=true:=by decide):w.cell? ⟨g,0,none⟩=some (.iface 294 (.pointer (some a))):=h.cellF i g a hg ha hi
theorem SentF.of(h:Sent es w):SentF es w:=⟨h.len,h.nodup,fun i g a hg ha _=>h.cell i g a hg ha,h.blk⟩
theorem SentF.later(h:SentF es w)(hb:Below w.heap.size w w'):SentF es w':=by
 refine⟨h.len,h.nodup,fun i g a hg ha hi=>?_,fun a ha=>?_⟩
 .have hc:=h.cellF i g a hg ha hi;rw[hb.cell (p:=⟨g,0,none⟩) (World.block_lt_of_cell? _ _ hc)];exact hc
 obtain⟨c,t,hc⟩:=h.blk a ha;refine⟨c,t,?_⟩;rw[hb.block _ (row_lt0 hc)];exact hc
def fourB(i:Nat):Bool:=i==0||i==1||i==2||i==11
structure SentN (es:List Addr) (w:World):Prop where
 len:es.length=sentGs.length
 nodup:es.Nodup
 cellF:∀(i g:Nat) (a:Addr),sentGs[i]? =some g→es[i]? =some a→fourB i=true→w.cell? ⟨g,0,none⟩=some (.iface 294 (.pointer (some a)))
 blk:∀a,a∈es→∃c t,w.heap[a.block]? =some (.cells c t (0,0))
theorem SentN.cell(h:SentN es w)(i g:Nat)(a:Addr)(hg:sentGs[i]? =some g)(ha:es[i]? =some a)(hi:fourB i=true:=by decide):w.cell? ⟨g,0,none⟩=some (.iface 294 (.pointer (some a))):=h.cellF i g a hg ha hi
theorem SentF.four(h:SentF es w):SentN es w:=⟨h.len,h.nodup,fun i g a hg ha hi=>h.cellF i g a hg ha (by unfold fourB at hi;unfold fiveB;simp only[Bool.or_eq_true] at hi ⊢;rcases hi with((h1|h1)|h1)|h1<;>simp[h1]),h.blk⟩
structure DcnV where
 block:ByteArray
 prop:ByteArray
 cert:List ByteArray
 told:Bool
def dcn0:DcnV:=⟨⟨#[]⟩,⟨#[]⟩,[],false⟩
def dcnC(d:DcnV×Value):Array Value:=#[.string d.1.block,.string d.1.prop,d.2,.bool d.1.told]
def dcnL(l:List (DcnV×Value)):List Value:=l.flatMap fun d=>(dcnC d).toList
theorem dcnL_append(l:List (DcnV×Value))(d:DcnV×Value):dcnL (l++[d])=dcnL l++(dcnC d).toList:=by simp[dcnL]
structure NodeS where
 x:Nat→Int
 dec:List DcnV
 wait:List ByteArray
 log:List EntV
 ahead:List EntV
 lr:Int
 lv:ByteArray
 vr:Int
 vv:ByteArray
 round:Nat
 step:Nat
 held:Bool
 b1:Bool
 b2:Bool
 b3:Bool
 time:Nat
 tims:List TimV
 tb:Nat
 out:List ByteArray
 sg:Nat→List ByteArray
def NodeS.height(s:NodeS):Nat:=s.dec.length
structure NodeV where
 ds:List (DcnV×Value)
 dv:Value
 wv:Value
 lv:Value
 av:Value
 tv:Value
def nodeL(kb cb:Nat)(V:NodeV)(s:NodeS):List Value:=
 .pointer (some ⟨kb,0,none⟩)::(regL s.x++[V.dv,V.wv,V.lv,V.av,.int .i64 s.lr,.string s.lv,.int .i64 s.vr,.string s.vv,.int .i64 (s.round:Int),.int .i64 (s.step:Int),.bool s.held,.bool false,.bool s.b1,.bool s.b2,.bool s.b3,.int .i64 (s.time:Int),V.tv,.int .i64 (s.tb:Int),.chan (some cb)])
def nodeA(kb cb:Nat)(V:NodeV)(s:NodeS):Array Value:=(nodeL kb cb V s).toArray
variable{V:NodeV}
variable{s s':NodeS}
theorem nodeL_length(kb cb:Nat)(V:NodeV)(s:NodeS):(nodeL kb cb V s).length=54:=by simp[nodeL,regL]
theorem nodeA_size(kb cb:Nat)(V:NodeV)(s:NodeS):(nodeA kb cb V s).size=54:=by simp[nodeA,nodeL_length]
def NodeV.foot(V:NodeV)(nb cb k:Nat):Prop:=k=nb∨k=cb∨V.dv.ownBlock=some k∨V.wv.ownBlock=some k∨V.lv.ownBlock=some k∨V.av.ownBlock=some k∨V.tv.ownBlock=some k∨∃d,d∈V.ds∧d.2.ownBlock=some k
structure NodeAt (nb kb cb:Nat) (V:NodeV) (s:NodeS) (w:World):Prop where
 blk:w.heap[nb]? =some (.cells (nodeA kb cb V s) 135 (0,0))
 eds:V.ds.map (·.1)=s.dec
 dec:w.ownsRow 0 175 4 V.dv V.ds.length (dcnL V.ds)
 cert:∀d,d∈V.ds→w.ownsRow 0 9 1 d.2 d.1.cert.length (d.1.cert.map .string)
 wait:w.ownsRow 0 9 1 V.wv s.wait.length (s.wait.map .string)
 log:w.ownsRow 0 164 9 V.lv s.log.length (entL s.log)
 ahead:w.ownsRow 0 164 9 V.av s.ahead.length (entL s.ahead)
 tims:w.ownsRow 0 223 5 V.tv s.tims.length (timL s.tims)
 chan:ChanAt w cb s.out
 alog:∀g,V.lv.ownBlock=some g→V.av.ownBlock≠some g
 awc:∀d,d∈V.ds→∀g,d.2.ownBlock=some g→V.wv.ownBlock≠some g
 acc:V.ds.Pairwise fun d e=>∀g,d.2.ownBlock=some g→e.2.ownBlock≠some g
theorem chan_lt(h:ChanAt w cb out):cb<w.heap.size:=by
 obtain⟨s,r,h⟩:=h;exact row_lt0 h
theorem NodeAt.lt(h:NodeAt nb kb cb V s w)(k:Nat)(hk:V.foot nb cb k):k<w.heap.size:=by
 rcases hk with rfl|rfl|e|e|e|e|e|⟨d,hd,e⟩
 .exact row_lt0 h.blk
 .exact chan_lt h.chan
 .exact (h.dec.lt k e).2
 .exact (h.wait.lt k e).2
 .exact (h.log.lt k e).2
 .exact (h.ahead.lt k e).2
 .exact (h.tims.lt k e).2
 exact((h.cert d hd).lt k e).2
theorem NodeAt.frame(h:NodeAt nb kb cb V s w)(hb:∀k,V.foot nb cb k→w'.heap[k]? =w.heap[k]?):NodeAt nb kb cb V s w' where
 blk:=(hb nb (Or.inl rfl)).trans h.blk
 eds:=h.eds
 dec:=own_blocks h.dec fun g e _=>hb g (Or.inr (Or.inr (Or.inl e)))
 cert:=fun d hd=>own_blocks (h.cert d hd) fun g e _=>hb g (Or.inr (Or.inr (Or.inr (Or.inr (Or.inr (Or.inr (Or.inr ⟨d,hd,e⟩)))))))
 wait:=own_blocks h.wait fun g e _=>hb g (Or.inr (Or.inr (Or.inr (Or.inl e))))
 log:=own_blocks h.log fun g e _=>hb g (Or.inr (Or.inr (Or.inr (Or.inr (Or.inl e)))))
 ahead:=own_blocks h.ahead fun g e _=>hb g (Or.inr (Or.inr (Or.inr (Or.inr (Or.inr (Or.inl e))))))
 tims:=own_blocks h.tims fun g e _=>hb g (Or.inr (Or.inr (Or.inr (Or.inr (Or.inr (Or.inr (Or.inl e)))))))
 chan:=by
  obtain⟨a,b,hc⟩:=h.chan;exact⟨a,b,(hb cb (Or.inr (Or.inl rfl))).trans hc⟩
 alog:=h.alog
 awc:=h.awc
 acc:=h.acc
def NodeI(F:Nat→Prop)(nb kb cb:Nat)(s:NodeS)(w:World):Prop:=∃V,NodeAt nb kb cb V s w∧∀k,V.foot nb cb k→F k
theorem NodeI.frame(h:NodeI F nb kb cb s w)(hb:∀k,F k→w'.heap[k]? =w.heap[k]?):NodeI F nb kb cb s w':=by
 obtain⟨V,h1,h2⟩:=h;exact⟨V,h1.frame (fun k hk=>hb k (h2 k hk)),h2⟩
structure GlobAt (B:Nat) (es:List Addr) (m:Int) (w:World):Prop where
 sent:SentN es w
 len:w.cell? ⟨13,0,none⟩=some (.int .i64 m)
 gb:∀i g:Nat,sentGs[i]? =some g→fourB i=true→g<B
 mb:13<B
 eb:∀a,a∈es→a.block<B
theorem GlobAt.same(h:GlobAt B es m w)(hb:∀k,k<B→w'.heap[k]? =w.heap[k]?):GlobAt B es m w':=by
 refine⟨⟨h.sent.len,h.sent.nodup,fun i g a hg ha hi=>?_,fun a ha=>?_⟩,?_,h.gb,h.mb,h.eb⟩
 .exact (World.cell?_of_block (w:=w) (a:=⟨g,0,none⟩) (hb g (h.gb i g hg hi))).trans (h.sent.cellF i g a hg ha hi)
 .obtain ⟨c,t,hc⟩:=h.sent.blk a ha
  exact⟨c,t,(hb a.block (h.eb a ha)).trans hc⟩
 exact(World.cell?_of_block (w:=w) (a:=⟨13,0,none⟩) (hb _ h.mb)).trans h.len
structure NodeW (B:Nat) (es:List Addr) (m:Int) (F R:Nat→Prop) (nb kb rb cb n i:Nat) (s:NodeS) (w:World):Prop where
 node:NodeI F nb kb cb s w
 ring:RingI R rb n s.sg w
 key:KeyAt w kb rb i
 idn:i<n
 fr:∀k,F k→¬R k
 kf:¬F kb
 kr:¬R kb
 fl:∀k,F k→B≤k∧k<w.heap.size
 rl:∀k,R k→B≤k∧k<w.heap.size
 glob:GlobAt B es m w
 bl:B≤w.heap.size
structure Goes (F R:Nat→Prop) (w:World) (F' R':Nat→Prop) (w':World):Prop where
 ff:∀k,F' k→F k∨w.heap.size≤k
 rr:∀k,R' k→R k∨w.heap.size≤k
 same:SameBut (fun k=>F k∨R k) w w'
theorem Goes.refl(F R:Nat→Prop)(w:World):Goes F R w F R w:=⟨fun _ h=>Or.inl h,fun _ h=>Or.inl h,⟨rfl,rfl,rfl,Nat.le_refl _,fun _ _ _=>rfl⟩⟩
theorem Goes.below(h:Below w.heap.size w w'):Goes F R w F R w':=⟨fun _ h=>Or.inl h,fun _ h=>Or.inl h,⟨h.os,h.tape,h.output,h.size,fun k hk _=>h.block k hk⟩⟩
theorem Goes.trans{R' F2 R2:Nat→Prop}{w2:World}(h:Goes F R w F' R' w')(h':Goes F' R' w' F2 R2 w2):Goes F R w F2 R2 w2:=by
 refine⟨fun k hk=>?_,fun k hk=>?_,⟨h'.same.os.trans h.same.os,h'.same.tape.trans h.same.tape,h'.same.output.trans h.same.output,Nat.le_trans h.same.size h'.same.size,fun k hk hn=>?_⟩⟩
 .rcases h'.ff k hk with h1|h1
  .exact h.ff k h1
  exact Or.inr (Nat.le_trans h.same.size h1)
 .rcases h'.rr k hk with h1|h1
  .exact h.rr k h1
  exact Or.inr (Nat.le_trans h.same.size h1)
 rw[h'.same.block k (Nat.lt_of_lt_of_le hk h.same.size) (fun h1=>?_)]
 .exact h.same.block k hk hn
 rcases h1 with h1|h1
 .rcases h.ff k h1 with h2|h2
  .exact hn (Or.inl h2)
  omega
 rcases h.rr k h1 with h2|h2
 .exact hn (Or.inr h2)
 omega
theorem KeyAt.keep(h:KeyAt w kb rb i)(hb:w'.heap[kb]? =w.heap[kb]?):KeyAt w' kb rb i:=hb.trans h
theorem KeyAt.lt(h:KeyAt w kb rb i):kb<w.heap.size:=row_lt0 h
theorem NodeW.below(h:NodeW B es m F R nb kb rb cb n i s w)(hb:Below w.heap.size w w'):NodeW B es m F R nb kb rb cb n i s w' where
 node:=h.node.frame fun k hk=>hb.block k (h.fl k hk).2
 ring:=h.ring.frame fun k hk=>hb.block k (h.rl k hk).2
 key:=h.key.keep (hb.block kb h.key.lt)
 idn:=h.idn
 fr:=h.fr
 kf:=h.kf
 kr:=h.kr
 fl:=fun k hk=>⟨(h.fl k hk).1,Nat.lt_of_lt_of_le (h.fl k hk).2 hb.size⟩
 rl:=fun k hk=>⟨(h.rl k hk).1,Nat.lt_of_lt_of_le (h.rl k hk).2 hb.size⟩
 glob:=h.glob.same fun k hk=>hb.block k (Nat.lt_of_lt_of_le hk h.bl)
 bl:=Nat.le_trans h.bl hb.size
theorem NodeW.turnF{cb':Nat}(h:NodeW B es m F R nb kb rb cb n i s w)(hn:NodeI F' nb kb cb' s' w')(hsg:s'.sg=s.sg)(hF:∀k,F' k→F k∨w.heap.size≤k)(hl:∀k,F' k→k<w'.heap.size)(hs:SameBut F w w'):
 NodeW B es m F' R nb kb rb cb' n i s' w'∧Goes F R w F' R w':=by
 refine⟨⟨hn,?_,h.key.keep (hs.block kb h.key.lt h.kf),h.idn,fun k hk hR=>?_,fun hk=>?_,h.kr,fun k hk=>⟨?_,hl k hk⟩,fun k hk=>⟨(h.rl k hk).1,Nat.lt_of_lt_of_le (h.rl k hk).2 hs.size⟩,h.glob.same fun k hk=>hs.block k (Nat.lt_of_lt_of_le hk h.bl) (fun hf=>?_),Nat.le_trans h.bl hs.size⟩,⟨hF,fun _ h=>Or.inl h,⟨hs.os,hs.tape,hs.output,hs.size,fun k hk hnn=>hs.block k hk (fun hf=>hnn (Or.inl hf))⟩⟩⟩
 .rw [hsg];exact h.ring.frame fun k hk=>hs.block k (h.rl k hk).2 (fun hf=>h.fr k hf hk)
 .rcases hF k hk with h1|h1
  .exact h.fr k h1 hR
  have:=(h.rl k hR).2;omega
 .rcases hF kb hk with h1|h1
  .exact h.kf h1
  have:=h.key.lt;omega
 .rcases hF k hk with h1|h1
  .exact (h.fl k h1).1
  exact Nat.le_trans h.bl h1
 have:=(h.fl k hf).1;omega
theorem NodeW.turnR{sg':Nat→List ByteArray}(h:NodeW B es m F R nb kb rb cb n i s w)(hp:SignP R rb n sg' w w'):
 ∃R',NodeW B es m F R' nb kb rb cb n i { s with sg:=sg' } w'∧Goes F R w F R' w':=by
 obtain⟨R',hr,hR,hl,hs⟩:=hp;refine⟨R',⟨?_,hr,h.key.keep (hs.block kb h.key.lt h.kr),h.idn,fun k hk hRk=>?_,h.kf,fun hk=>?_,fun k hk=>⟨(h.fl k hk).1,Nat.lt_of_lt_of_le (h.fl k hk).2 hs.size⟩,fun k hk=>⟨?_,hl k hk⟩,h.glob.same fun k hk=>hs.block k (Nat.lt_of_lt_of_le hk h.bl) (fun hf=>?_),Nat.le_trans h.bl hs.size⟩,⟨fun _ h=>Or.inl h,hR,⟨hs.os,hs.tape,hs.output,hs.size,fun k hk hnn=>hs.block k hk (fun hf=>hnn (Or.inr hf))⟩⟩⟩
 .obtain ⟨V,h1,h2⟩:=h.node
  have h3:=h1.frame (w':=w') (fun k hk=>hs.block k (h.fl k (h2 k hk)).2 (h.fr k (h2 k hk)));exact⟨V,⟨h3.blk,h3.eds,h3.dec,h3.cert,h3.wait,h3.log,h3.ahead,h3.tims,h3.chan,h3.alog,h3.awc,h3.acc⟩,h2⟩
 .rcases hR k hRk with h1|h1
  .exact h.fr k hk h1
  have:=(h.fl k hk).2;omega
 .rcases hR kb hk with h1|h1
  .exact h.kr h1
  have:=h.key.lt;omega
 .rcases hR k hk with h1|h1
  .exact (h.rl k h1).1
  exact Nat.le_trans h.bl h1
 have:=(h.rl k hf).1;omega
theorem NodeAt.cell(h:NodeAt nb kb cb V s w)(o:Nat){v:Value}(ho:(nodeA kb cb V s)[o]? =some v):w.cell? ⟨nb,o,none⟩=some v:=(cell_of_row w nb o _ _ _ h.blk).trans ho
theorem NodeAt.frozen(h:NodeAt nb kb cb V s w)(o:Nat):w.frozen? ⟨nb,o,none⟩=false:=frozen_row h.blk o
theorem NodeAt.nc(h:NodeAt nb kb cb V s w):nb≠cb:=fun e=>by
 obtain⟨a,b,hc⟩:=h.chan;have h1:=h.blk;rw[e,hc] at h1;cases h1
theorem own_ty{base:Nat}(h:w.ownsRow base e size v n xs)(hg:v.ownBlock=some g):∃c,w.heap[g]? =some (.cells c e (0,0)):=by
 rcases h.2 with⟨rfl,_⟩|⟨g1,_,c,rfl,_,hh1,_⟩
 .cases hg
 cases hg;exact⟨c,hh1⟩
theorem own_ne{base:Nat}{t:TypeId}(h:w.ownsRow base e size v n xs)(hg:w.heap[g]? =some (.cells C t (0,0)))(ht:t≠e):v.ownBlock≠some g:=fun e1=>by
 obtain⟨c,hc⟩:=own_ty h e1;rw[hg] at hc;cases hc;exact ht rfl
theorem own_nc{base:Nat}(h:w.ownsRow base e size v n xs)(hg:ChanAt w cb out):v.ownBlock≠some cb:=fun e1=>by
 obtain⟨c,hc⟩:=own_ty h e1;obtain⟨a,b,hd⟩:=hg;rw[hd] at hc;cases hc
theorem own_tt{b1 b2 e1 e2 z1 z2 n1 n2:Nat}{v1 v2:Value}{xs1 xs2:List Value}(h1:w.ownsRow b1 e1 z1 v1 n1 xs1)(h2:w.ownsRow b2 e2 z2 v2 n2 xs2)(he:e1≠e2)(g:Nat)(hg:v1.ownBlock=some g):v2.ownBlock≠some g:=fun e=>by
 obtain⟨c,hc⟩:=own_ty h1 hg;obtain⟨d,hd⟩:=own_ty h2 e;rw[hc] at hd;cases hd;exact he rfl
theorem NodeAt.rows(h:NodeAt nb kb cb V s w):V.dv.ownBlock≠some nb∧V.wv.ownBlock≠some nb∧V.lv.ownBlock≠some nb∧V.av.ownBlock≠some nb∧V.tv.ownBlock≠some nb∧∀d,d∈V.ds→d.2.ownBlock≠some nb:=
 ⟨own_ne h.dec h.blk (by decide),own_ne h.wait h.blk (by decide),own_ne h.log h.blk (by decide),own_ne h.ahead h.blk (by decide),own_ne h.tims h.blk (by decide),fun d hd=>own_ne (h.cert d hd) h.blk (by decide)⟩
theorem NodeAt.store(h:NodeAt nb kb cb V s w)(hb:w'.heap[nb]? =some (.cells (nodeA kb cb V s') 135 (0,0)))(ho:Only nb w w')(hd:s'.dec=s.dec)(hw:s'.wait=s.wait)(hl:s'.log=s.log)(ha:s'.ahead=s.ahead)(ht:s'.tims=s.tims)(hc:s'.out=s.out):NodeAt nb kb cb V s' w':=by
 obtain⟨n1,n2,n3,n4,n5,n6⟩:=h.rows;refine⟨hb,by rw[hd];exact h.eds,own_blocks h.dec fun g e _=>ho.block g (fun x=>n1 (x▸e)),fun d hd=>own_blocks (h.cert d hd) fun g e _=>ho.block g (fun x=>n6 d hd (x▸e)),?_,?_,?_,?_,?_,h.alog,h.awc,h.acc⟩
 .rw [hw];exact own_blocks h.wait fun g e _=>ho.block g (fun x=>n2 (x▸e))
 .rw [hl];exact own_blocks h.log fun g e _=>ho.block g (fun x=>n3 (x▸e))
 .rw [ha];exact own_blocks h.ahead fun g e _=>ho.block g (fun x=>n4 (x▸e))
 .rw [ht];exact own_blocks h.tims fun g e _=>ho.block g (fun x=>n5 (x▸e))
 rw[hc];obtain⟨a,b,hc⟩:=h.chan;exact⟨a,b,(ho.block cb (fun e=>h.nc e.symm)).trans hc⟩
theorem setCell_row{t:TypeId}(h:w.heap[g]? =some (.cells C t (0,0)))(o:Nat)(v:Value):(w.setCell ⟨g,o,none⟩ v).heap[g]? =some (.cells (C.setIfInBounds o v) t (0,0)):=by
 simp[World.setCell,Array.getElem?_modify,h]
theorem only_same(ho:Only g w w')(hF:F g):SameBut F w w':=⟨ho.os,ho.tape,ho.output,by rw[ho.size];exact Nat.le_refl _,fun k _ hn=>ho.block k (fun e=>hn (e▸hF))⟩
theorem NodeW.cellAt(h:NodeW B es m F R nb kb rb cb n i s w)(hA:NodeAt nb kb cb V s w)(hf:∀k,V.foot nb cb k→F k)(hb:w'.heap[nb]? =some (.cells (nodeA kb cb V s') 135 (0,0)))(ho:Only nb w w')
 (hd:s'.dec=s.dec) (hw:s'.wait=s.wait) (hl:s'.log=s.log) (ha:s'.ahead=s.ahead) (ht:s'.tims=s.tims) (hc:s'.out=s.out) (hg:s'.sg=s.sg):NodeW B es m F R nb kb rb cb n i s' w'∧Goes F R w F R w':=by
 have h1:=hA.store hb ho hd hw hl ha ht hc;exact h.turnF ⟨V,h1,hf⟩ hg (fun k hk=>Or.inl hk) (fun k hk=>by rw[ho.size];exact(h.fl k hk).2) (only_same ho (hf nb (Or.inl rfl)))
def NodeS.prop(s:NodeS)(r:Nat):Nat:=turnOf s.x (s.height+r)
def NodeS.good(s:NodeS)(t:ByteArray):Bool:=(behindR s.x t).2
def NodeS.outsider(s:NodeS)(m:MsgV):Bool:=decide (powI s.x m.f=0)||(decide (m.k=1)&& !decide (m.f=(s.prop m.r.toNat:Int)))
def NodeS.most(s:NodeS)(fits:EntV→Bool):Bool:=moreB 2 s.x (sendB fits s.log)
def NodeS.msg(s:NodeS)(i:Nat)(k v:Int)(nl:Bool)(t:ByteArray):MsgV:=⟨k,(s.height:Int),(s.round:Int),(i:Int),v,nl,t⟩
def NodeS.enc(s:NodeS)(i:Nat)(k v:Int)(nl:Bool)(t:ByteArray):ByteArray:=encS k (s.height:Int) (s.round:Int) (i:Int) v nl t
def NodeS.sendS(s:NodeS)(i:Nat)(k v:Int)(nl:Bool)(t:ByteArray):NodeS:=
 if powI s.x (i:Int)=0 then s else
 if hasB k (s.height:Int) (s.round:Int) (i:Int) v nl t.size=true then
  { s with sg:=signR s.sg i (s.enc i k v nl t),out:=put1 s.out (s.enc i k v nl t),log:=s.log++[⟨s.msg i k v nl t,s.enc i k v nl t,true⟩] }
 else s
def NodeS.timer(s:NodeS)(num ticks:Nat):NodeS:=
 { s with
  b1:=if num=1 then true else s.b1,b2:=if num=2 then true else s.b2,b3:=if num=3 then true else s.b3,
  tims:=upT s.tims.length (s.tims++[⟨(num:Int),(s.height:Int),(s.round:Int),(s.time:Int)+ticks+s.round,(s.tb:Int)⟩]) s.tims.length,
  tb:=s.tb+1 }
def longB(b t:ByteArray):ByteArray:=if b=⟨#[]⟩ then t else b++⟨#[44]⟩++t
def stepB(x:Nat→Int)(b t:ByteArray):ByteArray:=if(longB b t).size≤24∧(behindR x (longB b t)).2=true then longB b t else b
def blockF(x:Nat→Int)(l:List ByteArray):ByteArray:=l.foldl (stepB x) ⟨#[]⟩
theorem blockF_step(x:Nat→Int)(l:List ByteArray)(j:Nat)(h:j<l.length):blockF x (l.take (j+1))=stepB x (blockF x (l.take j)) (l.getD j ByteArray.empty):=by
 unfold blockF;rw[←List.take_append_getElem h,List.foldl_append,List.getD_eq_getElem?_getD,List.getElem?_eq_getElem h];rfl
theorem stepB_size{x:Nat→Int}{b t:ByteArray}(h:b.size≤24):(stepB x b t).size≤24:=by
 unfold stepB;split
 .rename_i h1;exact h1.1
 exact h
theorem blockF_size(x:Nat→Int)(l:List ByteArray):(blockF x l).size≤24:=by
 unfold blockF;have:∀(l:List ByteArray) (b:ByteArray),b.size≤24→(l.foldl (stepB x) b).size≤24:=fun l=>by
  induction l with
  |nil=>intro b hb;exact hb
  |cons t l ih=>intro b hb;exact ih _ (stepB_size hb)
 exact this l _ (by decide)
def NodeS.turned(s:NodeS)(r st:Nat):NodeS:={ s with round:=r,step:=st,held:=false,b1:=false,b2:=false,b3:=false }
def NodeS.beginR(s:NodeS)(i r:Nat):NodeS:=
 if s.prop r=i then(s.turned r 1).sendS i 1 s.vr false (if s.vr<0 then blockF s.x s.wait else s.vv) else(s.turned r 1).timer 1 3
def NodeS.beginH(s:NodeS)(i:Nat):NodeS:=
 if s.height=12 then { s with lr:= -1,lv:=⟨#[]⟩,vr:= -1,vv:=⟨#[]⟩,log:=s.ahead.filter fun e=> !s.outsider e.m,ahead:=[] }.turned 0 0
 else { s with lr:= -1,lv:=⟨#[]⟩,vr:= -1,vv:=⟨#[]⟩,log:=s.ahead.filter fun e=> !s.outsider e.m,ahead:=[] }.beginR i 0
end Go.Proofs.YtcfjhbcpjpgodaaGreatDoor

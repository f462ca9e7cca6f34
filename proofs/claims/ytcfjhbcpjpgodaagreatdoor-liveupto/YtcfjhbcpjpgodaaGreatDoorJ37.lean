import Derived.Test.YtcfjhbcpjpgodaaGreatDoorJ34
import Derived.Test.YtcfjhbcpjpgodaaGreatDoorRefusal
import Derived.Test.YtcfjhbcpjpgodaaGreatDoorJ29
namespace Go.Proofs.YtcfjhbcpjpgodaaGreatDoor
open Go.RowKit
set_option maxRecDepth 100000
set_option maxHeartbeats 0
set_option linter.all false
section
variable{Fs:Nat->Nat->Prop}{j k v T T' B rb n cb' b cc:Nat}{F' R R':Nat->Prop}{f nbs ks cbs:Nat->Nat}{st:Nat->za}{s' s:za}{w w':World}{es:List Addr}{m:Int}{gv kv nv sv:Value}{said:List zj5}
structure Xq (B:Nat) (es:List Addr) (m:Int) (Fs:Nat->Nat->Prop) (R:Nat->Prop) (nbs ks cbs:Nat->Nat) (rb n T:Nat) (st:Nat->za) (w:World):Prop where
 node:∀j,j<n->NodeW B es m (Fs j) R (nbs j) (ks j) rb (cbs j) n j (st j) w
 ok:∀j,j<n->NOk 0 T j 0 (st j)
 sg:∀j k,j<n->k<n->(st j).sg=(st k).sg
 apart:∀j k b,j<n->k<n->j≠k->Fs j b->¬Fs k b
 keys:∀j k,j<n->k<n->¬Fs j (ks k)
 globR:v8 B es w
def OutB(B:Nat)(Fs:Nat->Nat->Prop)(R:Nat->Prop)(ks:Nat->Nat)(n:Nat)(w:World)(b:Nat):Prop:=B<=b/\b<w.heap.size/\(∀j,j<n->¬Fs j b)/\¬R b/\∀k,k<n->ks k≠b
def Xu(Fs:Nat->Nat->Prop)(j:Nat)(F':Nat->Prop):Nat->Nat->Prop:=λk=>if k=j then F' else Fs k
def Xt(f:Nat->Nat)(j v:Nat):Nat->Nat:=λk=>if k=j then v else f k
def updS(st:Nat->za)(j:Nat)(s':za):Nat->za:=λk=>if k=j then s' else { st k with sg:=s'.sg }
theorem jq:Xu Fs j F' j=F':=by unfold Xu;rw[zj2 rfl]
theorem qi(h:k≠j):Xu Fs j F' k=Fs k:=by unfold Xu;rw[zj3 h]
theorem KW:Xt f j v j=v:=by unfold Xt;rw[zj2 rfl]
theorem KV(h:k≠j):Xt f j v k=f k:=by unfold Xt;rw[zj3 h]
theorem zz:updS st j s' j=s':=by unfold updS;rw[zj2 rfl]
theorem zw(h:k≠j):updS st j s' k={ st k with sg:=s'.sg }:=by unfold updS;rw[zj3 h]
theorem Vg.signed{F:Nat->Prop}{nb kb cb:Nat}(h:Vg F nb kb cb s w)(sg':Nat->List zj5):Vg F nb kb cb { s with sg:=sg' } w:=by
 obtain⟨V,h3,h2⟩:=h;exact⟨V,⟨h3.blk,h3.eds,h3.dec,h3.cert,h3.wait,h3.log,h3.ahead,h3.tims,h3.chan,h3.alog,h3.awc,h3.acc⟩,h2⟩
theorem NOk.later{S i:Nat}{e:Int}(h:NOk S T i e s)(hT:T<=T'):NOk S T' i e s:=⟨h.dom,h.pos,h.hgt,h.rnd,h.stp,h.log,h.ahead,h.ao,h.own,h.sg,h.tb,h.tims,zjF h.time hT,h.wait,h.waitz,h.vz,h.cert,h.out⟩
theorem Xq.step(h:Xq B es m Fs R nbs ks cbs rb n T st w)(hj:j<n)(hN:NodeW B es m F' R' (nbs j) (ks j) rb cb' n j s' w')(hG:Goes (Fs j) R w F' R' w')(hok:NOk 0 T' j 0 s')(hT:T<=T')(hsg:SgO j (st j) s'):
 Xq B es m (Xu Fs j F') R' nbs ks (Xt cbs j cb') rb n T' (updS st j s') w':=by
 have af:∀b,F' b->Fs j b\/w.heap.size<=b:=hG.ff;have ah:∀b,R' b->R b\/w.heap.size<=b:=hG.rr;have ae:∀k,k<n->ks k<w.heap.size:=λk hk=>(h.node k hk).key.lt;have ad:∀k b,k<n->k≠j->Fs k b->w'.heap[b]? =w.heap[b]? :=λk b hk ai hb=>hG.same.block b ((h.node k hk).fl b hb).2 (λe=>e.elim (λe=>h.apart k j b hk hj ai hb e) (λe=>(h.node k hk).fr b hb e));refine⟨λk hk=>?_,λk hk=>?_,λa b ha hb=>?_,λa b x ha hb ag hx hy=>?_,λa b ha hb hx=>?_,h.globR.same λb hb=>?_⟩
 .by_cases e:k=j
  .subst e;rw[jq,KW,zz];exact hN
  rw[qi e,KV e,zw e];have aa:=h.node k hk;refine⟨(aa.node.frame (λb hb=>ad k b hk e hb)).signed _,hN.ring,aa.key.keep (hG.same.block _ (ae k hk) (λx=>x.elim (h.keys j k hj hk) aa.kr)),aa.idn,λb hb hr=>?_,aa.kf,λhr=>?_,λb hb=>⟨(aa.fl b hb).1,zjE (aa.fl b hb).2 hG.same.size⟩,hN.rl,hN.glob,hN.bl⟩
  .rcases ah b hr with h1|h1
   .exact aa.fr b hb h1
   have:=(aa.fl b hb).2;omega
  rcases ah _ hr with h1|h1
  .exact aa.kr h1
  have:=ae k hk;omega
 .by_cases e:k=j
  .subst e;rw[zz];exact hok
  rw[zw e];refine((h.ok k hk).later hT).ring ?_;rw[hsg k e,h.sg j k hj hk]
 .have:∀a,(updS st j s' a).sg=s'.sg:=λa=>by
   by_cases e:a=j
   .rw [e,zz]
   rw[zw e]
  rw[this a,this b]
 .by_cases ea:a=j
  .have eb:b≠j:=λe=>ag (ea.trans e.symm);rw[ea,jq] at hx;rw[qi eb] at hy;rcases af x hx with h1|h1
   .exact h.apart b j x hb hj eb hy h1
   have:=((h.node b hb).fl x hy).2;omega
  rw[qi ea] at hx;by_cases eb:b=j
  .rw [eb,jq] at hy;rcases af x hy with h1|h1
   .exact h.apart a j x ha hj ea hx h1
   have:=((h.node a ha).fl x hx).2;omega
  rw[qi eb] at hy;exact h.apart a b x ha hb ag hx hy
 .by_cases ea:a=j
  .rw [ea,jq] at hx;rcases af _ hx with h1|h1
   .exact h.keys j b hj hb h1
   have:=ae b hb;omega
  rw[qi ea] at hx;exact h.keys a b ha hb hx
 exact hG.same.block b (zjE hb (h.node j hj).bl) (λe=>e.elim (λe=>by have:=((h.node j hj).fl b e).1;omega) (λe=>by have:=((h.node j hj).rl b e).1;omega))
theorem Xq.other{D:Nat->Prop}(h:Xq B es m Fs R nbs ks cbs rb n T st w)(hn:0<n)(hs:zk D w w')(hD:∀b,D b->OutB B Fs R ks n w b):
 Xq B es m Fs R nbs ks cbs rb n T st w':=by
 refine⟨λk hk=>?_,h.ok,h.sg,h.apart,h.keys,h.globR.same λb hb=>hs.block b (zjE hb (h.node 0 hn).bl) (λe=>by have:=(hD b e).1;omega)⟩;have aa:=h.node k hk;exact⟨aa.node.frame (λb hb=>hs.block b (aa.fl b hb).2 (λe=>(hD b e).2.2.1 k hk hb)),aa.ring.frame (λb hb=>hs.block b (aa.rl b hb).2 (λe=>(hD b e).2.2.2.1 hb)),aa.key.keep (hs.block _ aa.key.lt (λe=>(hD _ e).2.2.2.2 k hk rfl)),aa.idn,aa.fr,aa.kf,aa.kr,λb hb=>⟨(aa.fl b hb).1,zjE (aa.fl b hb).2 hs.size⟩,λb hb=>⟨(aa.rl b hb).1,zjE (aa.rl b hb).2 hs.size⟩,aa.glob.same (λb hb=>hs.block b (zjE hb aa.bl) (λe=>by have:=(hD b e).1;omega)),zjF aa.bl hs.size⟩
theorem OutB.step(h:OutB B Fs R ks n w b)(hG:Goes (Fs j) R w F' R' w')(hj:j<n):OutB B (Xu Fs j F') R' ks n w' b:=by
 refine⟨h.1,zjE h.2.1 hG.same.size,λk hk hb=>?_,λhb=>?_,h.2.2.2.2⟩
 .by_cases e:k=j
  .rw [e,jq] at hb;rcases hG.ff b hb with h1|h1
   .exact h.2.2.1 j hj h1
   have:=h.2.1;omega
  rw[qi e] at hb;exact h.2.2.1 k hk hb
 rcases hG.rr b hb with h1|h1
 .exact h.2.2.2.1 h1
 have:=h.2.1;omega
theorem OutB.keep(h:OutB B Fs R ks n w b)(hs:w.heap.size<=w'.heap.size):OutB B Fs R ks n w' b:=⟨h.1,zjE h.2.1 hs,h.2.2⟩
def gJ(nbs:Nat->Nat)(n:Nat):List Value:=(List.range n).map λj=>.pointer (some ⟨nbs j,0,none⟩)
structure kR (B:Nat) (es:List Addr) (m:Int) (Fs:Nat->Nat->Prop) (R:Nat->Prop) (nbs ks cbs:Nat->Nat) (rb n T cc:Nat) (gv kv nv sv:Value) (st:Nat->za) (said:List zj5) (w:World):Prop where
 city:Xq B es m Fs R nbs ks cbs rb n T st w
 npos:0<n
 blk:w.heap[cc]? =some (.cells #[gv,.pointer (some ⟨rb,0,none⟩),kv,nv,sv] 84 (0,0))
 keyr:w.ownsRow 0 45 1 kv n (VM ks n)
 nodes:w.ownsRow 0 26 1 nv n (gJ nbs n)
 said:w.ownsRow 0 9 1 sv said.length (said.map .string)
 occ:OutB B Fs R ks n w cc
 okv:∀g,kv.ownBlock=some g->OutB B Fs R ks n w g
 onv:∀g,nv.ownBlock=some g->OutB B Fs R ks n w g
 osv:∀g,sv.ownBlock=some g->OutB B Fs R ks n w g
theorem kR.step(h:kR B es m Fs R nbs ks cbs rb n T cc gv kv nv sv st said w)(hj:j<n)(hN:NodeW B es m F' R' (nbs j) (ks j) rb cb' n j s' w')(hG:Goes (Fs j) R w F' R' w')(hok:NOk 0 T' j 0 s')(hT:T<=T')(hsg:SgO j (st j) s'):
 kR B es m (Xu Fs j F') R' nbs ks (Xt cbs j cb') rb n T' cc gv kv nv sv (updS st j s') said w':=by
 have hb:∀b,OutB B Fs R ks n w b->w'.heap[b]? =w.heap[b]? :=λb hb=>hG.same.block b hb.2.1 (λe=>e.elim (hb.2.2.1 j hj) hb.2.2.2.1);exact⟨h.city.step hj hN hG hok hT hsg,h.npos,(hb cc h.occ).trans h.blk,zb h.keyr λg hg _=>hb g (h.okv g hg),zb h.nodes λg hg _=>hb g (h.onv g hg),zb h.said λg hg _=>hb g (h.osv g hg),h.occ.step hG hj,λg hg=>(h.okv g hg).step hG hj,λg hg=>(h.onv g hg).step hG hj,λg hg=>(h.osv g hg).step hG hj⟩
theorem kR.below(h:kR B es m Fs R nbs ks cbs rb n T cc gv kv nv sv st said w)(hb:Below w.heap.size w w'):kR B es m Fs R nbs ks cbs rb n T cc gv kv nv sv st said w':=by
 have hs:zk (λ_=>False) w w':=⟨hb.os,hb.tape,hb.output,hb.size,λk hk _=>hb.block k hk⟩;exact⟨h.city.other h.npos hs (λ_ e=>e.elim),h.npos,(hb.block cc h.occ.2.1).trans h.blk,zb h.keyr λg _ hg=>hb.block g hg,zb h.nodes λg _ hg=>hb.block g hg,zb h.said λg _ hg=>hb.block g hg,h.occ.keep hb.size,λg hg=>(h.okv g hg).keep hb.size,λg hg=>(h.onv g hg).keep hb.size,λg hg=>(h.osv g hg).keep hb.size⟩
theorem kR.zhC{sv':Value}{said':List zj5}(h:kR B es m Fs R nbs ks cbs rb n T cc gv kv nv sv st said w)(hblk:w'.heap[cc]? =some (.cells #[gv,.pointer (some ⟨rb,0,none⟩),kv,nv,sv'] 84 (0,0)))(hown:w'.ownsRow 0 9 1 sv' said'.length (said'.map .string))(hat:sv'.ownBlock=sv.ownBlock\/∀g,sv'.ownBlock=some g->w.heap.size<=g)(hs:zk (λk=>k=cc\/some k=sv.ownBlock) w w'):
 kR B es m Fs R nbs ks cbs rb n T cc gv kv nv sv' st said' w':=by
 have hk:=h.city.node 0 h.npos;refine⟨h.city.other h.npos hs (λb e=>e.elim (λe=>e▸h.occ) (λe=>h.osv b e.symm)),h.npos,hblk,zb h.keyr λg hg hl=>hs.block g hl (λe=>e.elim (λe=>yI h.keyr h.blk (by decide) (e▸hg)) (λe=>zO h.keyr h.said (by decide) g hg e.symm)),zb h.nodes λg hg hl=>hs.block g hl (λe=>e.elim (λe=>yI h.nodes h.blk (by decide) (e▸hg)) (λe=>zO h.nodes h.said (by decide) g hg e.symm)),hown,h.occ.keep hs.size,λg hg=>(h.okv g hg).keep hs.size,λg hg=>(h.onv g hg).keep hs.size,λg hg=>?_⟩;rcases hat with h1|h1
 .exact (h.osv g (h1▸hg)).keep hs.size
 have h2:=h1 g hg;refine⟨zjF hk.bl h2,(hown.lt g hg).2,λj hj hb=>?_,λhb=>?_,λk aa e=>?_⟩
 .have:=((h.city.node j hj).fl g hb).2
  omega
 .have:=(hk.rl g hb).2
  omega
 have:=(h.city.node k aa).key.lt;omega
theorem kR.nodeAt(h:kR B es m Fs R nbs ks cbs rb n T cc gv kv nv sv st said w):∃g cap,nv=.slice (some ⟨g,0,none⟩) n cap/\n<=maxLen/\g≠cc/\∀j,j<n->w.cell? ⟨g,j,none⟩=some (.pointer (some ⟨nbs j,0,none⟩)):=by
 have hp:=h.npos;rcases h.nodes.2 with⟨_,h1⟩|⟨g,cap,cur,h1,hb,hg,hnc,hcm,hcs,ht⟩
 .omega
 refine⟨g,cap,h1,by omega,λe=>yI h.nodes h.blk (by decide) (by rw[h1,e];rfl),λj hj=>?_⟩;rw[zjD w g j _ _ _ hg];have e1:(cur.toList.take (n*1))[j]? =(gJ nbs n)[j]? :=by rw[ht]
 rw[zkc,zj2 (by omega)] at e1;rw[<-zkf,e1];simp[gJ,hj]
end
section
variable{x0:Nat->Int}{n:Nat}{hon:Nat->Bool}
structure zfA where
 st:Nat->za
 sg:Nat->List zj5
 said:List zj5
structure CI (n:Nat) (hon:Nat->Bool) (x0:Nat->Int) (c:zfA):Prop where
 ni:∀j,j<n->hon j=true->NI n j x0 (c.st j)
 sg:∀j,j<n->hon j=true->(c.st j).sg=c.sg
def zfE(n:Nat)(hon:Nat->Bool)(x:Nat->Int):Prop:=3*powB x (zen n hon) 8<sumTo x 8
variable{c:zfA}
theorem Qb(h:Dom x0):∀l:List zj5,Dom (regs x0 l):=λl=>by
 unfold regs;induction l generalizing x0 with
 |nil=>exact h
 |cons b l ih=>exact ih (Dom.behind b h)
def Chain(n:Nat)(sg:Nat->List zj5)(x0:Nat->Int)(l:List zj5):Prop:=∀(h:Nat) (b:zj5),l[h]? =some b->∃r,Quo n sg (regs x0 (l.take h)) 3 (h:Int) r b
theorem CI.chain(h:CI n hon x0 c){j:Nat}(hj:j<n)(hh:hon j=true):Chain n c.sg x0 (c.st j).blocks:=λk b hb=>by
 rw[<-h.sg j hj hh];exact((h.ni j hj hh).dec k b hb).2
theorem Q9{l l':List zj5}{h:Nat}(hs:∀k,k<h->l[k]? =l'[k]?):l.take h=l'.take h:=by
 apply List.ext_getElem?;intro k;rw[zkc,zkc];split
 .rename_i hk;exact hs k hk
 rfl
def zfv(n:Nat)(hon:Nat->Bool)(x0:Nat->Int)(c:zfA)(H:Nat):Prop:=∀j,j<n->hon j=true->∀h,h<=H->h<=(c.st j).zfF->zfE n hon (regs x0 ((c.st j).blocks.take h))
theorem CI.fair(h:CI n hon x0 c){H:Nat}{x:Nat->Int}(hx:∀q,q<n->hon q=true->H<=(c.st q).zfF->regs x0 ((c.st q).blocks.take H)=x):Fair n hon c.sg x (H:Int):=by
 refine⟨λq hq hh k r t t' hk hv aa=>?_,λq hq hh r t hv=>?_,λq hq hh r r' t t' hv aa hr ht=>?_⟩
 .have hN:=h.ni q hq hh;rw[<-h.sg q hq hh] at hv aa;obtain⟨fr,a1,a2,a3,a4,a5,a6,a7⟩:=hv;obtain⟨fr',b1,b2,b3,b4,b5,b6,b7⟩:=aa;have e:=hN.one fr a1 fr' b1 (by rw[a3];exact hk) (by rw[a3,b3]) (by rw[a4,b4]) (by rw[a5,b5]);rw[<-a7,<-b7,e]
 .have hN:=h.ni q hq hh;have hs:=h.sg q hq hh;rw[<-hs] at hv ⊢;obtain⟨fr,a1,a2,a3,a4,a5,a6,a7⟩:=hv;have hp:=hN.pc fr a1 a3 a6;have ad:H<=(c.st q).zfF:=by
   rcases(hN.mine fr a1).pos with u|⟨u,_⟩<;>omega
  rw[a4,a5,a7,Int.toNat_natCast,hx q hq hh ad] at hp;exact hp
 have hN:=h.ni q hq hh;have hs:=h.sg q hq hh;rw[<-hs] at hv aa ⊢;obtain⟨fr,a1,a2,a3,a4,a5,a6,a7⟩:=hv;obtain⟨fr',b1,b2,b3,b4,b5,b6,b7⟩:=aa;obtain⟨r2,c1,c2,c3⟩:=hN.pv fr a1 fr' b1 a3 a6 b3 b6 (by rw[a4,b4]) (by rw[a5,b5];exact hr) (by rw[a7,b7];exact ht);have ad:H<=(c.st q).zfF:=by
  rcases(hN.mine fr a1).pos with u|⟨u,_⟩<;>omega
 rw[a4,b7,Int.toNat_natCast,hx q hq hh ad] at c3;rw[a5] at c1;rw[b5] at c2;exact⟨r2,c1,c2,c3⟩
theorem CI.agree(h:CI n hon x0 c)(hd:Dom x0){H:Nat}(hp:zfv n hon x0 c H):
 ∀k,k<=H->∀(l:List zj5),Chain n c.sg x0 l->∀i,i<n->hon i=true->k<l.length->k<(c.st i).zfF->l[k]? =(c.st i).blocks[k]? :=by
 intro k;induction k using Nat.strongRecOn with
 |ind k ih=>
  intro hk l hl i hi hh ae af;have same:∀l',Chain n c.sg x0 l'->k<=l'.length->l'.take k=(c.st i).blocks.take k:=λl' ad hk'=>Q9 λm hm=>ih m hm (by omega) l' ad i hi hh (by omega) (by omega);have hF:Fair n hon c.sg (regs x0 ((c.st i).blocks.take k)) (k:Int):=h.fair λq hq ah hle=>by
   rw[same _ (h.chain hq ah) (by rw[zI];exact hle)]
  have hL:=hp i hi hh k hk (by omega);have hD:=Qb hd ((c.st i).blocks.take k);have e1:l[k]? =some l[k]:=zjJ ae;have ag:k<(c.st i).blocks.length:=by rw[zI];exact af
  have e2:(c.st i).blocks[k]? =some (c.st i).blocks[k]:=zjJ ag;obtain⟨r,hq⟩:=hl k _ e1;obtain⟨r',aa⟩:=h.chain hi hh k _ e2;rw[same l hl (by omega)] at hq;rw[e1,e2,zds hF (λi=>(hD i).1) hL hq aa]
theorem CI.agreed(h:CI n hon x0 c)(hd:Dom x0){H:Nat}(hp:zfv n hon x0 c H){k i j:Nat}(hk:k<=H)(hi:i<n)(hhi:hon i=true)(hj:j<n)(hhj:hon j=true)(h1:k<(c.st i).zfF)(h2:k<(c.st j).zfF):(c.st i).blocks[k]? =(c.st j).blocks[k]? :=
 h.agree hd hp k hk _ (h.chain hi hhi) j hj hhj (by rw[zI];exact h1) h2
end
section
abbrev xh:Type:=(Nat->za)×List zj5
def Move(n:Nat)(Sb:zj5->Prop)(a b:xh):Prop:=
 (∃j fr,j<n/\fr∈a.2/\b=(updS a.1 j ((a.1 j).zfM n j fr),a.2))\/(∃j t,j<n/\Sb t/\b=(updS a.1 j ((a.1 j).zgd t),a.2))\/∃j,j<n/\b=(updS a.1 j { a.1 j with out:=[] },a.2++(a.1 j).out)
theorem Move.recv{n:Nat}{Sb:zj5->Prop}(st:Nat->za)(said:List zj5)(j:Nat)(fr:zj5)(hj:j<n)(hf:fr∈said):Move n Sb (st,said) (updS st j ((st j).zfM n j fr),said):=zj0 ⟨j,fr,hj,hf,rfl⟩
theorem Move.sub{n:Nat}{Sb:zj5->Prop}(st:Nat->za)(said:List zj5)(j:Nat)(t:zj5)(hj:j<n)(ht:Sb t):Move n Sb (st,said) (updS st j ((st j).zgd t),said):=zj1 (zj0 ⟨j,t,hj,ht,rfl⟩)
theorem Move.sent{n:Nat}{Sb:zj5->Prop}(st:Nat->za)(said:List zj5)(j:Nat)(hj:j<n):Move n Sb (st,said) (updS st j { st j with out:=[] },said++(st j).out):=zj1 (zj1 ⟨j,hj,rfl⟩)
def Moves(n:Nat)(Sb:zj5->Prop)(a b:xh):Prop:=∀C:xh->Prop,C a->(∀x y,C x->Move n Sb x y->C y)->C b
theorem Moves.refl{n:Nat}{Sb:zj5->Prop}(a:xh):Moves n Sb a a:=λ_ h _=>h
theorem Moves.more{n:Nat}{Sb:zj5->Prop}(a b c:xh)(h:Moves n Sb a b)(h':Move n Sb b c):Moves n Sb a c:=λC ha hc=>hc _ _ (h C ha hc) h'
theorem Moves.trans{n:Nat}{Sb:zj5->Prop}{a b c:xh}(h:Moves n Sb a b)(h':Moves n Sb b c):Moves n Sb a c:=λC ha hc=>h' C (h C ha hc) hc
def hearK:Nat->xh->xh
 |0,c=>c
 |k+1,c=>(updS (hearK k c).1 k { (hearK k c).1 k with out:=[] },(hearK k c).2++((hearK k c).1 k).out)
theorem Yj{n:Nat}{Sb:zj5->Prop}(c:xh):∀k,k<=n->Moves n Sb c (hearK k c)
 |0,_=>Moves.refl c
 |k+1,h=>Moves.more _ _ _ (Yj c k (by omega)) (Move.sent _ _ k (by omega))
def ticksTo:Nat->(Nat->za)->Nat->za
 |0,st=>st
 |k+1,st=>updS (ticksTo k st) k ((ticksTo k st k).zfW k)
def zK(B:Nat)(es:List Addr)(m:Int)(rb n cc:Nat)(gv:Value)(T M:Nat)(st:Nat->za)(said:List zj5)(w:World):Prop:=
 said.length<=M/\∃(Fs:Nat->Nat->Prop) (R:Nat->Prop) (nbs ks cbs:Nat->Nat) (kv nv sv:Value),kR B es m Fs R nbs ks cbs rb n T cc gv kv nv sv st said w
theorem Below.zhl{B:Nat}{F R F' R':Nat->Prop}{w w':World}(hG:Goes F R w F' R' w')(hF:∀k,F k->B<=k)(hR:∀k,R k->B<=k)(hB:B<=w.heap.size):Below B w w':=
 { hG.same with block:=λk hk=>hG.same.block k (zjE hk hB) (λe=>e.elim (λe=>by have:=hF k e;omega) (λe=>by have:=hR k e;omega)) }
theorem NodeW.zin{B:Nat}{es:List Addr}{m:Int}{F R F' R':Nat->Prop}{nb kb rb cb n i:Nat}{s:za}{w w':World}(h:NodeW B es m F R nb kb rb cb n i s w)(hG:Goes F R w F' R' w'):Below B w w':=Below.zhl hG (λk hk=>(h.fl k hk).1) (λk hk=>(h.rl k hk).1) h.bl
theorem Below.same{B:Nat}{D:Nat->Prop}{w w':World}(hs:zk D w w')(hD:∀k,D k->B<=k)(hB:B<=w.heap.size):Below B w w':=
 { hs with block:=λk hk=>hs.block k (zjE hk hB) (λe=>by have:=hD k e;omega) }
theorem kR.bl{B:Nat}{es:List Addr}{m:Int}{Fs:Nat->Nat->Prop}{R:Nat->Prop}{nbs ks cbs:Nat->Nat}{rb n T cc:Nat}{gv kv nv sv:Value}{st:Nat->za}{said:List zj5}{w:World}(h:kR B es m Fs R nbs ks cbs rb n T cc gv kv nv sv st said w):B<=w.heap.size:=(h.city.node 0 h.npos).bl
theorem zK.below{B:Nat}{es:List Addr}{m:Int}{gv:Value}{rb n cc T M:Nat}{st:Nat->za}{said:List zj5}{w w':World}(h:zK B es m rb n cc gv T M st said w)(hb:BW w w'):zK B es m rb n cc gv T M st said w':=by
 obtain⟨h1,Fs,R,nbs,ks,cbs,kv,nv,sv,h2⟩:=h;exact⟨h1,Fs,R,nbs,ks,cbs,kv,nv,sv,h2.below hb⟩
theorem zK.bl{B:Nat}{es:List Addr}{m:Int}{gv:Value}{rb n cc T M:Nat}{st:Nat->za}{said:List zj5}{w:World}(h:zK B es m rb n cc gv T M st said w):B<=w.heap.size:=by
 obtain⟨h1,Fs,R,nbs,ks,cbs,kv,nv,sv,h2⟩:=h;exact h2.bl
theorem zK.mono{B:Nat}{es:List Addr}{m:Int}{gv:Value}{rb n cc T T' M M':Nat}{st:Nat->za}{said:List zj5}{w:World}(h:zK B es m rb n cc gv T M st said w)(hT:T<=T')(hM:M<=M'):zK B es m rb n cc gv T' M' st said w:=by
 obtain⟨h1,Fs,R,nbs,ks,cbs,kv,nv,sv,h2⟩:=h;exact⟨zjF h1 hM,Fs,R,nbs,ks,cbs,kv,nv,sv,{ h2 with city:=⟨h2.city.node,λj hj=>(h2.city.ok j hj).later hT,h2.city.sg,h2.city.apart,h2.city.keys,h2.city.globR⟩ }⟩
section
variable{P:Program}
theorem vi{o:Oper}{a:Act}{w:World}{K:Act->World->Prop}{Q:Exit->Act->World->Prop}(s x:Operand)(t:TypeId)
 (ho:o.op=.call { callee:=.builtin .append,args:=#[s,x],argTypes:=#[t,t] })
 (base:Nat) (e:TypeId) (i:TypeInfo) (z:Value) (bytes:Nat) (ht:P.underlying t=some (.slice e)) (hi:P.info? e=some i) (hz:i.zero=some z)
 (hsize:i.size=1) (hby:i.bytes=bytes) (hzs:z.cells.size=1)
 (v:Value) (n:Nat) (xs:List Value) (hs:a.eval s=v) (hown:w.ownsRow base e 1 v n xs)
 (p:Option Addr) (m c:Nat) (fr:Nat->zj5) (hx:a.eval x=.slice p m c) (hp:YQ p m c) (hl:qW w w.heap.size p m (λi=>sA (fr i)))
 (h63:n+m<=maxLen) (hbytes:(n+m)*bytes<=140737488355328) (hbase:base<=w.heap.size)
 (h:∀v' w',w'.ownsRow base e 1 v' (n+m) (xs++(List.range m).map λi=>sA (fr i))->w.grownBy w' v.ownBlock->(v'.ownBlock=v.ownBlock\/v'.ownBlock=some w.heap.size)->K (a.put o.dst v') w'):o.wp P a w K Q:=by
 rcases hp with⟨rfl,rfl,rfl⟩|⟨b,off,rfl⟩
 .have hr:=run_append_owned_none (P:=P) w base t o.type e i 1 ht hi v n xs hown;unfold Oper.wp execOp;simp only[ho,resolve,invoke,builtin,Sem.run_bind,Sem.run_pure,Result.andThen_ok,List.map_toArray,List.map_cons,List.map_nil,hs,hx,hr];exact h v w (by simpa using hown) (World.grownBy.refl _ _) (zj0 rfl)
 refine yj w s x t ho base e i z 1 bytes ht hi hz hsize hby hzs (by decide) v n xs hs hown (aA b off) m c ((List.range m).map λi=>sA (fr i)) hx (by simp) (λj u hj=>?_) (λu hu=>?_) h63 hbytes hbase h
 .have aa:j<m:=by have:=(List.getElem?_eq_some_iff.1 hj).1;simpa using this
  obtain⟨b',o',e',_,hc⟩:=hl j aa;cases e';have e2:((List.range m).map λi=>Value.string (fr i))[j]? =some (sA (fr j)):=by simp[aa]
  rw[e2] at hj;cases hj;rw[addr_add];exact hc
 simp only[List.mem_map] at hu;obtain⟨a,_,rfl⟩:=hu;rfl
end
end
section
variable{n j S T T':Nat}{x0 p:Nat->Int}{s:za}{st:Nat->za}
structure Cty (n:Nat) (x0 p:Nat->Int) (T:Nat) (st:Nat->za):Prop where
 n1:0<n
 V:ys n p
 d0:Dom x0
 s0:0<sumTo x0 8
 nd:∀j,j<n->Nd n j x0 p 0 T (st j)
 q:∀j,j<n->kC (st j)
 sg:∀j,j<n->(st j).sg=(st 0).sg
theorem SgL.of(h:Nd n j x0 p S T s):SgL n p s.sg:=h.lv.c.sgi
theorem Nd.later(h:Nd n j x0 p S T s)(hT:T<=T'):Nd n j x0 p S T' s:=⟨⟨h.y.1.later hT,h.y.2⟩,h.ni,h.tm,h.lv⟩
theorem Cty.step{s':za}(h:Cty n x0 p T st)(hj:j<n)(hT:T<=T')(N:Nd n j x0 p 0 T' s')(Q:kC s')(ho:SgO j (st j) s')(hu:SgLe (st j).sg s'.sg):Cty n x0 p T' (updS st j s'):=by
 have key:∀k,k<n->(updS st j s' k).sg=s'.sg:=λk hk=>by
  by_cases e:k=j
  .rw [e,zz]
  rw[zw e]
 refine⟨h.n1,h.V,h.d0,h.s0,λk hk=>?_,λk hk=>?_,λk hk=>(key k hk).trans (key 0 h.n1).symm⟩
 .by_cases e:k=j
  .rw [e,zz];exact N
  rw[zw e];have e1:(st k).sg=(st j).sg:=(h.sg k hk).trans (h.sg j hj).symm;exact((h.nd k hk).later hT).others (by rw[e1];exact hu) (by rw[ho k e,e1]) N.lv.c.sgi
 by_cases e:k=j
 .rw [e,zz];exact Q
 rw[zw e];exact(h.q k hk).congr rfl rfl rfl rfl rfl rfl rfl
theorem Cty.later(h:Cty n x0 p T st)(hT:T<=T'):Cty n x0 p T' st:=⟨h.n1,h.V,h.d0,h.s0,λj hj=>(h.nd j hj).later hT,h.q,h.sg⟩
theorem Cty.zfX(h:Cty n x0 p T st)(hj:j<n)(fr:zj5):Cty n x0 p T (updS st j ((st j).zfM n j fr)):=
 h.step hj (zjA _) ((h.nd j hj).zfX h.V hj (h.q j hj) fr).1 ((h.nd j hj).zfX h.V hj (h.q j hj) fr).2 (ya (st j) n j fr) (yE (st j) n j fr)
theorem Cty.tick(h:Cty n x0 p T st)(hj:j<n):Cty n x0 p (T+1) (updS st j ((st j).zfW j)):=
 h.step hj (Nat.le_succ _) ((h.nd j hj).tick h.V hj (h.q j hj)).1 ((h.nd j hj).tick h.V hj (h.q j hj)).2 (kU (st j) j) (kT (st j) j)
theorem Cty.sub(h:Cty n x0 p T st)(hj:j<n)(t:zj5)(ht:byt t 0≠118):Cty n x0 p T (updS st j ((st j).zgd t)):=
 h.step hj (zjA _) ((h.nd j hj).sub t ht) (zaW t (h.q j hj)) (Vy (st j) j t) (Vw (st j) j t)
theorem Cty.sent(h:Cty n x0 p T st)(hj:j<n):Cty n x0 p T (updS st j { st j with out:=[] }):=
 h.step hj (zjA _) (h.nd j hj).sent ((h.q j hj).congr rfl rfl rfl rfl rfl rfl rfl) (λ_ _=>rfl) (SgLe.refl _)
theorem Cty.one(h:Cty n x0 p T st):zdY n (st 0).sg:=λq hq fr hf fr' hf' a b c=>by
 by_cases hk:(decV fr).k=1
 .exact (h.nd 0 h.n1).lv.c.sgi.one1 q hq fr hf fr' hf' hk (by rw[<-a];exact hk) b c
 .have e:=h.sg q hq;exact(h.nd q hq).ni.one fr (by rw[e];exact hf) fr' (by rw[e];exact hf') hk a b c
theorem XJ(h0:0<sumTo x0 8){l:List zj5}(hl:∀(h:Nat) (b:zj5),l[h]? =some b->(zi (regs x0 (l.take h)) b).2=true):∀k,k<=l.length->0<sumTo (regs x0 (l.take k)) 8
 |0,_=>h0
 |k+1,hk=>by
  have e:l.take (k+1)=l.take k++[l[k]]:=(List.take_append_getElem (by omega)).symm;rw[e,ZY];exact Zk (XJ h0 hl k (by omega)) (hl k _ (zjJ (by omega)))
theorem xO(x:Nat->Int):∀k,powB x (λ_=>false) k=0
 |0=>rfl
 |k+1=>by simp[powB,xO x k]
theorem Cty.agree(h:Cty n x0 p T st){i j k:Nat}(hi:i<n)(hj:j<n)(h1:k<(st i).zfF)(h2:k<(st j).zfF):(st i).blocks[k]? =(st j).blocks[k]? :=by
 have hc:CI n (λ_=>true) x0 ⟨st,(st 0).sg,[]⟩:=⟨λj hj _=>(h.nd j hj).ni,λj hj _=>h.sg j hj⟩;have hp:zfv n (λ_=>true) x0 ⟨st,(st 0).sg,[]⟩ k:=λj hj _ m hm aa=>by
  unfold zfE;have e:zen n (λ_=>true)=λ_=>false:=by funext q;unfold zen;simp
  rw[e,xO];have:=XJ h.s0 (λa b ad=>((h.nd j hj).ni.dec a b ad).1) m (by rw[zI];exact aa);show 3*0<sumTo (regs x0 ((st j).blocks.take m)) 8;omega
 exact hc.agreed h.d0 hp (zjA k) hi rfl hj rfl h1 h2
theorem Cty.preB(h:Cty n x0 p T st){i j:Nat}(hi:i<n)(hj:j<n)(hle:(st i).zfF<=(st j).zfF):(st i).blocks=(st j).blocks.take (st i).zfF:=by
 have h1:(st i).blocks.take (st i).zfF=(st j).blocks.take (st i).zfF:=Q9 λk hk=>h.agree hi hj hk (by omega);rw[<-h1,List.take_of_length_le (by rw[zI];exact zjA _)]
theorem Cty.reg(h:Cty n x0 p T st){i j:Nat}(hi:i<n)(hj:j<n)(hle:(st i).zfF<=(st j).zfF):(st i).x=regs x0 ((st j).blocks.take (st i).zfF):=by
 rw[(h.nd i hi).ni.reg,h.preB hi hj hle]
def recvK(n:Nat)(fr:zj5):Nat->(Nat->za)->Nat->za
 |0,st=>st
 |k+1,st=>updS (recvK n fr k st) k ((recvK n fr k st k).zfM n k fr)
def flo(n:Nat)(c:xh):Nat->xh
 |0=>c
 |m+1=>hearK n (recvK n ((flo n c m).2.getD m zj4) n (flo n c m).1,(flo n c m).2)
def floIn(n:Nat)(st:Nat->za):xh:=hearK n (ticksTo n st,[])
theorem Cty.ticks(h:Cty n x0 p T st):∀k,k<=n->Cty n x0 p (T+k) (ticksTo k st)
 |0,_=>h
 |k+1,hk=>(Cty.ticks h k (by omega)).tick (by omega)
theorem Cty.recvs(h:Cty n x0 p T st)(fr:zj5):∀k,k<=n->Cty n x0 p T (recvK n fr k st)
 |0,_=>h
 |k+1,hk=>(Cty.recvs h fr k (by omega)).zfX (by omega) fr
end
section
variable{n j T T' k:Nat}{sg sg' g0:Nat->List zj5}{f:zj5}{x0 p:Nat->Int}{st:Nat->za}{s':za}{c:xh}
theorem SgF.up(h:SgF n sg f)(hle:SgLe sg sg'):SgF n sg' f:=by
 refine⟨h.1,?_⟩;have h2:=h.2;unfold zB at h2 ⊢;rw[Bool.and_eq_true_iff] at h2 ⊢;exact⟨h2.1,jk (hle _ _ ((vX _ _).1 h2.2))⟩
theorem SgF.by(h:SgF n sg f):∃q,q<n/\f∈sg q/\(decV f).f=(q:Int):=by
 have h2:=h.2;unfold zB at h2;rw[Bool.and_eq_true_iff] at h2;have h3:=zjP h2.1;exact⟨(decV f).f.toNat,by omega,(vX _ _).1 h2.2,by omega⟩
theorem ZOk.up{s:za}(h:ZOk n s)(hle:SgLe s.sg sg'):ZOk n { s with sg:=sg' }:=⟨λe he=>(h.log e he).up hle,λe he=>(h.ahead e he).up hle,λd hd=>⟨(h.dec d hd).1.up hle,λf hf=>((h.dec d hd).2 f hf).up hle⟩,λf hf=>(h.out f hf).up hle⟩
structure Ctz (n:Nat) (x0 p:Nat->Int) (T:Nat) (st:Nat->za):Prop where
 c:Cty n x0 p T st
 z:∀j,j<n->ZOk n (st j)
theorem Ctz.step(h:Ctz n x0 p T st)(hj:j<n)(C:Cty n x0 p T' (updS st j s'))(Z:ZOk n s')(hu:SgLe (st j).sg s'.sg):Ctz n x0 p T' (updS st j s'):=⟨C,λk hk=>by
 by_cases e:k=j
 .rw [e,zz];exact Z
 .rw [zw e];exact(h.z k hk).up (by rw[(h.c.sg k hk).trans (h.c.sg j hj).symm];exact hu)⟩
theorem Ctz.zfX(h:Ctz n x0 p T st)(hj:j<n)(fr:zj5):Ctz n x0 p T (updS st j ((st j).zfM n j fr)):=h.step hj (h.c.zfX hj fr) ((h.z j hj).zfX hj) (yE (st j) n j fr)
theorem Ctz.tick(h:Ctz n x0 p T st)(hj:j<n):Ctz n x0 p (T+1) (updS st j ((st j).zfW j)):=h.step hj (h.c.tick hj) ((h.z j hj).tick hj) (kT (st j) j)
theorem Ctz.sub(h:Ctz n x0 p T st)(hj:j<n)(t:zj5)(ht:byt t 0≠118):Ctz n x0 p T (updS st j ((st j).zgd t)):=h.step hj (h.c.sub hj t ht) (h.z j hj).sub (Vw (st j) j t)
theorem Ctz.sent(h:Ctz n x0 p T st)(hj:j<n):Ctz n x0 p T (updS st j { st j with out:=[] }):=h.step hj (h.c.sent hj) (h.z j hj).sent (SgLe.refl _)
theorem XO(l:List zj5):∀out:List zj5,∃new,putL out l=out++new:=by
 induction l with
 |nil=>intro out;exact⟨[],by simp[putL]⟩
 |cons a l ih=>
  intro out;obtain⟨new,h⟩:=ih (put1 out a);have e:putL out (a::l)=putL (put1 out a) l:=rfl;rw[e,h];unfold put1;split
  .exact ⟨[a]++new,by rw[List.append_assoc]⟩
  exact⟨new,rfl⟩
theorem zeb(s:za)(i k:Nat):Ou i s (s.zf2 k):=by
 unfold za.zf2;split
 .exact Ou.refl i s
 exact⟨XO _ _,λ_ fr h=>zj0 h⟩
theorem zbo(s:za)(i:Nat)(e:zl):Ou i s (s.zf5 e):=by
 unfold za.zf5;split
 .exact gH rfl rfl
 exact gH rfl rfl
theorem GV(s:za)(n i:Nat)(fr:zj5):Ou i s (s.zfM n i fr):=
 zG (C:=Ou i s) (Ou.refl i s) (λk _ _=>zeb s i k) (λ_ _ _=>(zbo s i _).trans (zcZ i 2200 _))
theorem zc0(s:za)(i:Nat):Ou i s s.again:=by
 unfold za.again;split
 .exact ⟨XO _ _,λ_ fr h=>zj0 h⟩
 exact Ou.refl i s
theorem zea(s:za)(i:Nat):Ou i s (s.zfW i):=(show Ou i s s.zfN from gH rfl rfl).trans ((zdR i _ _).trans (zc0 _ i))
structure Fk (n:Nat) (x0 p:Nat->Int) (T:Nat) (g0:Nat->List zj5) (c:xh):Prop where
 z:Ctz n x0 p T c.1
 new:∀q,q<n->∀fr∈(c.1 0).sg q,fr∈g0 q\/fr∈c.2\/fr∈(c.1 q).out
 sd:∀fr∈c.2,SgF n (c.1 0).sg fr
 up:SgLe g0 (c.1 0).sg
theorem KU(k:Nat):(updS st j s' k).sg=s'.sg:=by
 by_cases e:k=j
 .rw [e,zz]
 rw[zw e]
theorem Fk.act(h:Fk n x0 p T g0 c)(hk:k<n)(ho:(c.1 k).out=[])(C:Ctz n x0 p T' (updS c.1 k s'))(O:Ou k (c.1 k) s')(hl:s'.out.length<100)(so:SgO k (c.1 k) s')(su:SgLe (c.1 k).sg s'.sg):Fk n x0 p T' g0 (updS c.1 k s',c.2):=by
 have e0:=h.z.c.sg k hk;refine⟨C,λq hq fr hf=>?_,λfr hf=>?_,?_⟩
 .have aa:fr∈s'.sg q:=by rw[<-KU (st:=c.1) (j:=k) (s':=s') 0];exact hf
  by_cases e:q=k
  .subst e;rcases O.2 hl fr aa with h1|h1
   .rw [e0] at h1;rcases h.new q hq fr h1 with h2|h2|h2
    .exact zj0 h2
    .exact zj1 (zj0 h2)
    rw[ho] at h2;cases h2
   refine zj1 (zj1 ?_);show fr∈(updS c.1 q s' q).out;rw[zz];exact h1
  rw[so q e,e0] at aa;rcases h.new q hq fr aa with h2|h2|h2
  .exact zj0 h2
  .exact zj1 (zj0 h2)
  refine zj1 (zj1 ?_);show fr∈(updS c.1 k s' q).out;rw[zw e];exact h2
 .show SgF n (updS c.1 k s' 0).sg fr;rw[KU];exact(h.sd fr hf).up (by rw[<-e0];exact su)
 show SgLe g0 (updS c.1 k s' 0).sg;rw[KU];exact h.up.trans (by rw[<-e0];exact su)
theorem Fk.sent(h:Fk n x0 p T g0 c)(hk:k<n):Fk n x0 p T g0 (updS c.1 k { c.1 k with out:=[] },c.2++(c.1 k).out):=by
 have e0:=h.z.c.sg k hk;have e1:(updS c.1 k { c.1 k with out:=[] } 0).sg=(c.1 0).sg:=by rw[KU];exact e0
 refine⟨h.z.sent hk,λq hq fr hf=>?_,λfr hf=>?_,?_⟩
 .have aa:fr∈(c.1 0).sg q:=by rw[<-e1];exact hf
  rcases h.new q hq fr aa with h2|h2|h2
  .exact zj0 h2
  .exact zj1 (zj0 (List.mem_append_left _ h2))
  by_cases e:q=k
  .subst e;exact zj1 (zj0 (List.mem_append_right _ h2))
  refine zj1 (zj1 ?_);show fr∈(updS c.1 k { c.1 k with out:=[] } q).out;rw[zw e];exact h2
 .show SgF n (updS c.1 k { c.1 k with out:=[] } 0).sg fr;rw[e1];rcases List.mem_append.1 hf with h1|h1
  .exact h.sd fr h1
  have:=(h.z.z k hk).out fr h1;rw[e0] at this;exact this
 show SgLe g0 (updS c.1 k { c.1 k with out:=[] } 0).sg;rw[e1];exact h.up
theorem xM(fr:zj5)(st:Nat->za):∀k j,k<=j->(recvK n fr k st j).out=(st j).out
 |0,_,_=>rfl
 |k+1,j,h=>by
  show(updS (recvK n fr k st) k _ j).out=_;rw[zw (by omega)];exact xM fr st k j (by omega)
theorem xk(st:Nat->za):∀k j,k<=j->(ticksTo k st j).out=(st j).out
 |0,_,_=>rfl
 |k+1,j,h=>by
  show(updS (ticksTo k st) k _ j).out=_;rw[zw (by omega)];exact xk st k j (by omega)
theorem Yi(c:xh):∀k j,j<k->((hearK k c).1 j).out=[]
 |k+1,j,h=>by
  show(updS (hearK k c).1 k _ j).out=_;by_cases e:j=k
  .rw [e,zz]
  .rw [zw e];exact Yi c k j (by omega)
theorem JR(c:xh):∀k,∃l,(hearK k c).2=c.2++l
 |0=>⟨[],by simp[hearK]⟩
 |k+1=>by
  obtain⟨l,h⟩:=JR c k;exact⟨l++((hearK k c).1 k).out,by show(hearK k c).2++_=_;rw[h,List.append_assoc]⟩
theorem Fk.recvs(h:Fk n x0 p T g0 c)(ho:∀j,j<n->(c.1 j).out=[])(fr:zj5):∀k,k<=n->Fk n x0 p T g0 (recvK n fr k c.1,c.2)
 |0,_=>h
 |k+1,hk=>by
  have ih:=Fk.recvs h ho fr k (by omega);have o1:(recvK n fr k c.1 k).out=[]:=(xM fr c.1 k k (zjA _)).trans (ho k (by omega));exact ih.act (by omega) o1 (ih.z.zfX (by omega) fr) (GV _ n k fr) (Z0 ih.z.c.V (by omega) (ih.z.c.nd k (by omega)) o1 fr) (ya _ n k fr) (yE _ n k fr)
theorem Fk.ticks(h:Fk n x0 p T g0 c)(ho:∀j,j<n->(c.1 j).out=[]):∀k,k<=n->Fk n x0 p (T+k) g0 (ticksTo k c.1,c.2)
 |0,_=>h
 |k+1,hk=>by
  have ih:=Fk.ticks h ho k (by omega);have o1:(ticksTo k c.1 k).out=[]:=(xk c.1 k k (zjA _)).trans (ho k (by omega));exact ih.act (by omega) o1 (ih.z.tick (by omega)) (zea _ k) (YE ih.z.c.V (by omega) (ih.z.c.nd k (by omega)) (ih.z.c.q k (by omega)) o1).1 (kU _ k) (kT _ k)
theorem Fk.hear(h:Fk n x0 p T g0 c):∀k,k<=n->Fk n x0 p T g0 (hearK k c)
 |0,_=>h
 |k+1,hk=>(Fk.hear h k (by omega)).sent (by omega)
theorem Fk.zg7(h:Fk n x0 p T g0 c)(ho:∀j,j<n->(c.1 j).out=[]):∀m,Fk n x0 p T g0 (Go.Proofs.YtcfjhbcpjpgodaaGreatDoor.flo n c m)/\∀j,j<n->((Go.Proofs.YtcfjhbcpjpgodaaGreatDoor.flo n c m).1 j).out=[]
 |0=>⟨h,ho⟩
 |m+1=>by
  obtain⟨i1,i2⟩:=Fk.zg7 h ho m;exact⟨(i1.recvs i2 _ n (zjA _)).hear n (zjA _),λj hj=>Yi _ n j hj⟩
theorem Fk.start(h:Ctz n x0 p T st)(ho:∀j,j<n->(st j).out=[]):Fk n x0 p (T+n) (st 0).sg (floIn n st)/\∀j,j<n->((floIn n st).1 j).out=[]:=by
 have h0:Fk n x0 p T (st 0).sg (st,[]):=⟨h,λ_ _ _ hf=>zj0 hf,λ_ hf=>(by cases hf),SgLe.refl _⟩;exact⟨(h0.ticks ho n (zjA _)).hear n (zjA _),λj hj=>Yi _ n j hj⟩
end
section
structure Rel (n:Nat) (x0 p:Nat->Int) (T:Nat) (R:Nat->za->za->Prop):Prop where
 refl:∀j s,R j s s
 trans:∀j a b c,R j a b->R j b c->R j a c
 recv:∀j s fr,j<n->Nd n j x0 p 0 T s->R j s (s.zfM n j fr)
 free:∀j s g o,R j s { s with sg:=g,out:=o }
section
variable{n T:Nat}{x0 p:Nat->Int}{R:Nat->za->za->Prop}{st:Nat->za}{c:xh}
theorem Rel.upd(h:Rel n x0 p T R){k:Nat}{s':za}(hr:R k (st k) s')(j:Nat):R j (st j) (updS st k s' j):=by
 by_cases e:j=k
 .subst e;rw[zz];exact hr
 rw[zw e];exact h.free j (st j) s'.sg (st j).out
theorem Rel.recvs(h:Rel n x0 p T R)(C:Cty n x0 p T st)(fr:zj5)(k:Nat):∀d,k+d<=n->∀j,R j (recvK n fr k st j) (recvK n fr (k+d) st j)
 |0,_,j=>h.refl j _
 |d+1,hd,j=>h.trans j _ _ _ (Rel.recvs h C fr k d (by omega) j) (h.upd (h.recv (k+d) _ fr (by omega) ((C.recvs fr (k+d) (by omega)).nd (k+d) (by omega))) j)
theorem Rel.hear(h:Rel n x0 p T R):∀k j,R j (c.1 j) ((hearK k c).1 j)
 |0,j=>h.refl j _
 |k+1,j=>h.trans j _ _ _ (Rel.hear h k j) (h.upd (h.free k _ ((hearK k c).1 k).sg []) j)
theorem Rel.next(h:Rel n x0 p T R)(C:Cty n x0 p T c.1)(fr:zj5)(j:Nat):R j (c.1 j) ((hearK n (recvK n fr n c.1,c.2)).1 j):=by
 have h1:=Rel.recvs h C fr 0 n (by omega) j;rw[zj8] at h1;exact h.trans j _ _ _ h1 (Rel.hear h (c:=(recvK n fr n c.1,c.2)) n j)
theorem Rel.zg7(h:Rel n x0 p T R)(C:∀m,Cty n x0 p T (Go.Proofs.YtcfjhbcpjpgodaaGreatDoor.flo n c m).1)(m:Nat)(j:Nat):∀d,R j ((Go.Proofs.YtcfjhbcpjpgodaaGreatDoor.flo n c m).1 j) ((Go.Proofs.YtcfjhbcpjpgodaaGreatDoor.flo n c (m+d)).1 j)
 |0=>h.refl j _
 |d+1=>h.trans j _ _ _ (Rel.zg7 h C m j d) (Rel.next h (C (m+d)) _ j)
end
theorem xp{n T:Nat}{x0 p:Nat->Int}(V:ys n p):Rel n x0 p T λ_=>Per:=⟨λ_ s=>Per.refl s,λ_ _ _ _ a b=>a.trans b,λj s fr hj N=>xq V hj N fr,λ_ s g o=>xQ rfl rfl rfl (zjA _) (zjA _)⟩
theorem ZX{n T:Nat}{x0 p:Nat->Int}(V:ys n p):Rel n x0 p T λ_=>Kn:=⟨λ_ s=>Kn.refl s,λ_ _ _ _ a b=>a.trans b,λj s fr hj N=>Kf V hj N fr,λ_ s g o=>xW rfl (λ_ h=>h) (λ_ h=>h)⟩
theorem Per.hle{s s':za}(h:Per s s'):s.zfF<=s'.zfF:=by rcases h.1.2 with h1|h1<;>omega
theorem Fk.got{n T:Nat}{x0 p:Nat->Int}{g0:Nat->List zj5}{c:xh}(h:Fk n x0 p T g0 c)(ho:∀j,j<n->(c.1 j).out=[]){fr:zj5}(hf:fr∈c.2){j:Nat}(hj:j<n)(hh:(decV fr).h<=((c.1 j).zfF:Int)+1):Knows ((hearK n (recvK n fr n c.1,c.2)).1 j) fr:=by
 have V:=h.z.c.V;have i1:=h.recvs ho fr j (by omega);have C1:=i1.z.c;obtain⟨q,hq,aa,-⟩:=(i1.sd fr hf).by;have e0:=C1.sg j hj;have e1:(c.1 j).zfF<=(recvK n fr j c.1 j).zfF:=by
  have:=Rel.recvs (xp V) h.z.c fr 0 j (by omega) j;rw[zj8] at this;exact this.hle
 have k1:Knows (recvK n fr (j+1) c.1 j) fr:=by
  show Knows (updS (recvK n fr j c.1) j ((recvK n fr j c.1 j).zfM n j fr) j) fr;rw[zz];exact Qs V hj (C1.nd j hj) (by rw[e0];exact C1.one) hq (by rw[e0];exact aa) (by show(decV fr).h<=((recvK n fr j c.1 j).zfF:Int)+1;omega)
 have k2:=Rel.recvs (ZX V) h.z.c fr (j+1) (n-(j+1)) (by omega) j;rw[show j+1+(n-(j+1))=n by omega] at k2;exact Rel.hear (ZX (T:=T) (x0:=x0) V) (c:=(recvK n fr n c.1,c.2)) n j fr (k2 fr k1)
def qq(s s':za):Prop:=∃l,s'.dec=s.dec++l/\∀d∈l,d.told=false
theorem qq.refl(s:za):qq s s:=⟨[],by simp,λ_ h=>(by cases h)⟩
theorem qq.trans{a b c:za}(h:qq a b)(h':qq b c):qq a c:=by
 obtain⟨l,h1,h2⟩:=h;obtain⟨l',h3,h4⟩:=h';exact⟨l++l',by rw[h3,h1,List.append_assoc],λd hd=>(List.mem_append.1 hd).elim (h2 d) (h4 d)⟩
theorem kX{s s':za}(h:s'.dec=s.dec):qq s s':=⟨[],by rw[h];simp,λ_ h=>(by cases h)⟩
theorem yF(s:za)(i:Nat)(k v:Int)(nl:Bool)(t:zj5):(s.zfI i k v nl t).dec=s.dec:=(zq s i k v nl t).1
theorem yB(s:za)(i r:Nat):(s.zfH i r).dec=s.dec:=(zF s i r).1
theorem zaq(s:za)(i:Nat)(q:zl):qq s (s.zfR i q):=by
 refine⟨[⟨q.m.s,q.fr,certTo (votesForB 3 q.m.r q.m.s) s.log 8,false⟩],?_,λd hd=>by rw[List.mem_singleton.1 hd]⟩;unfold za.zfR;rw[zu];split
 .rfl
 rw[yB];rfl
theorem qF(s:za)(i:Nat)(k v:Int)(nl:Bool)(t:zj5)(st:Nat):qq s ((s.zfI i k v nl t).zfO st):=kX (yF s i k v nl t)
theorem zb3{i:Nat}{s:za}(ht:(s.zfT (za.zfY i) i).1=true):qq s (s.zfT (za.zfY i) i).2:=by
 refine zE (C:=qq s) ht (λq _=>zaq s i q) (λ_ r _ _ _=>kX (yB s i r)) (λ_ _ _ q _ _ _ _=>?_) (λ_ _ _ _ q _ _ _ _ _=>?_) (λ_ _ _ _=>qF s i 3 0 true _ 3) (λ_ _ _ _ _=>kX rfl) (λ_ _ _ _=>kX rfl)
 .split
  .exact qF s i 2 0 false _ 2
  exact qF s i 2 0 true _ 2
 split
 .exact qF (s.zfZ q.m.s).zf3 i 3 0 false _ 3
 exact kX rfl
theorem ZK(i:Nat):∀(f:Nat) (s:za),qq s (za.zgn i f s)
 |0,s=>qq.refl s
 |f+1,s=>by
  rw[za.zgn];split
  .rename_i h1;exact(zb3 h1).trans (ZK i f _)
  .exact qq.refl s
theorem zb4(s:za)(i:Nat)(u:zU):qq s (s.zga i u):=
 ye (C:=qq s) (λ_ _ _ _=>qF s i 2 0 true _ 2) (λ_ _ _ _=>qF s i 3 0 true _ 3) (λ_ _ _ _=>kX (yB s i _)) (λ_=>qq.refl s)
theorem J2(i:Nat):∀(f:Nat) (s:za),qq s (za.zf0 i f s)
 |0,s=>qq.refl s
 |f+1,s=>by
  rw[za.zf0];split
  .exact qq.refl s
  .split
   .exact (show qq s s.zfQ from kX rfl).trans ((zb4 _ i _).trans ((ZK i 2200 _).trans (J2 i f _)))
   .exact qq.refl s
theorem vm(s:za)(e:zl):(s.zf5 e).dec=s.dec:=by
 unfold za.zf5;split<;>rfl
theorem zaS(s:za)(i:Nat):∀d∈(s.zfW i).dec,d.told=false:=by
 have e:(s.zfW i).dec=(za.zf0 i (s.tims.length+1) s.zfN).dec:=by
  unfold za.zfW za.again;split<;>rfl
 obtain⟨l,h1,h2⟩:=J2 i (s.tims.length+1) s.zfN;rw[e,h1];intro d hd;rcases List.mem_append.1 hd with h|h
 .obtain ⟨d0,_,rfl⟩:=List.mem_map.1 h
  rfl
 exact h2 d h
def Tld(said:List zj5)(s:za):Prop:=∀d∈s.dec,d.told=true->∀f,f=d.prop\/f∈d.cert->f∈said\/f∈s.out
theorem Tld.no{said:List zj5}{s:za}(h:∀d∈s.dec,d.told=false):Tld said s:=λd hd ht=>by rw[h d hd] at ht;cases ht
theorem Tld.up{said:List zj5}{s s':za}(h:Tld said s)(hd:qq s s')(ho:∃new,s'.out=s.out++new):Tld said s':=λd hm ht f hf=>by
 obtain⟨l,h1,h2⟩:=hd;obtain⟨new,h3⟩:=ho;rw[h1] at hm;rcases List.mem_append.1 hm with h4|h4
 .exact (h d h4 ht f hf).imp id λx=>by rw[h3];exact List.mem_append_left _ x
 .rw [h2 d h4] at ht;cases ht
theorem Tld.zfX{n i S T:Nat}{x0 p:Nat->Int}{said:List zj5}{s:za}(N:Nd n i x0 p S T s)(h:Tld said s)(ho:s.out=[])(fr:zj5):Tld said (s.zfM n i fr):=by
 refine zG (C:=Tld said) h (λk hk _=>?_) λa b c=>?_
 .unfold za.zf2;split
  .exact h
  have hd:s.dec[k]? =some (s.dec.getD k yr):=by rw[zjK,zjJ hk];rfl
  have h1:(s.dec.getD k yr).cert.length<=8:=QK (N.ni.cert k ((s.dec.getD k yr).block,(s.dec.getD k yr).cert) (by unfold za.zhr;rw[List.getElem?_map,hd];rfl));have e:putL s.out ((s.dec.getD k yr).prop::(s.dec.getD k yr).cert)=(s.dec.getD k yr).prop::(s.dec.getD k yr).cert:=by
   rw[Qg _ _ (by rw[ho,List.length_cons];simp only[List.length_nil];omega),ho,List.nil_append]
  intro d hm ht f hf;rcases List.mem_or_eq_of_mem_set hm with h2|h2
  .rcases h d h2 ht f hf with h3|h3
   .exact zj0 h3
   rw[ho] at h3;cases h3
  refine zj1 ?_;show f∈putL s.out _;rw[e];rw[h2] at hf;rcases hf with h3|h3
  .rw [h3];exact zjV ..
  exact List.mem_cons_of_mem _ h3
 exact h.up ((kX (vm s _)).trans (ZK i 2200 _)) ((zbo s i _).trans (zcZ i 2200 _)).1
theorem Tld.recvs{n T:Nat}{x0 p:Nat->Int}{c:xh}(C:Cty n x0 p T c.1)(ho:∀j,j<n->(c.1 j).out=[])(h:∀j,j<n->Tld c.2 (c.1 j))(fr:zj5):∀k,k<=n->∀j,j<n->Tld c.2 (recvK n fr k c.1 j)
 |0,_,j,hj=>h j hj
 |k+1,hk,j,hj=>by
  have ih:=Tld.recvs C ho h fr k (by omega);show Tld c.2 (updS (recvK n fr k c.1) k ((recvK n fr k c.1 k).zfM n k fr) j);by_cases e:j=k
  .subst e;rw[zz];exact(ih j hj).zfX ((C.recvs fr j (by omega)).nd j hj) ((xM fr c.1 j j (zjA _)).trans (ho j hj)) fr
  .rw [zw e];exact ih j hj
theorem Tld.hear{n:Nat}{c:xh}(h:∀j,j<n->Tld c.2 (c.1 j)):∀k,k<=n->∀j,j<n->Tld (hearK k c).2 ((hearK k c).1 j)
 |0,_,j,hj=>h j hj
 |k+1,hk,j,hj=>by
  have ih:=Tld.hear h k (by omega);show Tld ((hearK k c).2++((hearK k c).1 k).out) (updS (hearK k c).1 k { (hearK k c).1 k with out:=[] } j);intro d hm ht f hf;by_cases e:j=k
  .subst e;rw[zz] at hm ⊢;refine zj0 (List.mem_append.2 (ih j hj d hm ht f hf))
  .rw [zw e] at hm ⊢;exact(ih j hj d hm ht f hf).imp (List.mem_append_left _) id
theorem Tld.zg7{n T:Nat}{x0 p:Nat->Int}{g0:Nat->List zj5}{c:xh}(F:Fk n x0 p T g0 c)(ho:∀j,j<n->(c.1 j).out=[])(h:∀j,j<n->Tld c.2 (c.1 j)):∀m,∀j,j<n->Tld (Go.Proofs.YtcfjhbcpjpgodaaGreatDoor.flo n c m).2 ((Go.Proofs.YtcfjhbcpjpgodaaGreatDoor.flo n c m).1 j)
 |0,j,hj=>h j hj
 |m+1,j,hj=>by
  obtain⟨i1,i2⟩:=Fk.zg7 F ho m;exact Tld.hear (c:=(recvK n _ n (Go.Proofs.YtcfjhbcpjpgodaaGreatDoor.flo n c m).1,(Go.Proofs.YtcfjhbcpjpgodaaGreatDoor.flo n c m).2)) (Tld.recvs i1.z.c i2 (Tld.zg7 F ho h m) _ n (zjA _)) n (zjA _) j hj
theorem YU{n:Nat}(st:Nat->za):∀k j,j<k->∀d∈(ticksTo k st j).dec,d.told=false
 |k+1,j,h=>by
  show∀d∈(updS (ticksTo k st) k ((ticksTo k st k).zfW k) j).dec,d.told=false;by_cases e:j=k
  .subst e;rw[zz];exact zaS _ j
  .rw [zw e];exact YU (n:=n) st k j (by omega)
theorem Tld.start{n:Nat}(st:Nat->za):∀j,j<n->Tld (floIn n st).2 ((floIn n st).1 j):=
 Tld.hear (c:=(ticksTo n st,[])) (λj hj=>Tld.no (YU (n:=n) st n j hj)) n (zjA _)
def Dst(s s':za):Prop:=∀(k:Nat) (d:xC),s.dec[k]? =some d->∃d':xC,s'.dec[k]? =some d'/\d'.block=d.block/\d'.prop=d.prop/\d'.cert=d.cert/\(d.told=true->d'.told=true)
theorem Dst.refl(s:za):Dst s s:=λk d h=>⟨d,h,rfl,rfl,rfl,id⟩
theorem Dst.trans{a b c:za}(h:Dst a b)(h':Dst b c):Dst a c:=λk d hd=>by
 obtain⟨d1,h1,h2,h3,h4,h5⟩:=h k d hd;obtain⟨d2,g1,g2,g3,g4,g5⟩:=h' k d1 h1;exact⟨d2,g1,g2.trans h2,g3.trans h3,g4.trans h4,λx=>g5 (h5 x)⟩
theorem qq.dst{s s':za}(h:qq s s'):Dst s s':=λk d hd=>by
 obtain⟨l,h1,_⟩:=h;have hk:k<s.dec.length:=by
  rcases Nat.lt_or_ge k s.dec.length with h2|h2
  .exact h2
  .rw [List.getElem?_eq_none h2] at hd;cases hd
 exact⟨d,by rw[h1,zjN hk];exact hd,rfl,rfl,rfl,id⟩
theorem zdw(s:za)(k:Nat):Dst s (s.zf2 k):=by
 unfold za.zf2;split
 .exact Dst.refl s
 intro j d hd;show∃d',(s.dec.set k _)[j]? =some d'/\_;by_cases e:k=j
 .subst e;have hk:k<s.dec.length:=by
   rcases Nat.lt_or_ge k s.dec.length with h2|h2
   .exact h2
   rw[List.getElem?_eq_none h2] at hd;cases hd
  have e2:s.dec.getD k yr=d:=by rw[zjK,hd];rfl
  refine⟨_,List.getElem?_set_self hk,?_⟩;rw[e2];exact⟨rfl,rfl,rfl,λ_=>rfl⟩
 exact⟨d,by rw[List.getElem?_set_ne e];exact hd,rfl,rfl,rfl,id⟩
theorem VX(s:za)(n i:Nat)(fr:zj5):Dst s (s.zfM n i fr):=
 zG (C:=Dst s) (Dst.refl s) (λk _ _=>zdw s k) (λ_ _ _=>((kX (vm s _)).trans (ZK i 2200 _)).dst)
theorem VD{n T:Nat}{x0 p:Nat->Int}:Rel n x0 p T λ_=>Dst:=⟨λ_ s=>Dst.refl s,λ_ _ _ _ a b=>a.trans b,λj s fr _ _=>VX s n j fr,λ_ s g o=>(kX rfl).dst⟩
theorem Q5{s:za}{n i k:Nat}{fr:zj5}(hf:SgF n s.sg fr)(hh:(decV fr).h=(k:Int))(hk:k<s.zfF):∃d,(s.zfM n i fr).dec[k]? =some d/\d.told=true:=by
 unfold za.zfM;rw[zj2 ⟨hf.1,hf.2⟩];unfold za.zgv;rw[zj2 (by omega),hh];show∃d,(s.zf2 k).dec[k]? =some d/\d.told=true;have hd:s.dec[k]? =some (s.dec.getD k yr):=by rw[zjK,zjJ hk];rfl
 unfold za.zf2;split
 .rename_i h1;exact⟨_,hd,h1⟩
 exact⟨_,List.getElem?_set_self hk,rfl⟩
theorem Fk.told{n T:Nat}{x0 p:Nat->Int}{g0:Nat->List zj5}{c:xh}(h:Fk n x0 p T g0 c)(ho:∀j,j<n->(c.1 j).out=[]){fr:zj5}(hf:fr∈c.2){j k:Nat}(hj:j<n)(hh:(decV fr).h=(k:Int))(hk:k<(c.1 j).zfF):∃d,((hearK n (recvK n fr n c.1,c.2)).1 j).dec[k]? =some d/\d.told=true:=by
 have i1:=h.recvs ho fr j (by omega);have C1:=i1.z.c;have e0:=C1.sg j hj;have e1:(c.1 j).zfF<=(recvK n fr j c.1 j).zfF:=by
  have:=Rel.recvs (xp h.z.c.V) h.z.c fr 0 j (by omega) j;rw[zj8] at this;exact this.hle
 obtain⟨d,k1,k2⟩:∃d,(recvK n fr (j+1) c.1 j).dec[k]? =some d/\d.told=true:=by
  show∃d,(updS (recvK n fr j c.1) j ((recvK n fr j c.1 j).zfM n j fr) j).dec[k]? =some d/\_;rw[zz];exact Q5 (by have:=i1.sd fr hf;rw[<-e0] at this;exact this) hh (by omega)
 have k3:=Rel.recvs (VD (p:=p)) h.z.c fr (j+1) (n-(j+1)) (by omega) j;rw[show j+1+(n-(j+1))=n by omega] at k3;obtain⟨d1,a1,-,-,-,a5⟩:=k3 k d k1;obtain⟨d2,b1,-,-,-,b5⟩:=Rel.hear (VD (n:=n) (T:=T) (x0:=x0) (p:=p)) (c:=(recvK n fr n c.1,c.2)) n j k d1 a1;exact⟨d2,b1,b5 (a5 k2)⟩
end
section
variable{n T:Nat}{x0 p:Nat->Int}{st:Nat->za}{g0:Nat->List zj5}{c:xh}{said:List zj5}
theorem Kj(c:xh):∀k j,k<=j->((hearK k c).1 j).out=(c.1 j).out
 |0,_,_=>rfl
 |k+1,j,h=>by
  show(updS (hearK k c).1 k _ j).out=_;rw[zw (by omega)];exact Kj c k j (by omega)
theorem Ki(c:xh):∀k j,j<k->∀f∈(c.1 j).out,f∈(hearK k c).2
 |k+1,j,h,f,hf=>by
  show f∈(hearK k c).2++((hearK k c).1 k).out;by_cases e:j=k
  .subst e;rw[Kj c j j (zjA _)];exact List.mem_append_right _ hf
  .exact List.mem_append_left _ (Ki c k j (by omega) f hf)
theorem xu(n:Nat)(c:xh)(m:Nat):∀d,∃l,(flo n c (m+d)).2=(flo n c m).2++l
 |0=>⟨[],by simp⟩
 |d+1=>by
  obtain⟨l,h⟩:=xu n c m d;obtain⟨l2,h2⟩:=JR (recvK n ((flo n c (m+d)).2.getD (m+d) zj4) n (flo n c (m+d)).1,(flo n c (m+d)).2) n;exact⟨l++l2,by rw[<-List.append_assoc,<-h];exact h2⟩
theorem YV(C:Cty n x0 p T st):∀k,k<=n->∀j,j<n->(j<k->∃g g',SgLe (st j).sg g/\SgLe (({ st j with sg:=g }:za).zfW j).sg g'/\Nd n j x0 p 0 (T+k) { st j with sg:=g }/\kC { st j with sg:=g }/\ticksTo k st j={ ({ st j with sg:=g }:za).zfW j with sg:=g' })/\(k<=j->∃g,SgLe (st j).sg g/\ticksTo k st j={ st j with sg:=g })
 |0,_,j,hj=>⟨λh=>absurd h (Nat.not_lt_zero _),λ_=>⟨(st j).sg,SgLe.refl _,rfl⟩⟩
 |k+1,hk,j,hj=>by
  obtain⟨i1,i2⟩:=YV C k (by omega) j hj;have Ck:=C.ticks k (by omega);have e0:(ticksTo k st j).sg=(ticksTo k st k).sg:=(Ck.sg j hj).trans (Ck.sg k (by omega)).symm;have hu:=kT (ticksTo k st k) k;refine⟨λh=>?_,λh=>?_⟩
  .by_cases e:j=k
   .subst e;obtain⟨g,h1,h2⟩:=i2 (zjA _);have N:=(Ck.nd j hj).later (Nat.le_succ _);have Q:=Ck.q j hj;rw[h2] at N Q;refine⟨g,_,h1,SgLe.refl _,N,Q,?_⟩;show updS (ticksTo j st) j ((ticksTo j st j).zfW j) j=_;rw[zz,h2]
   .obtain ⟨g,g',h1,h2,h3,h4,h5⟩:=i1 (by omega)
    refine⟨g,((ticksTo k st k).zfW k).sg,h1,?_,h3.later (Nat.le_succ _),h4,?_⟩
    .have:g'=(ticksTo k st k).sg:=by rw[<-e0,h5]
     rw[this] at h2;exact h2.trans hu
    .show updS (ticksTo k st) k ((ticksTo k st k).zfW k) j=_;rw[zw e,h5]
  .obtain ⟨g,h1,h2⟩:=i2 (by omega)
   refine⟨((ticksTo k st k).zfW k).sg,?_,?_⟩
   .have:g=(ticksTo k st k).sg:=by rw[<-e0,h2]
    rw[this] at h1;exact h1.trans hu
   .show updS (ticksTo k st) k ((ticksTo k st k).zfW k) j=_;rw[zw (by omega),h2]
def Ends(n:Nat)(st:Nat->za)(M:Nat):Prop:=(flo n (floIn n st) M).2.length=M/\∀l,l<M->l<(flo n (floIn n st) l).2.length
theorem ZF{P:(Nat->za)->Prop}(hs:∀s j,j<n->Ctz n x0 p T s->P s->P (updS s j { s j with out:=[] }))(h:Fk n x0 p T g0 c)(hP:P c.1):∀k,k<=n->P (hearK k c).1
 |0,_=>hP
 |k+1,hk=>hs _ k (by omega) (h.hear k (by omega)).z (ZF hs h hP k (by omega))
theorem JM{P:(Nat->za)->Prop}(hr:∀s j fr,j<n->fr∈said->Ctz n x0 p T s->P s->P (updS s j ((s j).zfM n j fr)))(h:Fk n x0 p T g0 c)(ho:∀j,j<n->(c.1 j).out=[])(fr:zj5)(hf:fr∈said)(hP:P c.1):∀k,k<=n->P (recvK n fr k c.1)
 |0,_=>hP
 |k+1,hk=>hr _ k fr (by omega) hf (h.recvs ho fr k (by omega)).z (JM hr h ho fr hf hP k (by omega))
theorem VN{P:(Nat->za)->Prop}(hr:∀s j fr,j<n->fr∈said->Ctz n x0 p T s->P s->P (updS s j ((s j).zfM n j fr)))(hs:∀s j,j<n->Ctz n x0 p T s->P s->P (updS s j { s j with out:=[] }))(h:Fk n x0 p T g0 c)(ho:∀j,j<n->(c.1 j).out=[])(hP:P c.1):∀m,(∀l,l<m->(flo n c l).2.getD l zj4∈said)->P (flo n c m).1
 |0,_=>hP
 |m+1,hm=>by
  obtain⟨h1,h2⟩:=Fk.zg7 h ho m;exact ZF hs (h1.recvs h2 _ n (zjA _)) (JM hr h1 h2 _ (hm m (Nat.lt_succ_self _)) (VN hr hs h ho hP m λl hl=>hm l (by omega)) n (zjA _)) n (zjA _)
structure It (n:Nat) (x0 p:Nat->Int) (T:Nat) (st u st':Nat->za) (said:List zj5):Prop where
 c:Ctz n x0 p (T+n) st'
 o:∀j,j<n->(st' j).out=[]
 up:SgLe (st 0).sg (st' 0).sg
 new:∀q,q<n->∀fr∈(st' 0).sg q,fr∈(st 0).sg q\/fr∈said
 sd:∀fr∈said,SgF n (st' 0).sg fr
 tick:∀j,j<n->∃g g',SgLe (st j).sg g/\SgLe (({ st j with sg:=g }:za).zfW j).sg g'/\Nd n j x0 p 0 (T+n) { st j with sg:=g }/\kC { st j with sg:=g }/\u j={ ({ st j with sg:=g }:za).zfW j with sg:=g' }
 cu:Ctz n x0 p (T+n) u
 rel:∀R,Rel n x0 p (T+n) R->∀j,R j (u j) (st' j)
 kn:∀fr∈said,∀j,j<n->(decV fr).h<=((u j).zfF:Int)+1->Knows (st' j) fr
 told:∀fr∈said,∀j k:Nat,j<n->(decV fr).h=(k:Int)->k<(u j).zfF->∃d:xC,(st' j).dec[k]? =some d/\d.prop∈said/\∀f∈d.cert,f∈said
 own:∀j,j<n->((st j).time+1) % 5=0->∀e∈(u j).log,e.own=true->e.fr∈said
 inv:∀P:(Nat->za)->Prop,(∀s j fr,j<n->fr∈said->Ctz n x0 p (T+n) s->P s->P (updS s j ((s j).zfM n j fr)))->(∀s j,j<n->Ctz n x0 p (T+n) s->P s->P (updS s j { s j with out:=[] }))->P u->P st'
 tinv:∀P:Nat->(Nat->za)->Prop,(∀s k,k<n->Ctz n x0 p (T+k) s->P k s->P (k+1) (updS s k ((s k).zfW k)))->P 0 st->P n u
theorem iter{M:Nat}(C:Ctz n x0 p T st)(ho:∀j,j<n->(st j).out=[])(hM:Ends n st M):It n x0 p T st (ticksTo n st) (flo n (floIn n st) M).1 (flo n (floIn n st) M).2:=by
 obtain⟨F0,o0⟩:=Fk.start C ho;have FL:=Fk.zg7 F0 o0;have CM:∀m,Cty n x0 p (T+n) (flo n (floIn n st) m).1:=λm=>(FL m).1.z.c;have T0:=Tld.zg7 F0 o0 (Tld.start st);have hT:=YV C.c n (zjA _);have h0:Fk n x0 p T (st 0).sg (st,[]):=⟨C,λ_ _ _ hf=>zj0 hf,λ_ hf=>(by cases hf),SgLe.refl _⟩;have REL:∀R,Rel n x0 p (T+n) R->∀m d j,R j ((flo n (floIn n st) m).1 j) ((flo n (floIn n st) (m+d)).1 j):=λR hR m d j=>Rel.zg7 hR CM m j d;have REL0:∀R,Rel n x0 p (T+n) R->∀m j,R j (ticksTo n st j) ((flo n (floIn n st) m).1 j):=λR hR m j=>by
  have h1:=Rel.hear hR (c:=(ticksTo n st,[])) n j;have h2:=REL R hR 0 m j;rw[zj8] at h2;exact hR.trans j _ _ _ h1 h2
 have at_:∀fr∈(flo n (floIn n st) M).2,∃l,l<M/\fr∈(flo n (floIn n st) l).2/\(flo n (floIn n st) l).2.getD l zj4=fr:=λfr hf=>by
  obtain⟨l,hl,he⟩:=List.getElem_of_mem hf;have ad:l<M:=by rw[<-hM.1];exact hl
  have h1:=hM.2 l ad;obtain⟨r,hr⟩:=xu n (floIn n st) l (M-l);rw[show l+(M-l)=M by omega] at hr;have e:(flo n (floIn n st) l).2[l]=fr:=by
   rw[<-he];simp only[hr];rw[List.getElem_append_left h1]
  exact⟨l,ad,by rw[<-e];exact List.getElem_mem h1,by rw[zjK,zjJ h1,e];rfl⟩
 have in_:∀l,l<M->(flo n (floIn n st) l).2.getD l zj4∈(flo n (floIn n st) M).2:=λl hl=>by
  have h1:=hM.2 l hl;obtain⟨r,hr⟩:=xu n (floIn n st) l (M-l);rw[show l+(M-l)=M by omega] at hr;rw[zjK,zjJ h1,hr];exact List.mem_append_left _ (List.getElem_mem h1)
 refine⟨(FL M).1.z,(FL M).2,(FL M).1.up,λq hq fr hf=>?_,(FL M).1.sd,λj hj=>(hT j hj).1 hj,(h0.ticks ho n (zjA _)).z,λR hR j=>REL0 R hR M j,λfr hf j hj hh=>?_,λfr hf j k hj hh hk=>?_,λj hj h5 e he aa=>?_,λP hr hs hu=>VN hr hs F0 o0 (ZF hs (h0.ticks ho n (zjA _)) hu n (zjA _)) M in_,λP ht hP=>?_⟩
 .rcases (FL M).1.new q hq fr hf with h1|h1|h1
  .exact zj0 h1
  .exact zj1 h1
  rw[(FL M).2 q hq] at h1;cases h1
 .obtain ⟨l,hl,h1,h2⟩:=at_ fr hf
  have e1:=(REL0 _ (xp C.c.V) l j).hle;have k1:=Fk.got (FL l).1 (FL l).2 h1 hj (by omega);rw[<-h2] at k1;have k2:=REL _ (ZX C.c.V) (l+1) (M-(l+1)) j;rw[show l+1+(M-(l+1))=M by omega] at k2;rw[<-h2];exact k2 _ k1
 .obtain ⟨l,hl,h1,h2⟩:=at_ fr hf
  have e1:=(REL0 _ (xp C.c.V) l j).hle;obtain⟨d,d1,d2⟩:=Fk.told (FL l).1 (FL l).2 h1 hj hh (by omega);rw[<-h2] at d1;have k2:=REL _ (VD (p:=p)) (l+1) (M-(l+1)) j;rw[show l+1+(M-(l+1))=M by omega] at k2;obtain⟨d',a1,-,a3,a4,a5⟩:=k2 k d d1;have hm:=List.mem_of_getElem? a1;have said:∀f,f=d'.prop\/f∈d'.cert->f∈(flo n (floIn n st) M).2:=λf hf=>by
   rcases T0 M j hj d' hm (a5 d2) f hf with h3|h3
   .exact h3
   rw[(FL M).2 j hj] at h3;cases h3
  exact⟨d',a1,said _ (zj0 rfl),λf hf=>said f (zj1 hf)⟩
 .obtain ⟨g,g',h1,h2,h3,h4,ae⟩:=(hT j hj).1 hj
  rw[ae] at he;have h6:=(YE C.c.V hj h3 h4 (ho j hj)).2 h5 e he aa;have h7:e.fr∈(floIn n st).2:=Ki (ticksTo n st,[]) n j hj _ (by show e.fr∈(ticksTo n st j).out;rw[ae];exact h6);obtain⟨r,hr⟩:=xu n (floIn n st) 0 M;rw[zj8] at hr;rw[hr];exact List.mem_append_left _ h7
 have:∀k,k<=n->P k (ticksTo k st):=λk=>by
  induction k with
  |zero=>exact λ_=>hP
  |succ k ih=>exact λhk=>ht _ k (by omega) (h0.ticks ho k (by omega)).z (ih (by omega))
 exact this n (zjA _)
end
section
variable{p x0:Nat->Int}{s:za}{n i S T k:Nat}{d:xC}
def DPd(p:Nat->Int)(k:Nat)(d:xC):Prop:=
 ∃r:Nat,r<=20/\(decV d.prop).k=1/\(decV d.prop).h=(k:Int)/\(decV d.prop).r=(r:Int)/\(decV d.prop).s=d.block/\∃b:Nat->Bool,yg 2 p b=true/\∀q,q<8->b q=true->∃f∈d.cert,(decV f).k=3/\(decV f).h=(k:Int)/\(decV f).r=(r:Int)/\(decV f).nl=false/\(decV f).s=d.block/\(decV f).f=(q:Int)
def DP(p:Nat->Int)(s:za):Prop:=∀(k:Nat) (d:xC),s.dec[k]? =some d->DPd p k d
theorem DP.same{s':za}(h:DP p s)(hd:s'.dec=s.dec):DP p s':=λk d hk=>h k d (by rw[<-hd];exact hk)
theorem DP.keep{q:zl}(N:Nd n i x0 p S T s)(h:DP p s)(hq:s.zgr=some q):DP p (s.zfR i q):=by
 obtain⟨r,hr,h1⟩:=jt hq;obtain⟨h2,h3,h4,h5,h6⟩:=yO h1;have e:(s.zfR i q).dec=s.dec++[⟨q.m.s,q.fr,certTo (votesForB 3 q.m.r q.m.s) s.log 8,false⟩]:=by
  unfold za.zfR;rw[zu];split
  .rfl
  rw[yB];rfl
 intro k d hk;rw[e] at hk;rcases Nat.lt_or_ge k s.dec.length with ah|aj
 .rw [zjN ah] at hk;exact h k d hk
 rw[zjM aj] at hk;have ai:k-s.dec.length=0:=by
  rcases Nat.eq_zero_or_pos (k-s.dec.length) with h7|h7
  .exact h7
  rw[List.getElem?_eq_none (by rw[List.length_singleton];omega)] at hk;cases hk
 rw[ai] at hk;have hd:d=⟨q.m.s,q.fr,certTo (votesForB 3 q.m.r q.m.s) s.log 8,false⟩:=(zkd hk).symm;have ad:k=s.zfF:=by show k=s.dec.length;omega
 have E:=N.ni.log q h2;subst hd;refine⟨r,hr,?_,?_,?_,?_,sendB (votesForB 3 (r:Int) q.m.s) s.log,?_,λj hj hb=>?_⟩
 .show (decV q.fr).k=1;rw[E.m];exact h3
 .show (decV q.fr).h=(k:Int);rw[E.m,E.h,ad]
 .show (decV q.fr).r=(r:Int);rw[E.m];exact h4
 .show (decV q.fr).s=q.m.s;rw[E.m]
 .rw [<-kN N.lv.c.pw];exact h5
 unfold sendB at hb;obtain⟨x,hx,ag⟩:=List.any_eq_true.1 hb;obtain⟨aa,af⟩:=Bool.and_eq_true_iff.1 ag;have ae:=zjP af;have Ex:=N.ni.log x hx;have hv:=aa;unfold votesForB at hv;simp only[Bool.and_eq_true,decide_eq_true_eq,Bool.not_eq_true'] at hv;obtain⟨⟨⟨v1,v2⟩,v3⟩,v4⟩:=hv;refine⟨x.fr,ka.2 ⟨x,hx,by rw[h4];exact aa,rfl,by omega,by omega⟩,?_⟩;rw[Ex.m];exact⟨v1,by rw[Ex.h,ad],v2,v3,v4,ae⟩
theorem DP.one(N:Nd n i x0 p S T s)(h:DP p s)(ht:(s.zfT (za.zfY i) i).1=true):DP p (s.zfT (za.zfY i) i).2:=by
 refine zE (C:=DP p) ht (λq hq=>h.keep N hq) (λ_ r _ _ _=>h.same (yB s i r)) (λ_ _ _ q _ _ _ _=>?_) (λ_ _ _ _ q _ _ _ _ _=>?_) (λ_ _ _ _=>h.same (yF s i 3 0 true _)) (λ_ _ _ _ _=>h.same rfl) (λ_ _ _ _=>h.same rfl)
 .split
  .exact h.same (yF s i 2 0 false _)
  exact h.same (yF s i 2 0 true _)
 split
 .exact h.same (yF (s.zfZ q.m.s).zf3 i 3 0 false _)
 exact h.same rfl
theorem DP.go(V:ys n p)(hi:i<n):∀(f:Nat) (s:za),Nd n i x0 p S T s->DP p s->DP p (za.zgn i f s)
 |0,_,_,h=>h
 |f+1,s,N,h=>by
  rw[za.zgn];split
  .rename_i h1;exact DP.go V hi f _ (N.one V hi h1) (h.one N h1)
  .exact h
theorem DP.exp(h:DP p s)(i:Nat)(u:zU):DP p (s.zga i u):=
 ye (C:=DP p) (λ_ _ _ _=>h.same (yF s i 2 0 true _)) (λ_ _ _ _=>h.same (yF s i 3 0 true _)) (λ_ _ _ _=>h.same (yB s i _)) (λ_=>h)
theorem DP.due(V:ys n p)(hi:i<n):∀(f:Nat) (s:za),Nd n i x0 p S T s->DP p s->DP p (za.zf0 i f s)
 |0,_,_,h=>h
 |f+1,s,N,h=>by
  rw[za.zf0];split
  .exact h
  .rename_i t l hl;split
   .rename_i hd;have N1:=N.zgq V hi hl hd;exact DP.due V hi f _ (N1.zgN V hi) (DP.go V hi 2200 _ N1 ((show DP p s.zfQ from h.same rfl).exp i t))
   .exact h
theorem DPd.told(h:DPd p k d)(b:Bool):DPd p k { d with told:=b }:=h
theorem DP.tick(V:ys n p)(hi:i<n)(N:Nd n i x0 p S T s)(h:DP p s):DP p (s.zfW i):=by
 have h0:DP p s.zfN:=λk d hk=>by
  have aa:(s.dec.map λd=>{ d with told:=false })[k]? =some d:=hk;rw[List.getElem?_map] at aa;cases hs:s.dec[k]? with
  |none=>rw[hs] at aa;cases aa
  |some d0=>
   rw[hs] at aa;have e:d={ d0 with told:=false }:=(zkd aa).symm;rw[e];exact(h k d0 hs).told false
 have h1:=DP.due V hi (s.tims.length+1) s.zfN N.zfN h0;unfold za.zfW za.again;split
 .exact h1.same rfl
 exact h1
theorem DP.zfX(V:ys n p)(hi:i<n)(N:Nd n i x0 p S T s)(h:DP p s)(fr:zj5):DP p (s.zfM n i fr):=by
 refine zG (C:=DP p) h (λk hk _=>?_) (λa b c=>DP.go V hi 2200 _ (N.take a b c) (h.same (vm s _)));intro j d hd;unfold za.zf2 at hd;split at hd
 .exact h j d hd
 have aa:(s.dec.set k { s.dec.getD k yr with told:=true })[j]? =some d:=hd;by_cases e:k=j
 .subst e;rw[List.getElem?_set_self hk] at aa;have e2:d={ s.dec.getD k yr with told:=true }:=(zkd aa).symm;rw[e2];exact(h k (s.dec.getD k yr) (by rw[zjK,zjJ hk];rfl)).told true
 rw[List.getElem?_set_ne e] at aa;exact h j d aa
theorem DP.sub(h:DP p s)(t:zj5):DP p (s.zgd t):=by
 refine h.same ?_;unfold za.zgd;split<;>rfl
theorem zeX(V:ys n p):Rel n x0 p T λ_ s s'=>DP p s->DP p s':=⟨λ_ s h=>h,λ_ _ _ _ a b h=>b (a h),λj s fr hj N h=>h.zfX V hj N fr,λ_ s g o h=>h.same rfl⟩
theorem zd0(N:Nd n i x0 p S T s)(hd:Dom s.x)(h:DPd p k d)(hk:k=s.zfF)(hg:s.zgc d.block=true)(hp:∃e∈s.log,e.fr=d.prop)(hc:∀f∈d.cert,(decV f).h=(k:Int)->∃e∈s.log,e.fr=f):s.zgr≠none:=by
 obtain⟨r,hr,h1,h2,h3,h4,b,h5,h6⟩:=h;obtain⟨e,he,ae⟩:=hp;have E:=N.ni.log e he;have hm:decV d.prop=e.m:=by rw[<-ae];exact E.m
 have most:s.most (votesForB 3 (r:Int) d.block)=true:=by
  unfold za.most;rw[kN N.lv.c.pw];unfold yg at h5 ⊢;have h7:=zjP h5;have h8:powB p b 8<=powB p (sendB (votesForB 3 (r:Int) d.block) s.log) 8:=by
   rw[<-yW 8 (zjA _) N.lv.c.pw,<-yW 8 (zjA _) N.lv.c.pw];refine js (λi=>(hd i).1) 8 λq hq hb=>?_;obtain⟨f,hf,v1,v2,v3,v4,v5,v6⟩:=h6 q hq hb;obtain⟨x,hx,ad⟩:=hc f hf v2;have Ex:=N.ni.log x hx;have aa:decV f=x.m:=by rw[<-ad];exact Ex.m
   rw[aa] at v1 v2 v3 v4 v5 v6;unfold sendB;refine List.any_eq_true.2 ⟨x,hx,?_⟩;unfold votesForB;simp[v1,v3,v4,v5,v6]
  exact zjQ (by omega)
 have af:s.zgk r≠none:=λhn=>by
  rw[hm] at h1 h3 h4;have:=xN hn e he h1 h3;rw[h4,most,hg] at this;cases this
 intro hn;unfold za.zgr at hn;exact af (List.findSome?_eq_none_iff.1 hn r (List.mem_range.2 (by omega)))
theorem It.up1{L b j:Nat}{st u st':Nat->za}{said:List zj5}(I:It n x0 p T st u st' said)(D:∀j,j<n->DP p (st' j)){fr:zj5}(hf:fr∈said)(hh:(decV fr).h=(L:Int))(hb:b<n)(hL:L<(u b).zfF)(hj:j<n)(hu:L<=(u j).zfF+1):L≠(st' j).zfF:=by
 intro e;obtain⟨d,d1,d2,d3⟩:=I.told fr hf b L hb hh hL;have P:=D b hb L d d1;have C:=I.c.c;have N:=C.nd j hj;have hLb:L<(st' b).zfF:=by
  rcases Nat.lt_or_ge L (st' b).dec.length with h2|h2
  .exact h2
  rw[List.getElem?_eq_none h2] at d1;cases d1
 have known:∀f∈said,(decV f).h=(L:Int)->∃x∈(st' j).log,x.fr=f:=λf hf aa=>by
  have k:=I.kn f hf j hj (by omega);unfold Knows at k;rw[aa] at k;rcases k with k|k|k
  .omega
  .exact k.2
  omega
 have ad:(st' b).blocks[L]? =some d.block:=by
  unfold za.blocks;rw[List.getElem?_map,d1];rfl
 have hg:(st' j).zgc d.block=true:=by
  unfold za.zgc;rw[C.reg hj hb (by omega),<-e];exact((C.nd b hb).ni.dec L d.block ad).1
 have hx:Dom (st' j).x:=N.y.1.dom;obtain⟨r,-,-,p2,-,-,bb,-,-⟩:=id P;exact zd0 N hx P e hg (known _ d2 p2) (λf hf aa=>known f (d3 f hf) aa) (C.q j hj).q1
end
section
variable{B rb n T j cc:Nat}{es:List Addr}{m:Int}{hon:Nat->Bool}{Fs:Nat->Nat->Prop}{R:Nat->Prop}{nbs ks cbs:Nat->Nat}{st:Nat->za}{sg:Nat->List zj5}{w w':World}{x0:Nat->Int}{Q:Nat->Option Obj}{gv kv nv sv:Value}{said:List zj5}
structure Gx (B:Nat) (es:List Addr) (m:Int) (hon:Nat->Bool) (Fs:Nat->Nat->Prop) (R:Nat->Prop) (nbs ks cbs:Nat->Nat) (rb n T:Nat) (st:Nat->za) (sg:Nat->List zj5) (w:World):Prop where
 node:∀j,j<n->hon j=true->NodeW B es m (Fs j) R (nbs j) (ks j) rb (cbs j) n j (st j) w
 ok:∀j,j<n->hon j=true->NOk 0 T j 0 (st j)
 sgs:∀j,j<n->hon j=true->(st j).sg=sg
 apart:∀j k b,j<n->k<n->hon j=true->hon k=true->j≠k->Fs j b->¬Fs k b
 keys:∀j k,j<n->hon j=true->k<n->¬Fs j (ks k)
 ring:vh R rb n sg w
 key:∀k,k<n->qh w (ks k) rb k
 kr:∀k,k<n->¬R (ks k)
 rl:∀b,R b->B<=b/\b<w.heap.size
 glob:kH B es m w
 globR:v8 B es w
 bl:B<=w.heap.size
def zcr(B:Nat)(hon:Nat->Bool)(Fs:Nat->Nat->Prop)(R:Nat->Prop)(ks:Nat->Nat)(n:Nat)(w:World)(b:Nat):Prop:=B<=b/\b<w.heap.size/\(∀j,j<n->hon j=true->¬Fs j b)/\¬R b/\∀k,k<n->ks k≠b
theorem Gx.other{D:Nat->Prop}(h:Gx B es m hon Fs R nbs ks cbs rb n T st sg w)(hs:zk D w w')(hD:∀b,D b->zcr B hon Fs R ks n w b):
 Gx B es m hon Fs R nbs ks cbs rb n T st sg w':=by
 have ae:∀b,b<B->w'.heap[b]? =w.heap[b]? :=λb hb=>hs.block b (zjE hb h.bl) (λe=>by have:=(hD b e).1;omega);have ad:vh R rb n sg w':=h.ring.frame (λb hb=>hs.block b (h.rl b hb).2 (λe=>(hD b e).2.2.2.1 hb));have ag:∀b,R b->B<=b/\b<w'.heap.size:=λb hb=>⟨(h.rl b hb).1,zjE (h.rl b hb).2 hs.size⟩;refine⟨λk hk af=>?_,h.ok,h.sgs,h.apart,h.keys,ad,λk hk=>(h.key k hk).keep (hs.block _ (h.key k hk).lt (λe=>(hD _ e).2.2.2.2 k hk rfl)),h.kr,ag,h.glob.same ae,h.globR.same ae,zjF h.bl hs.size⟩;have aa:=h.node k hk af;exact⟨aa.node.frame (λb hb=>hs.block b (aa.fl b hb).2 (λe=>(hD b e).2.2.1 k hk af hb)),by rw[h.sgs k hk af];exact ad,aa.key.keep (hs.block _ aa.key.lt (λe=>(hD _ e).2.2.2.2 k hk rfl)),aa.idn,aa.fr,aa.kf,aa.kr,λb hb=>⟨(aa.fl b hb).1,zjE (aa.fl b hb).2 hs.size⟩,ag,aa.glob.same ae,zjF aa.bl hs.size⟩
theorem zcr.keep{b:Nat}(h:zcr B hon Fs R ks n w b)(hs:w.heap.size<=w'.heap.size):zcr B hon Fs R ks n w' b:=⟨h.1,zjE h.2.1 hs,h.2.2⟩
def ptL(hon:Nat->Bool)(nbs:Nat->Nat)(j:Nat):Value:=if hon j=true then .pointer (some ⟨nbs j,0,none⟩) else .pointer none
def JC(hon:Nat->Bool)(nbs:Nat->Nat)(n:Nat):List Value:=(List.range n).map (ptL hon nbs)
theorem Z2(h:hon j=true):ptL hon nbs j=.pointer (some ⟨nbs j,0,none⟩):=by unfold ptL;rw[zj2 h]
theorem zeY(h:hon j=false):ptL hon nbs j=.pointer none:=by unfold ptL;rw[zj3 (by rw[h];decide)]
structure Zp (B:Nat) (es:List Addr) (m:Int) (hon:Nat->Bool) (x0:Nat->Int) (Q:Nat->Option Obj) (Fs:Nat->Nat->Prop) (R:Nat->Prop) (nbs ks cbs:Nat->Nat) (rb n T cc:Nat) (gv kv nv sv:Value) (st:Nat->za) (sg:Nat->List zj5) (said:List zj5) (w:World):Prop where
 city:Gx B es m hon Fs R nbs ks cbs rb n T st sg w
 ci:CI n hon x0 ⟨st,sg,said⟩
 lies:∀q,q<n->hon q=false->(sg q).length<=said.length
 npos:0<n
 blk:w.heap[cc]? =some (.cells #[gv,.pointer (some ⟨rb,0,none⟩),kv,nv,sv] 84 (0,0))
 keyr:w.ownsRow 0 45 1 kv n (VM ks n)
 nodes:w.ownsRow 0 26 1 nv n (JC hon nbs n)
 said:w.ownsRow 0 9 1 sv said.length (said.map .string)
 occ:zcr B hon Fs R ks n w cc
 okv:∀g,kv.ownBlock=some g->zcr B hon Fs R ks n w g
 onv:∀g,nv.ownBlock=some g->zcr B hon Fs R ks n w g
 osv:∀g,sv.ownBlock=some g->zcr B hon Fs R ks n w g
 guest:∀b o,Q b=some o->zcr B hon Fs R ks n w b/\w.heap[b]? =some o/\b≠cc/\sv.ownBlock≠some b
theorem Zp.below(h:Zp B es m hon x0 Q Fs R nbs ks cbs rb n T cc gv kv nv sv st sg said w)(hb:Below w.heap.size w w'):Zp B es m hon x0 Q Fs R nbs ks cbs rb n T cc gv kv nv sv st sg said w':=by
 have hs:zk (λ_=>False) w w':=⟨hb.os,hb.tape,hb.output,hb.size,λk hk _=>hb.block k hk⟩;exact⟨h.city.other hs (λ_ e=>e.elim),h.ci,h.lies,h.npos,(hb.block cc h.occ.2.1).trans h.blk,zb h.keyr λg _ hg=>hb.block g hg,zb h.nodes λg _ hg=>hb.block g hg,zb h.said λg _ hg=>hb.block g hg,h.occ.keep hb.size,λg hg=>(h.okv g hg).keep hb.size,λg hg=>(h.onv g hg).keep hb.size,λg hg=>(h.osv g hg).keep hb.size,λb o e=>⟨(h.guest b o e).1.keep hb.size,(hb.block b (h.guest b o e).1.2.1).trans (h.guest b o e).2.1,(h.guest b o e).2.2⟩⟩
theorem Zp.nodeAt(h:Zp B es m hon x0 Q Fs R nbs ks cbs rb n T cc gv kv nv sv st sg said w):∃g cap,nv=.slice (some ⟨g,0,none⟩) n cap/\n<=maxLen/\g≠cc/\∀j,j<n->w.cell? ⟨g,j,none⟩=some (ptL hon nbs j):=by
 have hp:=h.npos;rcases h.nodes.2 with⟨_,h1⟩|⟨g,cap,cur,h1,hb,hg,hnc,hcm,hcs,ht⟩
 .omega
 refine⟨g,cap,h1,by omega,λe=>yI h.nodes h.blk (by decide) (by rw[h1,e];rfl),λj hj=>?_⟩;rw[zjD w g j _ _ _ hg];have e1:(cur.toList.take (n*1))[j]? =(JC hon nbs n)[j]? :=by rw[ht]
 rw[zkc,zj2 (by omega)] at e1;rw[<-zkf,e1];simp[JC,hj]

import Derived.Test.YtcfjhbcpjpgodaaGreatDoorJ23
namespace Go.Proofs.YtcfjhbcpjpgodaaGreatDoor
open Go.RowKit
set_option maxRecDepth 100000
set_option maxHeartbeats 0
set_option linter.all false
section
variable{l:List yf}
theorem qi(a b:yf):zD a b=true↔a.due<b.due\/(a.due=b.due/\a.beg<b.beg):=by
 unfold zD;split
 .rw [decide_eq_true_eq];omega
 rw[decide_eq_true_eq];omega
theorem yj(a b:yf):zD a b=false↔b.due<a.due\/(a.due=b.due/\b.beg<=a.beg):=by
 unfold zD;split
 .rw [decide_eq_false_iff_not];omega
 rw[decide_eq_false_iff_not];omega
def parT(j:Nat):Nat:=(j-1) / 2
def tg(l:List yf)(k:Nat):yf:=l.getD k kt
def qI(l:List yf):Prop:=∀j,0<j->j<l.length->zD (tg l j) (tg l (parT j))=false
theorem jC{i j:Nat}(hi:i<l.length)(hj:j<l.length)(k:Nat):tg (swapT l i j) k=if k=j then tg l i else if k=i then tg l j else tg l k:=by
 unfold tg swapT;simp only[List.getD_eq_getElem?_getD,List.getElem?_set,List.length_set];by_cases h1:k=j
 .subst h1;simp[hj]
 rw[zgU (λe=>h1 e.symm),zgU h1];by_cases h2:k=i
 .subst h2;simp[hi]
 rw[zgU (λe=>h2 e.symm),zgU h2]
theorem JJ:∀(f:Nat) (l:List yf) (i:Nat),i<=f->i<l.length->(∀j,j≠i->0<j->j<l.length->zD (tg l j) (tg l (parT j))=false)->(∀j,parT j=i->0<j->j<l.length->0<i->zD (tg l j) (tg l (parT i))=false)->qI (upT f l i)
 |0,l,i,hf,hi,h1,h2=>λj hj hl=>h1 j (by omega) hj hl
 |f+1,l,i,hf,hi,h1,h2=>by
  rw[upT];split
  .rename_i e;exact λj hj hl=>h1 j (by omega) hj hl
  .rename_i e;split
   .rename_i hb;have hp:(i-1) / 2<l.length:=by omega
    have ab:(i-1) / 2<i:=by omega
    have hb':=(qi _ _).1 (show zD (tg l i) (tg l (parT i))=true from hb);have ad:(i-1) / 2=parT i:=rfl;refine JJ f _ _ (by omega) (by rw[zW];exact hp) (λj hj h0 hl=>?_) λj hj h0 hl ae=>?_
    .rw [zW] at hl;rw[jC hi hp,jC hi hp,ad];rw[ad] at hj;rw[zgU hj];have hu:parT i<i:=ab;by_cases ji:j=i
     .subst ji;rw[zgT rfl,zgT rfl,yj];omega
     .rw [zgU ji];have aa:=h1 j ji h0 hl;by_cases q1:parT j=parT i
      .rw [zgT q1];rw[q1] at aa;rw[yj] at aa ⊢;omega
      .rw [zgU q1];by_cases q2:parT j=i
       .rw [zgT q2];exact h2 j q2 h0 hl (by omega)
       .rw [zgU q2];exact aa
    .rw [zW] at hl;rw[jC hi hp,jC hi hp,ad];rw[ad] at hj ae;have hgp:parT (parT i)<parT i:=by unfold parT at ae ⊢;omega
     rw[zgU (show¬parT (parT i)=parT i by omega),zgU (show¬parT (parT i)=i by have:parT i<i:=ab;omega)];have hg:=h1 (parT i) (by have:parT i<i:=ab;omega) ae (by have:parT i<i:=ab;omega);have af:¬j=parT i:=λe=>by rw[e] at hj;omega
     rw[zgU af];by_cases ji:j=i
     .rw [zgT ji];exact hg
     .rw [zgU ji];have aa:=h1 j ji h0 hl;rw[hj] at aa;rw[yj] at aa hg ⊢;omega
   .rename_i hb;intro j h0 hl;by_cases ji:j=i
    .subst ji;have:zD (tg l j) (tg l (parT j))≠true:=hb;simpa using this
    .exact h1 j ji h0 hl
theorem za4(l:List yf)(i:Nat):
 (yN l i=i/\(∀j,parT j=i->0<j->j<l.length->zD (tg l j) (tg l i)=false))\/
 (parT (yN l i)=i/\i<yN l i/\yN l i<l.length/\zD (tg l (yN l i)) (tg l i)=true/\∀j,parT j=i->0<j->j<l.length->zD (tg l j) (tg l (yN l i))=false):=by
 have hj:∀j,parT j=i->0<j->j=2*i+1\/j=2*i+2:=λj h h0=>by unfold parT at h;omega
 have u:yN l i=(if 2*i+2<l.length/\zD (tg l (2*i+2)) (tg l (if 2*i+1<l.length/\zD (tg l (2*i+1)) (tg l i)=true then 2*i+1 else i))=true then 2*i+2 else(if 2*i+1<l.length/\zD (tg l (2*i+1)) (tg l i)=true then 2*i+1 else i)):=rfl;rw[u];by_cases c1:2*i+1<l.length/\zD (tg l (2*i+1)) (tg l i)=true
 .rw [zgT c1];by_cases c2:2*i+2<l.length/\zD (tg l (2*i+2)) (tg l (2*i+1))=true
  .rw [zgT c2];have a1:=(qi _ _).1 c1.2;have a2:=(qi _ _).1 c2.2;refine zgS ⟨by unfold parT;omega,by omega,c2.1,(qi _ _).2 (by omega),λj h h0 hl=>?_⟩;rcases hj j h h0 with rfl|rfl
   .rw [yj];omega
   rw[yj];omega
  rw[zgU c2];refine zgS ⟨by unfold parT;omega,by omega,c1.1,c1.2,λj h h0 hl=>?_⟩;rcases hj j h h0 with rfl|rfl
  .rw [yj];omega
  cases hb:zD (tg l (2*i+2)) (tg l (2*i+1)) with
  |true=>exact absurd ⟨hl,hb⟩ c2
  |false=>rfl
 rw[zgU c1];by_cases c2:2*i+2<l.length/\zD (tg l (2*i+2)) (tg l i)=true
 .rw [zgT c2];refine zgS ⟨by unfold parT;omega,by omega,c2.1,c2.2,λj h h0 hl=>?_⟩;have a2:=(qi _ _).1 c2.2;rcases hj j h h0 with rfl|rfl
  .have hb:zD (tg l (2*i+1)) (tg l i)=false:=by
    cases hb:zD (tg l (2*i+1)) (tg l i) with
    |true=>exact absurd ⟨hl,hb⟩ c1
    |false=>rfl
   rw[yj] at hb ⊢;omega
  rw[yj];omega
 rw[zgU c2];refine zgR ⟨rfl,λj h h0 hl=>?_⟩;rcases hj j h h0 with rfl|rfl
 .cases hb:zD (tg l (2*i+1)) (tg l i) with
  |true=>exact absurd ⟨hl,hb⟩ c1
  |false=>rfl
 cases hb:zD (tg l (2*i+2)) (tg l i) with
 |true=>exact absurd ⟨hl,hb⟩ c2
 |false=>rfl
theorem YJ:∀(f:Nat) (l:List yf) (i:Nat),l.length<=f+i->(∀j,parT j≠i->0<j->j<l.length->zD (tg l j) (tg l (parT j))=false)->(∀j,parT j=i->0<j->j<l.length->0<i->zD (tg l j) (tg l (parT i))=false)->qI (qA f l i)
 |0,l,i,hf,h1,h2=>λj h0 hl=>by
  have hl':j<l.length:=hl;exact h1 j (by unfold parT;omega) h0 hl'
 |f+1,l,i,hf,h1,h2=>by
  rcases Nat.lt_or_ge i l.length with hi|hi
  .rw [qA];rcases za4 l i with⟨e,hc⟩|⟨e,hlt,hle,hb,hc⟩
   .rw [zgT e];intro j h0 hl;by_cases q:parT j=i
    .rw [q];exact hc j q h0 hl
    .exact h1 j q h0 hl
   .rw [zgU (by omega)];generalize hcd:yN l i=c at e hlt hle hb hc ⊢;have hb':=(qi _ _).1 hb;refine YJ f _ c (by rw[zW];omega) (λj hj h0 hl=>?_) λj hj h0 hl hc0=>?_
    .rw [zW] at hl;rw[jC hi hle,jC hi hle,zgU hj];have hpj:parT j<j:=by unfold parT;omega
     by_cases q1:j=c
     .subst q1;rw[zgT rfl,zgT e,yj];omega
     .rw [zgU q1];by_cases q2:j=i
      .subst q2;rw[zgT rfl,zgU (by omega)];exact h2 c e (by omega) hle h0
      .rw [zgU q2];by_cases q3:parT j=i
       .rw [zgT q3];exact hc j q3 h0 hl
       .rw [zgU q3];exact h1 j q3 h0 hl
    .rw [zW] at hl;have hpj:parT j<j:=by unfold parT;omega
     rw[jC hi hle,jC hi hle,e,zgU (show¬j=c by omega),zgU (show¬j=i by omega),zgU (show¬i=c by omega),zgT rfl];have:=h1 j (by omega) h0 hl;rw[hj] at this;exact this
  .have hn:yN l i=i:=xU 2 _ (by omega);rw[qA,zgT hn];exact λj h0 hl=>h1 j (by unfold parT;omega) h0 hl
theorem qI.root(h:qI l):∀(j:Nat),j<l.length->zD (tg l j) (tg l 0)=false:=by
 intro j;induction j using Nat.strongRecOn with
 |ind j ih=>
  intro hl;by_cases h0:j=0
  .subst h0;rw[yj];omega
  have h1:=h j (by omega) hl;have h2:=ih (parT j) (by unfold parT;omega) (by unfold parT;omega);rw[yj] at h1 h2 ⊢;omega
theorem qI.nil:qI []:=λj _ hl=>absurd hl (Nat.not_lt_zero j)
theorem qI.more(h:qI l)(t:yf):qI (upT l.length (l++[t]) l.length):=by
 have hg:∀k,k<l.length->tg (l++[t]) k=tg l k:=λk hk=>by
  unfold tg;rw[zgz,zgz,zgD hk]
 refine JJ _ _ _ (zgp _) (by simp) (λj hj h0 hl=>?_) λj hj h0 hl hp=>?_
 .rw [zgE,List.length_singleton] at hl;have hp:parT j<l.length:=by unfold parT;omega
  rw[hg j (by omega),hg _ hp];exact h j h0 (by omega)
 rw[zgE,List.length_singleton] at hl;unfold parT at hj;omega
theorem qI.rest(h:qI l):qI (xo l):=by
 unfold xo;have aa:((l.set 0 (l.getD (l.length-1) kt)).take (l.length-1)).length=l.length-1:=by simp
 refine YJ _ _ _ (by rw[aa];omega) (λj hj h0 hl=>?_) (λ_ _ _ _ h0=>absurd h0 (by omega));rw[aa] at hl;have hg:∀k,0<k->k<l.length-1->tg ((l.set 0 (l.getD (l.length-1) kt)).take (l.length-1)) k=tg l k:=λk h0 hk=>by
  unfold tg;simp only[List.getD_eq_getElem?_getD];rw[zg5,zgT hk,List.getElem?_set,zgU (by omega)]
 have hp:0<parT j:=by omega
 have ab:parT j<l.length-1:=by unfold parT;omega
 rw[hg j h0 hl,hg _ hp ab];exact h j h0 (by omega)
end
section
structure ky where
 t:TypeId
 z:Nat
 v:Value
 n:Nat
 xs:List Value
structure RawW (B:Nat) (F R:Nat->Prop) (nb kb rb n i:Nat) (C:Array Value) (rs:List ky) (sg:Nat->List zgW) (w:World):Prop where
 blk:w.heap[nb]? =some (.cells C 68 (0,0))
 own:∀(j:Nat) (r:ky),rs[j]? =some r->w.ownsRow 0 r.t r.z r.v r.n r.xs
 ty:∀(j:Nat) (r:ky),rs[j]? =some r->68≠r.t
 apart:∀(j k:Nat) (a b:ky) (g:Nat),rs[j]? =some a->rs[k]? =some b->j≠k->a.v.ownBlock=some g->b.v.ownBlock≠some g
 fn:F nb
 ff:∀(j:Nat) (r:ky) (g:Nat),rs[j]? =some r->r.v.ownBlock=some g->F g
 ring:RingI R rb n sg w
 key:kq w kb rb i
 idn:i<n
 fr:∀k,F k->¬R k
 kf:¬F kb
 kr:¬R kb
 fl:∀k,F k->B<=k/\k<w.heap.size
 rl:∀k,R k->B<=k/\k<w.heap.size
 bl:B<=w.heap.size
section
variable{B:Nat}{F R:Nat->Prop}{nb kb rb n i:Nat}{C:Array Value}{rs:List ky}{sg:Nat->List zgW}{w w':World}
theorem RawW.zgo(h:RawW B F R nb kb rb n i C rs sg w){j:Nat}{r:ky}(hr:rs[j]? =some r):r.v.ownBlock≠some nb:=jL (h.own j r hr) h.blk (h.ty j r hr)
theorem RawW.below(h:RawW B F R nb kb rb n i C rs sg w)(hb:BW w w'):RawW B F R nb kb rb n i C rs sg w' where
 blk:=(hb.block nb (zj h.blk)).trans h.blk
 own:=λj r hr=>zb (h.own j r hr) λg _ hg=>hb.block g hg
 ty:=h.ty
 apart:=h.apart
 fn:=h.fn
 ff:=h.ff
 ring:=h.ring.frame λk hk=>hb.block k (h.rl k hk).2
 key:=h.key.keep (hb.block kb h.key.lt)
 idn:=h.idn
 fr:=h.fr
 kf:=h.kf
 kr:=h.kr
 fl:=λk hk=>⟨(h.fl k hk).1,zgt (h.fl k hk).2 hb.size⟩
 rl:=λk hk=>⟨(h.rl k hk).1,zgt (h.rl k hk).2 hb.size⟩
 bl:=zgu h.bl hb.size
theorem RawW.cell(h:RawW B F R nb kb rb n i C rs sg w)(o:Nat){v:Value}(ho:C[o]? =some v):w.cell? (aA nb o)=some v:=(zgs w nb o _ _ _ h.blk).trans ho
theorem RawW.frozen(h:RawW B F R nb kb rb n i C rs sg w)(o:Nat):w.frozen? (aA nb o)=false:=zq h.blk o
theorem RawW.lt(h:RawW B F R nb kb rb n i C rs sg w):nb<w.heap.size:=zj h.blk
theorem RawW.store{C':Array Value}(h:RawW B F R nb kb rb n i C rs sg w)(hb:w'.heap[nb]? =some (.cells C' 68 (0,0)))(ho:ko nb w w'):RawW B F R nb kb rb n i C' rs sg w'/\Goes F R w F R w':=by
 have hs:zm F w w':=Zt ho h.fn;refine⟨{ h with blk:=hb,own:=λj r hr=>zb (h.own j r hr) λg e _=>ho.block g (λx=>h.zgo hr (x▸e)),ring:=h.ring.frame λk hk=>hs.block k (h.rl k hk).2 (λhf=>h.fr k hf hk),key:=h.key.keep (hs.block kb h.key.lt h.kf),fl:=?_,rl:=?_,bl:=?_ },⟨λ_ h=>zgR h,λ_ h=>zgR h,{ hs with block:=λk hk hn=>hs.block k hk (λhf=>hn (zgR hf)) }⟩⟩
 .rw [ho.size];exact h.fl
 .rw [ho.size];exact h.rl
 rw[ho.size];exact h.bl
theorem RawW.set(h:RawW B F R nb kb rb n i C rs sg w)(o:Nat)(v:Value):RawW B F R nb kb rb n i (C.setIfInBounds o v) rs sg (w.setCell (aA nb o) v)/\Goes F R w F R (w.setCell (aA nb o) v):=
 h.store (setCell_row h.blk o v) (zd _ _ _ _)
theorem RawW.row{k:Nat}{r r':ky}(h:RawW B F R nb kb rb n i C rs sg w)(hk:rs[k]? =some r)(ht:r'.t=r.t)(ho:w'.ownsRow 0 r'.t r'.z r'.v r'.n r'.xs)(hat:∀g,r'.v.ownBlock=some g->r.v.ownBlock=some g\/w.heap.size<=g)(hs:zm (λg=>r.v.ownBlock=some g) w w'):
 ∃F',RawW B F' R nb kb rb n i C (rs.set k r') sg w'/\Goes F R w F' R w':=by
 have ad:zm F w w':={ hs with block:=λg hg hn=>hs.block g hg (λe=>hn (h.ff k r g hk e)) };have ag:k<rs.length:=(List.getElem?_eq_some_iff.1 hk).1;have aa:∀j q,(rs.set k r')[j]? =some q->(j=k/\q=r')\/(j≠k/\rs[j]? =some q):=λj q hq=>by
  rw[List.getElem?_set] at hq;by_cases e:k=j
  .subst e;rw[zgT rfl,zgT ag] at hq;exact zgR ⟨rfl,(zg6 hq).symm⟩
  rw[zgU e] at hq;exact zgS ⟨λx=>e x.symm,hq⟩
 have hF:∀g,F g\/r'.v.ownBlock=some g->F g\/w.heap.size<=g:=λg hg=>by
  rcases hg with hg|hg
  .exact zgR hg
  rcases hat g hg with h1|h1
  .exact zgR (h.ff k r g hk h1)
  exact zgS h1
 refine⟨λg=>F g\/r'.v.ownBlock=some g,⟨?_,?_,?_,?_,zgR h.fn,?_,h.ring.frame λg hg=>ad.block g (h.rl g hg).2 (λhf=>h.fr g hf hg),h.key.keep (ad.block kb h.key.lt h.kf),h.idn,?_,?_,h.kr,?_,λg hg=>⟨(h.rl g hg).1,zgt (h.rl g hg).2 hs.size⟩,zgu h.bl hs.size⟩,⟨hF,λ_ h=>zgR h,{ hs with block:=λg hg hn=>ad.block g hg (λhf=>hn (zgR hf)) }⟩⟩
 .exact (hs.block nb h.lt (h.zgo hk)).trans h.blk
 .intro j q hq;rcases aa j q hq with⟨rfl,rfl⟩|⟨hj,hq⟩
  .exact ho
  exact zb (h.own j q hq) λg e hg=>hs.block g hg (h.apart j k q r g hq hk hj e)
 .intro j q hq;rcases aa j q hq with⟨rfl,rfl⟩|⟨hj,hq⟩
  .rw [ht];exact h.ty _ _ hk
  exact h.ty j q hq
 .intro j l a b g ha hb ab hg;rcases aa j a ha with⟨rfl,rfl⟩|⟨hj,af⟩<;>rcases aa l b hb with⟨rfl,rfl⟩|⟨hl,ae⟩
  .exact absurd rfl ab
  .intro e;rcases hat g hg with h1|h1
   .exact h.apart _ l r b g hk ae ab h1 e
   have:=((h.own l b ae).lt g e).2;omega
  .intro e;rcases hat g e with h1|h1
   .exact h.apart j _ a r g af hk ab hg h1
   have:=((h.own j a af).lt g hg).2;omega
  exact h.apart j l a b g af ae ab hg
 .intro j q g hq hg;rcases aa j q hq with⟨rfl,rfl⟩|⟨hj,hq⟩
  .exact zgS hg
  exact zgR (h.ff j q g hq hg)
 .intro g hg hR;rcases hF g hg with h1|h1
  .exact h.fr g h1 hR
  have:=(h.rl g hR).2;omega
 .intro hg;rcases hF kb hg with h1|h1
  .exact h.kf h1
  have:=h.key.lt;omega
 intro g hg;rcases hg with hg|hg
 .exact ⟨(h.fl g hg).1,zgt (h.fl g hg).2 hs.size⟩
 refine⟨?_,(ho.lt g hg).2⟩;rcases hat g hg with h1|h1
 .exact (h.fl g (h.ff k r g hk h1)).1
 exact zgu h.bl h1
theorem RawW.more{r':ky}(h:RawW B F R nb kb rb n i C rs sg w)(ht:68≠r'.t)(ho:w.ownsRow 0 r'.t r'.z r'.v r'.n r'.xs)(hn:∀g,r'.v.ownBlock=some g->B<=g/\¬F g/\¬R g/\g≠kb):
 RawW B (λg=>F g\/r'.v.ownBlock=some g) R nb kb rb n i C (rs++[r']) sg w:=by
 have aa:∀j q,(rs++[r'])[j]? =some q->(j=rs.length/\q=r')\/(j≠rs.length/\rs[j]? =some q):=λj q hq=>by
  rcases Nat.lt_or_ge j rs.length with hj|hj
  .rw [zgD hj] at hq;exact zgS ⟨by omega,hq⟩
  rw[zgC hj] at hq;have af:=(List.getElem?_eq_some_iff.1 hq).1;simp only[List.length_singleton] at af;have e:j=rs.length:=by omega
  subst e;rw[Nat.sub_self] at hq;exact zgR ⟨rfl,(zg6 hq).symm⟩
 refine⟨h.blk,?_,?_,?_,zgR h.fn,?_,h.ring,h.key,h.idn,?_,?_,h.kr,?_,h.rl,h.bl⟩
 .intro j q hq;rcases aa j q hq with⟨rfl,rfl⟩|⟨hj,hq⟩
  .exact ho
  exact h.own j q hq
 .intro j q hq;rcases aa j q hq with⟨rfl,rfl⟩|⟨hj,hq⟩
  .exact ht
  exact h.ty j q hq
 .intro j l a b g ha hb ab hg;rcases aa j a ha with⟨rfl,rfl⟩|⟨hj,ae⟩<;>rcases aa l b hb with⟨rfl,rfl⟩|⟨hl,ad⟩
  .exact absurd rfl ab
  .exact λe=>(hn g hg).2.1 (h.ff l b g ad e)
  .exact λe=>(hn g e).2.1 (h.ff j a g ae hg)
  exact h.apart j l a b g ae ad ab hg
 .intro j q g hq hg;rcases aa j q hq with⟨rfl,rfl⟩|⟨hj,hq⟩
  .exact zgS hg
  exact zgR (h.ff j q g hq hg)
 .intro g hg hR;rcases hg with hg|hg
  .exact h.fr g hg hR
  exact(hn g hg).2.2.1 hR
 .intro hg;rcases hg with hg|hg
  .exact h.kf hg
  exact(hn kb hg).2.2.2 rfl
 intro g hg;rcases hg with hg|hg
 .exact h.fl g hg
 exact⟨(hn g hg).1,(ho.lt g hg).2⟩
theorem RawW.sign{sg':Nat->List zgW}(h:RawW B F R nb kb rb n i C rs sg w)(hp:zag R rb n sg' w w'):∃R',RawW B F R' nb kb rb n i C rs sg' w'/\Goes F R w F R' w':=by
 obtain⟨R',hr,hR,hl,hs⟩:=hp;refine⟨R',⟨(hs.block nb h.lt (h.fr nb h.fn)).trans h.blk,λj r hj=>zb (h.own j r hj) λg e hg=>hs.block g hg (h.fr g (h.ff j r g hj e)),h.ty,h.apart,h.fn,h.ff,hr,h.key.keep (hs.block kb h.key.lt h.kr),h.idn,λk hk ab=>?_,h.kf,λhk=>?_,λk hk=>⟨(h.fl k hk).1,zgt (h.fl k hk).2 hs.size⟩,λk hk=>⟨?_,hl k hk⟩,zgu h.bl hs.size⟩,⟨λ_ h=>zgR h,hR,{ hs with block:=λk hk aa=>hs.block k hk (λhf=>aa (zgS hf)) }⟩⟩
 .rcases hR k ab with h1|h1
  .exact h.fr k hk h1
  have:=(h.fl k hk).2;omega
 .rcases hR kb hk with h1|h1
  .exact h.kr h1
  have:=h.key.lt;omega
 rcases hR k hk with h1|h1
 .exact (h.rl k h1).1
 exact zgu h.bl h1
end
def vD(e:zt):List Value:=[iA e.m.k,iA e.m.h,iA e.m.r,iA e.m.f,iA e.m.v,bA e.m.nl,sA e.m.s,sA e.fr]
def qz(l:List zt):List Value:=l.flatMap vD
def zbs(t:yf):List Value:=[iA t.n,iA t.h,iA t.r,iA t.due]
def yB(l:List yf):List Value:=l.flatMap zbs
structure xa where
 wt:Value
 vl:Value
 pr:Value
 ct:Value
 lg:Value
 mn:Value
 er:Value
 tm:Value
 ot:Value
 cs:List Value
 ts:List yf
 hd:Bool
 b2:Bool
 b3:Bool
def kn(s:za):List zgW:=(s.log.filter λe=>e.own).map λe=>e.fr
def xk(s:za):List Value:=(List.range 12).map λj=>bA (s.dec.getD j yz).told
def zbv(kb:Nat)(V:xa)(s:za):List Value:=
 pA kb 0::(yd s.x++([V.wt,V.vl,V.pr,V.ct,V.lg,V.mn,V.er,iA s.zc1,iA s.round,iA s.step,iA s.lr,iA s.vr,sA s.lv,sA s.vv,bA V.hd,bA V.b2,bA V.b3,iA s.time,V.tm,V.ot]++xk s))
def refA(kb:Nat)(V:xa)(s:za):Array Value:=(zbv kb V s).toArray
theorem Ga(kb:Nat)(V:xa)(s:za):(refA kb V s).size=67:=by simp[refA,zbv,yd,xk]
def strR(v:Value)(l:List zgW):ky:=⟨9,1,v,l.length,l.map .string⟩
def refRows(V:xa)(s:za):List ky:=
 [strR V.wt s.wait,strR V.vl (s.dec.map (·.block)),strR V.pr (s.dec.map (·.prop)),⟨30,1,V.ct,V.cs.length,V.cs⟩,⟨197,8,V.lg,s.log.length,qz s.log⟩,strR V.mn (kn s),⟨197,8,V.er,s.ahead.length,qz s.ahead⟩,⟨203,4,V.tm,V.ts.length,yB V.ts⟩,strR V.ot s.out]++List.zipWith (λv d=>strR v d.cert) V.cs s.dec
structure jY (V:xa) (s:za):Prop where
 perm:V.ts.Perm s.tims
 sort:V.ts.Pairwise λa b=>a.beg<b.beg
 tb:∀t∈V.ts,t.beg<(s.tb:Int)
 heap:qI s.tims
 fl:s.zc1<12->V.hd=s.held/\V.b2=s.b2/\V.b3=s.b3
def RefW(B:Nat)(F R:Nat->Prop)(nb kb rb n i:Nat)(s:za)(w:World):Prop:=
 ∃V,RawW B F R nb kb rb n i (refA kb V s) (refRows V s) s.sg w/\V.cs.length=s.dec.length/\jY V s
theorem RefW.below{B:Nat}{F R:Nat->Prop}{nb kb rb n i:Nat}{s:za}{w w':World}(h:RefW B F R nb kb rb n i s w)(hb:BW w w'):RefW B F R nb kb rb n i s w':=by
 obtain⟨V,h1,h2⟩:=h;exact⟨V,h1.below hb,h2⟩
def Zc(B:Nat)(F R:Nat->Prop)(nb kb rb n i:Nat)(s':za)(w:World)(v:Value)(e:Ending)(w':World):Prop:=
 e=.returned v/\∃F' R',RefW B F' R' nb kb rb n i s' w'/\Goes F R w F' R' w'
end
section
open Proofs.Tryz
def j0(w:World)(B:Nat)(p:Option Addr)(l:List zt):Prop:=∀k,k<l.length->∃b o,p=some (aA b o)/\b<B/\w.rangeAt b (o+k*8) (vD (l.getD k zJ))
theorem j0.below{w w':World}{B:Nat}{p:Option Addr}{l:List zt}(h:j0 w B p l)(hb:Below B w w'):j0 w' B p l:=λk hk=>by
 obtain⟨b,o,e,hB,hr⟩:=h k hk;exact⟨b,o,e,hB,λj v hv=>(hb.cell (p:=(aA b (o+k*8+j))) (by exact hB)).trans (hr j v hv)⟩
theorem Vh{α:Type}(f:α->List Value)(z:Nat)(hz:∀x,(f x).length=z)(d:α)(l:List α)(j:Nat)(hj:j<z):∀k,k<l.length->(l.flatMap f)[k*z+j]? =(f (l.getD k d))[j]? :=by
 induction l with
 |nil=>intro k hk;simp at hk
 |cons m l ih=>
  intro k hk;have hc:(f m).length=z:=hz m;rw[List.flatMap_cons];cases k with
  |zero=>
   rw[Nat.zero_mul,zg0,zgD (by omega)];rfl
  |succ k=>
   rw[zgC (by rw[Nat.add_mul];omega),hc,show(k+1)*z+j-z=k*z+j by rw[Nat.add_mul];omega];have h2:=ih k (by simpa using hk);simpa using h2
theorem jg{α:Type}(f:α->List Value)(z:Nat)(hz:∀x,(f x).length=z)(d:α){w:World}{base t:Nat}{v:Value}{l:List α}(h:w.ownsRow base t z v l.length (l.flatMap f)):∃p c,v=.slice p l.length c/\l.length<=maxLen/\∀k,k<l.length->∃b o,p=some (aA b o)/\b<w.heap.size/\w.rangeAt b (o+k*z) (f (l.getD k d)):=by
 rcases h.2 with⟨rfl,hn⟩|⟨g,cap,cur,rfl,hb,hg,aa,ad,hcs,ht⟩
 .exact ⟨none,0,by rw[hn],by rw[hn];exact zgv _,λk hk=>by omega⟩
 refine⟨_,cap,rfl,zgu aa ad,λk hk=>⟨g,0,rfl,zj hg,λj v hv=>?_⟩⟩;rw[zgs w g _ _ _ _ hg,zg0];have hj:j<z:=by have:=(List.getElem?_eq_some_iff.1 hv).1;rwa [hz] at this
 have e1:(cur.toList.take (l.length*z))[k*z+j]? =(l.flatMap f)[k*z+j]? :=by rw[ht]
 have ab:k*z+j<l.length*z:=by
  have:(k+1)*z<=l.length*z:=Nat.mul_le_mul_right z (by omega);rw[Nat.add_mul] at this;omega
 rw[zg5,zgT ab] at e1;rw[<-zg8,e1,<-hv];exact Vh f z hz d l j hj k hk
theorem Tryz.zda:(prog.info? 57).map (·.size)=some 7:=by kernel_rfl
section
variable{B:Nat}{F R:Nat->Prop}{nb kb rb n i:Nat}{V:xa}{s:za}{sg:Nat->List zgW}{w:World}
theorem RawW.log(h:RawW B F R nb kb rb n i (refA kb V s) (refRows V s) sg w):∃p c,V.lg=.slice p s.log.length c/\w.cell? (aA nb 39)=some (.slice p s.log.length c)/\s.log.length<=maxLen/\j0 w w.heap.size p s.log:=by
 obtain⟨p,c,e,hm,hr⟩:=jg vD 8 (λ_=>rfl) zJ (h.own 4 _ rfl);exact⟨p,c,e,by rw[<-e];exact h.cell 39 rfl,hm,hr⟩
theorem RawW.reg(h:RawW B F R nb kb rb n i (refA kb V s) (refRows V s) sg w):w.rangeAt nb 1 (yd s.x):=λj v hv=>by
 have hj:j<34:=by have:=(List.getElem?_eq_some_iff.1 hv).1;simpa [yd] using this
 rw[zgs w nb (1+j) _ _ _ h.blk,<-hv];unfold refA zbv;rw[List.getElem?_toArray,Nat.add_comm 1 j,List.getElem?_cons_succ,zgD (by simpa [yd] using hj)]
theorem RawW.pow(h:RawW B F R nb kb rb n i (refA kb V s) (refRows V s) sg w)(k:Nat)(hk:k<34):w.cell? (aA nb (1+k))=some (iA (s.x k)):=h.reg k _ (by simp[yd,hk])
end
def ju(what:Int)(t:zgW)(e:zt):Bool:=decide (what=0)||(decide (what=1)&& !e.m.nl&&decide (e.m.s=t))||(decide (what=2)&&e.m.nl)
def sumB(kind round what:Int)(t:zgW)(e:zt):Bool:=decide (e.m.r=round)&&(decide (kind=0)||decide (e.m.k=kind))&&ju what t e
theorem VC{B:Nat}{F R:Nat->Prop}{nb kb rb n i:Nat}{s:za}{w:World}(h:RefW B F R nb kb rb n i s w)(hx:Dom s.x)(hid:∀e∈s.log,0<=e.m.f/\e.m.f<8)(kind round what:Int)(t:zgW)(hw:what=0\/what=1\/what=2):
 Calls prog 192 #[pA nb 0,iA kind,iA round,iA what,sA t] w λe w'=>e=.returned (iA (powB s.x (sendB (sumB kind round what t) s.log) 8))/\BW w w':=by
 obtain⟨V,hR,-⟩:=h;obtain⟨p,c,-,hc,hm,hl⟩:=hR.log;have aD:nb<w.heap.size:=hR.lt;obtain⟨HR,HL,an,HX,HC⟩:=kY hR hl hid hx hc;have aP:s.log.length<=9223372036854775807:=by unfold maxLen at hm;omega
 clear hR hl hid hx hm hc;obtain⟨l,hle⟩:=gen s.log;rw[<-hle] at HL an HC aP ⊢;clear hle;obtain⟨fits,av⟩:=gen (sumB kind round what t);have aH:=zc av;rw[<-av];clear av;obtain⟨b,aw⟩:=gen (sendB fits l);rw[<-aw];have aV:=zc aw;clear aw;go_enter func192,ntmps192;go_wp2;go_loopw [12,13,14] (λi _ _ wr=>∃j:Nat,j<=l.length/\i=iA j/\cL wr w.heap.size (kj (sendB fits (l.take j))) 190/\BW w wr) (λi _ _ _=>l.length-(intOf i).toNat)
 case atStart=>exact⟨0,zgv _,rfl,zgr w _,bwA w⟩
 obtain⟨j,hj,rfl,aC,hb⟩:=hrel;obtain⟨HB,aj⟩:=ze hb aC;have c39:cE wr nb 39 (.slice p l.length c):=(hb.cell (p:=(aA nb 39)) (by exact aD)).trans HC;clear hb aC;by_cases ai:j=l.length
 .have aR:¬(j:Int)<l.length:=by omega
  have aU:Hid (wr.heap[w.heap.size]? =some (.cells (kj b) 190 (0,0))):=by have h:=aj.o;rw[ai,zg7,<-aV.o] at h;exact h
  clear ai aj;obtain⟨w8,aL⟩:=gen wr;subst aL;go_wp2;go_loopw [15,16] (λsm d w9=>∃k:Nat,k<=8/\d=iA k/\sm=iA (powB s.x b k)/\w9=w8) (λ_ d _=>8-(intOf d).toNat)
  case atStart=>exact⟨0,by omega,rfl,rfl,rfl⟩
  obtain⟨k,hk,rfl,rfl,az⟩:=hrel;have ao:=az.symm;clear az;subst ao;have hpb:=xR s.x b k (λi _=>HX i);by_cases aa:k<8
  .have hk2:(k:Int)<8:=by omega
   have hxk:=HX.o k;have cp:cE w8 nb (1+k) (iA (s.x k)):=(HB.o.cell (p:=(aA nb (1+k))) (by exact aD)).trans (HR.o.pow k (by omega));have cb:cN w8 w k (bA (b k)):=(zgs _ _ k _ _ _ aU).trans (xG _ k aa);cases al:b k with
   |true=>
    rw[al] at cb;go_wp2;go_roundw
    case rel=>exact⟨k+1,by omega,by go_num,by simp only[powB,al,if_true]<;>go_num,trivial⟩
    simp[intOf];omega
   |false=>
    rw[al] at cb;go_wp2;go_roundw
    case rel=>exact⟨k+1,by omega,by go_num,by simp[powB,al],trivial⟩
    simp[intOf];omega
  have aQ:k=8:=by omega
  have aR:¬(k:Int)<8:=by omega
  subst aQ;go_wp2;go_ret;exact⟨rfl,HB⟩
 have aa:j<l.length:=by omega
 have ar:(j:Int)<l.length:=by omega
 have hz:w.heap.size<wr.heap.size:=zj aj;obtain⟨lb,lo,rfl,aT,aq⟩:=HL.o.below HB j aa;obtain⟨ev,ak⟩:=gen (l.getD j zJ);simp only[<-ak] at aq;have ad:=zc (yo l zJ j aa);rw[<-ak] at ad;obtain⟨⟨K,H,r,f,v,nl,u⟩,fr,own⟩:=ev;obtain⟨fi,rfl⟩:∃fi:Nat,f=(fi:Int):=⟨f.toNat,by have:=an.o _ ad.o;simp only at this;omega⟩;have aE:fi<8:=by have:=an.o _ ad.o;simp only at this;omega
 have aS:(fi:Int)<8:=by omega
 have aG:Hid (wr.rangeAt lb (lo+j*8) [iA K,iA H,iA r,iA fi,iA v,bA nl,sA u]):=λk x hx=>aq k x (by
  have hk:k<7:=(List.getElem?_eq_some_iff.1 hx).1;match k,hk,hx with
  |0,_,hx|1,_,hx|2,_,hx|3,_,hx|4,_,hx|5,_,hx|6,_,hx=>exact hx)
 have ay:=zc ak;clear aq ak aT ad
 go_upto_region 6 with(first|(refine zgX rfl 57 _ rfl lb (lo+j*8) rfl [iA K,iA H,iA r,iA fi,iA v,bA nl,sA u] _ aG.o underlying57 rfl Tryz.zda ?_)|(refine zf rfl 57 _ _ rfl wr #[iA K,iA H,iA r,iA fi,iA v,bA nl,sA u] rfl rfl 57 _ rfl (by simp[Value.oneCell']) Tryz.zda ?_;intro w2 aB aF aK;have ag:=zc aB;have aJ:Hid (BW wr w2):=aF;clear aB aF aK)|fail)
 obtain⟨af,ab⟩:=ze (HB.o.trans (aJ.o.mono HB.o.size)) (blk aj aJ);have a0:cN w2 wr 0 (iA K):=zgs w2 _ 0 _ _ _ ag;have a2:cN w2 wr 2 (iA r):=zgs w2 _ 2 _ _ _ ag;have a3:cN w2 wr 3 (iA fi):=zgs w2 _ 3 _ _ _ ag;have a5:cN w2 wr 5 (bA nl):=zgs w2 _ 5 _ _ _ ag;have a6:cN w2 wr 6 (sA u):=zgs w2 _ 6 _ _ _ ag;have d4:cN w2 w fi (bA (sendB fits (l.take j) fi)):=(zgs w2 _ fi _ _ _ ab).trans (xG _ fi aE);have d5:w2.frozen? (nA w fi)=false:=zq ab fi;have ax:Hid (fits ⟨⟨K,H,r,(fi:Int),v,nl,u⟩,fr,own⟩=false->w2.heap[w.heap.size]? =some (.cells (kj (sendB fits (l.take (j+1)))) 190 (0,0))):=λau=>by
  rw[jq (b':=sendB fits (l.take j)) (λi hi=>by rw[vj aa,<-ay.o,au];simp)];exact ab
 have ae:Hid (fits ⟨⟨K,H,r,(fi:Int),v,nl,u⟩,fr,own⟩=true->(w2.setCell (nA w fi) (bA true)).heap[w.heap.size]? =some (.cells (kj (sendB fits (l.take (j+1)))) 190 (0,0))):=λau=>by
  rw[jq (b':=zak (sendB fits (l.take j)) fi) (λi hi=>by
   rw[vj aa,<-ay.o,au];unfold zak;by_cases e:i=fi
   .subst e;simp
   rw[zgU e];have e2:¬((fi:Int)=(i:Int)):=by omega
   simp[e2]),<-QE _ fi aE]
  have h1:=ab.o;simp[World.setCell,Array.getElem?_modify,h1]
 have ah:Hid (fits ⟨⟨K,H,r,(fi:Int),v,nl,u⟩,fr,own⟩=(decide (r=round)&&(decide (kind=0)||decide (K=kind))&&ju what t ⟨⟨K,H,r,(fi:Int),v,nl,u⟩,fr,own⟩)):=by unfold Hid;rw[aH.o];rfl
 clear ab ag ay aG HL HC an aj aH c39 ar;have aO:what=0\/(what=1/\nl=true)\/(what=1/\nl=false/\t=u)\/(what=1/\nl=false/\¬u=t/\(u.toList==t.toList)=false/\¬u.toList=t.toList)\/(what=2/\nl=true)\/(what=2/\nl=false):=by
  by_cases e:t=u
  .rcases hw with h|h|h<;>cases nl<;>simp[h,e]
  have e2:¬u=t:=λx=>e x.symm;have e3:=kP e2;have e4:¬u.toList=t.toList:=by simpa using e3
  rcases hw with h|h|h<;>cases nl<;>simp[h,e,e2,e3,e4]
 clear hw;rcases aO with rfl|⟨rfl,rfl⟩|⟨rfl,rfl,rfl⟩|⟨rfl,rfl,hut,aN,aM⟩|⟨rfl,rfl⟩|⟨rfl,rfl⟩;all_goals
  by_cases k1:r=round
  .subst k1;by_cases k2:kind=0
   .subst k2;go_wp2;go_roundw
    case rel=>first|(refine⟨j+1,aa,by go_num,ax ?_,af⟩;rw[ah.o];simp[ju, *];done)|(refine⟨j+1,aa,by go_num,ae ?_,af.o.setCell (by exact zgp _) _⟩;rw[ah.o];simp[ju, *];done)
    simp[intOf];omega
   .by_cases k3:kind=K;focus
     subst k3;have k2b:(kind==0)=false:=by simpa using k2
    rotate_left;focus
     have k2b:(kind==0)=false:=by simpa using k2
     have k3s:¬K=kind:=λx=>k3 x.symm;have k3b:(K==kind)=false:=by simpa using k3s
    rotate_left;all_goals
     go_wp2;go_roundw
     case rel=>first|(refine⟨j+1,aa,by go_num,ax ?_,af⟩;rw[ah.o];simp[ju, *];done)|(refine⟨j+1,aa,by go_num,ae ?_,af.o.setCell (by exact zgp _) _⟩;rw[ah.o];simp[ju, *];done)
     simp[intOf];omega
  .have k1b:(r==round)=false:=by simpa using k1
   go_wp2;go_roundw
   case rel=>first|(refine⟨j+1,aa,by go_num,ax ?_,af⟩;rw[ah.o];simp[ju, *];done)|(refine⟨j+1,aa,by go_num,ae ?_,af.o.setCell (by exact zgp _) _⟩;rw[ah.o];simp[ju, *];done)
   simp[intOf];omega
section
variable{B:Nat}{F R:Nat->Prop}{nb kb rb n i:Nat}{s:za}{w:World}
theorem gi(h:RefW B F R nb kb rb n i s w)(id:Int)(h0:0<=id):Calls prog 162 #[pA nb 0,iA id] w λe w'=>e=.returned (iA (gL s.x id))/\w'=w:=by
 obtain⟨V,hR,-⟩:=h;obtain⟨k,rfl⟩:∃k:Nat,id=(k:Int):=⟨id.toNat,by omega⟩;unfold gL;by_cases hk:k<8
 .have aa:(k:Int)<8:=by omega
  rw[zgT ⟨h0,aa⟩];have hc:=hR.pow k (by omega);have ab:¬(8:Int)<=k:=by omega
  clear hR;go_enter func162,ntmps162;go_wp2;go_ret;exact⟨rfl,rfl⟩
 rw[zgU (by omega)];have ab:(8:Int)<=k:=by omega
 clear hR;go_enter func162,ntmps162;go_wp2;go_ret;exact⟨rfl,rfl⟩
theorem jd(h:RefW B F R nb kb rb n i s w)(hx:Dom s.x)(t:zgW)(ht:t.size<4294967281):Calls prog 190 #[pA nb 0,sA t] w λe w'=>e=.returned (bA (s.zdK t))/\BW w w':=by
 obtain⟨V,hR,-⟩:=h;obtain⟨ag,ae⟩:=ze hR.reg (YO s.x t w hx ht);obtain⟨y,o,hz⟩:∃y o,behindR s.x t=(y,o):=⟨_,_,rfl⟩;unfold za.zdK;rw[hz] at ae ⊢;clear hR hz hx;have z0:=zX;go_enter func190,ntmps190;go_wp2_with (first|(refine zgX rfl 49 _ rfl nb 1 rfl (yd s.x) _ ag underlying49 rfl (by rw[Tryz.zc3];simp[yd]) ?_)|fail)
 refine ae.o.mono ?_;rintro e w1 ⟨rfl,ad⟩;have aa:=zc ad;clear ad;go_wp2_with (first|(refine zk rfl 49 _ _ rfl w1.heap.size y rfl rfl 49 (regA zA) (zgr w1 _) (zg _) Tryz.zc3 ?_;intro w2 af ab;have ah:Hid (BW w w2):=(aa.o.alloc aa.o.size _).trans (ab.below aa.o.size);clear af ab)|fail)
 go_ret;exact⟨rfl,ah⟩
theorem Jb(h:RefW B F R nb kb rb n i s w)(hx:Dom s.x)(p:Int)(h0:0<=p)(h1:p<=1000):Calls prog 191 #[pA nb 0,iA p] w λe w'=>e=.returned (bA (decide (2*sumTo s.x 8<3*p)))/\BW w w':=by
 obtain⟨V,hR,-⟩:=h;obtain⟨ad,HT⟩:=ze hR.reg (λW=>xq s.x W (λi _=>hx i));have ab:=yH s.x 8 (λi _=>hx i);obtain⟨T,hT⟩:=gen (sumTo s.x 8);rw[<-hT] at HT ab ⊢;clear hR hT hx;go_enter func191,ntmps191;go_wp2_with (first|(refine zgX rfl 49 _ rfl nb 1 rfl (yd s.x) _ ad underlying49 rfl (by rw[Tryz.zc3];simp[yd]) ?_)|fail)
 refine(HT _).mono ?_;rintro e w1 ⟨rfl,aa⟩;have ae:=zc aa;clear aa;go_wp2;go_ret;exact⟨rfl,ae⟩
theorem Qp(x:Nat->Int)(k:Nat):∀d,∃r,idsTo x (k+d)=idsTo x k++r
 |0=>⟨[],by simp⟩
 |d+1=>by
  obtain⟨r,hr⟩:=Qp x k d;exact⟨r++(if 0<x (k+d) then [k+d] else []),by rw[<-Nat.add_assoc,yL,hr,List.append_assoc]⟩
theorem zbD{x:Nat->Int}{k t:Nat}(hk:k<8)(hx:0<x k)(ht:(idsTo x k).length=t):(idsTo x 8).getD t 0=k:=by
 obtain⟨r,hr⟩:=Qp x (k+1) (8-(k+1));rw[show k+1+(8-(k+1))=8 by omega,yL x k,zgT hx] at hr;rw[hr,<-ht,zgz,List.append_assoc,zgC (zgp _),Nat.sub_self];rfl
theorem jF(h:RefW B F R nb kb rb n i s w)(hx:Dom s.x)(hp:0<sumTo s.x 8)(hh:s.zc1<=12)(r:Nat)(hr:r<=255):Calls prog 163 #[pA nb 0,iA r] w λe w'=>e=.returned (iA (s.prop r:Int))/\w'=w:=by
 obtain⟨V,hR,-⟩:=h;have HR:=zc hR;have aq:cE w nb 42 (iA s.zc1):=hR.cell 42 rfl;obtain⟨HX,af,ar⟩:=zC hx (GJ hx hp) (gY s.x 8);obtain⟨a,ha⟩:=gen (s.prop r);have HA:=zc ha;rw[<-ha];clear hR ha hx hp;obtain⟨H,hH⟩:=gen s.zc1;rw[<-hH] at aq hh;have HH:=zc hH;clear hH;go_enter func163,ntmps163;go_wp2
 go_loop [5,6] (λm i=>∃k:Nat,k<=8/\i=iA k/\m=iA ((idsTo s.x k).length:Int)) (λ_ i=>8-(intOf i).toNat)
 case atStart=>exact⟨0,by omega,rfl,rfl⟩
 obtain⟨k,hk,rfl,rfl⟩:=hrel;have al:=gY s.x k;by_cases ag:k<8
 .have an:(k:Int)<8:=by omega
  have hc:=HR.o.pow k (by omega);have ah:=HX.o k;by_cases h0:0<s.x k
  .have aa:(idsTo s.x (k+1)).length=(idsTo s.x k).length+1:=by rw[yL,zgT h0];simp
   go_wp2
   go_round
   case rel=>exact⟨k+1,by omega,by go_num,by rw[aa];go_num⟩
   simp[intOf];omega
  have aa:(idsTo s.x (k+1)).length=(idsTo s.x k).length:=by rw[yL,zgU h0];simp
  go_wp2
  go_round
  case rel=>exact⟨k+1,by omega,by go_num,by rw[aa]⟩
  simp[intOf];omega
 have ad:k=8:=by omega
 subst ad;obtain⟨m,hm⟩:∃m,m=(idsTo s.x 8).length:=⟨_,rfl⟩;rw[<-hm];have ak:0<m:=by rw[hm];exact af
 have hm8:m<=8:=by rw[hm];exact ar
 obtain⟨q,hq⟩:∃q,q=(H+r) % m:=⟨_,rfl⟩;have ai:Int.tmod ((H:Int)+(r:Int)) (m:Int)=(q:Int):=by rw[hq];rfl
 have hnz:((m:Int)==0)=false:=by simp;omega
 have aj:¬(m:Int)=0:=by omega
 have hqm:q<m:=by rw[hq];exact Nat.mod_lt _ ak
 have au:Hid (∀k,k<8->0<s.x k->(idsTo s.x k).length=q->a=k):=λk h1 h2 h3=>by
  rw[HA.o];unfold za.prop turnOf;rw[<-hm,<-HH.o,<-hq];exact zbD h1 h2 h3
 have HM:=zc hm;clear hm hq al;go_wp2
 go_loop [7,8] (λd i=>∃k:Nat,k<=8/\i=iA k/\(idsTo s.x k).length<=q/\d=iA ((q-(idsTo s.x k).length:Nat):Int)) (λ_ i=>8-(intOf i).toNat)
 case atStart=>exact⟨0,by omega,rfl,zgv _,rfl⟩
 obtain⟨k,hk,rfl,ab,rfl⟩:=hrel;by_cases ag:k<8
 .have an:(k:Int)<8:=by omega
  have hc:=HR.o.pow k (by omega);have ah:=HX.o k;by_cases h0:s.x k=0
  .have aa:(idsTo s.x (k+1)).length=(idsTo s.x k).length:=by rw[yL,zgU (by omega)];simp
   rw[h0] at hc;go_wp2
   go_round
   case rel=>exact⟨k+1,by omega,by go_num,by rw[aa];exact ab,by rw[aa]⟩
   simp[intOf];omega
  have h0b:(s.x k==0)=false:=by simpa using h0
  have aa:(idsTo s.x (k+1)).length=(idsTo s.x k).length+1:=by rw[yL,zgT (by omega)];simp
  obtain⟨L,hL⟩:∃L,L=(idsTo s.x k).length:=⟨_,rfl⟩;rw[<-hL] at aa ab ⊢;have HL:=zc hL;clear hL;by_cases he:q-L=0
  .have HE:=zc (au.o k ag (by omega) (by rw[<-HL.o];omega));have ae:((q-L:Nat):Int)=0:=by omega
   clear he;go_wp2;go_ret;exact⟨by rw[HE.o];rfl,rfl⟩
  have ae:¬((q-L:Nat):Int)=0:=by omega
  have ao:(((q-L:Nat):Int)==0)=false:=by simpa using ae
  obtain⟨D,hD⟩:∃D:Nat,D=q-L:=⟨_,rfl⟩;rw[<-hD] at ae ao ⊢;have HD:Hid (q-(L+1)=D-1/\0<D/\D<=q/\L+1<=q):=by unfold Hid;omega
  have hD1:0<D:=HD.o.2.1;have hD2:D<=8:=by have:=HD.o.2.2.1;omega
  clear hD he;go_wp2
  go_round
  case rel=>exact⟨k+1,by omega,by go_num,by rw[aa];have:=HD.o;omega,by rw[aa,HD.o.1];go_num⟩
  simp[intOf];omega
 have ad:k=8:=by omega
 rw[ad,<-HM.o] at ab;omega
theorem jG(h:RefW B F R nb kb rb n i s w)(hx:Dom s.x)(hp:0<sumTo s.x 8)(hh:s.zc1<=12)(m:yX)(hf:0<=m.f)(hr0:0<=m.r)(hr:m.r<=255):
 Calls prog 116 #[pA nb 0,.agg #[iA m.k,iA m.h,iA m.r,iA m.f,iA m.v,bA m.nl,sA m.s]] w λe w'=>e=.returned (bA (s.zc7 m))/\BW w w':=by
 obtain⟨aq,HX,HP⟩:=zC h hx hp;have an:=hh;obtain⟨k,H,r,f,v,nl,t⟩:=m;obtain⟨ri,rfl⟩:∃ri:Nat,r=(ri:Int):=⟨r.toNat,by simp only at hr0;omega⟩;have ah:ri<=255:=by simp only at hr;omega
 simp only at hf ⊢;obtain⟨b,hb⟩:=gen (s.zc7 ⟨k,H,(ri:Int),f,v,nl,t⟩);rw[<-hb];unfold za.zc7 at hb;simp only[Int.toNat_natCast] at hb;obtain⟨w1,aa⟩:=gen (w.alloc (.cells #[iA k,iA H,iA ri,iA f,iA v,bA nl,sA t] 57));have ag:BW w w1:=by rw[aa];exact bwA w
 have ab:w1.heap[w.heap.size]? =some (.cells #[iA k,iA H,iA ri,iA f,iA v,bA nl,sA t] 57 (0,0)):=by rw[aa];exact zgr w _
 have ai:=zc (h.below ag);have a0:cN w1 w 0 (iA k):=zgs w1 _ 0 _ _ _ ab;have a2:cN w1 w 2 (iA ri):=zgs w1 _ 2 _ _ _ ab;have a3:cN w1 w 3 (iA f):=zgs w1 _ 3 _ _ _ ab;have aj:Hid (∀j,Calls prog 162 #[pA nb 0,iA f] (w1.drewN j) λe w'=>e=.returned (iA (gL s.x f))/\w'=w1.drewN j):=λj=>gi (ai.o.below (zgZ (zgq _ _) j)) f hf;have ak:Hid (∀j,Calls prog 163 #[pA nb 0,iA ri] (w1.drewN j) λe w'=>e=.returned (iA (s.prop ri:Int))/\w'=w1.drewN j):=λj=>jF (ai.o.below (zgZ (zgq _ _) j)) hx hp hh ri ah;obtain⟨pw,ae⟩:=gen (gL s.x f);obtain⟨pr,af⟩:∃p:Nat,p=s.prop ri:=⟨_,rfl⟩;have HB:Hid (b=(decide (pw=0)||(decide (k=1)&& !decide (f=(pr:Int))))):=by unfold Hid;rw[hb,ae,af]
 rw[<-ae] at aj;rw[<-af] at ak;obtain⟨al,ao⟩:=ze ag aa;clear h hx hp hh an ag ab hb aa ae af ah hf hr hr0;have fin:(pw=0)\/(¬pw=0/\¬k=1)\/(¬pw=0/\k=1/\(pr:Int)=f)\/(¬pw=0/\k=1/\¬(pr:Int)=f):=by omega
 rcases fin with rfl|⟨q1,q2⟩|⟨q1,rfl,rfl⟩|⟨q1,rfl,q3⟩;focus
  skip
  have ad:b=true:=by rw[HB.o];simp[*]
 rotate_left;focus
  have q1b:(pw==0)=false:=by simpa using q1
  have q2b:(k==1)=false:=by simpa using q2
  have ad:b=false:=by rw[HB.o];simp[*]
 rotate_left;focus
  have q1b:(pw==0)=false:=by simpa using q1
  have ad:b=false:=by rw[HB.o];simp[*]
 rotate_left;focus
  have q1b:(pw==0)=false:=by simpa using q1
  have q3b:((pr:Int)==f)=false:=by simpa using q3
  have q4:¬f=(pr:Int):=λe=>q3 e.symm;have q5:((pr:Int) != f)=true:=by simpa using q3
  have ad:b=true:=by rw[HB.o];simp[*]
 rotate_left;all_goals
  subst ad;clear HB;go_enter func116,ntmps116;go_wp2_with fail
  rw[<-ao.o];go_quiet (first|(go_at_call 162;refine Calls.quiet_of_same (aj _))|(go_at_call 163;refine Calls.quiet_of_same (ak _)))
  all_goals go_wp2
  go_ret;exact⟨rfl,al.o.trans ((zgZ (zgq _ _) _).mono al.o.size)⟩
end
section
variable{P:Program}{B:Nat}{F R:Nat->Prop}{nb kb rb n i:Nat}{C:Array Value}{rs:List ky}{sg:Nat->List zgW}{w:World}
def ky.plus(r:ky)(v:Value)(news:List Value):ky:=⟨r.t,r.z,v,r.n+1,r.xs++news⟩
theorem RawW.grow(h:RawW B F R nb kb rb n i C rs sg w){k:Nat}{r:ky}(hk:rs[k]? =some r){v':Value}{news:List Value}{w':World}(ho:w'.ownsRow 0 r.t r.z v' (r.n+1) (r.xs++news))(hg:w.grownBy w' r.v.ownBlock)(hat:v'.ownBlock=r.v.ownBlock\/v'.ownBlock=some w.heap.size):
 ∃F',RawW B F' R nb kb rb n i C (rs.set k (r.plus v' news)) sg w'/\Goes F R w F' R w':=by
 refine h.row (r':=r.plus v' news) hk rfl ho (λg e=>?_) { hg with block:=λg h1 h2=>hg.block g h1 (λe=>h2 e.symm) };rcases hat with h1|h1
 .exact zgR (h1.symm.trans e)
 refine zgS ?_;have e2:v'.ownBlock=some g:=e;rw[h1] at e2;cases e2;exact zgp _
theorem xc{ops:Array Oper}{rest:List Oper}{o:Oper}{a:Act}{Q:Exit->Act->World->Prop}(hgd:o.guard=none)(x y:Operand)(t:TypeId)(ho:o.op=.call { callee:=.builtin .append,args:=#[x,y],argTypes:=#[t,t] })
 (h:RawW B F R nb kb rb n i C rs sg w) (k:Nat) (r:ky) (hk:rs[k]? =some r) (inf:TypeInfo) (z:Value) (bytes:Nat) (ht:P.underlying t=some (.slice r.t)) (hi:P.info? r.t=some inf) (hz:inf.zero=some z) (hsize:inf.size=r.z) (hby:inf.bytes=bytes) (hzs:z.cells.size=r.z) (hsz:0<r.z)
 (hs:a.eval x=r.v) (ad:Addr) (c:Nat) (news:List Value) (hx:a.eval y=.slice (some ad) 1 c) (hl:news.length=r.z) (hnews:∀j u,news[j]? =some u->w.cell? (ad.add j)=some u) (h1:∀u∈news,u.oneCell'=true) (hn:r.n<=100000000) (hb:bytes<=1000)
 (hk':∀v' w' F' p c',v'=.slice p (r.n+1) c'->RawW B F' R nb kb rb n i C (rs.set k (r.plus v' news)) sg w'->Goes F R w F' R w'->wpList P ops Q rest (a.put o.dst v') w'):wpList P ops Q (o::rest) a w:=by
 refine wpList_append_own_at w hgd x y t ho 0 r.t inf z r.z bytes ht hi hz hsize hby hzs hsz r.v r.n r.xs hs (h.own k r hk) ad 1 c news hx (by rw[hl,Nat.one_mul]) hnews h1 (by unfold maxLen;omega) ?_ (zgv _) ?_
 .calc (r.n+1)*bytes<=100000001*1000:=Nat.mul_le_mul (by omega) hb
   _<=_:=by decide
 intro v' w' h2 h3 _ h5;obtain⟨F',h6,h7⟩:=h.grow hk h2 h3 h5;obtain⟨p,c',hv⟩:=zl h2;exact hk' v' w' F' p c' hv h6 h7
theorem qN{o:Oper}{a:Act}{K:Act->World->Prop}{Q:Exit->Act->World->Prop}(x y:Operand)(t:TypeId)(ho:o.op=.call { callee:=.builtin .append,args:=#[x,y],argTypes:=#[t,t] })
 (h:RawW B F R nb kb rb n i C rs sg w) (k:Nat) (r:ky) (hk:rs[k]? =some r) (inf:TypeInfo) (z:Value) (bytes:Nat) (ht:P.underlying t=some (.slice r.t)) (hi:P.info? r.t=some inf) (hz:inf.zero=some z) (hsize:inf.size=r.z) (hby:inf.bytes=bytes) (hzs:z.cells.size=r.z) (hsz:0<r.z)
 (hs:a.eval x=r.v) (ad:Addr) (c:Nat) (news:List Value) (hx:a.eval y=.slice (some ad) 1 c) (hl:news.length=r.z) (hnews:∀j u,news[j]? =some u->w.cell? (ad.add j)=some u) (h1:∀u∈news,u.oneCell'=true) (hn:r.n<=100000000) (hb:bytes<=1000)
 (hk':∀v' w' F' p c',v'=.slice p (r.n+1) c'->RawW B F' R nb kb rb n i C (rs.set k (r.plus v' news)) sg w'->Goes F R w F' R w'->K (a.put o.dst v') w'):o.wp P a w K Q:=by
 obtain⟨v',w',hr,h2,h3,h4,h5⟩:=run_append_own_at (P:=P) w 0 t o.type r.t inf z r.z bytes ht hi hz hsize hby hzs hsz r.v r.n r.xs (h.own k r hk) ad 1 c news (by rw[hl,Nat.one_mul]) hnews h1 (by unfold maxLen;omega) (zgu (Nat.mul_le_mul (show r.n+1<=100000001 by omega) hb) (by decide)) (zgv _);unfold Oper.wp execOp;simp only[ho,resolve,invoke,builtin,Sem.run_bind,Sem.run_pure,Result.andThen_ok,List.map_toArray,List.map_cons,List.map_nil,hs,hx,hr];obtain⟨F',h6,h7⟩:=h.grow hk h2 h3 h5;obtain⟨p,c',hv⟩:=zl h2;exact hk' v' w' F' p c' hv h6 h7
end
section
variable{B:Nat}{F R:Nat->Prop}{nb kb rb n i:Nat}{C:Array Value}{rs:List ky}{sg:Nat->List zgW}{w:World}
theorem XP(v v':Value)(l:List zgW)(f:zgW):(strR v l).plus v' [sA f]=strR v' (l++[f]):=by simp[strR,ky.plus]
theorem yk{ops:Array Oper}{rest:List Oper}{o:Oper}{a:Act}{Q:Exit->Act->World->Prop}(hgd:o.guard=none)(x y:Operand)(ho:o.op=.call { callee:=.builtin .append,args:=#[x,y],argTypes:=#[30,30] })
 (h:RawW B F R nb kb rb n i C rs sg w) (k:Nat) (v:Value) (l:List zgW) (hk:rs[k]? =some (strR v l)) (hs:a.eval x=v) (f:zgW) (hx:a.eval y=.slice (some (aA w.heap.size 0)) 1 1) (hn:l.length<=100000000)
 (hk':∀v' w' F' p c',v'=.slice p (l.length+1) c'->RawW B F' R nb kb rb n i C (rs.set k (strR v' (l++[f]))) sg w'->Goes F R w F' R w'->wpList prog ops Q rest (a.put o.dst v') w'):wpList prog ops Q (o::rest) a (w.alloc (.cells #[sA f] 9)):=by
 obtain⟨iS,ae,ad,ab,aa⟩:=info_parts Tryz.zdz;have hb:BW w (w.alloc (.cells #[sA f] 9)):=bwA w;refine xc (C:=C) (rs:=rs) hgd x y _ ho (h.below hb) k (strR v l) hk iS (sA zgV) 16 underlying30 ae ad ab aa rfl (Nat.zero_lt_succ _) hs (nA w 0) 1 [sA f] hx rfl (cell_one_new _ _ _) (by simp[Value.oneCell']) hn (by decide) λv' w' F' p c' e hR hG=>?_;rw[XP] at hR;exact hk' v' w' F' p c' e hR ((Goes.below hb).trans hG)
end
section
variable{B:Nat}{F R:Nat->Prop}{nb kb rb n i:Nat}{s:za}{w:World}
theorem vk(h:RefW B F R nb kb rb n i s w)(f:zgW)(ho:s.out.length<=1000):Calls prog 122 #[pA nb 0,sA f] w (Zc B F R nb kb rb n i { s with out:=Zr s.out f } w (.tuple #[])):=by
 obtain⟨iS,hiS,hz0,hz1,hz2⟩:=info_parts Tryz.zdz;obtain⟨V,hR,af,ae⟩:=h;obtain⟨p,c,hv⟩:=zl (hR.own 8 _ rfl);have ad:V.ot=.slice p s.out.length c:=hv;have c54:w.cell? (aA nb 54)=some (.slice p s.out.length c):=by rw[<-ad];exact hR.cell 54 rfl
 obtain⟨HR,HV,ah,aa⟩:=yi hR ad af ae;clear hR af ae hv ad;unfold Zr;by_cases hl:s.out.length<100
 .rw [zgT hl];have aj:(s.out.length:Int)<100:=by omega
  go_enter func122,ntmps122;go_wp2_with (first|(at_builtin;refine yk (C:=refA kb V s) (rs:=refRows V s) rfl _ _ rfl HR 8 V.ot s.out rfl ?h1 f ?h2 ?h3 ?h4)|fail)
  case h1=>exact HV.o.symm
  case h2=>rfl
  case h3=>omega
  intro v1 w1 F1 p1 c1 ai ab ag;have d1:w1.cell? (aA nb 54)=some (.slice p s.out.length c):=by rw[<-HV.o];exact ab.cell 54 rfl
  have d2:=ab.frozen 54;obtain⟨ak,al⟩:=ze ab ag;clear ab ag;subst ai;go_wp2
  go_end0
  obtain⟨h1,h2⟩:=ak.o.set 54 (.slice p1 (s.out.length+1) c1);exact⟨rfl,F1,R,⟨{ V with ot:=.slice p1 (s.out.length+1) c1 },h1,ah,⟨aa.o.perm,aa.o.sort,aa.o.tb,aa.o.heap,aa.o.fl⟩⟩,al.o.trans h2⟩
 rw[zgU hl];have aj:¬(s.out.length:Int)<100:=by omega
 go_enter func122,ntmps122;go_wp2
 go_end0
 exact⟨rfl,F,R,⟨V,HR,ah,aa⟩,Goes.refl _ _ _⟩

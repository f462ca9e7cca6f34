import Derived.Test.YtcfjhbcpjpgodaaGreatDoorJ29
namespace Go.Proofs.YtcfjhbcpjpgodaaGreatDoor
open Go.RowKit
set_option maxRecDepth 100000
set_option maxHeartbeats 0
set_option linter.all false
section
variable{t:zgW}{l:List zgW}
theorem JY:∀(k:Nat) (t:zgW),Lib.countB t comma=k->Lib.splitB comma 0 k t=yG t 0 0
 |k,t,h=>by
  rcases Lib.indexB_cases t comma with hi|⟨j,hi,_⟩
  .rw [Lib.splitB_miss comma 0 _ t hi,jR t hi]
  .rw [Lib.countB_hit t comma j (by decide) hi,vA] at h;obtain⟨k',rfl⟩:∃k',k=k'+1:=⟨k-1,by omega⟩;rw[Lib.splitB_hit comma 0 k' t j hi,qZ t j hi,vA,JY k' _ (by omega)];rfl
theorem GT(h:z7 t=true):t.size≠0:=by
 have:=zgF (p:=_) h;omega
theorem Qt{x:Nat->Int}{b:zgW}(hg:(behindR x b).2=true)(hf:∀t∈l,z7 t=true):yu l (pcs b)=yu l (ym b).1:=by
 have e0:pcs b=yG b 0 0:=JY _ b rfl;have h2:(ym b).2=true:=by
  cases hb:(ym b).2 with
  |true=>rfl
  |false=>unfold behindR at hg;rw[hb,GN] at hg;cases hg
 by_cases hb:b.size=0
 .have e1:yG b 0 0=[b.extract 0 b.size]:=by
   rw[show yG b 0 0=yG b 0 b.size by rw[hb],kZ,yM _ _ _ (by omega)]
  have e2:(ym b).1=[]:=by unfold ym;rw[zgT hb]
  rw[e0,e1,e2];show yO _ l=l;refine vT l λt ht e=>GT (hf t ht) ?_;rw[e,vf b 0 b.size (zgp _),hb]
 rw[e0]
 congr 1
 unfold ym at h2 ⊢;rw[zgU hb] at h2 ⊢;by_cases hc:(yG b 0 0).all z7=true
 .rw [zgT hc]
 rw[zgU hc] at h2;cases h2
def Yb(t:zgW)(l:List zgW):Bool:=l.any λe=>decide (e=t)
theorem ZL(t e:zgW):∀l:List zgW,yO t (l++[e])=yO t l++if e=t/\Yb t l=false then [] else [e]
 | []=>by
  by_cases h:e=t
  .rw [zgT ⟨h,rfl⟩];simp[yO,h]
  .rw [zgU (λx=>h x.1)];simp[yO,h]
 |a::l=>by
  by_cases h:a=t
  .rw [zgU (by simp[Yb,h])];simp[yO,h]
  .have h1:Yb t (a::l)=Yb t l:=by simp[Yb,h]
   rw[h1];simp only[List.cons_append,yO,if_neg h,ZL t e l]
theorem Xb(t e:zgW)(l:List zgW):Yb t (l++[e])=(Yb t l||decide (e=t)):=by simp[Yb]
theorem Xj(t:zgW)(l:List zgW):(yO t l).length<=l.length:=(xV t l).length_le
theorem ZJ{ps:List zgW}(h:t∈yu l ps):t∈l:=(jk l ps).subset h
theorem Qs(fits:zt->Bool)(l:List zt)(e:zt):zF fits (l++[e])=zF fits l++if fits e=true then [e.fr] else []:=by
 unfold zF;rw[List.filter_append,List.map_append]
 congr 1
 cases h:fits e with
 |true=>rw[List.filter_cons_of_pos h,zgT rfl];rfl
 |false=>rw[List.filter_cons_of_neg (by rw[h];decide),zgU (by decide)];rfl
end
section
open Proofs.Tryz
variable{nb kb cb:Nat}{s:za}{w:World}
theorem Tryz.zd8:(prog.info? 61).map (·.size)=some 7:=by kernel_rfl
def JO(s:za):Array Value:=#[iA s.zc1,iA s.round,iA s.step,iA s.lr,iA s.vr,sA s.lv,sA s.vv]
theorem KN(nb kb cb:Nat)(V:yg)(s:za)(w:World)(hA:NodeAt nb kb cb V s w):
 Calls prog 20 #[pA nb 0] w λe w'=>e=.returned (.agg (JO s))/\BW w w':=by
 obtain⟨w1,aa⟩:=gen (w.alloc (.cells #[iA 0,iA 0,iA 0,iA 0,iA 0,sA ⟨#[]⟩,sA ⟨#[]⟩] 61));have ag:Hid (BW w w1):=by rw[aa];exact bwA w
 have ak:Hid (w1.heap[w.heap.size]? =some (.cells #[iA 0,iA 0,iA 0,iA 0,iA 0,sA ⟨#[]⟩,sA ⟨#[]⟩] 61 (0,0))):=by rw[aa];exact zgr w _
 obtain⟨HA,al,ai⟩:=zC hA (hA.below ag) aa;clear hA aa;go_enter func20,ntmps20;go_wp2_with fail
 rw[<-ai.o];refine rgd (S:=λW=>NodeAt nb kb cb V s W) (al.o.frame λ_ _=>rfl) λhH=>?_;refine zx [0,2,3,4,5,6,7,8,9,10,11,12,13,14,15,16,17,18,19,20,21,22,23,24,25,26,27,28,29,30,31] hH (λx h=>aI (show cE x nb 43 (iA s.round) from h.cell 43 rfl) (aI (show cE x nb 44 (iA s.step) from h.cell 44 rfl) (aI (show cE x nb 39 (iA s.lr) from h.cell 39 rfl) (aI (show cE x nb 41 (iA s.vr) from h.cell 41 rfl) (aI (show cE x nb 40 (sA s.lv) from h.cell 40 rfl) (show cE x nb 42 (sA s.vv) from h.cell 42 rfl)))))) ?_;refine zp 1 λK hK=>?_;go_simp;refine(zI nb kb cb V s _ hH).mono ?_;rintro e w4 ⟨rfl,ab⟩;have ah:=ab.symm;clear ab;subst ah;refine hK.out _ _ hH λhH=>?_;clear hK K
 try simp only[AP,AQ]
 refine zx [32] hH (λ_ h=>h) ?_;refine zp 33 λK hK=>?_;rw[zgT (by rfl)];refine zr 61 _ _ rfl w.heap.size 0 #[iA s.zc1,iA s.round,iA s.step,iA s.lr,iA s.vr,sA s.lv,sA s.vv] rfl rfl 61 #[iA 0,iA 0,iA 0,iA 0,iA 0,sA ⟨#[]⟩,sA ⟨#[]⟩] ak.o (by simp) (by simp[Value.oneCell']) Tryz.zd8 ?_;intro X ad ae;have aj:Hid (cL X w.heap.size #[iA s.zc1,iA s.round,iA s.step,iA s.lr,iA s.vr,sA s.lv,sA s.vv] 61):=ad;have af:Hid (BW w X):=ag.o.drew.trans (ae.below (zgp _));refine hK.out _ _ (HA.o.below af) λhH=>?_;clear hK K hH ad ae;refine dnr ?_;go_wp2;exact zgJ (v:=.agg (JO s)) (kW results20 _ _ w.heap.size 61 _ _ rfl aj underlying61 rfl Tryz.zd8) rfl ⟨rfl,af⟩
def zcv(B:Nat)(es:List Addr)(m:Int)(F R:Nat->Prop)(nb kb rb n i:Nat)(s:za)(w:World)(e:Ending)(w':World):Prop:=
 ∃v cb' F',e=.returned v/\w'.ownsRow w.heap.size 9 1 v s.out.length (s.out.map .string)/\NodeW B es m F' R nb kb rb cb' n i { s with out:=[] } w'/\Goes F R w F' R w'/\∀g,v.ownBlock=some g->¬F' g
theorem NodeAt.sent{nc:Nat}{V:yg}{w':World}(hA:NodeAt nb kb cb V s w)(hb:w'.heap[nb]? =some (.cells (nodeA kb nc V { s with out:=[] }) 135 (0,0)))(hch:qx w' nc [])(hs:∀k,k<w.heap.size->k≠cb->k≠nb->w'.heap[k]? =w.heap[k]?):NodeAt nb kb nc V { s with out:=[] } w':=by
 obtain⟨n1,n2,n3,n4,n5,n6⟩:=hA.rows;exact⟨hb,hA.eds,zb hA.dec λg e hg=>hs g hg (λx=>yF hA.dec hA.chan (x▸e)) (λx=>n1 (x▸e)),λd hd=>zb (hA.cert d hd) λg e hg=>hs g hg (λx=>yF (hA.cert d hd) hA.chan (x▸e)) (λx=>n6 d hd (x▸e)),zb hA.wait λg e hg=>hs g hg (λx=>yF hA.wait hA.chan (x▸e)) (λx=>n2 (x▸e)),zb hA.log λg e hg=>hs g hg (λx=>yF hA.log hA.chan (x▸e)) (λx=>n3 (x▸e)),zb hA.ahead λg e hg=>hs g hg (λx=>yF hA.ahead hA.chan (x▸e)) (λx=>n4 (x▸e)),zb hA.tims λg e hg=>hs g hg (λx=>yF hA.tims hA.chan (x▸e)) (λx=>n5 (x▸e)),hch,hA.alog,hA.awc,hA.acc⟩
theorem zaE{B:Nat}{es:List Addr}{m:Int}{F R:Nat->Prop}{rb n i:Nat}(h:NodeW B es m F R nb kb rb cb n i s w)(hlen:s.out.length<=100):
 Calls prog 31 #[pA nb 0] w (zcv B es m F R nb kb rb n i s w):=by
 obtain⟨V,hA,hf⟩:=h.node;obtain⟨HT,HH,HA,HF⟩:=yi (zav nb 53 cb (nodeA kb cb V s) 135 s.out w hlen hA.blk rfl hA.chan) h hA hf;clear h hA hf;go_enter func31,ntmps31;go_wp2_with fail
 refine HT.o.mono ?_;rintro e w2 ⟨v,nc,rfl,aa,ak,ab,ae,ag,aj,ah,ai,af,hs⟩;have hN:=HA.o.sent ag ab hs;have ad:Hid (zcv B es m F R nb kb rb n i s w (.returned v) w2):=by
  obtain⟨hW,hG⟩:=HH.o.zeb (F':=λk=>F k\/k=nc) (cb':=nc) (s':={ s with out:=[] }) ⟨V,hN,λk hk=>by
   rcases hk with h1|h1|h1
   .exact zgR (HF k (zgR h1))
   .exact zgS h1
   .exact zgR (HF k (zgS (zgS h1)))⟩ rfl (λk hk=>by
   rcases hk with h1|h1
   .exact zgR h1
   .exact zgS (by rw[h1];exact ak)) (λk hk=>by
   rcases hk with h1|h1
   .exact zgt (HH.o.fl k h1).2 af
   rw[h1];exact qq ab) ⟨aj,ah,ai,af,λk hk hn=>hs k hk (λe=>hn (e▸HF cb (zgS (zgR rfl)))) (λe=>hn (e▸HF nb (zgR rfl)))⟩
  refine⟨v,nc,_,rfl,aa,hW,hG,λg hg hF=>?_⟩;rcases hF with h1|h1
  .have h2:=(HH.o.fl g h1).2;have h3:=(aa.lt g hg).1;omega
  exact ae g hg h1
 clear hN aa ab ae ag hs HT;go_wp2;go_ret;exact ad
end
theorem Qb(x:Nat->Int)(b:Nat->Bool)(h:∀i,b i=false):∀k,powB x b k=0
 |0=>rfl
 |k+1=>by
  unfold powB;rw[h k,Qb x b h k];simp
theorem Yv{t:Int}{x:Nat->Int}{fits:zt->Bool}{l:List zt}(hx:Dom x)(ht:0<=t)(h:∀e∈l,fits e=false):Qi t x (sendB fits l)=false:=by
 have hb:∀i,sendB fits l i=false:=λi=>by
  unfold sendB;rw[List.any_eq_false];intro e he;rw[h e he];simp
 unfold Qi;rw[Qb x _ hb 8];have h1:=(yH x 8 (λi _=>hx i)).1;have h2:0<=t*sumTo x 8:=Int.mul_nonneg ht h1;exact zgH (by omega)
section
variable{s:za}{S T i:Nat}{e:Int}{t:zgW}
structure XOk (s:za):Prop where
 form:∀t∈s.wait,z7 t=true
 vr0: -1<=s.vr
 vr1:s.vr<=(s.round:Int)
 lr: -1<=s.lr
 pv:∀e∈s.log,e.m.k=1->-1<=e.m.v
 pa:∀e∈s.ahead,e.m.k=1->-1<=e.m.v
 th:∀t∈s.tims,t.h<12
theorem XOk.send(h:XOk s)(i:Nat)(k v:Int)(nl:Bool)(t:zgW)(hv:k=1->-1<=v):XOk (s.zc8 i k v nl t):=by
 unfold za.zc8;split
 .exact h
 split
 .refine { h with pv:=λe he hk=>?_ }
  rcases List.mem_append.1 (show e∈s.log++[_] from he) with he|he
  .exact h.pv e he hk
  rw[List.mem_singleton.1 he] at hk ⊢;exact hv hk
 exact h
theorem XOk.step(h:XOk s)(st:Nat):XOk (s.zdr st):=⟨h.form,h.vr0,h.vr1,h.lr,h.pv,h.pa,h.th⟩
theorem XOk.none(h:XOk s)(i st:Nat)(k:Int)(hk:k≠1):XOk (s.nothing i k st):=(h.send i k 0 true ⟨#[]⟩ (λe=>absurd e hk)).step st
theorem XOk.timer(h:XOk s)(hh:s.zc1<12)(num ticks:Nat):XOk (s.timer num ticks):=by
 refine { h with th:=λt ht=>?_ };have h1:=(gT _ _ _ (by simp)).mem_iff.1 (show t∈upT s.tims.length (s.tims++[_]) s.tims.length from ht);rcases List.mem_append.1 h1 with h1|h1
 .exact h.th t h1
 rw[List.mem_singleton.1 h1];show(s.zc1:Int)<12;omega
theorem XOk.begin(h:XOk s)(hh:s.zc1<12)(i r:Nat)(hr:s.vr<=(r:Int)):XOk (s.zc9 i r):=by
 have h1:XOk (s.zdh r 1):={ h with vr1:=hr };unfold za.zc9;split
 .exact h1.send i 1 s.vr false _ (λ_=>h.vr0)
 exact h1.timer hh 1 3
theorem XOk.keep(h:XOk s)(hh:s.zc1<12)(i:Nat)(p:zt):XOk (s.zdG i p):=by
 have h1:XOk ((s.kept p).zdb ((s.kept p).ahead.filter λe=> !(s.kept p).zc7 e.m)):=⟨λt ht=>h.form t (ZJ (show t∈yu s.wait (pcs p.m.s) from ht)),Int.le_refl _,by show(-1:Int)<=(s.round:Int);omega,Int.le_refl _,λe he hk=>h.pa e ((List.mem_filter.1 he).1) hk,λ_ he=>(by cases he),h.th⟩;have hk:(s.kept p).zc1=s.zc1+1:=by
  show(s.dec++[_]).length=s.dec.length+1;simp
 unfold za.zdG;rw[kM];split
 .exact { h1 with vr1:=by show(-1:Int)<=((0:Nat):Int);omega }
 rename_i h2;refine h1.begin ?_ i 0 (by show(-1:Int)<=((0:Nat):Int);omega);show(s.kept p).zc1<12;omega
theorem Kg(hx:Dom s.x)(hl:s.log=[])(fits:zt->Bool):s.most fits=false:=by
 unfold za.most;rw[hl];exact Yv hx (by omega) (λe he=>by cases he)
theorem zbR(hx:Dom s.x)(hl:s.log=[])(i:Nat):s.zdp (za.zdm i) i=(false,s):=by
 have hp:∀r fits,propF s.log r fits=none:=λr fits=>by rw[hl];rfl
 have h1:za.zdm i s=(false,s):=jP (ZP λq _=>hp _ _);have h2:s.zde i=(false,s):=jO λr _ _=>by
  unfold za.zdq;rw[hl,Yv hx (by omega) (λe he=>by cases he),Bool.and_false]
 have h3:∀fits,s.zc6 i fits=(false,s):=λfits=>by
  by_cases h:s.step=1
  .exact y7 h (hp _ _)
  exact yZ h
 have h4:s.zdy i=(false,s):=qY (hp _ _);have h5:s.zdd i=(false,s):=by unfold za.zdd;rw[Kg hx hl,zgU (by rintro⟨_,h⟩;cases h)]
 have h6:s.zdi=(false,s):=by unfold za.zdi;rw[Kg hx hl,zgU (by rintro⟨_,_,h⟩;cases h)]
 have h7:s.zdl=(false,s):=by unfold za.zdl;rw[Kg hx hl,zgU (by rintro⟨_,h⟩;cases h)]
 unfold za.zdp;rw[h1,h2,h3,h3,h4,h5,h6,h7];rfl
theorem NOk.last(h:NOk S T i e s)(hh:s.zc1=12):s.log=[]/\s.ahead=[]:=by
 constructor
 .cases hl:s.log with
  |nil=>rfl
  |cons a l=>
   have:=h.log.hh a (by rw[hl];exact zgL ..);omega
 cases hl:s.ahead with
 |nil=>rfl
 |cons a l=>
  have:=h.ahead.hh a (by rw[hl];exact zgL ..);omega
theorem J3(h:NOk S T i e s)(hh:s.zc1=12)(j:Nat):s.zdp (za.zdm j) j=(false,s):=zbR h.dom (h.last hh).1 j
theorem XOk.one(h:XOk s)(hn:NOk S T i 0 s)(ht:(s.zdp (za.zdm i) i).1=true):XOk (s.zdp (za.zdm i) i).2:=by
 have hh:s.zc1<12:=by
  have h1:=hn.hgt;rcases Nat.lt_or_ge s.zc1 12 with h2|h2
  .exact h2
  rw[J3 hn (by omega)] at ht;cases ht
 unfold za.zdp at ht ⊢;split
 .rename_i h1;unfold za.zdm at h1 ⊢;split
  .exact h
  exact h.keep hh i _
 rename_i h0;rw[zgU h0] at ht;split
 .unfold za.zde;split
  .exact h
  rename_i r hr;have h4:s.zdq r=true:=List.find?_some hr;unfold za.zdq at h4;have h5:=zgF (Bool.and_eq_true_iff.1 h4).1;have:=h.vr1;exact h.begin hh i r (by omega)
 have aa:∀fits,XOk (s.zc6 i fits).2:=λfits=>by
  unfold za.zc6;split
  .split
   .exact h
   dsimp only
   split
   .exact (h.send i 2 0 false _ (by omega)).step 2
   exact h.none i 2 2 (by omega)
  exact h
 split
 .exact aa _
 split
 .exact aa _
 split
 .unfold za.zdy;split
  .split
   .exact h
   rename_i p _;have h6:XOk (s.zdk p.m.s):={ h with vr0:=by show(-1:Int)<=(s.round:Int);omega,vr1:=Int.le_refl _ };dsimp only
   split
   .have h7:XOk (s.zdk p.m.s).zdx:={ h6 with lr:=h6.vr0 };exact(h7.send i 3 0 false _ (by omega)).step 3
   exact h6
  exact h
 split
 .unfold za.zdd;split
  .exact h.none i 3 3 (by omega)
  exact h
 split
 .unfold za.zdi;split
  .exact h.timer hh 2 2
  exact h
 unfold za.zdl;split
 .exact h.timer hh 3 2
 exact h
def YOk(S T i:Nat)(s:za):Prop:=NOk S T i 0 s/\XOk s
theorem XX:∀(f:Nat) (s:za),YOk S T i s->2190<f+s.zds->∃k,RunTo (za.zdm i) i (YOk S T i) (za.zeI i f s) k s
 |0,s,h,hf=>by
  have:=h.1.zds;omega
 |f+1,s,h,hf=>by
  by_cases h1:(s.zdp (za.zdm i) i).1=true
  .obtain ⟨h2,h3⟩:=h.1.one h1
   obtain⟨k,hk⟩:=XX f _ ⟨h2,h.2.one h.1 h1⟩ (by omega);refine⟨k+1,h,h1,?_⟩;unfold za.zeI;rw[zgT h1];exact hk
  .refine ⟨0,h,by simpa using h1,?_⟩
   unfold za.zeI;rw[zgU h1]
theorem YOk.runs(h:YOk S T i s):(∃k,RunTo (za.zdm i) i (YOk S T i) (s.zdv i) k s)/\YOk S T i (s.zdv i):=by
 obtain⟨k,hk⟩:=XX 2200 s h (by omega);exact⟨⟨k,hk⟩,Q3 k s hk⟩
theorem YOk.tell(h:YOk S T i s)(k:Nat)(hk:k<s.zc1):YOk S T i (s.zdF k):=by
 refine⟨h.1.tell k hk,?_⟩;unfold za.zdF;split
 .exact h.2
 exact⟨h.2.form,h.2.vr0,h.2.vr1,h.2.lr,h.2.pv,h.2.pa,h.2.th⟩
theorem XOk.take(h:XOk s){e:zt}(he:e.m.k=1->-1<=e.m.v):XOk (s.zdA e):=by
 have hl:∀l:List zt,(∀e∈l,e.m.k=1->-1<=e.m.v)->∀x∈l++[e],x.m.k=1->-1<=x.m.v:=λl hl x hx hk=>by
  rcases List.mem_append.1 hx with hx|hx
  .exact hl x hx hk
  rw[List.mem_singleton.1 hx] at hk ⊢;exact he hk
 unfold za.zdA;split
 .exact { h with pv:=hl _ h.pv }
 exact { h with pa:=hl _ h.pa }
theorem YOk.exp{t:yf}(h:YOk S T i s)(ht:t.h<12):YOk S T i (s.zdC i t):=by
 refine⟨h.1.exp,?_⟩;unfold za.zdC;split
 .rename_i h0;split
  .exact h.2.none i 2 2 (by omega)
  split
  .exact h.2.none i 3 3 (by omega)
  split
  .have:=h.2.vr1
   exact h.2.begin (by omega) i _ (by omega)
  exact h.2
 exact h.2
theorem YOk.pop(h:YOk S T i s):YOk S T i s.zdW:=by
 refine⟨h.1.pop,{ h.2 with th:=λt ht=>h.2.th t ?_ }⟩;have aa:t∈xo s.tims:=ht;cases hl:s.tims with
 |nil=>rw[hl] at aa;cases aa
 |cons a l=>rw[hl] at aa;exact List.mem_cons_of_mem _ ((qS a l).mem_iff.1 aa)
theorem YOk.zdn(h:YOk S T i s):YOk S (T+1) i s.zdn:=⟨h.1.zdn,⟨h.2.form,h.2.vr0,h.2.vr1,h.2.lr,h.2.pv,h.2.pa,h.2.th⟩⟩
theorem YOk.zdD:∀(f:Nat) (s:za),YOk S T i s->YOk S T i (za.zdD i f s)
 |0,_,h=>h
 |f+1,s,h=>by
  rw[za.zdD];split
  .exact h
  .rename_i t l hl;split
   .exact YOk.zdD f _ (h.pop.exp (h.2.th t (by rw[hl];exact zgL ..))).runs.2
   .exact h
theorem YOk.again(h:YOk S T i s):YOk S T i s.again:=by
 refine⟨h.1.again,?_⟩;unfold za.again;split
 .exact ⟨h.2.form,h.2.vr0,h.2.vr1,h.2.lr,h.2.pv,h.2.pa,h.2.th⟩
 exact h.2
theorem YOk.tick(h:YOk S T i s):YOk S (T+1) i (s.zdH i):=(YOk.zdD _ _ h.zdn).again
theorem YOk.sub(h:YOk S T i s):YOk S T i (s.zdT t):=by
 refine⟨h.1.sub,?_⟩;unfold za.zdT;split
 .rename_i h1;refine { h.2 with form:=λu hu=>?_ };rcases List.mem_append.1 (show u∈s.wait++[t] from hu) with h4|h4
  .exact h.2.form u h4
  rw[List.mem_singleton.1 h4];exact(KJ h1).1
 exact h.2
theorem YOk.sent(h:YOk S T i s):YOk S T i { s with out:=[] }:=⟨h.1.sent,⟨h.2.form,h.2.vr0,h.2.vr1,h.2.lr,h.2.pv,h.2.pa,h.2.th⟩⟩
theorem zby(h:yT t=true)(hk:(decV t).k=1): -1<=(decV t).v:=by
 unfold decV at hk ⊢;rw[zgT h] at hk ⊢;have aa:byt t 0=1:=hk;show-1<=vOf (byt t 0) (byt t 4);have h4:0<=byt t 4:=by unfold byt;omega
 unfold vOf;rw[zgT aa];omega
theorem YOk.zef{n:Nat}{fr:zgW}(h:YOk S T i s):YOk S T i (s.zdc n i fr):=by
 unfold za.zdc;split
 .rename_i h1;have hm:=ZO h1.1;unfold za.zdV;split
  .exact h.tell _ (by omega)
  split
  .exact h
  rename_i h2;exact(YOk.runs ⟨h.1.take h2 hm,h.2.take (e:=⟨decV fr,fr,false⟩) (zby h1.1)⟩).2
 exact h
end
section
open Proofs.Tryz
theorem NodeAt.zgg{nb kb cb gb cap:Nat}{V:yg}{s:za}{l':List zt}{w W:World}(hA:NodeAt nb kb cb V s w)(hv:V.av=.slice (some (aA gb 0)) s.ahead.length cap)(hl:l'.length=s.ahead.length)(hr:yh W gb cap l')(hs:zm (λk=>k=gb) w W):NodeAt nb kb cb V { s with ahead:=l' } W:=by
 obtain⟨n1,n2,n3,n4,n5,n6⟩:=hA.rows;have ho:V.av.ownBlock=some gb:=by rw[hv];rfl
 have hg:∀{g:Nat},g=gb->V.av.ownBlock=some g:=λe=>by rw[e];exact ho
 refine⟨?_,hA.eds,?_,?_,?_,?_,?_,?_,?_,hA.alog,hA.awc,hA.acc⟩
 .exact (hs.block nb (zj hA.blk) (λe=>n4 (hg e))).trans hA.blk
 .exact zb hA.dec λg e h=>hs.block g h (λx=>zT hA.dec hA.ahead (by decide) g e (hg x))
 .exact λd hd=>zb (hA.cert d hd) λg e h=>hs.block g h (λx=>zT (hA.cert d hd) hA.ahead (by decide) g e (hg x))
 .exact zb hA.wait λg e h=>hs.block g h (λx=>zT hA.wait hA.ahead (by decide) g e (hg x))
 .exact zb hA.log λg e h=>hs.block g h (λx=>hA.alog g e (hg x))
 .have:=YE (base:=0) hr (zgv _)
  rw[hl,<-hv] at this;show W.ownsRow 0 164 9 V.av l'.length (kF l');rw[hl];exact this
 .exact zb hA.tims λg e h=>hs.block g h (λx=>zT hA.tims hA.ahead (by decide) g e (hg x))
 obtain⟨a,b,hc⟩:=hA.chan;exact⟨a,b,(hs.block cb (qq hA.chan) (λx=>yF hA.ahead hA.chan (hg x))).trans hc⟩
theorem Tryz.zd2:(prog.info? 57).map (·.size)=some 7:=by kernel_rfl
theorem zcL(nb kb cb b0:Nat)(e:zt)(V:yg)(s:za)(W:World)(hA:NodeAt nb kb cb V s W)(c0:W.cell? (aA b0 0)=some (pA nb 0))(hx:Dom s.x)(hp:0<sumTo s.x 8)(hh:s.zc1<=12)(hr:0<=e.m.r/\e.m.r<=20):
 Calls prog 105 #[.agg e.cells,pA b0 0] W λen w'=>en=.returned (bA (s.zc7 e.m))/\BW W w':=by
 obtain⟨⟨K,H,R,f,v,nl,t⟩,fr,own⟩:=e;show Calls prog 105 #[.agg #[iA K,iA H,iA R,iA f,iA v,bA nl,sA t,sA fr,bA own],pA b0 0] W _;have aa:BW W (W.alloc (.cells #[iA K,iA H,iA R,iA f,iA v,bA nl,sA t,sA fr,bA own] 164)):=bwA W;have c1:cE (W.alloc (.cells #[iA K,iA H,iA R,iA f,iA v,bA nl,sA t,sA fr,bA own] 164)) b0 0 (pA nb 0):=cell?_alloc_old _ c0;have ad:Hid ((W.alloc (.cells #[iA K,iA H,iA R,iA f,iA v,bA nl,sA t,sA fr,bA own] 164)).rangeAt W.heap.size 0 [iA K,iA H,iA R,iA f,iA v,bA nl,sA t]):=λj u hu=>by
  have hj:j<7:=by have:=(List.getElem?_eq_some_iff.1 hu).1;simpa using this
  rw[zgs _ W.heap.size _ _ _ _ (zgr W _),<-hu,zg0];have:j=0\/j=1\/j=2\/j=3\/j=4\/j=5\/j=6:=by omega
  rcases this with rfl|rfl|rfl|rfl|rfl|rfl|rfl<;>rfl
 obtain⟨HC,af⟩:=ze (vM nb kb cb ⟨K,H,R,f,v,nl,t⟩ V s (W.alloc (.cells #[iA K,iA H,iA R,iA f,iA v,bA nl,sA t,sA fr,bA own] 164)) (hA.below aa) hx hp hh hr) aa;clear hA c0 hx hp hh hr aa;go_enter func105,ntmps105;go_wp2_with (first|(refine zgX rfl 57 _ rfl W.heap.size 0 rfl [iA K,iA H,iA R,iA f,iA v,bA nl,sA t] _ ad underlying57 rfl Tryz.zd2 ?_)|(go_at_call 106;refine HC.o.mono ?_;rintro e w2 ⟨rfl,ab⟩;have ae:=zc ab;clear ab)|fail)
 go_ret;exact⟨rfl,yV af ae⟩
theorem zaV(nb kb cb b0:Nat)(V:yg)(s:za)(W:World)(hA:NodeAt nb kb cb V s W)(c0:W.cell? (aA b0 0)=some (pA nb 0))(hx:Dom s.x)(hp:0<sumTo s.x 8)(hh:s.zc1<=12)(hr:∀e∈s.ahead,0<=e.m.r/\e.m.r<=20):
 Calls prog 104 #[V.av,.func (.func 105) #[] #[pA b0 0]] W (zcZ V.av (s.ahead.filter λe=> !s.zc7 e.m) W):=by
 rcases hA.ahead.2 with⟨e0,hn⟩|⟨gb,cap,cur,e0,_,hg,ah,ak,aj,ht⟩
 .rw [e0,List.eq_nil_of_length_eq_zero hn];exact vO _ W
 have aa:yh W gb cap s.ahead:=⟨cur,hg,ah,ak,aj,ht⟩;have ai:∀e,e∈s.ahead->b0≠gb:=λe he al=>by
  have ad:0<s.ahead.length:=List.length_pos_of_mem he;obtain⟨b,o,eb,_,ag⟩:=aa.ents 0 ad;cases eb;have h1:=ag 0 (iA (s.ahead.getD 0 zJ).m.k) rfl;rw[al] at c0;simp only[Nat.zero_mul,Nat.add_zero] at h1;rw[c0] at h1;cases h1
 have ae:Vp 105 #[pA b0 0] (λe=>s.zc7 e.m) s.ahead gb cap W:=λW' e l' he hl _ ab af=>
  zcL nb kb cb b0 e V { s with ahead:=l' } W' (hA.zgg e0 hl ab af) ((zgw (w:=W) (a:=(aA b0 0)) (af.block b0 (zgx _ _ c0) (ai e he))).trans c0) hx hp hh (hr e he)
 rw[e0];refine(Yc _ _ (λe=>s.zc7 e.m) s.ahead gb cap W (enters_of func105 (by decide) rfl) aa ae).mono ?_;rintro e w' ⟨rfl,ab,hs⟩;exact⟨_,rfl,YE ab (zgv _),λg h=>h,{ hs with block:=λk hk hn=>hs.block k hk (λe=>hn (by rw[e];rfl)) }⟩
variable{B nb kb rb cb n i:Nat}{es:List Addr}{m:Int}{F R:Nat->Prop}{s:za}
theorem X8(y:Nat->Int):∀v∈(regA y).toList,v.oneCell'=true:=λv hv=>by
 unfold regA yd at hv;obtain⟨i,_,rfl⟩:=List.mem_map.1 hv;rfl
theorem Gr(kb cb:Nat)(V:yg)(s:za)(y:Nat->Int):((nodeA kb cb V s).toList.take 1++(regA y).toList++(nodeA kb cb V s).toList.drop (1+(regA y).size)).toArray=nodeA kb cb V { s with x:=y }:=by
 rw[zg];unfold nodeA Kd regA;simp[yd,List.range,List.range.loop]
theorem Gs(kb cb:Nat)(V:yg)(s:za)(v:Value)(d:YT)(cv:Value):(nodeA kb cb V s).setIfInBounds 35 v=nodeA kb cb { V with dv:=v,ds:=V.ds++[(d,cv)] } { s with dec:=s.dec++[d] }:=by
 unfold nodeA Kd;simp[yd,List.range,List.range.loop]
theorem J9{pb bx:Nat}{V:yg}{y:Nat->Int}{E:Array Value}{t fr:zgW}{L:List zgW}{cv:Value}{p3 dp:Option Addr}{cap3 dc:Nat}{w2 Z w3 w4:World}
 (h:NodeW B es m F R nb kb rb cb n i s w2) (hA:NodeAt nb kb cb V s w2) (hf:∀k,V.zd4 nb cb k->F k) (hbx:w2.heap[bx]? =some (.cells E 164 (0,0))) (hpb:w2.heap[pb]? =some (.cells (regA y) 116 (0,0))) (hdv:V.dv=.slice dp V.ds.length dc) (hxv:Value.ownBlock (.slice dp V.ds.length dc)≠some bx) (hpv:Value.ownBlock (.slice dp V.ds.length dc)≠some pb) (hxn:bx≠nb) (hpn:pb≠nb) (hBZ:BW w2 Z)
 (hown3:w3.ownsRow 0 175 4 (.slice p3 (V.ds.length+1) cap3) (V.ds.length+1) (gG V.ds++[sA t,sA fr,cv,bA false])) (hgrow3:Z.grownBy w3 (Value.ownBlock (.slice dp V.ds.length dc))) (hat3:Value.ownBlock (.slice p3 (V.ds.length+1) cap3)=Value.ownBlock (.slice dp V.ds.length dc)\/Value.ownBlock (.slice p3 (V.ds.length+1) cap3)=some Z.heap.size)
 (hq4:w4.heap[nb]? =some (.cells ((nodeA kb cb V s).setIfInBounds 35 (.slice p3 (V.ds.length+1) cap3)) 135 (0,0))) (ho4:ko nb w3 w4) (hcv:Z.ownsRow 0 9 1 cv L.length (L.map .string)) (hcb:∀g,cv.ownBlock=some g->w2.heap.size<=g):
 ∃F',NodeW B es m F' R nb kb rb cb n i { s with dec:=s.dec++[⟨t,fr,L,false⟩] } w4/\Goes F R w2 F' R w4/\w4.heap[bx]? =some (.cells E 164 (0,0))/\w4.heap[pb]? =some (.cells (regA y) 116 (0,0)):=by
 rw[<-hdv] at hxv hpv hgrow3 hat3;have hs:zm (λk=>k=nb\/some k=V.dv.ownBlock) w2 w4:=by
  refine⟨ho4.os.trans (hgrow3.os.trans hBZ.os),ho4.tape.trans (hgrow3.tape.trans hBZ.tape),ho4.output.trans (hgrow3.output.trans hBZ.output),?_,λk hk hn=>?_⟩
  .rw [ho4.size];exact zgu hBZ.size hgrow3.size
  rw[ho4.block k (λe=>hn (zgR e)),hgrow3.block k (zgt hk hBZ.size) (λe=>hn (zgS e)),hBZ.block k hk]
 have hnl:nb<w2.heap.size:=zj hA.blk;have ab:∀g,Value.ownBlock (.slice p3 (V.ds.length+1) cap3)=some g->V.dv.ownBlock=some g\/w2.heap.size<=g:=λg hg=>by
  rcases hat3 with h1|h1
  .exact zgR (h1.symm.trans hg)
  rw[h1] at hg;cases hg;exact zgS hBZ.size
 have ad:=hA.rows.1;have aa:∀g,Value.ownBlock (.slice p3 (V.ds.length+1) cap3)=some g->g≠nb:=λg hg e=>by
  rcases ab g hg with h1|h1
  .exact ad (e▸h1)
  omega
 have ae:∀g,cv.ownBlock=some g->w4.heap[g]? =Z.heap[g]? :=λg hg=>by
  have h1:=hcb g hg;have h2:=(hcv.lt g hg).2;rw[ho4.block g (by omega),hgrow3.block g h2 (λe=>by have:=(hA.dec.lt g e.symm).2;omega)]
 obtain⟨F',h1,h2⟩:=h.zfP hA hf (.slice p3 (V.ds.length+1) cap3) cv ⟨t,fr,L,false⟩ (by rw[<-Gs];exact hq4) (by rw[Jz];exact zb hown3 (λg hg _=>ho4.block g (aa g hg))) (zb hcv λg hg _=>ae g hg) hcb (by
  rcases hat3 with h1|h1
  .exact zgR h1
  refine zgS λg hg=>?_;rw[h1] at hg;cases hg;exact hBZ.size) hs
 exact⟨F',h1,h2,(hs.block bx (zj hbx) (λe=>e.elim hxn (λe=>hxv e.symm))).trans hbx,(hs.block pb (zj hpb) (λe=>e.elim hpn (λe=>hpv e.symm))).trans hpb⟩
theorem za9{S T:Nat}(p:zt){w:World}(h:NodeW B es m F R nb kb rb cb n i s w)(ok:NOk S T i 0 s)(hT:T<=1000000000000)(hS:S<=900000000000)(hp:p∈s.log)(hg:s.zdK p.m.s=true):
 Calls prog 153 #[pA nb 0,.agg p.cells] w (yK B es m F R nb kb rb cb n i (true,s.zdG i p) w):=by
 obtain⟨V,hA,hf⟩:=h.node;obtain⟨iW,bt,bq,bp,bo⟩:=info_parts Tryz.zfN;have bs:=(ok.log.ok p hp).z;have b5:=zc (ok.next (st:=1) (e:= -1) hp hg (λe=> !(s.kept p).zc7 e.m) (by omega) (by omega));have bH:=zc (ok.st (by omega) hT hS);obtain⟨bZ,b1⟩:=ze hT hS;have b6:Hid (s.zc1<12):=by
  have h1:=ok.log.hh p hp;unfold Hid;omega
 have bT:=zl hA.dec;obtain⟨dp,dc,edv⟩:=bT;obtain⟨⟨kd,H,r,f,v,nl,t⟩,fr,own⟩:=p;have bQ:t.size<=24:=bs;obtain⟨y,hy⟩:∃y,(y,true)=behindR s.x t:=⟨(behindR s.x t).1,by rw[<-show(behindR s.x t).2=true from hg]⟩;have HY:Hid ((behindR s.x t).1=y):=by unfold Hid;rw[<-hy]
 obtain⟨a11,aM⟩:=h.glob.sent.at 11 (by omega);show Calls prog 153 #[pA nb 0,.agg #[iA kd,iA H,iA r,iA f,iA v,bA nl,sA t,sA fr,bA own]] w _;obtain⟨w1,aU⟩:=gen (w.alloc (.cells #[iA kd,iA H,iA r,iA f,iA v,bA nl,sA t,sA fr,bA own] 164));have aO:BW w w1:=by rw[aU];exact bwA w
 have a8:w1.heap[w.heap.size]? =some (.cells #[iA kd,iA H,iA r,iA f,iA v,bA nl,sA t,sA fr,bA own] 164 (0,0)):=by rw[aU];exact zgr w _
 have C6:Hid (cN w1 w 6 (sA t)):=zgs w1 w.heap.size 6 _ _ _ a8;have aE:Hid (∀W,BW w1 W->Calls prog 94 #[.agg (regA s.x),sA t] W λe w'=>e=.returned (.tuple #[.agg (regA y),.nilIface])/\BW W w'):=λW hW=>by
  have bu:=h.glob.below h.bl (aO.trans (hW.mono aO.size));have h1:=zac (o:=true) s.x t a11 m y W ok.dom (by omega) (bu.sent.cell 11 _ _ rfl aM) bu.len hy;simp only[if_true] at h1;exact h1
 have bI:Hid (w1.rangeAt nb 1 (yd s.x)):=(hA.below aO).reg;obtain⟨aK,HH,HA,HF,bh,HP,HG,aX⟩:=vF edv h hA hf ok hp hg aO;obtain⟨cg,bY⟩:=ze a8 aU;clear h hA hf ok hT hS hp hg bs hy aM aO a8 aU edv;go_enter func153,ntmps153
 go_upto_region 1 with fail
 rw[<-bY.o]
 go_cut [5,6] (λu5 u6 wc=>∃pb,u5=pA pb 0/\u6=.nilIface/\cL wc pb (regA y) 116/\w1.heap.size<=pb/\BW w1 wc)
 case first=>
  refine rgd (S:=λX=>BW w1 X) ((zgq _ w1).drew) λhH=>?_;refine takeN [(0,some 8,pA nb 0),(1,some 9,pA nb 0),(2,some 10,pA nb 1),(3,some 11,.agg (regA s.x)),(4,some 12,pA w.heap.size 0),(5,some 13,pA w.heap.size 6),(6,some 14,sA t)] _ _ hH (by repeat(first|exact zgY|((first|refine tkc rfl rfl (zg3 (by rfl) 116 _ rfl nb 1 rfl (yd s.x) _ (λw h=>Ext.range bI (Ext.of h)) underlying116 rfl (by rw[Tryz.zc2];simp[yd])) ?_|(refine tkc rfl rfl (zgR ⟨by rfl,λx h=>?_⟩) ?_;focus(have f0:cN x w 6 (sA t):=Ext.cell C6.o (Ext.of h);go_simp;done)));simp only[AP]))) ?_;simp only[zh,AP,pA];refine gn 7 11 (λK hK=>?_) λK hK=>?_
  .go_simp;refine(aE _ (by first|exact hH|exact(zgq _ w1).drew)).mono ?_;rintro en X2 ⟨rfl,aN⟩;have av:BW w1 X2:=(zgq _ w1).drew.trans (aN.mono (zgp _));clear aN;refine hK.out _ _ av λhH=>?_;clear hK K
   try simp only[AP,AQ]
   refine zx [8,9,10] hH (λ_ h=>h) ?_;refine zp 11 λK hK=>?_;have z0:=zX;go_simp;clear z0;obtain⟨X3,ae⟩:=gen (X2.alloc (.cells (regA zA) 116));have bU:BW X2 X3:=by rw[ae];exact bwA X2
   have a1:X3.heap[X2.heap.size]? =some (.cells (regA zA) 116 (0,0)):=by rw[ae];exact zgr X2 _
   rw[<-ae];have aH:BW w1 X3:=av.trans (bU.mono av.size);refine hK.out _ _ aH λhH=>?_;clear hK K ae
   try simp only[AP,AQ]
   refine zp 12 λK hK=>?_;rw[zgT (by rfl)];refine zu 116 _ _ rfl X2.heap.size y rfl rfl 116 (regA zA) a1 (zg _) Tryz.zc2 ?_;intro X aZ a6;have hX:BW w1 X:=aH.trans (a6.below av.size);refine hK.out _ _ hX λhH=>?_;clear hK K
   try simp only[AP,AQ]
   refine zx [13] hH (λ_ h=>h) ?_;refine dnr ?_;go_wp2_with fail
   go_meet
   case rel=>exact⟨X2.heap.size,rfl,rfl,aZ,av.size,hX⟩
  have z0:=zX;go_simp;clear z0;obtain⟨X3,ae⟩:∃z,z=(w1.alloc (.cells (regA zA) 116)).drew:=⟨_,rfl⟩;have aH:BW w1 X3:=by rw[ae];exact(bwA w1).drew
  have a1:X3.heap[w1.heap.size]? =some (.cells (regA zA) 116 (0,0)):=by rw[ae];exact zgr w1 _
  rw[<-ae];refine hK.out _ _ aH λhH=>?_;clear hK K ae
  try simp only[AP,AQ]
  refine zp 7 λK hK=>?_;go_simp;refine(aE _ (by first|exact hH|exact(zgq _ w1).drew)).mono ?_;rintro en X2 ⟨rfl,aN⟩;have av:BW w1 X2:=aH.trans (aN.mono aH.size);have bR:=blk a1 aN;refine hK.out _ _ av λhH=>?_;clear hK K
  try simp only[AP,AQ]
  refine zx [8,9,10] hH (λ_ h=>h) ?_;refine zp 12 λK hK=>?_;rw[zgT (by rfl)];refine zu 116 _ _ rfl w1.heap.size y rfl rfl 116 (regA zA) bR (zg _) Tryz.zc2 ?_;intro X aZ a6;have hX:BW w1 X:=av.trans (a6.below (zgp _));refine hK.out _ _ hX λhH=>?_;clear hK K
  try simp only[AP,AQ]
  refine zx [13] hH (λ_ h=>h) ?_;refine dnr ?_;go_wp2_with fail
  go_meet
  case rel=>exact⟨w1.heap.size,rfl,rfl,aZ,zgp _,hX⟩
 obtain⟨pb,rfl,rfl,br,bS,bd⟩:=hcut;obtain⟨w2,bP⟩:=gen wc;subst bP;have bn:Hid (BW w w2):=aX.o.trans (bd.mono aX.o.size);have ab:Hid (cL w2 w.heap.size #[iA kd,iA H,iA r,iA f,iA v,bA nl,sA t,sA fr,bA own] 164):=blk cg bd;obtain⟨aR,bN,aq⟩:=zC br (HH.o.below bn) (HA.o.below bn);have bK:Hid (w2.ownsRow 0 175 4 (.slice dp V.ds.length dc) V.ds.length (gG V.ds)):=by
  have h1:=aq.o.dec;rw[aK.o] at h1;exact h1
 have aQ:Hid (nb≠w.heap.size):=λe=>by have:=zj HA.o.blk;omega
 have bJ:Hid (pb≠nb):=λe=>by have h1:=zj HA.o.blk;have h2:=aX.o.size;omega
 have aP:Hid (V.dv.ownBlock≠some w.heap.size):=λe=>by have:=(HA.o.dec.lt _ e).2;omega
 have bf:Hid (V.dv.ownBlock≠some pb):=λe=>by have h1:=(HA.o.dec.lt _ e).2;have h2:=aX.o.size;omega
 rw[aK.o] at aP bf;have bG:Hid (w.heap.size<w2.heap.size):=zj ab;have bM:Hid (nb<w2.heap.size):=zj aq.o.blk;have bL:Hid (Value.ownBlock (.slice dp V.ds.length dc)≠some nb):=by have h1:=aq.o.rows.1;rw[aK.o] at h1;exact h1
 have aS:=zc aq.o.blk;have aD:Hid ((nodeA kb cb V s)[35]? =some (.slice dp V.ds.length dc)):=by rw[<-aK.o];rfl
 have C35:Hid (cE w2 nb 35 (.slice dp V.ds.length dc)):=aq.o.cell 35 aD;have aJ:Hid (V.ds.length<=12):=by have h1:=aq.o.len;have h2:=b6.o;unfold Hid;omega
 obtain⟨CT,bc⟩:=gen (certTo (votesForB 3 r t) s.log 8);have aw:Hid (∀W,BW w2 W->Calls prog 185 #[pA nb 0,.agg #[iA kd,iA H,iA r,iA f,iA v,bA nl,sA t,sA fr,bA own]] W λe w'=>∃v,e=.returned v/\w'.ownsRow W.heap.size 9 1 v (CT).length ((CT).map .string)/\BW W w'):=λW hW=>by
  rw[bc];exact ZT nb kb cb ⟨⟨kd,H,r,f,v,nl,t⟩,fr,own⟩ V s W (aq.o.below hW) (by have:=bH.o.1.log;omega)
 have cd:=zc bc;clear bc;clear br bS bd aE bI C6
 go_upto_region 4 with fail
 go_cut [] (λwc=>∃F',NodeW B es m F' R nb kb rb cb n i { s with dec:=s.dec++[⟨t,fr,CT,false⟩] } wc/\Goes F R w2 F' R wc/\cL wc w.heap.size #[iA kd,iA H,iA r,iA f,iA v,bA nl,sA t,sA fr,bA own] 164/\cL wc pb (regA y) 116)
 case first=>
  refine rgd (S:=λW=>cL W w.heap.size #[iA kd,iA H,iA r,iA f,iA v,bA nl,sA t,sA fr,bA own] 164) ab λhH=>?_;refine takeN [(0,some 20,pA nb 0),(1,some 21,pA nb 0),(2,some 22,pA nb 0),(3,some 23,pA nb 35),(5,some 25,pA w.heap.size 0),(6,some 26,pA w.heap.size 6),(7,some 27,sA t),(8,some 28,pA w.heap.size 7),(9,some 29,sA fr),(10,some 30,pA nb 0),(11,some 31,.agg ([iA kd,iA H,iA r,iA f,iA v,bA nl,sA t,sA fr,bA own]).toArray)] _ _ hH (by repeat(first|exact zgY|((first|refine tkc rfl rfl (zg3 (by rfl) 164 _ rfl w.heap.size 0 rfl ([iA kd,iA H,iA r,iA f,iA v,bA nl,sA t,sA fr,bA own]) _ (λw h=>yQ h) underlying164 rfl (by rw[Tryz.zc5];rfl)) ?_|(refine tkc rfl rfl (zgR ⟨by rfl,λx h=>?_⟩) ?_;focus(have f0:cN x w 6 (sA t):=zgs x w.heap.size 6 _ _ _ h;have f1:cN x w 7 (sA fr):=zgs x w.heap.size 7 _ _ _ h;go_simp;done)));simp only[AP]))) ?_;simp only[zh,AP,pA];have c35d:cE w2.drew nb 35 (.slice dp V.ds.length dc):=C35.o;refine gn 4 12 (λK hK=>?_) λK hK=>?_
  .go_simp;refine hK.out _ _ ab λhH=>?_;clear hK K
   try simp only[AP,AQ]
   refine zp 12 λK hK=>?_;go_simp;refine(aw _ ((zgq _ w2).drew)).mono ?_;rintro en X ⟨cv,rfl,ar,ba⟩;obtain⟨cp,cc,rfl⟩:=zl ar;have ak:BW w2 X:=(zgq _ w2).drew.trans (ba.mono (zgp _));refine hK.out _ _ (blk ab ak) λhH=>?_;clear hK K
   try simp only[AP,AQ]
   refine takeN [(13,some 33,.agg #[sA t,sA fr,.slice cp (CT).length cc,bA false])] _ _ hH (by repeat(first|exact zgY|(refine tkc rfl rfl (q9 (by rfl) 175 0 1 2 _ _ _ rfl (sA t) (sA fr) (.slice cp (CT).length cc) (.agg #[sA t,sA fr,.slice cp (CT).length cc,bA false]) rfl rfl rfl (λW=>Tryz.zeX t fr cp (CT).length cc W)) ?_;simp only[AP]))) ?_;simp only[zh,AP];refine zp 14 λK hK=>?_;go_simp;obtain⟨Z,ai⟩:=gen (X.alloc (.cells #[sA t,sA fr,.slice cp (CT).length cc,bA false] 175));have au:BW X Z:=by rw[ai];exact bwA X
   have aT:Z.heap[X.heap.size]? =some (.cells #[sA t,sA fr,.slice cp (CT).length cc,bA false] 175 (0,0)):=by rw[ai];exact zgr X _
   rw[<-ai];clear ai;have af:BW w2 Z:=ak.trans (au.mono ak.size);have a7:∀g,Value.ownBlock (.slice cp (CT).length cc)=some g->w2.heap.size<=g:=λg hg=>(ar.lt g hg).1;have ao:=zb (xu ar (zgv _)) (λg _ hg=>au.block g hg);refine hK.out _ _ (blk ab af) λhH=>?_;clear hK K
   try simp only[AP,AQ]
   refine zp 15 λK hK=>?_;rw[zgT (by rfl)];have aj:Z.ownsRow 0 175 4 (.slice dp V.ds.length dc) V.ds.length (gG V.ds):=zb bK (λg _ hg=>af.block g hg);refine zQ _ _ _ 123 rfl 0 175 iW (.agg #[sA zgV,sA zgV,.slice none 0 0,bA false]) 4 64 underlying123 bt bq bp bo rfl (by decide) (.slice dp V.ds.length dc) V.ds.length (gG V.ds) rfl aj (nA X 0) 1 1 [sA t,sA fr,.slice cp (CT).length cc,bA false] rfl rfl ?n1 ?n2 (by have:=aJ.o;unfold maxLen;omega) (by have:=aJ.o;omega) (by have:=aJ.o;omega) ?_
   case n1=>
    intro j u hj;rw[addr_add,zg0,zgs Z X.heap.size j _ _ _ aT];simpa using hj
   case n2=>
    intro u hu;simp at hu;rcases hu with rfl|rfl|rfl|rfl<;>rfl
   intro v3 w3 ag aa aB;have ah:cL w3 nb (nodeA kb cb V s) 135:=(aa.block nb (zgt bM af.size) (λe=>bL e.symm)).trans (blk aS af);have ad:cL w3 w.heap.size #[iA kd,iA H,iA r,iA f,iA v,bA nl,sA t,sA fr,bA own] 164:=(aa.block w.heap.size (zgt bG af.size) (λe=>aP e.symm)).trans (blk ab af);refine hK.out _ _ ad λhH=>?_;clear hK K;simp only[AP,AQ];refine zx [16,17] hH (λ_ h=>h) ?_;have c03:cE w3 nb 35 (.slice dp V.ds.length dc):=(zgs w3 nb 35 _ _ _ ah).trans aD;have f03:w3.frozen? (aA nb 35)=false:=zq ah 35;obtain⟨p3,cap3,rfl⟩:=zl ag;refine zp 18 λK hK=>?_;go_simp;obtain⟨w4,al⟩:∃z,z=(w3.setCell (aA nb 35) (.slice p3 (V.ds.length+1) cap3)):=⟨_,rfl⟩;have an:ko nb w3 w4:=by rw[al];exact zd w3 nb 35 _
   have aG:w4.heap[nb]? =some (.cells ((nodeA kb cb V s).setIfInBounds 35 (.slice p3 (V.ds.length+1) cap3)) 135 (0,0)):=by
    rw[al];exact setCell_row ah 35 _
   rw[<-al];have az:cL w4 w.heap.size #[iA kd,iA H,iA r,iA f,iA v,bA nl,sA t,sA fr,bA own] 164:=(an.block _ (by have:=aQ.o;omega)).trans ad;refine hK.out _ _ az λhH=>?_;clear hK K hH al;refine dnr ?_;go_wp2_with fail
   go_meet
   case rel=>exact J9 bN aq HF ab aR aK aP bf (λe=>aQ e.symm) bJ af ag aa aB aG an ao a7
  go_simp;refine(aw _ ((zgq _ w2).drew)).mono ?_;rintro en X ⟨cv,rfl,ar,ba⟩;obtain⟨cp,cc,rfl⟩:=zl ar;have ak:BW w2 X:=(zgq _ w2).drew.trans (ba.mono (zgp _));have a7:∀g,Value.ownBlock (.slice cp (CT).length cc)=some g->w2.heap.size<=g:=λg hg=>(ar.lt g hg).1;have c35X:cE X nb 35 (.slice dp V.ds.length dc):=Ext.cell C35.o (Ext.of ak);refine hK.out _ _ (blk ab ak) λhH=>?_;clear hK K
  try simp only[AP,AQ]
  refine takeN [(13,some 33,.agg #[sA t,sA fr,.slice cp (CT).length cc,bA false])] _ _ hH (by repeat(first|exact zgY|(refine tkc rfl rfl (q9 (by rfl) 175 0 1 2 _ _ _ rfl (sA t) (sA fr) (.slice cp (CT).length cc) (.agg #[sA t,sA fr,.slice cp (CT).length cc,bA false]) rfl rfl rfl (λW=>Tryz.zeX t fr cp (CT).length cc W)) ?_;simp only[AP]))) ?_;simp only[zh,AP];refine gn 4 14 (λK hK=>?_) λK hK=>?_;focus
   go_simp;refine hK.out _ _ (blk ab ak) λhH=>?_;clear hK K
   try simp only[AP,AQ]
   refine zp 14 λK hK=>?_;go_simp;obtain⟨Z,ai⟩:=gen (X.alloc (.cells #[sA t,sA fr,.slice cp (CT).length cc,bA false] 175));have au:BW X Z:=by rw[ai];exact bwA X
   have aT:Z.heap[X.heap.size]? =some (.cells #[sA t,sA fr,.slice cp (CT).length cc,bA false] 175 (0,0)):=by rw[ai];exact zgr X _
   rw[<-ai];clear ai;have af:BW w2 Z:=ak.trans (au.mono ak.size);have ao:=zb (xu ar (zgv _)) (λg _ hg=>au.block g hg)
  rotate_left;focus
   go_simp;obtain⟨Z,ai⟩:=gen (X.alloc (.cells #[sA t,sA fr,.slice cp (CT).length cc,bA false] 175));have au:BW X Z:=by rw[ai];exact bwA X
   have aT:Z.heap[X.heap.size]? =some (.cells #[sA t,sA fr,.slice cp (CT).length cc,bA false] 175 (0,0)):=by rw[ai];exact zgr X _
   rw[<-ai];clear ai;have af:BW w2 Z:=ak.trans (au.mono ak.size);have ao:=zb (xu ar (zgv _)) (λg _ hg=>au.block g hg);have c35Z:cE Z nb 35 (.slice dp V.ds.length dc):=Ext.cell C35.o (Ext.of af);refine hK.out _ _ (blk ab af) λhH=>?_;clear hK K
   try simp only[AP,AQ]
   refine zp 4 λK hK=>?_;go_simp
  rotate_left;all_goals
   refine hK.out _ _ (blk ab af) λhH=>?_;clear hK K
   try simp only[AP,AQ]
   refine zp 15 λK hK=>?_;rw[zgT (by rfl)];have aj:Z.ownsRow 0 175 4 (.slice dp V.ds.length dc) V.ds.length (gG V.ds):=zb bK (λg _ hg=>af.block g hg);refine zQ _ _ _ 123 rfl 0 175 iW (.agg #[sA zgV,sA zgV,.slice none 0 0,bA false]) 4 64 underlying123 bt bq bp bo rfl (by decide) (.slice dp V.ds.length dc) V.ds.length (gG V.ds) rfl aj (nA X 0) 1 1 [sA t,sA fr,.slice cp (CT).length cc,bA false] rfl rfl ?n1 ?n2 (by have:=aJ.o;unfold maxLen;omega) (by have:=aJ.o;omega) (by have:=aJ.o;omega) ?_
   case n1=>
    intro j u hj;rw[addr_add,zg0,zgs Z X.heap.size j _ _ _ aT];simpa using hj
   case n2=>
    intro u hu;simp at hu;rcases hu with rfl|rfl|rfl|rfl<;>rfl
   intro v3 w3 ag aa aB;have ah:cL w3 nb (nodeA kb cb V s) 135:=(aa.block nb (zgt bM af.size) (λe=>bL e.symm)).trans (blk aS af);have ad:cL w3 w.heap.size #[iA kd,iA H,iA r,iA f,iA v,bA nl,sA t,sA fr,bA own] 164:=(aa.block w.heap.size (zgt bG af.size) (λe=>aP e.symm)).trans (blk ab af);refine hK.out _ _ ad λhH=>?_;clear hK K;simp only[AP,AQ];refine zx [16,17] hH (λ_ h=>h) ?_;have c03:cE w3 nb 35 (.slice dp V.ds.length dc):=(zgs w3 nb 35 _ _ _ ah).trans aD;have f03:w3.frozen? (aA nb 35)=false:=zq ah 35;obtain⟨p3,cap3,rfl⟩:=zl ag;refine zp 18 λK hK=>?_;go_simp;obtain⟨w4,al⟩:∃z,z=(w3.setCell (aA nb 35) (.slice p3 (V.ds.length+1) cap3)):=⟨_,rfl⟩;have an:ko nb w3 w4:=by rw[al];exact zd w3 nb 35 _
   have aG:w4.heap[nb]? =some (.cells ((nodeA kb cb V s).setIfInBounds 35 (.slice p3 (V.ds.length+1) cap3)) 135 (0,0)):=by
    rw[al];exact setCell_row ah 35 _
   rw[<-al];have az:cL w4 w.heap.size #[iA kd,iA H,iA r,iA f,iA v,bA nl,sA t,sA fr,bA own] 164:=(an.block _ (by have:=aQ.o;omega)).trans ad;refine hK.out _ _ az λhH=>?_;clear hK K hH al;refine dnr ?_;go_wp2_with fail
   go_meet
   case rel=>exact J9 bN aq HF ab aR aK aP bf (λe=>aQ e.symm) bJ af ag aa aB aG an ao a7
 obtain⟨F3,aV,bE,ad,aL⟩:=hcut;obtain⟨w3,bO⟩:=gen wc;subst bO;obtain⟨V3,aW,bx⟩:=aV.node;have cf:=zc ad;have bg:Hid (RegAt w3 pb 116 y):=aL;have ax:=zc aW.blk;have C63:Hid (cN w3 w 6 (sA t)):=zgs w3 w.heap.size 6 _ _ _ ad;obtain⟨s3,aY⟩:∃z:za,z={ s with dec:=s.dec++[⟨t,fr,CT,false⟩] }:=⟨_,rfl⟩;rw[<-aY] at aV aW ax;obtain⟨b2,bX,ch,ca⟩:=yi aY aV aW bx;have b9:Hid (Goes F R w F3 R w3):=(Goes.below bn).trans bE;clear aV aW bx bE ad aL aY;go_wp2_with (first|(refine zn rfl 116 _ rfl pb rfl 116 y _ bg underlying116 rfl Tryz.zc2 ?_)|(refine kz rfl 116 _ _ rfl nb 1 (regA y) rfl rfl 135 (nodeA kb cb V3 s3) ax (by rw[kD,zg];omega) (X8 y) (by rw[Tryz.zc2,zg]) ?_;intro w4 aG an;have c64:cN w4 w 6 (sA t):=(an.cell (p:=(nA w 6)) (λe=>aQ e.symm)).trans C63.o;have b3:=zc aG;have b4:=zc an;clear aG an)|fail)
 have bb:=bX.o.cellAt (s':={ s3 with x:=y }) ch ca (by rw[<-Gr];exact b3) b4 rfl rfl rfl rfl rfl rfl rfl;refine(Xg t bb.1 (by omega)).mono ?_;rintro en w5 ⟨rfl,F5,bB,bD⟩;have b8:Hid (Goes F R w F5 R w5):=b9.o.trans (bb.2.trans bD);obtain⟨s5,ay⟩:∃z:za,z=s.kept ⟨⟨kd,H,r,f,v,nl,t⟩,fr,own⟩:=⟨_,rfl⟩;have e5:({ s3 with x:=y,wait:=yu s3.wait (pcs t) }:za)=s5:=by
  rw[ay,b2.o,cd.o,<-HY.o];rfl
 have aC:NodeW B es m F5 R nb kb rb cb n i s5 w5:=by
  rw[<-e5];exact bB
 obtain⟨V5,bF,bw⟩:=aC.node;have aF:=(b5.o.st (by omega) bZ.o b1.o).1;rw[<-ay] at aF;have bm:=zc (jW (N:=2000) (s5.ahead.filter λe=> !s5.zc7 e.m) aC bF bw (λW b0 bV hc=>zaV nb kb cb b0 V5 s5.unlock W bV hc aF.dom aF.pos aF.hgt (λe he=>by
  have h1:e∈s.ahead:=by rw[ay] at he;exact he
  exact⟨(bh.o.ahead.ok e h1).r0,(bh.o.ahead.ok e h1).r20⟩)) { aF with rnd:=by show s5.round<=20;rw[ay];exact bh.o.rnd } (by omega) (by rw[ay];exact bH.o.2))
 have bj:Hid ((if s5.zc1=12 then(s5.zdb (s5.ahead.filter λe=> !s5.zc7 e.m)).zdh 0 0 else(s5.zdb (s5.ahead.filter λe=> !s5.zc7 e.m)).zc9 i 0)=s.zdG i ⟨⟨kd,H,r,f,v,nl,t⟩,fr,own⟩):=by
  unfold Hid za.zdG;rw[kM,<-ay]
 rw[bj.o] at bm;clear bb bB aC bF bw bD e5 ay aF c64;go_wp2_with fail
 refine bm.o.mono ?_;rintro en w6 ⟨rfl,F6,R6,bz,bC⟩;obtain⟨bW,b7⟩:=ze bz bC;clear bz bC bm;go_wp2;go_ret;exact⟨rfl,F6,R6,bW,b8.o.trans b7⟩
end
section
open Proofs.Tryz
variable{B nb kb rb cb n i S T:Nat}{es:List Addr}{m:Int}{F R:Nat->Prop}{s:za}{w:World}
theorem YK(h:NodeW B es m F R nb kb rb cb n i s w)(ok:NOk S T i 0 s)(hT:T<=1000000000000)(hS:S<=900000000000):
 Calls prog 108 #[pA nb 0] w (yK B es m F R nb kb rb cb n i (za.zdm i s) w):=by
 obtain⟨V,hA,hf⟩:=h.node;refine(Xl (λb w'=>b=(za.zdm i s).1/\∃F' R',NodeW B es m F' R' nb kb rb cb n i (za.zdm i s).2 w'/\Goes F R w F' R' w') hA h.bl h.glob (ok.st (by omega) hT hS).1 (λp r hr aa hp W hW=>?_) (λaa W hW=>?_)).mono ?_
 .obtain ⟨h1,_,_,_,h2⟩:=ZQ hp
  refine(za9 p (h.below hW) ok hT hS h1 h2).mono ?_;rintro e w' ⟨rfl,F',R',h3,h4⟩;rw[xE (QB hr aa hp)];exact⟨true,rfl,rfl,F',R',h3,(Goes.below hW).trans h4⟩
 .rw [jP (ZP aa)];exact⟨rfl,F,R,h.below hW,Goes.below hW⟩
 rintro e w' ⟨b,rfl,rfl,F',R',h3,h4⟩;exact⟨rfl,F',R',h3,h4⟩
theorem Ve(h:NodeW B es m F R nb kb rb cb n i s w)(ok:NOk S T i 0 s)(hT:T<=1000000000000)(hS:S<=900000000000):
 Calls prog 55 #[pA nb 0] w λen w'=>en=.returned (.tuple #[])/\∃F' R',NodeW B es m F' R' nb kb rb cb n i (s.zdv i) w'/\Goes F R w F' R' w':=by
 obtain⟨⟨k,hk⟩,_⟩:=ok.runs;exact Vd (N:=2000) (za.zdm i) (NOk S T i 0) xX (λs hs=>hs.st (by omega) hT hS) (by omega) (λF R s W hW hs=>YK hW hs hT hS) h hk
end
section
variable{j:Nat}{s s':za}
def SgO(j:Nat)(s s':za):Prop:=∀k,k≠j->s'.sg k=s.sg k
theorem SgO.refl(j:Nat)(s:za):SgO j s s:=λ_ _=>rfl
theorem SgO.trans{s2:za}(h:SgO j s s')(h':SgO j s' s2):SgO j s s2:=λk hk=>(h' k hk).trans (h k hk)
theorem kx(h:s'.sg=s.sg):SgO j s s':=λk _=>by rw[h]
theorem gV(s:za)(j:Nat)(k v:Int)(nl:Bool)(t:zgW):SgO j s (s.zc8 j k v nl t):=by
 unfold za.zc8;split
 .exact SgO.refl j s
 split
 .intro a ha;exact Zl ha
 exact SgO.refl j s
theorem xm(s:za)(j r:Nat):SgO j s (s.zc9 j r):=by
 unfold za.zc9;split
 .exact (kx (s:=s) (s':=s.zdh r 1) rfl).trans (gV _ _ _ _ _ _)
 exact kx rfl
theorem jb(s:za)(j:Nat)(k:Int)(st:Nat):SgO j s (s.nothing j k st):=(gV s j k 0 true ⟨#[]⟩).trans (kx rfl)
theorem zaC(s:za)(j:Nat)(p:zt):SgO j s (s.zdG j p):=by
 unfold za.zdG;rw[kM];split
 .exact kx rfl
 exact(kx (s:=s) (s':=(s.kept p).zdb ((s.kept p).ahead.filter λe=> !(s.kept p).zc7 e.m)) rfl).trans (xm _ _ _)
theorem Yk(s:za)(j:Nat)(fits:zt->Bool):SgO j s (s.zc6 j fits).2:=by
 unfold za.zc6;split
 .split
  .exact SgO.refl j s
  dsimp only
  split
  .exact (gV s j 2 0 false _).trans (kx rfl)
  exact jb s j 2 2
 exact SgO.refl j s
theorem zbH(s:za)(j:Nat):SgO j s (s.zdp (za.zdm j) j).2:=by
 unfold za.zdp;split
 .unfold za.zdm;split
  .exact SgO.refl j s
  exact zaC s j _
 split
 .unfold za.zde;split
  .exact SgO.refl j s
  exact xm s j _
 split
 .exact Yk s j _
 split
 .exact Yk s j _
 split
 .unfold za.zdy;split
  .split
   .exact SgO.refl j s
   dsimp only
   split
   .exact (kx (s:=s) (s':=(s.zdk _).zdx) rfl).trans ((gV _ _ _ _ _ _).trans (kx rfl))
   exact kx rfl
  exact SgO.refl j s
 split
 .unfold za.zdd;split
  .exact jb s j 3 3
  exact SgO.refl j s
 split
 .unfold za.zdi;split
  .exact kx rfl
  exact SgO.refl j s
 unfold za.zdl;split
 .exact kx rfl
 exact SgO.refl j s
theorem Y1(j:Nat):∀(f:Nat) (s:za),SgO j s (za.zeI j f s)
 |0,s=>SgO.refl j s
 |f+1,s=>by
  rw[za.zeI];split
  .exact (zbH s j).trans (Y1 j f _)
  .exact SgO.refl j s
theorem zbI(s:za)(j:Nat)(t:yf):SgO j s (s.zdC j t):=by
 unfold za.zdC;split
 .split
  .exact jb s j 2 2
  split
  .exact jb s j 3 3
  split
  .exact xm s j _
  exact SgO.refl j s
 exact SgO.refl j s
theorem zaB(s:za)(j:Nat)(e:zt):SgO j s (s.zdA e):=by
 unfold za.zdA;split<;>exact kx rfl
theorem zaA(s:za)(j h:Nat):SgO j s (s.zdF h):=by
 unfold za.zdF;split
 .exact SgO.refl j s
 exact kx rfl
theorem Zm(s:za)(n j:Nat)(fr:zgW):SgO j s (s.zdc n j fr):=by
 unfold za.zdc;split
 .unfold za.zdV;split
  .exact zaA s j _
  split
  .exact SgO.refl j s
  exact(zaB s j _).trans (Y1 j 2200 _)
 exact SgO.refl j s
theorem Y2(j:Nat):∀(f:Nat) (s:za),SgO j s (za.zdD j f s)
 |0,s=>SgO.refl j s
 |f+1,s=>by
  rw[za.zdD];split
  .exact SgO.refl j s
  .split
   .exact ((kx (s:=s) (s':=s.zdW) rfl).trans ((zbI _ _ _).trans (Y1 j 2200 _))).trans (Y2 j f _)
   .exact SgO.refl j s
theorem zaz(s:za)(j:Nat):SgO j s (s.zdH j):=by
 unfold za.zdH za.again;split
 .exact ((kx (s:=s) (s':=s.zdn) rfl).trans (Y2 j _ _)).trans (kx rfl)
 exact(kx (s:=s) (s':=s.zdn) rfl).trans (Y2 j _ _)
theorem zbG(s:za)(j:Nat)(t:zgW):SgO j s (s.zdT t):=by
 unfold za.zdT;split
 .exact kx rfl
 exact SgO.refl j s
end
section
open Proofs.Tryz
theorem YZ{B:Nat}{es:List Addr}{m:Int}{F R:Nat->Prop}{nb kb rb cb n i:Nat}{s:za}(k:Nat){w:World}(h:NodeW B es m F R nb kb rb cb n i s w)(hk:k<s.dec.length)(hh:s.dec.length<=12)(hcl:∀d∈s.dec,d.cert.length<=100000):
 Calls prog 80 #[pA nb 0,iA k] w λen w'=>en=.returned (.tuple #[])/\NodeW B es m F R nb kb rb cb n i (s.zdF k) w'/\Goes F R w F R w':=by
 obtain⟨V,hA,hf⟩:=h.node;obtain⟨g,cap,cv,aj,aS,ax,c1,c2,c3,⟨C,hC,aP⟩,aY⟩:=hA.zfA k hk;have c35:w.cell? (aA nb 35)=some (.slice (some (aA g 0)) s.dec.length cap):=by rw[<-aj];exact hA.cell 35 rfl
 have hki:(k:Int)<s.dec.length:=by omega
 obtain⟨d,hd⟩:=gen (s.dec.getD k yz);rw[<-hd] at ax c1 c3;have ay:(d,cv)∈V.ds:=List.mem_of_getElem? ax;have ad:=hA.cert (d,cv) ay;have aE:d.cert.length<=100000:=hcl d (by rw[<-hA.eds];exact List.mem_map.2 ⟨(d,cv),ay,rfl⟩);have aT:g≠cb:=λe=>yF hA.dec hA.chan (by rw[aj,<-e];rfl);have hgn:g≠nb:=λe=>hA.rows.1 (by rw[aj,<-e];rfl);cases ht:d.told with
 |true=>
  rw[ht] at c3;have af:Hid (NodeW B es m F R nb kb rb cb n i (s.zdF k) w/\Goes F R w F R w):=by
   unfold za.zdF;rw[<-hd,zgT ht];exact⟨h,Goes.refl F R w⟩
  clear h hA hf aj ax c1 c2 hC aP ay ad aE hcl hd ht;go_enter func80,ntmps80;go_wp2;first|exact bodyPost_end (v:=.tuple #[]) (by simp[results,results80]) rfl ⟨rfl,af.o⟩|exact zgJ (v:=.tuple #[]) (by simp[results,results80]) rfl ⟨rfl,af.o⟩
 |false=>
  rw[ht] at c3;have f3:w.frozen? (aA g (k*4+3))=false:=zq hC _;obtain⟨ar,aJ⟩:=h.zeP hA hf aj hk true;rw[<-hd] at ar;have hS:Hid (s.zdF k={ s with dec:=s.dec.set k { d with told:=true },out:=Yp s.out (d.prop::d.cert) }):=by
   unfold Hid za.zdF;rw[<-hd,zgU (by rw[ht];exact zgN)]
  have aM:ko g w (w.setCell (aA g (k*4+3)) (bA true)):=zd w g (k*4+3) _;have C1w:Hid ((w.setCell (aA g (k*4+3)) (bA true)).cell? (aA g (k*4+1))=some (sA d.prop)):=by
   unfold Hid;rw[zgs _ g (k*4+1) _ _ _ (setCell_row hC _ _),Array.getElem?_setIfInBounds_ne (by omega),<-zgs w g (k*4+1) _ _ _ hC];exact c1
  have C2w:Hid ((w.setCell (aA g (k*4+3)) (bA true)).cell? (aA g (k*4+2))=some cv):=by
   unfold Hid;rw[zgs _ g (k*4+2) _ _ _ (setCell_row hC _ _),Array.getElem?_setIfInBounds_ne (by omega),<-zgs w g (k*4+2) _ _ _ hC];exact c2
  have ab:(w.setCell (aA g (k*4+3)) (bA true)).ownsRow 0 9 1 cv d.cert.length (d.cert.map .string):=zb ad λj hj _=>aM.block j (λe=>zT ad hA.dec (by decide) j hj (by rw[aj,e];rfl));obtain⟨w1,aC⟩:=gen (w.setCell (aA g (k*4+3)) (bA true));rw[<-aC] at ar aJ C1w C2w ab;obtain⟨ba,bd⟩:=ze ar aJ;obtain⟨V1,aQ,aW⟩:=ar.node;have aR:=zc aQ;have C1:=C1w;have C2:=C2w;obtain⟨aK,ai,bf,a6⟩:=yi aT ab aE aC;clear C1w C2w h hA hf aj ax c1 c2 hC aP ay ad aE hcl hd ht ar aJ aQ aW aC ab aM;go_enter func80,ntmps80
  go_upto_region 3 with fail
  rw[<-a6.o];refine rgd (S:=λW=>cE W g (k*4+1) (sA d.prop)) C1.out λhH=>?_;refine zx [0,1,2,3,4,5,6] hH (λx h=>h) ?_;refine zp 7 λK hK=>?_;go_simp;obtain⟨w2,aw⟩:∃z,z=(w1.alloc (.cells #[sA d.prop] 9)).drew:=⟨_,rfl⟩;have ak:BW w1 w2:=by rw[aw];exact(bwA w1).drew
  have aL:w2.heap[w1.heap.size]? =some (.cells #[sA d.prop] 9 (0,0)):=by rw[aw];exact zgr w1 _
  rw[<-aw];clear aw;refine hK.out _ _ (Ext.cell C1.out (Ext.of ak)) λhH=>?_;clear hK K
  try simp only[AP,AQ]
  have aH:=ba.o.below ak;obtain⟨V2,aB,aV⟩:=aH.node;have ae:∀j,j<1->∃b o,(some (nA w1 0):Option Addr)=some (aA b o)/\b≠cb/\w2.cell? (aA b (o+j))=some (sA d.prop):=λj hj=>by
   have e:j=0:=by omega
   subst e;exact⟨w1.heap.size,0,rfl,(λe=>by have h1:=qq aR.o.chan;omega),zgs w2 w1.heap.size 0 _ _ _ aL⟩
  have av:=zc (Kb nb 53 cb 1 1 (some (nA w1 0)) (λ_=>d.prop) s.out w2 (by omega) aB.nc aB.chan (aB.cell 53 rfl) ae);clear ae;have a8:=zc aH;clear aH aB aV;refine zp 8 λK hK=>?_;go_simp;refine av.o.mono ?_;rintro en w3 ⟨rfl,ao,al⟩;have a1:cE w3 g (k*4+1) (sA d.prop):=al.cell hH aK;refine hK.out _ _ a1 λhH=>?_;clear hK K
  try simp only[AP,AQ]
  refine dnr ?_;obtain⟨aG,aO⟩:=a8.o.zel ao al;have bc:Hid (Goes F R w F R w3):=bd.o.trans ((Goes.below ak).trans aO);have c23:cE w3 g (k*4+2) cv:=al.cell (Ext.cell C2.out (Ext.of ak)) aK;obtain⟨V3,au,aU⟩:=aG.node;have aa:w3.ownsRow 0 9 1 cv d.cert.length (d.cert.map .string):=zb ai λj hj hl=>(al.block j (λe=>yF ai aR.o.chan (e▸hj))).trans (ak.block j hl);obtain⟨pc,cc,aN,aX,ag⟩:=zL aa;have ah:=zc (Kb nb 53 cb d.cert.length cc pc (λj=>d.cert.getD j zgV) (zam (λ_=>d.prop) s.out 0 1) w3.drew (by have:=bf.o;omega) au.nc au.chan (au.cell 53 rfl) (λj hj=>by
   obtain⟨b,o,hp,hbl,aq⟩:=ag j hj;refine⟨b,o,hp,λe=>?_,aq⟩;exact yF aa au.chan (by rw[aN,hp,e];rfl)))
  rw[JT] at ah;rw[aN] at c23;have a7:=zc aG;have bb:Hid (Yp (zam (λ_=>d.prop) s.out 0 1) d.cert=Yp s.out (d.prop::d.cert)):=rfl;clear aG au aU aa ag aX aO ao al ak aL av
  go_upto_region 4 with fail
  refine rgd (S:=λW=>cE W g (k*4+2) (.slice pc d.cert.length cc)) c23 λhH=>?_;refine zx [0,1,2,3,4,5,6] hH (λx h=>h) ?_;refine zp 7 λK hK=>?_;go_simp;refine(ah).mono ?_;rintro en w4 ⟨rfl,an,aD⟩;have aZ:cE w4 g (k*4+2) (.slice pc d.cert.length cc):=aD.cell hH aK;refine hK.out _ _ aZ λhH=>?_;clear hK K
  try simp only[AP,AQ]
  refine dnr ?_;obtain⟨aF,az⟩:=(a7.o.below ((zgq _ w3).drew)).zel an aD;have az:=(Goes.below ((zgq _ w3).drew)).trans az;have af:Hid (NodeW B es m F R nb kb rb cb n i (s.zdF k) w4/\Goes F R w F R w4):=by
   rw[bb.o] at aF;rw[hS.o];exact⟨aF,bc.o.trans az⟩
  clear aF az an aD;go_wp2;first|exact bodyPost_end (v:=.tuple #[]) (by simp[results,results80]) rfl ⟨rfl,af.o⟩|exact zgJ (v:=.tuple #[]) (by simp[results,results80]) rfl ⟨rfl,af.o⟩
theorem Xi{B:Nat}{es:List Addr}{m:Int}{F R:Nat->Prop}{nb kb rb cb n i N:Nat}{s:za}(t:yf){w:World}(h:NodeW B es m F R nb kb rb cb n i s w)(ok:YS N s)(hN:N<=10000000)(hsg:(s.sg i).length<=1000000000000):
 Calls prog 90 #[pA nb 0,.agg #[iA t.n,iA t.h,iA t.r]] w λen w'=>en=.returned (.tuple #[])/\∃F' R',NodeW B es m F' R' nb kb rb cb n i (s.zdC i t) w'/\Goes F R w F' R' w':=by
 obtain⟨tn,th,tr,td,tg⟩:=t;obtain⟨V,hA,hf⟩:=h.node;show Calls prog 90 #[pA nb 0,.agg #[iA tn,iA th,iA tr]] w λen w'=>en=.returned (.tuple #[])/\∃F' R',NodeW B es m F' R' nb kb rb cb n i (s.zdC i ⟨tn,th,tr,td,tg⟩) w'/\Goes F R w F' R' w';obtain⟨w1,al⟩:=gen (w.alloc (.cells #[iA tn,iA th,iA tr] 177));have ao:BW w w1:=by rw[al];exact bwA w
 have an:w1.heap[w.heap.size]? =some (.cells #[iA tn,iA th,iA tr] 177 (0,0)):=by rw[al];exact zgr w _
 have ak:=zc (hA.below ao);have C0:Hid (cN w1 w 0 (iA tn)):=zgs w1 w.heap.size 0 _ _ _ an;have C1:Hid (cN w1 w 1 (iA th)):=zgs w1 w.heap.size 1 _ _ _ an;have C2:Hid (cN w1 w 2 (iA tr)):=zgs w1 w.heap.size 2 _ _ _ an;have C43:Hid (cE w1 nb 43 (iA s.round)):=ak.o.cell 43 rfl;have C44:Hid (cE w1 nb 44 (iA s.step)):=ak.o.cell 44 rfl;have aj:Hid (YS N s/\(s.sg i).length<=1000000000000):=⟨ok,hsg⟩;have hrb:(s.round:Int)<=20:=by have:=ok.rnd;omega
 obtain⟨aC,aa,aB⟩:=zC (h.below ao) ao al;clear h hA hf ok hsg ao an al;go_enter func90,ntmps90;obtain⟨q,hq⟩:=gen (!(decide (th=(s.zc1:Int))&&decide (tr=(s.round:Int))));have HQ:=zc hq;clear hq
 go_upto_region 1 with fail
 rw[<-aB.o]
 go_cut [18] (λu wc=>u=bA q/\BW w1 wc)
 case first=>
  refine rgd (S:=λX=>BW w1 X) ((zgq _ w1).drew) λhH=>?_;by_cases h1:th=(s.zc1:Int)
  .have q1:(th != (s.zc1:Int))=false:=by simp[h1]
   by_cases h2:tr=(s.round:Int);focus
    have q2:(tr != (s.round:Int))=false:=by simp[h2]
    have q3:q=false:=by rw[HQ.o,zgG h1,zgG h2];rfl
    subst q3;clear h1 h2;refine zZ [(0,some 4,pA w.heap.size 1),(1,some 5,iA th),(2,some 6,pA nb 0)] _ _ hH (λx h=>show cN x w 1 (iA th) from Ext.cell C1.o (Ext.of h)) ?_;simp only[zh,AP,pA];refine zp 3 λK hK=>?_;go_simp;refine(zI nb kb cb V s _ (ak.o.below hH)).mono ?_;rintro en X2 ⟨rfl,rfl⟩;refine hK.out _ _ (hH) λhH=>?_;clear hK K
    try simp only[AP,AQ]
    refine zZ [(4,some 8,bA false),(5,some 9,bA false),(6,some 10,pA w.heap.size 2),(7,some 11,iA tr),(8,some 12,pA nb 0),(9,some 13,pA nb 0),(10,some 14,pA nb 43),(11,some 15,pA nb 43),(12,some 16,iA s.round),(13,some 17,bA false),(14,some 18,bA false)] _ _ hH (λx h=>aI (show cN x w 2 (iA tr) from Ext.cell C2.o (Ext.of h)) (show cE x nb 43 (iA s.round) from Ext.cell C43.o (Ext.of h))) ?_
   rotate_left;focus
    have q2:(tr != (s.round:Int))=true:=by simp[h2]
    have q3:q=true:=by rw[HQ.o,zgH h2,Bool.and_false];rfl
    subst q3;clear h1 h2;refine zZ [(0,some 4,pA w.heap.size 1),(1,some 5,iA th),(2,some 6,pA nb 0)] _ _ hH (λx h=>show cN x w 1 (iA th) from Ext.cell C1.o (Ext.of h)) ?_;simp only[zh,AP,pA];refine zp 3 λK hK=>?_;go_simp;refine(zI nb kb cb V s _ (ak.o.below hH)).mono ?_;rintro en X2 ⟨rfl,rfl⟩;refine hK.out _ _ (hH) λhH=>?_;clear hK K
    try simp only[AP,AQ]
    refine zZ [(4,some 8,bA false),(5,some 9,bA false),(6,some 10,pA w.heap.size 2),(7,some 11,iA tr),(8,some 12,pA nb 0),(9,some 13,pA nb 0),(10,some 14,pA nb 43),(11,some 15,pA nb 43),(12,some 16,iA s.round),(13,some 17,bA true),(14,some 18,bA true)] _ _ hH (λx h=>aI (show cN x w 2 (iA tr) from Ext.cell C2.o (Ext.of h)) (show cE x nb 43 (iA s.round) from Ext.cell C43.o (Ext.of h))) ?_
   rotate_left;all_goals
    simp only[zh,AP,pA];refine dnr ?_;go_wp2_with fail
    go_meet
    case rel=>exact⟨rfl,hH⟩
  have q1:(th != (s.zc1:Int))=true:=by simp[h1]
  have q3:q=true:=by rw[HQ.o,zgH h1];rfl
  subst q3;refine zZ [(0,some 4,pA w.heap.size 1),(1,some 5,iA th),(2,some 6,pA nb 0)] _ _ hH (λx h=>show cN x w 1 (iA th) from Ext.cell C1.o (Ext.of h)) ?_;simp only[zh,AP,pA];refine zp 3 λK hK=>?_;go_simp;refine(zI nb kb cb V s _ (ak.o.below hH)).mono ?_;rintro en X2 ⟨rfl,rfl⟩;refine hK.out _ _ (hH) λhH=>?_;clear hK K
  try simp only[AP,AQ]
  refine zZ [(4,some 8,bA true),(5,some 9,bA true),(6,some 10,undef),(7,some 11,undef),(8,some 12,undef),(9,some 13,undef),(10,some 14,undef),(11,some 15,undef),(12,some 16,undef),(13,some 17,undef),(14,some 18,bA true)] _ _ hH (λ_ h=>h) ?_;simp only[zh,AP];refine dnr ?_;go_wp2_with fail
  go_meet
  case rel=>exact⟨rfl,hH⟩
 obtain⟨w2,ay⟩:=gen wc;subst ay;obtain⟨rfl,ai⟩:=hcut;have HX:=zc ai;have c0:cN w2 w 0 (iA tn):=Ext.cell C0.o (Ext.of ai);have c43:cE w2 nb 43 (iA s.round):=Ext.cell C43.o (Ext.of ai);have c44:cE w2 nb 44 (iA s.step):=Ext.cell C44.o (Ext.of ai);have HW:=zc (aC.o.below ai);clear ai;by_cases af:th=(s.zc1:Int)/\tr=(s.round:Int)
 .have q3:q=false:=by rw[HQ.o,zgG af.1,zgG af.2];rfl
  subst q3;by_cases h3:tn=1/\s.step=1
  .obtain ⟨aw,av⟩:=h3
   have ab:Hid (za.zdC s i ⟨tn,th,tr,td,tg⟩=s.nothing i 2 2):=by unfold Hid za.zdC;rw[zgT af,zgT ⟨aw,av⟩]
   have q3:(tn==1)=true:=by simp[aw]
   have q4:((s.step:Int)==1)=true:=by simp[av]
   go_wp2_with fail
   refine(qE HW.o aj.o.1 (by omega) aj.o.2).mono ?_;rintro en Y ⟨rfl,F',R',ad,ae⟩;obtain⟨ah,ag⟩:=ze ad ae;clear ad ae;go_wp2;first|exact bodyPost_end (v:=.tuple #[]) (by simp[results,results90]) rfl ⟨rfl,F',R',by rw[ab.o];exact ah.o,(Goes.below (aa.o.trans (HX.o.mono aa.o.size))).trans ag.o⟩|exact zgJ (v:=.tuple #[]) (by simp[results,results90]) rfl ⟨rfl,F',R',by rw[ab.o];exact ah,(Goes.below (aa.o.trans (HX.o.mono aa.o.size))).trans ag⟩
  by_cases h4:tn=2/\s.step=2
  .obtain ⟨ar,au⟩:=h4
   have ab:Hid (za.zdC s i ⟨tn,th,tr,td,tg⟩=s.nothing i 3 3):=by unfold Hid za.zdC;rw[zgT af,zgU h3,zgT ⟨ar,au⟩]
   have q1b:(tn==1)=false:=by simp[ar]
   have q3:(tn==2)=true:=by simp[ar]
   have q4:((s.step:Int)==2)=true:=by simp[au]
   go_wp2_with fail
   refine(kT HW.o aj.o.1 (by omega) aj.o.2).mono ?_;rintro en Y ⟨rfl,F',R',ad,ae⟩;obtain⟨ah,ag⟩:=ze ad ae;clear ad ae;go_wp2;first|exact bodyPost_end (v:=.tuple #[]) (by simp[results,results90]) rfl ⟨rfl,F',R',by rw[ab.o];exact ah.o,(Goes.below (aa.o.trans (HX.o.mono aa.o.size))).trans ag.o⟩|exact zgJ (v:=.tuple #[]) (by simp[results,results90]) rfl ⟨rfl,F',R',by rw[ab.o];exact ah,(Goes.below (aa.o.trans (HX.o.mono aa.o.size))).trans ag⟩
  by_cases h5:tn=3/\s.round<20
  .obtain ⟨aq,az⟩:=h5
   have ab:Hid (za.zdC s i ⟨tn,th,tr,td,tg⟩=s.zc9 i (s.round+1)):=by unfold Hid za.zdC;rw[zgT af,zgU h3,zgU h4,zgT ⟨aq,az⟩]
   have q1b:(tn==1)=false:=by simp[aq]
   have q2b:(tn==2)=false:=by simp[aq]
   have q3:(tn==3)=true:=by simp[aq]
   have q4:(s.round:Int)<20:=by omega
   have ax:=zc (λW (hW:NodeW B es m F R nb kb rb cb n i s W)=>qL (s.round+1) hW aj.o.1 (by omega) (by omega) aj.o.2);have aD:Hid (((s.round+1:Nat):Int)=(s.round:Int)+1):=by unfold Hid;omega
   rw[aD.o] at ax;go_wp2_with fail
   refine(ax _ HW).mono ?_;rintro en Y ⟨rfl,F',R',ad,ae⟩;obtain⟨ah,ag⟩:=ze ad ae;clear ad ae;go_wp2;first|exact bodyPost_end (v:=.tuple #[]) (by simp[results,results90]) rfl ⟨rfl,F',R',by rw[ab.o];exact ah.o,(Goes.below (aa.o.trans (HX.o.mono aa.o.size))).trans ag.o⟩|exact zgJ (v:=.tuple #[]) (by simp[results,results90]) rfl ⟨rfl,F',R',by rw[ab.o];exact ah,(Goes.below (aa.o.trans (HX.o.mono aa.o.size))).trans ag⟩
  have ab:Hid (za.zdC s i ⟨tn,th,tr,td,tg⟩=s):=by unfold Hid za.zdC;rw[zgT af,zgU h3,zgU h4,zgU h5]
  have hc:((tn==1)=true/\((s.step:Int)==1)=false\/(tn==1)=false)/\((tn==2)=true/\((s.step:Int)==2)=false\/(tn==2)=false)/\((tn==3)=true/\decide ((s.round:Int)<20)=false\/(tn==3)=false):=by
   simp only[beq_iff_eq,beq_eq_false_iff_ne,decide_eq_false_iff_not,ne_eq];omega
  clear h3 h4 h5;rcases hc with⟨⟨a1,a2⟩|a1,⟨b1,b2⟩|b1,⟨d1,d2⟩|d1⟩;all_goals
   go_wp2;first|exact bodyPost_end (v:=.tuple #[]) (by simp[results,results90]) rfl ⟨rfl,F,R,by rw[ab.o];exact HW.o,Goes.below (aa.o.trans (HX.o.mono aa.o.size))⟩|exact zgJ (v:=.tuple #[]) (by simp[results,results90]) rfl ⟨rfl,F,R,by rw[ab.o];exact HW,Goes.below (aa.o.trans (HX.o.mono aa.o.size))⟩
 have ab:Hid (za.zdC s i ⟨tn,th,tr,td,tg⟩=s):=by unfold Hid za.zdC;rw[zgU af]
 have q3:q=true:=by
  rw[HQ.o];cases h6:decide (th=(s.zc1:Int))<;>cases h7:decide (tr=(s.round:Int))<;>first|rfl|exact absurd ⟨zgF h6,zgF h7⟩ af
 subst q3;go_wp2;first|exact bodyPost_end (v:=.tuple #[]) (by simp[results,results90]) rfl ⟨rfl,F,R,by rw[ab.o];exact HW.o,Goes.below (aa.o.trans (HX.o.mono aa.o.size))⟩|exact zgJ (v:=.tuple #[]) (by simp[results,results90]) rfl ⟨rfl,F,R,by rw[ab.o];exact HW,Goes.below (aa.o.trans (HX.o.mono aa.o.size))⟩
def za.zdL(s:za):Option yf:=match s.tims with| []=>none|t::_=>if t.due<=(s.time:Int) then some t else none
def xM(t:yf):Array Value:=#[iA t.n,iA t.h,iA t.r]
def zar(o:Option yf):Value:=.tuple #[.agg (xM (o.getD kt)),bA o.isSome]
def za.zdB(s:za):za:=if s.zdL.isSome=true then s.zdW else s
theorem VN(kb cb:Nat)(V:yg)(s s':za)(v:Value)(h:s'={ s with tims:=s'.tims }):(nodeA kb cb V s).setIfInBounds 51 v=nodeA kb cb { V with tv:=v } s':=by
 rw[h];unfold nodeA Kd;simp[yd,List.range,List.range.loop]
theorem gu{B:Nat}{es:List Addr}{m:Int}{F R:Nat->Prop}{nb kb rb cb n i:Nat}{s:za}{w:World}(h:NodeW B es m F R nb kb rb cb n i s w)(hlen:s.tims.length<=100000000):
 Calls prog 89 #[pA nb 51,iA s.time] w λe w'=>e=.returned (zar s.zdL)/\∃F',NodeW B es m F' R nb kb rb cb n i s.zdB w'/\Goes F R w F' R w':=by
 obtain⟨V,hA,hf⟩:=h.node;have c51:cE w nb 51 V.tv:=hA.cell 51 rfl;obtain⟨p,cap,aa⟩:=zl hA.tims;rw[aa] at c51;cases hl:s.tims with
 |nil=>
  have e0:s.zdL=none:=by unfold za.zdL;rw[hl]
  have e1:s.zdB=s:=by unfold za.zdB;rw[e0];rfl
  rw[hl] at c51;refine(Gv nb 51 p cap (s.time:Int) w c51).mono ?_;rintro e w' ⟨rfl,hb⟩;refine⟨by rw[e0];rfl,F,?_,Goes.below hb⟩;rw[e1];exact h.below hb
 |cons t l=>
  have h1:=hA.tims;rw[aa] at h1;obtain⟨g,rfl,_,hr⟩:=Yr h1 rfl (by rw[hl];simp);have ab:s.tims.getD 0 kt=t:=by rw[hl];rfl
  have ae:0<s.tims.length:=by rw[hl];simp
  by_cases hd:t.due<=(s.time:Int)
  .have e0:s.zdL=some t:=by unfold za.zdL;rw[hl];simp only;rw[zgT hd]
   have e1:s.zdB=s.zdW:=by unfold za.zdB;rw[e0];rfl
   refine(za0 nb 51 g cap (nodeA kb cb V s) 135 s.tims (s.time:Int) w hA.blk (by decide) (by rw[<-aa];rfl) hr ae hlen (by rw[ab];exact hd)).mono ?_;rintro e w' ⟨rfl,hq,af,hs⟩;have ad:(xo s.tims).length=s.tims.length-1:=by
    rw[hl,(qS t l).length_eq];simp
   refine⟨by rw[e0,ab];rfl,?_⟩;rw[e1];have ho:=Yf af (zgv g);rw[ad] at ho;refine h.zeQ (s':=s.zdW) hA hf (.slice (some (aA g 0)) (s.tims.length-1) cap) (by rw[<-VN kb cb V s s.zdW _ rfl];exact hq) (by show World.ownsRow w' 0 _ 5 _ (xo s.tims).length (kO (xo s.tims));rw[ad];exact ho) (zgR (by rw[aa];rfl)) ?_ rfl rfl rfl rfl rfl rfl;refine { hs with block:=λk hk hn=>hs.block k hk (λe=>hn (e.imp id (λe=>?_))) };rw[aa,e];rfl
  have e0:s.zdL=none:=by unfold za.zdL;rw[hl];simp only;rw[zgU hd]
  have e1:s.zdB=s:=by unfold za.zdB;rw[e0];rfl
  refine(VP nb 51 g cap s.tims (s.time:Int) w c51 hr ae (by rw[ab];omega)).mono ?_;rintro e w' ⟨rfl,hb⟩;refine⟨by rw[e0];rfl,F,?_,Goes.below hb⟩;rw[e1];exact h.below hb
variable{B nb kb rb cb n i g f:Nat}{es:List Addr}{m:Int}{F R:Nat->Prop}{s:za}{w:World}{t:yf}
theorem Tryz.zdU:(prog.info? 177).map (·.size)=some 3:=by kernel_rfl
theorem V0(L:List zt)(w:World):FitsAt 93 #[] (λe=>e.own) L w:=by
 intro W e he hW;obtain⟨⟨K,H,R,f,v,nl,t⟩,fr,own⟩:=e;show Calls prog 93 #[.agg #[iA K,iA H,iA R,iA f,iA v,bA nl,sA t,sA fr,bA own]] W _;have hc:cN (W.alloc (.cells #[iA K,iA H,iA R,iA f,iA v,bA nl,sA t,sA fr,bA own] 164)) W 8 (bA own):=zgs _ W.heap.size 8 _ _ _ (zgr W _);have aa:Hid (BW W (W.alloc (.cells #[iA K,iA H,iA R,iA f,iA v,bA nl,sA t,sA fr,bA own] 164))):=bwA W;clear he hW;go_enter func93,ntmps93;go_wp2;go_ret;exact⟨rfl,aa⟩
theorem NodeW.only{w':World}(h:NodeW B es m F R nb kb rb cb n i s w)(ho:ko g w w')(hF:¬F g)(hR:¬R g)(hk:g≠kb)(hB:B<=g):NodeW B es m F R nb kb rb cb n i s w' where
 node:=h.node.frame λk hk=>ho.block k (λe=>hF (e▸hk))
 ring:=h.ring.frame λk hk=>ho.block k (λe=>hR (e▸hk))
 key:=h.key.keep (ho.block kb (λe=>hk e.symm))
 idn:=h.idn
 fr:=h.fr
 kf:=h.kf
 kr:=h.kr
 fl:=λk hk=>⟨(h.fl k hk).1,by rw[ho.size];exact(h.fl k hk).2⟩
 rl:=λk hk=>⟨(h.rl k hk).1,by rw[ho.size];exact(h.rl k hk).2⟩
 glob:=h.glob.same λk hk=>ho.block k (λe=>by omega)
 bl:=by rw[ho.size];exact h.bl
theorem Goes.new{F' R':Nat->Prop}{w1 w2:World}(h:Goes F R w F' R' w1)(ho:ko g w1 w2)(hg:w.heap.size<=g):Goes F R w F' R' w2:=
 ⟨h.ff,h.rr,⟨ho.os.trans h.same.os,ho.tape.trans h.same.tape,ho.output.trans h.same.output,by rw[ho.size];exact h.same.size,λk hk hn=>(ho.block k (λe=>by omega)).trans (h.same.block k hk hn)⟩⟩
theorem NodeW.zeE{t:Nat}(h:NodeW B es m F R nb kb rb cb n i s w)(e:s.time=t):w.cell? (aA nb 50)=some (iA t):=by
 obtain⟨V,hA,hf⟩:=h.node;rw[<-e];exact hA.cell 50 rfl
theorem NodeW.zgf(h:NodeW B es m F R nb kb rb cb n i s w):nb<w.heap.size:=by
 obtain⟨V,hA,hf⟩:=h.node;exact zj hA.blk
theorem Yu(s:za):s.zdB.time=s.time:=by
 unfold za.zdB;split<;>rfl
theorem VQ(h:s.zdL=some t):∃l,s.tims=t::l/\t.due<=(s.time:Int):=by
 unfold za.zdL at h;split at h
 .cases h
 rename_i t' l e;split at h
 .rename_i hd;cases h;exact⟨l,e,hd⟩
 cases h
theorem GZ(h:s.zdL=none):za.zdD i (f+1) s=s:=by
 unfold za.zdL at h;rw[za.zdD];split at h
 .rename_i e;rw[e]
 rename_i t l e;rw[e];split at h
 .cases h
 rename_i hd;simp only
 rw[zgU hd]
theorem G0{l:List yf}(h:s.tims=t::l)(hd:t.due<=(s.time:Int)):za.zdD i (f+1) s=za.zdD i f ((s.zdW.zdC i t).zdv i):=by
 rw[za.zdD,h];simp only
 rw[zgT hd]
def zb9(d:YT):YT:={ d with told:=false }
def za.zeN(s:za)(j:Nat):za:={ s with time:=s.time+1,dec:=(s.dec.take j).map zb9++s.dec.drop j }
theorem Ko(s:za)(j:Nat):(s.zeN j).dec.length=s.dec.length:=by
 show((s.dec.take j).map zb9++s.dec.drop j).length=_;simp;omega
theorem zbo(s:za)(j:Nat)(hj:j<s.dec.length):{ s.zeN j with dec:=(s.zeN j).dec.set j { (s.zeN j).dec.getD j yz with told:=false } }=s.zeN (j+1):=by
 have h1:(s.zeN j).dec=(s.dec.take j).map zb9++s.dec[j]::s.dec.drop (j+1):=by
  show(s.dec.take j).map zb9++s.dec.drop j=_;rw[List.drop_eq_getElem_cons hj]
 have hl:((s.dec.take j).map zb9).length=j:=by simp;omega
 have h2:(s.zeN j).dec.getD j yz=s.dec[j]:=by
  rw[h1,zgz,zgC (by omega),hl,Nat.sub_self];rfl
 have h3:(s.zeN j).dec.set j { (s.zeN j).dec.getD j yz with told:=false }=(s.zeN (j+1)).dec:=by
  rw[h2,h1,List.set_append_right _ _ (by omega),hl,Nat.sub_self,List.set_cons_zero];show _=(s.dec.take (j+1)).map zb9++s.dec.drop (j+1);rw[<-List.take_append_getElem hj,List.map_append,List.append_assoc];rfl
 show({ s with time:=s.time+1,dec:=(s.zeN j).dec.set j { (s.zeN j).dec.getD j yz with told:=false } }:za)={ s with time:=s.time+1,dec:=(s.zeN (j+1)).dec };rw[h3]
theorem zb8(s:za):s.zeN s.dec.length=s.zdn:=by
 show { s with time:=s.time+1,dec:=(s.dec.take s.dec.length).map zb9++s.dec.drop s.dec.length }=_;rw[zg7,List.drop_length,List.append_nil];rfl
theorem zat{S T:Nat}(h:NodeW B es m F R nb kb rb cb n i s w)(ok:NOk S T i 0 s)(hT:T+1<=1000000000000)(hS:S<=900000000000):
 Calls prog 41 #[pA nb 0] w λen w'=>en=.returned (.tuple #[])/\∃F' R',NodeW B es m F' R' nb kb rb cb n i (s.zdH i) w'/\Goes F R w F' R' w':=by
 obtain⟨V,hA,hf⟩:=h.node;have c50:cE w nb 50 (iA s.time):=hA.cell 50 rfl;have f50:w.frozen? (aA nb 50)=false:=hA.frozen 50;have b5:=ok.time;have hwt:IntKind.i64.wrap ((s.time:Int)+1)=(s.time:Int)+1:=wrap_small _ (by omega) (by omega);have hdl:s.dec.length<=12:=ok.hgt;obtain⟨wa,bd⟩:=gen (w.setCell (aA nb 50) (iA ((s.time:Int)+1)));have a1:NodeW B es m F R nb kb rb cb n i (s.zeN 0) wa/\Goes F R w F R wa:=by
  rw[bd];refine h.cellAt (s':=s.zeN 0) hA hf ?_ (zd _ _ _ _) rfl rfl rfl rfl rfl rfl rfl;rw[setCell_row hA.blk 50 _];rfl
 obtain⟨dp,dc,hdv⟩:∃dp dc,wa.cell? (aA nb 35)=some (.slice dp s.dec.length dc):=by
  obtain⟨V1,av,_⟩:=a1.1.node;obtain⟨p,c,e⟩:=zl av.dec;have h1:cE wa nb 35 V1.dv:=av.cell 35 rfl;have h2:V1.ds.length=s.dec.length:=by
   have e:=congrArg List.length av.eds;rw[List.length_map,Ko] at e;exact e
  rw[e,h2] at h1;exact⟨p,c,h1⟩
 obtain⟨bP,bV,cp,HOK⟩:=yi a1.1 a1.2 bd ok;have aq:Hid (NOk S (T+1) i 0 s.zdn):=ok.zdn;obtain⟨HT,HS⟩:=ze hT hS;clear h hA hf ok hT hS b5 a1 bd;go_enter func41,ntmps41
 go_upto_region 1 with fail
 rw[<-cp.o];go_wp2;go_loopw [2,17] (λ_ iv wr=>∃j:Nat,j<=s.dec.length/\iv=iA j/\NodeW B es m F R nb kb rb cb n i (s.zeN j) wr/\Goes F R w F R wr) (λ_ iv _=>s.dec.length-(intOf iv).toNat)
 case atStart=>exact⟨0,zgv _,rfl,bP,bV⟩
 obtain⟨j,hj,rfl,bL,bN⟩:=hrel;obtain⟨a8,bB⟩:=ze bL bN;clear bL bN bP bV;by_cases aw:j=s.dec.length
 .have hge:¬(j:Int)<s.dec.length:=by omega
  obtain⟨w1,b4⟩:=gen wr;subst b4;have ah:Hid (NodeW B es m F R nb kb rb cb n i s.zdn w1):=by
   have h1:=a8.o;rw[aw,zb8] at h1;exact h1
  have aZ:=zc bB;clear aw a8 bB;obtain⟨s1,bh⟩:=gen s.zdn;have bS:=zc bh;rw[<-bh] at ah aq;clear bh;obtain⟨x,hx⟩:=gen s1.zdL;have a6:s1.zdB.time=s1.time:=Yu s1;obtain⟨R1,bs⟩:=gen R;have ae:Hid (∀W,NodeW B es m F R1 nb kb rb cb n i s1 W->Calls prog 89 #[pA nb 51,iA s1.time] W λe w'=>e=.returned (zar x)/\∃F',NodeW B es m F' R1 nb kb rb cb n i s1.zdB w'/\Goes F R1 W F' R1 w'):=λW hW=>by
   have h1:=gu hW (by have h2:=aq.o.tims;have h3:=(aq.o.st (by omega) HT.o HS.o).1.tb;omega);rw[<-hx] at h1;exact h1
  have cm:=zc hx;have C50:Hid (cE w1 nb 50 (iA s1.time)):=ah.o.zeE rfl;have bu:Hid (w.heap.size<=w1.heap.size):=aZ.o.same.size;have cx:Hid (nb<w1.heap.size):=ah.o.zgf;rw[<-bs] at ah aZ;have cr:=zc bs;clear hx bs
  go_upto_region 6 with fail
  go_cut [3,4] (λu3 u4 wc=>∃tb F2,u3=pA tb 0/\u4=bA x.isSome/\cL wc tb (xM (x.getD kt)) 177/\¬F2 tb/\¬R1 tb/\w.heap.size<=tb/\NodeW B es m F2 R1 nb kb rb cb n i s1.zdB wc/\Goes F R1 w F2 R1 wc)
  case first=>
   refine rgd (S:=λW=>cE W nb 50 (iA s1.time)) C50.o λhH=>?_;refine zx [0,1,2,3,4,5,6] hH (λx h=>h) ?_;refine gn 7 11 (λK hK=>?_) λK hK=>?_
   .go_simp;refine(ae _ (ah.o.below ((zgq _ w1).drew))).mono ?_;rintro en X2 ⟨rfl,F2,ab,ad⟩;have ao:cE X2 nb 50 (iA s1.time):=ab.zeE a6;refine hK.out _ _ ao λhH=>?_;clear hK K
    try simp only[AP,AQ]
    refine takeN [(8,some 28,zar x),(9,some 37,.agg (xM (x.getD kt))),(10,some 38,bA x.isSome)] _ _ hH (by repeat(first|exact zgY|((first|(refine tkc rfl rfl (zgR ⟨by rfl,λx h=>?_⟩) ?_;focus(unfold zar;go_simp;done))|(refine tkc rfl rfl (zgR ⟨by rfl,λx h=>?_⟩) ?_;focus(go_simp;done)));simp only[AP]))) ?_;simp only[zh,AP];refine zp 11 λK hK=>?_;go_simp;obtain⟨X3,aa⟩:=gen (X2.alloc (.cells #[iA 0,iA 0,iA 0] 177));have aE:BW X2 X3:=by rw[aa];exact bwA X2
    have aM:X3.heap[X2.heap.size]? =some (.cells #[iA 0,iA 0,iA 0] 177 (0,0)):=by rw[aa];exact zgr X2 _
    rw[<-aa];refine hK.out _ _ (Ext.cell ao (Ext.of aE)) λhH=>?_;clear hK K aa
    try simp only[AP,AQ]
    refine zp 12 λK hK=>?_;rw[zgT (by rfl)];refine zr 177 _ _ rfl X2.heap.size 0 (xM (x.getD kt)) rfl rfl 177 #[iA 0,iA 0,iA 0] aM (by simp[xM]) (by simp[xM,Value.oneCell']) (by rw[Tryz.zdU];rfl) ?_;intro X aD an;have ag:cL X X2.heap.size (xM (x.getD kt)) 177:=aD;have bq:BW X2 X:=aE.trans (an.below (zgp _));refine hK.out _ _ (Ext.cell ao (Ext.of bq)) λhH=>?_;clear hK K
    try simp only[AP,AQ]
    refine zx [13] hH (λ_ h=>h) ?_;refine dnr ?_;go_wp2_with fail
    go_meet
    case rel=>exact⟨X2.heap.size,F2,rfl,rfl,ag,(λh=>by have:=(ab.fl _ h).2;omega),(λh=>by have:=(ab.rl _ h).2;omega),zgu bu.o (zgu (zgp _) ad.same.size),ab.below bq,aZ.o.trans ((Goes.below ((zgq _ w1).drew)).trans (ad.trans (Goes.below bq)))⟩
   go_simp;obtain⟨X3,aa⟩:∃z,z=(w1.alloc (.cells #[iA 0,iA 0,iA 0] 177)).drew:=⟨_,rfl⟩;have aE:BW w1 X3:=by rw[aa];exact(bwA w1).drew
   have aM:X3.heap[w1.heap.size]? =some (.cells #[iA 0,iA 0,iA 0] 177 (0,0)):=by rw[aa];exact zgr w1 _
   rw[<-aa];refine hK.out _ _ (Ext.cell C50.o (Ext.of aE)) λhH=>?_;clear hK K aa
   try simp only[AP,AQ]
   refine zp 7 λK hK=>?_;go_simp;refine(ae _ (ah.o.below aE)).mono ?_;rintro en X2 ⟨rfl,F2,ab,ad⟩;have ao:cE X2 nb 50 (iA s1.time):=ab.zeE a6;have a7:X2.heap[w1.heap.size]? =some (.cells #[iA 0,iA 0,iA 0] 177 (0,0)):=(ad.same.block _ (zj aM) (λh=>h.elim (λh=>by have:=(ah.o.fl _ h).2;omega) (λh=>by have:=(ah.o.rl _ h).2;omega))).trans aM;refine hK.out _ _ ao λhH=>?_;clear hK K
   try simp only[AP,AQ]
   refine takeN [(8,some 28,zar x),(9,some 37,.agg (xM (x.getD kt))),(10,some 38,bA x.isSome)] _ _ hH (by repeat(first|exact zgY|((first|(refine tkc rfl rfl (zgR ⟨by rfl,λx h=>?_⟩) ?_;focus(unfold zar;go_simp;done))|(refine tkc rfl rfl (zgR ⟨by rfl,λx h=>?_⟩) ?_;focus(go_simp;done)));simp only[AP]))) ?_;simp only[zh,AP];refine zp 12 λK hK=>?_;rw[zgT (by rfl)];refine zr 177 _ _ rfl w1.heap.size 0 (xM (x.getD kt)) rfl rfl 177 #[iA 0,iA 0,iA 0] a7 (by simp[xM]) (by simp[xM,Value.oneCell']) (by rw[Tryz.zdU];rfl) ?_;intro X aD an;have ag:cL X w1.heap.size (xM (x.getD kt)) 177:=aD;have ai:¬F2 w1.heap.size:=λh=>(ad.ff _ h).elim (λh=>by have:=(ah.o.fl _ h).2;omega) (λh=>by have:=zj aM;omega);have au:¬R1 w1.heap.size:=λh=>by have:=(ah.o.rl _ h).2;omega
   have b9:w1.heap.size≠kb:=λe=>by have:=ah.o.key.lt;omega
   have cj:B<=w1.heap.size:=ah.o.bl;refine hK.out _ _ ((an.cell (p:=(aA nb 50)) (λe=>by have h1:=cx.o;have h2:nb=w1.heap.size:=e;omega)).trans ao) λhH=>?_;clear hK K
   try simp only[AP,AQ]
   refine zx [13] hH (λ_ h=>h) ?_;refine dnr ?_;go_wp2_with fail
   go_meet
   case rel=>exact⟨w1.heap.size,F2,rfl,rfl,ag,ai,au,bu,ab.only an ai au b9 cj,(aZ.o.trans ((Goes.below aE).trans ad)).new an bu⟩
  obtain⟨tb,F2,rfl,rfl,hq,ai,au,aL,ab,ad⟩:=hcut;have al:Hid (∃(s':za) (F' R':Nat->Prop) (tb':Nat) (x':Option yf),Value.pointer (some (aA tb 0))=pA tb' 0/\Value.bool x.isSome=bA x'.isSome/\x'=s'.zdL/\wc.heap[tb']? =some (.cells (xM (x'.getD kt)) 177 (0,0))/\¬F' tb'/\¬R' tb'/\w.heap.size<=tb'/\NodeW B es m F' R' nb kb rb cb n i s'.zdB wc/\Goes F R w F' R' wc/\NOk S (T+1) i 0 s'/\s'.zei<=s.tims.length/\za.zdD i (s.tims.length+1) s'=za.zdD i (s.tims.length+1) s.zdn):=by
   refine⟨s1,F2,R1,tb,x,rfl,rfl,cm,hq,ai,au,aL,ab,?_,aq,?_,by rw[bS.o]⟩
   .rw [cr.o] at ad ⊢;exact ad
   rw[bS.o];exact List.countP_le_length
  clear hq ai au aL ab ad ae ah aZ;go_wp2
  go_loopg [3,4] s.tims.length (λq u3 u4 wr=>∃(s':za) (F' R':Nat->Prop) (tb:Nat) (x:Option yf),u3=pA tb 0/\u4=bA x.isSome/\x=s'.zdL/\cL wr tb (xM (x.getD kt)) 177/\¬F' tb/\¬R' tb/\w.heap.size<=tb/\NodeW B es m F' R' nb kb rb cb n i s'.zdB wr/\Goes F R w F' R' wr/\NOk S (T+1) i 0 s'/\s'.zei<=q/\za.zdD i (q+1) s'=za.zdD i (s.tims.length+1) s.zdn)
  case atStart=>exact al
  obtain⟨s',F0,R0,tb,x,rfl,rfl,hx,hq,ai,au,aL,bM,bO,bG,bJ,aQ⟩:=hrel;obtain⟨ay,bb,ar,bZ,aC,bU,bT,cn⟩:=vF bM bO bG bJ aQ ai au aL;have HQ:=zc hq;clear bM bO bG bJ aQ ai au aL hq al;cases x with
  |none=>
   have HX:=zc hx.symm;clear hx;have bw:Hid (za.zdD i (s.tims.length+1) s.zdn=s'):=by
    rw[<-aC.o];exact GZ HX
   have aN:s'.zdB=s':=by
    unfold za.zdB;rw[HX.o];rfl
   rw[aN] at ay;clear aN;obtain⟨sF,bE⟩:=gen s';rw[<-bE] at bw ay ar HX aC;clear bE;obtain⟨w9,b2⟩:=gen wr;subst b2;have cq:=zc ay;obtain⟨V9,bt,ca⟩:=ay.o.node;obtain⟨lp,lc,-,c37,b7,hle⟩:=bt.logAt;have c50:cE w9 nb 50 (iA sF.time):=bt.cell 50 rfl;have C37:=zc c37;have cA:Hid (∀W,BW w9 W->Calls prog 92 #[.slice lp sF.log.length lc,.func (.func 93) #[] #[]] W λe w'=>∃v,e=.returned v/\w'.ownsRow W.heap.size 9 1 v (zF (λe=>e.own) sF.log).length ((zF (λe=>e.own) sF.log).map .string)/\BW W w'):=λW hW=>YB 93 #[] (λe=>e.own) sF.log lp lc W (enters_of func93 (by decide) rfl) (hle.ext (Ext.of hW)) (by have:=(ar.o.lens (by omega)).1;omega) (V0 sF.log W);have cy:Hid (sF.log.length<=2000):=(ar.o.lens (by omega)).1;clear bt ca b7 hle c37;by_cases h5:sF.time % 5=0;focus
    have q5:((sF.time:Int).tmod 5==0)=true:=by rw[beq_iff_eq,Int.tmod_eq_emod_of_nonneg (by omega)];omega
    go_upto_region 14 with fail
    refine rgd (S:=λW=>cE W nb 37 (.slice lp sF.log.length lc)) C37.o λhH=>?_;refine zx [0,1,2,3,4,5,6] hH (λx h=>h) ?_;refine zp 7 λK hK=>?_;go_simp;refine(cA _ ((zgq _ w9).drew)).mono ?_;rintro en X2 ⟨v5,rfl,bD,cg⟩;obtain⟨p5,c5,rfl,hm5,b8⟩:=zL bD;have br:BW w9 X2:=(zgq _ w9).drew.trans (cg.mono (zgp _));refine hK.out _ _ (Ext.cell C37.o (Ext.of br)) λhH=>?_;clear hK K
    try simp only[AP,AQ]
    have aG:=cq.o.below br;obtain⟨V5,aJ,cc⟩:=aG.node;have aV:=zc (Kb nb 53 cb (zF (λe=>e.own) sF.log).length c5 p5 (λj=>(zF (λe=>e.own) sF.log).getD j zgV) sF.out X2 (by have h1:=qh (λe=>e.own) sF.log;have h2:=cy.o;omega) aJ.nc aJ.chan (aJ.cell 53 rfl) (λj hj=>by
     obtain⟨b,o,hp,hbl,aR⟩:=b8 j hj;refine⟨b,o,hp,λe=>?_,aR⟩;exact yF bD aJ.chan (by rw[hp,e];rfl)))
    rw[JT] at aV;refine zp 8 λK hK=>?_;go_simp;refine aV.o.mono ?_;rintro en X3 ⟨rfl,bp,bH⟩;obtain⟨aF,aH⟩:=aG.zel bp bH;refine hK.out _ _ (bH.cell hH aJ.nc) λhH=>?_;clear hK K
    try simp only[AP,AQ]
    refine dnr ?_;have af:Hid (NodeW B es m F0 R0 nb kb rb cb n i (s.zdH i) X3/\Goes F R w F0 R0 X3):=by
     unfold za.zdH za.again;rw[bw.o,zgT h5];exact⟨aF,bb.o.trans ((Goes.below br).trans aH)⟩
    clear aF aH aG aJ cc
   rotate_left;focus
    have q5:((sF.time:Int).tmod 5==0)=false:=by rw[zgP,Ne,Int.tmod_eq_emod_of_nonneg (by omega)];omega
    have af:Hid (NodeW B es m F0 R0 nb kb rb cb n i (s.zdH i) w9/\Goes F R w F0 R0 w9):=by
     unfold za.zdH za.again;rw[bw.o,zgU h5];exact⟨ay,bb⟩
   rotate_left;all_goals
    go_wp2;first|exact bodyPost_end (v:=.tuple #[]) (by simp[results,results41]) rfl ⟨rfl,F0,R0,af.o.1,af.o.2⟩|exact zgJ (v:=.tuple #[]) (by simp[results,results41]) rfl ⟨rfl,F0,R0,af.o.1,af.o.2⟩
  |some t=>
   have HX:=zc hx.symm;clear hx;have az:=zc (ar.o.pop);have aN:s'.zdB=s'.zdW:=by
    unfold za.zdB;rw[HX.o];rfl
   rw[aN] at ay;clear aN;obtain⟨tl,bf,bo⟩:=VQ HX;have ak:=zc (Vk (i:=i) bf bo);obtain⟨q,hq⟩:∃q,gk=q+1:=⟨gk-1,by have h1:=ak.o;have h2:=bZ.o;omega⟩;subst hq;obtain⟨cz,aW⟩:=ze (G0 (i:=i) (f:=q+1) bf bo) (az.o.exp (t:=t));have bc:=zc (aW.o.runs.2);obtain⟨s2,bg⟩:∃z,z=(s'.zdW.zdC i t).zdv i:=⟨_,rfl⟩;rw[<-bg] at ak bc;have bR:=zc bg;clear bg bf bo;obtain⟨w4,b3⟩:=gen wr;subst b3;have bY:=zc (Xi t ay.o (az.o.st (by omega) HT.o HS.o).1 (by omega) (az.o.st (by omega) HT.o HS.o).2);go_wp2_with (first|(refine zg4 rfl 177 _ rfl tb rfl 177 (xM t) (0,0) _ HQ underlying177 rfl (by rw[Tryz.zdU];rfl) ?_)|fail)
   refine bY.o.mono ?_;rintro en w5 ⟨rfl,F5,R5,aG,aS⟩;have bj:cL w5 tb (xM t) 177:=(aS.same.block _ (zj HQ) (λh=>h.elim bU bT)).trans HQ;have aP:¬F5 tb:=λh=>(aS.ff _ h).elim bU.o (λh=>by have:=zj HQ.o;omega);have aO:¬R5 tb:=λh=>(aS.rr _ h).elim bT.o (λh=>by have:=zj HQ.o;omega);obtain⟨bX,aY⟩:=ze aS (Ve aG aW HT HS);clear aG aS bY;go_wp2_with fail
   refine aY.o.mono ?_;rintro en w6 ⟨rfl,F6,R6,aF,aH⟩;have cu:Hid (cL w6 tb (xM t) 177):=(aH.same.block _ (zj bj) (λh=>h.elim aP aO)).trans bj;rw[<-bR.o] at aF;obtain⟨aK,bW⟩:=ze aF aH;clear aF aH aY bj aP aO
   go_upto_region 8 with(first|(refine zg4 rfl 177 _ rfl tb rfl 177 (xM t) (0,0) _ cu underlying177 rfl (by rw[Tryz.zdU];rfl) ?_)|(refine zf rfl 177 _ _ rfl w6 (xM t) rfl rfl 177 _ rfl (by simp[xM,Value.oneCell']) (by rw[Tryz.zdU];rfl) ?_;intro w8 bF bK b1;have ba:=zc bF;have b0:=zc bK;clear bF bK b1)|fail)
   have bQ:=zc (aK.o.below b0);obtain⟨tb2,aj⟩:=gen w6.heap.size;rw[<-aj] at ba;rw[<-aj];have aX:Hid (¬F6 tb2):=λh=>by have:=(aK.o.fl _ h).2;omega
   have aB:Hid (¬R6 tb2):=λh=>by have:=(aK.o.rl _ h).2;omega
   have bx:Hid (tb2≠nb):=λe=>by have h1:=aK.o.zgf;omega
   have bz:Hid (tb2≠kb):=λe=>by have h1:=aK.o.key.lt;omega
   have bC:Hid (B<=tb2):=by rw[aj];exact aK.o.bl
   have aT:Hid (w.heap.size<=tb2):=by rw[aj];exact zgu bb.o.same.size (zgu bX.o.same.size bW.o.same.size)
   clear aj;obtain⟨x,hx⟩:=gen s2.zdL;have a6:s2.zdB.time=s2.time:=Yu s2;have ae:Hid (∀W,NodeW B es m F6 R6 nb kb rb cb n i s2 W->Calls prog 89 #[pA nb 51,iA s2.time] W λe w'=>e=.returned (zar x)/\∃F',NodeW B es m F' R6 nb kb rb cb n i s2.zdB w'/\Goes F6 R6 W F' R6 w'):=λW hW=>by
    have h1:=gu hW (by have h2:=bc.o.tims;have h3:=(bc.o.st (by omega) HT.o HS.o).1.tb;omega);rw[<-hx] at h1;exact h1
   have C50:Hid (w8.cell? (aA nb 50)=some (iA s2.time)):=by
    obtain⟨V8,ck,_⟩:=bQ.o.node;exact ck.cell 50 rfl
   have cl:=zc hx;clear hx;refine rgd (S:=λW=>cE W nb 50 (iA s2.time)) C50.o λhH=>?_;refine zx [0,1,2,3,4,5,6] hH (λx h=>h) ?_;refine zp 7 λK hK=>?_;go_simp;refine(ae _ (bQ.o.below ((zgq _ w8).drew))).mono ?_;rintro en X2 ⟨rfl,F3,ab,ad⟩;have ao:cE X2 nb 50 (iA s2.time):=ab.zeE a6;have a7:cL X2 tb2 (xM t) 177:=(ad.same.block _ (zj ba) (λh=>h.elim aX aB)).trans ba;refine hK.out _ _ ao λhH=>?_;clear hK K
   try simp only[AP,AQ]
   refine takeN [(8,some 40,zar x),(9,some 49,.agg (xM (x.getD kt))),(10,some 50,bA x.isSome)] _ _ hH (by repeat(first|exact zgY|((first|(refine tkc rfl rfl (zgR ⟨by rfl,λx h=>?_⟩) ?_;focus(unfold zar;go_simp;done))|(refine tkc rfl rfl (zgR ⟨by rfl,λx h=>?_⟩) ?_;focus(go_simp;done)));simp only[AP]))) ?_;simp only[zh,AP];refine zp 11 λK hK=>?_;rw[zgT (by rfl)];refine zr 177 _ _ rfl tb2 0 (xM (x.getD kt)) rfl rfl 177 (xM t) a7 (by simp[xM]) (by simp[xM,Value.oneCell']) (by rw[Tryz.zdU];rfl) ?_;intro X aD an;have ag:cL X tb2 (xM (x.getD kt)) 177:=aD;have ai:¬F3 tb2:=λh=>(ad.ff _ h).elim aX.o (λh=>by have:=zj ba.o;have h2:w8.drew.heap.size=w8.heap.size:=rfl;omega);refine hK.out _ _ ((an.cell (p:=(aA nb 50)) (λe=>bx e.symm)).trans ao) λhH=>?_;clear hK K
   try simp only[AP,AQ]
   refine zx [12] hH (λ_ h=>h) ?_;refine dnr ?_;have aU:Hid (NodeW B es m F3 R6 nb kb rb cb n i s2.zdB X/\Goes F R w F3 R6 X):=⟨ab.only an ai aB bz bC,(bb.o.trans (bX.o.trans (bW.o.trans ((Goes.below b0).trans ((Goes.below ((zgq _ w8).drew)).trans ad))))).new an aT⟩;obtain⟨ct,cw⟩:=ze ag ai;clear ab ad an ai aD ag a7 ao;go_wp2
   go_roundg q
   case rel=>exact⟨s2,F3,R6,tb2,x,rfl,rfl,cl,ct,cw,aB,aT,aU.o.1,aU.o.2,bc,by have h1:=ak.o;have h2:=bZ.o;omega,by rw[<-aC.o,cz.o,bR.o]⟩
   case measure=>omega
 have bn:j<s.dec.length:=by omega
 have b6:(j:Int)<s.dec.length:=by omega
 obtain⟨V1,av,bI⟩:=a8.o.node;obtain⟨g,cap,cv,ax,bm,cd,e1,e2,e3,⟨C,hC,ch⟩,cf⟩:=av.zfA j (by rw[Ko];exact bn);have c35:wr.cell? (aA nb 35)=some (.slice (some (aA g 0)) s.dec.length cap):=by
  have h1:cE wr nb 35 V1.dv:=av.cell 35 rfl;rw[ax,Ko] at h1;exact h1
 have f3:wr.frozen? (aA g (j*4+3))=false:=zq hC _;obtain⟨ab,ad⟩:=a8.o.zeP av bI ax (by rw[Ko];exact bn) false;rw[zbo s j bn] at ab;have af:Hid (NodeW B es m F R nb kb rb cb n i (s.zeN (j+1)) (wr.setCell (aA g (j*4+3)) (bA false))/\Goes F R w F R (wr.setCell (aA g (j*4+3)) (bA false))):=⟨ab,bB.o.trans ad⟩;clear av bI ax bm cd e1 e2 hC ch ab ad aw;go_wp2;go_roundw
 case rel=>exact⟨j+1,by omega,by go_num,af.o.1,af.o.2⟩
 simp[intOf];omega

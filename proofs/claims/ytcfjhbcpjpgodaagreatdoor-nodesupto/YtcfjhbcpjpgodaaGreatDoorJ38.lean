import Derived.Test.YtcfjhbcpjpgodaaGreatDoorRefOne
namespace Go.Proofs.YtcfjhbcpjpgodaaGreatDoor
open Go.RowKit
set_option maxRecDepth 100000
set_option maxHeartbeats 0
set_option linter.all false
section
open Proofs.Tryz
theorem zcS(w:World)(x0 x1 x2 x3:Int):
 (convert 153 9 (.slice (some (aA w.heap.size 0)) 4 4)).run prog (w.alloc (.cells #[.int .u8 x0,.int .u8 x1,.int .u8 x2,.int .u8 x3] 5))=
  .ok (sA (strOfNums [x0,x1,x2,x3])) (w.alloc (.cells #[.int .u8 x0,.int .u8 x1,.int .u8 x2,.int .u8 x3] 5)):=
 run_convert_bytes_arg _ 153 5 underlying153 underlying5 w.heap.size 0 4 4 [x0,x1,x2,x3] rfl (λi hi=>by
  match i,hi with
  |0,_|1,_|2,_|3,_=>simp) 9 underlying9
def KV(k:Nat):zgW:=strOfNums [35,(k:Int) % 256,((k:Int) / 256) % 256,((k:Int) / 65536) % 256]
theorem KU(k:Nat)(w:World)(hk:k<=1000000000):Calls prog 67 #[iA k] w λe w'=>e=.returned (sA (KV k))/\BW w w':=by
 have hcv:=zcS w;have e1:Int.tdiv (k:Int) 256=(k:Int) / 256:=Int.tdiv_eq_ediv_of_nonneg (by omega);have e2:Int.tdiv (k:Int) 65536=(k:Int) / 65536:=Int.tdiv_eq_ediv_of_nonneg (by omega);go_enter func67,ntmps67;go_wp2;go_ret;refine⟨?_,(bwA w)⟩;unfold KV;rfl
variable{sg:Nat->List zgW}{i S:Nat}
def ZW(y:Nat->Int)(sg:Nat->List zgW)(i:Nat):za:=((yR y sg).zdb []).zc9 i 0
theorem G9{y:Nat->Int}(hx:Dom y)(hp:0<sumTo y 8)(hs:(sg i).length<=S):NOk S 0 i 0 (ZW y sg i):=by
 refine NOk.begin ?_;refine⟨hx,hp,zgv _,zgv _,by show(1:Nat)<=3;omega,qM.nil _,qM.nil _,(λ_ h=>by cases h),?_,?_,zgv _,zgv _,zgv _,zgv _,(λ_ h=>by cases h),zgv _,(λ_ h=>by cases h),zgv _⟩
 .show ((QP ([]:List zt):Nat):Int)<=4*((0:Nat):Int)+((1:Nat):Int)+(-1)
  unfold QP;simp
 show(((sg i).length:Nat):Int)<=S+84*((0:Nat):Int)+4*((0:Nat):Int)+((1:Nat):Int)+(-1);omega
theorem zca(y:Nat->Int)(sg:Nat->List zgW)(i k:Nat)(hk:k≠i):((ZW y sg i).zdv i).sg k=sg k:=by
 have h1:SgO i ((yR y sg).zdb []) ((ZW y sg i).zdv i):=(xm _ _ _).trans (Y1 i 2200 _);exact h1 k hk
theorem zbT{B:Nat}{es:List Addr}{m:Int}{R:Nat->Prop}{kb rb n:Nat}{w:World}
 (g:Nat->Int) (p:Option Addr) (q cap:Nat) (y:Nat->Int) (hl:kG w w.heap.size p q (λj=>iA (g j))) (hgen:gN g q=(y,true)) (hx:Dom y) (hp:0<sumTo y 8)
 (hring:RingI R rb n sg w) (hkey:kq w kb rb i) (hin:i<n) (hkr:¬R kb) (hrl:∀k,R k->B<=k/\k<w.heap.size) (hglob:qw B es m w) (hbl:B<=w.heap.size) (hsg:(sg i).length<=S) (hS:S<=900000000000):
 Calls prog 12 #[pA kb 0,.slice p q cap] w (zcY B es m R kb rb n i ((ZW y sg i).zdv i) w):=by
 have aa:=G9 (i:=i) hx hp hsg;obtain⟨⟨k,hk⟩,_⟩:=aa.runs;exact zbS (N:=2000) (za.zdm i) (NOk S 0 i 0) xX (λs hs=>hs.st (by omega) (by omega) hS) (by omega) (λnb cb F R s W hW hs=>YK hW hs (by omega) hS) g p q cap y hl hgen hx hp hring hkey hin hkr hrl hglob hbl (by omega) hk
end
section
open Proofs.Tryz
section
variable{P:Program}
theorem kH{ops:Array Oper}{rest:List Oper}{o:Oper}{a:Act}{w w':World}{Q:Exit->Act->World->Prop}(hgd:o.guard=none)(t:TypeId)(x:Operand)(ho:o.op=.box t x)(vx v:Value)(hx:a.eval x=vx)(hr:(Instr.box t vx).run P w=.ok v w')(h:wpList P ops Q rest (a.put o.dst v) w'):wpList P ops Q (o::rest) a w:=
 wpList_plain hgd λ_ hK=>Yd t x ho vx v hx hr (hK _ _ h)
theorem xd{ops:Array Oper}{rest:List Oper}{o:Oper}{a:Act}{w:World}{Q:Exit->Act->World->Prop}(hgd:o.guard=none)(t:TypeId)(i0 i1:Nat)(x0 x1:Operand)(ho:o.op=.build t #[(i0,x0),(i1,x1)])(v0 v1 v:Value)(h0:a.eval x0=v0)(h1:a.eval x1=v1)(hr:(Instr.build t #[(i0,v0),(i1,v1)]).run P w=.ok v w)(h:wpList P ops Q rest (a.put o.dst v) w):wpList P ops Q (o::rest) a w:=by
 refine wpList_plain hgd λK hK=>?_;unfold Oper.wp execOp;simp only[ho,List.map_toArray,List.map_cons,List.map_nil,h0,h1,hr,Sem.run_bind,Sem.run_pure,Result.andThen_ok];exact hK _ _ h
end
def zaM:xa:=⟨.slice none 0 0,.slice none 0 0,.slice none 0 0,.slice none 0 0,.slice none 0 0,.slice none 0 0,.slice none 0 0,.slice none 0 0,.slice none 0 0,[],[],false,false,false⟩
def K5(kb:Nat)(y:Nat->Int)(sg:Nat->List zgW):Array Value:=Z8 kb zaM (yR y sg) (Y0 0 0 0 0 0 ⟨#[]⟩ ⟨#[]⟩)
theorem Tryz.zfn(kb:Nat)(y:Nat->Int)(sg:Nat->List zgW)(W:World):(Instr.build 68 #[(0,pA kb 0),(1,.agg (regA y))]).run prog W=.ok (.agg (K5 kb y sg)) W:=by kernel_rfl
theorem Tryz.zfR(kb:Nat)(y:Nat->Int)(sg:Nat->List zgW)(W:World):(Instr.box 68 (.agg (K5 kb y sg))).run prog W=.ok (pA W.heap.size 0) (W.alloc (.cells (K5 kb y sg) 68)):=by kernel_rfl
theorem Tryz.zfQ(y:Nat->Int)(W:World):(Instr.box 49 (.agg (regA y))).run prog W=.ok (pA W.heap.size 0) (W.alloc (.cells (regA y) 49)):=by kernel_rfl
theorem Xs(y:Nat->Int)(sg:Nat->List zgW)(i:Nat):(yR y sg).zd5 i=ZW y sg i:=by
 rw[kM,zgU (by show¬(0:Nat)=12;omega)];rfl
theorem zbz{y:Nat->Int}{sg:Nat->List zgW}{i S:Nat}(hx:Dom y)(hp:0<sumTo y 8)(hs:(sg i).length<=S):YOk S 0 i (ZW y sg i):=by
 refine⟨G9 hx hp hs,?_⟩;have h:XOk ((yR y sg).zdb []):=⟨λ_ h=>(by cases h),Int.le_refl _,by show(-1:Int)<=((0:Nat):Int);omega,Int.le_refl _,λ_ h=>(by cases h),λ_ h=>(by cases h),λ_ h=>(by cases h)⟩;exact h.begin (by show(0:Nat)<12;omega) i 0 (by show(-1:Int)<=((0:Nat):Int);omega)
theorem zaH(y:Nat->Int)(sg:Nat->List zgW):∀(j:Nat) (r:ky),(refRows zaM (yR y sg))[j]? =some r->r.v=.slice none 0 0/\r.n=0/\r.xs=[]/\68≠r.t:=λj r hr=>by
 have hj:j<9:=(List.getElem?_eq_some_iff.1 hr).1;match j,hj,hr with
 |0,_,hr|1,_,hr|2,_,hr|3,_,hr|4,_,hr|5,_,hr|6,_,hr|7,_,hr|8,_,hr=>cases hr;refine⟨rfl,rfl,rfl,?_⟩;first|(show 68≠9;decide)|(show 68≠30;decide)|(show 68≠197;decide)|(show 68≠203;decide)
theorem Ja{B:Nat}{R:Nat->Prop}{kb rb n i S:Nat}{sg:Nat->List zgW}{y:Nat->Int}{w:World}(hx:Dom y)(hp:0<sumTo y 8)(hring:RingI R rb n sg w)(hkey:kq w kb rb i)(hin:i<n)(hkr:¬R kb)(hrl:∀k,R k->B<=k/\k<w.heap.size)(hbl:B<=w.heap.size)(hsg:(sg i).length<=S)(hS:S<=900000000000):
 Calls prog 16 #[pA kb 0,.agg (regA y)] w λe w'=>∃nb F' R',e=.returned (pA nb 0)/\RefW B F' R' nb kb rb n i ((ZW y sg i).zdv i) w'/\Goes (λ_=>False) R w F' R' w':=by
 obtain⟨w1,ae⟩:=gen (w.alloc (.cells (regA y) 49));have ab:BW w w1:=by rw[ae];exact bwA w
 have ah:w1.heap[w.heap.size]? =some (.cells (regA y) 49 (0,0)):=by rw[ae];exact zgr w _
 obtain⟨w2,ad⟩:=gen (w1.alloc (.cells (K5 kb y sg) 68));have ai:BW w1 w2:=by rw[ad];exact bwA w1
 have af:w2.heap[w1.heap.size]? =some (.cells (K5 kb y sg) 68 (0,0)):=by rw[ad];exact zgr w1 _
 have aa:BW w w2:=ab.trans (ai.mono ab.size);have aj:RawW B (λk=>k=w1.heap.size) R w1.heap.size kb rb n i (K5 kb y sg) (refRows zaM (yR y sg)) sg w2:=by
  refine⟨af,λj r hr=>?_,λj r hr=>(zaH y sg j r hr).2.2.2,λj k a b g ha hb _ hg=>?_,rfl,λj r g hr hg=>?_,hring.frame λk hk=>aa.block k (hrl k hk).2,hkey.keep (aa.block kb hkey.lt),hin,λk hk hR=>?_,λhk=>?_,hkr,λk hk=>?_,λk hk=>⟨(hrl k hk).1,zgt (hrl k hk).2 aa.size⟩,zgu hbl aa.size⟩
  .obtain ⟨h1,h2,h3,-⟩:=zaH y sg j r hr
   rw[h1,h2,h3];exact zgQ _ _ _ _
  .rw [(zaH y sg j a ha).1] at hg;cases hg
  .rw [(zaH y sg j r hr).1] at hg;cases hg
  .have h1:=(hrl k hR).2;have h2:=ab.size;omega
  .have h1:=hkey.lt;have h2:=ab.size;omega
  rw[hk];exact⟨zgu hbl ab.size,zj af⟩
 have ag:=zc (xr (V:=zaM) (s:=yR y sg) (h0:=0) (r0:=0) (st0:=0) (lr0:=0) (vr0:=0) (lv0:=⟨#[]⟩) (vv0:=⟨#[]⟩) aj rfl ⟨List.Perm.refl _,List.Pairwise.nil,λ_ h=>(by cases h),qI.nil,λ_=>⟨rfl,rfl,rfl⟩⟩ ⟨hx,hp,zgv _,zgv _,zgv _,zgv _,zgv _,λ_ h=>(by cases h),λ_ h=>(by cases h),zgv _,λ_ h=>(by cases h),λ_=>rfl⟩ (by show(sg i).length<=_;omega));rw[Xs] at ag;have aq:Hid (Goes (λ_=>False) R w (λk=>k=w1.heap.size) R w2):=⟨λk hk=>zgS (by rw[hk];exact ab.size),λ_ h=>zgR h,(Goes.below (F:=λ_=>False) (R:=R) aa).same⟩;obtain⟨HY,av,au,ar⟩:=yi (zbz (i:=i) hx hp hsg) ah ae ad;clear aj ab ah ai af aa ae ad hring hkey hkr hrl hbl hx hp;go_enter func16,ntmps16
 go_upto_region 1 with(first|(refine kH rfl 49 _ rfl (.agg (regA y)) _ rfl (Tryz.zfQ y w) ?_)|fail)
 rw[<-au.o]
 go_upto_region 2 with(first|(refine zn rfl 49 _ rfl w.heap.size rfl 49 y _ av underlying49 rfl Tryz.zc3 ?_)|(refine xd rfl 68 0 1 _ _ rfl (pA kb 0) (.agg (regA y)) (.agg (K5 kb y sg)) rfl rfl (Tryz.zfn kb y sg w1) ?_)|(refine kH rfl 68 _ rfl (.agg (K5 kb y sg)) _ rfl (Tryz.zfR kb y sg w1) ?_)|fail)
 rw[<-ar.o];go_wp2_with fail
 refine ag.o.mono ?_;rintro e w3 ⟨rfl,F3,R3,h3,al⟩;have an:=zc (kX h3 HY.o (by omega) hS);have ao:=zc (aq.o.trans al);clear h3 al ag aq;go_wp2_with fail
 refine an.o.mono ?_;rintro e w4 ⟨rfl,F4,R4,h4,ak⟩;obtain⟨H4,aw⟩:=ze h4 (ao.o.trans ak);clear h4 ak an ao;go_wp2;go_ret;exact⟨w1.heap.size,F4,R4,rfl,H4,aw⟩
end
section
variable{W w0:World}{bk off K base0 n e0 e1 e2:Nat}{C:Array Value}{lv M v v26 v30 v31 v35 v36 v44 v45 v46 v47 v48 v49 v50:Value}{evs:List Value}{l:Nat->Bool}
theorem Zv{b j:Nat}{v':Value}{t:TypeId}(hbk:W.heap[bk]? =some (.cells C t (0,0)))(hC:C[off]? =some lv)(hne:lv≠M)(h:W.cell? (aA b j)=some M):(W.setCell (aA bk off) v').cell? (aA b j)=some M:=by
 by_cases e:b=bk
 .subst e;rw[zgs W b j _ _ _ hbk] at h;rw[zgs _ b j _ _ _ (setCell_row hbk off v'),Array.getElem?_setIfInBounds];by_cases e2:off=j
  .subst e2;rw[hC] at h;exact absurd (zg6 h) hne
  rw[zgU e2];exact h
 rw[<-h];exact zgw (w:=W) (a:=(aA b j)) ((zd W bk off v').block b e)
structure QM (bk K base base0 n:Nat) (lv v M:Value) (C:Array Value) (off e0 e1 e2:Nat) (evs:List Value) (w0:World) (l:Nat->Bool) (W:World) (v26 v30 v31 v35 v36 v44 v45 v46 v47 v48 v49 v50:Value):Prop where
 t:∀i,i∈[0,1,2,3,5,6,7,10,11,12,15,16,17,18,19,20,21]->l i=true
 os:W.os=w0.os
 tape:W.tape=w0.tape
 output:W.output=w0.output
 sz:w0.heap.size<=W.heap.size
 fr:∀k,k<w0.heap.size->k≠bk->some k≠lv.ownBlock->some k≠v.ownBlock->W.heap[k]? =w0.heap[k]?
 own:W.ownsRow base e0 1 v n (List.replicate n M)
 p4:l 4=true->v26=lv
 p8:l 8=true->q8 w0.heap.size W v30 1 #[M] e0
 p13:l 13=true->q8 w0.heap.size W v35 2 #[M,M] e0
 p22:l 22=true->q8 w0.heap.size W v44 6 #[M,M,M,M,M,M] e0
 p9:l 9=true->zN lv.ownBlock v.ownBlock w0.heap.size W v31 (n+1) M
 p14:l 14=true->zN lv.ownBlock v.ownBlock w0.heap.size W v36 (n+2) M
 p23:l 23=true->zN lv.ownBlock v.ownBlock w0.heap.size W v45 (n+6) M
 p24:l 24=true->q8 w0.heap.size W v46 4 #[v,v31,v36,v45] e1
 p25:l 25=true->q8 w0.heap.size W v47 1 #[v46] e2
 lvo:l 26=false->W.ownsRow base0 e2 1 lv K evs
 p26:l 26=true->W.ownsRow base0 e2 1 v48 (K+1) (evs++[v46])/\∀g,v48.ownBlock=some g->lv.ownBlock=some g\/w0.heap.size<=g
 p26m:l 26=true->zN v48.ownBlock v.ownBlock w0.heap.size W v n M/\zN v48.ownBlock v.ownBlock w0.heap.size W v31 (n+1) M/\zN v48.ownBlock v.ownBlock w0.heap.size W v36 (n+2) M/\zN v48.ownBlock v.ownBlock w0.heap.size W v45 (n+6) M
 c24:l 24=true->l 9=true/\l 14=true/\l 23=true
 c25:l 25=true->l 24=true
 c26:l 26=true->l 25=true
 c29:l 29=true->l 26=true/\l 4=true
 p27:l 27=true->v49=pA bk 7
 p28:l 28=true->v50=pA bk off
 bk0:l 29=false->W.heap[bk]? =some (.cells C 36 (0,0))
 bk1:l 29=true->W.heap[bk]? =some (.cells (C.setIfInBounds off v48) 36 (0,0))
def zcw(bk K base0 n:Nat)(lv v M:Value)(C:Array Value)(off e1 e2:Nat)(evs:List Value)(w w':World):Prop:=
 ∃lv' ge v1 v2 v3,w'.heap[bk]? =some (.cells (C.setIfInBounds off lv') 36 (0,0))/\w'.ownsRow base0 e2 1 lv' (K+1) (evs++[.slice (some (aA ge 0)) 4 4])/\(∀g,lv'.ownBlock=some g->lv.ownBlock=some g\/w.heap.size<=g)/\
  w.heap.size<=ge/\w'.heap[ge]? =some (.cells #[v,v1,v2,v3] e1 (0,0))/\
  zN lv'.ownBlock v.ownBlock w.heap.size w' v n M/\zN lv'.ownBlock v.ownBlock w.heap.size w' v1 (n+1) M/\zN lv'.ownBlock v.ownBlock w.heap.size w' v2 (n+2) M/\zN lv'.ownBlock v.ownBlock w.heap.size w' v3 (n+6) M/\
  w'.os=w.os/\w'.tape=w.tape/\w'.output=w.output/\w.heap.size<=w'.heap.size/\∀k,k<w.heap.size->k≠bk->some k≠lv.ownBlock->some k≠v.ownBlock->w'.heap[k]? =w.heap[k]?
theorem QM.more{base:Nat}{W':World}
 (h:QM bk K base base0 n lv v M C off e0 e1 e2 evs w0 l W v26 v30 v31 v35 v36 v44 v45 v46 v47 v48 v49 v50) (hS:zbq bk base lv v w0) (hg:W.grownBy W' v.ownBlock) (hown:W'.ownsRow base e0 1 v n (List.replicate n M))
 (hc:∀b j,W.cell? (aA b j)=some M->W'.cell? (aA b j)=some M):QM bk K base base0 n lv v M C off e0 e1 e2 evs w0 l W' v26 v30 v31 v35 v36 v44 v45 v46 v47 v48 v49 v50:=by
 have hsz:=h.sz;have nv:∀g,w0.heap.size<=g->some g≠v.ownBlock:=λg hg' e=>by have:=(hS.bv g e.symm).2;omega
 have aa:∀g,w0.heap.size<=g->g<W.heap.size->W'.heap[g]? =W.heap[g]? :=λg h1 h2=>hg.block g h2 (nv g h1);have ad:W'.heap[bk]? =W.heap[bk]? :=hg.block bk (by have:=hS.bb;have:=hS.bw;omega) (λe=>by have:=(hS.bv bk e.symm).1;have:=hS.bb;omega);have ab:∀g,lv.ownBlock=some g->some g≠v.ownBlock:=λg e e2=>(hS.bl g e).2 e2.symm;exact {
  t:=h.t,os:=hg.os.trans h.os,tape:=hg.tape.trans h.tape,output:=hg.output.trans h.output,sz:=zgu h.sz hg.size
  fr:=λk h1 h2 h3 h4=>(hg.block k (by omega) h4).trans (h.fr k h1 h2 h3 h4)
  own:=hown,p4:=h.p4
  p8:=λe=>(h.p8 e).kept aa,p13:=λe=>(h.p13 e).kept aa,p22:=λe=>(h.p22 e).kept aa
  p9:=λe=>(h.p9 e).later hg.size (λb j _=>hc b j),p14:=λe=>(h.p14 e).later hg.size (λb j _=>hc b j),p23:=λe=>(h.p23 e).later hg.size (λb j _=>hc b j)
  p24:=λe=>(h.p24 e).kept aa,p25:=λe=>(h.p25 e).kept aa
  lvo:=λe=>zb (h.lvo e) (λg e1 h2=>hg.block g h2 (ab g e1))
  p26:=λe=>⟨zb (h.p26 e).1 (λg e1 h2=>hg.block g h2 (by rcases(h.p26 e).2 g e1 with e3|e3;exact ab g e3;exact nv g e3)),(h.p26 e).2⟩
  p26m:=λe=>⟨(h.p26m e).1.later hg.size (λb j _=>hc b j),(h.p26m e).2.1.later hg.size (λb j _=>hc b j),(h.p26m e).2.2.1.later hg.size (λb j _=>hc b j),(h.p26m e).2.2.2.later hg.size (λb j _=>hc b j)⟩
  c24:=h.c24,c25:=h.c25,c26:=h.c26,c29:=h.c29
  p27:=h.p27,p28:=h.p28
  bk0:=λe=>ad.trans (h.bk0 e),bk1:=λe=>ad.trans (h.bk1 e) }
theorem QM.alloc{base:Nat}
 (h:QM bk K base base0 n lv v M C off e0 e1 e2 evs w0 l W v26 v30 v31 v35 v36 v44 v45 v46 v47 v48 v49 v50) (hS:zbq bk base lv v w0) (o:Obj):QM bk K base base0 n lv v M C off e0 e1 e2 evs w0 l (W.alloc o) v26 v30 v31 v35 v36 v44 v45 v46 v47 v48 v49 v50:=
 h.more hS ⟨rfl,rfl,rfl,by simp,λk hk _=>zg2 W o k hk⟩ (h.own.alloc o) (λb j hb=>by
  rw[<-hb];exact zgw (w:=W) (a:=(aA b j)) (zg2 W o b (jU hb)))
end
section
open Proofs.Tryz
theorem Tryz.ze3:(prog.info? 144).map (λi=>(i.zero,i.size,i.bytes))=some (some (.slice none 0 0),1,24):=by kernel_rfl
theorem GG(bk K base base0 n:Nat)(lv v:Value)(C:Array Value)(evs xs:List Value)(w:World)(hK:K<=100000000)(hn:n<=1000000)
 (hbook:w.heap[bk]? =some (.cells C 36 (0,0))) (hC:C[7]? =some lv) (hlv:w.ownsRow base0 144 1 lv K evs) (hv:w.ownsRow base 3 1 v n xs)
 (h1:bk<base0) (h2:bk<base) (h4:base<=w.heap.size) (h5:base0<=w.heap.size):
 Calls prog 64 #[pA bk 7,v] w λe w'=>e=.returned (.tuple #[])/\zcw bk K base0 n lv v (iA (-7000-(K:Int))) C 7 22 144 evs w w':=by
 obtain⟨i3,hi,aB,az,ay⟩:=info_parts Tryz.zeh;obtain⟨i74,aT,ax,aw,av⟩:=info_parts Tryz.ze3;obtain⟨lp,lc,rfl⟩:=zl hlv;obtain⟨M,hM⟩:∃M:Int,M= -7000-(K:Int):=⟨_,rfl⟩;rw[<-hM];have HM:=zc hM;have hc0:cE w bk 7 (.slice lp K lc):=(zgs w bk 7 _ _ _ hbook).trans hC;have ao:xs.length=n:=by have:=hv.1;omega
 obtain⟨ar,aJ,aH,HV,HX⟩:=kY hbook hC hlv hv ao;have H3:=zc (yA hlv hv (by decide));have H4:=zc h4;clear hM hbook hC hlv ao h4;obtain⟨vp,vc,rfl⟩:=zl hv;clear hv;go_enter func64,ntmps64;go_wp2_with ((go_at_call 66;refine(J6 K _ (by omega)).mono ?_;rintro e w1 ⟨rfl,aL⟩;have aQ:=aL.symm;clear aL;subst aQ;rw[<-HM.o]))
 go_loopw [5] (λi wr=>∃k:Nat,k<=n/\i=iA k/\wr.ownsRow base 3 1 (.slice vp n vc) n (List.replicate k (iA M)++xs.drop k)/\w.grownBy wr (Value.ownBlock (.slice vp n vc))) (λi _=>n-(intOf i).toNat)
 case atStart=>exact⟨0,zgv _,rfl,HV,World.grownBy.refl _ _⟩
 obtain⟨k,hk,rfl,ho,hg⟩:=hrel;obtain⟨HO,HG⟩:=ze ho hg;clear hg;by_cases aO:k=n
 .have aF:Hid (wr.ownsRow base 3 1 (.slice vp n vc) n (List.replicate n (iA M))):=by
   unfold Hid;have:=HO.o;rw[aO,List.drop_of_length_le (by rw[HX.o];exact zgp _),List.append_nil] at this;exact this
  have aP:¬(k:Int)<n:=by omega
  clear aO HO ho;go_wp2;have aW:base<=wr.heap.size:=zgu H4 HG.o.size;have HS:Hid (zbq bk base (.slice lp K lc) (.slice vp n vc) wr.drew):=⟨λg hg=>aF.o.lt g hg,λg hg=>⟨⟨zgt (aH.o.lt g hg).2 HG.o.size,by have:=(aH.o.lt g hg).1;omega⟩,H3.o g hg⟩,h2,aW⟩;have aK:Hid (cL wr.drew bk C 36):=(HG.o.block bk (by have:=H4.o;omega) (λe=>by have:=(aF.o.lt bk e.symm).1;omega)).trans ar.o;have aG:Hid (wr.drew.ownsRow base0 144 1 (.slice lp K lc) K evs):=zb aH (λg e h=>HG.o.block g h (λe2=>H3 g e e2.symm));have aX:base0<=wr.drew.heap.size:=zgu h5 HG.o.size;refine rgd (S:=λ_=>True) trivial λ_=>?_;refine y8 [(0,some 22,pA bk 7),(1,some 23,pA bk 7),(2,some 24,pA bk 7),(3,some 25,pA bk 7),(5,some 27,.slice vp n vc),(6,some 28,.slice vp n vc),(7,some 29,iA M),(10,some 32,.slice vp n vc),(11,some 33,iA M),(12,some 34,iA M),(15,some 37,.slice vp n vc),(16,some 38,iA M),(17,some 39,iA M),(18,some 40,iA M),(19,some 41,iA M),(20,some 42,iA M),(21,some 43,iA M)] _ _ trivial ?_;simp only[zh,AP,pA];refine Ye (by kernel_rfl) (λl a W=>∃v26 v30 v31 v35 v36 v44 v45 v46 v47 v48 v49 v50,a=⟨#[pA bk 7,.slice vp n vc,undef,undef,iA M,iA k,pA bk 7,pA bk 7,pA bk 7,.slice lp K lc,iA (K:Int),iA M,iA k,.slice vp n vc,iA n,bA false,u16,u17,u18,u19,u20,u21,pA bk 7,pA bk 7,pA bk 7,pA bk 7,v26,.slice vp n vc,.slice vp n vc,iA M,v30,v31,.slice vp n vc,iA M,iA M,v35,v36,.slice vp n vc,iA M,iA M,iA M,iA M,iA M,iA M,v44,v45,v46,v47,v48,v49,v50],[]⟩/\QM bk K base base0 n (.slice lp K lc) (.slice vp n vc) (iA M) C 7 3 22 144 evs wr.drew l W v26 v30 v31 v35 v36 v44 v45 v46 v47 v48 v49 v50) ?_ ?_ _ _ _ _ (by kernel_rfl) (Nat.le_of_eq (by kernel_rfl)) ?_
  .intro l a W i o hI hl ho hd K' af;obtain⟨v26,v30,v31,v35,v36,v44,v45,v46,v47,v48,v49,v50,rfl,hI⟩:=hI;match i,hl,ho,hd with
   |0,hl,ho,hd=>
    exact Bool.noConfusion (hl.symm.trans (hI.t 0 (by decide)))
   |1,hl,ho,hd=>
    exact Bool.noConfusion (hl.symm.trans (hI.t 1 (by decide)))
   |2,hl,ho,hd=>
    exact Bool.noConfusion (hl.symm.trans (hI.t 2 (by decide)))
   |3,hl,ho,hd=>
    exact Bool.noConfusion (hl.symm.trans (hI.t 3 (by decide)))
   |4,hl,ho,hd=>
    cases ho;rw[zgT (by rfl)];have aq:cE W bk 7 (.slice lp K lc):=(zgs W bk 7 _ _ _ (hI.bk0 (by cases aY:l 29 with|false=>rfl|true=>exact Bool.noConfusion (hl.symm.trans (hI.c29 aY).2)))).trans aJ;go_simp;exact af.out _ _ ⟨_,_,_,_,_,_,_,_,_,_,_,_,rfl,{ hI with t:=λj hj=>by unfold came;split;rfl;exact hI.t j hj,p4:=λ_=>rfl,c29:=λe=>⟨(hI.c29 e).1,rfl⟩ }⟩
   |5,hl,ho,hd=>
    exact Bool.noConfusion (hl.symm.trans (hI.t 5 (by decide)))
   |6,hl,ho,hd=>
    exact Bool.noConfusion (hl.symm.trans (hI.t 6 (by decide)))
   |7,hl,ho,hd=>
    exact Bool.noConfusion (hl.symm.trans (hI.t 7 (by decide)))
   |8,hl,ho,hd=>
    cases ho;rw[zgT (by rfl)];go_simp;have hA:=hI.alloc HS (.cells #[iA M] 3);exact af.out _ _ ⟨_,_,_,_,_,_,_,_,_,_,_,_,rfl,{ hA with t:=λj hj=>by unfold came;split;rfl;exact hI.t j hj,p8:=λ_=>q8.alloc W hI.sz 1 _ _ }⟩
   |9,hl,ho,hd=>
    cases ho;rw[zgT (by rfl)];obtain⟨gb,rfl,aC,ad⟩:=hI.p8 (hd ⟨8,.data⟩ (by simp) rfl);refine yq W (.tmp 28) (.tmp 30) 22 rfl base 3 i3 (iA 0) 8 underlying22 hi aB az ay rfl (.slice vp n vc) n _ rfl hI.own (aA gb 0) 1 1 (iA M) rfl (by decide) (λj u hj=>?_) rfl (by unfold maxLen;omega) (by omega) (zgu HS.o.bw hI.sz) ?_
    .match j,hj with
     |0,hj=>simp at hj;subst hj;rw[addr_add,zgs W gb _ _ _ _ ad];rfl
     |j+1,hj=>simp at hj
    intro v' W' ab aa ae al an;have hA:=hI.more HS aa al an;rw[List.replicate_append_replicate] at ab;exact af.out _ _ ⟨_,_,_,_,_,_,_,_,_,_,_,_,rfl,{ hA with t:=λj hj=>by unfold came;split;rfl;exact hI.t j hj,p9:=λ_=>zN.own ab (λg hg e=>by rcases ae with e1|e1;exact absurd (e1.symm.trans hg) (HS.o.bl g e.symm).2;(have e2:=e1.symm.trans hg;cases e2;have:=(HS.o.bl _ e.symm).1.1;have:=HS.o.bw;have:=hI.sz;omega)) (λg hg=>by rcases ae with e1|e1;exact zgR (hg.symm.trans e1);(have e2:=e1.symm.trans hg;cases e2;exact zgS hI.sz)),p24:=λe=>Bool.noConfusion (hl.symm.trans ((hI.c24 e).1)),p26m:=λe=>Bool.noConfusion (hl.symm.trans ((hI.c24 (hI.c25 (hI.c26 e))).1)),c24:=λe=>⟨rfl,(hI.c24 e).2⟩ }⟩
   |10,hl,ho,hd=>
    exact Bool.noConfusion (hl.symm.trans (hI.t 10 (by decide)))
   |11,hl,ho,hd=>
    exact Bool.noConfusion (hl.symm.trans (hI.t 11 (by decide)))
   |12,hl,ho,hd=>
    exact Bool.noConfusion (hl.symm.trans (hI.t 12 (by decide)))
   |13,hl,ho,hd=>
    cases ho;rw[zgT (by rfl)];go_simp;have hA:=hI.alloc HS (.cells #[iA M,iA M] 3);exact af.out _ _ ⟨_,_,_,_,_,_,_,_,_,_,_,_,rfl,{ hA with t:=λj hj=>by unfold came;split;rfl;exact hI.t j hj,p13:=λ_=>q8.alloc W hI.sz 2 _ _ }⟩
   |14,hl,ho,hd=>
    cases ho;rw[zgT (by rfl)];obtain⟨gb,rfl,aC,ad⟩:=hI.p13 (hd ⟨13,.data⟩ (by simp) rfl);refine yq W (.tmp 32) (.tmp 35) 22 rfl base 3 i3 (iA 0) 8 underlying22 hi aB az ay rfl (.slice vp n vc) n _ rfl hI.own (aA gb 0) 2 2 (iA M) rfl (by decide) (λj u hj=>?_) rfl (by unfold maxLen;omega) (by omega) (zgu HS.o.bw hI.sz) ?_
    .match j,hj with
     |0,hj=>simp at hj;subst hj;rw[addr_add,zgs W gb _ _ _ _ ad];rfl
     |1,hj=>simp at hj;subst hj;rw[addr_add,zgs W gb _ _ _ _ ad];rfl
     |j+2,hj=>simp at hj
    intro v' W' ab aa ae al an;have hA:=hI.more HS aa al an;rw[List.replicate_append_replicate] at ab;exact af.out _ _ ⟨_,_,_,_,_,_,_,_,_,_,_,_,rfl,{ hA with t:=λj hj=>by unfold came;split;rfl;exact hI.t j hj,p14:=λ_=>zN.own ab (λg hg e=>by rcases ae with e1|e1;exact absurd (e1.symm.trans hg) (HS.o.bl g e.symm).2;(have e2:=e1.symm.trans hg;cases e2;have:=(HS.o.bl _ e.symm).1.1;have:=HS.o.bw;have:=hI.sz;omega)) (λg hg=>by rcases ae with e1|e1;exact zgR (hg.symm.trans e1);(have e2:=e1.symm.trans hg;cases e2;exact zgS hI.sz)),p24:=λe=>Bool.noConfusion (hl.symm.trans ((hI.c24 e).2.1)),p26m:=λe=>Bool.noConfusion (hl.symm.trans ((hI.c24 (hI.c25 (hI.c26 e))).2.1)),c24:=λe=>⟨(hI.c24 e).1,rfl,(hI.c24 e).2.2⟩ }⟩
   |15,hl,ho,hd=>
    exact Bool.noConfusion (hl.symm.trans (hI.t 15 (by decide)))
   |16,hl,ho,hd=>
    exact Bool.noConfusion (hl.symm.trans (hI.t 16 (by decide)))
   |17,hl,ho,hd=>
    exact Bool.noConfusion (hl.symm.trans (hI.t 17 (by decide)))
   |18,hl,ho,hd=>
    exact Bool.noConfusion (hl.symm.trans (hI.t 18 (by decide)))
   |19,hl,ho,hd=>
    exact Bool.noConfusion (hl.symm.trans (hI.t 19 (by decide)))
   |20,hl,ho,hd=>
    exact Bool.noConfusion (hl.symm.trans (hI.t 20 (by decide)))
   |21,hl,ho,hd=>
    exact Bool.noConfusion (hl.symm.trans (hI.t 21 (by decide)))
   |22,hl,ho,hd=>
    cases ho;rw[zgT (by rfl)];go_simp;have hA:=hI.alloc HS (.cells #[iA M,iA M,iA M,iA M,iA M,iA M] 3);exact af.out _ _ ⟨_,_,_,_,_,_,_,_,_,_,_,_,rfl,{ hA with t:=λj hj=>by unfold came;split;rfl;exact hI.t j hj,p22:=λ_=>q8.alloc W hI.sz 6 _ _ }⟩
   |23,hl,ho,hd=>
    cases ho;rw[zgT (by rfl)];obtain⟨gb,rfl,aC,ad⟩:=hI.p22 (hd ⟨22,.data⟩ (by simp) rfl);refine yq W (.tmp 37) (.tmp 44) 22 rfl base 3 i3 (iA 0) 8 underlying22 hi aB az ay rfl (.slice vp n vc) n _ rfl hI.own (aA gb 0) 6 6 (iA M) rfl (by decide) (λj u hj=>?_) rfl (by unfold maxLen;omega) (by omega) (zgu HS.o.bw hI.sz) ?_
    .match j,hj with
     |0,hj=>simp at hj;subst hj;rw[addr_add,zgs W gb _ _ _ _ ad];rfl
     |1,hj=>simp at hj;subst hj;rw[addr_add,zgs W gb _ _ _ _ ad];rfl
     |2,hj=>simp at hj;subst hj;rw[addr_add,zgs W gb _ _ _ _ ad];rfl
     |3,hj=>simp at hj;subst hj;rw[addr_add,zgs W gb _ _ _ _ ad];rfl
     |4,hj=>simp at hj;subst hj;rw[addr_add,zgs W gb _ _ _ _ ad];rfl
     |5,hj=>simp at hj;subst hj;rw[addr_add,zgs W gb _ _ _ _ ad];rfl
     |j+6,hj=>simp at hj
    intro v' W' ab aa ae al an;have hA:=hI.more HS aa al an;rw[List.replicate_append_replicate] at ab;exact af.out _ _ ⟨_,_,_,_,_,_,_,_,_,_,_,_,rfl,{ hA with t:=λj hj=>by unfold came;split;rfl;exact hI.t j hj,p23:=λ_=>zN.own ab (λg hg e=>by rcases ae with e1|e1;exact absurd (e1.symm.trans hg) (HS.o.bl g e.symm).2;(have e2:=e1.symm.trans hg;cases e2;have:=(HS.o.bl _ e.symm).1.1;have:=HS.o.bw;have:=hI.sz;omega)) (λg hg=>by rcases ae with e1|e1;exact zgR (hg.symm.trans e1);(have e2:=e1.symm.trans hg;cases e2;exact zgS hI.sz)),p24:=λe=>Bool.noConfusion (hl.symm.trans ((hI.c24 e).2.2)),p26m:=λe=>Bool.noConfusion (hl.symm.trans ((hI.c24 (hI.c25 (hI.c26 e))).2.2)),c24:=λe=>⟨(hI.c24 e).1,(hI.c24 e).2.1,rfl⟩ }⟩
   |24,hl,ho,hd=>
    cases ho;rw[zgT (by rfl)];obtain⟨p1,q1,rfl,_⟩:=hI.p9 (hd ⟨9,.data⟩ (by simp) rfl);obtain⟨p2,q2,rfl,_⟩:=hI.p14 (hd ⟨14,.data⟩ (by simp) rfl);obtain⟨p3,q3,rfl,_⟩:=hI.p23 (hd ⟨23,.data⟩ (by simp) rfl);go_simp;have hA:=hI.alloc HS (.cells #[.slice vp n vc,.slice p1 (n+1) q1,.slice p2 (n+2) q2,.slice p3 (n+6) q3] 22);exact af.out _ _ ⟨_,_,_,_,_,_,_,_,_,_,_,_,rfl,{ hA with t:=λj hj=>by unfold came;split;rfl;exact hI.t j hj,p24:=λ_=>q8.alloc W hI.sz 4 _ _,p25:=λe=>Bool.noConfusion (hl.symm.trans (hI.c25 e)),p26:=λe=>Bool.noConfusion (hl.symm.trans (hI.c25 (hI.c26 e))),c24:=λ_=>⟨hd ⟨9,.data⟩ (by simp) rfl,hd ⟨14,.data⟩ (by simp) rfl,hd ⟨23,.data⟩ (by simp) rfl⟩,c25:=λ_=>rfl }⟩
   |25,hl,ho,hd=>
    cases ho;rw[zgT (by rfl)];obtain⟨g46,rfl,_,_⟩:=hI.p24 (hd ⟨24,.data⟩ (by simp) rfl);go_simp;have hA:=hI.alloc HS (.cells #[.slice (some (aA g46 0)) 4 4] 144);exact af.out _ _ ⟨_,_,_,_,_,_,_,_,_,_,_,_,rfl,{ hA with t:=λj hj=>by unfold came;split;rfl;exact hI.t j hj,p25:=λ_=>q8.alloc W hI.sz 1 _ _,c25:=λ_=>hd ⟨24,.data⟩ (by simp) rfl,c26:=λ_=>rfl }⟩
   |26,hl,ho,hd=>
    cases ho;rw[zgT (by rfl)];obtain rfl:=hI.p4 (hd ⟨4,.data⟩ (by simp) rfl);obtain⟨g46,rfl,aU⟩:=hI.p24 (hI.c25 (hd ⟨25,.data⟩ (by simp) rfl));obtain⟨gb,rfl,aC,ad⟩:=hI.p25 (hd ⟨25,.data⟩ (by simp) rfl);refine zQ W (.tmp 26) (.tmp 47) 31 rfl base0 144 i74 (.slice none 0 0) 1 24 underlying31 aT ax aw av rfl (by decide) (.slice lp K lc) K evs rfl (hI.lvo hl) (aA gb 0) 1 1 [.slice (some (aA g46 0)) 4 4] rfl rfl (λj u hj=>?_) (λu hu=>?_) (by unfold maxLen;omega) (by omega) (zgu aX hI.sz) ?_
    .match j,hj with
     |0,hj=>simp at hj;subst hj;rw[addr_add,zgs W gb _ _ _ _ ad];rfl
     |j+1,hj=>simp at hj
    .simp at hu;subst hu;rfl
    intro v' W' ab aa ae;have ah:∀g,wr.drew.heap.size<=g->g<W.heap.size->W'.heap[g]? =W.heap[g]? :=λg h1 h2=>aa.block g h2 (λe=>by have:=(HS.o.bl g e.symm).1.1;have:=HS.o.bw;omega);have ag:∀b j,some b≠Value.ownBlock (.slice lp K lc)->W.cell? (aA b j)=some (iA M)->W'.cell? (aA b j)=some (iA M):=λb j hx hc=>by rw[<-hc];exact zgw (w:=W) (a:=(aA b j)) (aa.block b (jU hc) hx)
    have aM:∀g,Value.ownBlock (.slice vp n vc)=some g->some g≠Value.ownBlock (.slice lp K lc):=λg e e2=>(HS.o.bl g e2.symm).2 e;have aD:W'.heap[bk]? =W.heap[bk]? :=aa.block bk (by have:=HS.o.bb;have:=HS.o.bw;have:=hI.sz;omega) (λe=>(HS.o.bl bk e.symm).1.2 rfl);have aE:=hI.c24 (hI.c25 (hd ⟨25,.data⟩ (by simp) rfl));exact af.out _ _ ⟨_,_,_,_,_,_,_,_,_,_,_,_,rfl,{ hI with t:=λj hj=>by unfold came;split;rfl;exact hI.t j hj,os:=aa.os.trans hI.os,tape:=aa.tape.trans hI.tape,output:=aa.output.trans hI.output,sz:=zgu hI.sz aa.size,fr:=λk h1 h2 h3 h4=>(aa.block k (zgt h1 hI.sz) h3).trans (hI.fr k h1 h2 h3 h4),own:=zb hI.own (λg e h2=>aa.block g h2 (aM g e)),p8:=λe=>(hI.p8 e).kept ah,p13:=λe=>(hI.p13 e).kept ah,p22:=λe=>(hI.p22 e).kept ah,p9:=λe=>(hI.p9 e).later aa.size ag,p14:=λe=>(hI.p14 e).later aa.size ag,p23:=λe=>(hI.p23 e).later aa.size ag,p24:=λe=>(hI.p24 e).kept ah,p25:=λe=>(hI.p25 e).kept ah,lvo:=λe=>Bool.noConfusion (show true=false from e),p26:=λ_=>⟨ab,λg hg=>by rcases ae with e1|e1;exact zgR (e1.symm.trans hg);(have e2:=e1.symm.trans hg;cases e2;exact zgS hI.sz)⟩,p26m:=λ_=>⟨(zN.own hI.own aM (λ_ e=>zgR e.symm)).both aa ae,(hI.p9 aE.1).both aa ae,(hI.p14 aE.2.1).both aa ae,(hI.p23 aE.2.2).both aa ae⟩,c26:=λ_=>hd ⟨25,.data⟩ (by simp) rfl,c29:=λe=>⟨rfl,(hI.c29 e).2⟩,bk0:=λe=>aD.trans (hI.bk0 e),bk1:=λe=>Bool.noConfusion (hl.symm.trans ((hI.c29 e).1)) }⟩
   |27,hl,ho,hd=>
    cases ho;rw[zgT (by rfl)];go_simp;exact af.out _ _ ⟨_,_,_,_,_,_,_,_,_,_,_,_,rfl,{ hI with t:=λj hj=>by unfold came;split;rfl;exact hI.t j hj,p27:=λ_=>rfl }⟩
   |28,hl,ho,hd=>
    cases ho;rw[zgT (by rfl)];obtain rfl:=hI.p27 (hd ⟨27,.data⟩ (by simp) rfl);go_simp;exact af.out _ _ ⟨_,_,_,_,_,_,_,_,_,_,_,_,rfl,{ hI with t:=λj hj=>by unfold came;split;rfl;exact hI.t j hj,p28:=λ_=>rfl }⟩
   |29,hl,ho,hd=>
    cases ho;rw[zgT (by rfl)];obtain rfl:=hI.p28 (hd ⟨28,.data⟩ (by simp) rfl);have aj:=hd ⟨26,.data⟩ (by simp) rfl;obtain⟨p48,c48,rfl⟩:=zl (hI.p26 aj).1;have aq:=hI.bk0 hl;have hcb:cE W bk 7 (.slice lp K lc):=(zgs W bk 7 _ _ _ aq).trans aJ;have hfb:W.frozen? (aA bk 7)=false:=by simp[World.frozen?,aq]
    go_simp;have hO:=zd W bk 7 (.slice p48 (K+1) c48);have ah:∀g,wr.drew.heap.size<=g->g<W.heap.size->(W.setCell (aA bk 7) (.slice p48 (K+1) c48)).heap[g]? =W.heap[g]? :=λg h1 h2=>hO.block g (λe=>by have:=HS.o.bb;have:=HS.o.bw;omega);have ag:∀(x:Option Nat) b j,some b≠x->cE W b j (iA M)->cE (W.setCell (aA bk 7) (.slice p48 (K+1) c48)) b j (iA M):=λx b j _ hc=>Zv aq aJ.o (by simp) hc;have ai:=Nat.le_of_eq hO.size.symm;exact af.out _ _ ⟨_,_,_,_,_,_,_,_,_,_,_,_,rfl,{ hI with t:=λj hj=>by unfold came;split;rfl;exact hI.t j hj,sz:=zgu hI.sz ai,fr:=λk h1 h2 h3 h4=>(hO.block k h2).trans (hI.fr k h1 h2 h3 h4),own:=zb hI.own (λg e _=>hO.block g (λe2=>by have:=(HS.o.bv g e).1;have:=HS.o.bb;omega)),p8:=λe=>(hI.p8 e).kept ah,p13:=λe=>(hI.p13 e).kept ah,p22:=λe=>(hI.p22 e).kept ah,p9:=λe=>(hI.p9 e).later ai (ag _),p14:=λe=>(hI.p14 e).later ai (ag _),p23:=λe=>(hI.p23 e).later ai (ag _),p24:=λe=>(hI.p24 e).kept ah,p25:=λe=>(hI.p25 e).kept ah,lvo:=λe=>Bool.noConfusion (aj.symm.trans e),p26:=λe=>⟨zb (hI.p26 e).1 (λg e1 _=>hO.block g (λe2=>by rcases(hI.p26 aj).2 g e1 with e3|e3;exact(HS.o.bl g e3).1.2 e2;(have:=HS.o.bb;have:=HS.o.bw;omega))),(hI.p26 e).2⟩,p26m:=λe=>⟨(hI.p26m e).1.later ai (ag _),(hI.p26m e).2.1.later ai (ag _),(hI.p26m e).2.2.1.later ai (ag _),(hI.p26m e).2.2.2.later ai (ag _)⟩,c29:=λ_=>⟨aj,hd ⟨4,.phase⟩ (by simp) rfl⟩,bk0:=λe=>Bool.noConfusion (show true=false from e),bk1:=λ_=>by simp[World.setCell,Array.getElem?_modify,aq] }⟩
   |i+30,hl,ho,hd=>exact absurd (Array.getElem?_eq_some_iff.1 ho).1 (by simp)
  .intro l a W hI ak;obtain⟨v26,v30,v31,v35,v36,v44,v45,v46,v47,v48,v49,v50,rfl,hI⟩:=hI;go_wp2;obtain⟨ge,rfl,aP,ad⟩:=hI.p24 (ak 24 (by simp));have aj:=ak 26 (by simp);have au:=hI.p26m aj;exact bodyPost_end (v:=.tuple #[]) (by simp[results,results64]) rfl ⟨rfl,v48,ge,v31,v36,v45,hI.bk1 (ak 29 (by simp)),(hI.p26 aj).1,λg hg=>((hI.p26 aj).2 g hg).imp id (zgu HG.o.size),zgu HG.o.size aP,ad,au.1.less HG.o.size,au.2.1.less HG.o.size,au.2.2.1.less HG.o.size,au.2.2.2.less HG.o.size,hI.os.trans HG.o.os,hI.tape.trans HG.o.tape,hI.output.trans HG.o.output,zgu HG.o.size hI.sz,λj a1 a2 a3 a4=>(hI.fr j (zgt a1 HG.o.size) a2 a3 a4).trans (HG.o.block j a1 a4)⟩
  refine⟨undef,undef,undef,undef,undef,undef,undef,undef,undef,undef,undef,undef,rfl,{ t:=zgF (by kernel_rfl),os:=rfl,tape:=rfl,output:=rfl,sz:=zgp _,fr:=λ_ _ _ _ _=>rfl,own:=aF.o.drew,p4:=λe=>Bool.noConfusion (show false=true from e),p8:=λe=>Bool.noConfusion (show false=true from e),p13:=λe=>Bool.noConfusion (show false=true from e),p22:=λe=>Bool.noConfusion (show false=true from e),p9:=λe=>Bool.noConfusion (show false=true from e),p14:=λe=>Bool.noConfusion (show false=true from e),p23:=λe=>Bool.noConfusion (show false=true from e),p24:=λe=>Bool.noConfusion (show false=true from e),p25:=λe=>Bool.noConfusion (show false=true from e),lvo:=λ_=>aG,p26:=λe=>Bool.noConfusion (show false=true from e),p26m:=λe=>Bool.noConfusion (show false=true from e),c24:=λe=>Bool.noConfusion (show false=true from e),c25:=λe=>Bool.noConfusion (show false=true from e),c26:=λe=>Bool.noConfusion (show false=true from e),c29:=λe=>Bool.noConfusion (show false=true from e),p27:=λe=>Bool.noConfusion (show false=true from e),p28:=λe=>Bool.noConfusion (show false=true from e),bk0:=λ_=>aK,bk1:=λe=>Bool.noConfusion (show false=true from e) }⟩
 have aN:k<n:=by omega
 have aS:(k:Int)<n:=by omega
 rcases ho.2 with⟨_,h0⟩|⟨g,cap,cur,e,hb,-,-,-,-,-⟩
 .omega
 cases e;have HS:=Gg HO aN (M:=iA M);have aV:∃u,cE wr g k u:=⟨_,HS.1.trans (zgy (by have:=HO.o.1;omega))⟩;obtain⟨u,hcu⟩:=aV;have hfu:=HS.2.1;have aZ:=zc HS.2.2;clear HS ho;go_wp2;go_roundw
 case rel=>exact⟨k+1,by omega,by go_num,by rw[<-Qu xs _ k n HX.o aN];exact aZ.o,HG.o.trans ⟨rfl,rfl,rfl,by simp[World.setCell],λj hj aR=>(zd wr g k _).block j (λe=>aR (by rw[e];rfl))⟩⟩
 simp[intOf];omega
theorem Tryz.ze2:(prog.info? 63).map (λi=>(i.zero,i.size,i.bytes))=some (some (.slice none 0 0),1,24):=by kernel_rfl
theorem VZ(bk K base base0 n:Nat)(lv v:Value)(C:Array Value)(evs xs:List Value)(w:World)(hK:K<=100000000)(hn:n<=1000000)
 (hbook:w.heap[bk]? =some (.cells C 36 (0,0))) (hC:C[8]? =some lv) (hlv:w.ownsRow base0 63 1 lv K evs) (hv:w.ownsRow base 9 1 v n xs)
 (h1:bk<base0) (h2:bk<base) (h4:base<=w.heap.size) (h5:base0<=w.heap.size):
 Calls prog 72 #[pA bk 7,v] w λe w'=>e=.returned (.tuple #[])/\zcw bk K base0 n lv v (sA (KV K)) C 8 30 63 evs w w':=by
 obtain⟨i3,hi,aB,az,ay⟩:=info_parts Tryz.zdz;obtain⟨i74,aT,ax,aw,av⟩:=info_parts Tryz.ze2;obtain⟨lp,lc,rfl⟩:=zl hlv;obtain⟨M,hM⟩:∃M:zgW,M=KV K:=⟨_,rfl⟩;rw[<-hM];have HM:=zc hM;have hc0:cE w bk 8 (.slice lp K lc):=(zgs w bk 8 _ _ _ hbook).trans hC;have ao:xs.length=n:=by have:=hv.1;omega
 obtain⟨ar,aJ,aH,HV,HX⟩:=kY hbook hC hlv hv ao;have H3:=zc (yA hlv hv (by decide));have H4:=zc h4;clear hM hbook hC hlv ao h4;obtain⟨vp,vc,rfl⟩:=zl hv;clear hv;go_enter func72,ntmps72;go_wp2_with ((go_at_call 67;refine(KU K _ (by omega)).mono ?_;rintro e w1 ⟨rfl,aQ⟩;have aL:=zc aQ;clear aQ;rw[<-HM.o]))
 go_loopw [5] (λi wr=>∃k:Nat,k<=n/\i=iA k/\wr.ownsRow base 9 1 (.slice vp n vc) n (List.replicate k (sA M)++xs.drop k)/\w.grownBy wr (Value.ownBlock (.slice vp n vc))) (λi _=>n-(intOf i).toNat)
 case atStart=>exact⟨0,zgv _,rfl,zb HV (λg _ hg=>aL.o.block g hg),{ aL with block:=λk hk _=>aL.o.block k hk }⟩
 obtain⟨k,hk,rfl,ho,hg⟩:=hrel;obtain⟨HO,HG⟩:=ze ho hg;clear hg;by_cases aO:k=n
 .have aF:Hid (wr.ownsRow base 9 1 (.slice vp n vc) n (List.replicate n (sA M))):=by
   unfold Hid;have:=HO.o;rw[aO,List.drop_of_length_le (by rw[HX.o];exact zgp _),List.append_nil] at this;exact this
  have aP:¬(k:Int)<n:=by omega
  clear aO HO ho;go_wp2;have aW:base<=wr.heap.size:=zgu H4 HG.o.size;have HS:Hid (zbq bk base (.slice lp K lc) (.slice vp n vc) wr.drew):=⟨λg hg=>aF.o.lt g hg,λg hg=>⟨⟨zgt (aH.o.lt g hg).2 HG.o.size,by have:=(aH.o.lt g hg).1;omega⟩,H3.o g hg⟩,h2,aW⟩;have aK:Hid (cL wr.drew bk C 36):=(HG.o.block bk (by have:=H4.o;omega) (λe=>by have:=(aF.o.lt bk e.symm).1;omega)).trans ar.o;have aG:Hid (wr.drew.ownsRow base0 63 1 (.slice lp K lc) K evs):=zb aH (λg e h=>HG.o.block g h (λe2=>H3 g e e2.symm));have aX:base0<=wr.drew.heap.size:=zgu h5 HG.o.size;refine rgd (S:=λ_=>True) trivial λ_=>?_;refine y8 [(0,some 22,pA bk 7),(1,some 23,pA bk 7),(2,some 24,pA bk 7),(3,some 25,pA bk 8),(5,some 27,.slice vp n vc),(6,some 28,.slice vp n vc),(7,some 29,sA M),(10,some 32,.slice vp n vc),(11,some 33,sA M),(12,some 34,sA M),(15,some 37,.slice vp n vc),(16,some 38,sA M),(17,some 39,sA M),(18,some 40,sA M),(19,some 41,sA M),(20,some 42,sA M),(21,some 43,sA M)] _ _ trivial ?_;simp only[zh,AP,pA];refine Ye (by kernel_rfl) (λl a W=>∃v26 v30 v31 v35 v36 v44 v45 v46 v47 v48 v49 v50,a=⟨#[pA bk 7,.slice vp n vc,undef,undef,sA M,iA k,pA bk 7,pA bk 7,pA bk 8,.slice lp K lc,iA (K:Int),sA M,iA k,.slice vp n vc,iA n,bA false,u16,u17,u18,u19,u20,u21,pA bk 7,pA bk 7,pA bk 7,pA bk 8,v26,.slice vp n vc,.slice vp n vc,sA M,v30,v31,.slice vp n vc,sA M,sA M,v35,v36,.slice vp n vc,sA M,sA M,sA M,sA M,sA M,sA M,v44,v45,v46,v47,v48,v49,v50],[]⟩/\QM bk K base base0 n (.slice lp K lc) (.slice vp n vc) (sA M) C 8 9 30 63 evs wr.drew l W v26 v30 v31 v35 v36 v44 v45 v46 v47 v48 v49 v50) ?_ ?_ _ _ _ _ (by kernel_rfl) (Nat.le_of_eq (by kernel_rfl)) ?_
  .intro l a W i o hI hl ho hd K' af;obtain⟨v26,v30,v31,v35,v36,v44,v45,v46,v47,v48,v49,v50,rfl,hI⟩:=hI;match i,hl,ho,hd with
   |0,hl,ho,hd=>
    exact Bool.noConfusion (hl.symm.trans (hI.t 0 (by decide)))
   |1,hl,ho,hd=>
    exact Bool.noConfusion (hl.symm.trans (hI.t 1 (by decide)))
   |2,hl,ho,hd=>
    exact Bool.noConfusion (hl.symm.trans (hI.t 2 (by decide)))
   |3,hl,ho,hd=>
    exact Bool.noConfusion (hl.symm.trans (hI.t 3 (by decide)))
   |4,hl,ho,hd=>
    cases ho;rw[zgT (by rfl)];have aq:cE W bk 8 (.slice lp K lc):=(zgs W bk 8 _ _ _ (hI.bk0 (by cases aY:l 29 with|false=>rfl|true=>exact Bool.noConfusion (hl.symm.trans (hI.c29 aY).2)))).trans aJ;go_simp;exact af.out _ _ ⟨_,_,_,_,_,_,_,_,_,_,_,_,rfl,{ hI with t:=λj hj=>by unfold came;split;rfl;exact hI.t j hj,p4:=λ_=>rfl,c29:=λe=>⟨(hI.c29 e).1,rfl⟩ }⟩
   |5,hl,ho,hd=>
    exact Bool.noConfusion (hl.symm.trans (hI.t 5 (by decide)))
   |6,hl,ho,hd=>
    exact Bool.noConfusion (hl.symm.trans (hI.t 6 (by decide)))
   |7,hl,ho,hd=>
    exact Bool.noConfusion (hl.symm.trans (hI.t 7 (by decide)))
   |8,hl,ho,hd=>
    cases ho;rw[zgT (by rfl)];go_simp;have hA:=hI.alloc HS (.cells #[sA M] 9);exact af.out _ _ ⟨_,_,_,_,_,_,_,_,_,_,_,_,rfl,{ hA with t:=λj hj=>by unfold came;split;rfl;exact hI.t j hj,p8:=λ_=>q8.alloc W hI.sz 1 _ _ }⟩
   |9,hl,ho,hd=>
    cases ho;rw[zgT (by rfl)];obtain⟨gb,rfl,aC,ad⟩:=hI.p8 (hd ⟨8,.data⟩ (by simp) rfl);refine yq W (.tmp 28) (.tmp 30) 30 rfl base 9 i3 (sA zgV) 16 underlying30 hi aB az ay rfl (.slice vp n vc) n _ rfl hI.own (aA gb 0) 1 1 (sA M) rfl (by decide) (λj u hj=>?_) rfl (by unfold maxLen;omega) (by omega) (zgu HS.o.bw hI.sz) ?_
    .match j,hj with
     |0,hj=>simp at hj;subst hj;rw[addr_add,zgs W gb _ _ _ _ ad];rfl
     |j+1,hj=>simp at hj
    intro v' W' ab aa ae al an;have hA:=hI.more HS aa al an;rw[List.replicate_append_replicate] at ab;exact af.out _ _ ⟨_,_,_,_,_,_,_,_,_,_,_,_,rfl,{ hA with t:=λj hj=>by unfold came;split;rfl;exact hI.t j hj,p9:=λ_=>zN.own ab (λg hg e=>by rcases ae with e1|e1;exact absurd (e1.symm.trans hg) (HS.o.bl g e.symm).2;(have e2:=e1.symm.trans hg;cases e2;have:=(HS.o.bl _ e.symm).1.1;have:=HS.o.bw;have:=hI.sz;omega)) (λg hg=>by rcases ae with e1|e1;exact zgR (hg.symm.trans e1);(have e2:=e1.symm.trans hg;cases e2;exact zgS hI.sz)),p24:=λe=>Bool.noConfusion (hl.symm.trans ((hI.c24 e).1)),p26m:=λe=>Bool.noConfusion (hl.symm.trans ((hI.c24 (hI.c25 (hI.c26 e))).1)),c24:=λe=>⟨rfl,(hI.c24 e).2⟩ }⟩
   |10,hl,ho,hd=>
    exact Bool.noConfusion (hl.symm.trans (hI.t 10 (by decide)))
   |11,hl,ho,hd=>
    exact Bool.noConfusion (hl.symm.trans (hI.t 11 (by decide)))
   |12,hl,ho,hd=>
    exact Bool.noConfusion (hl.symm.trans (hI.t 12 (by decide)))
   |13,hl,ho,hd=>
    cases ho;rw[zgT (by rfl)];go_simp;have hA:=hI.alloc HS (.cells #[sA M,sA M] 9);exact af.out _ _ ⟨_,_,_,_,_,_,_,_,_,_,_,_,rfl,{ hA with t:=λj hj=>by unfold came;split;rfl;exact hI.t j hj,p13:=λ_=>q8.alloc W hI.sz 2 _ _ }⟩
   |14,hl,ho,hd=>
    cases ho;rw[zgT (by rfl)];obtain⟨gb,rfl,aC,ad⟩:=hI.p13 (hd ⟨13,.data⟩ (by simp) rfl);refine yq W (.tmp 32) (.tmp 35) 30 rfl base 9 i3 (sA zgV) 16 underlying30 hi aB az ay rfl (.slice vp n vc) n _ rfl hI.own (aA gb 0) 2 2 (sA M) rfl (by decide) (λj u hj=>?_) rfl (by unfold maxLen;omega) (by omega) (zgu HS.o.bw hI.sz) ?_
    .match j,hj with
     |0,hj=>simp at hj;subst hj;rw[addr_add,zgs W gb _ _ _ _ ad];rfl
     |1,hj=>simp at hj;subst hj;rw[addr_add,zgs W gb _ _ _ _ ad];rfl
     |j+2,hj=>simp at hj
    intro v' W' ab aa ae al an;have hA:=hI.more HS aa al an;rw[List.replicate_append_replicate] at ab;exact af.out _ _ ⟨_,_,_,_,_,_,_,_,_,_,_,_,rfl,{ hA with t:=λj hj=>by unfold came;split;rfl;exact hI.t j hj,p14:=λ_=>zN.own ab (λg hg e=>by rcases ae with e1|e1;exact absurd (e1.symm.trans hg) (HS.o.bl g e.symm).2;(have e2:=e1.symm.trans hg;cases e2;have:=(HS.o.bl _ e.symm).1.1;have:=HS.o.bw;have:=hI.sz;omega)) (λg hg=>by rcases ae with e1|e1;exact zgR (hg.symm.trans e1);(have e2:=e1.symm.trans hg;cases e2;exact zgS hI.sz)),p24:=λe=>Bool.noConfusion (hl.symm.trans ((hI.c24 e).2.1)),p26m:=λe=>Bool.noConfusion (hl.symm.trans ((hI.c24 (hI.c25 (hI.c26 e))).2.1)),c24:=λe=>⟨(hI.c24 e).1,rfl,(hI.c24 e).2.2⟩ }⟩
   |15,hl,ho,hd=>
    exact Bool.noConfusion (hl.symm.trans (hI.t 15 (by decide)))
   |16,hl,ho,hd=>
    exact Bool.noConfusion (hl.symm.trans (hI.t 16 (by decide)))
   |17,hl,ho,hd=>
    exact Bool.noConfusion (hl.symm.trans (hI.t 17 (by decide)))
   |18,hl,ho,hd=>
    exact Bool.noConfusion (hl.symm.trans (hI.t 18 (by decide)))
   |19,hl,ho,hd=>
    exact Bool.noConfusion (hl.symm.trans (hI.t 19 (by decide)))
   |20,hl,ho,hd=>
    exact Bool.noConfusion (hl.symm.trans (hI.t 20 (by decide)))
   |21,hl,ho,hd=>
    exact Bool.noConfusion (hl.symm.trans (hI.t 21 (by decide)))
   |22,hl,ho,hd=>
    cases ho;rw[zgT (by rfl)];go_simp;have hA:=hI.alloc HS (.cells #[sA M,sA M,sA M,sA M,sA M,sA M] 9);exact af.out _ _ ⟨_,_,_,_,_,_,_,_,_,_,_,_,rfl,{ hA with t:=λj hj=>by unfold came;split;rfl;exact hI.t j hj,p22:=λ_=>q8.alloc W hI.sz 6 _ _ }⟩
   |23,hl,ho,hd=>
    cases ho;rw[zgT (by rfl)];obtain⟨gb,rfl,aC,ad⟩:=hI.p22 (hd ⟨22,.data⟩ (by simp) rfl);refine yq W (.tmp 37) (.tmp 44) 30 rfl base 9 i3 (sA zgV) 16 underlying30 hi aB az ay rfl (.slice vp n vc) n _ rfl hI.own (aA gb 0) 6 6 (sA M) rfl (by decide) (λj u hj=>?_) rfl (by unfold maxLen;omega) (by omega) (zgu HS.o.bw hI.sz) ?_
    .match j,hj with
     |0,hj=>simp at hj;subst hj;rw[addr_add,zgs W gb _ _ _ _ ad];rfl
     |1,hj=>simp at hj;subst hj;rw[addr_add,zgs W gb _ _ _ _ ad];rfl
     |2,hj=>simp at hj;subst hj;rw[addr_add,zgs W gb _ _ _ _ ad];rfl
     |3,hj=>simp at hj;subst hj;rw[addr_add,zgs W gb _ _ _ _ ad];rfl
     |4,hj=>simp at hj;subst hj;rw[addr_add,zgs W gb _ _ _ _ ad];rfl
     |5,hj=>simp at hj;subst hj;rw[addr_add,zgs W gb _ _ _ _ ad];rfl
     |j+6,hj=>simp at hj
    intro v' W' ab aa ae al an;have hA:=hI.more HS aa al an;rw[List.replicate_append_replicate] at ab;exact af.out _ _ ⟨_,_,_,_,_,_,_,_,_,_,_,_,rfl,{ hA with t:=λj hj=>by unfold came;split;rfl;exact hI.t j hj,p23:=λ_=>zN.own ab (λg hg e=>by rcases ae with e1|e1;exact absurd (e1.symm.trans hg) (HS.o.bl g e.symm).2;(have e2:=e1.symm.trans hg;cases e2;have:=(HS.o.bl _ e.symm).1.1;have:=HS.o.bw;have:=hI.sz;omega)) (λg hg=>by rcases ae with e1|e1;exact zgR (hg.symm.trans e1);(have e2:=e1.symm.trans hg;cases e2;exact zgS hI.sz)),p24:=λe=>Bool.noConfusion (hl.symm.trans ((hI.c24 e).2.2)),p26m:=λe=>Bool.noConfusion (hl.symm.trans ((hI.c24 (hI.c25 (hI.c26 e))).2.2)),c24:=λe=>⟨(hI.c24 e).1,(hI.c24 e).2.1,rfl⟩ }⟩
   |24,hl,ho,hd=>
    cases ho;rw[zgT (by rfl)];obtain⟨p1,q1,rfl,_⟩:=hI.p9 (hd ⟨9,.data⟩ (by simp) rfl);obtain⟨p2,q2,rfl,_⟩:=hI.p14 (hd ⟨14,.data⟩ (by simp) rfl);obtain⟨p3,q3,rfl,_⟩:=hI.p23 (hd ⟨23,.data⟩ (by simp) rfl);go_simp;have hA:=hI.alloc HS (.cells #[.slice vp n vc,.slice p1 (n+1) q1,.slice p2 (n+2) q2,.slice p3 (n+6) q3] 30);exact af.out _ _ ⟨_,_,_,_,_,_,_,_,_,_,_,_,rfl,{ hA with t:=λj hj=>by unfold came;split;rfl;exact hI.t j hj,p24:=λ_=>q8.alloc W hI.sz 4 _ _,p25:=λe=>Bool.noConfusion (hl.symm.trans (hI.c25 e)),p26:=λe=>Bool.noConfusion (hl.symm.trans (hI.c25 (hI.c26 e))),c24:=λ_=>⟨hd ⟨9,.data⟩ (by simp) rfl,hd ⟨14,.data⟩ (by simp) rfl,hd ⟨23,.data⟩ (by simp) rfl⟩,c25:=λ_=>rfl }⟩
   |25,hl,ho,hd=>
    cases ho;rw[zgT (by rfl)];obtain⟨g46,rfl,_,_⟩:=hI.p24 (hd ⟨24,.data⟩ (by simp) rfl);go_simp;have hA:=hI.alloc HS (.cells #[.slice (some (aA g46 0)) 4 4] 63);exact af.out _ _ ⟨_,_,_,_,_,_,_,_,_,_,_,_,rfl,{ hA with t:=λj hj=>by unfold came;split;rfl;exact hI.t j hj,p25:=λ_=>q8.alloc W hI.sz 1 _ _,c25:=λ_=>hd ⟨24,.data⟩ (by simp) rfl,c26:=λ_=>rfl }⟩
   |26,hl,ho,hd=>
    cases ho;rw[zgT (by rfl)];obtain rfl:=hI.p4 (hd ⟨4,.data⟩ (by simp) rfl);obtain⟨g46,rfl,aU⟩:=hI.p24 (hI.c25 (hd ⟨25,.data⟩ (by simp) rfl));obtain⟨gb,rfl,aC,ad⟩:=hI.p25 (hd ⟨25,.data⟩ (by simp) rfl);refine zQ W (.tmp 26) (.tmp 47) 32 rfl base0 63 i74 (.slice none 0 0) 1 24 underlying32 aT ax aw av rfl (by decide) (.slice lp K lc) K evs rfl (hI.lvo hl) (aA gb 0) 1 1 [.slice (some (aA g46 0)) 4 4] rfl rfl (λj u hj=>?_) (λu hu=>?_) (by unfold maxLen;omega) (by omega) (zgu aX hI.sz) ?_
    .match j,hj with
     |0,hj=>simp at hj;subst hj;rw[addr_add,zgs W gb _ _ _ _ ad];rfl
     |j+1,hj=>simp at hj
    .simp at hu;subst hu;rfl
    intro v' W' ab aa ae;have ah:∀g,wr.drew.heap.size<=g->g<W.heap.size->W'.heap[g]? =W.heap[g]? :=λg h1 h2=>aa.block g h2 (λe=>by have:=(HS.o.bl g e.symm).1.1;have:=HS.o.bw;omega);have ag:∀b j,some b≠Value.ownBlock (.slice lp K lc)->W.cell? (aA b j)=some (sA M)->W'.cell? (aA b j)=some (sA M):=λb j hx hc=>by rw[<-hc];exact zgw (w:=W) (a:=(aA b j)) (aa.block b (jU hc) hx)
    have aM:∀g,Value.ownBlock (.slice vp n vc)=some g->some g≠Value.ownBlock (.slice lp K lc):=λg e e2=>(HS.o.bl g e2.symm).2 e;have aD:W'.heap[bk]? =W.heap[bk]? :=aa.block bk (by have:=HS.o.bb;have:=HS.o.bw;have:=hI.sz;omega) (λe=>(HS.o.bl bk e.symm).1.2 rfl);have aE:=hI.c24 (hI.c25 (hd ⟨25,.data⟩ (by simp) rfl));exact af.out _ _ ⟨_,_,_,_,_,_,_,_,_,_,_,_,rfl,{ hI with t:=λj hj=>by unfold came;split;rfl;exact hI.t j hj,os:=aa.os.trans hI.os,tape:=aa.tape.trans hI.tape,output:=aa.output.trans hI.output,sz:=zgu hI.sz aa.size,fr:=λk h1 h2 h3 h4=>(aa.block k (zgt h1 hI.sz) h3).trans (hI.fr k h1 h2 h3 h4),own:=zb hI.own (λg e h2=>aa.block g h2 (aM g e)),p8:=λe=>(hI.p8 e).kept ah,p13:=λe=>(hI.p13 e).kept ah,p22:=λe=>(hI.p22 e).kept ah,p9:=λe=>(hI.p9 e).later aa.size ag,p14:=λe=>(hI.p14 e).later aa.size ag,p23:=λe=>(hI.p23 e).later aa.size ag,p24:=λe=>(hI.p24 e).kept ah,p25:=λe=>(hI.p25 e).kept ah,lvo:=λe=>Bool.noConfusion (show true=false from e),p26:=λ_=>⟨ab,λg hg=>by rcases ae with e1|e1;exact zgR (e1.symm.trans hg);(have e2:=e1.symm.trans hg;cases e2;exact zgS hI.sz)⟩,p26m:=λ_=>⟨(zN.own hI.own aM (λ_ e=>zgR e.symm)).both aa ae,(hI.p9 aE.1).both aa ae,(hI.p14 aE.2.1).both aa ae,(hI.p23 aE.2.2).both aa ae⟩,c26:=λ_=>hd ⟨25,.data⟩ (by simp) rfl,c29:=λe=>⟨rfl,(hI.c29 e).2⟩,bk0:=λe=>aD.trans (hI.bk0 e),bk1:=λe=>Bool.noConfusion (hl.symm.trans ((hI.c29 e).1)) }⟩
   |27,hl,ho,hd=>
    cases ho;rw[zgT (by rfl)];go_simp;exact af.out _ _ ⟨_,_,_,_,_,_,_,_,_,_,_,_,rfl,{ hI with t:=λj hj=>by unfold came;split;rfl;exact hI.t j hj,p27:=λ_=>rfl }⟩
   |28,hl,ho,hd=>
    cases ho;rw[zgT (by rfl)];obtain rfl:=hI.p27 (hd ⟨27,.data⟩ (by simp) rfl);go_simp;exact af.out _ _ ⟨_,_,_,_,_,_,_,_,_,_,_,_,rfl,{ hI with t:=λj hj=>by unfold came;split;rfl;exact hI.t j hj,p28:=λ_=>rfl }⟩
   |29,hl,ho,hd=>
    cases ho;rw[zgT (by rfl)];obtain rfl:=hI.p28 (hd ⟨28,.data⟩ (by simp) rfl);have aj:=hd ⟨26,.data⟩ (by simp) rfl;obtain⟨p48,c48,rfl⟩:=zl (hI.p26 aj).1;have aq:=hI.bk0 hl;have hcb:cE W bk 8 (.slice lp K lc):=(zgs W bk 8 _ _ _ aq).trans aJ;have hfb:W.frozen? (aA bk 8)=false:=by simp[World.frozen?,aq]
    go_simp;have hO:=zd W bk 8 (.slice p48 (K+1) c48);have ah:∀g,wr.drew.heap.size<=g->g<W.heap.size->(W.setCell (aA bk 8) (.slice p48 (K+1) c48)).heap[g]? =W.heap[g]? :=λg h1 h2=>hO.block g (λe=>by have:=HS.o.bb;have:=HS.o.bw;omega);have ag:∀(x:Option Nat) b j,some b≠x->cE W b j (sA M)->cE (W.setCell (aA bk 8) (.slice p48 (K+1) c48)) b j (sA M):=λx b j _ hc=>Zv aq aJ.o (by simp) hc;have ai:=Nat.le_of_eq hO.size.symm;exact af.out _ _ ⟨_,_,_,_,_,_,_,_,_,_,_,_,rfl,{ hI with t:=λj hj=>by unfold came;split;rfl;exact hI.t j hj,sz:=zgu hI.sz ai,fr:=λk h1 h2 h3 h4=>(hO.block k h2).trans (hI.fr k h1 h2 h3 h4),own:=zb hI.own (λg e _=>hO.block g (λe2=>by have:=(HS.o.bv g e).1;have:=HS.o.bb;omega)),p8:=λe=>(hI.p8 e).kept ah,p13:=λe=>(hI.p13 e).kept ah,p22:=λe=>(hI.p22 e).kept ah,p9:=λe=>(hI.p9 e).later ai (ag _),p14:=λe=>(hI.p14 e).later ai (ag _),p23:=λe=>(hI.p23 e).later ai (ag _),p24:=λe=>(hI.p24 e).kept ah,p25:=λe=>(hI.p25 e).kept ah,lvo:=λe=>Bool.noConfusion (aj.symm.trans e),p26:=λe=>⟨zb (hI.p26 e).1 (λg e1 _=>hO.block g (λe2=>by rcases(hI.p26 aj).2 g e1 with e3|e3;exact(HS.o.bl g e3).1.2 e2;(have:=HS.o.bb;have:=HS.o.bw;omega))),(hI.p26 e).2⟩,p26m:=λe=>⟨(hI.p26m e).1.later ai (ag _),(hI.p26m e).2.1.later ai (ag _),(hI.p26m e).2.2.1.later ai (ag _),(hI.p26m e).2.2.2.later ai (ag _)⟩,c29:=λ_=>⟨aj,hd ⟨4,.phase⟩ (by simp) rfl⟩,bk0:=λe=>Bool.noConfusion (show true=false from e),bk1:=λ_=>by simp[World.setCell,Array.getElem?_modify,aq] }⟩
   |i+30,hl,ho,hd=>exact absurd (Array.getElem?_eq_some_iff.1 ho).1 (by simp)
  .intro l a W hI ak;obtain⟨v26,v30,v31,v35,v36,v44,v45,v46,v47,v48,v49,v50,rfl,hI⟩:=hI;go_wp2;obtain⟨ge,rfl,aP,ad⟩:=hI.p24 (ak 24 (by simp));have aj:=ak 26 (by simp);have au:=hI.p26m aj;exact bodyPost_end (v:=.tuple #[]) (by simp[results,results72]) rfl ⟨rfl,v48,ge,v31,v36,v45,hI.bk1 (ak 29 (by simp)),(hI.p26 aj).1,λg hg=>((hI.p26 aj).2 g hg).imp id (zgu HG.o.size),zgu HG.o.size aP,ad,au.1.less HG.o.size,au.2.1.less HG.o.size,au.2.2.1.less HG.o.size,au.2.2.2.less HG.o.size,hI.os.trans HG.o.os,hI.tape.trans HG.o.tape,hI.output.trans HG.o.output,zgu HG.o.size hI.sz,λj a1 a2 a3 a4=>(hI.fr j (zgt a1 HG.o.size) a2 a3 a4).trans (HG.o.block j a1 a4)⟩
  refine⟨undef,undef,undef,undef,undef,undef,undef,undef,undef,undef,undef,undef,rfl,{ t:=zgF (by kernel_rfl),os:=rfl,tape:=rfl,output:=rfl,sz:=zgp _,fr:=λ_ _ _ _ _=>rfl,own:=aF.o.drew,p4:=λe=>Bool.noConfusion (show false=true from e),p8:=λe=>Bool.noConfusion (show false=true from e),p13:=λe=>Bool.noConfusion (show false=true from e),p22:=λe=>Bool.noConfusion (show false=true from e),p9:=λe=>Bool.noConfusion (show false=true from e),p14:=λe=>Bool.noConfusion (show false=true from e),p23:=λe=>Bool.noConfusion (show false=true from e),p24:=λe=>Bool.noConfusion (show false=true from e),p25:=λe=>Bool.noConfusion (show false=true from e),lvo:=λ_=>aG,p26:=λe=>Bool.noConfusion (show false=true from e),p26m:=λe=>Bool.noConfusion (show false=true from e),c24:=λe=>Bool.noConfusion (show false=true from e),c25:=λe=>Bool.noConfusion (show false=true from e),c26:=λe=>Bool.noConfusion (show false=true from e),c29:=λe=>Bool.noConfusion (show false=true from e),p27:=λe=>Bool.noConfusion (show false=true from e),p28:=λe=>Bool.noConfusion (show false=true from e),bk0:=λ_=>aK,bk1:=λe=>Bool.noConfusion (show false=true from e) }⟩
 have aN:k<n:=by omega
 have aS:(k:Int)<n:=by omega
 rcases ho.2 with⟨_,h0⟩|⟨g,cap,cur,e,hb,-,-,-,-,-⟩
 .omega
 cases e;have HS:=Gg HO aN (M:=sA M);have aV:∃u,cE wr g k u:=⟨_,HS.1.trans (zgy (by have:=HO.o.1;omega))⟩;obtain⟨u,hcu⟩:=aV;have hfu:=HS.2.1;have aZ:=zc HS.2.2;clear HS ho;go_wp2;go_roundw
 case rel=>exact⟨k+1,by omega,by go_num,by rw[<-Qu xs _ k n HX.o aN];exact aZ.o,HG.o.trans ⟨rfl,rfl,rfl,by simp[World.setCell],λj hj aR=>(zd wr g k _).block j (λe=>aR (by rw[e];rfl))⟩⟩
 simp[intOf];omega
theorem VT(bk K:Nat)(lp:Option Addr)(lc:Nat)(ge:Nat->Nat)(pp:Nat->Nat->Option Addr)(nn cc:Nat->Nat->Nat)(KT:Nat)(tp:Option Addr)(tc:Nat)(te:Nat->Nat)(tpp:Nat->Nat->Option Addr)(tnn tcc:Nat->Nat->Nat)(w:World)(hK:K<=100000000)(hKT:KT<=100000000)(hbk:bk<w.heap.size)
 (hb0:w.cell? (aA bk 7)=some (.slice lp K lc)) (hb1:w.cell? (aA bk 8)=some (.slice tp KT tc))
 (hl:kG w w.heap.size lp K (λi=>.slice (some (aA (ge i) 0)) 4 4))
 (he:∀i k,i<K->k<4->ge i<w.heap.size/\w.cell? (aA (ge i) k)=some (.slice (pp i k) (nn i k) (cc i k)))
 (hm:∀i k,i<K->k<4->nn i k<=2000000/\kG w w.heap.size (pp i k) (nn i k) (λ_=>iA (-7000-(i:Int))))
 (htl:kG w w.heap.size tp KT (λi=>.slice (some (aA (te i) 0)) 4 4))
 (hte:∀i k,i<KT->k<4->te i<w.heap.size/\w.cell? (aA (te i) k)=some (.slice (tpp i k) (tnn i k) (tcc i k)))
 (htm:∀i k,i<KT->k<4->tnn i k<=2000000/\kG w w.heap.size (tpp i k) (tnn i k) (λ_=>sA (KV i))):
 Calls prog 18 #[pA bk 7] w λe w'=>e=.returned (bA true)/\BW w w':=by
 obtain⟨HL,HE,HM,aG,ax,aR,aS,aQ⟩:=vF hl he hm hb0 hb1 htl hte htm;clear hl he hm hb0 hb1 htl hte htm;go_enter func18,ntmps18;go_wp2;go_loopw [3,4,5,6,7] (λa _ _ _ _ wr=>∃k:Nat,k<=4/\a=iA k/\BW w wr) (λa _ _ _ _ _=>4-(intOf a).toNat)
 case atStart=>exact⟨0,by omega,rfl,zgq _ _⟩
 obtain⟨k,hk,rfl,hb⟩:=hrel;have HB:=zc hb;clear hb;by_cases aO:k=4
 .have aN:¬(k:Int)<4:=by omega
  clear aO;go_wp2;go_ret;exact⟨rfl,HB⟩
 have aN:(k:Int)<4:=by omega
 obtain⟨wa,aK⟩:=gen wr;subst aK;go_wp2;go_loopw [4,5] (λa _ wr=>∃i:Nat,i<=K/\a=iA i/\BW w wr) (λa _ _=>K-(intOf a).toNat)
 case atStart=>exact⟨0,by omega,rfl,HB.o⟩
 clear HB;obtain⟨i,hi,rfl,hb⟩:=hrel;have HB:=zc hb;have aE:cE wr bk 7 (.slice lp K lc):=(hb.cell (p:=(aA bk 7)) (by exact hbk)).trans aG;have ag:cE wr bk 8 (.slice tp KT tc):=(hb.cell (p:=(aA bk 8)) (by exact hbk)).trans ax;clear hb;obtain⟨wb,aJ⟩:=gen wr;subst aJ;by_cases aB:i=K
 .have aP:¬(i:Int)<K:=by omega
  clear aB;go_wp2;go_loopw [6,7] (λa _ wr=>∃i:Nat,i<=KT/\a=iA i/\BW w wr) (λa _ _=>KT-(intOf a).toNat)
  case atStart=>exact⟨0,by omega,rfl,HB.o⟩
  clear HB aE ag;obtain⟨q,hq,rfl,hb⟩:=hrel;have HB:=zc hb;have ag:cE wr bk 8 (.slice tp KT tc):=(hb.cell (p:=(aA bk 8)) (by exact hbk)).trans ax;clear hb;obtain⟨wc,aH⟩:=gen wr;subst aH;by_cases az:q=KT
  .have aL:¬(q:Int)<KT:=by omega
   clear az;go_wp2;go_roundw
   case rel=>exact⟨k+1,by omega,by go_num,HB.o⟩
   simp[intOf];omega
  have aa:q<KT:=by omega
  have aL:(q:Int)<KT:=by omega
  obtain⟨gl,ol,rfl,al,aq⟩:=aR.o q aa;obtain⟨an,ar⟩:=aS.o q k aa (by omega);obtain⟨aM,ab⟩:=aQ.o q k aa (by omega);have aw:=zc ab;clear ab az;go_wp2;go_loopw [7] (λa wr=>∃j:Nat,j<=tnn q k/\a=iA j/\BW w wr) (λa _=>tnn q k-(intOf a).toNat)
  case atStart=>exact⟨0,by omega,rfl,HB.o⟩
  clear HB;obtain⟨j,hj,rfl,hb⟩:=hrel;have HB:=zc hb;have aD:cE wr bk 8 (.slice (some (aA gl ol)) KT tc):=(hb.cell (p:=(aA bk 8)) (by exact hbk)).trans ax;have aC:cE wr gl (ol+q) (.slice (some (aA (te q) 0)) 4 4):=(hb.cell (p:=(aA gl (ol+q))) (by exact al)).trans aq;have af:cE wr (te q) k (.slice (tpp q k) (tnn q k) (tcc q k)):=(hb.cell (p:=(aA (te q) k)) (by exact an)).trans ar;clear ag;by_cases ad:j=tnn q k
  .have aj:¬(j:Int)<tnn q k:=by omega
   clear ad hb;go_wp2;go_roundw
   case rel=>exact⟨q+1,by omega,by go_num,HB.o⟩
   simp[intOf];omega
  have ak:j<tnn q k:=by omega
  have aj:(j:Int)<tnn q k:=by omega
  obtain⟨b,o,ah,au,ae⟩:=aw.o j ak;rw[ah] at af;have ao:cE wr b (o+j) (sA (KV q)):=(hb.cell (p:=(aA b (o+j))) (by exact au)).trans ae;have av:=zc (λW=>KU q W (by omega));obtain⟨sq,ay⟩:=gen (KV q);rw[<-ay] at av ao;have u0:∀ux:Ext wr,cE ux.W bk 8 (.slice (some (aA gl ol)) KT tc):=λux=>Ext.cell aD ux;have u1:∀ux:Ext wr,cE ux.W gl (ol+q) (.slice (some (aA (te q) 0)) 4 4):=λux=>Ext.cell aC ux;have u2:∀ux:Ext wr,cE ux.W (te q) k (.slice (some (aA b o)) (tnn q k) (tcc q k)):=λux=>Ext.cell af ux;have u3:∀ux:Ext wr,cE ux.W b (o+j) (sA sq):=λux=>Ext.cell ao ux;clear ad hb ae ay;haveI:=Ext.ne wr;go_wp2_with fail
  refine zB (by kernel_rfl) (by kernel_rfl) ?_;repeat(first|go_big_quiet_skip|(go_big_quiet_want;(go_big_quiet_op;first|go_big_quiet_on|(apply Exists.intro;refine⟨λu=>?_,?_⟩;(· (exact Calls.ext u (av _)));go_big_quiet_on))))
  refine wpQuiet_nil ?_;rintro _ ⟨ux,rfl⟩;obtain⟨X,hX⟩:=gen ux.W;have aF:BW wr X:=by rw[hX];exact ux.b
  have aT:=zc (HB.o.trans (aF.mono HB.o.size));rw[<-hX];clear hX aF ux this av u0 u1 u2 u3;go_wp2;go_roundw
  case rel=>exact⟨j+1,by omega,by go_num,aT.o⟩
  simp[intOf];omega
 have ai:i<K:=by omega
 have aP:(i:Int)<K:=by omega
 obtain⟨gl,ol,rfl,al,aq⟩:=HL.o i ai;obtain⟨an,ar⟩:=HE.o i k ai (by omega);obtain⟨aM,ab⟩:=HM.o i k ai (by omega);have aw:=zc ab;clear ab aB;go_wp2;go_loopw [5] (λa wr=>∃j:Nat,j<=nn i k/\a=iA j/\BW w wr) (λa _=>nn i k-(intOf a).toNat)
 case atStart=>exact⟨0,by omega,rfl,HB.o⟩
 clear HB;obtain⟨j,hj,rfl,hb⟩:=hrel;have HB:=zc hb;have aD:cE wr bk 7 (.slice (some (aA gl ol)) K lc):=(hb.cell (p:=(aA bk 7)) (by exact hbk)).trans aG;have aC:cE wr gl (ol+i) (.slice (some (aA (ge i) 0)) 4 4):=(hb.cell (p:=(aA gl (ol+i))) (by exact al)).trans aq;have af:cE wr (ge i) k (.slice (pp i k) (nn i k) (cc i k)):=(hb.cell (p:=(aA (ge i) k)) (by exact an)).trans ar;clear aE ag;by_cases ad:j=nn i k
 .have aj:¬(j:Int)<nn i k:=by omega
  clear ad hb;go_wp2;go_roundw
  case rel=>exact⟨i+1,by omega,by go_num,HB.o⟩
  simp[intOf];omega
 have ak:j<nn i k:=by omega
 have aj:(j:Int)<nn i k:=by omega
 obtain⟨b,o,ah,au,ae⟩:=aw.o j ak;rw[ah] at af;have ao:cE wr b (o+j) (iA (-7000-(i:Int))):=(hb.cell (p:=(aA b (o+j))) (by exact au)).trans ae;clear ad hb ae;go_wp2_with fail
 go_quiet (first|(go_at_call 66;refine Calls.quiet_of_same (J6 i _ (by omega))))
 all_goals go_wp2
 go_roundw
 case rel=>exact⟨j+1,by omega,by go_num,zgZ HB.o _⟩
 simp[intOf];omega
end
section
theorem NodeW.frame{B:Nat}{es:List Addr}{m:Int}{F R:Nat->Prop}{nb kb rb cb n i:Nat}{s:za}{w w':World}(h:NodeW B es m F R nb kb rb cb n i s w)(hz:w.heap.size<=w'.heap.size)(hb:∀k,F k\/R k\/k=kb\/k<B->w'.heap[k]? =w.heap[k]?):NodeW B es m F R nb kb rb cb n i s w':=
 ⟨h.node.frame λk hk=>hb k (zgR hk),h.ring.frame λk hk=>hb k (zgS (zgR hk)),h.key.keep (hb kb (zgS (zgS (zgR rfl)))),h.idn,h.fr,h.kf,h.kr,λk hk=>⟨(h.fl k hk).1,zgt (h.fl k hk).2 hz⟩,λk hk=>⟨(h.rl k hk).1,zgt (h.rl k hk).2 hz⟩,h.glob.same λk hk=>hb k (zgS (zgS (zgS hk))),zgu h.bl hz⟩
theorem RefW.frame{B:Nat}{F R:Nat->Prop}{nb kb rb n i:Nat}{s:za}{w w':World}(h:RefW B F R nb kb rb n i s w)(hz:w.heap.size<=w'.heap.size)(hb:∀k,F k\/R k\/k=kb->w'.heap[k]? =w.heap[k]?):RefW B F R nb kb rb n i s w':=by
 obtain⟨V,h,hc,ht⟩:=h;exact⟨V,{ h with blk:=(hb nb (zgR h.fn)).trans h.blk,own:=λj r hr=>zb (h.own j r hr) λg e _=>hb g (zgR (h.ff j r g hr e)),ring:=h.ring.frame λk hk=>hb k (zgS (zgR hk)),key:=h.key.keep (hb kb (zgS (zgS rfl))),fl:=λk hk=>⟨(h.fl k hk).1,zgt (h.fl k hk).2 hz⟩,rl:=λk hk=>⟨(h.rl k hk).1,zgt (h.rl k hk).2 hz⟩,bl:=zgu h.bl hz },hc,ht⟩
theorem RefW.bounds{B:Nat}{F R:Nat->Prop}{nb kb rb n i:Nat}{s:za}{w:World}(h:RefW B F R nb kb rb n i s w):(∀k,F k\/R k->B<=k/\k<w.heap.size)/\kq w kb rb i:=by
 obtain⟨V,h,-⟩:=h;exact⟨λk hk=>hk.elim (h.fl k) (h.rl k),h.key⟩
def zbr(Z:Nat->Prop)(e1:TypeId)(mk:Nat->Value)(w:World)(i:Nat)(ev:Value):Prop:=
 ∃(ge:Nat) (pp:Nat->Option Addr) (nn cc:Nat->Nat),ev=.slice (some (aA ge 0)) 4 4/\Z ge/\
  w.heap[ge]? =some (.cells #[.slice (pp 0) (nn 0) (cc 0),.slice (pp 1) (nn 1) (cc 1),.slice (pp 2) (nn 2) (cc 2),.slice (pp 3) (nn 3) (cc 3)] e1 (0,0))/\
  ∀k,k<4->nn k<=2000000/\∀j,j<nn k->∃b o,pp k=some (aA b o)/\Z b/\w.cell? (aA b (o+j))=some (mk i)
theorem zbr.frame{Z Z':Nat->Prop}{e1:TypeId}{mk:Nat->Value}{w w':World}{i:Nat}{ev:Value}(h:zbr Z e1 mk w i ev)(hb:∀k,Z k->w'.heap[k]? =w.heap[k]?)(hZ:∀k,Z k->Z' k):zbr Z' e1 mk w' i ev:=by
 obtain⟨ge,pp,nn,cc,e,hg,hh,hm⟩:=h;refine⟨ge,pp,nn,cc,e,hZ ge hg,(hb ge hg).trans hh,λk hk=>⟨(hm k hk).1,λj hj=>?_⟩⟩;obtain⟨b,o,e1,h1,h2⟩:=(hm k hk).2 j hj;exact⟨b,o,e1,hZ b h1,by rw[<-h2];exact zgw (w:=w) (a:=(aA b (o+j))) (hb b h1)⟩
def zcR(i:Nat):Value:=iA (-7000-(i:Int))
def zcQ(i:Nat):Value:=sA (KV i)
def zcy(xb yb ra rc gp gc hp hc:Nat)(sv lv tv:Value):Array Value:=
 #[pA xb 0,pA yb 0,pA ra 0,pA rc 0,.slice (some (aA gp 0)) 9 gc,.slice (some (aA hp 0)) 9 hc,sv,lv,tv]
structure Gst where
 blk:Nat->Option Obj
 env:World
structure LawG (A:Nat->Prop) (Q:Gst) (Z:Nat->Prop) (wb xb yb ra rc:Nat) (ka kd:Nat->Nat) (gp gc hp hc:Nat) (sent:List zgW) (sv lv tv:Value) (K KT:Nat) (evs tvs:List Value) (w:World):Prop where
 blk:w.heap[wb]? =some (.cells (zcy xb yb ra rc gp gc hp hc sv lv tv) 36 (0,0))
 key:∀k,k<9->(w.cell? (aA gp k)=some (pA (ka k) 0)/\kq w (ka k) ra k)/\(w.cell? (aA hp k)=some (pA (kd k) 0)/\kq w (kd k) rc k)
 keyZ:Z gp/\Z hp/\∀k,k<9->Z (ka k)/\Z (kd k)
 sent:w.ownsRow 0 9 1 sv sent.length (sent.map .string)
 ints:w.ownsRow 0 144 1 lv K evs
 texts:w.ownsRow 0 63 1 tv KT tvs
 ient:∀i ev,evs[i]? =some ev->zbr Z 22 zcR w i ev
 tent:∀i ev,tvs[i]? =some ev->zbr Z 30 zcQ w i ev
 zz:∀k,Z k->¬A k/\k≠wb/\some k≠sv.ownBlock/\some k≠lv.ownBlock/\some k≠tv.ownBlock/\wb<k/\k<w.heap.size
 al:∀k,A k->wb<k
 guest:∀k o,Q.blk k=some o->(Z k\/k<wb)/\w.heap[k]? =some o
 env:w.os=Q.env.os/\w.tape=Q.env.tape/\w.output=Q.env.output/\Q.env.heap.size<=w.heap.size
 asv:∀g,sv.ownBlock=some g->¬A g/\wb<g
 alv:∀g,lv.ownBlock=some g->¬A g/\wb<g
 atv:∀g,tv.ownBlock=some g->¬A g/\wb<g
section
variable{A Z:Nat->Prop}{Q:Gst}{wb xb yb ra rc:Nat}{ka kd:Nat->Nat}{gp gc hp hc:Nat}{sent:List zgW}{sv lv tv:Value}{K KT:Nat}{evs tvs:List Value}{w w':World}
theorem LawG.aw(h:LawG A Q Z wb xb yb ra rc ka kd gp gc hp hc sent sv lv tv K KT evs tvs w):¬A wb:=λha=>zgO _ (h.al wb ha)
theorem LawG.same{A':Nat->Prop}(h:LawG A Q Z wb xb yb ra rc ka kd gp gc hp hc sent sv lv tv K KT evs tvs w)(hs:zm A w w')(hA:∀k,A' k->A k\/w.heap.size<=k):LawG A' Q Z wb xb yb ra rc ka kd gp gc hp hc sent sv lv tv K KT evs tvs w':=by
 have nA:∀k,k<w.heap.size->¬A k->¬A' k:=λk hk hn ae=>(hA k ae).elim hn (λh2=>by omega);have hZ:∀k,Z k->w'.heap[k]? =w.heap[k]? :=λk hk=>hs.block k (h.zz k hk).2.2.2.2.2.2 (h.zz k hk).1;have ab:∀{t z n:Nat} {v:Value} {xs:List Value},w.ownsRow 0 t z v n xs->(∀g,v.ownBlock=some g->¬A g/\wb<g)->w'.ownsRow 0 t z v n xs:=λho hn=>zb ho λg e hg=>hs.block g hg (hn g e).1;have aa:∀g o v,Z g->w.cell? (aA g o)=some v->w'.cell? (aA g o)=some v:=λg o v hg hv=>by rw[<-hv];exact zgw (w:=w) (a:=(aA g o)) (hZ g hg)
 have ad:=zj h.blk;refine⟨(hs.block wb ad h.aw).trans h.blk,λk hk=>⟨⟨aa _ _ _ h.keyZ.1 (h.key k hk).1.1,(h.key k hk).1.2.keep (hZ _ (h.keyZ.2.2 k hk).1)⟩,⟨aa _ _ _ h.keyZ.2.1 (h.key k hk).2.1,(h.key k hk).2.2.keep (hZ _ (h.keyZ.2.2 k hk).2)⟩⟩,h.keyZ,ab h.sent h.asv,ab h.ints h.alv,ab h.texts h.atv,λi ev e=>(h.ient i ev e).frame hZ (λ_ h=>h),λi ev e=>(h.tent i ev e).frame hZ (λ_ h=>h),λk hk=>?_,λk hk=>(hA k hk).elim (h.al k) (λh2=>zgt ad h2),λk o hq=>⟨(h.guest k o hq).1,((h.guest k o hq).1.elim (hZ k) (λh2=>hs.block k (Nat.lt_trans h2 ad) (λha=>zgO _ (Nat.lt_trans h2 (h.al k ha))))).trans (h.guest k o hq).2⟩,⟨hs.os.trans h.env.1,hs.tape.trans h.env.2.1,hs.output.trans h.env.2.2.1,zgu h.env.2.2.2 hs.size⟩,λg e=>⟨nA g (h.sent.lt g e).2 (h.asv g e).1,(h.asv g e).2⟩,λg e=>⟨nA g (h.ints.lt g e).2 (h.alv g e).1,(h.alv g e).2⟩,λg e=>⟨nA g (h.texts.lt g e).2 (h.atv g e).1,(h.atv g e).2⟩⟩;obtain⟨h1,h2,h3,h4,h5,h6,h7⟩:=h.zz k hk;exact⟨nA k h7 h1,h2,h3,h4,h5,h6,zgt h7 hs.size⟩
theorem LawG.below(h:LawG A Q Z wb xb yb ra rc ka kd gp gc hp hc sent sv lv tv K KT evs tvs w)(hb:BW w w'):LawG A Q Z wb xb yb ra rc ka kd gp gc hp hc sent sv lv tv K KT evs tvs w':=
 h.same { hb with block:=λk hk _=>hb.block k hk } (λ_ h=>zgR h)
theorem LawG.cell(h:LawG A Q Z wb xb yb ra rc ka kd gp gc hp hc sent sv lv tv K KT evs tvs w)(o:Nat){v:Value}(ho:(zcy xb yb ra rc gp gc hp hc sv lv tv)[o]? =some v):w.cell? (aA wb o)=some v:=(zgs w wb o _ _ _ h.blk).trans ho
theorem J0{w:World}{b t z n:Nat}{v:Value}{xs:List Value}(h:w.ownsRow 0 t z v n xs)(hb:∀g,v.ownBlock=some g->b<=g):w.ownsRow b t z v n xs:=by
 refine⟨h.1,?_⟩;rcases h.2 with⟨rfl,hn⟩|⟨g,cap,cur,rfl,-,hr⟩
 .exact zgR ⟨rfl,hn⟩
 exact zgS ⟨g,cap,cur,rfl,hb g rfl,hr⟩
theorem LawG.size(h:LawG A Q Z wb xb yb ra rc ka kd gp gc hp hc sent sv lv tv K KT evs tvs w):wb<w.heap.size:=zj h.blk
end
end
section
open Proofs.Tryz
section
variable{A Z:Nat->Prop}{Q:Gst}{wb xb yb ra rc:Nat}{ka kd:Nat->Nat}{gp gc hp hc:Nat}{sent:List zgW}{sv lv tv:Value}{K KT:Nat}{evs tvs:List Value}{w:World}
theorem GE(h:LawG A Q Z wb xb yb ra rc ka kd gp gc hp hc sent sv lv tv K KT evs tvs w){n:Nat}{v:Value}{xs:List Value}(hv:w.ownsRow 0 3 1 v n xs)(hvb:∀g,v.ownBlock=some g->wb<g/\¬A g/\¬Z g/\some g≠sv.ownBlock)(hK:K<=100000000)(hn:n<=1000000)(hAl:∀k,A k->k<w.heap.size):
 Calls prog 64 #[pA wb 7,v] w λe w'=>e=.returned (.tuple #[])/\∃Z' lv' evs',LawG A Q Z' wb xb yb ra rc ka kd gp gc hp hc sent sv lv' tv (K+1) KT evs' tvs w'/\zm (λk=>k=wb\/some k=lv.ownBlock\/some k=v.ownBlock) w w'/\∀k,Z' k->Z k\/some k=v.ownBlock\/w.heap.size<=k:=by
 have aC:=h.size;have hlt:=h.ints.lt;have vo:∀{t m:Nat} {u:Value} {ys:List Value},w.ownsRow 0 t 1 u m ys->3≠t->∀g,u.ownBlock=some g->some g≠v.ownBlock:=λhu ht g e e2=>yA hv hu ht g e2.symm e;have lo:∀{t m:Nat} {u:Value} {ys:List Value},w.ownsRow 0 t 1 u m ys->144≠t->∀g,u.ownBlock=some g->some g≠lv.ownBlock:=λhu ht g e e2=>yA h.ints hu ht g e2.symm e;refine(GG wb K (wb+1) (wb+1) n lv v _ evs xs w hK hn h.blk rfl (J0 h.ints λg e=>(h.alv g e).2) (J0 hv λg e=>(hvb g e).1) (by omega) (by omega) (by omega) (by omega)).mono ?_;rintro e w' ⟨rfl,lv',ge,v1,v2,v3,aF,ay,ae,aE,au,m0,m1,m2,m3,ax,aw,ah,ak,an⟩;have aq:evs.length=K:=by have:=h.ints.1;omega
 have af:zm (λk=>k=wb\/some k=lv.ownBlock\/some k=v.ownBlock) w w':=⟨ax,aw,ah,ak,λk hk hn=>an k hk (λe=>hn (zgR e)) (λe=>hn (zgS (zgR e))) (λe=>hn (zgS (zgS e)))⟩;have hZ:∀k,Z k->w'.heap[k]? =w.heap[k]? :=λk hk=>by
  obtain⟨a1,a2,a3,a4,a5,a6,a7⟩:=h.zz k hk;exact an k a7 a2 a4 (λe=>(hvb k e.symm).2.2.1 hk)
 have ag:∀{t m:Nat} {u:Value} {ys:List Value},w.ownsRow 0 t 1 u m ys->(∀g,u.ownBlock=some g->wb<g)->(∀g,u.ownBlock=some g->some g≠v.ownBlock)->144≠t->w'.ownsRow 0 t 1 u m ys:=λhu h1 h2 ht=>zb hu λg e hg=>an g hg (by have:=h1 g e;omega) (lo hu ht g e) (h2 g e);have aD:ge<w'.heap.size:=zj au;have ai:some ge≠lv'.ownBlock:=λe=>by
  rcases ay.2 with⟨e1,_⟩|⟨g1,cp,c1,e1,_,aB,_⟩
  .rw [e1] at e;cases e
  rw[e1] at e;cases e;rw[au] at aB;cases aB
 have Zn:∀k,(Z k\/some k=v.ownBlock\/(w.heap.size<=k/\k<w'.heap.size/\some k≠lv'.ownBlock))->k<w'.heap.size:=λk hk=>by
  rcases hk with hk|hk|hk
  .exact zgt (h.zz k hk).2.2.2.2.2.2 ak
  .exact zgt (hv.lt k hk.symm).2 ak
  exact hk.2.1
 have ad:∀g o u,Z g->w.cell? (aA g o)=some u->w'.cell? (aA g o)=some u:=λg o u hg hu=>by rw[<-hu];exact zgw (w:=w) (a:=(aA g o)) (hZ g hg)
 refine⟨rfl,λk=>Z k\/some k=v.ownBlock\/(w.heap.size<=k/\k<w'.heap.size/\some k≠lv'.ownBlock),lv',evs++[.slice (some (aA ge 0)) 4 4],?_,af,λk hk=>hk.elim zgR (λh2=>zgS (h2.imp id (λh3=>h3.1)))⟩;have ab:∀k,w.heap.size<=k->¬A k:=λk hk ha=>by have:=hAl k ha;omega
 have ao:∀g,lv'.ownBlock=some g->¬A g/\wb<g:=λg e=>(ae g e).elim (λe2=>h.alv g e2) (λh2=>⟨ab g h2,by omega⟩);have aa:∀b,some b≠lv'.ownBlock->(some b=v.ownBlock\/w.heap.size<=b)->b<w'.heap.size->(Z b\/some b=v.ownBlock\/(w.heap.size<=b/\b<w'.heap.size/\some b≠lv'.ownBlock)):=λb h1 h2 h3=>h2.elim (λe=>zgS (zgR e)) (λe=>zgS (zgS ⟨e,h3,h1⟩));refine⟨by rw[aF];rfl,λk hk=>⟨⟨ad _ _ _ h.keyZ.1 (h.key k hk).1.1,(h.key k hk).1.2.keep (hZ _ (h.keyZ.2.2 k hk).1)⟩,⟨ad _ _ _ h.keyZ.2.1 (h.key k hk).2.1,(h.key k hk).2.2.keep (hZ _ (h.keyZ.2.2 k hk).2)⟩⟩,⟨zgR h.keyZ.1,zgR h.keyZ.2.1,λk hk=>⟨zgR (h.keyZ.2.2 k hk).1,zgR (h.keyZ.2.2 k hk).2⟩⟩,ag h.sent (λg e=>(h.asv g e).2) (λg e e2=>(hvb g e2.symm).2.2.2 e.symm) (by decide),yU ay (zgv _),ag h.texts (λg e=>(h.atv g e).2) (vo h.texts (by decide)) (by decide),?_,λi ev e=>(h.tent i ev e).frame hZ (λ_ h=>zgR h),λk hk=>?_,h.al,λk o hq=>⟨(h.guest k o hq).1.imp zgR id,((h.guest k o hq).1.elim (hZ k) (λh2=>an k (Nat.lt_trans h2 aC) (Nat.ne_of_lt h2) (λe=>zgO _ (Nat.lt_trans h2 (h.alv k e.symm).2)) (λe=>zgO _ (Nat.lt_trans h2 (hvb k e.symm).1)))).trans (h.guest k o hq).2⟩,⟨ax.trans h.env.1,aw.trans h.env.2.1,ah.trans h.env.2.2.1,zgu h.env.2.2.2 ak⟩,h.asv,ao,h.atv⟩
 .intro i ev aj;by_cases hi:i<K
  .rw [zgD (by omega)] at aj;exact(h.ient i ev aj).frame hZ (λ_ h=>zgR h)
  have az:i=K:=by
   have:=(List.getElem?_eq_some_iff.1 aj).1;simp at this;omega
  have av:ev=.slice (some (aA ge 0)) 4 4:=by
   rw[az,zgC (by omega),aq,Nat.sub_self] at aj;simpa using aj.symm
  rw[az];obtain⟨p0,c0,rfl,l0⟩:=m0;obtain⟨p1,c1,rfl,l1⟩:=m1;obtain⟨p2,c2,rfl,l2⟩:=m2;obtain⟨p3,c3,rfl,l3⟩:=m3;refine⟨ge,λ|0=>p0|1=>p1|2=>p2|_=>p3,λ|0=>n|1=>n+1|2=>n+2|_=>n+6,λ|0=>c0|1=>c1|2=>c2|_=>c3,av,zgS (zgS ⟨aE,aD,ai⟩),au,λk hk=>?_⟩;match k,hk with
  |0,_=>exact⟨by show n<=2000000;omega,λj hj=>by obtain⟨b,o,e,a1,a2,a3⟩:=l0 j hj;exact⟨b,o,e,aa b a2.1 a2.2 a1,a3⟩⟩
  |1,_=>exact⟨by show n+1<=2000000;omega,λj hj=>by obtain⟨b,o,e,a1,a2,a3⟩:=l1 j hj;exact⟨b,o,e,aa b a2.1 a2.2 a1,a3⟩⟩
  |2,_=>exact⟨by show n+2<=2000000;omega,λj hj=>by obtain⟨b,o,e,a1,a2,a3⟩:=l2 j hj;exact⟨b,o,e,aa b a2.1 a2.2 a1,a3⟩⟩
  |3,_=>exact⟨by show n+6<=2000000;omega,λj hj=>by obtain⟨b,o,e,a1,a2,a3⟩:=l3 j hj;exact⟨b,o,e,aa b a2.1 a2.2 a1,a3⟩⟩
 have ar:=Zn k hk;rcases hk with hk|hk|hk
 .obtain ⟨a1,a2,a3,a4,a5,a6,a7⟩:=h.zz k hk
  refine⟨a1,a2,a3,λe=>(ae k e.symm).elim (λe2=>a4 e2.symm) (λh2=>by omega),a5,a6,ar⟩
 .obtain ⟨b1,b2,b3,b4⟩:=hvb k hk.symm
  exact⟨b2,by omega,b4,λe=>(ae k e.symm).elim (λe2=>vo h.ints (by decide) k e2 hk) (λh2=>by have:=(hv.lt k hk.symm).2;omega),λe=>vo h.texts (by decide) k e.symm hk,b1,ar⟩
 refine⟨ab k hk.1,by omega,λe=>?_,hk.2.2,λe=>(by have:=(h.texts.lt k e.symm).2;omega),by omega,ar⟩;have:=(h.sent.lt k e.symm).2;omega
theorem J7(h:LawG A Q Z wb xb yb ra rc ka kd gp gc hp hc sent sv lv tv K KT evs tvs w){n:Nat}{v:Value}{xs:List Value}(hv:w.ownsRow 0 9 1 v n xs)(hvb:∀g,v.ownBlock=some g->wb<g/\¬A g/\¬Z g/\some g≠sv.ownBlock)(hK:KT<=100000000)(hn:n<=1000000)(hAl:∀k,A k->k<w.heap.size):
 Calls prog 72 #[pA wb 7,v] w λe w'=>e=.returned (.tuple #[])/\∃Z' tv' tvs',LawG A Q Z' wb xb yb ra rc ka kd gp gc hp hc sent sv lv tv' K (KT+1) evs tvs' w'/\zm (λk=>k=wb\/some k=tv.ownBlock\/some k=v.ownBlock) w w':=by
 have aC:=h.size;have hlt:=h.texts.lt;have vo:∀{t m:Nat} {u:Value} {ys:List Value},w.ownsRow 0 t 1 u m ys->9≠t->∀g,u.ownBlock=some g->some g≠v.ownBlock:=λhu ht g e e2=>yA hv hu ht g e2.symm e;have lo:∀{t m:Nat} {u:Value} {ys:List Value},w.ownsRow 0 t 1 u m ys->63≠t->∀g,u.ownBlock=some g->some g≠tv.ownBlock:=λhu ht g e e2=>yA h.texts hu ht g e2.symm e;refine(VZ wb KT (wb+1) (wb+1) n tv v _ tvs xs w hK hn h.blk rfl (J0 h.texts λg e=>(h.atv g e).2) (J0 hv λg e=>(hvb g e).1) (by omega) (by omega) (by omega) (by omega)).mono ?_;rintro e w' ⟨rfl,lv',ge,v1,v2,v3,aF,ay,ae,aE,au,m0,m1,m2,m3,ax,aw,ah,ak,an⟩;have aq:tvs.length=KT:=by have:=h.texts.1;omega
 have af:zm (λk=>k=wb\/some k=tv.ownBlock\/some k=v.ownBlock) w w':=⟨ax,aw,ah,ak,λk hk hn=>an k hk (λe=>hn (zgR e)) (λe=>hn (zgS (zgR e))) (λe=>hn (zgS (zgS e)))⟩;have hZ:∀k,Z k->w'.heap[k]? =w.heap[k]? :=λk hk=>by
  obtain⟨a1,a2,a3,a4,a5,a6,a7⟩:=h.zz k hk;exact an k a7 a2 a5 (λe=>(hvb k e.symm).2.2.1 hk)
 have ag:∀{t m:Nat} {u:Value} {ys:List Value},w.ownsRow 0 t 1 u m ys->(∀g,u.ownBlock=some g->wb<g)->(∀g,u.ownBlock=some g->some g≠v.ownBlock)->63≠t->w'.ownsRow 0 t 1 u m ys:=λhu h1 h2 ht=>zb hu λg e hg=>an g hg (by have:=h1 g e;omega) (lo hu ht g e) (h2 g e);have aD:ge<w'.heap.size:=zj au;have ai:some ge≠lv'.ownBlock:=λe=>by
  rcases ay.2 with⟨e1,_⟩|⟨g1,cp,c1,e1,_,aB,_⟩
  .rw [e1] at e;cases e
  rw[e1] at e;cases e;rw[au] at aB;cases aB
 have Zn:∀k,(Z k\/some k=v.ownBlock\/(w.heap.size<=k/\k<w'.heap.size/\some k≠lv'.ownBlock))->k<w'.heap.size:=λk hk=>by
  rcases hk with hk|hk|hk
  .exact zgt (h.zz k hk).2.2.2.2.2.2 ak
  .exact zgt (hv.lt k hk.symm).2 ak
  exact hk.2.1
 have ad:∀g o u,Z g->w.cell? (aA g o)=some u->w'.cell? (aA g o)=some u:=λg o u hg hu=>by rw[<-hu];exact zgw (w:=w) (a:=(aA g o)) (hZ g hg)
 refine⟨rfl,λk=>Z k\/some k=v.ownBlock\/(w.heap.size<=k/\k<w'.heap.size/\some k≠lv'.ownBlock),lv',tvs++[.slice (some (aA ge 0)) 4 4],?_,af⟩;have ab:∀k,w.heap.size<=k->¬A k:=λk hk ha=>by have:=hAl k ha;omega
 have ao:∀g,lv'.ownBlock=some g->¬A g/\wb<g:=λg e=>(ae g e).elim (λe2=>h.atv g e2) (λh2=>⟨ab g h2,by omega⟩);have aa:∀b,some b≠lv'.ownBlock->(some b=v.ownBlock\/w.heap.size<=b)->b<w'.heap.size->(Z b\/some b=v.ownBlock\/(w.heap.size<=b/\b<w'.heap.size/\some b≠lv'.ownBlock)):=λb h1 h2 h3=>h2.elim (λe=>zgS (zgR e)) (λe=>zgS (zgS ⟨e,h3,h1⟩));refine⟨by rw[aF];rfl,λk hk=>⟨⟨ad _ _ _ h.keyZ.1 (h.key k hk).1.1,(h.key k hk).1.2.keep (hZ _ (h.keyZ.2.2 k hk).1)⟩,⟨ad _ _ _ h.keyZ.2.1 (h.key k hk).2.1,(h.key k hk).2.2.keep (hZ _ (h.keyZ.2.2 k hk).2)⟩⟩,⟨zgR h.keyZ.1,zgR h.keyZ.2.1,λk hk=>⟨zgR (h.keyZ.2.2 k hk).1,zgR (h.keyZ.2.2 k hk).2⟩⟩,ag h.sent (λg e=>(h.asv g e).2) (λg e e2=>(hvb g e2.symm).2.2.2 e.symm) (by decide),ag h.ints (λg e=>(h.alv g e).2) (vo h.ints (by decide)) (by decide),yU ay (zgv _),λi ev e=>(h.ient i ev e).frame hZ (λ_ h=>zgR h),?_,λk hk=>?_,h.al,λk o hq=>⟨(h.guest k o hq).1.imp zgR id,((h.guest k o hq).1.elim (hZ k) (λh2=>an k (Nat.lt_trans h2 aC) (Nat.ne_of_lt h2) (λe=>zgO _ (Nat.lt_trans h2 (h.atv k e.symm).2)) (λe=>zgO _ (Nat.lt_trans h2 (hvb k e.symm).1)))).trans (h.guest k o hq).2⟩,⟨ax.trans h.env.1,aw.trans h.env.2.1,ah.trans h.env.2.2.1,zgu h.env.2.2.2 ak⟩,h.asv,h.alv,ao⟩
 .intro i ev aj;by_cases hi:i<KT
  .rw [zgD (by omega)] at aj;exact(h.tent i ev aj).frame hZ (λ_ h=>zgR h)
  have az:i=KT:=by
   have:=(List.getElem?_eq_some_iff.1 aj).1;simp at this;omega
  have av:ev=.slice (some (aA ge 0)) 4 4:=by
   rw[az,zgC (by omega),aq,Nat.sub_self] at aj;simpa using aj.symm
  rw[az];obtain⟨p0,c0,rfl,l0⟩:=m0;obtain⟨p1,c1,rfl,l1⟩:=m1;obtain⟨p2,c2,rfl,l2⟩:=m2;obtain⟨p3,c3,rfl,l3⟩:=m3;refine⟨ge,λ|0=>p0|1=>p1|2=>p2|_=>p3,λ|0=>n|1=>n+1|2=>n+2|_=>n+6,λ|0=>c0|1=>c1|2=>c2|_=>c3,av,zgS (zgS ⟨aE,aD,ai⟩),au,λk hk=>?_⟩;match k,hk with
  |0,_=>exact⟨by show n<=2000000;omega,λj hj=>by obtain⟨b,o,e,a1,a2,a3⟩:=l0 j hj;exact⟨b,o,e,aa b a2.1 a2.2 a1,a3⟩⟩
  |1,_=>exact⟨by show n+1<=2000000;omega,λj hj=>by obtain⟨b,o,e,a1,a2,a3⟩:=l1 j hj;exact⟨b,o,e,aa b a2.1 a2.2 a1,a3⟩⟩
  |2,_=>exact⟨by show n+2<=2000000;omega,λj hj=>by obtain⟨b,o,e,a1,a2,a3⟩:=l2 j hj;exact⟨b,o,e,aa b a2.1 a2.2 a1,a3⟩⟩
  |3,_=>exact⟨by show n+6<=2000000;omega,λj hj=>by obtain⟨b,o,e,a1,a2,a3⟩:=l3 j hj;exact⟨b,o,e,aa b a2.1 a2.2 a1,a3⟩⟩
 have ar:=Zn k hk;rcases hk with hk|hk|hk
 .obtain ⟨a1,a2,a3,a4,a5,a6,a7⟩:=h.zz k hk
  refine⟨a1,a2,a3,a4,λe=>(ae k e.symm).elim (λe2=>a5 e2.symm) (λh2=>by omega),a6,ar⟩
 .obtain ⟨b1,b2,b3,b4⟩:=hvb k hk.symm
  exact⟨b2,by omega,b4,λe=>vo h.ints (by decide) k e.symm hk,λe=>(ae k e.symm).elim (λe2=>vo h.texts (by decide) k e2 hk) (λh2=>by have:=(hv.lt k hk.symm).2;omega),b1,ar⟩
 refine⟨ab k hk.1,by omega,λe=>?_,λe=>(by have:=(h.ints.lt k e.symm).2;omega),hk.2.2,by omega,ar⟩;have:=(h.sent.lt k e.symm).2;omega
theorem zbr.all{Z:Nat->Prop}{e1:TypeId}{mk:Nat->Value}{w:World}{K:Nat}{evs:List Value}(hlen:evs.length=K)(hz:∀k,Z k->k<w.heap.size)(he:∀i ev,evs[i]? =some ev->zbr Z e1 mk w i ev):
 ∃(ge:Nat->Nat) (pp:Nat->Nat->Option Addr) (nn cc:Nat->Nat->Nat),(∀i,i<K->evs[i]? =some (.slice (some (aA (ge i) 0)) 4 4))/\(∀i k,i<K->k<4->ge i<w.heap.size/\w.cell? (aA (ge i) k)=some (.slice (pp i k) (nn i k) (cc i k)))/\∀i k,i<K->k<4->nn i k<=2000000/\kG w w.heap.size (pp i k) (nn i k) (λ_=>mk i):=by
 have ab:∀i,∃y:Nat×(Nat->Option Addr)×(Nat->Nat)×(Nat->Nat),i<K->evs[i]? =some (.slice (some (aA y.1 0)) 4 4)/\Z y.1/\
  cL w y.1 #[.slice (y.2.1 0) (y.2.2.1 0) (y.2.2.2 0),.slice (y.2.1 1) (y.2.2.1 1) (y.2.2.2 1),.slice (y.2.1 2) (y.2.2.1 2) (y.2.2.2 2),.slice (y.2.1 3) (y.2.2.1 3) (y.2.2.2 3)] e1/\
  ∀k,k<4->y.2.2.1 k<=2000000/\∀j,j<y.2.2.1 k->∃b o,y.2.1 k=some (aA b o)/\Z b/\w.cell? (aA b (o+j))=some (mk i):=λi=>by
  by_cases hi:i<K
  .have aa:evs[i]? =some (evs[i]'(by omega)):=zgy (by omega);obtain⟨ge,pp,nn,cc,e,h1,hg,hm⟩:=he i _ aa;exact⟨(ge,pp,nn,cc),λ_=>⟨by rw[aa,e],h1,hg,hm⟩⟩
  .exact ⟨(0,λ_=>none,λ_=>0,λ_=>0),λh=>absurd h hi⟩
 obtain⟨f,hf⟩:=Classical.axiomOfChoice ab;refine⟨λi=>(f i).1,λi=>(f i).2.1,λi=>(f i).2.2.1,λi=>(f i).2.2.2,λi hi=>(hf i hi).1,λi k hi hk=>⟨hz _ (hf i hi).2.1,?_⟩,λi k hi hk=>⟨((hf i hi).2.2.2 k hk).1,λj hj=>?_⟩⟩
 .rw [zgs w _ k _ _ _ (hf i hi).2.2.1];match k,hk with
  |0,_|1,_|2,_|3,_=>rfl
 obtain⟨b,o,h1,h2,h3⟩:=((hf i hi).2.2.2 k hk).2 j hj;exact⟨b,o,h1,hz b h2,h3⟩
theorem xt{w:World}{base e n c:Nat}{p:Option Addr}{evs:List Value}{g:Nat->Value}(h:w.ownsRow base e 1 (.slice p n c) n evs)(hg:∀i,i<n->evs[i]? =some (g i)):kG w w.heap.size p n g:=λi hi=>by
 rcases h.2 with⟨e0,h0⟩|⟨q,cap,cur,e0,hbb,hq,hnc,hcm,hcs,ht⟩
 .omega
 .cases e0;refine⟨q,0,rfl,zj hq,?_⟩;rw[zgs w q (0+i) _ _ _ hq,zg0];have e1:(cur.toList.take (n*1))[i]? =evs[i]? :=by rw[ht]
  rw[zg5,zgT (by omega)] at e1;rw[<-zg8,e1,hg i hi]
theorem za5(h:LawG A Q Z wb xb yb ra rc ka kd gp gc hp hc sent sv lv tv K KT evs tvs w)(hK:K<=100000000)(hKT:KT<=100000000):
 Calls prog 18 #[pA wb 7] w λe w'=>e=.returned (bA true)/\BW w w':=by
 have hz:∀k,Z k->k<w.heap.size:=λk hk=>(h.zz k hk).2.2.2.2.2.2;obtain⟨ge,pp,nn,cc,h1,h2,h3⟩:=zbr.all (K:=K) (by have:=h.ints.1;omega) hz h.ient;obtain⟨te,tpp,tnn,tcc,t1,t2,t3⟩:=zbr.all (K:=KT) (by have:=h.texts.1;omega) hz h.tent;obtain⟨lp,lc,el⟩:=zl h.ints;obtain⟨tp,tc,et⟩:=zl h.texts;subst el et;exact VT wb K lp lc ge pp nn cc KT tp tc te tpp tnn tcc w hK hKT h.size (h.cell 7 rfl) (h.cell 8 rfl) (xt h.ints h1) h2 h3 (xt h.texts t1) t2 t3
end
end
section
section
variable{A Z:Nat->Prop}{Q:Gst}{wb xb yb ra rc:Nat}{ka kd:Nat->Nat}{gp gc hp hc:Nat}{sent:List zgW}{sv lv tv:Value}{K KT:Nat}{evs tvs:List Value}{w w1:World}
theorem LawG.app(h:LawG A Q Z wb xb yb ra rc ka kd gp gc hp hc sent sv lv tv K KT evs tvs w){v':Value}{f:zgW}(ho:w1.ownsRow 0 9 1 v' (sent.length+1) (sent.map .string++[sA f]))(hg:w.grownBy w1 sv.ownBlock)(hat:v'.ownBlock=sv.ownBlock\/v'.ownBlock=some w.heap.size)(hAl:∀k,A k->k<w.heap.size):
 LawG A Q Z wb xb yb ra rc ka kd gp gc hp hc (sent++[f]) v' lv tv K KT evs tvs (w1.setCell (aA wb 6) v')/\zm (λk=>k=wb\/some k=sv.ownBlock) w (w1.setCell (aA wb 6) v'):=by
 have ae:=h.size;have hO:=zd w1 wb 6 v';have ag:w1.heap[wb]? =some (.cells (zcy xb yb ra rc gp gc hp hc sv lv tv) 36 (0,0)):=(hg.block wb ae (λe=>by have:=(h.asv wb e.symm).2;omega)).trans h.blk;have ad:∀k,k<w.heap.size->k≠wb->some k≠sv.ownBlock->(w1.setCell (aA wb 6) v').heap[k]? =w.heap[k]? :=λk h1 h2 h3=>(hO.block k h2).trans (hg.block k h1 h3);have hz:w.heap.size<=(w1.setCell (aA wb 6) v').heap.size:=by rw[hO.size];exact hg.size
 have af:∀g,v'.ownBlock=some g->¬A g/\wb<g:=λg e=>by
  rcases hat with h1|h1
  .exact h.asv g (h1.symm.trans e)
  rw[h1] at e;cases e;exact⟨λha=>by have:=hAl _ ha;omega,ae⟩
 have hZ:∀k,Z k->(w1.setCell (aA wb 6) v').heap[k]? =w.heap[k]? :=λk hk=>ad k (h.zz k hk).2.2.2.2.2.2 (h.zz k hk).2.1 (h.zz k hk).2.2.1;have aa:∀g o u,Z g->w.cell? (aA g o)=some u->(w1.setCell (aA wb 6) v').cell? (aA g o)=some u:=λg o u hg hu=>by rw[<-hu];exact zgw (w:=w) (a:=(aA g o)) (hZ g hg)
 have ab:∀{t n:Nat} {u:Value} {ys:List Value},w.ownsRow 0 t 1 u n ys->(∀g,u.ownBlock=some g->¬A g/\wb<g)->9≠t->(w1.setCell (aA wb 6) v').ownsRow 0 t 1 u n ys:=λhu h1 ht=>zb hu λg e ah=>ad g ah (by have:=(h1 g e).2;omega) (λe2=>yA h.sent hu ht g e2.symm e);refine⟨⟨?_,λk hk=>⟨⟨aa _ _ _ h.keyZ.1 (h.key k hk).1.1,(h.key k hk).1.2.keep (hZ _ (h.keyZ.2.2 k hk).1)⟩,⟨aa _ _ _ h.keyZ.2.1 (h.key k hk).2.1,(h.key k hk).2.2.keep (hZ _ (h.keyZ.2.2 k hk).2)⟩⟩,h.keyZ,?_,ab h.ints h.alv (by decide),ab h.texts h.atv (by decide),λi ev e=>(h.ient i ev e).frame hZ (λ_ h=>h),λi ev e=>(h.tent i ev e).frame hZ (λ_ h=>h),λk hk=>?_,h.al,λk o hq=>⟨(h.guest k o hq).1,((h.guest k o hq).1.elim (hZ k) (λh2=>ad k (Nat.lt_trans h2 ae) (Nat.ne_of_lt h2) (λe=>zgO _ (Nat.lt_trans h2 (h.asv k e.symm).2)))).trans (h.guest k o hq).2⟩,⟨(hO.os.trans hg.os).trans h.env.1,(hO.tape.trans hg.tape).trans h.env.2.1,(hO.output.trans hg.output).trans h.env.2.2.1,zgu h.env.2.2.2 hz⟩,af,h.alv,h.atv⟩,⟨hO.os.trans hg.os,hO.tape.trans hg.tape,hO.output.trans hg.output,hz,λk h1 h2=>ad k h1 (λe=>h2 (zgR e)) (λe=>h2 (zgS e))⟩⟩
 .rw [setCell_row ag 6 v'];rfl
 .rw [zgE,List.map_append];exact zb ho λg e _=>hO.block g (λe2=>by have:=(af g e).2;omega)
 obtain⟨a1,a2,a3,a4,a5,a6,a7⟩:=h.zz k hk;refine⟨a1,a2,λe=>?_,a4,a5,a6,zgt a7 hz⟩;rcases hat with h1|h1
 .exact a3 (e.trans h1)
 rw[h1] at e;cases e;omega

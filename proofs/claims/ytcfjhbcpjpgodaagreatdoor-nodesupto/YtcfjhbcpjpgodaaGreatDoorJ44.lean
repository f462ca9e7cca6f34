import Derived.Test.YtcfjhbcpjpgodaaGreatDoorJ40
namespace Go.Proofs.YtcfjhbcpjpgodaaGreatDoor
open Go.RowKit
set_option maxRecDepth 100000
set_option maxHeartbeats 0
set_option linter.all false
section
open Proofs.Tryz
def SendI(es:List Addr)(m:Int)(i wb xb yb ra rc cb:Nat)(ka kd:Nat->Nat)(gp gc hp hc:Nat)(FX RX FY RY:Nat->Prop)(Q:Gst)(Z:Nat->Prop)(s0:za)(sent out:List zgW)(v lv tv:Value)(K KT:Nat)(evs tvs:List Value)(k:Nat)(sv:Value)(w:World):Prop:=
 LawP es m i wb xb yb ra rc cb ka kd gp gc hp hc FX RX FY RY Q Z s0 s0 (sent++out.take k) sv lv tv K KT evs tvs w/\w.ownsRow 0 9 1 v out.length (out.map .string)/\∀g,v.ownBlock=some g->wb<g/\¬(FX g\/RX g\/FY g\/RY g)/\¬Z g/\some g≠sv.ownBlock
section
variable{es:List Addr}{m:Int}{i wb xb yb ra rc cb:Nat}{ka kd:Nat->Nat}{gp gc hp hc:Nat}{FX RX FY RY Z:Nat->Prop}{Q:Gst}{s0:za}{sent out:List zgW}{v sv lv tv:Value}{K KT:Nat}{evs tvs:List Value}{w w':World}{k:Nat}
theorem SendI.below(h:SendI es m i wb xb yb ra rc cb ka kd gp gc hp hc FX RX FY RY Q Z s0 sent out v lv tv K KT evs tvs k sv w)(hb:BW w w'):SendI es m i wb xb yb ra rc cb ka kd gp gc hp hc FX RX FY RY Q Z s0 sent out v lv tv K KT evs tvs k sv w':=
 ⟨h.1.below hb,zb h.2.1 λg _ hg=>hb.block g hg,h.2.2⟩
theorem SendI.app{w3:World}{v3:Value}{f:zgW}{vb vo:Nat}(h:SendI es m i wb xb yb ra rc cb ka kd gp gc hp hc FX RX FY RY Q Z s0 sent out v lv tv K KT evs tvs k sv w)(hf:out[k]? =some f)(ho:w3.ownsRow 0 9 1 v3 ((sent++out.take k).length+1) ((sent++out.take k).map .string++[sA f]))(hg:w.grownBy w3 sv.ownBlock)(hat:v3.ownBlock=sv.ownBlock\/v3.ownBlock=some w.heap.size)(hvb:v.ownBlock=some vb)(hcf:w.cell? (aA vb (vo+k))=some (sA f)):
 SendI es m i wb xb yb ra rc cb ka kd gp gc hp hc FX RX FY RY Q Z s0 sent out v lv tv K KT evs tvs (k+1) v3 (w3.setCell (aA wb 6) v3)/\w3.cell? (aA wb 6)=some sv/\w3.frozen? (aA wb 6)=false/\w3.cell? (aA vb (vo+k))=some (sA f)/\(w3.setCell (aA wb 6) v3).cell? (aA vb (vo+k))=some (sA f):=by
 obtain⟨h1,h2,h3⟩:=h;obtain⟨a1,a2,a3,a4⟩:=h3 vb hvb;have ab:=(h2.lt vb hvb).2;obtain⟨af,hs⟩:=h1.g.app ho hg hat h1.all;have aa:w3.heap[wb]? =w.heap[wb]? :=hg.block wb h1.g.size (λe=>by have:=(h1.g.asv wb e.symm).2;omega);have hP:=h1.own hs (λj hj=>by
  rcases hj with e|e
  .rw [e];exact⟨zgp _,h1.g.aw,λhz=>(h1.g.zz wb hz).2.1 rfl⟩
  exact⟨zgI (h1.g.asv j e.symm).2,(h1.g.asv j e.symm).1,λhz=>(h1.g.zz j hz).2.2.1 e⟩) af
 have ht:sent++out.take (k+1)=sent++out.take k++[f]:=by rw[List.take_add_one,hf,Option.toList_some,List.append_assoc]
 have ae:w3.heap[vb]? =w.heap[vb]? :=hg.block vb ab a4;have ad:(w3.setCell (aA wb 6) v3).heap[vb]? =w.heap[vb]? :=hs.block vb ab (λe=>e.elim (λe=>by omega) a4);refine⟨⟨by rw[ht];exact hP,zb h2 λg e hg3=>?_,λg e=>?_⟩,(zgw (w:=w) (a:=(aA wb 6)) aa).trans (h1.g.cell 6 rfl),zq (aa.trans h1.g.blk) 6,(zgw (w:=w) (a:=(aA vb (vo+k))) ae).trans hcf,(zgw (w:=w) (a:=(aA vb (vo+k))) ad).trans hcf⟩
 .rw [hvb] at e;cases e;exact ad
 rw[hvb] at e;cases e;refine⟨a1,a2,a3,λe=>?_⟩;rcases hat with h9|h9
 .exact a4 (e.trans h9)
 rw[h9] at e;cases e;omega
end
section
variable{Q:Gst}{es:List Addr}{m:Int}{i wb xb yb ra rc:Nat}{ka kd:Nat->Nat}{gp gc hp hc S T N K:Nat}{w:World}
theorem Yy(h:LawM Q es m i wb xb yb ra rc ka kd gp gc hp hc S T N K w)(hN:N<=200000000)(hK:K<=10000000):
 Calls prog 19 #[pA wb 0] w λe w'=>e=.returned (bA true)/\LawM Q es m i wb xb yb ra rc ka kd gp gc hp hc S T (N+100) (K+1) w':=by
 obtain⟨iW,bD,bz,bx,bw⟩:=info_parts Tryz.zd3;obtain⟨s,sent,K0,KT0,⟨⟨cb0,FX0,RX,FY,RY,Z,sv0,lv,tv,evs,tvs,h1⟩,h2,h3,h4⟩,h5,h6,h7,h8⟩:=h;have c0:cE w wb 0 (pA xb 0):=h1.g.cell 0 rfl;obtain⟨bm,H1,H2,H3,H4,H5⟩:=xz (zaE h1.x h2.1.out) h1 h2 h3 h4 h5;obtain⟨out,ai⟩:=gen s.out;have hol:out.length<=100:=by rw[ai];exact h2.1.out
 have ak:=zc ai;clear h1 h2 h3 h4 h5 ai;go_enter func19,ntmps19;go_wp2_with fail
 refine bm.o.mono ?_;rintro e w1 ⟨v,cb,FX,rfl,aa,aW,bl,aX⟩;have av:=H1.o.zfG aW bl;have c1:cE w1 wb 1 (pA yb 0):=av.g.cell 1 rfl;obtain⟨aO,bo⟩:=ze (Q8 av.y) av;rw[<-ak.o] at aa aO;obtain⟨vp,vc,bB⟩:=zl aa;subst bB;have aN:Hid (∀g,(Value.slice vp out.length vc).ownBlock=some g->w.heap.size<=g/\g<w1.heap.size/\¬FX g):=λg e=>⟨(aa.lt g e).1,(aa.lt g e).2,aX g e⟩;have ah:=zc aa;clear aW bl av bm c0 aa aX;go_wp2_with fail
 refine aO.o.mono ?_;rintro e w2 ⟨yp,yc,rfl,a7,aV,aM⟩;have bh:=bo.o.zfv aV aM;have af:w2.ownsRow w.heap.size 9 1 (.slice vp out.length vc) out.length (out.map .string):=zb ah λg e hg=>aM.same.block g hg (λhh=>by
  have h9:=(H1.o.yl hh).2;have h10:=(aN g e).1;omega)
 obtain⟨p9,c9,e9,-,a8⟩:=zL af;cases e9;have bt:=zc (QJ (λj=>out.getD j zgV) (λj=>out.getD j zgV) vp yp out.length out.length vc yc w2 (by unfold maxLen;omega) a8 a7);have bs:Hid (SendI es m i wb xb yb ra rc cb ka kd gp gc hp hc FX RX FY RY Q Z { s with out:=[] } sent out (.slice vp out.length vc) lv tv K0 KT0 evs tvs 0 sv0 w2):=by
  refine⟨by rw[List.take_zero,List.append_nil];exact bh,yU af (zgv _),λg e=>?_⟩;obtain⟨a1,a2,a3⟩:=aN.o g e;have hsz:=H1.o.g.size;have e1:∀k,(FX k\/RX k\/FY k\/RY k)->¬FX k->k<w.heap.size:=λk hk hn=>by
   rcases hk with h|h|h|h
   .exact absurd h hn
   .exact (H1.o.xl (zgS h)).2
   .exact (H1.o.yl (zgR h)).2
   exact(H1.o.yl (zgS h)).2
  exact⟨by omega,λhA=>by have:=e1 g hA a3;omega,λhz=>by have:=(H1.o.g.zz g hz).2.2.2.2.2.2;omega,λe=>by have:=(H1.o.g.sent.lt g e.symm).2;omega⟩
 clear bh af a8 a7 aV aM aO bo ah aN H1 c1;go_wp2_with fail
 refine bt.o.mono ?_;rintro e w3 ⟨⟨oo,rfl,aE⟩,bf⟩;have aD:oo=true:=by first|exact aE rfl (λ_ _=>rfl)|simpa using aE
 subst aD;have bF:=zc (bs.o.below bf);clear bf aE bs bt;go_wp2;go_loopw [6,7,8,9] (λiv _ _ _ wr=>∃k:Nat,k<=out.length/\iv=iA k/\∃sv,SendI es m i wb xb yb ra rc cb ka kd gp gc hp hc FX RX FY RY Q Z { s with out:=[] } sent out (.slice vp out.length vc) lv tv K0 KT0 evs tvs k sv wr) (λiv _ _ _ _=>out.length-(intOf iv).toNat)
 case atStart=>exact⟨0,zgv _,rfl,sv0,bF⟩
 obtain⟨k,hk,rfl,sv,hI⟩:=hrel;by_cases hkn:k=out.length
 .obtain ⟨hP,ho,aB⟩:=hI
  have hni:¬(k:Int)<(out.length:Int):=by omega
  have bp:=zc (J7 hP.g ho aB (by omega) (by omega) hP.all);obtain⟨HP,an⟩:=ze hP aB;clear hP ho aB;go_wp2_with fail
  refine bp.o.mono ?_;rintro e w8 ⟨rfl,Z',tv',tvs',bc,aZ⟩;have bg:=HP.o.own aZ (λj hj=>by
   rcases hj with e|e|e
   .rw [e];exact⟨zgp _,HP.o.g.aw,λhz=>(HP.o.g.zz wb hz).2.1 rfl⟩
   .exact ⟨zgI (HP.o.g.atv j e.symm).2,(HP.o.g.atv j e.symm).1,λhz=>(HP.o.g.zz j hz).2.2.2.2.1 e⟩
   exact⟨zgI (an j e.symm).1,(an j e.symm).2.1,(an j e.symm).2.2.1⟩) bc
  have aU:Hid (LawM Q es m i wb xb yb ra rc ka kd gp gc hp hc S T (N+100) (K+1) w8):=by
   refine⟨{ s with out:=[] },_,K0,KT0+1,⟨⟨cb,FX,RX,FY,RY,Z',sv,lv,tv',evs,tvs',bg⟩,H2.o.sent,H3.o.sent,λf hf=>?_⟩,H5.o,?_,by omega,by omega⟩
   .rcases List.mem_append.1 hf with hf|hf
    .exact H4 f hf
    have h9:f∈s.out:=by rw[<-ak.o];exact List.mem_of_mem_take hf
    exact xY (H3.o.out f h9).1
   rw[zgE,List.length_take];omega
  clear bc aZ bg bp HP an;go_wp2;go_ret;exact⟨rfl,aU⟩
 have aF:k<out.length:=by omega
 have hki:(k:Int)<(out.length:Int):=by omega
 obtain⟨f,hf⟩:∃f,out[k]? =some f:=⟨out[k],zgy aF⟩;have au:SgF 9 s.sg f:=H3.o.out f (by rw[<-ak.o];exact List.mem_of_getElem? hf);obtain⟨p8,c8,e8,-,ba⟩:=zL hI.2.1;cases e8;obtain⟨vb,vo,e7,hvl,cf⟩:=ba k aF;have bd:out.getD k zgV=f:=by rw[zgz,hf];rfl
 simp only[bd] at cf;subst e7;have an:Hid ((Value.slice (some (aA vb vo)) out.length vc).ownBlock=some vb):=by rcases hI.2.1.2 with⟨e,_⟩|⟨g,cap,cur,e,-⟩<;>cases e;rfl
 obtain⟨dk,dh,dr,df,dv,dn,ds,aG⟩:∃dk dh dr df dv dn ds,decV f=⟨dk,dh,dr,df,dv,dn,ds⟩:=⟨_,_,_,_,_,_,_,rfl⟩;have ax:=zc (gj f wr (by have:=xY au.1;unfold maxLen;omega));have aY:z8 s.sg 9 df f=true:=by have:=au.2;rw[aG] at this;exact this
 rw[au.1,aG] at ax;unfold yX.cells at ax;obtain⟨HF,HKL,aR,bq⟩:=yi hf aF aY hI;have aS:Hid ((sent++out.take k).length<=200000100):=by unfold Hid;rw[zgE,List.length_take];omega
 clear hI hf au ba bd aG aY;go_wp2_with fail
 refine ax.o.mono ?_;rintro e wd ⟨rfl,aK⟩;have br:=zc (bq.o.below aK);have cfd:cE wd vb (vo+k) (sA f):=Ext.cell cf (Ext.of aK);clear aK ax bq cf
 go_upto_region 10 with(first|(refine zf rfl 57 _ _ rfl wd #[iA dk,iA dh,iA dr,iA df,iA dv,bA dn,sA ds] rfl rfl 57 _ rfl (by simp[Value.oneCell']) Tryz.zdP ?_;intro we a6 aJ bu)|fail)
 have HI:=zc (br.o.below aJ);have cf:cE we vb (vo+k) (sA f):=Ext.cell cfd (Ext.of aJ);have cg:cN we wd 3 (iA df):=zgs we wd.heap.size 3 _ _ _ a6;have cr:cE we wb 2 (pA ra 0):=HI.o.1.g.cell 2 rfl;have bn:=zc HI.o.1.x.ring;have aq:Hid (∀W,RingI RX ra 9 s.sg W->Calls prog 71 #[pA ra 0,iA df,sA f] W λe w'=>e=.returned (bA true)/\w'=W):=λW hW=>by
  have h9:=qP RX ra 9 s.sg df f W hW;rw[aR.o] at h9;exact h9
 clear a6 aJ bu br cfd;go_quiet (first|(go_at_call 71;refine Calls.quiet_of_same (aq _ (bn.o.frame (λ_ _=>rfl)))))
 rename_i nq;obtain⟨wq,az⟩:=gen (we.drewN nq);have aH:BW we wq:=by rw[az];exact zgZ (zgq _ we) nq
 have aT:=zc (HI.o.below aH);have cfq:cE wq vb (vo+k) (sA f):=Ext.cell cf (Ext.of aH);rw[<-az];clear aH az HI cf;obtain⟨sp,sc,ar⟩:=zl aT.o.1.g.sent;obtain⟨sn,aC⟩:∃z,z=(sent++out.take k).length:=⟨_,rfl⟩;rw[<-aC] at ar;obtain⟨aP,aQ⟩:=ze ar aC;have cL:wq.cell? (aA wb 6)=some (.slice sp sn sc):=by rw[<-ar];exact aT.o.1.g.cell 6 rfl
 clear ar aC;clear cg cr bn aq;go_wp2_with fail
 refine rgd (S:=λX=>cE X vb (vo+k) (sA f)) cfq λhH=>?_;refine zx [0,1,2,3,5,6,7,8] hH (λx h=>h) ?_;refine gn 4 9 (λK hK=>?_) λK hK=>?_;focus
  go_simp;refine hK.out _ _ cfq λhH=>?_;clear hK K;refine zp 9 λK hK=>?_;go_simp;obtain⟨w2,ag⟩:∃z,z=(wq.alloc (.cells #[sA f] 9)).drew:=⟨_,rfl⟩;have al:BW wq w2:=by rw[ag];exact(bwA wq).drew
  have ay:w2.heap[wq.heap.size]? =some (.cells #[sA f] 9 (0,0)):=by rw[ag];exact zgr wq _
  have cf2:cE w2 vb (vo+k) (sA f):=Ext.cell cfq (Ext.of al);rw[<-ag];refine hK.out _ _ cf2 λhH=>?_;clear hK K ag
 rotate_left;focus
  go_simp;obtain⟨w2,ag⟩:∃z,z=(wq.alloc (.cells #[sA f] 9)).drew:=⟨_,rfl⟩;have al:BW wq w2:=by rw[ag];exact(bwA wq).drew
  have ay:w2.heap[wq.heap.size]? =some (.cells #[sA f] 9 (0,0)):=by rw[ag];exact zgr wq _
  have cf2:cE w2 vb (vo+k) (sA f):=Ext.cell cfq (Ext.of al);rw[<-ag];refine hK.out _ _ cf2 λhH=>?_;have cL2:cE w2 wb 6 (.slice sp sn sc):=Ext.cell cL (Ext.of al);clear hK K ag;refine zp 4 λK hK=>?_;go_simp;refine hK.out _ _ cf2 λhH=>?_;clear hK K cL2
 rotate_left;all_goals
  have aL:=aT.o.below al;have ao:w2.ownsRow 0 9 1 (.slice sp sn sc) sn ((sent++out.take k).map .string):=by
   rw[<-aP.o,aQ.o];exact aL.1.g.sent
  have bb:sn<=200000100:=by rw[aQ.o];exact aS
  refine zp 10 λK hK=>?_;rw[zgT (by rfl)];refine zQ _ _ _ 30 rfl 0 9 iW (sA zgV) 1 16 underlying30 bD bz bx bw rfl (by decide) (.slice sp sn sc) sn ((sent++out.take k).map .string) rfl ao (nA wq 0) 1 1 [sA f] rfl rfl ?n1 (λu hu=>by simp at hu;subst hu;rfl) (by unfold maxLen;omega) (by omega) (zgv _) ?_
  case n1=>
   intro j u hj;rw[addr_add,zg0,zgs w2 wq.heap.size j _ _ _ ay];simpa using hj
  intro v3 w3 ae ab aj;have ad:=ae;rw[aQ.o] at ad;rw[<-aP.o] at ab aj;obtain⟨bj,c63,f63,cf3,cf4⟩:=aL.app HF ad ab aj an cf2;rw[aP.o] at c63;obtain⟨p3,c3,bC⟩:=zl ae;clear ad;subst bC;refine hK.out _ _ cf3 λhH=>?_;clear hK K;simp only[AP,AQ];refine zx [11,12] hH (λ_ h=>h) ?_;refine zp 13 λK hK=>?_;go_simp;refine hK.out _ _ cf4 λhH=>?_;clear hK K hH;refine dnr ?_;have bE:=zc bj;clear bj c63 f63 cf3 cf4 ae ab aj aL al ay cf2 cfq cL
  try simp only[AP,AQ]
  go_wp2;go_roundw
  case rel=>exact⟨k+1,by omega,by go_num,_,bE.o⟩
  simp[intOf];omega
end
theorem RefW.zfh{B:Nat}{F R:Nat->Prop}{nb kb rb n i:Nat}{s:za}{w:World}(h:RefW B F R nb kb rb n i s w):∃vp vc,w.cell? (aA nb 36)=some (.slice vp s.dec.length vc)/\∀k,k<s.dec.length->∃vb vo,vp=some (aA vb vo)/\w.cell? (aA vb (vo+k))=some (sA (s.dec.getD k yz).block):=by
 obtain⟨V,hR,hcs,-⟩:=h;obtain⟨p,c,e,hm,hl⟩:=zL (hR.own 1 (strR V.vl (s.dec.map (·.block))) rfl);have e1:(strR V.vl (s.dec.map (·.block))).v=V.vl:=rfl;rw[e1,List.length_map] at e;refine⟨p,c,by rw[<-e];exact hR.cell 36 rfl,λk hk=>?_⟩;obtain⟨vb,vo,e2,-,hc⟩:=hl k (by simpa using hk);refine⟨vb,vo,e2,?_⟩;have hd:s.dec[k]? =some (s.dec.getD k yz):=by rw[zgz,zgy hk];rfl
 have e9:(s.dec.map (·.block)).getD k zgV=(s.dec.getD k yz).block:=by
  rw[zgz,List.getElem?_map,hd];rfl
 rw[hc];exact congrArg (λz=>some (Value.string z)) e9
section
variable{Q:Gst}{es:List Addr}{m:Int}{i wb xb yb ra rc:Nat}{ka kd:Nat->Nat}{gp gc hp hc S T N K:Nat}{w:World}
theorem gx(h:LawM Q es m i wb xb yb ra rc ka kd gp gc hp hc S T N K w)(hK:K<=10000000)(z:Int):
 Calls prog 21 #[pA wb 0,iA z] w λe w'=>e=.returned (bA true)/\LawM Q es m i wb xb yb ra rc ka kd gp gc hp hc S T N (K+1) w':=by
 obtain⟨s,sent,K0,KT0,⟨⟨cb,FX,RX,FY,RY,Z,sv,lv,tv,evs,tvs,h1⟩,h2,h3,h4⟩,h5,h6,h7,h8⟩:=h;have c0:cE w wb 0 (pA xb 0):=h1.g.cell 0 rfl;obtain⟨a10,af⟩:∃a,es[10]? =some a:=⟨es[10]'(by rw[h1.low.sent.len];decide),zgy _⟩;obtain⟨V,hA,hf⟩:=h1.x.node;obtain⟨ax,aH,H1⟩:=zC (Jx xb (ka i) cb V s z a10 w hA h2.1.hgt h2.1.cert (h1.low.sent.cell 10 _ _ rfl af)) af h1;have aO:Hid (∀(w':World) KT1,KT1<=KT0+1->(∃Z' tv' tvs',LawP es m i wb xb yb ra rc cb ka kd gp gc hp hc FX RX FY RY Q Z' s s sent sv lv tv' K0 KT1 evs tvs' w')->LawM Q es m i wb xb yb ra rc ka kd gp gc hp hc S T N (K+1) w'):=λw' KT1 hkt ⟨Z',tv',tvs',h9⟩=>⟨s,sent,K0,KT1,⟨⟨cb,FX,RX,FY,RY,Z',sv,lv,tv',evs,tvs',h9⟩,h2,h3,h4⟩,h5,h6,by omega,by omega⟩;have aK:=zc h2.1.cert;clear h1 h2 h3 h4 h5 hA hf af;by_cases aE:0<=z/\z<(s.dec.length:Int)
 .obtain ⟨k,rfl⟩:∃k:Nat,z=(k:Int):=⟨z.toNat,by omega⟩
  have aD:k<s.dec.length:=by omega
  have hd:(s.dec.getD k yz).cert.length<=100000:=aK.o _ (by rw[zgz,zgy aD];exact List.getElem_mem _);obtain⟨d,aF⟩:=gen (s.dec.getD k yz);have aJ:=zc aF;rw[<-aF] at hd;have hki:(k:Int)<(s.dec.length:Int):=by omega
  have hk0:¬(k:Int)<0:=by omega
  have aU:¬(s.dec.length:Int)<=(k:Int):=by omega
  clear aE aF aK;go_enter func21,ntmps21;go_wp2_with fail
  refine ax.o.mono ?_;intro e w1 hD;unfold js at hD;rw[zgT ⟨by omega,by omega⟩,Int.toNat_natCast,<-aJ.o] at hD;obtain⟨p,c,rfl,aT,hl,aj,ai⟩:=hD;have ag:=H1.o.below ai;obtain⟨ak,ao,an,aP,HB1⟩:=kY (KC ag.low.sent) ag aj hl ai;clear aT hl aj ai ag ax c0;go_wp2_with fail
  refine ak.o.mono ?_;rintro e w2 ⟨rfl,ae⟩;have ab:=ao.o.below ae;have c1:cE w2 wb 1 (pA yb 0):=ab.g.cell 1 rfl;obtain⟨vp,vc,y36,hv⟩:=ab.y.zfh;obtain⟨pb,po,pc,db,dofs,dc,qp,qc,-,-,y38,yct,aC,-,-⟩:=ab.y.past k aD;rw[<-aJ.o] at yct aC;have aS:=zc (QJ (λj=>d.cert.getD j zgV) (λj=>d.cert.getD j zgV) p qp d.cert.length d.cert.length c qc w2 (by unfold maxLen;omega) ((aP.o.below ae).more ae.size) aC);have aQ:=zc ab;have al:Hid (w2.ownsRow w.heap.size 9 1 (.slice p d.cert.length c) d.cert.length ((List.range d.cert.length).map λi=>sA (d.cert.getD i zgV))):=zb an λg e hg=>ae.block g hg;clear hv aC ae ab ak an ao aP;go_wp2_with fail
  refine aS.o.mono ?_;rintro e w3 ⟨⟨oo,rfl,aB⟩,aG⟩;have az:oo=true:=by first|exact aB rfl (λ_ _=>rfl)|simpa using aB
  subst az;have ar:=aQ.o.below aG;have aa:w3.ownsRow w.heap.size 9 1 (.slice p d.cert.length c) d.cert.length ((List.range d.cert.length).map λi=>sA (d.cert.getD i zgV)):=zb al λg e hg=>aG.block g hg;have ay:∀g,(Value.slice p d.cert.length c).ownBlock=some g->wb<g/\¬(FX g\/RX g\/FY g\/RY g)/\¬Z g/\some g≠sv.ownBlock:=λg e=>by
   have h9:=(aa.lt g e).1;have hsz:=H1.o.g.size;exact⟨by omega,λhA=>by have:=H1.o.all g hA;omega,λhz=>by have:=(H1.o.g.zz g hz).2.2.2.2.2.2;omega,λe=>by have:=(H1.o.g.sent.lt g e.symm).2;omega⟩
  have aR:=zc (J7 ar.g (yU aa (zgv _)) ay (by omega) (by omega) ar.all);obtain⟨ah,au⟩:=ze ar ay;clear aG ar aa ay aB aQ al aS c1 y36 y38 yct;go_wp2_with fail
  refine aR.o.mono ?_;rintro e w8 ⟨rfl,Z',tv',tvs',aN,aM⟩;have aq:=ah.o.own aM (λj hj=>by
   rcases hj with e|e|e
   .rw [e];exact⟨zgp _,ah.o.g.aw,λhz=>(ah.o.g.zz wb hz).2.1 rfl⟩
   .exact ⟨zgI (ah.o.g.atv j e.symm).2,(ah.o.g.atv j e.symm).1,λhz=>(ah.o.g.zz j hz).2.2.2.2.1 e⟩
   exact⟨zgI (au j e.symm).1,(au j e.symm).2.1,(au j e.symm).2.2.1⟩) aN
  have c1:cE w8 wb 1 (pA yb 0):=aq.g.cell 1 rfl;obtain⟨vp8,vc8,y36,aL⟩:=aq.y.zfh;obtain⟨vb8,vo8,rfl,yvk⟩:=aL k aD;rw[<-aJ.o] at yvk;have ad:=zc (aO w8 _ (zgp _) ⟨Z',tv',tvs',aq⟩);clear aN aM aq aR ah au aL;go_wp2;go_ret;exact⟨by simp,ad.o⟩
 clear aK;have av:=zc aE;clear aE;go_enter func21,ntmps21;go_wp2_with fail
 refine ax.o.mono ?_;intro e w1 hD;unfold js at hD;rw[zgU av.o] at hD;obtain⟨rfl,ai⟩:=hD;have ag:=H1.o.below ai;obtain⟨ak,ao⟩:=ze (xL ag.low.sent 10 a10 aH) ag;clear ai ag ax c0;go_wp2_with fail
 refine ak.o.mono ?_;rintro e w2 ⟨rfl,ae⟩;have ab:=ao.o.below ae;have c1:cE w2 wb 1 (pA yb 0):=ab.g.cell 1 rfl;obtain⟨vp,vc,y36,-⟩:=ab.y.zfh;have ad:=zc (aO w2 _ (Nat.le_succ _) ⟨Z,tv,tvs,ab⟩);clear ae ab ak ao;by_cases h0:z<0
 .clear av;go_wp2;go_ret;exact⟨by simp,ad.o⟩
 have aU:(s.dec.length:Int)<=z:=by have:=av.o;omega
 clear av;go_wp2;go_ret;exact⟨by simp,ad.o⟩
end
section
variable{Q:Gst}{es:List Addr}{m:Int}{i wb xb yb ra rc:Nat}{ka kd:Nat->Nat}{gp gc hp hc S T N K:Nat}{w:World}
theorem zcF(h:LawM Q es m i wb xb yb ra rc ka kd gp gc hp hc S T N K w)(hB:XC S T N K)(mk mh mr mf mv:Int)(mn:Bool)(ms:zgW)(osg:Int)(oraw:zgW)(on:Int)(ho:QK ⟨5,⟨mk,mh,mr,mf,mv,mn,ms⟩,osg,oraw,on⟩):
 Calls prog 17 #[pA wb 0,.agg #[iA 5,iA mk,iA mh,iA mr,iA mf,iA mv,bA mn,sA ms,iA osg,sA oraw,iA on]] w (x9 Q es m i wb xb yb ra rc ka kd gp gc hp hc S T N K):=by
 obtain⟨hBS,hBT,hBN,hBK⟩:=hB;obtain⟨w1,Q1,ag,aj,ak,ah⟩:=ke h ⟨5,⟨mk,mh,mr,mf,mv,mn,ms⟩,osg,oraw,on⟩;obtain⟨ab,af,ad,ae⟩:=yi ag aj ak ah;unfold OpV.cells at ab ad;dsimp only at ab ad;have HO:=zc ho;clear h ag aj ak ah ho;go_enter func17,ntmps17
 go_upto_region 1 with fail
 rw[<-ab.o];have aa:=af.o.guest ad;have o0:cN w1 w 0 (iA 5):=zgs w1 w.heap.size 0 _ _ _ aa;clear aa;have al:=zc (Yy af.o (by omega) (by omega));clear af;go_wp2_with fail
 refine al.o.mono ?_;rintro e w2 ⟨rfl,ai⟩;have an:=zc ai;clear ai al;go_wp2;go_ret;exact ae.o _ _ _ _ _ an.o (by omega) (by omega) (by omega) (by omega)
theorem zcD(h:LawM Q es m i wb xb yb ra rc ka kd gp gc hp hc S T N K w)(hB:XC S T N K)(mk mh mr mf mv:Int)(mn:Bool)(ms:zgW)(osg:Int)(oraw:zgW)(on:Int)(ho:QK ⟨7,⟨mk,mh,mr,mf,mv,mn,ms⟩,osg,oraw,on⟩):
 Calls prog 17 #[pA wb 0,.agg #[iA 7,iA mk,iA mh,iA mr,iA mf,iA mv,bA mn,sA ms,iA osg,sA oraw,iA on]] w (x9 Q es m i wb xb yb ra rc ka kd gp gc hp hc S T N K):=by
 obtain⟨hBS,hBT,hBN,hBK⟩:=hB;obtain⟨w1,Q1,ag,aj,ak,ah⟩:=ke h ⟨7,⟨mk,mh,mr,mf,mv,mn,ms⟩,osg,oraw,on⟩;obtain⟨ab,af,ad,ae⟩:=yi ag aj ak ah;unfold OpV.cells at ab ad;dsimp only at ab ad;have HO:=zc ho;clear h ag aj ak ah ho;go_enter func17,ntmps17
 go_upto_region 1 with fail
 rw[<-ab.o];have aa:=af.o.guest ad;have o0:cN w1 w 0 (iA 7):=zgs w1 w.heap.size 0 _ _ _ aa;have o10:cN w1 w 10 (iA on):=zgs w1 w.heap.size 10 _ _ _ aa;clear aa;have al:=zc (gx af.o (by omega) on);clear af;go_wp2_with fail
 refine al.o.mono ?_;rintro e w2 ⟨rfl,ai⟩;have an:=zc ai;clear ai al;go_wp2;go_ret;exact ae.o _ _ _ _ _ an.o (by omega) (by omega) (by omega) (by omega)
end
variable{w c a b w':World}{F:Nat->Prop}
theorem zb0(g:Nat->Int)(p:Option Addr)(n cap:Nat)(b:Addr)(w:World)(hl:kG w w.heap.size p n (λi=>iA (g i)))(hg:w.cell? (aA 1 0)=some (eA b))(h:(gN g n).2=false):
 Calls prog 52 #[.slice p n cap] w λe w'=>e=.returned (.tuple #[.agg (regA zA),eA b])/\BW w w':=by
 have:=Vf g p n cap b w hl hg;unfold Jt zb1 at this;rw[h] at this;exact this
theorem zbU(kb:Nat)(g:Nat->Int)(p:Option Addr)(n cap:Nat)(b:Addr)(w:World)(hl:kG w w.heap.size p n (λi=>iA (g i)))(hg:w.cell? (aA 1 0)=some (eA b))(h:(gN g n).2=false):
 Calls prog 12 #[pA kb 0,.slice p n cap] w λe w'=>e=.returned (.tuple #[.pointer none,eA b])/\BW w w':=by
 have HG:=zc (zb0 g p n cap b w hl hg h);have z0:=zX;clear hl hg h;go_enter func12,ntmps12;go_wp2_with fail
 refine HG.o.mono ?_;rintro e w1 ⟨rfl,ad⟩;have aa:=zc ad;clear ad;go_wp2_with (first|(refine zk rfl 116 _ _ rfl w1.heap.size zA rfl rfl 116 (regA zA) (zgr w1 _) (zg _) Tryz.zc2 ?_;intro w2 ae ab;have af:Hid (BW w w2):=(aa.o.alloc aa.o.size _).trans (ab.below aa.o.size);clear ae ab)|fail)
 go_ret2;exact⟨rfl,af⟩
theorem Gh{base e n gb c:Nat}{f:Nat->Value}{m:Value}(h:w.ownsRow base e 1 (.slice (some (aA gb 0)) (n+8) c) (n+8) (VA f n m)):
 n+8<=c/\gb<w.heap.size/\∀i,i<n+8->w.cell? (aA gb i)=some (if i<n then f i else m):=by
 rcases h.2 with⟨e0,_⟩|⟨g,cap,cur,e0,hb,hg,aa,hcm,hcs,ht⟩
 .cases e0
 cases e0;refine⟨aa,zj hg,λi hi=>?_⟩;rw[zgs w gb i _ _ _ hg];have e1:(cur.toList.take ((n+8)*1))[i]? =(VA f n m)[i]? :=by rw[ht]
 rw[zg5,zgT (by omega),X6 _ _ _ _ hi] at e1;rw[<-zg8,e1]
def JF(L:Nat)(gp:Option Addr)(n:Nat)(w:World):Prop:=(gp=none/\n=0)\/∃gb C,gp=some (aA gb 0)/\L<=gb/\w.heap[gb]? =some (.cells C 3 (0,0))/\n<=C.size
theorem Vz(g:Nat->Int)(p:Option Addr)(n cap L:Nat)(w:World)(hn:n<=1099511627776)(hp:ga p n cap)(hl:kG w L p n (λi=>iA (g i)))(hL:L<=w.heap.size):
 Calls prog 11 #[.slice p n cap] w λe w'=>(∃gp gc,e=.returned (.slice gp n gc)/\kG w' w'.heap.size gp n (λi=>iA (g i))/\JF w.heap.size gp n w'/\
  ∀W':World,w'.heap.size<=W'.heap.size->(∀k,k<L\/(w.heap.size<=k/\k<w'.heap.size)->W'.heap[k]? =w'.heap[k]?)->Calls prog 14 #[.slice gp n gc,.slice p n cap] W' λe w3=>e=.returned (bA true)/\w3=W')/\BW w w':=by
 rcases hp with⟨rfl,rfl,rfl⟩|⟨b,o,rfl⟩
 .refine (XZ w).mono ?_
  rintro e w' ⟨rfl,rfl⟩;exact⟨⟨none,0,rfl,λi hi=>by omega,zgR ⟨rfl,rfl⟩,λW' _ _=>za7 W'⟩,zgq _ _⟩
 refine(X0 g b o n cap w hn (hl.more hL)).mono ?_;rintro e w' ⟨⟨gb,c,rfl,ho⟩,hb⟩;obtain⟨hc,ab,aa⟩:=Gh ho;have ad:w.heap.size<=gb:=(ho.lt gb rfl).1;refine⟨⟨some (aA gb 0),c,rfl,λi hi=>⟨gb,0,rfl,ab,?_⟩,zgS ?_,λW' hz hW=>?_⟩,hb⟩
 .rw [zg0,aa i (by omega),zgT hi]
 .rcases ho.2 with⟨e,_⟩|⟨g1,cap1,cur,e,hbb,hg,hnc,hcm,hcs,ht⟩
  .cases e
  cases e;exact⟨gb,cur,rfl,ad,hg,by omega⟩
 refine za8 g b o n cap gb c W' hn hc (λi hi=>?_) λi hi=>?_
 .obtain ⟨b1,o1,e1,h1,h2⟩:=hl i hi
  refine⟨b1,o1,e1,by have:=hb.size;omega,?_⟩;rw[<-h2,zgw (w:=w') (a:=(aA b1 (o1+i))) (hW b1 (zgR h1))];exact hb.cell (p:=(aA b1 (o1+i))) (by show b1<w.heap.size;omega)
 rw[<-aa i hi];exact zgw (w:=w') (a:=(aA gb i)) (hW gb (zgS ⟨ad,ab⟩))
theorem zm.step{G:Nat->Prop}(h:zm F a b)(h2:zm G b c)(hG:∀k,G k->F k\/a.heap.size<=k):zm F a c:=
 ⟨h2.os.trans h.os,h2.tape.trans h.tape,h2.output.trans h.output,zgu h.size h2.size,λk hk hn=>(h2.block k (zgt hk h.size) (λhg=>(hG k hg).elim hn (λh3=>by omega))).trans (h.block k hk hn)⟩
theorem zm.zex(h:zm F a b)(h2:BW b c):zm F a c:=
 h.step (G:=λ_=>False) { h2 with block:=λk hk _=>h2.block k hk } (λ_ h=>h.elim)
theorem zm.id(F:Nat->Prop)(a:World):zm F a a:=⟨rfl,rfl,rfl,zgp _,λ_ _ _=>rfl⟩
theorem zm.set{k o:Nat}{v:Value}(h:zm F a b)(hk:F k):zm F a (b.setCell (aA k o) v):=by
 have hO:=zd b k o v;exact h.step (G:=λj=>j=k) ⟨hO.os,hO.tape,hO.output,by rw[hO.size];exact zgp _,λj _ hn=>hO.block j hn⟩ (λj e=>zgR (by rw[e];exact hk))
structure QL (L M ra gk:Nat) (ka:Nat->Nat) (R:Nat->Prop) (w:World):Prop where
 key:∀k,k<9->w.cell? (aA gk k)=some (pA (ka k) 0)/\kq w (ka k) ra k
 gl:L<=gk/\gk<M/\¬R gk
 kl:∀k,k<9->L<=ka k/\ka k<M/\¬R (ka k)
theorem QL.frame{L M ra gk:Nat}{ka:Nat->Nat}{R:Nat->Prop}(h:QL L M ra gk ka R w)(hb:∀k,L<=k->k<M->¬R k->w'.heap[k]? =w.heap[k]?):QL L M ra gk ka R w':=
 ⟨λk hk=>⟨(zgw (w:=w) (a:=(aA gk k)) (hb gk h.gl.1 h.gl.2.1 h.gl.2.2)).trans (h.key k hk).1,(h.key k hk).2.keep (hb _ (h.kl k hk).1 (h.kl k hk).2.1 (h.kl k hk).2.2)⟩,h.gl,h.kl⟩
theorem J8{ov:Value}{kp:Option Addr}{kc:Nat}{ks:Nat->Nat}(hr:RingI (λk=>k=w.heap.size\/some k=ov.ownBlock) w.heap.size 9 (λ_=>[]) w')(ho:w'.ownsRow (w.heap.size+1) 30 1 ov 9 (List.replicate 9 (.slice none 0 0)))(hk:w'.ownsRow (w.heap.size+1) 45 1 (.slice kp 9 kc) 9 (za6 ks 9))(hks:∀i,i<9->w.heap.size<ks i/\kq w' (ks i) w.heap.size i):
 ∃gk,kp=some (aA gk 0)/\∃R:Nat->Prop,RingI R w.heap.size 9 (λ_=>[]) w'/\(∀k,R k->w.heap.size<=k/\k<w'.heap.size)/\QL w.heap.size w'.heap.size w.heap.size gk ks R w':=by
 rcases hk.2 with⟨e,h0⟩|⟨gk,cap,cur,e,hb,hg,hnc,hcm,hcs,ht⟩
 .omega
 cases e;refine⟨gk,rfl,_,hr,λk hR=>?_,⟨λk aa=>⟨?_,(hks k aa).2⟩,⟨by omega,zj hg,λh=>?_⟩,λk aa=>⟨zgI (hks k aa).1,(hks k aa).2.lt,λh=>?_⟩⟩⟩
 .rcases hR with h|h
  .obtain ⟨ob,cap2,cur2,iv,h1,_⟩:=hr
   rw[h];exact⟨zgp _,zj h1⟩
  have h1:=ho.lt k h.symm;exact⟨by omega,h1.2⟩
 .rw [zgs w' gk k _ _ _ hg];have e1:(cur.toList.take (9*1))[k]? =(za6 ks 9)[k]? :=by rw[ht]
  rw[zg5,zgT (by omega)] at e1;rw[<-zg8,e1];unfold za6;simp[aa]
 .rcases h with h|h
  .omega
  exact jL ho hg (by decide) h.symm
 rcases h with h|h
 .have:=(hks k aa).1
  omega
 exact jL ho (hks k aa).2 (by decide) h.symm
end
section
variable{i wb xb yb ra rc:Nat}{y:Nat->Int}{es:List Addr}{m:Int}{ka kd:Nat->Nat}
theorem ZOk.born{n:Nat}{sg:Nat->List zgW}(hi:i<n):ZOk n ((ZW y sg i).zdv i):=
 ZOk.zeI hi 2200 _ (ZOk.begin (s:=(yR y sg).zdb []) ⟨λ_ h=>(by cases h),λ_ h=>(by cases h),λ_ h=>(by cases h),λ_ h=>(by cases h)⟩ hi)
theorem LawM.zfh{Q:Gst}{gp gc hp hc S T N K:Nat}{w:World}(h:LawM Q es m i wb xb yb ra rc ka kd gp gc hp hc S T N K w):∃(dl:Nat) (vp:Option Addr) (vc:Nat),w.cell? (aA yb 36)=some (.slice vp dl vc):=by
 obtain⟨s,sent,K0,KT0,⟨⟨cb,FX,RX,FY,RY,Z,sv,lv,tv,evs,tvs,h1⟩,h2,-⟩,-⟩:=h;obtain⟨vp,vc,h3,-⟩:=h1.y.zfh;exact⟨_,vp,vc,h3⟩
theorem GD{L M6 M7 cb gk kc hk hkc:Nat}{FX RX FY RY RA RC:Nat->Prop}{w12 w13 w14:World}(hM6:L<=wb/\wb<ra/\ra<rc/\rc<M6)(hM:M6<=M7/\M7<w12.heap.size)(hi:i<9)(hx:NodeW wb es m FX RX xb (ka i) ra cb 9 i ((ZW y (λ_=>[]) i).zdv i) w12)(hfx:(∀k,FX k->M7<=k)/\∀k,RX k->RA k\/M7<=k)(hA:∀k,RA k->ra<=k/\k<rc)(hC:∀k,RC k->rc<=k/\k<M6)(hka:QL ra rc ra gk ka RA w12)(hkd:QL rc M6 rc hk kd RC w12)
 (hy:RefW wb FY RY yb (kd i) rc 9 i ((ZW y (λ_=>[]) i).zdv i) w13) (hG:Goes (λ_=>False) RC w12.drew FY RY w13) (hO:ko wb w13 w14) (hq:w14.heap[wb]? =some (.cells (zcy xb yb ra rc gk kc hk hkc (.slice none 0 0) (.slice none 0 0) (.slice none 0 0)) 36 (0,0))) (hlow:Low wb es w12) (hdy:Dom y) (hpy:0<sumTo y 8):
 LawM ⟨λk=>if k<wb then w14.heap[k]? else none,w14⟩ es m i wb xb yb ra rc ka kd gk kc hk hkc 0 0 0 0 w14:=by
 have an:w12.drew.heap.size=w12.heap.size:=rfl;have al:w12.heap.size<=w13.heap.size:=hG.same.size;have ak:w14.heap.size=w13.heap.size:=hO.size;have aa:∀k,k<w12.heap.size->k≠wb->¬RC k->w14.heap[k]? =w12.heap[k]? :=λk h1 h2 h3=>(hO.block k h2).trans (hG.same.block k h1 (λh=>h.elim (λh=>h.elim) h3));have aj:∀k,FX k->M7<=k/\k<w12.heap.size:=λk hk=>⟨hfx.1 k hk,(hx.fl k hk).2⟩;have ai:∀k,RX k->((ra<=k/\k<rc/\RA k)\/M7<=k)/\k<w12.heap.size:=λk hk=>⟨(hfx.2 k hk).imp (λh=>⟨(hA k h).1,(hA k h).2,h⟩) id,(hx.rl k hk).2⟩;have ag:∀k,FY k->w12.heap.size<=k/\k<w14.heap.size:=λk hk=>⟨(hG.ff k hk).elim (λh=>h.elim) (λh=>h),by have:=(hy.bounds.1 k (zgR hk)).2;omega⟩;have af:∀k,RY k->((rc<=k/\k<M6/\RC k)\/w12.heap.size<=k)/\k<w14.heap.size:=λk hk=>⟨(hG.rr k hk).imp (λh=>⟨(hC k h).1,(hC k h).2,h⟩) (λh=>h),by have:=(hy.bounds.1 k (zgS hk)).2;omega⟩;have ad:QL ra rc ra gk ka RA w14:=hka.frame λk h1 h2 _=>aa k (by omega) (by omega) (λh=>by have:=hC k h;omega);have ab:QL rc M6 rc hk kd RC w14:=hkd.frame λk h1 h2 h3=>aa k (by omega) (by omega) h3;have aq:∀k,(FX k\/RX k\/FY k\/RY k)->wb<k:=λk hk=>by
  rcases hk with h|h|h|h
  .have:=aj k h;omega
  .have:=ai k h;omega
  .have:=ag k h;omega
  have:=af k h;omega
 have ao:∀k,k<M6->(ra<=k->k<rc->¬RA k)->(rc<=k->¬RC k)->¬(FX k\/RX k\/FY k\/RY k):=λk h1 h2 h3 hk=>by
  rcases hk with h|h|h|h
  .have:=aj k h;omega
  .rcases (ai k h).1 with h4|h4
   .exact h2 h4.1 h4.2.1 h4.2.2
   omega
  .have:=ag k h;omega
  rcases(af k h).1 with h4|h4
  .exact h3 h4.1 h4.2.2
  omega
 refine⟨(ZW y (λ_=>[]) i).zdv i,[],0,0,⟨⟨cb,FX,RX,FY,RY,λk=>k=gk\/k=hk\/∃j,j<9/\(k=ka j\/k=kd j),.slice none 0 0,.slice none 0 0,.slice none 0 0,[],[],⟨?_,?_,?_,?_,?_⟩⟩,(zbz (S:=0) (sg:=λ_=>[]) (i:=i) hdy hpy (zgp _)).runs.2,ZOk.born hi,λf hf=>(by cases hf)⟩,λq hq=>?_,zgp _,zgp _,zgp _⟩
 .refine hx.frame (by omega) λk hk=>?_;rcases hk with h|h|h|h
  .have h1:=aj k h;exact aa k h1.2 (by omega) (λh=>by have:=hC k h;omega)
  .have h1:=ai k h;exact aa k h1.2 (by omega) (λh=>by have:=hC k h;omega)
  .have h1:=hka.kl i hi;rw[h];exact aa _ (by omega) (by omega) (λh=>by have:=hC _ h;omega)
  exact aa k (by omega) (by omega) (λh=>by have:=hC k h;omega)
 .refine hy.frame (by omega) λk hk=>hO.block k ?_;rcases hk with h|h|h
  .have:=ag k h;omega
  .have:=af k h;omega
  have h1:=hkd.kl i hi;omega
 .intro k hk ae;rcases hk with h|h
  .have h1:=aj k h;rcases ae with h2|h2
   .have:=ag k h2;omega
   have:=af k h2;omega
  have h1:=ai k h;rcases ae with h2|h2
  .have:=ag k h2;omega
  have:=af k h2;omega
 .refine ⟨hq,λk hk=>⟨ad.key k hk,ab.key k hk⟩,⟨zgR rfl,zgS (zgR rfl),λk hk=>⟨zgS (zgS ⟨k,hk,zgR rfl⟩),zgS (zgS ⟨k,hk,zgS rfl⟩)⟩⟩,zgQ _ _ _ _,zgQ _ _ _ _,zgQ _ _ _ _,λi ev e=>(by cases e),λi ev e=>(by cases e),λk hk=>?_,aq,λk o hk=>?_,⟨rfl,rfl,rfl,zgp _⟩,λg e=>(by cases e),λg e=>(by cases e),λg e=>(by cases e)⟩
  .have ae:(ra<=k/\k<rc/\¬RA k)\/(rc<=k/\k<M6/\¬RC k):=by
    rcases hk with h|h|⟨j,hj,h|h⟩
    .rw [h];exact zgR hka.gl
    .rw [h];exact zgS hkd.gl
    .rw [h];exact zgR (hka.kl j hj)
    rw[h];exact zgS (hkd.kl j hj)
   refine⟨ao k (by omega) (λh1 h2=>?_) (λh1=>?_),by omega,λe=>(by cases e),λe=>(by cases e),λe=>(by cases e),by omega,by omega⟩
   .rcases ae with h|h
    .exact h.2.2
    omega
   rcases ae with h|h
   .omega
   exact h.2.2
  have ah:(if k<wb then w14.heap[k]? else none)=some o:=hk;by_cases h:k<wb
  .rw [zgT h] at ah;exact⟨zgS h,ah⟩
  rw[zgU h] at ah;cases ah
 .exact hlow.same λk hk=>aa k (by omega) (by omega) (λh=>by have:=hC k h;omega)
 rw[zca y _ i q hq];exact zgp _

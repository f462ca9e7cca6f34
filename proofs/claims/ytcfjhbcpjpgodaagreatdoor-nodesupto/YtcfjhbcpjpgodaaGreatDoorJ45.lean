import Derived.ProofKit
import Derived.OpenShut
import Derived.Test.YtcfjhbcpjpgodaaGreatDoorJ40
namespace Go.Proofs.YtcfjhbcpjpgodaaGreatDoor
open Go.RowKit Proofs.Tryz
set_option maxRecDepth 100000
set_option maxHeartbeats 0
set_option linter.all false
section
open Go.ChangeShapes Go.WideShapes Go.ChangeAt
variable{W:World}
theorem zbp{H:Type}(d:DataW H):1<=Rows.uptoBulk d:=by
 cases d with
 |lit l=>cases l<;>simp[Rows.uptoBulk]
 |nil=>simp[Rows.uptoBulk]
 |ptr d=>simp[Rows.uptoBulk]
 |slice elems spare=>simp[Rows.uptoBulk]
 |agg parts=>simp[Rows.uptoBulk]
 |iface t d=>simp[Rows.uptoBulk]
 |map entries=>simp[Rows.uptoBulk]
 |held h=>simp[Rows.uptoBulk]
theorem Kr{H:Type}:∀l:List (DataW H),l.length<=Rows.uptoBulkAll l
 | []=>zgv _
 |x::l=>by
  have h1:=zbp x;have h2:=Kr l;simp only[Rows.uptoBulkAll,List.length_cons];omega
theorem Kq{H:Type}{d:DataW H}:∀{l:List (DataW H)},d∈l->Rows.uptoBulk d<=Rows.uptoBulkAll l
 |x::l,h=>by
  simp only[Rows.uptoBulkAll];rcases List.mem_cons.1 h with rfl|h
  .omega
  .have:=Kq h
   omega
theorem Gm{base:Nat}{t e:TypeId}{a:Addr}{n cap:Nat}(hu:prog.underlying t=some (.slice e))(h:Value.okWide prog W .any base t (.slice (some a) n cap)):a.spot=none:=by
 simp only[Value.okWide,hu,Cell.okWide,Cell.ok] at h;exact h.2.2.2.1
theorem Tryz.zf2:prog.cellsOf 3=1:=by kernel_rfl
theorem Gj{H:Type}{enc:TypeId×Value->H}{base:Nat}{v:Value}{d:DataW H}{p:List MemPlace}(hv:Value.okWide prog W .any base 22 v)(h:DataW.Trod enc prog W 0 (λ_=>true) true 22 v d p):
 ∃(pa:Option Addr) (n cap:Nat) (g:Nat->Int),v=.slice pa n cap/\ga pa n cap/\kG W W.heap.size pa n (λi=>iA (g i))/\n<=Rows.uptoBulk d/\∀x∈p,x.block<W.heap.size:=by
 obtain⟨pa,n,cap,rfl⟩:=okWide_slice underlying22 hv;obtain⟨fuel,hf⟩:=h;have ae:DataW.trod enc prog W 0 (λ_=>true) true fuel 22 [.slice pa n cap]=some (d,p):=hf;rcases open_ints underlying22 underlying3 Tryz.zf2 ae with⟨aa,hx⟩|⟨a,len,cap',zs,aa,_,hl,hm,hz,hx,ab,_⟩
 .simp at aa hx;obtain⟨rfl,rfl,rfl⟩:=aa;obtain⟨rfl,rfl⟩:=hx;exact⟨none,0,0,λ_=>0,rfl,zgR ⟨rfl,rfl,rfl⟩,λi hi=>by omega,zgv _,λx hx=>by cases hx⟩
 simp at aa hx;obtain⟨rfl,rfl,rfl⟩:=aa;obtain⟨rfl,rfl⟩:=hx;simp only[if_true] at hz;obtain⟨b,o,sp⟩:=a;obtain rfl:sp=none:=Gm underlying22 hv;have ad:∀i,i<zs.length->W.cell? (aA b (o+i))=some (iA (zs.getD i 0)):=λi hi=>by rw[<-addr_add];exact ab i hi
 refine⟨_,n,cap,λi=>zs.getD i 0,rfl,zgS ⟨b,o,rfl⟩,λi hi=>⟨b,o,rfl,zgx _ _ (ad i (by omega)),ad i (by omega)⟩,?_,λx hx=>?_⟩
 .have h1:=Kr (H:=H) (lits .i64 (zs.take n));have h2:(lits (H:=H) .i64 (zs.take n)).length=n:=by simp[lits];omega
  simp only[Rows.uptoBulk];omega
 simp only[MemPlace.row,List.mem_map,List.mem_range] at hx;obtain⟨i,hi,rfl⟩:=hx;exact zgx _ _ (ad i hi)
end
section
section
variable{Q:Gst}{es:List Addr}{m:Int}{i wb xb yb ra rc:Nat}{ka kd:Nat->Nat}{gp gc hp hc S T N K:Nat}{w:World}
theorem zcJ(h:LawM Q es m i wb xb yb ra rc ka kd gp gc hp hc S T N K w)(hB:XC S T N K)(mk mh mr mf mv:Int)(mn:Bool)(ms:zgW)(osg:Int)(oraw:zgW)(on:Int)(ho:QK ⟨1,⟨mk,mh,mr,mf,mv,mn,ms⟩,osg,oraw,on⟩):
 Calls prog 17 #[pA wb 0,.agg #[iA 1,iA mk,iA mh,iA mr,iA mf,iA mv,bA mn,sA ms,iA osg,sA oraw,iA on]] w (x9 Q es m i wb xb yb ra rc ka kd gp gc hp hc S T N K):=by
 obtain⟨hBS,hBT,hBN,hBK⟩:=hB;obtain⟨w1,Q1,aB,aD,aG,aC⟩:=ke h ⟨1,⟨mk,mh,mr,mf,mv,mn,ms⟩,osg,oraw,on⟩;obtain⟨ar,ae,aj,ak⟩:=yi aB aD aG aC;unfold OpV.cells at ar aj;dsimp only at ar aj;have HO:=zc ho;clear h aB aD aG aC ho;go_enter func17,ntmps17
 go_upto_region 1 with fail
 rw[<-ar.o];have aa:=ae.o.guest aj;have o0:w1.cell? (nA w 0)=some (iA 1):=zgs w1 w.heap.size 0 _ _ _ aa;clear aa;have ah:Hid (w1.rangeAt w.heap.size 1 [iA mk,iA mh,iA mr,iA mf,iA mv,bA mn,sA ms]):=λj u hj=>by
  have aa:=ae.o.guest aj;rw[zgs w1 w.heap.size (1+j) _ _ _ aa];match j,hj with
  |0,hj|1,hj|2,hj|3,hj|4,hj|5,hj|6,hj=>exact hj
  |j+7,hj=>cases hj
 go_upto_region 4 with(first|(refine zgX rfl 57 _ rfl w.heap.size 1 rfl [iA mk,iA mh,iA mr,iA mf,iA mv,bA mn,sA ms] _ ah underlying57 rfl (by rw[Tryz.zdP];rfl) ?_)|(refine zf rfl 57 _ _ rfl w1 #[iA mk,iA mh,iA mr,iA mf,iA mv,bA mn,sA ms] rfl rfl 57 _ rfl (by simp[Value.oneCell']) Tryz.zdP ?_;intro w3 al aq aN)|fail)
 obtain⟨aw,ay⟩:=ze (ae.o.below aq) aq;have aJ:Hid (cL w3 w1.heap.size #[iA mk,iA mh,iA mr,iA mf,iA mv,bA mn,sA ms] 57):=al;obtain⟨hh,rr,y42,y43,aQ,-⟩:=aw.o.state;have y1:=aw.o.cells.2.1;have cm:w3.cell? (nA w1 1)=some (iA mh):=zgs w3 w1.heap.size 1 _ _ _ al;have fm:w3.frozen? (nA w1 1)=false:=zq al 1;obtain⟨ht,aE⟩:=gen (IntKind.wrap .i64 (mh+(hh:Int)));have ai:Hid ((w3.setCell (nA w1 1) (iA ht)).drew.heap[w1.heap.size]? =some (.cells #[iA mk,iA ht,iA mr,iA mf,iA mv,bA mn,sA ms] 57 (0,0))):=by
  unfold Hid;show(w3.setCell (nA w1 1) (iA ht)).heap[w1.heap.size]? =_;rw[setCell_row aJ.o 1 (iA ht)];rfl
 have an:BW w1 (w3.setCell (nA w1 1) (iA ht)).drew:=(ay.o.setCell (p:=(nA w1 1)) (zgp _) (iA ht)).drew;have y1b:(w3.setCell (nA w1 1) (iA ht)).drew.cell? (aA wb 1)=some (pA yb 0):=(ae.o.below an).cells.2.1;have av:=zc (ae.o.below an);have y42b:(w3.setCell (nA w1 1) (iA ht)).drew.cell? (aA yb 42)=some (iA hh):=by
  obtain⟨aP,rr2,y42c,-⟩:=ae.o.state;have e1:w3.cell? (aA yb 42)=some (iA aP):=Ext.cell y42c (Ext.of ay);rw[y42] at e1;rw[e1];exact Ext.cell y42c (Ext.of an)
 clear al aq aN ah y43 an ay;refine rgd (S:=λX=>X.cell? (aA wb 1)=some (pA yb 0)/\X.cell? (aA yb 42)=some (iA hh)) ⟨y1,y42⟩ λhH=>?_;refine zx [0,2,3,4,5,6,7,8,9] hH (λx h=>aI h.1 (h.2)) ?_;refine zp 1 λK hK=>?_;go_simp;refine hK.out _ _ ⟨y1,y42⟩ λhH=>?_;clear hK K
 try simp only[AP,AQ]
 refine takeN [(10,some 29,iA ht)] _ _ hH (by repeat(first|exact zgY|((first|(refine tkc rfl rfl (zgR ⟨by rfl,λx h=>?_⟩) ?_;focus(rw[aE];go_simp;done))|(refine tkc rfl rfl (zgR ⟨by rfl,λx h=>?_⟩) ?_;focus(go_simp;done)));simp only[AP]))) ?_;simp only[zh,AP];clear aE;refine zx [11] hH (λ_ h=>h) ?_;refine zp 12 λK hK=>?_;go_simp;refine hK.out _ _ ⟨y1b,y42b⟩ λhH=>?_;clear hK K hH;refine dnr ?_;clear y1 y42 y1b y42b cm fm aJ aw;obtain⟨w5,az⟩:∃z,z=(w3.setCell (nA w1 1) (iA ht)).drew:=⟨_,rfl⟩;rw[<-az] at ai av ⊢;clear az;have aM:=zc (λW=>yx mk ht mr mf mv mn ms W (by have h9:ms.size<=1048576:=HO.o.ms;unfold maxLen;omega) HO.o.mv.2 HO.o.mv.1);go_wp2_with (first|(refine zg4 rfl 57 _ rfl w1.heap.size rfl 57 #[iA mk,iA ht,iA mr,iA mf,iA mv,bA mn,sA ms] (0,0) _ ai underlying57 rfl Tryz.zdP ?_)|fail)
 refine(aM _).mono ?_;rintro e w9 ⟨rfl,ao⟩;have ad:=zc (av.o.below ao);have c3:w9.cell? (nA w1 3)=some (iA mf):=zgs w9 w1.heap.size 3 _ _ _ ((ao.block _ (Array.getElem?_eq_some_iff.1 ai).1).trans ai);clear ao aM ai av;obtain⟨enc,ab⟩:=gen (encS mk ht mr mf mv mn ms);rw[<-ab];cases aF:hasB mk ht mr mf mv mn ms.size with
 |false=>
  clear ab;go_wp2;go_ret;exact ak.o _ _ _ _ _ ad.o (by omega) (by omega) (by omega) (by omega)
 |true=>
  have aL:Hid (enc.size<=maxLen):=by unfold Hid;rw[ab];exact xW aF
  clear ab aF;have aa:=ad.o.guest aj;have o8:w9.cell? (nA w 8)=some (iA osg):=zgs w9 w.heap.size 8 _ _ _ aa;clear aa;have aK:=zc (λW=>vn osg 9 W HO.o.sg.1 HO.o.sg.2 (by omega) (by omega));go_wp2_with fail
  refine(aK _).mono ?_;rintro e w10 ⟨⟨pk,aO,rfl⟩,rfl⟩;clear aK aO;by_cases hpz:(0:Int)<(pk:Int);focus
   have aH:=zc (xx ad.o (by omega) mf enc);go_wp2_with fail
   refine aH.o.mono ?_;rintro e w11 ⟨rfl,ag⟩;have au:=zc (jN ag (by omega) (by omega) enc aL.o);clear ag aH ad
  rotate_left;focus
   have au:=zc (jN ad.o (by omega) (by omega) enc aL.o);clear ad
  rotate_left;all_goals
   go_wp2_with fail
   refine au.o.mono ?_;rintro e w12 ⟨rfl,af⟩;have ax:=zc af;clear af au;go_wp2;go_ret;exact ak.o _ _ _ _ _ ax.o (by omega) (by omega) (by omega) (by omega)
end
end
section
section
variable{Q:Gst}{es:List Addr}{m:Int}{i wb xb yb ra rc:Nat}{ka kd:Nat->Nat}{gp gc hp hc S T N K:Nat}{w:World}
theorem zcI(h:LawM Q es m i wb xb yb ra rc ka kd gp gc hp hc S T N K w)(hB:XC S T N K)(mk mh mr mf mv:Int)(mn:Bool)(ms:zgW)(osg:Int)(oraw:zgW)(on:Int)(ho:QK ⟨2,⟨mk,mh,mr,mf,mv,mn,ms⟩,osg,oraw,on⟩):
 Calls prog 17 #[pA wb 0,.agg #[iA 2,iA mk,iA mh,iA mr,iA mf,iA mv,bA mn,sA ms,iA osg,sA oraw,iA on]] w (x9 Q es m i wb xb yb ra rc ka kd gp gc hp hc S T N K):=by
 obtain⟨hBS,hBT,hBN,hBK⟩:=hB;obtain⟨w1,Q1,an,aq,ar,ao⟩:=ke h ⟨2,⟨mk,mh,mr,mf,mv,mn,ms⟩,osg,oraw,on⟩;obtain⟨aj,al,ah,ag⟩:=yi an aq ar ao;unfold OpV.cells at aj ah;dsimp only at aj ah;have HO:=zc ho;clear h an aq ar ao ho;go_enter func17,ntmps17
 go_upto_region 1 with fail
 rw[<-aj.o];have aa:=al.o.guest ah;have o0:cN w1 w 0 (iA 2):=zgs w1 w.heap.size 0 _ _ _ aa;clear aa;go_wp2;go_loopw [8] (λid wr=>∃q:Nat,q<=8/\id=iA q/\LawM Q1 es m i wb xb yb ra rc ka kd gp gc hp hc (S+q) T N K wr) (λid _=>8-(intOf id).toNat)
 case atStart=>exact⟨0,zgv _,rfl,al⟩
 obtain⟨q,hq,rfl,ai⟩:=hrel;clear al o0;have aa:=ai.guest ah;have o8:cN wr w 8 (iA osg):=zgs wr w.heap.size 8 _ _ _ aa;have o9:cN wr w 9 (sA oraw):=zgs wr w.heap.size 9 _ _ _ aa;clear aa;have aw:=zc ai;clear ai;have az:Hid (oraw.size<=maxLen):=by have h9:oraw.size<=1048576:=HO.o.raw;unfold Hid maxLen;omega
 have af:=zc (jN aw.o (by omega) (by omega) oraw az.o);by_cases ax:q=8
 .subst ax;go_wp2_with fail
  refine af.o.mono ?_;rintro e w12 ⟨rfl,ab⟩;have ad:=zc ab;clear ab af;go_wp2;go_ret;exact ag.o _ _ _ _ _ ad.o (by omega) (by omega) (by omega) (by omega)
 have hlt:(q:Int)<8:=by omega
 have av:=zc (λW=>vn osg 2 W HO.o.sg.1 HO.o.sg.2 (by omega) (by omega));go_wp2_with fail
 refine(av _).mono ?_;rintro e w10 ⟨⟨pk,ay,rfl⟩,rfl⟩;clear av ay;cases hpz:((pk:Int)==0) with
 |false=>
  go_wp2_with fail
  refine af.o.mono ?_;rintro e w12 ⟨rfl,ab⟩;have ad:=zc ab;clear ab af;go_wp2;go_ret;exact ag.o _ _ _ _ _ ad.o (by omega) (by omega) (by omega) (by omega)
 |true=>
  have au:=zc (xx aw.o (by omega) (q:Int) oraw);clear af;go_wp2_with fail
  refine au.o.mono ?_;rintro e w11 ⟨rfl,ae⟩;have ak:=zc ae;clear ae au;go_wp2;go_roundw
  case rel=>exact⟨q+1,by omega,by go_num,ak.o⟩
  simp[intOf];omega
theorem zcH(h:LawM Q es m i wb xb yb ra rc ka kd gp gc hp hc S T N K w)(hB:XC S T N K)(mk mh mr mf mv:Int)(mn:Bool)(ms:zgW)(osg:Int)(oraw:zgW)(on:Int)(ho:QK ⟨3,⟨mk,mh,mr,mf,mv,mn,ms⟩,osg,oraw,on⟩):
 Calls prog 17 #[pA wb 0,.agg #[iA 3,iA mk,iA mh,iA mr,iA mf,iA mv,bA mn,sA ms,iA osg,sA oraw,iA on]] w (x9 Q es m i wb xb yb ra rc ka kd gp gc hp hc S T N K):=by
 obtain⟨hBS,hBT,hBN,hBK⟩:=hB;obtain⟨w1,Q1,al,ao,aq,an⟩:=ke h ⟨3,⟨mk,mh,mr,mf,mv,mn,ms⟩,osg,oraw,on⟩;obtain⟨ae,ai,ab,af⟩:=yi al ao aq an;unfold OpV.cells at ae ab;dsimp only at ae ab;have HO:=zc ho;clear h al ao aq an ho;go_enter func17,ntmps17
 go_upto_region 1 with fail
 rw[<-ae.o];have aa:=ai.o.guest ab;have o0:cN w1 w 0 (iA 3):=zgs w1 w.heap.size 0 _ _ _ aa;clear aa;go_wp2;go_loopw [9] (λid wr=>∃q:Nat,q<=8/\id=iA q/\LawM Q1 es m i wb xb yb ra rc ka kd gp gc hp hc S (T+q) N K wr) (λid _=>8-(intOf id).toNat)
 case atStart=>exact⟨0,zgv _,rfl,ai⟩
 obtain⟨q,hq,rfl,ad⟩:=hrel;clear ai o0;have aa:=ad.guest ab;have o10:cN wr w 10 (iA on):=zgs wr w.heap.size 10 _ _ _ aa;clear aa;have ag:=zc ad;clear ad;have ay:=zc (λW=>vn on 8 W HO.o.n.1 HO.o.n.2 (by omega) (by omega));go_wp2_with fail
 refine(ay _).mono ?_;rintro e w10 ⟨⟨pk,hpk,rfl⟩,rfl⟩;clear ay;by_cases hqp:(q:Int)<=(pk:Int)
 .obtain ⟨s,sent,K0,KT0,⟨⟨cb,FX,RX,FY,RY,Z,sv,lv,tv,evs,tvs,h1⟩,h2,h3,h4⟩,h5,h6⟩:=ag.o
  have c0:cE w10 wb 0 (pA xb 0):=h1.g.cell 0 rfl;have aw:=zc (zat h1.x h2.1 (by omega) (by omega));obtain⟨H1,H2⟩:=ze h1 h2;have ax:Hid (∀w' FX' RX' FY' RY',LawP es m i wb xb yb ra rc cb ka kd gp gc hp hc FX' RX' FY' RY' Q1 Z (s.zdH i) (s.zdH i) sent sv lv tv K0 KT0 evs tvs w'->LawM Q1 es m i wb xb yb ra rc ka kd gp gc hp hc S (T+(q+1)) N K w'):=λw' FX' RX' FY' RY' h9=>⟨_,sent,K0,KT0,⟨⟨cb,FX',RX',FY',RY',Z,sv,lv,tv,evs,tvs,h9⟩,h2.tick,h3.tick h1.x.idn,h4⟩,h5.zgi (zaz s i),h6⟩;clear h1 h2 h3 h4 h5 h6 ag;go_wp2_with fail
  refine aw.o.mono ?_;rintro e w11 ⟨rfl,FX1,RX1,ak,au⟩;have hL:=H1.o.zfG ak au;have c1:cE w11 wb 1 (pA yb 0):=hL.g.cell 1 rfl;have av:=zc (Q7 hL.y H2.o (by omega) (by omega));have HL:=zc hL;clear ak au hL aw c0 H1;go_wp2_with fail
  refine av.o.mono ?_;rintro e w12 ⟨rfl,FY1,RY1,aj,ar⟩;have ah:=zc (ax _ _ _ _ _ (HL.o.zfv aj ar));clear aj ar av HL ax H2;go_wp2;go_roundw
  case rel=>exact⟨q+1,by omega,by go_num,ah.o⟩
  simp[intOf];omega
 go_wp2;go_ret;exact af.o _ _ _ _ _ ag.o (by omega) (by omega) (by omega) (by omega)
end
end
section
open Go.ChangeShapes Go.WideShapes Go.ChangeAt
variable{W:World}{fuel:Nat}{sp:Nat->Bool}{held:Bool}{cs:List Value}{p:List MemPlace}
theorem Tryz.zfB:prog.cellsOf 59=11:=by kernel_rfl
theorem Tryz.zfl:prog.cellsOf 57=7:=by kernel_rfl
theorem Tryz.zeC:prog.cellsOf 3=1:=by kernel_rfl
theorem Tryz.ze6:prog.cellsOf 4=1:=by kernel_rfl
theorem Tryz.zeB:prog.cellsOf 9=1:=by kernel_rfl
theorem Z9{H:Type}{enc:TypeId×Value->H}{base:Nat}{d:DataW H}(hl:cs.length=7)(h:DataW.trod enc prog W base sp held fuel 57 cs=some (d,p)):
 p=[]/\∃m:yX,cs=m.cells.toList/\(inL m.k/\inL m.h/\inL m.f/\inL m.v)/\m.s.size<=Rows.uptoBulk d:=by
 obtain⟨xs,n,_,hx,_,hlen,hf⟩:=DataW.trod_struct underlying57 h;match cs,hl,xs,hlen with
 | [c0,c1,c2,c3,c4,c5,c6],_,[y0,y1,y2,y3,y4,y5,y6],_=>
  have t0:=hf 0 _ rfl;have t1:=hf 1 _ rfl;have t2:=hf 2 _ rfl;have t3:=hf 3 _ rfl;have t4:=hf 4 _ rfl;have t5:=hf 5 _ rfl;have t6:=hf 6 _ rfl;simp[Tryz.zeC,Tryz.ze6,Tryz.zeB] at t0 t1 t2 t3 t4 t5 t6;obtain⟨K,e0,rfl,wK⟩:=DataW.trod_int underlying3 t0;obtain⟨H',e1,rfl,wH⟩:=DataW.trod_int underlying3 t1;obtain⟨R,e2,rfl,_⟩:=DataW.trod_int underlying3 t2;obtain⟨F,e3,rfl,wF⟩:=DataW.trod_int underlying3 t3;obtain⟨V,e4,rfl,wV⟩:=DataW.trod_int underlying3 t4;obtain⟨nl,e5,rfl⟩:=DataW.trod_bool underlying4 t5;obtain⟨s,e6,rfl,hs⟩:=DataW.trod_string underlying9 t6;simp only[List.cons.injEq,and_true] at e0 e1 e2 e3 e4 e5 e6;subst e0 e1 e2 e3 e4 e5 e6;have ab:=congrArg (·.1) hx;have aa:=congrArg (·.2) hx;simp only at ab aa;refine⟨by simpa using aa,⟨K,H',R,F,V,nl,s⟩,rfl,⟨⟨(bounds_i64 wK).1,(bounds_i64 wK).2⟩,⟨(bounds_i64 wH).1,(bounds_i64 wH).2⟩,⟨(bounds_i64 wF).1,(bounds_i64 wF).2⟩,⟨(bounds_i64 wV).1,(bounds_i64 wV).2⟩⟩,?_⟩;rw[ab];simp[Rows.uptoBulk,Rows.uptoBulkAll];first|omega|done
theorem Jh{H:Type}{enc:TypeId×Value->H}{base:Nat}{d:DataW H}(hl:cs.length=11)(hd:Rows.uptoBulk d<=1048576)(h:DataW.trod enc prog W base sp held fuel 59 cs=some (d,p)):
 p=[]/\∃a:OpV,cs=a.cells.toList/\QK a:=by
 obtain⟨xs,n,_,hx,_,hlen,hf⟩:=DataW.trod_struct underlying59 h;match cs,hl,xs,hlen with
 | [c0,c1,c2,c3,c4,c5,c6,c7,c8,c9,c10],_,[y0,y1,y2,y3,y4],_=>
  have t0:=hf 0 _ rfl;have t1:=hf 1 _ rfl;have t2:=hf 2 _ rfl;have t3:=hf 3 _ rfl;have t4:=hf 4 _ rfl;simp[Tryz.zeC,Tryz.zeB,Tryz.zfl] at t0 t1 t2 t3 t4;obtain⟨K,e0,rfl,w0⟩:=DataW.trod_int underlying3 t0;obtain⟨y1d,y1p⟩:=y1;obtain⟨ae,m,e1,aa,ag⟩:=Z9 rfl t1;obtain⟨S,e2,rfl,w2⟩:=DataW.trod_int underlying3 t2;obtain⟨s,e3,rfl,hs⟩:=DataW.trod_string underlying9 t3;obtain⟨N,e4,rfl,w4⟩:=DataW.trod_int underlying3 t4;obtain⟨mk,mh,mr,mf,mv,mn,ms⟩:=m;simp only[yX.cells,List.cons.injEq,and_true] at e0 e1 e2 e3 e4;obtain⟨rfl,rfl,rfl,rfl,rfl,rfl,rfl⟩:=e1;subst e0 e2 e3 e4;have ad:=congrArg (·.1) hx;have ab:=congrArg (·.2) hx;simp only at ad ab;rw[ad] at hd;simp[Rows.uptoBulk,Rows.uptoBulkAll] at hd;have af:ms.size<=Rows.uptoBulk y1d:=ag;refine⟨by rw[ab];simpa using ae,⟨K,⟨mk,mh,mr,mf,mv,mn,ms⟩,S,s,N⟩,rfl,⟨aa.1,aa.2.1,aa.2.2.1,aa.2.2.2,⟨(bounds_i64 w2).1,(bounds_i64 w2).2⟩,⟨(bounds_i64 w4).1,(bounds_i64 w4).2⟩,?_,?_⟩⟩
  .show ms.size<=_;omega
  show s.size<=_;omega
def op0:OpV:=⟨0,⟨0,0,0,0,0,false,zgV⟩,0,zgV,0⟩
theorem zaW{H:Type}{enc:TypeId×Value->H}{base:Nat}{v:Value}{d:DataW H}(hd:Rows.uptoBulk d<=1048576)(hv:Value.okWide prog W .any base 23 v)(h:DataW.Trod enc prog W 0 (λ_=>true) true 23 v d p):
 ∃(pa:Option Addr) (n cap:Nat) (a:Nat->OpV),v=.slice pa n cap/\Xy W W.heap.size pa n a/\(∀i,i<n->QK (a i))/\n<=Rows.uptoBulk d/\∀x∈p,x.block<W.heap.size:=by
 obtain⟨pa,n,cap,rfl⟩:=okWide_slice underlying23 hv;obtain⟨fuel,hf⟩:=h;have ah:DataW.trod enc prog W 0 (λ_=>true) true fuel 23 [.slice pa n cap]=some (d,p):=hf;rcases Deep.open_slice underlying23 ah with⟨ab,hx⟩|⟨a,len,cap',m,k,D,Pl,ab,_,hl,hm,af,hx,ae⟩
 .simp at ab hx;obtain⟨rfl,rfl,rfl⟩:=ab;obtain⟨rfl,rfl⟩:=hx;exact⟨none,0,0,λ_=>op0,rfl,λi hi=>by omega,λi hi=>by omega,zgv _,λx hx=>by cases hx⟩
 simp only[List.cons.injEq,Value.slice.injEq,and_true] at ab;obtain⟨rfl,rfl,rfl⟩:=ab;simp only[Prod.mk.injEq] at hx;obtain⟨rfl,rfl⟩:=hx;simp only[if_true] at af;obtain⟨b,o,sp⟩:=a;obtain rfl:sp=none:=Gm underlying23 hv;rw[Tryz.zfB] at ae ⊢;have ai:∀i,i<m->Rows.uptoBulk (D i)<=1048576:=λi hi=>by
  simp only[Rows.uptoBulk] at hd;by_cases ag:i<n
  .have:=Kq (H:=H) (d:=D i) (l:=(List.range n).map D) (List.mem_map.2 ⟨i,by simpa using ag,rfl⟩)
   omega
  have:=Kq (H:=H) (d:=D i) (l:=(List.range (m-n)).map λj=>D (n+j)) (List.mem_map.2 ⟨i-n,by simp;omega,by rw[show n+(i-n)=i by omega]⟩);omega
 have each:∀i,i<m->∃q:OpV,Pl i=[]/\W.rangeAt b (o+i*11) q.cells.toList/\QK q:=λi hi=>by
  obtain⟨cs',h1,h2⟩:=ae i hi;obtain⟨_,hlen,ad⟩:=World.cells?_some h1;obtain⟨hp,q,rfl,hq⟩:=Jh hlen (ai i hi) h2;refine⟨q,hp,λj u hj=>?_,hq⟩;have hj9:j<11:=by have:=(List.getElem?_eq_some_iff.1 hj).1;omega
  have e:=ad j (by omega);rw[addr_add,addr_add] at e;rw[e,<-hj]
 haveI:Inhabited OpV:=⟨op0⟩;obtain⟨ts,aa⟩:=Deep.choose_lt each;refine⟨some (aA b o),n,cap,ts,rfl,λi hi=>⟨b,o,rfl,?_,(aa i (by omega)).2.1⟩,λi hi=>(aa i (by omega)).2.2,?_,λx hx=>?_⟩
 .have h2:=(aa i (by omega)).2.1 0 _ rfl;exact zgx _ _ h2
 .have h1:=Kr (H:=H) ((List.range n).map D);simp only[Rows.uptoBulk];simp at h1;omega
 rcases List.mem_append.1 hx with hx|hx
 .simp only[MemPlace.row,List.mem_map,List.mem_range] at hx;obtain⟨i,hi,rfl⟩:=hx;have h2:=(aa (i / 11) (by omega)).2.1 0 _ rfl;exact zgx _ _ h2
 rw[List.mem_flatMap] at hx;obtain⟨i,hi,hx⟩:=hx;rw[(aa i (by simpa using hi)).1] at hx;cases hx

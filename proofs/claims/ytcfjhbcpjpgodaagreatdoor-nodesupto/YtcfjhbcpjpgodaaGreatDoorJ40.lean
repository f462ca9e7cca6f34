import Derived.Test.YtcfjhbcpjpgodaaGreatDoorJ39
import Derived.Test.YtcfjhbcpjpgodaaGreatDoorRefRecv
namespace Go.Proofs.YtcfjhbcpjpgodaaGreatDoor
open Go.RowKit
set_option maxRecDepth 100000
set_option maxHeartbeats 0
set_option linter.all false
section
open Proofs.Tryz
section
variable{es:List Addr}{m:Int}{i wb xb yb ra rc cb:Nat}{ka kd:Nat->Nat}{gp gc hp hc:Nat}{FX RX FY RY Z:Nat->Prop}{Q:Gst}{s:za}{sent:List zgW}{sv lv tv:Value}{K KT:Nat}{evs tvs:List Value}{w:World}
theorem Zy{S T:Nat}(h:LawP es m i wb xb yb ra rc cb ka kd gp gc hp hc FX RX FY RY Q Z s s sent sv lv tv K KT evs tvs w)(hy:YOk S T i s)(hT:T<=1000000000000)(hS:S<=900000000000)(f:zgW)(hfs:f.size<=maxLen):
 Calls prog 60 #[pA wb 0,sA f] w λe w'=>e=.returned (bA true)/\∃FX' RX' FY' RY',LawP es m i wb xb yb ra rc cb ka kd gp gc hp hc FX' RX' FY' RY' Q Z (s.zdc 9 i f) (s.zdc 9 i f) sent sv lv tv K KT evs tvs w':=by
 have c0:cE w wb 0 (pA xb 0):=h.g.cell 0 rfl;obtain⟨aB,H0,aL,HY⟩:=yi (Jg f h.x h.low.zfY hy.1 hT hS) h h hy;obtain⟨s',ak⟩:=gen (s.zdc 9 i f);have az:=zc ak;rw[<-ak];clear h hy ak;go_enter func60,ntmps60;go_wp2_with fail
 refine aB.o.mono ?_;rintro e w1 ⟨FX',RX',av,ax,hv⟩;have hL:=H0.o.zfG av ax;have c1:cE w1 wb 1 (pA yb 0):=hL.g.cell 1 rfl;obtain⟨aa,HL⟩:=ze (Z6 hL.y HY hT hS f hfs) hL;clear av ax hL aB c0 H0;obtain⟨o,ho⟩:=gen (s.zdQ 9 f);rw[<-ho] at hv aa;rw[<-az.o] at aa HL;clear ho az;cases o with
 |none=>
  have aE:e=.returned .nilIface:=hv;subst aE;clear hv;unfold zaO at aa;go_wp2_with fail
  refine aa.o.mono ?_;rintro e w2 ⟨rfl,FY',RY',af,ae⟩;have ah:=zc (HL.o.zfv af ae);clear af ae aa HL;go_wp2;go_ret;exact⟨rfl,FX',RX',FY',RY',ah⟩
 |some p=>
  obtain⟨f0,k⟩:=p;obtain⟨g,a,he,hk,hgw,aG,aF,al⟩:∃g a,e=.returned (QO g)/\es[k]? =some a/\w.heap.size<=g/\¬FX' g/\¬RX' g/\gP w1 g f0 a:=hv;subst he;have aJ:g<w1.heap.size:=zj al;have aw:∀k,FY k\/RY k->k≠g:=λk hk e=>by
   have h1:=(aL.o.yl hk).2;omega
  have aD:Hid (∀F' R' X,Goes FY RY w1 F' R' X->gP X g f0 a):=λF' R' X hG=>(hG.same.block g aJ (λh3=>aw g h3 rfl)).trans al;have HK:=zc hk;clear al aG aF aw hk;unfold zaO at aa;unfold QO;go_wp2_with fail
  refine aa.o.mono ?_;rintro e w2 ⟨rfl,FY',RY',af,ae⟩;have ab:=aD.o _ _ _ ae;have an:=HL.o.zfv af ae;have aH:g<w2.heap.size:=zj ab;obtain⟨ah,aC,ay⟩:=zC an ab an.low.typ;clear af ae ab an aa HL aD c1;go_wp2_with fail
  refine(zcs (aA g 0) (nA w2 0) (.pointer none) _ (ay.o.below (bwA w2)) (by simp) (by simp)).mono ?_;rintro e w3 ⟨rfl,aj⟩;have au:Hid (BW w2 w3):=by
   unfold Hid;rw[aj];exact((((((bwA w2).alloc (by simp) _).alloc (by simp;omega) _).alloc (by simp;omega) _).alloc (by simp;omega) _).setCell (by exact zgp _) _)
  have aq:Hid (w3.cell? (nA w2 0)=some (pA g 0)):=by
   unfold Hid;rw[aj];refine World.cell?_setCell_same _ _ _ (u:=.pointer none) ?_;rw[World.cell?_alloc_lt _ _ (nA w2 0) (by simp;omega),World.cell?_alloc_lt _ _ (nA w2 0) (by simp;omega),World.cell?_alloc_lt _ _ (nA w2 0) (by simp;omega),World.cell?_alloc_lt _ _ (nA w2 0) (by simp)];exact zgs _ _ 0 _ _ _ (zgr w2 _)
  have ad:Hid (gP w3 g f0 a):=(au.o.block g aH).trans aC;have ar:=zc (ah.o.below au);have ai:w2.heap.size<w3.heap.size:=zgx _ _ aq;have ao:=zc (Vq ar.o.low.sent k a HK g f0 ad);unfold QO at ao;clear aj aC ay ah au;go_wp2_with fail
  refine ao.o.mono ?_;rintro e w4 ⟨rfl,ag⟩;have q0:cN w4 w2 0 (pA g 0):=(ag.cell (p:=(nA w2 0)) (by exact ai)).trans aq;have q1:cE w4 g 0 (iA f0):=zgs w4 g 0 _ _ _ (blk ad ag);have aK:=zc (ar.o.below ag);clear ag ar ad aq ao;go_wp2;go_ret;exact⟨by simp,FX',RX',FY',RY',aK.o⟩
end
theorem YOk.up{S S' T T' i:Nat}{s:za}(h:YOk S T i s)(hS:S<=S')(hT:T<=T'):YOk S' T' i s:=by
 have h0:=h.1;exact⟨{ h0 with sg:=by have:=h0.sg;omega,time:=zgu h0.time hT },h.2⟩
def LawM(Q:Gst)(es:List Addr)(m:Int)(i wb xb yb ra rc:Nat)(ka kd:Nat->Nat)(gp gc hp hc S T N K:Nat)(w:World):Prop:=
 ∃s sent K0 KT0,LawE Q es m i wb xb yb ra rc ka kd gp gc hp hc S T s sent K0 KT0 w/\SgB S i s/\sent.length<=N/\K0<=K/\KT0<=K
def Ge(Q:Gst)(k:Nat)(o:Obj):Gst:=⟨λj=>if j=k then some o else Q.blk j,Q.env⟩
theorem JW(Q:Gst)(k:Nat)(o:Obj):(Ge Q k o).blk k=some o:=zgT rfl
theorem LawG.push{A Z:Nat->Prop}{Q:Gst}{wb xb yb ra rc:Nat}{ka kd:Nat->Nat}{gp gc hp hc:Nat}{sent:List zgW}{sv lv tv:Value}{K KT:Nat}{evs tvs:List Value}{w:World}{k:Nat}{o:Obj}(h:LawG A Q Z wb xb yb ra rc ka kd gp gc hp hc sent sv lv tv K KT evs tvs w)(ho:w.heap[k]? =some o)(hA:¬A k)(h1:wb<k)(h2:some k≠sv.ownBlock)(h3:some k≠lv.ownBlock)(h4:some k≠tv.ownBlock):
 LawG A (Ge Q k o) (λj=>Z j\/j=k) wb xb yb ra rc ka kd gp gc hp hc sent sv lv tv K KT evs tvs w:=by
 refine { h with keyZ:=⟨zgR h.keyZ.1,zgR h.keyZ.2.1,λj hj=>⟨zgR (h.keyZ.2.2 j hj).1,zgR (h.keyZ.2.2 j hj).2⟩⟩,ient:=λi ev e=>(h.ient i ev e).frame (λ_ _=>rfl) (λ_ h=>zgR h),tent:=λi ev e=>(h.tent i ev e).frame (λ_ _=>rfl) (λ_ h=>zgR h),zz:=λj hj=>hj.elim (h.zz j) (λe=>?_),guest:=λj u hj=>?_ }
 .subst e;exact⟨hA,Nat.ne_of_gt h1,h2,h3,h4,h1,(Array.getElem?_eq_some_iff.1 ho).1⟩
 have hj:(if j=k then some o else Q.blk j)=some u:=hj;by_cases e:j=k
 .rw [zgT e] at hj;cases hj;subst e;exact⟨zgR (zgS rfl),ho⟩
 rw[zgU e] at hj;exact⟨(h.guest j u hj).1.imp zgR id,(h.guest j u hj).2⟩
section
variable{Q Q':Gst}{es:List Addr}{m:Int}{i wb xb yb ra rc:Nat}{ka kd:Nat->Nat}{gp gc hp hc S T N K:Nat}{w w':World}
theorem LawM.up{S' T' N' K':Nat}(h:LawM Q es m i wb xb yb ra rc ka kd gp gc hp hc S T N K w)(hS:S<=S')(hT:T<=T')(hN:N<=N')(hK:K<=K'):LawM Q es m i wb xb yb ra rc ka kd gp gc hp hc S' T' N' K' w:=by
 obtain⟨s,sent,K0,KT0,⟨h1,h2,h3,h4⟩,h5,h6,h7,h8⟩:=h;exact⟨s,sent,K0,KT0,⟨h1,h2.up hS hT,h3,h4⟩,λq hq=>zgu (h5 q hq) hS,by omega,by omega,by omega⟩
theorem LawM.below(h:LawM Q es m i wb xb yb ra rc ka kd gp gc hp hc S T N K w)(hb:BW w w'):LawM Q es m i wb xb yb ra rc ka kd gp gc hp hc S T N K w':=by
 obtain⟨s,sent,K0,KT0,⟨⟨cb,FX,RX,FY,RY,Z,sv,lv,tv,evs,tvs,h1⟩,h2⟩,h5⟩:=h;exact⟨s,sent,K0,KT0,⟨⟨cb,FX,RX,FY,RY,Z,sv,lv,tv,evs,tvs,h1.below hb⟩,h2⟩,h5⟩
theorem LawM.env(h:LawM Q es m i wb xb yb ra rc ka kd gp gc hp hc S T N K w):w.os=Q.env.os/\w.tape=Q.env.tape/\w.output=Q.env.output/\Q.env.heap.size<=w.heap.size:=by
 obtain⟨s,sent,K0,KT0,⟨⟨cb,FX,RX,FY,RY,Z,sv,lv,tv,evs,tvs,h1⟩,h2⟩,h5⟩:=h;exact h1.g.env
theorem LawM.cells(h:LawM Q es m i wb xb yb ra rc ka kd gp gc hp hc S T N K w):w.cell? (aA wb 0)=some (pA xb 0)/\w.cell? (aA wb 1)=some (pA yb 0)/\wb<w.heap.size:=by
 obtain⟨s,sent,K0,KT0,⟨⟨cb,FX,RX,FY,RY,Z,sv,lv,tv,evs,tvs,h1⟩,h2⟩,h5⟩:=h;exact⟨h1.g.cell 0 rfl,h1.g.cell 1 rfl,h1.g.size⟩
theorem LawM.push{k:Nat}{o:Obj}(h:LawM Q es m i wb xb yb ra rc ka kd gp gc hp hc S T N K w)(hb:BW w w')(hk:w.heap.size<=k)(ho:w'.heap[k]? =some o):LawM (Ge Q k o) es m i wb xb yb ra rc ka kd gp gc hp hc S T N K w':=by
 obtain⟨s,sent,K0,KT0,⟨⟨cb,FX,RX,FY,RY,Z,sv,lv,tv,evs,tvs,h1⟩,h2⟩,h5⟩:=h;have h3:=h1.below hb;refine⟨s,sent,K0,KT0,⟨⟨cb,FX,RX,FY,RY,_,sv,lv,tv,evs,tvs,{ h3 with g:=h3.g.push ho (λha=>?_) (zgt h1.g.size hk) (λe=>?_) (λe=>?_) (λe=>?_) }⟩,h2⟩,h5⟩
 .have:=h1.all k ha
  omega
 .have:=(h1.g.sent.lt k e.symm).2
  omega
 .have:=(h1.g.ints.lt k e.symm).2
  omega
 have:=(h1.g.texts.lt k e.symm).2;omega
theorem LawM.drop(h:LawM Q es m i wb xb yb ra rc ka kd gp gc hp hc S T N K w)(hQ:∀k o,Q'.blk k=some o->Q.blk k=some o)(hE:Q'.env=Q.env):LawM Q' es m i wb xb yb ra rc ka kd gp gc hp hc S T N K w:=by
 obtain⟨s,sent,K0,KT0,⟨⟨cb,FX,RX,FY,RY,Z,sv,lv,tv,evs,tvs,h1⟩,h2⟩,h5⟩:=h;have g:=h1.g;exact⟨s,sent,K0,KT0,⟨⟨cb,FX,RX,FY,RY,Z,sv,lv,tv,evs,tvs,{ h1 with g:=⟨g.blk,g.key,g.keyZ,g.sent,g.ints,g.texts,g.ient,g.tent,g.zz,g.al,λk o hk=>g.guest k o (hQ k o hk),by rw[hE];exact g.env,g.asv,g.alv,g.atv⟩ }⟩,h2⟩,h5⟩
theorem LawM.guest{k:Nat}{o:Obj}(h:LawM Q es m i wb xb yb ra rc ka kd gp gc hp hc S T N K w)(hk:Q.blk k=some o):w.heap[k]? =some o:=by
 obtain⟨s,sent,K0,KT0,⟨⟨cb,FX,RX,FY,RY,Z,sv,lv,tv,evs,tvs,h1⟩,h2⟩,h5⟩:=h;exact(h1.g.guest k o hk).2
theorem LawM.pop{k:Nat}{o:Obj}(h:LawM (Ge Q k o) es m i wb xb yb ra rc ka kd gp gc hp hc S T N K w)(hQ:∀j u,Q.blk j=some u->j≠k):LawM Q es m i wb xb yb ra rc ka kd gp gc hp hc S T N K w:=
 h.drop (λj u hj=>by
  show(if j=k then some o else Q.blk j)=some u;rw[zgU (hQ j u hj)];exact hj) rfl
theorem LawM.apart(h:LawM Q es m i wb xb yb ra rc ka kd gp gc hp hc S T N K w){k:Nat}(hk:w.heap.size<=k):∀j u,Q.blk j=some u->j≠k:=λj u hj e=>by
 have:=(Array.getElem?_eq_some_iff.1 (h.guest hj)).1;omega
theorem LawM.state(h:LawM Q es m i wb xb yb ra rc ka kd gp gc hp hc S T N K w):∃hh rr:Nat,w.cell? (aA yb 42)=some (iA hh)/\w.cell? (aA yb 43)=some (iA rr)/\hh<=12/\rr<=20:=by
 obtain⟨s,sent,K0,KT0,⟨⟨cb,FX,RX,FY,RY,Z,sv,lv,tv,evs,tvs,h1⟩,h2,-⟩,-⟩:=h;obtain⟨V,hR,-⟩:=h1.y;exact⟨s.zc1,s.round,hR.cell 42 rfl,hR.cell 43 rfl,h2.1.hgt,h2.1.rnd⟩
theorem LawM.low{W:World}(h:LawM ⟨λk=>if k<wb then W.heap[k]? else none,W⟩ es m i wb xb yb ra rc ka kd gp gc hp hc S T N K w)(hW:wb<=W.heap.size):Below wb W w:=by
 obtain⟨h1,h2,h3,h4⟩:=h.env;refine⟨h1,h2,h3,h4,λk hk=>?_⟩;have hl:k<W.heap.size:=zgt hk hW;rw[Array.getElem?_eq_getElem hl];exact h.guest (by show(if k<wb then W.heap[k]? else none)=_;rw[zgT hk,Array.getElem?_eq_getElem hl])
theorem Yz(h:LawM Q es m i wb xb yb ra rc ka kd gp gc hp hc S T N K w)(hK:K<=100000000):Calls prog 18 #[pA wb 7] w λe w'=>e=.returned (bA true)/\BW w w':=by
 obtain⟨s,sent,K0,KT0,⟨⟨cb,FX,RX,FY,RY,Z,sv,lv,tv,evs,tvs,h1⟩,h2⟩,h5,h6,h7,h8⟩:=h;exact za5 h1.g (by omega) (by omega)
theorem jN(h:LawM Q es m i wb xb yb ra rc ka kd gp gc hp hc S T N K w)(hT:T<=1000000000000)(hS:S<=900000000000)(f:zgW)(hfs:f.size<=maxLen):
 Calls prog 60 #[pA wb 0,sA f] w λe w'=>e=.returned (bA true)/\LawM Q es m i wb xb yb ra rc ka kd gp gc hp hc S T N K w':=by
 obtain⟨s,sent,K0,KT0,⟨⟨cb,FX,RX,FY,RY,Z,sv,lv,tv,evs,tvs,h1⟩,h2,h3,h4⟩,h5,h6⟩:=h;refine(Zy h1 h2 hT hS f hfs).mono ?_;rintro e w' ⟨rfl,FX',RX',FY',RY',h7⟩;exact⟨rfl,_,sent,K0,KT0,⟨⟨cb,FX',RX',FY',RY',Z,sv,lv,tv,evs,tvs,h7⟩,h2.zef,h3.zef h1.x.idn,h4⟩,h5.zgi (Zm s 9 i f),h6⟩
theorem xx(h:LawM Q es m i wb xb yb ra rc ka kd gp gc hp hc S T N K w)(hS:S<=900000000000)(q:Int)(f:zgW):
 Calls prog 59 #[pA wb 0,iA q,sA f] w λe w'=>e=.returned (.tuple #[])/\LawM Q es m i wb xb yb ra rc ka kd gp gc hp hc (S+1) T N K w':=by
 by_cases hq:0<=q/\q<9
 .obtain ⟨k,rfl⟩:∃k:Nat,q=(k:Int):=⟨q.toNat,by omega⟩
  obtain⟨s,sent,K0,KT0,⟨⟨cb,FX,RX,FY,RY,Z,sv,lv,tv,evs,tvs,h1⟩,h2,h3,h4⟩,h5,h6⟩:=h;refine(VX h1 k (by omega) f (h5.le h2 hS k) (h5.le h2 hS k)).mono ?_;rintro e w' ⟨rfl,RX',RY',h7⟩;exact⟨rfl,_,sent,K0,KT0,⟨⟨cb,FX,RX',FY,RY',Z,sv,lv,tv,evs,tvs,h7⟩,h2.signed,h3.ring,h4⟩,h5.signed,h6⟩
 have h0:=h;obtain⟨s,sent,K0,KT0,⟨⟨cb,FX,RX,FY,RY,Z,sv,lv,tv,evs,tvs,h1⟩,h2,h3,h4⟩,h5,h6⟩:=h;refine(Jo h1 q (by omega) f).mono ?_;rintro e w' ⟨rfl,rfl⟩;exact⟨rfl,h0.up (Nat.le_succ S) (zgp _) (zgp _) (zgp _)⟩
end
structure OpV where
 k:Int
 m:yX
 sg:Int
 raw:zgW
 n:Int
def OpV.cells(a:OpV):Array Value:=#[iA a.k,iA a.m.k,iA a.m.h,iA a.m.r,iA a.m.f,iA a.m.v,bA a.m.nl,sA a.m.s,iA a.sg,sA a.raw,iA a.n]
def inL(c:Int):Prop:= -9223372036854775808<=c/\c<=9223372036854775807
structure QK (a:OpV):Prop where
 mk0:inL a.m.k
 mh:inL a.m.h
 mf:inL a.m.f
 mv:inL a.m.v
 sg:inL a.sg
 n:inL a.n
 ms:a.m.s.size<=1048576
 raw:a.raw.size<=1048576
def Xy(w:World)(L:Nat)(p:Option Addr)(n:Nat)(a:Nat->OpV):Prop:=∀i,i<n->∃b o,p=some (aA b o)/\b<L/\w.rangeAt b (o+i*11) (a i).cells.toList
theorem Xy.below{w w':World}{L n:Nat}{p:Option Addr}{a:Nat->OpV}(h:Xy w L p n a)(hb:Below L w w'):Xy w' L p n a:=λi hi=>by
 obtain⟨b,o,e,hl,hr⟩:=h i hi;exact⟨b,o,e,hl,λj u hj=>(hb.cell (p:=(aA b _)) (by exact hl)).trans (hr j u hj)⟩
theorem Tryz.zfc:(prog.info? 59).map (·.size)=some 11:=by kernel_rfl
theorem Tryz.zdP:(prog.info? 57).map (·.size)=some 7:=by kernel_rfl
theorem xW{K H R F V:Int}{nl:Bool}{s:zgW}(h:hasB K H R F V nl s.size=true):(encS K H R F V nl s).size<=maxLen:=by
 have hb:=zgF h;rw[encS,zgT h];unfold yt;rw[ByteArray.size_append,strOfNums_size];unfold maxLen;simp;omega
section
variable{Q:Gst}{es:List Addr}{m:Int}{i wb xb yb ra rc:Nat}{ka kd:Nat->Nat}{gp gc hp hc S T N K:Nat}{w:World}
theorem VY(h:LawM Q es m i wb xb yb ra rc ka kd gp gc hp hc S T N K w)(hT:T<=1000000000000)(hS:S+8<=900000000000)(o:OpV)(ho:QK o):
 Calls prog 65 #[pA wb 0,.agg o.cells] w λe w'=>e=.returned (bA true)/\LawM Q es m i wb xb yb ra rc ka kd gp gc hp hc (S+8) T N K w':=by
 obtain⟨ok,⟨mk,mh,mr,mf,mv,mn,ms⟩,osg,oraw,on⟩:=o;have aH:OpV.cells ⟨ok,⟨mk,mh,mr,mf,mv,mn,ms⟩,osg,oraw,on⟩=#[iA ok,iA mk,iA mh,iA mr,iA mf,iA mv,bA mn,sA ms,iA osg,sA oraw,iA on]:=rfl;rw[aH];obtain⟨w1,au⟩:=gen (w.alloc (.cells #[iA ok,iA mk,iA mh,iA mr,iA mf,iA mv,bA mn,sA ms,iA osg,sA oraw,iA on] 59));have aJ:BW w w1:=by rw[au];exact bwA w
 have aG:w1.heap[w.heap.size]? =some (.cells #[iA ok,iA mk,iA mh,iA mr,iA mf,iA mv,bA mn,sA ms,iA osg,sA oraw,iA on] 59 (0,0)):=by rw[au];exact zgr w _
 obtain⟨aN,aP⟩:=ze (h.push aJ (zgp _) aG) (h.apart (zgp w.heap.size));have aU:Hid (ms.size<=maxLen):=by have h9:ms.size<=1048576:=ho.ms;unfold Hid maxLen;omega
 have aL:=zc (λW=>vn mk 2 W ho.mk0.1 ho.mk0.2 (by omega) (by omega));have aS:=zc au;obtain⟨Q1,aw⟩:=gen (Ge Q w.heap.size (.cells #[iA ok,iA mk,iA mh,iA mr,iA mf,iA mv,bA mn,sA ms,iA osg,sA oraw,iA on] 59 (0,0)));have aT:Hid (Q1.blk w.heap.size=some (.cells #[iA ok,iA mk,iA mh,iA mr,iA mf,iA mv,bA mn,sA ms,iA osg,sA oraw,iA on] 59 (0,0))):=by unfold Hid;rw[aw];exact JW _ _ _
 rw[<-aw] at aN;have aB:Hid (∀S' w',LawM Q1 es m i wb xb yb ra rc ka kd gp gc hp hc S' T N K w'->LawM Q es m i wb xb yb ra rc ka kd gp gc hp hc S' T N K w'):=λS' w' h9=>by rw[aw] at h9;exact h9.pop aP
 clear h aJ aG au aH aw aP ho;go_enter func65,ntmps65;go_wp2_with fail
 rw[<-aS.o];go_wp2;go_loopw [5,6,7,8,9] (λid _ _ _ _ wr=>∃q:Nat,q<=8/\id=iA q/\LawM Q1 es m i wb xb yb ra rc ka kd gp gc hp hc (S+q) T N K wr) (λid _ _ _ _ _=>8-(intOf id).toNat)
 case atStart=>exact⟨0,zgv _,rfl,aN⟩
 obtain⟨q,hq,rfl,ag⟩:=hrel;by_cases aR:q=8
 .subst aR;have aF:=zc (aB _ _ ag);clear ag;go_wp2;go_ret;exact⟨rfl,aF⟩
 have hlt:(q:Int)<8:=by omega
 have hq9:q<8:=by omega
 obtain⟨hh,rr,y42,y43,-,-⟩:=ag.state;have y0:=ag.cells.2.1;have ab:=ag.guest aT;have o1:cN wr w 1 (iA mk):=zgs wr w.heap.size 1 _ _ _ ab;have o6:cN wr w 6 (bA mn):=zgs wr w.heap.size 6 _ _ _ ab;have o7:cN wr w 7 (sA ms):=zgs wr w.heap.size 7 _ _ _ ab;have o10:cN wr w 10 (iA on):=zgs wr w.heap.size 10 _ _ _ ab;have aC:=zc ag;clear ag ab;cases ay:(bits BinOp.and IntKind.i64 (on / 2^q) 1==0) with
 |true=>
  go_wp2;go_roundw
  case rel=>exact⟨q+1,by omega,by go_num,aC.o.up (by omega) (zgp _) (zgp _) (zgp _)⟩
  simp[intOf];omega
 |false=>
  go_upto_region 5 with fail
  clear ay o10
  go_cut [6] from 10 to 67 (λv6 wc=>∃kk,v6=pA wr.heap.size 0/\cL wc wr.heap.size #[iA kk,iA hh,iA rr,iA q,iA 0,bA mn,sA ms] 57/\BW wr wc)
  case first=>
   refine rgd (S:=λX=>BW wr X) ((zgq _ wr).drew) λhH=>?_;refine zx [0,1,2,5,6,7,8,9,10,11,12,13,14,15,16,17,18,19,20,21,22,23,24,25,26,27] hH (λx h=>aI (show cN x w 1 (iA mk) from Ext.cell o1 (Ext.of h)) (aI (show cE x wb 1 (pA yb 0) from Ext.cell y0 (Ext.of h)) (aI (show cE x yb 42 (iA hh) from Ext.cell y42 (Ext.of h)) (aI (show cE x yb 43 (iA rr) from Ext.cell y43 (Ext.of h)) (aI (show cN x w 6 (bA mn) from Ext.cell o6 (Ext.of h)) (show cN x w 7 (sA ms) from Ext.cell o7 (Ext.of h))))))) ?_;refine gn 3 29 (λK hK=>?_) λK hK=>?_;focus
    go_simp;refine(aL _).mono ?_;rintro en X2 ⟨⟨pk,ax,rfl⟩,rfl⟩;obtain⟨kk,ak⟩:=gen (IntKind.wrap .i64 (2+(pk:Int)));refine hK.out _ _ hH λhH=>?_;clear hK K
    try simp only[AP,AQ]
    refine takeN [(4,some 24,iA kk)] _ _ hH (by repeat(first|exact zgY|((first|(refine tkc rfl rfl (zgR ⟨by rfl,λx h=>?_⟩) ?_;focus(rw[ak];go_simp;done))|(refine tkc rfl rfl (zgR ⟨by rfl,λx h=>?_⟩) ?_;focus(go_simp;done)));simp only[AP]))) ?_;simp only[zh,AP];clear ak ax;refine zx [28] hH (λ_ h=>h) ?_;refine zp 29 λK hK=>?_;go_simp;refine hK.out _ _ (((zgq _ wr).drew).alloc (zgp _) _) λhH=>?_;clear hK K
    try simp only[AP,AQ]
   rotate_left;focus
    go_simp;refine hK.out _ _ (((zgq _ wr).drew).alloc (zgp _) _) λhH=>?_;clear hK K
    try simp only[AP,AQ]
    refine zp 3 λK hK=>?_;go_simp;refine(aL _).mono ?_;rintro en X2 ⟨⟨pk,ax,rfl⟩,rfl⟩;obtain⟨kk,ak⟩:=gen (IntKind.wrap .i64 (2+(pk:Int)));refine hK.out _ _ hH λhH=>?_;clear hK K
    try simp only[AP,AQ]
    refine takeN [(4,some 24,iA kk)] _ _ hH (by repeat(first|exact zgY|((first|(refine tkc rfl rfl (zgR ⟨by rfl,λx h=>?_⟩) ?_;focus(rw[ak];go_simp;done))|(refine tkc rfl rfl (zgR ⟨by rfl,λx h=>?_⟩) ?_;focus(go_simp;done)));simp only[AP]))) ?_;simp only[zh,AP];clear ak ax;refine zx [28] hH (λ_ h=>h) ?_
   rotate_left;all_goals
    refine zp 30 λK hK=>?_;rw[zgT (by rfl)];refine Ky 57 _ _ rfl wr.drew #[iA kk,iA hh,iA rr,iA q,iA 0,bA mn,sA ms] rfl rfl 57 _ rfl (by simp[Value.oneCell']) Tryz.zdP ?_;intro w7 av az hz7;have aj:BW wr w7:=((zgq wr.heap.size wr).drew).trans az;refine hK.out _ _ aj λhH=>?_;clear hK K hH;refine dnr ?_;go_wp2_with fail
    go_meet
    case rel=>exact⟨kk,rfl,av,aj⟩
  obtain⟨w7,aQ⟩:=gen wc;subst aQ;obtain⟨kk,rfl,av,aj⟩:=hcut;obtain⟨af,aO,aD⟩:=zC av aj (aC.o.below aj);clear av aj o1 o6 o7 y0 y42 y43;cases mn with
  |false=>
   have n5:cN w7 wr 5 (bA false):=zgs w7 wr.heap.size 5 _ _ _ af;have ar:=zc (λW=>yx kk (hh:Int) (rr:Int) (q:Int) 0 false ms W aU (by decide) (by decide));go_wp2_with (first|(refine zg4 rfl 57 _ rfl wr.heap.size rfl 57 #[iA kk,iA hh,iA rr,iA q,iA 0,bA false,sA ms] (0,0) _ af underlying57 rfl Tryz.zdP ?_)|fail)
   refine(ar _).mono ?_;rintro e w9 ⟨rfl,an⟩;have ah:=zc (aD.o.below an);clear an ar aD af;obtain⟨enc,aa⟩:=gen (encS kk (hh:Int) (rr:Int) (q:Int) 0 false ms);rw[<-aa];cases al:hasB kk (hh:Int) (rr:Int) (q:Int) 0 false (ms:zgW).size with
   |false=>
    clear aa;go_wp2;go_roundw
    case rel=>exact⟨q+1,by omega,by go_num,ah.o.up (by omega) (zgp _) (zgp _) (zgp _)⟩
    simp[intOf];omega
   |true=>
    have aE:Hid (enc.size<=maxLen):=by unfold Hid;rw[aa];exact xW al
    clear aa al;have ao:=zc (xx ah.o (by omega) (q:Int) enc);go_wp2_with fail
    refine ao.o.mono ?_;rintro e w10 ⟨rfl,ae⟩;have aq:=zc (jN ae hT (by omega) enc aE.o);clear ae ao ah;go_wp2_with fail
    refine aq.o.mono ?_;rintro e w11 ⟨rfl,ad⟩;have ai:=zc ad;clear ad aq;go_wp2;go_roundw
    case rel=>exact⟨q+1,by omega,by go_num,ai.o⟩
    simp[intOf];omega
  |true=>
   have n5:cN w7 wr 5 (bA true):=zgs w7 wr.heap.size 5 _ _ _ af;have n6:cN w7 wr 6 (sA ms):=zgs w7 wr.heap.size 6 _ _ _ af;have nf:w7.frozen? (nA wr 6)=false:=zq af 6;have aK:Hid ((w7.setCell (nA wr 6) (sA ⟨#[]⟩)).heap[wr.heap.size]? =some (.cells #[iA kk,iA hh,iA rr,iA q,iA 0,bA true,sA ⟨#[]⟩] 57 (0,0))):=by
    unfold Hid;rw[setCell_row af.o 6 (sA ⟨#[]⟩)];rfl
   have aM:=zc (aC.o.below (aO.o.setCell (p:=(nA wr 6)) (zgp _) (sA ⟨#[]⟩)));clear af aO aD;have ar:=zc (λW=>yx kk (hh:Int) (rr:Int) (q:Int) 0 true ⟨#[]⟩ W (by decide) (by decide) (by decide));go_wp2_with (first|(refine zg4 rfl 57 _ rfl wr.heap.size rfl 57 #[iA kk,iA hh,iA rr,iA q,iA 0,bA true,sA ⟨#[]⟩] (0,0) _ aK underlying57 rfl Tryz.zdP ?_)|fail)
   refine(ar _).mono ?_;rintro e w9 ⟨rfl,an⟩;have ah:=zc (aM.o.below an);clear an ar aM aK;obtain⟨enc,aa⟩:=gen (encS kk (hh:Int) (rr:Int) (q:Int) 0 true ⟨#[]⟩);rw[<-aa];cases al:hasB kk (hh:Int) (rr:Int) (q:Int) 0 true (⟨#[]⟩:zgW).size with
   |false=>
    clear aa;go_wp2;go_roundw
    case rel=>exact⟨q+1,by omega,by go_num,ah.o.up (by omega) (zgp _) (zgp _) (zgp _)⟩
    simp[intOf];omega
   |true=>
    have aE:Hid (enc.size<=maxLen):=by unfold Hid;rw[aa];exact xW al
    clear aa al;have ao:=zc (xx ah.o (by omega) (q:Int) enc);go_wp2_with fail
    refine ao.o.mono ?_;rintro e w10 ⟨rfl,ae⟩;have aq:=zc (jN ae hT (by omega) enc aE.o);clear ae ao ah;go_wp2_with fail
    refine aq.o.mono ?_;rintro e w11 ⟨rfl,ad⟩;have ai:=zc ad;clear ad aq;go_wp2;go_roundw
    case rel=>exact⟨q+1,by omega,by go_num,ai.o⟩
    simp[intOf];omega
end
end
section
def x9(Q:Gst)(es:List Addr)(m:Int)(i wb xb yb ra rc:Nat)(ka kd:Nat->Nat)(gp gc hp hc S T N K:Nat)(e:Ending)(w:World):Prop:=e=.returned (bA true)/\LawM Q es m i wb xb yb ra rc ka kd gp gc hp hc (S+8) (T+8) (N+100) (K+2) w
def XC(S T N K:Nat):Prop:=S+8<=900000000000/\T+8<=1000000000000/\N<=200000000/\K<=9999990
section
variable{Q:Gst}{es:List Addr}{m:Int}{i wb xb yb ra rc:Nat}{ka kd:Nat->Nat}{gp gc hp hc S T N K:Nat}{w:World}
theorem ke(h:LawM Q es m i wb xb yb ra rc ka kd gp gc hp hc S T N K w)(o:OpV):∃w1 Q1,w1=w.alloc (.cells o.cells 59)/\LawM Q1 es m i wb xb yb ra rc ka kd gp gc hp hc S T N K w1/\Q1.blk w.heap.size=some (.cells o.cells 59 (0,0))/\∀S' T' N' K' w',LawM Q1 es m i wb xb yb ra rc ka kd gp gc hp hc S' T' N' K' w'->S'<=S+8->T'<=T+8->N'<=N+100->K'<=K+2->x9 Q es m i wb xb yb ra rc ka kd gp gc hp hc S T N K (.returned (bA true)) w':=
 ⟨_,_,rfl,h.push (bwA w) (zgp _) (zgr w _),JW _ _ _,λ_ _ _ _ _ h9 a1 a2 a3 a4=>⟨rfl,(h9.pop (h.apart (zgp w.heap.size))).up a1 a2 a3 a4⟩⟩

import Derived.Test.YtcfjhbcpjpgodaaGreatDoorJ40
namespace Go.Proofs.YtcfjhbcpjpgodaaGreatDoor
open Go.RowKit Proofs.Tryz
set_option maxRecDepth 100000
set_option maxHeartbeats 0
set_option linter.all false
theorem zbQ{w:World}{base e n c:Nat}{p:Addr}{l:List zgW}{k:Nat}{f:zgW}(h:w.ownsRow base e 1 (.slice (some p) n c) l.length (l.map .string))(hk:l[k]? =some f):w.cell? (aA p.block (p.off+k))=some (sA f):=by
 obtain⟨q,c2,e1,-,hl⟩:=zL h;cases e1;obtain⟨b,o,e2,-,hc⟩:=hl k (List.getElem?_eq_some_iff.1 hk).1;cases e2;rw[hc];simp[List.getD_eq_getElem?_getD,hk]
section
variable{Q:Gst}{es:List Addr}{m:Int}{i wb xb yb ra rc:Nat}{ka kd:Nat->Nat}{gp gc hp hc S T N K:Nat}{w:World}
theorem zcB(h:LawM Q es m i wb xb yb ra rc ka kd gp gc hp hc S T N K w)(hB:XC S T N K)(mk mh mr mf mv:Int)(mn:Bool)(ms:zgW)(osg:Int)(oraw:zgW)(on:Int)(ho:QK ⟨9,⟨mk,mh,mr,mf,mv,mn,ms⟩,osg,oraw,on⟩):
 Calls prog 17 #[pA wb 0,.agg #[iA 9,iA mk,iA mh,iA mr,iA mf,iA mv,bA mn,sA ms,iA osg,sA oraw,iA on]] w (x9 Q es m i wb xb yb ra rc ka kd gp gc hp hc S T N K):=by
 obtain⟨hBS,hBT,hBN,hBK⟩:=hB;obtain⟨w1,Q1,aj,an,ao,al⟩:=ke h ⟨9,⟨mk,mh,mr,mf,mv,mn,ms⟩,osg,oraw,on⟩;obtain⟨ag,ai,af,ae⟩:=yi aj an ao al;unfold OpV.cells at ag af;dsimp only at ag af;have HO:=zc ho;clear h aj an ao al ho;go_enter func17,ntmps17
 go_upto_region 1 with fail
 rw[<-ag.o];have ab:=ai.o.guest af;have o0:cN w1 w 0 (iA 9):=zgs w1 w.heap.size 0 _ _ _ ab;have o10:cN w1 w 10 (iA on):=zgs w1 w.heap.size 10 _ _ _ ab;clear ab;obtain⟨s,sent,K0,KT0,⟨⟨cb,FX,RX,FY,RY,Z,sv,lv,tv,evs,tvs,h1⟩,h2,h3,h4⟩,h5,h6⟩:=ai.o;obtain⟨sp,sc,ar,hsm,au⟩:=zL h1.g.sent;subst ar;have c6:cE w1 wb 6 (.slice sp sent.length sc):=h1.g.cell 6 rfl;obtain⟨H1,H2,ah⟩:=zC h1 h2 h1.g.sent;have av:Hid (∀f w' FX' RX' FY' RY',LawP es m i wb xb yb ra rc cb ka kd gp gc hp hc FX' RX' FY' RY' Q1 Z (s.zdc 9 i f) (s.zdc 9 i f) sent (.slice sp sent.length sc) lv tv K0 KT0 evs tvs w'->LawM Q1 es m i wb xb yb ra rc ka kd gp gc hp hc S T N K w'):=λf w' FX' RX' FY' RY' h9=>⟨_,sent,K0,KT0,⟨⟨cb,FX',RX',FY',RY',Z,_,lv,tv,evs,tvs,h9⟩,h2.zef,h3.zef h1.x.idn,h4⟩,h5.zgi (Zm s 9 i f),h6⟩;clear h1 h2 h3 h5;by_cases hz:sent.length=0
 .have aq:((sent.length:Int)==0)=true:=by rw[hz];rfl
  clear hz;go_wp2;go_ret;exact ae.o _ _ _ _ _ ai.o (by omega) (by omega) (by omega) (by omega)
 have aq:((sent.length:Int)==0)=false:=beq_eq_false_iff_ne.2 (by omega);go_wp2_with fail
 refine rgd (S:=λX=>cE X wb 6 (.slice sp sent.length sc)/\cN X w 10 (iA on)/\X.ownsRow 0 9 1 (.slice sp sent.length sc) sent.length (sent.map .string)) ⟨c6,o10,zb ah λ_ _ _=>rfl⟩ λhH=>?_;refine zx [0,1,2,3,4,5,6,7,8,9,10,11] hH (λx h=>aI h.1 (h.2.1)) ?_;refine zp 12 λK hK=>?_;go_simp;refine(vn on sent.length _ HO.o.n.1 HO.o.n.2 (by omega) (by omega)).mono ?_;rintro en X2 ⟨⟨pk,ak,rfl⟩,rfl⟩;obtain⟨sb,so,e7,-,-⟩:=au pk ak;subst e7;obtain⟨f,hf⟩:∃f,sent[pk]? =some f:=⟨sent[pk],zgy ak⟩;have ay:=zc hf;have ax:Hid (f.size<=1000):=h4 f (List.mem_of_getElem? hf);have hpi:(pk:Int)<(sent.length:Int):=by omega
 clear hf;refine hK.out _ _ (hH) λhH=>?_;clear hK K
 try simp only[AP,AQ]
 refine zx [13,14] hH (λx h=>show cE x sb (so+pk) (sA f) from zbQ h.2.2 ay) ?_;refine zp 15 λK hK=>?_;go_simp;refine(Zy (H1.o.below ((zgq _ w1).drew)) H2.o (by omega) (by omega) f (by have:=ax.o;unfold maxLen;omega)).mono ?_;rintro en w2 ⟨rfl,FX2,RX2,FY2,RY2,ad⟩;have aa:w2.heap[w.heap.size]? =_:=(ad.g.guest _ _ af).2;refine hK.out _ _ (⟨ad.g.cell 6 rfl,zgs w2 w.heap.size 10 _ _ _ aa,ad.g.sent⟩) λhH=>?_;clear hK K
 try simp only[AP,AQ]
 refine zx [16] hH (λ_ h=>h) ?_;refine dnr ?_;have aw:=zc (av _ _ _ _ _ _ ad);clear hH ad aa;go_wp2;go_ret;exact ae.o _ _ _ _ _ aw.o (by omega) (by omega) (by omega) (by omega)
theorem zch(h:LawM Q es m i wb xb yb ra rc ka kd gp gc hp hc S T N K w)(hB:XC S T N K)(mk mh mr mf mv:Int)(mn:Bool)(ms:zgW)(osg:Int)(oraw:zgW)(on:Int)(ho:QK ⟨10,⟨mk,mh,mr,mf,mv,mn,ms⟩,osg,oraw,on⟩):
 Calls prog 17 #[pA wb 0,.agg #[iA 10,iA mk,iA mh,iA mr,iA mf,iA mv,bA mn,sA ms,iA osg,sA oraw,iA on]] w (x9 Q es m i wb xb yb ra rc ka kd gp gc hp hc S T N K):=by
 obtain⟨hBS,hBT,hBN,hBK⟩:=hB;obtain⟨w1,Q1,ah,ak,al,ai⟩:=ke h ⟨10,⟨mk,mh,mr,mf,mv,mn,ms⟩,osg,oraw,on⟩;obtain⟨af,ae,ad,ag⟩:=yi ah ak al ai;unfold OpV.cells at af ad;dsimp only at af ad;have HO:=zc ho;clear h ah ak al ai ho;go_enter func17,ntmps17
 go_upto_region 1 with fail
 rw[<-af.o];have aa:=ae.o.guest ad;have o0:cN w1 w 0 (iA 10):=zgs w1 w.heap.size 0 _ _ _ aa;clear aa;have an:=zc (ae.o.guest ad);have ab:=zc (VY ae.o (by omega) (by omega) ⟨10,⟨mk,mh,mr,mf,mv,mn,ms⟩,osg,oraw,on⟩ HO.o);unfold OpV.cells at ab;dsimp only at ab;clear ae;go_wp2_with (first|(refine zg4 rfl 59 _ rfl w.heap.size rfl 59 #[iA 10,iA mk,iA mh,iA mr,iA mf,iA mv,bA mn,sA ms,iA osg,sA oraw,iA on] (0,0) _ an underlying59 rfl Tryz.zfc ?_)|fail)
 refine ab.o.mono ?_;rintro e w2 ⟨rfl,aj⟩;have ao:=zc aj;clear aj ab;go_wp2;go_ret;exact ag.o _ _ _ _ _ ao.o (by omega) (by omega) (by omega) (by omega)
theorem zcA(h:LawM Q es m i wb xb yb ra rc ka kd gp gc hp hc S T N K w)(hB:XC S T N K)(ok:Int)(hk:(ok==1)=false/\(ok==2)=false/\(ok==3)=false/\(ok==4)=false/\(ok==5)=false/\(ok==6)=false/\(ok==7)=false/\(ok==8)=false/\(ok==9)=false/\(ok==10)=false)(mk mh mr mf mv:Int)(mn:Bool)(ms:zgW)(osg:Int)(oraw:zgW)(on:Int)(ho:QK ⟨ok,⟨mk,mh,mr,mf,mv,mn,ms⟩,osg,oraw,on⟩):
 Calls prog 17 #[pA wb 0,.agg #[iA ok,iA mk,iA mh,iA mr,iA mf,iA mv,bA mn,sA ms,iA osg,sA oraw,iA on]] w (x9 Q es m i wb xb yb ra rc ka kd gp gc hp hc S T N K):=by
 obtain⟨hBS,hBT,hBN,hBK⟩:=hB;obtain⟨w1,Q1,af,ah,ai,ag⟩:=ke h ⟨ok,⟨mk,mh,mr,mf,mv,mn,ms⟩,osg,oraw,on⟩;obtain⟨ab,aj,ad,ae⟩:=yi af ah ai ag;unfold OpV.cells at ab ad;dsimp only at ab ad;have HO:=zc ho;clear h af ah ai ag ho;go_enter func17,ntmps17
 go_upto_region 1 with fail
 rw[<-ab.o];have aa:=aj.o.guest ad;have o0:cN w1 w 0 (iA ok):=zgs w1 w.heap.size 0 _ _ _ aa;clear aa;obtain⟨e1,e2,e3,e4,e5,e6,e7,e8,e9,e10⟩:=hk;go_wp2;go_ret;exact ae.o _ _ _ _ _ aj.o (by omega) (by omega) (by omega) (by omega)

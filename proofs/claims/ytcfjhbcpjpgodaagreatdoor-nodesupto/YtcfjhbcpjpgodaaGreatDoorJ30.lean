import Derived.Test.YtcfjhbcpjpgodaaGreatDoorJ24
import Derived.Test.YtcfjhbcpjpgodaaGreatDoorJ29
namespace Go.Proofs.YtcfjhbcpjpgodaaGreatDoor
open Go.RowKit
set_option maxRecDepth 100000
set_option maxHeartbeats 0
set_option linter.all false
section
open Proofs.Tryz
theorem Tryz.zeU:(prog.info? 203).map (λi=>(i.zero,i.size,i.bytes))=some (some (.agg #[iA 0,iA 0,iA 0,iA 0]),4,32):=by kernel_rfl
theorem jY.more{V:xa}{s:za}(h:jY V s)(num ticks:Nat)(v:Value)(b:Bool):jY { V with tm:=v,ts:=V.ts++[⟨(num:Int),(s.zc1:Int),(s.round:Int),(s.time:Int)+ticks+s.round,(s.tb:Int)⟩] } { s with b1:=b,tims:=upT s.tims.length (s.tims++[⟨(num:Int),(s.zc1:Int),(s.round:Int),(s.time:Int)+ticks+s.round,(s.tb:Int)⟩]) s.tims.length,tb:=s.tb+1 }:=by
 have hp:(upT s.tims.length (s.tims++[⟨(num:Int),(s.zc1:Int),(s.round:Int),(s.time:Int)+ticks+s.round,(s.tb:Int)⟩]) s.tims.length).Perm (s.tims++[⟨(num:Int),(s.zc1:Int),(s.round:Int),(s.time:Int)+ticks+s.round,(s.tb:Int)⟩]):=gT _ _ _ (by simp);refine⟨(h.perm.append_right _).trans hp.symm,?_,λt ht=>?_,h.heap.more _,h.fl⟩
 .show (V.ts++_).Pairwise _
  rw[List.pairwise_append];refine⟨h.sort,List.pairwise_singleton _ _,λa ha b hb=>?_⟩;rw[List.mem_singleton.1 hb];exact h.tb a ha
 show t.beg<((s.tb+1:Nat):Int);rcases List.mem_append.1 ht with h1|h1
 .have:=h.tb t h1
  omega
 rw[List.mem_singleton.1 h1];show(s.tb:Int)<_;omega
theorem zaq(s:za)(num ticks:Nat)(h2:num=2->s.b2=true)(h3:num=3->s.b3=true):∃b,s.timer num ticks={ s with b1:=b,tims:=upT s.tims.length (s.tims++[⟨(num:Int),(s.zc1:Int),(s.round:Int),(s.time:Int)+ticks+s.round,(s.tb:Int)⟩]) s.tims.length,tb:=s.tb+1 }:=by
 refine⟨if num=1 then true else s.b1,?_⟩;unfold za.timer;have e2:(if num=2 then true else s.b2)=s.b2:=by
  split
  .rename_i e;rw[h2 e]
  rfl
 have e3:(if num=3 then true else s.b3)=s.b3:=by
  split
  .rename_i e;rw[h3 e]
  rfl
 rw[e2,e3]
theorem Vr(v v':Value)(l:List yf)(t:yf):ky.plus ⟨203,4,v,l.length,yB l⟩ v' (zbs t)=⟨203,4,v',(l++[t]).length,yB (l++[t])⟩:=by simp[ky.plus,yB]
section
variable{B:Nat}{F R:Nat->Prop}{nb kb rb n i:Nat}{s:za}{w:World}
theorem kJ(h:RefW B F R nb kb rb n i s w)(num ticks:Nat)(hts:s.tims.length<=100000)(ht:s.time<=1000000000000)(hk:ticks<=1000)(hr:s.round<=1000)(h2:num=2->s.b2=true)(h3:num=3->s.b3=true):
 Calls prog 164 #[pA nb 0,iA num,iA ticks] w (Zc B F R nb kb rb n i (s.timer num ticks) w (.tuple #[])):=by
 obtain⟨iW,av,aq,ai,ah⟩:=info_parts Tryz.zeU;obtain⟨V,hR,al,ak⟩:=h;have hln:V.ts.length<=100000:=by rw[ak.perm.length_eq];exact hts
 obtain⟨p,c,hv⟩:=zl (hR.own 7 _ rfl);have aj:V.tm=.slice p V.ts.length c:=hv;have c53:w.cell? (aA nb 53)=some (.slice p V.ts.length c):=by rw[<-aj];exact hR.cell 53 rfl
 obtain⟨HR,HV,az,aw,HE⟩:=kY hR aj al ak (zaq s num ticks h2 h3);clear hR al ak hv aj h2 h3 hts;go_enter func164,ntmps164;go_wp2_with fail
 refine rgd (S:=λX=>cE X nb 42 (iA s.zc1)/\cE X nb 43 (iA s.round)/\cE X nb 52 (iA s.time)) ⟨(HR.o.below (zgq _ w).drew).cell 42 rfl,(HR.o.below (zgq _ w).drew).cell 43 rfl,(HR.o.below (zgq _ w).drew).cell 52 rfl⟩ λhH=>?_;refine takeN [(0,some 6,pA nb 0),(1,some 7,pA nb 0),(2,some 8,pA nb 0),(3,some 9,pA nb 53),(5,some 11,iA num),(6,some 12,pA nb 0),(7,some 13,pA nb 0),(8,some 14,pA nb 42),(9,some 15,pA nb 42),(10,some 16,iA s.zc1),(11,some 17,pA nb 0),(12,some 18,pA nb 0),(13,some 19,pA nb 42),(14,some 20,pA nb 43),(15,some 21,iA s.round),(16,some 22,pA nb 0),(17,some 23,pA nb 0),(18,some 24,pA nb 52),(19,some 25,iA s.time),(20,some 26,iA ticks),(21,some 27,iA ((s.time:Int)+(ticks:Int))),(22,some 28,pA nb 0),(23,some 29,pA nb 0),(24,some 30,pA nb 42),(25,some 31,pA nb 43),(26,some 32,iA s.round),(27,some 33,iA ((s.time:Int)+(ticks:Int)+(s.round:Int))),(28,some 34,.agg #[iA num,iA s.zc1,iA s.round,iA ((s.time:Int)+(ticks:Int)+(s.round:Int))])] _ _ hH (by repeat(first|exact zgY|((first|(refine tkc rfl rfl (zgR ⟨by rfl,λx h=>?_⟩) ?_;focus(go_simp;exact IntWalk.i64_in _ (by omega);done))|(refine tkc rfl rfl (zgR ⟨by rfl,λx h=>?_⟩) ?_;focus(have f0:cE x nb 42 (iA s.zc1):=h.1;have f1:cE x nb 43 (iA s.round):=h.2.1;have f2:cE x nb 52 (iA s.time):=h.2.2;go_simp;done)));simp only[AP]))) ?_;simp only[zh,AP,pA];have cL:cE w.drew nb 53 (.slice p V.ts.length c):=c53;refine gn 4 29 (λK hK=>?_) λK hK=>?_;focus
  go_simp;refine hK.out _ _ ⟨(HR.o.below (zgq _ w).drew).cell 42 rfl,(HR.o.below (zgq _ w).drew).cell 43 rfl,(HR.o.below (zgq _ w).drew).cell 52 rfl⟩ λhH=>?_;clear hK K;refine zp 29 λK hK=>?_;go_simp;obtain⟨w2,ab⟩:∃z,z=(w.alloc (.cells #[iA num,iA s.zc1,iA s.round,iA ((s.time:Int)+(ticks:Int)+(s.round:Int))] 203)).drew:=⟨_,rfl⟩;have ae:BW w w2:=by rw[ab];exact(bwA w).drew
  have ag:w2.heap[w.heap.size]? =some (.cells #[iA num,iA s.zc1,iA s.round,iA ((s.time:Int)+(ticks:Int)+(s.round:Int))] 203 (0,0)):=by rw[ab];exact zgr w _
  have aa:=HR.o.below ae;rw[<-ab];refine hK.out _ _ ⟨aa.cell 42 rfl,aa.cell 43 rfl,aa.cell 52 rfl⟩ λhH=>?_;clear hK K ab cL
 rotate_left;focus
  go_simp;obtain⟨w2,ab⟩:∃z,z=(w.alloc (.cells #[iA num,iA s.zc1,iA s.round,iA ((s.time:Int)+(ticks:Int)+(s.round:Int))] 203)).drew:=⟨_,rfl⟩;have ae:BW w w2:=by rw[ab];exact(bwA w).drew
  have ag:w2.heap[w.heap.size]? =some (.cells #[iA num,iA s.zc1,iA s.round,iA ((s.time:Int)+(ticks:Int)+(s.round:Int))] 203 (0,0)):=by rw[ab];exact zgr w _
  have aa:=HR.o.below ae;rw[<-ab];refine hK.out _ _ ⟨aa.cell 42 rfl,aa.cell 43 rfl,aa.cell 52 rfl⟩ λhH=>?_;have cL2:w2.cell? (aA nb 53)=some (.slice p V.ts.length c):=by rw[<-HV.o];exact aa.cell 53 rfl
  clear hK K ab cL;refine zp 4 λK hK=>?_;go_simp;refine hK.out _ _ ⟨aa.cell 42 rfl,aa.cell 43 rfl,aa.cell 52 rfl⟩ λhH=>?_;clear hK K cL2
 rotate_left;all_goals
  refine zp 30 λK hK=>?_;rw[zgT (by rfl)];refine qN (C:=refA kb V s) (rs:=refRows V s) _ _ 65 rfl aa 7 (⟨203,4,V.tm,V.ts.length,yB V.ts⟩) rfl iW (.agg #[iA 0,iA 0,iA 0,iA 0]) 32 underlying65 av aq ai ah rfl (Nat.zero_lt_succ _) ?h1 (nA w 0) 1 [iA num,iA s.zc1,iA s.round,iA ((s.time:Int)+(ticks:Int)+(s.round:Int))] rfl rfl ?n1 ?n2 ?n3 (by decide) ?_
  case h1=>exact HV.o.symm
  case n1=>
   intro j u hj;rw[addr_add,zg0,zgs w2 w.heap.size j _ _ _ ag];simpa using hj
  case n2=>
   intro u hu;simp at hu;rcases hu with rfl|rfl|rfl|rfl<;>rfl
  case n3=>show V.ts.length<=_;omega
  intro v3 w3 F3 p3 c3 ar ad ao;subst ar;refine hK.out _ _ ⟨ad.cell 42 rfl,ad.cell 43 rfl,ad.cell 52 rfl⟩ λhH=>?_;clear hK K;simp only[AP,AQ];refine zx [31,32] hH (λ_ h=>h) ?_;have cS:w3.cell? (aA nb 53)=some (.slice p V.ts.length c):=by rw[<-HV.o];exact ad.cell 53 rfl
  have fS:=ad.frozen 53;refine zp 33 λK hK=>?_;go_simp;obtain⟨af,an⟩:=ad.set 53 (.slice p3 (V.ts.length+1) c3);refine hK.out _ _ ⟨af.cell 42 rfl,af.cell 43 rfl,af.cell 52 rfl⟩ λhH=>?_;clear hK K hH;refine dnr ?_;obtain⟨ax,ay⟩:=ze af ((Goes.below (R:=R) ae).trans (ao.trans an));clear af an ad ao aa ae ag cS fS
  try simp only[AP,AQ]
  go_wp2
  go_end0
  obtain⟨b1,he⟩:=HE.o;have au:=aw.o.more num ticks (.slice p3 (V.ts.length+1) c3) b1;have h:=ax.o;have e:=Vr V.tm (.slice p3 (V.ts.length+1) c3) V.ts ⟨(num:Int),(s.zc1:Int),(s.round:Int),(s.time:Int)+ticks+s.round,(s.tb:Int)⟩;unfold zbs at e;simp only at e;rw[e] at h;rw[he];exact⟨rfl,F3,R,⟨{ V with tm:=.slice p3 (V.ts.length+1) c3,ts:=V.ts++[⟨(num:Int),(s.zc1:Int),(s.round:Int),(s.time:Int)+ticks+s.round,(s.tb:Int)⟩] },h,az,au⟩,ay⟩
end
theorem Tryz.zer:(prog.info? 197).map (λi=>(i.zero,i.size,i.bytes))=some (some (.agg #[iA 0,iA 0,iA 0,iA 0,iA 0,bA false,sA zgV,sA zgV]),8,80):=by kernel_rfl
theorem qT{w:World}{g:Nat}{C:Array Value}{t:TypeId}(h:w.heap[g]? =some (.cells C t (0,0))):w.rangeAt g 0 C.toList:=λj v hv=>by rw[zgs w g (0+j) _ _ _ h,zg0,<-hv,zg8]
theorem xy(v v':Value)(l:List zt)(e:zt):ky.plus ⟨197,8,v,l.length,qz l⟩ v' (vD e)=⟨197,8,v',(l++[e]).length,qz (l++[e])⟩:=by simp[ky.plus,qz]
theorem Tryz.zej(k h r f v:Int)(nl:Bool)(t fr:zgW)(W:World):(Instr.build 197 #[(0,.agg #[iA k,iA h,iA r,iA f,iA v,bA nl,sA t]),(1,sA fr)]).run prog W=.ok (.agg #[iA k,iA h,iA r,iA f,iA v,bA nl,sA t,sA fr]) W:=by kernel_rfl
section
variable{B:Nat}{F R:Nat->Prop}{nb kb rb n i:Nat}{s:za}{w:World}
theorem jc(h:RefW B F R nb kb rb n i s w)(k v:Int)(nl:Bool)(t:zgW)(hb:¬gL s.x (i:Int)=0->hasB k (s.zc1:Int) (s.round:Int) (i:Int) v nl t.size=true)(ht:t.size<=1000)(hv0: -1000<=v)(hv1:v<=1000)(hlog:s.log.length<=1000000)(hout:s.out.length<=1000)(hsg:(s.sg i).length<=1000000000000):
 Calls prog 165 #[pA nb 0,.agg #[iA k,iA 0,iA 0,iA 0,iA v,bA nl,sA t]] w (Zc B F R nb kb rb n i (s.zc8 i k v nl t) w (.tuple #[])):=by
 obtain⟨iW,bI,bE,aS,aR⟩:=info_parts Tryz.zer;have H0:=zc h;obtain⟨V,hR,br,bj⟩:=h;have bH:nb≠w.heap.size:=by have:=hR.lt;omega
 have hnl:nb<w.heap.size:=hR.lt;obtain⟨w1,ax⟩:=gen (w.alloc (.cells #[iA k,iA 0,iA 0,iA 0,iA v,bA nl,sA t] 57));have a7:BW w w1:=by rw[ax];exact bwA w
 have aB:w1.heap[w.heap.size]? =some (.cells #[iA k,iA 0,iA 0,iA 0,iA v,bA nl,sA t] 57 (0,0)):=by rw[ax];exact zgr w _
 obtain⟨w2,ad⟩:=gen (w1.setCell (nA w 1) (iA s.zc1));have aa:BW w w2:=by rw[ad];exact a7.setCell (by exact zgp _) _
 have az:w2.heap[w.heap.size]? =some (.cells #[iA k,iA s.zc1,iA 0,iA 0,iA v,bA nl,sA t] 57 (0,0)):=by rw[ad];exact setCell_row aB 1 _
 obtain⟨w3,aw⟩:=gen (w2.setCell (nA w 2) (iA s.round));have aC:BW w w3:=by rw[aw];exact aa.setCell (by exact zgp _) _
 have ay:w3.heap[w.heap.size]? =some (.cells #[iA k,iA s.zc1,iA s.round,iA 0,iA v,bA nl,sA t] 57 (0,0)):=by rw[aw];exact setCell_row az 2 _
 obtain⟨w4,av⟩:=gen (w3.setCell (nA w 3) (iA i));have a6:BW w w4:=by rw[av];exact aC.setCell (by exact zgp _) _
 have aW:w4.heap[w.heap.size]? =some (.cells #[iA k,iA s.zc1,iA s.round,iA i,iA v,bA nl,sA t] 57 (0,0)):=by rw[av];exact setCell_row ay 3 _
 have c42:cE w1 nb 42 (iA s.zc1):=(hR.below a7).cell 42 rfl;have c43:cE w2 nb 43 (iA s.round):=(hR.below aa).cell 43 rfl;have c0:cE w3 nb 0 (pA kb 0):=(hR.below aC).cell 0 rfl;have d1:cN w1 w 1 (iA 0):=zgs w1 _ 1 _ _ _ aB;have d2:cN w2 w 2 (iA 0):=zgs w2 _ 2 _ _ _ az;have d3:cN w3 w 3 (iA 0):=zgs w3 _ 3 _ _ _ ay;have d4:cN w4 w 3 (iA i):=zgs w4 _ 3 _ _ _ aW;have f1:=zq aB 1;have f2:=zq az 2;have f3:=zq ay 3;have bC:=zc (qW kb rb i w3 (hR.below aC).key);have bd:=zc (gi (H0.o.below a6) (i:Int) (by omega));obtain⟨HR,bz,aP,bU,ar,HB,HH,HO⟩:=vF hR aW a6 br bj hb hlog hout;obtain⟨bL,HW,ba⟩:=zC hsg (And.intro ax (And.intro ad (And.intro aw av))) (And.intro ht (And.intro hv0 hv1));clear hR aW a6 br bj hb hlog hout hsg ax ad aw av a7 aa aC aB az ay ht hv0 hv1;obtain⟨s2,af⟩:=gen (s.zc8 i k v nl t);rw[<-af];obtain⟨pw,aX⟩:=gen (gL s.x (i:Int));rw[<-aX] at bd HB;unfold za.zc8 at af;rw[<-aX] at af;clear aX;by_cases q0:pw=0
 .rw [zgT q0] at af;have bb:=zc af;subst q0;clear af;go_enter func165,ntmps165
  go_upto_region 1 with fail
  rw[<-HW.o.1]
  go_upto_region 2 with fail
  rw[<-HW.o.2.1]
  go_upto_region 3 with fail
  rw[<-HW.o.2.2.1];go_wp2_with fail
  refine bC.o.mono ?_;rintro e wk ⟨rfl,ae⟩;have ab:=ae.symm;clear ae;subst ab
  go_upto_region 4 with fail
  rw[<-HW.o.2.2.2];go_wp2_with fail
  refine bd.o.mono ?_;rintro e wk ⟨rfl,ae⟩;have ab:=ae.symm;clear ae;subst ab;go_wp2
  go_end0
  rw[bb.o];exact⟨rfl,F,R,H0.o.below aP,Goes.below aP⟩
 have aZ:=HB.o q0;rw[zgU q0,zgT aZ] at af;obtain⟨bb,bP⟩:=ze af aZ;have q0b:(pw==0)=false:=by simpa using q0
 clear af aZ;go_enter func165,ntmps165
 go_upto_region 1 with fail
 rw[<-HW.o.1]
 go_upto_region 2 with fail
 rw[<-HW.o.2.1]
 go_upto_region 3 with fail
 rw[<-HW.o.2.2.1];go_wp2_with fail
 refine bC.o.mono ?_;rintro e wk ⟨rfl,ae⟩;have ab:=ae.symm;clear ae;subst ab
 go_upto_region 4 with fail
 rw[<-HW.o.2.2.2];go_wp2_with fail
 refine bd.o.mono ?_;rintro e wk ⟨rfl,ae⟩;have ab:=ae.symm;clear ae;subst ab;have bD:=zc (yx k (s.zc1:Int) (s.round:Int) (i:Int) v nl t w4 (by have:=ba.o.1;unfold maxLen;omega) (by have:=ba.o.2.2;omega) (by have:=ba.o.2.1;omega));obtain⟨f,hf⟩:=gen (encS k (s.zc1:Int) (s.round:Int) (i:Int) v nl t);rw[<-hf,bP.o] at bD;have HF:=zc hf;clear hf;go_wp2_with (first|(refine zg4 rfl 57 _ rfl w.heap.size rfl 57 #[iA k,iA s.zc1,iA s.round,iA i,iA v,bA nl,sA t] (0,0) _ bz underlying57 rfl Tryz.zda ?_)|fail)
 refine bD.o.mono ?_;rintro e w5 ⟨rfl,a1⟩;have aj:=aP.o.trans (a1.mono aP.o.size);have bo:=blk bz a1;have ak:=HR.o.below aj;have c05:cE w5 nb 0 (pA kb 0):=ak.cell 0 rfl;have bK:=zc (gU R rb n kb i s.sg f w5 ak.ring ak.idn ak.key (by have:=bL.o;omega) (λk hk=>(ak.rl k hk).2));obtain⟨bM,bc,bf⟩:=zC ak bo aj;clear a1 aj bo ak;go_wp2_with fail
 refine bK.o.mono ?_;rintro e w6 ⟨rfl,aU⟩;have bn:w6.heap[w.heap.size]? =some (.cells #[iA k,iA s.zc1,iA s.round,iA i,iA v,bA nl,sA t] 57 (0,0)):=by
  obtain⟨R',-,-,-,hs⟩:=aU;exact(hs.block w.heap.size (zj bc.o) (λhR=>by have:=(HR.o.rl _ hR).2;omega)).trans bc.o
 obtain⟨R6,bs,a8⟩:=bM.o.sign aU;have hsz:w.heap.size<w5.heap.size:=zj bc;have bq:¬(F w.heap.size\/R6 w.heap.size):=λhx=>by
  rcases hx with hx|hx
  .have:=(HR.o.fl _ hx).2;omega
  rcases a8.rr _ hx with hy|hy
  .have:=(HR.o.rl _ hy).2;omega
  omega
 have h6:RefW B F R6 nb kb rb n i { s with sg:=kg s.sg i f } w6:=⟨V,bs,bU,⟨ar.o.perm,ar.o.sort,ar.o.tb,ar.o.heap,ar.o.fl⟩⟩;obtain⟨bO,bS,aM,aO⟩:=yi (vk h6 f HO) ((Goes.below (F:=F) (R:=R) bf).trans a8) bn bq;clear aU bs a8 h6 bn bq;go_wp2_with fail
 refine bO.o.mono ?_;rintro e w7 ⟨rfl,F7,R7,h7,aq⟩;have bm:=(aq.same.block _ (zj aM) aO).trans aM;have bp:¬(F7 w.heap.size\/R7 w.heap.size):=λhx=>by
  have hz:=zj aM;rcases hx with hx|hx
  .rcases aq.ff _ hx with hy|hy
   .exact aO (zgR hy)
   omega
  rcases aq.rr _ hx with hy|hy
  .exact aO (zgS hy)
  omega
 obtain⟨V7,aE,an,al⟩:=h7;obtain⟨p5,c5,bh⟩:=zl (aE.own 5 _ rfl);have ai:V7.mn=.slice p5 (kn s).length c5:=bh;have m40:w7.cell? (aA nb 40)=some (.slice p5 (kn s).length c5):=by rw[<-ai];exact aE.cell 40 rfl
 have hml:(kn s).length<=1000000:=by unfold kn;rw[List.length_map];exact zgu (List.length_filter_le _ _) HH
 obtain⟨bw,bx,bR,aL,aN,bV,au⟩:=Qq ai aE (bS.o.trans aq) bm bp an al;clear aE aq bm bp an al bh ai aM aO;go_wp2_with (first|(at_builtin;refine yk (C:=refA kb V7 { s with sg:=kg s.sg i f,out:=Zr s.out f }) (rs:=refRows V7 { s with sg:=kg s.sg i f,out:=Zr s.out f }) rfl _ _ rfl bx 5 V7.mn (kn s) rfl ?h1 f ?h2 ?h3 ?h4)|fail)
 case h1=>exact bw.o.symm
 case h2=>rfl
 case h3=>omega
 intro v8 w8 F8 p8 c8 bF aD aJ;have aV:=(aJ.same.block _ (zj aL) aN).trans aL;have aY:¬(F8 w.heap.size\/R7 w.heap.size):=λhx=>by
  have hz:=zj aL;rcases hx with hx|hx
  .rcases aJ.ff _ hx with hy|hy
   .exact aN (zgR hy)
   omega
  exact aN (zgS hx)
 have d8:w8.cell? (aA nb 40)=some (.slice p5 (kn s).length c5):=by rw[<-bw.o];exact aD.cell 40 rfl
 have d8f:=aD.frozen 40;subst bF;obtain⟨w9,aT⟩:=gen (w8.setCell (aA nb 40) (.slice p8 ((kn s).length+1) c8));obtain⟨ao,aH⟩:=aD.set 40 (.slice p8 ((kn s).length+1) c8);rw[<-aT] at ao aH;have bl:cL w9 w.heap.size #[iA k,iA s.zc1,iA s.round,iA i,iA v,bA nl,sA t] 57:=(aH.same.block _ (zj aV) aY).trans aV;obtain⟨V9,hV9⟩:=gen ({ V7 with mn:=Value.slice p8 ((kn s).length+1) c8 });obtain⟨p,c,bg⟩:=zl (ao.own 4 _ rfl);have ah:V7.lg=.slice p s.log.length c:=bg;have c39:w9.cell? (aA nb 39)=some (.slice p s.log.length c):=by rw[<-ah];exact ao.cell 39 rfl
 obtain⟨HR,HV,bJ,bQ,ag,bB⟩:=xz ao ah aT (bR.o.trans (aJ.trans aH)) bl aY;have HHL:=HH.o;clear aD aJ ao aH aT aV bl aY bg ah aL aN bx
 go_upto_region 9 with fail
 rw[<-bJ.o];refine rgd (S:=λX=>cL X w.heap.size #[iA k,iA s.zc1,iA s.round,iA i,iA v,bA nl,sA t] 57) ag λhH=>?_;refine takeN [(0,some 53,pA nb 0),(1,some 54,pA nb 0),(2,some 55,pA nb 0),(3,some 56,pA nb 39),(5,some 58,.agg ([iA k,iA s.zc1,iA s.round,iA i,iA v,bA nl,sA t]).toArray),(6,some 59,sA f),(7,some 60,.agg #[iA k,iA s.zc1,iA s.round,iA i,iA v,bA nl,sA t,sA f])] _ _ hH (by repeat(first|exact zgY|((first|refine tkc rfl rfl (zg3 (by rfl) 57 _ rfl w.heap.size 0 rfl ([iA k,iA s.zc1,iA s.round,iA i,iA v,bA nl,sA t]) _ (λw h=>qT h) underlying57 rfl Tryz.zda) ?_|(refine tkc rfl rfl (zgR ⟨by rfl,λx h=>?_⟩) ?_;focus(have f0:=Tryz.zej k (s.zc1:Int) (s.round:Int) (i:Int) v nl t f x;go_simp;done)));simp only[AP]))) ?_;simp only[zh,AP,pA];have cL:cE w9.drew nb 39 (.slice p s.log.length c):=c39;refine gn 4 8 (λK hK=>?_) λK hK=>?_;focus
  go_simp;refine hK.out _ _ ag λhH=>?_;clear hK K;refine zp 8 λK hK=>?_;go_simp;obtain⟨w2,ad⟩:∃z,z=(w9.alloc (.cells #[iA k,iA s.zc1,iA s.round,iA i,iA v,bA nl,sA t,sA f] 197)).drew:=⟨_,rfl⟩;have aa:BW w9 w2:=by rw[ad];exact(bwA w9).drew
  have aQ:w2.heap[w9.heap.size]? =some (.cells #[iA k,iA s.zc1,iA s.round,iA i,iA v,bA nl,sA t,sA f] 197 (0,0)):=by rw[ad];exact zgr w9 _
  have aG:=HR.o.below aa;rw[<-ad];refine hK.out _ _ (blk ag aa) λhH=>?_;clear hK K ad cL
 rotate_left;focus
  go_simp;obtain⟨w2,ad⟩:∃z,z=(w9.alloc (.cells #[iA k,iA s.zc1,iA s.round,iA i,iA v,bA nl,sA t,sA f] 197)).drew:=⟨_,rfl⟩;have aa:BW w9 w2:=by rw[ad];exact(bwA w9).drew
  have aQ:w2.heap[w9.heap.size]? =some (.cells #[iA k,iA s.zc1,iA s.round,iA i,iA v,bA nl,sA t,sA f] 197 (0,0)):=by rw[ad];exact zgr w9 _
  have aG:=HR.o.below aa;rw[<-ad];refine hK.out _ _ (blk ag aa) λhH=>?_;have cL2:w2.cell? (aA nb 39)=some (.slice p s.log.length c):=by rw[<-HV.o];exact aG.cell 39 rfl
  clear hK K ad cL;refine zp 4 λK hK=>?_;go_simp;refine hK.out _ _ (blk ag aa) λhH=>?_;clear hK K cL2
 rotate_left;all_goals
  refine zp 9 λK hK=>?_;rw[zgT (by rfl)];refine qN (C:=(refA kb V7 { s with sg:=kg s.sg i f,out:=Zr s.out f }).setIfInBounds 40 (.slice p8 ((kn s).length+1) c8)) (rs:=(refRows V7 { s with sg:=kg s.sg i f,out:=Zr s.out f }).set 5 (strR (.slice p8 ((kn s).length+1) c8) (kn s++[f]))) _ _ 64 rfl aG 4 (⟨197,8,V7.lg,s.log.length,qz s.log⟩) rfl iW (.agg #[iA 0,iA 0,iA 0,iA 0,iA 0,bA false,sA zgV,sA zgV]) 80 underlying64 bI bE aS aR rfl (Nat.zero_lt_succ _) ?h1 (nA w9 0) 1 [iA k,iA s.zc1,iA s.round,iA i,iA v,bA nl,sA t,sA f] rfl rfl ?n1 ?n2 ?n3 (by decide) ?_
  case h1=>exact HV.o.symm
  case n1=>
   intro j u hj;rw[addr_add,zg0,zgs w2 w9.heap.size j _ _ _ aQ];simpa using hj
  case n2=>
   intro u hu;simp at hu;rcases hu with rfl|rfl|rfl|rfl|rfl|rfl|rfl|rfl<;>rfl
  case n3=>show s.log.length<=_;omega
  intro v3 w3 F3 p3 c3 bG aF aK;subst bG;refine hK.out _ _ ((aK.same.block _ (zj (blk ag aa)) bB).trans (blk ag aa)) λhH=>?_;clear hK K;simp only[AP,AQ];refine zx [10,11] hH (λ_ h=>h) ?_;have cS:w3.cell? (aA nb 39)=some (.slice p s.log.length c):=by rw[<-HV.o];exact aF.cell 39 rfl
  have fS:=aF.frozen 39;refine zp 12 λK hK=>?_;go_simp;obtain⟨bt,bu⟩:=aF.set 39 (.slice p3 (s.log.length+1) c3);refine hK.out _ _ (((zd _ _ _ _).block _ (λe=>bH e.symm)).trans ((aK.same.block _ (zj (blk ag aa)) bB).trans (blk ag aa))) λhH=>?_;clear hK K hH;refine dnr ?_;obtain⟨bN,bT⟩:=ze bt ((Goes.below (R:=R7) aa).trans (aK.trans bu));clear bt bu aF aK aG aa aQ cS fS
  try simp only[AP,AQ]
  go_end0
  have h:=bN.o;have e:=xy V7.lg (.slice p3 (s.log.length+1) c3) s.log ⟨s.msg i k v nl t,f,true⟩;unfold vD za.msg at e;simp only at e;rw[e] at h;rw[bb.o];refine⟨rfl,F3,R7,⟨{ V7 with mn:=.slice p8 ((kn s).length+1) c8,lg:=.slice p3 (s.log.length+1) c3 },?_,bV,⟨au.o.perm,au.o.sort,au.o.tb,au.o.heap,au.o.fl⟩⟩,bQ.o.trans bT⟩;have em:kn { s with sg:=kg s.sg i (s.enc i k v nl t),out:=Zr s.out (s.enc i k v nl t),log:=s.log++[⟨s.msg i k v nl t,s.enc i k v nl t,true⟩] }=kn s++[f]:=by simp[kn,HF.o,za.enc]
  unfold refRows;rw[em];rw[HF.o] at h ⊢;exact h
end
section
variable{B:Nat}{F R:Nat->Prop}{nb kb rb n i:Nat}{V:xa}{s:za}{sg:Nat->List zgW}{w:World}
theorem RawW.wait(h:RawW B F R nb kb rb n i (refA kb V s) (refRows V s) sg w):∃p c,V.wt=.slice p s.wait.length c/\w.cell? (aA nb 35)=some (.slice p s.wait.length c)/\kG w w.heap.size p s.wait.length (λj=>sA (s.wait.getD j zgV)):=by
 obtain⟨p,c,e,-,hl⟩:=zL (h.own 0 _ rfl);exact⟨p,c,e,by rw[<-(show V.wt=_ from e)];exact h.cell 35 rfl,hl⟩
end
section
variable{B:Nat}{F R:Nat->Prop}{nb kb rb n i:Nat}{s:za}{w:World}
theorem Jc(h:RefW B F R nb kb rb n i s w)(hx:Dom s.x)(hw:∀t∈s.wait,z7 t=true)(hl:s.wait.length<=1000):Calls prog 166 #[pA nb 0] w λe w'=>e=.returned (sA (yP s.x s.wait))/\BW w w':=by
 obtain⟨V,hR,-⟩:=h;obtain⟨p,c,-,hc,au⟩:=hR.wait;have aR:nb<w.heap.size:=hR.lt;obtain⟨aV,HX,HF,HC,HL⟩:=kY hR.reg hx hw hc au;have z0:=zX;clear hR hx hw hc au;obtain⟨l0,aK⟩:=gen s.wait;rw[<-aK] at HF HC HL hl ⊢;obtain⟨bx,aE⟩:=gen (yP s.x l0);rw[<-aE];have aN:=zc aE;clear aK aE;go_enter func166,ntmps166;go_wp2_with (first|(refine zgX rfl 49 _ rfl nb 1 rfl (yd s.x) _ aV underlying49 rfl (by rw[Tryz.zc3];simp[yd]) ?_)|(refine zk rfl 49 _ _ rfl w.heap.size s.x rfl rfl 49 (regA zA) (zgr w _) (zg _) Tryz.zc3 ?_;intro w2 aH aJ;have aM:=zc aH;have aO:Hid (BW w w2):=(bwA w).trans (aJ.below (zgp _));clear aH aJ)|fail)
 go_loopw [3,5,6,7,8,9,10,11] (λb m v i _ _ _ _ wr=>∃(k:Nat) (l:List zgW) (y:Nat->Int),k<=l0.length/\i=iA k/\b=sA (yP s.x (l0.take k))/\xI s.x (yP s.x (l0.take k)) l y/\Dom y/\m=iA l.length/\v=iA (votes l:Int)/\cL wr w.heap.size (regA y) 49/\BW w wr) (λ_ _ _ i _ _ _ _ _=>l0.length-(intOf i).toNat)
 case atStart=>exact⟨0,[],s.x,zgv _,rfl,rfl,xI.nil _,HX,rfl,rfl,aM,aO⟩
 clear aM aO;obtain⟨k,l,y,hk,rfl,rfl,hm,hy,rfl,rfl,hq,hb⟩:=hrel;obtain⟨HM,HY,HQ,HB⟩:=yi hm hy hq hb;have c35:cE wr nb 35 (.slice p l0.length c):=(hb.cell (p:=(aA nb 35)) (by exact aR)).trans HC;have aT:=hm.len;have aP:=hm.vot;clear hm hy hq hb;by_cases av:k=l0.length
 .have hge:¬(k:Int)<l0.length:=by omega
  have HE:Hid (yP s.x (l0.take k)=bx):=by unfold Hid;rw[av,zg7,aN.o]
  rw[HE.o];clear av;go_wp2;go_ret;exact⟨rfl,HB⟩
 have aC:k<l0.length:=by omega
 have aS:(k:Int)<l0.length:=by omega
 obtain⟨lb,lo,rfl,hbb,aU⟩:=HL.o.below HB k aC;obtain⟨t,ht⟩:=gen (l0.getD k zgV);simp only[<-ht] at aU;have ad:z7 t=true:=by rw[ht];exact HF _ (yo l0 _ k aC)
 have aG:=zc ad;have aQ:0<t.size:=(YC ad).1;have htz:t.size<=3:=by have:=zgF (show yn t.size _ _ _=true from ad);omega
 have hb0:((t[0]'aQ).toNat:Int)=byt t 0:=(vX t 0 aQ).symm;have hvl:=xf l;obtain⟨ay,ab⟩:=ze (λW=>J4 y t W HY ad) (ZX s.x l0 k aC);rw[<-ht] at ab;obtain⟨b,aL⟩:=gen (yP s.x (l0.take k));rw[<-aL] at HM ab ⊢;have hbz:b.size<=24:=HM.o.siz;obtain⟨z,o,hz⟩:∃z o,nextT y t=(z,o):=⟨_,_,rfl⟩;rw[hz] at ay;obtain⟨HZ,HT⟩:=ze hz ht;clear hz ht ad aL HL aN;have aB:Hid (Dom z):=by have h:=HY.o.next aG;rw[HZ.o] at h;exact h
 obtain⟨U,hU⟩:=gen (qy b t);have ah:Hid (¬(o=true/\l.length≠3/\U.size<=24/\¬(byt t 0=118/\0<votes l))->kV s.x b t=b):=λh=>HM.o.no aG (by rw[HZ.o,<-hU];exact h);have aj:Hid (o=true->¬l.length=3->U.size<=24->¬(byt t 0=118/\0<votes l)->kV s.x b t=U/\xI s.x U (l++[t]) z):=λh1 h2 h3 h4=>by
  have h:=HM.o.yes aG (by rw[HZ.o];exact h1) h2 (by rw[<-hU];exact h3) h4;rw[<-hU,HZ.o] at h;exact h
 have al:Hid (o=false\/(o=true/\l.length=3)\/(o=true/\¬l.length=3/\24<U.size)\/(o=true/\¬l.length=3/\U.size<=24/\byt t 0=118/\0<votes l)\/(o=true/\¬l.length=3/\U.size<=24/\byt t 0=118/\¬0<votes l)\/(o=true/\¬l.length=3/\U.size<=24/\¬byt t 0=118)):=by
  unfold Hid;cases o with
  |false=>exact zgR rfl
  |true=>
   by_cases e1:l.length=3
   .exact zgS (zgR ⟨rfl,e1⟩)
   rcases Nat.lt_or_ge 24 U.size with e2|e2
   .exact zgS (zgS (zgR ⟨rfl,e1,e2⟩))
   by_cases e3:byt t 0=118
   .by_cases e4:0<votes l
    .exact zgS (zgS (zgS (zgR ⟨rfl,e1,e2,e3,e4⟩)))
    exact zgS (zgS (zgS (zgS (zgR ⟨rfl,e1,e2,e3,e4⟩))))
   exact zgS (zgS (zgS (zgS (zgS ⟨rfl,e1,e2,e3⟩))))
 by_cases hle:l=[]
 .have aF:U=t:=by rw[hU];unfold qy;rw[zgT (HM.o.empty.2 hle)]
  have aD:¬(0:Int)<l.length:=by rw[hle];simp
  clear hU hle;subst aF;go_wp2_with (first|(refine zn rfl 49 _ rfl w.heap.size rfl 49 y _ HQ underlying49 rfl Tryz.zc3 ?_)|fail)
  refine(ay _).mono ?_;rintro e w3 ⟨rfl,aw⟩;have ak:=zc aw;clear aw
  go_upto_region 13 with(first|(refine zk rfl 49 _ _ rfl w3.heap.size z rfl rfl 49 (regA zA) (zgr w3 _) (zg _) Tryz.zc3 ?_;intro w4 aq ar;have ax:=zc aq;have az:Hid (BW wr w4):=(ak.o.alloc ak.o.size _).trans (ar.below ak.o.size);clear aq ar)|fail)
  obtain⟨ag,ai⟩:=ze (blk HQ az) (HB.o.trans (az.o.mono HB.o.size));clear ak HQ HB ay;rcases al with rfl|⟨rfl,q2⟩|⟨rfl,q2,q3⟩|⟨rfl,q2,q3,q4,q5⟩|⟨rfl,q2,q3,q4,q5⟩|⟨rfl,q2,q3,q4⟩
  .go_wp2;go_roundw
   case rel=>exact⟨k+1,l,y,by omega,by go_num,by rw[ab.o,ah.o (λh=>by cases h.1)],by rw[ab.o,ah.o (λh=>by cases h.1)];exact HM,HY,rfl,rfl,ag,ai⟩
   simp[intOf];omega
  .exfalso;omega
  .exfalso;omega
  .exfalso;omega
  .have q2b:((l.length:Int)==3)=false:=by simpa using(show¬(l.length:Int)=3 by omega)
   have q3b:¬(24:Int)<U.size:=by omega
   have q4b:(byt U 0==118)=true:=by simpa using q4
   have q5b:¬(0:Int)<votes l:=by omega
   have aa:=aj.o rfl q2 q3 (λh=>by have:=h.2;omega);go_wp2_with (first|(refine zn rfl 49 _ rfl w3.heap.size rfl 49 z _ ax underlying49 rfl Tryz.zc3 ?_)|(refine zk rfl 49 _ _ rfl w.heap.size z rfl rfl 49 (regA y) ag (zg _) Tryz.zc3 ?_;intro w6 ae af;have an:=zc ae;have ao:Hid (BW w w6):=ai.o.trans (af.below (zgp _));clear ae af)|fail)
   go_roundw
   case rel=>exact⟨k+1,l++[U],z,by omega,by go_num,by rw[ab.o,aa.1],by rw[ab.o,aa.1];exact aa.2,aB,by rw[zgE];go_num,by rw[zR,zgT q4];go_num,an,ao⟩
   simp[intOf];omega
  have q2b:((l.length:Int)==3)=false:=by simpa using(show¬(l.length:Int)=3 by omega)
  have q3b:¬(24:Int)<U.size:=by omega
  have q4b:(byt U 0==118)=false:=by simpa using q4
  have aa:=aj.o rfl q2 q3 (λh=>q4 h.1);go_wp2_with (first|(refine zn rfl 49 _ rfl w3.heap.size rfl 49 z _ ax underlying49 rfl Tryz.zc3 ?_)|(refine zk rfl 49 _ _ rfl w.heap.size z rfl rfl 49 (regA y) ag (zg _) Tryz.zc3 ?_;intro w6 ae af;have an:=zc ae;have ao:Hid (BW w w6):=ai.o.trans (af.below (zgp _));clear ae af)|fail)
  go_roundw
  case rel=>exact⟨k+1,l++[U],z,by omega,by go_num,by rw[ab.o,aa.1],by rw[ab.o,aa.1];exact aa.2,aB,by rw[zgE];go_num,by rw[zR,zgU q4];go_num,an,ao⟩
  simp[intOf];omega
 have aD:(0:Int)<l.length:=by have:=List.length_pos_iff.2 hle;omega
 have aF:b++⟨#[44]⟩++t=U:=by rw[hU];unfold qy;rw[zgU (λe=>hle (HM.o.empty.1 e))]
 clear hU hle
 go_upto_region 12 with fail
 clear aF;go_wp2_with (first|(refine zn rfl 49 _ rfl w.heap.size rfl 49 y _ HQ underlying49 rfl Tryz.zc3 ?_)|fail)
 refine(ay _).mono ?_;rintro e w3 ⟨rfl,aw⟩;have ak:=zc aw;clear aw
 go_upto_region 13 with(first|(refine zk rfl 49 _ _ rfl w3.heap.size z rfl rfl 49 (regA zA) (zgr w3 _) (zg _) Tryz.zc3 ?_;intro w4 aq ar;have ax:=zc aq;have az:Hid (BW wr w4):=(ak.o.alloc ak.o.size _).trans (ar.below ak.o.size);clear aq ar)|fail)
 obtain⟨ag,ai⟩:=ze (blk HQ az) (HB.o.trans (az.o.mono HB.o.size));clear ak HQ HB ay;rcases al with rfl|⟨rfl,q2⟩|⟨rfl,q2,q3⟩|⟨rfl,q2,q3,q4,q5⟩|⟨rfl,q2,q3,q4,q5⟩|⟨rfl,q2,q3,q4⟩
 .go_wp2;go_roundw
  case rel=>exact⟨k+1,l,y,by omega,by go_num,by rw[ab.o,ah.o (λh=>by cases h.1)],by rw[ab.o,ah.o (λh=>by cases h.1)];exact HM,HY,rfl,rfl,ag,ai⟩
  simp[intOf];omega
 .have q2b:((l.length:Int)==3)=true:=by simpa using(show(l.length:Int)=3 by omega)
  have q2c:(l.length:Int)=3:=by omega
  go_wp2;go_roundw
  case rel=>exact⟨k+1,l,y,by omega,by go_num,by rw[ab.o,ah.o (λh=>h.2.1 q2)],by rw[ab.o,ah.o (λh=>h.2.1 q2)];exact HM,HY,rfl,rfl,ag,ai⟩
  simp[intOf];omega
 .have q2b:((l.length:Int)==3)=false:=by simpa using(show¬(l.length:Int)=3 by omega)
  have q3b:(24:Int)<U.size:=by omega
  go_wp2;go_roundw
  case rel=>exact⟨k+1,l,y,by omega,by go_num,by rw[ab.o,ah.o (λh=>by have:=h.2.2.1;omega)],by rw[ab.o,ah.o (λh=>by have:=h.2.2.1;omega)];exact HM,HY,rfl,rfl,ag,ai⟩
  simp[intOf];omega
 .have q2b:((l.length:Int)==3)=false:=by simpa using(show¬(l.length:Int)=3 by omega)
  have q3b:¬(24:Int)<U.size:=by omega
  have q4b:(byt t 0==118)=true:=by simpa using q4
  have q5b:(0:Int)<votes l:=by omega
  go_wp2;go_roundw
  case rel=>exact⟨k+1,l,y,by omega,by go_num,by rw[ab.o,ah.o (λh=>h.2.2.2 ⟨q4,q5⟩)],by rw[ab.o,ah.o (λh=>h.2.2.2 ⟨q4,q5⟩)];exact HM,HY,rfl,rfl,ag,ai⟩
  simp[intOf];omega
 .have q2b:((l.length:Int)==3)=false:=by simpa using(show¬(l.length:Int)=3 by omega)
  have q3b:¬(24:Int)<U.size:=by omega
  have q4b:(byt t 0==118)=true:=by simpa using q4
  have q5b:¬(0:Int)<votes l:=by omega
  have aa:=aj.o rfl q2 q3 (λh=>by have:=h.2;omega);go_wp2_with (first|(refine zn rfl 49 _ rfl w3.heap.size rfl 49 z _ ax underlying49 rfl Tryz.zc3 ?_)|(refine zk rfl 49 _ _ rfl w.heap.size z rfl rfl 49 (regA y) ag (zg _) Tryz.zc3 ?_;intro w6 ae af;have an:=zc ae;have ao:Hid (BW w w6):=ai.o.trans (af.below (zgp _));clear ae af)|fail)
  go_roundw
  case rel=>exact⟨k+1,l++[t],z,by omega,by go_num,by rw[ab.o,aa.1],by rw[ab.o,aa.1];exact aa.2,aB,by rw[zgE];go_num,by rw[zR,zgT q4];go_num,an,ao⟩
  simp[intOf];omega
 have q2b:((l.length:Int)==3)=false:=by simpa using(show¬(l.length:Int)=3 by omega)
 have q3b:¬(24:Int)<U.size:=by omega
 have q4b:(byt t 0==118)=false:=by simpa using q4
 have aa:=aj.o rfl q2 q3 (λh=>q4 h.1);go_wp2_with (first|(refine zn rfl 49 _ rfl w3.heap.size rfl 49 z _ ax underlying49 rfl Tryz.zc3 ?_)|(refine zk rfl 49 _ _ rfl w.heap.size z rfl rfl 49 (regA y) ag (zg _) Tryz.zc3 ?_;intro w6 ae af;have an:=zc ae;have ao:Hid (BW w w6):=ai.o.trans (af.below (zgp _));clear ae af)|fail)
 go_roundw
 case rel=>exact⟨k+1,l++[t],z,by omega,by go_num,by rw[ab.o,aa.1],by rw[ab.o,aa.1];exact aa.2,aB,by rw[zgE];go_num,by rw[zR,zgU q4];go_num,an,ao⟩
 simp[intOf];omega
end
section
variable{B:Nat}{F R:Nat->Prop}{nb kb rb n i:Nat}{s s':za}{w:World}
theorem RefW.scalar(h:RefW B F R nb kb rb n i s w)(o:Nat)(v:Value)(he:∀V,(refA kb V s).setIfInBounds o v=refA kb V s')(hr:∀V,refRows V s=refRows V s')(hd:s'.dec=s.dec)(hg:s'.sg=s.sg)(ht:s'.tims=s.tims)(hb:s'.tb=s.tb)(hm:s'.held=s.held/\s'.b2=s.b2/\s'.b3=s.b3:=by exact⟨rfl,rfl,rfl⟩):
 RefW B F R nb kb rb n i s' (w.setCell (aA nb o) v)/\Goes F R w F R (w.setCell (aA nb o) v):=by
 obtain⟨V,hR,ab,aa⟩:=h;obtain⟨h1,h2⟩:=hR.set o v;rw[he,hr,<-hg] at h1;exact⟨⟨V,h1,by rw[hd];exact ab,⟨by rw[ht];exact aa.perm,aa.sort,by rw[hb];exact aa.tb,by rw[ht];exact aa.heap,λhh=>by rw[hm.1,hm.2.1,hm.2.2];exact aa.fl (by have e:s'.zc1=s.zc1:=congrArg List.length hd;omega)⟩⟩,h2⟩
theorem RefW.mark(h:RefW B F R nb kb rb n i s w)(k:Nat)(b:Bool)(hk:k<3):RefW B F R nb kb rb n i (if k=0 then { s with held:=b } else if k=1 then { s with b2:=b } else { s with b3:=b }) (w.setCell (aA nb (49+k)) (bA b))/\Goes F R w F R (w.setCell (aA nb (49+k)) (bA b)):=by
 obtain⟨V,hR,ab,aa⟩:=h;obtain⟨h1,h2⟩:=hR.set (49+k) (bA b);refine⟨?_,h2⟩;match k,hk with
 |0,_=>exact⟨{ V with hd:=b },h1,ab,{ aa with fl:=λhh=>⟨rfl,(aa.fl hh).2⟩ }⟩
 |1,_=>exact⟨{ V with b2:=b },h1,ab,{ aa with fl:=λhh=>⟨(aa.fl hh).1,rfl,(aa.fl hh).2.2⟩ }⟩
 |2,_=>exact⟨{ V with b3:=b },h1,ab,{ aa with fl:=λhh=>⟨(aa.fl hh).1,(aa.fl hh).2.1,rfl⟩ }⟩
theorem RefW.marks(h:RefW B F R nb kb rb n i s w):∃a b c,w.cell? (aA nb 49)=some (bA a)/\w.cell? (aA nb 50)=some (bA b)/\w.cell? (aA nb 51)=some (bA c)/\(s.zc1<12->a=s.held/\b=s.b2/\c=s.b3):=by
 obtain⟨V,hR,hcs,aa⟩:=h;exact⟨V.hd,V.b2,V.b3,hR.cell 49 rfl,hR.cell 50 rfl,hR.cell 51 rfl,aa.fl⟩
theorem RefW.cell(h:RefW B F R nb kb rb n i s w)(o:Nat){v:Value}(ho:∀V,(refA kb V s)[o]? =some v):w.cell? (aA nb o)=some v:=by
 obtain⟨V,hR,-⟩:=h;exact hR.cell o (ho V)
theorem RefW.frozen(h:RefW B F R nb kb rb n i s w)(o:Nat):w.frozen? (aA nb o)=false:=by
 obtain⟨V,hR,-⟩:=h;exact hR.frozen o
theorem Vb{k:Int}{nl:Bool}{t:zgW}{x:Nat->Int}{h r:Nat}(hk:k=2\/k=3)(hh:h<12)(hr:r<=255)(ht:t.size<=24)(hn:nl=false\/t.size=0)(hp:¬gL x (i:Int)=0):hasB k (h:Int) (r:Int) (i:Int) 0 nl t.size=true:=by
 have hi:(i:Int)<8:=Classical.byContradiction λhx=>hp (by unfold gL;rw[zgU (by omega)]);unfold hasB;rw[decide_eq_true_eq];exact⟨by omega,by omega,by omega,by omega,by omega,hi,ht,zgS ⟨hk,rfl,hn⟩⟩
def za.zdj(s:za)(i kd:Nat)(t:zgW)(g:Bool):za:=if g then(s.zc8 i (kd:Int) 0 false t).zdr kd else(s.zc8 i (kd:Int) 0 true ⟨#[]⟩).zdr kd
theorem qj(h:RefW B F R nb kb rb n i s w)(kd:Nat)(t:zgW)(g:Bool)(hk:kd=2\/kd=3)(hh:s.zc1<12)(hr:s.round<=255)(ht:t.size<=24)(hlog:s.log.length<=1000000)(hout:s.out.length<=1000)(hsg:(s.sg i).length<=1000000000000):
 Calls prog 176 #[pA nb 0,iA kd,sA t,bA g] w (Zc B F R nb kb rb n i (s.zdj i kd t g) w (.tuple #[])):=by
 have ab:(kd:Int)=2\/(kd:Int)=3:=by omega
 unfold za.zdj;cases g with
 |true=>
  rw[zgT rfl];have HS:=zc (jc h (kd:Int) 0 false t (λhp=>Vb ab hh hr ht (zgR rfl) hp) (by omega) (by omega) (by omega) hlog hout hsg);clear h hh hr ht hlog hout hsg hk ab;go_enter func176,ntmps176;go_wp2_with fail
  refine HS.o.mono ?_;rintro e w1 ⟨rfl,F1,R1,h1,aa⟩;have c1:cE w1 nb 44 (iA ((s.zc8 i (kd:Int) 0 false t).step:Int)):=h1.cell 44 (λ_=>rfl);have f1:=h1.frozen 44;have h2:=h1.scalar (s':=(s.zc8 i (kd:Int) 0 false t).zdr kd) 44 (iA kd) (λ_=>rfl) (λ_=>rfl) rfl rfl rfl rfl;obtain⟨H2,HG⟩:=ze h2 aa;clear h1 h2 aa HS;go_wp2
  go_end0
  exact⟨rfl,F1,R1,H2.o.1,HG.o.trans H2.o.2⟩
 |false=>
  rw[zgU (by decide)];have HS:=zc (jc h (kd:Int) 0 true ⟨#[]⟩ (λhp=>Vb ab hh hr (by decide) (zgS rfl) hp) (by decide) (by omega) (by omega) hlog hout hsg);clear h hh hr ht hlog hout hsg hk ab;go_enter func176,ntmps176;go_wp2_with fail
  refine HS.o.mono ?_;rintro e w1 ⟨rfl,F1,R1,h1,aa⟩;have c1:cE w1 nb 44 (iA ((s.zc8 i (kd:Int) 0 true ⟨#[]⟩).step:Int)):=h1.cell 44 (λ_=>rfl);have f1:=h1.frozen 44;have h2:=h1.scalar (s':=(s.zc8 i (kd:Int) 0 true ⟨#[]⟩).zdr kd) 44 (iA kd) (λ_=>rfl) (λ_=>rfl) rfl rfl rfl rfl;obtain⟨H2,HG⟩:=ze h2 aa;clear h1 h2 aa HS;go_wp2
  go_end0
  exact⟨rfl,F1,R1,H2.o.1,HG.o.trans H2.o.2⟩
end
section
variable{B:Nat}{F R:Nat->Prop}{nb kb rb n i:Nat}{s:za}{w:World}
theorem RefW.turn(h:RefW B F R nb kb rb n i s w)(r:Nat):∃w',w'=((((w.setCell (aA nb 43) (iA r)).setCell (aA nb 44) (iA 1)).setCell (aA nb 49) (bA false)).setCell (aA nb 50) (bA false)).setCell (aA nb 51) (bA false)/\RefW B F R nb kb rb n i (s.zdh r 1) w'/\Goes F R w F R w':=by
 obtain⟨h1,g1⟩:=h.scalar (s':={ s with round:=r }) 43 (iA r) (λ_=>rfl) (λ_=>rfl) rfl rfl rfl rfl;obtain⟨h2,g2⟩:=h1.scalar (s':={ s with round:=r,step:=1 }) 44 (iA 1) (λ_=>rfl) (λ_=>rfl) rfl rfl rfl rfl;obtain⟨h3,g3⟩:=h2.mark 0 false (by omega);obtain⟨h4,g4⟩:=h3.mark 1 false (by omega);obtain⟨h5,g5⟩:=h4.mark 2 false (by omega);obtain⟨V,hR,ab,aa⟩:=h5;exact⟨_,rfl,⟨V,hR,ab,⟨aa.perm,aa.sort,aa.tb,aa.heap,aa.fl⟩⟩,g1.trans (g2.trans (g3.trans (g4.trans g5)))⟩
theorem RefW.key(h:RefW B F R nb kb rb n i s w):kq w kb rb i:=by
 obtain⟨V,hR,-⟩:=h;exact hR.key
theorem Vc{v:Int}{t:zgW}{x:Nat->Int}{h r:Nat}(hh:h<12)(hr:r<=255)(ht:t.size<=24)(h0: -1<=v)(h1:v<(r:Int))(hp:¬gL x (i:Int)=0):hasB 1 (h:Int) (r:Int) (i:Int) v false t.size=true:=by
 have hi:(i:Int)<8:=Classical.byContradiction λhx=>hp (by unfold gL;rw[zgU (by omega)]);unfold hasB;rw[decide_eq_true_eq];exact⟨by omega,by omega,by omega,by omega,by omega,hi,ht,zgR ⟨rfl,rfl,h0,h1⟩⟩
theorem zbL(s:za)(i:Nat)(k v:Int)(nl:Bool)(t:zgW):(s.zc8 i k v nl t).vr=s.vr/\(s.zc8 i k v nl t).vv=s.vv:=by
 unfold za.zc8;split
 .exact ⟨rfl,rfl⟩
 split<;>exact⟨rfl,rfl⟩
structure ROk (s:za):Prop where
 dom:Dom s.x
 pos:0<sumTo s.x 8
 hgt:s.zc1<12
 rnd:s.round<=20
 log:s.log.length<=10000
 out:s.out.length<=1000
 tims:s.tims.length<=10000
 time:s.time<=1000000000000
 wait:s.wait.length<=1000
 form:∀t∈s.wait,z7 t=true
 vr: -1<=s.vr
 vv:s.vv.size<=24
 ents:∀e∈s.log,Kx e
theorem jH(h:RefW B F R nb kb rb n i s w)(ok:ROk s)(hsg:(s.sg i).length<=1000000000000)(r:Nat)(hr:r<=20)(hv:s.vr<(r:Int)):
 Calls prog 117 #[pA nb 0,iA r] w (Zc B F R nb kb rb n i (s.zc9 i r) w (.tuple #[])):=by
 obtain⟨w5,ao,h5,av⟩:=h.turn r;have c43:cE w nb 43 (iA s.round):=h.cell 43 (λ_=>rfl);have c44:cE w nb 44 (iA s.step):=h.cell 44 (λ_=>rfl);obtain⟨m49,m50,m51,c49,c50,c51,-⟩:=h.marks;have f43:=h.frozen 43;have f44:=h.frozen 44;have f49:=h.frozen 49;have f50:=h.frozen 50;have f51:=h.frozen 51;have k0:cE w5 nb 0 (pA kb 0):=h5.cell 0 (λ_=>rfl);have k46:cE w5 nb 46 (iA s.vr):=h5.cell 46 (λ_=>rfl);have k48:cE w5 nb 48 (sA s.vv):=h5.cell 48 (λ_=>rfl);have ag:Hid (∀j,Calls prog 163 #[pA nb 0,iA r] (w5.drewN j) λe w'=>e=.returned (iA (s.prop r:Int))/\w'=w5.drewN j):=λj=>jF (h5.below (zgZ (zgq _ _) j)) ok.dom ok.pos (by have:=ok.hgt;exact zgI this) r (by omega);have aj:Hid (∀j,Calls prog 144 #[pA kb 0] (w5.drewN j) λe w'=>e=.returned (iA i)/\w'=w5.drewN j):=λj=>qW kb rb i _ (h5.below (zgZ (zgq _ _) j)).key;obtain⟨H5,an,ai,aa,aw⟩:=kY h5 av ao ok hsg;obtain⟨q,hq⟩:=gen (s.prop r);rw[<-hq] at ag;unfold za.zc9;rw[<-hq];clear h ao h5 av ok hsg hq;by_cases ar:q=i
 .subst ar;rw[zgT rfl];by_cases aq:s.vr<0
  .have ay:s.vr= -1:=by have:=aa.o.vr;omega
   rw[zgT aq,ay];have az:¬(0:Int)<=s.vr:=by omega
   go_enter func117,ntmps117
   go_upto_region 5 with fail
   rw[<-ai.o];go_quiet (first|(go_at_call 163;refine Calls.quiet_of_same (ag _))|(go_at_call 144;refine Calls.quiet_of_same (aj _)))
   rename_i nq;obtain⟨w6,ab⟩:=gen (w5.drewN nq);have ad:BW w5 w6:=by rw[ab];exact zgZ (zgq _ w5) nq
   have h6:=H5.o.below ad;have m46:cE w6 nb 46 (iA s.vr):=h6.cell 46 (λ_=>rfl);have m48:cE w6 nb 48 (sA s.vv):=h6.cell 48 (λ_=>rfl);obtain⟨af,H6⟩:=ze (an.o.trans (Goes.below ad)) h6;rw[<-ab];clear ab ad h6;have ax:=zc (Jc H6 aa.o.dom aa.o.form aa.o.wait);go_wp2_with fail
   refine ax.o.mono ?_;rintro e w7 ⟨rfl,ah⟩;have h7:=H6.o.below ah;have HS:=zc (jc h7 1 (-1) false (yP s.x s.wait) (λhp=>Vc aa.o.hgt (by show r<=255;omega) (qt _ _) (by omega) (by show(-1:Int)<(r:Int);omega) hp) (by have:=qt s.x s.wait;omega) (by omega) (by omega) (by show s.log.length<=_;have:=aa.o.log;omega) (by show s.out.length<=_;exact aa.o.out) aw);have al:=zc (af.o.trans (Goes.below ah));have hmz:=qt s.x s.wait;clear h7 ah ax;go_wp2_with fail
   refine HS.o.mono ?_;rintro e w8 ⟨rfl,F8,R8,h8,ae⟩;obtain⟨H8,ak⟩:=ze h8 (al.o.trans ae);clear h8 ae;go_wp2
   go_end0
   exact⟨rfl,F8,R8,H8,ak⟩
  have hv1:(0:Int)<=s.vr:=by omega
  rw[zgU aq];go_enter func117,ntmps117
  go_upto_region 5 with fail
  rw[<-ai.o];go_quiet (first|(go_at_call 163;refine Calls.quiet_of_same (ag _))|(go_at_call 144;refine Calls.quiet_of_same (aj _)))
  rename_i nq;obtain⟨w6,ab⟩:=gen (w5.drewN nq);have ad:BW w5 w6:=by rw[ab];exact zgZ (zgq _ w5) nq
  have h6:=H5.o.below ad;have m46:cE w6 nb 46 (iA s.vr):=h6.cell 46 (λ_=>rfl);have m48:cE w6 nb 48 (sA s.vv):=h6.cell 48 (λ_=>rfl);obtain⟨af,H6⟩:=ze (an.o.trans (Goes.below ad)) h6;rw[<-ab];clear ab ad h6;go_wp2_with fail
  have HS:=zc (jc (H6.o.below (zgq _ w6).drew) 1 s.vr false s.vv (λhp=>Vc aa.o.hgt (by show r<=255;omega) aa.o.vv (by have:=aa.o.vr;omega) hv hp) (by have:=aa.o.vv;omega) (by omega) (by omega) (by show s.log.length<=_;have:=aa.o.log;omega) (by show s.out.length<=_;exact aa.o.out) aw);refine rgd (S:=λX=>cE X nb 46 (iA s.vr)/\cE X nb 48 (sA s.vv)) ⟨m46,m48⟩ λhH=>?_;clear m46 m48 k46 k48;refine zx [0,1,2,3,4,5,6,7,8,9,10,11] hH (λx h=>aI h.1 (h.2)) ?_;refine zp 12 λK hK=>?_;go_simp;refine HS.o.mono ?_;rintro e w8 ⟨rfl,F8,R8,h8,ae⟩;have hk:=zbL (s.zdh r 1) q 1 s.vr false s.vv;have n46:w8.cell? (aA nb 46)=some (iA s.vr):=by rw[<-(show _=s.vr from hk.1)];exact h8.cell 46 (λ_=>rfl)
  have n48:w8.cell? (aA nb 48)=some (sA s.vv):=by rw[<-(show _=s.vv from hk.2)];exact h8.cell 48 (λ_=>rfl)
  obtain⟨H8,ak⟩:=ze h8 (af.o.trans ((Goes.below (zgq _ w6).drew).trans ae));clear h8 ae;refine hK.out _ _ (⟨n46,n48⟩) λhH=>?_;clear hK K
  try simp only[AP,AQ]
  refine dnr ?_;go_wp2
  go_end0
  exact⟨rfl,F8,R8,H8,ak⟩
 rw[zgU ar];have hqb:((q:Int)==(i:Int))=false:=by simp;omega
 have aB:((q:Int) != (i:Int))=true:=by simp;omega
 have hqc:¬(q:Int)=(i:Int):=by omega
 go_enter func117,ntmps117
 go_upto_region 5 with fail
 rw[<-ai.o];go_quiet (first|(go_at_call 163;refine Calls.quiet_of_same (ag _))|(go_at_call 144;refine Calls.quiet_of_same (aj _)))
 rename_i nq;obtain⟨w6,ab⟩:=gen (w5.drewN nq);have ad:BW w5 w6:=by rw[ab];exact zgZ (zgq _ w5) nq
 have HT:=zc (kJ (H5.o.below ad) 1 3 (by show s.tims.length<=_;have:=aa.o.tims;omega) (by show s.time<=_;exact aa.o.time) (by omega) (by show r<=1000;omega) (by intro e;cases e) (by intro e;cases e));have af:=zc (an.o.trans (Goes.below ad));rw[<-ab];clear ab ad;go_wp2_with fail
 refine HT.o.mono ?_;rintro e w7 ⟨rfl,F7,R7,h7,au⟩;obtain⟨H7,al⟩:=ze h7 (af.o.trans au);clear h7 au;go_wp2
 go_end0
 exact⟨rfl,F7,R7,H7,al⟩
end
end
section
section
variable{B:Nat}{F R:Nat->Prop}{nb kb rb n i:Nat}{C:Array Value}{rs:List ky}{sg:Nat->List zgW}{w:World}
theorem RawW.ze1(h:RawW B F R nb kb rb n i C rs sg w){k:Nat}{r:ky}(hk:rs[k]? =some r):RawW B F R nb kb rb n i C (rs.set k ⟨r.t,r.z,.slice none 0 0,0,[]⟩++[r]) sg w:=by
 have ah:k<rs.length:=(List.getElem?_eq_some_iff.1 hk).1;have aa:∀j q,(rs.set k ⟨r.t,r.z,.slice none 0 0,0,[]⟩++[r])[j]? =some q->(j=k/\q=⟨r.t,r.z,.slice none 0 0,0,[]⟩)\/(j≠k/\j<rs.length/\rs[j]? =some q)\/(j=rs.length/\q=r):=λj q hq=>by
  rcases Nat.lt_or_ge j rs.length with hj|hj
  .rw [zgD (by rw[List.length_set];exact hj),List.getElem?_set] at hq;by_cases e:k=j
   .subst e;rw[zgT rfl,zgT ah] at hq;exact zgR ⟨rfl,(zg6 hq).symm⟩
   rw[zgU e] at hq;exact zgS (zgR ⟨λx=>e x.symm,hj,hq⟩)
  rw[zgC (by rw[List.length_set];exact hj),List.length_set] at hq;have ae:=(List.getElem?_eq_some_iff.1 hq).1;simp only[List.length_singleton] at ae;have e:j=rs.length:=by omega
  subst e;rw[Nat.sub_self] at hq;exact zgS (zgS ⟨rfl,(zg6 hq).symm⟩)
 refine { h with own:=?_,ty:=?_,apart:=?_,ff:=?_ }
 .intro j q hq;rcases aa j q hq with⟨rfl,rfl⟩|⟨_,_,hq⟩|⟨rfl,rfl⟩
  .exact zgQ _ _ _ _
  .exact h.own j q hq
  exact h.own k _ hk
 .intro j q hq;rcases aa j q hq with⟨rfl,rfl⟩|⟨_,_,hq⟩|⟨rfl,rfl⟩
  .exact h.ty _ r hk
  .exact h.ty j q hq
  exact h.ty k _ hk
 .intro j l a b g ha hb ad hg;rcases aa j a ha with⟨rfl,rfl⟩|⟨hj,ae,af⟩|⟨rfl,rfl⟩
  .cases hg
  .rcases aa l b hb with⟨rfl,rfl⟩|⟨hl,ag,ab⟩|⟨rfl,rfl⟩
   .intro e;cases e
   .exact h.apart j l a b g af ab ad hg
   exact h.apart j k a _ g af hk hj hg
  rcases aa l b hb with⟨rfl,rfl⟩|⟨hl,ag,ab⟩|⟨rfl,rfl⟩
  .intro e;cases e
  .exact h.apart k l _ b g hk ab (λe=>hl e.symm) hg
  exact absurd rfl ad
 intro j q g hq hg;rcases aa j q hq with⟨rfl,rfl⟩|⟨_,_,hq⟩|⟨rfl,rfl⟩
 .cases hg
 .exact h.ff j q g hq hg
 exact h.ff k _ g hk hg
theorem RawW.front{rs':List ky}(h:RawW B F R nb kb rb n i C (rs++rs') sg w):RawW B F R nb kb rb n i C rs sg w:=by
 have hs:∀(j:Nat) (q:ky),rs[j]? =some q->(rs++rs')[j]? =some q:=λj q hq=>by
  rw[zgD (List.getElem?_eq_some_iff.1 hq).1];exact hq
 exact { h with own:=λj r hr=>h.own j r (hs j r hr),ty:=λj r hr=>h.ty j r (hs j r hr),apart:=λj k a b g ha hb=>h.apart j k a b g (hs j a ha) (hs k b hb),ff:=λj r g hr=>h.ff j r g (hs j r hr) }
theorem RawW.clear(h:RawW B F R nb kb rb n i C rs sg w){k:Nat}{r:ky}(hk:rs[k]? =some r):RawW B F R nb kb rb n i C (rs.set k ⟨r.t,r.z,.slice none 0 0,0,[]⟩) sg w:=(h.ze1 hk).front
end
def Z8(kb:Nat)(V:xa)(s:za)(S:List Value):Array Value:=
 (pA kb 0::(yd s.x++([V.wt,V.vl,V.pr,V.ct,V.lg,V.mn,V.er]++(S++([bA V.hd,bA V.b2,bA V.b3,iA s.time,V.tm,V.ot]++xk s))))).toArray
def Y0(h r st lr vr:Int)(lv vv:zgW):List Value:=[iA h,iA r,iA st,iA lr,iA vr,sA lv,sA vv]
theorem zbM(kb:Nat)(V:xa)(s:za):refA kb V s=Z8 kb V s (Y0 (s.zc1:Int) (s.round:Int) (s.step:Int) s.lr s.vr s.lv s.vv):=rfl
end
section
open Proofs.Tryz
theorem Tryz.ze0:(prog.info? 61).map (·.size)=some 7:=by kernel_rfl
theorem Tryz.zfx:(prog.info? 197).map (·.size)=some 8:=by kernel_rfl
theorem Gc(kb:Nat)(V:xa)(s:za)(h r st lr vr:Int)(lv vv:zgW)(h' r' st' lr' vr':Int)(lv' vv':zgW):((Z8 kb V s (Y0 h r st lr vr lv vv)).toList.take 42++ #[Value.int .i64 h',iA r',iA st',iA lr',iA vr',sA lv',sA vv'].toList++(Z8 kb V s (Y0 h r st lr vr lv vv)).toList.drop (42+ #[Value.int .i64 h',iA r',iA st',iA lr',iA vr',sA lv',sA vv'].size)).toArray=Z8 kb V s (Y0 h' r' st' lr' vr' lv' vv'):=rfl
def za.clean(s:za):za:={ s with lr:= -1,lv:=⟨#[]⟩,vr:= -1,vv:=⟨#[]⟩,round:=0,step:=0,log:=[],ahead:=[] }
def za.zdZ(s:za)(l:List zt):za:={ s with log:=l }
def za.zdw(s:za)(k:Nat):List zt:=(s.ahead.take k).filter λe=> !s.zc7 e.m
section
variable{B:Nat}{F R:Nat->Prop}{nb kb rb n i:Nat}{C:Array Value}{rs:List ky}{sg:Nat->List zgW}{w:World}
theorem RawW.extra{l:List zt}{lb lo c:Nat}(h:RawW B F R nb kb rb n i C (rs++[⟨197,8,.slice (some (aA lb lo)) l.length c,l.length,qz l⟩]) sg w)(k:Nat)(hk:k<l.length):lb<w.heap.size/\w.rangeAt lb (lo+k*8) (vD (l.getD k zJ)):=by
 obtain⟨p,c',e,-,hr⟩:=jg vD 8 (λ_=>rfl) zJ (h.own rs.length ⟨197,8,.slice (some (aA lb lo)) l.length c,l.length,qz l⟩ (by simp));cases e;obtain⟨b,o,e,hb,hr⟩:=hr k hk;cases e;exact⟨hb,hr⟩
end
structure HOk (s:za):Prop where
 dom:Dom s.x
 pos:0<sumTo s.x 8
 hgt:s.zc1<=12
 out:s.out.length<=1000
 tims:s.tims.length<=10000
 time:s.time<=1000000000000
 wait:s.wait.length<=1000
 form:∀t∈s.wait,z7 t=true
 ents:∀e∈s.ahead,Kx e
 ahead:s.ahead.length<=10000
 ao:∀e∈s.ahead,e.own=false
 none:s.zc1=12->s.ahead=[]
theorem Xk(s:za)(k:Nat)(h:k<s.ahead.length):s.zdw (k+1)=s.zdw k++if s.zc7 (s.ahead.getD k zJ).m=false then [s.ahead.getD k zJ] else []:=by
 unfold za.zdw;rw[zy s.ahead zJ k h,List.filter_append]
 congr 1
 cases hb:s.zc7 (s.ahead.getD k zJ).m with
 |true=>rw[List.filter_cons_of_neg (by rw[hb];decide),zgU (by decide)];rfl
 |false=>rw[List.filter_cons_of_pos (by rw[hb];rfl),zgT rfl];rfl
section
variable{B:Nat}{F R:Nat->Prop}{nb kb rb n i:Nat}{s:za}{w:World}
theorem xr{V:xa}{h0 r0 st0 lr0 vr0:Int}{lv0 vv0:zgW}(hR:RawW B F R nb kb rb n i (Z8 kb V s (Y0 h0 r0 st0 lr0 vr0 lv0 vv0)) (refRows V s) s.sg w)(hcs:V.cs.length=s.dec.length)(hts:jY V s)(ok:HOk s)(hsg:(s.sg i).length<=1000000000000):
 Calls prog 56 #[.pointer (some (aA nb 0))] w (Zc B F R nb kb rb n i (s.zd5 i) w (.tuple #[])):=by
 obtain⟨iW,bx,bs,aP,aO⟩:=info_parts Tryz.zer;obtain⟨pv,cv,bc⟩:=zl (hR.own 1 _ rfl);have az:V.vl=.slice pv s.zc1 cv:=by rw[show V.vl=_ from bc];simp[strR,za.zc1]
 have c36:w.cell? (aA nb 36)=some (.slice pv s.zc1 cv):=by rw[<-az];exact hR.cell 36 rfl
 obtain⟨pe,ce,ba⟩:=zl (hR.own 6 _ rfl);have ay:V.er=.slice pe s.ahead.length ce:=ba;obtain⟨HR,aJ,bJ,aE,af,bG⟩:=xz hR ay hcs hts ok hsg;clear hR hcs hts ok hsg bc az ba ay;have bz:s.zc1<=12:=af.o.hgt;obtain⟨Ht,aX⟩:=gen s.zc1;rw[<-aX] at c36 bz;have aM:=zc aX;clear aX;go_enter func56,ntmps56
 go_upto_region 1 with(first|(refine qO rfl 61 _ _ rfl nb 42 #[iA (Ht:Int),iA 0,iA 0,iA (-1),iA (-1),sA ⟨#[]⟩,sA ⟨#[]⟩] rfl rfl 68 _ HR.o.blk (by show 49<=_;simp[Z8,Y0,yd,xk]) (by simp[Value.oneCell']) Tryz.ze0 ?_;intro w1 aR bf)|fail)
 have ad:=HR.o.store (by rw[Gc] at aR;exact aR) bf;have d41:w1.cell? (aA nb 41)=some (.slice pe s.ahead.length ce):=by rw[<-aJ.o];exact ad.1.cell 41 rfl
 have d39:cE w1 nb 39 V.lg:=ad.1.cell 39 rfl;have d40:cE w1 nb 40 V.mn:=ad.1.cell 40 rfl;have d42:cE w1 nb 42 (iA (Ht:Int)):=ad.1.cell 42 rfl;have f41:=ad.1.frozen 41;have f39:=ad.1.frozen 39;have f40:=ad.1.frozen 40;obtain⟨w2,aa⟩:∃z,z=((w1.setCell (aA nb 41) (.slice none 0 0)).setCell (aA nb 39) (.slice none 0 0)).setCell (aA nb 40) (.slice none 0 0):=⟨_,rfl⟩;obtain⟨V4,aU⟩:=gen ({ V with er:=Value.slice none 0 0,lg:=Value.slice none 0 0,mn:=Value.slice none 0 0 });obtain⟨ab,bm⟩:=ad.1.set 41 (.slice none 0 0);obtain⟨ag,aD⟩:=ab.set 39 (.slice none 0 0);obtain⟨aj,au⟩:=ag.set 40 (.slice none 0 0);rw[<-aa] at aj au;have aW:=(((aj.ze1 (k:=6) rfl).clear (k:=4) rfl).clear (k:=5) rfl);have aZ:Hid (RawW B F R nb kb rb n i (refA kb { V4 with lg:=Value.slice none 0 0 } (s.clean.zdZ [])) (refRows { V4 with lg:=Value.slice none 0 0 } (s.clean.zdZ [])++[⟨197,8,V.er,s.ahead.length,qz s.ahead⟩]) s.sg w2):=by
  unfold Hid;rw[aU,zbM];rw[aM.o] at aW;exact aW
 obtain⟨bq,bF,bo⟩:=zC (ad.2.trans (bm.trans (aD.trans au))) aa aU;have e42:w2.cell? (aA nb 42)=some (iA (Ht:Int)):=by rw[aM.o];exact aZ.o.cell 42 rfl
 clear aR bf ad ab ag aj aW bm aD au aa aU HR
 go_upto_region 5 with fail
 rw[<-bF.o];have av:Hid (∀(l:List zt) (v:Value),jY { V4 with lg:=v } (s.clean.zdZ l)):=λl v=>by rw[bo.o];exact⟨aE.o.perm,aE.o.sort,aE.o.tb,aE.o.heap,aE.o.fl⟩
 have a8:Hid (V4.cs.length=s.dec.length):=by unfold Hid;rw[bo.o];exact bJ
 by_cases bn:Ht=12
 .have ak:s.zc1=12:=by rw[<-aM.o];exact bn
  have bC:(Ht:Int)=12:=by omega
  have bB:=af.o.none ak;have a6:Hid (RefW B F R nb kb rb n i (s.zd5 i) w2):=by
   unfold Hid za.zd5;rw[zgT ak,bB];refine⟨{ V4 with lg:=Value.slice none 0 0 },aZ.o.front,a8,⟨(av [] (.slice none 0 0)).perm,(av [] (.slice none 0 0)).sort,(av [] (.slice none 0 0)).tb,(av [] (.slice none 0 0)).heap,λhh=>?_⟩⟩;exact absurd (show s.zc1<12 from hh) (by omega)
  clear bn ak;go_wp2
  go_end0
  exact⟨rfl,F,R,a6,bq⟩
 have bE:((Ht:Int)==12)=false:=by simp;omega
 have bD:¬(Ht:Int)=12:=by omega
 have aB:s.zc1<12:=by rw[<-aM.o];omega
 have bK:Hid (s.zd5 i=(s.clean.zdZ (s.zdw s.ahead.length)).zc9 i 0):=by
  unfold Hid za.zd5 za.zdw;rw[zgU (by omega),zg7];rfl
 have HAL:=af.o.ahead;go_wp2;go_loopw [3,4] (λiv _ wr=>∃(k:Nat) (F':Nat->Prop) (v:Value),k<=s.ahead.length/\iv=iA k/\RawW B F' R nb kb rb n i (refA kb { V4 with lg:=v } (s.clean.zdZ (s.zdw k))) (refRows { V4 with lg:=v } (s.clean.zdZ (s.zdw k))++[⟨197,8,V.er,s.ahead.length,qz s.ahead⟩]) s.sg wr/\Goes F R w F' R wr) (λiv _ _=>s.ahead.length-(intOf iv).toNat)
 case atStart=>exact⟨0,F,.slice none 0 0,zgv _,rfl,aZ,bq⟩
 obtain⟨k,F',v4,hk,rfl,aV,bj⟩:=hrel;rw[aJ.o] at aV;obtain⟨aw,a1⟩:=ze aV bj;clear aV bj;have a7:Hid ((s.zdw k).length<=10000):=by unfold Hid za.zdw;exact zgu (List.length_filter_le _ _) (by rw[List.length_take];omega)
 have aQ:(refRows { V4 with lg:=v4 } (s.clean.zdZ (s.zdw k)))=(refRows { V4 with lg:=v4 } (s.clean.zdZ (s.zdw k))):=rfl;by_cases ai:k=s.ahead.length
 .have hge:¬(k:Int)<s.ahead.length:=by omega
  have aK:Hid (RefW B F' R nb kb rb n i (s.clean.zdZ (s.zdw s.ahead.length)) wr):=by
   have h:=aw.o.front;rw[ai] at h;exact⟨_,h,a8,av _ _⟩
  have bL:=zc (jH aK { af with hgt:=aB,rnd:=by show 0<=20;omega,log:=by show(s.zdw s.ahead.length).length<=10000;rw[<-ai];exact a7,vr:=by show(-1:Int)<=-1;omega,vv:=by show 0<=24;omega,ents:=λe he=>af.o.ents e (List.mem_of_mem_take (List.mem_filter.1 (show e∈s.zdw s.ahead.length from he)).1) } bG.o 0 (by omega) (by show(-1:Int)<_;omega));clear ai;go_wp2_with fail
  refine bL.o.mono ?_;rintro e w9 ⟨rfl,F9,R9,h9,bl⟩;obtain⟨H9,bH⟩:=ze h9 (a1.o.trans bl);clear h9 bl;go_wp2
  go_end0
  exact⟨rfl,F9,R9,by rw[bK.o];exact H9,bH⟩
 have ar:k<s.ahead.length:=by omega
 have bw:(k:Int)<s.ahead.length:=by omega
 obtain⟨lb,lo,bu,ae⟩:∃lb lo,pe=some (aA lb lo)/\wr.rangeAt lb (lo+k*8) (vD (s.ahead.getD k zJ)):=by
  obtain⟨p',c',e,-,hr⟩:=jg vD 8 (λ_=>rfl) zJ (aw.o.own (refRows { V4 with lg:=v4 } (s.clean.zdZ (s.zdw k))).length ⟨197,8,.slice pe s.ahead.length ce,s.ahead.length,qz s.ahead⟩ (by simp));cases e;obtain⟨b,o,e,hb,hr⟩:=hr k ar;exact⟨b,o,e,hr⟩
 subst bu;obtain⟨aq,al⟩:=ze (yo s.ahead zJ k ar) (Xk s k ar);have an:Hid (∀(F'':Nat->Prop) (C:Array Value) (rs:List ky) (X:World),RawW B F'' R nb kb rb n i C (rs++[⟨197,8,.slice (some (aA lb lo)) s.ahead.length ce,s.ahead.length,qz s.ahead⟩]) s.sg X->X.rangeAt lb (lo+k*8) (vD (s.ahead.getD k zJ))):=λ_ _ _ _ h=>(h.extra k ar).2;obtain⟨ev,bg⟩:=gen (s.ahead.getD k zJ);rw[<-bg] at aq al an ae;clear bg;have aH:=af.o.ents ev aq;have bh:=af.o.ao ev aq;have aK:Hid (RefW B F' R nb kb rb n i (s.clean.zdZ (s.zdw k)) wr):=⟨_,aw.o.front,a8,av _ _⟩;have aL:=zc (jG aK af.o.dom af.o.pos (by show s.zc1<=12;omega) ev.m aH.f0 aH.r0 (by have:=aH.r20;omega));have eo:(s.clean.zdZ (s.zdw k)).zc7 ev.m=s.zc7 ev.m:=rfl;rw[eo] at aL;clear eo;obtain⟨ob,bd⟩:=gen (s.zc7 ev.m);rw[<-bd] at aL al;clear bd aH;obtain⟨⟨kd,H,r,f,v,nl,t⟩,fr,own⟩:=ev;have aS:own=false:=bh;subst aS;clear bh;have aY:Hid (wr.rangeAt lb (lo+k*8) [iA kd,iA H,iA r,iA f,iA v,bA nl,sA t,sA fr]):=ae;have aF:Hid (wr.rangeAt lb (lo+k*8) [iA kd,iA H,iA r,iA f,iA v,bA nl,sA t]):=λj x hx=>ae j x (by
  have hj:j<7:=(List.getElem?_eq_some_iff.1 hx).1;match j,hj,hx with
  |0,_,hx|1,_,hx|2,_,hx|3,_,hx|4,_,hx|5,_,hx|6,_,hx=>exact hx)
 clear ae;obtain⟨L,hL⟩:=gen (s.zdw k);rw[<-hL] at aw al a7;clear hL aQ aK;go_wp2_with (first|(refine zgX rfl 57 _ rfl lb (lo+k*8) rfl [iA kd,iA H,iA r,iA f,iA v,bA nl,sA t] _ aF underlying57 rfl Tryz.zda ?_)|fail)
 refine aL.o.mono ?_;rintro e w1 ⟨rfl,aT⟩;obtain⟨ax,br⟩:=ze (aw.o.below aT) (a1.o.trans (Goes.below aT));clear aT aw a1 aL aF aY;cases ob with
 |true=>
  rw[zgU (by decide),List.append_nil] at al;go_wp2;go_roundw
  case rel=>exact⟨k+1,F',v4,ar,by go_num,by rw[al.o,aJ.o];exact ax,br⟩
  simp[intOf];omega
 |false=>
  rw[zgT rfl] at al;have aG:=zc (an _ _ _ _ ax);obtain⟨p,c,bb⟩:=zl (ax.o.own 4 _ rfl);have ah:v4=.slice p L.length c:=bb;have c39:w1.cell? (aA nb 39)=some (.slice p L.length c):=by rw[<-ah];exact ax.o.cell 39 rfl
  have HV:=zc ah;have hll:=a7.o;clear bb ah;go_wp2_with fail
  refine rgd (S:=λX=>X.rangeAt lb (lo+k*8) [iA kd,iA H,iA r,iA f,iA v,bA nl,sA t,sA fr]) aG λhH=>?_;refine takeN [(0,some 48,pA nb 0),(1,some 49,pA nb 0),(2,some 50,pA nb 0),(3,some 51,pA nb 39),(5,some 53,.slice (some (aA lb lo)) s.ahead.length ce),(6,some 54,iA k),(7,some 55,pA lb (lo+k*8)),(8,some 56,.agg ([iA kd,iA H,iA r,iA f,iA v,bA nl,sA t,sA fr]).toArray)] _ _ hH (by repeat(first|exact zgY|((first|refine tkc rfl rfl (zg3 (by rfl) 197 _ rfl lb (lo+k*8) rfl ([iA kd,iA H,iA r,iA f,iA v,bA nl,sA t,sA fr]) _ (λw h=>id h) underlying197 rfl Tryz.zfx) ?_|(refine tkc rfl rfl (zgR ⟨by rfl,λx h=>?_⟩) ?_;focus(go_simp;done)));simp only[AP]))) ?_;simp only[zh,AP,pA];have cL:cE w1.drew nb 39 (.slice p L.length c):=c39;refine gn 4 9 (λK hK=>?_) λK hK=>?_;focus
   go_simp;refine hK.out _ _ aG λhH=>?_;clear hK K;refine zp 9 λK hK=>?_;go_simp;obtain⟨w2,aa⟩:∃z,z=(w1.alloc (.cells #[iA kd,iA H,iA r,iA f,iA v,bA nl,sA t,sA fr] 197)).drew:=⟨_,rfl⟩;have aC:BW w1 w2:=by rw[aa];exact(bwA w1).drew
   have aN:w2.heap[w1.heap.size]? =some (.cells #[iA kd,iA H,iA r,iA f,iA v,bA nl,sA t,sA fr] 197 (0,0)):=by rw[aa];exact zgr w1 _
   have ab:=ax.o.below aC;rw[<-aa];refine hK.out _ _ (an _ _ _ _ ab) λhH=>?_;clear hK K aa cL
  rotate_left;focus
   go_simp;obtain⟨w2,aa⟩:∃z,z=(w1.alloc (.cells #[iA kd,iA H,iA r,iA f,iA v,bA nl,sA t,sA fr] 197)).drew:=⟨_,rfl⟩;have aC:BW w1 w2:=by rw[aa];exact(bwA w1).drew
   have aN:w2.heap[w1.heap.size]? =some (.cells #[iA kd,iA H,iA r,iA f,iA v,bA nl,sA t,sA fr] 197 (0,0)):=by rw[aa];exact zgr w1 _
   have ab:=ax.o.below aC;rw[<-aa];refine hK.out _ _ (an _ _ _ _ ab) λhH=>?_;have cL2:w2.cell? (aA nb 39)=some (.slice p L.length c):=by rw[<-HV.o];exact ab.cell 39 rfl
   clear hK K aa cL;refine zp 4 λK hK=>?_;go_simp;refine hK.out _ _ (an _ _ _ _ ab) λhH=>?_;clear hK K cL2
  rotate_left;all_goals
   refine zp 10 λK hK=>?_;rw[zgT (by rfl)];refine qN (C:=refA kb { V4 with lg:=v4 } (s.clean.zdZ L)) (rs:=refRows { V4 with lg:=v4 } (s.clean.zdZ L)++[⟨197,8,.slice (some (aA lb lo)) s.ahead.length ce,s.ahead.length,qz s.ahead⟩]) _ _ 64 rfl ab 4 (⟨197,8,v4,L.length,qz L⟩) rfl iW (.agg #[iA 0,iA 0,iA 0,iA 0,iA 0,bA false,sA zgV,sA zgV]) 80 underlying64 bx bs aP aO rfl (Nat.zero_lt_succ _) ?h1 (nA w1 0) 1 [iA kd,iA H,iA r,iA f,iA v,bA nl,sA t,sA fr] rfl rfl ?n1 ?n2 ?n3 (by decide) ?_
   case h1=>exact HV.o.symm
   case n1=>
    intro j u hj;rw[addr_add,zg0,zgs w2 w1.heap.size j _ _ _ aN];simpa using hj
   case n2=>
    intro u hu;simp at hu;rcases hu with rfl|rfl|rfl|rfl|rfl|rfl|rfl|rfl<;>rfl
   case n3=>show L.length<=_;omega
   intro v3 w3 F3 p3 c3 bt ag aD;subst bt;refine hK.out _ _ (an _ _ ((refRows { V4 with lg:=v4 } (s.clean.zdZ L)).set 4 (ky.plus ⟨197,8,v4,L.length,qz L⟩ (.slice p3 (L.length+1) c3) [iA kd,iA H,iA r,iA f,iA v,bA nl,sA t,sA fr])) _ (by exact ag)) λhH=>?_;clear hK K;simp only[AP,AQ];refine zx [11,12] hH (λ_ h=>h) ?_;have cS:w3.cell? (aA nb 39)=some (.slice p L.length c):=by rw[<-HV.o];exact ag.cell 39 rfl
   have fS:=ag.frozen 39;refine zp 13 λK hK=>?_;go_simp;obtain⟨aj,au⟩:=ag.set 39 (.slice p3 (L.length+1) c3);refine hK.out _ _ (an _ _ ((refRows { V4 with lg:=v4 } (s.clean.zdZ L)).set 4 (ky.plus ⟨197,8,v4,L.length,qz L⟩ (.slice p3 (L.length+1) c3) [iA kd,iA H,iA r,iA f,iA v,bA nl,sA t,sA fr])) _ (by exact aj)) λhH=>?_;clear hK K hH;refine dnr ?_;obtain⟨bp,bI⟩:=ze aj ((Goes.below (R:=R) aC).trans (aD.trans au));clear aj au ag aD ab aC aN cS fS
   try simp only[AP,AQ]
   have em:kn (s.clean.zdZ (L++[⟨⟨kd,H,r,f,v,nl,t⟩,fr,false⟩]))=kn (s.clean.zdZ L):=by simp[kn,za.zdZ]
   have h:=bp.o;have e:=xy v4 (.slice p3 (L.length+1) c3) L ⟨⟨kd,H,r,f,v,nl,t⟩,fr,false⟩;unfold vD at e;simp only at e;rw[e] at h;have HH:=zc h;clear h e bp;go_wp2;go_roundw
   case rel=>exact⟨k+1,F3,.slice p3 (L.length+1) c3,ar,by go_num,by rw[al.o,aJ.o];unfold refRows;rw[em];exact HH,br.o.trans bI⟩
   simp[intOf];omega
end
def za.zdR(s:za)(i:Nat):Bool×za:=if(s.zdd i).1=true then s.zdd i else if s.zdi.1=true then s.zdi else s.zdl
def za.noTwo(s:za):Prop:=¬s.step=2\/(s.most (votesNoB 2 (s.round:Int))=false/\(s.b2=true\/s.most (votesB 2 (s.round:Int))=false))
theorem zaL{s:za}{i:Nat}(h2:s.step=2)(h:s.most (votesNoB 2 (s.round:Int))=true):s.zdR i=(true,s.nothing i 3 3):=by
 have e:s.zdd i=(true,s.nothing i 3 3):=by unfold za.zdd;rw[zgT ⟨h2,h⟩]
 unfold za.zdR;rw[e,zgT rfl]
theorem GP{s:za}{i:Nat}(h:¬(s.step=2/\s.most (votesNoB 2 (s.round:Int))=true)):s.zdd i=(false,s):=by unfold za.zdd;rw[zgU h]
theorem zaK{s:za}{i:Nat}(h2:s.step=2)(h:s.most (votesNoB 2 (s.round:Int))=false)(hb:s.b2=false)(hv:s.most (votesB 2 (s.round:Int))=true):s.zdR i=(true,s.timer 2 2):=by
 have e:s.zdi=(true,s.timer 2 2):=by unfold za.zdi;rw[zgT ⟨h2,hb,hv⟩]
 unfold za.zdR;rw[GP (by rw[h];simp),zgU (by simp),e,zgT rfl]
theorem JR{s:za}{i:Nat}(h:s.noTwo):s.zdR i=s.zdl:=by
 unfold za.zdR;have h1:¬(s.step=2/\s.most (votesNoB 2 (s.round:Int))=true):=by
  rintro⟨a,b⟩;rcases h with h|⟨h,_⟩
  .exact h a
  rw[h] at b;cases b
 rw[GP h1,zgU (by simp)];have h3:s.zdi=(false,s):=by
  unfold za.zdi;rw[zgU];rintro⟨a,b,c⟩;rcases h with h|⟨_,h|h⟩
  .exact h a
  .rw [h] at b;cases b
  rw[h] at c;cases c
 rw[h3,zgU (by simp)]
theorem xQ{s:za}{i:Nat}(h:s.noTwo)(hv:s.most (votesB 3 (s.round:Int))=true)(hb:s.b3=false):s.zdR i=(true,s.timer 3 2):=by
 rw[JR h];unfold za.zdl;rw[zgT ⟨hb,hv⟩]
theorem qR{s:za}{i:Nat}(h:s.noTwo)(hb:s.b3=true\/s.most (votesB 3 (s.round:Int))=false):s.zdR i=(false,s):=by
 rw[JR h];unfold za.zdl;rw[zgU];rintro⟨a,b⟩;rcases hb with h|h
 .rw [h] at a;cases a
 rw[h] at b;cases b
section
variable{B:Nat}{F R:Nat->Prop}{nb kb rb n i:Nat}{s:za}{w:World}
theorem kC(h:RefW B F R nb kb rb n i s w)(hx:Dom s.x)(he:∀e∈s.log,Kx e)(kind round what:Int)(t:zgW)(hw:what=0\/what=1\/what=2)(fits:zt->Bool)(hf:∀e,sumB kind round what t e=fits e):
 ∃P:Int,0<=P/\P<=72/\powB s.x (sendB fits s.log) 8=P/\(∀W,BW w W->Calls prog 192 #[pA nb 0,iA kind,iA round,iA what,sA t] W λe w'=>e=.returned (iA P)/\BW W w')/\
  (∀W,BW w W->Calls prog 191 #[pA nb 0,iA P] W λe w'=>e=.returned (bA (s.most fits))/\BW W w'):=by
 have e:sumB kind round what t=fits:=funext hf;have hb:=xR s.x (sendB fits s.log) 8 (λi _=>hx i);refine⟨_,hb.1,by have:=hb.2;omega,rfl,λW hW=>?_,λW hW=>?_⟩
 .have h1:=VC (h.below hW) hx (λe hm=>⟨(he e hm).f0,(he e hm).f8⟩) kind round what t hw;rw[e] at h1;exact h1
 exact Jb (h.below hW) hx _ hb.1 (by have:=hb.2;omega)
theorem zcg(r:Int)(e:zt):sumB 2 r 2 ⟨#[]⟩ e=votesNoB 2 r e:=by
 unfold sumB ju votesNoB;cases e.m.nl<;>simp[Bool.and_comm]
theorem XO(k r:Int)(hk:k=2\/k=3)(t:zgW)(e:zt):sumB k r 0 t e=votesB k r e:=by
 unfold sumB ju votesB;have aa:¬k=0:=by omega
 simp[Bool.and_comm,aa]
theorem QS(k r:Int)(hk:k=2\/k=3)(t:zgW)(e:zt):sumB k r 1 t e=votesForB k r t e:=by
 unfold sumB ju votesForB;have aa:¬k=0:=by omega
 cases e.m.nl<;>simp[aa]<;>cases decide (e.m.r=r)<;>cases decide (e.m.k=k)<;>simp
theorem Q9(h:RefW B F R nb kb rb n i s w)(ok:ROk s)(hsg:(s.sg i).length<=1000000000000):
 Calls prog 171 #[pA nb 0] w (Zc B F R nb kb rb n i (s.zdR i).2 w (bA (s.zdR i).1)):=by
 obtain⟨P1,-,-,-,ar,ay⟩:=kC h ok.dom ok.ents 2 (s.round:Int) 2 ⟨#[]⟩ (by omega) (votesNoB 2 (s.round:Int)) (zcg _);obtain⟨P2,-,-,-,aq,ax⟩:=kC h ok.dom ok.ents 2 (s.round:Int) 0 ⟨#[]⟩ (by omega) (votesB 2 (s.round:Int)) (XO _ _ (by omega) _);obtain⟨P3,-,-,-,ao,aw⟩:=kC h ok.dom ok.ents 3 (s.round:Int) 0 ⟨#[]⟩ (by omega) (votesB 3 (s.round:Int)) (XO _ _ (by omega) _);have c43:cE w nb 43 (iA s.round):=h.cell 43 (λ_=>rfl);obtain⟨r,hr⟩:∃r:Int,r=(s.round:Int):=⟨_,rfl⟩;rw[<-hr] at ar aq ao c43;obtain⟨n0,av⟩:=gen (s.most (votesNoB 2 (s.round:Int)));obtain⟨v0,an⟩:=gen (s.most (votesB 2 (s.round:Int)));obtain⟨c0,az⟩:=gen (s.most (votesB 3 (s.round:Int)));rw[<-av] at ay;rw[<-an] at ax;rw[<-az] at aw;obtain⟨aH,aG,aF,aM,aL,aK,al,aJ⟩:=vF ar aq ao ay ax aw av.symm an.symm;obtain⟨aj,H0,ab,aP,HB⟩:=kY az.symm h ok hsg (zgq w.heap.size w);obtain⟨rs,au⟩:=gen (s.zdR i);rw[<-au];have af:=zc au;clear au;clear h ok hsg ar aq ao ay ax aw av an az hr;go_enter func171,ntmps171;go_wp2_with fail
 refine(aH _ HB).mono ?_;rintro e v1 ⟨rfl,hb⟩;have ae:=zc (HB.o.trans (hb.mono HB.o.size));clear hb HB;go_wp2_with fail
 refine(aM _ ae).mono ?_;rintro e u1 ⟨rfl,hb⟩;have HB:=zc (ae.o.trans (hb.mono ae.o.size));clear hb ae aH aM;go_wp2_with fail
 refine(aG _ HB).mono ?_;rintro e v2 ⟨rfl,hb⟩;have ae:=zc (HB.o.trans (hb.mono HB.o.size));clear hb HB;go_wp2_with fail
 refine(aL _ ae).mono ?_;rintro e u2 ⟨rfl,hb⟩;have HB:=zc (ae.o.trans (hb.mono ae.o.size));clear hb ae aG aL;go_wp2_with fail
 refine(aF _ HB).mono ?_;rintro e v3 ⟨rfl,hb⟩;have ae:=zc (HB.o.trans (hb.mono HB.o.size));clear hb HB;go_wp2_with fail
 refine(aK _ ae).mono ?_;rintro e u3 ⟨rfl,hb⟩;have HB:=zc (ae.o.trans (hb.mono ae.o.size));clear hb ae aF aK;have HW:=zc (H0.o.below HB);obtain⟨m49,b2,b3,c49,c50,c51,aB⟩:=HW.o.marks;have c44:cE u3 nb 44 (iA s.step):=HW.o.cell 44 (λ_=>rfl);obtain⟨-,aD,aC⟩:=aB ab.o.hgt;obtain⟨aN,ak⟩:=ze aD aC;clear aB aD aC c43 H0 c49;by_cases h2:s.step=2
 .have aE:(s.step:Int)=2:=by omega
  cases n0 with
  |true=>
   have aO:=zc (qj HW.o 3 ⟨#[]⟩ false (by omega) ab.o.hgt (by have:=ab.o.rnd;omega) (by decide) (by have:=ab.o.log;omega) ab.o.out aP.o);have aa:=zc (af.o.trans (zaL h2 al));clear h2;go_wp2_with fail
   refine aO.o.mono ?_;rintro e w9 ⟨rfl,F9,R9,h9,ad⟩;obtain⟨H9,ah⟩:=ze h9 ((Goes.below (F:=F) (R:=R) HB).trans ad);clear h9 ad;go_wp2;go_ret;exact⟨by rw[aa.o];rfl,F9,R9,by rw[aa.o];exact H9,ah⟩
  |false=>
   cases v0 with
   |true=>
    cases b2 with
    |false=>
     have aa:=zc (af.o.trans (zaK h2 al aN.o.symm aJ));clear h2;have h1:=HW.o.mark 1 true (by omega);have m1:u3.frozen? (aA nb 50)=false:=HW.o.frozen 50;have h2:RefW B F R nb kb rb n i { s with b2:=true } (u3.setCell (aA nb 50) (bA true)):=h1.1;have HT:=zc (kJ h2 2 2 (by show s.tims.length<=_;have:=ab.o.tims;omega) ab.o.time (by omega) (by show s.round<=_;have:=ab.o.rnd;omega) (λ_=>rfl) (by intro e;cases e));have ai:=zc ((Goes.below (F:=F) (R:=R) HB).trans h1.2);clear h1 h2;go_wp2_with fail
     refine HT.o.mono ?_;rintro e w9 ⟨rfl,F9,R9,h9,ad⟩;obtain⟨H9,ah⟩:=ze h9 (ai.o.trans ad);clear h9 ad;go_wp2;go_ret;exact⟨by rw[aa.o];rfl,F9,R9,by rw[aa.o];exact H9,ah⟩
    |true=>
     have ag:Hid s.noTwo:=zgS ⟨al,zgR aN.o.symm⟩;clear h2;cases c0 with
     |false=>
      have aa:=zc (af.o.trans (qR ag (zgS aj)));go_wp2;go_ret;exact⟨by rw[aa.o];rfl,F,R,by rw[aa.o];exact HW,Goes.below HB⟩
     |true=>
      cases b3 with
      |true=>
       have aa:=zc (af.o.trans (qR ag (zgR (ak.o.symm))));go_wp2;go_ret;exact⟨by rw[aa.o];rfl,F,R,by rw[aa.o];exact HW,Goes.below HB⟩
      |false=>
       have aa:=zc (af.o.trans (xQ ag aj ak.o.symm));have h1:=HW.o.mark 2 true (by omega);have m1:u3.frozen? (aA nb 51)=false:=HW.o.frozen 51;have h2:RefW B F R nb kb rb n i { s with b3:=true } (u3.setCell (aA nb 51) (bA true)):=h1.1;have HT:=zc (kJ h2 3 2 (by show s.tims.length<=_;have:=ab.o.tims;omega) ab.o.time (by omega) (by show s.round<=_;have:=ab.o.rnd;omega) (by intro e;cases e) (λ_=>rfl));have ai:=zc ((Goes.below (F:=F) (R:=R) HB).trans h1.2);clear h1 h2;go_wp2_with fail
       refine HT.o.mono ?_;rintro e w9 ⟨rfl,F9,R9,h9,ad⟩;obtain⟨H9,ah⟩:=ze h9 (ai.o.trans ad);clear h9 ad;go_wp2;go_ret;exact⟨by rw[aa.o];rfl,F9,R9,by rw[aa.o];exact H9,ah⟩
   |false=>
    have ag:Hid s.noTwo:=zgS ⟨al,zgS aJ⟩;clear h2;cases c0 with
    |false=>
     have aa:=zc (af.o.trans (qR ag (zgS aj)));go_wp2;go_ret;exact⟨by rw[aa.o];rfl,F,R,by rw[aa.o];exact HW,Goes.below HB⟩
    |true=>
     cases b3 with
     |true=>
      have aa:=zc (af.o.trans (qR ag (zgR (ak.o.symm))));go_wp2;go_ret;exact⟨by rw[aa.o];rfl,F,R,by rw[aa.o];exact HW,Goes.below HB⟩
     |false=>
      have aa:=zc (af.o.trans (xQ ag aj ak.o.symm));have h1:=HW.o.mark 2 true (by omega);have m1:u3.frozen? (aA nb 51)=false:=HW.o.frozen 51;have h2:RefW B F R nb kb rb n i { s with b3:=true } (u3.setCell (aA nb 51) (bA true)):=h1.1;have HT:=zc (kJ h2 3 2 (by show s.tims.length<=_;have:=ab.o.tims;omega) ab.o.time (by omega) (by show s.round<=_;have:=ab.o.rnd;omega) (by intro e;cases e) (λ_=>rfl));have ai:=zc ((Goes.below (F:=F) (R:=R) HB).trans h1.2);clear h1 h2;go_wp2_with fail
      refine HT.o.mono ?_;rintro e w9 ⟨rfl,F9,R9,h9,ad⟩;obtain⟨H9,ah⟩:=ze h9 (ai.o.trans ad);clear h9 ad;go_wp2;go_ret;exact⟨by rw[aa.o];rfl,F9,R9,by rw[aa.o];exact H9,ah⟩
 have aE:¬(s.step:Int)=2:=by omega
 have h2b:((s.step:Int)==2)=false:=by simpa using aE
 have ag:Hid s.noTwo:=zgR h2;clear h2;cases c0 with
 |false=>
  have aa:=zc (af.o.trans (qR ag (zgS aj)));go_wp2;go_ret;exact⟨by rw[aa.o];rfl,F,R,by rw[aa.o];exact HW,Goes.below HB⟩
 |true=>
  cases b3 with
  |true=>
   have aa:=zc (af.o.trans (qR ag (zgR (ak.o.symm))));go_wp2;go_ret;exact⟨by rw[aa.o];rfl,F,R,by rw[aa.o];exact HW,Goes.below HB⟩
  |false=>
   have aa:=zc (af.o.trans (xQ ag aj ak.o.symm));have h1:=HW.o.mark 2 true (by omega);have m1:u3.frozen? (aA nb 51)=false:=HW.o.frozen 51;have h2:RefW B F R nb kb rb n i { s with b3:=true } (u3.setCell (aA nb 51) (bA true)):=h1.1;have HT:=zc (kJ h2 3 2 (by show s.tims.length<=_;have:=ab.o.tims;omega) ab.o.time (by omega) (by show s.round<=_;have:=ab.o.rnd;omega) (by intro e;cases e) (λ_=>rfl));have ai:=zc ((Goes.below (F:=F) (R:=R) HB).trans h1.2);clear h1 h2;go_wp2_with fail
   refine HT.o.mono ?_;rintro e w9 ⟨rfl,F9,R9,h9,ad⟩;obtain⟨H9,ah⟩:=ze h9 (ai.o.trans ad);clear h9 ad;go_wp2;go_ret;exact⟨by rw[aa.o];rfl,F9,R9,by rw[aa.o];exact H9,ah⟩
end
end
section
theorem zbA{a g:Bool}(h:(a&&g)=false):g=false\/(g=true/\a=false):=by
 cases g with
 |false=>exact zgR rfl
 |true=>cases a with
  |false=>exact zgS ⟨rfl,rfl⟩
  |true=>cases h
theorem zae{a g:Bool}(h:(a&&g)=true):a=true/\g=true:=by
 cases g with
 |false=>cases a<;>cases h
 |true=>cases a with
  |false=>cases h
  |true=>exact⟨rfl,rfl⟩
section
variable{B:Nat}{F R:Nat->Prop}{nb kb rb n i:Nat}{s:za}{w:World}
theorem RefW.log(h:RefW B F R nb kb rb n i s w):∃p c,w.cell? (aA nb 39)=some (.slice p s.log.length c)/\s.log.length<=maxLen/\j0 w w.heap.size p s.log/\nb<w.heap.size:=by
 obtain⟨V,hR,-⟩:=h;obtain⟨p,c,-,h1,h2,h3⟩:=hR.log;exact⟨p,c,h1,h2,h3,hR.lt⟩
theorem RefW.zdk(h:RefW B F R nb kb rb n i s w)(t:zgW):∃w',w'=((w.setCell (aA nb 49) (bA true)).setCell (aA nb 46) (iA s.round)).setCell (aA nb 48) (sA t)/\RefW B F R nb kb rb n i (s.zdk t) w'/\Goes F R w F R w':=by
 obtain⟨h1,g1⟩:=h.mark 0 true (by omega);obtain⟨h2,g2⟩:=h1.scalar (s':={ s with held:=true,vr:=(s.round:Int) }) 46 (iA s.round) (λ_=>rfl) (λ_=>rfl) rfl rfl rfl rfl;obtain⟨h3,g3⟩:=h2.scalar (s':=s.zdk t) 48 (sA t) (λ_=>rfl) (λ_=>rfl) rfl rfl rfl rfl;exact⟨_,rfl,h3,g1.trans (g2.trans g3)⟩
theorem RefW.zdx(h:RefW B F R nb kb rb n i s w):∃w',w'=(w.setCell (aA nb 45) (iA s.vr)).setCell (aA nb 47) (sA s.vv)/\RefW B F R nb kb rb n i s.zdx w'/\Goes F R w F R w':=by
 obtain⟨h1,g1⟩:=h.scalar (s':={ s with lr:=s.vr }) 45 (iA s.vr) (λ_=>rfl) (λ_=>rfl) rfl rfl rfl rfl;obtain⟨h2,g2⟩:=h1.scalar (s':=s.zdx) 47 (sA s.vv) (λ_=>rfl) (λ_=>rfl) rfl rfl rfl rfl;exact⟨_,rfl,h2,g1.trans g2⟩

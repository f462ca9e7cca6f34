import Derived.Test.YtcfjhbcpjpgodaaGreatDoorJ30
import Derived.Test.YtcfjhbcpjpgodaaGreatDoorJ32
namespace Go.Proofs.YtcfjhbcpjpgodaaGreatDoor
open Go.RowKit Proofs.Tryz
set_option maxRecDepth 100000
set_option maxHeartbeats 0
set_option linter.all false
section
section
variable{B:Nat}{F R:Nat->Prop}{nb kb rb n i:Nat}{C:Array Value}{rs:List ky}{sg:Nat->List zgW}{w:World}
theorem RawW.pick{rs':List ky}(σ:Nat->Nat)(hσ:∀j k,j<rs'.length->k<rs'.length->σ j=σ k->j=k)(h:RawW B F R nb kb rb n i C rs sg w)(hs:∀j q,rs'[j]? =some q->rs[σ j]? =some q):RawW B F R nb kb rb n i C rs' sg w:=
 { h with own:=λj r hr=>h.own _ r (hs j r hr),ty:=λj r hr=>h.ty _ r (hs j r hr),apart:=λj k a b g ha hb hjk=>h.apart _ _ a b g (hs j a ha) (hs k b hb) (λe=>hjk (hσ _ _ (List.getElem?_eq_some_iff.1 ha).1 (List.getElem?_eq_some_iff.1 hb).1 e)),ff:=λj r g hr=>h.ff _ r g (hs j r hr) }
theorem RawW.swap{r':ky}(h:RawW B F R nb kb rb n i C (rs++[r']) sg w)(k:Nat):RawW B F R nb kb rb n i C (rs.set k r') sg w:=by
 refine h.pick (λj=>if j=k then rs.length else j) (λj l hj hl e=>?_) λj q hq=>?_
 .rw [List.length_set] at hj hl;split at e<;>split at e<;>omega
 have hj:=(List.getElem?_eq_some_iff.1 hq).1;rw[List.length_set] at hj;rw[List.getElem?_set] at hq;by_cases e:j=k
 .rw [zgT e.symm] at hq;rw[zgT e,zgC (zgp _),Nat.sub_self];rw[zgT (by omega)] at hq;exact hq
 rw[zgU (λx=>e x.symm)] at hq;rw[zgU e,zgD hj];exact hq
theorem RawW.nil{t z:Nat}(h:RawW B F R nb kb rb n i C rs sg w)(ht:68≠t):∃F',RawW B F' R nb kb rb n i C (rs++[⟨t,z,.slice none 0 0,0,[]⟩]) sg w/\Goes F R w F' R w:=by
 refine⟨_,h.more (r':=⟨t,z,.slice none 0 0,0,[]⟩) ht (zgQ _ _ _ _) (λg e=>by cases e),⟨λk hk=>?_,λ_ h=>zgR h,⟨rfl,rfl,rfl,zgp _,λ_ _ _=>rfl⟩⟩⟩;rcases hk with hk|hk
 .exact zgR hk
 cases hk
theorem RawW.fresh{r':ky}{w':World}(h:RawW B F R nb kb rb n i C rs sg w)(hb:BW w w')(ho:w'.ownsRow w.heap.size r'.t r'.z r'.v r'.n r'.xs)(ht:68≠r'.t):∃F',RawW B F' R nb kb rb n i C (rs++[r']) sg w'/\Goes F R w F' R w':=by
 have hg:∀g,r'.v.ownBlock=some g->w.heap.size<=g:=λg e=>(ho.lt g e).1;refine⟨_,(h.below hb).more ht (yU ho (zgv _)) (λg e=>?_),⟨λk hk=>?_,λ_ h=>zgR h,(Goes.below (F:=F) (R:=R) hb).same⟩⟩
 .have h1:=hg g e;refine⟨zgu h.bl h1,λhf=>?_,λhr=>?_,λek=>?_⟩
  .have:=(h.fl g hf).2;omega
  .have:=(h.rl g hr).2;omega
  have:=h.key.lt;omega
 rcases hk with hk|hk
 .exact zgR hk
 exact zgS (hg k hk)
end
theorem XG(s:za)(p:zt):xk (s.kept p)=xk s:=by
 unfold xk;apply List.map_congr_left;intro j _
 congr 1
 show((s.dec++[_]).getD j yz).told=_;simp only[List.getD_eq_getElem?_getD];rcases Nat.lt_trichotomy j s.dec.length with h|h|h
 .rw [zgD h]
 .rw [zgC (by omega),h,Nat.sub_self,List.getElem?_eq_none (l:=s.dec) (by omega)];rfl
 rw[List.getElem?_eq_none (l:=s.dec) (by omega),List.getElem?_eq_none (by simp;omega)]
def zU(V:xa)(s:za)(wt v1 v2 v3 cv:Value)(wl bl pl:List zgW)(cl:List Value)(ct:List zgW):List ky:=
 strR wt wl::strR v1 bl::strR v2 pl::⟨30,1,v3,cl.length,cl⟩::⟨197,8,V.lg,s.log.length,qz s.log⟩::strR V.mn (kn s)::⟨197,8,V.er,s.ahead.length,qz s.ahead⟩::⟨203,4,V.tm,V.ts.length,yB V.ts⟩::strR V.ot s.out::(List.zipWith (λv d=>strR v d.cert) V.cs s.dec++[strR cv ct])
def closeRm(V:xa)(s:za):Nat:=9+(List.zipWith (λv d=>strR v d.cert) V.cs s.dec).length
theorem ZS(V:xa)(s:za)(wt v1 v2 v3 cv:Value)(wl bl pl:List zgW)(cl:List Value)(ct:List zgW):(zU V s wt v1 v2 v3 cv wl bl pl cl ct)[closeRm V s]? =some (strR cv ct):=by
 unfold zU closeRm;rw[Nat.add_comm];simp only[List.getElem?_cons_succ];rw[zgC (zgp _),Nat.sub_self];rfl
theorem Xn(V:xa)(s:za)(wt v1 v2 v3 cv cv':Value)(wl bl pl:List zgW)(cl:List Value)(ct ct':List zgW):(zU V s wt v1 v2 v3 cv wl bl pl cl ct).set (closeRm V s) (strR cv' ct')=zU V s wt v1 v2 v3 cv' wl bl pl cl ct':=by
 unfold zU closeRm;rw[Nat.add_comm];simp only[List.set_cons_succ];rw[List.set_append_right _ _ (zgp _),Nat.sub_self];rfl
def closeRn(V:xa)(s:za):Nat:=(List.zipWith (λv d=>strR v d.cert) V.cs s.dec).length+10
theorem vB(V:xa)(s:za)(wt v1 v2 v3 cv:Value)(wl bl pl:List zgW)(cl:List Value)(ct:List zgW):(zU V s wt v1 v2 v3 cv wl bl pl cl ct).length=closeRn V s:=by
 unfold zU closeRn;simp only[List.length_cons,List.length_append,List.length_nil]
theorem ZR(V:xa)(s:za)(wt v1 v2 v3 cv:Value)(wl bl pl:List zgW)(cl:List Value)(ct:List zgW)(r:ky):(zU V s wt v1 v2 v3 cv wl bl pl cl ct++[r])[closeRn V s]? =some r:=by
 rw[zgC (Nat.le_of_eq (vB ..)),vB,Nat.sub_self];rfl
theorem qG(V:xa)(s:za)(wt v1 v2 v3 cv:Value)(wl bl pl:List zgW)(cl:List Value)(ct:List zgW)(q r:ky):(zU V s wt v1 v2 v3 cv wl bl pl cl ct++[q]++[r])[closeRn V s+1]? =some r:=by
 have e:(zU V s wt v1 v2 v3 cv wl bl pl cl ct++[q]).length=closeRn V s+1:=by rw[zgE,vB];rfl
 rw[zgC (Nat.le_of_eq e),e,Nat.sub_self];rfl
theorem vV(V:xa)(s:za)(wt v1 v2 v3 cv:Value)(wl bl pl:List zgW)(cl:List Value)(ct:List zgW)(q r r':ky):(zU V s wt v1 v2 v3 cv wl bl pl cl ct++[q,r]).set (closeRn V s+1) r'=zU V s wt v1 v2 v3 cv wl bl pl cl ct++[q]++[r']:=by
 have e:(zU V s wt v1 v2 v3 cv wl bl pl cl ct).length=closeRn V s:=vB ..
 rw[List.set_append_right _ _ (by omega),e,Nat.add_sub_cancel_left,List.append_assoc];rfl
theorem Xo(V:xa)(s:za)(p:zt)(wt v1 v2 v3 cv:Value)(hcs:V.cs.length=s.dec.length):refRows { V with wt:=wt,vl:=v1,pr:=v2,ct:=v3,cs:=V.cs++[cv] } (s.kept p)=zU V s wt v1 v2 v3 cv (yu s.wait (pcs p.m.s)) (s.dec.map (·.block)++[p.m.s]) (s.dec.map (·.prop)++[p.fr]) (V.cs++[cv]) (certTo (votesForB 3 p.m.r p.m.s) s.log 8):=by
 unfold zU refRows;have e1:(s.kept p).dec=s.dec++[⟨p.m.s,p.fr,certTo (votesForB 3 p.m.r p.m.s) s.log 8,false⟩]:=rfl;rw[e1,List.zipWith_append hcs,List.map_append,List.map_append];rfl
theorem zaN(kb:Nat)(V:xa)(s:za)(x:Nat->Int):((refA kb V s).toList.take 1++(regA x).toList++(refA kb V s).toList.drop (1+(regA x).size)).toArray=refA kb V { s with x:=x }:=by
 have e:(regA x).size=(yd s.x).length:=by simp[regA,yd]
 rw[e];show([Value.pointer (some (aA kb 0))]++yd x++List.drop (1+(yd s.x).length) (_::(yd s.x++_))).toArray=_;rw[Nat.add_comm,List.drop_succ_cons,List.drop_left];rfl
theorem Gb(kb:Nat)(V:xa)(s:za)(p:zt)(wt v1 v2 v3 cv:Value):refA kb { V with wt:=wt,vl:=v1,pr:=v2,ct:=v3 } { s with x:=(behindR s.x p.m.s).1 }=Z8 kb { V with wt:=wt,vl:=v1,pr:=v2,ct:=v3,cs:=V.cs++[cv] } (s.kept p) (Y0 (s.zc1:Int) (s.round:Int) (s.step:Int) s.lr s.vr s.lv s.vv):=by
 unfold Z8;rw[XG];rfl
section
variable{B:Nat}{F R:Nat->Prop}{nb kb rb n i:Nat}{s:za}{w:World}
theorem K4(h:RefW B F R nb kb rb n i s w)(p:zt)(hx:Dom s.x)(hg:s.zdK p.m.s=true)(hpz:p.m.s.size<=24)(hlog:s.log.length<=10000)(hfm:∀t∈s.wait,z7 t=true)(hwl:s.wait.length<=1000)(hh:s.zc1<12)(ok:HOk (s.kept p))(hsg:(s.sg i).length<=1000000000000):
 Calls prog 193 #[pA nb 0,sA p.fr,.agg #[iA p.m.k,iA p.m.h,iA p.m.r,iA p.m.f,iA p.m.v,bA p.m.nl,sA p.m.s]] w (Zc B F R nb kb rb n i (s.zdG i p) w (.tuple #[])):=by
 obtain⟨iW,dC,dj,bE,bD⟩:=info_parts Tryz.zdz;obtain⟨iT,dD,dt,ds,dr⟩:=info_parts Tryz.zez;obtain⟨V,hR,cA,ch⟩:=h;obtain⟨⟨K0,H0,pr,pf,pv,pn,pt⟩,pfr,pown⟩:=p;obtain⟨w1,bo⟩:=gen (w.alloc (.cells #[iA K0,iA H0,iA pr,iA pf,iA pv,bA pn,sA pt] 57));have bS:BW w w1:=by rw[bo];exact bwA w
 have bM:w1.heap[w.heap.size]? =some (.cells #[iA K0,iA H0,iA pr,iA pf,iA pv,bA pn,sA pt] 57 (0,0)):=by rw[bo];exact zgr w _
 have b8:Hid (∀(F' R':Nat->Prop) (X:World),Goes F R w1 F' R' X->cL X w.heap.size #[iA K0,iA H0,iA pr,iA pf,iA pv,bA pn,sA pt] 57):=λF' R' X hG=>(hG.same.block w.heap.size (zj bM) (by
  rintro(hf|hf)
  .have:=(hR.fl _ hf).2;omega
  have:=(hR.rl _ hf).2;omega)).trans bM
 have ak:Hid (∀(F' R':Nat->Prop) (X:World),Goes F R w1 F' R' X->cN X w 6 (sA pt)):=λF' R' X hG=>zgs X _ 6 _ _ _ (b8 F' R' X hG);obtain⟨F1,cK,cQ⟩:=(hR.below bS).nil (t:=9) (z:=1) (by decide);have cU:Hid (RawW B F1 R nb kb rb n i (refA kb V s) (zU V s V.wt V.vl V.pr V.ct (.slice none 0 0) s.wait (s.dec.map (·.block)) (s.dec.map (·.prop)) V.cs []) s.sg w1):=cK;have db:Hid (Goes F R w1 F1 R w1):=cQ;have dm:∃pV cV,V.vl=.slice pV s.dec.length cV:=by
  obtain⟨p,c,e⟩:=zl (hR.own 1 (strR V.vl (s.dec.map (·.block))) rfl);exact⟨p,c,by have h2:V.vl=.slice p (s.dec.map (·.block)).length c:=e;rw[List.length_map] at h2;exact h2⟩
 obtain⟨pV,cV,cF⟩:=dm;have dk:∃pP cP,V.pr=.slice pP s.dec.length cP:=by
  obtain⟨p,c,e⟩:=zl (hR.own 2 (strR V.pr (s.dec.map (·.prop))) rfl);exact⟨p,c,by have h2:V.pr=.slice p (s.dec.map (·.prop)).length c:=e;rw[List.length_map] at h2;exact h2⟩
 obtain⟨pP,cP,cG⟩:=dk;have dn:∃pC cC,V.ct=.slice pC V.cs.length cC:=by
  obtain⟨p,c,e⟩:=zl (hR.own 3 _ rfl);exact⟨p,c,e⟩
 obtain⟨pC,cC,cH⟩:=dn;have hdl:s.dec.length<12:=hh;have cw:=Qt (x:=s.x) (b:=pt) hg hfm;obtain⟨fits,an⟩:=gen (votesForB 3 pr pt);have dQ:Hid (∀e:zt,fits e=(decide (e.m.k=3)&&decide (e.m.r=pr)&& !e.m.nl&&decide (e.m.s=pt))):=λe=>by rw[an];rfl
 obtain⟨bm,bs,bZ,b0,dL,dT,ca,cR⟩:=vF an cF cG cH bo bS cA ch;obtain⟨HX,HFM,de,dO,dM⟩:=kY hx hfm cw ok hsg;have HNB:Hid (nb<w.heap.size):=hR.lt;have dw:pt.size<=24:=hpz;clear hR cK cQ bM bS bo cF cG cH cA ch hx hg hfm cw ok hsg hpz hh an;go_enter func193,ntmps193
 go_upto_region 1 with fail
 rw[<-dL.o];go_wp2;go_loopw [6,7,8,9] (λcv iv _ _ wr=>∃(k:Nat) (F':Nat->Prop),k<=8/\iv=iA k/\RawW B F' R nb kb rb n i (refA kb V s) (zU V s V.wt V.vl V.pr V.ct cv s.wait (s.dec.map (·.block)) (s.dec.map (·.prop)) V.cs (certTo fits s.log k)) s.sg wr/\Goes F R w1 F' R wr) (λ_ iv _ _ _=>8-(intOf iv).toNat)
 case atStart=>exact⟨0,F1,by omega,rfl,cU.o,db.o⟩
 clear cU db;obtain⟨k,F',hk,rfl,aj,aY⟩:=hrel;obtain⟨aw,af⟩:=ze aj aY;clear aj aY;obtain⟨w8,dh⟩:=gen wr;subst dh;by_cases h8:k=8
 .have dB:¬(k:Int)<8:=by omega
  obtain⟨CT,bX⟩:=gen (certTo fits s.log 8);have bd:Hid (RawW B F' R nb kb rb n i (refA kb V s) (zU V s V.wt V.vl V.pr V.ct u6 s.wait (s.dec.map (·.block)) (s.dec.map (·.prop)) V.cs CT) s.sg w8):=by
   have h:=aw.o;rw[h8] at h;rw[bX];exact h
  have dR:=zc bX;clear bX h8 aw;obtain⟨pu,cu,hu⟩:=zl (bd.o.own _ _ (ZS ..));obtain⟨nc,bP⟩:∃z,z=(strR u6 CT).n:=⟨_,rfl⟩;rw[<-bP] at hu;have dq:u6=.slice pu nc cu:=hu;have HNC:Hid (nc=CT.length):=bP;clear hu bP;subst dq
  go_upto_region 11 with fail
  go_cut [] (λwc=>∃(F3:Nat->Prop) (p3:Option Addr) (c3:Nat),RawW B F3 R nb kb rb n i (refA kb { V with vl:=Value.slice p3 (s.dec.length+1) c3 } s) (zU V s V.wt (Value.slice p3 (s.dec.length+1) c3) V.pr V.ct (Value.slice pu nc cu) s.wait ((s.dec.map (·.block))++[pt]) (s.dec.map (·.prop)) V.cs CT) s.sg wc/\Goes F R w1 F3 R wc)
  case first=>
   refine rgd (S:=λX=>cN X w 6 (sA pt)) (ak _ _ _ (af.o.trans (Goes.below (zgq _ w8).drew))) λhH=>?_;refine zZ [(0,some 76,pA nb 0),(1,some 77,pA nb 0),(2,some 78,pA nb 0),(3,some 79,pA nb 36),(5,some 81,pA w.heap.size 6),(6,some 82,sA pt)] _ _ hH (λx h=>h) ?_;simp only[zh,AP,pA];have cL:w8.drew.cell? (aA nb 36)=some (.slice pV s.dec.length cV):=by rw[<-bs.o];exact bd.o.cell 36 rfl
   refine gn 4 7 (λK hK=>?_) λK hK=>?_;focus
    go_simp;refine hK.out _ _ (ak _ _ _ (af.o.trans (Goes.below (zgq _ w8).drew))) λhH=>?_;clear hK K;refine zp 7 λK hK=>?_;go_simp;obtain⟨w2,au⟩:∃z,z=(w8.alloc (.cells #[sA pt] 9)).drew:=⟨_,rfl⟩;have ai:BW w8 w2:=by rw[au];exact(bwA w8).drew
    have bz:w2.heap[w8.heap.size]? =some (.cells #[sA pt] 9 (0,0)):=by rw[au];exact zgr w8 _
    have br:=bd.o.below ai;rw[<-au];refine hK.out _ _ (ak _ _ _ (af.o.trans (Goes.below ai))) λhH=>?_;clear hK K au cL
   rotate_left;focus
    go_simp;obtain⟨w2,au⟩:∃z,z=(w8.alloc (.cells #[sA pt] 9)).drew:=⟨_,rfl⟩;have ai:BW w8 w2:=by rw[au];exact(bwA w8).drew
    have bz:w2.heap[w8.heap.size]? =some (.cells #[sA pt] 9 (0,0)):=by rw[au];exact zgr w8 _
    have br:=bd.o.below ai;rw[<-au];refine hK.out _ _ (ak _ _ _ (af.o.trans (Goes.below ai))) λhH=>?_;have cL2:w2.cell? (aA nb 36)=some (.slice pV s.dec.length cV):=by rw[<-bs.o];exact br.cell 36 rfl
    clear hK K au cL;refine zp 4 λK hK=>?_;go_simp;refine hK.out _ _ (ak _ _ _ (af.o.trans (Goes.below ai))) λhH=>?_;clear hK K cL2
   rotate_left;all_goals
    refine zp 8 λK hK=>?_;rw[zgT (by rfl)];refine qN (C:=refA kb V s) (rs:=zU V s V.wt V.vl V.pr V.ct (.slice pu nc cu) s.wait (s.dec.map (·.block)) (s.dec.map (·.prop)) V.cs CT) _ _ 30 rfl br 1 (⟨9,1,V.vl,s.dec.length,(s.dec.map (·.block)).map .string⟩) (by show some (strR V.vl _)=_;unfold strR;rw[List.length_map]) iW (sA zgV) 16 underlying30 dC dj bE bD rfl (Nat.zero_lt_succ _) ?h1 (nA w8 0) 1 [sA pt] rfl rfl ?n1 ?n2 ?n3 (by decide) ?_
    case h1=>exact bs.o.symm
    case n1=>
     intro j u hj;rw[addr_add,zg0,zgs w2 w8.heap.size j _ _ _ bz];simpa using hj
    case n2=>
     intro u hu;simp at hu;rcases hu with rfl<;>rfl
    case n3=>show s.dec.length<=_;omega
    intro v3 w3 F3 p3 c3 bH ax aE;subst bH;refine hK.out _ _ (ak _ _ _ (af.o.trans ((Goes.below ai).trans aE))) λhH=>?_;clear hK K;simp only[AP,AQ];refine y8 [(9,some 85,pA nb 0),(10,some 86,pA nb 36)] _ _ hH ?_;simp only[zh,AP,pA];have cS:w3.cell? (aA nb 36)=some (.slice pV s.dec.length cV):=by rw[<-bs.o];exact ax.cell 36 rfl
    have fS:=ax.frozen 36;refine zp 11 λK hK=>?_;go_simp;obtain⟨cJ,bW⟩:=ax.set 36 (.slice p3 (s.dec.length+1) c3);refine hK.out _ _ (ak _ _ _ (af.o.trans ((Goes.below ai).trans (aE.trans bW)))) λhH=>?_;clear hK K hH;refine dnr ?_;obtain⟨cX,dd⟩:=ze cJ ((Goes.below (R:=R) ai).trans (aE.trans bW));clear cJ bW ax aE br ai bz cS fS
    try simp only[AP,AQ]
    have bc:Hid (RawW B F3 R nb kb rb n i (refA kb { V with vl:=Value.slice p3 (s.dec.length+1) c3 } s) (zU V s V.wt (Value.slice p3 (s.dec.length+1) c3) V.pr V.ct (Value.slice pu nc cu) s.wait ((s.dec.map (·.block))++[pt]) (s.dec.map (·.prop)) V.cs CT) s.sg (w3.setCell (aA nb 36) (Value.slice p3 (s.dec.length+1) c3))):=by
     have h:=cX.o;have e:ky.plus ⟨9,1,V.vl,s.dec.length,(s.dec.map (·.block)).map .string⟩ (Value.slice p3 (s.dec.length+1) c3) [sA pt]=strR (Value.slice p3 (s.dec.length+1) c3) (s.dec.map (·.block)++[pt]):=by simp[strR,ky.plus]
     rw[e] at h;exact h
    have bx:=zc (af.o.trans dd);clear cX dd;go_wp2_with fail
    go_meet
    case rel=>exact⟨F3,p3,c3,bc,bx⟩
  obtain⟨F3,p3,c3,cI,cM⟩:=hcut;obtain⟨w4,di⟩:=gen wc;subst di;obtain⟨bc,bx⟩:=ze cI cM;have c37:w4.cell? (aA nb 37)=some (.slice pP s.dec.length cP):=by rw[<-bZ.o];exact bc.o.cell 37 rfl
  clear cI cM bd af;go_wp2_with (first|(at_builtin;refine yk (C:=refA kb { V with vl:=Value.slice p3 (s.dec.length+1) c3 } s) (rs:=zU V s V.wt (Value.slice p3 (s.dec.length+1) c3) V.pr V.ct (Value.slice pu nc cu) s.wait ((s.dec.map (·.block))++[pt]) (s.dec.map (·.prop)) V.cs CT) rfl _ _ rfl bc.o 2 V.pr (s.dec.map (·.prop)) rfl ?x1 pfr ?x2 ?x3 ?_)|fail)
  case x1=>exact bZ.o.symm
  try (case x2=>rfl)
  case x3=>first|omega|(rw[List.length_map];omega)
  intro v5 w5 F5 p5 c5 cg bq cO
  try rw[List.length_map] at cg
  subst cg;have d37:w5.cell? (aA nb 37)=some (.slice pP s.dec.length cP):=by rw[<-bZ.o];exact bq.cell 37 rfl
  have f37:=bq.frozen 37;obtain⟨bU,bV⟩:=bq.set 37 (Value.slice p5 (s.dec.length+1) c5);obtain⟨w6,bG⟩:=gen (w5.setCell (aA nb 37) (Value.slice p5 (s.dec.length+1) c5));rw[<-bG] at bU bV;have b3:Hid (RawW B F5 R nb kb rb n i (refA kb { V with vl:=Value.slice p3 (s.dec.length+1) c3,pr:=Value.slice p5 (s.dec.length+1) c5 } s) (zU V s V.wt (Value.slice p3 (s.dec.length+1) c3) (Value.slice p5 (s.dec.length+1) c5) V.ct (Value.slice pu nc cu) s.wait ((s.dec.map (·.block))++[pt]) ((s.dec.map (·.prop))++[pfr]) V.cs CT) s.sg w6):=bU;obtain⟨dc,dK⟩:=ze (bx.o.trans (cO.trans bV)) bG;clear bq cO bU bV bG bc bx c37
  go_upto_region 13 with fail
  rw[<-dK.o];have c38:w6.cell? (aA nb 38)=some (.slice pC V.cs.length cC):=by rw[<-b0.o];exact b3.o.cell 38 rfl
  clear d37 f37;go_wp2_with (first|(at_builtin;refine xc (C:=refA kb { V with vl:=Value.slice p3 (s.dec.length+1) c3,pr:=Value.slice p5 (s.dec.length+1) c5 } s) (rs:=zU V s V.wt (Value.slice p3 (s.dec.length+1) c3) (Value.slice p5 (s.dec.length+1) c5) V.ct (Value.slice pu nc cu) s.wait ((s.dec.map (·.block))++[pt]) ((s.dec.map (·.prop))++[pfr]) V.cs CT) rfl _ _ 63 rfl (b3.o.below (bwA w6)) 3 ⟨30,1,V.ct,V.cs.length,V.cs⟩ rfl iT (.slice none 0 0) 24 underlying63 dD dt ds dr rfl (Nat.zero_lt_succ _) ?y1 (nA w6 0) 1 [Value.slice pu nc cu] ?y2 rfl ?y3 ?y4 ?y5 (by decide) ?_)|fail)
  case y1=>exact b0.o.symm
  try (case y2=>rfl)
  case y3=>exact cell_one_new _ _ _
  case y4=>simp[Value.oneCell']
  case y5=>show V.cs.length<=_;rw[ca.o];omega
  intro v7 w7 F7 p7 c7 dp aB aP;subst dp;have d38:w7.cell? (aA nb 38)=some (.slice pC V.cs.length cC):=by rw[<-b0.o];exact aB.cell 38 rfl
  have f38:=aB.frozen 38;obtain⟨bT,aO⟩:=aB.set 38 (Value.slice p7 (V.cs.length+1) c7);obtain⟨w9,bF⟩:=gen (w7.setCell (aA nb 38) (Value.slice p7 (V.cs.length+1) c7));rw[<-bF] at bT aO;have b4:Hid (RawW B F7 R nb kb rb n i (refA kb { V with vl:=Value.slice p3 (s.dec.length+1) c3,pr:=Value.slice p5 (s.dec.length+1) c5,ct:=Value.slice p7 (V.cs.length+1) c7 } s) (zU V s V.wt (Value.slice p3 (s.dec.length+1) c3) (Value.slice p5 (s.dec.length+1) c5) (Value.slice p7 (V.cs.length+1) c7) (Value.slice pu nc cu) s.wait ((s.dec.map (·.block))++[pt]) ((s.dec.map (·.prop))++[pfr]) (V.cs++[Value.slice pu nc cu]) CT) s.sg w9):=by
   have e:ky.plus ⟨30,1,V.ct,V.cs.length,V.cs⟩ (Value.slice p7 (V.cs.length+1) c7) [Value.slice pu nc cu]=⟨30,1,Value.slice p7 (V.cs.length+1) c7,(V.cs++[Value.slice pu nc cu]).length,(V.cs++[Value.slice pu nc cu])⟩:=by simp[ky.plus]
   have h:=bT;rw[e] at h;exact h
  obtain⟨ay,dJ⟩:=ze (dc.o.trans ((Goes.below (bwA w6)).trans (aP.trans aO))) bF;clear aB aP bT aO bF b3 dc c38
  go_upto_region 14 with fail
  rw[<-dJ.o];clear d38 f38;have bb:Hid (w9.drew.rangeAt nb 1 (yd s.x)):=λj v hv=>by
   have hj:j<34:=by have:=(List.getElem?_eq_some_iff.1 hv).1;simpa [yd] using this
   show w9.cell? (aA nb (1+j))=some v;rw[zgs w9 nb (1+j) _ _ _ b4.o.blk,<-hv];unfold refA zbv;rw[List.getElem?_toArray,Nat.add_comm 1 j,List.getElem?_cons_succ,zgD (by simpa [yd] using hj)]
  go_wp2_with fail
  refine rgd (S:=λX=>cN X w 6 (sA pt)) (ak _ _ _ (ay.o.trans (Goes.below (zgq _ w9).drew))) λhH=>?_;refine zZ [(0,some 108,pA nb 0),(1,some 109,pA nb 0),(2,some 110,pA nb 0),(3,some 111,pA nb 1),(5,some 113,pA w.heap.size 6),(6,some 114,sA pt)] _ _ hH (λx h=>h) ?_;simp only[zh,AP,pA];refine zp 4 λK hK=>?_;refine wp_load_mid 49 _ rfl nb 1 rfl (yd s.x) _ bb underlying49 rfl (by rw[Tryz.zc3];simp[yd]) ?_;refine hK.out _ _ (ak _ _ _ (ay.o.trans (Goes.below (zgq _ w9).drew))) λhH=>?_;clear hK K
  try simp only[AP,AQ]
  refine zp 7 λK hK=>?_;go_simp;refine(YO s.x pt w9.drew HX.o (by omega)).mono ?_;rintro e w10 ⟨rfl,aV⟩;simp only[AP,AQ];have ad:BW w9 w10:=((zgq _ w9).drew).trans aV;refine hK.out _ _ (ak _ _ _ (ay.o.trans (Goes.below ad))) λhH=>?_;clear hK K
  try simp only[AP,AQ]
  refine y8 [(8,some 107,.tuple #[.agg (regA (behindR s.x pt).1),bA (behindR s.x pt).2]),(9,some 116,.agg (regA (behindR s.x pt).1)),(10,some 117,bA (behindR s.x pt).2),(11,some 118,pA nb 0),(12,some 119,pA nb 1)] _ _ hH ?_;simp only[zh,AP,pA];have aD:=b4.o.below ad;refine zp 13 λK hK=>?_;refine zr 49 _ _ rfl nb 1 (regA (behindR s.x pt).1) rfl rfl 68 _ aD.blk (by show 1+(regA _).size<=_;rw[Ga];simp[regA,yd]) (by simp[regA,yd,Value.oneCell']) (by rw[Tryz.zc3];simp[regA,yd]) ?_;intro w11 bK cn;obtain⟨aB,aP⟩:=aD.store (by rw[zaN] at bK;exact bK) cn;refine hK.out _ _ (ak _ _ _ (ay.o.trans ((Goes.below ad).trans aP))) λhH=>?_;clear hK K hH;refine dnr ?_;obtain⟨aK,aG⟩:=ze (ay.o.trans ((Goes.below ad).trans aP)) aB;clear aD aB bK cn aP ad aV b4 ay bb
  try simp only[AP,AQ]
  obtain⟨x1,bB⟩:∃x,x=(behindR s.x pt).1:=⟨_,rfl⟩;rw[<-bB] at aG;have dI:=zc bB;clear bB;have c6:=ak.o _ _ _ aK;have b1:=zc (KO pt w11 (by omega));obtain⟨L,hL⟩:∃l,l=(ym pt).1:=⟨_,rfl⟩;rw[<-hL] at b1 de;clear hL;go_wp2_with fail
  refine b1.o.mono ?_;rintro e w12 ⟨v12,rfl,av,aU⟩;obtain⟨F12,aX,a8⟩:=aG.o.fresh (r':=strR v12 L) aU av (by show 68≠9;decide);obtain⟨qp,qc,bL⟩:=zl av;subst bL;obtain⟨bg,bj⟩:=ze aX (aK.o.trans a8);have c4:Hid (L.length<=maxLen):=by
   obtain⟨_,_,_,h,_⟩:=zL av;exact h
  have hLm:L.length<=9223372036854775807:=by have:=c4.o;unfold maxLen at this;omega
  clear aX a8 aU av b1 aG aK c6 c4;go_wp2;go_loopw [12,13,14,15] (λiv _ _ _ wr=>∃(j:Nat) (F':Nat->Prop) (wt:Value),j<=L.length/\iv=iA j/\RawW B F' R nb kb rb n i (refA kb { V with wt:=wt,vl:=Value.slice p3 (s.dec.length+1) c3,pr:=Value.slice p5 (s.dec.length+1) c5,ct:=Value.slice p7 (V.cs.length+1) c7 } { s with x:=x1 }) (zU V s wt (Value.slice p3 (s.dec.length+1) c3) (Value.slice p5 (s.dec.length+1) c5) (Value.slice p7 (V.cs.length+1) c7) (Value.slice pu nc cu) (yu s.wait (L.take j)) ((s.dec.map (·.block))++[pt]) ((s.dec.map (·.prop))++[pfr]) (V.cs++[Value.slice pu nc cu]) CT++[strR (.slice qp L.length qc) L]) s.sg wr/\Goes F R w1 F' R wr) (λiv _ _ _ _=>L.length-(intOf iv).toNat)
  case atStart=>exact⟨0,F12,V.wt,zgv _,rfl,bg,bj⟩
  clear bg bj;obtain⟨j,Fj,wt,hj,rfl,az,aZ⟩:=hrel;obtain⟨ao,aH⟩:=ze az aZ;clear az aZ;by_cases ab:j=L.length
  .have cr:¬(j:Int)<L.length:=by omega
   have bn:Hid (RawW B Fj R nb kb rb n i (Z8 kb { V with wt:=wt,vl:=Value.slice p3 (s.dec.length+1) c3,pr:=Value.slice p5 (s.dec.length+1) c5,ct:=Value.slice p7 (V.cs.length+1) c7,cs:=(V.cs++[Value.slice pu nc cu]) } (s.kept ⟨⟨K0,H0,pr,pf,pv,pn,pt⟩,pfr,pown⟩) (Y0 (s.zc1:Int) (s.round:Int) (s.step:Int) s.lr s.vr s.lv s.vv)) (refRows { V with wt:=wt,vl:=Value.slice p3 (s.dec.length+1) c3,pr:=Value.slice p5 (s.dec.length+1) c5,ct:=Value.slice p7 (V.cs.length+1) c7,cs:=(V.cs++[Value.slice pu nc cu]) } (s.kept ⟨⟨K0,H0,pr,pf,pv,pn,pt⟩,pfr,pown⟩)) s.sg wr):=by
    have h:=ao.o.front;rw[ab,zg7,<-de.o,dI.o,dR.o,bm.o] at h;rw[Xo _ _ _ _ _ _ _ _ ca.o,<-Gb];exact h
   have da:=zc (xr bn (by show(V.cs++[_]).length=(s.dec++[_]).length;rw[zgE,zgE,ca.o];rfl) { cR with fl:=λ_=>cR.o.fl (by show s.dec.length<12;omega) } dO.o dM.o);clear ab bn ao;go_wp2_with fail
   refine da.o.mono ?_;rintro e w9 ⟨rfl,F9,R9,h9,aO⟩;obtain⟨H9,ay⟩:=ze h9 ((Goes.below (F:=F) (R:=R) dT).trans (aH.o.trans aO));clear h9 aO da;go_wp2
   go_end0
   exact⟨rfl,F9,R9,H9,ay⟩
  have ah:j<L.length:=by omega
  have bQ:(j:Int)<L.length:=by omega
  clear ab;obtain⟨qb,qo,du⟩:∃qb qo,qp=some (aA qb qo):=by
   obtain⟨p9,c9,e9,-,aN⟩:=zL (ao.o.own (closeRn V s) _ (ZR ..));cases e9;obtain⟨b,o,e,-⟩:=aN j ah;exact⟨b,o,e⟩
  subst du;have cZ:Hid (∀(Fx:Nat->Prop) (Cx:Array Value) (wt wl v1 v2 v3 cv) (bl pl:List zgW) (cl:List Value) (ct:List zgW) (more:List ky) (X:World),RawW B Fx R nb kb rb n i Cx (zU V s wt v1 v2 v3 cv wl bl pl cl ct++[strR (.slice (some (aA qb qo)) L.length qc) L]++more) s.sg X->X.cell? (aA qb (qo+j))=some (sA (L.getD j zgV))):=λFx Cx wt wl v1 v2 v3 cv bl pl cl ct more X hX=>by
   obtain⟨p9,c9,e9,-,aN⟩:=zL (hX.front.own (closeRn V s) _ (ZR ..));cases e9;obtain⟨b,o,e,-,hc⟩:=aN j ah;cases e;exact hc
  have aL:=zc (gC s.wait L j ah);obtain⟨t,ht⟩:=gen (L.getD j zgV);rw[<-ht] at cZ aL;obtain⟨wl,hwl⟩:=gen (yu s.wait (L.take j));rw[<-hwl] at ao aL;have cf:wl.length<=1000:=by
   have:=(jk s.wait (L.take j)).length_le;rw[hwl];omega
  clear ht hwl;obtain⟨F13,aW,a7⟩:=ao.o.nil (t:=9) (z:=1) (by decide);obtain⟨lp,lc,cd,-,-⟩:=zL (ao.o.own 0 (strR wt wl) rfl);have bC:wt=.slice lp wl.length lc:=cd;clear cd;subst bC;obtain⟨bf,bh⟩:=ze aW (aH.o.trans a7);clear aW a7 ao aH;obtain⟨wa,dg⟩:=gen wr;subst dg;go_wp2;go_loopw [13,14,15] (λrv gv kv wr=>∃(k:Nat) (F':Nat->Prop),k<=wl.length/\kv=iA k/\gv=bA (Yb t (wl.take k))/\RawW B F' R nb kb rb n i (refA kb { V with wt:=.slice lp wl.length lc,vl:=Value.slice p3 (s.dec.length+1) c3,pr:=Value.slice p5 (s.dec.length+1) c5,ct:=Value.slice p7 (V.cs.length+1) c7 } { s with x:=x1 }) (zU V s (.slice lp wl.length lc) (Value.slice p3 (s.dec.length+1) c3) (Value.slice p5 (s.dec.length+1) c5) (Value.slice p7 (V.cs.length+1) c7) (Value.slice pu nc cu) wl ((s.dec.map (·.block))++[pt]) ((s.dec.map (·.prop))++[pfr]) (V.cs++[Value.slice pu nc cu]) CT++[strR (.slice (some (aA qb qo)) L.length qc) L]++[strR rv (yO t (wl.take k))]) s.sg wr/\Goes F R w1 F' R wr) (λ_ _ kv _=>wl.length-(intOf kv).toNat)
  case atStart=>exact⟨0,F13,zgv _,rfl,rfl,bf,bh⟩
  clear bf bh;obtain⟨k,Fk,hk,rfl,rfl,aj,aY⟩:=hrel;have c35:cE wr nb 35 (.slice lp wl.length lc):=aj.cell 35 rfl;have cj:=cZ.o _ _ _ _ _ _ _ _ _ _ _ _ _ _ aj;obtain⟨aw,af⟩:=ze aj aY;clear aY;by_cases ab:k=wl.length
  .have cr:¬(k:Int)<wl.length:=by omega
   obtain⟨px,cx,bJ⟩:=zl (aj.own (closeRn V s+1) _ (qG ..));obtain⟨nx,cp⟩:∃z,z=(strR u13 (yO t (wl.take k))).n:=⟨_,rfl⟩;rw[<-cp] at bJ;have bI:u13=.slice px nx cx:=bJ;clear bJ cp;subst bI;have f35:=aj.frozen 35;obtain⟨aC,a1⟩:=(aj.swap 0).set 35 (.slice px nx cx);have b7:Hid (RawW B Fk R nb kb rb n i (refA kb { V with wt:=Value.slice px nx cx,vl:=Value.slice p3 (s.dec.length+1) c3,pr:=Value.slice p5 (s.dec.length+1) c5,ct:=Value.slice p7 (V.cs.length+1) c7 } { s with x:=x1 }) (zU V s (Value.slice px nx cx) (Value.slice p3 (s.dec.length+1) c3) (Value.slice p5 (s.dec.length+1) c5) (Value.slice p7 (V.cs.length+1) c7) (Value.slice pu nc cu) (yu s.wait (L.take (j+1))) ((s.dec.map (·.block))++[pt]) ((s.dec.map (·.prop))++[pfr]) (V.cs++[Value.slice pu nc cu]) CT++[strR (.slice (some (aA qb qo)) L.length qc) L]) s.sg (wr.setCell (aA nb 35) (.slice px nx cx))):=by
    rw[ab,zg7,<-aL.o] at aC;exact aC
   have b9:=zc (af.o.trans a1);clear aC a1 aj aw af ab cj;go_wp2;go_roundw
   case rel=>exact⟨j+1,Fk,.slice px nx cx,ah,by go_num,b7,b9⟩
   simp[intOf];omega
  have ag:k<wl.length:=by omega
  have cq:(k:Int)<wl.length:=by omega
  clear ab;obtain⟨p9,c9,e9,-,aN⟩:=zL (aj.own 0 (strR (.slice lp wl.length lc) wl) rfl);cases e9;obtain⟨lb,lo,he,-,cD⟩:=aN k ag;subst he;have aF:=zc (zy wl zgV k ag);obtain⟨e0,bR⟩:=gen (wl.getD k zgV);have ck:wr.cell? (aA lb (lo+k))=some (sA e0):=by rw[bR];exact cD
  rw[<-bR] at aF;clear bR cD aN aj;obtain⟨aM,aS⟩:=ze (ZL t e0 (wl.take k)) (Xb t e0 (wl.take k));rw[<-aF.o] at aM aS;have dG:(yO t (wl.take k)).length<=1000:=by
   have h1:=Xj t (wl.take k);have h2:=List.length_take_le k wl;omega
  obtain⟨er,cz⟩:=gen (yO t (wl.take k));rw[<-cz] at aw aM dG;clear cz;obtain⟨g,hg⟩:=gen (Yb t (wl.take k));rw[<-hg] at aM aS ⊢;clear hg aF;obtain⟨bt,bw⟩:=ze (aw.o.below ((zgq _ wr).drew)) (af.o.trans (Goes.below ((zgq _ wr).drew)));clear aw af;by_cases heq:e0=t
  .have dF:=heq.symm;clear heq;subst dF;cases g with
   |true=>
    go_wp2_with fail
    refine rgd (S:=λX=>cE X nb 35 (.slice (some (aA lb lo)) wl.length lc)/\cE X lb (lo+k) (sA t)/\cE X qb (qo+j) (sA t)) ⟨c35,ck,cj⟩ λhH=>?_;refine zZ [(0,some 141,pA nb 0),(1,some 142,pA nb 0),(2,some 143,pA nb 35),(3,some 144,.slice (some (aA lb lo)) wl.length lc),(4,some 145,iA k),(5,some 146,pA lb (lo+k)),(6,some 147,sA t),(7,some 148,.slice (some (aA qb qo)) L.length qc),(8,some 149,iA j),(9,some 150,pA qb (qo+j)),(10,some 151,sA t),(11,some 152,bA true),(12,some 153,bA true),(13,some 154,bA true),(14,some 155,bA false),(15,some 156,bA false)] _ _ hH (λx h=>aI h.1 (aI h.2.1 (h.2.2))) ?_;simp only[zh,AP,pA];refine dnr ?_;clear hH
    try simp only[AP,AQ]
    go_wp2_with (first|(at_builtin;refine yk (C:=refA kb { V with wt:=.slice (some (aA lb lo)) wl.length lc,vl:=Value.slice p3 (s.dec.length+1) c3,pr:=Value.slice p5 (s.dec.length+1) c5,ct:=Value.slice p7 (V.cs.length+1) c7 } { s with x:=x1 }) (rs:=zU V s (.slice (some (aA lb lo)) wl.length lc) (Value.slice p3 (s.dec.length+1) c3) (Value.slice p5 (s.dec.length+1) c5) (Value.slice p7 (V.cs.length+1) c7) (Value.slice pu nc cu) wl ((s.dec.map (·.block))++[pt]) ((s.dec.map (·.prop))++[pfr]) (V.cs++[Value.slice pu nc cu]) CT++[strR (.slice (some (aA qb qo)) L.length qc) L]++[strR u13 er]) rfl _ _ rfl bt.o (closeRn V s+1) u13 er ?z0 ?z1 t ?z2 ?z3 ?_)|fail)
    case z0=>exact qG ..
    try (case z1=>rfl)
    try (case z2=>rfl)
    case z3=>omega
    intro v15 w15 F15 p15 c15 al aa ae;first|rw[closeR_set2] at aa|rw[vV] at aa
    obtain⟨aq,ar⟩:=ze aa (bw.o.trans ae);clear aa ae al;go_wp2;go_roundw
    case rel=>exact⟨k+1,F15,ag,by go_num,by rw[aS.o];simp,by rw[aM.o,zgU (by rintro⟨_,h⟩;cases h)];exact aq,ar⟩
    simp[intOf];omega
   |false=>
    go_wp2_with fail
    refine rgd (S:=λX=>cE X nb 35 (.slice (some (aA lb lo)) wl.length lc)/\cE X lb (lo+k) (sA t)/\cE X qb (qo+j) (sA t)) ⟨c35,ck,cj⟩ λhH=>?_;refine zZ [(0,some 141,pA nb 0),(1,some 142,pA nb 0),(2,some 143,pA nb 35),(3,some 144,.slice (some (aA lb lo)) wl.length lc),(4,some 145,iA k),(5,some 146,pA lb (lo+k)),(6,some 147,sA t),(7,some 148,.slice (some (aA qb qo)) L.length qc),(8,some 149,iA j),(9,some 150,pA qb (qo+j)),(10,some 151,sA t),(11,some 152,bA true),(12,some 153,bA true),(13,some 154,bA false),(14,some 155,bA true),(15,some 156,bA true)] _ _ hH (λx h=>aI h.1 (aI h.2.1 (h.2.2))) ?_;simp only[zh,AP,pA];refine dnr ?_;clear hH
    try simp only[AP,AQ]
    go_wp2;go_roundw
    case rel=>exact⟨k+1,Fk,ag,by go_num,by rw[aS.o];simp,by rw[aM.o,zgT (by simp),List.append_nil];exact bt,bw⟩
    simp[intOf];omega
  have dA:=kP heq;have dz:¬e0.toList=t.toList:=by simpa using dA
  cases g with
  |true=>
   go_wp2_with fail
   refine rgd (S:=λX=>cE X nb 35 (.slice (some (aA lb lo)) wl.length lc)/\cE X lb (lo+k) (sA e0)/\cE X qb (qo+j) (sA t)) ⟨c35,ck,cj⟩ λhH=>?_;refine zZ [(0,some 141,pA nb 0),(1,some 142,pA nb 0),(2,some 143,pA nb 35),(3,some 144,.slice (some (aA lb lo)) wl.length lc),(4,some 145,iA k),(5,some 146,pA lb (lo+k)),(6,some 147,sA e0),(7,some 148,.slice (some (aA qb qo)) L.length qc),(8,some 149,iA j),(9,some 150,pA qb (qo+j)),(10,some 151,sA t),(11,some 152,bA false),(12,some 153,bA false),(13,some 154,undef),(14,some 155,undef),(15,some 156,bA false)] _ _ hH (λx h=>aI h.1 (aI h.2.1 (h.2.2))) ?_;simp only[zh,AP,pA];refine dnr ?_;clear hH
   try simp only[AP,AQ]
   go_wp2_with (first|(at_builtin;refine yk (C:=refA kb { V with wt:=.slice (some (aA lb lo)) wl.length lc,vl:=Value.slice p3 (s.dec.length+1) c3,pr:=Value.slice p5 (s.dec.length+1) c5,ct:=Value.slice p7 (V.cs.length+1) c7 } { s with x:=x1 }) (rs:=zU V s (.slice (some (aA lb lo)) wl.length lc) (Value.slice p3 (s.dec.length+1) c3) (Value.slice p5 (s.dec.length+1) c5) (Value.slice p7 (V.cs.length+1) c7) (Value.slice pu nc cu) wl ((s.dec.map (·.block))++[pt]) ((s.dec.map (·.prop))++[pfr]) (V.cs++[Value.slice pu nc cu]) CT++[strR (.slice (some (aA qb qo)) L.length qc) L]++[strR u13 er]) rfl _ _ rfl bt.o (closeRn V s+1) u13 er ?z0 ?z1 e0 ?z2 ?z3 ?_)|fail)
   case z0=>exact qG ..
   try (case z1=>rfl)
   try (case z2=>rfl)
   case z3=>omega
   intro v15 w15 F15 p15 c15 al aa ae;first|rw[closeR_set2] at aa|rw[vV] at aa
   obtain⟨aq,ar⟩:=ze aa (bw.o.trans ae);clear aa ae al;go_wp2;go_roundw
   case rel=>exact⟨k+1,F15,ag,by go_num,by rw[aS.o];simp,by rw[aM.o,zgU (by rintro⟨h,_⟩;exact heq h)];exact aq,ar⟩
   simp[intOf];omega
  |false=>
   go_wp2_with fail
   refine rgd (S:=λX=>cE X nb 35 (.slice (some (aA lb lo)) wl.length lc)/\cE X lb (lo+k) (sA e0)/\cE X qb (qo+j) (sA t)) ⟨c35,ck,cj⟩ λhH=>?_;refine zZ [(0,some 141,pA nb 0),(1,some 142,pA nb 0),(2,some 143,pA nb 35),(3,some 144,.slice (some (aA lb lo)) wl.length lc),(4,some 145,iA k),(5,some 146,pA lb (lo+k)),(6,some 147,sA e0),(7,some 148,.slice (some (aA qb qo)) L.length qc),(8,some 149,iA j),(9,some 150,pA qb (qo+j)),(10,some 151,sA t),(11,some 152,bA false),(12,some 153,bA false),(13,some 154,undef),(14,some 155,undef),(15,some 156,bA false)] _ _ hH (λx h=>aI h.1 (aI h.2.1 (h.2.2))) ?_;simp only[zh,AP,pA];refine dnr ?_;clear hH
   try simp only[AP,AQ]
   go_wp2_with (first|(at_builtin;refine yk (C:=refA kb { V with wt:=.slice (some (aA lb lo)) wl.length lc,vl:=Value.slice p3 (s.dec.length+1) c3,pr:=Value.slice p5 (s.dec.length+1) c5,ct:=Value.slice p7 (V.cs.length+1) c7 } { s with x:=x1 }) (rs:=zU V s (.slice (some (aA lb lo)) wl.length lc) (Value.slice p3 (s.dec.length+1) c3) (Value.slice p5 (s.dec.length+1) c5) (Value.slice p7 (V.cs.length+1) c7) (Value.slice pu nc cu) wl ((s.dec.map (·.block))++[pt]) ((s.dec.map (·.prop))++[pfr]) (V.cs++[Value.slice pu nc cu]) CT++[strR (.slice (some (aA qb qo)) L.length qc) L]++[strR u13 er]) rfl _ _ rfl bt.o (closeRn V s+1) u13 er ?z0 ?z1 e0 ?z2 ?z3 ?_)|fail)
   case z0=>exact qG ..
   try (case z1=>rfl)
   try (case z2=>rfl)
   case z3=>omega
   intro v15 w15 F15 p15 c15 al aa ae;first|rw[closeR_set2] at aa|rw[vV] at aa
   obtain⟨aq,ar⟩:=ze aa (bw.o.trans ae);clear aa ae al;go_wp2;go_roundw
   case rel=>exact⟨k+1,F15,ag,by go_num,by rw[aS.o];simp[heq],by rw[aM.o,zgU (by rintro⟨h,_⟩;exact heq h)];exact aq,ar⟩
   simp[intOf];omega
 have dB:(k:Int)<8:=by omega
 go_wp2;go_loopw [6,8,9] (λcv iv _ wr=>∃(j:Nat) (F':Nat->Prop),j<=s.log.length/\iv=iA j/\RawW B F' R nb kb rb n i (refA kb V s) (zU V s V.wt V.vl V.pr V.ct cv s.wait (s.dec.map (·.block)) (s.dec.map (·.prop)) V.cs (certTo fits s.log k++zF (λe=>decide (e.m.f=(k:Int))&&fits e) (s.log.take j))) s.sg wr/\Goes F R w1 F' R wr) (λ_ iv _ _=>s.log.length-(intOf iv).toNat)
 case atStart=>exact⟨0,F',by omega,rfl,by simpa [zF] using aw.o,af.o⟩
 clear aw af;obtain⟨j,F2,hj,rfl,az,aZ⟩:=hrel;obtain⟨q,c,hq,-,hit⟩:=jg vD 8 (λ_=>rfl) zJ (az.own 4 _ rfl);have bN:V.lg=.slice q s.log.length c:=hq;have c39:wr.cell? (aA nb 39)=some (.slice q s.log.length c):=by rw[<-bN];exact az.cell 39 rfl
 obtain⟨ao,aH,HQ,c8⟩:=yi az aZ bN hit;clear az aZ hq bN hit;by_cases ab:j=s.log.length
 .have cr:¬(j:Int)<s.log.length:=by omega
  have dN:Hid (RawW B F2 R nb kb rb n i (refA kb V s) (zU V s V.wt V.vl V.pr V.ct u6 s.wait (s.dec.map (·.block)) (s.dec.map (·.prop)) V.cs (certTo fits s.log (k+1))) s.sg wr):=by
   have h:=ao.o;rw[ab,zg7] at h;exact h
  clear ab;go_wp2;go_roundw
  case rel=>exact⟨k+1,F2,by omega,by go_num,dN.o,aH.o⟩
  simp[intOf];omega
 have ah:j<s.log.length:=by omega
 have bQ:(j:Int)<s.log.length:=by omega
 obtain⟨lb,lo,dv,dH,bp⟩:=c8.o j ah;subst dv;have cT:=zc (zy s.log zJ j ah);obtain⟨ev,cy⟩:=gen (s.log.getD j zJ);rw[<-cy] at cT bp;clear cy ab;have bu:=zc (Qs (λe=>decide (e.m.f=(k:Int))&&fits e) (s.log.take j) ev);rw[<-cT.o] at bu;have aT:=zc (dQ ev);obtain⟨⟨kd,H,r,f,v,nl,t⟩,fr,own⟩:=ev;have ba:Hid (wr.rangeAt lb (lo+j*8) [iA kd,iA H,iA r,iA f,iA v,bA nl,sA t,sA fr]):=bp;have cW:Hid (wr.rangeAt lb (lo+j*8) [iA kd,iA H,iA r,iA f,iA v,bA nl,sA t]):=λk x hx=>bp k x (by
  have hk:k<7:=(List.getElem?_eq_some_iff.1 hx).1;match k,hk,hx with
  |0,_,hx|1,_,hx|2,_,hx|3,_,hx|4,_,hx|5,_,hx|6,_,hx=>exact hx)
 clear bp
 go_upto_region 9 with(first|(refine zgX rfl 57 _ rfl lb (lo+j*8) rfl [iA kd,iA H,iA r,iA f,iA v,bA nl,sA t] _ cW.o underlying57 rfl Tryz.zda ?_)|(refine zf rfl 57 _ _ rfl wr #[iA kd,iA H,iA r,iA f,iA v,bA nl,sA t] rfl rfl 57 _ rfl (by simp[Value.oneCell']) Tryz.zda ?_;intro w2 cm ai df;have aQ:=zc cm;have cc:Hid (BW wr w2):=ai;clear cm ai df)|fail)
 obtain⟨b5,aJ⟩:=ze (ao.o.below cc) (aH.o.trans (Goes.below cc));have bO:=b8.o _ _ _ aJ;have a0:cN w2 wr 0 (iA kd):=zgs w2 _ 0 _ _ _ aQ;have a2:cN w2 wr 2 (iA r):=zgs w2 _ 2 _ _ _ aQ;have a3:cN w2 wr 3 (iA f):=zgs w2 _ 3 _ _ _ aQ;have a5:cN w2 wr 5 (bA nl):=zgs w2 _ 5 _ _ _ aQ;have a6:cN w2 wr 6 (sA t):=zgs w2 _ 6 _ _ _ aQ;have b2:cN w2 w 2 (iA pr):=zgs w2 _ 2 _ _ _ bO;have b6:cN w2 w 6 (sA pt):=zgs w2 _ 6 _ _ _ bO;have e39:w2.cell? (aA nb 39)=some (.slice (some (aA lb lo)) s.log.length c):=by rw[<-HQ.o];exact b5.o.cell 39 rfl
 have e7:cE w2 lb (lo+j*8+7) (sA fr):=(cc.o.cell (p:=(aA lb (lo+j*8+7))) (by exact dH)).trans (ba 7 _ rfl);have aR:Hid ((decide (f=(k:Int))&&fits ⟨⟨kd,H,r,f,v,nl,t⟩,fr,own⟩)=false->RawW B F2 R nb kb rb n i (refA kb V s) (zU V s V.wt V.vl V.pr V.ct u6 s.wait (s.dec.map (·.block)) (s.dec.map (·.prop)) V.cs (certTo fits s.log k++zF (λe=>decide (e.m.f=(k:Int))&&fits e) (s.log.take (j+1)))) s.sg w2):=λdE=>by
  rw[bu.o,zgU (by rw[dE];decide),List.append_nil];exact b5
 have cB:(certTo fits s.log k++zF (λe=>decide (e.m.f=(k:Int))&&fits e) (s.log.take j)).length<=1000000:=by
  have h1:=xF fits s.log k;have h2:=qh (λe=>decide (e.m.f=(k:Int))&&fits e) (s.log.take j);have h3:=List.length_take_le j s.log;have h4:k*s.log.length<=8*s.log.length:=Nat.mul_le_mul_right _ hk;rw[zgE];omega
 have dS:=zc cB;clear bO cB aQ cW ba c8 ao aH c39 b8;by_cases k3:f=(k:Int)
 .subst k3;by_cases k0:kd=3
  .subst k0;by_cases k2:r=pr
   .have dy:=k2.symm;clear k2;subst dy;cases nl with
    |true=>
     go_wp2;go_roundw
     case rel=>exact⟨j+1,F2,ah,by go_num,aR (by rw[aT.o];simp),aJ.o⟩
     simp[intOf];omega
    |false=>
     by_cases k6:t=pt
     .have dx:=k6.symm;clear k6;subst dx;have bY:Hid (zF (λe=>decide (e.m.f=(k:Int))&&fits e) (s.log.take (j+1))=zF (λe=>decide (e.m.f=(k:Int))&&fits e) (s.log.take j)++[fr]):=by
       unfold Hid;rw[bu.o,zgT (by dsimp only;rw[aT.o];simp)]
      clear bu aR aT;go_wp2_with (first|(at_builtin;refine yk (C:=refA kb V s) (rs:=zU V s V.wt V.vl V.pr V.ct u6 s.wait (s.dec.map (·.block)) (s.dec.map (·.prop)) V.cs (certTo fits s.log k++zF (λe=>decide (e.m.f=(k:Int))&&fits e) (s.log.take j))) rfl _ _ rfl b5.o (closeRm V s) u6 (certTo fits s.log k++zF (λe=>decide (e.m.f=(k:Int))&&fits e) (s.log.take j)) ?g0 ?g1 fr ?g2 ?g3 ?_)|fail)
      case g0=>exact ZS ..
      case g1=>rfl
      case g2=>rfl
      case g3=>have:=dS.o;omega
      intro v3 w3 F3 p3 c3 bH ax aE;rw[Xn] at ax;obtain⟨cY,dP⟩:=ze ax (aJ.o.trans aE);clear ax aE bH;go_wp2;go_roundw
      case rel=>exact⟨j+1,F3,ah,by go_num,by rw[bY.o];first|exact cY|(rw[<-List.append_assoc];exact cY),dP⟩
      simp[intOf];omega
     have k7:=kP k6;have k8:¬t.toList=pt.toList:=by simpa using k7
     go_wp2;go_roundw
     case rel=>exact⟨j+1,F2,ah,by go_num,aR (by rw[aT.o];simp[k6]),aJ.o⟩
     simp[intOf];omega
   have k2b:(r==pr)=false:=by simpa using k2
   go_wp2;go_roundw
   case rel=>exact⟨j+1,F2,ah,by go_num,aR (by rw[aT.o];simp[k2]),aJ.o⟩
   simp[intOf];omega
  have k0b:(kd==3)=false:=by simpa using k0
  go_wp2;go_roundw
  case rel=>exact⟨j+1,F2,ah,by go_num,aR (by rw[aT.o];simp[k0]),aJ.o⟩
  simp[intOf];omega
 have k3b:(f==(k:Int))=false:=by simpa using k3
 go_wp2;go_roundw
 case rel=>exact⟨j+1,F2,ah,by go_num,aR.o (by simp[k3]),aJ.o⟩
 simp[intOf];omega
end
end
section
def vY(n:Nat)(b:Nat->Bool):Array Value:=((List.range n).map λq=>Value.bool (b q)).toArray
theorem QD{n:Nat}(b:Nat->Bool)(q:Nat)(h:q<n):(vY n b)[q]? =some (bA (b q)):=by
 unfold vY;rw[List.getElem?_toArray,List.getElem?_map,List.getElem?_range h];rfl
theorem zaa{n:Nat}(b:Nat->Bool)(q:Nat):(vY n b).setIfInBounds q (bA true)=vY n (zak b q):=by
 apply Array.ext_getElem?;intro k;rw[Array.getElem?_setIfInBounds];unfold vY zak;simp only[List.getElem?_toArray,List.getElem?_map,List.size_toArray,List.length_map,List.length_range];by_cases hk:k<n
 .rw [List.getElem?_range hk];by_cases e:q=k
  .subst e;rw[zgT rfl,zgT hk];simp
  rw[zgU e];have e2:¬k=q:=λx=>e x.symm;simp[e2]
 rw[List.getElem?_eq_none (by simp;omega)];split
 .rename_i e;rw[zgU (by omega)];rfl
 rfl
def rnB(l:List zt)(q:Nat):Bool:=l.any λe=>decide (e.m.k=1)&&decide (e.m.r=(q:Int))
theorem zaJ(l:List zt)(e:zt)(q:Nat):rnB (l++[e]) q=(rnB l q||(decide (e.m.k=1)&&decide (e.m.r=(q:Int)))):=by simp[rnB]
theorem zci{l:List zt}{q:Nat}(h:rnB l q=false)(fits:zt->Bool):∀e∈l,ye (q:Int) fits e=false:=λe he=>by
 unfold rnB at h;rw[List.any_eq_false] at h;have h1:=h e he;unfold ye;cases hx:(decide (e.m.k=1)&&decide (e.m.r=(q:Int))) with
 |true=>exact absurd hx h1
 |false=>rw[Bool.false_and]
section
variable{B:Nat}{F R:Nat->Prop}{nb kb rb n i:Nat}{s:za}{w:World}
theorem Z7(h:RefW B F R nb kb rb n i s w)(ok:ROk s)(hsg:(s.sg i).length<=1000000000000)(hkp:∀p∈s.log,s.zdK p.m.s=true->HOk (s.kept p)):
 Calls prog 167 #[pA nb 0] w (Zc B F R nb kb rb n i (za.zdm i s).2 w (bA (za.zdm i s).1)):=by
 obtain⟨rs,aP⟩:=gen (za.zdm i s);rw[<-aP];have bz:=zc aP;have bH:Hid ((∀k,F k->k<w.heap.size)/\∀k,R k->k<w.heap.size):=by
  obtain⟨V,hR,-⟩:=h;exact⟨λk hk=>(hR.fl k hk).2,λk hk=>(hR.rl k hk).2⟩
 obtain⟨p,c,hc,ay,hl,aS⟩:=h.log;have hmx:s.log.length<=9223372036854775807:=by unfold maxLen at ay;omega
 obtain⟨HL,HC,H0,ag,bP,bU⟩:=xz hl hc h ok hsg hkp;clear h ok hsg hkp hl hc ay aP;go_enter func167,ntmps167;go_wp2;go_loopw [4,5] (λiv _ wr=>∃j:Nat,j<=s.log.length/\iv=iA j/\cL wr w.heap.size (vY 21 (rnB (s.log.take j))) 268/\BW w wr) (λiv _ _=>s.log.length-(intOf iv).toNat)
 case atStart=>exact⟨0,zgv _,rfl,zgr w _,bwA w⟩
 obtain⟨j,hj,rfl,br,hb⟩:=hrel;obtain⟨HB,aM⟩:=ze hb br;have c39:cE wr nb 39 (.slice p s.log.length c):=(hb.cell (p:=(aA nb 39)) (by exact aS)).trans HC;clear hb br;by_cases aa:j=s.log.length
 .have bO:¬(j:Int)<s.log.length:=by omega
  have af:Hid (wr.heap[w.heap.size]? =some (.cells (vY 21 (rnB s.log)) 268 (0,0))):=by have h:=aM.o;rw[aa,zg7] at h;exact h
  clear aa aM;obtain⟨w8,bK⟩:=gen wr;subst bK;go_wp2;go_loopw [6,7,8,9,10] (λqv _ _ _ _ w9=>∃q:Nat,q<=21/\qv=iA q/\(∀r,r<q->s.zdE r=none)/\cL w9 w.heap.size (vY 21 (rnB s.log)) 268/\BW w w9) (λqv _ _ _ _ _=>21-(intOf qv).toNat)
  case atStart=>exact⟨0,by omega,rfl,λr hr=>(by omega),af.o,HB.o⟩
  clear af HB c39;obtain⟨q,hq,rfl,ax,ao,hb⟩:=hrel;obtain⟨bf,af,HB⟩:=zC ax ao hb;clear ax ao hb;by_cases bw:q=21
  .have aR:¬(q:Int)<=20:=by omega
   have ae:Hid (rs=(false,s)):=bz.o.trans (jP (ZP (λr hr=>bf.o r (by omega))));clear bw;go_wp2;go_ret;exact⟨by rw[ae.o];rfl,F,R,by rw[ae.o];exact H0.o.below HB,Goes.below HB⟩
  have aR:(q:Int)<=20:=by omega
  have aQ:q<21:=by omega
  obtain⟨fits,bt⟩:∃f:zt->Bool,f=λp=>s.most (votesForB 3 (q:Int) p.m.s)&&s.zdK p.m.s:=⟨_,rfl⟩;have bm:=zc bt;have bI:Hid ((∀e∈s.log,ye (q:Int) fits e=false)->∀r,r<q+1->s.zdE r=none):=λhp r hr=>by
   by_cases e:r=q
   .rw [e];unfold za.zdE;rw[<-bm.o];exact qV hp
   exact bf.o r (by omega)
  clear bt bw;obtain⟨wb,bJ⟩:=gen wr;subst bJ;go_wp2;go_loopw [7,8,9,10] (λjv _ _ _ w9=>∃j:Nat,j<=s.log.length/\jv=iA j/\(∀e∈s.log.take j,ye (q:Int) fits e=false)/\cL w9 w.heap.size (vY 21 (rnB s.log)) 268/\BW w w9) (λjv _ _ _ _=>s.log.length-(intOf jv).toNat)
  case atStart=>exact⟨0,zgv _,rfl,λe he=>(by simp at he),af.o,HB.o⟩
  clear af HB;obtain⟨j,hj,rfl,ax,ao,hb⟩:=hrel;obtain⟨bh,af,HB⟩:=zC ax ao hb;have c39:cE wr nb 39 (.slice p s.log.length c):=(hb.cell (p:=(aA nb 39)) (by exact aS)).trans HC;have cq:cN wr w q (bA (rnB s.log q)):=(zgs _ _ q _ _ _ ao).trans (QD _ q aQ);clear ax ao hb;by_cases aa:j=s.log.length
  .have bO:¬(j:Int)<s.log.length:=by omega
   have bj:Hid (∀r,r<q+1->s.zdE r=none):=bI.o (by have h9:=bh.o;rw[aa,zg7] at h9;exact h9);clear aa cq;go_wp2;go_roundw
   case rel=>exact⟨q+1,by omega,by go_num,bj.o,af.o,HB.o⟩
   simp[intOf];omega
  have ab:j<s.log.length:=by omega
  have al:(j:Int)<s.log.length:=by omega
  cases av:rnB s.log q with
  |false=>
   have bj:Hid (∀r,r<q+1->s.zdE r=none):=bI.o (zci av fits);rw[av] at cq;clear aa av;go_wp2;go_roundw
   case rel=>exact⟨q+1,by omega,by go_num,bj.o,af.o,HB.o⟩
   simp[intOf];omega
  |true=>
   rw[av] at cq;clear aa av;obtain⟨lb,lo,rfl,bu,aj⟩:=HL.o.below HB j ab;obtain⟨ad,aB,bD⟩:=zC (yo s.log zJ j ab) (zy s.log zJ j ab) (λhp=>qU (fits:=fits) (r:=(q:Int)) ab bh hp);obtain⟨ev,ar⟩:=gen (s.log.getD j zJ);rw[<-ar] at ad aB bD aj;obtain⟨bT,bW⟩:=ze HL ar.symm;clear ar;have bo:=(ag.o.ents ev ad).z;obtain⟨⟨kd,H,r,f,v,nl,t⟩,fr,own⟩:=ev;have aO:t.size<=24:=bo;have bR:Hid (wr.rangeAt lb (lo+j*8) [iA kd,iA H,iA r,iA f,iA v,bA nl,sA t,sA fr]):=aj;have aC:Hid (wr.rangeAt lb (lo+j*8) [iA kd,iA H,iA r,iA f,iA v,bA nl,sA t]):=λk x hx=>aj k x (by
    have hk:k<7:=(List.getElem?_eq_some_iff.1 hx).1;match k,hk,hx with
    |0,_,hx|1,_,hx|2,_,hx|3,_,hx|4,_,hx|5,_,hx|6,_,hx=>exact hx)
   clear aj bo
   go_upto_region 15 with(first|(refine zgX rfl 57 _ rfl lb (lo+j*8) rfl [iA kd,iA H,iA r,iA f,iA v,bA nl,sA t] _ aC.o underlying57 rfl Tryz.zda ?_)|(refine zf rfl 57 _ _ rfl wr #[iA kd,iA H,iA r,iA f,iA v,bA nl,sA t] rfl rfl 57 _ rfl (by simp[Value.oneCell']) Tryz.zda ?_;intro w2 aw az aN;have ai:=zc aw;have aG:Hid (BW wr w2):=az;clear aw az aN)|fail)
   obtain⟨ak,ah⟩:=ze (HB.o.trans (aG.o.mono HB.o.size)) (blk af aG);have a0:cN w2 wr 0 (iA kd):=zgs w2 _ 0 _ _ _ ai;have a2:cN w2 wr 2 (iA r):=zgs w2 _ 2 _ _ _ ai;have a6:cN w2 wr 6 (sA t):=zgs w2 _ 6 _ _ _ ai;have bd:Hid (ye (q:Int) fits ⟨⟨kd,H,r,f,v,nl,t⟩,fr,own⟩=false->∀e∈s.log.take (j+1),ye (q:Int) fits e=false):=λhp e he=>by
    rw[aB.o] at he;rcases List.mem_append.1 he with he|he
    .exact bh e he
    rw[List.mem_singleton.1 he];exact hp
   clear c39 cq al aC HL af;by_cases k1:kd=1
   .subst k1;by_cases k2:r=(q:Int)
    .subst k2;obtain⟨P1,-,-,-,bq,aT⟩:=kC H0.o ag.o.dom ag.o.ents 3 (q:Int) 1 t (by omega) (votesForB 3 (q:Int) t) (QS _ _ (by omega) _);obtain⟨a1,aX⟩:=gen (s.most (votesForB 3 (q:Int) t));obtain⟨g1,aV⟩:=gen (s.zdK t);rw[<-aX] at aT;have bE:Hid (ye (q:Int) fits ⟨⟨1,H,(q:Int),f,v,nl,t⟩,fr,own⟩=(a1&&g1)):=by unfold Hid;rw[bm.o,aX,aV];unfold ye;simp
     obtain⟨bQ,bS,bG⟩:=zC bq aT aV;have bl:=zc (jd (H0.o.below ak.o) ag.o.dom t (by omega));rw[<-bG.o] at bl;clear bq aT aX aV;go_wp2_with fail
     refine bl.o.mono ?_;rintro e w3 ⟨rfl,aL⟩;obtain⟨a8,bc,aE⟩:=zC (ak.o.trans (aL.mono ak.o.size)) (blk ai aL) (blk ah aL);have b6:cN w3 wr 6 (sA t):=zgs w3 _ 6 _ _ _ bc;have bp:=bQ.o _ a8;have bx:=zc bp;clear aL bp a0 a2 a6 bl ai ah;go_wp2_with fail
     refine bx.o.mono ?_;rintro e w4 ⟨rfl,aK⟩;obtain⟨a7,bC,aD⟩:=zC (a8.o.trans (aK.mono a8.o.size)) (blk bc aK) (blk aE aK);have bs:=bS.o _ a7;have bF:=zc bs;clear aK bs b6 bx bc aE;go_wp2_with fail
     refine bF.o.mono ?_;rintro e w5 ⟨rfl,aJ⟩;obtain⟨an,au,bb⟩:=zC (a7.o.trans (aJ.mono a7.o.size)) (blk bC aJ) (blk aD aJ);clear aJ bF bC aD;by_cases aq:(a1&&g1)=true
     .obtain ⟨ea,eg⟩:=zae aq
      have ae:Hid (rs=(true,s.zdG i ⟨⟨1,H,(q:Int),f,v,nl,t⟩,fr,own⟩)):=bz.o.trans (xE (QB (r:=q) (by omega) bf.o (by unfold za.zdE;rw[<-bm.o];exact bD (by rw[bE.o];exact aq))));have aU:s.zdK t=true:=by rw[<-bG.o];exact eg
      have bn:=zc (K4 (H0.o.below (an.o.trans ((zgq _ w5).drew.mono an.o.size))) ⟨⟨1,H,(q:Int),f,v,nl,t⟩,fr,own⟩ ag.o.dom aU aO ag.o.log ag.o.form ag.o.wait ag.o.hgt (bU _ ad aU) bP);have hcl:cE w5 nb 39 (.slice (some (aA lb lo)) s.log.length c):=(an.o.cell (p:=(aA nb 39)) (by exact aS)).trans HC;have hz0:w.heap.size<=wr.heap.size:=HB.o.size;have hz1:wr.heap.size<=w5.heap.size:=zgI (zj au);have hcf:w5.cell? (aA lb (lo+j*8+7))=some (sA fr):=by
       obtain⟨b',o',e',hb',bN⟩:=bT.o.below an j ab;cases e';have h7:=bN 7 _ rfl;rw[bW.o] at h7;exact h7
      subst ea eg;clear aq aU;go_wp2_with fail
      refine rgd (S:=λX=>cL X wr.heap.size #[iA 1,iA H,iA q,iA f,iA v,bA nl,sA t] 57) (blk au ((zgq _ w5).drew)) λhH=>?_;refine takeN [(0,some 84,pA nb 0),(1,some 85,pA nb 0),(2,some 86,pA nb 0),(3,some 87,pA nb 39),(5,some 89,iA j),(9,some 93,.agg #[iA 1,iA H,iA q,iA f,iA v,bA nl,sA t])] _ _ hH (by repeat(first|exact zgY|((first|refine tkc rfl rfl (zg3 (by rfl) 57 _ rfl wr.heap.size 0 rfl [iA 1,iA H,iA q,iA f,iA v,bA nl,sA t] _ (λw h=>qT h) underlying57 rfl Tryz.zda) ?_|(refine tkc rfl rfl (zgR ⟨by rfl,λx h=>?_⟩) ?_;focus(go_simp;done)));simp only[AP]))) ?_;simp only[zh,AP,pA];refine zp 4 λK hK=>?_;go_simp;refine hK.out _ _ (blk au ((zgq _ w5).drew)) λhH=>?_;clear hK K
      try simp only[AP,AQ]
      refine zx [6,7] hH (λ_ h=>h) ?_;refine zp 8 λK hK=>?_;go_simp;refine hK.out _ _ (blk au ((zgq _ w5).drew)) λhH=>?_;clear hK K
      try simp only[AP,AQ]
      refine zp 10 λK hK=>?_;go_simp;refine bn.o.mono ?_;rintro e w6 ⟨rfl,F6,R6,h6,aY⟩;refine hK.out _ _ ?_ λhH=>?_
      .refine (aY.same.block _ (zj au) ?_).trans au
       rintro(hf|hf)
       .have:=bH.o.1 _ hf;omega
       have:=bH.o.2 _ hf;omega
      clear hK K hH;refine dnr ?_;obtain⟨H6,bV⟩:=ze h6 ((Goes.below (F:=F) (R:=R) (an.o.trans ((zgq _ w5).drew.mono an.o.size))).trans aY);clear h6 aY
      try simp only[AP,AQ]
      go_wp2;go_ret;exact⟨by rw[ae.o];rfl,F6,R6,by rw[ae.o];exact H6,bV⟩
     have aF:=zc (bd (by rw[bE.o];simpa using aq));rcases zbA (by simpa using aq) with e|⟨e,e2⟩;focus
      subst e
     rotate_left;focus
      subst e e2
     rotate_left;all_goals
      clear aq;go_wp2;go_roundw
      case rel=>exact⟨j+1,ab,by go_num,aF,bb,an⟩
      simp[intOf];omega
    have k2b:(r==(q:Int))=false:=by simpa using k2
    have k2c:(r != (q:Int))=true:=by simpa using k2
    have aF:=zc (bd (by unfold ye;simp[k2]));go_wp2;go_roundw
    case rel=>exact⟨j+1,ab,by go_num,aF,ah,ak⟩
    simp[intOf];omega
   have k1b:(kd==1)=false:=by simpa using k1
   have k1c:(kd != 1)=true:=by simpa using k1
   have aF:=zc (bd (by unfold ye;simp[k1]));go_wp2;go_roundw
   case rel=>exact⟨j+1,ab,by go_num,aF,ah,ak⟩
   simp[intOf];omega
 have ab:j<s.log.length:=by omega
 have al:(j:Int)<s.log.length:=by omega
 have hz:w.heap.size<wr.heap.size:=zj aM;obtain⟨lb,lo,rfl,bu,aj⟩:=HL.o.below HB j ab;obtain⟨ad,aB⟩:=ze (yo s.log zJ j ab) (zy s.log zJ j ab);obtain⟨ev,ar⟩:=gen (s.log.getD j zJ);rw[<-ar] at ad aB aj;clear ar aa;have aW:=ag.o.ents ev ad;have ba:=zc (λq=>zaJ (s.log.take j) ev q);rw[<-aB.o] at ba;obtain⟨⟨kd,H,r,f,v,nl,t⟩,fr,own⟩:=ev;obtain⟨ri,rfl⟩:∃ri:Nat,r=(ri:Int):=⟨r.toNat,by have h1:0<=r:=aW.r0;omega⟩;have bM:ri<21:=by have h1:(ri:Int)<=20:=aW.r20;omega
 have bL:(ri:Int)<21:=by omega
 have aC:Hid (wr.rangeAt lb (lo+j*8) [iA kd,iA H,iA ri,iA f,iA v,bA nl,sA t]):=λk x hx=>aj k x (by
  have hk:k<7:=(List.getElem?_eq_some_iff.1 hx).1;match k,hk,hx with
  |0,_,hx|1,_,hx|2,_,hx|3,_,hx|4,_,hx|5,_,hx|6,_,hx=>exact hx)
 clear aj aW
 go_upto_region 6 with(first|(refine zgX rfl 57 _ rfl lb (lo+j*8) rfl [iA kd,iA H,iA ri,iA f,iA v,bA nl,sA t] _ aC.o underlying57 rfl Tryz.zda ?_)|(refine zf rfl 57 _ _ rfl wr #[iA kd,iA H,iA ri,iA f,iA v,bA nl,sA t] rfl rfl 57 _ rfl (by simp[Value.oneCell']) Tryz.zda ?_;intro w2 aw az aN;have ai:=zc aw;have aG:Hid (BW wr w2):=az;clear aw az aN)|fail)
 have ak:=zc (HB.o.trans (aG.o.mono HB.o.size));have aH:=blk aM aG;have bB:=zc aH;have a0:cN w2 wr 0 (iA kd):=zgs w2 _ 0 _ _ _ ai;have a2:cN w2 wr 2 (iA ri):=zgs w2 _ 2 _ _ _ ai;have d4:cN w2 w ri (bA (rnB (s.log.take j) ri)):=(zgs w2 _ ri _ _ _ aH).trans (QD _ ri bM);have d5:w2.frozen? (nA w ri)=false:=zq aH ri;clear aH c39 al aC ai HL bu;by_cases k1:kd=1
 .subst k1;have aZ:Hid ((w2.setCell (nA w ri) (bA true)).heap[w.heap.size]? =some (.cells (vY 21 (rnB (s.log.take (j+1)))) 268 (0,0))):=by
   have e:vY 21 (rnB (s.log.take (j+1)))=vY 21 (zak (rnB (s.log.take j)) ri):=by
    congr 1
    funext q;rw[ba.o];unfold zak;by_cases e:q=ri
    .subst e;simp
    have e2:¬((ri:Int)=(q:Int)):=by omega
    rw[zgU e];simp[e2]
   unfold Hid;rw[e,<-zaa];exact setCell_row bB ri _
  go_wp2;go_roundw
  case rel=>exact⟨j+1,ab,by go_num,aZ,ak.o.setCell (by exact zgp _) _⟩
  simp[intOf];omega
 have k1b:(kd==1)=false:=by simpa using k1
 have bg:Hid (w2.heap[w.heap.size]? =some (.cells (vY 21 (rnB (s.log.take (j+1)))) 268 (0,0))):=by
  have e:vY 21 (rnB (s.log.take (j+1)))=vY 21 (rnB (s.log.take j)):=by
   congr 1
   funext q;rw[ba.o];simp[k1]
  unfold Hid;rw[e];exact bB
 go_wp2;go_roundw
 case rel=>exact⟨j+1,ab,by go_num,bg,ak⟩
 simp[intOf];omega

import Derived.Test.YtcfjhbcpjpgodaaGreatDoorJ32
namespace Go.Proofs.YtcfjhbcpjpgodaaGreatDoor
open Go.RowKit
set_option maxRecDepth 100000
set_option maxHeartbeats 0
set_option linter.all false
section
open Proofs.Tryz
theorem za3(l:List zt)(m:yX):likeN l m<=l.length:=List.length_filter_le _ l
theorem za2(l:List zt)(p:Option Addr)(cap:Nat)(m:yX)(w:World)(hl:km w w.heap.size p l.length (λi=>l.getD i zJ))(hm:l.length<=1000000000):
 Calls prog 128 #[.slice p l.length cap,.agg m.cells] w λe w'=>e=.returned (iA (likeN l m:Int))/\BW w w':=by
 obtain⟨mk,mh,mr,mf,mv,mn,ms⟩:=m;have HL:=zc hl;have hmx:l.length<=1000000000:=hm;clear hl hm;show Calls prog 128 #[.slice p l.length cap,.agg #[iA mk,iA mh,iA mr,iA mf,iA mv,bA mn,sA ms]] w _;go_enter func128,ntmps128;go_wp2;go_loopw [5,7,10] (λcv _ i wr=>∃(j c:Nat),j<=l.length/\i=iA j/\cv=iA c/\c=likeN (l.take j) ⟨mk,mh,mr,mf,mv,mn,ms⟩/\cL wr w.heap.size #[iA mk,iA mh,iA mr,iA mf,iA mv,bA mn,sA ms] 57/\BW w wr) (λ_ _ i _=>l.length-(intOf i).toNat)
 case atStart=>exact⟨0,0,zgv _,rfl,rfl,rfl,zgr w _,bwA w⟩
 obtain⟨j,c,hj,rfl,rfl,ai,hq,hb⟩:=hrel;obtain⟨HB,HQ,ao⟩:=zC hb hq ai;have hcb:c<=l.length:=by
  rw[ai];refine zgu (za3 _ _) ?_;rw[List.length_take];omega
 clear hb hq ai;by_cases ad:j=l.length
 .have hge:¬(j:Int)<l.length:=by omega
  have HF:Hid (c=likeN l ⟨mk,mh,mr,mf,mv,mn,ms⟩):=by have h:=ao.o;rw[ad,zg7] at h;exact h
  clear ad;go_wp2;go_ret;exact⟨by rw[<-HF.o];rfl,HB⟩
 have al:j<l.length:=by omega
 have ar:(j:Int)<l.length:=by omega
 have hz:w.heap.size<wr.heap.size:=zj HQ;obtain⟨b,o,rfl,au,aj⟩:=HL.o.below HB j al;obtain⟨ev,ah⟩:=gen (l.getD j zJ);have ab:=aj;simp only[<-ah] at ab;have ag:=Yw l ⟨mk,mh,mr,mf,mv,mn,ms⟩ j al;rw[<-ah,<-ao.o] at ag;have ae:=zc ag;obtain⟨⟨K,H,R,f,V,nl,s⟩,fr,own⟩:=ev;have av:Hid (wr.rangeAt b (o+j*9) [iA K,iA H,iA R,iA f,iA V,bA nl,sA s,sA fr,bA own]):=ab;clear aj ab ah au ag
 go_upto_region 5 with(first|(refine zgX rfl 164 _ rfl b (o+j*9) rfl [iA K,iA H,iA R,iA f,iA V,bA nl,sA s,sA fr,bA own] _ av.o underlying164 rfl Tryz.zc5 ?_)|(refine zf rfl 164 _ _ rfl wr #[iA K,iA H,iA R,iA f,iA V,bA nl,sA s,sA fr,bA own] rfl rfl 164 _ rfl (by simp[Value.oneCell']) Tryz.zc5 ?_;intro w2 ak an aq;have af:=zc ak;have aa:Hid (BW wr w2):=an;clear ak an aq)|fail)
 have c0:cN w2 wr 0 (iA K):=zgs w2 wr.heap.size 0 _ _ _ af;have c1:cN w2 wr 1 (iA H):=zgs w2 wr.heap.size 1 _ _ _ af;have c2:cN w2 wr 2 (iA R):=zgs w2 wr.heap.size 2 _ _ _ af;have c3:cN w2 wr 3 (iA f):=zgs w2 wr.heap.size 3 _ _ _ af;have d0:cN w2 w 0 (iA mk):=zgs w2 w.heap.size 0 _ _ _ (blk HQ aa);have d1:cN w2 w 1 (iA mh):=zgs w2 w.heap.size 1 _ _ _ (blk HQ aa);have d2:cN w2 w 2 (iA mr):=zgs w2 w.heap.size 2 _ _ _ (blk HQ aa);have d3:cN w2 w 3 (iA mf):=zgs w2 w.heap.size 3 _ _ _ (blk HQ aa);by_cases h0:K=mk
 .have q0:(K==mk)=true:=by simpa using h0
  by_cases h1:H=mh
  .have q1:(H==mh)=true:=by simpa using h1
   by_cases h2:R=mr
   .have q2:(R==mr)=true:=by simpa using h2
    by_cases h3:f=mf
    .have q3:(f==mf)=true:=by simpa using h3
     go_wp2;go_roundw
     case rel=>exact⟨j+1,c+1,by omega,by go_num,by go_num,by rw[ae.o];simp[xS,h0,h1,h2,h3],blk HQ.o aa.o,HB.o.trans (aa.o.mono HB.o.size)⟩
     simp[intOf];omega
    have q3:(f==mf)=false:=by simpa using h3
    go_wp2;go_roundw
    case rel=>exact⟨j+1,c,by omega,by go_num,by go_num,by rw[ae.o];simp[xS,h3],blk HQ.o aa.o,HB.o.trans (aa.o.mono HB.o.size)⟩
    simp[intOf];omega
   have q2:(R==mr)=false:=by simpa using h2
   go_wp2;go_roundw
   case rel=>exact⟨j+1,c,by omega,by go_num,by go_num,by rw[ae.o];simp[xS,h2],blk HQ.o aa.o,HB.o.trans (aa.o.mono HB.o.size)⟩
   simp[intOf];omega
  have q1:(H==mh)=false:=by simpa using h1
  go_wp2;go_roundw
  case rel=>exact⟨j+1,c,by omega,by go_num,by go_num,by rw[ae.o];simp[xS,h1],blk HQ.o aa.o,HB.o.trans (aa.o.mono HB.o.size)⟩
  simp[intOf];omega
 have q0:(K==mk)=false:=by simpa using h0
 go_wp2;go_roundw
 case rel=>exact⟨j+1,c,by omega,by go_num,by go_num,by rw[ae.o];simp[xS,h0],blk HQ.o aa.o,HB.o.trans (aa.o.mono HB.o.size)⟩
 simp[intOf];omega
variable{es:List Addr}{B nb kb cb:Nat}{w w':World}{s:za}
def Q2(es:List Addr)(o:Option Nat):Value:=match o with|none=>.nilIface|some k=>.iface 294 (.pointer es[k]?)
theorem kA{k:Nat}{a:Addr}(h:es[k]? =some a):Q2 es (some k)=eA a:=by
 show Value.iface _ (Value.pointer es[k]?)=_;rw[h]
def zcK(i:Nat):Bool:=i==3||i==4||i==5||i==6||i==7||i==8
structure gQ (B:Nat) (es:List Addr) (w:World):Prop where
 cellR:∀(i g:Nat) (a:Addr),kS[i]? =some g->es[i]? =some a->zcK i=true->w.cell? (aA g 0)=some (eA a)
 gb:∀i g:Nat,kS[i]? =some g->zcK i=true->g<B
theorem gQ.same(h:gQ B es w)(hb:∀k,k<B->w'.heap[k]? =w.heap[k]?):gQ B es w':=
 ⟨λi g a hg ha hi=>(zgw (w:=w) (a:=(aA g 0)) (hb g (h.gb i g hg hi))).trans (h.cellR i g a hg ha hi),h.gb⟩
theorem gQ.below(h:gQ B es w)(hB:B<=w.heap.size)(hb:BW w w'):gQ B es w':=h.same λk hk=>hb.block k (zgt hk hB)
theorem gQ.cell(h:gQ B es w)(i g:Nat)(a:Addr)(hg:kS[i]? =some g)(ha:es[i]? =some a)(hi:zcK i=true:=by decide):w.cell? (aA g 0)=some (eA a):=h.cellR i g a hg ha hi
def za.zew(s:za)(m:yX)(fr:zgW):Option Nat:=if gA (s.zdg m.h) fr=true then some 6 else if 2<=likeN (s.zdg m.h) m then some 7 else none
theorem zbu{m:yX}{fr:zgW}(h1:¬m.h<(s.zc1:Int))(h2:¬((s.zc1:Int)+1<m.h\/20<m.r))(h3:¬(m.h=(s.zc1:Int)/\s.zc7 m=true)):s.zdt m fr=s.zew m fr:=by
 unfold za.zdt za.zew;rw[zgU h1,zgU h2,zgU h3]
theorem NodeAt.zgn{V:yg}(h:NodeAt nb kb cb V s w)(mh:Int):∃(L:List zt) (off:Nat) (p:Option Addr) (c:Nat),L=s.zdg mh/\w.cell? (aA nb off)=some (.slice p L.length c)/\L.length<=maxLen/\km w w.heap.size p L.length (λi=>L.getD i zJ)/\off=(if mh=(s.zc1:Int) then 37 else 38):=by
 by_cases e:mh=(s.zc1:Int)
 .obtain ⟨p,c,-,h1,h2,h3⟩:=h.logAt
  exact⟨s.log,37,p,c,by unfold za.zdg;rw[zgT e],h1,h2,h3,by rw[zgT e]⟩
 obtain⟨p,c,e1,h1,h2⟩:=J2 h.ahead;have c38:cE w nb 38 V.av:=h.cell 38 rfl;rw[e1] at c38;exact⟨s.ahead,38,p,c,by unfold za.zdg;rw[zgU e],c38,h1,h2,by rw[zgU e]⟩
theorem Q6{N:Nat}(m:yX)(fr:zgW){V:yg}{s:za}{w:World}(hA:NodeAt nb kb cb V s w)(hlen:es.length=12)(hR:gQ B es w)(hB:B<=w.heap.size)(ok:YS N s)(hN:N<=10000000)(hm:0<=m.h/\0<=m.r):
 Calls prog 79 #[pA nb 0,.agg m.cells,sA fr] w λe w'=>e=.returned (Q2 es (s.zdt m fr))/\BW w w':=by
 obtain⟨mk,mh,mr,mf,mv,mn,ms⟩:=m;obtain⟨hh0,aN⟩:=hm;have ak:∀k,k<12->∃a,es[k]? =some a:=λk hk=>⟨_,zgy (by rw[hlen];exact hk)⟩;obtain⟨a3,e3⟩:=ak 3 (by omega);obtain⟨a4,e4⟩:=ak 4 (by omega);obtain⟨a5,e5⟩:=ak 5 (by omega);obtain⟨a6,e6⟩:=ak 6 (by omega);obtain⟨a7,e7⟩:=ak 7 (by omega);show Calls prog 79 #[pA nb 0,.agg #[iA mk,iA mh,iA mr,iA mf,iA mv,bA mn,sA ms],sA fr] w λe w'=>e=.returned (Q2 es (s.zdt ⟨mk,mh,mr,mf,mv,mn,ms⟩ fr))/\BW w w';obtain⟨w1,av⟩:=gen (w.alloc (.cells #[iA mk,iA mh,iA mr,iA mf,iA mv,bA mn,sA ms] 57));have ax:BW w w1:=by rw[av];exact bwA w
 have aw:w1.heap[w.heap.size]? =some (.cells #[iA mk,iA mh,iA mr,iA mf,iA mv,bA mn,sA ms] 57 (0,0)):=by rw[av];exact zgr w _
 have al:=hR.below hB ax;have ay:=hA.below ax;obtain⟨L,off,p,c,hL,ao,aJ,aE,aH⟩:=ay.zgn mh;have aO:L.length<=10000000:=by
  rw[hL];unfold za.zdg;have h1:=ok.log;have h2:=ok.ahead;split<;>omega
 have hhb:(s.zc1:Int)<=12:=by have:=ok.hgt;omega
 have hwr:IntKind.i64.wrap ((s.zc1:Int)+1)=(s.zc1:Int)+1:=wrap_small _ (by omega) (by omega);have C1:Hid (cN w1 w 1 (iA mh)):=zgs w1 w.heap.size 1 _ _ _ aw;have C2:Hid (cN w1 w 2 (iA mr)):=zgs w1 w.heap.size 2 _ _ _ aw;have CS3:Hid (cE w1 0 0 (eA a3)):=al.cell 3 _ _ rfl e3;have CS4:Hid (cE w1 4 0 (eA a4)):=al.cell 4 _ _ rfl e4;have CS5:Hid (cE w1 5 0 (eA a5)):=al.cell 5 _ _ rfl e5;have CS6:Hid (cE w1 6 0 (eA a6)):=al.cell 6 _ _ rfl e6;have CS7:Hid (cE w1 7 0 (eA a7)):=al.cell 7 _ _ rfl e7;obtain⟨aR,aM,aQ,aL,aK,HL,COFF⟩:=Qq e3 e4 e5 e6 e7 hL ao;have aq:Hid (∀W,BW w1 W->Calls prog 126 #[pA nb 0,iA mh] W λen w'=>en=.returned (pA nb off)/\w'=W):=λW hW=>by
  have h1:=Qj nb kb cb mh V s W (ay.below hW);rw[<-aH] at h1;exact h1
 have au:Hid (∀W,BW w1 W->Calls prog 127 #[.slice p L.length c,sA fr] W λe w'=>e=.returned (bA (gA L fr))/\BW W w'):=λW hW=>zbY L p c fr W (aE.ext (Ext.of hW)) aJ;have ai:Hid (∀W,BW w1 W->Calls prog 128 #[.slice p L.length c,.agg #[iA mk,iA mh,iA mr,iA mf,iA mv,bA mn,sA ms]] W λe w'=>e=.returned (iA (likeN L ⟨mk,mh,mr,mf,mv,mn,ms⟩:Int))/\BW W w'):=λW hW=>za2 L p c ⟨mk,mh,mr,mf,mv,mn,ms⟩ W (aE.ext (Ext.of hW)) (by omega);obtain⟨ah,aG,ab,az,aP⟩:=kY ay ok ax aw av;clear hA hR hB ok hlen ak e3 e4 e5 e6 e7 ax aw al ay hL ao aJ aE aH aO av;go_enter func79,ntmps79;go_wp2_with fail
 rw[<-aP.o];by_cases h1:mh<(s.zc1:Int)
 .have aa:Hid (s.zdt ⟨mk,mh,mr,mf,mv,mn,ms⟩ fr=some 3):=by unfold Hid za.zdt;rw[zgT h1]
  refine rgd (S:=λX=>BW w1 X) ((zgq _ w1).drew) λhH=>?_;refine zZ [(0,some 9,pA w.heap.size 1),(1,some 10,iA mh),(2,some 11,pA nb 0)] _ _ hH (λx h=>show cN x w 1 (iA mh) from Ext.cell C1.o (Ext.of h)) ?_;simp only[zh,AP,pA];refine zp 3 λK hK=>?_;go_simp;refine(zI nb kb cb V s _ (ah.o.below hH)).mono ?_;rintro en X2 ⟨rfl,rfl⟩;refine hK.out _ _ (hH) λhH=>?_;clear hK K
  try simp only[AP,AQ]
  refine y8 [(4,some 13,bA true),(5,some 8,bA true)] _ _ hH ?_;simp only[zh,AP];refine dnr ?_;have cG:cE w1.drew 0 0 (eA a3):=Ext.cell (CS3.o) (Ext.of hH);go_wp2;go_ret;exact⟨by rw[aa.o,kA aR.o];rfl,ab.o.trans (hH.mono ab.o.size)⟩
 have n1:=h1;refine rgd (S:=λX=>BW w1 X) ((zgq _ w1).drew) λhH=>?_;refine zZ [(0,some 9,pA w.heap.size 1),(1,some 10,iA mh),(2,some 11,pA nb 0)] _ _ hH (λx h=>show cN x w 1 (iA mh) from Ext.cell C1.o (Ext.of h)) ?_;simp only[zh,AP,pA];refine zp 3 λK hK=>?_;go_simp;refine(zI nb kb cb V s _ (ah.o.below hH)).mono ?_;rintro en X2 ⟨rfl,rfl⟩;refine hK.out _ _ (hH) λhH=>?_;clear hK K
 try simp only[AP,AQ]
 refine y8 [(4,some 13,bA false),(5,some 8,bA false)] _ _ hH ?_;simp only[zh,AP];refine dnr ?_;go_wp2_with fail
 have n1:¬mh<(s.zc1:Int):=by omega
 by_cases h2:(s.zc1:Int)+1<mh
 .have aa:Hid (s.zdt ⟨mk,mh,mr,mf,mv,mn,ms⟩ fr=some 4):=by unfold Hid za.zdt;rw[zgU n1,zgT (zgR h2)]
  refine rgd (S:=λX=>BW w1 X) (hH.drew) λhH=>?_;refine zZ [(0,some 16,pA w.heap.size 1),(1,some 17,iA mh),(2,some 18,pA nb 0)] _ _ hH (λx h=>show cN x w 1 (iA mh) from Ext.cell C1.o (Ext.of h)) ?_;simp only[zh,AP,pA];refine zp 3 λK hK=>?_;go_simp;refine(zI nb kb cb V s _ (ah.o.below hH)).mono ?_;rintro en X2 ⟨rfl,rfl⟩;refine hK.out _ _ (hH) λhH=>?_;clear hK K
  try simp only[AP,AQ]
  refine zZ [(4,some 20,iA ((s.zc1:Int)+1)),(5,some 21,bA true),(6,some 22,bA true),(7,some 23,undef),(8,some 24,undef),(9,some 25,undef),(10,some 26,bA true),(11,some 15,bA true)] _ _ hH (λ_ h=>h) ?_;simp only[zh,AP];refine dnr ?_;have cG:cE w1.drew.drew 4 0 (eA a4):=Ext.cell (CS4.o) (Ext.of hH);go_wp2;go_ret;exact⟨by rw[aa.o,kA aM.o];rfl,ab.o.trans (hH.mono ab.o.size)⟩
 by_cases h3:20<mr
 .have aa:Hid (s.zdt ⟨mk,mh,mr,mf,mv,mn,ms⟩ fr=some 4):=by unfold Hid za.zdt;rw[zgU n1,zgT (zgS h3)]
  refine rgd (S:=λX=>BW w1 X) (hH.drew) λhH=>?_;refine zZ [(0,some 16,pA w.heap.size 1),(1,some 17,iA mh),(2,some 18,pA nb 0)] _ _ hH (λx h=>show cN x w 1 (iA mh) from Ext.cell C1.o (Ext.of h)) ?_;simp only[zh,AP,pA];refine zp 3 λK hK=>?_;go_simp;refine(zI nb kb cb V s _ (ah.o.below hH)).mono ?_;rintro en X2 ⟨rfl,rfl⟩;refine hK.out _ _ (hH) λhH=>?_;clear hK K
  try simp only[AP,AQ]
  refine zZ [(4,some 20,iA ((s.zc1:Int)+1)),(5,some 21,bA false),(6,some 22,bA false),(7,some 23,pA w.heap.size 2),(8,some 24,iA mr),(9,some 25,bA true),(10,some 26,bA true),(11,some 15,bA true)] _ _ hH (λx h=>show cN x w 2 (iA mr) from Ext.cell C2.o (Ext.of h)) ?_;simp only[zh,AP,pA];refine dnr ?_;have cG:cE w1.drew.drew 4 0 (eA a4):=Ext.cell (CS4.o) (Ext.of hH);go_wp2;go_ret;exact⟨by rw[aa.o,kA aM.o];rfl,ab.o.trans (hH.mono ab.o.size)⟩
 refine rgd (S:=λX=>BW w1 X) (hH.drew) λhH=>?_;refine zZ [(0,some 16,pA w.heap.size 1),(1,some 17,iA mh),(2,some 18,pA nb 0)] _ _ hH (λx h=>show cN x w 1 (iA mh) from Ext.cell C1.o (Ext.of h)) ?_;simp only[zh,AP,pA];refine zp 3 λK hK=>?_;go_simp;refine(zI nb kb cb V s _ (ah.o.below hH)).mono ?_;rintro en X2 ⟨rfl,rfl⟩;refine hK.out _ _ (hH) λhH=>?_;clear hK K
 try simp only[AP,AQ]
 refine zZ [(4,some 20,iA ((s.zc1:Int)+1)),(5,some 21,bA false),(6,some 22,bA false),(7,some 23,pA w.heap.size 2),(8,some 24,iA mr),(9,some 25,bA false),(10,some 26,bA false),(11,some 15,bA false)] _ _ hH (λx h=>show cN x w 2 (iA mr) from Ext.cell C2.o (Ext.of h)) ?_;simp only[zh,AP,pA];refine dnr ?_;go_wp2_with fail
 have n1:¬mh<(s.zc1:Int):=by omega
 have h1:=n1;have n3:¬((s.zc1:Int)+1<mh\/20<mr):=by omega
 have ag:Hid (∀W,BW w1 W->Calls prog 106 #[pA nb 0,.agg #[iA mk,iA mh,iA mr,iA mf,iA mv,bA mn,sA ms]] W λe w'=>e=.returned (bA (s.zc7 ⟨mk,mh,mr,mf,mv,mn,ms⟩))/\BW W w'):=λW hW=>vM nb kb cb ⟨mk,mh,mr,mf,mv,mn,ms⟩ V s W (ah.o.below hW) aG.o.dom aG.o.pos aG.o.hgt ⟨aN,by show mr<=20;omega⟩;by_cases h4:mh=(s.zc1:Int)
 .cases h5:s.zc7 ⟨mk,mh,mr,mf,mv,mn,ms⟩ with
  |true=>
   have aa:Hid (s.zdt ⟨mk,mh,mr,mf,mv,mn,ms⟩ fr=some 5):=by unfold Hid za.zdt;rw[zgU n1,zgU n3,zgT ⟨h4,h5⟩]
   rw[h5] at ag;clear h5;have q4:(mh==(s.zc1:Int))=true:=by simpa using h4
   have H4:=zc h4;clear h4;refine rgd (S:=λX=>BW w1 X) (hH.drew) λhH=>?_;refine zZ [(0,some 29,pA w.heap.size 1),(1,some 30,iA mh),(2,some 31,pA nb 0)] _ _ hH (λx h=>show cN x w 1 (iA mh) from Ext.cell C1.o (Ext.of h)) ?_;simp only[zh,AP,pA];refine zp 3 λK hK=>?_;go_simp;refine(zI nb kb cb V s _ (ah.o.below hH)).mono ?_;rintro en X2 ⟨rfl,rfl⟩;refine hK.out _ _ (hH) λhH=>?_;clear hK K
   try simp only[AP,AQ]
   refine takeN [(4,some 33,bA true),(5,some 34,bA true),(6,some 35,pA nb 0),(7,some 36,.agg ([iA mk,iA mh,iA mr,iA mf,iA mv,bA mn,sA ms]).toArray)] _ _ hH (by repeat(first|exact zgY|((first|refine tkc rfl rfl (zg3 (by rfl) 57 _ rfl w.heap.size 0 rfl ([iA mk,iA mh,iA mr,iA mf,iA mv,bA mn,sA ms]) _ (λw h=>(yQ (blk az h))) underlying57 rfl (by rw[Tryz.zd2];rfl)) ?_|(refine tkc rfl rfl (zgR ⟨by rfl,λx h=>?_⟩) ?_;focus(go_simp;done)));simp only[AP]))) ?_;simp only[zh,AP,pA];refine zp 8 λK hK=>?_;go_simp;refine(ag _ hH).mono ?_;rintro en X2 ⟨rfl,aC⟩;have aD:BW w1 X2:=hH.trans (aC.mono hH.size);refine hK.out _ _ (aD) λhH=>?_;clear hK K
   try simp only[AP,AQ]
   refine y8 [(9,some 38,bA true),(10,some 28,bA true)] _ _ hH ?_;simp only[zh,AP];refine dnr ?_;have cG:cE X2 5 0 (eA a5):=Ext.cell (CS5.o) (Ext.of hH);go_wp2;go_ret;exact⟨by rw[aa.o,kA aQ.o];rfl,ab.o.trans (hH.mono ab.o.size)⟩
  |false=>
   have aj:Hid (s.zdt ⟨mk,mh,mr,mf,mv,mn,ms⟩ fr=s.zew ⟨mk,mh,mr,mf,mv,mn,ms⟩ fr):=zbu h1 n3 (λh=>by rw[h5] at h;exact absurd h.2 zgN);rw[h5] at ag;clear h5;have q4:(mh==(s.zc1:Int))=true:=by simpa using h4
   have H4:=zc h4;clear h4;refine rgd (S:=λX=>BW w1 X) (hH.drew) λhH=>?_;refine zZ [(0,some 29,pA w.heap.size 1),(1,some 30,iA mh),(2,some 31,pA nb 0)] _ _ hH (λx h=>show cN x w 1 (iA mh) from Ext.cell C1.o (Ext.of h)) ?_;simp only[zh,AP,pA];refine zp 3 λK hK=>?_;go_simp;refine(zI nb kb cb V s _ (ah.o.below hH)).mono ?_;rintro en X2 ⟨rfl,rfl⟩;refine hK.out _ _ (hH) λhH=>?_;clear hK K
   try simp only[AP,AQ]
   refine takeN [(4,some 33,bA true),(5,some 34,bA true),(6,some 35,pA nb 0),(7,some 36,.agg ([iA mk,iA mh,iA mr,iA mf,iA mv,bA mn,sA ms]).toArray)] _ _ hH (by repeat(first|exact zgY|((first|refine tkc rfl rfl (zg3 (by rfl) 57 _ rfl w.heap.size 0 rfl ([iA mk,iA mh,iA mr,iA mf,iA mv,bA mn,sA ms]) _ (λw h=>(yQ (blk az h))) underlying57 rfl (by rw[Tryz.zd2];rfl)) ?_|(refine tkc rfl rfl (zgR ⟨by rfl,λx h=>?_⟩) ?_;focus(go_simp;done)));simp only[AP]))) ?_;simp only[zh,AP,pA];refine zp 8 λK hK=>?_;go_simp;refine(ag _ hH).mono ?_;rintro en X2 ⟨rfl,aC⟩;have aD:BW w1 X2:=hH.trans (aC.mono hH.size);refine hK.out _ _ (aD) λhH=>?_;clear hK K
   try simp only[AP,AQ]
   refine y8 [(9,some 38,bA false),(10,some 28,bA false)] _ _ hH ?_;simp only[zh,AP];refine dnr ?_;have cM:cN X2 w 1 (iA mh):=Ext.cell C1.o (Ext.of hH);go_wp2_with fail
   refine(aq _ hH).mono ?_;rintro en X9 ⟨rfl,an⟩;have aB:=an.symm;clear an;subst aB;have cOff:cE X2 nb off (.slice p L.length c):=Ext.cell COFF.o (Ext.of hH);go_wp2_with fail
   refine(au _ hH).mono ?_;rintro en X7 ⟨rfl,ae⟩;have af:BW w1 X7:=hH.trans (ae.mono hH.size);clear ae hH;have hH:=af;clear af;cases ad:gA L fr with
   |true=>
    have aa:Hid (s.zdt ⟨mk,mh,mr,mf,mv,mn,ms⟩ fr=some 6):=by unfold Hid;rw[aj.o];unfold za.zew;rw[zgT (show gA (s.zdg mh) fr=true by rw[<-HL.o];exact ad)]
    have cG:cE X7 6 0 (eA a6):=Ext.cell (CS6.o) (Ext.of hH);go_wp2;go_ret;exact⟨by rw[aa.o,kA aL.o];rfl,ab.o.trans (hH.mono ab.o.size)⟩
   |false=>
    have ar:=zc ad;go_wp2_with (first|(refine zg4 rfl 57 _ rfl w.heap.size rfl 57 #[iA mk,iA mh,iA mr,iA mf,iA mv,bA mn,sA ms] (0,0) _ (blk az hH) underlying57 rfl (by rw[Tryz.zd2];rfl) ?_)|fail)
    refine(ai _ hH).mono ?_;rintro en X7 ⟨rfl,ae⟩;have af:BW w1 X7:=hH.trans (ae.mono hH.size);clear ae hH;have hH:=af;clear af;by_cases h9:2<=likeN L ⟨mk,mh,mr,mf,mv,mn,ms⟩
    .have aF:2<=(likeN L ⟨mk,mh,mr,mf,mv,mn,ms⟩:Int):=by omega
     have aa:Hid (s.zdt ⟨mk,mh,mr,mf,mv,mn,ms⟩ fr=some 7):=by unfold Hid;rw[aj.o];unfold za.zew;rw[zgU (show¬gA (s.zdg mh) fr=true by rw[<-HL.o,ar.o];exact zgN),zgT (show 2<=likeN (s.zdg mh) _ by rw[<-HL.o];exact h9)]
     have cG:cE X7 7 0 (eA a7):=Ext.cell (CS7.o) (Ext.of hH);go_wp2;go_ret;exact⟨by rw[aa.o,kA aK.o];rfl,ab.o.trans (hH.mono ab.o.size)⟩
    have aF:¬2<=(likeN L ⟨mk,mh,mr,mf,mv,mn,ms⟩:Int):=by omega
    have aa:Hid (s.zdt ⟨mk,mh,mr,mf,mv,mn,ms⟩ fr=none):=by unfold Hid;rw[aj.o];unfold za.zew;rw[zgU (show¬gA (s.zdg mh) fr=true by rw[<-HL.o,ar.o];exact zgN),zgU (show¬2<=likeN (s.zdg mh) _ by rw[<-HL.o];exact h9)]
    go_wp2;go_ret;exact⟨by rw[aa.o];rfl,ab.o.trans (hH.mono ab.o.size)⟩
 have aj:Hid (s.zdt ⟨mk,mh,mr,mf,mv,mn,ms⟩ fr=s.zew ⟨mk,mh,mr,mf,mv,mn,ms⟩ fr):=zbu h1 n3 (λh=>h4 h.1);have q4:(mh==(s.zc1:Int))=false:=by simpa using h4
 have H4:=zc h4;clear h4;refine rgd (S:=λX=>BW w1 X) (hH.drew) λhH=>?_;refine zZ [(0,some 29,pA w.heap.size 1),(1,some 30,iA mh),(2,some 31,pA nb 0)] _ _ hH (λx h=>show cN x w 1 (iA mh) from Ext.cell C1.o (Ext.of h)) ?_;simp only[zh,AP,pA];refine zp 3 λK hK=>?_;go_simp;refine(zI nb kb cb V s _ (ah.o.below hH)).mono ?_;rintro en X2 ⟨rfl,rfl⟩;refine hK.out _ _ (hH) λhH=>?_;clear hK K
 try simp only[AP,AQ]
 refine zZ [(4,some 33,bA false),(5,some 34,bA false),(6,some 35,undef),(7,some 36,undef),(8,some 37,undef),(9,some 38,bA false),(10,some 28,bA false)] _ _ hH (λ_ h=>h) ?_;simp only[zh,AP];refine dnr ?_;have cM:cN w1.drew.drew.drew w 1 (iA mh):=Ext.cell C1.o (Ext.of hH);go_wp2_with fail
 refine(aq _ hH).mono ?_;rintro en X9 ⟨rfl,an⟩;have aB:=an.symm;clear an;subst aB;have cOff:cE w1.drew.drew.drew nb off (.slice p L.length c):=Ext.cell COFF.o (Ext.of hH);go_wp2_with fail
 refine(au _ hH).mono ?_;rintro en X7 ⟨rfl,ae⟩;have af:BW w1 X7:=hH.trans (ae.mono hH.size);clear ae hH;have hH:=af;clear af;cases ad:gA L fr with
 |true=>
  have aa:Hid (s.zdt ⟨mk,mh,mr,mf,mv,mn,ms⟩ fr=some 6):=by unfold Hid;rw[aj.o];unfold za.zew;rw[zgT (show gA (s.zdg mh) fr=true by rw[<-HL.o];exact ad)]
  have cG:cE X7 6 0 (eA a6):=Ext.cell (CS6.o) (Ext.of hH);go_wp2;go_ret;exact⟨by rw[aa.o,kA aL.o];rfl,ab.o.trans (hH.mono ab.o.size)⟩
 |false=>
  have ar:=zc ad;go_wp2_with (first|(refine zg4 rfl 57 _ rfl w.heap.size rfl 57 #[iA mk,iA mh,iA mr,iA mf,iA mv,bA mn,sA ms] (0,0) _ (blk az hH) underlying57 rfl (by rw[Tryz.zd2];rfl) ?_)|fail)
  refine(ai _ hH).mono ?_;rintro en X7 ⟨rfl,ae⟩;have af:BW w1 X7:=hH.trans (ae.mono hH.size);clear ae hH;have hH:=af;clear af;by_cases h9:2<=likeN L ⟨mk,mh,mr,mf,mv,mn,ms⟩
  .have aF:2<=(likeN L ⟨mk,mh,mr,mf,mv,mn,ms⟩:Int):=by omega
   have aa:Hid (s.zdt ⟨mk,mh,mr,mf,mv,mn,ms⟩ fr=some 7):=by unfold Hid;rw[aj.o];unfold za.zew;rw[zgU (show¬gA (s.zdg mh) fr=true by rw[<-HL.o,ar.o];exact zgN),zgT (show 2<=likeN (s.zdg mh) _ by rw[<-HL.o];exact h9)]
   have cG:cE X7 7 0 (eA a7):=Ext.cell (CS7.o) (Ext.of hH);go_wp2;go_ret;exact⟨by rw[aa.o,kA aK.o];rfl,ab.o.trans (hH.mono ab.o.size)⟩
  have aF:¬2<=(likeN L ⟨mk,mh,mr,mf,mv,mn,ms⟩:Int):=by omega
  have aa:Hid (s.zdt ⟨mk,mh,mr,mf,mv,mn,ms⟩ fr=none):=by unfold Hid;rw[aj.o];unfold za.zew;rw[zgU (show¬gA (s.zdg mh) fr=true by rw[<-HL.o,ar.o];exact zgN),zgU (show¬2<=likeN (s.zdg mh) _ by rw[<-HL.o];exact h9)]
  go_wp2;go_ret;exact⟨by rw[aa.o];rfl,ab.o.trans (hH.mono ab.o.size)⟩
end
section
open Proofs.Tryz
def za.zdQ(s:za)(n:Nat)(fr:zgW):Option (Int×Nat):=
 if yT fr=true then(if z8 s.sg n (decV fr).f fr=true then(s.zdt (decV fr) fr).map (λk=>((decV fr).f,k)) else some ((decV fr).f,2)) else some (-1,1)
def zcV(es:List Addr)(o:Option (Int×Nat))(w:World)(F R:Nat->Prop)(e:Ending)(w':World):Prop:=match o with
 |none=>e=.returned .nilIface
 |some (f,k)=>∃g a,e=.returned (QO g)/\es[k]? =some a/\w.heap.size<=g/\¬F g/\¬R g/\gP w' g f a
def zcW(B:Nat)(es:List Addr)(m:Int)(F R:Nat->Prop)(nb kb rb cb n i:Nat)(s:za)(fr:zgW)(w:World)(e:Ending)(w':World):Prop:=
 ∃F' R',NodeW B es m F' R' nb kb rb cb n i (s.zdc n i fr) w'/\Goes F R w F' R' w'/\zcV es (s.zdQ n fr) w F' R' e w'
theorem Tryz.zd1:(prog.info? 57).map (·.size)=some 7:=by kernel_rfl
theorem Tryz.zfq(k h r f v:Int)(nl:Bool)(t fr:zgW)(W:World):(Instr.build 164 #[(0,.agg #[iA k,iA h,iA r,iA f,iA v,bA nl,sA t]),(1,sA fr)]).run prog W=.ok (.agg #[iA k,iA h,iA r,iA f,iA v,bA nl,sA t,sA fr,bA false]) W:=by kernel_rfl
section
variable{P:Program}
theorem Z3{ops:Array Oper}{S:World->Prop}{op:Oper}{a:Act}(hw:Region.wanted op (yielded ops a.tmps)=true)(t:TypeId)(i0 i1:Nat)(x0 x1:Operand)(ho:op.op=.build t #[(i0,x0),(i1,x1)])(v0 v1 v:Value)
 (h0:a.eval x0=v0) (h1:a.eval x1=v1) (hr:∀W,(Instr.build t #[(i0,v0),(i1,v1)]).run P W=.ok v W):YieldsIf P ops S op v a:=
 .inl ⟨hw,λw _=>by
  unfold execOp;simp only[ho,List.map_toArray,List.map_cons,List.map_nil,h0,h1,hr,Sem.run_bind,Sem.run_pure,Result.andThen_ok]⟩
end
theorem xY{t:zgW}(h:yT t=true):t.size<=1000:=by
 have h1:=(ZO h).2.2.2.2.2.2.1;unfold decV at h1;rw[zgT h] at h1;simp only[ByteArray.size_extract] at h1;omega
theorem je{s:za}{n i:Nat}{fr:zgW}(h:¬(yT fr=true/\z8 s.sg n (decV fr).f fr=true)):s.zdc n i fr=s:=by
 unfold za.zdc;rw[zgU h]
theorem VD(s:za)(m:yX)(fr:zgW):s.zdt m fr=none\/(s.zdt m fr=some 3/\m.h<(s.zc1:Int))\/∃k,s.zdt m fr=some k/\4<=k/\k<=7/\¬m.h<(s.zc1:Int):=by
 unfold za.zdt;split
 .rename_i h;exact zgS (zgR ⟨rfl,h⟩)
 rename_i h;split
 .exact zgS (zgS ⟨4,rfl,by omega,by omega,h⟩)
 split
 .exact zgS (zgS ⟨5,rfl,by omega,by omega,h⟩)
 split
 .exact zgS (zgS ⟨6,rfl,by omega,by omega,h⟩)
 split
 .exact zgS (zgS ⟨7,rfl,by omega,by omega,h⟩)
 exact zgR rfl
theorem Jg{B:Nat}{es:List Addr}{m:Int}{F R:Nat->Prop}{nb kb rb cb n i S T:Nat}{s:za}(fr:zgW){w:World}(h:NodeW B es m F R nb kb rb cb n i s w)(hR:gQ B es w)(ok:NOk S T i 0 s)(hT:T<=1000000000000)(hS:S<=900000000000):
 Calls prog 29 #[pA nb 0,sA fr] w (zcW B es m F R nb kb rb cb n i s fr w):=by
 obtain⟨V,hA,hf⟩:=h.node;obtain⟨a1,aK⟩:=h.glob.sent.at 1 (by omega);obtain⟨a2,aJ⟩:=h.glob.sent.at 2 (by omega);obtain⟨a3,aZ⟩:=h.glob.sent.at 3 (by omega);have c0:cE w nb 0 (pA kb 0):=hA.cell 0 rfl;obtain⟨bh,bg,HH,HR,av,HT,HS,bB⟩:=vF (Zz kb rb i w h.key) (zaX R rb n s.sg fr a1 a2 w h.ring (λk hk=>(h.rl k hk).2) (h.glob.sent.cell 1 _ _ rfl aK) (h.glob.sent.cell 2 _ _ rfl aJ)) h hR ok hT hS aK;obtain⟨bz,aF⟩:=ze aJ aZ;clear h hR ok hT hS hA hf aK aJ aZ;go_enter func29,ntmps29;go_wp2_with fail
 refine bh.o.mono ?_;rintro e w0 ⟨rfl,aU⟩;have bo:=aU.symm;clear aU bh;subst bo;go_wp2_with fail
 refine bg.o.mono ?_;clear bg;rintro e w1 ⟨ar,⟨hd,al,rfl⟩|⟨hd,g,hg,ay,rfl⟩|⟨hd,al,g,hg,ay,rfl⟩⟩
 .obtain ⟨mv,aX⟩:=gen (decV fr)
  have aE:=zc (ZO hd);have ai:Hid (s.zdc n i fr=s.zdV i (decV fr) fr):=by unfold Hid za.zdc;rw[zgT ⟨hd,al⟩]
  have af:Hid (s.zdQ n fr=(s.zdt (decV fr) fr).map (λk=>((decV fr).f,k))):=by unfold Hid za.zdQ;rw[zgT hd,zgT al]
  have bx:Hid (fr.size<=1000):=xY hd;rw[<-aX] at aE ai af ⊢;obtain⟨mk,mh,mr,mf,mv,mn,ms⟩:=mv;have ad:=zc ar;clear ar hd al aX;unfold yX.cells;go_wp2_with (first|(refine zf rfl 57 _ _ rfl w1 #[iA mk,iA mh,iA mr,iA mf,iA mv,bA mn,sA ms] rfl rfl 57 _ rfl (by simp[Value.oneCell']) Tryz.zd1 ?_;intro w2 aq ah aw;have ao:=zc ah;have aG:=zc aq;clear aq ah aw)|(refine zg4 rfl 57 _ rfl w1.heap.size rfl 57 #[iA mk,iA mh,iA mr,iA mf,iA mv,bA mn,sA ms] (0,0) _ aG underlying57 rfl (by rw[Tryz.zd1];rfl) ?_)|fail)
  have ag:Hid (BW w w2):=ad.o.trans (ao.o.mono ad.o.size);obtain⟨V2,bd,br⟩:=(HH.o.below ag).node;refine(Q6 (B:=B) (es:=es) (N:=2000) ⟨mk,mh,mr,mf,mv,mn,ms⟩ fr bd (HH.o.glob.sent.len) (HR.o.below HH.o.bl ag.o) (zgu HH.o.bl ag.o.size) (av.o.st (by omega) HT.o HS.o).1 (by omega) ⟨aE.o.1,aE.o.2.2.1⟩).mono ?_;rintro e w3 ⟨rfl,aL⟩;have aT:=zc aL;have aa:Hid (BW w w3):=ag.o.trans (aL.mono ag.o.size);clear aL bd br;have bw:=zc ((HR.o.below HH.o.bl aa).cell 3 _ _ rfl aF);have cP:=bw.o;rcases VD s ⟨mk,mh,mr,mf,mv,mn,ms⟩ fr with hr|⟨hr,bq⟩|⟨k,hr,hk4,hk7,bp⟩
  .have ae:=zc hr;rw[hr,show Q2 es none=.nilIface from rfl];rw[hr] at af;clear hr;have HN:=zc (zcp a3 w3);go_wp2_with fail
   refine HN.o.mono ?_;rintro e w4 ⟨rfl,ab⟩;have ax:=ab.symm;clear ab HN;subst ax;obtain⟨w4,ab⟩:=gen w3;subst ab;obtain⟨aj,aD⟩:=ze (blk aG aT) (HH.o.below aa);have aS:Hid (¬F w1.heap.size):=λh=>by have h1:=(HH.o.fl _ h).2;have h2:=ad.o.size;omega
   have aR:Hid (¬R w1.heap.size):=λh=>by have h1:=(HH.o.rl _ h).2;have h2:=ad.o.size;omega
   go_wp2_with fail
   refine rgd (S:=λW=>cL W w1.heap.size #[iA mk,iA mh,iA mr,iA mf,iA mv,bA mn,sA ms] 57) aj λhH=>?_;refine takeN [(0,some 39,pA nb 0),(1,some 40,.agg ([iA mk,iA mh,iA mr,iA mf,iA mv,bA mn,sA ms]).toArray),(2,some 41,sA fr)] _ _ hH (by repeat(first|exact zgY|((first|refine tkc rfl rfl (zg3 (by rfl) 57 _ rfl w1.heap.size 0 rfl ([iA mk,iA mh,iA mr,iA mf,iA mv,bA mn,sA ms]) _ (λw h=>yQ h) underlying57 rfl (by rw[Tryz.zd1];rfl)) ?_|(refine tkc rfl rfl (zgR ⟨by rfl,λx h=>?_⟩) ?_;focus(go_simp;done)));simp only[AP]))) ?_;simp only[zh,AP,pA];refine zp 3 λK hK=>?_;go_simp;refine(jT fr _ (by have:=bx.o;omega)).mono ?_;rintro e w5 ⟨rfl,ba⟩;have au:BW w4 w5:=(zgq _ w4).drew.trans (ba.mono (zgp _));refine hK.out _ _ (blk aj au) λhH=>?_;clear hK K ba
   try simp only[AP,AQ]
   refine takeN [(4,some 43,.agg #[iA mk,iA mh,iA mr,iA mf,iA mv,bA mn,sA ms,sA fr,bA false])] _ _ hH (by repeat(first|exact zgY|(refine tkc rfl rfl (Z3 (by rfl) 164 0 1 _ _ rfl (.agg #[iA mk,iA mh,iA mr,iA mf,iA mv,bA mn,sA ms]) (sA fr) (.agg #[iA mk,iA mh,iA mr,iA mf,iA mv,bA mn,sA ms,sA fr,bA false]) rfl rfl (λW=>Tryz.zfq mk mh mr mf mv mn ms fr W)) ?_;simp only[AP]))) ?_;simp only[zh,AP];have bf:=zc (gr ⟨⟨mk,mh,mr,mf,mv,mn,ms⟩,fr,false⟩ (aD.o.below au) (by have:=(av.o.lens (by omega)).1;omega) (by have:=(av.o.lens (by omega)).2;omega));refine zp 5 λK hK=>?_;go_simp;refine bf.o.mono ?_;rintro e w6 ⟨rfl,F6,aC,an⟩;have aV:cL w6 w1.heap.size #[iA mk,iA mh,iA mr,iA mf,iA mv,bA mn,sA ms] 57:=(an.same.block _ (zj (blk aj au)) (λh=>h.elim aS aR)).trans (blk aj au);refine hK.out _ _ aV λhH=>?_;clear hK K
   try simp only[AP,AQ]
   refine dnr ?_;have aQ:=zc (av.o.take ae aE);have bj:=zc (Ve aC aQ HT HS);have aH:Hid (Goes F R w F6 R w6):=(Goes.below aa).trans ((Goes.below au).trans an);clear aC an aV au bf;go_wp2_with fail
   refine bj.o.mono ?_;rintro e w7 ⟨rfl,F7,R7,bb,bc⟩;obtain⟨bs,bu⟩:=ze bb bc;clear bb bc bj;go_wp2;go_ret;refine⟨F7,R7,?_,aH.o.trans bu,?_⟩
   .rw [ai.o];unfold za.zdV;rw[zgU (show¬mh<(s.zc1:Int) from(Zp ae.o).1),ae.o];exact bs
   rw[af.o];exact rfl
  .have aO:Hid (s.zdV i ⟨mk,mh,mr,mf,mv,mn,ms⟩ fr=s.zdF mh.toNat):=by unfold Hid za.zdV;rw[zgT bq]
   have ae:=zc hr;rw[hr,kA aF.o];rw[hr] at af;have HN:=zc (GH a3 w3);clear hr;go_wp2_with fail
   refine HN.o.mono ?_;rintro e w4 ⟨rfl,ab⟩;have ax:=ab.symm;clear ab HN;subst ax;obtain⟨w4,ab⟩:=gen w3;subst ab;have aj:=zc (blk aG aT);have cH:cN w4 w1 1 (iA mh):=zgs w4 w1.heap.size 1 _ _ _ aj;obtain⟨kh,aY⟩:∃kh:Nat,(kh:Int)=mh:=⟨mh.toNat,by have:=aE.o.1;omega⟩;have aN:=zc (YZ kh (HH.o.below aa) (by have h1:s.dec.length=s.zc1:=rfl;omega) av.o.hgt av.o.cert);rw[aY] at aN;have bt:Hid (mh.toNat=kh):=by unfold Hid;omega
   clear aY;have aS:Hid (¬F w1.heap.size):=λh=>by have h1:=(HH.o.fl _ h).2;have h2:=ad.o.size;omega
   have aR:Hid (¬R w1.heap.size):=λh=>by have h1:=(HH.o.rl _ h).2;have h2:=ad.o.size;omega
   go_wp2_with fail
   refine aN.o.mono ?_;rintro e w6 ⟨rfl,aC,an⟩;have aM:=zc aC;have aH:Hid (Goes F R w F R w6):=(Goes.below aa).trans an;have cF:cN w6 w1 3 (iA mf):=zgs w6 w1.heap.size 3 _ _ _ ((an.same.block _ (zj aj) (λh=>h.elim aS aR)).trans aj);clear aC an aN cH;have bm:Hid (BW w6 (w6.alloc (.cells #[iA mf,eA a3] 160))):=bwA w6;go_wp2;go_ret;refine⟨F,R,?_,aH.o.trans (Goes.below bm),?_⟩
   .rw [ai.o];rw[aO.o,show mh.toNat=kh from bt.o];exact aM.o.below bm
   rw[af.o];exact⟨w6.heap.size,a3,rfl,aF,aH.o.same.size,(λh=>by have h1:=(aM.o.fl _ h).2;omega),(λh=>by have h1:=(aM.o.rl _ h).2;omega),zgr w6 _⟩
  obtain⟨ak,aB⟩:=HH.o.glob.sent.at k (by omega);have aW:ak≠a3:=λe=>by
   subst e;have h1:=(List.getElem?_inj (by rw[HH.o.glob.sent.len];show k<12;omega) HH.o.glob.sent.nodup).1 (aB.trans aF.o.symm);omega
  obtain⟨c4,t4,a7⟩:=HH.o.glob.sent.blk ak (List.mem_of_getElem? aB);obtain⟨c3,t3,a8⟩:=HH.o.glob.sent.blk a3 (List.mem_of_getElem? aF);have a6:=blk a7 aa;have az:=blk a8 aa;clear a7 a8;have aO:Hid (s.zdV i ⟨mk,mh,mr,mf,mv,mn,ms⟩ fr=s):=by unfold Hid za.zdV;rw[zgU bp,hr]
  have ae:=zc hr;rw[hr,kA aB];rw[hr] at af;have HN:=zc (Va ak a3 _ _ _ _ w3 aW a6 az);clear hr;go_wp2_with fail
  refine HN.o.mono ?_;rintro e w4 ⟨rfl,ab⟩;have ax:=ab.symm;clear ab HN;subst ax;obtain⟨w4,ab⟩:=gen w3;subst ab;have cF:cN w4 w1 3 (iA mf):=zgs w4 w1.heap.size 3 _ _ _ (blk aG aT);obtain⟨aD,bC⟩:=ze (HH.o.below aa) aB;clear aW a6 az aB;have bn:Hid (BW w4 (w4.alloc (.cells #[iA mf,eA ak] 160))):=bwA w4;go_wp2;go_ret;refine⟨F,R,?_,Goes.below (aa.o.trans (bn.o.mono aa.o.size)),?_⟩
  .rw [ai.o];rw[aO.o];exact aD.o.below bn
  rw[af.o];exact⟨w4.heap.size,ak,rfl,bC,aa.o.size,(λh=>by have h1:=(aD.o.fl _ h).2;omega),(λh=>by have h1:=(aD.o.rl _ h).2;omega),zgr w4 _⟩
 .have ad:=zc ar;obtain⟨aP,HG⟩:=ze ay hg;have ai:Hid (s.zdc n i fr=s):=je (λh=>by rw[hd] at h;exact absurd h.1 zgN);have af:Hid (s.zdQ n fr=some (-1,1)):=by unfold Hid za.zdQ;rw[zgU (by rw[hd];exact zgN)]
  clear ar ay hg hd;unfold QO zbV yX.cells;go_wp2_with (first|(refine zf rfl 57 _ _ rfl w1 mA rfl rfl 57 _ rfl (by simp[Value.oneCell']) Tryz.zd1 ?_;intro w2 aq ah aw;have ao:=zc ah;clear aq ah aw)|fail)
  go_ret;have hB:=ad.o.trans (ao.o.mono ad.o.size);refine⟨F,R,by rw[ai.o];exact HH.o.below hB,Goes.below hB,?_⟩;rw[af.o];exact⟨g,a1,rfl,bB,HG,(λh=>by have h1:=(HH.o.fl _ h).2;have h2:=HG.o;omega),(λh=>by have h1:=(HH.o.rl _ h).2;have h2:=HG.o;omega),blk aP.o ao.o⟩
 have ad:=zc ar;obtain⟨aP,HG⟩:=ze ay hg;have ai:Hid (s.zdc n i fr=s):=je (λh=>by rw[al] at h;exact absurd h.2 zgN);have af:Hid (s.zdQ n fr=some ((decV fr).f,2)):=by unfold Hid za.zdQ;rw[zgT hd,zgU (by rw[al];exact zgN)]
 clear ar ay hg hd al;unfold QO zbV yX.cells;go_wp2_with (first|(refine zf rfl 57 _ _ rfl w1 mA rfl rfl 57 _ rfl (by simp[Value.oneCell']) Tryz.zd1 ?_;intro w2 aq ah aw;have ao:=zc ah;clear aq ah aw)|fail)
 go_ret;have hB:=ad.o.trans (ao.o.mono ad.o.size);refine⟨F,R,by rw[ai.o];exact HH.o.below hB,Goes.below hB,?_⟩;rw[af.o];exact⟨g,a2,rfl,bz,HG,(λh=>by have h1:=(HH.o.fl _ h).2;have h2:=HG.o;omega),(λh=>by have h1:=(HH.o.rl _ h).2;have h2:=HG.o;omega),blk aP.o ao.o⟩
variable{nb kb cb B rb n i:Nat}{V:yg}{s:za}{es:List Addr}{m:Int}{F R:Nat->Prop}
theorem Tryz.zd7:(prog.info? 72).map (·.size)=some 3:=by kernel_rfl
theorem Tryz.zfw:(prog.info? 226).map (·.size)=some 3:=by kernel_rfl
theorem jw{w:World}(hA:NodeAt nb kb cb V s w)(hx:Dom s.x):
 Calls prog 23 #[pA nb 0] w λe w'=>∃p r,e=.returned (.agg #[p,sA (nameB (memb s.x 26)),r])/\w'.ownsRow w.heap.size 3 1 p 8 (vC s.x 8)/\w'.ownsRow w.heap.size 3 1 r (memb s.x 26).length (jE s.x (memb s.x 26))/\(∀g,p.ownBlock=some g->r.ownBlock≠some g)/\BW w w':=by
 obtain⟨HX,ah⟩:=ze hx ((hA.below ((zgq _ w).alloc (zgp _) (.cells #[.slice none 0 0,sA ⟨#[]⟩,.slice none 0 0] 72))).reg);clear hx hA;go_enter func23,ntmps23;go_wp2_with (first|(refine zgX rfl 116 _ rfl nb 1 rfl (yd s.x) _ ah underlying116 rfl (by rw[Tryz.zc2];simp[yd]) ?_)|fail)
 refine(zau s.x _ HX).mono ?_;rintro e w1 ⟨p,r,rfl,hp,hr,ab,aa⟩;obtain⟨pp,pc,rfl⟩:=zl hp;obtain⟨rp,rc,rfl⟩:=zl hr;obtain⟨HP,ag,aj,ae⟩:=yi hp hr ab aa;have ai:Hid (cL w1 w.heap.size #[.slice none 0 0,sA ⟨#[]⟩,.slice none 0 0] 72):=blk (zgr w _) aa;clear hp hr ab aa;go_wp2_with (first|(refine zi rfl 72 _ _ rfl w.heap.size #[.slice pp 8 pc,sA (nameB (memb s.x 26)),.slice rp (memb s.x 26).length rc] rfl rfl 72 _ ai.o rfl (by simp[Value.oneCell']) Tryz.zd7 ?_;intro w3 af ad)|fail)
 have hsz:w.heap.size+1<=w1.heap.size:=by have:=ae.o.size;simp at this;omega
 have keep:∀{e n:Nat} {v:Value} {xs:List Value},w1.ownsRow (w.alloc (.cells #[.slice none 0 0,sA ⟨#[]⟩,.slice none 0 0] 72)).heap.size e 1 v n xs->w3.ownsRow w.heap.size e 1 v n xs:=λh=>yU (zb h (λg hg hlt=>ad.block g (λe=>by have:=(h.lt g hg).1;simp at this;omega))) (by simp);exact zgJ (v:=.agg #[.slice pp 8 pc,sA (nameB (memb s.x 26)),.slice rp (memb s.x 26).length rc]) (kW results23 _ _ w.heap.size 72 _ _ rfl af underlying72 rfl Tryz.zd7) rfl ⟨_,_,rfl,keep HP.o,keep ag.o,aj.o,((bwA w).trans (ae.o.mono (by simp))).trans (ad.below (zgp _))⟩
theorem Qm(t:zgW)(w:World):Calls prog 123 #[sA t] w λe w'=>e=.returned (bA (z7 t))/\BW w w':=by
 have ad:=zc (Ka t w);go_enter func123,ntmps123;go_wp2_with fail
 refine ad.o.mono ?_;rintro e w1 ⟨⟨a,b,c,rfl,_⟩,ab⟩;have ae:=zc ab;obtain⟨o,ho⟩:=gen (yn t.size (byt t 0) (byt t 1) (byt t 2));have HO:Hid (z7 t=o):=ho.symm;rw[<-ho];clear ab ho ad;go_wp2_with (first|(refine zf rfl 226 _ _ rfl w1 #[.int .u8 a,iA b,iA c] rfl rfl 226 _ rfl (by simp[Value.oneCell']) Tryz.zfw ?_;intro w2 ag aa af;have ah:=zc aa;clear ag aa af)|fail)
 go_ret;exact⟨by rw[HO.o];rfl,ae.o.trans (ah.o.mono ae.o.size)⟩
theorem JN{wc cap3:Nat}{t:zgW}{wp p3:Option Addr}{w2 Z w3 w4:World}
 (h:NodeW B es m F R nb kb rb cb n i s w2) (hA:NodeAt nb kb cb V s w2) (hf:∀k,V.zd4 nb cb k->F k) (hwv:V.wv=.slice wp s.wait.length wc) (hBZ:BW w2 Z)
 (hown3:w3.ownsRow 0 9 1 (.slice p3 (s.wait.length+1) cap3) (s.wait.length+1) (s.wait.map .string++[sA t])) (hgrow3:Z.grownBy w3 (Value.ownBlock (.slice wp s.wait.length wc))) (hat3:Value.ownBlock (.slice p3 (s.wait.length+1) cap3)=Value.ownBlock (.slice wp s.wait.length wc)\/Value.ownBlock (.slice p3 (s.wait.length+1) cap3)=some Z.heap.size)
 (hq4:w4.heap[nb]? =some (.cells ((nodeA kb cb V s).setIfInBounds 36 (.slice p3 (s.wait.length+1) cap3)) 135 (0,0))) (ho4:ko nb w3 w4):
 ∃F',NodeW B es m F' R nb kb rb cb n i { s with wait:=s.wait++[t] } w4/\Goes F R w2 F' R w4:=by
 rw[<-hwv] at hgrow3 hat3;have hs:zm (λk=>k=nb\/some k=V.wv.ownBlock) w2 w4:=by
  refine⟨ho4.os.trans (hgrow3.os.trans hBZ.os),ho4.tape.trans (hgrow3.tape.trans hBZ.tape),ho4.output.trans (hgrow3.output.trans hBZ.output),?_,λk hk hn=>?_⟩
  .rw [ho4.size];exact zgu hBZ.size hgrow3.size
  rw[ho4.block k (λe=>hn (zgR e)),hgrow3.block k (zgt hk hBZ.size) (λe=>hn (zgS e)),hBZ.block k hk]
 have hnl:nb<w2.heap.size:=zj hA.blk;have aa:∀g,Value.ownBlock (.slice p3 (s.wait.length+1) cap3)=some g->g≠nb:=λg hg e=>by
  rcases hat3 with h1|h1
  .exact hA.rows.2.1 (e▸(h1.symm.trans hg))
  rw[h1] at hg;cases hg;have:=hBZ.size;omega
 refine h.zeO (s':={ s with wait:=s.wait++[t] }) hA hf (.slice p3 (s.wait.length+1) cap3) (by rw[<-nodeA_wait];exact hq4) ?_ ?_ hs rfl rfl rfl rfl rfl rfl
 .show World.ownsRow w4 0 _ 1 _ (s.wait++[t]).length ((s.wait++[t]).map .string);rw[zgE,List.map_append];exact zb hown3 (λg hg _=>ho4.block g (aa g hg))
 rcases hat3 with h1|h1
 .exact zgR h1
 refine zgS λg hg=>?_;rw[h1] at hg;cases hg;exact hBZ.size
theorem Vt(t:zgW){w:World}(h:NodeW B es m F R nb kb rb cb n i s w)(hR:gQ B es w)(hw5:s.wait.length<=5):
 Calls prog 62 #[pA nb 0,sA t] w λe w'=>e=.returned (Q2 es (s.zdM t))/\∃F',NodeW B es m F' R nb kb rb cb n i (s.zdT t) w'/\Goes F R w F' R w':=by
 obtain⟨iW,aN,aL,aK,aJ⟩:=info_parts Tryz.zd3;obtain⟨V,hA,hf⟩:=h.node;obtain⟨a11,az⟩:=h.glob.sent.at 11 (by omega);obtain⟨a8,aO⟩:=h.glob.sent.at 8 (by omega);obtain⟨wp,wc,aM⟩:=zl hA.wait;obtain⟨aS,HH,HR,HA,HF,av,aT,aE⟩:=vF (Qm t w) h hR hA hf aM aO az;clear h hR hA hf aM aO az;go_enter func62,ntmps62;go_wp2_with fail
 refine aS.o.mono ?_;rintro e w2 ⟨rfl,aC⟩;obtain⟨aH,aD,aq⟩:=zC aC (HH.o.below aC) (HA.o.below aC);have c11:cE w2 11 0 (eA a11):=aD.o.glob.sent.cell 11 _ _ rfl aE;have c8:cE w2 8 0 (eA a8):=(HR.o.below HH.o.bl aC).cell 8 _ _ rfl aT;have C36:Hid (w2.cell? (aA nb 36)=some (.slice wp s.wait.length wc)):=by
  have h1:cE w2 nb 36 V.wv:=aq.o.cell 36 rfl;rw[av.o] at h1;exact h1
 clear aC aS;cases au:z7 t with
 |false=>
  have ak:Hid (s.zdM t=some 11):=by unfold Hid za.zdM;rw[zgT au]
  have aw:Hid (s.zdT t=s):=by unfold Hid za.zdT;rw[zgU (by rw[ak.o];simp)]
  clear au;go_wp2;go_ret;exact⟨by rw[ak.o,kA aE.o];rfl,F,by rw[aw.o];exact aD,Goes.below aH⟩
 |true=>
  have aj:¬z7 t=false:=by rw[au];exact Bool.noConfusion
  have c36:=C36.o;by_cases h5:5<=s.wait.length
  .have ak:Hid (s.zdM t=some 8):=by unfold Hid za.zdM;rw[zgU aj,zgT h5]
   have aw:Hid (s.zdT t=s):=by unfold Hid za.zdT;rw[zgU (by rw[ak.o];simp)]
   have aU:5<=(s.wait.length:Int):=by omega
   clear au aj;go_wp2;go_ret;exact⟨by rw[ak.o,kA aT.o];rfl,F,by rw[aw.o];exact aD,Goes.below aH⟩
  have ak:Hid (s.zdM t=none):=by unfold Hid za.zdM;rw[zgU aj,zgU h5]
  have aw:Hid (s.zdT t={ s with wait:=s.wait++[t] }):=by unfold Hid za.zdT;rw[zgT ak.o]
  have aU:¬5<=(s.wait.length:Int):=by omega
  have htz:t.size<=1000:=GW au;have aP:Hid (w2.ownsRow 0 9 1 (.slice wp s.wait.length wc) s.wait.length (s.wait.map .string)):=by
   have h1:=aq.o.wait;rw[av.o] at h1;exact h1
  have aR:Hid (nb<w2.heap.size):=zj aq.o.blk;have aQ:Hid (Value.ownBlock (.slice wp s.wait.length wc)≠some nb):=by have h1:=aq.o.rows.2.1;rw[av.o] at h1;exact h1
  have aG:=zc aq.o.blk;have aF:Hid ((nodeA kb cb V s)[36]? =some (.slice wp s.wait.length wc)):=by rw[<-av.o];rfl
  clear au aj c11 c8
  go_upto_region 5 with fail
  refine rgd (S:=λ_=>True) trivial λhH=>?_;refine zx [0,1,2,3,5] hH (λ_ h=>h) ?_;have c36d:cE w2.drew nb 36 (.slice wp s.wait.length wc):=C36.o;refine gn 4 6 (λK hK=>?_) λK hK=>?_
  .go_simp;refine hK.out _ _ trivial λhH=>?_;clear hK K
   try simp only[AP,AQ]
   refine zp 6 λK hK=>?_;go_simp;refine(jT t _ (by omega)).mono ?_;rintro en X ⟨rfl,aB⟩;have al:BW w2 X:=(zgq _ w2).drew.trans (aB.mono (zgp _));refine hK.out _ _ trivial λhH=>?_;clear hK K aB
   try simp only[AP,AQ]
   refine zp 7 λK hK=>?_;go_simp;obtain⟨Z,af⟩:=gen (X.alloc (.cells #[sA t] 9));have an:BW X Z:=by rw[af];exact bwA X
   have ar:Z.heap[X.heap.size]? =some (.cells #[sA t] 9 (0,0)):=by rw[af];exact zgr X _
   rw[<-af];clear af;have ag:BW w2 Z:=al.trans (an.mono al.size);refine hK.out _ _ trivial λhH=>?_;clear hK K
   try simp only[AP,AQ]
   refine zp 8 λK hK=>?_;rw[zgT (by rfl)];have ae:Z.ownsRow 0 9 1 (.slice wp s.wait.length wc) s.wait.length (s.wait.map .string):=zb aP (λg _ hg=>ag.block g hg);refine zQ _ _ _ 30 rfl 0 9 iW (sA zgV) 1 16 underlying30 aN aL aK aJ rfl (by decide) (.slice wp s.wait.length wc) s.wait.length (s.wait.map .string) rfl ae (nA X 0) 1 1 [sA t] rfl rfl ?n1 ?n2 (by unfold maxLen;omega) (by omega) (by omega) ?_
   case n1=>
    intro j u hj;rw[addr_add,zg0,zgs Z X.heap.size j _ _ _ ar];simpa using hj
   case n2=>
    intro u hu;simp at hu;subst hu;rfl
   intro v3 w3 ab aa ah;have ad:cL w3 nb (nodeA kb cb V s) 135:=(aa.block nb (zgt aR ag.size) (λe=>aQ e.symm)).trans (blk aG ag);refine hK.out _ _ trivial λhH=>?_;clear hK K;simp only[AP,AQ];refine zx [9,10] hH (λ_ h=>h) ?_;have c03:cE w3 nb 36 (.slice wp s.wait.length wc):=(zgs w3 nb 36 _ _ _ ad).trans aF;have f03:w3.frozen? (aA nb 36)=false:=zq ad 36;obtain⟨p3,cap3,rfl⟩:=zl ab;refine zp 11 λK hK=>?_;go_simp;obtain⟨w4,ai⟩:∃z,z=(w3.setCell (aA nb 36) (.slice p3 (s.wait.length+1) cap3)):=⟨_,rfl⟩;have ay:ko nb w3 w4:=by rw[ai];exact zd w3 nb 36 _
   have ax:w4.heap[nb]? =some (.cells ((nodeA kb cb V s).setIfInBounds 36 (.slice p3 (s.wait.length+1) cap3)) 135 (0,0)):=by
    rw[ai];exact setCell_row ad 36 _
   rw[<-ai];refine hK.out _ _ trivial λhH=>?_;clear hK K hH ai;refine dnr ?_;have ao:=zc (JN aD aq HF av ag ab aa ah ax ay);clear ab aa ah ax ay ad c03 f03 ag an ar ae;go_wp2;go_ret;obtain⟨F',h1,h2⟩:=ao.o;exact⟨by rw[ak.o];rfl,F',by rw[aw.o];exact h1,(Goes.below aH).trans h2⟩
  go_simp;refine(jT t _ (by omega)).mono ?_;rintro en X ⟨rfl,aB⟩;have al:BW w2 X:=(zgq _ w2).drew.trans (aB.mono (zgp _));refine hK.out _ _ trivial λhH=>?_;clear hK K aB
  try simp only[AP,AQ]
  have c36X:cE X nb 36 (.slice wp s.wait.length wc):=Ext.cell C36.o (Ext.of al);refine gn 4 7 (λK hK=>?_) λK hK=>?_;focus
   go_simp;refine hK.out _ _ trivial λhH=>?_;clear hK K
   try simp only[AP,AQ]
   refine zp 7 λK hK=>?_;go_simp;obtain⟨Z,af⟩:=gen (X.alloc (.cells #[sA t] 9));have an:BW X Z:=by rw[af];exact bwA X
   have ar:Z.heap[X.heap.size]? =some (.cells #[sA t] 9 (0,0)):=by rw[af];exact zgr X _
   rw[<-af];clear af;have ag:BW w2 Z:=al.trans (an.mono al.size)
  rotate_left;focus
   go_simp;obtain⟨Z,af⟩:=gen (X.alloc (.cells #[sA t] 9));have an:BW X Z:=by rw[af];exact bwA X
   have ar:Z.heap[X.heap.size]? =some (.cells #[sA t] 9 (0,0)):=by rw[af];exact zgr X _
   rw[<-af];clear af;have ag:BW w2 Z:=al.trans (an.mono al.size);refine hK.out _ _ trivial λhH=>?_;clear hK K
   try simp only[AP,AQ]
   have c36Z:cE Z nb 36 (.slice wp s.wait.length wc):=Ext.cell C36.o (Ext.of ag);refine zp 4 λK hK=>?_;go_simp
  rotate_left;all_goals
   refine hK.out _ _ trivial λhH=>?_;clear hK K
   try simp only[AP,AQ]
   refine zp 8 λK hK=>?_;rw[zgT (by rfl)];have ae:Z.ownsRow 0 9 1 (.slice wp s.wait.length wc) s.wait.length (s.wait.map .string):=zb aP (λg _ hg=>ag.block g hg);refine zQ _ _ _ 30 rfl 0 9 iW (sA zgV) 1 16 underlying30 aN aL aK aJ rfl (by decide) (.slice wp s.wait.length wc) s.wait.length (s.wait.map .string) rfl ae (nA X 0) 1 1 [sA t] rfl rfl ?n1 ?n2 (by unfold maxLen;omega) (by omega) (by omega) ?_
   case n1=>
    intro j u hj;rw[addr_add,zg0,zgs Z X.heap.size j _ _ _ ar];simpa using hj
   case n2=>
    intro u hu;simp at hu;subst hu;rfl
   intro v3 w3 ab aa ah;have ad:cL w3 nb (nodeA kb cb V s) 135:=(aa.block nb (zgt aR ag.size) (λe=>aQ e.symm)).trans (blk aG ag);refine hK.out _ _ trivial λhH=>?_;clear hK K;simp only[AP,AQ];refine zx [9,10] hH (λ_ h=>h) ?_;have c03:cE w3 nb 36 (.slice wp s.wait.length wc):=(zgs w3 nb 36 _ _ _ ad).trans aF;have f03:w3.frozen? (aA nb 36)=false:=zq ad 36;obtain⟨p3,cap3,rfl⟩:=zl ab;refine zp 11 λK hK=>?_;go_simp;obtain⟨w4,ai⟩:∃z,z=(w3.setCell (aA nb 36) (.slice p3 (s.wait.length+1) cap3)):=⟨_,rfl⟩;have ay:ko nb w3 w4:=by rw[ai];exact zd w3 nb 36 _
   have ax:w4.heap[nb]? =some (.cells ((nodeA kb cb V s).setIfInBounds 36 (.slice p3 (s.wait.length+1) cap3)) 135 (0,0)):=by
    rw[ai];exact setCell_row ad 36 _
   rw[<-ai];refine hK.out _ _ trivial λhH=>?_;clear hK K hH ai;refine dnr ?_;have ao:=zc (JN aD aq HF av ag ab aa ah ax ay);clear ab aa ah ax ay ad c03 f03 ag an ar ae;go_wp2;go_ret;obtain⟨F',h1,h2⟩:=ao.o;exact⟨by rw[ak.o];rfl,F',by rw[aw.o];exact h1,(Goes.below aH).trans h2⟩
end
section
theorem Below.same{B:Nat}{D:Nat->Prop}{w w':World}(hs:zm D w w')(hD:∀k,D k->B<=k)(hB:B<=w.heap.size):Below B w w':=
 { hs with block:=λk hk=>hs.block k (zgt hk hB) (λe=>by have:=hD k e;omega) }
section
variable{P:Program}
theorem Zd{o:Oper}{a:Act}{w:World}{K:Act->World->Prop}{Q:Exit->Act->World->Prop}(s x:Operand)(t:TypeId)
 (ho:o.op=.call { callee:=.builtin .append,args:=#[s,x],argTypes:=#[t,t] })
 (base:Nat) (e:TypeId) (i:TypeInfo) (z:Value) (bytes:Nat) (ht:P.underlying t=some (.slice e)) (hi:P.info? e=some i) (hz:i.zero=some z)
 (hsize:i.size=1) (hby:i.bytes=bytes) (hzs:z.cells.size=1)
 (v:Value) (n:Nat) (xs:List Value) (hs:a.eval s=v) (hown:w.ownsRow base e 1 v n xs)
 (p:Option Addr) (m c:Nat) (fr:Nat->zgW) (hx:a.eval x=.slice p m c) (hp:ga p m c) (hl:kG w w.heap.size p m (λi=>sA (fr i)))
 (h63:n+m<=maxLen) (hbytes:(n+m)*bytes<=140737488355328) (hbase:base<=w.heap.size)
 (h:∀v' w',w'.ownsRow base e 1 v' (n+m) (xs++(List.range m).map λi=>sA (fr i))->w.grownBy w' v.ownBlock->(v'.ownBlock=v.ownBlock\/v'.ownBlock=some w.heap.size)->K (a.put o.dst v') w'):o.wp P a w K Q:=by
 rcases hp with⟨rfl,rfl,rfl⟩|⟨b,off,rfl⟩
 .have hr:=run_append_owned_none (P:=P) w base t o.type e i 1 ht hi v n xs hown;unfold Oper.wp execOp;simp only[ho,resolve,invoke,builtin,Sem.run_bind,Sem.run_pure,Result.andThen_ok,List.map_toArray,List.map_cons,List.map_nil,hs,hx,hr];exact h v w (by simpa using hown) (World.grownBy.refl _ _) (zgR rfl)
 refine zQ w s x t ho base e i z 1 bytes ht hi hz hsize hby hzs (by decide) v n xs hs hown (aA b off) m c ((List.range m).map λi=>sA (fr i)) hx (by simp) (λj u hj=>?_) (λu hu=>?_) h63 hbytes hbase h
 .have aa:j<m:=by have:=(List.getElem?_eq_some_iff.1 hj).1;simpa using this
  obtain⟨b',o',e',_,hc⟩:=hl j aa;cases e';have e2:((List.range m).map λi=>Value.string (fr i))[j]? =some (sA (fr j)):=by simp[aa]
  rw[e2] at hj;cases hj;rw[addr_add];exact hc
 simp only[List.mem_map] at hu;obtain⟨a,_,rfl⟩:=hu;rfl
end
end
section
open Proofs.Tryz
variable{w:World}{n:Nat}{v:Value}
theorem Tryz.zge(W:World):(binOp .eql 30 (.slice none 0 0) (.slice none 0 0)).run prog W=.ok (bA true) W:=by kernel_rfl
theorem Tryz.zgd(b o n c:Nat)(W:World):(binOp .eql 30 (.slice (some (aA b o)) n c) (.slice none 0 0)).run prog W=.ok (bA false) W:=by kernel_rfl
theorem zcj{base:Nat}{fr:Nat->zgW}(h:w.ownsRow base 9 1 v n ((List.range n).map λi=>sA (fr i))):∃p c,v=.slice p n c/\ga p n c/\kG w w.heap.size p n (λi=>sA (fr i)):=by
 rcases h.2 with⟨rfl,hn⟩|⟨gb,cap,cur,rfl,hb,hg,hnc,hcm,hcs,ht⟩
 .subst hn;exact⟨none,0,rfl,zgR ⟨rfl,rfl,rfl⟩,λi hi=>by omega⟩
 refine⟨_,cap,rfl,zgS ⟨gb,0,rfl⟩,λi hi=>⟨gb,0,rfl,zj hg,?_⟩⟩;rw[zgs w gb (0+i) _ _ _ hg,zg0];have e1:(cur.toList.take (n*1))[i]? =((List.range n).map λi=>Value.string (fr i))[i]? :=by rw[ht]
 rw[zg5,zgT (by omega)] at e1;rw[<-zg8,e1];simp[hi]
theorem zbx{b t z:Nat}{xs:List Value}(h:w.ownsRow 0 t z v n xs)(hb:∀g,v.ownBlock=some g->b<=g):w.ownsRow b t z v n xs:=by
 refine⟨h.1,?_⟩;rcases h.2 with⟨rfl,hn⟩|⟨g,cap,cur,rfl,-,hr⟩
 .exact zgR ⟨rfl,hn⟩
 exact zgS ⟨g,cap,cur,rfl,hb g rfl,hr⟩
def zcx(n:Nat)(fr:Nat->zgW)(w:World)(e:Ending)(w':World):Prop:=∃p' c',e=.returned (.slice p' n c')/\ga p' n c'/\kG w' w'.heap.size p' n (λi=>sA (fr i))/\w'.ownsRow w.heap.size 9 1 (.slice p' n c') n ((List.range n).map λi=>sA (fr i))/\BW w w'
theorem Xp(p:Option Addr)(n c:Nat)(fr:Nat->zgW)(w:World)(hp:ga p n c)(hl:kG w w.heap.size p n (λi=>sA (fr i)))(hn:n<=4000000000000):
 Calls prog 125 #[.slice p n c] w (zcx n fr w):=by
 obtain⟨iW,ar,ao,an,al⟩:=info_parts Tryz.zd3;have HL:=zc hl;clear hl;rcases hp with⟨rfl,rfl,rfl⟩|⟨b,o,rfl⟩
 .have q1:(binOp .eql 30 (.slice none 0 0) (.slice none 0 0)).run prog w=.ok (bA true) w:=Tryz.zge w;go_enter func125,ntmps125;go_wp2;go_ret;exact⟨none,0,rfl,zgR ⟨rfl,rfl,rfl⟩,HL,⟨rfl,zgR ⟨rfl,rfl⟩⟩,zgq _ _⟩
 have q1:(binOp .eql 30 (.slice (some (aA b o)) n c) (.slice none 0 0)).run prog w=.ok (bA false) w:=Tryz.zgd b o n c w;go_enter func125,ntmps125;have hq:cL (w.alloc (.cells #[] 9)) w.heap.size (#[]:Array Value) 9:=zgr w _;have ag:Hid ((w.alloc (.cells #[] 9)).ownsRow 0 9 1 (.slice (some (nA w 0)) 0 0) 0 []):=Ys (l:=[]) hq (zgv _) (zgv _);have af:BW w (w.alloc (.cells #[] 9)):=bwA w;obtain⟨au,ai⟩:=ze ((HL.o.below af).more af.size) af;clear af hq;go_wp2_with (at_builtin;refine wpList_plain rfl λK hK=>Zd _ _ 30 rfl 0 9 iW (sA zgV) 16 underlying30 ar ao an al rfl (.slice (some (nA w 0)) 0 0) 0 [] rfl ag (some (aA b o)) n c fr rfl (zgS ⟨b,o,rfl⟩) au (by unfold maxLen;omega) (by omega) (zgv _) (λv7 w7 ab aa ak=>hK _ _ ?_);clear hK K;rw[List.nil_append,zg0] at ab;have ad:=zbx (b:=w.heap.size) ab (λg e=>ak.elim (λh1=>by rw[h1] at e;cases e;exact zgp _) (λh1=>by rw[h1] at e;cases e;exact ai.o.size));obtain⟨p7,c7,aq,ae,aj⟩:=zcj ab;subst aq;have ah:Hid (ga p7 n c7/\kG w7 w7.heap.size p7 n (λi=>sA (fr i))/\w7.ownsRow w.heap.size 9 1 (.slice p7 n c7) n ((List.range n).map λi=>sA (fr i))/\BW w w7):=⟨ae,aj,ad,ai.o.trans { aa with block:=λk hk=>aa.block k (zgt hk ai.o.size) (λe=>by cases e;exact absurd hk (zgO _)) }⟩;clear ab ad aa ak ae aj)
 go_ret;exact⟨p7,c7,rfl,ah⟩
theorem Tryz.zfd:(prog.info? 175).map (·.size)=some 4:=by kernel_rfl
theorem Vm:∀(l:List (YT×Value)) (j:Nat) (d:YT) (cv:Value),l[j]? =some (d,cv)->(gG l)[j*4+0]? =some (sA d.block)
 | [],_,_,_,h=>by simp at h
 |a::l,j,d,cv,h=>by
  have e1:gG (a::l)=(G4 a).toList++gG l:=rfl;cases j with
  |zero=>
   simp only[List.getElem?_cons_zero] at h;cases h;rfl
  |succ j=>
   rw[List.getElem?_cons_succ] at h;rw[e1,zgC (by show 4<=(j+1)*4+0;omega),show(j+1)*4+0-(G4 a).toList.length=j*4+0 by show(j+1)*4+0-4=_;omega];exact Vm l j d cv h
theorem G3{g cap k:Nat}{ds:List (YT×Value)}{d:YT}{cv dv:Value}(h:w.ownsRow 0 175 4 dv ds.length (gG ds))(hv:dv=.slice (some (aA g 0)) n cap)(hl:ds.length=n)(hk:k<n)(hd:ds[k]? =some (d,cv)):w.cell? (aA g (k*4+0))=some (sA d.block):=by
 subst hv;rcases h.2 with⟨e,_⟩|⟨g',cap',cur,e,hb,hg,hnc,hcm,hcs,ht⟩
 .cases e
 cases e;rw[zgs w g _ _ _ _ hg];have e1:(cur.toList.take (ds.length*4))[k*4+0]? =(gG ds)[k*4+0]? :=by rw[ht]
 rw[zg5,zgT (by omega)] at e1;rw[<-zg8,e1];exact Vm ds k d cv hd
def js(s:za)(h:Int)(a:Addr)(w:World)(e:Ending)(w':World):Prop:=
 if 0<=h/\h<(s.dec.length:Int) then ∃p c,e=.returned (.tuple #[sA (s.dec.getD h.toNat yz).block,.slice p (s.dec.getD h.toNat yz).cert.length c,.nilIface])/\ga p (s.dec.getD h.toNat yz).cert.length c/\kG w' w'.heap.size p (s.dec.getD h.toNat yz).cert.length (λi=>sA ((s.dec.getD h.toNat yz).cert.getD i zgV))/\w'.ownsRow w.heap.size 9 1 (.slice p (s.dec.getD h.toNat yz).cert.length c) (s.dec.getD h.toNat yz).cert.length ((List.range (s.dec.getD h.toNat yz).cert.length).map λi=>sA ((s.dec.getD h.toNat yz).cert.getD i zgV))/\BW w w'
 else e=.returned (.tuple #[sA ⟨#[]⟩,.slice none 0 0,eA a])/\BW w w'
theorem Jx(nb kb cb:Nat)(V:yg)(s:za)(h:Int)(a:Addr)(w:World)(hA:NodeAt nb kb cb V s w)(hh:s.dec.length<=12)(hcl:∀d∈s.dec,d.cert.length<=100000)(hg:w.cell? (aA 10 0)=some (eA a)):
 Calls prog 74 #[pA nb 0,iA h] w (js s h a w):=by
 by_cases ah:0<=h/\h<(s.dec.length:Int)
 .obtain ⟨k,hk⟩:∃k:Nat,h=(k:Int):=⟨h.toNat,by omega⟩
  subst hk;have aj:k<s.dec.length:=by omega
  have HP:Hid (∀e w',(∃p c,e=.returned (.tuple #[sA (s.dec.getD k yz).block,.slice p (s.dec.getD k yz).cert.length c,.nilIface])/\ga p (s.dec.getD k yz).cert.length c/\kG w' w'.heap.size p (s.dec.getD k yz).cert.length (λi=>sA ((s.dec.getD k yz).cert.getD i zgV))/\w'.ownsRow w.heap.size 9 1 (.slice p (s.dec.getD k yz).cert.length c) (s.dec.getD k yz).cert.length ((List.range (s.dec.getD k yz).cert.length).map λi=>sA ((s.dec.getD k yz).cert.getD i zgV))/\BW w w')->js s (k:Int) a w e w'):=λe w' hx=>by
   unfold js;rw[zgT ah,Int.toNat_natCast];exact hx
  obtain⟨g,cap,cv,ad,aB,ai,c1,c2,c3,⟨C,hC,aE⟩,al⟩:=hA.zfA k aj;obtain⟨d,hd⟩:=gen (s.dec.getD k yz);rw[<-hd] at ai c1 c3 HP;have ak:(d,cv)∈V.ds:=List.mem_of_getElem? ai;have aa:w.ownsRow 0 9 1 cv d.cert.length (d.cert.map .string):=hA.cert (d,cv) ak;have av:d.cert.length<=100000:=hcl d (by rw[<-hA.eds];exact List.mem_map.2 ⟨(d,cv),ak,rfl⟩);have c0:w.cell? (aA g (k*4+0))=some (sA d.block):=by
   have hl:V.ds.length=s.dec.length:=by
    have e:=congrArg List.length hA.eds;rw[List.length_map] at e;exact e
   exact G3 hA.dec ad hl aj ai
  obtain⟨cp,cc,aD⟩:=zl aa;subst aD;have c35:w.cell? (aA nb 35)=some (.slice (some (aA g 0)) s.dec.length cap):=by rw[<-ad];exact hA.cell 35 rfl
  have aF:Hid (w.rangeAt g (k*4) [sA d.block,sA d.prop,.slice cp d.cert.length cc,bA d.told]):=λj v hv=>by
   match j,hv with
   |0,hv=>cases hv;exact c0
   |1,hv=>cases hv;exact c1
   |2,hv=>cases hv;exact c2
   |3,hv=>cases hv;exact c3
   |j+4,hv=>cases hv
  obtain⟨q5,q6,e5,_,ag⟩:=zL aa;cases e5;obtain⟨aH,aG⟩:=ze ag (Yt aa);have hki:(k:Int)<s.dec.length:=by omega
  have hk0:¬(k:Int)<0:=by omega
  have aC:¬(s.dec.length:Int)<=(k:Int):=by omega
  clear hA ad ai c1 c2 c3 c0 hC aE al ak aa hcl hd hg ah aj ag;go_enter func74,ntmps74
  go_upto_region 4 with(first|(refine zgX rfl 175 _ rfl g (k*4) rfl [sA d.block,sA d.prop,.slice cp d.cert.length cc,bA d.told] _ aF underlying175 rfl (by rw[Tryz.zfd];rfl) ?_)|(refine zf rfl 175 _ _ rfl w #[sA d.block,sA d.prop,.slice cp d.cert.length cc,bA d.told] rfl rfl 175 _ rfl (by simp[Value.oneCell']) Tryz.zfd ?_;intro w3 au ax az;have ae:=zc ax;have ay:=zc au;clear au ax az)|fail)
  have c3b:cN w3 w 0 (sA d.block):=zgs w3 w.heap.size 0 _ _ _ ay;have c3c:cN w3 w 2 (.slice cp d.cert.length cc):=zgs w3 w.heap.size 2 _ _ _ ay;obtain⟨ar,aq⟩:=ze c3b c3c;clear c3b c3c;refine rgd (S:=λX=>BW w3 X) ((zgq _ w3).drew) λhH=>?_;refine zZ [(0,some 27,pA w.heap.size 0),(1,some 28,sA d.block),(2,some 29,pA w.heap.size 2),(3,some 30,.slice cp d.cert.length cc)] _ _ hH (λx h=>aI (show cN x w 0 (sA d.block) from Ext.cell ar (Ext.of h)) (show cN x w 2 (.slice cp d.cert.length cc) from Ext.cell aq (Ext.of h))) ?_;simp only[zh,AP,pA];refine zp 4 λK hK=>?_;go_simp;refine(Xp cp d.cert.length cc (λi=>d.cert.getD i zgV) _ aG.o ((aH.o.below (ae.o.trans (hH.mono ae.o.size))).more (zgu ae.o.size hH.size)) (by omega)).mono ?_;rintro en X5 ⟨p5,c5,rfl,af,ag,ab,aw⟩;have an:BW w3 X5:=hH.trans (aw.mono hH.size);have ao:Hid (ga p5 d.cert.length c5/\kG X5 X5.heap.size p5 d.cert.length (λi=>sA (d.cert.getD i zgV))/\X5.ownsRow w.heap.size 9 1 (.slice p5 d.cert.length c5) d.cert.length ((List.range d.cert.length).map λi=>sA (d.cert.getD i zgV))/\BW w X5):=⟨af,ag,zbx (yU ab (zgv _)) (λg e=>zgu (zgu ae.o.size hH.size) (ab.lt g e).1),ae.o.trans (an.mono ae.o.size)⟩;refine hK.out _ _ (an) λhH=>?_;clear hK K
  try simp only[AP,AQ]
  refine y8 [(5,some 4,sA d.block),(6,some 5,.slice p5 d.cert.length c5),(7,some 6,.nilIface)] _ _ hH ?_;simp only[zh,AP];refine dnr ?_;clear hH an af ag ab aw;go_wp2
  go_ret3
  exact HP _ _ ⟨p5,c5,rfl,ao⟩
 have HP:Hid (∀e w',e=.returned (.tuple #[sA ⟨#[]⟩,.slice none 0 0,eA a])/\BW w w'->js s h a w e w'):=λe w' hx=>by
  unfold js;rw[zgU ah];exact hx
 have HG:=zc hg;have c35:cE w nb 35 V.dv:=hA.cell 35 rfl;have av:∃p c,V.dv=.slice p s.dec.length c:=by
  obtain⟨p,c,e⟩:=zl hA.dec;have hl:V.ds.length=s.dec.length:=by
   have e:=congrArg List.length hA.eds;rw[List.length_map] at e;exact e
  exact⟨p,c,by rw[e,hl]⟩
 obtain⟨p,c,ad⟩:=av;rw[ad] at c35;clear hA hcl ad;by_cases h0:h<0;focus
  clear ah
 rotate_left;focus
  have aC:(s.dec.length:Int)<=h:=by omega
  clear ah
 rotate_left;all_goals
  go_enter func74,ntmps74;have c10:=HG.o;go_wp2_with fail
  go_quiet (fail)
  go_wp2
  go_ret3
  exact HP _ _ ⟨rfl,zgZ (zgq _ w) _⟩

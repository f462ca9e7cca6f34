import Derived.Test.YtcfjhbcpjpgodaaGreatDoorJ26
import Derived.Test.YtcfjhbcpjpgodaaGreatDoorJ30
namespace Go.Proofs.YtcfjhbcpjpgodaaGreatDoor
open Go.RowKit Proofs.Tryz
set_option maxRecDepth 100000
set_option maxHeartbeats 0
set_option linter.all false
variable{es:List Addr}{B nb kb cb:Nat}{w w':World}{s:za}
def za6(es:List Addr)(o:Option Nat):Value:=match o with|none=>.nilIface|some k=>.iface 294 (.pointer es[k]?)
theorem ql{k:Nat}{a:Addr}(h:es[k]? =some a):za6 es (some k)=eA a:=by
 show Value.iface _ (Value.pointer es[k]?)=_;rw[h]
def zfm(i:Nat):Bool:=i==3||i==4||i==5||i==6||i==7||i==8
structure v8 (B:Nat) (es:List Addr) (w:World):Prop where
 cellR:∀(i g:Nat) (a:Addr),qt[i]? =some g->es[i]? =some a->zfm i=true->w.cell? (aA g 0)=some (eA a)
 gb:∀i g:Nat,qt[i]? =some g->zfm i=true->g<B
theorem v8.same(h:v8 B es w)(hb:∀k,k<B->w'.heap[k]? =w.heap[k]?):v8 B es w':=
 ⟨λi g a hg ha hi=>(zjH (w:=w) (a:=(aA g 0)) (hb g (h.gb i g hg hi))).trans (h.cellR i g a hg ha hi),h.gb⟩
theorem v8.below(h:v8 B es w)(hB:B<=w.heap.size)(hb:BW w w'):v8 B es w':=h.same λk hk=>hb.block k (zjE hk hB)
theorem v8.cell(h:v8 B es w)(i g:Nat)(a:Addr)(hg:qt[i]? =some g)(ha:es[i]? =some a)(hi:zfm i=true:=by decide):w.cell? (aA g 0)=some (eA a):=h.cellR i g a hg ha hi
def za.zg9(s:za)(m:kE)(fr:zj5):Option Nat:=if ZG (s.zf8 m.h) fr=true then some 6 else if 2<=likeN (s.zf8 m.h) m then some 7 else none
theorem zdN{m:kE}{fr:zj5}(h1:¬m.h<(s.zfF:Int))(h2:¬((s.zfF:Int)+1<m.h\/20<m.r))(h3:¬(m.h=(s.zfF:Int)/\s.zfJ m=true)):s.zgl m fr=s.zg9 m fr:=by
 unfold za.zgl za.zg9;rw[zj3 h1,zj3 h2,zj3 h3]
theorem NodeAt.zju{V:yc}(h:NodeAt nb kb cb V s w)(mh:Int):∃(L:List zl) (off:Nat) (p:Option Addr) (c:Nat),L=s.zf8 mh/\w.cell? (aA nb off)=some (.slice p L.length c)/\L.length<=maxLen/\kD w w.heap.size p L.length (λi=>L.getD i yl)/\off=(if mh=(s.zfF:Int) then 37 else 38):=by
 by_cases e:mh=(s.zfF:Int)
 .obtain ⟨p,c,-,h1,h2,h3⟩:=h.logAt
  exact⟨s.log,37,p,c,by unfold za.zf8;rw[zj2 e],h1,h2,h3,by rw[zj2 e]⟩
 obtain⟨p,c,e1,h1,h2⟩:=XU h.ahead;have c38:cE w nb 38 V.av:=h.cell 38 rfl;rw[e1] at c38;exact⟨s.ahead,38,p,c,by unfold za.zf8;rw[zj3 e],c38,h1,h2,by rw[zj3 e]⟩
theorem VE{N:Nat}(m:kE)(fr:zj5){V:yc}{s:za}{w:World}(hA:NodeAt nb kb cb V s w)(hlen:es.length=12)(hR:v8 B es w)(hB:B<=w.heap.size)(ok:YI N s)(hN:N<=10000000)(hm:0<=m.h/\0<=m.r):
 Calls prog 79 #[pA nb 0,.agg m.cells,sA fr] w λe w'=>e=.returned (za6 es (s.zgl m fr))/\BW w w':=by
 obtain⟨mk,mh,mr,mf,mv,mn,ms⟩:=m;obtain⟨hh0,aO⟩:=hm;have al:∀k,k<12->∃a,es[k]? =some a:=λk hk=>⟨_,zjJ (by rw[hlen];exact hk)⟩;obtain⟨a3,e3⟩:=al 3 (by omega);obtain⟨a4,e4⟩:=al 4 (by omega);obtain⟨a5,e5⟩:=al 5 (by omega);obtain⟨a6,e6⟩:=al 6 (by omega);obtain⟨a7,e7⟩:=al 7 (by omega);show Calls prog 79 #[pA nb 0,.agg #[iA mk,iA mh,iA mr,iA mf,iA mv,bA mn,sA ms],sA fr] w λe w'=>e=.returned (za6 es (s.zgl ⟨mk,mh,mr,mf,mv,mn,ms⟩ fr))/\BW w w';obtain⟨w1,aw⟩:=gen (w.alloc (.cells #[iA mk,iA mh,iA mr,iA mf,iA mv,bA mn,sA ms] 57));have ay:BW w w1:=by rw[aw];exact bwA w
 have ax:w1.heap[w.heap.size]? =some (.cells #[iA mk,iA mh,iA mr,iA mf,iA mv,bA mn,sA ms] 57 (0,0)):=by rw[aw];exact zjC w _
 have an:=hR.below hB ay;have az:=hA.below ay;obtain⟨L,off,p,c,hL,aq,aK,aF,aJ⟩:=az.zju mh;have aP:L.length<=10000000:=by
  rw[hL];unfold za.zf8;have h1:=ok.log;have h2:=ok.ahead;split<;>omega
 have hhb:(s.zfF:Int)<=12:=by have:=ok.hgt;omega
 have hwr:IntKind.i64.wrap ((s.zfF:Int)+1)=(s.zfF:Int)+1:=wrap_small _ (by omega) (by omega);have C1:Hid (cN w1 w 1 (iA mh)):=zjD w1 w.heap.size 1 _ _ _ ax;have C2:Hid (cN w1 w 2 (iA mr)):=zjD w1 w.heap.size 2 _ _ _ ax;have CS3:Hid (cE w1 0 0 (eA a3)):=an.cell 3 _ _ rfl e3;have CS4:Hid (cE w1 4 0 (eA a4)):=an.cell 4 _ _ rfl e4;have CS5:Hid (cE w1 5 0 (eA a5)):=an.cell 5 _ _ rfl e5;have CS6:Hid (cE w1 6 0 (eA a6)):=an.cell 6 _ _ rfl e6;have CS7:Hid (cE w1 7 0 (eA a7)):=an.cell 7 _ _ rfl e7;obtain⟨aS,aN,aR,aM,aL,HL,COFF⟩:=Qy e3 e4 e5 e6 e7 hL aq;have ar:Hid (∀W,BW w1 W->Calls prog 126 #[pA nb 0,iA mh] W λen w'=>en=.returned (pA nb off)/\w'=W):=λW hW=>by
  have h1:=JE nb kb cb mh V s W (az.below hW);rw[<-aJ] at h1;exact h1
 have av:Hid (∀W,BW w1 W->Calls prog 127 #[.slice p L.length c,sA fr] W λe w'=>e=.returned (bA (ZG L fr))/\BW W w'):=λW hW=>zet L p c fr W (aF.ext (Ext.of hW)) aK;have aj:Hid (∀W,BW w1 W->Calls prog 128 #[.slice p L.length c,.agg #[iA mk,iA mh,iA mr,iA mf,iA mv,bA mn,sA ms]] W λe w'=>e=.returned (iA (likeN L ⟨mk,mh,mr,mf,mv,mn,ms⟩:Int))/\BW W w'):=λW hW=>zdc L p c ⟨mk,mh,mr,mf,mv,mn,ms⟩ W (aF.ext (Ext.of hW)) (by omega);obtain⟨ai,aH,ad,aB,aQ⟩:=x6 az ok ay ax aw;clear hA hR hB ok hlen al e3 e4 e5 e6 e7 ay ax an az hL aq aK aF aJ aP aw;go_enter func79,ntmps79;go_wp2_with fail
 rw[<-aQ.o];by_cases h1:mh<(s.zfF:Int)
 .have aa:Hid (s.zgl ⟨mk,mh,mr,mf,mv,mn,ms⟩ fr=some 3):=by unfold Hid za.zgl;rw[zj2 h1]
  refine rgd (S:=λX=>BW w1 X) ((zjB _ w1).drew) λhH=>?_;refine zQ [(0,some 9,pA w.heap.size 1),(1,some 10,iA mh),(2,some 11,pA nb 0)] _ _ hH (λx h=>show cN x w 1 (iA mh) from Ext.cell C1.o (Ext.of h)) ?_;simp only[ze,AP,pA];refine zv 3 λK hK=>?_;go_simp;refine(zH nb kb cb V s _ (ai.o.below hH)).mono ?_;rintro en X2 ⟨rfl,rfl⟩;refine hK.out _ _ (hH) λhH=>?_;clear hK K
  try simp only[AP,AQ]
  refine y7 [(4,some 13,bA true),(5,some 8,bA true)] _ _ hH ?_;simp only[ze,AP];refine dnr ?_;have cG:cE w1.drew 0 0 (eA a3):=Ext.cell (CS3.o) (Ext.of hH);go_wp2;go_ret;exact⟨by rw[aa.o,ql aS.o];rfl,ad.o.trans (hH.mono ad.o.size)⟩
 have n1:=h1;refine rgd (S:=λX=>BW w1 X) ((zjB _ w1).drew) λhH=>?_;refine zQ [(0,some 9,pA w.heap.size 1),(1,some 10,iA mh),(2,some 11,pA nb 0)] _ _ hH (λx h=>show cN x w 1 (iA mh) from Ext.cell C1.o (Ext.of h)) ?_;simp only[ze,AP,pA];refine zv 3 λK hK=>?_;go_simp;refine(zH nb kb cb V s _ (ai.o.below hH)).mono ?_;rintro en X2 ⟨rfl,rfl⟩;refine hK.out _ _ (hH) λhH=>?_;clear hK K
 try simp only[AP,AQ]
 refine y7 [(4,some 13,bA false),(5,some 8,bA false)] _ _ hH ?_;simp only[ze,AP];refine dnr ?_;go_wp2_with fail
 have n1:¬mh<(s.zfF:Int):=by omega
 by_cases h2:(s.zfF:Int)+1<mh
 .have aa:Hid (s.zgl ⟨mk,mh,mr,mf,mv,mn,ms⟩ fr=some 4):=by unfold Hid za.zgl;rw[zj3 n1,zj2 (zj0 h2)]
  refine rgd (S:=λX=>BW w1 X) (hH.drew) λhH=>?_;refine zQ [(0,some 16,pA w.heap.size 1),(1,some 17,iA mh),(2,some 18,pA nb 0)] _ _ hH (λx h=>show cN x w 1 (iA mh) from Ext.cell C1.o (Ext.of h)) ?_;simp only[ze,AP,pA];refine zv 3 λK hK=>?_;go_simp;refine(zH nb kb cb V s _ (ai.o.below hH)).mono ?_;rintro en X2 ⟨rfl,rfl⟩;refine hK.out _ _ (hH) λhH=>?_;clear hK K
  try simp only[AP,AQ]
  refine zQ [(4,some 20,iA ((s.zfF:Int)+1)),(5,some 21,bA true),(6,some 22,bA true),(7,some 23,undef),(8,some 24,undef),(9,some 25,undef),(10,some 26,bA true),(11,some 15,bA true)] _ _ hH (λ_ h=>h) ?_;simp only[ze,AP];refine dnr ?_;have cG:cE w1.drew.drew 4 0 (eA a4):=Ext.cell (CS4.o) (Ext.of hH);go_wp2;go_ret;exact⟨by rw[aa.o,ql aN.o];rfl,ad.o.trans (hH.mono ad.o.size)⟩
 by_cases h3:20<mr
 .have aa:Hid (s.zgl ⟨mk,mh,mr,mf,mv,mn,ms⟩ fr=some 4):=by unfold Hid za.zgl;rw[zj3 n1,zj2 (zj1 h3)]
  refine rgd (S:=λX=>BW w1 X) (hH.drew) λhH=>?_;refine zQ [(0,some 16,pA w.heap.size 1),(1,some 17,iA mh),(2,some 18,pA nb 0)] _ _ hH (λx h=>show cN x w 1 (iA mh) from Ext.cell C1.o (Ext.of h)) ?_;simp only[ze,AP,pA];refine zv 3 λK hK=>?_;go_simp;refine(zH nb kb cb V s _ (ai.o.below hH)).mono ?_;rintro en X2 ⟨rfl,rfl⟩;refine hK.out _ _ (hH) λhH=>?_;clear hK K
  try simp only[AP,AQ]
  refine zQ [(4,some 20,iA ((s.zfF:Int)+1)),(5,some 21,bA false),(6,some 22,bA false),(7,some 23,pA w.heap.size 2),(8,some 24,iA mr),(9,some 25,bA true),(10,some 26,bA true),(11,some 15,bA true)] _ _ hH (λx h=>show cN x w 2 (iA mr) from Ext.cell C2.o (Ext.of h)) ?_;simp only[ze,AP,pA];refine dnr ?_;have cG:cE w1.drew.drew 4 0 (eA a4):=Ext.cell (CS4.o) (Ext.of hH);go_wp2;go_ret;exact⟨by rw[aa.o,ql aN.o];rfl,ad.o.trans (hH.mono ad.o.size)⟩
 refine rgd (S:=λX=>BW w1 X) (hH.drew) λhH=>?_;refine zQ [(0,some 16,pA w.heap.size 1),(1,some 17,iA mh),(2,some 18,pA nb 0)] _ _ hH (λx h=>show cN x w 1 (iA mh) from Ext.cell C1.o (Ext.of h)) ?_;simp only[ze,AP,pA];refine zv 3 λK hK=>?_;go_simp;refine(zH nb kb cb V s _ (ai.o.below hH)).mono ?_;rintro en X2 ⟨rfl,rfl⟩;refine hK.out _ _ (hH) λhH=>?_;clear hK K
 try simp only[AP,AQ]
 refine zQ [(4,some 20,iA ((s.zfF:Int)+1)),(5,some 21,bA false),(6,some 22,bA false),(7,some 23,pA w.heap.size 2),(8,some 24,iA mr),(9,some 25,bA false),(10,some 26,bA false),(11,some 15,bA false)] _ _ hH (λx h=>show cN x w 2 (iA mr) from Ext.cell C2.o (Ext.of h)) ?_;simp only[ze,AP,pA];refine dnr ?_;go_wp2_with fail
 have n1:¬mh<(s.zfF:Int):=by omega
 have h1:=n1;have n3:¬((s.zfF:Int)+1<mh\/20<mr):=by omega
 have ah:Hid (∀W,BW w1 W->Calls prog 106 #[pA nb 0,.agg #[iA mk,iA mh,iA mr,iA mf,iA mv,bA mn,sA ms]] W λe w'=>e=.returned (bA (s.zfJ ⟨mk,mh,mr,mf,mv,mn,ms⟩))/\BW W w'):=λW hW=>xd nb kb cb ⟨mk,mh,mr,mf,mv,mn,ms⟩ V s W (ai.o.below hW) aH.o.dom aH.o.pos aH.o.hgt ⟨aO,by show mr<=20;omega⟩;by_cases h4:mh=(s.zfF:Int)
 .cases h5:s.zfJ ⟨mk,mh,mr,mf,mv,mn,ms⟩ with
  |true=>
   have aa:Hid (s.zgl ⟨mk,mh,mr,mf,mv,mn,ms⟩ fr=some 5):=by unfold Hid za.zgl;rw[zj3 n1,zj3 n3,zj2 ⟨h4,h5⟩]
   rw[h5] at ah;clear h5;have q4:(mh==(s.zfF:Int))=true:=by simpa using h4
   have H4:=zc h4;clear h4;refine rgd (S:=λX=>BW w1 X) (hH.drew) λhH=>?_;refine zQ [(0,some 29,pA w.heap.size 1),(1,some 30,iA mh),(2,some 31,pA nb 0)] _ _ hH (λx h=>show cN x w 1 (iA mh) from Ext.cell C1.o (Ext.of h)) ?_;simp only[ze,AP,pA];refine zv 3 λK hK=>?_;go_simp;refine(zH nb kb cb V s _ (ai.o.below hH)).mono ?_;rintro en X2 ⟨rfl,rfl⟩;refine hK.out _ _ (hH) λhH=>?_;clear hK K
   try simp only[AP,AQ]
   refine takeN [(4,some 33,bA true),(5,some 34,bA true),(6,some 35,pA nb 0),(7,some 36,.agg ([iA mk,iA mh,iA mr,iA mf,iA mv,bA mn,sA ms]).toArray)] _ _ hH (by repeat(first|exact zj7|((first|refine tkc rfl rfl (zka (by rfl) 57 _ rfl w.heap.size 0 rfl ([iA mk,iA mh,iA mr,iA mf,iA mv,bA mn,sA ms]) _ (λw h=>(yG (blk aB h))) underlying57 rfl (by rw[Tryz.zgG];rfl)) ?_|(refine tkc rfl rfl (zj0 ⟨by rfl,λx h=>?_⟩) ?_;focus(go_simp;done)));simp only[AP]))) ?_;simp only[ze,AP,pA];refine zv 8 λK hK=>?_;go_simp;refine(ah _ hH).mono ?_;rintro en X2 ⟨rfl,aD⟩;have aE:BW w1 X2:=hH.trans (aD.mono hH.size);refine hK.out _ _ (aE) λhH=>?_;clear hK K
   try simp only[AP,AQ]
   refine y7 [(9,some 38,bA true),(10,some 28,bA true)] _ _ hH ?_;simp only[ze,AP];refine dnr ?_;have cG:cE X2 5 0 (eA a5):=Ext.cell (CS5.o) (Ext.of hH);go_wp2;go_ret;exact⟨by rw[aa.o,ql aR.o];rfl,ad.o.trans (hH.mono ad.o.size)⟩
  |false=>
   have ak:Hid (s.zgl ⟨mk,mh,mr,mf,mv,mn,ms⟩ fr=s.zg9 ⟨mk,mh,mr,mf,mv,mn,ms⟩ fr):=zdN h1 n3 (λh=>by rw[h5] at h;exact absurd h.2 zjX);rw[h5] at ah;clear h5;have q4:(mh==(s.zfF:Int))=true:=by simpa using h4
   have H4:=zc h4;clear h4;refine rgd (S:=λX=>BW w1 X) (hH.drew) λhH=>?_;refine zQ [(0,some 29,pA w.heap.size 1),(1,some 30,iA mh),(2,some 31,pA nb 0)] _ _ hH (λx h=>show cN x w 1 (iA mh) from Ext.cell C1.o (Ext.of h)) ?_;simp only[ze,AP,pA];refine zv 3 λK hK=>?_;go_simp;refine(zH nb kb cb V s _ (ai.o.below hH)).mono ?_;rintro en X2 ⟨rfl,rfl⟩;refine hK.out _ _ (hH) λhH=>?_;clear hK K
   try simp only[AP,AQ]
   refine takeN [(4,some 33,bA true),(5,some 34,bA true),(6,some 35,pA nb 0),(7,some 36,.agg ([iA mk,iA mh,iA mr,iA mf,iA mv,bA mn,sA ms]).toArray)] _ _ hH (by repeat(first|exact zj7|((first|refine tkc rfl rfl (zka (by rfl) 57 _ rfl w.heap.size 0 rfl ([iA mk,iA mh,iA mr,iA mf,iA mv,bA mn,sA ms]) _ (λw h=>(yG (blk aB h))) underlying57 rfl (by rw[Tryz.zgG];rfl)) ?_|(refine tkc rfl rfl (zj0 ⟨by rfl,λx h=>?_⟩) ?_;focus(go_simp;done)));simp only[AP]))) ?_;simp only[ze,AP,pA];refine zv 8 λK hK=>?_;go_simp;refine(ah _ hH).mono ?_;rintro en X2 ⟨rfl,aD⟩;have aE:BW w1 X2:=hH.trans (aD.mono hH.size);refine hK.out _ _ (aE) λhH=>?_;clear hK K
   try simp only[AP,AQ]
   refine y7 [(9,some 38,bA false),(10,some 28,bA false)] _ _ hH ?_;simp only[ze,AP];refine dnr ?_;have cM:cN X2 w 1 (iA mh):=Ext.cell C1.o (Ext.of hH);go_wp2_with fail
   refine(ar _ hH).mono ?_;rintro en X9 ⟨rfl,ao⟩;have aC:=ao.symm;clear ao;subst aC;have cOff:cE X2 nb off (.slice p L.length c):=Ext.cell COFF.o (Ext.of hH);go_wp2_with fail
   refine(av _ hH).mono ?_;rintro en X7 ⟨rfl,af⟩;have ag:BW w1 X7:=hH.trans (af.mono hH.size);clear af hH;have hH:=ag;clear ag;cases ae:ZG L fr with
   |true=>
    have aa:Hid (s.zgl ⟨mk,mh,mr,mf,mv,mn,ms⟩ fr=some 6):=by unfold Hid;rw[ak.o];unfold za.zg9;rw[zj2 (show ZG (s.zf8 mh) fr=true by rw[<-HL.o];exact ae)]
    have cG:cE X7 6 0 (eA a6):=Ext.cell (CS6.o) (Ext.of hH);go_wp2;go_ret;exact⟨by rw[aa.o,ql aM.o];rfl,ad.o.trans (hH.mono ad.o.size)⟩
   |false=>
    have au:=zc ae;go_wp2_with (first|(refine zkb rfl 57 _ rfl w.heap.size rfl 57 #[iA mk,iA mh,iA mr,iA mf,iA mv,bA mn,sA ms] (0,0) _ (blk aB hH) underlying57 rfl (by rw[Tryz.zgG];rfl) ?_)|fail)
    refine(aj _ hH).mono ?_;rintro en X7 ⟨rfl,af⟩;have ag:BW w1 X7:=hH.trans (af.mono hH.size);clear af hH;have hH:=ag;clear ag;by_cases h9:2<=likeN L ⟨mk,mh,mr,mf,mv,mn,ms⟩
    .have aG:2<=(likeN L ⟨mk,mh,mr,mf,mv,mn,ms⟩:Int):=by omega
     have aa:Hid (s.zgl ⟨mk,mh,mr,mf,mv,mn,ms⟩ fr=some 7):=by unfold Hid;rw[ak.o];unfold za.zg9;rw[zj3 (show¬ZG (s.zf8 mh) fr=true by rw[<-HL.o,au.o];exact zjX),zj2 (show 2<=likeN (s.zf8 mh) _ by rw[<-HL.o];exact h9)]
     have cG:cE X7 7 0 (eA a7):=Ext.cell (CS7.o) (Ext.of hH);go_wp2;go_ret;exact⟨by rw[aa.o,ql aL.o];rfl,ad.o.trans (hH.mono ad.o.size)⟩
    have aG:¬2<=(likeN L ⟨mk,mh,mr,mf,mv,mn,ms⟩:Int):=by omega
    have aa:Hid (s.zgl ⟨mk,mh,mr,mf,mv,mn,ms⟩ fr=none):=by unfold Hid;rw[ak.o];unfold za.zg9;rw[zj3 (show¬ZG (s.zf8 mh) fr=true by rw[<-HL.o,au.o];exact zjX),zj3 (show¬2<=likeN (s.zf8 mh) _ by rw[<-HL.o];exact h9)]
    go_wp2;go_ret;exact⟨by rw[aa.o];rfl,ad.o.trans (hH.mono ad.o.size)⟩
 have ak:Hid (s.zgl ⟨mk,mh,mr,mf,mv,mn,ms⟩ fr=s.zg9 ⟨mk,mh,mr,mf,mv,mn,ms⟩ fr):=zdN h1 n3 (λh=>h4 h.1);have q4:(mh==(s.zfF:Int))=false:=by simpa using h4
 have H4:=zc h4;clear h4;refine rgd (S:=λX=>BW w1 X) (hH.drew) λhH=>?_;refine zQ [(0,some 29,pA w.heap.size 1),(1,some 30,iA mh),(2,some 31,pA nb 0)] _ _ hH (λx h=>show cN x w 1 (iA mh) from Ext.cell C1.o (Ext.of h)) ?_;simp only[ze,AP,pA];refine zv 3 λK hK=>?_;go_simp;refine(zH nb kb cb V s _ (ai.o.below hH)).mono ?_;rintro en X2 ⟨rfl,rfl⟩;refine hK.out _ _ (hH) λhH=>?_;clear hK K
 try simp only[AP,AQ]
 refine zQ [(4,some 33,bA false),(5,some 34,bA false),(6,some 35,undef),(7,some 36,undef),(8,some 37,undef),(9,some 38,bA false),(10,some 28,bA false)] _ _ hH (λ_ h=>h) ?_;simp only[ze,AP];refine dnr ?_;have cM:cN w1.drew.drew.drew w 1 (iA mh):=Ext.cell C1.o (Ext.of hH);go_wp2_with fail
 refine(ar _ hH).mono ?_;rintro en X9 ⟨rfl,ao⟩;have aC:=ao.symm;clear ao;subst aC;have cOff:cE w1.drew.drew.drew nb off (.slice p L.length c):=Ext.cell COFF.o (Ext.of hH);go_wp2_with fail
 refine(av _ hH).mono ?_;rintro en X7 ⟨rfl,af⟩;have ag:BW w1 X7:=hH.trans (af.mono hH.size);clear af hH;have hH:=ag;clear ag;cases ae:ZG L fr with
 |true=>
  have aa:Hid (s.zgl ⟨mk,mh,mr,mf,mv,mn,ms⟩ fr=some 6):=by unfold Hid;rw[ak.o];unfold za.zg9;rw[zj2 (show ZG (s.zf8 mh) fr=true by rw[<-HL.o];exact ae)]
  have cG:cE X7 6 0 (eA a6):=Ext.cell (CS6.o) (Ext.of hH);go_wp2;go_ret;exact⟨by rw[aa.o,ql aM.o];rfl,ad.o.trans (hH.mono ad.o.size)⟩
 |false=>
  have au:=zc ae;go_wp2_with (first|(refine zkb rfl 57 _ rfl w.heap.size rfl 57 #[iA mk,iA mh,iA mr,iA mf,iA mv,bA mn,sA ms] (0,0) _ (blk aB hH) underlying57 rfl (by rw[Tryz.zgG];rfl) ?_)|fail)
  refine(aj _ hH).mono ?_;rintro en X7 ⟨rfl,af⟩;have ag:BW w1 X7:=hH.trans (af.mono hH.size);clear af hH;have hH:=ag;clear ag;by_cases h9:2<=likeN L ⟨mk,mh,mr,mf,mv,mn,ms⟩
  .have aG:2<=(likeN L ⟨mk,mh,mr,mf,mv,mn,ms⟩:Int):=by omega
   have aa:Hid (s.zgl ⟨mk,mh,mr,mf,mv,mn,ms⟩ fr=some 7):=by unfold Hid;rw[ak.o];unfold za.zg9;rw[zj3 (show¬ZG (s.zf8 mh) fr=true by rw[<-HL.o,au.o];exact zjX),zj2 (show 2<=likeN (s.zf8 mh) _ by rw[<-HL.o];exact h9)]
   have cG:cE X7 7 0 (eA a7):=Ext.cell (CS7.o) (Ext.of hH);go_wp2;go_ret;exact⟨by rw[aa.o,ql aL.o];rfl,ad.o.trans (hH.mono ad.o.size)⟩
  have aG:¬2<=(likeN L ⟨mk,mh,mr,mf,mv,mn,ms⟩:Int):=by omega
  have aa:Hid (s.zgl ⟨mk,mh,mr,mf,mv,mn,ms⟩ fr=none):=by unfold Hid;rw[ak.o];unfold za.zg9;rw[zj3 (show¬ZG (s.zf8 mh) fr=true by rw[<-HL.o,au.o];exact zjX),zj3 (show¬2<=likeN (s.zf8 mh) _ by rw[<-HL.o];exact h9)]
  go_wp2;go_ret;exact⟨by rw[aa.o];rfl,ad.o.trans (hH.mono ad.o.size)⟩

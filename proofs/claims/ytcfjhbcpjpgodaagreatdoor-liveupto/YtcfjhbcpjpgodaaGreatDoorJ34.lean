import Derived.Lib.AppendZeros
import Derived.Test.YtcfjhbcpjpgodaaGreatDoorJ27
import Derived.Test.YtcfjhbcpjpgodaaGreatDoorJ30
namespace Go.Proofs.YtcfjhbcpjpgodaaGreatDoor
open Go.RowKit
set_option maxRecDepth 100000
set_option maxHeartbeats 0
set_option linter.all false
section
variable{j:Nat}{s s':za}
def SgO(j:Nat)(s s':za):Prop:=∀k,k≠j->s'.sg k=s.sg k
theorem SgO.refl(j:Nat)(s:za):SgO j s s:=λ_ _=>rfl
theorem SgO.trans{s2:za}(h:SgO j s s')(h':SgO j s' s2):SgO j s s2:=λk hk=>(h' k hk).trans (h k hk)
theorem yy(h:s'.sg=s.sg):SgO j s s':=λk _=>by rw[h]
theorem xJ(s:za)(j:Nat)(k v:Int)(nl:Bool)(t:zj5):SgO j s (s.zfI j k v nl t):=by
 unfold za.zfI;split
 .exact SgO.refl j s
 split
 .intro a ha;exact qL ha
 exact SgO.refl j s
theorem vn(s:za)(j r:Nat):SgO j s (s.zfH j r):=by
 unfold za.zfH;split
 .exact (yy (s:=s) (s':=s.zfL r 1) rfl).trans (xJ _ _ _ _ _ _)
 exact yy rfl
theorem jM(s:za)(j:Nat)(k:Int)(st:Nat):SgO j s (s.nothing j k st):=(xJ s j k 0 true ⟨#[]⟩).trans (yy rfl)
theorem XF(s:za)(j:Nat)(p:zl):SgO j s (s.zfR j p):=by
 unfold za.zfR;rw[zu];split
 .exact yy rfl
 exact(yy (s:=s) (s':=(s.kept p).zfK ((s.kept p).ahead.filter λe=> !(s.kept p).zfJ e.m)) rfl).trans (vn _ _ _)
theorem Y0(s:za)(j:Nat)(fits:zl->Bool):SgO j s (s.zfU j fits).2:=by
 unfold za.zfU;split
 .split
  .exact SgO.refl j s
  dsimp only
  split
  .exact (xJ s j 2 0 false _).trans (yy rfl)
  exact jM s j 2 2
 exact SgO.refl j s
theorem zd2(s:za)(j:Nat):SgO j s (s.zfT (za.zfY j) j).2:=by
 unfold za.zfT;split
 .unfold za.zfY;split
  .exact SgO.refl j s
  exact XF s j _
 split
 .unfold za.zf1;split
  .exact SgO.refl j s
  exact vn s j _
 split
 .exact Y0 s j _
 split
 .exact Y0 s j _
 split
 .unfold za.zgm;split
  .split
   .exact SgO.refl j s
   dsimp only
   split
   .exact (yy (s:=s) (s':=(s.zfZ _).zf3) rfl).trans ((xJ _ _ _ _ _ _).trans (yy rfl))
   exact yy rfl
  exact SgO.refl j s
 split
 .unfold za.zf4;split
  .exact jM s j 3 3
  exact SgO.refl j s
 split
 .unfold za.zf7;split
  .exact yy rfl
  exact SgO.refl j s
 unfold za.zf9;split
 .exact yy rfl
 exact SgO.refl j s
theorem K5(j:Nat):∀(f:Nat) (s:za),SgO j s (za.zgn j f s)
 |0,s=>SgO.refl j s
 |f+1,s=>by
  rw[za.zgn];split
  .exact (zd2 s j).trans (K5 j f _)
  .exact SgO.refl j s
theorem zd3(s:za)(j:Nat)(t:zU):SgO j s (s.zga j t):=by
 unfold za.zga;split
 .split
  .exact jM s j 2 2
  split
  .exact jM s j 3 3
  split
  .exact vn s j _
  exact SgO.refl j s
 exact SgO.refl j s
theorem zcE(s:za)(j:Nat)(e:zl):SgO j s (s.zf5 e):=by
 unfold za.zf5;split<;>exact yy rfl
theorem zcD(s:za)(j h:Nat):SgO j s (s.zf2 h):=by
 unfold za.zf2;split
 .exact SgO.refl j s
 exact yy rfl
theorem ya(s:za)(n j:Nat)(fr:zj5):SgO j s (s.zfM n j fr):=by
 unfold za.zfM;split
 .unfold za.zgv;split
  .exact zcD s j _
  split
  .exact SgO.refl j s
  exact(zcE s j _).trans (K5 j 2200 _)
 exact SgO.refl j s
theorem K6(j:Nat):∀(f:Nat) (s:za),SgO j s (za.zf0 j f s)
 |0,s=>SgO.refl j s
 |f+1,s=>by
  rw[za.zf0];split
  .exact SgO.refl j s
  .split
   .exact ((yy (s:=s) (s':=s.zfQ) rfl).trans ((zd3 _ _ _).trans (K5 j 2200 _))).trans (K6 j f _)
   .exact SgO.refl j s
theorem kU(s:za)(j:Nat):SgO j s (s.zfW j):=by
 unfold za.zfW za.again;split
 .exact ((yy (s:=s) (s':=s.zfN) rfl).trans (K6 j _ _)).trans (yy rfl)
 exact(yy (s:=s) (s':=s.zfN) rfl).trans (K6 j _ _)
theorem Vy(s:za)(j:Nat)(t:zj5):SgO j s (s.zgd t):=by
 unfold za.zgd;split
 .exact yy rfl
 exact SgO.refl j s
end
section
section
variable{B0 rb n:Nat}{ks:Nat->Nat}{kv gv:Value}{g:Nat->Int}{F:Nat->Prop}{sg:Nat->List zj5}{va vb vd:Value}{la lb:List zj5}{ld:List Nat}{w w':World}
end
theorem za1{sg:Nat->List zj5}{k i:Nat}{u t:zj5}(h:t∈sg i):t∈signR sg k u i:=by
 unfold signR;split
 .rename_i h1;rw[<-h1.1];exact List.mem_append_left _ h
 exact h
theorem za0{sg:Nat->List zj5}{k:Nat}{u:zj5}:u∈signR sg k u k:=by
 unfold signR;split
 .exact List.mem_append_right _ (List.mem_singleton.2 rfl)
 rename_i h1;have h2:¬zaM (sg k) u=false:=λe=>h1 ⟨rfl,e⟩;exact(vX _ _).1 (by simpa using h2)
end
section
variable{n k i:Nat}{f u g:zj5}{s:za}
def SgF(n:Nat)(sg:Nat->List zj5)(f:zj5):Prop:=zM f=true/\zB sg n (decV f).f f=true
theorem SgF.sign{sg:Nat->List zj5}(h:SgF n sg f):SgF n (signR sg k u) f:=by
 refine⟨h.1,?_⟩;have h2:=h.2;unfold zB at h2 ⊢;rw[Bool.and_eq_true_iff] at h2 ⊢;refine⟨h2.1,jk (za1 ?_)⟩;exact(vX _ _).1 h2.2
structure ZOk (n:Nat) (s:za):Prop where
 log:∀e∈s.log,SgF n s.sg e.fr
 ahead:∀e∈s.ahead,SgF n s.sg e.fr
 dec:∀d∈s.dec,SgF n s.sg d.prop/\∀f∈d.cert,SgF n s.sg f
 out:∀f∈s.out,SgF n s.sg f
theorem ZOk.same{s':za}(h:ZOk n s)(h1:s'.log=s.log)(h2:s'.ahead=s.ahead)(h3:s'.dec=s.dec)(h4:s'.out=s.out)(h5:s'.sg=s.sg):ZOk n s':=⟨by rw[h1,h5];exact h.log,by rw[h2,h5];exact h.ahead,by rw[h3,h5];exact h.dec,by rw[h4,h5];exact h.out⟩
theorem ZOk.ring(h:ZOk n s):ZOk n { s with sg:=signR s.sg k u }:=⟨λe he=>(h.log e he).sign,λe he=>(h.ahead e he).sign,λd hd=>⟨(h.dec d hd).1.sign,λf hf=>((h.dec d hd).2 f hf).sign⟩,λf hf=>(h.out f hf).sign⟩
theorem XP{out:List zj5}(h:g∈put1 out f):g∈out\/g=f:=by
 unfold put1 at h;split at h
 .rcases List.mem_append.1 h with h|h
  .exact zj0 h
  exact zj1 (List.mem_singleton.1 h)
 exact zj0 h
theorem XN{l:List zj5}:∀{out:List zj5},g∈putL out l->g∈out\/g∈l:=by
 induction l with
 |nil=>intro out h;exact zj0 h
 |cons a l ih=>
  intro out h;rcases ih h with h|h
  .rcases XP h with h|h
   .exact zj0 h
   exact zj1 (by rw[h];exact zjV ..)
  exact zj1 (List.mem_cons_of_mem _ h)
theorem ZOk.send(h:ZOk n s)(hi:i<n)(k v:Int)(nl:Bool)(t:zj5):ZOk n (s.zfI i k v nl t):=by
 unfold za.zfI;split
 .exact h
 split
 .rename_i hb;obtain⟨h1,h2⟩:=gN hb;have hf:SgF n (signR s.sg i (s.enc i k v nl t)) (s.enc i k v nl t):=by
   refine⟨h1,?_⟩;show zB _ n (decV (Gm k (s.zfF:Int) (s.round:Int) (i:Int) v nl t)).f _=true;rw[h2];show zB _ n (i:Int) _=true;rw[vO hi];exact jk za0
  have hr:=h.ring (k:=i) (u:=s.enc i k v nl t);refine⟨λe he=>?_,hr.ahead,hr.dec,λf aa=>?_⟩
  .rcases List.mem_append.1 (show e∈s.log++[_] from he) with he|he
   .exact hr.log e he
   rw[List.mem_singleton.1 he];exact hf
  rcases XP aa with h3|h3
  .exact hr.out f h3
  rw[h3];exact hf
 exact h
theorem ZOk.begin{r:Nat}(h:ZOk n s)(hi:i<n):ZOk n (s.zfH i r):=by
 have h1:ZOk n (s.zfL r 1):=h.same rfl rfl rfl rfl rfl;unfold za.zfH;split
 .exact h1.send hi _ _ _ _
 exact h1.same rfl rfl rfl rfl rfl
theorem KB{fits:zl->Bool}{l:List zl}:∀k,f∈certTo fits l k->∃e∈l,e.fr=f
 |0,h=>by cases h
 |k+1,h=>by
  rw[certTo] at h;rcases List.mem_append.1 h with h|h
  .exact KB k h
  .unfold zJ at h;obtain⟨e,he,hf⟩:=List.mem_map.1 h;exact⟨e,(List.mem_filter.1 he).1,hf⟩
theorem ZOk.keep{p:zl}(h:ZOk n s)(hi:i<n)(hp:p∈s.log):ZOk n (s.zfR i p):=by
 have h1:ZOk n ((s.kept p).zfK ((s.kept p).ahead.filter λe=> !(s.kept p).zfJ e.m)):=by
  refine⟨λe he=>h.ahead e (List.mem_filter.1 he).1,λe he=>(by cases he),λd hd=>?_,h.out⟩;rcases List.mem_append.1 (show d∈s.dec++[_] from hd) with hd|hd
  .exact h.dec d hd
  rw[List.mem_singleton.1 hd];refine⟨h.log p hp,λf hf=>?_⟩;obtain⟨e,he,rfl⟩:=KB 8 hf;exact h.log e he
 unfold za.zfR;rw[zu];split
 .exact h1.same rfl rfl rfl rfl rfl
 exact h1.begin hi
theorem ZOk.one(h:ZOk n s)(hi:i<n):ZOk n (s.zfT (za.zfY i) i).2:=by
 have hs:∀k st,ZOk n (s.nothing i k st):=λk st=>(h.send hi k 0 true ⟨#[]⟩).same rfl rfl rfl rfl rfl;unfold za.zfT;split
 .unfold za.zfY;split
  .exact h
  rename_i p hp;obtain⟨r,_,h2⟩:=jt hp;exact h.keep hi (yO h2).1
 split
 .unfold za.zf1;split
  .exact h
  exact h.begin hi
 have aa:∀fits,ZOk n (s.zfU i fits).2:=λfits=>by
  unfold za.zfU;split
  .split
   .exact h
   dsimp only
   split
   .exact (h.send hi 2 0 false _).same rfl rfl rfl rfl rfl
   exact hs 2 2
  exact h
 split
 .exact aa _
 split
 .exact aa _
 split
 .unfold za.zgm;split
  .split
   .exact h
   dsimp only
   split
   .exact ((h.same (s':=(s.zfZ _).zf3) rfl rfl rfl rfl rfl).send hi 3 0 false _).same rfl rfl rfl rfl rfl
   exact h.same rfl rfl rfl rfl rfl
  exact h
 split
 .unfold za.zf4;split
  .exact hs 3 3
  exact h
 split
 .unfold za.zf7;split
  .exact h.same rfl rfl rfl rfl rfl
  exact h
 unfold za.zf9;split
 .exact h.same rfl rfl rfl rfl rfl
 exact h
theorem ZOk.zgn(hi:i<n):∀(f:Nat) (s:za),ZOk n s->ZOk n (za.zgn i f s)
 |0,_,h=>h
 |f+1,s,h=>by
  rw[za.zgn];split
  .exact ZOk.zgn hi f _ (h.one hi)
  .exact h
theorem ZOk.exp{t:zU}(h:ZOk n s)(hi:i<n):ZOk n (s.zga i t):=by
 have hs:∀k st,ZOk n (s.nothing i k st):=λk st=>(h.send hi k 0 true ⟨#[]⟩).same rfl rfl rfl rfl rfl;unfold za.zga;split
 .split
  .exact hs 2 2
  split
  .exact hs 3 3
  split
  .exact h.begin hi
  exact h
 exact h
theorem ZOk.zf0(hi:i<n):∀(f:Nat) (s:za),ZOk n s->ZOk n (za.zf0 i f s)
 |0,_,h=>h
 |f+1,s,h=>by
  rw[za.zf0];split
  .exact h
  .split
   .exact ZOk.zf0 hi f _ (ZOk.zgn hi 2200 _ ((h.same (s':=s.zfQ) rfl rfl rfl rfl rfl).exp hi))
   .exact h
theorem ZOk.tick(h:ZOk n s)(hi:i<n):ZOk n (s.zfW i):=by
 have h0:ZOk n s.zfN:=⟨h.log,h.ahead,λd hd=>by
  obtain⟨d',aa,rfl⟩:=List.mem_map.1 (show d∈s.dec.map _ from hd);exact h.dec d' aa,h.out⟩
 have h1:=ZOk.zf0 hi (s.tims.length+1) _ h0;unfold za.zfW za.again;split
 .refine ⟨h1.log,h1.ahead,h1.dec,λf hf=>?_⟩
  rcases XN hf with h2|h2
  .exact h1.out f h2
  unfold zJ at h2;obtain⟨e,he,rfl⟩:=List.mem_map.1 h2;exact h1.log e (List.mem_filter.1 he).1
 exact h1
theorem ZOk.zfX{fr:zj5}(h:ZOk n s)(hi:i<n):ZOk n (s.zfM n i fr):=by
 unfold za.zfM;split
 .rename_i h1;unfold za.zgv;split
  .unfold za.zf2;split
   .exact h
   rename_i hx _;have hm:s.dec.getD (decV fr).h.toNat yr∈s.dec:=by
    have hl:(decV fr).h.toNat<s.dec.length:=by
     have:=(qQ h1.1).1;have h9:(decV fr).h<(s.dec.length:Int):=hx;omega
    rw[zjK,zjJ hl];exact List.getElem_mem _
   have hd:=h.dec _ hm;refine⟨h.log,h.ahead,λd aa=>?_,λf hf=>?_⟩
   .rcases List.mem_or_eq_of_mem_set aa with h2|h2
    .exact h.dec d h2
    rw[h2];exact hd
   rcases XN hf with h2|h2
   .exact h.out f h2
   rcases List.mem_cons.1 h2 with h3|h3
   .rw [h3];exact hd.1
   exact hd.2 f h3
  split
  .exact h
  refine ZOk.zgn hi 2200 _ ?_;have hn:∀l:List zl,(∀e∈l,SgF n s.sg e.fr)->∀e∈l++[⟨decV fr,fr,false⟩],SgF n s.sg e.fr:=λl hl e he=>by
   rcases List.mem_append.1 he with he|he
   .exact hl e he
   rw[List.mem_singleton.1 he];exact h1
  unfold za.zf5;split
  .exact ⟨hn _ h.log,h.ahead,h.dec,h.out⟩
  exact⟨h.log,hn _ h.ahead,h.dec,h.out⟩
 exact h
theorem ZOk.sub{t:zj5}(h:ZOk n s):ZOk n (s.zgd t):=by
 unfold za.zgd;split
 .exact h.same rfl rfl rfl rfl rfl
 exact h
theorem ZOk.sent(h:ZOk n s):ZOk n { s with out:=[] }:=⟨h.log,h.ahead,h.dec,λ_ hf=>(by cases hf)⟩
end
section
open Proofs.Tryz
theorem K3{B:Nat}{es:List Addr}{m:Int}{F R:Nat->Prop}{nb kb rb cb n i:Nat}{s:za}(k:Nat){w:World}(h:NodeW B es m F R nb kb rb cb n i s w)(hk:k<s.dec.length)(hh:s.dec.length<=12)(hcl:∀d∈s.dec,d.cert.length<=100000):
 Calls prog 80 #[pA nb 0,iA k] w λen w'=>en=.returned (.tuple #[])/\NodeW B es m F R nb kb rb cb n i (s.zf2 k) w'/\Goes F R w F R w':=by
 obtain⟨V,hA,hf⟩:=h.node;obtain⟨g,cap,cv,ak,aT,ay,c1,c2,c3,⟨C,hC,aQ⟩,aZ⟩:=hA.ziq k hk;have c35:w.cell? (aA nb 35)=some (.slice (some (aA g 0)) s.dec.length cap):=by rw[<-ak];exact hA.cell 35 rfl
 have hki:(k:Int)<s.dec.length:=by omega
 obtain⟨d,hd⟩:=gen (s.dec.getD k yr);rw[<-hd] at ay c1 c3;have az:(d,cv)∈V.ds:=List.mem_of_getElem? ay;have ae:=hA.cert (d,cv) az;have aF:d.cert.length<=100000:=hcl d (by rw[<-hA.eds];exact List.mem_map.2 ⟨(d,cv),az,rfl⟩);have aU:g≠cb:=λe=>yD hA.dec hA.chan (by rw[ak,<-e];rfl);have hgn:g≠nb:=λe=>hA.rows.1 (by rw[ak,<-e];rfl);cases ht:d.told with
 |true=>
  rw[ht] at c3;have ag:Hid (NodeW B es m F R nb kb rb cb n i (s.zf2 k) w/\Goes F R w F R w):=by
   unfold za.zf2;rw[<-hd,zj2 ht];exact⟨h,Goes.refl F R w⟩
  clear h hA hf ak ay c1 c2 hC aQ az ae aF hcl hd ht;go_enter func80,ntmps80;go_wp2;first|exact bodyPost_end (v:=.tuple #[]) (by simp[results,results80]) rfl ⟨rfl,ag.o⟩|exact zjT (v:=.tuple #[]) (by simp[results,results80]) rfl ⟨rfl,ag.o⟩
 |false=>
  rw[ht] at c3;have f3:w.frozen? (aA g (k*4+3))=false:=zt hC _;obtain⟨au,aK⟩:=h.zhx hA hf ak hk true;rw[<-hd] at au;have hS:Hid (s.zf2 k={ s with dec:=s.dec.set k { d with told:=true },out:=putL s.out (d.prop::d.cert) }):=by
   unfold Hid za.zf2;rw[<-hd,zj3 (by rw[ht];exact zjX)]
  have aN:kq g w (w.setCell (aA g (k*4+3)) (bA true)):=zf w g (k*4+3) _;have C1w:Hid ((w.setCell (aA g (k*4+3)) (bA true)).cell? (aA g (k*4+1))=some (sA d.prop)):=by
   unfold Hid;rw[zjD _ g (k*4+1) _ _ _ (setCell_row hC _ _),Array.getElem?_setIfInBounds_ne (by omega),<-zjD w g (k*4+1) _ _ _ hC];exact c1
  have C2w:Hid ((w.setCell (aA g (k*4+3)) (bA true)).cell? (aA g (k*4+2))=some cv):=by
   unfold Hid;rw[zjD _ g (k*4+2) _ _ _ (setCell_row hC _ _),Array.getElem?_setIfInBounds_ne (by omega),<-zjD w g (k*4+2) _ _ _ hC];exact c2
  have ad:(w.setCell (aA g (k*4+3)) (bA true)).ownsRow 0 9 1 cv d.cert.length (d.cert.map .string):=zb ae λj hj _=>aN.block j (λe=>zO ae hA.dec (by decide) j hj (by rw[ak,e];rfl));obtain⟨w1,aD⟩:=gen (w.setCell (aA g (k*4+3)) (bA true));rw[<-aD] at au aK C1w C2w ad;obtain⟨bc,bg⟩:=zn au aK;obtain⟨V1,aR,aX⟩:=au.node;have aS:=zc aR;have C1:=C1w;have C2:=C2w;obtain⟨aL,aj,bh,a8⟩:=qO aU ad aF aD;clear C1w C2w h hA hf ak ay c1 c2 hC aQ az ae aF hcl hd ht au aK aR aX aD ad aN;go_enter func80,ntmps80
  go_upto_region 3 with fail
  rw[<-a8.o];refine rgd (S:=λW=>cE W g (k*4+1) (sA d.prop)) C1.out λhH=>?_;refine yd [0,1,2,3,4,5,6] hH (λx h=>h) ?_;refine zv 7 λK hK=>?_;go_simp;obtain⟨w2,ax⟩:∃z,z=(w1.alloc (.cells #[sA d.prop] 9)).drew:=⟨_,rfl⟩;have al:BW w1 w2:=by rw[ax];exact(bwA w1).drew
  have aM:w2.heap[w1.heap.size]? =some (.cells #[sA d.prop] 9 (0,0)):=by rw[ax];exact zjC w1 _
  rw[<-ax];clear ax;refine hK.out _ _ (Ext.cell C1.out (Ext.of al)) λhH=>?_;clear hK K
  try simp only[AP,AQ]
  have aJ:=bc.o.below al;obtain⟨V2,aC,aW⟩:=aJ.node;have af:∀j,j<1->∃b o,(some (nA w1 0):Option Addr)=some (aA b o)/\b≠cb/\w2.cell? (aA b (o+j))=some (sA d.prop):=λj hj=>by
   have e:j=0:=by omega
   subst e;exact⟨w1.heap.size,0,rfl,(λe=>by have h1:=qT aS.o.chan;omega),zjD w2 w1.heap.size 0 _ _ _ aM⟩
  have aw:=zc (Qf nb 53 cb 1 1 (some (nA w1 0)) (λ_=>d.prop) s.out w2 (by omega) aC.nc aC.chan (aC.cell 53 rfl) af);clear af;have bb:=zc aJ;clear aJ aC aW;refine zv 8 λK hK=>?_;go_simp;refine aw.o.mono ?_;rintro en w3 ⟨rfl,aq,an⟩;have a7:cE w3 g (k*4+1) (sA d.prop):=an.cell hH aL;refine hK.out _ _ a7 λhH=>?_;clear hK K
  try simp only[AP,AQ]
  refine dnr ?_;obtain⟨aH,aP⟩:=bb.o.zgX aq an;have bf:Hid (Goes F R w F R w3):=bg.o.trans ((Goes.below al).trans aP);have c23:cE w3 g (k*4+2) cv:=an.cell (Ext.cell C2.out (Ext.of al)) aL;obtain⟨V3,av,aV⟩:=aH.node;have aa:w3.ownsRow 0 9 1 cv d.cert.length (d.cert.map .string):=zb aj λj hj hl=>(an.block j (λe=>yD aj aS.o.chan (e▸hj))).trans (al.block j hl);obtain⟨pc,cc,aO,aY,ah⟩:=kV aa;have ai:=zc (Qf nb 53 cb d.cert.length cc pc (λj=>d.cert.getD j zj4) (zcq (λ_=>d.prop) s.out 0 1) w3.drew (by have:=bh.o;omega) av.nc av.chan (av.cell 53 rfl) (λj hj=>by
   obtain⟨b,o,hp,hbl,ar⟩:=ah j hj;refine⟨b,o,hp,λe=>?_,ar⟩;exact yD aa av.chan (by rw[aO,hp,e];rfl)))
  rw[XM] at ai;rw[aO] at c23;have ba:=zc aH;have bd:Hid (putL (zcq (λ_=>d.prop) s.out 0 1) d.cert=putL s.out (d.prop::d.cert)):=rfl;clear aH av aV aa ah aY aP aq an al aM aw
  go_upto_region 4 with fail
  refine rgd (S:=λW=>cE W g (k*4+2) (.slice pc d.cert.length cc)) c23 λhH=>?_;refine yd [0,1,2,3,4,5,6] hH (λx h=>h) ?_;refine zv 7 λK hK=>?_;go_simp;refine(ai).mono ?_;rintro en w4 ⟨rfl,ao,aE⟩;have a6:cE w4 g (k*4+2) (.slice pc d.cert.length cc):=aE.cell hH aL;refine hK.out _ _ a6 λhH=>?_;clear hK K
  try simp only[AP,AQ]
  refine dnr ?_;obtain⟨aG,aB⟩:=(ba.o.below ((zjB _ w3).drew)).zgX ao aE;have aB:=(Goes.below ((zjB _ w3).drew)).trans aB;have ag:Hid (NodeW B es m F R nb kb rb cb n i (s.zf2 k) w4/\Goes F R w F R w4):=by
   rw[bd.o] at aG;rw[hS.o];exact⟨aG,bf.o.trans aB⟩
  clear aG aB ao aE;go_wp2;first|exact bodyPost_end (v:=.tuple #[]) (by simp[results,results80]) rfl ⟨rfl,ag.o⟩|exact zjT (v:=.tuple #[]) (by simp[results,results80]) rfl ⟨rfl,ag.o⟩
def za.zgw(s:za):Option zU:=match s.tims with| []=>none|t::_=>if t.due<=(s.time:Int) then some t else none
def gA(t:zU):Array Value:=#[iA t.n,iA t.h,iA t.r]
def zcw(o:Option zU):Value:=.tuple #[.agg (gA (o.getD kS)),bA o.isSome]
def za.zgp(s:za):za:=if s.zgw.isSome=true then s.zfQ else s
theorem GZ(kb cb:Nat)(V:yc)(s s':za)(v:Value)(h:s'={ s with tims:=s'.tims }):(nodeA kb cb V s).setIfInBounds 51 v=nodeA kb cb { V with tv:=v } s':=by
 rw[h];unfold nodeA Ql;simp[yU,List.range,List.range.loop]
theorem Za{B:Nat}{es:List Addr}{m:Int}{F R:Nat->Prop}{nb kb rb cb n i:Nat}{s:za}{w:World}(h:NodeW B es m F R nb kb rb cb n i s w)(hlen:s.tims.length<=100000000):
 Calls prog 89 #[pA nb 51,iA s.time] w λe w'=>e=.returned (zcw s.zgw)/\∃F',NodeW B es m F' R nb kb rb cb n i s.zgp w'/\Goes F R w F' R w':=by
 obtain⟨V,hA,hf⟩:=h.node;have c51:cE w nb 51 V.tv:=hA.cell 51 rfl;obtain⟨p,cap,aa⟩:=zm hA.tims;rw[aa] at c51;cases hl:s.tims with
 |nil=>
  have e0:s.zgw=none:=by unfold za.zgw;rw[hl]
  have e1:s.zgp=s:=by unfold za.zgp;rw[e0];rfl
  rw[hl] at c51;refine(zbC nb 51 p cap (s.time:Int) w c51).mono ?_;rintro e w' ⟨rfl,hb⟩;refine⟨by rw[e0];rfl,F,?_,Goes.below hb⟩;rw[e1];exact h.below hb
 |cons t l=>
  have h1:=hA.tims;rw[aa] at h1;obtain⟨g,rfl,_,hr⟩:=Y9 h1 rfl (by rw[hl];simp);have ad:s.tims.getD 0 kS=t:=by rw[hl];rfl
  have af:0<s.tims.length:=by rw[hl];simp
  by_cases hd:t.due<=(s.time:Int)
  .have e0:s.zgw=some t:=by unfold za.zgw;rw[hl];simp only;rw[zj2 hd]
   have e1:s.zgp=s.zfQ:=by unfold za.zgp;rw[e0];rfl
   refine(zc5 nb 51 g cap (nodeA kb cb V s) 135 s.tims (s.time:Int) w hA.blk (by decide) (by rw[<-aa];rfl) hr af hlen (by rw[ad];exact hd)).mono ?_;rintro e w' ⟨rfl,hq,ag,hs⟩;have ae:(jN s.tims).length=s.tims.length-1:=by
    rw[hl,(qD t l).length_eq];simp
   refine⟨by rw[e0,ad];rfl,?_⟩;rw[e1];have ho:=YT ag (zjG g);rw[ae] at ho;refine h.zhy (s':=s.zfQ) hA hf (.slice (some (aA g 0)) (s.tims.length-1) cap) (by rw[<-GZ kb cb V s s.zfQ _ rfl];exact hq) (by show World.ownsRow w' 0 _ 5 _ (jN s.tims).length (qj (jN s.tims));rw[ae];exact ho) (zj0 (by rw[aa];rfl)) ?_ rfl rfl rfl rfl rfl rfl;refine { hs with block:=λk hk hn=>hs.block k hk (λe=>hn (e.imp id (λe=>?_))) };rw[aa,e];rfl
  have e0:s.zgw=none:=by unfold za.zgw;rw[hl];simp only;rw[zj3 hd]
  have e1:s.zgp=s:=by unfold za.zgp;rw[e0];rfl
  refine(G1 nb 51 g cap s.tims (s.time:Int) w c51 hr af (by rw[ad];omega)).mono ?_;rintro e w' ⟨rfl,hb⟩;refine⟨by rw[e0];rfl,F,?_,Goes.below hb⟩;rw[e1];exact h.below hb

import Derived.Test.YtcfjhbcpjpgodaaGreatDoorJ11
import Derived.BigQuiet
import Derived.Test.YtcfjhbcpjpgodaaGreatDoorMarks
import Derived.Laws.AppendOwnNone
namespace Go.Proofs.YtcfjhbcpjpgodaaGreatDoor
open Go.RowKit
set_option maxRecDepth 100000
set_option maxHeartbeats 0
set_option linter.all false
section
open Proofs.Tryz
variable{sg:Nat->List zgW}{i n:Nat}{t:zgW}{w:World}{v:Value}
structure zm (F:Nat->Prop) (w w':World):Prop where
 os:w'.os=w.os
 tape:w'.tape=w.tape
 output:w'.output=w.output
 size:w.heap.size<=w'.heap.size
 block:∀k,k<w.heap.size->¬F k->w'.heap[k]? =w.heap[k]?
def kg(sg:Nat->List zgW)(i:Nat)(t:zgW):Nat->List zgW:=λj=>if j=i/\GK (sg i) t=false then sg i++[t] else sg j
theorem Q0(h:t∈sg i):kg sg i t=sg:=by
 funext j;unfold kg;rw[zgU (by intro hh;rw[xA h] at hh;cases hh.2)]
theorem Vw(h:t∉sg i):kg sg i t i=sg i++[t]:=by unfold kg;rw[zgT ⟨rfl,Js h⟩]
theorem Zl{j:Nat}(h:j≠i):kg sg i t j=sg j:=by unfold kg;rw[zgU (by intro hh;exact h hh.1)]
theorem yr{base e g:Nat}{t:TypeId}{xs:List Value}{C:Array Value}(h:w.ownsRow base e 1 v n xs)(hg:w.heap[g]? =some (.cells C t (0,0)))(ht:t≠e):some g≠v.ownBlock:=by
 intro e1;rcases h.2 with⟨rfl,_⟩|⟨g1,_,_,rfl,_,aa,_⟩
 .cases e1
 cases e1;rw[aa] at hg;exact ht (by simpa using(Obj.cells.inj (zg6 hg)).2.1.symm)
def zag(F:Nat->Prop)(rb n:Nat)(sg':Nat->List zgW)(w w':World):Prop:=
 ∃F':Nat->Prop,RingI F' rb n sg' w'/\(∀k,F' k->F k\/w.heap.size<=k)/\(∀k,F' k->k<w'.heap.size)/\zm F w w'
theorem Kp{p:Addr}(h:w.cell? p=some v):p.block<w.heap.size:=zgx _ _ h
theorem zay{F:Nat->Prop}{rb ob cap:Nat}{cur:Array Value}{iv:Nat->Value}{ip vp:Option Addr}{ic vc:Nat}{w3:World}
 (hF:∀k,F k->k<w.heap.size) (h1:w.heap[rb]? =some (.cells #[.slice (some (aA ob 0)) n cap] 112 (0,0))) (h2:w.heap[ob]? =some (.cells cur 30 (0,0))) (h3:∀i,i<n->cur[i]? =some (iv i))
 (h4:∀i,i<n->w.ownsRow 0 9 1 (iv i) (sg i).length ((sg i).map .string)) (h5:∀i j,i<n->j<n->i≠j->∀g,(iv i).ownBlock=some g->(iv j).ownBlock≠some g) (h6:F rb) (h7:F ob) (h8:∀i,i<n->∀g,(iv i).ownBlock=some g->F g)
 (hin:i<n) (he:iv i=.slice ip (sg i).length ic) (hmem:t∉sg i) (hown:w3.ownsRow 0 9 1 (.slice vp ((sg i).length+1) vc) ((sg i).length+1) ((sg i).map .string++[sA t]))
 (hat:Value.ownBlock (.slice vp ((sg i).length+1) vc)=Value.ownBlock (.slice ip (sg i).length ic)\/Value.ownBlock (.slice vp ((sg i).length+1) vc)=some (w.heap.size+1))
 (hkeep:∀k,k<w.heap.size->some k≠Value.ownBlock (.slice ip (sg i).length ic)->w3.heap[k]? =w.heap[k]?) (hs3:w.heap.size+1<=w3.heap.size) (hos:w3.os=w.os/\w3.tape=w.tape/\w3.output=w.output)
 (hO:w.ownsRow 0 9 1 (.slice ip (sg i).length ic) (sg i).length ((sg i).map .string)):
 zag F rb n (kg sg i t) w (w3.setCell (aA ob i) (.slice vp ((sg i).length+1) vc)):=by
 have aa:=zd w3 ob i (.slice vp ((sg i).length+1) vc);have neo:some ob≠Value.ownBlock (.slice ip (sg i).length ic):=yr hO h2 (by decide);have ner:some rb≠Value.ownBlock (.slice ip (sg i).length ic):=yr hO h1 (by decide);have ai:rb≠ob:=λe=>by rw[e,h2] at h1;simp at h1
 have ah:cL w3 ob cur 30:=(hkeep ob (zj h2) neo).trans h2;have ad:some ob≠Value.ownBlock (.slice vp ((sg i).length+1) vc):=yr hown ah (by decide);obtain⟨v,hv⟩:=gen (Value.slice vp ((sg i).length+1) vc);rw[<-hv] at hown hat aa ad ⊢;obtain⟨jv,ae⟩:∃f:Nat->Value,f=λj=>if j=i then v else iv j:=⟨_,rfl⟩
 have jy:∀j,j=i->jv j=v:=λj e=>by rw[ae];exact zgT e
 have jn:∀j,j≠i->jv j=iv j:=λj e=>by rw[ae];exact zgU e
 clear ae;refine⟨λk=>F k\/some k=v.ownBlock,⟨ob,cap,cur.setIfInBounds i v,jv,?_,?_,?_,?_,?_,zgR h6,zgR h7,?_⟩,?_,?_,⟨hos.1,hos.2.1,hos.2.2,?_,?_⟩⟩
 .rw [aa.block rb ai,hkeep rb (zj h1) ner];exact h1
 .simp [World.setCell,Array.getElem?_modify,ah]
 .intro j hj;rw[Array.getElem?_setIfInBounds];by_cases e:i=j
  .subst e;rw[zgT rfl,zgT (Array.getElem?_eq_some_iff.1 (h3 i hin)).1,jy i rfl]
  rw[zgU e,jn j (λe2=>e e2.symm)];exact h3 j hj
 .intro j hj;by_cases e:j=i
  .subst e;rw[jy j rfl,Vw hmem,zgE,List.map_append];exact zb hown (λg hg _=>aa.block g (λe=>ad (by rw[<-e];exact hg.symm)))
  rw[jn j e,Zl e];refine zb (h4 j hj) λg hg aj=>?_;rw[aa.block g (λe2=>yr (h4 j hj) h2 (by decide) (by rw[<-e2];exact hg.symm)),hkeep g aj (λe2=>h5 j i hj hin e g hg (by rw[he];exact e2.symm))]
 .intro j k hj hk af g hg;by_cases e:j=i
  .rw [jy j e] at hg;have e2:k≠i:=λe2=>af (by rw[e,e2]);rw[jn k e2];intro ab;rcases hat with h|h
   .exact h5 k i hk hin e2 g ab (by rw[he,<-h];exact hg)
   rw[h] at hg;cases hg;have:=((h4 k hk).lt _ ab).2;omega
  rw[jn j e] at hg;by_cases e2:k=i
  .rw [jy k e2];intro ab;rcases hat with h|h
   .exact h5 j i hj hin e g hg (by rw[he,<-h];exact ab)
   rw[h] at ab;cases ab;have:=((h4 j hj).lt _ hg).2;omega
  rw[jn k e2];exact h5 j k hj hk af g hg
 .intro j hj g hg;by_cases e:j=i
  .rw [jy j e] at hg;exact zgS hg.symm
  rw[jn j e] at hg;exact zgR (h8 j hj g hg)
 .intro k hk;rcases hk with hk|hk
  .exact zgR hk
  rcases hat with h|h
  .exact zgR (h8 i hin k (by rw[he,<-h];exact hk.symm))
  rw[h] at hk;cases hk;exact zgS (by omega)
 .intro k hk;rw[aa.size];rcases hk with hk|hk
  .have:=hF k hk
   omega
  exact(hown.lt k hk.symm).2
 .rw [aa.size];omega
 intro k hk ag;rw[aa.block k (λe=>ag (by rw[e];exact h7)),hkeep k hk (λe=>ag (h8 i hin k (by rw[he];exact e.symm)))]
theorem gU(F:Nat->Prop)(rb n kb i:Nat)(sg:Nat->List zgW)(t:zgW)(w:World)(h:RingI F rb n sg w)(hin:i<n)(hk:w.heap[kb]? =some (.cells #[pA rb 0,iA i] 114 (0,0)))
 (hlen:(sg i).length<=4000000000000) (hF:∀k,F k->k<w.heap.size):
 Calls prog 44 #[pA kb 0,sA t] w λe w'=>e=.returned (.tuple #[])/\zag F rb n (kg sg i t) w w':=by
 have HR:=zc h;have al:cE w kb 0 (pA rb 0):=zgs w kb 0 _ _ _ hk;have ay:=zc hk;have ak:cE w kb 1 (iA i):=zgs w kb 1 _ _ _ hk;obtain⟨i9,aK,aD,aC,aB⟩:=info_parts Tryz.zdz;by_cases ab:t∈sg i
 .have HE:Hid (kg sg i t=sg):=Q0 ab;have aE:z8 sg n (i:Int) t=true:=by rw[vg hin];exact xA ab
  have au:=zc hF;clear h ab hk hF hlen;go_enter func44,ntmps44;go_wp2_with fail
  go_quiet (first|(go_at_call 71;refine Calls.quiet_of_same (qP F rb n sg (i:Int) t _ (HR.o.frame (λ_ _=>rfl)))))
  all_goals go_wp2
  all_goals exact bodyPost_end (v:=.tuple #[]) (by simp[results,results44]) rfl ⟨rfl,F,by rw[HE.o];exact HR.o.frame (λ_ _=>rfl),λk hk=>zgR hk,λk hk=>au k hk,⟨rfl,rfl,rfl,zgp _,λ_ _ _=>rfl⟩⟩
 obtain⟨ob,cap,cur,iv,h1,h2,h3,h4,h5,h6,h7,h8⟩:=h;have an:cE w rb 0 (.slice (some (aA ob 0)) n cap):=zgs w rb 0 _ _ _ h1;have hO:=h4 i hin;obtain⟨ip,ic,he⟩:=zl hO;have ao:w.cell? (aA ob i)=some (.slice ip (sg i).length ic):=by rw[zgs w ob i _ _ _ h2,h3 i hin,he]
 rw[he] at hO;have aE:z8 sg n (i:Int) t=false:=by rw[vg hin];exact Js ab
 obtain⟨HO,H1,H2,H3,H4,H5,H8,HE⟩:=vF hO h1 h2 h3 h4 h5 h8 he;obtain⟨ar,au⟩:=ze ab hF;have ax:F rb/\F ob:=⟨h6,h7⟩;have hi2:(i:Int)<n:=by omega
 have aG:cur.size>i:=(Array.getElem?_eq_some_iff.1 (h3 i hin)).1;clear h1 h2 h3 h4 h5 h6 h7 h8 hO he ab hk hF;go_enter func44,ntmps44;go_wp2_with fail
 go_quiet (first|(go_at_call 71;refine Calls.quiet_of_same (qP F rb n sg (i:Int) t _ (HR.o.frame (λ_ _=>rfl)))))
 go_wp2_with fail
 refine rgd (S:=λW=>cE W kb 0 (pA rb 0)/\cE W kb 1 (iA i)/\cE W rb 0 (.slice (some (aA ob 0)) n cap)) ⟨al,ak,an⟩ λhH=>?_;refine zx [0,1,2,3,4,5,6,7,8,9,10,11,12,13,14,15,16,17,18,19,20,21,22,24] hH (λx h=>aI h.1 (aI h.2.2 (h.2.1))) ?_;have aj:ob<w.heap.size:=jU ao;have aJ:∀g,Value.ownBlock (.slice ip (sg i).length ic)=some g->g≠ob/\g≠rb/\g≠kb/\g<w.heap.size:=λg hg=>by
  obtain⟨hg1,aL⟩:=HO.o.lt g hg;refine⟨λe=>yr HO H2 (by decide) (by rw[<-e];exact hg.symm),λe=>yr HO H1 (by decide) (by rw[<-e];exact hg.symm),λe=>yr HO ay (by decide) (by rw[<-e];exact hg.symm),aL⟩
 have ne:=λg=>λ(h:some g=Value.ownBlock (.slice ip (sg i).length ic))=>aJ g h.symm;have ai:ob≠rb:=λe=>by have h:=H2.o;rw[e,H1.o] at h;simp at h
 have ad:ob≠kb:=λe=>by have h:=H2.o;rw[e,ay.o] at h;simp at h
 have af:∀(m:Nat) (o:Obj) (p:Addr) (v:Value),w.cell? p=some v->((w.drewN m).alloc o).cell? p=some v:=λm o p v hp=>by
  rw[<-hp];exact zgw (w:=w) (zg2 (w.drewN m) o p.block (Kp hp))
 refine gn 23 25 (λK hK=>?_) λK hK=>?_;focus
  go_simp;refine hK.out _ _ hH λhH=>?_;clear hK K;refine zp 25 λK hK=>?_;go_simp;refine hK.out _ _ ⟨af _ _ _ _ al,af _ _ _ _ ak,af _ _ _ _ an⟩ λhH=>?_
 rotate_left;focus
  go_simp;refine hK.out _ _ ⟨af _ _ _ _ al,af _ _ _ _ ak,af _ _ _ _ an⟩ λhH=>?_;clear hK K;refine zp 23 λK hK=>?_;have hc9:=λm o=>af m o _ _ ao;go_simp;refine hK.out _ _ hH λhH=>?_
 rotate_left;all_goals
  clear hK K;refine zp 26 λK hK=>?_;rw[zgT (by rfl)];refine zQ _ _ _ 30 rfl 0 9 i9 (sA zgV) 1 16 underlying30 aK aD aC aB rfl (by decide) (.slice ip (sg i).length ic) (sg i).length ((sg i).map .string) rfl (zb (w:=w) HO (λg _ hg=>zg2 (w.drewN _) _ g hg)) (nA w 0) 1 1 [sA t] rfl rfl (λj u hj=>?_) (λu hu=>?_) (by unfold maxLen;omega) (by omega) (zgv _) ?_
  .match j,hj with
   |0,hj=>simp at hj;subst hj;rw[addr_add];exact zgs _ _ 0 _ _ _ (zgr (w.drewN _) _)
   |j+1,hj=>simp at hj
  .simp at hu;subst hu;rfl
  intro v' w3 ah ae aw;obtain⟨HN,ag,az⟩:=zC ah ae aw;clear ah ae aw;have aa:∀k,k<w.heap.size->some k≠Value.ownBlock (.slice ip (sg i).length ic)->w3.heap[k]? =w.heap[k]? :=λk hk aH=>(ag.o.block k (by simp;omega) aH).trans (zg2 (w.drewN _) _ k hk);have aF:w.heap.size+1<=w3.heap.size:=by have:=ag.o.size;simp at this;omega
  have av:Hid (v'.ownBlock=Value.ownBlock (.slice ip (sg i).length ic)\/v'.ownBlock=some (w.heap.size+1)):=by have h:=az.o;simpa [Hid] using h
  have aM:Hid (w3.os=w.os/\w3.tape=w.tape/\w3.output=w.output):=⟨ag.o.os,ag.o.tape,ag.o.output⟩;refine hK.out _ _ ?_ λhH=>?_
  .exact ⟨(zgw (w:=w) (a:=(aA kb 0)) (aa kb (jU al) (λe=>(ne kb e).2.2.1 rfl))).trans al,(zgw (w:=w) (a:=(aA kb 1)) (aa kb (jU ak) (λe=>(ne kb e).2.2.1 rfl))).trans ak,(zgw (w:=w) (a:=(aA rb 0)) (aa rb (jU an) (λe=>(ne rb e).2.1 rfl))).trans an⟩
  clear hK K az ag;refine zx [27] hH (λ_ h=>h) ?_;have aN:=zc ((aa ob aj (λe=>(ne ob e).1 rfl)).trans H2);have hf3:w3.frozen? (aA ob i)=false:=by have h:=aN.o;simp[World.frozen?,h]
  have hc3:w3.cell? (aA ob i)=some (.slice ip (sg i).length ic):=by rw[<-ao];exact zgw (w:=w) (a:=(aA ob i)) (aa ob aj (λe=>(ne ob e).1 rfl))
  obtain⟨vp,vc,rfl⟩:=zl HN;have aq:=zc (zd w3 ob i (.slice vp ((sg i).length+1) vc));refine zp 28 λK hK=>?_;go_simp;refine hK.out _ _ ?_ λhH=>?_
  .exact ⟨(aq.o.cell (p:=(aA kb 0)) (by exact λe=>ad e.symm)).trans hH.1,(aq.o.cell (p:=(aA kb 1)) (by exact λe=>ad e.symm)).trans hH.2.1,(aq.o.cell (p:=(aA rb 0)) (by exact λe=>ai e.symm)).trans hH.2.2⟩
  clear hK K;refine dnr ?_;go_wp2;exact bodyPost_end (v:=.tuple #[]) (by simp[results,results44]) rfl ⟨rfl,zay au.o H1.o H2.o H3.o H4.o H5.o ax.1 ax.2 H8.o hin HE.o ar.o HN.o av.o aa aF aM.o HO.o⟩
end
section
open Proofs.Tryz
theorem Tryz.zez:(prog.info? 30).map (λi=>(i.zero,i.size,i.bytes))=some (some (.slice none 0 0),1,24):=by kernel_rfl
theorem Tryz.zfz:(prog.info? 45).map (λi=>(i.zero,i.size,i.bytes))=some (some (.pointer none),1,8):=by kernel_rfl
def kq(w:World)(kb rb i:Nat):Prop:=w.heap[kb]? =some (.cells #[pA rb 0,iA i] 114 (0,0))
def za6(ks:Nat->Nat)(k:Nat):List Value:=(List.range k).map λi=>pA (ks i) 0
theorem GF(ks:Nat->Nat)(k b:Nat):za6 (λi=>if i=k then b else ks i) (k+1)=za6 ks k++[pA b 0]:=by
 unfold za6;rw[List.range_succ,List.map_append]
 congr 1
 .apply List.map_congr_left;intro i hi;have:i<k:=by simpa using hi
  simp;omega
 simp
theorem Zo(n:Nat)(w:World)(hn0:1<=n)(hn:n<=100):
 Calls prog 9 #[iA n] w λe w'=>∃(ov:Value) (kp:Option Addr) (kc:Nat) (ks:Nat->Nat),e=.returned (.tuple #[pA w.heap.size 0,.slice kp n kc])/\
  RingI (λk=>k=w.heap.size\/some k=ov.ownBlock) w.heap.size n (λ_=>[]) w'/\w'.ownsRow (w.heap.size+1) 30 1 ov n (List.replicate n (.slice none 0 0))/\
  w'.ownsRow (w.heap.size+1) 45 1 (.slice kp n kc) n (za6 ks n)/\(∀i,i<n->w.heap.size<ks i/\kq w' (ks i) w.heap.size i)/\BW w w':=by
 obtain⟨i30,au,aQ,aP,aO⟩:=info_parts Tryz.zez;obtain⟨i45,ar,aT,aS,aR⟩:=info_parts Tryz.zfz;obtain⟨aY,HN⟩:=ze hn0 hn;clear hn0 hn;go_enter func9,ntmps9;go_wp2;go_loopw [5,6] (λkv i wr=>∃(k:Nat) (ov:Value) (ks:Nat->Nat),k<=n/\i=iA k/\cL wr w.heap.size #[ov] 112/\wr.ownsRow (w.heap.size+1) 30 1 ov k (List.replicate k (.slice none 0 0))/\
  wr.ownsRow (w.heap.size+1) 45 1 kv k (za6 ks k)/\(∀i,i<k->w.heap.size<ks i/\kq wr (ks i) w.heap.size i)/\BW w wr) (λ_ i _=>n-(intOf i).toNat)
 case atStart=>exact⟨0,.slice none 0 0,λ_=>0,zgv _,rfl,zgr w _,zgQ _ _ _ _,zgQ _ _ _ _,λi hi=>by omega,bwA w⟩
 obtain⟨k,ov,ks,hk,rfl,hr,ho,aD,aE,hb⟩:=hrel;obtain⟨HR,HO,ao,aM,HB⟩:=kY hr ho aD aE hb;have ag:w.heap.size<wr.heap.size:=zj hr;have aH:cN wr w 0 ov:=zgs wr w.heap.size 0 _ _ _ hr;clear hr ho aD aE hb;by_cases aF:k=n
 .subst aF;obtain⟨kp,kc,rfl⟩:=zl ao;go_wp2;go_ret2;refine⟨ov,kp,kc,ks,rfl,?_,HO,ao,aM,HB⟩;obtain⟨op,oc,rfl⟩:=zl HO;rcases HO.o.2 with⟨_,h0⟩|⟨g,cap,cur,e0,hb,hg,hnc,hcm,hcs,ht⟩
  .have:=aY.o
   omega
  cases e0;refine⟨g,oc,cur,λ_=>.slice none 0 0,HR,hg,λi hi=>?_,λi hi=>zgQ _ _ _ _,λi j _ _ _ g e=>by(intro e2;cases e2),zgR rfl,zgS rfl,λi _ g e=>(by cases e)⟩;have e1:(cur.toList.take (k*1))[i]? =(List.replicate k (Value.slice none 0 0))[i]? :=by rw[ht]
  rw[zg5,zgT (by omega),List.getElem?_replicate,zgT hi] at e1;rw[<-zg8,e1]
 have al:(k:Int)<n:=by omega
 have aV:k<n:=by omega
 have aN:=zc aV;have aG:k<=100:=by have:=HN.o;omega
 have av:∀o,cN (wr.alloc o) w 0 ov:=λo=>(((zgq wr.heap.size wr).alloc (zgp _) o).cell (p:=(nA w 0)) (by exact ag)).trans aH;clear aF;go_wp2_with (first|(at_builtin;refine wpList_append_own _ rfl _ _ 63 rfl (w.heap.size+1) 30 i30 (.slice none 0 0) 1 24 underlying63 au aQ aP aO rfl (by decide) _ _ _ rfl (HO.o.alloc _) (nA wr 0) 1 1 [.slice none 0 0] rfl rfl ?c1 ?c2 ?c3 ?c4 ?c5 ?_)|go_in)
 case c1=>
  intro j u hj;match j,hj with
  |0,hj=>simp at hj;subst hj;simp[Addr.add]
 case c2=>intro u hu;simp at hu;subst hu;rfl
 case c3=>have:=HN.o;unfold maxLen;omega
 case c4=>have:=HN.o;omega
 case c5=>simp;omega
 intro ov' w2 af ab _;obtain⟨op,oc,rfl⟩:=zl af;have aL:=zc af;have aC:Hid (Below (w.heap.size+1) wr w2):=((zgq _ wr).alloc ag _).grown ab (by simp;omega) (λj hj=>(HO.o.lt j hj).1);have aj:Hid (w2.ownsRow (w.heap.size+1) 45 1 _ k (za6 ks k)):=zb (ao.o.alloc (.cells #[.slice none 0 0] 30)) (λg hg al=>ab.block g al (λe=>yA ao HO (by decide) g hg e.symm));have aB:Hid (∀i,i<k->w.heap.size<ks i/\kq w2 (ks i) w.heap.size i):=λi hi=>by
  obtain⟨h1,h2⟩:=aM.o i hi;refine⟨h1,?_⟩;unfold kq at h2 ⊢;rw[ab.block (ks i) (by have:=zj h2;simp;omega) (λe=>yr HO.o h2 (by decide) e),zg2 wr _ _ (zj h2)];exact h2
 clear af ab;have aw:=zc ((aC.o.block w.heap.size (by omega)).trans HR.o);have hc2:cN w2 w 0 ov:=zgs w2 w.heap.size 0 _ _ _ aw;have hf2:w2.frozen? (nA w 0)=false:=by have h:=aw.o;simp[World.frozen?,h]
 have aU:wr.heap.size<=w2.heap.size:=aC.o.size;clear aH av;obtain⟨w3,ak⟩:=gen (w2.setCell (nA w 0) (.slice op (k+1) oc));have ai:Hid (ko w.heap.size w2 w3):=by unfold Hid;rw[ak];exact zd _ _ _ _
 have aJ:Hid (w3.heap[w.heap.size]? =some (.cells #[.slice op (k+1) oc] 112 (0,0))):=by
  unfold Hid;have h:=aw.o;rw[ak];simp[World.setCell,Array.getElem?_modify,h]
 have aK:=zc (zb aL.o (λg hg _=>ai.o.block g (by have:=(aL.o.lt g hg).1;omega)));have ad:=zc (zb aj.o (λg hg _=>ai.o.block g (by have:=(aj.o.lt g hg).1;omega)));have az:Hid (∀i,i<k->w.heap.size<ks i/\kq w3 (ks i) w.heap.size i):=λi hi=>by
  obtain⟨h1,h2⟩:=aB.o i hi;refine⟨h1,?_⟩;unfold kq at h2 ⊢;rw[ai.o.block (ks i) (by omega)];exact h2
 have ah:w3.heap.size=w2.heap.size:=ai.o.size;have hw4:=ak.symm;clear ak;go_wp2_with (first|(at_builtin;refine wpList_append_own _ rfl _ _ 29 rfl (w.heap.size+1) 45 i45 (.pointer none) 1 8 underlying29 ar aT aS aR rfl (by decide) _ _ _ rfl ((ad.o.alloc _).alloc _) (aA (w2.heap.size+1) 0) 1 1 [pA w2.heap.size 0] rfl rfl ?c1 ?c2 ?c3 ?c4 ?c5 ?_)|go_in)
 case c1=>
  intro j u hj;match j,hj with
  |0,hj=>
   simp at hj;subst hj;rw[addr_add,<-ah];have e1:(w3.alloc (.cells #[pA w.heap.size 0,iA k] 114)).heap.size=w3.heap.size+1:=by simp
   rw[<-e1];exact zgs _ _ 0 _ _ _ (zgr _ _)
 case c2=>intro u hu;simp at hu;subst hu;rfl
 case c3=>have:=HN.o;unfold maxLen;omega
 case c4=>have:=HN.o;omega
 case c5=>simp;omega
 intro kv' w5 ae aa _;obtain⟨kp,kc,rfl⟩:=zl ae;have ax:=zc ae;have an:∀g,g<w3.heap.size->((w3.alloc (.cells #[pA w.heap.size 0,iA k] 114)).alloc (.cells #[pA w2.heap.size 0] 45)).heap[g]? =w3.heap[g]? :=λg hg=>(zg2 _ _ g (by simp;omega)).trans (zg2 _ _ g hg);have aq:((w3.alloc (.cells #[pA w.heap.size 0,iA k] 114)).alloc (.cells #[pA w2.heap.size 0] 45)).heap[w2.heap.size]? =some (.cells #[pA w.heap.size 0,iA k] 114 (0,0)):=by
  rw[<-ah,zg2 _ _ w3.heap.size (by simp)];exact zgr w3 _
 have ay:Hid (∀i,i<k+1->w.heap.size<(if i=k then w2.heap.size else ks i)/\kq w5 (if i=k then w2.heap.size else ks i) w.heap.size i):=λi hi=>by
  by_cases e:i=k
  .rw [zgT e,e];refine⟨by omega,?_⟩;unfold kq;rw[aa.block w2.heap.size (by simp;omega) (yr ((ad.o.alloc _).alloc _) aq (by decide))];exact aq
  rw[zgU e];obtain⟨h1,h2⟩:=az.o i (by omega);refine⟨h1,?_⟩;unfold kq at h2 ⊢;rw[aa.block (ks i) (by have:=zj h2;simp;omega) (yr ad.o h2 (by decide)),an _ (zj h2)];exact h2
 have aX:=zc (zb aK.o (λg hg al=>(aa.block g (by simp;omega) (λe=>yA aK.o ad.o (by decide) g hg e.symm)).trans (an g al)));have aW:Hid (cL w5 w.heap.size #[.slice op (k+1) oc] 112):=(aa.block w.heap.size (by simp;omega) (yr ad.o aJ.o (by decide))).trans ((an _ (by omega)).trans aJ.o);have a1:Hid (BW w w5):=by
  have h3:BW w w3:=(HB.o.trans (aC.o.mono (by omega))).trans (ai.o.below (zgp _));exact((h3.alloc (by omega) _).alloc (by simp;omega) _).grown aa (by simp;omega) (λj hj=>by have:=(ad.o.lt j hj).1;omega)
 have aZ:=zc (GF ks k w2.heap.size);clear ae aa an aq;go_wp2;go_roundw
 case rel=>exact⟨k+1,.slice op (k+1) oc,_,aN,by go_num,aW,by rw[List.replicate_succ'];exact aX,by rw[aZ.o];exact ax,ay,a1⟩
 case measure=>have:=aN.o;simp[intOf];omega
end
section
section
variable{P:Program}(w:World)
theorem kN{ops:Array Oper}{rest:List Oper}{o:Oper}{a:Act}{Q:Exit->Act->World->Prop}(hgd:o.guard=none)(s x:Operand)(t:TypeId)
 (ho:o.op=.call { callee:=.builtin .append,args:=#[s,x],argTypes:=#[t,t] })
 (base:Nat) (e:TypeId) (i:TypeInfo) (z:Value) (size bytes:Nat) (ht:P.underlying t=some (.slice e)) (hi:P.info? e=some i) (hz:i.zero=some z)
 (hsize:i.size=size) (hby:i.bytes=bytes) (hzs:z.cells.size=size) (hsz:0<size)
 (v:Value) (n:Nat) (xs:List Value) (hs:a.eval s=v) (hown:w.ownsRow base e size v n xs)
 (ad:Addr) (m c:Nat) (news:List Value) (hx:a.eval x=.slice (some ad) m c) (hl:news.length=m*size) (hnews:∀j u,news[j]? =some u->w.cell? (ad.add j)=some u) (h1:∀u∈news,u.oneCell'=true)
 (h63:n+m<=maxLen) (hbytes:(n+m)*bytes<=140737488355328) (hbase:base<=w.heap.size)
 (h:∀v' w',w'.ownsRow base e size v' (n+m) (xs++news)->w.grownBy w' v.ownBlock->(v'.ownBlock=v.ownBlock\/v'.ownBlock=some w.heap.size)->wpList P ops Q rest (a.put o.dst v') w'):wpList P ops Q (o::rest) a w:=
 wpList_plain hgd λ_ hK=>zQ w s x t ho base e i z size bytes ht hi hz hsize hby hzs hsz v n xs hs hown ad m c news hx hl hnews h1 h63 hbytes hbase λv' w' h2 h3 h4=>hK _ _ (h v' w' h2 h3 h4)
theorem vP{ops:Array Oper}{rest:List Oper}{o:Oper}{a:Act}{Q:Exit->Act->World->Prop}(hgd:o.guard=none)(s x:Operand)(t:TypeId)
 (ho:o.op=.call { callee:=.builtin .append,args:=#[s,x],argTypes:=#[t,t] })
 (base:Nat) (e:TypeId) (i:TypeInfo) (z:Value) (bytes:Nat) (ht:P.underlying t=some (.slice e)) (hi:P.info? e=some i) (hz:i.zero=some z)
 (hsize:i.size=1) (hby:i.bytes=bytes) (hzs:z.cells.size=1)
 (v:Value) (n:Nat) (xs:List Value) (hs:a.eval s=v) (hown:w.ownsRow base e 1 v n xs)
 (p:Option Addr) (m c:Nat) (fr:Nat->zgW) (hx:a.eval x=.slice p m c) (hp:ga p m c) (hl:kG w w.heap.size p m (λi=>sA (fr i)))
 (h63:n+m<=maxLen) (hbytes:(n+m)*bytes<=140737488355328) (hbase:base<=w.heap.size)
 (h:∀v' w',w'.ownsRow base e 1 v' (n+m) (xs++(List.range m).map λi=>sA (fr i))->w.grownBy w' v.ownBlock->(v'.ownBlock=v.ownBlock\/v'.ownBlock=some w.heap.size)->wpList P ops Q rest (a.put o.dst v') w'):wpList P ops Q (o::rest) a w:=by
 rcases hp with⟨rfl,rfl,rfl⟩|⟨b,off,rfl⟩
 .refine wpList_plain hgd λK hK=>?_;have hr:=run_append_owned_none (P:=P) w base t o.type e i 1 ht hi v n xs hown;unfold Oper.wp execOp;simp only[ho,resolve,invoke,builtin,Sem.run_bind,Sem.run_pure,Result.andThen_ok,List.map_toArray,List.map_cons,List.map_nil,hs,hx,hr];exact hK _ _ (h v w (by simpa using hown) (World.grownBy.refl _ _) (zgR rfl))
 refine kN w hgd s x t ho base e i z 1 bytes ht hi hz hsize hby hzs (by decide) v n xs hs hown (aA b off) m c ((List.range m).map λi=>sA (fr i)) hx (by simp) (λj u hj=>?_) (λu hu=>?_) h63 hbytes hbase h
 .have aa:j<m:=by have:=(List.getElem?_eq_some_iff.1 hj).1;simpa using this
  obtain⟨b',o',e',_,hc⟩:=hl j aa;cases e';have e2:((List.range m).map λi=>Value.string (fr i))[j]? =some (sA (fr j)):=by simp[aa]
  rw[e2] at hj;cases hj;rw[addr_add];exact hc
 simp only[List.mem_map] at hu;obtain⟨i,_,rfl⟩:=hu;rfl
end
end
section
open Proofs.Tryz
theorem qW(kb rb i:Nat)(w:World)(h:kq w kb rb i):Calls prog 144 #[pA kb 0] w λe w'=>e=.returned (iA i)/\w'=w:=by
 have hk1:cE w kb 1 (iA i):=zgs w kb 1 _ _ _ h;clear h;go_enter func144,ntmps144;go_wp2;go_ret;exact⟨rfl,rfl⟩
theorem Zz(kb rb i:Nat)(w:World)(h:kq w kb rb i):Calls prog 78 #[pA kb 0] w λe w'=>e=.returned (pA rb 0)/\w'=w:=by
 have hk0:cE w kb 0 (pA rb 0):=zgs w kb 0 _ _ _ h;clear h;go_enter func78,ntmps78;go_wp2;go_ret;exact⟨rfl,rfl⟩

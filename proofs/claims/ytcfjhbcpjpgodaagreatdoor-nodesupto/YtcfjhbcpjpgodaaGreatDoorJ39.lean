import Derived.Lib.AppendZeros
import Derived.Test.YtcfjhbcpjpgodaaGreatDoorJ38
import Derived.Test.YtcfjhbcpjpgodaaGreatDoorJ34
namespace Go.Proofs.YtcfjhbcpjpgodaaGreatDoor
open Go.RowKit
set_option maxRecDepth 100000
set_option maxHeartbeats 0
set_option linter.all false
theorem q7(l:List Int)(s:zgW)(i:Nat)(x:Int)(hi:l[i]? =some x)(h0:0<=x)(h1:x<=255):byt (strOfNums l++s) i=x:=by
 have hl:i<l.length:=(List.getElem?_eq_some_iff.1 hi).1;unfold byt strOfNums;rw[ByteArray.data_append,Array.toList_append,zgz,zgD (by simpa using hl)];simp only[List.getElem?_map,hi,Option.map_some,Option.getD_some,UInt8.toNat_ofNat'];omega
theorem Qv(l:List Int)(s:zgW):(strOfNums l++s).extract l.length (strOfNums l++s).size=s:=by
 apply ByteArray.ext;apply Array.ext';rw[Lib.extract_data];have hz:(strOfNums l++s).size=l.length+s.size:=by rw[ByteArray.size_append,strOfNums_size]
 rw[hz];have hd:(strOfNums l++s).data.toList=(strOfNums l).data.toList++s.data.toList:=by rw[ByteArray.data_append,Array.toList_append]
 rw[hd];have hll:(strOfNums l).data.toList.length=l.length:=by unfold strOfNums;simp
 rw[List.drop_append_of_le_length (by omega)];have h0:(strOfNums l).data.toList.drop l.length=[]:=List.drop_of_length_le (by omega);rw[h0,List.nil_append];exact List.take_of_length_le (by simp)
theorem zb4{K H R F V:Int}{nl:Bool}{s:zgW}(h:hasB K H R F V nl s.size=true):yT (encS K H R F V nl s)=true/\decV (encS K H R F V nl s)=⟨K,H,R,F,V,nl,s⟩:=by
 rw[qF h];have h':=zgF h;obtain⟨h1,h2,h3,h4,h5,h6,h7,h8⟩:=h';obtain⟨M,hM⟩:=gen (yS K V nl);have hv:vOf K M=V:=by
  rw[hM];unfold vOf yS;rcases h8 with⟨rfl,rfl,_,_⟩|⟨hk,rfl,hn⟩
  .simp
  have:¬K=1:=by omega
  simp[this]
 have hn:nlOf K M=nl:=by
  rw[hM];unfold nlOf yS;rcases h8 with⟨rfl,rfl,_,_⟩|⟨hk,rfl,hn⟩
  .simp
  have:¬K=1:=by omega
  cases nl<;>simp[this]
 have ab:0<=M/\M<=255:=by
  rw[hM];unfold yS;rcases h8 with⟨rfl,rfl,_,_⟩|⟨hk,rfl,hn⟩
  .simp;omega
  have:¬K=1:=by omega
  cases nl<;>simp[this]
 have hK:0<=K/\K<=255:=by omega
 rw[<-hM];have b0:byt (yt K H R F M s) 0=K:=q7 [K,H,R,F,M,s.size] s 0 K rfl hK.1 hK.2;have b1:byt (yt K H R F M s) 1=H:=q7 [K,H,R,F,M,s.size] s 1 H rfl h1 (by omega);have b2:byt (yt K H R F M s) 2=R:=q7 [K,H,R,F,M,s.size] s 2 R rfl h3 h4;have b3:byt (yt K H R F M s) 3=F:=q7 [K,H,R,F,M,s.size] s 3 F rfl h5 (by omega);have b4:byt (yt K H R F M s) 4=M:=q7 [K,H,R,F,M,s.size] s 4 M rfl ab.1 ab.2;have b5:byt (yt K H R F M s) 5=s.size:=q7 [K,H,R,F,M,s.size] s 5 s.size rfl (by omega) (by omega);have ex:(yt K H R F M s).extract 6 (yt K H R F M s).size=s:=Qv [K,H,R,F,M,s.size] s;have hz:6<=(yt K H R F M s).size:=by unfold yt;rw[ByteArray.size_append,zbF];omega
 have aa:yT (yt K H R F M s)=true:=by
  unfold yT qB;rw[b0,b1,b2,b3,b4,b5,ex,hv,hn,h,zgG hz,<-hM];simp
 refine⟨aa,?_⟩;unfold decV;rw[zgT aa,b0,b1,b2,b3,b4,ex,hv,hn]
section
section
variable{B0 rb n:Nat}{ks:Nat->Nat}{kv gv:Value}{g:Nat->Int}{F:Nat->Prop}{sg:Nat->List zgW}{va vb vd:Value}{la lb:List zgW}{ld:List Nat}{w w':World}
end
theorem XT{sg:Nat->List zgW}{k i:Nat}{u t:zgW}(h:t∈sg i):t∈kg sg k u i:=by
 unfold kg;split
 .rename_i h1;rw[<-h1.1];exact List.mem_append_left _ h
 exact h
theorem XS{sg:Nat->List zgW}{k:Nat}{u:zgW}:u∈kg sg k u k:=by
 unfold kg;split
 .exact List.mem_append_right _ (List.mem_singleton.2 rfl)
 rename_i h1;have h2:¬GK (sg k) u=false:=λe=>h1 ⟨rfl,e⟩;exact(gZ _ _).1 (by simpa using h2)
end
section
variable{n k i:Nat}{f u g:zgW}{s:za}
def SgF(n:Nat)(sg:Nat->List zgW)(f:zgW):Prop:=yT f=true/\z8 sg n (decV f).f f=true
theorem SgF.sign{sg:Nat->List zgW}(h:SgF n sg f):SgF n (kg sg k u) f:=by
 refine⟨h.1,?_⟩;have h2:=h.2;unfold z8 at h2 ⊢;rw[Bool.and_eq_true_iff] at h2 ⊢;refine⟨h2.1,xA (XT ?_)⟩;exact(gZ _ _).1 h2.2
structure ZOk (n:Nat) (s:za):Prop where
 log:∀e∈s.log,SgF n s.sg e.fr
 ahead:∀e∈s.ahead,SgF n s.sg e.fr
 dec:∀d∈s.dec,SgF n s.sg d.prop/\∀f∈d.cert,SgF n s.sg f
 out:∀f∈s.out,SgF n s.sg f
theorem ZOk.same{s':za}(h:ZOk n s)(h1:s'.log=s.log)(h2:s'.ahead=s.ahead)(h3:s'.dec=s.dec)(h4:s'.out=s.out)(h5:s'.sg=s.sg):ZOk n s':=⟨by rw[h1,h5];exact h.log,by rw[h2,h5];exact h.ahead,by rw[h3,h5];exact h.dec,by rw[h4,h5];exact h.out⟩
theorem ZOk.ring(h:ZOk n s):ZOk n { s with sg:=kg s.sg k u }:=⟨λe he=>(h.log e he).sign,λe he=>(h.ahead e he).sign,λd hd=>⟨(h.dec d hd).1.sign,λf hf=>((h.dec d hd).2 f hf).sign⟩,λf hf=>(h.out f hf).sign⟩
theorem JV{out:List zgW}(h:g∈Zr out f):g∈out\/g=f:=by
 unfold Zr at h;split at h
 .rcases List.mem_append.1 h with h|h
  .exact zgR h
  exact zgS (List.mem_singleton.1 h)
 exact zgR h
theorem JU{l:List zgW}:∀{out:List zgW},g∈Yp out l->g∈out\/g∈l:=by
 induction l with
 |nil=>intro out h;exact zgR h
 |cons a l ih=>
  intro out h;rcases ih h with h|h
  .rcases JV h with h|h
   .exact zgR h
   exact zgS (by rw[h];exact zgL ..)
  exact zgS (List.mem_cons_of_mem _ h)
theorem ZOk.send(h:ZOk n s)(hi:i<n)(k v:Int)(nl:Bool)(t:zgW):ZOk n (s.zc8 i k v nl t):=by
 unfold za.zc8;split
 .exact h
 split
 .rename_i hb;obtain⟨h1,h2⟩:=zb4 hb;have hf:SgF n (kg s.sg i (s.enc i k v nl t)) (s.enc i k v nl t):=by
   refine⟨h1,?_⟩;show z8 _ n (decV (encS k (s.zc1:Int) (s.round:Int) (i:Int) v nl t)).f _=true;rw[h2];show z8 _ n (i:Int) _=true;rw[vg hi];exact xA XS
  have hr:=h.ring (k:=i) (u:=s.enc i k v nl t);refine⟨λe he=>?_,hr.ahead,hr.dec,λf aa=>?_⟩
  .rcases List.mem_append.1 (show e∈s.log++[_] from he) with he|he
   .exact hr.log e he
   rw[List.mem_singleton.1 he];exact hf
  rcases JV aa with h3|h3
  .exact hr.out f h3
  rw[h3];exact hf
 exact h
theorem ZOk.begin{r:Nat}(h:ZOk n s)(hi:i<n):ZOk n (s.zc9 i r):=by
 have h1:ZOk n (s.zdh r 1):=h.same rfl rfl rfl rfl rfl;unfold za.zc9;split
 .exact h1.send hi _ _ _ _
 exact h1.same rfl rfl rfl rfl rfl
theorem YM{fits:zt->Bool}{l:List zt}:∀k,f∈certTo fits l k->∃e∈l,e.fr=f
 |0,h=>by cases h
 |k+1,h=>by
  rw[certTo] at h;rcases List.mem_append.1 h with h|h
  .exact YM k h
  .unfold zF at h;obtain⟨e,he,hf⟩:=List.mem_map.1 h;exact⟨e,(List.mem_filter.1 he).1,hf⟩
theorem ZOk.keep{p:zt}(h:ZOk n s)(hi:i<n)(hp:p∈s.log):ZOk n (s.zdG i p):=by
 have h1:ZOk n ((s.kept p).zdb ((s.kept p).ahead.filter λe=> !(s.kept p).zc7 e.m)):=by
  refine⟨λe he=>h.ahead e (List.mem_filter.1 he).1,λe he=>(by cases he),λd hd=>?_,h.out⟩;rcases List.mem_append.1 (show d∈s.dec++[_] from hd) with hd|hd
  .exact h.dec d hd
  rw[List.mem_singleton.1 hd];refine⟨h.log p hp,λf hf=>?_⟩;obtain⟨e,he,rfl⟩:=YM 8 hf;exact h.log e he
 unfold za.zdG;rw[kM];split
 .exact h1.same rfl rfl rfl rfl rfl
 exact h1.begin hi
theorem ZOk.one(h:ZOk n s)(hi:i<n):ZOk n (s.zdp (za.zdm i) i).2:=by
 have hs:∀k st,ZOk n (s.nothing i k st):=λk st=>(h.send hi k 0 true ⟨#[]⟩).same rfl rfl rfl rfl rfl;unfold za.zdp;split
 .unfold za.zdm;split
  .exact h
  rename_i p hp;obtain⟨r,_,h2⟩:=G2 hp;exact h.keep hi (ZQ h2).1
 split
 .unfold za.zde;split
  .exact h
  exact h.begin hi
 have aa:∀fits,ZOk n (s.zc6 i fits).2:=λfits=>by
  unfold za.zc6;split
  .split
   .exact h
   dsimp only
   split
   .exact (h.send hi 2 0 false _).same rfl rfl rfl rfl rfl
   exact hs 2 2
  exact h
 split
 .exact aa _
 split
 .exact aa _
 split
 .unfold za.zdy;split
  .split
   .exact h
   dsimp only
   split
   .exact ((h.same (s':=(s.zdk _).zdx) rfl rfl rfl rfl rfl).send hi 3 0 false _).same rfl rfl rfl rfl rfl
   exact h.same rfl rfl rfl rfl rfl
  exact h
 split
 .unfold za.zdd;split
  .exact hs 3 3
  exact h
 split
 .unfold za.zdi;split
  .exact h.same rfl rfl rfl rfl rfl
  exact h
 unfold za.zdl;split
 .exact h.same rfl rfl rfl rfl rfl
 exact h
theorem ZOk.zeI(hi:i<n):∀(f:Nat) (s:za),ZOk n s->ZOk n (za.zeI i f s)
 |0,_,h=>h
 |f+1,s,h=>by
  rw[za.zeI];split
  .exact ZOk.zeI hi f _ (h.one hi)
  .exact h
theorem ZOk.exp{t:yf}(h:ZOk n s)(hi:i<n):ZOk n (s.zdC i t):=by
 have hs:∀k st,ZOk n (s.nothing i k st):=λk st=>(h.send hi k 0 true ⟨#[]⟩).same rfl rfl rfl rfl rfl;unfold za.zdC;split
 .split
  .exact hs 2 2
  split
  .exact hs 3 3
  split
  .exact h.begin hi
  exact h
 exact h
theorem ZOk.zdD(hi:i<n):∀(f:Nat) (s:za),ZOk n s->ZOk n (za.zdD i f s)
 |0,_,h=>h
 |f+1,s,h=>by
  rw[za.zdD];split
  .exact h
  .split
   .exact ZOk.zdD hi f _ (ZOk.zeI hi 2200 _ ((h.same (s':=s.zdW) rfl rfl rfl rfl rfl).exp hi))
   .exact h
theorem ZOk.tick(h:ZOk n s)(hi:i<n):ZOk n (s.zdH i):=by
 have h0:ZOk n s.zdn:=⟨h.log,h.ahead,λd hd=>by
  obtain⟨d',aa,rfl⟩:=List.mem_map.1 (show d∈s.dec.map _ from hd);exact h.dec d' aa,h.out⟩
 have h1:=ZOk.zdD hi (s.tims.length+1) _ h0;unfold za.zdH za.again;split
 .refine ⟨h1.log,h1.ahead,h1.dec,λf hf=>?_⟩
  rcases JU hf with h2|h2
  .exact h1.out f h2
  unfold zF at h2;obtain⟨e,he,rfl⟩:=List.mem_map.1 h2;exact h1.log e (List.mem_filter.1 he).1
 exact h1
theorem ZOk.zef{fr:zgW}(h:ZOk n s)(hi:i<n):ZOk n (s.zdc n i fr):=by
 unfold za.zdc;split
 .rename_i h1;unfold za.zdV;split
  .unfold za.zdF;split
   .exact h
   rename_i hx _;have hm:s.dec.getD (decV fr).h.toNat yz∈s.dec:=by
    have hl:(decV fr).h.toNat<s.dec.length:=by
     have:=(ZO h1.1).1;have h9:(decV fr).h<(s.dec.length:Int):=hx;omega
    rw[zgz,zgy hl];exact List.getElem_mem _
   have hd:=h.dec _ hm;refine⟨h.log,h.ahead,λd aa=>?_,λf hf=>?_⟩
   .rcases List.mem_or_eq_of_mem_set aa with h2|h2
    .exact h.dec d h2
    rw[h2];exact hd
   rcases JU hf with h2|h2
   .exact h.out f h2
   rcases List.mem_cons.1 h2 with h3|h3
   .rw [h3];exact hd.1
   exact hd.2 f h3
  split
  .exact h
  refine ZOk.zeI hi 2200 _ ?_;have hn:∀l:List zt,(∀e∈l,SgF n s.sg e.fr)->∀e∈l++[⟨decV fr,fr,false⟩],SgF n s.sg e.fr:=λl hl e he=>by
   rcases List.mem_append.1 he with he|he
   .exact hl e he
   rw[List.mem_singleton.1 he];exact h1
  unfold za.zdA;split
  .exact ⟨hn _ h.log,h.ahead,h.dec,h.out⟩
  exact⟨h.log,hn _ h.ahead,h.dec,h.out⟩
 exact h
theorem ZOk.sub{t:zgW}(h:ZOk n s):ZOk n (s.zdT t):=by
 unfold za.zdT;split
 .exact h.same rfl rfl rfl rfl rfl
 exact h
theorem ZOk.sent(h:ZOk n s):ZOk n { s with out:=[] }:=⟨h.log,h.ahead,h.dec,λ_ hf=>(by cases hf)⟩
end
section
structure Low (B:Nat) (es:List Addr) (w:World):Prop where
 sent:Sent es w
 gb:∀i g:Nat,kS[i]? =some g->g<B
 eb:∀a,a∈es->a.block<B
 typ:Kv w
 tb:12<B
theorem Low.same{B:Nat}{es:List Addr}{w w':World}(h:Low B es w)(hb:∀k,k<B->w'.heap[k]? =w.heap[k]?):Low B es w':=by
 refine⟨⟨h.sent.len,h.sent.nodup,λi g a hg ha=>?_,λa ha=>?_⟩,h.gb,h.eb,?_,h.tb⟩
 .exact (zgw (w:=w) (a:=(aA g 0)) (hb g (h.gb i g hg))).trans (h.sent.cell i g a hg ha)
 .obtain ⟨c,t,hc⟩:=h.sent.blk a ha
  exact⟨c,t,(hb _ (h.eb a ha)).trans hc⟩
 unfold Kv;exact(zgw (w:=w) (a:=(aA 12 0)) (hb _ h.tb)).trans h.typ
theorem Low.zfY{B:Nat}{es:List Addr}{w:World}(h:Low B es w):gQ B es w:=⟨λi g a hg ha _=>h.sent.cell i g a hg ha,λi g hg _=>h.gb i g hg⟩
structure LawP (es:List Addr) (m:Int) (i wb xb yb ra rc cb:Nat) (ka kd:Nat->Nat) (gp gc hp hc:Nat) (FX RX FY RY:Nat->Prop) (Q:Gst) (Z:Nat->Prop) (sx sy:za) (sent:List zgW) (sv lv tv:Value) (K KT:Nat) (evs tvs:List Value) (w:World):Prop where
 x:NodeW wb es m FX RX xb (ka i) ra cb 9 i sx w
 y:RefW wb FY RY yb (kd i) rc 9 i sy w
 ap:∀k,FX k\/RX k->¬(FY k\/RY k)
 g:LawG (λk=>FX k\/RX k\/FY k\/RY k) Q Z wb xb yb ra rc ka kd gp gc hp hc sent sv lv tv K KT evs tvs w
 low:Low wb es w
section
variable{es:List Addr}{m:Int}{i wb xb yb ra rc cb:Nat}{ka kd:Nat->Nat}{gp gc hp hc:Nat}{FX RX FY RY Z:Nat->Prop}{Q:Gst}{sx sy:za}{sent:List zgW}{sv lv tv:Value}{K KT:Nat}{evs tvs:List Value}{w w':World}
theorem LawP.xl(h:LawP es m i wb xb yb ra rc cb ka kd gp gc hp hc FX RX FY RY Q Z sx sy sent sv lv tv K KT evs tvs w){k:Nat}(hk:FX k\/RX k):wb<k/\k<w.heap.size:=by
 have h1:wb<=k/\k<w.heap.size:=hk.elim (h.x.fl k) (h.x.rl k);have h2:k≠wb:=λe=>h.g.aw (by subst e;exact hk.elim zgR (λx=>zgS (zgR x)));omega
theorem LawP.yl(h:LawP es m i wb xb yb ra rc cb ka kd gp gc hp hc FX RX FY RY Q Z sx sy sent sv lv tv K KT evs tvs w){k:Nat}(hk:FY k\/RY k):wb<k/\k<w.heap.size:=by
 have h1:=h.y.bounds.1 k hk;have h2:k≠wb:=λe=>h.g.aw (by subst e;exact zgS (zgS hk));omega
theorem LawP.all(h:LawP es m i wb xb yb ra rc cb ka kd gp gc hp hc FX RX FY RY Q Z sx sy sent sv lv tv K KT evs tvs w):∀k,(FX k\/RX k\/FY k\/RY k)->k<w.heap.size:=λk hk=>by
 rcases hk with hk|hk|hk|hk
 .exact (h.xl (zgR hk)).2
 .exact (h.xl (zgS hk)).2
 .exact (h.yl (zgR hk)).2
 .exact (h.yl (zgS hk)).2
theorem LawP.zfG{FX' RX':Nat->Prop}{sx':za}{cb':Nat}(h:LawP es m i wb xb yb ra rc cb ka kd gp gc hp hc FX RX FY RY Q Z sx sy sent sv lv tv K KT evs tvs w)(hx:NodeW wb es m FX' RX' xb (ka i) ra cb' 9 i sx' w')(hG:Goes FX RX w FX' RX' w'):
 LawP es m i wb xb yb ra rc cb' ka kd gp gc hp hc FX' RX' FY RY Q Z sx' sy sent sv lv tv K KT evs tvs w':=by
 have hz:=hG.same.size;have aa:∀k,FX' k\/RX' k->(FX k\/RX k)\/w.heap.size<=k:=λk hk=>hk.elim (λh1=>(hG.ff k h1).elim (λx=>zgR (zgR x)) zgS) (λh1=>(hG.rr k h1).elim (λx=>zgR (zgS x)) zgS);refine⟨hx,h.y.frame hz λk hk=>?_,λk hk ab=>?_,h.g.same (A':=λk=>FX' k\/RX' k\/FY k\/RY k) ⟨hG.same.os,hG.same.tape,hG.same.output,hz,λk h1 h2=>hG.same.block k h1 (λh3=>h2 (h3.elim zgR (λx=>zgS (zgR x))))⟩ (λk hk=>?_),h.low.same λk hk=>hG.same.block k (by have:=h.g.size;omega) (λh3=>by have:=h.xl h3;omega)⟩
 .rcases hk with hk|hk|hk
  .exact hG.same.block k (h.yl (zgR hk)).2 (λh3=>h.ap k h3 (zgR hk))
  .exact hG.same.block k (h.yl (zgS hk)).2 (λh3=>h.ap k h3 (zgS hk))
  have hZ:=h.g.zz k (by rw[hk];exact(h.g.keyZ.2.2 i h.x.idn).2);exact hG.same.block k hZ.2.2.2.2.2.2 (λh3=>hZ.1 (h3.elim zgR (λx=>zgS (zgR x))))
 .rcases aa k hk with h1|h1
  .exact h.ap k h1 ab
  have:=(h.yl ab).2;omega
 rcases hk with hk|hk|hk
 .exact (aa k (zgR hk)).elim (λx=>zgR (x.elim zgR (λy=>zgS (zgR y)))) zgS
 .exact (aa k (zgS hk)).elim (λx=>zgR (x.elim zgR (λy=>zgS (zgR y)))) zgS
 exact zgR (zgS (zgS hk))
theorem LawP.zfv{FY' RY':Nat->Prop}{sy':za}(h:LawP es m i wb xb yb ra rc cb ka kd gp gc hp hc FX RX FY RY Q Z sx sy sent sv lv tv K KT evs tvs w)(hy:RefW wb FY' RY' yb (kd i) rc 9 i sy' w')(hG:Goes FY RY w FY' RY' w'):
 LawP es m i wb xb yb ra rc cb ka kd gp gc hp hc FX RX FY' RY' Q Z sx sy' sent sv lv tv K KT evs tvs w':=by
 have hz:=hG.same.size;have aa:∀k,FY' k\/RY' k->(FY k\/RY k)\/w.heap.size<=k:=λk hk=>hk.elim (λh1=>(hG.ff k h1).elim (λx=>zgR (zgR x)) zgS) (λh1=>(hG.rr k h1).elim (λx=>zgR (zgS x)) zgS);refine⟨h.x.frame hz λk hk=>?_,hy,λk hk ab=>?_,h.g.same (A':=λk=>FX k\/RX k\/FY' k\/RY' k) ⟨hG.same.os,hG.same.tape,hG.same.output,hz,λk h1 h2=>hG.same.block k h1 (λh3=>h2 (zgS (zgS h3)))⟩ (λk hk=>?_),h.low.same λk hk=>hG.same.block k (by have:=h.g.size;omega) (λh3=>by have:=h.yl h3;omega)⟩
 .rcases hk with hk|hk|hk|hk
  .exact hG.same.block k (h.xl (zgR hk)).2 (h.ap k (zgR hk))
  .exact hG.same.block k (h.xl (zgS hk)).2 (h.ap k (zgS hk))
  .have hZ:=h.g.zz k (by rw[hk];exact(h.g.keyZ.2.2 i h.x.idn).1);exact hG.same.block k hZ.2.2.2.2.2.2 (λh3=>hZ.1 (zgS (zgS h3)))
  exact hG.same.block k (by have:=h.g.size;omega) (λh3=>by have:=h.yl h3;omega)
 .rcases aa k ab with h1|h1
  .exact h.ap k hk h1
  have:=(h.xl hk).2;omega
 rcases hk with hk|hk|hk|hk
 .exact zgR (zgR hk)
 .exact zgR (zgS (zgR hk))
 .exact (aa k (zgR hk)).elim (λx=>zgR (zgS (zgS x))) zgS
 exact(aa k (zgS hk)).elim (λx=>zgR (zgS (zgS x))) zgS
theorem LawP.below(h:LawP es m i wb xb yb ra rc cb ka kd gp gc hp hc FX RX FY RY Q Z sx sy sent sv lv tv K KT evs tvs w)(hb:BW w w'):LawP es m i wb xb yb ra rc cb ka kd gp gc hp hc FX RX FY RY Q Z sx sy sent sv lv tv K KT evs tvs w':=
 ⟨h.x.below hb,h.y.below hb,h.ap,h.g.below hb,h.low.same λk hk=>hb.block k (by have:=h.g.size;omega)⟩
theorem LawP.own{S Z':Nat->Prop}{sent':List zgW}{sv' lv' tv':Value}{K' KT':Nat}{evs' tvs':List Value}(h:LawP es m i wb xb yb ra rc cb ka kd gp gc hp hc FX RX FY RY Q Z sx sy sent sv lv tv K KT evs tvs w)(hs:zm S w w')(hS:∀k,S k->wb<=k/\¬(FX k\/RX k\/FY k\/RY k)/\¬Z k)(hg:LawG (λk=>FX k\/RX k\/FY k\/RY k) Q Z' wb xb yb ra rc ka kd gp gc hp hc sent' sv' lv' tv' K' KT' evs' tvs' w'):
 LawP es m i wb xb yb ra rc cb ka kd gp gc hp hc FX RX FY RY Q Z' sx sy sent' sv' lv' tv' K' KT' evs' tvs' w':=by
 refine⟨h.x.frame hs.size λk hk=>?_,h.y.frame hs.size λk hk=>?_,h.ap,hg,h.low.same λk hk=>hs.block k (by have:=h.g.size;omega) (λh3=>by have:=(hS k h3).1;omega)⟩
 .rcases hk with hk|hk|hk|hk
  .exact hs.block k (h.xl (zgR hk)).2 (λh3=>(hS k h3).2.1 (zgR hk))
  .exact hs.block k (h.xl (zgS hk)).2 (λh3=>(hS k h3).2.1 (zgS (zgR hk)))
  .have hZ:Z k:=by rw[hk];exact(h.g.keyZ.2.2 i h.x.idn).1
   exact hs.block k (h.g.zz k hZ).2.2.2.2.2.2 (λh3=>(hS k h3).2.2 hZ)
  exact hs.block k (by have:=h.g.size;omega) (λh3=>by have:=(hS k h3).1;omega)
 rcases hk with hk|hk|hk
 .exact hs.block k (h.yl (zgR hk)).2 (λh3=>(hS k h3).2.1 (zgS (zgS (zgR hk))))
 .exact hs.block k (h.yl (zgS hk)).2 (λh3=>(hS k h3).2.1 (zgS (zgS (zgS hk))))
 have hZ:Z k:=by rw[hk];exact(h.g.keyZ.2.2 i h.x.idn).2
 exact hs.block k (h.g.zz k hZ).2.2.2.2.2.2 (λh3=>(hS k h3).2.2 hZ)
def LawE(Q:Gst)(es:List Addr)(m:Int)(i wb xb yb ra rc:Nat)(ka kd:Nat->Nat)(gp gc hp hc S T:Nat)(s:za)(sent:List zgW)(K KT:Nat)(w:World):Prop:=
 (∃cb FX RX FY RY Z sv lv tv evs tvs,LawP es m i wb xb yb ra rc cb ka kd gp gc hp hc FX RX FY RY Q Z s s sent sv lv tv K KT evs tvs w)/\YOk S T i s/\ZOk 9 s/\∀f∈sent,f.size<=1000
end
end
section
open Proofs.Tryz
theorem RefW.sign{B:Nat}{F R:Nat->Prop}{nb kb rb n i:Nat}{s:za}{sg':Nat->List zgW}{w w':World}(h:RefW B F R nb kb rb n i s w)(hp:zag R rb n sg' w w'):∃R',RefW B F R' nb kb rb n i { s with sg:=sg' } w'/\Goes F R w F R' w':=by
 obtain⟨V,hR,hc,ht⟩:=h;obtain⟨R',h1,h2⟩:=hR.sign hp;exact⟨R',⟨V,h1,hc,⟨ht.perm,ht.sort,ht.tb,ht.heap,ht.fl⟩⟩,h2⟩
def za.signed(s:za)(q:Nat)(f:zgW):za:={ s with sg:=kg s.sg q f }
theorem YOk.signed{S T i q:Nat}{s:za}{f:zgW}(h:YOk S T i s):YOk (S+1) T i (s.signed q f):=by
 have h0:=h.1;refine⟨{ h0 with sg:=?_ },⟨h.2.form,h.2.vr0,h.2.vr1,h.2.lr,h.2.pv,h.2.pa,h.2.th⟩⟩;have h1:=h0.sg;have h2:=xO (sg:=s.sg) (k:=q) (i:=i) (u:=f);show(((kg s.sg q f i).length:Nat):Int)<=((S+1:Nat):Int)+84*(s.zc1:Int)+4*(s.round:Int)+(s.step:Int)+0;omega
section
variable{es:List Addr}{m:Int}{i wb xb yb ra rc cb:Nat}{ka kd:Nat->Nat}{gp gc hp hc:Nat}{FX RX FY RY Z:Nat->Prop}{Q:Gst}{sx sy:za}{sent:List zgW}{sv lv tv:Value}{K KT:Nat}{evs tvs:List Value}{w:World}
theorem VX(h:LawP es m i wb xb yb ra rc cb ka kd gp gc hp hc FX RX FY RY Q Z sx sy sent sv lv tv K KT evs tvs w)(q:Nat)(hq:q<9)(f:zgW)(hx:(sx.sg q).length<=4000000000000)(hy:(sy.sg q).length<=4000000000000):
 Calls prog 59 #[pA wb 0,iA q,sA f] w λe w'=>e=.returned (.tuple #[])/\∃RX' RY',LawP es m i wb xb yb ra rc cb ka kd gp gc hp hc FX RX' FY RY' Q Z (sx.signed q f) (sy.signed q f) sent sv lv tv K KT evs tvs w':=by
 have c4:cE w wb 4 (.slice (some (aA gp 0)) 9 gc):=h.g.cell 4 rfl;have ck:=(h.g.key q hq).1.1;obtain⟨af,H0⟩:=ze (gU RX ra 9 (ka q) q sx.sg f w h.x.ring hq (h.g.key q hq).1.2 hx (λk hk=>(h.x.rl k hk).2)) h;have hq2:(q:Int)<9:=by omega
 have hq0:(0:Int)<=(q:Int):=by omega
 clear h;go_enter func59,ntmps59;go_wp2_with fail
 refine af.o.mono ?_;rintro e w1 ⟨rfl,aa⟩;obtain⟨RX',h1,ad⟩:=H0.o.x.zfV aa;have hL:=H0.o.zfG h1 ad;have d5:cE w1 wb 5 (.slice (some (aA hp 0)) 9 hc):=hL.g.cell 5 rfl;have dk:=(hL.g.key q hq).2.1;have ag:Hid (RingI RY rc 9 sy.sg w1/\∀k,RY k->k<w1.heap.size):=by
  refine⟨?_,λk hk=>(hL.y.bounds.1 k (zgS hk)).2⟩;obtain⟨V,hR,-⟩:=hL.y;exact hR.ring
 obtain⟨ae,HL⟩:=ze (gU RY rc 9 (kd q) q sy.sg f w1 ag.o.1 hq (hL.g.key q hq).2.2 hy ag.o.2) hL;clear h1 ad hL aa af c4 ck;go_wp2_with fail
 refine ae.o.mono ?_;rintro e w2 ⟨rfl,aa⟩;obtain⟨RY',h2,ab⟩:=HL.o.y.sign aa;have ah:=zc (HL.o.zfv h2 ab);clear h2 ab aa ae HL;go_wp2
 go_end0
 exact⟨rfl,RX',RY',ah⟩
theorem Jo(h:LawP es m i wb xb yb ra rc cb ka kd gp gc hp hc FX RX FY RY Q Z sx sy sent sv lv tv K KT evs tvs w)(q:Int)(hq:q<0\/9<=q)(f:zgW):
 Calls prog 59 #[pA wb 0,iA q,sA f] w λe w'=>e=.returned (.tuple #[])/\w'=w:=by
 have c4:cE w wb 4 (.slice (some (aA gp 0)) 9 gc):=h.g.cell 4 rfl;clear h;by_cases h0:q<0
 .have h1:¬0<=q:=by omega
  clear hq;go_enter func59,ntmps59;go_wp2
  go_end0
  exact⟨rfl,rfl⟩
 have h1:0<=q:=by omega
 have h2:¬q<9:=by omega
 clear hq h0;go_enter func59,ntmps59;go_wp2
 go_end0
 exact⟨rfl,rfl⟩
end
end
section
variable{S i:Nat}{s:za}
def SgB(S i:Nat)(s:za):Prop:=∀q,q≠i->(s.sg q).length<=S
theorem SgB.zgi{s':za}(h:SgB S i s)(ho:SgO i s s'):SgB S i s':=λq hq=>by rw[ho q hq];exact h q hq
theorem SgB.signed{q:Nat}{f:zgW}(h:SgB S i s):SgB (S+1) i (s.signed q f):=λk hk=>zgu (xO (sg:=s.sg) (k:=q) (i:=k) (u:=f)) (Nat.succ_le_succ (h k hk))
theorem SgB.le{T:Nat}(h:SgB S i s)(hy:YOk S T i s)(hS:S<=900000000000)(q:Nat):(s.sg q).length<=4000000000000:=by
 by_cases e:q=i
 .subst e;have h1:=hy.1.sg;have h2:=hy.1.hgt;have h3:=hy.1.rnd;have h4:=hy.1.stp;omega
 have:=h q e;omega
end
section
open Proofs.Tryz
section
variable{B:Nat}{F R:Nat->Prop}{nb kb rb n i:Nat}{s:za}{w:World}
theorem K2(h:RefW B F R nb kb rb n i s w)(t:yf)(ok:s.zc1<12->ROk s)(hh:s.zc1<=12)(ht:t.h<12)(hsg:(s.sg i).length<=1000000000000)(hv:s.vr<=(s.round:Int)):
 Calls prog 121 #[pA nb 0,.agg #[iA t.n,iA t.h,iA t.r,iA t.due]] w (Zc B F R nb kb rb n i (s.zdC i t) w (.tuple #[])):=by
 obtain⟨w1,aj⟩:=gen (w.alloc (.cells #[iA t.n,iA t.h,iA t.r,iA t.due] 203));have ah:BW w w1:=by rw[aj];exact bwA w
 have ak:w1.heap[w.heap.size]? =some (.cells #[iA t.n,iA t.h,iA t.r,iA t.due] 203 (0,0)):=by rw[aj];exact zgr w _
 have c42:cE w1 nb 42 (iA s.zc1):=(h.below ah).cell 42 (λ_=>rfl);have c43:cE w1 nb 43 (iA s.round):=(h.below ah).cell 43 (λ_=>rfl);have c44:cE w1 nb 44 (iA s.step):=(h.below ah).cell 44 (λ_=>rfl);have ad:Hid (∀m,BW w (w1.drewN m)):=λm=>ah.trans ((zgZ (zgq _ w1) m).mono ah.size);obtain⟨H0,aq,an,af⟩:=yi h ok hsg aj;obtain⟨s2,ab⟩:=gen (s.zdC i t);rw[<-ab];unfold za.zdC at ab;obtain⟨tn,th,tr,td,tb⟩:=t;have d0:cN w1 w 0 (iA tn):=zgs w1 _ 0 _ _ _ ak;have d1:cN w1 w 1 (iA th):=zgs w1 _ 1 _ _ _ ak;have d2:cN w1 w 2 (iA tr):=zgs w1 _ 2 _ _ _ ak;simp only at ab ht ⊢;clear h ok hsg aj ah ak;by_cases q1:s.zc1=12
 .rw [zgU (by omega)] at ab;have aa:=zc ab;have q1i:(s.zc1:Int)=12:=by omega
  clear ab;go_enter func121,ntmps121;go_wp2_with fail
  rw[<-af.o];go_quiet (fail)
  go_wp2
  go_end0
  exact⟨rfl,F,R,by rw[aa.o];exact H0.o.below (ad _),Goes.below (ad _)⟩
 have q1b:((s.zc1:Int)==12)=false:=by simp;omega
 have q1c:¬(s.zc1:Int)=12:=by omega
 have ae:=zc (aq.o (by omega));have hrn:=ae.o.rnd;by_cases q2:th=(s.zc1:Int)
 .subst q2;by_cases q3:tr=(s.round:Int)
  .subst q3;rw[zgT ⟨rfl,rfl⟩] at ab;have al:Hid (∀(kd:Nat),kd=2\/kd=3->∀m,Calls prog 176 #[pA nb 0,iA kd,sA ⟨#[]⟩,bA false] (w1.drewN m) (Zc B F R nb kb rb n i (s.zdj i kd ⟨#[]⟩ false) (w1.drewN m) (.tuple #[]))):=λkd ao m=>qj (H0.o.below (ad.o m)) kd ⟨#[]⟩ false ao ae.o.hgt (by omega) (by decide) (by have:=ae.o.log;omega) ae.o.out an.o;by_cases a1:tn=1
   .subst a1;by_cases a2:s.step=1
    .rw [zgT ⟨rfl,a2⟩] at ab;have aa:Hid (s2=s.zdj i 2 ⟨#[]⟩ false):=ab;have a2i:(s.step:Int)=1:=by omega
     clear ab a2;go_enter func121,ntmps121;go_wp2_with fail
     rw[<-af.o];go_quiet (fail)
     go_wp2_with fail
     refine(al.o 2 (by omega) _).mono ?_;rintro e w9 ⟨rfl,F9,R9,h9,ag⟩;obtain⟨H9,ai⟩:=ze h9 ((Goes.below (F:=F) (R:=R) (ad _)).trans ag);clear h9 ag;go_wp2
     go_end0
     exact⟨rfl,F9,R9,by rw[aa.o];exact H9,ai⟩
    rw[zgU (by simp[a2]),zgU (by simp),zgU (by simp)] at ab;have aa:=zc ab;have a2i:¬(s.step:Int)=1:=by omega
    have a2b:((s.step:Int)==1)=false:=by simpa using a2i
    clear ab a2;go_enter func121,ntmps121;go_wp2_with fail
    rw[<-af.o];go_quiet (fail)
    go_wp2
    go_end0
    exact⟨rfl,F,R,by rw[aa.o];exact H0.o.below (ad _),Goes.below (ad _)⟩
   by_cases a3:tn=2
   .subst a3;by_cases a2:s.step=2
    .rw [zgU (by simp),zgT ⟨rfl,a2⟩] at ab;have aa:Hid (s2=s.zdj i 3 ⟨#[]⟩ false):=ab;have a2i:(s.step:Int)=2:=by omega
     clear ab a2;go_enter func121,ntmps121;go_wp2_with fail
     rw[<-af.o];go_quiet (fail)
     go_wp2_with fail
     refine(al.o 3 (by omega) _).mono ?_;rintro e w9 ⟨rfl,F9,R9,h9,ag⟩;obtain⟨H9,ai⟩:=ze h9 ((Goes.below (F:=F) (R:=R) (ad _)).trans ag);clear h9 ag;go_wp2
     go_end0
     exact⟨rfl,F9,R9,by rw[aa.o];exact H9,ai⟩
    rw[zgU (by simp),zgU (by simp[a2]),zgU (by simp)] at ab;have aa:=zc ab;have a2i:¬(s.step:Int)=2:=by omega
    have a2b:((s.step:Int)==2)=false:=by simpa using a2i
    clear ab a2;go_enter func121,ntmps121;go_wp2_with fail
    rw[<-af.o];go_quiet (fail)
    go_wp2
    go_end0
    exact⟨rfl,F,R,by rw[aa.o];exact H0.o.below (ad _),Goes.below (ad _)⟩
   have a1b:(tn==1)=false:=by simpa using a1
   have a3b:(tn==2)=false:=by simpa using a3
   by_cases a4:tn=3
   .subst a4;by_cases a5:s.round<20
    .rw [zgU (by simp),zgU (by simp),zgT ⟨rfl,a5⟩] at ab;have aa:=zc ab;have a5i:(s.round:Int)<20:=by omega
     have ar:Hid (∀m,Calls prog 117 #[pA nb 0,iA ((s.round:Int)+1)] (w1.drewN m) (Zc B F R nb kb rb n i (s.zc9 i (s.round+1)) (w1.drewN m) (.tuple #[]))):=λm=>by
      have h:=jH (H0.o.below (ad.o m)) ae.o an.o (s.round+1) (by omega) (by omega);rw[show((s.round+1:Nat):Int)=(s.round:Int)+1 by omega] at h;exact h
     clear ab a5;go_enter func121,ntmps121;go_wp2_with fail
     rw[<-af.o];go_quiet (fail)
     go_wp2_with fail
     refine(ar _).mono ?_;rintro e w9 ⟨rfl,F9,R9,h9,ag⟩;obtain⟨H9,ai⟩:=ze h9 ((Goes.below (F:=F) (R:=R) (ad _)).trans ag);clear h9 ag;go_wp2
     go_end0
     exact⟨rfl,F9,R9,by rw[aa.o];exact H9,ai⟩
    rw[zgU (by simp),zgU (by simp),zgU (by simp[a5])] at ab;have aa:=zc ab;have a5i:¬(s.round:Int)<20:=by omega
    clear ab a5;go_enter func121,ntmps121;go_wp2_with fail
    rw[<-af.o];go_quiet (fail)
    go_wp2
    go_end0
    exact⟨rfl,F,R,by rw[aa.o];exact H0.o.below (ad _),Goes.below (ad _)⟩
   have a4b:(tn==3)=false:=by simpa using a4
   rw[zgU (by simp[a1]),zgU (by simp[a3]),zgU (by simp[a4])] at ab;have aa:=zc ab;clear ab;go_enter func121,ntmps121;go_wp2_with fail
   rw[<-af.o];go_quiet (fail)
   go_wp2
   go_end0
   exact⟨rfl,F,R,by rw[aa.o];exact H0.o.below (ad _),Goes.below (ad _)⟩
  rw[zgU (by simp[q3])] at ab;have aa:=zc ab;have q3b:(tr==(s.round:Int))=false:=by simpa using q3
  have q3c:(tr != (s.round:Int))=true:=by simpa using q3
  clear ab;go_enter func121,ntmps121;go_wp2_with fail
  rw[<-af.o];go_quiet (fail)
  go_wp2
  go_end0
  exact⟨rfl,F,R,by rw[aa.o];exact H0.o.below (ad _),Goes.below (ad _)⟩
 rw[zgU (by simp[q2])] at ab;have aa:=zc ab;have q2b:(th==(s.zc1:Int))=false:=by simpa using q2
 have q2c:(th != (s.zc1:Int))=true:=by simpa using q2
 clear ab;go_enter func121,ntmps121;go_wp2_with fail
 rw[<-af.o];go_quiet (fail)
 go_wp2
 go_end0
 exact⟨rfl,F,R,by rw[aa.o];exact H0.o.below (ad _),Goes.below (ad _)⟩
end
theorem Vs{l:List yf}{k:Nat}(hk:k<l.length):l[k]? =some (tg l k):=by
 unfold tg;rw[zgz,zgy hk];rfl
theorem zce{l:List yf}{k:Nat}(hk:k<l.length):tg l k∈l:=List.mem_of_getElem? (Vs hk)
theorem Gt{V:xa}{s:za}(h:jY V s){m:Nat}(hm:m<V.ts.length)(hmin:∀k,k<V.ts.length->(tg V.ts m).due<=(tg V.ts k).due)(hfst:∀k,k<m->(tg V.ts m).due<(tg V.ts k).due):∃l,s.tims=tg V.ts m::l:=by
 cases ht:s.tims with
 |nil=>
  have h1:=h.perm.length_eq;rw[ht] at h1;simp only[List.length_nil] at h1;omega
 |cons r l=>
  have hr:r∈V.ts:=h.perm.mem_iff.2 (by rw[ht];exact zgL ..);obtain⟨k,hk,ab⟩:=List.getElem_of_mem hr;have aa:tg V.ts k=r:=by have:=Vs hk;rw[zgy hk,ab] at this;exact(zg6 this).symm
  obtain⟨q,hq,ad⟩:=List.getElem_of_mem (h.perm.mem_iff.1 (zce hm));have h2:=h.heap.root q hq;have ae:tg s.tims q=tg V.ts m:=by have:=Vs hq;rw[zgy hq,ad] at this;exact(zg6 this).symm
  have h0:tg s.tims 0=r:=by rw[ht];rfl
  rw[ae,h0,yj] at h2;have h3:=hmin k hk;rw[aa] at h3;have af:k=m:=by
   rcases Nat.lt_trichotomy k m with h4|h4|h4
   .have h5:=hfst k h4;rw[aa] at h5;omega
   .exact h4
   have h5:=List.pairwise_iff_getElem.1 h.sort m k hm hk h4;have e1:V.ts[m]=tg V.ts m:=by have:=Vs hm;rw[zgy hm] at this;exact zg6 this
   rw[e1,ab] at h5;omega
  refine⟨l,?_⟩;rw[<-af,aa]
theorem G1{i f:Nat}{V:xa}{s:za}(h:jY V s)(hn:∀k,k<V.ts.length->(s.time:Int)<(tg V.ts k).due):za.zdD i (f+1) s=s:=by
 rw[za.zdD];split
 .rfl
 rename_i t l hl;rw[zgU ?_];obtain⟨k,hk,aa⟩:=List.getElem_of_mem (h.perm.mem_iff.2 (by rw[hl];exact zgL ..):t∈V.ts);have h1:=hn k hk;have:tg V.ts k=t:=by have:=Vs hk;rw[zgy hk,aa] at this;exact(zg6 this).symm
 rw[this] at h1;omega
theorem jY.pop{V:xa}{s:za}(h:jY V s){m:Nat}(hm:m<V.ts.length){l:List yf}(ht:s.tims=tg V.ts m::l)(v:Value):jY { V with tm:=v,ts:=V.ts.take m++V.ts.drop (m+1) } s.zdW:=by
 have e0:V.ts=V.ts.take m++tg V.ts m::V.ts.drop (m+1):=by
  conv=>lhs;rw[<-List.take_append_drop m V.ts,List.drop_eq_getElem_cons hm]
  have e1:V.ts[m]=tg V.ts m:=by have:=Vs hm;rw[zgy hm] at this;exact zg6 this
  rw[e1]
 have aa:(V.ts.take m++V.ts.drop (m+1)).Sublist V.ts:=by
  conv=>rhs;rw[e0]
  exact List.Sublist.append_left (List.sublist_cons_self _ _) _
 refine⟨?_,h.sort.sublist aa,λt ht=>h.tb t (aa.subset ht),h.heap.rest,h.fl⟩;show(V.ts.take m++V.ts.drop (m+1)).Perm (xo s.tims);rw[ht];refine List.Perm.trans ?_ (qS _ l).symm;have h1:=h.perm;rw[ht] at h1;have h2:=(List.Perm.of_eq e0.symm).trans h1;exact(List.perm_middle.symm.trans h2).cons_inv
section
variable{P:Program}{B:Nat}{F R:Nat->Prop}{nb kb rb n i:Nat}{C:Array Value}{rs:List ky}{sg:Nat->List zgW}{w:World}
def ky.zff(r:ky)(v:Value)(m:Nat)(news:List Value):ky:=⟨r.t,r.z,v,r.n+m,r.xs++news⟩
theorem vG{ops:Array Oper}{rest:List Oper}{o:Oper}{a:Act}{Q:Exit->Act->World->Prop}(hgd:o.guard=none)(x y:Operand)(t:TypeId)(ho:o.op=.call { callee:=.builtin .append,args:=#[x,y],argTypes:=#[t,t] })
 (h:RawW B F R nb kb rb n i C rs sg w) (k:Nat) (r:ky) (hk:rs[k]? =some r) (inf:TypeInfo) (z:Value) (bytes:Nat) (ht:P.underlying t=some (.slice r.t)) (hi:P.info? r.t=some inf) (hz:inf.zero=some z) (hsize:inf.size=r.z) (hby:inf.bytes=bytes) (hzs:z.cells.size=r.z) (hsz:0<r.z)
 (hs:a.eval x=r.v) (ad:Addr) (m c:Nat) (news:List Value) (hx:a.eval y=.slice (some ad) m c) (hl:news.length=m*r.z) (hnews:∀j u,news[j]? =some u->w.cell? (ad.add j)=some u) (h1:∀u∈news,u.oneCell'=true) (hn:r.n+m<=100000000) (hb:bytes<=1000)
 (hk':∀v' w' F' p c',v'=.slice p (r.n+m) c'->RawW B F' R nb kb rb n i C (rs.set k (r.zff v' m news)) sg w'->Goes F R w F' R w'->wpList P ops Q rest (a.put o.dst v') w'):wpList P ops Q (o::rest) a w:=by
 refine wpList_append_own_at w hgd x y t ho 0 r.t inf z r.z bytes ht hi hz hsize hby hzs hsz r.v r.n r.xs hs (h.own k r hk) ad m c news hx hl hnews h1 (by unfold maxLen;omega) ?_ (zgv _) ?_
 .calc (r.n+m)*bytes<=100000000*1000:=Nat.mul_le_mul hn hb
   _<=_:=by decide
 intro v' w' h2 hg _ aa;obtain⟨F',h6,h7⟩:=h.row (r':=r.zff v' m news) hk rfl h2 (λg e=>by
  rcases aa with h1|h1
  .exact zgR (h1.symm.trans e)
  refine zgS ?_;have e2:v'.ownBlock=some g:=e;rw[h1] at e2;cases e2;exact zgp _) { hg with block:=λg h1 h2=>hg.block g h1 (λe=>h2 e.symm) }
 obtain⟨p,c',hv⟩:=zl h2;exact hk' v' w' F' p c' hv h6 h7
end
theorem XJ(s:za):xk s.zdn=List.replicate 12 (bA false):=by
 unfold xk;rw[List.eq_replicate_iff];refine⟨by simp,λb hb=>?_⟩;obtain⟨j,_,rfl⟩:=List.mem_map.1 hb
 congr 1
 show((s.dec.map _).getD j yz).told=false;rw[zgz,List.getElem?_map];cases s.dec[j]? <;>rfl
theorem Zg(s:za):s.zdn.zc1=s.zc1:=by
 show(s.dec.map _).length=s.dec.length;simp
theorem XK(V:xa)(s:za):refRows V s.zdn=refRows V s:=by
 unfold refRows;rw[show s.zdn.dec=s.dec.map λd=>{ d with told:=false } from rfl,List.map_map,List.map_map,List.zipWith_map_right];rfl
theorem zcd(kb:Nat)(V:xa)(s:za)(D:Array Value)(hD:D.toList=List.replicate 12 (bA false)):(((refA kb V s).setIfInBounds 52 (iA ((s.time:Int)+1))).toList.take 55++D.toList++((refA kb V s).setIfInBounds 52 (iA ((s.time:Int)+1))).toList.drop (55+D.size)).toArray=refA kb V s.zdn:=by
 have hs:D.size=12:=by rw[<-Array.length_toList,hD];rfl
 rw[hD,hs];unfold refA zbv;rw[XJ,Zg];rfl
theorem RawW.tims{B:Nat}{F R:Nat->Prop}{nb kb rb n i:Nat}{C:Array Value}{rs:List ky}{sg:Nat->List zgW}{w:World}(h:RawW B F R nb kb rb n i C rs sg w){v:Value}{l:List yf}(hk:rs[7]? =some ⟨203,4,v,l.length,yB l⟩):∃p c,v=.slice p l.length c/\∀k,k<l.length->∃b o,p=some (aA b o)/\b<w.heap.size/\w.rangeAt b (o+k*4) (zbs (tg l k)):=by
 obtain⟨p,c,e,-,hr⟩:=jg zbs 4 (λ_=>rfl) kt (h.own 7 _ hk);exact⟨p,c,e,hr⟩
theorem XI(l:List yf)(k j:Nat)(hk:k<l.length)(hj:j<4):(yB l)[k*4+j]? =(zbs (tg l k))[j]? :=Vh zbs 4 (λ_=>rfl) kt l j hj k hk
theorem jB(l:List yf):(yB l).length=l.length*4:=by
 unfold yB;induction l with
 |nil=>rfl
 |cons a l ih=>rw[List.flatMap_cons,zgE,ih,List.length_cons];show 4+_=_;omega
theorem JL(l:List yf):∀u∈yB l,u.oneCell'=true:=λu hu=>by
 obtain⟨t,_,h⟩:=List.mem_flatMap.1 hu;simp only[zbs,List.mem_cons,List.not_mem_nil,or_false] at h;rcases h with rfl|rfl|rfl|rfl<;>rfl
theorem RawW.zfb{B:Nat}{F R:Nat->Prop}{nb kb rb n i:Nat}{C:Array Value}{rs:List ky}{sg:Nat->List zgW}{w:World}(h:RawW B F R nb kb rb n i C rs sg w){lb lo c:Nat}{l:List yf}(hk:rs[7]? =some ⟨203,4,.slice (some (aA lb lo)) l.length c,l.length,yB l⟩){k:Nat}{u:Value}(hu:(yB l)[k]? =some u):w.cell? (aA lb (lo+k))=some u:=by
 have aa:=(List.getElem?_eq_some_iff.1 hu).1;rw[jB] at aa;obtain⟨p,c',e,hr⟩:=h.tims hk;cases e;obtain⟨b,o,e,-,hg⟩:=hr (k / 4) (by omega);cases e;have h1:=XI l (k / 4) (k % 4) (by omega) (by omega);rw[show k / 4*4+k % 4=k by omega] at h1;rw[h1] at hu;have h2:=hg (k % 4) u hu;rw[show lo+k / 4*4+k % 4=lo+k by omega] at h2;exact h2
theorem Tryz.zfi:(prog.info? 66).map (·.size)=some 12:=by kernel_rfl
theorem Tryz.zen:(prog.info? 203).map (·.size)=some 4:=by kernel_rfl
theorem zbP{w:World}{base e z n c:Nat}{p:Option Addr}{xs:List Value}(h:w.ownsRow base e z (.slice p n c) n xs):n<=c:=by
 rcases h.2 with⟨e,hn⟩|⟨g,cap,cur,e,hb,hg,aa,-⟩
 .cases e;omega
 cases e;exact aa
theorem KR(p:Option Addr)(n c r:Nat)(hr:r<=c)(W:World):(Instr.sliceAt 65 (.slice p n c) none (some (iA r)) none).run prog W=.ok (.slice p r c) W:=by
 have h2:=zaf p;simp[Instr.sliceAt,Instr.slice,Instr.sliceBounds,Instr.sliceBound,asIntOf,run_underlying underlying65,Tryz.sizeOf203,hr,h2]
theorem KS(p:Option Addr)(n c r:Nat)(hr:r<=n)(W:World):(Instr.sliceAt 65 (.slice p n c) (some (iA r)) none none).run prog W=.ok (.slice (if c=r then p else p.map (λa=>a.add (r*4))) (n-r) (c-r)) W:=by
 simp[Instr.sliceAt,Instr.slice,Instr.sliceBounds,Instr.sliceBound,asIntOf,run_underlying underlying65,Tryz.sizeOf203,hr]
theorem QX(p:Option Addr)(n c r:Nat)(hr:r+1<=n)(W:World):(Instr.sliceAt 65 (.slice p n c) (some (iA ((r:Int)+1))) none none).run prog W=.ok (.slice (if c=r+1 then p else p.map (λa=>a.add ((r+1)*4))) (n-(r+1)) (c-(r+1))) W:=by
 have h:=KS p n c (r+1) hr W;rw[show((r+1:Nat):Int)=(r:Int)+1 by omega] at h;exact h
section
variable{B:Nat}{F R:Nat->Prop}{nb kb rb n i:Nat}{w:World}
theorem Q7{S T:Nat}{s:za}(h:RefW B F R nb kb rb n i s w)(hy:YOk S T i s)(hT:T+1<=1000000000000)(hS:S<=900000000000):
 Calls prog 61 #[.pointer (some (aA nb 0))] w (Zc B F R nb kb rb n i (s.zdH i) w (.tuple #[])):=by
 obtain⟨iW,bV,bR,aD,aC⟩:=info_parts Tryz.zeU;obtain⟨V,hR,aJ,ay⟩:=h;have ht0:s.time<=1000000000000:=zgu hy.1.time (by omega);have c52:cE w nb 52 (iA s.time):=hR.cell 52 rfl;have f52:=hR.frozen 52;obtain⟨bC,bH⟩:=hR.set 52 (iA ((s.time:Int)+1));obtain⟨w1,bn⟩:=gen (w.setCell (aA nb 52) (iA ((s.time:Int)+1)));rw[<-bn] at bC bH;obtain⟨cO,bN,cv,bb,ak⟩:=kY bn bC bH aJ ay;have cg:Hid (YOk S (T+1) i s.zdn):=hy.zdn;have aQ:Hid (za.zdD i (s.tims.length+1) s.zdn=za.zdD i (s.tims.length+1) s.zdn):=rfl;have cy:Hid (s.zdn.zei<s.tims.length+1):=by
  unfold Hid za.zei;exact Nat.lt_succ_of_le List.countP_le_length
 clear hR bC bH bn aJ ay hy aQ;obtain⟨tgt,an⟩:=gen (za.zdD i (s.tims.length+1) s.zdn);have aP:=zc an;have ba:Hid (s.zdH i=tgt.again):=by unfold Hid za.zdH;rw[an]
 clear an;go_enter func61,ntmps61
 go_upto_region 1 with fail
 rw[<-cO.o];clear c52 f52
 go_upto_region 2 with(first|(refine qO rfl 66 _ _ rfl nb 55 #[bA false,bA false,bA false,bA false,bA false,bA false,bA false,bA false,bA false,bA false,bA false,bA false] rfl rfl 68 _ bN.o.blk (by show 67<=_;simp[refA,zbv,yd,xk]) (by simp[Value.oneCell']) Tryz.zfi ?_;intro w2 br bT)|fail)
 obtain⟨aB,aL⟩:=bN.o.store (by rw[zcd kb V s #[bA false,bA false,bA false,bA false,bA false,bA false,bA false,bA false,bA false,bA false,bA false,bA false] rfl] at br;exact br) bT;have cn:Hid (RefW B F R nb kb rb n i s.zdn w2):=⟨V,by rw[XK];exact aB,by rw[bb.o];show s.dec.length=(s.dec.map _).length;simp,{ ak.o with fl:=λhh=>ak.o.fl (by rw[Zg] at hh;exact hh) }⟩;have cq:=zc (cv.o.trans aL);clear br bT aB aL bN cv ak bb;go_wp2
 go_loopg [2,3,4,5] (s.tims.length+1) (λq _ _ _ _ wr=>∃(s':za) (F' R':Nat->Prop),RefW B F' R' nb kb rb n i s' wr/\Goes F R w F' R' wr/\YOk S (T+1) i s'/\s'.zei<q/\tgt=za.zdD i q s')
 case atStart=>exact⟨s.zdn,F,R,cn,cq,cg,cy,aP⟩
 clear cn cq cg cy aP;obtain⟨s1,F1,R1,bY,bZ,ax,aH,aE⟩:=hrel;have H1:=zc bY;obtain⟨V,hR,aJ,ay⟩:=bY;obtain⟨pt,tc,bp,hit⟩:=hR.tims (v:=V.tm) (l:=V.ts) rfl;have c53:wr.cell? (aA nb 53)=some (.slice pt V.ts.length tc):=by rw[<-bp];exact hR.cell 53 rfl
 have c52:cE wr nb 52 (iA s1.time):=hR.cell 52 rfl;have htl:V.ts.length<=10000:=by
  have h1:=ax.1.tims;have h2:=ax.1.tb;have h3:=ax.1.hgt;have h4:=ax.1.rnd;have h5:=xD s1;rw[ay.perm.length_eq];omega
 obtain⟨HR,bb,ak,aV,av,bj,HY,bQ⟩:=vF hR aJ ay hit bp bZ ax aH;have aQ:=zc aE;clear hR aJ ay hit bp bZ ax aH aE;obtain⟨w3,cB⟩:=gen wr;subst cB;go_wp2;go_loopw [2,3] (λnvv iv wr=>∃(j:Nat) (nv:Int),j<=V.ts.length/\iv=iA j/\nvv=iA nv/\((nv= -1/\∀k,k<j->(s1.time:Int)<(tg V.ts k).due)\/(∃m:Nat,nv=(m:Int)/\m<j/\(tg V.ts m).due<=(s1.time:Int)/\(∀k,k<j->(tg V.ts m).due<=(tg V.ts k).due)/\∀k,k<m->(tg V.ts m).due<(tg V.ts k).due))/\BW w3 wr) (λ_ iv _=>V.ts.length-(intOf iv).toNat)
 case atStart=>exact⟨0,-1,zgv _,rfl,rfl,zgR ⟨rfl,λk hk=>(by omega)⟩,zgq _ _⟩
 obtain⟨j,nv,hj,rfl,rfl,bd,hb⟩:=hrel;have ae:=zc hb;have e53:cE wr nb 53 (.slice pt V.ts.length tc):=(hb.cell (p:=(aA nb 53)) (by exact HR.o.lt)).trans c53;have e52:cE wr nb 52 (iA s1.time):=(hb.cell (p:=(aA nb 52)) (by exact HR.o.lt)).trans c52;clear hb c53 c52;have c53:=e53;have c52:=e52;clear e53 e52;by_cases ag:j=V.ts.length
 .have cJ:¬(j:Int)<V.ts.length:=by omega
  subst ag;rcases bd with⟨rfl,aj⟩|⟨m,rfl,hm,hd,aa,ab⟩
  .have cj:Hid (tgt=s1):=by
    unfold Hid;have h1:=aQ.o;have h2:=bQ.o;cases gk with
    |zero=>omega
    |succ f=>rw[h1];exact G1 ak aj
   obtain⟨cp,cr⟩:=ze (H1.o.below ae) (bj.o.trans (Goes.below ae));clear aj aQ bQ H1 bj HR ak aV av bb ae;obtain⟨w5,bm⟩:=gen wr;subst bm;have e2:=cj.o;have cQ:Hid (s1=tgt):=e2.symm;clear e2 cj;have cD:=cQ.o;subst cD;by_cases h5:s1.time % 5=0
   .have bI:(s1.time:Int) % 5=0:=by omega
    have cc:Int.tmod (s1.time:Int) 5=0:=by rw[Int.tmod_eq_emod_of_nonneg (by omega)];exact bI
    have bl:Hid (s.zdH i={ s1 with out:=Yp s1.out (kn s1) }):=by unfold Hid;rw[ba.o];unfold za.again;rw[zgT h5];rfl
    have cH:(kn s1).length<=10000:=by
     have h1:=(HY.o.1.lens (by omega)).1;have h2:=qh (λe=>e.own) s1.log;show(zF (λe=>e.own) s1.log).length<=_;omega
    obtain⟨ML,bD⟩:=gen (kn s1);have cS:=zc bD;rw[<-bD] at bl cH;have HO:Hid (s1.out.length<=100):=HY.o.1.out;clear bD h5;go_wp2;go_loopw [6] (λiv wr=>∃(j:Nat) (F' R':Nat->Prop),j<=ML.length/\iv=iA j/\RefW B F' R' nb kb rb n i { s1 with out:=Yp s1.out (ML.take j) } wr/\Goes F R w F' R' wr) (λiv _=>ML.length-(intOf iv).toNat)
    case atStart=>exact⟨0,F1,R1,zgv _,rfl,cp,cr⟩
    obtain⟨j,F2,R2,hj,rfl,h2,aL⟩:=hrel;obtain⟨H2,bO⟩:=ze h2 aL;obtain⟨V2,aB,-⟩:=h2;obtain⟨mp,mc,bs,-,ao⟩:=zL (aB.own 5 (strR V2.mn (kn s1)) rfl);rw[<-cS.o] at bs ao;have d40:wr.cell? (aA nb 40)=some (.slice mp ML.length mc):=by rw[<-bs];exact aB.cell 40 rfl
    have cT:=zc ao;clear aB aL bs ao c53 c52;by_cases ag:j=ML.length
    .have cJ:¬(j:Int)<ML.length:=by omega
     have HX:Hid (RefW B F2 R2 nb kb rb n i (s.zdH i) wr):=by unfold Hid;rw[bl.o];have h:=H2.o;rw[ag,zg7] at h;exact h
     clear ag H2;go_wp2
     go_end0
     exact⟨rfl,F2,R2,HX,bO⟩
    have ah:j<ML.length:=by omega
    have bt:(j:Int)<ML.length:=by omega
    obtain⟨lb,lo,aG,-,bW⟩:=cT.o j ah;subst aG;have ck:Hid (Yp s1.out (ML.take (j+1))=Zr (Yp s1.out (ML.take j)) (ML.getD j zgV)):=by
     unfold Hid Yp;rw[zy ML zgV j ah,List.foldl_append];rfl
    obtain⟨fr,bu⟩:=gen (ML.getD j zgV);have cK:wr.cell? (aA lb (lo+j))=some (sA fr):=by rw[bu];exact bW
    rw[<-bu] at ck;clear bu bW ag;have aT:Hid (∀m,Calls prog 122 #[.pointer (some (aA nb 0)),sA fr] (wr.drewN m) (Zc B F2 R2 nb kb rb n i { s1 with out:=Zr (Yp s1.out (ML.take j)) fr } (wr.drewN m) (.tuple #[]))):=λm=>vk (H2.o.below (zgZ (zgq _ wr) m)) fr (by have:=Kc (ML.take j) s1.out HO.o;exact zgu this (by omega));clear H2;go_wp2_with fail
    refine(aT 0).mono ?_;rintro e w6 ⟨rfl,F6,R6,h6,b9⟩;obtain⟨H6,cU⟩:=ze h6 (bO.o.trans b9);clear h6 b9 aT bO;go_wp2;go_roundw
    case rel=>exact⟨j+1,F6,R6,ah,by go_num,by rw[ck.o];exact H6,cU⟩
    simp[intOf];omega
   have bI:¬(s1.time:Int) % 5=0:=by omega
   have cc:¬Int.tmod (s1.time:Int) 5=0:=by rw[Int.tmod_eq_emod_of_nonneg (by omega)];exact bI
   have h5b:(Int.tmod (s1.time:Int) 5==0)=false:=by simpa using cc
   have bl:Hid (s.zdH i=s1):=by unfold Hid;rw[ba.o];unfold za.again;rw[zgU h5]
   clear h5;go_wp2
   go_end0
   exact⟨rfl,F1,R1,by rw[bl.o];exact cp,cr⟩
  have cI:¬(m:Int)<0:=by omega
  have hm2:(m:Int)<V.ts.length:=by omega
  obtain⟨l,hl⟩:=Gt ak hm aa ab;have aU:=zc (λv=>ak.o.pop hm hl v);have bq:=HY.o.2.th (tg V.ts m) (by rw[hl];exact zgL ..);have aw:Hid (∃f,gk=f+1/\((s1.zdW.zdC i (tg V.ts m)).zdv i).zei<f/\tgt=za.zdD i f ((s1.zdW.zdC i (tg V.ts m)).zdv i)):=by
   have h1:=aQ.o;have h2:=bQ.o;have h3:=Vk (i:=i) hl hd;cases gk with
   |zero=>omega
   |succ f=>
    refine⟨f,rfl,by omega,?_⟩;rw[h1,za.zdD,hl];show(if(tg V.ts m).due<=(s1.time:Int) then _ else _)=_;rw[zgT hd]
  obtain⟨bJ,bg⟩:=ze (HY.o.pop.exp bq) HY.o.pop;obtain⟨lb,lo,aG,bw,az⟩:=aV.o m hm;subst aG;obtain⟨⟨n0,h0,r0,d0,b0⟩,bo⟩:∃z,z=tg V.ts m:=⟨_,rfl⟩;rw[<-bo] at aw bJ bq az;have HTV:=zc bo;clear aa ab hd bo hl;have cm:Hid (wr.rangeAt lb (lo+m*4) [iA n0,iA h0,iA r0,iA d0]):=λk x hx=>(ae.o.cell (p:=(aA lb (lo+m*4+k))) (by exact bw)).trans (az k x hx);clear az;obtain⟨w5,bm⟩:=gen wr;subst bm
  go_upto_region 11 with(first|(refine zgX rfl 203 _ rfl lb (lo+m*4) rfl [iA n0,iA h0,iA r0,iA d0] _ cm.o underlying203 rfl Tryz.zen ?_)|(refine zf rfl 203 _ _ rfl w5 #[iA n0,iA h0,iA r0,iA d0] rfl rfl 203 _ rfl (by simp[Value.oneCell']) Tryz.zen ?_;intro w6 bc bX cA)|fail)
  have ar:BW w5 w6:=bX;have HQ6:=zc bc;obtain⟨F7,bB,bG⟩:=((HR.o.below ae).below ar).nil (t:=203) (z:=4) (by decide);obtain⟨bh,cu⟩:=ze bB (bj.o.trans ((Goes.below (ae.o.trans (ar.mono ae.o.size))).trans bG));have cz:Hid (∀(F' R':Nat->Prop) (X:World),Goes F1 R1 w6 F' R' X->cL X w5.heap.size #[iA n0,iA h0,iA r0,iA d0] 203):=λF' R' X hG=>(hG.same.block _ (zj bc) (by
   have hz:=ae.o.size;rintro(hf|hf)
   .have:=(HR.o.fl _ hf).2;omega
   have:=(HR.o.rl _ hf).2;omega)).trans bc
  have aX:=zc bG;have c53b:w6.cell? (aA nb 53)=some (.slice (some (aA lb lo)) V.ts.length tc):=by rw[<-av.o];exact bB.cell 53 rfl
  have bL:Hid ((refRows V s1++[⟨203,4,Value.slice none 0 0,0,[]⟩])[7]? =some ⟨203,4,.slice (some (aA lb lo)) V.ts.length tc,V.ts.length,yB V.ts⟩):=by unfold Hid;rw[<-av.o];rfl
  clear bX cA bc ar bB bG c53 c52 HR bj ae aV cm;have htc:V.ts.length<=tc:=by
   have h9:=bh.o.own 7 _ bL;exact zbP h9
  go_wp2_with (first|(refine jt rfl 65 _ none _ none rfl (.slice (some (aA lb lo)) V.ts.length tc) (.slice (some (aA lb lo)) m tc) none (some (iA m)) none rfl rfl rfl rfl (KR _ _ _ _ (by omega) _) ?_)|(at_builtin;refine vG (C:=refA kb V s1) (rs:=refRows V s1++[⟨203,4,Value.slice none 0 0,0,[]⟩]) rfl _ _ 65 rfl bh.o (refRows V s1).length ⟨203,4,Value.slice none 0 0,0,[]⟩ ?a1 iW (.agg #[iA 0,iA 0,iA 0,iA 0]) 32 underlying65 bV bR aD aC rfl (Nat.zero_lt_succ _) ?a2 (aA lb lo) m ?a3 (yB (V.ts.take m)) ?a4 ?a5 ?a6 ?a7 ?a8 (by decide) ?_)|fail)
  try (case a1=>rw[zgC (zgp _),Nat.sub_self];rfl)
  try (case a2=>rfl)
  try (case a4=>rfl)
  case a5=>rw[jB,List.length_take];show min m V.ts.length*4=m*4;rw[Nat.min_eq_left (by omega)]
  case a6=>
   intro j u hu;refine bh.o.zfb bL (k:=j) ?_;have e:yB V.ts=yB (V.ts.take m)++yB (V.ts.drop m):=by unfold yB;rw[<-List.flatMap_append,List.take_append_drop]
   rw[e,zgD (List.getElem?_eq_some_iff.1 hu).1];exact hu
  case a7=>exact JL _
  case a8=>first|omega|(show m<=_;omega)
  intro v8 w8 F8 p8 c8 bS bz bF
  try rw[zg0] at bS
  subst bS;have bM:Hid (RawW B F8 R1 nb kb rb n i (refA kb V s1) (refRows V s1++[⟨203,4,.slice p8 m c8,m,yB (V.ts.take m)⟩]) s1.sg w8):=by
   have h:=bz
   try rw[List.set_append_right _ _ (zgp _),Nat.sub_self] at h
   have e:ky.zff ⟨203,4,Value.slice none 0 0,0,[]⟩ (Value.slice p8 m c8) m (yB (V.ts.take m))=⟨203,4,Value.slice p8 m c8,m,yB (V.ts.take m)⟩:=by simp[ky.zff]
   first|(rw[e] at h;exact h)|exact h
  obtain⟨ct,aW⟩:=ze (aX.o.trans bF) (cu.o.trans bF);have c53c:w8.cell? (aA nb 53)=some (.slice (some (aA lb lo)) V.ts.length tc):=by rw[<-av.o];exact bz.cell 53 rfl
  have ch:Hid ((refRows V s1++[⟨203,4,Value.slice p8 m c8,m,yB (V.ts.take m)⟩])[7]? =some ⟨203,4,.slice (some (aA lb lo)) V.ts.length tc,V.ts.length,yB V.ts⟩):=by unfold Hid;rw[<-av.o];rfl
  clear bz bF bh cu aX bL c53b;have hm1:(m:Int)+1<=V.ts.length:=by omega
  obtain⟨ad,bx⟩:∃z:Addr,z=if tc=m+1 then((aA lb lo):Addr) else (aA lb (lo+(m+1)*4)):=⟨_,rfl⟩
  have cV:=zc bx;have cR:Hid (∀W,(Instr.sliceAt 65 (.slice (some (aA lb lo)) V.ts.length tc) (some (iA ((m:Int)+1))) none none).run prog W=.ok (.slice (some ad) (V.ts.length-(m+1)) (tc-(m+1))) W):=λW=>by
   rw[QX (some (aA lb lo)) V.ts.length tc m (by omega) W,bx];split<;>rfl
  clear bx;go_wp2_with (first|(refine jt rfl 65 _ _ none none rfl (.slice (some (aA lb lo)) V.ts.length tc) (.slice (some ad) (V.ts.length-(m+1)) (tc-(m+1))) (some (iA ((m:Int)+1))) none none rfl rfl rfl rfl (cR _) ?_)|(at_builtin;refine vG (C:=refA kb V s1) (rs:=refRows V s1++[⟨203,4,Value.slice p8 m c8,m,yB (V.ts.take m)⟩]) rfl _ _ 65 rfl bM.o (refRows V s1).length ⟨203,4,Value.slice p8 m c8,m,yB (V.ts.take m)⟩ ?b1 iW (.agg #[iA 0,iA 0,iA 0,iA 0]) 32 underlying65 bV bR aD aC rfl (Nat.zero_lt_succ _) ?b2 ad (V.ts.length-(m+1)) ?b3 (yB (V.ts.drop (m+1))) ?b4 ?b5 ?b6 ?b7 ?b8 (by decide) ?_)|fail)
  try (case b1=>rw[zgC (zgp _),Nat.sub_self];rfl)
  try (case b2=>rfl)
  try (case b4=>rfl)
  case b5=>rw[jB,List.length_drop]
  case b6=>
   intro j u hu;have h9:=bM.o.zfb ch (k:=(m+1)*4+j) (u:=u) (by
    have e:yB V.ts=yB (V.ts.take (m+1))++yB (V.ts.drop (m+1)):=by unfold yB;rw[<-List.flatMap_append,List.take_append_drop]
    have el:(yB (V.ts.take (m+1))).length=(m+1)*4:=by rw[jB,List.length_take,Nat.min_eq_left (by omega)]
    rw[e,zgC (by rw[el];omega),el,Nat.add_sub_cancel_left];exact hu)
   rw[cV.o,zgU ?_,addr_add,Nat.add_assoc]
   .exact h9
   intro e;have h8:=(List.getElem?_eq_some_iff.1 hu).1;rw[jB,List.length_drop] at h8;omega
  case b7=>exact JL _
  case b8=>first|omega|(show m+(V.ts.length-(m+1))<=_;omega)
  intro v9 w9 F9 p9 c9 cC bf bE;subst cC;have c53d:w9.cell? (aA nb 53)=some (.slice (some (aA lb lo)) V.ts.length tc):=by rw[<-av.o];exact bf.cell 53 rfl
  have f53:=bf.frozen 53;obtain⟨nl,hnl⟩:=gen (m+(V.ts.length-(m+1)));have aK:RawW B F9 R1 nb kb rb n i (refA kb V s1) (refRows V s1++[⟨203,4,.slice p9 (m+(V.ts.length-(m+1))) c9,(V.ts.take m++V.ts.drop (m+1)).length,yB (V.ts.take m++V.ts.drop (m+1))⟩]) s1.sg w9:=by
   have h:=bf
   try rw[List.set_append_right _ _ (zgp _),Nat.sub_self] at h
   have e1:(V.ts.take m++V.ts.drop (m+1)).length=m+(V.ts.length-(m+1)):=by rw[zgE,List.length_take,List.length_drop,Nat.min_eq_left (by omega)]
   have e2:yB (V.ts.take m++V.ts.drop (m+1))=yB (V.ts.take m)++yB (V.ts.drop (m+1)):=by unfold yB;rw[List.flatMap_append]
   rw[e1,e2];exact h
  obtain⟨au,ai⟩:=(aK.swap 7).set 53 (.slice p9 (m+(V.ts.length-(m+1))) c9);obtain⟨w10,al⟩:=gen (w9.setCell (aA nb 53) (.slice p9 (m+(V.ts.length-(m+1))) c9));rw[<-al] at au ai;have aO:Hid (RefW B F9 R1 nb kb rb n i s1.zdW w10):=⟨{ V with tm:=.slice p9 (m+(V.ts.length-(m+1))) c9,ts:=V.ts.take m++V.ts.drop (m+1) },au,bb,aU _⟩;have aZ:=zc (aW.o.trans (bE.trans ai));have aF:=cz.o _ _ _ (ct.o.trans (bE.trans ai));obtain⟨aS,bK⟩:=ze aF al;clear bf aK au bE ai al bM ct aW ch c53c aU cz aF
  go_upto_region 13 with fail
  rw[<-bK.o];have aR:Hid (w10.rangeAt w5.heap.size 0 [iA n0,iA h0,iA r0,iA d0]):=qT aS;have cw:=zc (K2 aO.o ⟨n0,h0,r0,d0,b0⟩ (λhh=>bg.o.zgm (by omega) hh) bg.o.1.hgt bq (bg.o.1.st (by omega) (by omega) hS).2 bg.o.2.vr1);clear c53d f53 aO aS;go_wp2_with (first|(refine zgX rfl 203 _ rfl w5.heap.size 0 rfl [iA n0,iA h0,iA r0,iA d0] _ aR underlying203 rfl Tryz.zen ?_)|fail)
  refine cw.o.mono ?_;rintro e w11 ⟨rfl,F11,R11,cf,aN⟩;have cl:=zc (kX cf bJ.o (by omega) hS);have aY:=zc (aZ.o.trans aN);clear cf aN cw aZ aR;go_wp2_with fail
  refine cl.o.mono ?_;rintro e w12 ⟨rfl,F12,R12,cd,aM⟩;obtain⟨cW,bP⟩:=ze cd (aY.o.trans aM);clear cd aM cl aY;obtain⟨f,hf,aH,aE⟩:=aw.o;have cx:=zc (And.intro aH aE);clear aH aE aw;go_wp2
  go_roundg f
  case measure=>omega
  case rel=>exact⟨_,F12,R12,cW,bP,bJ.o.runs.2,cx.o.1,cx.o.2⟩
 have ah:j<V.ts.length:=by omega
 have bt:(j:Int)<V.ts.length:=by omega
 obtain⟨lb,lo,aG,bw,az⟩:=aV.o j ah;subst aG;have hA:=HR.o.below ae;have cP:=zc av;obtain⟨a,ha⟩:∃z,z=(tg V.ts j).due:=⟨_,rfl⟩;have ca:wr.cell? (aA lb (lo+j*4+3))=some (iA a):=by
  rw[ha];exact(ae.o.cell (p:=(aA lb (lo+j*4+3))) (by exact bw)).trans (az 3 _ rfl)
 have HA:=zc ha;clear az hA ag ha;by_cases bU:a<=(s1.time:Int)
 .rcases bd with⟨rfl,aj⟩|⟨m,rfl,hm,hd,aa,ab⟩
  .have af:Hid (∃m:Nat,(j:Int)=(m:Int)/\m<j+1/\(tg V.ts m).due<=(s1.time:Int)/\(∀k,k<j+1->(tg V.ts m).due<=(tg V.ts k).due)/\∀k,k<m->(tg V.ts m).due<(tg V.ts k).due):=by
    refine⟨j,rfl,by omega,by rw[<-HA.o];exact bU,λk hk=>?_,λk hk=>?_⟩
    .by_cases e:k=j
     .rw [e];exact Int.le_refl _
     have:=aj k (by omega);rw[<-HA.o];omega
    have:=aj k hk;rw[<-HA.o];omega
   clear aj;go_wp2_with fail
   refine rgd (S:=λX=>cE X nb 53 (.slice (some (aA lb lo)) V.ts.length tc)/\cE X nb 52 (iA s1.time)/\cE X lb (lo+j*4+3) (iA a)) ⟨c53,c52,ca⟩ λhH=>?_;refine zZ [(0,some 27,pA nb 0),(1,some 28,pA nb 0),(2,some 29,pA nb 53),(3,some 30,.slice (some (aA lb lo)) V.ts.length tc),(4,some 31,iA j),(5,some 32,pA lb (lo+j*4)),(6,some 33,pA lb (lo+j*4+3)),(7,some 34,iA a),(8,some 35,pA nb 0),(9,some 36,pA nb 0),(10,some 37,pA nb 52),(11,some 38,iA s1.time),(12,some 39,bA true),(13,some 40,bA true),(14,some 41,iA (-1)),(15,some 42,bA true),(16,some 43,bA true),(17,some 44,undef),(18,some 45,undef),(19,some 46,undef),(20,some 47,undef),(21,some 48,undef),(22,some 49,undef),(23,some 50,undef),(24,some 51,undef),(25,some 52,undef),(26,some 53,undef),(27,some 54,undef),(28,some 55,undef),(29,some 56,undef),(30,some 57,undef),(31,some 58,undef),(32,some 59,undef),(33,some 60,undef),(34,some 61,bA true),(35,some 62,bA true)] _ _ hH (λx h=>aI h.1 (aI h.2.2 (h.2.1))) ?_;simp only[zh,AP,pA];refine dnr ?_;clear hH
   try simp only[AP,AQ]
   go_wp2;go_roundw
   case rel=>exact⟨j+1,(j:Int),ah,by go_num,by first|rfl|go_num,zgS af,ae.o.drew⟩
   simp[intOf];omega
  obtain⟨b,aq⟩:∃z,z=(tg V.ts m).due:=⟨_,rfl⟩;have cb:wr.cell? (aA lb (lo+m*4+3))=some (iA b):=by
   obtain⟨b2,o2,e2,cM,cF⟩:=aV.o m (by omega);cases e2;rw[aq];exact(ae.o.cell (p:=(aA lb (lo+m*4+3))) (by exact cM)).trans (cF 3 _ rfl)
  have hmt:m<V.ts.length:=by omega
  have cG:(m:Int)<V.ts.length:=by omega
  have cI:¬(m:Int)<0:=by omega
  rw[<-aq] at hd aa ab;by_cases hab:a<b
  .have af:Hid (∃m:Nat,(j:Int)=(m:Int)/\m<j+1/\(tg V.ts m).due<=(s1.time:Int)/\(∀k,k<j+1->(tg V.ts m).due<=(tg V.ts k).due)/\∀k,k<m->(tg V.ts m).due<(tg V.ts k).due):=by
    refine⟨j,rfl,by omega,by rw[<-HA.o];exact bU,λk hk=>?_,λk hk=>?_⟩
    .by_cases e:k=j
     .rw [e];exact Int.le_refl _
     have:=aa k (by omega);rw[<-HA.o];omega
    have:=aa k hk;rw[<-HA.o];omega
   clear aa ab hd aq;go_wp2_with fail
   refine rgd (S:=λX=>cE X nb 53 (.slice (some (aA lb lo)) V.ts.length tc)/\cE X nb 52 (iA s1.time)/\cE X lb (lo+j*4+3) (iA a)/\cE X lb (lo+m*4+3) (iA b)) ⟨c53,c52,ca,cb⟩ λhH=>?_;refine zZ [(0,some 27,pA nb 0),(1,some 28,pA nb 0),(2,some 29,pA nb 53),(3,some 30,.slice (some (aA lb lo)) V.ts.length tc),(4,some 31,iA j),(5,some 32,pA lb (lo+j*4)),(6,some 33,pA lb (lo+j*4+3)),(7,some 34,iA a),(8,some 35,pA nb 0),(9,some 36,pA nb 0),(10,some 37,pA nb 52),(11,some 38,iA s1.time),(12,some 39,bA true),(13,some 40,bA true),(14,some 41,iA m),(15,some 42,bA false),(16,some 43,bA false),(17,some 44,pA nb 0),(18,some 45,pA nb 0),(19,some 46,pA nb 53),(20,some 47,.slice (some (aA lb lo)) V.ts.length tc),(21,some 48,iA j),(22,some 49,pA lb (lo+j*4)),(23,some 50,pA lb (lo+j*4+3)),(24,some 51,iA a),(25,some 52,pA nb 0),(26,some 53,pA nb 0),(27,some 54,pA nb 53),(28,some 55,.slice (some (aA lb lo)) V.ts.length tc),(29,some 56,iA m),(30,some 57,pA lb (lo+m*4)),(31,some 58,pA lb (lo+m*4+3)),(32,some 59,iA b),(33,some 60,bA true),(34,some 61,bA true),(35,some 62,bA true)] _ _ hH (λx h=>aI h.1 (aI h.2.2.1 (aI h.2.1 (h.2.2.2)))) ?_;simp only[zh,AP,pA];refine dnr ?_;clear hH
   try simp only[AP,AQ]
   go_wp2;go_roundw
   case rel=>exact⟨j+1,(j:Int),ah,by go_num,by first|rfl|go_num,zgS af,ae.o.drew⟩
   simp[intOf];omega
  have af:Hid (∃m':Nat,(m:Int)=(m':Int)/\m'<j+1/\(tg V.ts m').due<=(s1.time:Int)/\(∀k,k<j+1->(tg V.ts m').due<=(tg V.ts k).due)/\∀k,k<m'->(tg V.ts m').due<(tg V.ts k).due):=by
   refine⟨m,rfl,by omega,by rw[<-aq];exact hd,λk hk=>?_,λk hk=>?_⟩
   .rw [<-aq];by_cases e:k=j
    .rw [e,<-HA.o];omega
    exact aa k (by omega)
   rw[<-aq];exact ab k hk
  clear aa ab hd aq;go_wp2_with fail
  refine rgd (S:=λX=>cE X nb 53 (.slice (some (aA lb lo)) V.ts.length tc)/\cE X nb 52 (iA s1.time)/\cE X lb (lo+j*4+3) (iA a)/\cE X lb (lo+m*4+3) (iA b)) ⟨c53,c52,ca,cb⟩ λhH=>?_;refine zZ [(0,some 27,pA nb 0),(1,some 28,pA nb 0),(2,some 29,pA nb 53),(3,some 30,.slice (some (aA lb lo)) V.ts.length tc),(4,some 31,iA j),(5,some 32,pA lb (lo+j*4)),(6,some 33,pA lb (lo+j*4+3)),(7,some 34,iA a),(8,some 35,pA nb 0),(9,some 36,pA nb 0),(10,some 37,pA nb 52),(11,some 38,iA s1.time),(12,some 39,bA true),(13,some 40,bA true),(14,some 41,iA m),(15,some 42,bA false),(16,some 43,bA false),(17,some 44,pA nb 0),(18,some 45,pA nb 0),(19,some 46,pA nb 53),(20,some 47,.slice (some (aA lb lo)) V.ts.length tc),(21,some 48,iA j),(22,some 49,pA lb (lo+j*4)),(23,some 50,pA lb (lo+j*4+3)),(24,some 51,iA a),(25,some 52,pA nb 0),(26,some 53,pA nb 0),(27,some 54,pA nb 53),(28,some 55,.slice (some (aA lb lo)) V.ts.length tc),(29,some 56,iA m),(30,some 57,pA lb (lo+m*4)),(31,some 58,pA lb (lo+m*4+3)),(32,some 59,iA b),(33,some 60,bA false),(34,some 61,bA false),(35,some 62,bA false)] _ _ hH (λx h=>aI h.1 (aI h.2.2.1 (aI h.2.1 (h.2.2.2)))) ?_;simp only[zh,AP,pA];refine dnr ?_;clear hH
  try simp only[AP,AQ]
  go_wp2;go_roundw
  case rel=>exact⟨j+1,(m:Int),ah,by go_num,by first|rfl|go_num,zgS af,ae.o.drew⟩
  simp[intOf];omega
 have af:Hid ((nv= -1/\∀k,k<j+1->(s1.time:Int)<(tg V.ts k).due)\/(∃m:Nat,nv=(m:Int)/\m<j+1/\(tg V.ts m).due<=(s1.time:Int)/\(∀k,k<j+1->(tg V.ts m).due<=(tg V.ts k).due)/\∀k,k<m->(tg V.ts m).due<(tg V.ts k).due)):=by
  rcases bd with⟨h0,aj⟩|⟨m,h0,hm,hd,aa,ab⟩
  .refine zgR ⟨h0,λk hk=>?_⟩;by_cases e:k=j
   .rw [e,<-HA.o];omega
   exact aj k (by omega)
  refine zgS ⟨m,h0,by omega,hd,λk hk=>?_,ab⟩;by_cases e:k=j
  .rw [e,<-HA.o];omega
  exact aa k (by omega)
 clear bd;go_wp2_with fail
 refine rgd (S:=λX=>cE X nb 53 (.slice (some (aA lb lo)) V.ts.length tc)/\cE X nb 52 (iA s1.time)/\cE X lb (lo+j*4+3) (iA a)) ⟨c53,c52,ca⟩ λhH=>?_;refine zZ [(0,some 27,pA nb 0),(1,some 28,pA nb 0),(2,some 29,pA nb 53),(3,some 30,.slice (some (aA lb lo)) V.ts.length tc),(4,some 31,iA j),(5,some 32,pA lb (lo+j*4)),(6,some 33,pA lb (lo+j*4+3)),(7,some 34,iA a),(8,some 35,pA nb 0),(9,some 36,pA nb 0),(10,some 37,pA nb 52),(11,some 38,iA s1.time),(12,some 39,bA false),(13,some 40,bA false),(14,some 41,undef),(15,some 42,undef),(16,some 43,undef),(17,some 44,undef),(18,some 45,undef),(19,some 46,undef),(20,some 47,undef),(21,some 48,undef),(22,some 49,undef),(23,some 50,undef),(24,some 51,undef),(25,some 52,undef),(26,some 53,undef),(27,some 54,undef),(28,some 55,undef),(29,some 56,undef),(30,some 57,undef),(31,some 58,undef),(32,some 59,undef),(33,some 60,undef),(34,some 61,undef),(35,some 62,bA false)] _ _ hH (λx h=>aI h.1 (aI h.2.2 (h.2.1))) ?_;simp only[zh,AP,pA];refine dnr ?_;clear hH
 try simp only[AP,AQ]
 go_wp2;go_roundw
 case rel=>exact⟨j+1,nv,ah,by go_num,by first|rfl|go_num,af,ae.o.drew⟩
 simp[intOf];omega

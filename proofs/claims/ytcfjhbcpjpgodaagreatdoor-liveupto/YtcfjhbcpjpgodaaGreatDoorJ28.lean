import Derived.Test.YtcfjhbcpjpgodaaGreatDoorJ27
namespace Go.Proofs.YtcfjhbcpjpgodaaGreatDoor
open Go.RowKit
set_option maxRecDepth 100000
set_option maxHeartbeats 0
set_option linter.all false
section
variable{t fr:zj5}{n h:Nat}{sg sg':Nat->List zj5}{e:zl}{l:List zl}{x:Nat->Int}{r:Int}
theorem zez{t':zj5}(h:zM t=true)(h':zM t'=true)(he:decV t=decV t'):t=t':=by
 have e1:decV t=⟨byt t 0,byt t 1,byt t 2,byt t 3,vOf (byt t 0) (byt t 4),nlOf (byt t 0) (byt t 4),t.extract 6 t.size⟩:=by unfold decV;rw[zj2 h]
 have e2:decV t'=⟨byt t' 0,byt t' 1,byt t' 2,byt t' 3,vOf (byt t' 0) (byt t' 4),nlOf (byt t' 0) (byt t' 4),t'.extract 6 t'.size⟩:=by unfold decV;rw[zj2 h']
 rw[e1,e2] at he;simp only[kE.mk.injEq] at he;obtain⟨a0,a1,a2,a3,av,an,asx⟩:=he;unfold zM Zh at h h';simp only[Bool.and_eq_true,decide_eq_true_eq] at h h';obtain⟨hz,⟨_,m1⟩,l1⟩:=h;obtain⟨aa,⟨_,m2⟩,l2⟩:=h';have a4:byt t 4=byt t' 4:=by rw[<-m1,<-m2,av,an,a0]
 have a5:byt t 5=byt t' 5:=by rw[<-l1,<-l2,asx]
 have hb:∀i,byt t i=byt t' i->t.data.toList.getD i 0=t'.data.toList.getD i 0:=λi e=>by
  unfold byt at e;have e':(t.data.toList.getD i 0).toNat=(t'.data.toList.getD i 0).toNat:=by omega
  exact UInt8.toNat_inj.1 e'
 have hd:t.data.toList.drop 6=t'.data.toList.drop 6:=by
  have x1:=congrArg (λb:zj5=>b.data.toList) asx;simp only[Lib.extract_data] at x1;rw[List.take_of_length_le (by simp),List.take_of_length_le (by simp)] at x1;exact x1
 have n1:6<=t.data.toList.length:=by simpa using hz
 have n2:6<=t'.data.toList.length:=by simpa using aa
 apply ByteArray.ext;apply Array.ext';have ht:t.data.toList.take 6=t'.data.toList.take 6:=by
  apply List.ext_getElem
  .simp;omega
  intro i q1 q2;have hi:i<6:=by simp at q1;omega
  rw[List.getElem_take,List.getElem_take];have ad:byt t i=byt t' i:=by
   match i,hi with
   |0,_=>exact a0
   |1,_=>exact a1
   |2,_=>exact a2
   |3,_=>exact a3
   |4,_=>exact a4
   |5,_=>exact a5
  have:=hb i ad;rw[zjK,zjK,zjJ (by omega),zjJ (by omega)] at this;simpa using this
 rw[<-List.take_append_drop 6 t.data.toList,<-List.take_append_drop 6 t'.data.toList,ht,hd]
structure xA (n:Nat) (sg:Nat->List zj5) (h:Nat) (e:zl):Prop where
 ok:zM e.fr=true
 m:decV e.fr=e.m
 f0:0<=e.m.f
 fn:e.m.f.toNat<n
 mem:e.fr∈sg e.m.f.toNat
 h:e.m.h=(h:Int)
theorem xA.mono(he:xA n sg h e)(hs:SgLe sg sg'):xA n sg' h e:=⟨he.ok,he.m,he.f0,he.fn,hs _ _ he.mem,he.h⟩
def ND(l:List zl):Prop:=((l.filter λe=>decide (e.m.k=3)).map (·.fr)).Nodup
theorem ND.nil:ND []:=List.nodup_nil
theorem ND.filter(h:ND l)(q:zl->Bool):ND (l.filter q):=by
 unfold ND at h ⊢;refine h.sublist (List.Sublist.map _ ?_);exact List.filter_sublist.filter _
theorem ND.snoc(h:ND l){e:zl}(he:e.m.k=3->∀x∈l,x.m.k=3->x.fr≠e.fr):ND (l++[e]):=by
 unfold ND at h ⊢;rw[List.filter_append,List.map_append];by_cases hk:e.m.k=3
 .rw [List.filter_cons_of_pos (by simpa using hk),List.filter_nil,List.map_cons,List.map_nil,List.nodup_append];refine⟨h,by simp,λa ha b hb=>?_⟩;obtain rfl:=List.mem_singleton.1 hb;obtain⟨x,hx,rfl⟩:=List.mem_map.1 ha;rw[List.mem_filter] at hx;exact he hk x hx.1 (zjP hx.2)
 rw[List.filter_cons_of_neg (by simpa using hk),List.filter_nil,List.map_nil,List.append_nil];exact h
def Vi(n:Nat)(sg:Nat->List zj5)(x:Nat->Int)(h:Nat)(b:zj5)(cert:List zj5):Prop:=
 (∀fr∈cert,zM fr=true/\0<=(decV fr).f/\(decV fr).f.toNat<n/\fr∈sg (decV fr).f.toNat)/\KN x (h:Int) b (λi=>decV (cert.getD i zj4)) cert.length
theorem Vi.mono{b:zj5}{cert:List zj5}(hc:Vi n sg x h b cert)(hs:SgLe sg sg'):Vi n sg' x h b cert:=
 ⟨λfr hf=>⟨(hc.1 fr hf).1,(hc.1 fr hf).2.1,(hc.1 fr hf).2.2.1,hs _ _ (hc.1 fr hf).2.2.2⟩,hc.2⟩
theorem zcJ{α:Type}{l:List α}(hn:l.Nodup)(hs:∀a∈l,∀b∈l,a=b):l=[]\/∃a,l=[a]:=by
 match l,hn,hs with
 | [],_,_=>exact zj0 rfl
 | [a],_,_=>exact zj1 ⟨a,rfl⟩
 |a::b::l,hn,hs=>
  exfalso;have e:=hs a (by simp) b (by simp);rw[e] at hn;simp at hn
theorem gw{k:Int}(h:votesForB k r t e=true):e.m.k=k/\e.m.r=r/\e.m.nl=false/\e.m.s=t:=by
 unfold votesForB at h;rw[Bool.and_eq_true_iff,Bool.and_eq_true_iff,Bool.and_eq_true_iff] at h;exact⟨zjP h.1.1.1,zjP h.1.1.2,by simpa using h.1.2,zjP h.2⟩
theorem zdL(h:zM fr=true)(hk:(decV fr).k=3):(decV fr).v=0/\0<=(decV fr).f/\(decV fr).f<8:=by
 have h2:=h;have h3:hasB (decV fr).k (decV fr).h (decV fr).r (decV fr).f (decV fr).v (decV fr).nl (decV fr).s.size=true:=by
  unfold decV;rw[zj2 h];unfold zM Zh at h2;simp only[Bool.and_eq_true] at h2;exact h2.2.1.1
 have h4:=zjP h3;refine⟨?_,h4.2.2.2.2.1,h4.2.2.2.2.2.1⟩;rcases h4.2.2.2.2.2.2.2 with h5|h5
 .omega
 exact h5.2.1
theorem ka{fits:zl->Bool}:∀{k:Nat},fr∈certTo fits l k↔∃e∈l,fits e=true/\e.fr=fr/\0<=e.m.f/\e.m.f<(k:Int)
 |0=>by
  constructor
  .intro h;cases h
  .rintro ⟨e,_,_,_,h1,h2⟩;omega
 |k+1=>by
  rw[certTo,zjU,ka (k:=k)];constructor
  .rintro (⟨e,h1,h2,h3,h4,h5⟩|h)
   .exact ⟨e,h1,h2,h3,h4,by omega⟩
   .unfold zJ at h;rw[List.mem_map] at h;obtain⟨e,he,h3⟩:=h;rw[List.mem_filter,Bool.and_eq_true_iff] at he;have:=zjP he.2.1;exact⟨e,he.1,he.2.2,h3,by omega,by omega⟩
  .rintro ⟨e,h1,h2,h3,h4,h5⟩
   by_cases hk:e.m.f=(k:Int)
   .refine zj1 ?_;unfold zJ;rw[List.mem_map];exact⟨e,List.mem_filter.2 ⟨h1,by rw[zjQ hk,h2];rfl⟩,h3⟩
   .exact zj0 ⟨e,h1,h2,h3,h4,by omega⟩
theorem J8(hl:∀e∈l,xA n sg h e)(hn:ND l):∀k:Nat,(certTo (votesForB 3 r t) l k).Pairwise (λa b=>(decV a).f<(decV b).f)
 |0=>List.Pairwise.nil
 |k+1=>by
  rw[certTo,List.pairwise_append];have hfk:∀fr∈zJ (λe=>decide (e.m.f=(k:Int))&&votesForB 3 r t e) l,zM fr=true/\decV fr=⟨3,(h:Int),r,(k:Int),0,false,t⟩:=λfr hf=>by
   unfold zJ at hf;rw[List.mem_map] at hf;obtain⟨e,he,rfl⟩:=hf;rw[List.mem_filter,Bool.and_eq_true_iff] at he;have hE:=hl e he.1;obtain⟨v1,v2,v3,v4⟩:=gw he.2.2;have hv:=(zdL hE.ok (by rw[hE.m];exact v1)).1;rw[hE.m] at hv;refine⟨hE.ok,?_⟩;have e1:e.m=⟨e.m.k,e.m.h,e.m.r,e.m.f,e.m.v,e.m.nl,e.m.s⟩:=rfl;rw[hE.m,e1,v1,v2,v3,v4,hE.h,hv,zjP he.2.1]
  refine⟨J8 hl hn k,?_,λa ha b hb=>?_⟩
  .have hnd:(zJ (λe=>decide (e.m.f=(k:Int))&&votesForB 3 r t e) l).Nodup:=by
    unfold zJ;unfold ND at hn;refine hn.sublist (List.Sublist.map _ ?_);have e1:l.filter (λe=>decide (e.m.f=(k:Int))&&votesForB 3 r t e)=(l.filter λe=>decide (e.m.k=3)).filter (λe=>decide (e.m.f=(k:Int))&&votesForB 3 r t e):=by
     rw[List.filter_filter];apply List.filter_congr;intro e _;cases hv:votesForB 3 r t e with
     |false=>simp
     |true=>rw[zjQ (gw hv).1];simp
    rw[e1];exact List.filter_sublist
   rcases zcJ hnd (λa ha b hb=>zez (hfk a ha).1 (hfk b hb).1 (by rw[(hfk a ha).2,(hfk b hb).2])) with e|⟨a,e⟩
   .rw [e];exact List.Pairwise.nil
   .rw [e];exact List.pairwise_singleton _ _
  .obtain ⟨e,he,_,h3,_,h5⟩:=ka.1 ha
   have hE:=hl e he;rw[(hfk b hb).2,<-h3,hE.m];exact h5
theorem Xe(hl:∀e∈l,xA n sg h e)(hn:ND l)(hm:yg 2 x (sendB (votesForB 3 r t) l)=true):Vi n sg x h t (certTo (votesForB 3 r t) l 8):=by
 have aa:∀fr∈certTo (votesForB 3 r t) l 8,zM fr=true/\0<=(decV fr).f/\(decV fr).f.toNat<n/\fr∈sg (decV fr).f.toNat/\decV fr=⟨3,(h:Int),r,(decV fr).f,0,false,t⟩:=λfr hf=>by
  obtain⟨e,he,hv,rfl,h4,h5⟩:=ka.1 hf;have hE:=hl e he;obtain⟨v1,v2,v3,v4⟩:=gw hv;have ae:=(zdL hE.ok (by rw[hE.m];exact v1)).1;rw[hE.m] at ae ⊢;refine⟨hE.ok,hE.f0,hE.fn,hE.mem,?_⟩;have e1:e.m=⟨e.m.k,e.m.h,e.m.r,e.m.f,e.m.v,e.m.nl,e.m.s⟩:=rfl;rw[e1,v1,v2,v3,v4,hE.h,ae]
 refine⟨λfr hf=>⟨(aa fr hf).1,(aa fr hf).2.1,(aa fr hf).2.2.1,(aa fr hf).2.2.2.1⟩,sendB (votesForB 3 r t) l,⟨λi hi=>?_,λi j ah hj=>?_,λid hid=>?_⟩,hm⟩
 .have g:∀i,i<(certTo (votesForB 3 r t) l 8).length->(certTo (votesForB 3 r t) l 8).getD i zj4∈certTo (votesForB 3 r t) l 8:=λi hi=>by
   rw[zjK,zjJ hi];exact List.getElem_mem hi
  have h1:=(aa _ (g i hi)).2.2.2.2;have h0:=(aa _ (g 0 (by omega))).2.2.2.2;show decV ((certTo (votesForB 3 r t) l 8).getD i zj4)=QZ (h:Int) (decV ((certTo (votesForB 3 r t) l 8).getD 0 zj4)).r t (decV ((certTo (votesForB 3 r t) l 8).getD i zj4)).f;have ag:(decV ((certTo (votesForB 3 r t) l 8).getD 0 zj4)).r=r:=by rw[h0]
  rw[ag];exact h1
 .have hp:=List.pairwise_iff_getElem.1 (J8 (r:=r) (t:=t) hl hn 8) i j (by omega) hj ah;show(decV ((certTo (votesForB 3 r t) l 8).getD i zj4)).f≠(decV ((certTo (votesForB 3 r t) l 8).getD j zj4)).f;rw[zjK,zjJ (by omega),zjK,zjJ hj];simp only[Option.getD_some];omega
 constructor
 .intro hb;unfold sendB at hb;rw[List.any_eq_true] at hb;obtain⟨e,he,hv⟩:=hb;rw[Bool.and_eq_true_iff] at hv;have hf:=zjP hv.2;have ad:e.fr∈certTo (votesForB 3 r t) l 8:=ka.2 ⟨e,he,hv.1,rfl,by omega,by omega⟩;obtain⟨i,hi,h1⟩:=List.mem_iff_getElem.1 ad;refine⟨i,hi,?_⟩;show(decV ((certTo (votesForB 3 r t) l 8).getD i zj4)).f=(id:Int);rw[zjK,zjJ hi,Option.getD_some,h1,(hl e he).m];exact hf
 rintro⟨i,hi,h1⟩;have af:(decV ((certTo (votesForB 3 r t) l 8).getD i zj4)).f=(id:Int):=h1;rw[zjK,zjJ hi,Option.getD_some] at af;obtain⟨e,he,hv,h3,_,_⟩:=ka.1 (List.getElem_mem hi);unfold sendB;rw[List.any_eq_true];refine⟨e,he,?_⟩;rw[hv,Bool.true_and];apply zjQ;rw[<-af,<-h3,(hl e he).m]
end
section
variable{n i:Nat}{x0:Nat->Int}{s:za}{t:zj5}
def za.blocks(s:za):List zj5:=s.dec.map (·.block)
def za.zhr(s:za):List (zj5×List zj5):=s.dec.map λd=>(d.block,d.cert)
theorem KD(s:za):s.blocks=s.zhr.map (·.1):=by
 unfold za.blocks za.zhr;rw[List.map_map];rfl
theorem zI(s:za):s.blocks.length=s.zfF:=by unfold za.blocks za.zfF;rw[List.length_map]
structure Mine (i:Nat) (s:za) (fr:zj5):Prop where
 ok:zM fr=true
 f:(decV fr).f=(i:Int)
 pos:(decV fr).h<(s.zfF:Int)\/((decV fr).h=(s.zfF:Int)/\((decV fr).r<(s.round:Int)\/((decV fr).r=(s.round:Int)/\(decV fr).k<=(s.step:Int))))
structure NI (n i:Nat) (x0:Nat->Int) (s:za):Prop where
 reg:s.x=regs x0 s.blocks
 log:∀e∈s.log,xA n s.sg s.zfF e
 ahead:∀e∈s.ahead,xA n s.sg (s.zfF+1) e
 dec:∀(h:Nat) (b:zj5),s.blocks[h]? =some b->(zi (regs x0 (s.blocks.take h)) b).2=true/\∃r,Quo n s.sg (regs x0 (s.blocks.take h)) 3 (h:Int) r b
 mine:∀fr∈s.sg i,Mine i s fr
 one:∀fr∈s.sg i,∀fr'∈s.sg i,(decV fr).k≠1->(decV fr).k=(decV fr').k->(decV fr).h=(decV fr').h->(decV fr).r=(decV fr').r->fr=fr'
 pc:∀fr∈s.sg i,(decV fr).k=3->(decV fr).nl=false->Quo n s.sg (regs x0 (s.blocks.take (decV fr).h.toNat)) 2 (decV fr).h (decV fr).r (decV fr).s
 lock:∀fr∈s.sg i,(decV fr).k=3->(decV fr).nl=false->(decV fr).h=(s.zfF:Int)->(decV fr).r<=s.lr/\((decV fr).r=s.lr->(decV fr).s=s.lv)
 lk:0<=s.lr->Quo n s.sg s.x 2 (s.zfF:Int) s.lr s.lv/\(s.lr<(s.round:Int)\/(s.lr=(s.round:Int)/\2<=s.step))
 nd:ND s.log
 nda:ND s.ahead
 cert:∀(h:Nat) (d:zj5×List zj5),s.zhr[h]? =some d->Vi n s.sg (regs x0 (s.blocks.take h)) h d.1 d.2
 pv:∀fr∈s.sg i,∀fr'∈s.sg i,(decV fr).k=3->(decV fr).nl=false->(decV fr').k=2->(decV fr').nl=false->(decV fr).h=(decV fr').h->(decV fr).r<(decV fr').r->(decV fr).s≠(decV fr').s->∃r2:Int,(decV fr).r<=r2/\r2<(decV fr').r/\Quo n s.sg (regs x0 (s.blocks.take (decV fr).h.toNat)) 2 (decV fr).h r2 (decV fr').s
theorem NI.congr{s':za}(h:NI n i x0 s)(hx:s'.x=s.x)(hd:s'.zhr=s.zhr)(hl:s'.log=s.log)(ha:s'.ahead=s.ahead)(hs:s'.sg=s.sg)(h1:s'.lr=s.lr)(h2:s'.lv=s.lv)(h3:s'.round=s.round)(h4:s'.step=s.step):NI n i x0 s':=by
 have hb:s'.blocks=s.blocks:=by rw[KD,KD,hd]
 have hh:s'.zfF=s.zfF:=by rw[<-zI,<-zI,hb]
 refine⟨?_,?_,?_,?_,?_,?_,?_,?_,?_,?_,?_,?_,?_⟩
 .rw [hx,hb];exact h.reg
 .rw [hl,hs,hh];exact h.log
 .rw [ha,hs,hh];exact h.ahead
 .rw [hb,hs];exact h.dec
 .rw [hs];intro fr hf;have h5:=h.mine fr hf;refine⟨h5.ok,h5.f,?_⟩;rw[hh,h3,h4];exact h5.pos
 .rw [hs];exact h.one
 .rw [hs,hb];exact h.pc
 .rw [hs,hh,h1,h2];exact h.lock
 .rw [h1,h2,hs,hx,hh,h3,h4];exact h.lk
 .rw [hl];exact h.nd
 .rw [ha];exact h.nda
 .rw [hd,hs,hb];exact h.cert
 rw[hs,hb];exact h.pv
theorem NI.others(h:NI n i x0 s){sg':Nat->List zj5}(hs:SgLe s.sg sg')(hi:sg' i=s.sg i):NI n i x0 { s with sg:=sg' }:=by
 refine⟨h.reg,λe he=>(h.log e he).mono hs,λe he=>(h.ahead e he).mono hs,λk b hb=>?_,?_,?_,?_,?_,?_,h.nd,h.nda,λk d hd=>(h.cert k d hd).mono hs,?_⟩
 .obtain ⟨h1,r,h2⟩:=h.dec k b hb
  exact⟨h1,r,h2.mono hs⟩
 .intro fr hf;have ad:fr∈s.sg i:=by rw[<-hi];exact hf
  have h5:=h.mine fr ad;exact⟨h5.ok,h5.f,h5.pos⟩
 .intro fr hf fr' ad;have aa:fr∈s.sg i:=by rw[<-hi];exact hf
  have ae:fr'∈s.sg i:=by rw[<-hi];exact ad
  exact h.one fr aa fr' ae
 .intro fr hf hk hn;have aa:fr∈s.sg i:=by rw[<-hi];exact hf
  exact(h.pc fr aa hk hn).mono hs
 .intro fr hf hk hn hh;have aa:fr∈s.sg i:=by rw[<-hi];exact hf
  exact h.lock fr aa hk hn hh
 .intro h0;exact⟨(h.lk h0).1.mono hs,(h.lk h0).2⟩
 intro fr hf fr' ad a b c d e f g;have aa:fr∈s.sg i:=by rw[<-hi];exact hf
 have ae:fr'∈s.sg i:=by rw[<-hi];exact ad
 obtain⟨r2,g1,g2,g3⟩:=h.pv fr aa fr' ae a b c d e f g;exact⟨r2,g1,g2,g3.mono hs⟩
theorem xU{k r:Int}(hl:∀e∈s.log,xA n s.sg s.zfF e)(hm:s.most (votesForB k r t)=true):Quo n s.sg s.x k (s.zfF:Int) r t:=by
 refine⟨sendB (votesForB k r t) s.log,hm,λq hq hb=>?_⟩;unfold sendB at hb;rw[List.any_eq_true] at hb;obtain⟨e,he,hv⟩:=hb;rw[Bool.and_eq_true_iff] at hv;have hf:=zjP hv.2;have aa:=hv.1;unfold votesForB at aa;rw[Bool.and_eq_true_iff,Bool.and_eq_true_iff,Bool.and_eq_true_iff] at aa;have hE:=hl e he;have ad:e.m.f.toNat=q:=by omega
 refine⟨by rw[<-ad];exact hE.fn,e.fr,by rw[<-ad];exact hE.mem,hE.ok,?_⟩;rw[hE.m];exact⟨zjP aa.1.1.1,hE.h,zjP aa.1.1.2,by simpa using aa.1.2,zjP aa.2⟩
theorem vP(sg:Nat->List zj5)(i:Nat)(t:zj5):SgLe sg (signR sg i t):=λq fr hf=>by
 by_cases e:q=i
 .subst e;by_cases hm:t∈sg q
  .rw [xm hm];exact hf
  .rw [gE hm];exact List.mem_append_left _ hf
 .rw [qL e];exact hf
theorem jc{sg:Nat->List zj5}{fr:zj5}:fr∈signR sg i t i↔fr∈sg i\/fr=t:=by
 by_cases hm:t∈sg i
 .rw [xm hm];exact⟨zj0,λh=>h.elim id (λe=>e▸hm)⟩
 rw[gE hm,zjU,zjW]
theorem NI.send(h:NI n i x0 s)(hi:i<n)(k:Nat)(v:Int)(nl:Bool)(t:zj5)(st:Nat)(hst:s.step<=st)(hk:k<=st)(hkk:k=1\/s.step<k)
 (hpc:k=3->nl=false->Quo n s.sg s.x 2 (s.zfF:Int) (s.round:Int) t/\s.lr=(s.round:Int)/\s.lv=t)
 (hpv:k=2->nl=false->∀fr∈s.sg i,(decV fr).k=3->(decV fr).nl=false->(decV fr).h=(s.zfF:Int)->(decV fr).r<(s.round:Int)->(decV fr).s≠t->∃r2:Int,(decV fr).r<=r2/\r2<(s.round:Int)/\Quo n s.sg s.x 2 (s.zfF:Int) r2 t):
 NI n i x0 ((s.zfI i (k:Int) v nl t).zfO st):=by
 have ae:NI n i x0 (s.zfO st):=by
  refine { h with mine:=λfr hf=>?_,lk:=λh0=>?_ }
  .have h5:=h.mine fr hf;refine⟨h5.ok,h5.f,?_⟩;rcases h5.pos with a|⟨a,b|⟨b,c⟩⟩
   .exact zj0 a
   .exact zj1 ⟨a,zj0 b⟩
   exact zj1 ⟨a,zj1 ⟨b,Int.le_trans c (by show(s.step:Int)<=(st:Int);omega)⟩⟩
  obtain⟨a,b⟩:=h.lk h0;refine⟨a,?_⟩;rcases b with b|⟨b,c⟩
  .exact zj0 b
  exact zj1 ⟨b,zjF c hst⟩
 unfold za.zfI;split
 .exact ae
 split
 .rename_i _ hB;obtain⟨aB,az⟩:=gN hB;obtain⟨F,hF⟩:=gen (s.enc i (k:Int) v nl t);have ar:zM F=true:=by rw[hF];exact aB
  have ad:decV F=⟨(k:Int),(s.zfF:Int),(s.round:Int),(i:Int),v,nl,t⟩:=by rw[hF];exact az
  show NI n i x0 { s with sg:=signR s.sg i (s.enc i (k:Int) v nl t),out:=put1 s.out (s.enc i (k:Int) v nl t),log:=s.log++[⟨s.msg i (k:Int) v nl t,s.enc i (k:Int) v nl t,true⟩],step:=st };rw[<-hF];have af:=vP s.sg i F;have aa:∀fr,fr∈signR s.sg i F i->fr∈s.sg i\/fr=F:=λfr hf=>jc.1 hf;have al:F∈signR s.sg i F i:=jc.2 (zj1 rfl);have aq:s.blocks.take (s.zfF:Int).toNat=s.blocks:=by
   rw[Int.toNat_natCast,List.take_of_length_le];rw[zI];exact zjA _
  -- no frame of that kind, ao and round was signed
  have ak:∀fr,fr∈s.sg i->(decV fr).k=(k:Int)->(decV fr).h=(s.zfF:Int)->(decV fr).r=(s.round:Int)->k=1:=λfr hf a b c=>by
   rcases(h.mine fr hf).pos with p|⟨p,q|⟨q,u⟩⟩
   .omega
   .omega
   rcases hkk with e|e
   .exact e
   exfalso;omega
  refine⟨h.reg,λe he=>?_,λe he=>(h.ahead e he).mono af,λk b hb=>?_,λfr hf=>?_,λfr hf fr' an a b c d=>?_,λfr hf a b=>?_,λfr hf a b c=>?_,λh0=>?_,?_,h.nda,λj d hd=>(h.cert j d hd).mono af,λfr hf fr' an a b c d e f g=>?_⟩
  .rcases List.mem_append.1 he with he|he
   .exact (h.log e he).mono af
   obtain rfl:=List.mem_singleton.1 he;refine⟨ar,ad,?_,?_,?_,rfl⟩
   .show (0:Int)<=(i:Int);omega
   .show (i:Int).toNat<n
    rw[Int.toNat_natCast];exact hi
   show F∈signR s.sg i F (i:Int).toNat;rw[Int.toNat_natCast];exact al
  .obtain ⟨h1,r,h2⟩:=h.dec k b hb
   exact⟨h1,r,h2.mono af⟩
  .rcases aa fr hf with hf|rfl
   .have h5:=ae.mine fr hf;exact⟨h5.ok,h5.f,h5.pos⟩
   refine⟨ar,by rw[ad],zj1 ⟨by rw[ad];rfl,zj1 ⟨by rw[ad],?_⟩⟩⟩;rw[ad];show(k:Int)<=(st:Int);omega
  .rcases aa fr hf with hg|e1<;>rcases aa fr' an with ai|e2
   .exact h.one fr hg fr' ai a b c d
   .exfalso;subst e2;rw[ad] at b c d;have:=ak fr hg b c d;subst this;exact a (by rw[b];rfl)
   .exfalso;subst e1;have a':=a;rw[ad] at a b c d;have:=ak fr' ai b.symm c.symm d.symm;subst this;exact a rfl
   rw[e1,e2]
  .rcases aa fr hf with hf|rfl
   .exact (h.pc fr hf a b).mono af
   rw[ad] at a b ⊢;have ah:k=3:=by have:(k:Int)=3:=a;omega
   show Quo n _ (regs x0 (s.blocks.take (s.zfF:Int).toNat)) 2 (s.zfF:Int) (s.round:Int) t;rw[aq,<-h.reg];exact(hpc ah b).1.mono af
  .rcases aa fr hf with hf|rfl
   .exact h.lock fr hf a b c
   rw[ad] at a b ⊢;have ah:k=3:=by have:(k:Int)=3:=a;omega
   obtain⟨_,h2,h3⟩:=hpc ah b;exact⟨by show(s.round:Int)<=s.lr;rw[h2];exact Int.le_refl _,λ_=>h3.symm⟩
  .obtain ⟨p,q⟩:=ae.lk h0
   exact⟨p.mono af,q⟩
  .refine h.nd.snoc λah e he _ ay=>?_;have au:(k:Int)=3:=ah;have hE:=h.log e he;have aj:e.fr=F:=ay;have aw:decV F=e.m:=by rw[<-aj,hE.m]
   have ax:e.m.f=(i:Int):=by rw[<-aw,ad]
   have ag:F∈s.sg i:=by
    have:=hE.mem;rw[aj,ax,Int.toNat_natCast] at this;exact this
   have:=ak F ag (by rw[ad]) (by rw[ad]) (by rw[ad]);omega
  rcases aa fr hf with hg|e1<;>rcases aa fr' an with ai|e2
  .obtain ⟨r2,g1,g2,g3⟩:=h.pv fr hg fr' ai a b c d e f g
   exact⟨r2,g1,g2,g3.mono af⟩
  .subst e2;rw[ad] at c d e f g ⊢;have av:k=2:=by have:(k:Int)=2:=c;omega
   obtain⟨r2,g1,g2,g3⟩:=hpv av d fr hg a b e f g;refine⟨r2,g1,g2,?_⟩;show Quo n _ (regs x0 (s.blocks.take (decV fr).h.toNat)) 2 (decV fr).h r2 t;rw[e];show Quo n _ (regs x0 (s.blocks.take (s.zfF:Int).toNat)) 2 (s.zfF:Int) r2 t;rw[aq,<-h.reg];exact g3.mono af
  .exfalso;subst e1;rw[ad] at e f;have e':(s.zfF:Int)=(decV fr').h:=e;have f':(s.round:Int)<(decV fr').r:=f;rcases(h.mine fr' ai).pos with p|⟨p,q|⟨q,u⟩⟩<;>omega
  exfalso;subst e1;subst e2;omega
 exact ae
end
section
variable{t:zj5}{s:za}{n i:Nat}{x0:Nat->Int}
theorem J5(h:zM t=true):hasB (decV t).k (decV t).h (decV t).r (decV t).f (decV t).v (decV t).nl (decV t).s.size=true:=by
 have h2:=h;unfold decV;rw[zj2 h];unfold zM Zh at h2;simp only[Bool.and_eq_true] at h2;exact h2.2.1.1
theorem zdy(h:zM t=true):0<=(decV t).r:=by
 have h1:=zjP (J5 h);exact h1.2.2.1
theorem zeB(h:zM t=true)(hk:(decV t).k=1):(decV t).v<(decV t).r:=by
 have h1:=(zjP (J5 h)).2.2.2.2.2.2.2;rcases h1 with h1|⟨h1,_⟩
 .exact h1.2.2.2
 omega
theorem jW{st:Nat}(h:s.step=st):s.zfO st=s:=by
 subst h;rfl
theorem vR(s:za)(i:Nat)(k v:Int)(nl:Bool)(t:zj5):(s.zfI i k v nl t).step=s.step:=by
 unfold za.zfI;split
 .rfl
 split<;>rfl
theorem NI.zfL(h:NI n i x0 s){r st:Nat}(hr:s.round<r):NI n i x0 (s.zfL r st):=by
 refine { h with mine:=λfr hf=>?_,lk:=λh0=>?_ }
 .have h5:=h.mine fr hf;refine⟨h5.ok,h5.f,?_⟩;rcases h5.pos with a|⟨a,b|⟨b,c⟩⟩
  .exact zj0 a
  .exact zj1 ⟨a,zj0 (by show(decV fr).r<(r:Int);omega)⟩
  exact zj1 ⟨a,zj0 (by show(decV fr).r<(r:Int);omega)⟩
 obtain⟨a,b⟩:=h.lk h0;refine⟨a,zj0 ?_⟩;show s.lr<(r:Int);rcases b with b|⟨b,_⟩<;>omega
theorem NI.zhS(h:NI n i x0 s)(hf:∀fr∈s.sg i,(decV fr).h<(s.zfF:Int))(hlr:s.lr<0)(r st:Nat):NI n i x0 (s.zfL r st):=by
 refine { h with mine:=λfr hm=>?_,lk:=λh0=>?_ }
 .have h5:=h.mine fr hm;exact⟨h5.ok,h5.f,zj0 (hf fr hm)⟩
 exfalso;have h1:0<=s.lr:=h0;omega
theorem NI.timer(h:NI n i x0 s)(a b:Nat):NI n i x0 (s.timer a b):=h.congr rfl rfl rfl rfl rfl rfl rfl rfl rfl
theorem NI.zfH{r:Nat}(h:NI n i x0 (s.zfL r 1))(hi:i<n):NI n i x0 (s.zfH i r):=by
 unfold za.zfH;split
 .have h1:=h.send hi 1 s.vr false (if s.vr<0 then blockF s.x s.wait else s.vv) 1 (zjA _) (zjA _) (zj0 rfl) (λe=>by cases e) (λe=>by cases e);have h2:(((s.zfL r 1).zfI i ((1:Nat):Int) s.vr false (if s.vr<0 then blockF s.x s.wait else s.vv)).zfO 1)=(s.zfL r 1).zfI i 1 s.vr false (if s.vr<0 then blockF s.x s.wait else s.vv):=jW (by rw[vR];rfl);rw[h2] at h1;exact h1
 exact h.timer 1 3
theorem NI.next(h:NI n i x0 s){p:zl}(hm:s.most (votesForB 3 p.m.r p.m.s)=true)(hg:s.zgc p.m.s=true)(q:zl->Bool):
 NI n i x0 ((s.kept p).zfK ((s.kept p).ahead.filter q))/\(∀fr∈s.sg i,(decV fr).h<(s.zfF:Int)+1):=by
 have hQ:=xU h.log hm;have hb:((s.kept p).zfK ((s.kept p).ahead.filter q)).blocks=s.blocks++[p.m.s]:=by
  show(s.dec++[_]).map (λd:xC=>d.block)=_;rw[List.map_append];rfl
 have hh:((s.kept p).zfK ((s.kept p).ahead.filter q)).zfF=s.zfF+1:=by
  show(s.dec++[_]).length=_;rw[zjO];rfl
 have ad:∀fr∈s.sg i,(decV fr).h<(s.zfF:Int)+1:=λfr hf=>by
  rcases(h.mine fr hf).pos with a|⟨a,_⟩<;>omega
 have ag:∀fr∈s.sg i,(s.blocks++[p.m.s]).take (decV fr).h.toNat=s.blocks.take (decV fr).h.toNat:=λfr hf=>by
  rw[List.take_append_of_le_length];rw[zI];have:=ad fr hf;omega
 refine⟨⟨?_,λe he=>?_,(λ_ he=>by cases he),λk b hk=>?_,λfr hf=>?_,h.one,λfr hf a b=>?_,λfr hf a b c=>?_,λh0=>?_,h.nda.filter q,ND.nil,λk d hd=>?_,λfr hf fr' ah a b c d e f g=>?_⟩,ad⟩
 .rw [hb,ZY,<-h.reg];rfl
 .rw [hh];exact h.ahead e (List.mem_filter.1 he).1
 .rw [hb] at hk ⊢;by_cases e:k<s.zfF
  .have e1:(s.blocks++[p.m.s])[k]? =s.blocks[k]? :=zjN (by rw[zI];exact e);rw[e1] at hk;rw[List.take_append_of_le_length (by rw[zI];omega)];exact h.dec k b hk
  have aa:k<(s.blocks++[p.m.s]).length:=(List.getElem?_eq_some_iff.1 hk).1;rw[zjO,zI] at aa;have ae:k=s.zfF:=by
   simp only[List.length_cons,List.length_nil] at aa;omega
  subst ae;have e1:(s.blocks++[p.m.s])[s.zfF]? =some p.m.s:=by
   rw[<-zI,zjM (zjA _)];simp
  obtain rfl:=zkd (e1.symm.trans hk);have e2:(s.blocks++[p.m.s]).take s.zfF=s.blocks:=by
   rw[<-zI,List.take_left'];rfl
  rw[e2,<-h.reg];exact⟨hg,p.m.r,hQ⟩
 .have h5:=h.mine fr hf;refine⟨h5.ok,h5.f,zj0 ?_⟩;rw[hh];have:=ad fr hf;omega
 .rw [hb,ag fr hf];exact h.pc fr hf a b
 .exfalso;rw[hh] at c;have:=ad fr hf;omega
 .exact absurd h0 (by show¬(0:Int)<=-1;decide)
 .have ai:((s.kept p).zfK ((s.kept p).ahead.filter q)).zhr=s.zhr++[(p.m.s,certTo (votesForB 3 p.m.r p.m.s) s.log 8)]:=by
   show(s.dec++[_]).map (λd:xC=>(d.block,d.cert))=_;rw[List.map_append];rfl
  have af:s.zhr.length=s.zfF:=by unfold za.zhr za.zfF;rw[List.length_map]
  rw[ai] at hd;rw[hb];by_cases e:k<s.zfF
  .have e1:(s.zhr++[(p.m.s,certTo (votesForB 3 p.m.r p.m.s) s.log 8)])[k]? =s.zhr[k]? :=zjN (by rw[af];exact e);rw[e1] at hd;rw[List.take_append_of_le_length (by rw[zI];omega)];exact h.cert k d hd
  have aa:k<(s.zhr++[(p.m.s,certTo (votesForB 3 p.m.r p.m.s) s.log 8)]).length:=(List.getElem?_eq_some_iff.1 hd).1;rw[zjO,af] at aa;have ae:k=s.zfF:=by
   simp only[List.length_cons,List.length_nil] at aa;omega
  subst ae;have e1:(s.zhr++[(p.m.s,certTo (votesForB 3 p.m.r p.m.s) s.log 8)])[s.zfF]? =some (p.m.s,certTo (votesForB 3 p.m.r p.m.s) s.log 8):=by
   rw[<-af,zjM (zjA _)];simp
  obtain rfl:=zkd (e1.symm.trans hd);have e2:(s.blocks++[p.m.s]).take s.zfF=s.blocks:=by
   rw[<-zI,List.take_left'];rfl
  rw[e2,<-h.reg];exact Xe h.log h.nd hm
 rw[hb,ag fr hf];exact h.pv fr hf fr' ah a b c d e f g
theorem NI.keep(h:NI n i x0 s)(hi:i<n){p:zl}(hm:s.most (votesForB 3 p.m.r p.m.s)=true)(hg:s.zgc p.m.s=true):NI n i x0 (s.zfR i p):=by
 unfold za.zfR;rw[zu];obtain⟨h1,h2⟩:=h.next hm hg (λe=> !(s.kept p).zfJ e.m);have hh:((s.kept p).zfK ((s.kept p).ahead.filter λe=> !(s.kept p).zfJ e.m)).zfF=s.zfF+1:=by
  show(s.dec++[_]).length=_;rw[zjO];rfl
 have h3:∀fr∈((s.kept p).zfK ((s.kept p).ahead.filter λe=> !(s.kept p).zfJ e.m)).sg i,(decV fr).h<(((s.kept p).zfK ((s.kept p).ahead.filter λe=> !(s.kept p).zfJ e.m)).zfF:Int):=λfr hf=>by
  rw[hh];have:=h2 fr hf;omega
 split
 .exact h1.zhS h3 (by show(-1:Int)<0;decide) 0 0
 exact NI.zfH (h1.zhS h3 (by show(-1:Int)<0;decide) 0 1) hi
theorem NI.zfY(h:NI n i x0 s)(hi:i<n):NI n i x0 (za.zfY i s).2:=by
 cases hd:s.zgr with
 |none=>rw[qR hd];exact h
 |some p=>
  rw[qa hd];obtain⟨r,_,hr⟩:=jt hd;unfold za.zgk at hr;have h1:=(kY hr).2.2.2;rw[Bool.and_eq_true_iff,<-(kY hr).2.2.1] at h1;exact h.keep hi h1.1 h1.2
theorem NI.follow(h:NI n i x0 s)(hi:i<n):NI n i x0 (s.zf1 i).2:=by
 unfold za.zf1;split
 .exact h
 rename_i r hr;have h1:s.zfV r=true:=List.find?_some hr;unfold za.zfV at h1;rw[Bool.and_eq_true_iff] at h1;exact NI.zfH (h.zfL (zjP h1.1)) hi
theorem NI.zhF(h:NI n i x0 s)(hi:i<n)(hs:s.step=1):NI n i x0 (s.nothing i 2 2):=
 h.send hi 2 0 true ⟨#[]⟩ 2 (by omega) (zjA _) (zj1 (by omega)) (λe=>by cases e) (λ_ e=>by cases e)
theorem NI.zhE(h:NI n i x0 s)(hi:i<n)(hs:s.step=2):NI n i x0 (s.nothing i 3 3):=
 h.send hi 3 0 true ⟨#[]⟩ 3 (by omega) (zjA _) (zj1 (by omega)) (λ_ e=>by cases e) (λe=>by cases e)
theorem NI.answer(h:NI n i x0 s)(hi:i<n){fits:zl->Bool}(hfit:∀p,fits p=true->p.m.v<0\/s.most (votesForB 2 p.m.v p.m.s)=true):NI n i x0 (s.zfU i fits).2:=by
 unfold za.zfU;split
 .rename_i hs;split
  .exact h
  rename_i p hp;obtain⟨ah,ag,hp3,af⟩:=kY hp;show NI n i x0 (if s.zgP p=true then(s.zfI i 2 0 false p.m.s).zfO 2 else s.nothing i 2 2);split
  .rename_i aa;refine h.send hi 2 0 false p.m.s 2 (by omega) (zjA _) (zj1 (by omega)) (λe=>by cases e) λ_ _ fr hf a b c d e=>?_;obtain⟨l1,l2⟩:=h.lock fr hf a b c;have hr0:=zdy (h.mine fr hf).ok;have ai:0<=s.lr:=by omega
   obtain⟨k1,k2⟩:=h.lk ai;have k3:s.lr<(s.round:Int):=by
    rcases k2 with k2|⟨_,k2⟩
    .exact k2
    omega
   unfold za.zgP at aa;rw[Bool.and_eq_true_iff,Bool.or_eq_true_iff] at aa;rcases aa.2 with hv|hv
   .have ad:=zjP hv;rcases hfit p af with hn|hn
    .omega
    have hE:=h.log p ah;have ae:=zeB hE.ok (by rw[hE.m];exact ag);rw[hE.m] at ae;exact⟨p.m.v,by omega,by omega,xU h.log hn⟩
   have ad:=zjP hv;refine⟨s.lr,l1,k3,?_⟩;rw[<-ad];exact k1
  exact h.zhF hi hs
 exact h
theorem NI.hold(h:NI n i x0 s)(hi:i<n):NI n i x0 (s.zgm i).2:=by
 unfold za.zgm;split
 .split
  .exact h
  rename_i p hp;unfold za.zgF at hp;have h1:=(kY hp).2.2.2;rw[Bool.and_eq_true_iff] at h1;have hQ:=xU h.log h1.1;show NI n i x0 (if s.step=2 then((s.zfZ p.m.s).zf3.zfI i 3 0 false p.m.s).zfO 3 else s.zfZ p.m.s);split
  .rename_i hs;have hL:NI n i x0 (s.zfZ p.m.s).zf3:=by
    refine { h with mine:=λfr hf=>?_,lock:=λfr hf a b c=>?_,lk:=λ_=>⟨hQ,zj1 ⟨rfl,?_⟩⟩ }
    .have h5:=h.mine fr hf;exact⟨h5.ok,h5.f,h5.pos⟩
    .show (decV fr).r<=(s.round:Int)/\((decV fr).r=(s.round:Int)->(decV fr).s=p.m.s)
     have c':(decV fr).h=(s.zfF:Int):=c;rcases(h.mine fr hf).pos with u|⟨_,v|⟨v,u⟩⟩
     .omega
     .exact ⟨by omega,λe=>by omega⟩
     omega
    show 2<=s.step;omega
   exact hL.send hi 3 0 false p.m.s 3 (by show s.step<=3;omega) (zjA _) (zj1 (by show s.step<3;omega)) (λ_ _=>⟨hQ,rfl,rfl⟩) (λe=>by cases e)
  exact h.congr rfl rfl rfl rfl rfl rfl rfl rfl rfl
 exact h
theorem NI.giveUp(h:NI n i x0 s)(hi:i<n):NI n i x0 (s.zf4 i).2:=by
 unfold za.zf4;split
 .rename_i hs;exact h.zhE hi hs.1
 exact h
theorem NI.zi5(h:NI n i x0 s):NI n i x0 s.zf7.2:=by
 unfold za.zf7;split
 .exact h.timer 2 2
 exact h
theorem NI.zi4(h:NI n i x0 s):NI n i x0 s.zf9.2:=by
 unfold za.zf9;split
 .exact h.timer 3 2
 exact h
theorem NI.zfT(h:NI n i x0 s)(hi:i<n):NI n i x0 (s.zfT (za.zfY i) i).2:=by
 unfold za.zfT;split
 .exact h.zfY hi
 split
 .exact h.follow hi
 split
 .exact h.answer hi λp hp=>zj0 (zjP hp)
 split
 .refine h.answer hi λp hp=>?_;unfold za.zgT at hp;rw[Bool.and_eq_true_iff] at hp;exact zj1 hp.2
 split
 .exact h.hold hi
 split
 .exact h.giveUp hi
 split
 .exact h.zi5
 exact h.zi4
theorem NI.zgn(hi:i<n):∀(f:Nat) (s:za),NI n i x0 s->NI n i x0 (za.zgn i f s)
 |0,_,h=>h
 |f+1,s,h=>by
  unfold za.zgn;split
  .exact NI.zgn hi f _ (h.zfT hi)
  .exact h
theorem NI.zgN(h:NI n i x0 s)(hi:i<n):NI n i x0 (s.zge i):=NI.zgn hi 2200 s h
theorem NI.take(h:NI n i x0 s){e:zl}(h1:e.m.h=(s.zfF:Int)->xA n s.sg s.zfF e)(h2:e.m.h≠(s.zfF:Int)->xA n s.sg (s.zfF+1) e)(h3:∀x∈s.zf8 e.m.h,x.fr≠e.fr):NI n i x0 (s.zf5 e):=by
 unfold za.zf8 at h3;unfold za.zf5;split
 .rename_i hh;rw[zj2 hh] at h3;refine { h with log:=λx hx=>?_,mine:=λfr hf=>?_,nd:=h.nd.snoc (λ_ x hx _=>h3 x hx) }
  .rcases List.mem_append.1 hx with hx|hx
   .exact h.log x hx
   rw[List.mem_singleton.1 hx];exact h1 hh
  have h5:=h.mine fr hf;exact⟨h5.ok,h5.f,h5.pos⟩
 rename_i hh;rw[zj3 hh] at h3;refine { h with ahead:=λx hx=>?_,mine:=λfr hf=>?_,nda:=h.nda.snoc (λ_ x hx _=>h3 x hx) }
 .rcases List.mem_append.1 hx with hx|hx
  .exact h.ahead x hx
  rw[List.mem_singleton.1 hx];exact h2 hh
 have h5:=h.mine fr hf;exact⟨h5.ok,h5.f,h5.pos⟩
theorem Qp{l:List xC}{k:Nat}{d:xC}(h:∀e,l[k]? =some e->d.block=e.block/\d.cert=e.cert):(l.set k d).map (λd=>(d.block,d.cert))=l.map (λd=>(d.block,d.cert)):=by
 apply List.ext_getElem?;intro j;rw[List.getElem?_map,List.getElem?_map,List.getElem?_set];split
 .rename_i e;subst e;split
  .rename_i hk;rw[zjJ hk];have:=h _ (zjJ hk);simp[this]
  rename_i hk;rw[List.getElem?_eq_none (by omega)]
 rfl
theorem NI.tell(h:NI n i x0 s)(k:Nat):NI n i x0 (s.zf2 k):=by
 unfold za.zf2;split
 .exact h
 refine h.congr rfl ?_ rfl rfl rfl rfl rfl rfl rfl;exact Qp λe he=>by
  show(s.dec.getD k yr).block=_/\(s.dec.getD k yr).cert=_;rw[zjK,he];exact⟨rfl,rfl⟩
theorem zdl{l:List zj5}(h:zaM l t=true):t∈l:=by
 by_cases hm:t∈l
 .exact hm
 rw[Qz hm] at h;cases h
theorem NI.exp(h:NI n i x0 s)(hi:i<n)(t:zU):NI n i x0 (s.zga i t):=by
 unfold za.zga;split
 .split
  .rename_i hs;exact h.zhF hi hs.2
  split
  .rename_i hs;exact h.zhE hi hs.2
  split
  .exact NI.zfH (h.zfL (Nat.lt_succ_self _)) hi
  exact h
 exact h
theorem NI.zf0(hi:i<n):∀(f:Nat) (s:za),NI n i x0 s->NI n i x0 (za.zf0 i f s)
 |0,_,h=>h
 |f+1,s,h=>by
  unfold za.zf0;split
  .exact h
  .split
   .refine NI.zf0 hi f _ (NI.zgN (NI.exp ?_ hi _) hi);exact h.congr rfl rfl rfl rfl rfl rfl rfl rfl rfl
   .exact h
theorem NI.tick(h:NI n i x0 s)(hi:i<n):NI n i x0 (s.zfW i):=by
 have h1:NI n i x0 s.zfN:=by
  refine h.congr rfl ?_ rfl rfl rfl rfl rfl rfl rfl;show(s.dec.map λd=>{ d with told:=false }).map (λd=>(d.block,d.cert))=s.dec.map (λd=>(d.block,d.cert));rw[List.map_map];rfl
 have h2:=NI.zf0 hi (s.tims.length+1) s.zfN h1;unfold za.zfW za.again;split
 .exact h2.congr rfl rfl rfl rfl rfl rfl rfl rfl rfl
 exact h2
theorem NI.sub(h:NI n i x0 s)(t:zj5):NI n i x0 (s.zgd t):=by
 unfold za.zgd;split
 .exact h.congr rfl rfl rfl rfl rfl rfl rfl rfl rfl
 exact h
theorem NI.sent(h:NI n i x0 s):NI n i x0 { s with out:=[] }:=h.congr rfl rfl rfl rfl rfl rfl rfl rfl rfl
end
section
variable{l:List zU}
theorem qG(a b:zU):zC a b=true↔a.due<b.due\/(a.due=b.due/\a.beg<b.beg):=by
 unfold zC;split
 .rw [decide_eq_true_eq];omega
 rw[decide_eq_true_eq];omega
theorem yi(a b:zU):zC a b=false↔b.due<a.due\/(a.due=b.due/\b.beg<=a.beg):=by
 unfold zC;split
 .rw [decide_eq_false_iff_not];omega
 rw[decide_eq_false_iff_not];omega
def parT(j:Nat):Nat:=(j-1) / 2
def tg(l:List zU)(k:Nat):zU:=l.getD k kS
def qx(l:List zU):Prop:=∀j,0<j->j<l.length->zC (tg l j) (tg l (parT j))=false
theorem vl{i j:Nat}(hi:i<l.length)(hj:j<l.length)(k:Nat):tg (swapT l i j) k=if k=j then tg l i else if k=i then tg l j else tg l k:=by
 unfold tg swapT;simp only[List.getD_eq_getElem?_getD,List.getElem?_set,List.length_set];by_cases h1:k=j
 .subst h1;simp[hj]
 rw[zj3 (λe=>h1 e.symm),zj3 h1];by_cases h2:k=i
 .subst h2;simp[hi]
 rw[zj3 (λe=>h2 e.symm),zj3 h2]
theorem Xw:∀(f:Nat) (l:List zU) (i:Nat),i<=f->i<l.length->(∀j,j≠i->0<j->j<l.length->zC (tg l j) (tg l (parT j))=false)->(∀j,parT j=i->0<j->j<l.length->0<i->zC (tg l j) (tg l (parT i))=false)->qx (upT f l i)
 |0,l,i,hf,hi,h1,h2=>λj hj hl=>h1 j (by omega) hj hl
 |f+1,l,i,hf,hi,h1,h2=>by
  rw[upT];split
  .rename_i e;exact λj hj hl=>h1 j (by omega) hj hl
  .rename_i e;split
   .rename_i hb;have hp:(i-1) / 2<l.length:=by omega
    have ad:(i-1) / 2<i:=by omega
    have hb':=(qG _ _).1 (show zC (tg l i) (tg l (parT i))=true from hb);have ae:(i-1) / 2=parT i:=rfl;refine Xw f _ _ (by omega) (by rw[zY];exact hp) (λj hj h0 hl=>?_) λj hj h0 hl af=>?_
    .rw [zY] at hl;rw[vl hi hp,vl hi hp,ae];rw[ae] at hj;rw[zj3 hj];have hu:parT i<i:=ad;by_cases ji:j=i
     .subst ji;rw[zj2 rfl,zj2 rfl,yi];omega
     .rw [zj3 ji];have aa:=h1 j ji h0 hl;by_cases q1:parT j=parT i
      .rw [zj2 q1];rw[q1] at aa;rw[yi] at aa ⊢;omega
      .rw [zj3 q1];by_cases q2:parT j=i
       .rw [zj2 q2];exact h2 j q2 h0 hl (by omega)
       .rw [zj3 q2];exact aa
    .rw [zY] at hl;rw[vl hi hp,vl hi hp,ae];rw[ae] at hj af;have hgp:parT (parT i)<parT i:=by unfold parT at af ⊢;omega
     rw[zj3 (show¬parT (parT i)=parT i by omega),zj3 (show¬parT (parT i)=i by have:parT i<i:=ad;omega)];have hg:=h1 (parT i) (by have:parT i<i:=ad;omega) af (by have:parT i<i:=ad;omega);have ag:¬j=parT i:=λe=>by rw[e] at hj;omega
     rw[zj3 ag];by_cases ji:j=i
     .rw [zj2 ji];exact hg
     .rw [zj3 ji];have aa:=h1 j ji h0 hl;rw[hj] at aa;rw[yi] at aa hg ⊢;omega
   .rename_i hb;intro j h0 hl;by_cases ji:j=i
    .subst ji;have:zC (tg l j) (tg l (parT j))≠true:=hb;simpa using this
    .exact h1 j ji h0 hl
theorem zde(l:List zU)(i:Nat):
 (yT l i=i/\(∀j,parT j=i->0<j->j<l.length->zC (tg l j) (tg l i)=false))\/
 (parT (yT l i)=i/\i<yT l i/\yT l i<l.length/\zC (tg l (yT l i)) (tg l i)=true/\∀j,parT j=i->0<j->j<l.length->zC (tg l j) (tg l (yT l i))=false):=by
 have hj:∀j,parT j=i->0<j->j=2*i+1\/j=2*i+2:=λj h h0=>by unfold parT at h;omega
 have u:yT l i=(if 2*i+2<l.length/\zC (tg l (2*i+2)) (tg l (if 2*i+1<l.length/\zC (tg l (2*i+1)) (tg l i)=true then 2*i+1 else i))=true then 2*i+2 else(if 2*i+1<l.length/\zC (tg l (2*i+1)) (tg l i)=true then 2*i+1 else i)):=rfl;rw[u];by_cases c1:2*i+1<l.length/\zC (tg l (2*i+1)) (tg l i)=true
 .rw [zj2 c1];by_cases c2:2*i+2<l.length/\zC (tg l (2*i+2)) (tg l (2*i+1))=true
  .rw [zj2 c2];have a1:=(qG _ _).1 c1.2;have a2:=(qG _ _).1 c2.2;refine zj1 ⟨by unfold parT;omega,by omega,c2.1,(qG _ _).2 (by omega),λj h h0 hl=>?_⟩;rcases hj j h h0 with rfl|rfl
   .rw [yi];omega
   rw[yi];omega
  rw[zj3 c2];refine zj1 ⟨by unfold parT;omega,by omega,c1.1,c1.2,λj h h0 hl=>?_⟩;rcases hj j h h0 with rfl|rfl
  .rw [yi];omega
  cases hb:zC (tg l (2*i+2)) (tg l (2*i+1)) with
  |true=>exact absurd ⟨hl,hb⟩ c2
  |false=>rfl
 rw[zj3 c1];by_cases c2:2*i+2<l.length/\zC (tg l (2*i+2)) (tg l i)=true
 .rw [zj2 c2];refine zj1 ⟨by unfold parT;omega,by omega,c2.1,c2.2,λj h h0 hl=>?_⟩;have a2:=(qG _ _).1 c2.2;rcases hj j h h0 with rfl|rfl
  .have hb:zC (tg l (2*i+1)) (tg l i)=false:=by
    cases hb:zC (tg l (2*i+1)) (tg l i) with
    |true=>exact absurd ⟨hl,hb⟩ c1
    |false=>rfl
   rw[yi] at hb ⊢;omega
  rw[yi];omega
 rw[zj3 c2];refine zj0 ⟨rfl,λj h h0 hl=>?_⟩;rcases hj j h h0 with rfl|rfl
 .cases hb:zC (tg l (2*i+1)) (tg l i) with
  |true=>exact absurd ⟨hl,hb⟩ c1
  |false=>rfl
 cases hb:zC (tg l (2*i+2)) (tg l i) with
 |true=>exact absurd ⟨hl,hb⟩ c2
 |false=>rfl
theorem Kv:∀(f:Nat) (l:List zU) (i:Nat),l.length<=f+i->(∀j,parT j≠i->0<j->j<l.length->zC (tg l j) (tg l (parT j))=false)->(∀j,parT j=i->0<j->j<l.length->0<i->zC (tg l j) (tg l (parT i))=false)->qx (qZ f l i)
 |0,l,i,hf,h1,h2=>λj h0 hl=>by
  have hl':j<l.length:=hl;exact h1 j (by unfold parT;omega) h0 hl'
 |f+1,l,i,hf,h1,h2=>by
  rcases Nat.lt_or_ge i l.length with hi|hi
  .rw [qZ];rcases zde l i with⟨e,hc⟩|⟨e,hlt,hle,hb,hc⟩
   .rw [zj2 e];intro j h0 hl;by_cases q:parT j=i
    .rw [q];exact hc j q h0 hl
    .exact h1 j q h0 hl
   .rw [zj3 (by omega)];generalize hcd:yT l i=c at e hlt hle hb hc ⊢;have hb':=(qG _ _).1 hb;refine Kv f _ c (by rw[zY];omega) (λj hj h0 hl=>?_) λj hj h0 hl hc0=>?_
    .rw [zY] at hl;rw[vl hi hle,vl hi hle,zj3 hj];have hpj:parT j<j:=by unfold parT;omega
     by_cases q1:j=c
     .subst q1;rw[zj2 rfl,zj2 e,yi];omega
     .rw [zj3 q1];by_cases q2:j=i
      .subst q2;rw[zj2 rfl,zj3 (by omega)];exact h2 c e (by omega) hle h0
      .rw [zj3 q2];by_cases q3:parT j=i
       .rw [zj2 q3];exact hc j q3 h0 hl
       .rw [zj3 q3];exact h1 j q3 h0 hl
    .rw [zY] at hl;have hpj:parT j<j:=by unfold parT;omega
     rw[vl hi hle,vl hi hle,e,zj3 (show¬j=c by omega),zj3 (show¬j=i by omega),zj3 (show¬i=c by omega),zj2 rfl];have:=h1 j (by omega) h0 hl;rw[hj] at this;exact this
  .have hn:yT l i=i:=gK 2 _ (by omega);rw[qZ,zj2 hn];exact λj h0 hl=>h1 j (by unfold parT;omega) h0 hl
theorem qx.root(h:qx l):∀(j:Nat),j<l.length->zC (tg l j) (tg l 0)=false:=by
 intro j;induction j using Nat.strongRecOn with
 |ind j ih=>
  intro hl;by_cases h0:j=0
  .subst h0;rw[yi];omega
  have h1:=h j (by omega) hl;have h2:=ih (parT j) (by unfold parT;omega) (by unfold parT;omega);rw[yi] at h1 h2 ⊢;omega
theorem qx.more(h:qx l)(t:zU):qx (upT l.length (l++[t]) l.length):=by
 have hg:∀k,k<l.length->tg (l++[t]) k=tg l k:=λk hk=>by
  unfold tg;rw[zjK,zjK,zjN hk]
 refine Xw _ _ _ (zjA _) (by simp) (λj hj h0 hl=>?_) λj hj h0 hl hp=>?_
 .rw [zjO,List.length_singleton] at hl;have hp:parT j<l.length:=by unfold parT;omega
  rw[hg j (by omega),hg _ hp];exact h j h0 (by omega)
 rw[zjO,List.length_singleton] at hl;unfold parT at hj;omega
theorem qx.rest(h:qx l):qx (jN l):=by
 unfold jN;have aa:((l.set 0 (l.getD (l.length-1) kS)).take (l.length-1)).length=l.length-1:=by simp
 refine Kv _ _ _ (by rw[aa];omega) (λj hj h0 hl=>?_) (λ_ _ _ _ h0=>absurd h0 (by omega));rw[aa] at hl;have hg:∀k,0<k->k<l.length-1->tg ((l.set 0 (l.getD (l.length-1) kS)).take (l.length-1)) k=tg l k:=λk h0 hk=>by
  unfold tg;simp only[List.getD_eq_getElem?_getD];rw[zkc,zj2 hk,List.getElem?_set,zj3 (by omega)]
 have hp:0<parT j:=by omega
 have ad:parT j<l.length-1:=by unfold parT;omega
 rw[hg j h0 hl,hg _ hp ad];exact h j h0 (by omega)
end
section
variable{s:za}{i:Nat}{C:za->Prop}{t:zj5}{k:Int}{nl:Bool}
theorem za8{r:Nat}(h:s.zfV r=true):s.round<r:=by
 unfold za.zfV at h;exact zjP (Bool.and_eq_true_iff.1 h).1
theorem zE(h:(s.zfT (za.zfY i) i).1=true)
 (c1:∀p,s.zgr=some p->C (s.zfR i p))
 (c2:s.zgr=none->∀r,r<=20->s.round<r->s.zfV r=true->C (s.zfH i r))
 (c3:s.zgr=none->(∀r,r<=20->s.zfV r=false)->s.step=1->∀p∈s.log,p.m.k=1->p.m.r=(s.round:Int)->(p.m.v<0\/0<=p.m.v/\s.most (votesForB 2 p.m.v p.m.s)=true)->C (if s.zgP p=true then(s.zfI i 2 0 false p.m.s).zfO 2 else s.nothing i 2 2))
 (c5:s.zgr=none->(∀r,r<=20->s.zfV r=false)->¬s.step=1->s.held=false->∀p∈s.log,p.m.k=1->p.m.r=(s.round:Int)->s.most (votesForB 2 (s.round:Int) p.m.s)=true->s.zgc p.m.s=true->C (if s.step=2 then((s.zfZ p.m.s).zf3.zfI i 3 0 false p.m.s).zfO 3 else s.zfZ p.m.s))
 (c6:s.zgr=none->(∀r,r<=20->s.zfV r=false)->s.step=2->s.most (votesNoB 2 (s.round:Int))=true->C (s.nothing i 3 3))
 (c7:s.zgr=none->(∀r,r<=20->s.zfV r=false)->s.step=2->s.b2=false->s.most (votesB 2 (s.round:Int))=true->C (s.timer 2 2))
 (c8:s.zgr=none->(∀r,r<=20->s.zfV r=false)->s.b3=false->s.most (votesB 3 (s.round:Int))=true->C (s.timer 3 2)):C (s.zfT (za.zfY i) i).2:=by
 unfold za.zfT at h ⊢;cases hd:s.zgr with
 |some p=>
  have e:=qa (i:=i) hd;rw[e,zj2 rfl];exact c1 p hd
 |none=>
  have e:=qR (i:=i) hd;rw[e] at h ⊢;rw[zj3 zjX] at h ⊢;cases hf:(List.range 21).find? s.zfV with
  |some r=>
   have e2:s.zf1 i=(true,s.zfH i r):=by unfold za.zf1;rw[hf]
   rw[e2,zj2 rfl];have h3:s.zfV r=true:=List.find?_some hf;exact c2 hd r (by have:=List.mem_range.1 (List.mem_of_find?_eq_some hf);omega) (za8 h3) h3
  |none=>
   have e2:s.zf1 i=(false,s):=by unfold za.zf1;rw[hf]
   have hr:∀r,r<=20->s.zfV r=false:=λr hr=>by
    have:=List.find?_eq_none.1 hf r (List.mem_range.2 (by omega));simpa using this
   rw[e2] at h ⊢;rw[zj3 zjX] at h ⊢;have aa:∀fits:zl->Bool,(∀p,fits p=true->p.m.v<0\/0<=p.m.v/\s.most (votesForB 2 p.m.v p.m.s)=true)->(s.zfU i fits).1=true->C (s.zfU i fits).2:=λfits ad ha=>by
    by_cases h1:s.step=1
    .cases hp:propF s.log (s.round:Int) fits with
     |none=>rw[qg h1 hp] at ha;cases ha
     |some p=>
      rw[ko h1 hp];obtain⟨q1,q2,q3,q4⟩:=kY hp;exact c3 hd hr h1 p q1 q2 q3 (ad p q4)
    rw[yR h1] at ha;cases ha
   have fn:∀p,newB p=true->p.m.v<0\/0<=p.m.v/\s.most (votesForB 2 p.m.v p.m.s)=true:=λp hp=>zj0 (zjP hp);have fo:∀p,s.zgT p=true->p.m.v<0\/0<=p.m.v/\s.most (votesForB 2 p.m.v p.m.s)=true:=λp hp=>by
    unfold za.zgT at hp;rw[Bool.and_eq_true_iff] at hp;exact zj1 ⟨zjP hp.1,hp.2⟩
   split
   .rename_i h3;exact aa _ fn h3
   rename_i h3;rw[zj3 h3] at h;split
   .rename_i h4;exact aa _ fo h4
   rename_i h4;rw[zj3 h4] at h;split
   .rename_i h5;by_cases h6:¬s.step=1/\s.held=false
    .cases hp:s.zgF with
     |none=>rw[qE hp] at h5;cases h5
     |some p=>
      rw[jH h6.1 h6.2 hp];obtain⟨q1,q2,q3,q4⟩:=kY hp;rw[Bool.and_eq_true_iff] at q4;exact c5 hd hr h6.1 h6.2 p q1 q2 q3 q4.1 q4.2
    rw[xZ h6] at h5;cases h5
   rename_i h5;rw[zj3 h5] at h;split
   .rename_i h6;unfold za.zf4 at h6 ⊢;split
    .rename_i h7;exact c6 hd hr h7.1 h7.2
    rename_i h7;rw[zj3 h7] at h6;cases h6
   rename_i h6;rw[zj3 h6] at h;split
   .rename_i h7;unfold za.zf7 at h7 ⊢;split
    .rename_i h8;exact c7 hd hr h8.1 h8.2.1 h8.2.2
    rename_i h8;rw[zj3 h8] at h7;cases h7
   rename_i h7;rw[zj3 h7] at h;unfold za.zf9 at h ⊢;split
   .rename_i h8;exact c8 hd hr h8.1 h8.2
   rename_i h8;rw[zj3 h8] at h;cases h
structure kC (s:za):Prop where
 q1:s.zgr=none
 q2:∀r,r<=20->s.zfV r=false
 q3:s.step=1->∀p∈s.log,p.m.k=1->p.m.r=(s.round:Int)->0<=p.m.v/\s.most (votesForB 2 p.m.v p.m.s)=false
 q5:¬s.step=1->s.held=false->∀p∈s.log,p.m.k=1->p.m.r=(s.round:Int)->s.most (votesForB 2 (s.round:Int) p.m.s)=true->s.zgc p.m.s=false
 q6:s.step=2->s.most (votesNoB 2 (s.round:Int))=false
 q7:s.step=2->s.most (votesB 2 (s.round:Int))=true->s.b2=true
 q8:s.most (votesB 3 (s.round:Int))=true->s.b3=true
theorem xN{l:List zl}{r:Int}{fits:zl->Bool}(h:propF l r fits=none):∀p∈l,p.m.k=1->p.m.r=r->fits p=false:=λp hp hk hr=>by
 have h1:=List.find?_eq_none.1 h p hp;unfold jC at h1;rw[zjQ hk,zjQ hr] at h1;simpa using h1
theorem quiet_of(h:(s.zfT (za.zfY i) i).1=false):kC s:=by
 unfold za.zfT at h;cases hd:s.zgr with
 |some p=>rw[qa (i:=i) hd,zj2 rfl] at h;cases h
 |none=>
  rw[qR (i:=i) hd,zj3 zjX] at h;cases hf:(List.range 21).find? s.zfV with
  |some r=>
   have e2:s.zf1 i=(true,s.zfH i r):=by unfold za.zf1;rw[hf]
   rw[e2,zj2 rfl] at h;cases h
  |none=>
   have e2:s.zf1 i=(false,s):=by unfold za.zf1;rw[hf]
   rw[e2,zj3 zjX] at h;by_cases h3:(s.zfU i newB).1=true
   .rw [zj2 h3,h3] at h;cases h
   rw[zj3 h3] at h;by_cases h4:(s.zfU i s.zgT).1=true
   .rw [zj2 h4,h4] at h;cases h
   rw[zj3 h4] at h;by_cases h5:(s.zgm i).1=true
   .rw [zj2 h5,h5] at h;cases h
   rw[zj3 h5] at h;by_cases h6:(s.zf4 i).1=true
   .rw [zj2 h6,h6] at h;cases h
   rw[zj3 h6] at h;by_cases h7:s.zf7.1=true
   .rw [zj2 h7,h7] at h;cases h
   rw[zj3 h7] at h;refine⟨hd,λr hr=>?_,λh1 p hp hk hr=>?_,λh1 hh p hp hk hr hm=>?_,λh1=>?_,λh1 hm=>?_,λhm=>?_⟩
   .have:=List.find?_eq_none.1 hf r (List.mem_range.2 (by omega))
    simpa using this
   .have a1:propF s.log (s.round:Int) newB=none:=by
     cases e:propF s.log (s.round:Int) newB with
     |none=>rfl
     |some q=>exact absurd (by rw[ko h1 e]) h3
    have a2:propF s.log (s.round:Int) s.zgT=none:=by
     cases e:propF s.log (s.round:Int) s.zgT with
     |none=>rfl
     |some q=>exact absurd (by rw[ko h1 e]) h4
    have b1:=xN a1 p hp hk hr;have b2:=xN a2 p hp hk hr;have v0:0<=p.m.v:=by
     have:=of_decide_eq_false b1;omega
    unfold za.zgT at b2;rw[zjQ v0,Bool.true_and] at b2;exact⟨v0,b2⟩
   .have a1:s.zgF=none:=by
     cases e:s.zgF with
     |none=>rfl
     |some q=>exact absurd (by rw[jH h1 hh e]) h5
    have b1:=xN a1 p hp hk hr;rw[hm,Bool.true_and] at b1;exact b1
   .cases e:s.most (votesNoB 2 (s.round:Int)) with
    |false=>rfl
    |true=>exact absurd (by unfold za.zf4;rw[zj2 ⟨h1,e⟩]) h6
   .cases e:s.b2 with
    |true=>rfl
    |false=>exact absurd (by unfold za.zf7;rw[zj2 ⟨h1,e,hm⟩]) h7
   cases e:s.b3 with
   |true=>rfl
   |false=>
    unfold za.zf9 at h;rw[zj2 ⟨e,hm⟩] at h;cases h
theorem ye{t:zU}
 (c1:t.h=(s.zfF:Int)->t.r=(s.round:Int)->t.n=1->s.step=1->C (s.nothing i 2 2))
 (c2:t.h=(s.zfF:Int)->t.r=(s.round:Int)->t.n=2->s.step=2->C (s.nothing i 3 3))
 (c3:t.h=(s.zfF:Int)->t.r=(s.round:Int)->t.n=3->s.round<20->C (s.zfH i (s.round+1)))
 (c0:¬(t.h=(s.zfF:Int)/\t.r=(s.round:Int)/\((t.n=1/\s.step=1)\/(t.n=2/\s.step=2)\/(t.n=3/\s.round<20)))->C s):C (s.zga i t):=by
 unfold za.zga;split
 .rename_i h;split
  .rename_i h1;exact c1 h.1 h.2 h1.1 h1.2
  rename_i h1;split
  .rename_i h2;exact c2 h.1 h.2 h2.1 h2.2
  rename_i h2;split
  .rename_i h3;exact c3 h.1 h.2 h3.1 h3.2
  rename_i h3;exact c0 λ⟨_,_,hx⟩=>hx.elim h1 λhx=>hx.elim h2 h3
 rename_i h;exact c0 λhx=>h ⟨hx.1,hx.2.1⟩
def za.zie(s:za)(i:Nat)(k v:Int)(nl:Bool)(t:zj5):za:=
 { s with sg:=signR s.sg i (s.enc i k v nl t),out:=put1 s.out (s.enc i k v nl t),log:=s.log++[⟨s.msg i k v nl t,s.enc i k v nl t,true⟩] }
theorem Qa{v:Int}(hp:YH s.x (i:Int)≠0)(hb:hasB k (s.zfF:Int) (s.round:Int) (i:Int) v nl t.size=true):s.zfI i k v nl t=s.zie i k v nl t:=by
 unfold za.zfI;rw[zj3 hp,zj2 hb];rfl
theorem zct(hk:k=2\/k=3)(hh:s.zfF<12)(hr:s.round<=20)(hi:i<8)(ht:t.size<=24)(hn:nl=true->t.size=0):hasB k (s.zfF:Int) (s.round:Int) (i:Int) 0 nl t.size=true:=by
 unfold hasB;apply zjQ;refine⟨by omega,by omega,by omega,by omega,by omega,by omega,by omega,zj1 ⟨by omega,rfl,?_⟩⟩;cases nl with
 |false=>exact zj0 rfl
 |true=>exact zj1 (hn rfl)
end
section
variable{s s' a b c:za}{num ticks i st r S T:Nat}{t:zU}{e:Int}
def zfj(s:za)(num ticks:Nat):zU:=⟨(num:Int),(s.zfF:Int),(s.round:Int),(s.time:Int)+ticks+s.round,(s.tb:Int)⟩
theorem zx:t∈(s.timer num ticks).tims↔t∈s.tims\/t=zfj s num ticks:=by
 show t∈upT s.tims.length (s.tims++[zfj s num ticks]) s.tims.length↔_;rw[(ZA _ _ _ (by simp)).mem_iff,zjU,zjW]
theorem gz(h:qx s.tims):qx (s.timer num ticks).tims:=h.more _
theorem yQ(s:za)(i r:Nat):(s.prop r=i/\(s.zfH i r).tims=s.tims)\/(s.prop r≠i/\s.zfH i r=(s.zfL r 1).timer 1 3):=by
 unfold za.zfH;split
 .rename_i h;exact zj0 ⟨h,(zq _ _ _ _ _ _).2.2.2.2.2.2.2.2.2.2.2⟩
 rename_i h;exact zj1 ⟨h,rfl⟩
theorem zF(s:za)(i r:Nat):(s.zfH i r).dec=s.dec/\(s.zfH i r).round=r/\(s.zfH i r).step=1/\(s.zfH i r).held=false/\(s.zfH i r).b2=false/\(s.zfH i r).b3=false/\(s.zfH i r).x=s.x/\(s.zfH i r).time=s.time/\(s.zfH i r).wait=s.wait/\(s.zfH i r).ahead=s.ahead:=by
 unfold za.zfH;split
 .obtain ⟨h1,h2,h3,h4,-,h6,h7,h8,h9,ad,aa,-⟩:=zq (s.zfL r 1) i 1 s.vr false (if s.vr<0 then blockF s.x s.wait else s.vv)
  exact⟨h1,h2,h3,h4,h6,h7,h8,aa,h9,ad⟩
 exact⟨rfl,rfl,rfl,rfl,rfl,rfl,rfl,rfl,rfl,rfl⟩
structure yX (i:Nat) (s:za):Prop where
 heap:qx s.tims
 th:∀t∈s.tims,t.h<(s.zfF:Int)\/(t.h=(s.zfF:Int)/\t.r<=(s.round:Int))
 t12:∀t∈s.tims,t.h<12
 t2:∀t∈s.tims,t.n=2->t.h=(s.zfF:Int)->t.r=(s.round:Int)->2<=s.step
 st:s.zfF<12->1<=s.step
 f1:s.zfF<12->s.step=1->s.prop s.round≠i->∃t∈s.tims,t.n=1/\t.h=(s.zfF:Int)/\t.r=(s.round:Int)/\t.due<=(s.time:Int)+3+s.round
 f2:s.step=2->s.b2=true->∃t∈s.tims,t.n=2/\t.h=(s.zfF:Int)/\t.r=(s.round:Int)/\t.due<=(s.time:Int)+2+s.round
 f3:s.b3=true->s.round<20->∃t∈s.tims,t.n=3/\t.h=(s.zfF:Int)/\t.r=(s.round:Int)/\t.due<=(s.time:Int)+2+s.round
 b2s:s.b2=true->2<=s.step
 nw:s.zfF<12\/(s.b2=false/\s.b3=false/\s.step=0)
theorem yX.congr(h:yX i s)(h1:s'.tims=s.tims)(h2:s'.zfF=s.zfF)(h3:s'.round=s.round)(h4:s.step<=s'.step)(h5:s'.step≠s.step->s.zfF<12)(h6:s'.b2=s.b2)(h7:s'.b3=s.b3)(h8:s'.time=s.time)(h9:s'.x=s.x):yX i s':=by
 refine⟨by rw[h1];exact h.heap,?_,by rw[h1];exact h.t12,?_,?_,?_,?_,?_,?_,?_⟩
 .rw [h1,h2,h3];exact h.th
 .rw [h1,h2,h3];intro t ht a b c;have:=h.t2 t ht a b c;omega
 .rw [h2];intro a;have:=h.st a;omega
 .rw [h1,h2,h3,h8];intro a b c;refine h.f1 a (by have:=h.st a;omega) ?_;intro hc;apply c;unfold za.prop at hc ⊢;rw[h9,h2];exact hc
 .rw [h1,h2,h3,h8,h6];intro a b;exact h.f2 (by have:=h.b2s b;omega) b
 .rw [h1,h2,h3,h8,h7];exact h.f3
 .rw [h6];intro a;have:=h.b2s a;omega
 rw[h2,h6,h7];by_cases e:s'.step=s.step
 .rw [e];exact h.nw
 exact zj0 (h5 e)
theorem yX.send(h:yX i s)(k v:Int)(nl:Bool)(t:zj5):yX i (s.zfI i k v nl t):=by
 obtain⟨h1,h2,h3,-,-,h6,h7,h8,-,-,ad,aa⟩:=zq s i k v nl t;have hh:(s.zfI i k v nl t).zfF=s.zfF:=by unfold za.zfF;rw[h1]
 exact h.congr aa hh h2 (by omega) (λe=>absurd h3 e) h6 h7 ad h8
theorem yX.zfO(h:yX i s)(hs:s.step<=st)(hh:s.zfF<12):yX i (s.zfO st):=
 h.congr rfl rfl rfl hs (λ_=>hh) rfl rfl rfl rfl
theorem yX.zgg(h:yX i s)(k v:Int)(nl:Bool)(t:zj5)(hs:s.step<=st)(hh:s.zfF<12):yX i ((s.zfI i k v nl t).zfO st):=by
 obtain⟨h1,-,h3,-⟩:=zq s i k v nl t;exact(h.send k v nl t).zfO (by omega) (by unfold za.zfF;rw[h1];exact hh)
theorem yX.ziQ(h:yX i s)(hst:s.step=2):yX i (s.timer 2 2):=by
 have hh:s.zfF<12:=by
  rcases h.nw with h1|h1
  .exact h1
  omega
 refine⟨gz h.heap,λt ht=>?_,λt ht=>?_,λt ht a b c=>?_,λ_=>(by show 1<=s.step;omega),λa b=>?_,λ_ _=>?_,λa a'=>?_,λ_=>(by show 2<=s.step;omega),zj0 hh⟩
 .rcases zx.1 ht with h1|h1
  .exact h.th t h1
  rw[h1];exact zj1 ⟨rfl,Int.le_refl _⟩
 .rcases zx.1 ht with h1|h1
  .exact h.t12 t h1
  rw[h1];show(s.zfF:Int)<12;omega
 .show 2<=s.step;omega
 .have:s.step=1:=b
  omega
 .exact ⟨_,zx.2 (zj1 rfl),rfl,rfl,rfl,by show(s.time:Int)+((2:Nat):Int)+s.round<=s.time+2+s.round;omega⟩
 obtain⟨t,ht,q⟩:=h.f3 a a';exact⟨t,zx.2 (zj0 ht),q⟩
theorem yX.ziP(h:yX i s)(hh:s.zfF<12):yX i (s.timer 3 2):=by
 refine⟨gz h.heap,λt ht=>?_,λt ht=>?_,λt ht a b c=>?_,h.st,λa b c=>?_,λa b=>?_,λ_ _=>?_,h.b2s,zj0 hh⟩
 .rcases zx.1 ht with h1|h1
  .exact h.th t h1
  rw[h1];exact zj1 ⟨rfl,Int.le_refl _⟩
 .rcases zx.1 ht with h1|h1
  .exact h.t12 t h1
  rw[h1];show(s.zfF:Int)<12;omega
 .rcases zx.1 ht with h1|h1
  .exact h.t2 t h1 a b c
  rw[h1] at a;have:((3:Nat):Int)=2:=a;omega
 .obtain ⟨t,ht,q⟩:=h.f1 a b c
  exact⟨t,zx.2 (zj0 ht),q⟩
 .obtain ⟨t,ht,q⟩:=h.f2 a b
  exact⟨t,zx.2 (zj0 ht),q⟩
 exact⟨_,zx.2 (zj1 rfl),rfl,rfl,rfl,by show(s.time:Int)+((2:Nat):Int)+s.round<=s.time+2+s.round;omega⟩
theorem yX.begin(hp:qx s.tims)(ht:∀t∈s.tims,t.h<(s.zfF:Int)\/(t.h=(s.zfF:Int)/\t.r<(r:Int)))(h12:∀t∈s.tims,t.h<12)(hh:s.zfF<12):yX i (s.zfH i r):=by
 obtain⟨k1,k2,k3,k4,k5,k6,k7,k8,-,-⟩:=zF s i r;have kh:(s.zfH i r).zfF=s.zfF:=by unfold za.zfF;rw[k1]
 rcases yQ s i r with⟨hx,h1⟩|⟨hx,h1⟩
 .refine ⟨by rw[h1];exact hp,λt h2=>?_,by rw[h1];exact h12,λt h2 a b c=>?_,λ_=>(by omega),λa b c=>absurd ?_ c,λa=>?_,λa _=>?_,λa=>(by rw[k5] at a;cases a),zj0 (by rw[kh];exact hh)⟩
  .rw [h1] at h2;rw[kh,k2];rcases ht t h2 with h3|h3
   .exact zj0 h3
   exact zj1 ⟨h3.1,by omega⟩
  .rw [h1] at h2;rw[kh] at b;rw[k2] at c;rcases ht t h2 with h3|h3<;>omega
  .unfold za.prop at hx ⊢;rw[k7,kh,k2];exact hx
  .omega
  rw[k6] at a;cases a
 rw[h1];have hm:∀t,t∈((s.zfL r 1).timer 1 3).tims->t∈s.tims\/t=zfj (s.zfL r 1) 1 3:=λt h2=>zx.1 h2;refine⟨gz (s:=s.zfL r 1) hp,λt h2=>?_,λt h2=>?_,λt h2 a b c=>?_,λ_=>zjA 1,λ_ _ _=>?_,λ_ a=>(by cases a),λa=>(by cases a),λa=>(by cases a),zj0 hh⟩
 .rcases hm t h2 with h3|h3
  .rcases ht t h3 with h4|h4
   .exact zj0 h4
   exact zj1 ⟨h4.1,by show t.r<=(r:Int);omega⟩
  rw[h3];exact zj1 ⟨rfl,Int.le_refl _⟩
 .rcases hm t h2 with h3|h3
  .exact h12 t h3
  rw[h3];show(s.zfF:Int)<12;omega
 .rcases hm t h2 with h3|h3
  .have b':t.h=(s.zfF:Int):=b;have c':t.r=(r:Int):=c;rcases ht t h3 with h4|h4<;>omega
  rw[h3] at a;have:((1:Nat):Int)=2:=a;omega
 exact⟨_,zx.2 (zj1 rfl),rfl,rfl,rfl,by show(s.time:Int)+((3:Nat):Int)+r<=s.time+3+r;omega⟩
theorem yX.round(h:yX i s)(hr:s.round<r)(hh:s.zfF<12):yX i (s.zfH i r):=
 yX.begin h.heap (λt ht=>(h.th t ht).imp id λq=>⟨q.1,by omega⟩) h.t12 hh
theorem yb(s:za)(p:zl):(s.kept p).zfF=s.zfF+1:=by
 show(s.dec++[_]).length=s.dec.length+1;simp
theorem yX.keep(h:yX i s)(p:zl)(hh:s.zfF<12):yX i (s.zfR i p):=by
 have hk:=yb s p;have ht:∀t∈s.tims,t.h<((s.kept p).zfF:Int):=λt ht=>by
  rw[hk];rcases h.th t ht with h1|h1<;>omega
 unfold za.zfR;rw[zu];split
 .rename_i aa;have e:(((s.kept p).zfK ((s.kept p).ahead.filter λe=> !(s.kept p).zfJ e.m)).zfL 0 0).zfF=(s.kept p).zfF:=rfl;exact⟨h.heap,λt h2=>zj0 (by rw[e];exact ht t h2),h.t12,λt h2 _ b _=>(by rw[e] at b;have:=ht t h2;omega),λa=>(by rw[e] at a;omega),λa=>(by rw[e] at a;omega),λa=>(by cases a),λa=>(by cases a),λa=>(by cases a),zj1 ⟨rfl,rfl,rfl⟩⟩
 rename_i aa;exact yX.begin h.heap (λt h2=>zj0 (ht t h2)) h.t12 (by show(s.kept p).zfF<12;omega)
theorem G4{f:zl->Bool}(hx:Dom s.x)(h:s.log=[]):s.most f=false:=by
 unfold za.most;rw[h];exact km hx (by decide) (λe he=>by cases he)
theorem Jk(hx:Dom s.x)(h:s.log=[]):s.zfV r=false:=by
 unfold za.zfV;rw[h,km hx (by decide) (λe he=>by cases he)];simp
theorem NOk.low(h:NOk S T i e s){x:zl}(hx:x∈s.log):s.zfF<12:=by
 have:=h.log.hh x hx;omega
theorem NOk.zhm(h:NOk S T i e s){f:zl->Bool}(hm:s.most f=true):s.zfF<12:=by
 cases hl:s.log with
 |nil=>rw[G4 h.dom hl] at hm;cases hm
 |cons a l=>exact h.low (x:=a) (by rw[hl];exact zjV ..)
theorem NOk.zg0(h:NOk S T i e s){r:Nat}(hm:s.zfV r=true):s.zfF<12:=by
 cases hl:s.log with
 |nil=>rw[Jk h.dom hl] at hm;cases hm
 |cons a l=>exact h.low (x:=a) (by rw[hl];exact zjV ..)
theorem yX.one(h:yX i s)(ok:NOk S T i e s)(ht:(s.zfT (za.zfY i) i).1=true):yX i (s.zfT (za.zfY i) i).2:=by
 refine zE (C:=yX i) ht (λp hp=>?_) (λ_ r _ hr hb=>h.round hr (ok.zg0 hb)) (λ_ _ hs p hp _ _ _=>?_) (λ_ _ hs _ p hp _ _ _ _=>?_) (λ_ _ hs hm=>h.zgg 3 0 true _ (by omega) (ok.zhm hm)) (λ_ _ hs _ _=>h.ziQ hs) (λ_ _ _ hm=>h.ziP (ok.zhm hm))
 .obtain ⟨r,_,h2⟩:=jt hp
  exact h.keep p (ok.low (yO h2).1)
 .split
  .exact h.zgg 2 0 false _ (by omega) (ok.low hp)
  exact h.zgg 2 0 true _ (by omega) (ok.low hp)
 have h2:yX i (s.zfZ p.m.s):=h.congr rfl rfl rfl (zjA _) (λe=>absurd rfl e) rfl rfl rfl rfl;split
 .rename_i e2;have h3:yX i (s.zfZ p.m.s).zf3:=h2.congr rfl rfl rfl (zjA _) (λe=>absurd rfl e) rfl rfl rfl rfl;exact h3.zgg 3 0 false _ (by show s.step<=3;omega) (ok.low hp)
 exact h2
def Fwd(s s':za):Prop:=s.time<=s'.time/\(s.zfF<s'.zfF\/(s.zfF=s'.zfF/\(s.round<s'.round\/(s.round=s'.round/\s.step<=s'.step))))
theorem Fwd.refl(s:za):Fwd s s:=⟨zjA _,zj1 ⟨rfl,zj1 ⟨rfl,zjA _⟩⟩⟩
theorem Fwd.trans(h:Fwd a b)(h':Fwd b c):Fwd a c:=by
 unfold Fwd at h h' ⊢;omega
def Vh(t:zU)(s:za):Prop:=t.due<=(s.time:Int)/\(t.h<(s.zfF:Int)\/(t.h=(s.zfF:Int)/\(t.r<(s.round:Int)\/(t.r=(s.round:Int)/\(t.n=1->2<=s.step)/\(t.n=2->3<=s.step)/\(t.n=3->20<=s.round)))))
theorem Vh.fwd(h:Vh t s)(hf:Fwd s s'):Vh t s':=by
 unfold Vh at h ⊢;unfold Fwd at hf;refine⟨by omega,?_⟩;rcases h.2 with h1|⟨h1,h2⟩
 .exact zj0 (by omega)
 rcases hf.2 with h3|⟨h3,h4⟩
 .exact zj0 (by omega)
 refine zj1 ⟨by omega,?_⟩;rcases h2 with h2|⟨h2,a,b,c⟩
 .exact zj0 (by omega)
 rcases h4 with h4|h4
 .exact zj0 (by omega)
 exact zj1 ⟨by omega,λe=>(by have:=a e;omega),λe=>(by have:=b e;omega),λe=>(by have:=c e;omega)⟩
def Per(s s':za):Prop:=Fwd s s'/\∀t∈s.tims,t∈s'.tims\/Vh t s'
theorem Per.refl(s:za):Per s s:=⟨Fwd.refl s,λ_ h=>zj0 h⟩
theorem Per.trans(h:Per a b)(h':Per b c):Per a c:=⟨h.1.trans h'.1,λt ht=>(h.2 t ht).elim (h'.2 t) λhd=>zj1 (hd.fwd h'.1)⟩
theorem xQ(h1:s'.tims=s.tims)(h2:s'.zfF=s.zfF)(h3:s'.round=s.round)(h4:s.step<=s'.step)(h5:s.time<=s'.time):Per s s':=⟨by unfold Fwd;omega,λt ht=>zj0 (by rw[h1];exact ht)⟩
theorem ZD(s:za)(i:Nat)(k v:Int)(nl:Bool)(t:zj5)(st:Nat)(h:s.step<=st):Per s ((s.zfI i k v nl t).zfO st):=by
 obtain⟨h1,h2,h3,-,-,h6,h7,h8,-,-,h11,aa⟩:=zq s i k v nl t;exact xQ aa (by show(s.zfI i k v nl t).dec.length=s.dec.length;rw[h1]) h2 h (by show s.time<=(s.zfI i k v nl t).time;omega)
theorem Ju(s:za)(num ticks:Nat):Per s (s.timer num ticks):=⟨Fwd.refl s,λ_ ht=>zj0 (zx.2 (zj0 ht))⟩
theorem zbk(s:za)(i r:Nat)(h:s.round<r):Per s (s.zfH i r):=by
 obtain⟨k1,k2,-,-,-,-,-,k8,-,-⟩:=zF s i r;refine⟨?_,λt ht=>zj0 ?_⟩
 .unfold Fwd za.zfF;rw[k1,k2,k8];omega
 rcases yQ s i r with⟨_,h1⟩|⟨_,h1⟩
 .rw [h1];exact ht
 rw[h1];exact zx.2 (zj0 ht)
theorem XT(s:za)(i:Nat)(p:zl):Per s (s.zfR i p):=by
 have hk:=yb s p;unfold za.zfR;rw[zu];split
 .refine ⟨?_,λt ht=>zj0 ht⟩
  have e:(((s.kept p).zfK ((s.kept p).ahead.filter λe=> !(s.kept p).zfJ e.m)).zfL 0 0).zfF=s.zfF+1:=hk;unfold Fwd;rw[e];exact⟨zjA s.time,zj0 (by omega)⟩
 obtain⟨k1,k2,-,-,-,-,-,k8,-,-⟩:=zF ((s.kept p).zfK ((s.kept p).ahead.filter λe=> !(s.kept p).zfJ e.m)) i 0;refine⟨⟨by rw[k8];exact zjA s.time,zj0 ?_⟩,λt ht=>zj0 ?_⟩
 .show s.zfF<List.length _;rw[k1];show s.zfF<(s.kept p).zfF;omega
 rcases yQ ((s.kept p).zfK ((s.kept p).ahead.filter λe=> !(s.kept p).zfJ e.m)) i 0 with⟨_,h1⟩|⟨_,h1⟩
 .rw [h1];exact ht
 rw[h1];exact zx.2 (zj0 ht)
theorem zbj(hs3:s.step<=3)(ht:(s.zfT (za.zfY i) i).1=true):Per s (s.zfT (za.zfY i) i).2:=by
 refine zE (C:=Per s) ht (λp _=>XT s i p) (λ_ r _ hr _=>zbk s i r hr) (λ_ _ hs p _ _ _ _=>?_) (λ_ _ hs _ p _ _ _ _ _=>?_) (λ_ _ hs _=>ZD s i 3 0 true _ 3 (by omega)) (λ_ _ _ _ _=>Ju s 2 2) (λ_ _ _ _=>Ju s 3 2)
 .split
  .exact ZD s i 2 0 false _ 2 (by omega)
  exact ZD s i 2 0 true _ 2 (by omega)
 split
 .exact (xQ (s:=s) (s':=(s.zfZ p.m.s).zf3) rfl rfl rfl (zjA _) (zjA _)).trans (ZD _ i 3 0 false _ 3 hs3)
 exact xQ rfl rfl rfl (zjA _) (zjA _)
end
section
variable{t u:zU}{l:List zU}{i S T:Nat}{s:za}
theorem zcM(h:u∈t::l)(hne:u≠t):u∈jN (t::l):=by
 rw[(qD t l).mem_iff];rcases List.mem_cons.1 h with h1|h1
 .exact absurd h1 hne
 exact h1
theorem vS(h:u∈jN (t::l)):u∈t::l:=List.mem_cons_of_mem t ((qD t l).mem_iff.1 h)
theorem yX.zgq(h:yX i s)(hs3:s.step<=3)(hl:s.tims=t::l)(hd:t.due<=(s.time:Int)):yX i (s.zfQ.zga i t)/\Per s (s.zfQ.zga i t):=by
 have ag:t∈s.tims:=by rw[hl];exact zjV ..
 have e0:s.zfQ.tims=jN (t::l):=by show jN s.tims=_;rw[hl]
 have ad:∀u∈s.zfQ.tims,u∈s.tims:=λu hu=>by
  rw[e0] at hu;rw[hl];exact vS hu
 have aa:∀u∈s.tims,u≠t->u∈s.zfQ.tims:=λu hu aj=>by
  rw[e0];rw[hl] at hu;exact zcM hu aj
 have ae:qx s.zfQ.tims:=h.heap.rest;have h12:=h.t12 t ag;refine ye (C:=λz=>yX i z/\Per s z) (λa b c d=>?_) (λa b c d=>?_) (λa b c d=>?_) λai=>?_
 .have hh:s.zfF<12:=by have:t.h=(s.zfF:Int):=a;omega
  obtain⟨k1,k2,k3,-,-,k6,k7,k8,-,-,k11,k12⟩:=zq s.zfQ i 2 0 true ⟨#[]⟩;have d':s.step=1:=d;have kh:(s.zfQ.nothing i 2 2).zfF=s.zfF:=by show List.length _=_;rw[show(s.zfQ.nothing i 2 2).dec=s.dec from k1];rfl
  have kt:(s.zfQ.nothing i 2 2).tims=s.zfQ.tims:=k12;have kr:(s.zfQ.nothing i 2 2).round=s.round:=k2;have kti:(s.zfQ.nothing i 2 2).time=s.time:=k11;have kb3:(s.zfQ.nothing i 2 2).b3=s.b3:=k7;have kb2:(s.zfQ.nothing i 2 2).b2=s.b2:=k6;have nb2:s.b2=false:=by
   cases hb:s.b2 with
   |false=>rfl
   |true=>have:=h.b2s hb;omega
  refine⟨⟨by rw[kt];exact ae,?_,?_,λ_ _ _ _ _=>zjA 2,λ_=>(by show 1<=2;omega),λ_ x=>(by cases x),λ_ x=>(by rw[kb2,nb2] at x;cases x),?_,λx=>(by rw[kb2,nb2] at x;cases x),zj0 (by rw[kh];exact hh)⟩,⟨?_,λu hu=>?_⟩⟩
  .rw [kt,kh,kr];exact λu hu=>h.th u (ad u hu)
  .rw [kt];exact λu hu=>h.t12 u (ad u hu)
  .rw [kt,kh,kr,kti,kb3];intro x y;obtain⟨u,hu,q1,q2⟩:=h.f3 x y;exact⟨u,aa u hu (λe=>by rw[e] at q1;omega),q1,q2⟩
  .unfold Fwd;rw[kh,kr,kti];exact⟨zjA _,zj1 ⟨rfl,zj1 ⟨rfl,by show s.step<=2;omega⟩⟩⟩
  by_cases e:u=t
  .refine zj1 ⟨by rw[kti,e];exact hd,zj1 ⟨by rw[kh,e];exact a,zj1 ⟨by rw[kr,e];exact b,λ_=>zjA 2,λx=>?_,λx=>?_⟩⟩⟩
   .rw [e] at x;omega
   rw[e] at x;omega
  exact zj0 (by rw[kt];exact aa u hu e)
 .have hh:s.zfF<12:=by have:t.h=(s.zfF:Int):=a;omega
  obtain⟨k1,k2,k3,-,-,k6,k7,k8,-,-,k11,k12⟩:=zq s.zfQ i 3 0 true ⟨#[]⟩;have d':s.step=2:=d;have kh:(s.zfQ.nothing i 3 3).zfF=s.zfF:=by show List.length _=_;rw[show(s.zfQ.nothing i 3 3).dec=s.dec from k1];rfl
  have kt:(s.zfQ.nothing i 3 3).tims=s.zfQ.tims:=k12;have kr:(s.zfQ.nothing i 3 3).round=s.round:=k2;have kti:(s.zfQ.nothing i 3 3).time=s.time:=k11;have kb3:(s.zfQ.nothing i 3 3).b3=s.b3:=k7;refine⟨⟨by rw[kt];exact ae,?_,?_,λ_ _ _ _ _=>(by show 2<=3;omega),λ_=>(by show 1<=3;omega),λ_ x=>(by cases x),λx=>(by cases x),?_,λx=>(by show 2<=3;omega),zj0 (by rw[kh];exact hh)⟩,⟨?_,λu hu=>?_⟩⟩
  .rw [kt,kh,kr];exact λu hu=>h.th u (ad u hu)
  .rw [kt];exact λu hu=>h.t12 u (ad u hu)
  .rw [kt,kh,kr,kti,kb3];intro x y;obtain⟨u,hu,q1,q2⟩:=h.f3 x y;exact⟨u,aa u hu (λe=>by rw[e] at q1;omega),q1,q2⟩
  .unfold Fwd;rw[kh,kr,kti];exact⟨zjA _,zj1 ⟨rfl,zj1 ⟨rfl,by show s.step<=3;omega⟩⟩⟩
  by_cases e:u=t
  .refine zj1 ⟨by rw[kti,e];exact hd,zj1 ⟨by rw[kh,e];exact a,zj1 ⟨by rw[kr,e];exact b,λ_=>(by show 2<=3;omega),λx=>zjA 3,λx=>?_⟩⟩⟩;rw[e] at x;omega
  exact zj0 (by rw[kt];exact aa u hu e)
 .have hh:s.zfF<12:=by have:t.h=(s.zfF:Int):=a;omega
  have a':t.h=(s.zfF:Int):=a;have b':t.r=(s.round:Int):=b;have hb:yX i (s.zfQ.zfH i (s.round+1)):=yX.begin ae (λu hu=>(h.th u (ad u hu)).imp id λq=>⟨q.1,by omega⟩) (λu hu=>h.t12 u (ad u hu)) hh;obtain⟨k1,k2,-,-,-,-,-,k8,-,-⟩:=zF s.zfQ i (s.round+1);have kh:(s.zfQ.zfH i (s.round+1)).zfF=s.zfF:=by unfold za.zfF;rw[k1];rfl
  have kti:(s.zfQ.zfH i (s.round+1)).time=s.time:=k8;refine⟨hb,⟨?_,λu hu=>?_⟩⟩
  .show Fwd s (s.zfQ.zfH i (s.round+1));unfold Fwd;rw[kh,k2,kti];omega
  by_cases e:u=t
  .refine zj1 ?_;show Vh u (s.zfQ.zfH i (s.round+1));unfold Vh;rw[kh,k2,kti,e];exact⟨hd,zj1 ⟨a',zj0 (by omega)⟩⟩
  refine zj0 ?_;show u∈(s.zfQ.zfH i (s.round+1)).tims;rcases yQ s.zfQ i (s.round+1) with⟨_,h1⟩|⟨_,h1⟩
  .rw [h1];exact aa u hu e
  rw[h1];exact zx.2 (zj0 (aa u hu e))
 have af:¬(t.h=(s.zfF:Int)/\t.r=(s.round:Int)/\((t.n=1/\s.step=1)\/(t.n=2/\s.step=2)\/(t.n=3/\s.round<20))):=ai;refine⟨⟨ae,λu hu=>h.th u (ad u hu),λu hu=>h.t12 u (ad u hu),λu hu=>h.t2 u (ad u hu),h.st,λx y z=>?_,λx y=>?_,λx y=>?_,h.b2s,h.nw⟩,⟨Fwd.refl s,λu hu=>?_⟩⟩
 .obtain ⟨u,hu,q1,q2,q3,q4⟩:=h.f1 x y z
  exact⟨u,aa u hu (λe=>af ⟨by rw[<-e];exact q2,by rw[<-e];exact q3,zj0 ⟨by rw[<-e];exact q1,y⟩⟩),q1,q2,q3,q4⟩
 .obtain ⟨u,hu,q1,q2,q3,q4⟩:=h.f2 x y
  exact⟨u,aa u hu (λe=>af ⟨by rw[<-e];exact q2,by rw[<-e];exact q3,zj1 (zj0 ⟨by rw[<-e];exact q1,x⟩)⟩),q1,q2,q3,q4⟩
 .obtain ⟨u,hu,q1,q2,q3,q4⟩:=h.f3 x y
  exact⟨u,aa u hu (λe=>af ⟨by rw[<-e];exact q2,by rw[<-e];exact q3,zj1 (zj1 ⟨by rw[<-e];exact q1,y⟩)⟩),q1,q2,q3,q4⟩
 by_cases e:u=t
 .refine zj1 ?_;rw[e];refine⟨hd,?_⟩;rcases h.th t ag with q|⟨q1,q2⟩
  .exact zj0 q
  refine zj1 ⟨q1,?_⟩;rcases Int.lt_or_eq_of_le q2 with q3|q3
  .exact zj0 q3
  refine zj1 ⟨q3,λx=>?_,λx=>?_,λx=>?_⟩
  .have ah:=h.st (by omega);rcases Nat.lt_or_ge s.step 2 with y|y
   .exact absurd ⟨q1,q3,zj0 ⟨x,by omega⟩⟩ af
   exact y
  .have ah:=h.t2 t ag x q1 q3;rcases Nat.lt_or_ge s.step 3 with y|y
   .exact absurd ⟨q1,q3,zj1 (zj0 ⟨x,by omega⟩)⟩ af
   exact y
  rcases Nat.lt_or_ge s.round 20 with y|y
  .exact absurd ⟨q1,q3,zj1 (zj1 ⟨x,y⟩)⟩ af
  exact y
 exact zj0 (aa u hu e)
theorem yX.go:∀(f:Nat) (s:za),NOk S T i 0 s->yX i s->yX i (za.zgn i f s)/\Per s (za.zgn i f s)
 |0,s,_,h=>⟨h,Per.refl s⟩
 |f+1,s,ok,h=>by
  rw[za.zgn];split
  .rename_i h1;obtain⟨a,b⟩:=yX.go f _ (ok.one h1).1 (h.one ok h1);exact⟨a,(zbj ok.stp h1).trans b⟩
  .exact ⟨h,Per.refl s⟩
def q9(s:za):Prop:=∀t∈s.tims,(s.time:Int)<t.due
theorem Kc(hh:qx s.tims)(h:∀t l,s.tims=t::l->¬t.due<=(s.time:Int)):q9 s:=λu hu=>by
 cases hl:s.tims with
 |nil=>rw[hl] at hu;cases hu
 |cons t l=>
  have h1:=h t l hl;obtain⟨j,hj,e⟩:=List.mem_iff_getElem.1 hu;have h2:=hh.root j hj;have e1:tg s.tims j=u:=by unfold tg;rw[zjK,zjJ hj];exact e
  have e2:tg s.tims 0=t:=by unfold tg;rw[hl];rfl
  rw[e1,e2] at h2;have:=(yi _ _).1 h2;omega
theorem yX.due:∀(f:Nat) (s:za),s.zgV<f->NOk S T i 0 s->yX i s->yX i (za.zf0 i f s)/\Per s (za.zf0 i f s)/\q9 (za.zf0 i f s)
 |0,s,hf,_,_=>absurd hf (Nat.not_lt_zero _)
 |f+1,s,hf,ok,h=>by
  rw[za.zf0];split
  .rename_i hl;exact⟨h,Per.refl s,Kc h.heap λt l e=>by rw[hl] at e;cases e⟩
  .rename_i t l hl;split
   .rename_i hd;obtain⟨a,b⟩:=h.zgq ok.stp hl hd;obtain⟨c,d⟩:=yX.go (S:=S) (T:=T) 2200 (s.zfQ.zga i t) ok.pop.exp a;have hn:=Gp (i:=i) hl hd;obtain⟨x,y,z⟩:=yX.due f ((s.zfQ.zga i t).zge i) (by omega) (ok.pop.exp).runs.2 c;exact⟨x,(b.trans d).trans y,z⟩
   .rename_i hd;refine⟨h,Per.refl s,Kc h.heap λt' l' e=>?_⟩;rw[hl] at e;cases e;exact hd
theorem yX.zfN(h:yX i s):yX i s.zfN:=by
 have kh:s.zfN.zfF=s.zfF:=by
  show(s.dec.map _).length=s.dec.length;simp
 refine⟨h.heap,?_,h.t12,?_,?_,λa b c=>?_,λa b=>?_,λa b=>?_,h.b2s,?_⟩
 .rw [kh];exact h.th
 .rw [kh];exact h.t2
 .rw [kh];exact h.st
 .rw [kh] at a ⊢;obtain⟨u,hu,q1,q2,q3,q4⟩:=h.f1 a b (λe=>c (by unfold za.prop at e ⊢;rw[kh];exact e));exact⟨u,hu,q1,q2,q3,by show u.due<=((s.time+1:Nat):Int)+3+s.round;omega⟩
 .rw [kh];obtain⟨u,hu,q1,q2,q3,q4⟩:=h.f2 a b;exact⟨u,hu,q1,q2,q3,by show u.due<=((s.time+1:Nat):Int)+2+s.round;omega⟩
 .rw [kh];obtain⟨u,hu,q1,q2,q3,q4⟩:=h.f3 a b;exact⟨u,hu,q1,q2,q3,by show u.due<=((s.time+1:Nat):Int)+2+s.round;omega⟩
 rw[kh];exact h.nw
theorem Jv(s:za):Per s s.zfN:=xQ rfl (by show(s.dec.map _).length=s.dec.length;simp) rfl (zjA _) (Nat.le_succ _)
theorem zaE(s:za):s.again.tims=s.tims/\s.again.zfF=s.zfF/\s.again.round=s.round/\s.again.step=s.step/\s.again.b2=s.b2/\s.again.b3=s.b3/\s.again.time=s.time/\s.again.x=s.x:=by
 unfold za.again;split<;>exact⟨rfl,rfl,rfl,rfl,rfl,rfl,rfl,rfl⟩
theorem yX.tick(h:yX i s)(ok:NOk S T i 0 s):yX i (s.zfW i)/\Per s (s.zfW i)/\q9 (s.zfW i):=by
 have hn:s.zfN.zgV<s.tims.length+1:=Nat.lt_succ_of_le List.countP_le_length;obtain⟨a,b,c⟩:=yX.due (S:=S) (T:=T+1) (s.tims.length+1) s.zfN hn ok.zfN h.zfN;obtain⟨k1,k2,k3,k4,k5,k6,k7,k8⟩:=zaE (za.zf0 i (s.tims.length+1) s.zfN);refine⟨a.congr k1 k2 k3 (Nat.le_of_eq k4.symm) (λe=>absurd k4 e) k5 k6 k7 k8,((Jv s).trans b).trans (xQ k1 k2 k3 (Nat.le_of_eq k4.symm) (Nat.le_of_eq k7.symm)),λu hu=>?_⟩;show((za.zf0 i (s.tims.length+1) s.zfN).again.time:Int)<u.due;rw[k7];have aa:u∈(za.zf0 i (s.tims.length+1) s.zfN).again.tims:=hu;rw[k1] at aa;exact c u aa
end
section
variable{t b:zj5}{x y:Nat->Int}{l:List zj5}
def Vk(b t:zj5):zj5:=b++⟨#[44]⟩++t
theorem jB(b t:zj5):(Vk b t).data.toList=b.data.toList++44::t.data.toList:=by
 unfold Vk;rw[ByteArray.data_append,ByteArray.data_append,Array.toList_append,Array.toList_append];simp
theorem xK(b t:zj5):(Vk b t).size=b.size+1+t.size:=by
 have h:=congrArg List.length (jB b t);rw[zjO,List.length_cons,Array.length_toList,Array.length_toList,Array.length_toList] at h;show(Vk b t).data.size=b.data.size+1+t.data.size;omega
theorem kW(b:zj5):b.data.toList.length=b.size:=by rw[Array.length_toList];rfl
theorem XG(b t:zj5)(j:Nat)(h:j<b.size):byt (Vk b t) j=byt b j:=by
 unfold byt;rw[jB,zjK,zjK,zjN (by rw[kW];exact h)]
theorem zd4(b t:zj5):byt (Vk b t) b.size=44:=by
 unfold byt;rw[jB,zjK,zjM (by rw[kW];exact zjA _),kW,Nat.sub_self];rfl
theorem za4(b t:zj5)(j:Nat):byt (Vk b t) (b.size+1+j)=byt t j:=by
 unfold byt;rw[jB,zjK,zjK,zjM (by rw[kW];omega),kW,show b.size+1+j-b.size=j+1 by omega,List.getElem?_cons_succ]
theorem za5(b t:zj5)(fr i:Nat)(h:i<=b.size):(Vk b t).extract fr i=b.extract fr i:=by
 apply ByteArray.ext;apply Array.toList_inj.1;rw[Lib.extract_data,Lib.extract_data,jB,List.drop_append];have hl:(b.data.toList.drop fr).length=b.size-fr:=by rw[List.length_drop,kW]
 rw[List.take_append_of_le_length (by rw[hl];omega)]
theorem zd5(b t:zj5):(Vk b t).extract (b.size+1) (Vk b t).size=t:=by
 apply ByteArray.ext;apply Array.toList_inj.1;rw[Lib.extract_data,jB,xK,List.drop_append,List.drop_eq_nil_of_le (by rw[kW];omega),kW,show b.size+1-b.size=1 by omega,List.nil_append,List.drop_succ_cons,List.drop_zero,List.take_of_length_le (by rw[kW];omega)]
theorem zak(h:yN t=true):0<t.size/\∀j,j<t.size->byt t j≠44:=by
 unfold yN qY at h;have h1:=zjP h;refine⟨by omega,λj hj=>?_⟩;match j,hj with
 |0,_=>omega
 |1,_=>omega
 |2,_=>omega
 |j+3,hj=>omega
theorem zb8(b t:zj5)(ht:∀j,j<t.size->byt t j≠44):∀(n fr i:Nat),b.size-i=n->i<=b.size->qb (Vk b t) fr i=qb b fr i++[t]:=by
 intro n;induction n with
 |zero=>
  intro fr i hn hi;have e:i=b.size:=by omega
  subst e;have hz:=xK b t;rw[xw _ fr _ (by omega) (zd4 b t),za5 b t fr _ (zjA _),jV,kA b _ _ (by omega),vF (Vk b t) (b.size+1) (b.size+1) t.size (by omega) (λk h1 h2=>?_)]
  .have e2:b.size+1+t.size=(Vk b t).size:=hz.symm;rw[e2,jV,kA _ _ _ (by omega),zd5];rfl
  rw[show k=b.size+1+(k-(b.size+1)) by omega,za4];exact ht _ (by omega)
 |succ n ih=>
  intro fr i hn hi;have hz:=xK b t;by_cases hc:byt b i=44
  .rw [xw (Vk b t) fr i (by omega) (by rw[XG b t i (by omega)];exact hc),xw b fr i (by omega) hc,za5 b t fr i hi,ih (i+1) (i+1) (by omega) (by omega)];rfl
  rw[gO (Vk b t) fr i (by omega) (by rw[XG b t i (by omega)];exact hc),gO b fr i (by omega) hc,ih fr (i+1) (by omega) (by omega)]
theorem zdA(ht:∀j,j<t.size->byt t j≠44):qb t 0 0=[t]:=by
 rw[vF t 0 0 t.size (by omega) (λk _ h2=>ht k (by omega)),zj8,jV,kA _ _ _ (by omega)]
 congr 1
 apply ByteArray.ext;apply Array.toList_inj.1;rw[Lib.extract_data,List.drop_zero,List.take_of_length_le (by rw[kW];omega)]
theorem vH(t:zj5):∀(l:List zj5) (x:Nat->Int),(behindL x l).2=true->behindL x (l++[t])=yS (behindL x l).1 t
 | [],x,_=>by
  show(if(yS x t).2 then _ else _)=_;split
  .rename_i h;show((yS x t).1,true)=yS x t;rw[<-h]
  .rename_i h;have h2:(yS x t).2=false:=by simpa using h
   show((yS x t).1,false)=yS x t;rw[<-h2]
 |a::l,x,h=>by
  have e:∀l,behindL x (a::l)=if(yS x a).2 then behindL (yS x a).1 l else((yS x a).1,false):=λ_=>rfl
  rw[e] at h;rw[List.cons_append,e,e];by_cases ha:(yS x a).2=true
  .rw [zj2 ha] at h;rw[zj2 ha,zj2 ha];exact vH t l _ h
  .rw [zj3 ha] at h;cases h
structure MadeI (x:Nat->Int) (b:zj5) (l:List zj5) (y:Nat->Int):Prop where
 cut:(b.size=0/\l=[])\/(b.size≠0/\qb b 0 0=l/\l≠[])
 form:l.all yN=true
 len:l.length<=3
 vot:votes l<2
 reg:behindL x l=(y,true)
 siz:b.size<=24
theorem MadeI.nil(x:Nat->Int):MadeI x ⟨#[]⟩ [] x:=⟨zj0 ⟨rfl,rfl⟩,rfl,by decide,by decide,rfl,by decide⟩
theorem MadeI.empty(h:MadeI x b l y):b=⟨#[]⟩↔l=[]:=by
 rcases h.cut with⟨h1,h2⟩|⟨h1,h2,h3⟩
 .exact ⟨λ_=>h2,λ_=>ByteArray.ext (Array.eq_empty_of_size_eq_zero h1)⟩
 exact⟨λe=>absurd (by rw[e];rfl) h1,λe=>absurd e h3⟩
theorem MadeI.next(h:MadeI x b l y){t:zj5}(ht:yN t=true):qb (jG b t) 0 0=l++[t]/\(jG b t).size≠0:=by
 obtain⟨h0,h1⟩:=zak ht;unfold jG;by_cases e:b=⟨#[]⟩
 .rw [zj2 e,h.empty.1 e,zdA h1];exact⟨rfl,by omega⟩
 rw[zj3 e];have hb:b.size≠0:=λhz=>e (ByteArray.ext (Array.eq_empty_of_size_eq_zero hz));rcases h.cut with⟨h2,_⟩|⟨_,h2,_⟩
 .exact absurd h2 hb
 refine⟨?_,by have:=xK b t;unfold Vk at this;omega⟩;have:=zb8 b t h1 _ 0 0 rfl (zjG _);rw[h2] at this;exact this
theorem MadeI.yes(h:MadeI x b l y){t:zj5}(ht:yN t=true)(h1:(yS y t).2=true)(h2:l.length≠3)(h3:(jG b t).size<=24)(h4:¬(byt t 0=118/\0<votes l)):
 qK x b t=jG b t/\MadeI x (jG b t) (l++[t]) (yS y t).1:=by
 obtain⟨e1,e2⟩:=h.next ht;have hl:=h.len;have hv:=h.vot;have aa:votes (l++[t])<2:=by
  rw[jb];split
  .rename_i e;have:¬0<votes l:=λhx=>h4 ⟨e,hx⟩;omega
  omega
 have hr:behindL x (l++[t])=((yS y t).1,true):=by
  rw[vH t l x (by rw[h.reg]),h.reg];show yS y t=_;rw[<-h1]
 have ae:(l++[t]).all yN=true:=by rw[List.all_append,h.form];simp[ht]
 have ad:(l++[t]).length<=3:=by rw[zjO,List.length_singleton];omega
 refine⟨?_,⟨zj1 ⟨e2,e1,by simp⟩,ae,ad,aa,hr,h3⟩⟩;unfold qK;rw[zj2 ⟨h3,by rw[Yy x _ _ e2 (by rw[e1];exact ad) (by rw[e1];exact ae) (by rw[e1];exact aa) (by rw[e1];exact hr)]⟩]
theorem MadeI.no(h:MadeI x b l y){t:zj5}(ht:yN t=true)(hno:¬((yS y t).2=true/\l.length≠3/\(jG b t).size<=24/\¬(byt t 0=118/\0<votes l))):qK x b t=b:=by
 obtain⟨e1,e2⟩:=h.next ht;unfold qK;rw[zj3];rintro⟨h3,h5⟩;refine hno ⟨?_,λh6=>?_,h3,λh6=>?_⟩
 .cases hb:(yS y t).2 with
  |true=>rfl
  |false=>
   rw[Yw x _ e2 (by rw[e1,vH t l x (by rw[h.reg]),h.reg];exact hb)] at h5;cases h5
 .rw [Yx x _ e2 (by rw[e1,zjO,List.length_singleton];omega)] at h5;cases h5
 rw[Zj x _ e2 (by rw[e1,jb,zj2 h6.1];omega)] at h5;cases h5
end
section
variable{x y p:Nat->Int}{b:zj5}
def noV(b:zj5):Prop:=∀t∈(qs b).1,byt t 0≠118
def ki(x p:Nat->Int):Prop:=∀k,k<8->x k=p k
theorem ki.refl(x:Nat->Int):ki x x:=λ_ _=>rfl
theorem ki.trans{z:Nat->Int}(h:ki x y)(h':ki y z):ki x z:=λk hk=>(h k hk).trans (h' k hk)
theorem JD(x:Nat->Int)(t:zj5)(h:byt t 0≠118):ki (yS x t).1 x:=λk hk=>by
 unfold yS zbD;rw[zj3 h];split
 .exact vk _ _ _ _ (by omega)
 .split
  .exact vk _ _ _ _ (by omega)
  .exact vk _ _ _ _ (by omega)
theorem YA:∀(l:List zj5) (x:Nat->Int),(∀t∈l,byt t 0≠118)->ki (behindL x l).1 x
 | [],x,_=>ki.refl x
 |t::l,x,h=>by
  unfold behindL;split
  .exact (YA l _ (λu hu=>h u (List.mem_cons_of_mem _ hu))).trans (JD x t (h t (zjV ..)))
  .exact JD x t (h t (zjV ..))
theorem Yz(h:noV b):ki (zi x b).1 x:=by
 unfold zi zeR;split
 .exact YA _ _ h
 exact ki.refl x
theorem vN:∀k,k<=8->ki x p->sumTo x k=sumTo p k
 |0,_,_=>rfl
 |k+1,hk,h=>by
  simp only[sumTo];rw[vN k (by omega) h,h k (by omega)]
theorem yW{b:Nat->Bool}:∀k,k<=8->ki x p->powB x b k=powB p b k
 |0,_,_=>rfl
 |k+1,hk,h=>by
  simp only[powB];rw[yW k (by omega) h,h k (by omega)]
theorem kN{b:Nat->Bool}{t:Int}(h:ki x p):yg t x b=yg t p b:=by
 unfold yg;rw[vN 8 (zjA _) h,yW 8 (zjA _) h]
theorem zbf(h:ki x p)(f:Int):YH x f=YH p f:=by
 unfold YH;split
 .exact h _ (by omega)
 rfl
theorem zad(h:ki x p):idsTo x 8=idsTo p 8:=by
 unfold idsTo;refine List.filter_congr λk hk=>?_;rw[h k (List.mem_range.1 hk)]
theorem yZ(h:ki x p)(t:Nat):turnOf x t=turnOf p t:=by
 unfold turnOf;rw[zad h]
theorem VJ{W:List zj5}(hW:∀t∈W,yN t=true):∀(l:List zj5) (b:zj5) (l0:List zj5) (y:Nat->Int),(∀t∈l,t∈W)->(∀t∈l0,t∈W)->MadeI x b l0 y->∃l1 y1,MadeI x (l.foldl (qK x) b) l1 y1/\∀t∈l1,t∈W
 | [],b,l0,y,_,h0,h=>⟨l0,y,h,h0⟩
 |t::l,b,l0,y,hl,h0,h=>by
  have ht:=hW t (hl t (zjV ..));have hl':∀u∈l,u∈W:=λu hu=>hl u (List.mem_cons_of_mem _ hu);rw[List.foldl_cons];by_cases hc:(yS y t).2=true/\l0.length≠3/\(jG b t).size<=24/\¬(byt t 0=118/\0<votes l0)
  .obtain ⟨e,h1⟩:=h.yes ht hc.1 hc.2.1 hc.2.2.1 hc.2.2.2
   rw[e];refine VJ hW l _ _ _ hl' (λu hu=>?_) h1;rcases List.mem_append.1 hu with h2|h2
   .exact h0 u h2
   .rw [List.mem_singleton.1 h2];exact hl t (zjV ..)
  .rw [h.no ht hc];exact VJ hW l b l0 y hl' h0 h
theorem MadeI.split{l:List zj5}(h:MadeI x b l y):qs b=(l,true):=by
 rcases h.cut with⟨h1,h2⟩|⟨h1,h2,_⟩
 .unfold qs;rw[zj2 h1,h2]
 rw[Vp b l h1 h2 h.form,zjQ h.len,zjQ h.vot];rfl
theorem KE(x:Nat->Int){W:List zj5}(hW:∀t∈W,yN t=true):∃l y,MadeI x (blockF x W) l y/\∀t∈l,t∈W:=
 VJ hW W ⟨#[]⟩ [] x (λ_ h=>h) (λ_ h=>by cases h) (MadeI.nil x)
theorem zax(x:Nat->Int){W:List zj5}(hW:∀t∈W,yN t=true):(zi x (blockF x W)).2=true:=by
 obtain⟨l,y,h,_⟩:=KE x hW;unfold zi zeR;rw[h.split];simp only[if_true];rw[h.reg]
theorem zcg(x:Nat->Int){W:List zj5}(hW:∀t∈W,yN t=true)(hv:∀t∈W,byt t 0≠118):noV (blockF x W):=by
 obtain⟨l,y,h,hl⟩:=KE x hW;unfold noV;rw[h.split];exact λt ht=>hv t (hl t ht)
end
section
variable{sg sg':Nat->List zj5}{k h r:Int}{n i:Nat}{p:Nat->Int}{s s':za}
def Vl(sg:Nat->List zj5)(q:Nat)(k h r:Int):Prop:=∃fr,fr∈sg q/\zM fr=true/\(decV fr).k=k/\(decV fr).h=h/\(decV fr).r=r
def QU(n:Nat)(p:Nat->Int)(sg:Nat->List zj5)(k h r:Int):Prop:=∃b:Nat->Bool,yg 2 p b=true/\∀q,q<8->b q=true->q<n/\Vl sg q k h r
theorem Vl.mono{q:Nat}(hs:SgLe sg sg')(ha:Vl sg q k h r):Vl sg' q k h r:=by
 obtain⟨fr,h1,h2⟩:=ha;exact⟨fr,hs q fr h1,h2⟩
theorem QU.mono(hs:SgLe sg sg')(ha:QU n p sg k h r):QU n p sg' k h r:=by
 obtain⟨b,h1,h2⟩:=ha;exact⟨b,h1,λq hq hb=>⟨(h2 q hq hb).1,(h2 q hq hb).2.mono hs⟩⟩
theorem Quo.same{x:Nat->Int}{t:zj5}(hp:ki x p)(hq:Quo n sg x k h r t):Quo n sg p k h r t:=by
 obtain⟨b,h1,h2⟩:=hq;exact⟨b,by rw[<-kN hp];exact h1,h2⟩
theorem zbG(hp:ki s.x p)(hl:∀e∈s.log,xA n s.sg s.zfF e)(hm:s.most (votesB k r)=true):QU n p s.sg k (s.zfF:Int) r:=by
 refine⟨sendB (votesB k r) s.log,by rw[<-kN hp];exact hm,λq _ hq=>?_⟩;unfold sendB at hq;rw[List.any_eq_true] at hq;obtain⟨e,he,hv⟩:=hq;rw[Bool.and_eq_true_iff] at hv;have hE:=hl e he;have hf:=zjP hv.2;have ad:=hv.1;unfold votesB at ad;rw[Bool.and_eq_true_iff] at ad;have ae:=hE.fn;have aa:=hE.mem;rw[hf] at ae aa;exact⟨by simpa using ae,e.fr,by simpa using aa,hE.ok,by rw[hE.m];exact zjP ad.1,by rw[hE.m];exact hE.h,by rw[hE.m];exact zjP ad.2⟩
structure SgL (n:Nat) (p:Nat->Int) (sg:Nat->List zj5):Prop where
 ok:∀q,q<n->∀fr∈sg q,zM fr=true/\(decV fr).f=(q:Int)/\(decV fr).r<=20
 j:∀q,q<n->∀fr∈sg q,1<=(decV fr).r->QU n p sg 3 (decV fr).h ((decV fr).r-1)
 v:∀q,q<n->∀fr∈sg q,(decV fr).k=1->noV (decV fr).s
 pp:∀q,q<n->∀fr∈sg q,(decV fr).k=1->turnOf p ((decV fr).h.toNat+(decV fr).r.toNat)=q
 pv:∀q,q<n->∀fr∈sg q,(decV fr).k=2->(decV fr).nl=false->∃q' fr',q'<n/\fr'∈sg q'/\(decV fr').k=1/\(decV fr').h=(decV fr).h/\(decV fr').r=(decV fr).r/\(decV fr').s=(decV fr).s/\((decV fr').v<0\/Quo n sg p 2 (decV fr).h (decV fr').v (decV fr).s)
 one1:∀q,q<n->∀fr∈sg q,∀fr'∈sg q,(decV fr).k=1->(decV fr').k=1->(decV fr).h=(decV fr').h->(decV fr).r=(decV fr').r->fr=fr'
theorem SgL.more(h:SgL n p sg){f0:zj5}{m:kE}(h0:zM f0=true)(hm:decV f0=m)(hf:m.f=(i:Int))(hr20:m.r<=20)
 (hj:1<=m.r->QU n p sg 3 m.h (m.r-1)) (hv:m.k=1->noV m.s/\turnOf p (m.h.toNat+m.r.toNat)=i/\∀fr∈sg i,(decV fr).k=1->(decV fr).h=m.h->(decV fr).r=m.r->fr=f0)
 (hpv:m.k=2->m.nl=false->∃q' fr',q'<n/\fr'∈sg q'/\(decV fr').k=1/\(decV fr').h=m.h/\(decV fr').r=m.r/\(decV fr').s=m.s/\((decV fr').v<0\/Quo n sg p 2 m.h (decV fr').v m.s)):SgL n p (signR sg i f0):=by
 have ae:=vP sg i f0;have ad:∀q fr,fr∈signR sg i f0 q->fr∈sg q\/(q=i/\fr=f0):=λq fr aa=>by
  by_cases e:q=i
  .subst e;rcases jc.1 aa with h1|h1
   .exact zj0 h1
   exact zj1 ⟨rfl,h1⟩
  rw[qL e] at aa;exact zj0 aa
 refine⟨λq hq fr aa=>?_,λq hq fr aa hr=>?_,λq hq fr aa hk=>?_,λq hq fr aa hk=>?_,λq hq fr aa hk hn=>?_,λq hq fr aa fr' af hk ag hh hr=>?_⟩
 .rcases ad q fr aa with h1|⟨h1,h2⟩
  .exact h.ok q hq fr h1
  rw[h2,hm,hf,h1];exact⟨h0,rfl,hr20⟩
 .rcases ad q fr aa with h1|⟨h1,h2⟩
  .exact (h.j q hq fr h1 hr).mono ae
  rw[h2,hm] at hr ⊢;exact(hj hr).mono ae
 .rcases ad q fr aa with h1|⟨h1,h2⟩
  .exact h.v q hq fr h1 hk
  rw[h2,hm] at hk ⊢;exact(hv hk).1
 .rcases ad q fr aa with h1|⟨h1,h2⟩
  .exact h.pp q hq fr h1 hk
  rw[h2,hm] at hk ⊢;rw[h1];exact(hv hk).2.1
 .rcases ad q fr aa with h1|⟨h1,h2⟩
  .obtain ⟨q',fr',a1,a2,a3,a4,a5,a6,a7⟩:=h.pv q hq fr h1 hk hn
   exact⟨q',fr',a1,ae _ _ a2,a3,a4,a5,a6,a7.imp id λx=>x.mono ae⟩
  rw[h2,hm] at hk hn ⊢;obtain⟨q',fr',a1,a2,a3,a4,a5,a6,a7⟩:=hpv hk hn;exact⟨q',fr',a1,ae _ _ a2,a3,a4,a5,a6,a7.imp id λx=>x.mono ae⟩
 rcases ad q fr aa with h1|⟨h1,h2⟩
 .rcases ad q fr' af with g1|⟨g1,g2⟩
  .exact h.one1 q hq fr h1 fr' g1 hk ag hh hr
  rw[g2];rw[g2,hm] at hh hr ag;rw[g1] at h1;exact(hv ag).2.2 fr h1 hk hh hr
 rcases ad q fr' af with g1|⟨g1,g2⟩
 .rw [h2];rw[h2,hm] at hh hr hk;rw[h1] at g1;exact((hv hk).2.2 fr' g1 ag hh.symm hr.symm).symm
 rw[h2,g2]
structure LV0 (n i:Nat) (p:Nat->Int) (s:za):Prop where
 pw:ki s.x p
 sgi:SgL n p s.sg
 own:∀fr∈s.sg i,(decV fr).h=(s.zfF:Int)->∃e∈s.log,e.fr=fr/\e.own=true
 st2:s.zfF<12->2<=s.step->Vl s.sg i 2 (s.zfF:Int) (s.round:Int)
 st3:s.zfF<12->3<=s.step->Vl s.sg i 3 (s.zfF:Int) (s.round:Int)
 pr0:∀k:Nat,k<s.zfF->turnOf p k=i->Vl s.sg i 1 (k:Int) 0
 hd:s.held=true->s.vr=(s.round:Int)
 vq:0<=s.vr->s.most (votesForB 2 s.vr s.vv)=true/\s.zgc s.vv=true/\noV s.vv
 lk:∀fr∈s.sg i,(decV fr).k=3->(decV fr).nl=false->(decV fr).h=(s.zfF:Int)->(decV fr).r<=s.vr
 wv:∀t∈s.wait,byt t 0≠118
 b3m:s.b3=true->QU n p s.sg 3 (s.zfF:Int) (s.round:Int)
 b3l:s.b3=true->s.most (votesB 3 (s.round:Int))=true
 t3q:∀t∈s.tims,t.n=3->QU n p s.sg 3 t.h t.r
 rj:1<=s.round->s.zfF<12->QU n p s.sg 3 (s.zfF:Int) ((s.round:Int)-1)
 gv:∀fr∈s.sg i,(decV fr).k=2->(decV fr).nl=false->(decV fr).h=(s.zfF:Int)->s.zgc (decV fr).s=true
theorem xV{f:zl->Bool}(hx:s'.x=s.x)(hd:Dom s.x)(hl:∀e∈s.log,e∈s'.log)(hm:s.most f=true):s'.most f=true:=by
 unfold za.most at hm ⊢;rw[hx];have h1:=zjP hm;have h2:powB s.x (sendB f s.log) 8<=powB s.x (sendB f s'.log) 8:=js (λi=>(hd i).1) 8 λq _ hq=>by
  unfold sendB at hq ⊢;rw[List.any_eq_true] at hq ⊢;obtain⟨e,he,hv⟩:=hq;exact⟨e,hl e he,hv⟩
 exact zjQ (by omega)
theorem LV0.send(h:LV0 n i p s)(hd:Dom s.x)(hp:YH s.x (i:Int)≠0)(k v:Int)(nl:Bool)(t:zj5)(st:Nat)(hb:hasB k (s.zfF:Int) (s.round:Int) (i:Int) v nl t.size=true)(hh:s.zfF<12)(hr20:s.round<=20)
 (h2:2<=st->2<=s.step\/k=2) (h3:3<=st->3<=s.step\/k=3)
 (k1:k=1->noV t/\turnOf p (s.zfF+s.round)=i/\∀fr∈s.sg i,(decV fr).k=1->(decV fr).h=(s.zfF:Int)->(decV fr).r=(s.round:Int)->fr=s.enc i k v nl t)
 (k2:k=2->nl=false->s.zgc t=true/\∃q' fr',q'<n/\fr'∈s.sg q'/\(decV fr').k=1/\(decV fr').h=(s.zfF:Int)/\(decV fr').r=(s.round:Int)/\(decV fr').s=t/\((decV fr').v<0\/Quo n s.sg p 2 (s.zfF:Int) (decV fr').v t))
 (k3:k=3->nl=false->s.vr=(s.round:Int)):
 LV0 n i p ((s.zfI i k v nl t).zfO st):=by
 obtain⟨ag,ak⟩:=gN hb;have aa:decV (s.enc i k v nl t)=s.msg i k v nl t:=ak;have ad:=vP s.sg i (s.enc i k v nl t);rw[Qa hp hb];have ae:Vl (signR s.sg i (s.enc i k v nl t)) i k (s.zfF:Int) (s.round:Int):=⟨s.enc i k v nl t,jc.2 (zj1 rfl),ag,by rw[aa];rfl,by rw[aa];rfl,by rw[aa];rfl⟩;have ah:SgL n p (signR s.sg i (s.enc i k v nl t)):=h.sgi.more ag aa rfl (by show(s.round:Int)<=20;omega) (λhr=>h.rj (by have:1<=(s.round:Int):=hr;omega) hh) (λe=>⟨(k1 e).1,by show turnOf p ((s.zfF:Int).toNat+(s.round:Int).toNat)=i;rw[Int.toNat_natCast,Int.toNat_natCast];exact(k1 e).2.1,(k1 e).2.2⟩) (λe e2=>(k2 e e2).2);have af:∀fr∈signR s.sg i (s.enc i k v nl t) i,fr∈s.sg i\/fr=s.enc i k v nl t:=λfr hf=>jc.1 hf;refine⟨h.pw,ah,λfr hf aj=>?_,λa b=>?_,λa b=>?_,λq hq ai=>(h.pr0 q hq ai).mono ad,h.hd,λhv=>?_,λfr hf a b c=>?_,h.wv,λa=>(h.b3m a).mono ad,λa=>xV (s:=s) rfl hd (λe he=>List.mem_append_left _ he) (h.b3l a),λu hu a=>(h.t3q u hu a).mono ad,λa b=>(h.rj a b).mono ad,λfr hf a b c=>?_⟩
 .rcases af fr hf with h1|h1
  .obtain ⟨e,he,q⟩:=h.own fr h1 aj
   exact⟨e,List.mem_append_left _ he,q⟩
  exact⟨_,List.mem_append_right _ (List.mem_singleton.2 rfl),h1.symm,rfl⟩
 .rcases h2 b with h1|h1
  .exact (h.st2 a h1).mono ad
  obtain⟨fr,q1,q2,q3,q4⟩:=ae;exact⟨fr,q1,q2,q3.trans h1,q4⟩
 .rcases h3 b with h1|h1
  .exact (h.st3 a h1).mono ad
  obtain⟨fr,q1,q2,q3,q4⟩:=ae;exact⟨fr,q1,q2,q3.trans h1,q4⟩
 .exact ⟨xV (s:=s) rfl hd (λe he=>List.mem_append_left _ he) (h.vq hv).1,(h.vq hv).2⟩
 .rcases af fr hf with h1|h1
  .exact h.lk fr h1 a b c
  rw[h1,aa] at a b ⊢;have:=k3 a b;show(s.round:Int)<=s.vr;omega
 rcases af fr hf with h1|h1
 .exact h.gv fr h1 a b c
 rw[h1,aa] at a b ⊢;exact(k2 a b).1
theorem LV0.congr(h:LV0 n i p s)(hx:s'.x=s.x)(hsg:s'.sg=s.sg)(hl:s'.log=s.log)(hh:s'.zfF=s.zfF)(hs:s'.step=s.step)(hr:s'.round=s.round)(hhd:s'.held=s.held)(hvr:s'.vr=s.vr)(hvv:s'.vv=s.vv)(hw:∀t∈s'.wait,t∈s.wait\/byt t 0≠118)(hb:s'.b3=true->s.b3=true\/(QU n p s.sg 3 (s.zfF:Int) (s.round:Int)/\s.most (votesB 3 (s.round:Int))=true))(ht:∀t∈s'.tims,t∈s.tims\/(t.n=3->QU n p s.sg 3 t.h t.r)):LV0 n i p s':=by
 have ad:∀u,s'.zgc u=s.zgc u:=λu=>by unfold za.zgc;rw[hx]
 have aa:∀f,s'.most f=s.most f:=λf=>by unfold za.most;rw[hx,hl]
 refine⟨by rw[hx];exact h.pw,by rw[hsg];exact h.sgi,by rw[hsg,hl,hh];exact h.own,by rw[hsg,hh,hs,hr];exact h.st2,by rw[hsg,hh,hs,hr];exact h.st3,by rw[hsg,hh];exact h.pr0,by rw[hhd,hvr,hr];exact h.hd,λa=>?_,by rw[hsg,hh,hvr];exact h.lk,λt ae=>(hw t ae).elim (h.wv t) id,λa=>?_,λa=>?_,λt ae a=>?_,by rw[hsg,hh,hr];exact h.rj,λfr a b c d=>?_⟩
 .rw [hvr] at a ⊢;rw[hvv,aa,ad];exact h.vq a
 .rw [hsg,hh,hr];exact(hb a).elim h.b3m λx=>x.1
 .rw [aa,hr];exact(hb a).elim h.b3l λx=>x.2
 .rw [hsg];exact(ht t ae).elim (λx=>h.t3q t x a) λx=>x a
 rw[hsg] at a;rw[hh] at d;rw[ad];exact h.gv fr a b c d
theorem LV0.others(h:LV0 n i p s){sg':Nat->List zj5}(hs:SgLe s.sg sg')(hi:sg' i=s.sg i)(hsg:SgL n p sg'):LV0 n i p { s with sg:=sg' }:=by
 refine⟨h.pw,hsg,λfr hf=>h.own fr (by rw[<-hi];exact hf),λa b=>(h.st2 a b).mono hs,λa b=>(h.st3 a b).mono hs,λk a b=>(h.pr0 k a b).mono hs,h.hd,h.vq,λfr hf=>h.lk fr (by rw[<-hi];exact hf),h.wv,λa=>(h.b3m a).mono hs,h.b3l,λt a b=>(h.t3q t a b).mono hs,λa b=>(h.rj a b).mono hs,λfr hf=>h.gv fr (by rw[<-hi];exact hf)⟩
theorem LV0.ziV(h:LV0 n i p s)(hd:Dom s.x)(hx:s'.x=s.x)(hsg:s'.sg=s.sg)(hl:∀e∈s.log,e∈s'.log)(hh:s'.zfF=s.zfF)(hs:s'.step=s.step)(hr:s'.round=s.round)(hhd:s'.held=s.held)(hvr:s'.vr=s.vr)(hvv:s'.vv=s.vv)(hw:s'.wait=s.wait)(hb:s'.b3=s.b3)(ht:s'.tims=s.tims):LV0 n i p s':=by
 have aa:∀u,s'.zgc u=s.zgc u:=λu=>by unfold za.zgc;rw[hx]
 refine⟨by rw[hx];exact h.pw,by rw[hsg];exact h.sgi,λfr hf a=>?_,by rw[hsg,hh,hs,hr];exact h.st2,by rw[hsg,hh,hs,hr];exact h.st3,by rw[hsg,hh];exact h.pr0,by rw[hhd,hvr,hr];exact h.hd,λa=>?_,by rw[hsg,hh,hvr];exact h.lk,by rw[hw];exact h.wv,by rw[hsg,hh,hr,hb];exact h.b3m,λa=>(by rw[hr];exact xV hx hd hl (h.b3l (by rw[<-hb];exact a))),by rw[hsg,ht];exact h.t3q,by rw[hsg,hh,hr];exact h.rj,λfr a b c d=>?_⟩
 .rw [hsg] at hf;rw[hh] at a;obtain⟨e,he,q⟩:=h.own fr hf a;exact⟨e,hl e he,q⟩
 .rw [hvr] at a ⊢;rw[hvv,aa];exact⟨xV hx hd hl (h.vq a).1,(h.vq a).2⟩
 rw[hsg] at a;rw[hh] at d;rw[aa];exact h.gv fr a b c d
end
section
variable{j:Nat}{s s':za}
def SgU(_j:Nat)(s s':za):Prop:=SgLe s.sg s'.sg
theorem SgU.refl(j:Nat)(s:za):SgU j s s:=λ_ _ h=>h
theorem SgU.trans{s2:za}(h:SgU j s s')(h':SgU j s' s2):SgU j s s2:=SgLe.trans (a:=s.sg) (b:=s'.sg) (c:=s2.sg) h h'
theorem kG(h:s'.sg=s.sg):SgU j s s':=λk fr hf=>by rw[h];exact hf
theorem jd(s:za)(j:Nat)(k v:Int)(nl:Bool)(t:zj5):SgU j s (s.zfI j k v nl t):=by
 unfold za.zfI;split
 .exact SgU.refl j s
 split
 .exact vP s.sg j _
 exact SgU.refl j s
theorem jA(s:za)(j r:Nat):SgU j s (s.zfH j r):=by
 unfold za.zfH;split
 .exact (kG (s:=s) (s':=s.zfL r 1) rfl).trans (jd _ _ _ _ _ _)
 exact kG rfl
theorem kK(s:za)(j:Nat)(k:Int)(st:Nat):SgU j s (s.nothing j k st):=(jd s j k 0 true ⟨#[]⟩).trans (kG rfl)
theorem XE(s:za)(j:Nat)(p:zl):SgU j s (s.zfR j p):=by
 unfold za.zfR;rw[zu];split
 .exact kG rfl
 exact(kG (s:=s) (s':=(s.kept p).zfK ((s.kept p).ahead.filter λe=> !(s.kept p).zfJ e.m)) rfl).trans (jA _ _ _)
theorem YZ(s:za)(j:Nat)(fits:zl->Bool):SgU j s (s.zfU j fits).2:=by
 unfold za.zfU;split
 .split
  .exact SgU.refl j s
  dsimp only
  split
  .exact (jd s j 2 0 false _).trans (kG rfl)
  exact kK s j 2 2
 exact SgU.refl j s
theorem za2(s:za)(j:Nat):SgU j s (s.zfT (za.zfY j) j).2:=by
 unfold za.zfT;split
 .unfold za.zfY;split
  .exact SgU.refl j s
  exact XE s j _
 split
 .unfold za.zf1;split
  .exact SgU.refl j s
  exact jA s j _
 split
 .exact YZ s j _
 split
 .exact YZ s j _
 split
 .unfold za.zgm;split
  .split
   .exact SgU.refl j s
   dsimp only
   split
   .exact (kG (s:=s) (s':=(s.zfZ _).zf3) rfl).trans ((jd _ _ _ _ _ _).trans (kG rfl))
   exact kG rfl
  exact SgU.refl j s
 split
 .unfold za.zf4;split
  .exact kK s j 3 3
  exact SgU.refl j s
 split
 .unfold za.zf7;split
  .exact kG rfl
  exact SgU.refl j s
 unfold za.zf9;split
 .exact kG rfl
 exact SgU.refl j s
theorem Vx(j:Nat):∀(f:Nat) (s:za),SgU j s (za.zgn j f s)
 |0,s=>SgU.refl j s
 |f+1,s=>by
  rw[za.zgn];split
  .exact (za2 s j).trans (Vx j f _)
  .exact SgU.refl j s
theorem za3(s:za)(j:Nat)(t:zU):SgU j s (s.zga j t):=by
 unfold za.zga;split
 .split
  .exact kK s j 2 2
  split
  .exact kK s j 3 3
  split
  .exact jA s j _
  exact SgU.refl j s
 exact SgU.refl j s
theorem XD(s:za)(j:Nat)(e:zl):SgU j s (s.zf5 e):=by
 unfold za.zf5;split<;>exact kG rfl
theorem zcC(s:za)(j h:Nat):SgU j s (s.zf2 h):=by
 unfold za.zf2;split
 .exact SgU.refl j s
 exact kG rfl
theorem yE(s:za)(n j:Nat)(fr:zj5):SgU j s (s.zfM n j fr):=by
 unfold za.zfM;split
 .unfold za.zgv;split
  .exact zcC s j _
  split
  .exact SgU.refl j s
  exact(XD s j _).trans (Vx j 2200 _)
 exact SgU.refl j s
theorem K4(j:Nat):∀(f:Nat) (s:za),SgU j s (za.zf0 j f s)
 |0,s=>SgU.refl j s
 |f+1,s=>by
  rw[za.zf0];split
  .exact SgU.refl j s
  .split
   .exact ((kG (s:=s) (s':=s.zfQ) rfl).trans ((za3 _ _ _).trans (Vx j 2200 _))).trans (K4 j f _)
   .exact SgU.refl j s
theorem kT(s:za)(j:Nat):SgU j s (s.zfW j):=by
 unfold za.zfW za.again;split
 .exact ((kG (s:=s) (s':=s.zfN) rfl).trans (K4 j _ _)).trans (kG rfl)
 exact(kG (s:=s) (s':=s.zfN) rfl).trans (K4 j _ _)
theorem Vw(s:za)(j:Nat)(t:zj5):SgU j s (s.zgd t):=by
 unfold za.zgd;split
 .exact kG rfl
 exact SgU.refl j s

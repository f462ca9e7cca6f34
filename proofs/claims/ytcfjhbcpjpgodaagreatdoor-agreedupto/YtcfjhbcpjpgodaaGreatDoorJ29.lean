/- Proved here (plain): the certificate that a node keeps with a block is one that whoever follows accepts. -/
import Derived.Test.YtcfjhbcpjpgodaaGreatDoorJ28
import Derived.Test.YtcfjhbcpjpgodaaGreatDoorJ45
import Derived.Test.YtcfjhbcpjpgodaaGreatDoorJ25
import Derived.Test.YtcfjhbcpjpgodaaGreatDoorJ30
import Derived.Test.YtcfjhbcpjpgodaaGreatDoorJ5
import Derived.Test.YtcfjhbcpjpgodaaGreatDoorTakeL
namespace Go.Proofs.YtcfjhbcpjpgodaaGreatDoor
open Go.RowKit
variable{t fr:ByteArray}{n h i j:Nat}{sg sg':Nat→List ByteArray}{e:EntV}{l:List EntV}{x x0:Nat→Int}{k r:Int}{s s':NodeS}{hon:Nat→Bool}
theorem dec_inj{t':ByteArray}(h:decOk t=true)(h':decOk t'=true)(he:decV t=decV t'):t=t':=by
 have e1:decV t=⟨byt t 0,byt t 1,byt t 2,byt t 3,vOf (byt t 0) (byt t 4),nlOf (byt t 0) (byt t 4),t.extract 6 t.size⟩:=by unfold decV;rw[if_pos h]
 have e2:decV t'=⟨byt t' 0,byt t' 1,byt t' 2,byt t' 3,vOf (byt t' 0) (byt t' 4),nlOf (byt t' 0) (byt t' 4),t'.extract 6 t'.size⟩:=by unfold decV;rw[if_pos h']
 rw[e1,e2] at he;simp only[MsgV.mk.injEq] at he;obtain⟨a0,a1,a2,a3,av,an,asx⟩:=he;unfold decOk decB at h h';simp only[Bool.and_eq_true,decide_eq_true_eq] at h h';obtain⟨hz,⟨_,m1⟩,l1⟩:=h;obtain⟨hz',⟨_,m2⟩,l2⟩:=h';have a4:byt t 4=byt t' 4:=by rw[←m1,←m2,av,an,a0]
 have a5:byt t 5=byt t' 5:=by rw[←l1,←l2,asx]
 have hb:∀i,byt t i=byt t' i→t.data.toList.getD i 0=t'.data.toList.getD i 0:=fun i e=>by
  unfold byt at e;have e':(t.data.toList.getD i 0).toNat=(t'.data.toList.getD i 0).toNat:=by omega
  exact UInt8.toNat_inj.1 e'
 have hd:t.data.toList.drop 6=t'.data.toList.drop 6:=by
  have x1:=congrArg (fun b:ByteArray=>b.data.toList) asx;simp only[Lib.extract_data] at x1;rw[List.take_of_length_le (by simp),List.take_of_length_le (by simp)] at x1;exact x1
 have n1:6≤t.data.toList.length:=by simpa using hz
 have n2:6≤t'.data.toList.length:=by simpa using hz'
 apply ByteArray.ext;apply Array.ext';have ht:t.data.toList.take 6=t'.data.toList.take 6:=by
  apply List.ext_getElem
  .simp;omega
  intro i q1 q2;have hi:i<6:=by simp at q1;omega
  rw[List.getElem_take,List.getElem_take];have hbi:byt t i=byt t' i:=by
   match i,hi with
   |0,_=>exact a0
   |1,_=>exact a1
   |2,_=>exact a2
   |3,_=>exact a3
   |4,_=>exact a4
   |5,_=>exact a5
  have:=hb i hbi;rw[List.getD_eq_getElem?_getD,List.getD_eq_getElem?_getD,List.getElem?_eq_getElem (by omega),List.getElem?_eq_getElem (by omega)] at this;simpa using this
 rw[←List.take_append_drop 6 t.data.toList,←List.take_append_drop 6 t'.data.toList,ht,hd]
structure EntIn (n:Nat) (sg:Nat→List ByteArray) (h:Nat) (e:EntV):Prop where
 ok:decOk e.fr=true
 m:decV e.fr=e.m
 f0:0≤e.m.f
 fn:e.m.f.toNat<n
 mem:e.fr∈sg e.m.f.toNat
 h:e.m.h=(h:Int)
theorem EntIn.mono(he:EntIn n sg h e)(hs:SgLe sg sg'):EntIn n sg' h e:=⟨he.ok,he.m,he.f0,he.fn,hs _ _ he.mem,he.h⟩
def ND(l:List EntV):Prop:=((l.filter fun e=>decide (e.m.k=3)).map (·.fr)).Nodup
theorem ND.nil:ND []:=List.nodup_nil
theorem ND.filter(h:ND l)(q:EntV→Bool):ND (l.filter q):=by
 unfold ND at h ⊢;refine h.sublist (List.Sublist.map _ ?_);exact List.filter_sublist.filter _
theorem ND.snoc(h:ND l){e:EntV}(he:e.m.k=3→∀x∈l,x.m.k=3→x.fr≠e.fr):ND (l++[e]):=by
 unfold ND at h ⊢;rw[List.filter_append,List.map_append];by_cases hk:e.m.k=3
 .rw [List.filter_cons_of_pos (by simpa using hk),List.filter_nil,List.map_cons,List.map_nil,List.nodup_append];refine⟨h,by simp,fun a ha b hb=>?_⟩;obtain rfl:=List.mem_singleton.1 hb;obtain⟨x,hx,rfl⟩:=List.mem_map.1 ha;rw[List.mem_filter] at hx;exact he hk x hx.1 (of_decide_eq_true hx.2)
 rw[List.filter_cons_of_neg (by simpa using hk),List.filter_nil,List.map_nil,List.append_nil];exact h
def CertG(n:Nat)(sg:Nat→List ByteArray)(x:Nat→Int)(h:Nat)(b:ByteArray)(cert:List ByteArray):Prop:=
 (∀fr∈cert,decOk fr=true∧0≤(decV fr).f∧(decV fr).f.toNat<n∧fr∈sg (decV fr).f.toNat)∧CertOk x (h:Int) b (fun i=>decV (cert.getD i ByteArray.empty)) cert.length
theorem CertG.mono{b:ByteArray}{cert:List ByteArray}(hc:CertG n sg x h b cert)(hs:SgLe sg sg'):CertG n sg' x h b cert:=
 ⟨fun fr hf=>⟨(hc.1 fr hf).1,(hc.1 fr hf).2.1,(hc.1 fr hf).2.2.1,hs _ _ (hc.1 fr hf).2.2.2⟩,hc.2⟩
theorem same_one{α:Type}{l:List α}(hn:l.Nodup)(hs:∀a∈l,∀b∈l,a=b):l=[]∨∃a,l=[a]:=by
 match l,hn,hs with
 | [],_,_=>exact Or.inl rfl
 | [a],_,_=>exact Or.inr ⟨a,rfl⟩
 |a::b::l,hn,hs=>
  exfalso;have e:=hs a (by simp) b (by simp);rw[e] at hn;simp at hn
theorem votesFor_m(h:votesForB k r t e=true):e.m.k=k∧e.m.r=r∧e.m.nl=false∧e.m.s=t:=by
 unfold votesForB at h;rw[Bool.and_eq_true_iff,Bool.and_eq_true_iff,Bool.and_eq_true_iff] at h;exact⟨of_decide_eq_true h.1.1.1,of_decide_eq_true h.1.1.2,by simpa using h.1.2,of_decide_eq_true h.2⟩
theorem vote_v(h:decOk fr=true)(hk:(decV fr).k=3):(decV fr).v=0∧0≤(decV fr).f∧(decV fr).f<8:=by
 have h2:=h;have h3:hasB (decV fr).k (decV fr).h (decV fr).r (decV fr).f (decV fr).v (decV fr).nl (decV fr).s.size=true:=by
  unfold decV;rw[if_pos h];unfold decOk decB at h2;simp only[Bool.and_eq_true] at h2;exact h2.2.1.1
 have h4:=of_decide_eq_true h3;refine⟨?_,h4.2.2.2.2.1,h4.2.2.2.2.2.1⟩;rcases h4.2.2.2.2.2.2.2 with h5|h5
 .omega
 exact h5.2.1
theorem certTo_mem{fits:EntV→Bool}:∀{k:Nat},fr∈certTo fits l k↔∃e∈l,fits e=true∧e.fr=fr∧0≤e.m.f∧e.m.f<(k:Int)
 |0=>by
  constructor
  .intro h;cases h
  .rintro ⟨e,_,_,_,h1,h2⟩;omega
 |k+1=>by
  rw[certTo,List.mem_append,certTo_mem (k:=k)];constructor
  .rintro (⟨e,h1,h2,h3,h4,h5⟩|h)
   .exact ⟨e,h1,h2,h3,h4,by omega⟩
   .unfold framesL at h;rw[List.mem_map] at h;obtain⟨e,he,h3⟩:=h;rw[List.mem_filter,Bool.and_eq_true_iff] at he;have:=of_decide_eq_true he.2.1;exact⟨e,he.1,he.2.2,h3,by omega,by omega⟩
  .rintro ⟨e,h1,h2,h3,h4,h5⟩
   by_cases hk:e.m.f=(k:Int)
   .refine Or.inr ?_;unfold framesL;rw[List.mem_map];exact⟨e,List.mem_filter.2 ⟨h1,by rw[decide_eq_true hk,h2];rfl⟩,h3⟩
   .exact Or.inl ⟨e,h1,h2,h3,h4,by omega⟩
theorem certTo_up(hl:∀e∈l,EntIn n sg h e)(hn:ND l):∀k:Nat,(certTo (votesForB 3 r t) l k).Pairwise (fun a b=>(decV a).f<(decV b).f)
 |0=>List.Pairwise.nil
 |k+1=>by
  rw[certTo,List.pairwise_append];have hfk:∀fr∈framesL (fun e=>decide (e.m.f=(k:Int))&&votesForB 3 r t e) l,decOk fr=true∧decV fr=⟨3,(h:Int),r,(k:Int),0,false,t⟩:=fun fr hf=>by
   unfold framesL at hf;rw[List.mem_map] at hf;obtain⟨e,he,rfl⟩:=hf;rw[List.mem_filter,Bool.and_eq_true_iff] at he;have hE:=hl e he.1;obtain⟨v1,v2,v3,v4⟩:=votesFor_m he.2.2;have hv:=(vote_v hE.ok (by rw[hE.m];exact v1)).1;rw[hE.m] at hv;refine⟨hE.ok,?_⟩;have e1:e.m=⟨e.m.k,e.m.h,e.m.r,e.m.f,e.m.v,e.m.nl,e.m.s⟩:=rfl;rw[hE.m,e1,v1,v2,v3,v4,hE.h,hv,of_decide_eq_true he.2.1]
  refine⟨certTo_up hl hn k,?_,fun a ha b hb=>?_⟩
  .have hnd:(framesL (fun e=>decide (e.m.f=(k:Int))&&votesForB 3 r t e) l).Nodup:=by
    unfold framesL;unfold ND at hn;refine hn.sublist (List.Sublist.map _ ?_);have e1:l.filter (fun e=>decide (e.m.f=(k:Int))&&votesForB 3 r t e)=(l.filter fun e=>decide (e.m.k=3)).filter (fun e=>decide (e.m.f=(k:Int))&&votesForB 3 r t e):=by
     rw[List.filter_filter];apply List.filter_congr;intro e _;cases hv:votesForB 3 r t e with
     |false=>simp
     |true=>rw[decide_eq_true (votesFor_m hv).1];simp
    rw[e1];exact List.filter_sublist
   rcases same_one hnd (fun a ha b hb=>dec_inj (hfk a ha).1 (hfk b hb).1 (by rw[(hfk a ha).2,(hfk b hb).2])) with e|⟨a,e⟩
   .rw [e];exact List.Pairwise.nil
   .rw [e];exact List.pairwise_singleton _ _
  .obtain ⟨e,he,_,h3,_,h5⟩:=certTo_mem.1 ha
   have hE:=hl e he;rw[(hfk b hb).2,←h3,hE.m];exact h5
theorem cert_of_log(hl:∀e∈l,EntIn n sg h e)(hn:ND l)(hm:moreB 2 x (sendB (votesForB 3 r t) l)=true):CertG n sg x h t (certTo (votesForB 3 r t) l 8):=by
 have hin:∀fr∈certTo (votesForB 3 r t) l 8,decOk fr=true∧0≤(decV fr).f∧(decV fr).f.toNat<n∧fr∈sg (decV fr).f.toNat∧decV fr=⟨3,(h:Int),r,(decV fr).f,0,false,t⟩:=fun fr hf=>by
  obtain⟨e,he,hv,rfl,h4,h5⟩:=certTo_mem.1 hf;have hE:=hl e he;obtain⟨v1,v2,v3,v4⟩:=votesFor_m hv;have hv0:=(vote_v hE.ok (by rw[hE.m];exact v1)).1;rw[hE.m] at hv0 ⊢;refine⟨hE.ok,hE.f0,hE.fn,hE.mem,?_⟩;have e1:e.m=⟨e.m.k,e.m.h,e.m.r,e.m.f,e.m.v,e.m.nl,e.m.s⟩:=rfl;rw[e1,v1,v2,v3,v4,hE.h,hv0]
 refine⟨fun fr hf=>⟨(hin fr hf).1,(hin fr hf).2.1,(hin fr hf).2.2.1,(hin fr hf).2.2.2.1⟩,sendB (votesForB 3 r t) l,⟨fun i hi=>?_,fun i j hij hj=>?_,fun id hid=>?_⟩,hm⟩
 .have g:∀i,i<(certTo (votesForB 3 r t) l 8).length→(certTo (votesForB 3 r t) l 8).getD i ByteArray.empty∈certTo (votesForB 3 r t) l 8:=fun i hi=>by
   rw[List.getD_eq_getElem?_getD,List.getElem?_eq_getElem hi];exact List.getElem_mem hi
  have h1:=(hin _ (g i hi)).2.2.2.2;have h0:=(hin _ (g 0 (by omega))).2.2.2.2;show decV ((certTo (votesForB 3 r t) l 8).getD i ByteArray.empty)=wantM (h:Int) (decV ((certTo (votesForB 3 r t) l 8).getD 0 ByteArray.empty)).r t (decV ((certTo (votesForB 3 r t) l 8).getD i ByteArray.empty)).f;have hr0:(decV ((certTo (votesForB 3 r t) l 8).getD 0 ByteArray.empty)).r=r:=by rw[h0]
  rw[hr0];exact h1
 .have hp:=List.pairwise_iff_getElem.1 (certTo_up (r:=r) (t:=t) hl hn 8) i j (by omega) hj hij;show(decV ((certTo (votesForB 3 r t) l 8).getD i ByteArray.empty)).f≠(decV ((certTo (votesForB 3 r t) l 8).getD j ByteArray.empty)).f;rw[List.getD_eq_getElem?_getD,List.getElem?_eq_getElem (by omega),List.getD_eq_getElem?_getD,List.getElem?_eq_getElem hj];simp only[Option.getD_some];omega
 constructor
 .intro hb;unfold sendB at hb;rw[List.any_eq_true] at hb;obtain⟨e,he,hv⟩:=hb;rw[Bool.and_eq_true_iff] at hv;have hf:=of_decide_eq_true hv.2;have hmem:e.fr∈certTo (votesForB 3 r t) l 8:=certTo_mem.2 ⟨e,he,hv.1,rfl,by omega,by omega⟩;obtain⟨i,hi,h1⟩:=List.mem_iff_getElem.1 hmem;refine⟨i,hi,?_⟩;show(decV ((certTo (votesForB 3 r t) l 8).getD i ByteArray.empty)).f=(id:Int);rw[List.getD_eq_getElem?_getD,List.getElem?_eq_getElem hi,Option.getD_some,h1,(hl e he).m];exact hf
 rintro⟨i,hi,h1⟩;have h1':(decV ((certTo (votesForB 3 r t) l 8).getD i ByteArray.empty)).f=(id:Int):=h1;rw[List.getD_eq_getElem?_getD,List.getElem?_eq_getElem hi,Option.getD_some] at h1';obtain⟨e,he,hv,h3,_,_⟩:=certTo_mem.1 (List.getElem_mem hi);unfold sendB;rw[List.any_eq_true];refine⟨e,he,?_⟩;rw[hv,Bool.true_and];apply decide_eq_true;rw[←h1',←h3,(hl e he).m]
def NodeS.blocks(s:NodeS):List ByteArray:=s.dec.map (·.block)
def NodeS.dcs(s:NodeS):List (ByteArray×List ByteArray):=s.dec.map fun d=>(d.block,d.cert)
theorem blocks_dcs(s:NodeS):s.blocks=s.dcs.map (·.1):=by
 unfold NodeS.blocks NodeS.dcs;rw[List.map_map];rfl
theorem blocks_len(s:NodeS):s.blocks.length=s.height:=by unfold NodeS.blocks NodeS.height;rw[List.length_map]
structure Mine (i:Nat) (s:NodeS) (fr:ByteArray):Prop where
 ok:decOk fr=true
 f:(decV fr).f=(i:Int)
 pos:(decV fr).h<(s.height:Int)∨((decV fr).h=(s.height:Int)∧((decV fr).r<(s.round:Int)∨((decV fr).r=(s.round:Int)∧(decV fr).k≤(s.step:Int))))
structure NI (n i:Nat) (x0:Nat→Int) (s:NodeS):Prop where
 reg:s.x=regs x0 s.blocks
 log:∀e∈s.log,EntIn n s.sg s.height e
 ahead:∀e∈s.ahead,EntIn n s.sg (s.height+1) e
 dec:∀(h:Nat) (b:ByteArray),s.blocks[h]? =some b→(behindR (regs x0 (s.blocks.take h)) b).2=true∧∃r,Quo n s.sg (regs x0 (s.blocks.take h)) 3 (h:Int) r b
 mine:∀fr∈s.sg i,Mine i s fr
 one:∀fr∈s.sg i,∀fr'∈s.sg i,(decV fr).k≠1→(decV fr).k=(decV fr').k→(decV fr).h=(decV fr').h→(decV fr).r=(decV fr').r→fr=fr'
 pc:∀fr∈s.sg i,(decV fr).k=3→(decV fr).nl=false→Quo n s.sg (regs x0 (s.blocks.take (decV fr).h.toNat)) 2 (decV fr).h (decV fr).r (decV fr).s
 lock:∀fr∈s.sg i,(decV fr).k=3→(decV fr).nl=false→(decV fr).h=(s.height:Int)→(decV fr).r≤s.lr∧((decV fr).r=s.lr→(decV fr).s=s.lv)
 lk:0≤s.lr→Quo n s.sg s.x 2 (s.height:Int) s.lr s.lv∧(s.lr<(s.round:Int)∨(s.lr=(s.round:Int)∧2≤s.step))
 nd:ND s.log
 nda:ND s.ahead
 cert:∀(h:Nat) (d:ByteArray×List ByteArray),s.dcs[h]? =some d→CertG n s.sg (regs x0 (s.blocks.take h)) h d.1 d.2
 pv:∀fr∈s.sg i,∀fr'∈s.sg i,(decV fr).k=3→(decV fr).nl=false→(decV fr').k=2→(decV fr').nl=false→(decV fr).h=(decV fr').h→(decV fr).r<(decV fr').r→(decV fr).s≠(decV fr').s→∃r2:Int,(decV fr).r≤r2∧r2<(decV fr').r∧Quo n s.sg (regs x0 (s.blocks.take (decV fr).h.toNat)) 2 (decV fr).h r2 (decV fr').s
theorem NI.congr(h:NI n i x0 s)(hx:s'.x=s.x)(hd:s'.dcs=s.dcs)(hl:s'.log=s.log)(ha:s'.ahead=s.ahead)(hs:s'.sg=s.sg)(h1:s'.lr=s.lr)(h2:s'.lv=s.lv)(h3:s'.round=s.round)(h4:s'.step=s.step):NI n i x0 s':=by
 have hb:s'.blocks=s.blocks:=by rw[blocks_dcs,blocks_dcs,hd]
 have hh:s'.height=s.height:=by rw[←blocks_len,←blocks_len,hb]
 refine⟨?_,?_,?_,?_,?_,?_,?_,?_,?_,?_,?_,?_,?_⟩
 .rw [hx,hb];exact h.reg
 .rw [hl,hs,hh];exact h.log
 .rw [ha,hs,hh];exact h.ahead
 .rw [hb,hs];exact h.dec
 .rw [hs];intro fr hf;have h5:=h.mine fr hf;refine⟨h5.ok,h5.f,?_⟩;rw[hh,h3,h4];exact h5.pos
 .rw [hs];exact h.one
 .rw [hs,hb];exact h.pc
 .rw [hs,hh,h1,h2];exact h.lock
 .rw [h1,h2,hs,hx,hh,h3,h4];exact h.lk
 .rw [hl];exact h.nd
 .rw [ha];exact h.nda
 .rw [hd,hs,hb];exact h.cert
 rw[hs,hb];exact h.pv
theorem NI.others(h:NI n i x0 s){sg':Nat→List ByteArray}(hs:SgLe s.sg sg')(hi:sg' i=s.sg i):NI n i x0 { s with sg:=sg' }:=by
 refine⟨h.reg,fun e he=>(h.log e he).mono hs,fun e he=>(h.ahead e he).mono hs,fun k b hb=>?_,?_,?_,?_,?_,?_,h.nd,h.nda,fun k d hd=>(h.cert k d hd).mono hs,?_⟩
 .obtain ⟨h1,r,h2⟩:=h.dec k b hb
  exact⟨h1,r,h2.mono hs⟩
 .intro fr hf;have hf':fr∈s.sg i:=by rw[←hi];exact hf
  have h5:=h.mine fr hf';exact⟨h5.ok,h5.f,h5.pos⟩
 .intro fr hf fr' hf';have hf1:fr∈s.sg i:=by rw[←hi];exact hf
  have hf2:fr'∈s.sg i:=by rw[←hi];exact hf'
  exact h.one fr hf1 fr' hf2
 .intro fr hf hk hn;have hf1:fr∈s.sg i:=by rw[←hi];exact hf
  exact(h.pc fr hf1 hk hn).mono hs
 .intro fr hf hk hn hh;have hf1:fr∈s.sg i:=by rw[←hi];exact hf
  exact h.lock fr hf1 hk hn hh
 .intro h0;exact⟨(h.lk h0).1.mono hs,(h.lk h0).2⟩
 intro fr hf fr' hf' a b c d e f g;have hf1:fr∈s.sg i:=by rw[←hi];exact hf
 have hf2:fr'∈s.sg i:=by rw[←hi];exact hf'
 obtain⟨r2,g1,g2,g3⟩:=h.pv fr hf1 fr' hf2 a b c d e f g;exact⟨r2,g1,g2,g3.mono hs⟩
theorem most_quo(hl:∀e∈s.log,EntIn n s.sg s.height e)(hm:s.most (votesForB k r t)=true):Quo n s.sg s.x k (s.height:Int) r t:=by
 refine⟨sendB (votesForB k r t) s.log,hm,fun q hq hb=>?_⟩;unfold sendB at hb;rw[List.any_eq_true] at hb;obtain⟨e,he,hv⟩:=hb;rw[Bool.and_eq_true_iff] at hv;have hf:=of_decide_eq_true hv.2;have hv1:=hv.1;unfold votesForB at hv1;rw[Bool.and_eq_true_iff,Bool.and_eq_true_iff,Bool.and_eq_true_iff] at hv1;have hE:=hl e he;have hqe:e.m.f.toNat=q:=by omega
 refine⟨by rw[←hqe];exact hE.fn,e.fr,by rw[←hqe];exact hE.mem,hE.ok,?_⟩;rw[hE.m];exact⟨of_decide_eq_true hv1.1.1.1,hE.h,of_decide_eq_true hv1.1.1.2,by simpa using hv1.1.2,of_decide_eq_true hv1.2⟩
theorem signR_le(sg:Nat→List ByteArray)(i:Nat)(t:ByteArray):SgLe sg (signR sg i t):=fun q fr hf=>by
 by_cases e:q=i
 .subst e;by_cases hm:t∈sg q
  .rw [signR_known hm];exact hf
  .rw [signR_same hm];exact List.mem_append_left _ hf
 .rw [signR_other e];exact hf
theorem signR_in:fr∈signR sg i t i↔fr∈sg i∨fr=t:=by
 by_cases hm:t∈sg i
 .rw [signR_known hm];exact⟨Or.inl,fun h=>h.elim id (fun e=>e▸hm)⟩
 rw[signR_same hm,List.mem_append,List.mem_singleton]
theorem NI.send(h:NI n i x0 s)(hi:i<n)(k:Nat)(v:Int)(nl:Bool)(t:ByteArray)(st:Nat)(hst:s.step≤st)(hk:k≤st)(hkk:k=1∨s.step<k)
 (hpc:k=3→nl=false→Quo n s.sg s.x 2 (s.height:Int) (s.round:Int) t∧s.lr=(s.round:Int)∧s.lv=t)
 (hpv:k=2→nl=false→∀fr∈s.sg i,(decV fr).k=3→(decV fr).nl=false→(decV fr).h=(s.height:Int)→(decV fr).r<(s.round:Int)→(decV fr).s≠t→∃r2:Int,(decV fr).r≤r2∧r2<(s.round:Int)∧Quo n s.sg s.x 2 (s.height:Int) r2 t):
 NI n i x0 ((s.sendS i (k:Int) v nl t).atStep st):=by
 have hstep:NI n i x0 (s.atStep st):=by
  refine⟨h.reg,h.log,h.ahead,h.dec,fun fr hf=>?_,h.one,h.pc,h.lock,fun h0=>?_,h.nd,h.nda,h.cert,h.pv⟩
  .have h5:=h.mine fr hf;refine⟨h5.ok,h5.f,?_⟩;rcases h5.pos with a|⟨a,b|⟨b,c⟩⟩
   .exact Or.inl a
   .exact Or.inr ⟨a,Or.inl b⟩
   exact Or.inr ⟨a,Or.inr ⟨b,Int.le_trans c (by show(s.step:Int)≤(st:Int);omega)⟩⟩
  obtain⟨a,b⟩:=h.lk h0;refine⟨a,?_⟩;rcases b with b|⟨b,c⟩
  .exact Or.inl b
  exact Or.inr ⟨b,Nat.le_trans c hst⟩
 unfold NodeS.sendS;split
 .exact hstep
 split
 .rename_i _ hB;obtain⟨hdo,hdv⟩:=dec_enc hB;obtain⟨F,hF⟩:=gen (s.enc i (k:Int) v nl t);have hFo:decOk F=true:=by rw[hF];exact hdo
  have hFv:decV F=⟨(k:Int),(s.height:Int),(s.round:Int),(i:Int),v,nl,t⟩:=by rw[hF];exact hdv
  show NI n i x0 { s with sg:=signR s.sg i (s.enc i (k:Int) v nl t),out:=put1 s.out (s.enc i (k:Int) v nl t),log:=s.log++[⟨s.msg i (k:Int) v nl t,s.enc i (k:Int) v nl t,true⟩],step:=st };rw[←hF];have hle:=signR_le s.sg i F;have hnew:∀fr,fr∈signR s.sg i F i→fr∈s.sg i∨fr=F:=fun fr hf=>signR_in.1 hf;have hmem:F∈signR s.sg i F i:=signR_in.2 (Or.inr rfl);have htk:s.blocks.take (s.height:Int).toNat=s.blocks:=by
   rw[Int.toNat_natCast,List.take_of_length_le];rw[blocks_len];exact Nat.le_refl _
  -- no frame of that kind, height and round was signed
  have hno:∀fr,fr∈s.sg i→(decV fr).k=(k:Int)→(decV fr).h=(s.height:Int)→(decV fr).r=(s.round:Int)→k=1:=fun fr hf a b c=>by
   rcases(h.mine fr hf).pos with p|⟨p,q|⟨q,u⟩⟩
   .omega
   .omega
   rcases hkk with e|e
   .exact e
   exfalso;omega
  refine⟨h.reg,fun e he=>?_,fun e he=>(h.ahead e he).mono hle,fun k b hb=>?_,fun fr hf=>?_,fun fr hf fr' hf' a b c d=>?_,fun fr hf a b=>?_,fun fr hf a b c=>?_,fun h0=>?_,?_,h.nda,fun j d hd=>(h.cert j d hd).mono hle,fun fr hf fr' hf' a b c d e f g=>?_⟩
  .rcases List.mem_append.1 he with he|he
   .exact (h.log e he).mono hle
   obtain rfl:=List.mem_singleton.1 he;refine⟨hFo,hFv,?_,?_,?_,rfl⟩
   .show (0:Int)≤(i:Int);omega
   .show (i:Int).toNat<n
    rw[Int.toNat_natCast];exact hi
   show F∈signR s.sg i F (i:Int).toNat;rw[Int.toNat_natCast];exact hmem
  .obtain ⟨h1,r,h2⟩:=h.dec k b hb
   exact⟨h1,r,h2.mono hle⟩
  .rcases hnew fr hf with hf|rfl
   .have h5:=hstep.mine fr hf;exact⟨h5.ok,h5.f,h5.pos⟩
   refine⟨hFo,by rw[hFv],Or.inr ⟨by rw[hFv];rfl,Or.inr ⟨by rw[hFv],?_⟩⟩⟩;rw[hFv];show(k:Int)≤(st:Int);omega
  .rcases hnew fr hf with hg|e1<;>rcases hnew fr' hf' with hg'|e2
   .exact h.one fr hg fr' hg' a b c d
   .exfalso;subst e2;rw[hFv] at b c d;have:=hno fr hg b c d;subst this;exact a (by rw[b];rfl)
   .exfalso;subst e1;have a':=a;rw[hFv] at a b c d;have:=hno fr' hg' b.symm c.symm d.symm;subst this;exact a rfl
   rw[e1,e2]
  .rcases hnew fr hf with hf|rfl
   .exact (h.pc fr hf a b).mono hle
   rw[hFv] at a b ⊢;have hk3:k=3:=by have:(k:Int)=3:=a;omega
   show Quo n _ (regs x0 (s.blocks.take (s.height:Int).toNat)) 2 (s.height:Int) (s.round:Int) t;rw[htk,←h.reg];exact(hpc hk3 b).1.mono hle
  .rcases hnew fr hf with hf|rfl
   .exact h.lock fr hf a b c
   rw[hFv] at a b ⊢;have hk3:k=3:=by have:(k:Int)=3:=a;omega
   obtain⟨_,h2,h3⟩:=hpc hk3 b;exact⟨by show(s.round:Int)≤s.lr;rw[h2];exact Int.le_refl _,fun _=>h3.symm⟩
  .obtain ⟨p,q⟩:=hstep.lk h0
   exact⟨p.mono hle,q⟩
  .refine h.nd.snoc fun hk3 e he _ hef=>?_;have hk3':(k:Int)=3:=hk3;have hE:=h.log e he;have hef':e.fr=F:=hef;have hem:decV F=e.m:=by rw[←hef',hE.m]
   have hei:e.m.f=(i:Int):=by rw[←hem,hFv]
   have hmemi:F∈s.sg i:=by
    have:=hE.mem;rw[hef',hei,Int.toNat_natCast] at this;exact this
   have:=hno F hmemi (by rw[hFv]) (by rw[hFv]) (by rw[hFv]);omega
  rcases hnew fr hf with hg|e1<;>rcases hnew fr' hf' with hg'|e2
  .obtain ⟨r2,g1,g2,g3⟩:=h.pv fr hg fr' hg' a b c d e f g
   exact⟨r2,g1,g2,g3.mono hle⟩
  .subst e2;rw[hFv] at c d e f g ⊢;have hk2:k=2:=by have:(k:Int)=2:=c;omega
   obtain⟨r2,g1,g2,g3⟩:=hpv hk2 d fr hg a b e f g;refine⟨r2,g1,g2,?_⟩;show Quo n _ (regs x0 (s.blocks.take (decV fr).h.toNat)) 2 (decV fr).h r2 t;rw[e];show Quo n _ (regs x0 (s.blocks.take (s.height:Int).toNat)) 2 (s.height:Int) r2 t;rw[htk,←h.reg];exact g3.mono hle
  .exfalso;subst e1;rw[hFv] at e f;have e':(s.height:Int)=(decV fr').h:=e;have f':(s.round:Int)<(decV fr').r:=f;rcases(h.mine fr' hg').pos with p|⟨p,q|⟨q,u⟩⟩<;>omega
  exfalso;subst e1;subst e2;omega
 exact hstep
theorem decOk_has(h:decOk t=true):hasB (decV t).k (decV t).h (decV t).r (decV t).f (decV t).v (decV t).nl (decV t).s.size=true:=by
 have h2:=h;unfold decV;rw[if_pos h];unfold decOk decB at h2;simp only[Bool.and_eq_true] at h2;exact h2.2.1.1
theorem decOk_r0(h:decOk t=true):0≤(decV t).r:=by
 have h1:=of_decide_eq_true (decOk_has h);exact h1.2.2.1
theorem decOk_v(h:decOk t=true)(hk:(decV t).k=1):(decV t).v<(decV t).r:=by
 have h1:=(of_decide_eq_true (decOk_has h)).2.2.2.2.2.2.2;rcases h1 with h1|⟨h1,_⟩
 .exact h1.2.2.2
 omega
theorem atStep_self{st:Nat}(h:s.step=st):s.atStep st=s:=by
 subst h;rfl
theorem sendS_step(s:NodeS)(i:Nat)(k v:Int)(nl:Bool)(t:ByteArray):(s.sendS i k v nl t).step=s.step:=by
 unfold NodeS.sendS;split
 .rfl
 split<;>rfl
theorem NI.turned(h:NI n i x0 s){r st:Nat}(hr:s.round<r):NI n i x0 (s.turned r st):=by
 refine⟨h.reg,h.log,h.ahead,h.dec,fun fr hf=>?_,h.one,h.pc,h.lock,fun h0=>?_,h.nd,h.nda,h.cert,h.pv⟩
 .have h5:=h.mine fr hf;refine⟨h5.ok,h5.f,?_⟩;rcases h5.pos with a|⟨a,b|⟨b,c⟩⟩
  .exact Or.inl a
  .exact Or.inr ⟨a,Or.inl (by show(decV fr).r<(r:Int);omega)⟩
  exact Or.inr ⟨a,Or.inl (by show(decV fr).r<(r:Int);omega)⟩
 obtain⟨a,b⟩:=h.lk h0;refine⟨a,Or.inl ?_⟩;show s.lr<(r:Int);rcases b with b|⟨b,_⟩<;>omega
theorem NI.turnedF(h:NI n i x0 s)(hf:∀fr∈s.sg i,(decV fr).h<(s.height:Int))(hlr:s.lr<0)(r st:Nat):NI n i x0 (s.turned r st):=by
 refine⟨h.reg,h.log,h.ahead,h.dec,fun fr hm=>?_,h.one,h.pc,h.lock,fun h0=>?_,h.nd,h.nda,h.cert,h.pv⟩
 .have h5:=h.mine fr hm;exact⟨h5.ok,h5.f,Or.inl (hf fr hm)⟩
 exfalso;have h1:0≤s.lr:=h0;omega
theorem NI.timer(h:NI n i x0 s)(a b:Nat):NI n i x0 (s.timer a b):=h.congr rfl rfl rfl rfl rfl rfl rfl rfl rfl
theorem NI.beginR{r:Nat}(h:NI n i x0 (s.turned r 1))(hi:i<n):NI n i x0 (s.beginR i r):=by
 unfold NodeS.beginR;split
 .have h1:=h.send hi 1 s.vr false (if s.vr<0 then blockF s.x s.wait else s.vv) 1 (Nat.le_refl _) (Nat.le_refl _) (Or.inl rfl) (fun e=>by cases e) (fun e=>by cases e);have h2:(((s.turned r 1).sendS i ((1:Nat):Int) s.vr false (if s.vr<0 then blockF s.x s.wait else s.vv)).atStep 1)=(s.turned r 1).sendS i 1 s.vr false (if s.vr<0 then blockF s.x s.wait else s.vv):=atStep_self (by rw[sendS_step];rfl);rw[h2] at h1;exact h1
 exact h.timer 1 3
theorem NI.next(h:NI n i x0 s){p:EntV}(hm:s.most (votesForB 3 p.m.r p.m.s)=true)(hg:s.good p.m.s=true)(q:EntV→Bool):
 NI n i x0 ((s.kept p).nextLog ((s.kept p).ahead.filter q))∧(∀fr∈s.sg i,(decV fr).h<(s.height:Int)+1):=by
 have hQ:=most_quo h.log hm;have hb:((s.kept p).nextLog ((s.kept p).ahead.filter q)).blocks=s.blocks++[p.m.s]:=by
  show(s.dec++[_]).map (fun d:DcnV=>d.block)=_;rw[List.map_append];rfl
 have hh:((s.kept p).nextLog ((s.kept p).ahead.filter q)).height=s.height+1:=by
  show(s.dec++[_]).length=_;rw[List.length_append];rfl
 have hfr:∀fr∈s.sg i,(decV fr).h<(s.height:Int)+1:=fun fr hf=>by
  rcases(h.mine fr hf).pos with a|⟨a,_⟩<;>omega
 have htk:∀fr∈s.sg i,(s.blocks++[p.m.s]).take (decV fr).h.toNat=s.blocks.take (decV fr).h.toNat:=fun fr hf=>by
  rw[List.take_append_of_le_length];rw[blocks_len];have:=hfr fr hf;omega
 refine⟨⟨?_,fun e he=>?_,(fun _ he=>by cases he),fun k b hk=>?_,fun fr hf=>?_,h.one,fun fr hf a b=>?_,fun fr hf a b c=>?_,fun h0=>?_,h.nda.filter q,ND.nil,fun k d hd=>?_,fun fr hf fr' hf' a b c d e f g=>?_⟩,hfr⟩
 .rw [hb,regs_snoc,←h.reg];rfl
 .rw [hh];exact h.ahead e (List.mem_filter.1 he).1
 .rw [hb] at hk ⊢;by_cases e:k<s.height
  .have e1:(s.blocks++[p.m.s])[k]? =s.blocks[k]? :=List.getElem?_append_left (by rw[blocks_len];exact e);rw[e1] at hk;rw[List.take_append_of_le_length (by rw[blocks_len];omega)];exact h.dec k b hk
  have hkl:k<(s.blocks++[p.m.s]).length:=(List.getElem?_eq_some_iff.1 hk).1;rw[List.length_append,blocks_len] at hkl;have hke:k=s.height:=by
   simp only[List.length_cons,List.length_nil] at hkl;omega
  subst hke;have e1:(s.blocks++[p.m.s])[s.height]? =some p.m.s:=by
   rw[←blocks_len,List.getElem?_append_right (Nat.le_refl _)];simp
  obtain rfl:=Option.some.inj (e1.symm.trans hk);have e2:(s.blocks++[p.m.s]).take s.height=s.blocks:=by
   rw[←blocks_len,List.take_left'];rfl
  rw[e2,←h.reg];exact⟨hg,p.m.r,hQ⟩
 .have h5:=h.mine fr hf;refine⟨h5.ok,h5.f,Or.inl ?_⟩;rw[hh];have:=hfr fr hf;omega
 .rw [hb,htk fr hf];exact h.pc fr hf a b
 .exfalso;rw[hh] at c;have:=hfr fr hf;omega
 .exact absurd h0 (by show¬(0:Int)≤-1;decide)
 .have hds:((s.kept p).nextLog ((s.kept p).ahead.filter q)).dcs=s.dcs++[(p.m.s,certTo (votesForB 3 p.m.r p.m.s) s.log 8)]:=by
   show(s.dec++[_]).map (fun d:DcnV=>(d.block,d.cert))=_;rw[List.map_append];rfl
  have hdl:s.dcs.length=s.height:=by unfold NodeS.dcs NodeS.height;rw[List.length_map]
  rw[hds] at hd;rw[hb];by_cases e:k<s.height
  .have e1:(s.dcs++[(p.m.s,certTo (votesForB 3 p.m.r p.m.s) s.log 8)])[k]? =s.dcs[k]? :=List.getElem?_append_left (by rw[hdl];exact e);rw[e1] at hd;rw[List.take_append_of_le_length (by rw[blocks_len];omega)];exact h.cert k d hd
  have hkl:k<(s.dcs++[(p.m.s,certTo (votesForB 3 p.m.r p.m.s) s.log 8)]).length:=(List.getElem?_eq_some_iff.1 hd).1;rw[List.length_append,hdl] at hkl;have hke:k=s.height:=by
   simp only[List.length_cons,List.length_nil] at hkl;omega
  subst hke;have e1:(s.dcs++[(p.m.s,certTo (votesForB 3 p.m.r p.m.s) s.log 8)])[s.height]? =some (p.m.s,certTo (votesForB 3 p.m.r p.m.s) s.log 8):=by
   rw[←hdl,List.getElem?_append_right (Nat.le_refl _)];simp
  obtain rfl:=Option.some.inj (e1.symm.trans hd);have e2:(s.blocks++[p.m.s]).take s.height=s.blocks:=by
   rw[←blocks_len,List.take_left'];rfl
  rw[e2,←h.reg];exact cert_of_log h.log h.nd hm
 rw[hb,htk fr hf];exact h.pv fr hf fr' hf' a b c d e f g
theorem NI.keep(h:NI n i x0 s)(hi:i<n){p:EntV}(hm:s.most (votesForB 3 p.m.r p.m.s)=true)(hg:s.good p.m.s=true):NI n i x0 (s.keepS i p):=by
 unfold NodeS.keepS;rw[beginH_eq];obtain⟨h1,h2⟩:=h.next hm hg (fun e=> !(s.kept p).outsider e.m);have hh:((s.kept p).nextLog ((s.kept p).ahead.filter fun e=> !(s.kept p).outsider e.m)).height=s.height+1:=by
  show(s.dec++[_]).length=_;rw[List.length_append];rfl
 have h3:∀fr∈((s.kept p).nextLog ((s.kept p).ahead.filter fun e=> !(s.kept p).outsider e.m)).sg i,(decV fr).h<(((s.kept p).nextLog ((s.kept p).ahead.filter fun e=> !(s.kept p).outsider e.m)).height:Int):=fun fr hf=>by
  rw[hh];have:=h2 fr hf;omega
 split
 .exact h1.turnedF h3 (by show(-1:Int)<0;decide) 0 0
 exact NI.beginR (h1.turnedF h3 (by show(-1:Int)<0;decide) 0 1) hi
theorem NI.decS(h:NI n i x0 s)(hi:i<n):NI n i x0 (NodeS.decS i s).2:=by
 cases hd:s.decF with
 |none=>rw[decS_none hd];exact h
 |some p=>
  rw[decS_some hd];obtain⟨r,_,hr⟩:=decF_at hd;unfold NodeS.decAt at hr;have h1:=(propF_mem hr).2.2.2;rw[Bool.and_eq_true_iff,←(propF_mem hr).2.2.1] at h1;exact h.keep hi h1.1 h1.2
theorem NI.follow(h:NI n i x0 s)(hi:i<n):NI n i x0 (s.followS i).2:=by
 unfold NodeS.followS;split
 .exact h
 rename_i r hr;have h1:s.roundB r=true:=List.find?_some hr;unfold NodeS.roundB at h1;rw[Bool.and_eq_true_iff] at h1;exact NI.beginR (h.turned (of_decide_eq_true h1.1)) hi
theorem NI.nothing2(h:NI n i x0 s)(hi:i<n)(hs:s.step=1):NI n i x0 (s.nothing i 2 2):=
 h.send hi 2 0 true ⟨#[]⟩ 2 (by omega) (Nat.le_refl _) (Or.inr (by omega)) (fun e=>by cases e) (fun _ e=>by cases e)
theorem NI.nothing3(h:NI n i x0 s)(hi:i<n)(hs:s.step=2):NI n i x0 (s.nothing i 3 3):=
 h.send hi 3 0 true ⟨#[]⟩ 3 (by omega) (Nat.le_refl _) (Or.inr (by omega)) (fun _ e=>by cases e) (fun e=>by cases e)
theorem NI.answer(h:NI n i x0 s)(hi:i<n){fits:EntV→Bool}(hfit:∀p,fits p=true→p.m.v<0∨s.most (votesForB 2 p.m.v p.m.s)=true):NI n i x0 (s.answerS i fits).2:=by
 unfold NodeS.answerS;split
 .rename_i hs;split
  .exact h
  rename_i p hp;obtain⟨hp1,hp2,hp3,hp4⟩:=propF_mem hp;show NI n i x0 (if s.mayS p=true then(s.sendS i 2 0 false p.m.s).atStep 2 else s.nothing i 2 2);split
  .rename_i hmay;refine h.send hi 2 0 false p.m.s 2 (by omega) (Nat.le_refl _) (Or.inr (by omega)) (fun e=>by cases e) (fun _ _ fr hf a b c d e=>?_);obtain⟨l1,l2⟩:=h.lock fr hf a b c;have hr0:=decOk_r0 (h.mine fr hf).ok;have hl0:0≤s.lr:=by omega
   obtain⟨k1,k2⟩:=h.lk hl0;have k3:s.lr<(s.round:Int):=by
    rcases k2 with k2|⟨_,k2⟩
    .exact k2
    omega
   unfold NodeS.mayS at hmay;rw[Bool.and_eq_true_iff,Bool.or_eq_true_iff] at hmay;rcases hmay.2 with hv|hv
   .have hv':=of_decide_eq_true hv;rcases hfit p hp4 with hn|hn
    .omega
    have hE:=h.log p hp1;have hvr:=decOk_v hE.ok (by rw[hE.m];exact hp2);rw[hE.m] at hvr;exact⟨p.m.v,by omega,by omega,most_quo h.log hn⟩
   have hv':=of_decide_eq_true hv;refine⟨s.lr,l1,k3,?_⟩;rw[←hv'];exact k1
  exact h.nothing2 hi hs
 exact h
theorem NI.hold(h:NI n i x0 s)(hi:i<n):NI n i x0 (s.holdS i).2:=by
 unfold NodeS.holdS;split
 .split
  .exact h
  rename_i p hp;unfold NodeS.holdF at hp;have h1:=(propF_mem hp).2.2.2;rw[Bool.and_eq_true_iff] at h1;have hQ:=most_quo h.log h1.1;show NI n i x0 (if s.step=2 then((s.held1 p.m.s).lock1.sendS i 3 0 false p.m.s).atStep 3 else s.held1 p.m.s);split
  .rename_i hs;have hL:NI n i x0 (s.held1 p.m.s).lock1:=by
    refine⟨h.reg,h.log,h.ahead,h.dec,fun fr hf=>?_,h.one,h.pc,fun fr hf a b c=>?_,fun _=>⟨hQ,Or.inr ⟨rfl,?_⟩⟩,h.nd,h.nda,h.cert,h.pv⟩
    .have h5:=h.mine fr hf;exact⟨h5.ok,h5.f,h5.pos⟩
    .show (decV fr).r≤(s.round:Int)∧((decV fr).r=(s.round:Int)→(decV fr).s=p.m.s)
     have c':(decV fr).h=(s.height:Int):=c;rcases(h.mine fr hf).pos with u|⟨_,v|⟨v,u⟩⟩
     .omega
     .exact ⟨by omega,fun e=>by omega⟩
     omega
    show 2≤s.step;omega
   exact hL.send hi 3 0 false p.m.s 3 (by show s.step≤3;omega) (Nat.le_refl _) (Or.inr (by show s.step<3;omega)) (fun _ _=>⟨hQ,rfl,rfl⟩) (fun e=>by cases e)
  exact h.congr rfl rfl rfl rfl rfl rfl rfl rfl rfl
 exact h
theorem NI.giveUp(h:NI n i x0 s)(hi:i<n):NI n i x0 (s.giveUpS i).2:=by
 unfold NodeS.giveUpS;split
 .rename_i hs;exact h.nothing3 hi hs.1
 exact h
theorem NI.wait2(h:NI n i x0 s):NI n i x0 s.wait2S.2:=by
 unfold NodeS.wait2S;split
 .exact h.timer 2 2
 exact h
theorem NI.wait3(h:NI n i x0 s):NI n i x0 s.wait3S.2:=by
 unfold NodeS.wait3S;split
 .exact h.timer 3 2
 exact h
theorem NI.oneS(h:NI n i x0 s)(hi:i<n):NI n i x0 (s.oneS (NodeS.decS i) i).2:=by
 unfold NodeS.oneS;split
 .exact h.decS hi
 split
 .exact h.follow hi
 split
 .exact h.answer hi fun p hp=>Or.inl (of_decide_eq_true hp)
 split
 .refine h.answer hi fun p hp=>?_;unfold NodeS.oldB at hp;rw[Bool.and_eq_true_iff] at hp;exact Or.inr hp.2
 split
 .exact h.hold hi
 split
 .exact h.giveUp hi
 split
 .exact h.wait2
 exact h.wait3
theorem NI.goF(hi:i<n):∀(f:Nat) (s:NodeS),NI n i x0 s→NI n i x0 (NodeS.goF i f s)
 |0,_,h=>h
 |f+1,s,h=>by
  unfold NodeS.goF;split
  .exact NI.goF hi f _ (h.oneS hi)
  .exact h
theorem NI.goOn(h:NI n i x0 s)(hi:i<n):NI n i x0 (s.goOnS i):=NI.goF hi 2200 s h
theorem NI.take(h:NI n i x0 s){e:EntV}(h1:e.m.h=(s.height:Int)→EntIn n s.sg s.height e)(h2:e.m.h≠(s.height:Int)→EntIn n s.sg (s.height+1) e)(h3:∀x∈s.logAtH e.m.h,x.fr≠e.fr):NI n i x0 (s.takeS e):=by
 unfold NodeS.logAtH at h3;unfold NodeS.takeS;split
 .rename_i hh;rw[if_pos hh] at h3;refine⟨h.reg,fun x hx=>?_,h.ahead,h.dec,fun fr hf=>?_,h.one,h.pc,h.lock,h.lk,h.nd.snoc (fun _ x hx _=>h3 x hx),h.nda,h.cert,h.pv⟩
  .rcases List.mem_append.1 hx with hx|hx
   .exact h.log x hx
   rw[List.mem_singleton.1 hx];exact h1 hh
  have h5:=h.mine fr hf;exact⟨h5.ok,h5.f,h5.pos⟩
 rename_i hh;rw[if_neg hh] at h3;refine⟨h.reg,h.log,fun x hx=>?_,h.dec,fun fr hf=>?_,h.one,h.pc,h.lock,h.lk,h.nd,h.nda.snoc (fun _ x hx _=>h3 x hx),h.cert,h.pv⟩
 .rcases List.mem_append.1 hx with hx|hx
  .exact h.ahead x hx
  rw[List.mem_singleton.1 hx];exact h2 hh
 have h5:=h.mine fr hf;exact⟨h5.ok,h5.f,h5.pos⟩
theorem map_block_set{l:List DcnV}{k:Nat}{d:DcnV}(h:∀e,l[k]? =some e→d.block=e.block∧d.cert=e.cert):(l.set k d).map (fun d=>(d.block,d.cert))=l.map (fun d=>(d.block,d.cert)):=by
 apply List.ext_getElem?;intro j;rw[List.getElem?_map,List.getElem?_map,List.getElem?_set];split
 .rename_i e;subst e;split
  .rename_i hk;rw[List.getElem?_eq_getElem hk];have:=h _ (List.getElem?_eq_getElem hk);simp[this]
  rename_i hk;rw[List.getElem?_eq_none (by omega)]
 rfl
theorem NI.tell(h:NI n i x0 s)(k:Nat):NI n i x0 (s.tellS k):=by
 unfold NodeS.tellS;split
 .exact h
 refine h.congr rfl ?_ rfl rfl rfl rfl rfl rfl rfl;exact map_block_set fun e he=>by
  show(s.dec.getD k dcn0).block=_∧(s.dec.getD k dcn0).cert=_;rw[List.getD_eq_getElem?_getD,he];exact⟨rfl,rfl⟩
theorem hasT_mem{l:List ByteArray}(h:hasT l t=true):t∈l:=by
 by_cases hm:t∈l
 .exact hm
 rw[hasT_no hm] at h;cases h
theorem NI.receive(h:NI n i x0 s)(hi:i<n)(fr:ByteArray):NI n i x0 (s.receiveS n i fr):=by
 unfold NodeS.receiveS;split
 .rename_i hd;unfold NodeS.recvS;split
  .exact h.tell _
  rename_i hnp;split
  .exact h
  rename_i hr;have hsg:=hd.2;unfold signedB at hsg;rw[Bool.and_eq_true_iff] at hsg;have hfn:=of_decide_eq_true hsg.1;have hmem:=hasT_mem hsg.2;have hE:∀k:Nat,(decV fr).h=(k:Int)→EntIn n s.sg k ⟨decV fr,fr,false⟩:=fun k hk=>⟨hd.1,rfl,hfn.1,by show(decV fr).f.toNat<n;omega,hmem,hk⟩;unfold NodeS.refS at hr;rw[if_neg hnp] at hr;split at hr
  .cases hr
  rename_i hfar;split at hr
  .cases hr
  split at hr
  .cases hr
  rename_i hF;refine NI.goOn (h.take (fun e=>hE _ e) (fun e=>hE _ ?_) ?_) hi
  .have e':(decV fr).h≠(s.height:Int):=e;show(decV fr).h=((s.height+1:Nat):Int);omega
  intro x hx e;refine hF ?_;unfold hasF;rw[List.any_eq_true];exact⟨x,hx,decide_eq_true e⟩
 exact h
theorem NI.exp(h:NI n i x0 s)(hi:i<n)(t:TimV):NI n i x0 (s.expS i t):=by
 unfold NodeS.expS;split
 .split
  .rename_i hs;exact h.nothing2 hi hs.2
  split
  .rename_i hs;exact h.nothing3 hi hs.2
  split
  .exact NI.beginR (h.turned (Nat.lt_succ_self _)) hi
  exact h
 exact h
theorem NI.dueF(hi:i<n):∀(f:Nat) (s:NodeS),NI n i x0 s→NI n i x0 (NodeS.dueF i f s)
 |0,_,h=>h
 |f+1,s,h=>by
  unfold NodeS.dueF;split
  .exact h
  .split
   .refine NI.dueF hi f _ (NI.goOn (NI.exp ?_ hi _) hi);exact h.congr rfl rfl rfl rfl rfl rfl rfl rfl rfl
   .exact h
theorem NI.tick(h:NI n i x0 s)(hi:i<n):NI n i x0 (s.tickS i):=by
 have h1:NI n i x0 s.tick0:=by
  refine h.congr rfl ?_ rfl rfl rfl rfl rfl rfl rfl;show(s.dec.map fun d=>{ d with told:=false }).map (fun d=>(d.block,d.cert))=s.dec.map (fun d=>(d.block,d.cert));rw[List.map_map];rfl
 have h2:=NI.dueF hi (s.tims.length+1) s.tick0 h1;unfold NodeS.tickS NodeS.again;split
 .exact h2.congr rfl rfl rfl rfl rfl rfl rfl rfl rfl
 exact h2
theorem NI.sub(h:NI n i x0 s)(t:ByteArray):NI n i x0 (s.subS t):=by
 unfold NodeS.subS;split
 .exact h.congr rfl rfl rfl rfl rfl rfl rfl rfl rfl
 exact h
theorem NI.sent(h:NI n i x0 s):NI n i x0 { s with out:=[] }:=h.congr rfl rfl rfl rfl rfl rfl rfl rfl rfl
def SgU(_j:Nat)(s s':NodeS):Prop:=SgLe s.sg s'.sg
theorem SgU.refl(j:Nat)(s:NodeS):SgU j s s:=fun _ _ h=>h
theorem SgU.trans{s2:NodeS}(h:SgU j s s')(h':SgU j s' s2):SgU j s s2:=SgLe.trans (a:=s.sg) (b:=s'.sg) (c:=s2.sg) h h'
theorem sgu_of(h:s'.sg=s.sg):SgU j s s':=fun k fr hf=>by rw[h];exact hf
theorem sgu_send(s:NodeS)(j:Nat)(k v:Int)(nl:Bool)(t:ByteArray):SgU j s (s.sendS j k v nl t):=by
 unfold NodeS.sendS;split
 .exact SgU.refl j s
 split
 .exact signR_le s.sg j _
 exact SgU.refl j s
theorem sgu_begin(s:NodeS)(j r:Nat):SgU j s (s.beginR j r):=by
 unfold NodeS.beginR;split
 .exact (sgu_of (s:=s) (s':=s.turned r 1) rfl).trans (sgu_send _ _ _ _ _ _)
 exact sgu_of rfl
theorem sgu_nothing(s:NodeS)(j:Nat)(k:Int)(st:Nat):SgU j s (s.nothing j k st):=(sgu_send s j k 0 true ⟨#[]⟩).trans (sgu_of rfl)
theorem sgu_keep(s:NodeS)(j:Nat)(p:EntV):SgU j s (s.keepS j p):=by
 unfold NodeS.keepS;rw[beginH_eq];split
 .exact sgu_of rfl
 exact(sgu_of (s:=s) (s':=(s.kept p).nextLog ((s.kept p).ahead.filter fun e=> !(s.kept p).outsider e.m)) rfl).trans (sgu_begin _ _ _)
theorem sgu_answer(s:NodeS)(j:Nat)(fits:EntV→Bool):SgU j s (s.answerS j fits).2:=by
 unfold NodeS.answerS;split
 .split
  .exact SgU.refl j s
  dsimp only
  split
  .exact (sgu_send s j 2 0 false _).trans (sgu_of rfl)
  exact sgu_nothing s j 2 2
 exact SgU.refl j s
theorem sgu_one(s:NodeS)(j:Nat):SgU j s (s.oneS (NodeS.decS j) j).2:=by
 unfold NodeS.oneS;split
 .unfold NodeS.decS;split
  .exact SgU.refl j s
  exact sgu_keep s j _
 split
 .unfold NodeS.followS;split
  .exact SgU.refl j s
  exact sgu_begin s j _
 split
 .exact sgu_answer s j _
 split
 .exact sgu_answer s j _
 split
 .unfold NodeS.holdS;split
  .split
   .exact SgU.refl j s
   dsimp only
   split
   .exact (sgu_of (s:=s) (s':=(s.held1 _).lock1) rfl).trans ((sgu_send _ _ _ _ _ _).trans (sgu_of rfl))
   exact sgu_of rfl
  exact SgU.refl j s
 split
 .unfold NodeS.giveUpS;split
  .exact sgu_nothing s j 3 3
  exact SgU.refl j s
 split
 .unfold NodeS.wait2S;split
  .exact sgu_of rfl
  exact SgU.refl j s
 unfold NodeS.wait3S;split
 .exact sgu_of rfl
 exact SgU.refl j s
theorem sgu_goF(j:Nat):∀(f:Nat) (s:NodeS),SgU j s (NodeS.goF j f s)
 |0,s=>SgU.refl j s
 |f+1,s=>by
  rw[NodeS.goF];split
  .exact (sgu_one s j).trans (sgu_goF j f _)
  .exact SgU.refl j s
theorem sgu_exp(s:NodeS)(j:Nat)(t:TimV):SgU j s (s.expS j t):=by
 unfold NodeS.expS;split
 .split
  .exact sgu_nothing s j 2 2
  split
  .exact sgu_nothing s j 3 3
  split
  .exact sgu_begin s j _
  exact SgU.refl j s
 exact SgU.refl j s
theorem sgu_take(s:NodeS)(j:Nat)(e:EntV):SgU j s (s.takeS e):=by
 unfold NodeS.takeS;split<;>exact sgu_of rfl
theorem sgu_tell(s:NodeS)(j h:Nat):SgU j s (s.tellS h):=by
 unfold NodeS.tellS;split
 .exact SgU.refl j s
 exact sgu_of rfl
theorem sgu_receive(s:NodeS)(n j:Nat)(fr:ByteArray):SgU j s (s.receiveS n j fr):=by
 unfold NodeS.receiveS;split
 .unfold NodeS.recvS;split
  .exact sgu_tell s j _
  split
  .exact SgU.refl j s
  exact(sgu_take s j _).trans (sgu_goF j 2200 _)
 exact SgU.refl j s
theorem sgu_dueF(j:Nat):∀(f:Nat) (s:NodeS),SgU j s (NodeS.dueF j f s)
 |0,s=>SgU.refl j s
 |f+1,s=>by
  rw[NodeS.dueF];split
  .exact SgU.refl j s
  .split
   .exact ((sgu_of (s:=s) (s':=s.popS) rfl).trans ((sgu_exp _ _ _).trans (sgu_goF j 2200 _))).trans (sgu_dueF j f _)
   .exact SgU.refl j s
theorem sgu_tick(s:NodeS)(j:Nat):SgU j s (s.tickS j):=by
 unfold NodeS.tickS NodeS.again;split
 .exact ((sgu_of (s:=s) (s':=s.tick0) rfl).trans (sgu_dueF j _ _)).trans (sgu_of rfl)
 exact(sgu_of (s:=s) (s':=s.tick0) rfl).trans (sgu_dueF j _ _)
theorem sgu_sub(s:NodeS)(j:Nat)(t:ByteArray):SgU j s (s.subS t):=by
 unfold NodeS.subS;split
 .exact sgu_of rfl
 exact SgU.refl j s
structure CitL where
 st:Nat→NodeS
 sg:Nat→List ByteArray
 said:List ByteArray
structure CI (n:Nat) (hon:Nat→Bool) (x0:Nat→Int) (c:CitL):Prop where
 ni:∀j,j<n→hon j=true→NI n j x0 (c.st j)
 sg:∀j,j<n→hon j=true→(c.st j).sg=c.sg
variable{c:CitL}
theorem CI.step(h:CI n hon x0 c){j:Nat}{s':NodeS}(hj:j<n)(hh:hon j=true)(hN:NI n j x0 s')(ho:SgO j (c.st j) s')(hu:SgU j (c.st j) s')(said':List ByteArray):CI n hon x0 ⟨updS c.st j s',s'.sg,said'⟩:=by
 refine⟨fun k hk hhk=>?_,fun k hk hhk=>?_⟩
 .by_cases e:k=j
  .subst e;show NI n k x0 (updS c.st k s' k);rw[updS_at];exact hN
  show NI n k x0 (updS c.st j s' k);rw[updS_ne e];refine(h.ni k hk hhk).others ?_ ?_
  .rw [h.sg k hk hhk,←h.sg j hj hh];exact hu
  rw[ho k e,h.sg k hk hhk,h.sg j hj hh]
 by_cases e:k=j
 .subst e;show(updS c.st k s' k).sg=s'.sg;rw[updS_at]
 show(updS c.st j s' k).sg=s'.sg;rw[updS_ne e]
theorem CI.lie(h:CI n hon x0 c){q:Nat}(hq:hon q=false)(fr:ByteArray)(said':List ByteArray):CI n hon x0 ⟨fun k=>{ c.st k with sg:=signR c.sg q fr },signR c.sg q fr,said'⟩:=by
 refine⟨fun k hk hhk=>?_,fun k hk hhk=>rfl⟩;refine(h.ni k hk hhk).others ?_ ?_
 .rw [h.sg k hk hhk];exact signR_le _ _ _
 rw[h.sg k hk hhk];exact signR_other fun e=>by rw[e,hq] at hhk;cases hhk
def Less(n:Nat)(hon:Nat→Bool)(x:Nat→Int):Prop:=3*powB x (lieB n hon) 8<sumTo x 8
theorem regs_dom(h:Dom x0):∀l:List ByteArray,Dom (regs x0 l):=fun l=>by
 unfold regs;induction l generalizing x0 with
 |nil=>exact h
 |cons b l ih=>exact ih (Dom.behind b h)
def Chain(n:Nat)(sg:Nat→List ByteArray)(x0:Nat→Int)(l:List ByteArray):Prop:=∀(h:Nat) (b:ByteArray),l[h]? =some b→∃r,Quo n sg (regs x0 (l.take h)) 3 (h:Int) r b
theorem Chain.mono{l:List ByteArray}(h:Chain n sg x0 l)(hs:SgLe sg sg'):Chain n sg' x0 l:=fun k b hb=>by
 obtain⟨r,hr⟩:=h k b hb;exact⟨r,hr.mono hs⟩
theorem CI.chain(h:CI n hon x0 c){j:Nat}(hj:j<n)(hh:hon j=true):Chain n c.sg x0 (c.st j).blocks:=fun k b hb=>by
 rw[←h.sg j hj hh];exact((h.ni j hj hh).dec k b hb).2
theorem take_same{l l':List ByteArray}(hs:∀k,k<h→l[k]? =l'[k]?):l.take h=l'.take h:=by
 apply List.ext_getElem?;intro k;rw[List.getElem?_take,List.getElem?_take];split
 .rename_i hk;exact hs k hk
 rfl
def Prem(n:Nat)(hon:Nat→Bool)(x0:Nat→Int)(c:CitL)(H:Nat):Prop:=∀j,j<n→hon j=true→∀h,h≤H→h≤(c.st j).height→Less n hon (regs x0 ((c.st j).blocks.take h))
theorem CI.fair(h:CI n hon x0 c){H:Nat}{x:Nat→Int}(hx:∀q,q<n→hon q=true→H≤(c.st q).height→regs x0 ((c.st q).blocks.take H)=x):Fair n hon c.sg x (H:Int):=by
 refine⟨fun q hq hh k r t t' hk hv hv'=>?_,fun q hq hh r t hv=>?_,fun q hq hh r r' t t' hv hv' hr ht=>?_⟩
 .have hN:=h.ni q hq hh;rw[←h.sg q hq hh] at hv hv';obtain⟨fr,a1,a2,a3,a4,a5,a6,a7⟩:=hv;obtain⟨fr',b1,b2,b3,b4,b5,b6,b7⟩:=hv';have e:=hN.one fr a1 fr' b1 (by rw[a3];exact hk) (by rw[a3,b3]) (by rw[a4,b4]) (by rw[a5,b5]);rw[←a7,←b7,e]
 .have hN:=h.ni q hq hh;have hs:=h.sg q hq hh;rw[←hs] at hv ⊢;obtain⟨fr,a1,a2,a3,a4,a5,a6,a7⟩:=hv;have hp:=hN.pc fr a1 a3 a6;have hle:H≤(c.st q).height:=by
   rcases(hN.mine fr a1).pos with u|⟨u,_⟩<;>omega
  rw[a4,a5,a7,Int.toNat_natCast,hx q hq hh hle] at hp;exact hp
 have hN:=h.ni q hq hh;have hs:=h.sg q hq hh;rw[←hs] at hv hv' ⊢;obtain⟨fr,a1,a2,a3,a4,a5,a6,a7⟩:=hv;obtain⟨fr',b1,b2,b3,b4,b5,b6,b7⟩:=hv';obtain⟨r2,c1,c2,c3⟩:=hN.pv fr a1 fr' b1 a3 a6 b3 b6 (by rw[a4,b4]) (by rw[a5,b5];exact hr) (by rw[a7,b7];exact ht);have hle:H≤(c.st q).height:=by
  rcases(hN.mine fr a1).pos with u|⟨u,_⟩<;>omega
 rw[a4,b7,Int.toNat_natCast,hx q hq hh hle] at c3;rw[a5] at c1;rw[b5] at c2;exact⟨r2,c1,c2,c3⟩
theorem CI.agree(h:CI n hon x0 c)(hd:Dom x0){H:Nat}(hp:Prem n hon x0 c H):
 ∀k,k≤H→∀(l:List ByteArray),Chain n c.sg x0 l→∀i,i<n→hon i=true→k<l.length→k<(c.st i).height→l[k]? =(c.st i).blocks[k]? :=by
 intro k;induction k using Nat.strongRecOn with
 |ind k ih=>
  intro hk l hl i hi hh hkl hki;have same:∀l',Chain n c.sg x0 l'→k≤l'.length→l'.take k=(c.st i).blocks.take k:=fun l' hl' hk'=>take_same fun m hm=>ih m hm (by omega) l' hl' i hi hh (by omega) (by omega);have hF:Fair n hon c.sg (regs x0 ((c.st i).blocks.take k)) (k:Int):=h.fair fun q hq hhq hle=>by
   rw[same _ (h.chain hq hhq) (by rw[blocks_len];exact hle)]
  have hL:=hp i hi hh k hk (by omega);have hD:=regs_dom hd ((c.st i).blocks.take k);have e1:l[k]? =some l[k]:=List.getElem?_eq_getElem hkl;have hkb:k<(c.st i).blocks.length:=by rw[blocks_len];exact hki
  have e2:(c.st i).blocks[k]? =some (c.st i).blocks[k]:=List.getElem?_eq_getElem hkb;obtain⟨r,hq⟩:=hl k _ e1;obtain⟨r',hq'⟩:=h.chain hi hh k _ e2;rw[same l hl (by omega)] at hq;rw[e1,e2,fair_one hF (fun i=>(hD i).1) hL hq hq']
theorem CI.agreed(h:CI n hon x0 c)(hd:Dom x0){H:Nat}(hp:Prem n hon x0 c H){k i j:Nat}(hk:k≤H)(hi:i<n)(hhi:hon i=true)(hj:j<n)(hhj:hon j=true)(h1:k<(c.st i).height)(h2:k<(c.st j).height):(c.st i).blocks[k]? =(c.st j).blocks[k]? :=
 h.agree hd hp k hk _ (h.chain hi hhi) j hj hhj (by rw[blocks_len];exact h1) h2
end Go.Proofs.YtcfjhbcpjpgodaaGreatDoor

import Derived.Test.YtcfjhbcpjpgodaaGreatDoorJ26
import Derived.Test.YtcfjhbcpjpgodaaGreatDoorJ23
namespace Go.Proofs.YtcfjhbcpjpgodaaGreatDoor
open Go.RowKit
set_option maxRecDepth 100000
set_option maxHeartbeats 0
set_option linter.all false
theorem VU{l ps:List zj5}{t:zj5}(h:t∈kP l ps):t∈l:=(qP l ps).subset h
section
variable{s:za}{S T i:Nat}{e:Int}{t:zj5}
structure XOk (s:za):Prop where
 form:∀t∈s.wait,yN t=true
 vr0: -1<=s.vr
 vr1:s.vr<=(s.round:Int)
 lr: -1<=s.lr
 pv:∀e∈s.log,e.m.k=1->-1<=e.m.v
 pa:∀e∈s.ahead,e.m.k=1->-1<=e.m.v
 th:∀t∈s.tims,t.h<12
theorem XOk.send(h:XOk s)(i:Nat)(k v:Int)(nl:Bool)(t:zj5)(hv:k=1->-1<=v):XOk (s.zfI i k v nl t):=by
 unfold za.zfI;split
 .exact h
 split
 .refine { h with pv:=λe he hk=>?_ }
  rcases List.mem_append.1 (show e∈s.log++[_] from he) with he|he
  .exact h.pv e he hk
  rw[List.mem_singleton.1 he] at hk ⊢;exact hv hk
 exact h
theorem XOk.step(h:XOk s)(st:Nat):XOk (s.zfO st):=⟨h.form,h.vr0,h.vr1,h.lr,h.pv,h.pa,h.th⟩
theorem XOk.none(h:XOk s)(i st:Nat)(k:Int)(hk:k≠1):XOk (s.nothing i k st):=(h.send i k 0 true ⟨#[]⟩ (λe=>absurd e hk)).step st
theorem XOk.timer(h:XOk s)(hh:s.zfF<12)(num ticks:Nat):XOk (s.timer num ticks):=by
 refine { h with th:=λt ht=>?_ };have h1:=(ZA _ _ _ (by simp)).mem_iff.1 (show t∈upT s.tims.length (s.tims++[_]) s.tims.length from ht);rcases List.mem_append.1 h1 with h1|h1
 .exact h.th t h1
 rw[List.mem_singleton.1 h1];show(s.zfF:Int)<12;omega
theorem XOk.begin(h:XOk s)(hh:s.zfF<12)(i r:Nat)(hr:s.vr<=(r:Int)):XOk (s.zfH i r):=by
 have h1:XOk (s.zfL r 1):={ h with vr1:=hr };unfold za.zfH;split
 .exact h1.send i 1 s.vr false _ (λ_=>h.vr0)
 exact h1.timer hh 1 3
theorem XOk.keep(h:XOk s)(hh:s.zfF<12)(i:Nat)(p:zl):XOk (s.zfR i p):=by
 have h1:XOk ((s.kept p).zfK ((s.kept p).ahead.filter λe=> !(s.kept p).zfJ e.m)):=⟨λt ht=>h.form t (VU (show t∈kP s.wait (pcs p.m.s) from ht)),Int.le_refl _,by show(-1:Int)<=(s.round:Int);omega,Int.le_refl _,λe he hk=>h.pa e ((List.mem_filter.1 he).1) hk,λ_ he=>(by cases he),h.th⟩;have hk:(s.kept p).zfF=s.zfF+1:=by
  show(s.dec++[_]).length=s.dec.length+1;simp
 unfold za.zfR;rw[zu];split
 .exact { h1 with vr1:=by show(-1:Int)<=((0:Nat):Int);omega }
 rename_i h2;refine h1.begin ?_ i 0 (by show(-1:Int)<=((0:Nat):Int);omega);show(s.kept p).zfF<12;omega
theorem Qn(hx:Dom s.x)(hl:s.log=[])(fits:zl->Bool):s.most fits=false:=by
 unfold za.most;rw[hl];exact km hx (by omega) (λe he=>by cases he)
theorem zee(hx:Dom s.x)(hl:s.log=[])(i:Nat):s.zfT (za.zfY i) i=(false,s):=by
 have hp:∀r fits,propF s.log r fits=none:=λr fits=>by rw[hl];rfl
 have h1:za.zfY i s=(false,s):=qR (J6 λq _=>hp _ _);have h2:s.zf1 i=(false,s):=vC λr _ _=>by
  unfold za.zfV;rw[hl,km hx (by omega) (λe he=>by cases he),Bool.and_false]
 have h3:∀fits,s.zfU i fits=(false,s):=λfits=>by
  by_cases h:s.step=1
  .exact qg h (hp _ _)
  exact yR h
 have h4:s.zgm i=(false,s):=qE (hp _ _);have h5:s.zf4 i=(false,s):=by unfold za.zf4;rw[Qn hx hl,zj3 (by rintro⟨_,h⟩;cases h)]
 have h6:s.zf7=(false,s):=by unfold za.zf7;rw[Qn hx hl,zj3 (by rintro⟨_,_,h⟩;cases h)]
 have h7:s.zf9=(false,s):=by unfold za.zf9;rw[Qn hx hl,zj3 (by rintro⟨_,h⟩;cases h)]
 unfold za.zfT;rw[h1,h2,h3,h3,h4,h5,h6,h7];rfl
theorem NOk.last(h:NOk S T i e s)(hh:s.zfF=12):s.log=[]/\s.ahead=[]:=by
 constructor
 .cases hl:s.log with
  |nil=>rfl
  |cons a l=>
   have:=h.log.hh a (by rw[hl];exact zjV ..);omega
 cases hl:s.ahead with
 |nil=>rfl
 |cons a l=>
  have:=h.ahead.hh a (by rw[hl];exact zjV ..);omega
theorem zc3(h:NOk S T i e s)(hh:s.zfF=12)(j:Nat):s.zfT (za.zfY j) j=(false,s):=zee h.dom (h.last hh).1 j
theorem XOk.one(h:XOk s)(hn:NOk S T i 0 s)(ht:(s.zfT (za.zfY i) i).1=true):XOk (s.zfT (za.zfY i) i).2:=by
 have hh:s.zfF<12:=by
  have h1:=hn.hgt;rcases Nat.lt_or_ge s.zfF 12 with h2|h2
  .exact h2
  rw[zc3 hn (by omega)] at ht;cases ht
 unfold za.zfT at ht ⊢;split
 .rename_i h1;unfold za.zfY at h1 ⊢;split
  .exact h
  exact h.keep hh i _
 rename_i h0;rw[zj3 h0] at ht;split
 .unfold za.zf1;split
  .exact h
  rename_i r hr;have h4:s.zfV r=true:=List.find?_some hr;unfold za.zfV at h4;have h5:=zjP (Bool.and_eq_true_iff.1 h4).1;have:=h.vr1;exact h.begin hh i r (by omega)
 have aa:∀fits,XOk (s.zfU i fits).2:=λfits=>by
  unfold za.zfU;split
  .split
   .exact h
   dsimp only
   split
   .exact (h.send i 2 0 false _ (by omega)).step 2
   exact h.none i 2 2 (by omega)
  exact h
 split
 .exact aa _
 split
 .exact aa _
 split
 .unfold za.zgm;split
  .split
   .exact h
   rename_i p _;have h6:XOk (s.zfZ p.m.s):={ h with vr0:=by show(-1:Int)<=(s.round:Int);omega,vr1:=Int.le_refl _ };dsimp only
   split
   .have h7:XOk (s.zfZ p.m.s).zf3:={ h6 with lr:=h6.vr0 };exact(h7.send i 3 0 false _ (by omega)).step 3
   exact h6
  exact h
 split
 .unfold za.zf4;split
  .exact h.none i 3 3 (by omega)
  exact h
 split
 .unfold za.zf7;split
  .exact h.timer hh 2 2
  exact h
 unfold za.zf9;split
 .exact h.timer hh 3 2
 exact h
def YOk(S T i:Nat)(s:za):Prop:=NOk S T i 0 s/\XOk s
theorem za7:∀(f:Nat) (s:za),YOk S T i s->2190<f+s.zgh->∃k,RunTo (za.zfY i) i (YOk S T i) (za.zgn i f s) k s
 |0,s,h,hf=>by
  have:=h.1.zgh;omega
 |f+1,s,h,hf=>by
  by_cases h1:(s.zfT (za.zfY i) i).1=true
  .obtain ⟨h2,h3⟩:=h.1.one h1
   obtain⟨k,hk⟩:=za7 f _ ⟨h2,h.2.one h.1 h1⟩ (by omega);refine⟨k+1,h,h1,?_⟩;unfold za.zgn;rw[zj2 h1];exact hk
  .refine ⟨0,h,by simpa using h1,?_⟩
   unfold za.zgn;rw[zj3 h1]
theorem YOk.runs(h:YOk S T i s):(∃k,RunTo (za.zfY i) i (YOk S T i) (s.zge i) k s)/\YOk S T i (s.zge i):=by
 obtain⟨k,hk⟩:=za7 2200 s h (by omega);exact⟨⟨k,hk⟩,Vz k s hk⟩
theorem YOk.tell(h:YOk S T i s)(k:Nat)(hk:k<s.zfF):YOk S T i (s.zf2 k):=by
 refine⟨h.1.tell k hk,?_⟩;unfold za.zf2;split
 .exact h.2
 exact⟨h.2.form,h.2.vr0,h.2.vr1,h.2.lr,h.2.pv,h.2.pa,h.2.th⟩
theorem XOk.take(h:XOk s){e:zl}(he:e.m.k=1->-1<=e.m.v):XOk (s.zf5 e):=by
 have hl:∀l:List zl,(∀e∈l,e.m.k=1->-1<=e.m.v)->∀x∈l++[e],x.m.k=1->-1<=x.m.v:=λl hl x hx hk=>by
  rcases List.mem_append.1 hx with hx|hx
  .exact hl x hx hk
  rw[List.mem_singleton.1 hx] at hk ⊢;exact he hk
 unfold za.zf5;split
 .exact { h with pv:=hl _ h.pv }
 exact { h with pa:=hl _ h.pa }
theorem YOk.exp{t:zU}(h:YOk S T i s)(ht:t.h<12):YOk S T i (s.zga i t):=by
 refine⟨h.1.exp,?_⟩;unfold za.zga;split
 .rename_i h0;split
  .exact h.2.none i 2 2 (by omega)
  split
  .exact h.2.none i 3 3 (by omega)
  split
  .have:=h.2.vr1
   exact h.2.begin (by omega) i _ (by omega)
  exact h.2
 exact h.2
theorem YOk.pop(h:YOk S T i s):YOk S T i s.zfQ:=by
 refine⟨h.1.pop,{ h.2 with th:=λt ht=>h.2.th t ?_ }⟩;have aa:t∈jN s.tims:=ht;cases hl:s.tims with
 |nil=>rw[hl] at aa;cases aa
 |cons a l=>rw[hl] at aa;exact List.mem_cons_of_mem _ ((qD a l).mem_iff.1 aa)
theorem YOk.zfN(h:YOk S T i s):YOk S (T+1) i s.zfN:=⟨h.1.zfN,⟨h.2.form,h.2.vr0,h.2.vr1,h.2.lr,h.2.pv,h.2.pa,h.2.th⟩⟩
theorem YOk.zf0:∀(f:Nat) (s:za),YOk S T i s->YOk S T i (za.zf0 i f s)
 |0,_,h=>h
 |f+1,s,h=>by
  rw[za.zf0];split
  .exact h
  .rename_i t l hl;split
   .exact YOk.zf0 f _ (h.pop.exp (h.2.th t (by rw[hl];exact zjV ..))).runs.2
   .exact h
theorem YOk.again(h:YOk S T i s):YOk S T i s.again:=by
 refine⟨h.1.again,?_⟩;unfold za.again;split
 .exact ⟨h.2.form,h.2.vr0,h.2.vr1,h.2.lr,h.2.pv,h.2.pa,h.2.th⟩
 exact h.2
theorem YOk.tick(h:YOk S T i s):YOk S (T+1) i (s.zfW i):=(YOk.zf0 _ _ h.zfN).again
theorem YOk.sub(h:YOk S T i s):YOk S T i (s.zgd t):=by
 refine⟨h.1.sub,?_⟩;unfold za.zgd;split
 .rename_i h1;refine { h.2 with form:=λu hu=>?_ };rcases List.mem_append.1 (show u∈s.wait++[t] from hu) with h4|h4
  .exact h.2.form u h4
  rw[List.mem_singleton.1 h4];exact(Jb h1).1
 exact h.2
theorem YOk.sent(h:YOk S T i s):YOk S T i { s with out:=[] }:=⟨h.1.sent,⟨h.2.form,h.2.vr0,h.2.vr1,h.2.lr,h.2.pv,h.2.pa,h.2.th⟩⟩
theorem ze7(h:zM t=true)(hk:(decV t).k=1): -1<=(decV t).v:=by
 unfold decV at hk ⊢;rw[zj2 h] at hk ⊢;have aa:byt t 0=1:=hk;show-1<=vOf (byt t 0) (byt t 4);have h4:0<=byt t 4:=by unfold byt;omega
 unfold vOf;rw[zj2 aa];omega
end
section
open Proofs.Tryz
theorem JH{w:World}{base n kc f:Nat}{kp:Option Addr}{ks:Nat->Nat}(h:w.ownsRow base 45 1 (.slice kp n kc) n (VM ks n))(hf:f<n):∃b,kp=some ⟨b,0,none⟩/\base<=b/\b<w.heap.size/\w.cell? ⟨b,f,none⟩=some (.pointer (some ⟨ks f,0,none⟩)):=by
 rcases h.2 with⟨e,hn⟩|⟨g,cap,cur,e,hb,hg,hnc,hcm,hcs,ht⟩
 .omega
 cases e;refine⟨g,rfl,hb,zg hg,?_⟩;rw[zjD w g f _ _ _ hg];have e1:(cur.toList.take (n*1))[f]? =(VM ks n)[f]? :=by rw[ht]
 rw[zkc,zj2 (by omega)] at e1;rw[<-zkf,e1];simp[VM,hf]
def KL:Array Value:=#[.int .i64 0,.int .i64 0,.int .i64 2,.int .i64 (-1),.int .i64 (-1),.string ⟨#[]⟩,.string ⟨#[]⟩]
theorem Xm:XC zV=KL:=rfl
theorem Tryz.zio(W:World):(binOp .eql 61 (.agg KL) (.agg KL)).run prog W=.ok (.bool true) W:=by kernel_rfl
theorem Qu{B:Nat}{es:List Addr}{m:Int}(w:World)(hg:kH B es m w)(hbl:B<=w.heap.size):
 Calls prog 45 #[] w λe w'=>e=.returned (.bool true)/\Below w.heap.size w w':=by
 have a8:Hid (Calls prog 9 #[.int .i64 4] w λe w'=>∃(ov:Value) (kp:Option Addr) (kc:Nat) (ks:Nat->Nat),e=.returned (.tuple #[.pointer (some ⟨w.heap.size,0,none⟩),.slice kp 4 kc])/\
  vh (λk=>k=w.heap.size\/some k=ov.ownBlock) w.heap.size 4 (λ_=>[]) w'/\w'.ownsRow (w.heap.size+1) 30 1 ov 4 (List.replicate 4 (.slice none 0 0))/\
  w'.ownsRow (w.heap.size+1) 45 1 (.slice kp 4 kc) 4 (VM ks 4)/\(∀i,i<4->w.heap.size<ks i/\qh w' (ks i) w.heap.size i)/\Below w.heap.size w w'):=ZW 4 w (by omega) (by omega)
 obtain⟨HG,aO⟩:=zn hg hbl;clear hg hbl;go_enter func45,ntmps45;go_wp2_with fail
 refine a8.o.mono ?_;rintro e w1 ⟨ov,kp,kc,ks,rfl,ae,aD,ai,aE,aH⟩;obtain⟨kg,rfl,aG,aF,aT⟩:=JH (f:=0) ai (by omega);obtain⟨kb,az⟩:=gen (ks 0);rw[<-az] at aT;have af:qh w1 kb w.heap.size 0:=by rw[az];exact(aE 0 (by omega)).2
 have aq:w.heap.size<kb:=by rw[az];exact(aE 0 (by omega)).1
 obtain⟨R,hR⟩:∃R:Nat->Prop,R=λk=>k=w.heap.size\/some k=ov.ownBlock:=⟨_,rfl⟩;rw[<-hR] at ae;have au:∀k,R k->w.heap.size<=k/\k<w1.heap.size:=λk hk=>by
  rw[hR] at hk;rcases hk with rfl|hk
  .exact ⟨zjA _,Nat.lt_trans aq af.lt⟩
  have h:=aD.lt k hk.symm;exact⟨by omega,h.2⟩
 have aW:¬R kb:=λhk=>by
  rw[hR] at hk;rcases hk with h|h
  .omega
  exact yI aD af (by decide) h.symm
 obtain⟨w2,ay⟩:=gen (w1.alloc (.cells #[.int .i64 1,.int .i64 1,.int .i64 1,.int .i64 1] 3));have ar:Below w1.heap.size w1 w2:=by rw[ay];exact(zjB _ w1).alloc (zjA _) _
 have aC:w2.heap[w1.heap.size]? =some (.cells #[.int .i64 1,.int .i64 1,.int .i64 1,.int .i64 1] 3 (0,0)):=by rw[ay];exact zjC w1 _
 have ag:Below w.heap.size w w2:=aH.trans (ar.mono aH.size);have ah:qW w2 w2.heap.size (some ⟨w1.heap.size,0,none⟩) 4 (λj=>.int .i64 ((λ_=>(1:Int)) j)):=λj hj=>by
  refine⟨w1.heap.size,0,rfl,zg aC,?_⟩;rw[zjD w2 w1.heap.size (0+j) _ _ _ aC];match j,hj with
  |0,_=>rfl
  |1,_=>rfl
  |2,_=>rfl
  |3,_=>rfl
 have aw:=zc (zbE (B:=B) (es:=es) (m:=m) (R:=R) (kb:=kb) (rb:=w.heap.size) (n:=4) (i:=0) (N:=100) (k:=1) (sg:=sg0) (t:=zV) (w:=w2) zas Gy (λs h=>rfl) (λs h=>⟨h.1,h.2.1⟩) (by omega) (λnb cb F R s W hW hs=>V4 hW hs.1 hs.2.2)
  (λ_=>1) (some ⟨w1.heap.size,0,none⟩) 4 4 four ah zdp x7 QF (ae.frame λk hk=>ar.block k (au k hk).2) (af.keep (ar.block kb af.lt)) (by omega) aW (λk hk=>⟨zjF aO.o (au k hk).1,zjE (au k hk).2 ar.size⟩) (HG.o.below aO.o ag) (zjF aO.o ag.size) (by decide) zck)
 obtain⟨a7,aa,bf⟩:=zS au ag ay;clear ae aD ai aE aH aG aF af aq au aW ah aC ar ag ay hR az a8 HG;go_wp2_with fail
 rw[<-bf.o];refine aw.o.mono ?_;rintro e w3 ⟨nb,cb,F3,R3,rfl,aJ,aX⟩;obtain⟨V3,aY,bc⟩:=aJ.node;have aL:=zc (ZS nb kb cb V3 zV w3 aY);rw[Xm] at aL;obtain⟨aK,aj⟩:=zn aJ aX;clear aJ aX aY bc aw aT;go_wp2_with fail
 refine aL.o.mono ?_;rintro e w4 ⟨rfl,aV⟩;have aB:=zc aV;clear aV aL;obtain⟨w5,ax⟩:=gen (w4.alloc (.cells KL 61));have aU:Below w4.heap.size w4 w5:=by rw[ax];exact(zjB _ w4).alloc (zjA _) _
 have aQ:w5.heap[w4.heap.size]? =some (.cells KL 61 (0,0)):=by rw[ax];exact zjC w4 _
 have ad:Hid (Below w3.heap.size w3 w5):=aB.o.trans (aU.mono aB.o.size);have a6:=zc (XH (aK.o.below ad) (by decide));obtain⟨aM,aZ⟩:=zn aQ ax;clear aU aQ ax;have al:w5=w4.alloc (.cells #[.int .i64 0,.int .i64 0,.int .i64 2,.int .i64 (-1),.int .i64 (-1),.string ⟨#[]⟩,.string ⟨#[]⟩] 61):=aZ.o;have av:=zc al;clear al;unfold KL;go_wp2_with fail
 rw[<-av.o];refine a6.o.mono ?_;rintro e w6 ⟨v,cb6,F6,rfl,an,bd,ak,ba⟩;obtain⟨p6,c6,rfl⟩:=zm an;have ao:zV.out.length=2:=rfl;rw[ao];have aP:w6.heap[w4.heap.size]? =some (.cells #[.int .i64 0,.int .i64 0,.int .i64 2,.int .i64 (-1),.int .i64 (-1),.string ⟨#[]⟩,.string ⟨#[]⟩] 61 (0,0)):=(ak.same.block _ (zg aM) (λx=>x.elim (λx=>by have h1:=(aK.o.fl _ x).2;have h2:=aB.o.size;omega) (λx=>by have h1:=(aK.o.rl _ x).2;have h2:=aB.o.size;omega))).trans aM.o;have bg:=zc aP;have aN:Hid (Below w.heap.size w w6):=by
  have bb:∀k,k<w.heap.size->¬(F3 k\/R3 k):=λk hk hx=>by
   have hz:=aa.o.size;rcases hx with hx|hx
   .rcases aj.o.ff k hx with h1|h1
    .exact h1
    omega
   rcases aj.o.rr k hx with h1|h1
   .have:=(a7.o k h1).1;omega
   omega
  refine⟨?_,?_,?_,?_,λk hk=>?_⟩
  .rw [ak.same.os,ad.o.os,aj.o.same.os,aa.o.os]
  .rw [ak.same.tape,ad.o.tape,aj.o.same.tape,aa.o.tape]
  .rw [ak.same.output,ad.o.output,aj.o.same.output,aa.o.output]
  .exact zjF aa.o.size (zjF aj.o.same.size (zjF ad.o.size ak.same.size))
  have aS:k<w2.heap.size:=zjE hk aa.o.size;have aR:k<w3.heap.size:=zjE aS aj.o.same.size;rw[ak.same.block k (zjE aR ad.o.size) (bb k hk),ad.o.block k aR,aj.o.same.block k aS (λx=>x.elim (λx=>x) (λx=>by have:=(a7.o k x).1;omega)),aa.o.block k hk]
 have heq:∀W,(binOp .eql 61 (.agg #[.int .i64 0,.int .i64 0,.int .i64 2,.int .i64 (-1),.int .i64 (-1),.string ⟨#[]⟩,.string ⟨#[]⟩]) (.agg #[.int .i64 0,.int .i64 0,.int .i64 2,.int .i64 (-1),.int .i64 (-1),.string ⟨#[]⟩,.string ⟨#[]⟩])).run prog W=.ok (.bool true) W:=Tryz.zio;clear an bd ak ba aP a6 aZ av aM;go_wp2_with (first|(refine zkb rfl 61 _ rfl w4.heap.size rfl 61 #[.int .i64 0,.int .i64 0,.int .i64 2,.int .i64 (-1),.int .i64 (-1),.string ⟨#[]⟩,.string ⟨#[]⟩] (0,0) _ bg underlying61 rfl Tryz.zgS ?_)|fail)
 go_ret;exact⟨rfl,aN⟩

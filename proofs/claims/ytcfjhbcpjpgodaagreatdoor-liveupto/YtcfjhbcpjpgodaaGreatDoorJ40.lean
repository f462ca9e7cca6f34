import Derived.ProofKit
import Derived.OpenShut
import Derived.Test.YtcfjhbcpjpgodaaGreatDoorJ37
namespace Go.Proofs.YtcfjhbcpjpgodaaGreatDoor
open Go.RowKit
set_option maxRecDepth 100000
set_option maxHeartbeats 0
set_option linter.all false
section
open Go.ChangeShapes Go.WideShapes Go.ChangeAt Proofs.Tryz
theorem zdD{H:Type}(d:DataW H):1<=Rows.uptoBulk d:=by
 cases d with
 |lit l=>cases l<;>simp[Rows.uptoBulk]
 |nil=>simp[Rows.uptoBulk]
 |ptr d=>simp[Rows.uptoBulk]
 |slice elems spare=>simp[Rows.uptoBulk]
 |agg parts=>simp[Rows.uptoBulk]
 |iface t d=>simp[Rows.uptoBulk]
 |map entries=>simp[Rows.uptoBulk]
 |held h=>simp[Rows.uptoBulk]
theorem QO{H:Type}:∀l:List (DataW H),l.length<=Rows.uptoBulkAll l
 | []=>zjG _
 |x::l=>by
  have h1:=zdD x;have h2:=QO l;simp only[Rows.uptoBulkAll,List.length_cons];omega
theorem QN{H:Type}{d:DataW H}:∀{l:List (DataW H)},d∈l->Rows.uptoBulk d<=Rows.uptoBulkAll l
 |x::l,h=>by
  simp only[Rows.uptoBulkAll];rcases List.mem_cons.1 h with rfl|h
  .omega
  .have:=QN h
   omega
theorem zbv{W:World}{base:Nat}{t e:TypeId}{a:Addr}{n cap:Nat}(hu:prog.underlying t=some (.slice e))(h:Value.okWide prog W .any base t (.slice (some a) n cap)):a.spot=none:=by
 simp only[Value.okWide,hu,Cell.okWide,Cell.ok] at h;exact h.2.2.2.1
theorem Tryz.ziZ:prog.cellsOf 3=1:=by kernel_rfl
end
section
open Proofs.Tryz
variable{w:World}{st:Nat->za}{k B rb n T cc M:Nat}{es:List Addr}{m:Int}{gv:Value}{said:List zj5}
theorem kq.zjn{g a:Nat}{C D:Array Value}{t:TypeId}{v:Value}{w':World}(_h:kq g w w')(h1:w.heap[g]? =some (.cells C t (0,0)))(h2:w'.heap[g]? =some (.cells D t (0,0)))(hc:C[a]? =some v)(hd:D[a]? =some v):w'.cell? ⟨g,a,none⟩=w.cell? ⟨g,a,none⟩:=by
 rw[zjD w g a _ _ _ h1,zjD w' g a _ _ _ h2,hc,hd]
theorem zcY(h:∀j,j<k->(st j).out=[]):∀j,j<k+1->(updS st k { st k with out:=[] } j).out=[]:=λj hj=>by
 by_cases e:j=k
 .rw [e,zz]
 .rw [zw e];exact h j (by omega)
theorem zaf{Fs:Nat->Nat->Prop}{R:Nat->Prop}{nbs ks cbs:Nat->Nat}{kv nv sv sv':Value}{out:List zj5}{X w3 w4:World}(h:kR B es m Fs R nbs ks cbs rb n T cc gv kv nv sv st said X)
 (hown3:w3.ownsRow 0 9 1 sv' (said.length+out.length) (said.map .string++out.map .string)) (hgrow3:X.grownBy w3 sv.ownBlock) (hat3:sv'.ownBlock=sv.ownBlock\/sv'.ownBlock=some X.heap.size)
 (hq4:w4.heap[cc]? =some (.cells #[gv,.pointer (some ⟨rb,0,none⟩),kv,nv,sv'] 84 (0,0))) (ho4:kq cc w3 w4):
 kR B es m Fs R nbs ks cbs rb n T cc gv kv nv sv' st (said++out) w4/\Below B X w4:=by
 have hs:zk (λk=>k=cc\/some k=sv.ownBlock) X w4:=by
  refine⟨ho4.os.trans hgrow3.os,ho4.tape.trans hgrow3.tape,ho4.output.trans hgrow3.output,?_,λk hk hn=>?_⟩
  .rw [ho4.size];exact hgrow3.size
  rw[ho4.block k (λe=>hn (zj0 e)),hgrow3.block k hk (λe=>hn (zj1 e))]
 have hv:∀g,sv'.ownBlock=some g->g≠cc:=λg hg e=>by
  rcases hat3 with h1|h1
  .exact yI h.said h.blk (by decide) (e▸(h1.symm.trans hg))
  rw[h1] at hg;cases hg;have:=h.occ.2.1;omega
 refine⟨h.zhC hq4 ?_ ?_ hs,Below.same hs (λk e=>e.elim (λe=>e▸h.occ.1) (λe=>(h.osv k e.symm).1)) h.bl⟩
 .rw [zjO,List.map_append];exact zb hown3 λg hg _=>ho4.block g (hv g hg)
 rcases hat3 with h1|h1
 .exact zj0 h1
 refine zj1 (λg hg=>?_);rw[h1] at hg;cases hg;exact zjA _
theorem zbO{st1:Nat->za}{said1:List zj5}(h:(st1,said1)=hearK k (st,said)):(updS st1 k { st1 k with out:=[] },said1++(st1 k).out)=hearK (k+1) (st,said):=by
 show _=(updS (hearK k (st,said)).1 k _,_);rw[<-h]
theorem jS(h:zK B es m rb n cc gv T M st said w)(hn:n<=8)(hM:M+100*n<=4000000000000):
 Calls prog 42 #[.pointer (some ⟨cc,0,none⟩)] w λe w'=>e=.returned (.tuple #[])/\∃st' said',(st',said')=hearK n (st,said)/\zK B es m rb n cc gv T (M+100*n) st' said' w'/\Below B w w'/\∀j,j<n->(st' j).out=[]:=by
 obtain⟨iW,aV,aR,aQ,aP⟩:=info_parts Tryz.zgC;have HH:=zc h;clear h;go_enter func42,ntmps42;go_wp2;go_loopw [2] (λiv wr=>∃(k:Nat) (st1:Nat->za) (said1:List zj5),k<=n/\iv=.int .i64 k/\(st1,said1)=hearK k (st,said)/\zK B es m rb n cc gv T (M+100*k) st1 said1 wr/\Below B w wr/\∀j,j<k->(st1 j).out=[]) (λiv _=>n-(intOf iv).toNat)
 case atStart=>exact⟨0,st,said,zjG _,rfl,rfl,HH,zjB _ _,λj hj=>absurd hj (Nat.not_lt_zero j)⟩
 obtain⟨k,st1,said1,hkn,rfl,aK,hE,aN,au⟩:=hrel;have aw:Hid (∀j,j<k->(st1 j).out=[]):=au;clear au;obtain⟨aO,ax,HE⟩:=zS aK aN hE;clear aK aN;obtain⟨hlen,Fs,R,nbs,ks,cbs,kv,nv,sv,hO⟩:=hE;obtain⟨g,cap,rfl,aT,aW,aE⟩:=hO.nodeAt;have c3:wr.cell? ⟨cc,3,none⟩=some (.slice (some ⟨g,0,none⟩) n cap):=zjD wr cc 3 _ _ _ hO.blk;by_cases ak:k=n
 .have hge:¬(k:Int)<n:=by omega
  have ag:Hid (∃st' said',(st',said')=hearK n (st,said)/\zK B es m rb n cc gv T (M+100*n) st' said' wr/\Below B w wr/\∀j,j<n->(st' j).out=[]):=⟨st1,said1,by rw[<-ak];exact aO.o,HE.o.mono (zjA _) (by omega),ax.o,λj hj=>aw.o j (by omega)⟩;clear hO aE ak;go_wp2;first|exact bodyPost_end (v:=.tuple #[]) (by simp[results,results42]) rfl ⟨rfl,ag.o⟩|exact zjT (v:=.tuple #[]) (by simp[results,results42]) rfl ⟨rfl,ag.o⟩
 have hk:k<n:=by omega
 have aU:(k:Int)<n:=by omega
 have ck:=aE k hk;obtain⟨sp,sc,aS⟩:=zm hO.said;subst aS;obtain⟨HO,an⟩:=zn hO hO;have ao:Hid (said1.length<=M+100*k):=hlen;have aC:Hid ((st1 k).out.length<=100):=(hO.city.ok k hk).out;obtain⟨C3,CK⟩:=zn c3 ck;have C4:Hid (wr.cell? ⟨cc,4,none⟩=some (.slice sp said1.length sc)):=zjD wr cc 4 _ _ _ hO.blk;have aH:Hid (OutB B Fs R ks n wr g):=hO.onv g rfl;have aX:=zc aW;have aj:Hid (∀W,Below wr.heap.size wr W->Calls prog 31 #[.pointer (some ⟨nbs k,0,none⟩)] W (zeN B es m (Fs k) R (nbs k) (ks k) rb n k (st1 k) wr)):=λW hW=>by
  refine(XH ((hO.city.node k hk).below hW) aC).mono ?_;rintro e w' ⟨v,cb',F',h1,h2,h3,h4,h5⟩;exact⟨v,cb',F',h1,jD h2 hW.size,h3,(Goes.below hW).trans h4,h5⟩
 clear hO aE ak hlen c3 ck HE;have c3:=C3.o;have ck:=CK.o
 go_upto_region 4 with fail
 refine rgd (S:=λW=>W.cell? ⟨cc,3,none⟩=some (.slice (some ⟨g,0,none⟩) n cap)/\W.cell? ⟨g,k,none⟩=some (.pointer (some ⟨nbs k,0,none⟩))) ⟨C3.o,CK.o⟩ (λhH=>?_);refine zQ [(0,some 20,pA cc 0),(1,some 21,pA cc 0),(2,some 22,pA cc 0),(3,some 23,pA cc 4),(5,some 25,pA cc 0),(6,some 26,pA cc 0),(7,some 27,pA cc 3),(8,some 28,.slice (some ⟨g,0,none⟩) n cap),(9,some 29,.int .i64 (k:Int)),(10,some 30,pA g k),(11,some 31,pA (nbs k) 0)] _ _ hH (λx h=>aI h.1 (h.2)) ?_;simp only[ze,AP,pA];have c4d:wr.drew.cell? ⟨cc,4,none⟩=some (.slice sp said1.length sc):=C4.o;refine Jp 4 12 (λK hK=>?_) (λK hK=>?_);focus
  go_simp;refine hK.out _ _ hH (λhH=>?_);clear hK K
  try simp only[AP,AQ]
  refine zv 12 (λK hK=>?_);go_simp;refine(aj _ ((zjB _ wr).drew)).mono ?_;rintro en X ⟨v,cb2,F2,rfl,hv,aB,ai,aJ⟩;have af:=an.o.step hk aB ai (an.o.city.ok k hk).sent (zjA _) (yy rfl);obtain⟨p5,c5,rfl,aL,aG⟩:=kV hv;have aF:=vT hv;have aq:∀b,OutB B Fs R ks n wr b->X.heap[b]? =wr.heap[b]? :=λb hb=>(ai.same.block b hb.2.1 (λe=>e.elim (hb.2.2.1 k hk) hb.2.2.2.1));have ar:X.cell? ⟨cc,3,none⟩=some (.slice (some ⟨g,0,none⟩) n cap)/\X.cell? ⟨g,k,none⟩=some (.pointer (some ⟨nbs k,0,none⟩)):=⟨(zjH (w:=wr) (a:=⟨cc,3,none⟩) (aq cc HO.o.occ)).trans C3.o,(zjH (w:=wr) (a:=⟨g,k,none⟩) (aq g aH)).trans CK.o⟩
 rotate_left;focus
  go_simp;refine(aj _ ((zjB _ wr).drew)).mono ?_;rintro en X ⟨v,cb2,F2,rfl,hv,aB,ai,aJ⟩;have af:=an.o.step hk aB ai (an.o.city.ok k hk).sent (zjA _) (yy rfl);obtain⟨p5,c5,rfl,aL,aG⟩:=kV hv;have aF:=vT hv;have aq:∀b,OutB B Fs R ks n wr b->X.heap[b]? =wr.heap[b]? :=λb hb=>(ai.same.block b hb.2.1 (λe=>e.elim (hb.2.2.1 k hk) hb.2.2.2.1));have ar:X.cell? ⟨cc,3,none⟩=some (.slice (some ⟨g,0,none⟩) n cap)/\X.cell? ⟨g,k,none⟩=some (.pointer (some ⟨nbs k,0,none⟩)):=⟨(zjH (w:=wr) (a:=⟨cc,3,none⟩) (aq cc HO.o.occ)).trans C3.o,(zjH (w:=wr) (a:=⟨g,k,none⟩) (aq g aH)).trans CK.o⟩;have c4X:X.cell? ⟨cc,4,none⟩=some (.slice sp said1.length sc):=zjD X cc 4 _ _ _ af.blk;refine hK.out _ _ ar (λhH=>?_);clear hK K
  try simp only[AP,AQ]
  refine zv 4 (λK hK=>?_);go_simp
 rotate_left;all_goals
  refine hK.out _ _ ar (λhH=>?_);clear hK K
  try simp only[AP,AQ]
  refine zv 13 (λK hK=>?_);rw[zj2 (by rfl)];have ah:=af.said;refine vi _ _ 30 rfl 0 9 iW (.string zj4) 16 underlying30 aV aR aQ aP rfl (.slice sp said1.length sc) said1.length (said1.map .string) rfl ah p5 (st1 k).out.length c5 (λi=>(st1 k).out.getD i zj4) rfl aF aG (by have h1:=ao.o;have h2:=aC.o;unfold maxLen;omega) (by have h1:=ao.o;have h2:=aC.o;omega) (zjG _) ?_;intro v3 w3 ae aa av;rw[Y6] at ae;have al:w3.heap[cc]? =X.heap[cc]? :=aa.block cc af.occ.2.1 (λe=>yI af.said af.blk (by decide) e.symm);have aM:w3.heap[g]? =X.heap[g]? :=aa.block g (aH.o.step ai hk).2.1 (λe=>zO af.nodes af.said (by decide) g rfl e.symm);refine hK.out _ _ ⟨(zjH (w:=X) (a:=⟨cc,3,none⟩) al).trans ar.1,(zjH (w:=X) (a:=⟨g,k,none⟩) aM).trans ar.2⟩ (λhH=>?_);clear hK K;simp only[AP,AQ];refine y7 [(14,some 34,pA cc 0),(15,some 35,pA cc 4)] _ _ hH ?_;simp only[ze,AP,pA];have ad:=al.trans af.blk;have c43:w3.cell? ⟨cc,4,none⟩=some (.slice sp said1.length sc):=zjD w3 cc 4 _ _ _ ad;have f43:w3.frozen? ⟨cc,4,none⟩=false:=zt ad 4;obtain⟨p3,cap3,rfl⟩:=zm ae;refine zv 16 (λK hK=>?_);go_simp;obtain⟨w4,ay⟩:∃z,z=(w3.setCell ⟨cc,4,none⟩ (.slice p3 (said1.length+(st1 k).out.length) cap3)):=⟨_,rfl⟩;have az:kq cc w3 w4:=by rw[ay];exact zf w3 cc 4 _
  have aD:w4.heap[cc]? =some (.cells #[gv,.pointer (some ⟨rb,0,none⟩),kv,.slice (some ⟨g,0,none⟩) n cap,.slice p3 (said1.length+(st1 k).out.length) cap3] 84 (0,0)):=by
   rw[ay,setCell_row ad 4 _];rfl
  rw[<-ay];clear ay;refine hK.out _ _ ⟨(az.zjn (a:=3) ad aD rfl rfl).trans hH.1,(az.cell (p:=⟨g,k,none⟩) aX).trans hH.2⟩ (λhH=>?_);clear hK K hH;refine dnr ?_;have ag:=zc (zaf af ae aa av aD az);have aY:Hid (Below B w w4):=ax.o.trans ((Below.zhl ai (λj hj=>((an.o.city.node k hk).fl j hj).1) (λj hj=>((an.o.city.node k hk).rl j hj).1) an.o.bl).trans ag.o.2);clear ae aa av aD az ad c43 f43 al aM ah ar aq af aB ai aJ hv aG aF aL;go_wp2;go_roundw
  case rel=>exact⟨k+1,_,_,by omega,by go_num,zbO aO.o,⟨by rw[zjO];have h1:=ao.o;have h2:=aC.o;omega,_,_,_,_,_,_,_,_,ag.o.1⟩,aY.o,zcY aw.o⟩
  simp[intOf];omega
theorem yA{Sb:zj5->Prop}(h:zK B es m rb n cc gv T M st said w)(hn:n<=8)(hM:M+100*n<=4000000000000):
 Calls prog 42 #[.pointer (some ⟨cc,0,none⟩)] w λe w'=>e=.returned (.tuple #[])/\∃st' said',Moves n Sb (st,said) (st',said')/\zK B es m rb n cc gv T (M+100*n) st' said' w'/\Below B w w'/\∀j,j<n->(st' j).out=[]:=
 (jS h hn hM).mono λe w' ⟨h1,st',said',h2,h3⟩=>⟨h1,st',said',by rw[h2];exact Yj _ n (zjA _),h3⟩
end
section
open Proofs.Tryz
def pickN(c:Int)(n:Nat):Nat:=if c<0 then((-(c+1)).tmod n).toNat else(c.tmod n).toNat
theorem yv{c:Int}{n:Nat}(hn:0<n):pickN c n<n:=by
 unfold pickN;split
 .have h1:=Int.tmod_lt_of_pos (-(c+1)) (show(0:Int)<n by omega);have h2:=Int.tmod_nonneg (a:= -(c+1)) (n:Int) (by omega);omega
 have h1:=Int.tmod_lt_of_pos c (show(0:Int)<n by omega);have h2:=Int.tmod_nonneg (a:=c) (n:Int) (by omega);omega
theorem yo(c:Int)(n:Nat)(w:World)(h1: -9223372036854775808<=c)(h2:c<=9223372036854775807)(hn:1<=n)(hn2:n<=4000000000000):
 Calls prog 26 #[.int .i64 c,.int .i64 (n:Int)] w λe w'=>e=.returned (.int .i64 (pickN c n:Int))/\w'=w:=by
 have hz:((n:Int)==0)=false:=by simp;omega
 have hz2:¬(n:Int)=0:=by omega
 by_cases hc:c<0
 .obtain ⟨d,hd⟩:∃d:Int,d= -(c+1):=⟨_,rfl⟩
  have ad:0<=d:=by omega
  have hd1:d<=9223372036854775807:=by omega
  obtain⟨r,hr⟩:∃r:Nat,(r:Int)=d.tmod n:=⟨(d.tmod n).toNat,by rw[Int.toNat_of_nonneg (Int.tmod_nonneg _ ad)]⟩;have aa:r<n:=by have:=Int.tmod_lt_of_pos d (show(0:Int)<n by omega);omega
  have HP:Hid ((pickN c n:Int)=d.tmod n):=by unfold Hid pickN;rw[zj2 hc,<-hd,<-hr];simp
  obtain⟨HR,HD,HN⟩:=zS hr hd aa;clear hr aa;go_enter func26,ntmps26;go_wp2;go_ret;refine⟨?_,rfl⟩;show Ending.returned (Value.int .i64 (-(c+1).tmod (n:Int)))=_;rw[HP.o,HD.o,Int.neg_tmod]

 obtain⟨r,hr⟩:∃r:Nat,(r:Int)=c.tmod n:=⟨(c.tmod n).toNat,by rw[Int.toNat_of_nonneg (Int.tmod_nonneg _ (by omega))]⟩;have aa:r<n:=by have:=Int.tmod_lt_of_pos c (show(0:Int)<n by omega);omega
 have HP:Hid ((pickN c n:Int)=c.tmod n):=by unfold Hid pickN;rw[zj3 hc,<-hr];simp
 obtain⟨HR,HN⟩:=zn hr aa;clear hr aa;go_enter func26,ntmps26;go_wp2;go_ret;refine⟨?_,rfl⟩;show Ending.returned (Value.int .i64 (c % (n:Int)))=_;rw[HP.o,Int.tmod_eq_emod_of_nonneg (by omega)]
theorem XS(c:Int)(n:Nat)(w:World)(h1: -9223372036854775808<=c)(h2:c<=9223372036854775807)(hn:1<=n)(hn2:n<=4000000000000):
 Calls prog 26 #[.int .i64 c,.int .i64 (n:Int)] w λe w'=>e=.returned (.int .i64 (pickN c n:Int))/\w'=w:=yo c n w h1 h2 hn hn2
end
section
variable{B rb n cc T M ab:Nat}{es:List Addr}{m:Int}{nbs ks cbs:Nat->Nat}{gv kv nv sv:Value}{A:Array Value}{st:Nat->za}{said:List zj5}{w w':World}{Fs:Nat->Nat->Prop}{R:Nat->Prop}
def yx(B:Nat)(es:List Addr)(m:Int)(nbs ks:Nat->Nat)(gv kv nv:Value)(rb n cc T M ab:Nat)(A:Array Value)(tA:TypeId)(st:Nat->za)(said:List zj5)(w:World):Prop:=
 said.length<=M/\∃(Fs:Nat->Nat->Prop) (R:Nat->Prop) (cbs:Nat->Nat) (sv:Value),kR B es m Fs R nbs ks cbs rb n T cc gv kv nv sv st said w/\OutB B Fs R ks n w ab/\w.heap[ab]? =some (.cells A tA (0,0))
theorem yx.e{tA:TypeId}(h:yx B es m nbs ks gv kv nv rb n cc T M ab A tA st said w):zK B es m rb n cc gv T M st said w:=by
 obtain⟨h1,Fs,R,cbs,sv,h2,_⟩:=h;exact⟨h1,Fs,R,nbs,ks,cbs,kv,nv,sv,h2⟩
theorem yx.below{tA:TypeId}(h:yx B es m nbs ks gv kv nv rb n cc T M ab A tA st said w)(hb:Below w.heap.size w w'):yx B es m nbs ks gv kv nv rb n cc T M ab A tA st said w':=by
 obtain⟨h1,Fs,R,cbs,sv,h2,h3,h4⟩:=h;exact⟨h1,Fs,R,cbs,sv,h2.below hb,h3.keep hb.size,(hb.block ab h3.2.1).trans h4⟩
theorem yx.of{tA:TypeId}(h:kR B es m Fs R nbs ks cbs rb n T cc gv kv nv sv st said w)(hM:said.length<=M)(hb:Below w.heap.size w w')(hab:w.heap.size<=ab)(hq:w'.heap[ab]? =some (.cells A tA (0,0))):yx B es m nbs ks gv kv nv rb n cc T M ab A tA st said w':=by
 have h0:=h.city.node 0 h.npos;refine⟨hM,Fs,R,cbs,sv,h.below hb,⟨zjF h0.bl hab,zg hq,λj hj hf=>?_,λhr=>?_,λk hk e=>?_⟩,hq⟩
 .have:=((h.city.node j hj).fl ab hf).2
  omega
 .have:=(h0.rl ab hr).2
  omega
 have:=(h.city.node k hk).key.lt;omega
theorem yx.turn{F' R':Nat->Prop}{T' j cb':Nat}{tA:TypeId}{s':za}(hM:said.length<=M)(hO:kR B es m Fs R nbs ks cbs rb n T cc gv kv nv sv st said w)(hab:OutB B Fs R ks n w ab)(hq:w.heap[ab]? =some (.cells A tA (0,0)))(hj:j<n)(hN:NodeW B es m F' R' (nbs j) (ks j) rb cb' n j s' w')(hG:Goes (Fs j) R w F' R' w')(hok:NOk 0 T' j 0 s')(hT:T<=T')(hsg:SgO j (st j) s'):
 yx B es m nbs ks gv kv nv rb n cc T' M ab A tA (updS st j s') said w'/\Below B w w':=
 ⟨⟨hM,_,_,_,_,hO.step hj hN hG hok hT hsg,hab.step hG hj,(hG.same.block ab hab.2.1 (λe=>e.elim (hab.2.2.1 j hj) hab.2.2.2.1)).trans hq⟩,(hO.city.node j hj).zin hG⟩
theorem kR.zgi{g cap:Nat}(h:kR B es m Fs R nbs ks cbs rb n T cc gv kv (.slice (some ⟨g,0,none⟩) n cap) sv st said w)(j:Nat)(hj:j<n):w.cell? ⟨g,j,none⟩=some (.pointer (some ⟨nbs j,0,none⟩)):=by
 obtain⟨g',cap',e,_,_,h1⟩:=h.nodeAt;cases e;exact h1 j hj
theorem kR.zgt(h:kR B es m Fs R nbs ks cbs rb n T cc gv kv nv sv st said w):∃p c,sv=.slice p said.length c/\w.cell? ⟨cc,4,none⟩=some (.slice p said.length c)/\∀j,j<said.length->∃b,p=some ⟨b,0,none⟩/\w.cell? ⟨b,j,none⟩=some (.string (said.getD j zj4))/\OutB B Fs R ks n w b:=by
 rcases h.said.2 with⟨e,h1⟩|⟨b,cap,cur,e,hb,hg,hnc,hcm,hcs,ht⟩
 .refine ⟨none,0,by rw[e,h1],?_,λj hj=>by omega⟩
  have h2:w.cell? ⟨cc,4,none⟩=some sv:=zjD w cc 4 _ _ _ h.blk;rw[h2,e,h1]
 refine⟨some ⟨b,0,none⟩,cap,e,?_,λj hj=>⟨b,rfl,?_,h.osv b (by rw[e];rfl)⟩⟩
 .have h2:w.cell? ⟨cc,4,none⟩=some sv:=zjD w cc 4 _ _ _ h.blk;rw[h2,e]
 rw[zjD w b j _ _ _ hg];have e1:(cur.toList.take (said.length*1))[j]? =(said.map Value.string)[j]? :=by rw[ht]
 rw[zkc,zj2 (by omega)] at e1;rw[<-zkf,e1,List.getElem?_map];simp only[List.getD_eq_getElem?_getD,List.getElem?_eq_getElem hj];rfl
structure ZL where
 k:Int
 t:Int
 f:Int
 c:Int
 m:kE
 r:zj5
def ZL.cells(a:ZL):Array Value:=#[.int .i64 a.k,.int .i64 a.t,.int .i64 a.f,.int .i64 a.c,.int .i64 a.m.k,.int .i64 a.m.h,.int .i64 a.m.r,.int .i64 a.m.f,.int .i64 a.m.v,.bool a.m.nl,.string a.m.s,.string a.r]
def zdV(c:Int):Prop:= -9223372036854775808<=c/\c<=9223372036854775807
structure Zy (a:ZL):Prop where
 k:zdV a.k
 t:zdV a.t
 f:zdV a.f
 c:zdV a.c
 mf:zdV a.m.f
 ms:a.m.s.size<=4000000000000
end
section
open Proofs.Tryz
def Vj(w:World)(base:Nat)(p:Option Addr)(n:Nat)(a:Nat->ZL):Prop:=∀i,i<n->∃b o,p=some ⟨b,o,none⟩/\b<base/\w.rangeAt b (o+i*12) (a i).cells.toList
theorem Vj.below{w w':World}{base:Nat}{p:Option Addr}{n:Nat}{a:Nat->ZL}(h:Vj w base p n a)(hb:Below base w w'):Vj w' base p n a:=λi hi=>by
 obtain⟨b,o,e,hlt,hr⟩:=h i hi;refine⟨b,o,e,hlt,λj v hv=>?_⟩;rw[zjH (w:=w) (a:=⟨b,o+i*12+j,none⟩) (hb.block b hlt)];exact hr j v hv
theorem Tryz.zgD:(prog.info? 81).map (·.size)=some 12:=by kernel_rfl
end
section
open Go.ChangeShapes Go.WideShapes Go.ChangeAt Proofs.Tryz
variable{W:World}{fuel:Nat}{sp:Nat->Bool}{held:Bool}{cs:List Value}{p:List MemPlace}
theorem Tryz.zh2:prog.cellsOf 81=12:=by kernel_rfl
theorem Tryz.zh1:prog.cellsOf 57=7:=by kernel_rfl
theorem Tryz.zhg:prog.cellsOf 3=1:=by kernel_rfl
theorem Tryz.zhN:prog.cellsOf 4=1:=by kernel_rfl
theorem Tryz.zhf:prog.cellsOf 9=1:=by kernel_rfl
theorem YF{H:Type}{enc:TypeId×Value->H}{base:Nat}{d:DataW H}(hl:cs.length=7)(h:DataW.trod enc prog W base sp held fuel 57 cs=some (d,p)):
 p=[]/\∃m:kE,cs=m.cells.toList/\zdV m.f/\m.s.size<=Rows.uptoBulk d:=by
 obtain⟨xs,n,_,hx,_,hlen,hf⟩:=DataW.trod_struct underlying57 h;match cs,hl,xs,hlen with
 | [c0,c1,c2,c3,c4,c5,c6],_,[y0,y1,y2,y3,y4,y5,y6],_=>
  have t0:=hf 0 _ rfl;have t1:=hf 1 _ rfl;have t2:=hf 2 _ rfl;have t3:=hf 3 _ rfl;have t4:=hf 4 _ rfl;have t5:=hf 5 _ rfl;have t6:=hf 6 _ rfl;simp[Tryz.zhg,Tryz.zhN,Tryz.zhf] at t0 t1 t2 t3 t4 t5 t6;obtain⟨K,e0,rfl,_⟩:=DataW.trod_int underlying3 t0;obtain⟨H',e1,rfl,_⟩:=DataW.trod_int underlying3 t1;obtain⟨R,e2,rfl,_⟩:=DataW.trod_int underlying3 t2;obtain⟨F,e3,rfl,wF⟩:=DataW.trod_int underlying3 t3;obtain⟨V,e4,rfl,_⟩:=DataW.trod_int underlying3 t4;obtain⟨nl,e5,rfl⟩:=DataW.trod_bool underlying4 t5;obtain⟨s,e6,rfl,hs⟩:=DataW.trod_string underlying9 t6;simp only[List.cons.injEq,and_true] at e0 e1 e2 e3 e4 e5 e6;subst e0 e1 e2 e3 e4 e5 e6;have ad:=congrArg (·.1) hx;have aa:=congrArg (·.2) hx;simp only at ad aa;refine⟨by simpa using aa,⟨K,H',R,F,V,nl,s⟩,rfl,⟨(bounds_i64 wF).1,(bounds_i64 wF).2⟩,?_⟩;rw[ad];simp[Rows.uptoBulk,Rows.uptoBulkAll];first|omega|done
theorem Vf{H:Type}{enc:TypeId×Value->H}{base:Nat}{d:DataW H}(hl:cs.length=12)(hd:Rows.uptoBulk d<=1048576)(h:DataW.trod enc prog W base sp held fuel 81 cs=some (d,p)):
 p=[]/\∃a:ZL,cs=a.cells.toList/\Zy a:=by
 obtain⟨xs,n,_,hx,_,hlen,hf⟩:=DataW.trod_struct underlying81 h;match cs,hl,xs,hlen with
 | [c0,c1,c2,c3,c4,c5,c6,c7,c8,c9,c10,c11],_,[y0,y1,y2,y3,y4,y5],_=>
  have t0:=hf 0 _ rfl;have t1:=hf 1 _ rfl;have t2:=hf 2 _ rfl;have t3:=hf 3 _ rfl;have t4:=hf 4 _ rfl;have t5:=hf 5 _ rfl;simp[Tryz.zhg,Tryz.zhf,Tryz.zh1] at t0 t1 t2 t3 t4 t5;obtain⟨K,e0,rfl,w0⟩:=DataW.trod_int underlying3 t0;obtain⟨T,e1,rfl,w1⟩:=DataW.trod_int underlying3 t1;obtain⟨F,e2,rfl,w2⟩:=DataW.trod_int underlying3 t2;obtain⟨C,e3,rfl,w3⟩:=DataW.trod_int underlying3 t3;obtain⟨y4d,y4p⟩:=y4;obtain⟨ae,m,e4,ah,ag⟩:=YF rfl t4;obtain⟨s,e5,rfl,hs⟩:=DataW.trod_string underlying9 t5;obtain⟨mk,mh,mr,mf,mv,mn,ms⟩:=m;simp only[kE.cells,List.cons.injEq,and_true] at e0 e1 e2 e3 e4 e5;obtain⟨rfl,rfl,rfl,rfl,rfl,rfl,rfl⟩:=e4;subst e0 e1 e2 e3 e5;have ad:=congrArg (·.1) hx;have aa:=congrArg (·.2) hx;simp only at ad aa;rw[ad] at hd;simp[Rows.uptoBulk,Rows.uptoBulkAll] at hd;have af:ms.size<=Rows.uptoBulk y4d:=ag;refine⟨by rw[aa];simpa using ae,⟨K,T,F,C,⟨mk,mh,mr,mf,mv,mn,ms⟩,s⟩,rfl,⟨⟨(bounds_i64 w0).1,(bounds_i64 w0).2⟩,⟨(bounds_i64 w1).1,(bounds_i64 w1).2⟩,⟨(bounds_i64 w2).1,(bounds_i64 w2).2⟩,⟨(bounds_i64 w3).1,(bounds_i64 w3).2⟩,ah,?_⟩⟩;show ms.size<=_;omega
def zfC:ZL:=⟨0,0,0,0,⟨0,0,0,0,0,false,zj4⟩,zj4⟩
theorem zbs{H:Type}{enc:TypeId×Value->H}{base:Nat}{v:Value}{d:DataW H}(hd:Rows.uptoBulk d<=1048576)(hv:Value.okWide prog W .any base 75 v)(h:DataW.Trod enc prog W 0 (λ_=>true) true 75 v d p):
 ∃(pa:Option Addr) (n cap:Nat) (a:Nat->ZL),v=.slice pa n cap/\Vj W W.heap.size pa n a/\(∀i,i<n->Zy (a i))/\n<=Rows.uptoBulk d/\∀x∈p,x.block<W.heap.size:=by
 obtain⟨pa,n,cap,rfl⟩:=okWide_slice underlying75 hv;obtain⟨fuel,hf⟩:=h;have ai:DataW.trod enc prog W 0 (λ_=>true) true fuel 75 [.slice pa n cap]=some (d,p):=hf;rcases Deep.open_slice underlying75 ai with⟨ad,hx⟩|⟨a,len,cap',m,k,D,Pl,ad,_,hl,hm,ag,hx,af⟩
 .simp at ad hx;obtain⟨rfl,rfl,rfl⟩:=ad;obtain⟨rfl,rfl⟩:=hx;exact⟨none,0,0,λ_=>zfC,rfl,λi hi=>by omega,λi hi=>by omega,zjG _,λx hx=>by cases hx⟩
 simp only[List.cons.injEq,Value.slice.injEq,and_true] at ad;obtain⟨rfl,rfl,rfl⟩:=ad;simp only[Prod.mk.injEq] at hx;obtain⟨rfl,rfl⟩:=hx;simp only[if_true] at ag;obtain⟨b,o,sp⟩:=a;obtain rfl:sp=none:=zbv underlying75 hv;rw[Tryz.zh2] at af ⊢;have aj:∀i,i<m->Rows.uptoBulk (D i)<=1048576:=λi hi=>by
  simp only[Rows.uptoBulk] at hd;by_cases ah:i<n
  .have:=QN (H:=H) (d:=D i) (l:=(List.range n).map D) (List.mem_map.2 ⟨i,by simpa using ah,rfl⟩)
   omega
  have:=QN (H:=H) (d:=D i) (l:=(List.range (m-n)).map λj=>D (n+j)) (List.mem_map.2 ⟨i-n,by simp;omega,by rw[show n+(i-n)=i by omega]⟩);omega
 have each:∀i,i<m->∃q:ZL,Pl i=[]/\W.rangeAt b (o+i*12) q.cells.toList/\Zy q:=λi hi=>by
  obtain⟨cs',h1,h2⟩:=af i hi;obtain⟨_,hlen,ae⟩:=World.cells?_some h1;obtain⟨hp,q,rfl,hq⟩:=Vf hlen (aj i hi) h2;refine⟨q,hp,λj u hj=>?_,hq⟩;have hj9:j<12:=by have:=(List.getElem?_eq_some_iff.1 hj).1;omega
  have e:=ae j (by omega);rw[addr_add,addr_add] at e;rw[e,<-hj]
 haveI:Inhabited ZL:=⟨zfC⟩;obtain⟨ts,aa⟩:=Deep.choose_lt each;refine⟨some ⟨b,o,none⟩,n,cap,ts,rfl,λi hi=>⟨b,o,rfl,?_,(aa i (by omega)).2.1⟩,λi hi=>(aa i (by omega)).2.2,?_,λx hx=>?_⟩
 .have h2:=(aa i (by omega)).2.1 0 _ rfl;exact zjI _ _ h2
 .have h1:=QO (H:=H) ((List.range n).map D);simp only[Rows.uptoBulk];simp at h1;omega
 rcases List.mem_append.1 hx with hx|hx
 .simp only[MemPlace.row,List.mem_map,List.mem_range] at hx;obtain⟨i,hi,rfl⟩:=hx;have h2:=(aa (i / 12) (by omega)).2.1 0 _ rfl;exact zjI _ _ h2
 rw[List.mem_flatMap] at hx;obtain⟨i,hi,hx⟩:=hx;rw[(aa i (by simpa using hi)).1] at hx;cases hx

/- Proved here: what was taken ahead without what outsiders said (slices.DeleteFunc with the closure of beginHeight). -/
import Derived.Test.YtcfjhbcpjpgodaaGreatDoorJ21
import Derived.Test.YtcfjhbcpjpgodaaGreatDoorJ27
import Derived.Test.YtcfjhbcpjpgodaaGreatDoorJ11
import Derived.Test.YtcfjhbcpjpgodaaGreatDoorJ25
import Derived.Test.YtcfjhbcpjpgodaaGreatDoorTakeL
namespace Go.Proofs.YtcfjhbcpjpgodaaGreatDoor
open Go.RowKit Go.Proofs.Tryz
set_option maxRecDepth 100000
set_option linter.unusedSimpArgs false
set_option linter.unusedVariables false
set_option maxHeartbeats 25600000
variable{nb kb cb B:Nat}{V:NodeV}{s:NodeS}{w w':World}{es:List Addr}
theorem NodeAt.moved{gb cap:Nat}{l':List EntV}{W:World}(hA:NodeAt nb kb cb V s w)(hv:V.av=.slice (some ⟨gb,0,none⟩) s.ahead.length cap)(hl:l'.length=s.ahead.length)(hr:EntRowAt W gb cap l')(hs:SameBut (fun k=>k=gb) w W):NodeAt nb kb cb V { s with ahead:=l' } W:=by
 obtain⟨n1,n2,n3,n4,n5,n6⟩:=hA.rows;have ho:V.av.ownBlock=some gb:=by rw[hv];rfl
 have hg:∀{g:Nat},g=gb→V.av.ownBlock=some g:=fun e=>by rw[e];exact ho
 refine⟨?_,hA.eds,?_,?_,?_,?_,?_,?_,?_,hA.alog,hA.awc,hA.acc⟩
 .exact (hs.block nb (row_lt0 hA.blk) (fun e=>n4 (hg e))).trans hA.blk
 .exact own_blocks hA.dec fun g e h=>hs.block g h (fun x=>own_tt hA.dec hA.ahead (by decide) g e (hg x))
 .exact fun d hd=>own_blocks (hA.cert d hd) fun g e h=>hs.block g h (fun x=>own_tt (hA.cert d hd) hA.ahead (by decide) g e (hg x))
 .exact own_blocks hA.wait fun g e h=>hs.block g h (fun x=>own_tt hA.wait hA.ahead (by decide) g e (hg x))
 .exact own_blocks hA.log fun g e h=>hs.block g h (fun x=>hA.alog g e (hg x))
 .have:=entrow_own (base:=0) hr (Nat.zero_le _)
  rw[hl,←hv] at this;show W.ownsRow 0 164 9 V.av l'.length (entL l');rw[hl];exact this
 .exact own_blocks hA.tims fun g e h=>hs.block g h (fun x=>own_tt hA.tims hA.ahead (by decide) g e (hg x))
 obtain⟨a,b,hc⟩:=hA.chan;exact⟨a,b,(hs.block cb (chan_lt hA.chan) (fun x=>own_nc hA.ahead hA.chan (hg x))).trans hc⟩
theorem Tryz.sizeMsgD:(prog.info? 57).map (·.size)=some 7:=by kernel_rfl
theorem outs1(nb kb cb b0:Nat)(e:EntV)(V:NodeV)(s:NodeS)(W:World)(hA:NodeAt nb kb cb V s W)(c0:W.cell? ⟨b0,0,none⟩=some (.pointer (some ⟨nb,0,none⟩)))(hx:Dom s.x)(hp:0<sumTo s.x 8)(hh:s.height≤12)(hr:0≤e.m.r∧e.m.r≤20):
 Calls prog 105 #[.agg e.cells,.pointer (some ⟨b0,0,none⟩)] W fun en w'=>en=.returned (.bool (s.outsider e.m))∧Below W.heap.size W w':=by
 obtain⟨⟨K,H,R,f,v,nl,t⟩,fr,own⟩:=e;show Calls prog 105 #[.agg #[.int .i64 K,.int .i64 H,.int .i64 R,.int .i64 f,.int .i64 v,.bool nl,.string t,.string fr,.bool own],.pointer (some ⟨b0,0,none⟩)] W _;have hb1:Below W.heap.size W (W.alloc (.cells #[.int .i64 K,.int .i64 H,.int .i64 R,.int .i64 f,.int .i64 v,.bool nl,.string t,.string fr,.bool own] 164)):=(Below.refl _ W).alloc (Nat.le_refl _) _;have c1:(W.alloc (.cells #[.int .i64 K,.int .i64 H,.int .i64 R,.int .i64 f,.int .i64 v,.bool nl,.string t,.string fr,.bool own] 164)).cell? ⟨b0,0,none⟩=some (.pointer (some ⟨nb,0,none⟩)):=cell?_alloc_old _ c0;have HRG:Hid ((W.alloc (.cells #[.int .i64 K,.int .i64 H,.int .i64 R,.int .i64 f,.int .i64 v,.bool nl,.string t,.string fr,.bool own] 164)).rangeAt W.heap.size 0 [.int .i64 K,.int .i64 H,.int .i64 R,.int .i64 f,.int .i64 v,.bool nl,.string t]):=fun j u hu=>by
  have hj:j<7:=by have:=(List.getElem?_eq_some_iff.1 hu).1;simpa using this
  rw[cell_of_row _ W.heap.size _ _ _ _ (heap_alloc_new W _),←hu,Nat.zero_add];have:j=0∨j=1∨j=2∨j=3∨j=4∨j=5∨j=6:=by omega
  rcases this with rfl|rfl|rfl|rfl|rfl|rfl|rfl<;>rfl
 obtain⟨HC,HB1⟩:=hide2 (isOutsider_any nb kb cb ⟨K,H,R,f,v,nl,t⟩ V s (W.alloc (.cells #[.int .i64 K,.int .i64 H,.int .i64 R,.int .i64 f,.int .i64 v,.bool nl,.string t,.string fr,.bool own] 164)) (hA.below hb1) hx hp hh hr) hb1;clear hA c0 hx hp hh hr hb1;go_enter func105,ntmps105;go_wp2_with (first|(refine wpList_load_mid rfl 57 _ rfl W.heap.size 0 rfl [.int .i64 K,.int .i64 H,.int .i64 R,.int .i64 f,.int .i64 v,.bool nl,.string t] _ HRG.out underlying57 rfl Tryz.sizeMsgD ?_)|(go_at_call 106;refine HC.out.mono ?_;rintro e w2 ⟨rfl,hb2⟩;have HB2:=hide hb2;clear hb2)|fail)
 go_ret;exact⟨rfl,below_to HB1.out HB2.out⟩
theorem outs_del(nb kb cb b0:Nat)(V:NodeV)(s:NodeS)(W:World)(hA:NodeAt nb kb cb V s W)(c0:W.cell? ⟨b0,0,none⟩=some (.pointer (some ⟨nb,0,none⟩)))(hx:Dom s.x)(hp:0<sumTo s.x 8)(hh:s.height≤12)(hr:∀e∈s.ahead,0≤e.m.r∧e.m.r≤20):
 Calls prog 104 #[V.av,.func (.func 105) #[] #[.pointer (some ⟨b0,0,none⟩)]] W (DelP V.av (s.ahead.filter fun e=> !s.outsider e.m) W):=by
 rcases hA.ahead.2 with⟨e0,hn⟩|⟨gb,cap,cur,e0,_,hg,hnc,hcm,hcs,ht⟩
 .rw [e0,List.eq_nil_of_length_eq_zero hn];exact deleteFunc_nil _ W
 have hrow:EntRowAt W gb cap s.ahead:=⟨cur,hg,hnc,hcm,hcs,ht⟩;have hgb:∀e,e∈s.ahead→b0≠gb:=fun e he hbg=>by
  have hpos:0<s.ahead.length:=List.length_pos_of_mem he;obtain⟨b,o,eb,_,hrg⟩:=hrow.ents 0 hpos;cases eb;have h1:=hrg 0 (.int .i64 (s.ahead.getD 0 ent0).m.k) rfl;rw[hbg] at c0;simp only[Nat.zero_mul,Nat.add_zero] at h1;rw[c0] at h1;cases h1
 have hfit:FitsIn 105 #[.pointer (some ⟨b0,0,none⟩)] (fun e=>s.outsider e.m) s.ahead gb cap W:=fun W' e l' he hl _ hrw hsb=>
  outs1 nb kb cb b0 e V { s with ahead:=l' } W' (hA.moved e0 hl hrw hsb) ((World.cell?_of_block (w:=W) (a:=⟨b0,0,none⟩) (hsb.block b0 (World.block_lt_of_cell? _ _ c0) (hgb e he))).trans c0) hx hp hh (hr e he)
 rw[e0];refine(deleteFunc_any _ _ (fun e=>s.outsider e.m) s.ahead gb cap W (enters_of func105 (by decide) rfl) hrow hfit).mono ?_;rintro e w' ⟨rfl,hrw,hs⟩;exact⟨_,rfl,entrow_own hrw (Nat.zero_le _),fun g h=>h,⟨hs.os,hs.tape,hs.output,hs.size,fun k hk hn=>hs.block k hk (fun e=>hn (by rw[e];rfl))⟩⟩
theorem likeN_le(l:List EntV)(m:MsgV):likeN l m≤l.length:=List.length_filter_le _ l
theorem like_any(l:List EntV)(p:Option Addr)(cap:Nat)(m:MsgV)(w:World)(hl:EntsAt w w.heap.size p l.length (fun i=>l.getD i ent0))(hm:l.length≤1000000000):
 Calls prog 128 #[.slice p l.length cap,.agg m.cells] w fun e w'=>e=.returned (.int .i64 (likeN l m:Int))∧Below w.heap.size w w':=by
 obtain⟨mk,mh,mr,mf,mv,mn,ms⟩:=m;have HL:=hide hl;have hmx:l.length≤1000000000:=hm;clear hl hm;show Calls prog 128 #[.slice p l.length cap,.agg #[.int .i64 mk,.int .i64 mh,.int .i64 mr,.int .i64 mf,.int .i64 mv,.bool mn,.string ms]] w _;go_enter func128,ntmps128;go_wp2;go_loopw [5,7,10] (fun cv _ i wr=>∃(j c:Nat),j≤l.length∧i=.int .i64 j∧cv=.int .i64 c∧c=likeN (l.take j) ⟨mk,mh,mr,mf,mv,mn,ms⟩∧wr.heap[w.heap.size]? =some (.cells #[.int .i64 mk,.int .i64 mh,.int .i64 mr,.int .i64 mf,.int .i64 mv,.bool mn,.string ms] 57 (0,0))∧Below w.heap.size w wr) (fun _ _ i _=>l.length-(intOf i).toNat)
 case atStart=>exact⟨0,0,Nat.zero_le _,rfl,rfl,rfl,heap_alloc_new w _,(Below.refl _ w).alloc (Nat.le_refl _) _⟩
 obtain⟨j,c,hj,rfl,rfl,hcn,hq,hb⟩:=hrel;obtain⟨HB,HQ,HCN⟩:=hide3 hb hq hcn;have hcb:c≤l.length:=by
  rw[hcn];refine Nat.le_trans (likeN_le _ _) ?_;rw[List.length_take];omega
 clear hb hq hcn;by_cases hend:j=l.length
 .have hge:¬(j:Int)<l.length:=by omega
  have HF:Hid (c=likeN l ⟨mk,mh,mr,mf,mv,mn,ms⟩):=by have h:=HCN.out;rw[hend,List.take_length] at h;exact h
  clear hend;go_wp2;go_ret;exact⟨by rw[←HF.out];rfl,HB.out⟩
 have hlt:j<l.length:=by omega
 have hlt2:(j:Int)<l.length:=by omega
 have hz:w.heap.size<wr.heap.size:=row_lt0 HQ.out;obtain⟨b,o,rfl,hbb,hrg⟩:=HL.out.below HB.out j hlt;obtain⟨ev,hev⟩:=gen (l.getD j ent0);have hrg':=hrg;simp only[←hev] at hrg';have hst:=likeN_step l ⟨mk,mh,mr,mf,mv,mn,ms⟩ j hlt;rw[←hev,←HCN.out] at hst;have HST:=hide hst;obtain⟨⟨K,H,R,f,V,nl,s⟩,fr,own⟩:=ev;have HRG:Hid (wr.rangeAt b (o+j*9) [.int .i64 K,.int .i64 H,.int .i64 R,.int .i64 f,.int .i64 V,.bool nl,.string s,.string fr,.bool own]):=hrg';clear hrg hrg' hev hbb hst
 go_upto_region 5 with(first|(refine wpList_load_mid rfl 164 _ rfl b (o+j*9) rfl [.int .i64 K,.int .i64 H,.int .i64 R,.int .i64 f,.int .i64 V,.bool nl,.string s,.string fr,.bool own] _ HRG.out underlying164 rfl Tryz.sizeEnt ?_)|(refine wpList_store_new rfl 164 _ _ rfl wr #[.int .i64 K,.int .i64 H,.int .i64 R,.int .i64 f,.int .i64 V,.bool nl,.string s,.string fr,.bool own] rfl rfl 164 _ rfl (by simp[Value.oneCell']) Tryz.sizeEnt ?_;intro w2 hq2 hb2 hz2;have HQ2:=hide hq2;have HB2:Hid (Below wr.heap.size wr w2):=hb2;clear hq2 hb2 hz2)|fail)
 have c0:w2.cell? ⟨wr.heap.size,0,none⟩=some (.int .i64 K):=cell_of_row w2 wr.heap.size 0 _ _ _ HQ2.out;have c1:w2.cell? ⟨wr.heap.size,1,none⟩=some (.int .i64 H):=cell_of_row w2 wr.heap.size 1 _ _ _ HQ2.out;have c2:w2.cell? ⟨wr.heap.size,2,none⟩=some (.int .i64 R):=cell_of_row w2 wr.heap.size 2 _ _ _ HQ2.out;have c3:w2.cell? ⟨wr.heap.size,3,none⟩=some (.int .i64 f):=cell_of_row w2 wr.heap.size 3 _ _ _ HQ2.out;have d0:w2.cell? ⟨w.heap.size,0,none⟩=some (.int .i64 mk):=cell_of_row w2 w.heap.size 0 _ _ _ (blk HQ.out HB2.out);have d1:w2.cell? ⟨w.heap.size,1,none⟩=some (.int .i64 mh):=cell_of_row w2 w.heap.size 1 _ _ _ (blk HQ.out HB2.out);have d2:w2.cell? ⟨w.heap.size,2,none⟩=some (.int .i64 mr):=cell_of_row w2 w.heap.size 2 _ _ _ (blk HQ.out HB2.out);have d3:w2.cell? ⟨w.heap.size,3,none⟩=some (.int .i64 mf):=cell_of_row w2 w.heap.size 3 _ _ _ (blk HQ.out HB2.out);by_cases h0:K=mk
 .have q0:(K==mk)=true:=by simpa using h0
  by_cases h1:H=mh
  .have q1:(H==mh)=true:=by simpa using h1
   by_cases h2:R=mr
   .have q2:(R==mr)=true:=by simpa using h2
    by_cases h3:f=mf
    .have q3:(f==mf)=true:=by simpa using h3
     go_wp2;go_roundw
     case rel=>exact⟨j+1,c+1,by omega,by go_num,by go_num,by rw[HST.out];simp[likeB,h0,h1,h2,h3],blk HQ.out HB2.out,HB.out.trans (HB2.out.mono HB.out.size)⟩
     case measure=>simp[intOf];omega
    have q3:(f==mf)=false:=by simpa using h3
    go_wp2;go_roundw
    case rel=>exact⟨j+1,c,by omega,by go_num,by go_num,by rw[HST.out];simp[likeB,h3],blk HQ.out HB2.out,HB.out.trans (HB2.out.mono HB.out.size)⟩
    case measure=>simp[intOf];omega
   have q2:(R==mr)=false:=by simpa using h2
   go_wp2;go_roundw
   case rel=>exact⟨j+1,c,by omega,by go_num,by go_num,by rw[HST.out];simp[likeB,h2],blk HQ.out HB2.out,HB.out.trans (HB2.out.mono HB.out.size)⟩
   case measure=>simp[intOf];omega
  have q1:(H==mh)=false:=by simpa using h1
  go_wp2;go_roundw
  case rel=>exact⟨j+1,c,by omega,by go_num,by go_num,by rw[HST.out];simp[likeB,h1],blk HQ.out HB2.out,HB.out.trans (HB2.out.mono HB.out.size)⟩
  case measure=>simp[intOf];omega
 have q0:(K==mk)=false:=by simpa using h0
 go_wp2;go_roundw
 case rel=>exact⟨j+1,c,by omega,by go_num,by go_num,by rw[HST.out];simp[likeB,h0],blk HQ.out HB2.out,HB.out.trans (HB2.out.mono HB.out.size)⟩
 case measure=>simp[intOf];omega
def sentV(es:List Addr)(o:Option Nat):Value:=match o with|none=>.nilIface|some k=>.iface 294 (.pointer es[k]?)
theorem sent_at{k:Nat}{a:Addr}(h:es[k]? =some a):sentV es (some k)=.iface 294 (.pointer (some a)):=by
 show Value.iface _ (Value.pointer es[k]?)=_;rw[h]
def sixB(i:Nat):Bool:=i==3||i==4||i==5||i==6||i==7||i==8
structure GlobR (B:Nat) (es:List Addr) (w:World):Prop where
 cellR:∀(i g:Nat) (a:Addr),sentGs[i]? =some g→es[i]? =some a→sixB i=true→w.cell? ⟨g,0,none⟩=some (.iface 294 (.pointer (some a)))
 gb:∀i g:Nat,sentGs[i]? =some g→sixB i=true→g<B
theorem GlobR.same(h:GlobR B es w)(hb:∀k,k<B→w'.heap[k]? =w.heap[k]?):GlobR B es w':=
 ⟨fun i g a hg ha hi=>(World.cell?_of_block (w:=w) (a:=⟨g,0,none⟩) (hb g (h.gb i g hg hi))).trans (h.cellR i g a hg ha hi),h.gb⟩
theorem GlobR.below(h:GlobR B es w)(hB:B≤w.heap.size)(hb:Below w.heap.size w w'):GlobR B es w':=h.same fun k hk=>hb.block k (Nat.lt_of_lt_of_le hk hB)
theorem GlobR.cell(h:GlobR B es w)(i g:Nat)(a:Addr)(hg:sentGs[i]? =some g)(ha:es[i]? =some a)(hi:sixB i=true:=by decide):w.cell? ⟨g,0,none⟩=some (.iface 294 (.pointer (some a))):=h.cellR i g a hg ha hi
def NodeS.refT(s:NodeS)(m:MsgV)(fr:ByteArray):Option Nat:=if hasF (s.logAtH m.h) fr=true then some 6 else if 2≤likeN (s.logAtH m.h) m then some 7 else none
theorem refS_T{m:MsgV}{fr:ByteArray}(h1:¬m.h<(s.height:Int))(h2:¬((s.height:Int)+1<m.h∨20<m.r))(h3:¬(m.h=(s.height:Int)∧s.outsider m=true)):s.refS m fr=s.refT m fr:=by
 unfold NodeS.refS NodeS.refT;rw[if_neg h1,if_neg h2,if_neg h3]
theorem NodeAt.logH(h:NodeAt nb kb cb V s w)(mh:Int):∃(L:List EntV) (off:Nat) (p:Option Addr) (c:Nat),L=s.logAtH mh∧w.cell? ⟨nb,off,none⟩=some (.slice p L.length c)∧L.length≤maxLen∧EntsAt w w.heap.size p L.length (fun i=>L.getD i ent0)∧off=(if mh=(s.height:Int) then 37 else 38):=by
 by_cases e:mh=(s.height:Int)
 .obtain ⟨p,c,-,h1,h2,h3⟩:=h.logAt
  exact⟨s.log,37,p,c,by unfold NodeS.logAtH;rw[if_pos e],h1,h2,h3,by rw[if_pos e]⟩
 obtain⟨p,c,e1,h1,h2⟩:=own_ents h.ahead;have c38:w.cell? ⟨nb,38,none⟩=some V.av:=h.cell 38 rfl;rw[e1] at c38;exact⟨s.ahead,38,p,c,by unfold NodeS.logAtH;rw[if_neg e],c38,h1,h2,by rw[if_neg e]⟩
theorem refusal_any{N:Nat}(m:MsgV)(fr:ByteArray){V:NodeV}{s:NodeS}{w:World}(hA:NodeAt nb kb cb V s w)(hlen:es.length=12)(hR:GlobR B es w)(hB:B≤w.heap.size)(ok:StOk N s)(hN:N≤10000000)(hm:0≤m.h∧0≤m.r):
 Calls prog 79 #[.pointer (some ⟨nb,0,none⟩),.agg m.cells,.string fr] w fun e w'=>e=.returned (sentV es (s.refS m fr))∧Below w.heap.size w w':=by
 obtain⟨mk,mh,mr,mf,mv,mn,ms⟩:=m;obtain⟨hh0,hr0⟩:=hm;have hat:∀k,k<12→∃a,es[k]? =some a:=fun k hk=>⟨_,List.getElem?_eq_getElem (by rw[hlen];exact hk)⟩;obtain⟨a3,e3⟩:=hat 3 (by omega);obtain⟨a4,e4⟩:=hat 4 (by omega);obtain⟨a5,e5⟩:=hat 5 (by omega);obtain⟨a6,e6⟩:=hat 6 (by omega);obtain⟨a7,e7⟩:=hat 7 (by omega);show Calls prog 79 #[.pointer (some ⟨nb,0,none⟩),.agg #[.int .i64 mk,.int .i64 mh,.int .i64 mr,.int .i64 mf,.int .i64 mv,.bool mn,.string ms],.string fr] w fun e w'=>e=.returned (sentV es (s.refS ⟨mk,mh,mr,mf,mv,mn,ms⟩ fr))∧Below w.heap.size w w';obtain⟨w1,hw1⟩:=gen (w.alloc (.cells #[.int .i64 mk,.int .i64 mh,.int .i64 mr,.int .i64 mf,.int .i64 mv,.bool mn,.string ms] 57));have hb1:Below w.heap.size w w1:=by rw[hw1];exact(Below.refl _ w).alloc (Nat.le_refl _) _
 have hq1:w1.heap[w.heap.size]? =some (.cells #[.int .i64 mk,.int .i64 mh,.int .i64 mr,.int .i64 mf,.int .i64 mv,.bool mn,.string ms] 57 (0,0)):=by rw[hw1];exact heap_alloc_new w _
 have hR1:=hR.below hB hb1;have hA1:=hA.below hb1;obtain⟨L,off,p,c,hL,hoff,hLm,hLE,heo⟩:=hA1.logH mh;have hLN:L.length≤10000000:=by
  rw[hL];unfold NodeS.logAtH;have h1:=ok.log;have h2:=ok.ahead;split<;>omega
 have hhb:(s.height:Int)≤12:=by have:=ok.hgt;omega
 have hwr:IntKind.i64.wrap ((s.height:Int)+1)=(s.height:Int)+1:=wrap_small _ (by omega) (by omega);have C1:Hid (w1.cell? ⟨w.heap.size,1,none⟩=some (.int .i64 mh)):=cell_of_row w1 w.heap.size 1 _ _ _ hq1;have C2:Hid (w1.cell? ⟨w.heap.size,2,none⟩=some (.int .i64 mr)):=cell_of_row w1 w.heap.size 2 _ _ _ hq1;have CS3:Hid (w1.cell? ⟨0,0,none⟩=some (.iface 294 (.pointer (some a3)))):=hR1.cell 3 _ _ rfl e3;have CS4:Hid (w1.cell? ⟨4,0,none⟩=some (.iface 294 (.pointer (some a4)))):=hR1.cell 4 _ _ rfl e4;have CS5:Hid (w1.cell? ⟨5,0,none⟩=some (.iface 294 (.pointer (some a5)))):=hR1.cell 5 _ _ rfl e5;have CS6:Hid (w1.cell? ⟨6,0,none⟩=some (.iface 294 (.pointer (some a6)))):=hR1.cell 6 _ _ rfl e6;have CS7:Hid (w1.cell? ⟨7,0,none⟩=some (.iface 294 (.pointer (some a7)))):=hR1.cell 7 _ _ rfl e7;obtain⟨HE3,HE4,HE5,HE6,HE7,HL,COFF⟩:=hide7 e3 e4 e5 e6 e7 hL hoff;have HLOG:Hid (∀W,Below w1.heap.size w1 W→Calls prog 126 #[.pointer (some ⟨nb,0,none⟩),.int .i64 mh] W fun en w'=>en=.returned (.pointer (some ⟨nb,off,none⟩))∧w'=W):=fun W hW=>by
  have h1:=logOf_any nb kb cb mh V s W (hA1.below hW);rw[←heo] at h1;exact h1
 have HHAS:Hid (∀W,Below w1.heap.size w1 W→Calls prog 127 #[.slice p L.length c,.string fr] W fun e w'=>e=.returned (.bool (hasF L fr))∧Below W.heap.size W w'):=fun W hW=>has_any L p c fr W (hLE.ext (Ext.of hW)) hLm;have HLIKE:Hid (∀W,Below w1.heap.size w1 W→Calls prog 128 #[.slice p L.length c,.agg #[.int .i64 mk,.int .i64 mh,.int .i64 mr,.int .i64 mf,.int .i64 mv,.bool mn,.string ms]] W fun e w'=>e=.returned (.int .i64 (likeN L ⟨mk,mh,mr,mf,mv,mn,ms⟩:Int))∧Below W.heap.size W w'):=fun W hW=>like_any L p c ⟨mk,mh,mr,mf,mv,mn,ms⟩ W (hLE.ext (Ext.of hW)) (by omega);obtain⟨HA1,HOK,HB1,HQ1,HW1⟩:=hide5 hA1 ok hb1 hq1 hw1;clear hA hR hB ok hlen hat e3 e4 e5 e6 e7 hb1 hq1 hR1 hA1 hL hoff hLm hLE heo hLN hw1;go_enter func79,ntmps79;go_wp2_with fail
 rw[←HW1.out];by_cases h1:mh<(s.height:Int)
 .have HREF:Hid (s.refS ⟨mk,mh,mr,mf,mv,mn,ms⟩ fr=some 3):=by unfold Hid NodeS.refS;rw[if_pos h1]
  refine rgd (S:=fun X=>Below w1.heap.size w1 X) ((Below.refl _ w1).drew) (fun hH=>?_);refine takeN [(0,some 9,pA w.heap.size 1),(1,some 10,.int .i64 mh),(2,some 11,pA nb 0)] _ _ hH (by repeat(first|exact True.intro|(refine tkc rfl rfl (Or.inl ⟨by rfl,fun x h=>by have f0:x.cell? ⟨w.heap.size,1,none⟩=some (.int .i64 mh):=Ext.cell C1.out (Ext.of h);go_simp⟩) ?_;simp only[AP]))) ?_;simp only[takesA,AP,pA];refine rdy1 3 (fun K hK=>?_);go_simp;refine(height_any nb kb cb V s _ (HA1.out.below hH)).mono ?_;rintro en X2 ⟨rfl,rfl⟩;refine hK.out _ _ (hH) (fun hH=>?_);clear hK K
  try simp only[AP,AQ]
  refine takeM [(4,some 13,.bool true),(5,some 8,.bool true)] _ _ hH ?_;simp only[takesA,AP];refine dnr ?_;have cG:w1.drew.cell? ⟨0,0,none⟩=some (.iface 294 (.pointer (some a3))):=Ext.cell (CS3.out) (Ext.of hH);go_wp2;go_ret;exact⟨by rw[HREF.out,sent_at HE3.out];rfl,HB1.out.trans (hH.mono HB1.out.size)⟩
 have n1:=h1;by_cases h2:(s.height:Int)+1<mh
 .have HREF:Hid (s.refS ⟨mk,mh,mr,mf,mv,mn,ms⟩ fr=some 4):=by unfold Hid NodeS.refS;rw[if_neg n1,if_pos (Or.inl h2)]
  refine rgd (S:=fun X=>Below w1.heap.size w1 X) ((Below.refl _ w1).drew) (fun hH=>?_);refine takeN [(0,some 9,pA w.heap.size 1),(1,some 10,.int .i64 mh),(2,some 11,pA nb 0)] _ _ hH (by repeat(first|exact True.intro|(refine tkc rfl rfl (Or.inl ⟨by rfl,fun x h=>by have f0:x.cell? ⟨w.heap.size,1,none⟩=some (.int .i64 mh):=Ext.cell C1.out (Ext.of h);go_simp⟩) ?_;simp only[AP]))) ?_;simp only[takesA,AP,pA];refine rdy1 3 (fun K hK=>?_);go_simp;refine(height_any nb kb cb V s _ (HA1.out.below hH)).mono ?_;rintro en X2 ⟨rfl,rfl⟩;refine hK.out _ _ (hH) (fun hH=>?_);clear hK K
  try simp only[AP,AQ]
  refine takeM [(4,some 13,.bool false),(5,some 8,.bool false)] _ _ hH ?_;simp only[takesA,AP];refine dnr ?_;go_wp2_with fail
  refine rgd (S:=fun X=>Below w1.heap.size w1 X) (hH.drew) (fun hH=>?_);refine takeN [(0,some 16,pA w.heap.size 1),(1,some 17,.int .i64 mh),(2,some 18,pA nb 0)] _ _ hH (by repeat(first|exact True.intro|(refine tkc rfl rfl (Or.inl ⟨by rfl,fun x h=>by have f0:x.cell? ⟨w.heap.size,1,none⟩=some (.int .i64 mh):=Ext.cell C1.out (Ext.of h);go_simp⟩) ?_;simp only[AP]))) ?_;simp only[takesA,AP,pA];refine rdy1 3 (fun K hK=>?_);go_simp;refine(height_any nb kb cb V s _ (HA1.out.below hH)).mono ?_;rintro en X2 ⟨rfl,rfl⟩;refine hK.out _ _ (hH) (fun hH=>?_);clear hK K
  try simp only[AP,AQ]
  refine takeN [(4,some 20,.int .i64 ((s.height:Int)+1)),(5,some 21,.bool true),(6,some 22,.bool true),(7,some 23,undef),(8,some 24,undef),(9,some 25,undef),(10,some 26,.bool true),(11,some 15,.bool true)] _ _ hH (by repeat(first|exact True.intro|((first|(refine tkc rfl rfl (Or.inl ⟨by rfl,fun x h=>?_⟩) ?_;focus(go_simp;done))|refine tkc rfl rfl (Or.inr ⟨by rfl,rfl⟩) ?_);simp only[AP]))) ?_;simp only[takesA,AP];refine dnr ?_;have cG:w1.drew.drew.cell? ⟨4,0,none⟩=some (.iface 294 (.pointer (some a4))):=Ext.cell (CS4.out) (Ext.of hH);go_wp2;go_ret;exact⟨by rw[HREF.out,sent_at HE4.out];rfl,HB1.out.trans (hH.mono HB1.out.size)⟩
 by_cases h3:20<mr
 .have HREF:Hid (s.refS ⟨mk,mh,mr,mf,mv,mn,ms⟩ fr=some 4):=by unfold Hid NodeS.refS;rw[if_neg n1,if_pos (Or.inr h3)]
  refine rgd (S:=fun X=>Below w1.heap.size w1 X) ((Below.refl _ w1).drew) (fun hH=>?_);refine takeN [(0,some 9,pA w.heap.size 1),(1,some 10,.int .i64 mh),(2,some 11,pA nb 0)] _ _ hH (by repeat(first|exact True.intro|(refine tkc rfl rfl (Or.inl ⟨by rfl,fun x h=>by have f0:x.cell? ⟨w.heap.size,1,none⟩=some (.int .i64 mh):=Ext.cell C1.out (Ext.of h);go_simp⟩) ?_;simp only[AP]))) ?_;simp only[takesA,AP,pA];refine rdy1 3 (fun K hK=>?_);go_simp;refine(height_any nb kb cb V s _ (HA1.out.below hH)).mono ?_;rintro en X2 ⟨rfl,rfl⟩;refine hK.out _ _ (hH) (fun hH=>?_);clear hK K
  try simp only[AP,AQ]
  refine takeM [(4,some 13,.bool false),(5,some 8,.bool false)] _ _ hH ?_;simp only[takesA,AP];refine dnr ?_;go_wp2_with fail
  refine rgd (S:=fun X=>Below w1.heap.size w1 X) (hH.drew) (fun hH=>?_);refine takeN [(0,some 16,pA w.heap.size 1),(1,some 17,.int .i64 mh),(2,some 18,pA nb 0)] _ _ hH (by repeat(first|exact True.intro|(refine tkc rfl rfl (Or.inl ⟨by rfl,fun x h=>by have f0:x.cell? ⟨w.heap.size,1,none⟩=some (.int .i64 mh):=Ext.cell C1.out (Ext.of h);go_simp⟩) ?_;simp only[AP]))) ?_;simp only[takesA,AP,pA];refine rdy1 3 (fun K hK=>?_);go_simp;refine(height_any nb kb cb V s _ (HA1.out.below hH)).mono ?_;rintro en X2 ⟨rfl,rfl⟩;refine hK.out _ _ (hH) (fun hH=>?_);clear hK K
  try simp only[AP,AQ]
  refine takeN [(4,some 20,.int .i64 ((s.height:Int)+1)),(5,some 21,.bool false),(6,some 22,.bool false),(7,some 23,pA w.heap.size 2),(8,some 24,.int .i64 mr),(9,some 25,.bool true),(10,some 26,.bool true),(11,some 15,.bool true)] _ _ hH (by repeat(first|exact True.intro|(refine tkc rfl rfl (Or.inl ⟨by rfl,fun x h=>by have f0:x.cell? ⟨w.heap.size,2,none⟩=some (.int .i64 mr):=Ext.cell C2.out (Ext.of h);go_simp⟩) ?_;simp only[AP]))) ?_;simp only[takesA,AP,pA];refine dnr ?_;have cG:w1.drew.drew.cell? ⟨4,0,none⟩=some (.iface 294 (.pointer (some a4))):=Ext.cell (CS4.out) (Ext.of hH);go_wp2;go_ret;exact⟨by rw[HREF.out,sent_at HE4.out];rfl,HB1.out.trans (hH.mono HB1.out.size)⟩
 have n3:¬((s.height:Int)+1<mh∨20<mr):=fun h=>h.elim h2 h3;have HOUT:Hid (∀W,Below w1.heap.size w1 W→Calls prog 106 #[.pointer (some ⟨nb,0,none⟩),.agg #[.int .i64 mk,.int .i64 mh,.int .i64 mr,.int .i64 mf,.int .i64 mv,.bool mn,.string ms]] W fun e w'=>e=.returned (.bool (s.outsider ⟨mk,mh,mr,mf,mv,mn,ms⟩))∧Below W.heap.size W w'):=fun W hW=>isOutsider_any nb kb cb ⟨mk,mh,mr,mf,mv,mn,ms⟩ V s W (HA1.out.below hW) HOK.out.dom HOK.out.pos HOK.out.hgt ⟨hr0,by show mr≤20;omega⟩;by_cases h4:mh=(s.height:Int)
 .cases h5:s.outsider ⟨mk,mh,mr,mf,mv,mn,ms⟩ with
  |true=>
   have HREF:Hid (s.refS ⟨mk,mh,mr,mf,mv,mn,ms⟩ fr=some 5):=by unfold Hid NodeS.refS;rw[if_neg n1,if_neg n3,if_pos ⟨h4,h5⟩]
   rw[h5] at HOUT;clear h5;have q4:(mh==(s.height:Int))=true:=by simpa using h4
   have H4:=hide h4;clear h4;refine rgd (S:=fun X=>Below w1.heap.size w1 X) ((Below.refl _ w1).drew) (fun hH=>?_);refine takeN [(0,some 9,pA w.heap.size 1),(1,some 10,.int .i64 mh),(2,some 11,pA nb 0)] _ _ hH (by repeat(first|exact True.intro|(refine tkc rfl rfl (Or.inl ⟨by rfl,fun x h=>by have f0:x.cell? ⟨w.heap.size,1,none⟩=some (.int .i64 mh):=Ext.cell C1.out (Ext.of h);go_simp⟩) ?_;simp only[AP]))) ?_;simp only[takesA,AP,pA];refine rdy1 3 (fun K hK=>?_);go_simp;refine(height_any nb kb cb V s _ (HA1.out.below hH)).mono ?_;rintro en X2 ⟨rfl,rfl⟩;refine hK.out _ _ (hH) (fun hH=>?_);clear hK K
   try simp only[AP,AQ]
   refine takeM [(4,some 13,.bool false),(5,some 8,.bool false)] _ _ hH ?_;simp only[takesA,AP];refine dnr ?_;go_wp2_with fail
   refine rgd (S:=fun X=>Below w1.heap.size w1 X) (hH.drew) (fun hH=>?_);refine takeN [(0,some 16,pA w.heap.size 1),(1,some 17,.int .i64 mh),(2,some 18,pA nb 0)] _ _ hH (by repeat(first|exact True.intro|(refine tkc rfl rfl (Or.inl ⟨by rfl,fun x h=>by have f0:x.cell? ⟨w.heap.size,1,none⟩=some (.int .i64 mh):=Ext.cell C1.out (Ext.of h);go_simp⟩) ?_;simp only[AP]))) ?_;simp only[takesA,AP,pA];refine rdy1 3 (fun K hK=>?_);go_simp;refine(height_any nb kb cb V s _ (HA1.out.below hH)).mono ?_;rintro en X2 ⟨rfl,rfl⟩;refine hK.out _ _ (hH) (fun hH=>?_);clear hK K
   try simp only[AP,AQ]
   refine takeN [(4,some 20,.int .i64 ((s.height:Int)+1)),(5,some 21,.bool false),(6,some 22,.bool false),(7,some 23,pA w.heap.size 2),(8,some 24,.int .i64 mr),(9,some 25,.bool false),(10,some 26,.bool false),(11,some 15,.bool false)] _ _ hH (by repeat(first|exact True.intro|(refine tkc rfl rfl (Or.inl ⟨by rfl,fun x h=>by have f0:x.cell? ⟨w.heap.size,2,none⟩=some (.int .i64 mr):=Ext.cell C2.out (Ext.of h);go_simp⟩) ?_;simp only[AP]))) ?_;simp only[takesA,AP,pA];refine dnr ?_;go_wp2_with fail
   refine rgd (S:=fun X=>Below w1.heap.size w1 X) (hH.drew) (fun hH=>?_);refine takeN [(0,some 29,pA w.heap.size 1),(1,some 30,.int .i64 mh),(2,some 31,pA nb 0)] _ _ hH (by repeat(first|exact True.intro|(refine tkc rfl rfl (Or.inl ⟨by rfl,fun x h=>by have f0:x.cell? ⟨w.heap.size,1,none⟩=some (.int .i64 mh):=Ext.cell C1.out (Ext.of h);go_simp⟩) ?_;simp only[AP]))) ?_;simp only[takesA,AP,pA];refine rdy1 3 (fun K hK=>?_);go_simp;refine(height_any nb kb cb V s _ (HA1.out.below hH)).mono ?_;rintro en X2 ⟨rfl,rfl⟩;refine hK.out _ _ (hH) (fun hH=>?_);clear hK K
   try simp only[AP,AQ]
   refine takeN [(4,some 33,.bool true),(5,some 34,.bool true),(6,some 35,pA nb 0),(7,some 36,.agg ([.int .i64 mk,.int .i64 mh,.int .i64 mr,.int .i64 mf,.int .i64 mv,.bool mn,.string ms]).toArray)] _ _ hH (by repeat(first|exact True.intro|((first|refine tkc rfl rfl (yieldsIf_load_mid (by rfl) 57 _ rfl w.heap.size 0 rfl ([.int .i64 mk,.int .i64 mh,.int .i64 mr,.int .i64 mf,.int .i64 mv,.bool mn,.string ms]) _ (fun w h=>(row_range (blk HQ1.out h))) underlying57 rfl (by rw[Tryz.sizeMsgD];rfl)) ?_|(refine tkc rfl rfl (Or.inl ⟨by rfl,fun x h=>?_⟩) ?_;focus(go_simp;done)));simp only[AP]))) ?_;simp only[takesA,AP,pA];refine rdy1 8 (fun K hK=>?_);go_simp;refine(HOUT.out _ hH).mono ?_;rintro en X2 ⟨rfl,hb2⟩;have hX2:Below w1.heap.size w1 X2:=hH.trans (hb2.mono hH.size);refine hK.out _ _ (hX2) (fun hH=>?_);clear hK K
   try simp only[AP,AQ]
   refine takeM [(9,some 38,.bool true),(10,some 28,.bool true)] _ _ hH ?_;simp only[takesA,AP];refine dnr ?_;have cG:X2.cell? ⟨5,0,none⟩=some (.iface 294 (.pointer (some a5))):=Ext.cell (CS5.out) (Ext.of hH);go_wp2;go_ret;exact⟨by rw[HREF.out,sent_at HE5.out];rfl,HB1.out.trans (hH.mono HB1.out.size)⟩
  |false=>
   have HRT:Hid (s.refS ⟨mk,mh,mr,mf,mv,mn,ms⟩ fr=s.refT ⟨mk,mh,mr,mf,mv,mn,ms⟩ fr):=refS_T h1 n3 (fun h=>by rw[h5] at h;exact absurd h.2 Bool.false_ne_true);rw[h5] at HOUT;clear h5;have q4:(mh==(s.height:Int))=true:=by simpa using h4
   have H4:=hide h4;clear h4;refine rgd (S:=fun X=>Below w1.heap.size w1 X) ((Below.refl _ w1).drew) (fun hH=>?_);refine takeN [(0,some 9,pA w.heap.size 1),(1,some 10,.int .i64 mh),(2,some 11,pA nb 0)] _ _ hH (by repeat(first|exact True.intro|(refine tkc rfl rfl (Or.inl ⟨by rfl,fun x h=>by have f0:x.cell? ⟨w.heap.size,1,none⟩=some (.int .i64 mh):=Ext.cell C1.out (Ext.of h);go_simp⟩) ?_;simp only[AP]))) ?_;simp only[takesA,AP,pA];refine rdy1 3 (fun K hK=>?_);go_simp;refine(height_any nb kb cb V s _ (HA1.out.below hH)).mono ?_;rintro en X2 ⟨rfl,rfl⟩;refine hK.out _ _ (hH) (fun hH=>?_);clear hK K
   try simp only[AP,AQ]
   refine takeM [(4,some 13,.bool false),(5,some 8,.bool false)] _ _ hH ?_;simp only[takesA,AP];refine dnr ?_;go_wp2_with fail
   refine rgd (S:=fun X=>Below w1.heap.size w1 X) (hH.drew) (fun hH=>?_);refine takeN [(0,some 16,pA w.heap.size 1),(1,some 17,.int .i64 mh),(2,some 18,pA nb 0)] _ _ hH (by repeat(first|exact True.intro|(refine tkc rfl rfl (Or.inl ⟨by rfl,fun x h=>by have f0:x.cell? ⟨w.heap.size,1,none⟩=some (.int .i64 mh):=Ext.cell C1.out (Ext.of h);go_simp⟩) ?_;simp only[AP]))) ?_;simp only[takesA,AP,pA];refine rdy1 3 (fun K hK=>?_);go_simp;refine(height_any nb kb cb V s _ (HA1.out.below hH)).mono ?_;rintro en X2 ⟨rfl,rfl⟩;refine hK.out _ _ (hH) (fun hH=>?_);clear hK K
   try simp only[AP,AQ]
   refine takeN [(4,some 20,.int .i64 ((s.height:Int)+1)),(5,some 21,.bool false),(6,some 22,.bool false),(7,some 23,pA w.heap.size 2),(8,some 24,.int .i64 mr),(9,some 25,.bool false),(10,some 26,.bool false),(11,some 15,.bool false)] _ _ hH (by repeat(first|exact True.intro|(refine tkc rfl rfl (Or.inl ⟨by rfl,fun x h=>by have f0:x.cell? ⟨w.heap.size,2,none⟩=some (.int .i64 mr):=Ext.cell C2.out (Ext.of h);go_simp⟩) ?_;simp only[AP]))) ?_;simp only[takesA,AP,pA];refine dnr ?_;go_wp2_with fail
   refine rgd (S:=fun X=>Below w1.heap.size w1 X) (hH.drew) (fun hH=>?_);refine takeN [(0,some 29,pA w.heap.size 1),(1,some 30,.int .i64 mh),(2,some 31,pA nb 0)] _ _ hH (by repeat(first|exact True.intro|(refine tkc rfl rfl (Or.inl ⟨by rfl,fun x h=>by have f0:x.cell? ⟨w.heap.size,1,none⟩=some (.int .i64 mh):=Ext.cell C1.out (Ext.of h);go_simp⟩) ?_;simp only[AP]))) ?_;simp only[takesA,AP,pA];refine rdy1 3 (fun K hK=>?_);go_simp;refine(height_any nb kb cb V s _ (HA1.out.below hH)).mono ?_;rintro en X2 ⟨rfl,rfl⟩;refine hK.out _ _ (hH) (fun hH=>?_);clear hK K
   try simp only[AP,AQ]
   refine takeN [(4,some 33,.bool true),(5,some 34,.bool true),(6,some 35,pA nb 0),(7,some 36,.agg ([.int .i64 mk,.int .i64 mh,.int .i64 mr,.int .i64 mf,.int .i64 mv,.bool mn,.string ms]).toArray)] _ _ hH (by repeat(first|exact True.intro|((first|refine tkc rfl rfl (yieldsIf_load_mid (by rfl) 57 _ rfl w.heap.size 0 rfl ([.int .i64 mk,.int .i64 mh,.int .i64 mr,.int .i64 mf,.int .i64 mv,.bool mn,.string ms]) _ (fun w h=>(row_range (blk HQ1.out h))) underlying57 rfl (by rw[Tryz.sizeMsgD];rfl)) ?_|(refine tkc rfl rfl (Or.inl ⟨by rfl,fun x h=>?_⟩) ?_;focus(go_simp;done)));simp only[AP]))) ?_;simp only[takesA,AP,pA];refine rdy1 8 (fun K hK=>?_);go_simp;refine(HOUT.out _ hH).mono ?_;rintro en X2 ⟨rfl,hb2⟩;have hX2:Below w1.heap.size w1 X2:=hH.trans (hb2.mono hH.size);refine hK.out _ _ (hX2) (fun hH=>?_);clear hK K
   try simp only[AP,AQ]
   refine takeM [(9,some 38,.bool false),(10,some 28,.bool false)] _ _ hH ?_;simp only[takesA,AP];refine dnr ?_;have cM:X2.cell? ⟨w.heap.size,1,none⟩=some (.int .i64 mh):=Ext.cell C1.out (Ext.of hH);go_wp2_with fail
   refine(HLOG.out _ hH).mono ?_;rintro en X9 ⟨rfl,hw9⟩;have hw8:=hw9.symm;clear hw9;subst hw8;have cOff:X2.cell? ⟨nb,off,none⟩=some (.slice p L.length c):=Ext.cell COFF.out (Ext.of hH);go_wp2_with fail
   refine(HHAS.out _ hH).mono ?_;rintro en X7 ⟨rfl,hb7⟩;have hB7:Below w1.heap.size w1 X7:=hH.trans (hb7.mono hH.size);clear hb7 hH;have hH:=hB7;clear hB7;cases hhas:hasF L fr with
   |true=>
    have HREF:Hid (s.refS ⟨mk,mh,mr,mf,mv,mn,ms⟩ fr=some 6):=by unfold Hid;rw[HRT.out];unfold NodeS.refT;rw[if_pos (show hasF (s.logAtH mh) fr=true by rw[←HL.out];exact hhas)]
    have cG:X7.cell? ⟨6,0,none⟩=some (.iface 294 (.pointer (some a6))):=Ext.cell (CS6.out) (Ext.of hH);go_wp2;go_ret;exact⟨by rw[HREF.out,sent_at HE6.out];rfl,HB1.out.trans (hH.mono HB1.out.size)⟩
   |false=>
    have HHF:=hide hhas;go_wp2_with (first|(refine wpList_load_row rfl 57 _ rfl w.heap.size rfl 57 #[.int .i64 mk,.int .i64 mh,.int .i64 mr,.int .i64 mf,.int .i64 mv,.bool mn,.string ms] (0,0) _ (blk HQ1.out hH) underlying57 rfl (by rw[Tryz.sizeMsgD];rfl) ?_)|fail)
    refine(HLIKE.out _ hH).mono ?_;rintro en X7 ⟨rfl,hb7⟩;have hB7:Below w1.heap.size w1 X7:=hH.trans (hb7.mono hH.size);clear hb7 hH;have hH:=hB7;clear hB7;by_cases h9:2≤likeN L ⟨mk,mh,mr,mf,mv,mn,ms⟩
    .have h9i:2≤(likeN L ⟨mk,mh,mr,mf,mv,mn,ms⟩:Int):=by omega
     have HREF:Hid (s.refS ⟨mk,mh,mr,mf,mv,mn,ms⟩ fr=some 7):=by unfold Hid;rw[HRT.out];unfold NodeS.refT;rw[if_neg (show¬hasF (s.logAtH mh) fr=true by rw[←HL.out,HHF.out];exact Bool.false_ne_true),if_pos (show 2≤likeN (s.logAtH mh) _ by rw[←HL.out];exact h9)]
     have cG:X7.cell? ⟨7,0,none⟩=some (.iface 294 (.pointer (some a7))):=Ext.cell (CS7.out) (Ext.of hH);go_wp2;go_ret;exact⟨by rw[HREF.out,sent_at HE7.out];rfl,HB1.out.trans (hH.mono HB1.out.size)⟩
    have h9i:¬2≤(likeN L ⟨mk,mh,mr,mf,mv,mn,ms⟩:Int):=by omega
    have HREF:Hid (s.refS ⟨mk,mh,mr,mf,mv,mn,ms⟩ fr=none):=by unfold Hid;rw[HRT.out];unfold NodeS.refT;rw[if_neg (show¬hasF (s.logAtH mh) fr=true by rw[←HL.out,HHF.out];exact Bool.false_ne_true),if_neg (show¬2≤likeN (s.logAtH mh) _ by rw[←HL.out];exact h9)]
    go_wp2;go_ret;exact⟨by rw[HREF.out];rfl,HB1.out.trans (hH.mono HB1.out.size)⟩
 have HRT:Hid (s.refS ⟨mk,mh,mr,mf,mv,mn,ms⟩ fr=s.refT ⟨mk,mh,mr,mf,mv,mn,ms⟩ fr):=refS_T h1 n3 (fun h=>h4 h.1);have q4:(mh==(s.height:Int))=false:=by simpa using h4
 have H4:=hide h4;clear h4;refine rgd (S:=fun X=>Below w1.heap.size w1 X) ((Below.refl _ w1).drew) (fun hH=>?_);refine takeN [(0,some 9,pA w.heap.size 1),(1,some 10,.int .i64 mh),(2,some 11,pA nb 0)] _ _ hH (by repeat(first|exact True.intro|(refine tkc rfl rfl (Or.inl ⟨by rfl,fun x h=>by have f0:x.cell? ⟨w.heap.size,1,none⟩=some (.int .i64 mh):=Ext.cell C1.out (Ext.of h);go_simp⟩) ?_;simp only[AP]))) ?_;simp only[takesA,AP,pA];refine rdy1 3 (fun K hK=>?_);go_simp;refine(height_any nb kb cb V s _ (HA1.out.below hH)).mono ?_;rintro en X2 ⟨rfl,rfl⟩;refine hK.out _ _ (hH) (fun hH=>?_);clear hK K
 try simp only[AP,AQ]
 refine takeM [(4,some 13,.bool false),(5,some 8,.bool false)] _ _ hH ?_;simp only[takesA,AP];refine dnr ?_;go_wp2_with fail
 refine rgd (S:=fun X=>Below w1.heap.size w1 X) (hH.drew) (fun hH=>?_);refine takeN [(0,some 16,pA w.heap.size 1),(1,some 17,.int .i64 mh),(2,some 18,pA nb 0)] _ _ hH (by repeat(first|exact True.intro|(refine tkc rfl rfl (Or.inl ⟨by rfl,fun x h=>by have f0:x.cell? ⟨w.heap.size,1,none⟩=some (.int .i64 mh):=Ext.cell C1.out (Ext.of h);go_simp⟩) ?_;simp only[AP]))) ?_;simp only[takesA,AP,pA];refine rdy1 3 (fun K hK=>?_);go_simp;refine(height_any nb kb cb V s _ (HA1.out.below hH)).mono ?_;rintro en X2 ⟨rfl,rfl⟩;refine hK.out _ _ (hH) (fun hH=>?_);clear hK K
 try simp only[AP,AQ]
 refine takeN [(4,some 20,.int .i64 ((s.height:Int)+1)),(5,some 21,.bool false),(6,some 22,.bool false),(7,some 23,pA w.heap.size 2),(8,some 24,.int .i64 mr),(9,some 25,.bool false),(10,some 26,.bool false),(11,some 15,.bool false)] _ _ hH (by repeat(first|exact True.intro|(refine tkc rfl rfl (Or.inl ⟨by rfl,fun x h=>by have f0:x.cell? ⟨w.heap.size,2,none⟩=some (.int .i64 mr):=Ext.cell C2.out (Ext.of h);go_simp⟩) ?_;simp only[AP]))) ?_;simp only[takesA,AP,pA];refine dnr ?_;go_wp2_with fail
 refine rgd (S:=fun X=>Below w1.heap.size w1 X) (hH.drew) (fun hH=>?_);refine takeN [(0,some 29,pA w.heap.size 1),(1,some 30,.int .i64 mh),(2,some 31,pA nb 0)] _ _ hH (by repeat(first|exact True.intro|(refine tkc rfl rfl (Or.inl ⟨by rfl,fun x h=>by have f0:x.cell? ⟨w.heap.size,1,none⟩=some (.int .i64 mh):=Ext.cell C1.out (Ext.of h);go_simp⟩) ?_;simp only[AP]))) ?_;simp only[takesA,AP,pA];refine rdy1 3 (fun K hK=>?_);go_simp;refine(height_any nb kb cb V s _ (HA1.out.below hH)).mono ?_;rintro en X2 ⟨rfl,rfl⟩;refine hK.out _ _ (hH) (fun hH=>?_);clear hK K
 try simp only[AP,AQ]
 refine takeN [(4,some 33,.bool false),(5,some 34,.bool false),(6,some 35,undef),(7,some 36,undef),(8,some 37,undef),(9,some 38,.bool false),(10,some 28,.bool false)] _ _ hH (by repeat(first|exact True.intro|((first|(refine tkc rfl rfl (Or.inl ⟨by rfl,fun x h=>?_⟩) ?_;focus(go_simp;done))|refine tkc rfl rfl (Or.inr ⟨by rfl,rfl⟩) ?_);simp only[AP]))) ?_;simp only[takesA,AP];refine dnr ?_;have cM:w1.drew.drew.drew.cell? ⟨w.heap.size,1,none⟩=some (.int .i64 mh):=Ext.cell C1.out (Ext.of hH);go_wp2_with fail
 refine(HLOG.out _ hH).mono ?_;rintro en X9 ⟨rfl,hw9⟩;have hw8:=hw9.symm;clear hw9;subst hw8;have cOff:w1.drew.drew.drew.cell? ⟨nb,off,none⟩=some (.slice p L.length c):=Ext.cell COFF.out (Ext.of hH);go_wp2_with fail
 refine(HHAS.out _ hH).mono ?_;rintro en X7 ⟨rfl,hb7⟩;have hB7:Below w1.heap.size w1 X7:=hH.trans (hb7.mono hH.size);clear hb7 hH;have hH:=hB7;clear hB7;cases hhas:hasF L fr with
 |true=>
  have HREF:Hid (s.refS ⟨mk,mh,mr,mf,mv,mn,ms⟩ fr=some 6):=by unfold Hid;rw[HRT.out];unfold NodeS.refT;rw[if_pos (show hasF (s.logAtH mh) fr=true by rw[←HL.out];exact hhas)]
  have cG:X7.cell? ⟨6,0,none⟩=some (.iface 294 (.pointer (some a6))):=Ext.cell (CS6.out) (Ext.of hH);go_wp2;go_ret;exact⟨by rw[HREF.out,sent_at HE6.out];rfl,HB1.out.trans (hH.mono HB1.out.size)⟩
 |false=>
  have HHF:=hide hhas;go_wp2_with (first|(refine wpList_load_row rfl 57 _ rfl w.heap.size rfl 57 #[.int .i64 mk,.int .i64 mh,.int .i64 mr,.int .i64 mf,.int .i64 mv,.bool mn,.string ms] (0,0) _ (blk HQ1.out hH) underlying57 rfl (by rw[Tryz.sizeMsgD];rfl) ?_)|fail)
  refine(HLIKE.out _ hH).mono ?_;rintro en X7 ⟨rfl,hb7⟩;have hB7:Below w1.heap.size w1 X7:=hH.trans (hb7.mono hH.size);clear hb7 hH;have hH:=hB7;clear hB7;by_cases h9:2≤likeN L ⟨mk,mh,mr,mf,mv,mn,ms⟩
  .have h9i:2≤(likeN L ⟨mk,mh,mr,mf,mv,mn,ms⟩:Int):=by omega
   have HREF:Hid (s.refS ⟨mk,mh,mr,mf,mv,mn,ms⟩ fr=some 7):=by unfold Hid;rw[HRT.out];unfold NodeS.refT;rw[if_neg (show¬hasF (s.logAtH mh) fr=true by rw[←HL.out,HHF.out];exact Bool.false_ne_true),if_pos (show 2≤likeN (s.logAtH mh) _ by rw[←HL.out];exact h9)]
   have cG:X7.cell? ⟨7,0,none⟩=some (.iface 294 (.pointer (some a7))):=Ext.cell (CS7.out) (Ext.of hH);go_wp2;go_ret;exact⟨by rw[HREF.out,sent_at HE7.out];rfl,HB1.out.trans (hH.mono HB1.out.size)⟩
  have h9i:¬2≤(likeN L ⟨mk,mh,mr,mf,mv,mn,ms⟩:Int):=by omega
  have HREF:Hid (s.refS ⟨mk,mh,mr,mf,mv,mn,ms⟩ fr=none):=by unfold Hid;rw[HRT.out];unfold NodeS.refT;rw[if_neg (show¬hasF (s.logAtH mh) fr=true by rw[←HL.out,HHF.out];exact Bool.false_ne_true),if_neg (show¬2≤likeN (s.logAtH mh) _ by rw[←HL.out];exact h9)]
  go_wp2;go_ret;exact⟨by rw[HREF.out];rfl,HB1.out.trans (hH.mono HB1.out.size)⟩
end Go.Proofs.YtcfjhbcpjpgodaaGreatDoor

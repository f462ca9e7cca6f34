import Derived.Test.YtcfjhbcpjpgodaaGreatDoorJ20
namespace Go.Proofs.YtcfjhbcpjpgodaaGreatDoor
open Go.RowKit Proofs.Tryz
set_option maxRecDepth 100000
set_option maxHeartbeats 0
set_option linter.all false
section
variable{b t c:zj5}{x:Nat->Int}
theorem zda(h:b=⟨#[]⟩):jG b t=t:=by unfold jG;rw[zj2 h]
theorem zbH(h:¬b=⟨#[]⟩):jG b t=b++⟨#[44]⟩++t:=by unfold jG;rw[zj3 h]
theorem Jd(hc:jG b t=c)(h1:c.size<=24)(h2:(zi x c).2=true):qK x b t=c:=by unfold qK;rw[hc,zj2 ⟨h1,h2⟩]
theorem YX(hc:jG b t=c)(h1:¬c.size<=24):qK x b t=b:=by unfold qK;rw[hc,zj3 (λh=>h1 h.1)]
theorem Je(hc:jG b t=c)(h2:(zi x c).2=false):qK x b t=b:=by unfold qK;rw[hc,zj3 (λh=>by rw[h2] at h;cases h.2)]
theorem zch(x:Nat->Int)(l:List zj5)(p:Option Addr)(cap:Nat)(a11:Addr)(m:Int)(w:World)(hx:Dom x)(hl:qW w w.heap.size p l.length (λi=>sA (l.getD i zj4)))(hm:l.length<=1000)(hz:∀t∈l,t.size<=1000)
 (hg:w.cell? (aA 11 0)=some (eA a11)) (hml:w.cell? (aA 13 0)=some (iA m)):
 Calls prog 146 #[.agg (regA x),.slice p l.length cap] w λe w'=>e=.returned (sA (blockF x l))/\BW w w':=by
 obtain⟨HL,HX,HZ,HG,ah⟩:=x6 hl hx hz hg hml;have aw:Hid (RegAt (w.alloc (.cells (regA x) 116)) w.heap.size 116 x):=RegAt.alloc w _ x;clear hl hx hz hg hml;have hmx:(l.length:Int)<=1000:=by omega
 go_enter func146,ntmps146;go_wp2;go_loopw [5,7,8,11] (λv _ _ i wr=>∃j:Nat,j<=l.length/\i=iA j/\v=sA (blockF x (l.take j))/\cL wr w.heap.size (regA x) 116/\BW w wr) (λ_ _ _ i _=>l.length-(intOf i).toNat)
 case atStart=>exact⟨0,zjG _,rfl,rfl,aw,bwA w⟩
 obtain⟨j,hj,rfl,rfl,hq,hb⟩:=hrel;obtain⟨HB,HQ⟩:=zn hb hq;clear hb hq aw;by_cases ai:j=l.length
 .have hge:¬(j:Int)<l.length:=by omega
  have HE:Hid (blockF x (l.take j)=blockF x l):=by rw[ai,zke];exact rfl
  clear ai;rw[HE.o];go_wp2;go_ret;exact⟨rfl,HB⟩
 have ao:j<l.length:=by omega
 have ax:(j:Int)<l.length:=by omega
 obtain⟨b0,o0,rfl,az,au⟩:=HL.o.below HB j ao;obtain⟨t,ht⟩:=gen (l.getD j zj4);have ay:wr.cell? (aA b0 (o0+j))=some (sA t):=by rw[ht];exact au
 have htz:t.size<=1000:=by
  rw[ht,zjK,zjJ ao];exact HZ _ (List.getElem_mem ao)
 obtain⟨b,aq⟩:=gen (blockF x (l.take j));have hbz:b.size<=24:=by rw[aq];exact xy x _
 have al:Hid (blockF x (l.take (j+1))=qK x b t):=by unfold Hid;rw[Xi x l j ao,<-aq,<-ht]
 rw[<-aq];clear ai au az ht aq;by_cases ar:b=⟨#[]⟩
 .subst ar;have aa:jG ⟨#[]⟩ t=t:=zda rfl;have aj:=zc aa;clear aa;by_cases hz:t.size<=24
  .cases ag:(zi x t).2 with
   |true=>
    have an:(t.size:Int)<=24:=by omega
    have ak:=zc (kO x t a11 m wr HX.o (by omega) ((HB.o.cell (p:=(aA 11 0)) (zjI _ _ HG.o)).trans HG.o) ((HB.o.cell (p:=(aA 13 0)) (zjI _ _ ah.o)).trans ah.o));have HS:Hid (qK x ⟨#[]⟩ t=t):=Jd aj hz ag;clear hz;go_wp2_with (first|(refine zD (by rfl) 116 _ rfl w.heap.size rfl 116 (regA x) _ HQ underlying116 rfl (by rw[Tryz.zfG,zj]) ?_)|(go_at_call 152;refine ak.o.mono ?_;rintro e w2 ⟨rfl,ae⟩;have af:=zc ae;clear ae;rw[ag])|fail)
    go_roundw
    case rel=>exact⟨j+1,by omega,by go_num,by rw[al.o,HS.o],blk HQ.o af.o,HB.o.trans (af.o.mono HB.o.size)⟩
    simp[intOf];omega
   |false=>
    have an:(t.size:Int)<=24:=by omega
    have ak:=zc (kO x t a11 m wr HX.o (by omega) ((HB.o.cell (p:=(aA 11 0)) (zjI _ _ HG.o)).trans HG.o) ((HB.o.cell (p:=(aA 13 0)) (zjI _ _ ah.o)).trans ah.o));have HS:Hid (qK x ⟨#[]⟩ t=⟨#[]⟩):=Je aj ag;clear hz;go_wp2_with (first|(refine zD (by rfl) 116 _ rfl w.heap.size rfl 116 (regA x) _ HQ underlying116 rfl (by rw[Tryz.zfG,zj]) ?_)|(go_at_call 152;refine ak.o.mono ?_;rintro e w2 ⟨rfl,ae⟩;have af:=zc ae;clear ae;rw[ag])|fail)
    go_roundw
    case rel=>exact⟨j+1,by omega,by go_num,by rw[al.o,HS.o],blk HQ.o af.o,HB.o.trans (af.o.mono HB.o.size)⟩
    simp[intOf];omega
  have an:¬(t.size:Int)<=24:=by omega
  have HS:Hid (qK x ⟨#[]⟩ t=⟨#[]⟩):=YX aj hz;clear hz;go_wp2_with fail
  go_roundw
  case rel=>exact⟨j+1,by omega,by go_num,by rw[al.o,HS.o],HQ.o,HB.o⟩
  simp[intOf];omega
 have ad:jG b t=b++⟨#[44]⟩++t:=zbH ar;have qe:b.toList.isEmpty=false:=by rw[List.isEmpty_eq_false_iff];intro e;rw[ByteArray.toList_eq] at e;exact ar (ByteArray.ext (Array.ext' e))
 obtain⟨c,hc⟩:=gen (b++⟨#[44]⟩++t);rw[<-hc] at ad;have aa:=ad;have HC:=zc hc;have hs2:(⟨#[44]⟩:zj5).size=1:=rfl;have hs1:(b++(⟨#[44]⟩:zj5)).size=b.size+1:=by rw[ByteArray.size_append];rfl
 clear ad hc;have aj:=zc aa;clear aa;by_cases hz:c.size<=24
 .cases ag:(zi x c).2 with
  |true=>
   have an:(c.size:Int)<=24:=by omega
   have ak:=zc (kO x c a11 m wr HX.o (by omega) ((HB.o.cell (p:=(aA 11 0)) (zjI _ _ HG.o)).trans HG.o) ((HB.o.cell (p:=(aA 13 0)) (zjI _ _ ah.o)).trans ah.o));have HS:Hid (qK x b t=c):=Jd aj hz ag;clear hz;have av:=HC.o.symm;go_wp2_with (first|(refine zD (by rfl) 116 _ rfl w.heap.size rfl 116 (regA x) _ HQ underlying116 rfl (by rw[Tryz.zfG,zj]) ?_)|(go_at_call 152;refine ak.o.mono ?_;rintro e w2 ⟨rfl,ae⟩;have af:=zc ae;clear ae;rw[ag])|fail)
   go_roundw
   case rel=>exact⟨j+1,by omega,by go_num,by rw[al.o,HS.o],blk HQ.o af.o,HB.o.trans (af.o.mono HB.o.size)⟩
   simp[intOf];omega
  |false=>
   have an:(c.size:Int)<=24:=by omega
   have ak:=zc (kO x c a11 m wr HX.o (by omega) ((HB.o.cell (p:=(aA 11 0)) (zjI _ _ HG.o)).trans HG.o) ((HB.o.cell (p:=(aA 13 0)) (zjI _ _ ah.o)).trans ah.o));have HS:Hid (qK x b t=b):=Je aj ag;clear hz;have av:=HC.o.symm;go_wp2_with (first|(refine zD (by rfl) 116 _ rfl w.heap.size rfl 116 (regA x) _ HQ underlying116 rfl (by rw[Tryz.zfG,zj]) ?_)|(go_at_call 152;refine ak.o.mono ?_;rintro e w2 ⟨rfl,ae⟩;have af:=zc ae;clear ae;rw[ag])|fail)
   go_roundw
   case rel=>exact⟨j+1,by omega,by go_num,by rw[al.o,HS.o],blk HQ.o af.o,HB.o.trans (af.o.mono HB.o.size)⟩
   simp[intOf];omega
 have an:¬(c.size:Int)<=24:=by omega
 have HS:Hid (qK x b t=b):=YX aj hz;clear hz;have av:=HC.o.symm;go_wp2_with fail
 go_roundw
 case rel=>exact⟨j+1,by omega,by go_num,by rw[al.o,HS.o],HQ.o,HB.o⟩
 simp[intOf];omega
end
section
structure Xp (e:zl):Prop where
 f0:0<=e.m.f
 f8:e.m.f<8
 r0:0<=e.m.r
 r20:e.m.r<=20
 z:e.m.s.size<=24
structure YI (N:Nat) (s:za):Prop where
 dom:Dom s.x
 pos:0<sumTo s.x 8
 hgt:s.zfF<=12
 rnd:s.round<=20
 log:s.log.length<=N
 ahead:s.ahead.length<=N
 tims:s.tims.length<=N
 tb:s.tb<=N
 time:s.time<=1000000000000
 ids:∀e∈s.log,Xp e
 ida:∀e∈s.ahead,Xp e
 wait:s.wait.length<=5
 waitz:∀t∈s.wait,t.size<=1000
 vz:s.vv.size<=24
section
variable{P:Program}
theorem kI{ops:Array Oper}{rest:List Oper}{op:Oper}{a:Act}{w:World}{Q:Exit->Act->World->Prop}(hgd:op.guard=none)(ty:TypeId)(p y:Operand)(ho:op.op=.store ty p y)
 (g off:Nat) (D:Array Value) (hp:a.eval p=pA g off) (hy:a.eval y=.agg D) (t:TypeId) (C:Array Value) (hg:w.heap[g]? =some (.cells C t (0,0))) (hC:off+D.size<=C.size) (h1:∀v∈D.toList,v.oneCell'=true) (hi:(P.info? ty).map (·.size)=some D.size)
 (h:∀w',w'.heap[g]? =some (.cells (C.toList.take off++D.toList++C.toList.drop (off+D.size)).toArray t (0,0))->kq g w w'->wpList P ops Q rest (a.put op.dst undef) w'):wpList P ops Q (op::rest) a w:=
 wpList_plain hgd λ_ hK=>zo ty p y ho g off D hp hy t C hg hC h1 hi (λw' h1 h2=>hK _ _ (h w' h1 h2))
end
theorem zaH.at{es:List Addr}{w:World}(h:zaH es w)(k:Nat)(hk:k<12):∃a,es[k]? =some a:=by
 have hl:es.length=12:=h.len;exact⟨es[k]'(by omega),zjJ (by omega)⟩
theorem Zc(kb cb r st:Nat)(V:yc)(s:za):((nodeA kb cb V s).toList.take 43++(#[iA r,iA st,bA false,bA false,bA false,bA false,bA false]:Array Value).toList++(nodeA kb cb V s).toList.drop (43+7)).toArray=nodeA kb cb V (s.zfL r st):=by
 unfold nodeA Ql za.zfL;rfl
theorem xS(kb cb r:Nat)(V:yc)(s:za):((nodeA kb cb V s).toList.take 43++(#[iA r,iA 1,bA false,bA false,bA false,bA false,bA false]:Array Value).toList++(nodeA kb cb V s).toList.drop (43+7)).toArray=nodeA kb cb V (s.zfL r 1):=Zc kb cb r 1 V s
theorem Tryz.zhz:(prog.info? 130).map (·.size)=some 7:=by kernel_rfl
theorem Z3(s:za)(r st q:Nat):(s.zfL r st).prop q=s.prop q:=rfl
theorem jw{B:Nat}{es:List Addr}{m:Int}{F R:Nat->Prop}{nb kb rb cb n i N:Nat}{s:za}(r:Nat){w:World}(h:NodeW B es m F R nb kb rb cb n i s w)(ok:YI N s)(hN:N<=10000000)(hr:r<=20)(hsg:(s.sg i).length<=1000000000000):
 Calls prog 107 #[pA nb 0,iA r] w λen w'=>en=.returned (.tuple #[])/\∃F' R',NodeW B es m F' R' nb kb rb cb n i (s.zfH i r) w'/\Goes F R w F' R' w':=by
 obtain⟨V,hA,hf⟩:=h.node;obtain⟨a1,aG⟩:=h.glob.sent.at 1 (by omega);obtain⟨a11,aj⟩:=h.glob.sent.at 11 (by omega);obtain⟨HH,HA,HF,aa,aL,aO,ay⟩:=Qy h hA hf ok hsg aG aj;clear h hA hf ok hsg aG aj;go_enter func107,ntmps107;go_wp2_with (first|(refine kI rfl 130 _ _ rfl nb 43 #[iA r,iA 1,bA false,bA false,bA false,bA false,bA false] rfl rfl 135 (nodeA kb cb V s) HA.o.blk (by rw[kM];simp) (by simp[Value.oneCell']) Tryz.zhz ?_;intro w1 aC aE;have aM:=zc aC;have aN:=zc aE;clear aC aE)|fail)
 obtain⟨aH,aJ⟩:=HH.o.cellAt (s':=s.zfL r 1) HA HF (by rw[aM.o];exact congrArg (λz=>some (Obj.cells z 135 (0,0))) (xS kb cb r V s)) aN rfl rfl rfl rfl rfl rfl rfl;obtain⟨ao,ax⟩:=zn aH aJ;have an:NodeAt nb kb cb V (s.zfL r 1) w1:=HA.o.store (by rw[aM.o];exact congrArg (λz=>some (Obj.cells z 135 (0,0))) (xS kb cb r V s)) aN rfl rfl rfl rfl rfl rfl;obtain⟨aB,HR1⟩:=zn an an.reg;have k0:∀u:Ext w1,cE u.W nb 0 (pA kb 0):=λu=>Ext.cell (an.cell 0 rfl) u;clear aH aJ an;haveI:=Ext.ne w1;obtain⟨pr,aD⟩:=gen (s.prop r);have ar:=zc aD;clear aD;by_cases hp:pr=i
 .have aw:(pr:Int)=(i:Int):=by omega
  have q1:((pr:Int)==(i:Int))=true:=by rw[beq_iff_eq];exact aw
  have HB:Hid (s.zfH i r=(s.zfL r 1).zfI i 1 s.vr false (if s.vr<0 then blockF s.x s.wait else s.vv)):=by
   unfold Hid za.zfH;rw[<-ar.o,zj2 hp]
  clear hp;refine zP (by kernel_rfl) (by kernel_rfl) ?_;repeat(first|go_big_quiet_skip|(go_big_quiet_want;(go_big_quiet_op;first|go_big_quiet_on|(apply Exists.intro;refine⟨λu=>?_,?_⟩;(· (first|(have hc:=Calls.ext u (qn nb kb cb r V (s.zfL r 1) u.W (aB.o.below u.b) aa.o.dom aa.o.pos aa.o.hgt (by omega));rw[Z3,<-ar.o] at hc;exact hc)|exact Calls.zhq u (xX kb rb i u.W (ao.o.below u.b).key)));go_big_quiet_on))))
  refine wpQuiet_nil ?_;rintro _ ⟨u,rfl⟩;obtain⟨w2,af⟩:=gen u.W;have ae:BW w1 w2:=by rw[af];exact u.b
  rw[<-af];clear af u this k0;have au:=zc ae;have ak:=aB.o.below ae;obtain⟨az,aR,ai⟩:=zS ak ak.reg (ao.o.below ae);have k41:cE w2 nb 41 (iA s.vr):=ak.cell 41 rfl;have k42:cE w2 nb 42 (sA s.vv):=ak.cell 42 rfl;clear ae ak;by_cases hv:s.vr<0;focus
   rw[zj2 hv] at HB;obtain⟨p,c,ew,aP,aF⟩:=kV az.o.wait;have k36:cE w2 nb 36 V.wv:=az.o.cell 36 rfl;rw[ew] at k36;have k36u:∀u:Ext w2,cE u.W nb 36 (.slice p s.wait.length c):=λu=>Ext.cell k36 u;have aS:Hid (qW w2 w2.heap.size p s.wait.length λj=>sA (s.wait.getD j zj4)):=aF;clear aF aP ew k36;haveI:=Ext.ne w2;go_wp2_with fail
   refine zP (by kernel_rfl) (by kernel_rfl) ?_;repeat(first|go_big_quiet_skip|(go_big_quiet_want;first|(refine zW (some 35) rfl 116 _ rfl nb 1 rfl (yU s.x) _ (Ext.range aR) underlying116 rfl (by rw[Tryz.zfG];simp[yU]) ?_;simp only[AP];go_big_quiet_on)|(go_big_quiet_op;first|go_big_quiet_on|(apply Exists.intro;refine⟨λu=>?_,?_⟩;(· exact Calls.ext u (zch s.x s.wait p c a11 m u.W aa.o.dom ((aS.o.below u.b).more u.b.size) (by have:=aa.o.wait;omega) aa.o.waitz (((ai.o.below u.b).glob.sent).cell 11 _ _ rfl ay.o) (ai.o.below u.b).glob.len));go_big_quiet_on))))
   refine wpQuiet_nil ?_;rintro _ ⟨u,rfl⟩;obtain⟨w3,av⟩:=gen u.W;have al:BW w2 w3:=by rw[av];exact u.b
   rw[<-av];clear av u this k36u;obtain⟨aT,aQ⟩:=zn al (ai.o.below al);have k41':cE w3 nb 41 (iA s.vr):=(az.o.below al).cell 41 rfl;have aq:=zc (vQ 1 0 0 0 s.vr false (blockF s.x s.wait) a1 aQ.o aO.o (by have:=aa.o.log;show s.log.length<=_;omega) (by have:=aa.o.ahead;show s.ahead.length<=_;omega) (by have:=aL.o;show(s.sg i).length<=_;omega) (by have:=xy s.x s.wait;unfold maxLen;omega));clear al;go_wp2_with fail
   refine aq.o.mono ?_;rintro e w4 ⟨rfl,F4,R4,ag,ah⟩;have ad:Hid (∃F' R',NodeW B es m F' R' nb kb rb cb n i (s.zfH i r) w4/\Goes F R w F' R' w4):=⟨F4,R4,by rw[HB.o];exact ag,((ax.o.trans (Goes.below au)).trans (Goes.below aT)).trans ah⟩
  rotate_left;focus
   rw[zj3 hv] at HB;have aq:=zc (vQ 1 0 0 0 s.vr false s.vv a1 ai.o aO.o (by have:=aa.o.log;show s.log.length<=_;omega) (by have:=aa.o.ahead;show s.ahead.length<=_;omega) (by have:=aL.o;show(s.sg i).length<=_;omega) (by have:=aa.o.vz;unfold maxLen;omega));go_wp2_with fail
   refine aq.o.mono ?_;rintro e w4 ⟨rfl,F4,R4,ag,ah⟩;have ad:Hid (∃F' R',NodeW B es m F' R' nb kb rb cb n i (s.zfH i r) w4/\Goes F R w F' R' w4):=⟨F4,R4,by rw[HB.o];exact ag,(ax.o.trans (Goes.below au)).trans ah⟩
  rotate_left;all_goals
   clear ag ah aq;go_wp2;first|exact bodyPost_end (v:=.tuple #[]) (by simp[results,results107]) rfl ⟨rfl,ad.o⟩|exact zjT (v:=.tuple #[]) (by simp[results,results107]) rfl ⟨rfl,ad.o⟩
 have aw:¬(pr:Int)=(i:Int):=by omega
 have q1:((pr:Int)==(i:Int))=false:=by rw[zjY];exact aw
 have HB:Hid (s.zfH i r=(s.zfL r 1).timer 1 3):=by
  unfold Hid za.zfH;rw[<-ar.o,zj3 hp]
 clear hp;refine zP (by kernel_rfl) (by kernel_rfl) ?_;repeat(first|go_big_quiet_skip|(go_big_quiet_want;(go_big_quiet_op;first|go_big_quiet_on|(apply Exists.intro;refine⟨λu=>?_,?_⟩;(· (first|(have hc:=Calls.ext u (qn nb kb cb r V (s.zfL r 1) u.W (aB.o.below u.b) aa.o.dom aa.o.pos aa.o.hgt (by omega));rw[Z3,<-ar.o] at hc;exact hc)|exact Calls.zhq u (xX kb rb i u.W (ao.o.below u.b).key)));go_big_quiet_on))))
 refine wpQuiet_nil ?_;rintro _ ⟨u,rfl⟩;obtain⟨w2,af⟩:=gen u.W;have ae:BW w1 w2:=by rw[af];exact u.b
 rw[<-af];clear af u this k0;obtain⟨au,ai⟩:=zn ae (ao.o.below ae);clear ae;have aK:=zc (ju 1 3 (zj0 rfl) ai.o (by have:=aa.o.tims;show s.tims.length<=_;omega) (by have:=aa.o.tb;show s.tb<=_;omega) aa.o.time (by omega) (by show r<=_;omega));go_wp2_with fail
 refine aK.o.mono ?_;rintro e w4 ⟨rfl,F4,ag,ah⟩;have ad:Hid (∃F' R',NodeW B es m F' R' nb kb rb cb n i (s.zfH i r) w4/\Goes F R w F' R' w4):=⟨F4,R,by rw[HB.o];exact ag,(ax.o.trans (Goes.below au)).trans ah⟩;clear ag ah aK;go_wp2;first|exact bodyPost_end (v:=.tuple #[]) (by simp[results,results107]) rfl ⟨rfl,ad.o⟩|exact zjT (v:=.tuple #[]) (by simp[results,results107]) rfl ⟨rfl,ad.o⟩
end
section
variable{nb kb cb:Nat}{V:yc}{s:za}
theorem Tryz.zgs:(prog.info? 127).map (·.size)=some 2:=by kernel_rfl
def za.unlock(s:za):za:={ s with lr:= -1,lv:=⟨#[]⟩,vr:= -1,vv:=⟨#[]⟩ }
def za.zfK(s:za)(l:List zl):za:={ s.unlock with log:=l,ahead:=[] }
theorem zu(s:za)(i:Nat):s.zir i=if s.zfF=12 then(s.zfK (s.ahead.filter λe=> !s.zfJ e.m)).zfL 0 0 else(s.zfK (s.ahead.filter λe=> !s.zfJ e.m)).zfH i 0:=rfl
def zfz(v:Value)(l:List zl)(w:World)(e:Ending)(w':World):Prop:=
 ∃v',e=.returned v'/\w'.ownsRow 0 164 9 v' l.length (kQ l)/\(∀g,v'.ownBlock=some g->v.ownBlock=some g)/\zk (λk=>some k=v.ownBlock) w w'
theorem NodeAt.zik{l:List zl}{v':Value}{w w':World}(hA:NodeAt nb kb cb V s.unlock w)(hb:w'.heap[nb]? =some (.cells (nodeA kb cb { V with lv:=v',av:=.slice none 0 0 } (s.zfK l)) 135 (0,0)))
 (hown:w'.ownsRow 0 164 9 v' l.length (kQ l)) (hs:zk (λk=>k=nb\/some k=V.av.ownBlock) w w'):NodeAt nb kb cb { V with lv:=v',av:=.slice none 0 0 } (s.zfK l) w':=by
 obtain⟨n1,n2,n3,n4,n5,n6⟩:=hA.rows;refine⟨hb,hA.eds,?_,?_,?_,hown,zjZ _ _ _ _,?_,?_,(λg _ h=>by cases h),hA.awc,hA.acc⟩
 .exact zb hA.dec λg e hg=>hs.block g hg (λx=>x.elim (λx=>n1 (x▸e)) (λx=>zO hA.dec hA.ahead (by decide) g e x.symm))
 .exact λd hd=>zb (hA.cert d hd) λg e hg=>hs.block g hg (λx=>x.elim (λx=>n6 d hd (x▸e)) (λx=>zO (hA.cert d hd) hA.ahead (by decide) g e x.symm))
 .exact zb hA.wait λg e hg=>hs.block g hg (λx=>x.elim (λx=>n2 (x▸e)) (λx=>zO hA.wait hA.ahead (by decide) g e x.symm))
 .exact zb hA.tims λg e hg=>hs.block g hg (λx=>x.elim (λx=>n5 (x▸e)) (λx=>zO hA.tims hA.ahead (by decide) g e x.symm))
 obtain⟨a,b,hc⟩:=hA.chan;exact⟨a,b,(hs.block cb (qT hA.chan) (λx=>x.elim (λx=>hA.nc x.symm) (λx=>yD hA.ahead hA.chan x.symm))).trans hc⟩
theorem vJ{B:Nat}{es:List Addr}{m:Int}{F R:Nat->Prop}{rb n i N:Nat}(l:List zl){w:World}(h:NodeW B es m F R nb kb rb cb n i s w)(hA:NodeAt nb kb cb V s w)(hf:∀k,V.zgH nb cb k->F k)
 (hdel:∀(W:World) (b0:Nat),NodeAt nb kb cb V s.unlock W->W.cell? (aA b0 0)=some (pA nb 0)->Calls prog 104 #[V.av,.func (.func 105) #[] #[pA b0 0]] W (zfz V.av l W))
 (ok:YI N (s.zfK l)) (hN:N<=10000000) (hsg:(s.sg i).length<=1000000000000):
 Calls prog 54 #[pA nb 0] w λen w'=>en=.returned (.tuple #[])/\∃F' R',NodeW B es m F' R' nb kb rb cb n i (if s.zfF=12 then(s.zfK l).zfL 0 0 else(s.zfK l).zfH i 0) w'/\Goes F R w F' R' w':=by
 obtain⟨HH,HA,HF,aX,bz,bw⟩:=JQ h hA hf hdel ok hsg;have hnl:nb<w.heap.size:=zg hA.blk;have al:nb≠w.heap.size:=by omega
 have bB:Hid (V.av.ownBlock≠some w.heap.size):=λe=>by have:=(hA.ahead.lt _ e).2;omega
 obtain⟨w1,ax⟩:=gen (w.alloc (.cells #[pA nb 0] 26));have bf:BW w w1:=by rw[ax];exact bwA w
 have ba:w1.heap[w.heap.size]? =some (.cells #[pA nb 0] 26 (0,0)):=by rw[ax];exact zjC w _
 have a7:w1.heap.size=w.heap.size+1:=by rw[ax];simp
 obtain⟨br,bx,bt,bu⟩:=qO bf ba a7 ax;clear h hA hf hdel ok hsg bf ba a7 ax;go_enter func54,ntmps54;go_wp2_with fail
 rw[<-bu.o];obtain⟨w2,aO⟩:=gen (w1.alloc (.cells #[iA (-1),sA ⟨#[]⟩] 127));have bq:Hid (BW w1 w2):=by rw[aO];exact bwA w1
 have bo:Hid (w2.heap[w1.heap.size]? =some (.cells #[iA (-1),sA ⟨#[]⟩] 127 (0,0))):=by rw[aO];exact zjC w1 _
 rw[<-aO];clear aO;obtain⟨b1,aG⟩:=gen (w.heap.size+1);rw[bt.o,<-aG] at bo;rw[<-aG];have aF:nb≠b1:=by omega
 have aY:Hid (BW w w2):=br.o.trans (bq.o.mono br.o.size);have a6:=zc (HA.o.below aY);have bd:cN w2 w 0 (pA nb 0):=zjD w2 w.heap.size 0 _ _ _ (blk bx bq);have bc:cL w2 b1 #[iA (-1),sA ⟨#[]⟩] 127:=bo.o;refine rgd (S:=λW=>cN W w 0 (pA nb 0)/\cL W b1 #[iA (-1),sA ⟨#[]⟩] 127) ⟨bd,bc⟩ λhH=>?_;refine takeN [(0,some 4,pA nb 0),(1,some 5,pA nb 0),(2,some 6,.agg ([iA (-1),sA ⟨#[]⟩]).toArray),(3,some 7,.agg ([iA (-1),sA ⟨#[]⟩]).toArray),(4,some 8,pA nb 0),(5,some 9,pA nb 39)] _ _ hH (by repeat(first|exact zj7|((first|refine tkc rfl rfl (zka (by rfl) 127 _ rfl b1 0 rfl ([iA (-1),sA ⟨#[]⟩]) _ (λw h=>yG h.2) underlying127 rfl (by rw[Tryz.zgs];rfl)) ?_|(refine tkc rfl rfl (zj0 ⟨by rfl,λx h=>?_⟩) ?_;focus(have f0:cN x w 0 (pA nb 0):=h.1;go_simp;done)));simp only[AP]))) ?_;simp only[ze,AP,pA];refine zv 6 λK hK=>?_;rw[zj2 (by rfl)];refine zo 127 _ _ rfl nb 39 #[iA (-1),sA ⟨#[]⟩] rfl rfl 135 (nodeA kb cb V s) (a6.o.blk) (by rw[kM];simp) (by simp[Value.oneCell']) Tryz.zgs ?_;intro wb aB af;have aE:cL wb nb (nodeA kb cb V { s with lr:= -1,lv:=⟨#[]⟩ }) 135:=aB;refine hK.out _ _ ⟨(af.cell (p:=(nA w 0)) (λe=>al e.symm)).trans hH.1,(af.block b1 (λe=>aF e.symm)).trans hH.2⟩ λhH=>?_;clear hK K;clear aB
 try simp only[AP,AQ]
 refine yd [7,8] hH (λ_ h=>h) ?_;refine zv 9 λK hK=>?_;rw[zj2 (by rfl)];refine zo 127 _ _ rfl nb 41 #[iA (-1),sA ⟨#[]⟩] rfl rfl 135 (nodeA kb cb V { s with lr:= -1,lv:=⟨#[]⟩ }) (aE) (by rw[kM];simp) (by simp[Value.oneCell']) Tryz.zgs ?_;intro wc az ae;have ar:cL wc nb (nodeA kb cb V s.unlock) 135:=az;refine hK.out _ _ ⟨(ae.cell (p:=(nA w 0)) (λe=>al e.symm)).trans hH.1,(ae.block b1 (λe=>aF e.symm)).trans hH.2⟩ λhH=>?_;clear hK K;clear az
 try simp only[AP,AQ]
 refine dnr ?_;have ah:kq nb w2 wc:=⟨ae.os.trans af.os,ae.tape.trans af.tape,ae.output.trans af.output,ae.size.trans af.size,λk hk=>(ae.block k hk).trans (af.block k hk)⟩;have aw:Hid (NodeAt nb kb cb V s.unlock wc):=a6.o.store ar ah rfl rfl rfl rfl rfl rfl;obtain⟨bh,bk⟩:=(HH.o.below aY).cellAt (s':=s.unlock) a6 HF ar ah rfl rfl rfl rfl rfl rfl rfl;have bn:=zc bh;have bD:Hid (Goes F R w F R wc):=(Goes.below aY).trans bk;have bs:cN wc w 0 (pA nb 0):=hH.1;clear bh bk ar aE ae af ah bd bc;go_wp2_with fail
 refine rgd (S:=λW=>cN W w 0 (pA nb 0)) bs λhH=>?_;refine yd [0,1,2,3,4,6] hH (λx h=>h) ?_;have k38:cE wc.drew nb 38 V.av:=aw.o.cell 38 rfl;refine zv 5 λK hK=>?_;go_simp;refine hK.out _ _ hH λhH=>?_;clear hK K
 try simp only[AP,AQ]
 refine zv 7 λK hK=>?_;go_simp;refine(aX wc.drew w.heap.size (aw.o.frame λ_ _=>rfl) hH).mono ?_;rintro e wd ⟨v4,rfl,ag,au,an⟩;have aP:cL wd nb (nodeA kb cb V s.unlock) 135:=(an.block nb (zg aw.o.blk) (λx=>aw.o.rows.2.2.2.1 x.symm)).trans aw.o.blk;have bb:cN wd w 0 (pA nb 0):=(zjH (w:=wc) (a:=(nA w 0)) (an.block w.heap.size (QL hH) (λx=>bB x.symm))).trans hH;refine hK.out _ _ bb λhH=>?_;clear hK K
 try simp only[AP,AQ]
 refine yd [8,9] hH (λ_ h=>h) ?_;obtain⟨p4,c4,rfl⟩:=zm ag;have cfwe:cE wd nb 37 (V.lv):=zjD wd nb 37 _ _ _ aP;have fzwe:wd.frozen? (aA nb 37)=false:=zt aP 37;refine zv 10 λK hK=>?_;go_simp;obtain⟨we,ak⟩:=gen (wd.setCell (aA nb 37) (.slice p4 (l.length) c4));have ad:kq nb wd we:=by rw[ak];exact zf _ _ _ _
 have ai:=setCell_row aP 37 (.slice p4 (l.length) c4);rw[<-ak] at ai;rw[<-ak];refine hK.out _ _ ((ad.cell (p:=(nA w 0)) (λe=>al e.symm)).trans hH) λhH=>?_;clear hK K;clear ak
 try simp only[AP,AQ]
 refine yd [11,12] hH (λ_ h=>h) ?_;have cfwf:cE we nb 38 (V.av):=zjD we nb 38 _ _ _ ai;have fzwf:we.frozen? (aA nb 38)=false:=zt ai 38;refine zv 13 λK hK=>?_;go_simp;obtain⟨wf,aj⟩:=gen (we.setCell (aA nb 38) (.slice none 0 0));have aa:kq nb we wf:=by rw[aj];exact zf _ _ _ _
 have aq:=setCell_row ai 38 (.slice none 0 0);rw[<-aj] at aq;rw[<-aj];refine hK.out _ _ ((aa.cell (p:=(nA w 0)) (λe=>al e.symm)).trans hH) λhH=>?_;clear hK K;clear aj
 try simp only[AP,AQ]
 refine dnr ?_;have hjf:cN wf w 0 (pA nb 0):=hH;have ay:zk (λk=>k=nb\/some k=V.av.ownBlock) wc wf:=by
  refine⟨?_,?_,?_,?_,λk hk hn=>?_⟩
  .rw [aa.os,ad.os,an.os];rfl
  .rw [aa.tape,ad.tape,an.tape];rfl
  .rw [aa.output,ad.output,an.output];rfl
  .rw [aa.size,ad.size];exact an.size
  rw[aa.block k (λe=>hn (zj0 e)),ad.block k (λe=>hn (zj0 e))];exact an.block k hk (λe=>hn (zj1 e))
 have aR:Value.ownBlock (.slice p4 l.length c4)≠some nb:=λe=>aw.o.rows.2.2.2.1 (au nb e);have ao:wf.ownsRow 0 164 9 (.slice p4 l.length c4) l.length (kQ l):=zb ag λg e _=>(aa.block g (λx=>aR (x▸e))).trans (ad.block g (λx=>aR (x▸e)));have aT:NodeAt nb kb cb { V with lv:=.slice p4 l.length c4,av:=.slice none 0 0 } (s.zfK l) wf:=aw.o.zik aq ao ay;have aZ:=zc aT;have aS:∀k,({ V with lv:=.slice p4 l.length c4,av:=.slice none 0 0 }:yc).zgH nb cb k->F k:=λk hk=>by
  rcases hk with rfl|rfl|e|e|e|e|e|⟨d,hd,e⟩
  .exact HF _ (zj0 rfl)
  .exact HF _ (zj1 (zj0 rfl))
  .exact HF k (zj1 (zj1 (zj0 e)))
  .exact HF k (zj1 (zj1 (zj1 (zj0 e))))
  .exact HF k (zj1 (zj1 (zj1 (zj1 (zj1 (zj0 (au k e)))))))
  .cases e
  .exact HF k (zj1 (zj1 (zj1 (zj1 (zj1 (zj1 (zj0 e)))))))
  exact HF k (zj1 (zj1 (zj1 (zj1 (zj1 (zj1 (zj1 ⟨d,hd,e⟩)))))))
 have bE:=zc aS;obtain⟨bg,bj⟩:=bn.o.zgK (s':=s.zfK l) (F':=F) ⟨_,aT,aS⟩ rfl (λk hk=>zj0 hk) (λk hk=>zjE (bn.o.fl k hk).2 ay.size) { ay with block:=λk hk hn=>ay.block k hk (λx=>x.elim (λx=>hn (x▸HF nb (zj0 rfl))) (λx=>hn (HF k (zj1 (zj1 (zj1 (zj1 (zj1 (zj0 x.symm))))))))) };have bm:=zc bg;have aW:Hid (Goes F R w F R wf):=bD.o.trans bj;clear bg bj aS aT ao aR ay aq ai aP bb aa ad an au ag cfwe cfwf fzwe fzwf k38;have bC:=zc (zH nb kb cb _ (s.zfK l) wf aZ);go_wp2_with fail
 refine bC.o.mono ?_;rintro e w9 ⟨rfl,a8⟩;have aQ:=a8.symm;clear a8;subst aQ;have ehh:(s.zfK l).zfF=s.zfF:=rfl;rw[ehh];by_cases bl:s.zfF=12
 .have aM:(s.zfF:Int)=12:=by omega
  clear bl ehh;go_wp2_with (first|(refine kI rfl 130 _ _ rfl nb 43 #[iA 0,iA 0,bA false,bA false,bA false,bA false,bA false] rfl rfl 135 (nodeA kb cb { V with lv:=.slice p4 l.length c4,av:=.slice none 0 0 } (s.zfK l)) aZ.o.blk (by rw[kM];simp) (by simp[Value.oneCell']) Tryz.zhz ?_;intro w11 aC aD;have aU:=zc aC;have aV:=zc aD;clear aC aD)|fail)
  obtain⟨aJ,aL⟩:=bm.o.cellAt (s':=(s.zfK l).zfL 0 0) aZ bE (by rw[aU.o];exact congrArg (λz=>some (Obj.cells z 135 (0,0))) (Zc kb cb 0 0 _ (s.zfK l))) aV rfl rfl rfl rfl rfl rfl rfl;first|exact zjT (v:=.tuple #[]) (by simp[results,results54]) rfl ⟨rfl,F,R,aJ,aW.o.trans aL⟩|exact bodyPost_end (v:=.tuple #[]) (by simp[results,results54]) rfl ⟨rfl,F,R,aJ,aW.o.trans aL⟩
 have aM:¬(s.zfF:Int)=12:=by omega
 have q12:((s.zfF:Int)==12)=false:=by rw[zjY];exact aM
 clear bl ehh;have bp:=zc (jw 0 bm.o bz.o hN (by omega) bw.o);go_wp2_with fail
 refine bp.o.mono ?_;rintro e w12 ⟨rfl,F12,R12,aH,aK⟩;have aN:Hid (∃F' R',NodeW B es m F' R' nb kb rb cb n i ((s.zfK l).zfH i 0) w12/\Goes F R w F' R' w12):=⟨F12,R12,aH,aW.o.trans aK⟩;clear aH aK bp;go_wp2;first|exact bodyPost_end (v:=.tuple #[]) (by simp[results,results54]) rfl ⟨rfl,aN.o⟩|exact zjT (v:=.tuple #[]) (by simp[results,results54]) rfl ⟨rfl,aN.o⟩
end
theorem zbP(s:za)(t:zj5):s.zgc t=(zi s.x t).2:=rfl
theorem yY{W W1 X:World}(h:BW W W1)(h':BW W1 X):BW W X:=h.trans (h'.mono h.size)
theorem J4(r b2:Nat)(nb kb cb b1 B:Nat)(es:List Addr)(m:Int)(V:yc)(s:za)(L:List zl)(w:World)(hA:NodeAt nb kb cb V s w)(hB:B<=w.heap.size)(hg:kH B es m w)(c1:w.cell? (aA b1 0)=some (pA nb 0))(hx:Dom s.x)(hid:∀e∈s.log,0<=e.m.f/\e.m.f<8)(hz:∀e∈L,e.m.s.size<=24)(c2:w.cell? (aA b2 0)=some (iA r)):
 FitsAt 149 #[pA b1 0,pA b2 0] (λp=>s.most (votesForB 3 (r:Int) p.m.s)&&s.zgc p.m.s) L w:=by
 intro W e he hW;obtain⟨⟨kd,H,rr,f,v,nl,t⟩,fr,own⟩:=e;have htz:t.size<=24:=hz _ he;obtain⟨a11,ah⟩:=hg.sent.at 11 (by omega);show Calls prog 149 #[.agg #[iA kd,iA H,iA rr,iA f,iA v,bA nl,sA t,sA fr,bA own],pA b1 0,pA b2 0] W _;obtain⟨W1,ak⟩:=gen (W.alloc (.cells #[iA kd,iA H,iA rr,iA f,iA v,bA nl,sA t,sA fr,bA own] 164));have an:BW W W1:=by rw[ak];exact bwA W
 have al:W1.heap[W.heap.size]? =some (.cells #[iA kd,iA H,iA rr,iA f,iA v,bA nl,sA t,sA fr,bA own] 164 (0,0)):=by rw[ak];exact zjC W _
 have ad:BW w W1:=hW.trans (an.mono hW.size);have C6:Hid (cN W1 W 6 (sA t)):=zjD W1 W.heap.size 6 _ _ _ al;have C4:Hid (cN W1 W 4 (iA v)):=zjD W1 W.heap.size 4 _ _ _ al;have aB:=zc (hA.below ad);have aC:=zc (hA.below ad).reg;have ax:=zc (hg.below hB ad);have ay:Hid (B<=W1.heap.size):=zjF hB ad.size;have C43:Hid (cE W1 nb 43 (iA s.round)):=(hA.below ad).cell 43 rfl;have C1:Hid (cE W1 b1 0 (pA nb 0)):=Ext.cell c1 (Ext.of ad);have C2:Hid (cE W1 b2 0 (iA r)):=Ext.cell c2 (Ext.of ad);obtain⟨HX,aw,ao,az,av⟩:=x6 hx hid ah an ak;clear hA hg hW he hz hx hid c1 c2 an al ad ak ah hB;cases hm:s.most (votesForB 3 (r:Int) t) with
 |true=>
  go_enter func149,ntmps149;go_wp2_with fail
  rw[<-av.o];refine rgd (S:=λX=>BW W1 X) ((zjB _ W1).drew) λhH=>?_;refine zQ [(0,some 5,pA nb 0),(1,some 6,iA r),(2,some 7,pA W.heap.size 0),(3,some 8,pA W.heap.size 6),(4,some 9,sA t)] _ _ hH (λx h=>aI (show cE x b1 0 (pA nb 0) from Ext.cell C1.o (Ext.of h)) (aI (show cE x b2 0 (iA r) from Ext.cell C2.o (Ext.of h)) (show cN x W 6 (sA t) from Ext.cell C6.o (Ext.of h)))) ?_;simp only[ze,AP,pA];refine zv 5 λK hK=>?_;go_simp;refine(kj 3 (r:Int) t _).mono ?_;rintro en X2 ⟨g,lb,rfl,eg,af,aj⟩;have aa:BW W1 X2:=(zjB _ W1).drew.trans (aj.mono (zjA _));clear aj;refine hK.out _ _ aa λhH=>?_;clear hK K
  try simp only[AP,AQ]
  refine zv 6 λK hK=>?_;go_simp;have ag:=ky nb kb cb g lb (votesForB 3 (r:Int) t) V s X2 (aB.o.below aa) HX eg (af s.log) aw;rw[hm] at ag;refine ag.mono ?_;rintro en X3 ⟨rfl,ai⟩;have ae:BW W1 X3:=aa.trans (ai.mono aa.size);clear ai;refine hK.out _ _ ae λhH=>?_;clear hK K
  try simp only[AP,AQ]
  refine takeN [(7,some 12,bA true),(8,some 13,pA nb 0),(9,some 14,pA nb 0),(10,some 15,pA nb 1),(11,some 16,.agg (regA s.x)),(12,some 17,pA W.heap.size 0),(13,some 18,pA W.heap.size 6),(14,some 19,sA t)] _ _ hH (by repeat(first|exact zj7|((first|refine tkc rfl rfl (zka (by rfl) 116 _ rfl nb 1 rfl (yU s.x) _ (λw h=>Ext.range aC (Ext.of h)) underlying116 rfl (by rw[Tryz.zfG];simp[yU])) ?_|(refine tkc rfl rfl (zj0 ⟨by rfl,λx h=>?_⟩) ?_;focus(have f0:cE x b1 0 (pA nb 0):=Ext.cell C1.o (Ext.of h);have f1:cN x W 6 (sA t):=Ext.cell C6.o (Ext.of h);go_simp;done)));simp only[AP]))) ?_;simp only[ze,AP,pA];refine zv 15 λK hK=>?_;go_simp;have aq:=kO s.x t a11 m X3 HX.o (by omega) ((ax.o.below ay.o ae).sent.cell 11 _ _ rfl ao.o) (ax.o.below ay.o ae).len;refine aq.mono ?_;rintro en X4 ⟨rfl,ar⟩;have au:BW W1 X4:=ae.trans (ar.mono ae.size);clear ar aq;refine hK.out _ _ au λhH=>?_;clear hK K
  try simp only[AP,AQ]
  refine y7 [(16,some 21,bA (zi s.x t).2),(17,some 4,bA (zi s.x t).2)] _ _ hH ?_;simp only[ze,AP];refine dnr ?_;go_wp2;go_ret;exact⟨yz (by simp only[hm,zbP,Bool.true_and]),yY az.o au⟩
 |false=>
  go_enter func149,ntmps149;go_wp2_with fail
  rw[<-av.o];refine rgd (S:=λX=>BW W1 X) ((zjB _ W1).drew) λhH=>?_;refine zQ [(0,some 5,pA nb 0),(1,some 6,iA r),(2,some 7,pA W.heap.size 0),(3,some 8,pA W.heap.size 6),(4,some 9,sA t)] _ _ hH (λx h=>aI (show cE x b1 0 (pA nb 0) from Ext.cell C1.o (Ext.of h)) (aI (show cE x b2 0 (iA r) from Ext.cell C2.o (Ext.of h)) (show cN x W 6 (sA t) from Ext.cell C6.o (Ext.of h)))) ?_;simp only[ze,AP,pA];refine zv 5 λK hK=>?_;go_simp;refine(kj 3 (r:Int) t _).mono ?_;rintro en X2 ⟨g,lb,rfl,eg,af,aj⟩;have aa:BW W1 X2:=(zjB _ W1).drew.trans (aj.mono (zjA _));clear aj;refine hK.out _ _ aa λhH=>?_;clear hK K
  try simp only[AP,AQ]
  refine zv 6 λK hK=>?_;go_simp;have ag:=ky nb kb cb g lb (votesForB 3 (r:Int) t) V s X2 (aB.o.below aa) HX eg (af s.log) aw;rw[hm] at ag;refine ag.mono ?_;rintro en X3 ⟨rfl,ai⟩;have ae:BW W1 X3:=aa.trans (ai.mono aa.size);clear ai;refine hK.out _ _ ae λhH=>?_;clear hK K
  try simp only[AP,AQ]
  refine zQ [(7,some 12,bA false),(8,some 13,undef),(9,some 14,undef),(10,some 15,undef),(11,some 16,undef),(12,some 17,undef),(13,some 18,undef),(14,some 19,undef),(15,some 20,undef),(16,some 21,bA false),(17,some 4,bA false)] _ _ hH (λ_ h=>h) ?_;simp only[ze,AP];refine dnr ?_;go_wp2;go_ret;exact⟨yz (by simp only[hm,Bool.false_and]),yY az.o ae⟩
theorem zae(nb kb cb b1 B:Nat)(es:List Addr)(m:Int)(V:yc)(s:za)(L:List zl)(w:World)(hA:NodeAt nb kb cb V s w)(hB:B<=w.heap.size)(hg:kH B es m w)(c1:w.cell? (aA b1 0)=some (pA nb 0))(hx:Dom s.x)(hid:∀e∈s.log,0<=e.m.f/\e.m.f<8)(hz:∀e∈L,e.m.s.size<=24):
 FitsAt 159 #[pA b1 0] (λp=>s.most (votesForB 2 (s.round:Int) p.m.s)&&s.zgc p.m.s) L w:=by
 intro W e he hW;obtain⟨⟨kd,H,rr,f,v,nl,t⟩,fr,own⟩:=e;have htz:t.size<=24:=hz _ he;obtain⟨a11,ah⟩:=hg.sent.at 11 (by omega);show Calls prog 159 #[.agg #[iA kd,iA H,iA rr,iA f,iA v,bA nl,sA t,sA fr,bA own],pA b1 0] W _;obtain⟨W1,ak⟩:=gen (W.alloc (.cells #[iA kd,iA H,iA rr,iA f,iA v,bA nl,sA t,sA fr,bA own] 164));have an:BW W W1:=by rw[ak];exact bwA W
 have al:W1.heap[W.heap.size]? =some (.cells #[iA kd,iA H,iA rr,iA f,iA v,bA nl,sA t,sA fr,bA own] 164 (0,0)):=by rw[ak];exact zjC W _
 have af:BW w W1:=hW.trans (an.mono hW.size);have C6:Hid (cN W1 W 6 (sA t)):=zjD W1 W.heap.size 6 _ _ _ al;have C4:Hid (cN W1 W 4 (iA v)):=zjD W1 W.heap.size 4 _ _ _ al;have aB:=zc (hA.below af);have aC:=zc (hA.below af).reg;have ax:=zc (hg.below hB af);have ay:Hid (B<=W1.heap.size):=zjF hB af.size;have C43:Hid (cE W1 nb 43 (iA s.round)):=(hA.below af).cell 43 rfl;have C1:Hid (cE W1 b1 0 (pA nb 0)):=Ext.cell c1 (Ext.of af);obtain⟨HX,aw,ao,az,av⟩:=x6 hx hid ah an ak;clear hA hg hW he hz hx hid c1 an al af ak ah hB;cases hm:s.most (votesForB 2 (s.round:Int) t) with
 |true=>
  go_enter func159,ntmps159;go_wp2_with fail
  rw[<-av.o];refine rgd (S:=λX=>BW W1 X) ((zjB _ W1).drew) λhH=>?_;refine zQ [(0,some 4,pA nb 0),(1,some 5,pA nb 0),(2,some 6,pA nb 0),(3,some 7,pA nb 43),(4,some 8,pA nb 43),(5,some 9,iA s.round),(6,some 10,pA W.heap.size 0),(7,some 11,pA W.heap.size 6),(8,some 12,sA t)] _ _ hH (λx h=>aI (show cE x b1 0 (pA nb 0) from Ext.cell C1.o (Ext.of h)) (aI (show cE x nb 43 (iA s.round) from Ext.cell C43.o (Ext.of h)) (show cN x W 6 (sA t) from Ext.cell C6.o (Ext.of h)))) ?_;simp only[ze,AP,pA];refine zv 9 λK hK=>?_;go_simp;refine(kj 2 (s.round:Int) t _).mono ?_;rintro en X2 ⟨g,lb,rfl,eg,ae,aj⟩;have aa:BW W1 X2:=(zjB _ W1).drew.trans (aj.mono (zjA _));clear aj;refine hK.out _ _ aa λhH=>?_;clear hK K
  try simp only[AP,AQ]
  refine zv 10 λK hK=>?_;go_simp;have ag:=ky nb kb cb g lb (votesForB 2 (s.round:Int) t) V s X2 (aB.o.below aa) HX eg (ae s.log) aw;rw[hm] at ag;refine ag.mono ?_;rintro en X3 ⟨rfl,ai⟩;have ad:BW W1 X3:=aa.trans (ai.mono aa.size);clear ai;refine hK.out _ _ ad λhH=>?_;clear hK K
  try simp only[AP,AQ]
  refine takeN [(11,some 15,bA true),(12,some 16,pA nb 0),(13,some 17,pA nb 0),(14,some 18,pA nb 1),(15,some 19,.agg (regA s.x)),(16,some 20,pA W.heap.size 0),(17,some 21,pA W.heap.size 6),(18,some 22,sA t)] _ _ hH (by repeat(first|exact zj7|((first|refine tkc rfl rfl (zka (by rfl) 116 _ rfl nb 1 rfl (yU s.x) _ (λw h=>Ext.range aC (Ext.of h)) underlying116 rfl (by rw[Tryz.zfG];simp[yU])) ?_|(refine tkc rfl rfl (zj0 ⟨by rfl,λx h=>?_⟩) ?_;focus(have f0:cE x b1 0 (pA nb 0):=Ext.cell C1.o (Ext.of h);have f1:cN x W 6 (sA t):=Ext.cell C6.o (Ext.of h);go_simp;done)));simp only[AP]))) ?_;simp only[ze,AP,pA];refine zv 19 λK hK=>?_;go_simp;have aq:=kO s.x t a11 m X3 HX.o (by omega) ((ax.o.below ay.o ad).sent.cell 11 _ _ rfl ao.o) (ax.o.below ay.o ad).len;refine aq.mono ?_;rintro en X4 ⟨rfl,ar⟩;have au:BW W1 X4:=ad.trans (ar.mono ad.size);clear ar aq;refine hK.out _ _ au λhH=>?_;clear hK K
  try simp only[AP,AQ]
  refine y7 [(20,some 24,bA (zi s.x t).2),(21,some 3,bA (zi s.x t).2)] _ _ hH ?_;simp only[ze,AP];refine dnr ?_;go_wp2;go_ret;exact⟨yz (by simp only[hm,zbP,Bool.true_and]),yY az.o au⟩
 |false=>
  go_enter func159,ntmps159;go_wp2_with fail
  rw[<-av.o];refine rgd (S:=λX=>BW W1 X) ((zjB _ W1).drew) λhH=>?_;refine zQ [(0,some 4,pA nb 0),(1,some 5,pA nb 0),(2,some 6,pA nb 0),(3,some 7,pA nb 43),(4,some 8,pA nb 43),(5,some 9,iA s.round),(6,some 10,pA W.heap.size 0),(7,some 11,pA W.heap.size 6),(8,some 12,sA t)] _ _ hH (λx h=>aI (show cE x b1 0 (pA nb 0) from Ext.cell C1.o (Ext.of h)) (aI (show cE x nb 43 (iA s.round) from Ext.cell C43.o (Ext.of h)) (show cN x W 6 (sA t) from Ext.cell C6.o (Ext.of h)))) ?_;simp only[ze,AP,pA];refine zv 9 λK hK=>?_;go_simp;refine(kj 2 (s.round:Int) t _).mono ?_;rintro en X2 ⟨g,lb,rfl,eg,ae,aj⟩;have aa:BW W1 X2:=(zjB _ W1).drew.trans (aj.mono (zjA _));clear aj;refine hK.out _ _ aa λhH=>?_;clear hK K
  try simp only[AP,AQ]
  refine zv 10 λK hK=>?_;go_simp;have ag:=ky nb kb cb g lb (votesForB 2 (s.round:Int) t) V s X2 (aB.o.below aa) HX eg (ae s.log) aw;rw[hm] at ag;refine ag.mono ?_;rintro en X3 ⟨rfl,ai⟩;have ad:BW W1 X3:=aa.trans (ai.mono aa.size);clear ai;refine hK.out _ _ ad λhH=>?_;clear hK K
  try simp only[AP,AQ]
  refine zQ [(11,some 15,bA false),(12,some 16,undef),(13,some 17,undef),(14,some 18,undef),(15,some 19,undef),(16,some 20,undef),(17,some 21,undef),(18,some 22,undef),(19,some 23,undef),(20,some 24,bA false),(21,some 3,bA false)] _ _ hH (λ_ h=>h) ?_;simp only[ze,AP];refine dnr ?_;go_wp2;go_ret;exact⟨yz (by simp only[hm,Bool.false_and]),yY az.o ad⟩
theorem zbu(nb kb cb b1 B:Nat)(es:List Addr)(m:Int)(V:yc)(s:za)(L:List zl)(w:World)(hA:NodeAt nb kb cb V s w)(hB:B<=w.heap.size)(hg:kH B es m w)(c1:w.cell? (aA b1 0)=some (pA nb 0))(hx:Dom s.x)(hid:∀e∈s.log,0<=e.m.f/\e.m.f<8)(hz:∀e∈L,e.m.s.size<=24):
 FitsAt 158 #[pA b1 0] (λp=>decide (0<=p.m.v)&&s.most (votesForB 2 p.m.v p.m.s)) L w:=by
 intro W e he hW;obtain⟨⟨kd,H,rr,f,v,nl,t⟩,fr,own⟩:=e;have htz:t.size<=24:=hz _ he;obtain⟨a11,ad⟩:=hg.sent.at 11 (by omega);show Calls prog 158 #[.agg #[iA kd,iA H,iA rr,iA f,iA v,bA nl,sA t,sA fr,bA own],pA b1 0] W _;obtain⟨W1,af⟩:=gen (W.alloc (.cells #[iA kd,iA H,iA rr,iA f,iA v,bA nl,sA t,sA fr,bA own] 164));have ai:BW W W1:=by rw[af];exact bwA W
 have ag:W1.heap[W.heap.size]? =some (.cells #[iA kd,iA H,iA rr,iA f,iA v,bA nl,sA t,sA fr,bA own] 164 (0,0)):=by rw[af];exact zjC W _
 have aa:BW w W1:=hW.trans (ai.mono hW.size);have C6:Hid (cN W1 W 6 (sA t)):=zjD W1 W.heap.size 6 _ _ _ ag;have C4:Hid (cN W1 W 4 (iA v)):=zjD W1 W.heap.size 4 _ _ _ ag;have av:=zc (hA.below aa);have HRG:=zc (hA.below aa).reg;have HG1:=zc (hg.below hB aa);have HBL:Hid (B<=W1.heap.size):=zjF hB aa.size;have C43:Hid (cE W1 nb 43 (iA s.round)):=(hA.below aa).cell 43 rfl;have C1:Hid (cE W1 b1 0 (pA nb 0)):=Ext.cell c1 (Ext.of aa);obtain⟨HX,ar,au,ao,an⟩:=x6 hx hid ad ai af;clear hA hg hW he hz hx hid c1 ai ag aa af ad hB;by_cases hv:0<=v
 .have qv:decide (0<=v)=true:=zjQ hv;go_enter func158,ntmps158;go_wp2_with fail
  rw[<-an.o];refine rgd (S:=λX=>BW W1 X) ((zjB _ W1).drew) λhH=>?_;refine zQ [(0,some 4,pA W.heap.size 0),(1,some 5,pA W.heap.size 4),(2,some 6,iA v),(3,some 7,bA true),(4,some 8,bA true),(5,some 9,pA nb 0),(6,some 10,pA W.heap.size 0),(7,some 11,pA W.heap.size 4),(8,some 12,iA v),(9,some 13,pA W.heap.size 0),(10,some 14,pA W.heap.size 6),(11,some 15,sA t)] _ _ hH (λx h=>aI (show cN x W 4 (iA v) from Ext.cell C4.o (Ext.of h)) (aI (show cE x b1 0 (pA nb 0) from Ext.cell C1.o (Ext.of h)) (show cN x W 6 (sA t) from Ext.cell C6.o (Ext.of h)))) ?_;simp only[ze,AP,pA];refine zv 12 λK hK=>?_;go_simp;refine(kj 2 v t _).mono ?_;rintro en X2 ⟨g,lb,rfl,eg,ah,ak⟩;have ae:BW W1 X2:=(zjB _ W1).drew.trans (ak.mono (zjA _));clear ak;refine hK.out _ _ ae λhH=>?_;clear hK K
  try simp only[AP,AQ]
  refine zv 13 λK hK=>?_;go_simp;have aq:=ky nb kb cb g lb (votesForB 2 v t) V s X2 (av.o.below ae) HX eg (ah s.log) ar;refine aq.mono ?_;rintro en X3 ⟨rfl,aj⟩;have al:BW W1 X3:=ae.trans (aj.mono ae.size);clear aj;refine hK.out _ _ al λhH=>?_;clear hK K
  try simp only[AP,AQ]
  refine y7 [(14,some 18,bA (s.most (votesForB 2 v t))),(15,some 3,bA (s.most (votesForB 2 v t)))] _ _ hH ?_;simp only[ze,AP];refine dnr ?_;go_wp2;go_ret;exact⟨yz (by simp only[qv,Bool.true_and]),yY ao.o al⟩
 have qv:decide (0<=v)=false:=zjR hv;have qv2:v<0:=by omega
 go_enter func158,ntmps158;go_wp2_with fail
 rw[<-an.o];refine rgd (S:=λX=>BW W1 X) ((zjB _ W1).drew) λhH=>?_;refine zQ [(0,some 4,pA W.heap.size 0),(1,some 5,pA W.heap.size 4),(2,some 6,iA v),(3,some 7,bA false),(4,some 8,bA false),(5,some 9,undef),(6,some 10,undef),(7,some 11,undef),(8,some 12,undef),(9,some 13,undef),(10,some 14,undef),(11,some 15,undef),(12,some 16,undef),(13,some 17,undef),(14,some 18,bA false),(15,some 3,bA false)] _ _ hH (λx h=>show cN x W 4 (iA v) from Ext.cell C4.o (Ext.of h)) ?_;simp only[ze,AP,pA];refine dnr ?_;go_wp2;go_ret;exact⟨yz (by simp only[qv,Bool.false_and]),yY ao.o ((zjB _ W1).drew)⟩
theorem zbF(L:List zl)(w:World):FitsAt 157 #[] (λp=>decide (p.m.v<0)) L w:=by
 intro W e he hW;obtain⟨⟨kd,H,rr,f,v,nl,t⟩,fr,own⟩:=e;show Calls prog 157 #[.agg #[iA kd,iA H,iA rr,iA f,iA v,bA nl,sA t,sA fr,bA own]] W _;have hc:cN (W.alloc (.cells #[iA kd,iA H,iA rr,iA f,iA v,bA nl,sA t,sA fr,bA own] 164)) W 4 (iA v):=zjD _ W.heap.size 4 _ _ _ (zjC W _);clear he hW;go_enter func157,ntmps157;go_wp2;go_ret;exact⟨rfl,bwA W⟩
theorem Zg(b1:Nat)(r:Int)(L:List zl)(w:World)(c1:w.cell? (aA b1 0)=some (iA r)):FitsAt 155 #[pA b1 0] (λp=>decide (p.m.r=r)) L w:=by
 intro W e he hW;obtain⟨⟨kd,H,rr,f,v,nl,t⟩,fr,own⟩:=e;show Calls prog 155 #[.agg #[iA kd,iA H,iA rr,iA f,iA v,bA nl,sA t,sA fr,bA own],pA b1 0] W _;have hc:cN (W.alloc (.cells #[iA kd,iA H,iA rr,iA f,iA v,bA nl,sA t,sA fr,bA own] 164)) W 2 (iA rr):=zjD _ W.heap.size 2 _ _ _ (zjC W _);have hc1:cE (W.alloc (.cells #[iA kd,iA H,iA rr,iA f,iA v,bA nl,sA t,sA fr,bA own] 164)) b1 0 (iA r):=cell?_alloc_old _ (Ext.cell c1 (Ext.of hW));clear he hW c1;go_enter func155,ntmps155;go_wp2;go_ret;exact⟨yz (by first|rfl|simp),bwA W⟩

import Derived.Test.YtcfjhbcpjpgodaaGreatDoorJ23
namespace Go.Proofs.YtcfjhbcpjpgodaaGreatDoor
open Go.RowKit Proofs.Tryz
set_option maxRecDepth 100000
set_option maxHeartbeats 0
set_option linter.all false
section
variable{b t c:zgW}{x:Nat->Int}
theorem za1(h:b=⟨#[]⟩):qy b t=t:=by unfold qy;rw[zgT h]
theorem Gz(h:¬b=⟨#[]⟩):qy b t=b++⟨#[44]⟩++t:=by unfold qy;rw[zgU h]
theorem KL(hc:qy b t=c)(h1:c.size<=24)(h2:(behindR x c).2=true):kV x b t=c:=by unfold kV;rw[hc,zgT ⟨h1,h2⟩]
theorem Yh(hc:qy b t=c)(h1:¬c.size<=24):kV x b t=b:=by unfold kV;rw[hc,zgU (λh=>h1 h.1)]
theorem KM(hc:qy b t=c)(h2:(behindR x c).2=false):kV x b t=b:=by unfold kV;rw[hc,zgU (λh=>by rw[h2] at h;cases h.2)]
theorem zab(x:Nat->Int)(l:List zgW)(p:Option Addr)(cap:Nat)(a11:Addr)(m:Int)(w:World)(hx:Dom x)(hl:kG w w.heap.size p l.length (λi=>sA (l.getD i zgV)))(hm:l.length<=1000)(hz:∀t∈l,t.size<=1000)
 (hg:w.cell? (aA 11 0)=some (eA a11)) (hml:w.cell? (aA 13 0)=some (iA m)):
 Calls prog 146 #[.agg (regA x),.slice p l.length cap] w λe w'=>e=.returned (sA (yP x l))/\BW w w':=by
 obtain⟨HL,HX,HZ,HG,ag⟩:=kY hl hx hz hg hml;have av:Hid (RegAt (w.alloc (.cells (regA x) 116)) w.heap.size 116 x):=RegAt.alloc w _ x;clear hl hx hz hg hml;have hmx:(l.length:Int)<=1000:=by omega
 go_enter func146,ntmps146;go_wp2;go_loopw [5,7,8,11] (λv _ _ i wr=>∃j:Nat,j<=l.length/\i=iA j/\v=sA (yP x (l.take j))/\cL wr w.heap.size (regA x) 116/\BW w wr) (λ_ _ _ i _=>l.length-(intOf i).toNat)
 case atStart=>exact⟨0,zgv _,rfl,rfl,av,bwA w⟩
 obtain⟨j,hj,rfl,rfl,hq,hb⟩:=hrel;obtain⟨HB,HQ⟩:=ze hb hq;clear hb hq av;by_cases ah:j=l.length
 .have hge:¬(j:Int)<l.length:=by omega
  have HE:Hid (yP x (l.take j)=yP x l):=by rw[ah,zg7];exact rfl
  clear ah;rw[HE.o];go_wp2;go_ret;exact⟨rfl,HB⟩
 have an:j<l.length:=by omega
 have aw:(j:Int)<l.length:=by omega
 obtain⟨b0,o0,rfl,ay,ar⟩:=HL.o.below HB j an;obtain⟨t,ht⟩:=gen (l.getD j zgV);have ax:wr.cell? (aA b0 (o0+j))=some (sA t):=by rw[ht];exact ar
 have htz:t.size<=1000:=by
  rw[ht,zgz,zgy an];exact HZ _ (List.getElem_mem an)
 obtain⟨b,ao⟩:=gen (yP x (l.take j));have hbz:b.size<=24:=by rw[ao];exact qt x _
 have ak:Hid (yP x (l.take (j+1))=kV x b t):=by unfold Hid;rw[ZX x l j an,<-ao,<-ht]
 rw[<-ao];clear ah ar ay ht ao;by_cases aq:b=⟨#[]⟩
 .subst aq;have aa:qy ⟨#[]⟩ t=t:=za1 rfl;have ai:=zc aa;clear aa;by_cases hz:t.size<=24
  .cases af:(behindR x t).2 with
   |true=>
    have al:(t.size:Int)<=24:=by omega
    have aj:=zc (kE x t a11 m wr HX.o (by omega) ((HB.o.cell (p:=(aA 11 0)) (zgx _ _ HG.o)).trans HG.o) ((HB.o.cell (p:=(aA 13 0)) (zgx _ _ ag.o)).trans ag.o));have HS:Hid (kV x ⟨#[]⟩ t=t):=KL ai hz af;clear hz;go_wp2_with (first|(refine zE (by rfl) 116 _ rfl w.heap.size rfl 116 (regA x) _ HQ underlying116 rfl (by rw[Tryz.zc2,zg]) ?_)|(go_at_call 152;refine aj.o.mono ?_;rintro e w2 ⟨rfl,ad⟩;have ae:=zc ad;clear ad;rw[af])|fail)
    go_roundw
    case rel=>exact⟨j+1,by omega,by go_num,by rw[ak.o,HS.o],blk HQ.o ae.o,HB.o.trans (ae.o.mono HB.o.size)⟩
    simp[intOf];omega
   |false=>
    have al:(t.size:Int)<=24:=by omega
    have aj:=zc (kE x t a11 m wr HX.o (by omega) ((HB.o.cell (p:=(aA 11 0)) (zgx _ _ HG.o)).trans HG.o) ((HB.o.cell (p:=(aA 13 0)) (zgx _ _ ag.o)).trans ag.o));have HS:Hid (kV x ⟨#[]⟩ t=⟨#[]⟩):=KM ai af;clear hz;go_wp2_with (first|(refine zE (by rfl) 116 _ rfl w.heap.size rfl 116 (regA x) _ HQ underlying116 rfl (by rw[Tryz.zc2,zg]) ?_)|(go_at_call 152;refine aj.o.mono ?_;rintro e w2 ⟨rfl,ad⟩;have ae:=zc ad;clear ad;rw[af])|fail)
    go_roundw
    case rel=>exact⟨j+1,by omega,by go_num,by rw[ak.o,HS.o],blk HQ.o ae.o,HB.o.trans (ae.o.mono HB.o.size)⟩
    simp[intOf];omega
  have al:¬(t.size:Int)<=24:=by omega
  have HS:Hid (kV x ⟨#[]⟩ t=⟨#[]⟩):=Yh ai hz;clear hz;go_wp2_with fail
  go_roundw
  case rel=>exact⟨j+1,by omega,by go_num,by rw[ak.o,HS.o],HQ.o,HB.o⟩
  simp[intOf];omega
 have ab:qy b t=b++⟨#[44]⟩++t:=Gz aq;have qe:b.toList.isEmpty=false:=by rw[List.isEmpty_eq_false_iff];intro e;rw[ByteArray.toList_eq] at e;exact aq (ByteArray.ext (Array.ext' e))
 obtain⟨c,hc⟩:=gen (b++⟨#[44]⟩++t);rw[<-hc] at ab;have aa:=ab;have HC:=zc hc;have hs2:(⟨#[44]⟩:zgW).size=1:=rfl;have hs1:(b++(⟨#[44]⟩:zgW)).size=b.size+1:=by rw[ByteArray.size_append];rfl
 clear ab hc;have ai:=zc aa;clear aa;by_cases hz:c.size<=24
 .cases af:(behindR x c).2 with
  |true=>
   have al:(c.size:Int)<=24:=by omega
   have aj:=zc (kE x c a11 m wr HX.o (by omega) ((HB.o.cell (p:=(aA 11 0)) (zgx _ _ HG.o)).trans HG.o) ((HB.o.cell (p:=(aA 13 0)) (zgx _ _ ag.o)).trans ag.o));have HS:Hid (kV x b t=c):=KL ai hz af;clear hz;have au:=HC.o.symm;go_wp2_with (first|(refine zE (by rfl) 116 _ rfl w.heap.size rfl 116 (regA x) _ HQ underlying116 rfl (by rw[Tryz.zc2,zg]) ?_)|(go_at_call 152;refine aj.o.mono ?_;rintro e w2 ⟨rfl,ad⟩;have ae:=zc ad;clear ad;rw[af])|fail)
   go_roundw
   case rel=>exact⟨j+1,by omega,by go_num,by rw[ak.o,HS.o],blk HQ.o ae.o,HB.o.trans (ae.o.mono HB.o.size)⟩
   simp[intOf];omega
  |false=>
   have al:(c.size:Int)<=24:=by omega
   have aj:=zc (kE x c a11 m wr HX.o (by omega) ((HB.o.cell (p:=(aA 11 0)) (zgx _ _ HG.o)).trans HG.o) ((HB.o.cell (p:=(aA 13 0)) (zgx _ _ ag.o)).trans ag.o));have HS:Hid (kV x b t=b):=KM ai af;clear hz;have au:=HC.o.symm;go_wp2_with (first|(refine zE (by rfl) 116 _ rfl w.heap.size rfl 116 (regA x) _ HQ underlying116 rfl (by rw[Tryz.zc2,zg]) ?_)|(go_at_call 152;refine aj.o.mono ?_;rintro e w2 ⟨rfl,ad⟩;have ae:=zc ad;clear ad;rw[af])|fail)
   go_roundw
   case rel=>exact⟨j+1,by omega,by go_num,by rw[ak.o,HS.o],blk HQ.o ae.o,HB.o.trans (ae.o.mono HB.o.size)⟩
   simp[intOf];omega
 have al:¬(c.size:Int)<=24:=by omega
 have HS:Hid (kV x b t=b):=Yh ai hz;clear hz;have au:=HC.o.symm;go_wp2_with fail
 go_roundw
 case rel=>exact⟨j+1,by omega,by go_num,by rw[ak.o,HS.o],HQ.o,HB.o⟩
 simp[intOf];omega
end
section
structure Kx (e:zt):Prop where
 f0:0<=e.m.f
 f8:e.m.f<8
 r0:0<=e.m.r
 r20:e.m.r<=20
 z:e.m.s.size<=24
structure YS (N:Nat) (s:za):Prop where
 dom:Dom s.x
 pos:0<sumTo s.x 8
 hgt:s.zc1<=12
 rnd:s.round<=20
 log:s.log.length<=N
 ahead:s.ahead.length<=N
 tims:s.tims.length<=N
 tb:s.tb<=N
 time:s.time<=1000000000000
 ids:∀e∈s.log,Kx e
 ida:∀e∈s.ahead,Kx e
 wait:s.wait.length<=5
 waitz:∀t∈s.wait,t.size<=1000
 vz:s.vv.size<=24
section
variable{P:Program}
theorem kz{ops:Array Oper}{rest:List Oper}{op:Oper}{a:Act}{w:World}{Q:Exit->Act->World->Prop}(hgd:op.guard=none)(ty:TypeId)(p y:Operand)(ho:op.op=.store ty p y)
 (g off:Nat) (D:Array Value) (hp:a.eval p=pA g off) (hy:a.eval y=.agg D) (t:TypeId) (C:Array Value) (hg:w.heap[g]? =some (.cells C t (0,0))) (hC:off+D.size<=C.size) (h1:∀v∈D.toList,v.oneCell'=true) (hi:(P.info? ty).map (·.size)=some D.size)
 (h:∀w',w'.heap[g]? =some (.cells (C.toList.take off++D.toList++C.toList.drop (off+D.size)).toArray t (0,0))->ko g w w'->wpList P ops Q rest (a.put op.dst undef) w'):wpList P ops Q (op::rest) a w:=
 wpList_plain hgd λ_ hK=>zr ty p y ho g off D hp hy t C hg hC h1 hi (λw' h1 h2=>hK _ _ (h w' h1 h2))
end
theorem Xx.at{es:List Addr}{w:World}(h:Xx es w)(k:Nat)(hk:k<12):∃a,es[k]? =some a:=by
 have hl:es.length=12:=h.len;exact⟨es[k]'(by omega),zgy (by omega)⟩
theorem gw(kb cb r st:Nat)(V:yg)(s:za):((nodeA kb cb V s).toList.take 43++(#[iA r,iA st,bA false,bA false,bA false,bA false,bA false]:Array Value).toList++(nodeA kb cb V s).toList.drop (43+7)).toArray=nodeA kb cb V (s.zdh r st):=by
 unfold nodeA Kd za.zdh;rfl
theorem xv(kb cb r:Nat)(V:yg)(s:za):((nodeA kb cb V s).toList.take 43++(#[iA r,iA 1,bA false,bA false,bA false,bA false,bA false]:Array Value).toList++(nodeA kb cb V s).toList.drop (43+7)).toArray=nodeA kb cb V (s.zdh r 1):=gw kb cb r 1 V s
theorem Tryz.zeR:(prog.info? 130).map (·.size)=some 7:=by kernel_rfl
theorem Zs(s:za)(r st q:Nat):(s.zdh r st).prop q=s.prop q:=rfl
theorem qL{B:Nat}{es:List Addr}{m:Int}{F R:Nat->Prop}{nb kb rb cb n i N:Nat}{s:za}(r:Nat){w:World}(h:NodeW B es m F R nb kb rb cb n i s w)(ok:YS N s)(hN:N<=10000000)(hr:r<=20)(hsg:(s.sg i).length<=1000000000000):
 Calls prog 107 #[pA nb 0,iA r] w λen w'=>en=.returned (.tuple #[])/\∃F' R',NodeW B es m F' R' nb kb rb cb n i (s.zc9 i r) w'/\Goes F R w F' R' w':=by
 obtain⟨V,hA,hf⟩:=h.node;obtain⟨a1,aF⟩:=h.glob.sent.at 1 (by omega);obtain⟨a11,ai⟩:=h.glob.sent.at 11 (by omega);obtain⟨HH,HA,HF,aa,aK,aN,ax⟩:=Qq h hA hf ok hsg aF ai;clear h hA hf ok hsg aF ai;go_enter func107,ntmps107;go_wp2_with (first|(refine kz rfl 130 _ _ rfl nb 43 #[iA r,iA 1,bA false,bA false,bA false,bA false,bA false] rfl rfl 135 (nodeA kb cb V s) HA.o.blk (by rw[kD];simp) (by simp[Value.oneCell']) Tryz.zeR ?_;intro w1 aB aD;have aL:=zc aB;have aM:=zc aD;clear aB aD)|fail)
 obtain⟨aG,aH⟩:=HH.o.cellAt (s':=s.zdh r 1) HA HF (by rw[aL.o];exact congrArg (λz=>some (Obj.cells z 135 (0,0))) (xv kb cb r V s)) aM rfl rfl rfl rfl rfl rfl rfl;obtain⟨an,aw⟩:=ze aG aH;have al:NodeAt nb kb cb V (s.zdh r 1) w1:=HA.o.store (by rw[aL.o];exact congrArg (λz=>some (Obj.cells z 135 (0,0))) (xv kb cb r V s)) aM rfl rfl rfl rfl rfl rfl;obtain⟨az,HR1⟩:=ze al al.reg;have k0:∀u:Ext w1,cE u.W nb 0 (pA kb 0):=λu=>Ext.cell (al.cell 0 rfl) u;clear aG aH al;haveI:=Ext.ne w1;obtain⟨pr,aC⟩:=gen (s.prop r);have aq:=zc aC;clear aC;by_cases hp:pr=i
 .have av:(pr:Int)=(i:Int):=by omega
  have q1:((pr:Int)==(i:Int))=true:=by rw[beq_iff_eq];exact av
  have HB:Hid (s.zc9 i r=(s.zdh r 1).zc8 i 1 s.vr false (if s.vr<0 then yP s.x s.wait else s.vv)):=by
   unfold Hid za.zc9;rw[<-aq.o,zgT hp]
  clear hp;refine zB (by kernel_rfl) (by kernel_rfl) ?_;repeat(first|go_big_quiet_skip|(go_big_quiet_want;(go_big_quiet_op;first|go_big_quiet_on|(apply Exists.intro;refine⟨λu=>?_,?_⟩;(· (first|(have hc:=Calls.ext u (kQ nb kb cb r V (s.zdh r 1) u.W (az.o.below u.b) aa.o.dom aa.o.pos aa.o.hgt (by omega));rw[Zs,<-aq.o] at hc;exact hc)|exact Calls.zeJ u (qW kb rb i u.W (an.o.below u.b).key)));go_big_quiet_on))))
  refine wpQuiet_nil ?_;rintro _ ⟨u,rfl⟩;obtain⟨w2,ae⟩:=gen u.W;have ad:BW w1 w2:=by rw[ae];exact u.b
  rw[<-ae];clear ae u this k0;have ar:=zc ad;have aj:=az.o.below ad;obtain⟨ay,aQ,ah⟩:=zC aj aj.reg (an.o.below ad);have k41:cE w2 nb 41 (iA s.vr):=aj.cell 41 rfl;have k42:cE w2 nb 42 (sA s.vv):=aj.cell 42 rfl;clear ad aj;by_cases hv:s.vr<0;focus
   rw[zgT hv] at HB;obtain⟨p,c,ew,aO,aE⟩:=zL ay.o.wait;have k36:cE w2 nb 36 V.wv:=ay.o.cell 36 rfl;rw[ew] at k36;have k36u:∀u:Ext w2,cE u.W nb 36 (.slice p s.wait.length c):=λu=>Ext.cell k36 u;have aR:Hid (kG w2 w2.heap.size p s.wait.length λj=>sA (s.wait.getD j zgV)):=aE;clear aE aO ew k36;haveI:=Ext.ne w2;go_wp2_with fail
   refine zB (by kernel_rfl) (by kernel_rfl) ?_;repeat(first|go_big_quiet_skip|(go_big_quiet_want;first|(refine zP (some 35) rfl 116 _ rfl nb 1 rfl (yd s.x) _ (Ext.range aQ) underlying116 rfl (by rw[Tryz.zc2];simp[yd]) ?_;simp only[AP];go_big_quiet_on)|(go_big_quiet_op;first|go_big_quiet_on|(apply Exists.intro;refine⟨λu=>?_,?_⟩;(· exact Calls.ext u (zab s.x s.wait p c a11 m u.W aa.o.dom ((aR.o.below u.b).more u.b.size) (by have:=aa.o.wait;omega) aa.o.waitz (((ah.o.below u.b).glob.sent).cell 11 _ _ rfl ax.o) (ah.o.below u.b).glob.len));go_big_quiet_on))))
   refine wpQuiet_nil ?_;rintro _ ⟨u,rfl⟩;obtain⟨w3,au⟩:=gen u.W;have ak:BW w2 w3:=by rw[au];exact u.b
   rw[<-au];clear au u this k36u;obtain⟨aS,aP⟩:=ze ak (ah.o.below ak);have k41':cE w3 nb 41 (iA s.vr):=(ay.o.below ak).cell 41 rfl;have ao:=zc (vi 1 0 0 0 s.vr false (yP s.x s.wait) a1 aP.o aN.o (by have:=aa.o.log;show s.log.length<=_;omega) (by have:=aa.o.ahead;show s.ahead.length<=_;omega) (by have:=aK.o;show(s.sg i).length<=_;omega) (by have:=qt s.x s.wait;unfold maxLen;omega));clear ak;go_wp2_with fail
   refine ao.o.mono ?_;rintro e w4 ⟨rfl,F4,R4,af,ag⟩;have ab:Hid (∃F' R',NodeW B es m F' R' nb kb rb cb n i (s.zc9 i r) w4/\Goes F R w F' R' w4):=⟨F4,R4,by rw[HB.o];exact af,((aw.o.trans (Goes.below ar)).trans (Goes.below aS)).trans ag⟩
  rotate_left;focus
   rw[zgU hv] at HB;have ao:=zc (vi 1 0 0 0 s.vr false s.vv a1 ah.o aN.o (by have:=aa.o.log;show s.log.length<=_;omega) (by have:=aa.o.ahead;show s.ahead.length<=_;omega) (by have:=aK.o;show(s.sg i).length<=_;omega) (by have:=aa.o.vz;unfold maxLen;omega));go_wp2_with fail
   refine ao.o.mono ?_;rintro e w4 ⟨rfl,F4,R4,af,ag⟩;have ab:Hid (∃F' R',NodeW B es m F' R' nb kb rb cb n i (s.zc9 i r) w4/\Goes F R w F' R' w4):=⟨F4,R4,by rw[HB.o];exact af,(aw.o.trans (Goes.below ar)).trans ag⟩
  rotate_left;all_goals
   clear af ag ao;go_wp2;first|exact bodyPost_end (v:=.tuple #[]) (by simp[results,results107]) rfl ⟨rfl,ab.o⟩|exact zgJ (v:=.tuple #[]) (by simp[results,results107]) rfl ⟨rfl,ab.o⟩
 have av:¬(pr:Int)=(i:Int):=by omega
 have q1:((pr:Int)==(i:Int))=false:=by rw[zgP];exact av
 have HB:Hid (s.zc9 i r=(s.zdh r 1).timer 1 3):=by
  unfold Hid za.zc9;rw[<-aq.o,zgU hp]
 clear hp;refine zB (by kernel_rfl) (by kernel_rfl) ?_;repeat(first|go_big_quiet_skip|(go_big_quiet_want;(go_big_quiet_op;first|go_big_quiet_on|(apply Exists.intro;refine⟨λu=>?_,?_⟩;(· (first|(have hc:=Calls.ext u (kQ nb kb cb r V (s.zdh r 1) u.W (az.o.below u.b) aa.o.dom aa.o.pos aa.o.hgt (by omega));rw[Zs,<-aq.o] at hc;exact hc)|exact Calls.zeJ u (qW kb rb i u.W (an.o.below u.b).key)));go_big_quiet_on))))
 refine wpQuiet_nil ?_;rintro _ ⟨u,rfl⟩;obtain⟨w2,ae⟩:=gen u.W;have ad:BW w1 w2:=by rw[ae];exact u.b
 rw[<-ae];clear ae u this k0;obtain⟨ar,ah⟩:=ze ad (an.o.below ad);clear ad;have aJ:=zc (qK 1 3 (zgR rfl) ah.o (by have:=aa.o.tims;show s.tims.length<=_;omega) (by have:=aa.o.tb;show s.tb<=_;omega) aa.o.time (by omega) (by show r<=_;omega));go_wp2_with fail
 refine aJ.o.mono ?_;rintro e w4 ⟨rfl,F4,af,ag⟩;have ab:Hid (∃F' R',NodeW B es m F' R' nb kb rb cb n i (s.zc9 i r) w4/\Goes F R w F' R' w4):=⟨F4,R,by rw[HB.o];exact af,(aw.o.trans (Goes.below ar)).trans ag⟩;clear af ag aJ;go_wp2;first|exact bodyPost_end (v:=.tuple #[]) (by simp[results,results107]) rfl ⟨rfl,ab.o⟩|exact zgJ (v:=.tuple #[]) (by simp[results,results107]) rfl ⟨rfl,ab.o⟩
end
section
variable{nb kb cb:Nat}{V:yg}{s:za}
theorem Tryz.zdJ:(prog.info? 127).map (·.size)=some 2:=by kernel_rfl
def za.unlock(s:za):za:={ s with lr:= -1,lv:=⟨#[]⟩,vr:= -1,vv:=⟨#[]⟩ }
def za.zdb(s:za)(l:List zt):za:={ s.unlock with log:=l,ahead:=[] }
theorem kM(s:za)(i:Nat):s.zd5 i=if s.zc1=12 then(s.zdb (s.ahead.filter λe=> !s.zc7 e.m)).zdh 0 0 else(s.zdb (s.ahead.filter λe=> !s.zc7 e.m)).zc9 i 0:=rfl
def zcZ(v:Value)(l:List zt)(w:World)(e:Ending)(w':World):Prop:=
 ∃v',e=.returned v'/\w'.ownsRow 0 164 9 v' l.length (kF l)/\(∀g,v'.ownBlock=some g->v.ownBlock=some g)/\zm (λk=>some k=v.ownBlock) w w'
theorem NodeAt.zfy{l:List zt}{v':Value}{w w':World}(hA:NodeAt nb kb cb V s.unlock w)(hb:w'.heap[nb]? =some (.cells (nodeA kb cb { V with lv:=v',av:=.slice none 0 0 } (s.zdb l)) 135 (0,0)))
 (hown:w'.ownsRow 0 164 9 v' l.length (kF l)) (hs:zm (λk=>k=nb\/some k=V.av.ownBlock) w w'):NodeAt nb kb cb { V with lv:=v',av:=.slice none 0 0 } (s.zdb l) w':=by
 obtain⟨n1,n2,n3,n4,n5,n6⟩:=hA.rows;refine⟨hb,hA.eds,?_,?_,?_,hown,zgQ _ _ _ _,?_,?_,(λg _ h=>by cases h),hA.awc,hA.acc⟩
 .exact zb hA.dec λg e hg=>hs.block g hg (λx=>x.elim (λx=>n1 (x▸e)) (λx=>zT hA.dec hA.ahead (by decide) g e x.symm))
 .exact λd hd=>zb (hA.cert d hd) λg e hg=>hs.block g hg (λx=>x.elim (λx=>n6 d hd (x▸e)) (λx=>zT (hA.cert d hd) hA.ahead (by decide) g e x.symm))
 .exact zb hA.wait λg e hg=>hs.block g hg (λx=>x.elim (λx=>n2 (x▸e)) (λx=>zT hA.wait hA.ahead (by decide) g e x.symm))
 .exact zb hA.tims λg e hg=>hs.block g hg (λx=>x.elim (λx=>n5 (x▸e)) (λx=>zT hA.tims hA.ahead (by decide) g e x.symm))
 obtain⟨a,b,hc⟩:=hA.chan;exact⟨a,b,(hs.block cb (qq hA.chan) (λx=>x.elim (λx=>hA.nc x.symm) (λx=>yF hA.ahead hA.chan x.symm))).trans hc⟩
theorem jW{B:Nat}{es:List Addr}{m:Int}{F R:Nat->Prop}{rb n i N:Nat}(l:List zt){w:World}(h:NodeW B es m F R nb kb rb cb n i s w)(hA:NodeAt nb kb cb V s w)(hf:∀k,V.zd4 nb cb k->F k)
 (hdel:∀(W:World) (b0:Nat),NodeAt nb kb cb V s.unlock W->W.cell? (aA b0 0)=some (pA nb 0)->Calls prog 104 #[V.av,.func (.func 105) #[] #[pA b0 0]] W (zcZ V.av l W))
 (ok:YS N (s.zdb l)) (hN:N<=10000000) (hsg:(s.sg i).length<=1000000000000):
 Calls prog 54 #[pA nb 0] w λen w'=>en=.returned (.tuple #[])/\∃F' R',NodeW B es m F' R' nb kb rb cb n i (if s.zc1=12 then(s.zdb l).zdh 0 0 else(s.zdb l).zc9 i 0) w'/\Goes F R w F' R' w':=by
 obtain⟨HH,HA,HF,aW,bx,bu⟩:=xz h hA hf hdel ok hsg;have hnl:nb<w.heap.size:=zj hA.blk;have ak:nb≠w.heap.size:=by omega
 have bz:Hid (V.av.ownBlock≠some w.heap.size):=λe=>by have:=(hA.ahead.lt _ e).2;omega
 obtain⟨w1,aw⟩:=gen (w.alloc (.cells #[pA nb 0] 26));have bc:BW w w1:=by rw[aw];exact bwA w
 have a7:w1.heap[w.heap.size]? =some (.cells #[pA nb 0] 26 (0,0)):=by rw[aw];exact zgr w _
 have a1:w1.heap.size=w.heap.size+1:=by rw[aw];simp
 obtain⟨bq,bw,bs,bt⟩:=yi bc a7 a1 aw;clear h hA hf hdel ok hsg bc a7 a1 aw;go_enter func54,ntmps54;go_wp2_with fail
 rw[<-bt.o];obtain⟨w2,aN⟩:=gen (w1.alloc (.cells #[iA (-1),sA ⟨#[]⟩] 127));have bp:Hid (BW w1 w2):=by rw[aN];exact bwA w1
 have bn:Hid (w2.heap[w1.heap.size]? =some (.cells #[iA (-1),sA ⟨#[]⟩] 127 (0,0))):=by rw[aN];exact zgr w1 _
 rw[<-aN];clear aN;obtain⟨b1,aF⟩:=gen (w.heap.size+1);rw[bs.o,<-aF] at bn;rw[<-aF];have aE:nb≠b1:=by omega
 have aX:Hid (BW w w2):=bq.o.trans (bp.o.mono bq.o.size);have aZ:=zc (HA.o.below aX);have bb:cN w2 w 0 (pA nb 0):=zgs w2 w.heap.size 0 _ _ _ (blk bw bp);have ba:cL w2 b1 #[iA (-1),sA ⟨#[]⟩] 127:=bn.o;refine rgd (S:=λW=>cN W w 0 (pA nb 0)/\cL W b1 #[iA (-1),sA ⟨#[]⟩] 127) ⟨bb,ba⟩ λhH=>?_;refine takeN [(0,some 4,pA nb 0),(1,some 5,pA nb 0),(2,some 6,.agg ([iA (-1),sA ⟨#[]⟩]).toArray),(3,some 7,.agg ([iA (-1),sA ⟨#[]⟩]).toArray),(4,some 8,pA nb 0),(5,some 9,pA nb 39)] _ _ hH (by repeat(first|exact zgY|((first|refine tkc rfl rfl (zg3 (by rfl) 127 _ rfl b1 0 rfl ([iA (-1),sA ⟨#[]⟩]) _ (λw h=>yQ h.2) underlying127 rfl (by rw[Tryz.zdJ];rfl)) ?_|(refine tkc rfl rfl (zgR ⟨by rfl,λx h=>?_⟩) ?_;focus(have f0:cN x w 0 (pA nb 0):=h.1;go_simp;done)));simp only[AP]))) ?_;simp only[zh,AP,pA];refine zp 6 λK hK=>?_;rw[zgT (by rfl)];refine zr 127 _ _ rfl nb 39 #[iA (-1),sA ⟨#[]⟩] rfl rfl 135 (nodeA kb cb V s) (aZ.o.blk) (by rw[kD];simp) (by simp[Value.oneCell']) Tryz.zdJ ?_;intro wb az ae;have aD:cL wb nb (nodeA kb cb V { s with lr:= -1,lv:=⟨#[]⟩ }) 135:=az;refine hK.out _ _ ⟨(ae.cell (p:=(nA w 0)) (λe=>ak e.symm)).trans hH.1,(ae.block b1 (λe=>aE e.symm)).trans hH.2⟩ λhH=>?_;clear hK K;clear az
 try simp only[AP,AQ]
 refine zx [7,8] hH (λ_ h=>h) ?_;refine zp 9 λK hK=>?_;rw[zgT (by rfl)];refine zr 127 _ _ rfl nb 41 #[iA (-1),sA ⟨#[]⟩] rfl rfl 135 (nodeA kb cb V { s with lr:= -1,lv:=⟨#[]⟩ }) (aD) (by rw[kD];simp) (by simp[Value.oneCell']) Tryz.zdJ ?_;intro wc ay ad;have aq:cL wc nb (nodeA kb cb V s.unlock) 135:=ay;refine hK.out _ _ ⟨(ad.cell (p:=(nA w 0)) (λe=>ak e.symm)).trans hH.1,(ad.block b1 (λe=>aE e.symm)).trans hH.2⟩ λhH=>?_;clear hK K;clear ay
 try simp only[AP,AQ]
 refine dnr ?_;have ag:ko nb w2 wc:=⟨ad.os.trans ae.os,ad.tape.trans ae.tape,ad.output.trans ae.output,ad.size.trans ae.size,λk hk=>(ad.block k hk).trans (ae.block k hk)⟩;have au:Hid (NodeAt nb kb cb V s.unlock wc):=aZ.o.store aq ag rfl rfl rfl rfl rfl rfl;obtain⟨bf,bh⟩:=(HH.o.below aX).cellAt (s':=s.unlock) aZ HF aq ag rfl rfl rfl rfl rfl rfl rfl;have bm:=zc bf;have bC:Hid (Goes F R w F R wc):=(Goes.below aX).trans bh;have br:cN wc w 0 (pA nb 0):=hH.1;clear bf bh aq aD ad ae ag bb ba;go_wp2_with fail
 refine rgd (S:=λW=>cN W w 0 (pA nb 0)) br λhH=>?_;refine zx [0,1,2,3,4,6] hH (λx h=>h) ?_;have k38:cE wc.drew nb 38 V.av:=au.o.cell 38 rfl;refine zp 5 λK hK=>?_;go_simp;refine hK.out _ _ hH λhH=>?_;clear hK K
 try simp only[AP,AQ]
 refine zp 7 λK hK=>?_;go_simp;refine(aW wc.drew w.heap.size (au.o.frame λ_ _=>rfl) hH).mono ?_;rintro e wd ⟨v4,rfl,af,ar,al⟩;have aO:cL wd nb (nodeA kb cb V s.unlock) 135:=(al.block nb (zj au.o.blk) (λx=>au.o.rows.2.2.2.1 x.symm)).trans au.o.blk;have a8:cN wd w 0 (pA nb 0):=(zgw (w:=wc) (a:=(nA w 0)) (al.block w.heap.size (Kp hH) (λx=>bz x.symm))).trans hH;refine hK.out _ _ a8 λhH=>?_;clear hK K
 try simp only[AP,AQ]
 refine zx [8,9] hH (λ_ h=>h) ?_;obtain⟨p4,c4,rfl⟩:=zl af;have cfwe:cE wd nb 37 (V.lv):=zgs wd nb 37 _ _ _ aO;have fzwe:wd.frozen? (aA nb 37)=false:=zq aO 37;refine zp 10 λK hK=>?_;go_simp;obtain⟨we,aj⟩:=gen (wd.setCell (aA nb 37) (.slice p4 (l.length) c4));have ab:ko nb wd we:=by rw[aj];exact zd _ _ _ _
 have ah:=setCell_row aO 37 (.slice p4 (l.length) c4);rw[<-aj] at ah;rw[<-aj];refine hK.out _ _ ((ab.cell (p:=(nA w 0)) (λe=>ak e.symm)).trans hH) λhH=>?_;clear hK K;clear aj
 try simp only[AP,AQ]
 refine zx [11,12] hH (λ_ h=>h) ?_;have cfwf:cE we nb 38 (V.av):=zgs we nb 38 _ _ _ ah;have fzwf:we.frozen? (aA nb 38)=false:=zq ah 38;refine zp 13 λK hK=>?_;go_simp;obtain⟨wf,ai⟩:=gen (we.setCell (aA nb 38) (.slice none 0 0));have aa:ko nb we wf:=by rw[ai];exact zd _ _ _ _
 have ao:=setCell_row ah 38 (.slice none 0 0);rw[<-ai] at ao;rw[<-ai];refine hK.out _ _ ((aa.cell (p:=(nA w 0)) (λe=>ak e.symm)).trans hH) λhH=>?_;clear hK K;clear ai
 try simp only[AP,AQ]
 refine dnr ?_;have hjf:cN wf w 0 (pA nb 0):=hH;have ax:zm (λk=>k=nb\/some k=V.av.ownBlock) wc wf:=by
  refine⟨?_,?_,?_,?_,λk hk hn=>?_⟩
  .rw [aa.os,ab.os,al.os];rfl
  .rw [aa.tape,ab.tape,al.tape];rfl
  .rw [aa.output,ab.output,al.output];rfl
  .rw [aa.size,ab.size];exact al.size
  rw[aa.block k (λe=>hn (zgR e)),ab.block k (λe=>hn (zgR e))];exact al.block k hk (λe=>hn (zgS e))
 have aQ:Value.ownBlock (.slice p4 l.length c4)≠some nb:=λe=>au.o.rows.2.2.2.1 (ar nb e);have an:wf.ownsRow 0 164 9 (.slice p4 l.length c4) l.length (kF l):=zb af λg e _=>(aa.block g (λx=>aQ (x▸e))).trans (ab.block g (λx=>aQ (x▸e)));have aS:NodeAt nb kb cb { V with lv:=.slice p4 l.length c4,av:=.slice none 0 0 } (s.zdb l) wf:=au.o.zfy ao an ax;have aY:=zc aS;have aR:∀k,({ V with lv:=.slice p4 l.length c4,av:=.slice none 0 0 }:yg).zd4 nb cb k->F k:=λk hk=>by
  rcases hk with rfl|rfl|e|e|e|e|e|⟨d,hd,e⟩
  .exact HF _ (zgR rfl)
  .exact HF _ (zgS (zgR rfl))
  .exact HF k (zgS (zgS (zgR e)))
  .exact HF k (zgS (zgS (zgS (zgR e))))
  .exact HF k (zgS (zgS (zgS (zgS (zgS (zgR (ar k e)))))))
  .cases e
  .exact HF k (zgS (zgS (zgS (zgS (zgS (zgS (zgR e)))))))
  exact HF k (zgS (zgS (zgS (zgS (zgS (zgS (zgS ⟨d,hd,e⟩)))))))
 have bD:=zc aR;obtain⟨bd,bg⟩:=bm.o.zeb (s':=s.zdb l) (F':=F) ⟨_,aS,aR⟩ rfl (λk hk=>zgR hk) (λk hk=>zgt (bm.o.fl k hk).2 ax.size) { ax with block:=λk hk hn=>ax.block k hk (λx=>x.elim (λx=>hn (x▸HF nb (zgR rfl))) (λx=>hn (HF k (zgS (zgS (zgS (zgS (zgS (zgR x.symm))))))))) };have bl:=zc bd;have aV:Hid (Goes F R w F R wf):=bC.o.trans bg;clear bd bg aR aS an aQ ax ao ah aO a8 aa ab al ar af cfwe cfwf fzwe fzwf k38;have bB:=zc (zI nb kb cb _ (s.zdb l) wf aY);go_wp2_with fail
 refine bB.o.mono ?_;rintro e w9 ⟨rfl,a6⟩;have aP:=a6.symm;clear a6;subst aP;have ehh:(s.zdb l).zc1=s.zc1:=rfl;rw[ehh];by_cases bj:s.zc1=12
 .have aL:(s.zc1:Int)=12:=by omega
  clear bj ehh;go_wp2_with (first|(refine kz rfl 130 _ _ rfl nb 43 #[iA 0,iA 0,bA false,bA false,bA false,bA false,bA false] rfl rfl 135 (nodeA kb cb { V with lv:=.slice p4 l.length c4,av:=.slice none 0 0 } (s.zdb l)) aY.o.blk (by rw[kD];simp) (by simp[Value.oneCell']) Tryz.zeR ?_;intro w11 aB aC;have aT:=zc aB;have aU:=zc aC;clear aB aC)|fail)
  obtain⟨aH,aK⟩:=bl.o.cellAt (s':=(s.zdb l).zdh 0 0) aY bD (by rw[aT.o];exact congrArg (λz=>some (Obj.cells z 135 (0,0))) (gw kb cb 0 0 _ (s.zdb l))) aU rfl rfl rfl rfl rfl rfl rfl;first|exact zgJ (v:=.tuple #[]) (by simp[results,results54]) rfl ⟨rfl,F,R,aH,aV.o.trans aK⟩|exact bodyPost_end (v:=.tuple #[]) (by simp[results,results54]) rfl ⟨rfl,F,R,aH,aV.o.trans aK⟩
 have aL:¬(s.zc1:Int)=12:=by omega
 have q12:((s.zc1:Int)==12)=false:=by rw[zgP];exact aL
 clear bj ehh;have bo:=zc (qL 0 bl.o bx.o hN (by omega) bu.o);go_wp2_with fail
 refine bo.o.mono ?_;rintro e w12 ⟨rfl,F12,R12,aG,aJ⟩;have aM:Hid (∃F' R',NodeW B es m F' R' nb kb rb cb n i ((s.zdb l).zc9 i 0) w12/\Goes F R w F' R' w12):=⟨F12,R12,aG,aV.o.trans aJ⟩;clear aG aJ bo;go_wp2;first|exact bodyPost_end (v:=.tuple #[]) (by simp[results,results54]) rfl ⟨rfl,aM.o⟩|exact zgJ (v:=.tuple #[]) (by simp[results,results54]) rfl ⟨rfl,aM.o⟩
end
theorem GL(s:za)(t:zgW):s.zdK t=(behindR s.x t).2:=rfl
theorem yV{W W1 X:World}(h:BW W W1)(h':BW W1 X):BW W X:=h.trans (h'.mono h.size)
theorem Qz(r b2:Nat)(nb kb cb b1 B:Nat)(es:List Addr)(m:Int)(V:yg)(s:za)(L:List zt)(w:World)(hA:NodeAt nb kb cb V s w)(hB:B<=w.heap.size)(hg:qw B es m w)(c1:w.cell? (aA b1 0)=some (pA nb 0))(hx:Dom s.x)(hid:∀e∈s.log,0<=e.m.f/\e.m.f<8)(hz:∀e∈L,e.m.s.size<=24)(c2:w.cell? (aA b2 0)=some (iA r)):
 FitsAt 149 #[pA b1 0,pA b2 0] (λp=>s.most (votesForB 3 (r:Int) p.m.s)&&s.zdK p.m.s) L w:=by
 intro W e he hW;obtain⟨⟨kd,H,rr,f,v,nl,t⟩,fr,own⟩:=e;have htz:t.size<=24:=hz _ he;obtain⟨a11,ag⟩:=hg.sent.at 11 (by omega);show Calls prog 149 #[.agg #[iA kd,iA H,iA rr,iA f,iA v,bA nl,sA t,sA fr,bA own],pA b1 0,pA b2 0] W _;obtain⟨W1,aj⟩:=gen (W.alloc (.cells #[iA kd,iA H,iA rr,iA f,iA v,bA nl,sA t,sA fr,bA own] 164));have al:BW W W1:=by rw[aj];exact bwA W
 have ak:W1.heap[W.heap.size]? =some (.cells #[iA kd,iA H,iA rr,iA f,iA v,bA nl,sA t,sA fr,bA own] 164 (0,0)):=by rw[aj];exact zgr W _
 have ab:BW w W1:=hW.trans (al.mono hW.size);have C6:Hid (cN W1 W 6 (sA t)):=zgs W1 W.heap.size 6 _ _ _ ak;have C4:Hid (cN W1 W 4 (iA v)):=zgs W1 W.heap.size 4 _ _ _ ak;have az:=zc (hA.below ab);have aB:=zc (hA.below ab).reg;have aw:=zc (hg.below hB ab);have ax:Hid (B<=W1.heap.size):=zgu hB ab.size;have C43:Hid (cE W1 nb 43 (iA s.round)):=(hA.below ab).cell 43 rfl;have C1:Hid (cE W1 b1 0 (pA nb 0)):=Ext.cell c1 (Ext.of ab);have C2:Hid (cE W1 b2 0 (iA r)):=Ext.cell c2 (Ext.of ab);obtain⟨HX,av,an,ay,au⟩:=kY hx hid ag al aj;clear hA hg hW he hz hx hid c1 c2 al ak ab aj ag hB;cases hm:s.most (votesForB 3 (r:Int) t) with
 |true=>
  go_enter func149,ntmps149;go_wp2_with fail
  rw[<-au.o];refine rgd (S:=λX=>BW W1 X) ((zgq _ W1).drew) λhH=>?_;refine zZ [(0,some 5,pA nb 0),(1,some 6,iA r),(2,some 7,pA W.heap.size 0),(3,some 8,pA W.heap.size 6),(4,some 9,sA t)] _ _ hH (λx h=>aI (show cE x b1 0 (pA nb 0) from Ext.cell C1.o (Ext.of h)) (aI (show cE x b2 0 (iA r) from Ext.cell C2.o (Ext.of h)) (show cN x W 6 (sA t) from Ext.cell C6.o (Ext.of h)))) ?_;simp only[zh,AP,pA];refine zp 5 λK hK=>?_;go_simp;refine(yY 3 (r:Int) t _).mono ?_;rintro en X2 ⟨g,lb,rfl,eg,ae,ai⟩;have aa:BW W1 X2:=(zgq _ W1).drew.trans (ai.mono (zgp _));clear ai;refine hK.out _ _ aa λhH=>?_;clear hK K
  try simp only[AP,AQ]
  refine zp 6 λK hK=>?_;go_simp;have af:=ki nb kb cb g lb (votesForB 3 (r:Int) t) V s X2 (az.o.below aa) HX eg (ae s.log) av;rw[hm] at af;refine af.mono ?_;rintro en X3 ⟨rfl,ah⟩;have ad:BW W1 X3:=aa.trans (ah.mono aa.size);clear ah;refine hK.out _ _ ad λhH=>?_;clear hK K
  try simp only[AP,AQ]
  refine takeN [(7,some 12,bA true),(8,some 13,pA nb 0),(9,some 14,pA nb 0),(10,some 15,pA nb 1),(11,some 16,.agg (regA s.x)),(12,some 17,pA W.heap.size 0),(13,some 18,pA W.heap.size 6),(14,some 19,sA t)] _ _ hH (by repeat(first|exact zgY|((first|refine tkc rfl rfl (zg3 (by rfl) 116 _ rfl nb 1 rfl (yd s.x) _ (λw h=>Ext.range aB (Ext.of h)) underlying116 rfl (by rw[Tryz.zc2];simp[yd])) ?_|(refine tkc rfl rfl (zgR ⟨by rfl,λx h=>?_⟩) ?_;focus(have f0:cE x b1 0 (pA nb 0):=Ext.cell C1.o (Ext.of h);have f1:cN x W 6 (sA t):=Ext.cell C6.o (Ext.of h);go_simp;done)));simp only[AP]))) ?_;simp only[zh,AP,pA];refine zp 15 λK hK=>?_;go_simp;have ao:=kE s.x t a11 m X3 HX.o (by omega) ((aw.o.below ax.o ad).sent.cell 11 _ _ rfl an.o) (aw.o.below ax.o ad).len;refine ao.mono ?_;rintro en X4 ⟨rfl,aq⟩;have ar:BW W1 X4:=ad.trans (aq.mono ad.size);clear aq ao;refine hK.out _ _ ar λhH=>?_;clear hK K
  try simp only[AP,AQ]
  refine y8 [(16,some 21,bA (behindR s.x t).2),(17,some 4,bA (behindR s.x t).2)] _ _ hH ?_;simp only[zh,AP];refine dnr ?_;go_wp2;go_ret;exact⟨zS (by simp only[hm,GL,Bool.true_and]),yV ay.o ar⟩
 |false=>
  go_enter func149,ntmps149;go_wp2_with fail
  rw[<-au.o];refine rgd (S:=λX=>BW W1 X) ((zgq _ W1).drew) λhH=>?_;refine zZ [(0,some 5,pA nb 0),(1,some 6,iA r),(2,some 7,pA W.heap.size 0),(3,some 8,pA W.heap.size 6),(4,some 9,sA t)] _ _ hH (λx h=>aI (show cE x b1 0 (pA nb 0) from Ext.cell C1.o (Ext.of h)) (aI (show cE x b2 0 (iA r) from Ext.cell C2.o (Ext.of h)) (show cN x W 6 (sA t) from Ext.cell C6.o (Ext.of h)))) ?_;simp only[zh,AP,pA];refine zp 5 λK hK=>?_;go_simp;refine(yY 3 (r:Int) t _).mono ?_;rintro en X2 ⟨g,lb,rfl,eg,ae,ai⟩;have aa:BW W1 X2:=(zgq _ W1).drew.trans (ai.mono (zgp _));clear ai;refine hK.out _ _ aa λhH=>?_;clear hK K
  try simp only[AP,AQ]
  refine zp 6 λK hK=>?_;go_simp;have af:=ki nb kb cb g lb (votesForB 3 (r:Int) t) V s X2 (az.o.below aa) HX eg (ae s.log) av;rw[hm] at af;refine af.mono ?_;rintro en X3 ⟨rfl,ah⟩;have ad:BW W1 X3:=aa.trans (ah.mono aa.size);clear ah;refine hK.out _ _ ad λhH=>?_;clear hK K
  try simp only[AP,AQ]
  refine zZ [(7,some 12,bA false),(8,some 13,undef),(9,some 14,undef),(10,some 15,undef),(11,some 16,undef),(12,some 17,undef),(13,some 18,undef),(14,some 19,undef),(15,some 20,undef),(16,some 21,bA false),(17,some 4,bA false)] _ _ hH (λ_ h=>h) ?_;simp only[zh,AP];refine dnr ?_;go_wp2;go_ret;exact⟨zS (by simp only[hm,Bool.false_and]),yV ay.o ad⟩
theorem Xa(nb kb cb b1 B:Nat)(es:List Addr)(m:Int)(V:yg)(s:za)(L:List zt)(w:World)(hA:NodeAt nb kb cb V s w)(hB:B<=w.heap.size)(hg:qw B es m w)(c1:w.cell? (aA b1 0)=some (pA nb 0))(hx:Dom s.x)(hid:∀e∈s.log,0<=e.m.f/\e.m.f<8)(hz:∀e∈L,e.m.s.size<=24):
 FitsAt 159 #[pA b1 0] (λp=>s.most (votesForB 2 (s.round:Int) p.m.s)&&s.zdK p.m.s) L w:=by
 intro W e he hW;obtain⟨⟨kd,H,rr,f,v,nl,t⟩,fr,own⟩:=e;have htz:t.size<=24:=hz _ he;obtain⟨a11,ag⟩:=hg.sent.at 11 (by omega);show Calls prog 159 #[.agg #[iA kd,iA H,iA rr,iA f,iA v,bA nl,sA t,sA fr,bA own],pA b1 0] W _;obtain⟨W1,aj⟩:=gen (W.alloc (.cells #[iA kd,iA H,iA rr,iA f,iA v,bA nl,sA t,sA fr,bA own] 164));have al:BW W W1:=by rw[aj];exact bwA W
 have ak:W1.heap[W.heap.size]? =some (.cells #[iA kd,iA H,iA rr,iA f,iA v,bA nl,sA t,sA fr,bA own] 164 (0,0)):=by rw[aj];exact zgr W _
 have ae:BW w W1:=hW.trans (al.mono hW.size);have C6:Hid (cN W1 W 6 (sA t)):=zgs W1 W.heap.size 6 _ _ _ ak;have C4:Hid (cN W1 W 4 (iA v)):=zgs W1 W.heap.size 4 _ _ _ ak;have az:=zc (hA.below ae);have aB:=zc (hA.below ae).reg;have aw:=zc (hg.below hB ae);have ax:Hid (B<=W1.heap.size):=zgu hB ae.size;have C43:Hid (cE W1 nb 43 (iA s.round)):=(hA.below ae).cell 43 rfl;have C1:Hid (cE W1 b1 0 (pA nb 0)):=Ext.cell c1 (Ext.of ae);obtain⟨HX,av,an,ay,au⟩:=kY hx hid ag al aj;clear hA hg hW he hz hx hid c1 al ak ae aj ag hB;cases hm:s.most (votesForB 2 (s.round:Int) t) with
 |true=>
  go_enter func159,ntmps159;go_wp2_with fail
  rw[<-au.o];refine rgd (S:=λX=>BW W1 X) ((zgq _ W1).drew) λhH=>?_;refine zZ [(0,some 4,pA nb 0),(1,some 5,pA nb 0),(2,some 6,pA nb 0),(3,some 7,pA nb 43),(4,some 8,pA nb 43),(5,some 9,iA s.round),(6,some 10,pA W.heap.size 0),(7,some 11,pA W.heap.size 6),(8,some 12,sA t)] _ _ hH (λx h=>aI (show cE x b1 0 (pA nb 0) from Ext.cell C1.o (Ext.of h)) (aI (show cE x nb 43 (iA s.round) from Ext.cell C43.o (Ext.of h)) (show cN x W 6 (sA t) from Ext.cell C6.o (Ext.of h)))) ?_;simp only[zh,AP,pA];refine zp 9 λK hK=>?_;go_simp;refine(yY 2 (s.round:Int) t _).mono ?_;rintro en X2 ⟨g,lb,rfl,eg,ad,ai⟩;have aa:BW W1 X2:=(zgq _ W1).drew.trans (ai.mono (zgp _));clear ai;refine hK.out _ _ aa λhH=>?_;clear hK K
  try simp only[AP,AQ]
  refine zp 10 λK hK=>?_;go_simp;have af:=ki nb kb cb g lb (votesForB 2 (s.round:Int) t) V s X2 (az.o.below aa) HX eg (ad s.log) av;rw[hm] at af;refine af.mono ?_;rintro en X3 ⟨rfl,ah⟩;have ab:BW W1 X3:=aa.trans (ah.mono aa.size);clear ah;refine hK.out _ _ ab λhH=>?_;clear hK K
  try simp only[AP,AQ]
  refine takeN [(11,some 15,bA true),(12,some 16,pA nb 0),(13,some 17,pA nb 0),(14,some 18,pA nb 1),(15,some 19,.agg (regA s.x)),(16,some 20,pA W.heap.size 0),(17,some 21,pA W.heap.size 6),(18,some 22,sA t)] _ _ hH (by repeat(first|exact zgY|((first|refine tkc rfl rfl (zg3 (by rfl) 116 _ rfl nb 1 rfl (yd s.x) _ (λw h=>Ext.range aB (Ext.of h)) underlying116 rfl (by rw[Tryz.zc2];simp[yd])) ?_|(refine tkc rfl rfl (zgR ⟨by rfl,λx h=>?_⟩) ?_;focus(have f0:cE x b1 0 (pA nb 0):=Ext.cell C1.o (Ext.of h);have f1:cN x W 6 (sA t):=Ext.cell C6.o (Ext.of h);go_simp;done)));simp only[AP]))) ?_;simp only[zh,AP,pA];refine zp 19 λK hK=>?_;go_simp;have ao:=kE s.x t a11 m X3 HX.o (by omega) ((aw.o.below ax.o ab).sent.cell 11 _ _ rfl an.o) (aw.o.below ax.o ab).len;refine ao.mono ?_;rintro en X4 ⟨rfl,aq⟩;have ar:BW W1 X4:=ab.trans (aq.mono ab.size);clear aq ao;refine hK.out _ _ ar λhH=>?_;clear hK K
  try simp only[AP,AQ]
  refine y8 [(20,some 24,bA (behindR s.x t).2),(21,some 3,bA (behindR s.x t).2)] _ _ hH ?_;simp only[zh,AP];refine dnr ?_;go_wp2;go_ret;exact⟨zS (by simp only[hm,GL,Bool.true_and]),yV ay.o ar⟩
 |false=>
  go_enter func159,ntmps159;go_wp2_with fail
  rw[<-au.o];refine rgd (S:=λX=>BW W1 X) ((zgq _ W1).drew) λhH=>?_;refine zZ [(0,some 4,pA nb 0),(1,some 5,pA nb 0),(2,some 6,pA nb 0),(3,some 7,pA nb 43),(4,some 8,pA nb 43),(5,some 9,iA s.round),(6,some 10,pA W.heap.size 0),(7,some 11,pA W.heap.size 6),(8,some 12,sA t)] _ _ hH (λx h=>aI (show cE x b1 0 (pA nb 0) from Ext.cell C1.o (Ext.of h)) (aI (show cE x nb 43 (iA s.round) from Ext.cell C43.o (Ext.of h)) (show cN x W 6 (sA t) from Ext.cell C6.o (Ext.of h)))) ?_;simp only[zh,AP,pA];refine zp 9 λK hK=>?_;go_simp;refine(yY 2 (s.round:Int) t _).mono ?_;rintro en X2 ⟨g,lb,rfl,eg,ad,ai⟩;have aa:BW W1 X2:=(zgq _ W1).drew.trans (ai.mono (zgp _));clear ai;refine hK.out _ _ aa λhH=>?_;clear hK K
  try simp only[AP,AQ]
  refine zp 10 λK hK=>?_;go_simp;have af:=ki nb kb cb g lb (votesForB 2 (s.round:Int) t) V s X2 (az.o.below aa) HX eg (ad s.log) av;rw[hm] at af;refine af.mono ?_;rintro en X3 ⟨rfl,ah⟩;have ab:BW W1 X3:=aa.trans (ah.mono aa.size);clear ah;refine hK.out _ _ ab λhH=>?_;clear hK K
  try simp only[AP,AQ]
  refine zZ [(11,some 15,bA false),(12,some 16,undef),(13,some 17,undef),(14,some 18,undef),(15,some 19,undef),(16,some 20,undef),(17,some 21,undef),(18,some 22,undef),(19,some 23,undef),(20,some 24,bA false),(21,some 3,bA false)] _ _ hH (λ_ h=>h) ?_;simp only[zh,AP];refine dnr ?_;go_wp2;go_ret;exact⟨zS (by simp only[hm,Bool.false_and]),yV ay.o ab⟩
theorem Gl(nb kb cb b1 B:Nat)(es:List Addr)(m:Int)(V:yg)(s:za)(L:List zt)(w:World)(hA:NodeAt nb kb cb V s w)(hB:B<=w.heap.size)(hg:qw B es m w)(c1:w.cell? (aA b1 0)=some (pA nb 0))(hx:Dom s.x)(hid:∀e∈s.log,0<=e.m.f/\e.m.f<8)(hz:∀e∈L,e.m.s.size<=24):
 FitsAt 158 #[pA b1 0] (λp=>decide (0<=p.m.v)&&s.most (votesForB 2 p.m.v p.m.s)) L w:=by
 intro W e he hW;obtain⟨⟨kd,H,rr,f,v,nl,t⟩,fr,own⟩:=e;have htz:t.size<=24:=hz _ he;obtain⟨a11,ab⟩:=hg.sent.at 11 (by omega);show Calls prog 158 #[.agg #[iA kd,iA H,iA rr,iA f,iA v,bA nl,sA t,sA fr,bA own],pA b1 0] W _;obtain⟨W1,ae⟩:=gen (W.alloc (.cells #[iA kd,iA H,iA rr,iA f,iA v,bA nl,sA t,sA fr,bA own] 164));have ah:BW W W1:=by rw[ae];exact bwA W
 have af:W1.heap[W.heap.size]? =some (.cells #[iA kd,iA H,iA rr,iA f,iA v,bA nl,sA t,sA fr,bA own] 164 (0,0)):=by rw[ae];exact zgr W _
 have aa:BW w W1:=hW.trans (ah.mono hW.size);have C6:Hid (cN W1 W 6 (sA t)):=zgs W1 W.heap.size 6 _ _ _ af;have C4:Hid (cN W1 W 4 (iA v)):=zgs W1 W.heap.size 4 _ _ _ af;have au:=zc (hA.below aa);have HRG:=zc (hA.below aa).reg;have HG1:=zc (hg.below hB aa);have HBL:Hid (B<=W1.heap.size):=zgu hB aa.size;have C43:Hid (cE W1 nb 43 (iA s.round)):=(hA.below aa).cell 43 rfl;have C1:Hid (cE W1 b1 0 (pA nb 0)):=Ext.cell c1 (Ext.of aa);obtain⟨HX,aq,ar,an,al⟩:=kY hx hid ab ah ae;clear hA hg hW he hz hx hid c1 ah af aa ae ab hB;by_cases hv:0<=v
 .have qv:decide (0<=v)=true:=zgG hv;go_enter func158,ntmps158;go_wp2_with fail
  rw[<-al.o];refine rgd (S:=λX=>BW W1 X) ((zgq _ W1).drew) λhH=>?_;refine zZ [(0,some 4,pA W.heap.size 0),(1,some 5,pA W.heap.size 4),(2,some 6,iA v),(3,some 7,bA true),(4,some 8,bA true),(5,some 9,pA nb 0),(6,some 10,pA W.heap.size 0),(7,some 11,pA W.heap.size 4),(8,some 12,iA v),(9,some 13,pA W.heap.size 0),(10,some 14,pA W.heap.size 6),(11,some 15,sA t)] _ _ hH (λx h=>aI (show cN x W 4 (iA v) from Ext.cell C4.o (Ext.of h)) (aI (show cE x b1 0 (pA nb 0) from Ext.cell C1.o (Ext.of h)) (show cN x W 6 (sA t) from Ext.cell C6.o (Ext.of h)))) ?_;simp only[zh,AP,pA];refine zp 12 λK hK=>?_;go_simp;refine(yY 2 v t _).mono ?_;rintro en X2 ⟨g,lb,rfl,eg,ag,aj⟩;have ad:BW W1 X2:=(zgq _ W1).drew.trans (aj.mono (zgp _));clear aj;refine hK.out _ _ ad λhH=>?_;clear hK K
  try simp only[AP,AQ]
  refine zp 13 λK hK=>?_;go_simp;have ao:=ki nb kb cb g lb (votesForB 2 v t) V s X2 (au.o.below ad) HX eg (ag s.log) aq;refine ao.mono ?_;rintro en X3 ⟨rfl,ai⟩;have ak:BW W1 X3:=ad.trans (ai.mono ad.size);clear ai;refine hK.out _ _ ak λhH=>?_;clear hK K
  try simp only[AP,AQ]
  refine y8 [(14,some 18,bA (s.most (votesForB 2 v t))),(15,some 3,bA (s.most (votesForB 2 v t)))] _ _ hH ?_;simp only[zh,AP];refine dnr ?_;go_wp2;go_ret;exact⟨zS (by simp only[qv,Bool.true_and]),yV an.o ak⟩
 have qv:decide (0<=v)=false:=zgH hv;have qv2:v<0:=by omega
 go_enter func158,ntmps158;go_wp2_with fail
 rw[<-al.o];refine rgd (S:=λX=>BW W1 X) ((zgq _ W1).drew) λhH=>?_;refine zZ [(0,some 4,pA W.heap.size 0),(1,some 5,pA W.heap.size 4),(2,some 6,iA v),(3,some 7,bA false),(4,some 8,bA false),(5,some 9,undef),(6,some 10,undef),(7,some 11,undef),(8,some 12,undef),(9,some 13,undef),(10,some 14,undef),(11,some 15,undef),(12,some 16,undef),(13,some 17,undef),(14,some 18,bA false),(15,some 3,bA false)] _ _ hH (λx h=>show cN x W 4 (iA v) from Ext.cell C4.o (Ext.of h)) ?_;simp only[zh,AP,pA];refine dnr ?_;go_wp2;go_ret;exact⟨zS (by simp only[qv,Bool.false_and]),yV an.o ((zgq _ W1).drew)⟩
theorem Gx(L:List zt)(w:World):FitsAt 157 #[] (λp=>decide (p.m.v<0)) L w:=by
 intro W e he hW;obtain⟨⟨kd,H,rr,f,v,nl,t⟩,fr,own⟩:=e;show Calls prog 157 #[.agg #[iA kd,iA H,iA rr,iA f,iA v,bA nl,sA t,sA fr,bA own]] W _;have hc:cN (W.alloc (.cells #[iA kd,iA H,iA rr,iA f,iA v,bA nl,sA t,sA fr,bA own] 164)) W 4 (iA v):=zgs _ W.heap.size 4 _ _ _ (zgr W _);clear he hW;go_enter func157,ntmps157;go_wp2;go_ret;exact⟨rfl,bwA W⟩
theorem gE(b1:Nat)(r:Int)(L:List zt)(w:World)(c1:w.cell? (aA b1 0)=some (iA r)):FitsAt 155 #[pA b1 0] (λp=>decide (p.m.r=r)) L w:=by
 intro W e he hW;obtain⟨⟨kd,H,rr,f,v,nl,t⟩,fr,own⟩:=e;show Calls prog 155 #[.agg #[iA kd,iA H,iA rr,iA f,iA v,bA nl,sA t,sA fr,bA own],pA b1 0] W _;have hc:cN (W.alloc (.cells #[iA kd,iA H,iA rr,iA f,iA v,bA nl,sA t,sA fr,bA own] 164)) W 2 (iA rr):=zgs _ W.heap.size 2 _ _ _ (zgr W _);have hc1:cE (W.alloc (.cells #[iA kd,iA H,iA rr,iA f,iA v,bA nl,sA t,sA fr,bA own] 164)) b1 0 (iA r):=cell?_alloc_old _ (Ext.cell c1 (Ext.of hW));clear he hW c1;go_enter func155,ntmps155;go_wp2;go_ret;exact⟨zS (by first|rfl|simp),bwA W⟩

import Derived.Test.YtcfjhbcpjpgodaaGreatDoorJ22
import Derived.BigQuiet
import Derived.Test.YtcfjhbcpjpgodaaGreatDoorJ25
namespace Go.Proofs.YtcfjhbcpjpgodaaGreatDoor
open Go.RowKit Proofs.Tryz
set_option maxRecDepth 100000
set_option maxHeartbeats 0
set_option linter.all false
theorem NodeAt.zjh{nb kb cb gb cap:Nat}{V:yc}{s:za}{l':List zl}{w W:World}(hA:NodeAt nb kb cb V s w)(hv:V.av=.slice (some (aA gb 0)) s.ahead.length cap)(hl:l'.length=s.ahead.length)(hr:yf W gb cap l')(hs:zk (λk=>k=gb) w W):NodeAt nb kb cb V { s with ahead:=l' } W:=by
 obtain⟨n1,n2,n3,n4,n5,n6⟩:=hA.rows;have ho:V.av.ownBlock=some gb:=by rw[hv];rfl
 have hg:∀{g:Nat},g=gb->V.av.ownBlock=some g:=λe=>by rw[e];exact ho
 refine⟨?_,hA.eds,?_,?_,?_,?_,?_,?_,?_,hA.alog,hA.awc,hA.acc⟩
 .exact (hs.block nb (zg hA.blk) (λe=>n4 (hg e))).trans hA.blk
 .exact zb hA.dec λg e h=>hs.block g h (λx=>zO hA.dec hA.ahead (by decide) g e (hg x))
 .exact λd hd=>zb (hA.cert d hd) λg e h=>hs.block g h (λx=>zO (hA.cert d hd) hA.ahead (by decide) g e (hg x))
 .exact zb hA.wait λg e h=>hs.block g h (λx=>zO hA.wait hA.ahead (by decide) g e (hg x))
 .exact zb hA.log λg e h=>hs.block g h (λx=>hA.alog g e (hg x))
 .have:=Kq (base:=0) hr (zjG _)
  rw[hl,<-hv] at this;show W.ownsRow 0 164 9 V.av l'.length (kQ l');rw[hl];exact this
 .exact zb hA.tims λg e h=>hs.block g h (λx=>zO hA.tims hA.ahead (by decide) g e (hg x))
 obtain⟨a,b,hc⟩:=hA.chan;exact⟨a,b,(hs.block cb (qT hA.chan) (λx=>yD hA.ahead hA.chan (hg x))).trans hc⟩
theorem Tryz.zgG:(prog.info? 57).map (·.size)=some 7:=by kernel_rfl
theorem zfn(nb kb cb b0:Nat)(e:zl)(V:yc)(s:za)(W:World)(hA:NodeAt nb kb cb V s W)(c0:W.cell? (aA b0 0)=some (pA nb 0))(hx:Dom s.x)(hp:0<sumTo s.x 8)(hh:s.zfF<=12)(hr:0<=e.m.r/\e.m.r<=20):
 Calls prog 105 #[.agg e.cells,pA b0 0] W λen w'=>en=.returned (bA (s.zfJ e.m))/\BW W w':=by
 obtain⟨⟨K,H,R,f,v,nl,t⟩,fr,own⟩:=e;show Calls prog 105 #[.agg #[iA K,iA H,iA R,iA f,iA v,bA nl,sA t,sA fr,bA own],pA b0 0] W _;have aa:BW W (W.alloc (.cells #[iA K,iA H,iA R,iA f,iA v,bA nl,sA t,sA fr,bA own] 164)):=bwA W;have c1:cE (W.alloc (.cells #[iA K,iA H,iA R,iA f,iA v,bA nl,sA t,sA fr,bA own] 164)) b0 0 (pA nb 0):=cell?_alloc_old _ c0;have ae:Hid ((W.alloc (.cells #[iA K,iA H,iA R,iA f,iA v,bA nl,sA t,sA fr,bA own] 164)).rangeAt W.heap.size 0 [iA K,iA H,iA R,iA f,iA v,bA nl,sA t]):=λj u hu=>by
  have hj:j<7:=by have:=(List.getElem?_eq_some_iff.1 hu).1;simpa using this
  rw[zjD _ W.heap.size _ _ _ _ (zjC W _),<-hu,zj8];have:j=0\/j=1\/j=2\/j=3\/j=4\/j=5\/j=6:=by omega
  rcases this with rfl|rfl|rfl|rfl|rfl|rfl|rfl<;>rfl
 obtain⟨HC,ag⟩:=zn (xd nb kb cb ⟨K,H,R,f,v,nl,t⟩ V s (W.alloc (.cells #[iA K,iA H,iA R,iA f,iA v,bA nl,sA t,sA fr,bA own] 164)) (hA.below aa) hx hp hh hr) aa;clear hA c0 hx hp hh hr aa;go_enter func105,ntmps105;go_wp2_with (first|(refine zj6 rfl 57 _ rfl W.heap.size 0 rfl [iA K,iA H,iA R,iA f,iA v,bA nl,sA t] _ ae underlying57 rfl Tryz.zgG ?_)|(go_at_call 106;refine HC.o.mono ?_;rintro e w2 ⟨rfl,ad⟩;have af:=zc ad;clear ad)|fail)
 go_ret;exact⟨rfl,yY ag af⟩
theorem zcX(nb kb cb b0:Nat)(V:yc)(s:za)(W:World)(hA:NodeAt nb kb cb V s W)(c0:W.cell? (aA b0 0)=some (pA nb 0))(hx:Dom s.x)(hp:0<sumTo s.x 8)(hh:s.zfF<=12)(hr:∀e∈s.ahead,0<=e.m.r/\e.m.r<=20):
 Calls prog 104 #[V.av,.func (.func 105) #[] #[pA b0 0]] W (zfz V.av (s.ahead.filter λe=> !s.zfJ e.m) W):=by
 rcases hA.ahead.2 with⟨e0,hn⟩|⟨gb,cap,cur,e0,_,hg,ai,al,ak,ht⟩
 .rw [e0,List.eq_nil_of_length_eq_zero hn];exact xg _ W
 have aa:yf W gb cap s.ahead:=⟨cur,hg,ai,al,ak,ht⟩;have aj:∀e,e∈s.ahead->b0≠gb:=λe he an=>by
  have ae:0<s.ahead.length:=List.length_pos_of_mem he;obtain⟨b,o,eb,_,ah⟩:=aa.ziW 0 ae;cases eb;have h1:=ah 0 (iA (s.ahead.getD 0 yl).m.k) rfl;rw[an] at c0;simp only[Nat.zero_mul,Nat.add_zero] at h1;rw[c0] at h1;cases h1
 have af:Gw 105 #[pA b0 0] (λe=>s.zfJ e.m) s.ahead gb cap W:=λW' e l' he hl _ ad ag=>
  zfn nb kb cb b0 e V { s with ahead:=l' } W' (hA.zjh e0 hl ad ag) ((zjH (w:=W) (a:=(aA b0 0)) (ag.block b0 (zjI _ _ c0) (aj e he))).trans c0) hx hp hh (hr e he)
 rw[e0];refine(YO _ _ (λe=>s.zfJ e.m) s.ahead gb cap W (enters_of func105 (by decide) rfl) aa af).mono ?_;rintro e w' ⟨rfl,ad,hs⟩;exact⟨_,rfl,Kq ad (zjG _),λg h=>h,{ hs with block:=λk hk hn=>hs.block k hk (λe=>hn (by rw[e];rfl)) }⟩
theorem Zd(a b:Nat->Int)(p q:Option Addr)(n m cap cap':Nat)(w:World)(hn:n<=maxLen)(ha:qW w w.heap.size p n (λi=>.int .i64 (a i)))(hb:qW w w.heap.size q m (λi=>.int .i64 (b i))):
 Calls prog 47 #[.slice p n cap,.slice q m cap'] w λe w'=>(∃o,e=.returned (.bool o)/\(n=m->(∀i,i<n->a i=b i)->o=true))/\Below w.heap.size w w':=by
 obtain⟨HA,HB⟩:=zn ha hb;have hmx:n<=9223372036854775807:=by unfold maxLen at hn;omega
 clear ha hb hn;by_cases ad:n=m
 .subst ad;go_enter func47,ntmps47;go_wp2;go_loopw [5] (λi wr=>∃k:Nat,k<=n/\i=.int .i64 k/\Below w.heap.size w wr) (λi _=>n-(intOf i).toNat)
  case atStart=>exact⟨0,zjG _,rfl,zjB _ _⟩
  obtain⟨k,hk,rfl,ai⟩:=hrel;have aa:=zc ai;clear ai;by_cases af:k=n
  .subst af;go_wp2;go_ret;exact⟨⟨true,rfl,λ_ _=>rfl⟩,aa⟩
  have ae:k<n:=by omega
  have aj:(k:Int)<n:=by omega
  obtain⟨b1,o1,rfl,an,ah⟩:=HA.o k ae;obtain⟨b2,o2,rfl,al,ag⟩:=HB.o k ae;have hr1:wr.cell? ⟨b1,o1+k,none⟩=some (.int .i64 (a k)):=(aa.o.cell (p:=⟨b1,o1+k,none⟩) (by exact an)).trans ah;have hr2:wr.cell? ⟨b2,o2+k,none⟩=some (.int .i64 (b k)):=(aa.o.cell (p:=⟨b2,o2+k,none⟩) (by exact al)).trans ag;clear ah ag af;by_cases he:a k=b k
  .have ak:(a k==b k)=true:=by simpa using he
   clear he;go_wp2_with fail
   go_quiet (fail)
   all_goals go_wp2
   go_roundw
   case rel=>exact⟨k+1,by omega,by go_num,below_drewN aa.o _⟩
   simp[intOf];omega
  have ak:(a k==b k)=false:=by simpa using he
  have HN:=zc he;clear he;go_wp2_with fail
  go_quiet (fail)
  all_goals go_wp2
  go_ret;exact⟨⟨false,rfl,λ_ h=>absurd (h k ae) HN⟩,below_drewN aa _⟩
 have hne:¬((n:Int)=m):=by omega
 have HN:=zc ad;clear ad;go_enter func47,ntmps47;go_wp2;go_ret;exact⟨⟨false,rfl,λh=>absurd h HN⟩,zjB _ _⟩
section
theorem Tryz.zhJ(rb:Nat)(y:Nat->Int)(W:World):(Instr.build 170 #[(0,pA rb 0),(1,.agg (regA y))]).run prog W=.ok (.agg (yP rb y 0)) W:=by kernel_rfl
theorem Tryz.zh6(rb:Nat)(y:Nat->Int)(h:Int)(W:World):(Instr.box 170 (.agg (yP rb y h))).run prog W=.ok (pA W.heap.size 0) (W.alloc (.cells (yP rb y h) 170)):=by kernel_rfl
theorem Tryz.zhb:(prog.info? 72).map (·.size)=some 3:=by kernel_rfl
section
variable{P:Program}
theorem KP{ops:Array Oper}{rest:List Oper}{op:Oper}{a:Act}{w:World}{Q:Exit->Act->World->Prop}(hgd:op.guard=none)(t:TypeId)(i0 i1:Nat)(x0 x1:Operand)(ho:op.op=.build t #[(i0,x0),(i1,x1)])(v0 v1 v:Value)
 (h0:a.eval x0=v0) (h1:a.eval x1=v1) (hr:(Instr.build t #[(i0,v0),(i1,v1)]).run P w=.ok v w) (h:wpList P ops Q rest (a.put op.dst v) w):wpList P ops Q (op::rest) a w:=
 wpList_plain hgd λ_ hK=>by
  unfold Oper.wp execOp;simp only[ho,List.map_toArray,List.map_cons,List.map_nil,h0,h1,hr,Sem.run_bind,Sem.run_pure,Result.andThen_ok];exact hK _ _ h
theorem YK{ops:Array Oper}{rest:List Oper}{op:Oper}{a:Act}{w w':World}{Q:Exit->Act->World->Prop}(hgd:op.guard=none)(t:TypeId)(x:Operand)(ho:op.op=.box t x)(vx v:Value)
 (hx:a.eval x=vx) (hr:(Instr.box t vx).run P w=.ok v w') (h:wpList P ops Q rest (a.put op.dst v) w'):wpList P ops Q (op::rest) a w:=
 wpList_plain hgd λ_ hK=>by
  unfold Oper.wp execOp;simp only[ho,hx,hr,Sem.run_bind,Sem.run_pure,Result.andThen_ok];exact hK _ _ h
end
theorem Zw(cb rb:Nat)(x:Nat->Int)(h:Int)(w:World)(hc:zL w cb rb x h):Calls prog 36 #[pA cb 0] w λe w'=>e=.returned (iA h)/\w'=w:=by
 have hch:=hc.zfF;clear hc;go_enter func36,ntmps36;go_wp2;go_ret;exact⟨rfl,rfl⟩
theorem zdo(g:Nat->Int)(p:Option Addr)(n cap:Nat)(b:Addr)(y:Nat->Int)(w:World)(hl:qW w w.heap.size p n (λi=>iA (g i)))(hg:w.cell? (aA 1 0)=some (eA b))(h:vB g n=(y,true)):
 Calls prog 52 #[.slice p n cap] w λe w'=>e=.returned (.tuple #[.agg (regA y),.nilIface])/\BW w w':=by
 have:=ZH g p n cap b w hl hg;rw[h] at this;exact this
theorem zam(rb:Nat)(g:Nat->Int)(p:Option Addr)(n cap:Nat)(b:Addr)(y:Nat->Int)(w:World)(hl:qW w w.heap.size p n (λi=>iA (g i)))(hg:w.cell? (aA 1 0)=some (eA b))(h:vB g n=(y,true)):
 Calls prog 33 #[pA rb 0,.slice p n cap] w λe w'=>∃cb,w.heap.size<=cb/\e=.returned (.tuple #[pA cb 0,.nilIface])/\zL w' cb rb y 0/\BW w w':=by
 have HG:=zc (zdo g p n cap b y w hl hg h);have z0:=yV;clear hl hg h;go_enter func33,ntmps33;go_wp2_with fail
 refine HG.o.mono ?_;rintro e w1 ⟨rfl,ag⟩;have ad:=zc ag;clear ag;go_wp2_with (first|(refine zp rfl 116 _ _ rfl w1.heap.size y rfl rfl 116 (regA yk) (zjC w1 _) (zj _) Tryz.zfG ?_;intro w2 ae af;have ah:=zc ae;have aa:Hid (BW w w2):=(ad.o.alloc ad.o.size _).trans (af.below ad.o.size);clear ae af)|(refine zr rfl 116 _ rfl w1.heap.size rfl 116 y _ ah underlying116 rfl Tryz.zfG ?_)|(refine KP rfl 170 0 1 _ _ rfl (pA rb 0) (.agg (regA y)) _ rfl rfl (Tryz.zhJ rb y _) ?_)|(refine YK rfl 170 _ rfl (.agg (yP rb y 0)) _ rfl (Tryz.zh6 rb y 0 _) ?_)|fail)
 go_ret2;exact⟨w2.heap.size,aa.o.size,rfl,zjC w2 _,aa.o.alloc aa.o.size _⟩
theorem x9(cb rb:Nat)(x:Nat->Int)(h:Int)(w:World)(hc:zL w cb rb x h)(hx:Dom x):
 Calls prog 88 #[pA cb 0] w λe w'=>∃p r,e=.returned (.agg #[p,sA (nameB (memb x 26)),r])/\w'.ownsRow w.heap.size 3 1 p 8 (gX x 8)/\w'.ownsRow w.heap.size 3 1 r (memb x 26).length (xo x (memb x 26))/\(∀g,p.ownBlock=some g->r.ownBlock≠some g)/\BW w w':=by
 obtain⟨HC,HX⟩:=zn hc hx;clear hc hx;go_enter func88,ntmps88;have ak:=zc (HC.o.keep ((zjB _ w).alloc (zjA _) (.cells #[.slice none 0 0,sA ⟨#[]⟩,.slice none 0 0] 72)));go_wp2_with (first|(refine zj6 rfl 116 _ rfl cb 1 rfl (yU x) _ ak.o.reg underlying116 rfl (by rw[Tryz.zfG];simp[yU]) ?_)|fail)
 refine(K2 x _ HX).mono ?_;rintro e w1 ⟨p,r,rfl,hp,hr,ad,aa⟩;obtain⟨pp,pc,rfl⟩:=zm hp;obtain⟨rp,rc,rfl⟩:=zm hr;obtain⟨HP,ah,aj,af⟩:=qO hp hr ad aa;have ai:Hid (cL w1 w.heap.size #[.slice none 0 0,sA ⟨#[]⟩,.slice none 0 0] 72):=blk (zjC w _) aa;clear hp hr ad aa;go_wp2_with (first|(refine zd rfl 72 _ _ rfl w.heap.size #[.slice pp 8 pc,sA (nameB (memb x 26)),.slice rp (memb x 26).length rc] rfl rfl 72 _ ai.o rfl (by simp[Value.oneCell']) Tryz.zhb ?_;intro w3 ag ae)|fail)
 have hsz:w.heap.size+1<=w1.heap.size:=by have:=af.o.size;simp at this;omega
 have keep:∀{e n:Nat} {v:Value} {xs:List Value},w1.ownsRow (w.alloc (.cells #[.slice none 0 0,sA ⟨#[]⟩,.slice none 0 0] 72)).heap.size e 1 v n xs->w3.ownsRow w.heap.size e 1 v n xs:=λh=>vU (zb h (λg hg hlt=>ae.block g (λe=>by have:=(h.lt g hg).1;simp at this;omega))) (by simp);exact zjT (v:=.agg #[.slice pp 8 pc,sA (nameB (memb x 26)),.slice rp (memb x 26).length rc]) (kx results88 _ _ w.heap.size 72 _ _ rfl ag underlying72 rfl Tryz.zhb) rfl ⟨_,_,rfl,keep HP.o,keep ah.o,aj.o,((bwA w).trans (af.o.mono (by simp))).trans (ae.below (zjA _))⟩

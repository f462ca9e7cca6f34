import Derived.Test.YtcfjhbcpjpgodaaGreatDoorJ32
import Derived.Test.YtcfjhbcpjpgodaaGreatDoorRefusal
import Derived.Test.YtcfjhbcpjpgodaaGreatDoorJ34
namespace Go.Proofs.YtcfjhbcpjpgodaaGreatDoor
open Go.RowKit Proofs.Tryz
set_option maxRecDepth 100000
set_option maxHeartbeats 0
set_option linter.all false
section
def za.zg1(s:za)(n:Nat)(fr:zj5):Option (Int×Nat):=
 if zM fr=true then(if zB s.sg n (decV fr).f fr=true then(s.zgl (decV fr) fr).map (λk=>((decV fr).f,k)) else some ((decV fr).f,2)) else some (-1,1)
def zdJ(es:List Addr)(o:Option (Int×Nat))(w:World)(F R:Nat->Prop)(e:Ending)(w':World):Prop:=match o with
 |none=>e=.returned .nilIface
 |some (f,k)=>∃g a,e=.returned (Qd g)/\es[k]? =some a/\w.heap.size<=g/\¬F g/\¬R g/\RefAt w' g f a
def Xn(B:Nat)(es:List Addr)(m:Int)(F R:Nat->Prop)(nb kb rb cb n i:Nat)(s:za)(fr:zj5)(w:World)(e:Ending)(w':World):Prop:=
 ∃F' R',NodeW B es m F' R' nb kb rb cb n i (s.zfM n i fr) w'/\Goes F R w F' R' w'/\zdJ es (s.zg1 n fr) w F' R' e w'
theorem Tryz.zgu:(prog.info? 57).map (·.size)=some 7:=by kernel_rfl
theorem Tryz.zh4(k h r f v:Int)(nl:Bool)(t fr:zj5)(W:World):(Instr.build 164 #[(0,.agg #[iA k,iA h,iA r,iA f,iA v,bA nl,sA t]),(1,sA fr)]).run prog W=.ok (.agg #[iA k,iA h,iA r,iA f,iA v,bA nl,sA t,sA fr,bA false]) W:=by kernel_rfl
section
variable{P:Program}
theorem YJ{ops:Array Oper}{S:World->Prop}{op:Oper}{a:Act}(hw:Region.wanted op (yielded ops a.tmps)=true)(t:TypeId)(i0 i1:Nat)(x0 x1:Operand)(ho:op.op=.build t #[(i0,x0),(i1,x1)])(v0 v1 v:Value)
 (h0:a.eval x0=v0) (h1:a.eval x1=v1) (hr:∀W,(Instr.build t #[(i0,v0),(i1,v1)]).run P W=.ok v W):YieldsIf P ops S op v a:=
 .inl ⟨hw,λw _=>by
  unfold execOp;simp only[ho,List.map_toArray,List.map_cons,List.map_nil,h0,h1,hr,Sem.run_bind,Sem.run_pure,Result.andThen_ok]⟩
end
theorem zar{t:zj5}(h:zM t=true):t.size<=1000:=by
 have h1:=(qQ h).2.2.2.2.2.2.1;unfold decV at h1;rw[zj2 h] at h1;simp only[ByteArray.size_extract] at h1;omega
theorem Z1{s:za}{n i:Nat}{fr:zj5}(h:¬(zM fr=true/\zB s.sg n (decV fr).f fr=true)):s.zfM n i fr=s:=by
 unfold za.zfM;rw[zj3 h]
theorem GP(s:za)(m:kE)(fr:zj5):s.zgl m fr=none\/(s.zgl m fr=some 3/\m.h<(s.zfF:Int))\/∃k,s.zgl m fr=some k/\4<=k/\k<=7/\¬m.h<(s.zfF:Int):=by
 unfold za.zgl;split
 .rename_i h;exact zj1 (zj0 ⟨rfl,h⟩)
 rename_i h;split
 .exact zj1 (zj1 ⟨4,rfl,by omega,by omega,h⟩)
 split
 .exact zj1 (zj1 ⟨5,rfl,by omega,by omega,h⟩)
 split
 .exact zj1 (zj1 ⟨6,rfl,by omega,by omega,h⟩)
 split
 .exact zj1 (zj1 ⟨7,rfl,by omega,by omega,h⟩)
 exact zj0 rfl
theorem qM{B:Nat}{es:List Addr}{m:Int}{F R:Nat->Prop}{nb kb rb cb n i S T:Nat}{s:za}(fr:zj5){w:World}(h:NodeW B es m F R nb kb rb cb n i s w)(hR:v8 B es w)(ok:NOk S T i 0 s)(hT:T<=1000000000000)(hS:S<=900000000000):
 Calls prog 29 #[pA nb 0,sA fr] w (Xn B es m F R nb kb rb cb n i s fr w):=by
 obtain⟨V,hA,hf⟩:=h.node;obtain⟨a1,aL⟩:=h.glob.sent.at 1 (by omega);obtain⟨a2,aK⟩:=h.glob.sent.at 2 (by omega);obtain⟨a3,a6⟩:=h.glob.sent.at 3 (by omega);have c0:cE w nb 0 (pA kb 0):=hA.cell 0 rfl;obtain⟨bj,bh,HH,HR,aw,HT,HS,bB⟩:=jR (VL kb rb i w h.key) (XV R rb n s.sg fr a1 a2 w h.ring (λk hk=>(h.rl k hk).2) (h.glob.sent.cell 1 _ _ rfl aL) (h.glob.sent.cell 2 _ _ rfl aK)) h hR ok hT hS aL;obtain⟨bz,aG⟩:=zn aK a6;clear h hR ok hT hS hA hf aL aK a6;go_enter func29,ntmps29;go_wp2_with fail
 refine bj.o.mono ?_;rintro e w0 ⟨rfl,aV⟩;have bo:=aV.symm;clear aV bj;subst bo;go_wp2_with fail
 refine bh.o.mono ?_;clear bh;rintro e w1 ⟨au,⟨hd,an,rfl⟩|⟨hd,g,hg,az,rfl⟩|⟨hd,an,g,hg,az,rfl⟩⟩
 .obtain ⟨mv,aY⟩:=gen (decV fr)
  have aF:=zc (qQ hd);have aj:Hid (s.zfM n i fr=s.zgv i (decV fr) fr):=by unfold Hid za.zfM;rw[zj2 ⟨hd,an⟩]
  have ag:Hid (s.zg1 n fr=(s.zgl (decV fr) fr).map (λk=>((decV fr).f,k))):=by unfold Hid za.zg1;rw[zj2 hd,zj2 an]
  have bx:Hid (fr.size<=1000):=zar hd;rw[<-aY] at aF aj ag ⊢;obtain⟨mk,mh,mr,mf,mv,mn,ms⟩:=mv;have ae:=zc au;clear au hd an aY;unfold kE.cells;go_wp2_with (first|(refine zh rfl 57 _ _ rfl w1 #[iA mk,iA mh,iA mr,iA mf,iA mv,bA mn,sA ms] rfl rfl 57 _ rfl (by simp[Value.oneCell']) Tryz.zgu ?_;intro w2 ar ai ax;have aq:=zc ai;have aH:=zc ar;clear ar ai ax)|(refine zkb rfl 57 _ rfl w1.heap.size rfl 57 #[iA mk,iA mh,iA mr,iA mf,iA mv,bA mn,sA ms] (0,0) _ aH underlying57 rfl (by rw[Tryz.zgu];rfl) ?_)|fail)
  have ah:Hid (BW w w2):=ae.o.trans (aq.o.mono ae.o.size);obtain⟨V2,bf,br⟩:=(HH.o.below ah).node;refine(VE (B:=B) (es:=es) (N:=2000) ⟨mk,mh,mr,mf,mv,mn,ms⟩ fr bf (HH.o.glob.sent.len) (HR.o.below HH.o.bl ah.o) (zjF HH.o.bl ah.o.size) (aw.o.st (by omega) HT.o HS.o).1 (by omega) ⟨aF.o.1,aF.o.2.2.1⟩).mono ?_;rintro e w3 ⟨rfl,aM⟩;have aU:=zc aM;have aa:Hid (BW w w3):=ah.o.trans (aM.mono ah.o.size);clear aM bf br;have bw:=zc ((HR.o.below HH.o.bl aa).cell 3 _ _ rfl aG);have cP:=bw.o;rcases GP s ⟨mk,mh,mr,mf,mv,mn,ms⟩ fr with hr|⟨hr,bq⟩|⟨k,hr,hk4,hk7,bp⟩
  .have af:=zc hr;rw[hr,show za6 es none=.nilIface from rfl];rw[hr] at ag;clear hr;have HN:=zc (zdU a3 w3);go_wp2_with fail
   refine HN.o.mono ?_;rintro e w4 ⟨rfl,ad⟩;have ay:=ad.symm;clear ad HN;subst ay;obtain⟨w4,ad⟩:=gen w3;subst ad;obtain⟨al,aE⟩:=zn (blk aH aU) (HH.o.below aa);have aT:Hid (¬F w1.heap.size):=λh=>by have h1:=(HH.o.fl _ h).2;have h2:=ae.o.size;omega
   have aS:Hid (¬R w1.heap.size):=λh=>by have h1:=(HH.o.rl _ h).2;have h2:=ae.o.size;omega
   go_wp2_with fail
   refine rgd (S:=λW=>cL W w1.heap.size #[iA mk,iA mh,iA mr,iA mf,iA mv,bA mn,sA ms] 57) al λhH=>?_;refine takeN [(0,some 39,pA nb 0),(1,some 40,.agg ([iA mk,iA mh,iA mr,iA mf,iA mv,bA mn,sA ms]).toArray),(2,some 41,sA fr)] _ _ hH (by repeat(first|exact zj7|((first|refine tkc rfl rfl (zka (by rfl) 57 _ rfl w1.heap.size 0 rfl ([iA mk,iA mh,iA mr,iA mf,iA mv,bA mn,sA ms]) _ (λw h=>yG h) underlying57 rfl (by rw[Tryz.zgu];rfl)) ?_|(refine tkc rfl rfl (zj0 ⟨by rfl,λx h=>?_⟩) ?_;focus(go_simp;done)));simp only[AP]))) ?_;simp only[ze,AP,pA];refine zv 3 λK hK=>?_;go_simp;refine(vG fr _ (by have:=bx.o;omega)).mono ?_;rintro e w5 ⟨rfl,bb⟩;have av:BW w4 w5:=(zjB _ w4).drew.trans (bb.mono (zjA _));refine hK.out _ _ (blk al av) λhH=>?_;clear hK K bb
   try simp only[AP,AQ]
   refine takeN [(4,some 43,.agg #[iA mk,iA mh,iA mr,iA mf,iA mv,bA mn,sA ms,sA fr,bA false])] _ _ hH (by repeat(first|exact zj7|(refine tkc rfl rfl (YJ (by rfl) 164 0 1 _ _ rfl (.agg #[iA mk,iA mh,iA mr,iA mf,iA mv,bA mn,sA ms]) (sA fr) (.agg #[iA mk,iA mh,iA mr,iA mf,iA mv,bA mn,sA ms,sA fr,bA false]) rfl rfl (λW=>Tryz.zh4 mk mh mr mf mv mn ms fr W)) ?_;simp only[AP]))) ?_;simp only[ze,AP];have bg:=zc (gZ ⟨⟨mk,mh,mr,mf,mv,mn,ms⟩,fr,false⟩ (aE.o.below av) (by have:=(aw.o.lens (by omega)).1;omega) (by have:=(aw.o.lens (by omega)).2;omega));refine zv 5 λK hK=>?_;go_simp;refine bg.o.mono ?_;rintro e w6 ⟨rfl,F6,aD,ao⟩;have aW:cL w6 w1.heap.size #[iA mk,iA mh,iA mr,iA mf,iA mv,bA mn,sA ms] 57:=(ao.same.block _ (zg (blk al av)) (λh=>h.elim aT aS)).trans (blk al av);refine hK.out _ _ aW λhH=>?_;clear hK K
   try simp only[AP,AQ]
   refine dnr ?_;have aR:=zc (aw.o.take af aF);have bk:=zc (Ge aD aR HT HS);have aJ:Hid (Goes F R w F6 R w6):=(Goes.below aa).trans ((Goes.below av).trans ao);clear aD ao aW av bg;go_wp2_with fail
   refine bk.o.mono ?_;rintro e w7 ⟨rfl,F7,R7,bc,bd⟩;obtain⟨bs,bu⟩:=zn bc bd;clear bc bd bk;go_wp2;go_ret;refine⟨F7,R7,?_,aJ.o.trans bu,?_⟩
   .rw [aj.o];unfold za.zgv;rw[zj3 (show¬mh<(s.zfF:Int) from(ZZ af.o).1),af.o];exact bs
   rw[ag.o];exact rfl
  .have aP:Hid (s.zgv i ⟨mk,mh,mr,mf,mv,mn,ms⟩ fr=s.zf2 mh.toNat):=by unfold Hid za.zgv;rw[zj2 bq]
   have af:=zc hr;rw[hr,ql aG.o];rw[hr] at ag;have HN:=zc (zer a3 w3);clear hr;go_wp2_with fail
   refine HN.o.mono ?_;rintro e w4 ⟨rfl,ad⟩;have ay:=ad.symm;clear ad HN;subst ay;obtain⟨w4,ad⟩:=gen w3;subst ad;have al:=zc (blk aH aU);have cH:cN w4 w1 1 (iA mh):=zjD w4 w1.heap.size 1 _ _ _ al;obtain⟨kh,aZ⟩:∃kh:Nat,(kh:Int)=mh:=⟨mh.toNat,by have:=aF.o.1;omega⟩;have aO:=zc (K3 kh (HH.o.below aa) (by have h1:s.dec.length=s.zfF:=rfl;omega) aw.o.hgt aw.o.cert);rw[aZ] at aO;have bt:Hid (mh.toNat=kh):=by unfold Hid;omega
   clear aZ;have aT:Hid (¬F w1.heap.size):=λh=>by have h1:=(HH.o.fl _ h).2;have h2:=ae.o.size;omega
   have aS:Hid (¬R w1.heap.size):=λh=>by have h1:=(HH.o.rl _ h).2;have h2:=ae.o.size;omega
   go_wp2_with fail
   refine aO.o.mono ?_;rintro e w6 ⟨rfl,aD,ao⟩;have aN:=zc aD;have aJ:Hid (Goes F R w F R w6):=(Goes.below aa).trans ao;have cF:cN w6 w1 3 (iA mf):=zjD w6 w1.heap.size 3 _ _ _ ((ao.same.block _ (zg al) (λh=>h.elim aT aS)).trans al);clear aD ao aO cH;have bm:Hid (BW w6 (w6.alloc (.cells #[iA mf,eA a3] 160))):=bwA w6;go_wp2;go_ret;refine⟨F,R,?_,aJ.o.trans (Goes.below bm),?_⟩
   .rw [aj.o];rw[aP.o,show mh.toNat=kh from bt.o];exact aN.o.below bm
   rw[ag.o];exact⟨w6.heap.size,a3,rfl,aG,aJ.o.same.size,(λh=>by have h1:=(aN.o.fl _ h).2;omega),(λh=>by have h1:=(aN.o.rl _ h).2;omega),zjC w6 _⟩
  obtain⟨ak,aC⟩:=HH.o.glob.sent.at k (by omega);have aX:ak≠a3:=λe=>by
   subst e;have h1:=(List.getElem?_inj (by rw[HH.o.glob.sent.len];show k<12;omega) HH.o.glob.sent.nodup).1 (aC.trans aG.o.symm);omega
  obtain⟨c4,t4,a8⟩:=HH.o.glob.sent.blk ak (List.mem_of_getElem? aC);obtain⟨c3,t3,ba⟩:=HH.o.glob.sent.blk a3 (List.mem_of_getElem? aG);have a7:=blk a8 aa;have aB:=blk ba aa;clear a8 ba;have aP:Hid (s.zgv i ⟨mk,mh,mr,mf,mv,mn,ms⟩ fr=s):=by unfold Hid za.zgv;rw[zj3 bp,hr]
  have af:=zc hr;rw[hr,ql aC];rw[hr] at ag;have HN:=zc (zdh ak a3 _ _ _ _ w3 aX a7 aB);clear hr;go_wp2_with fail
  refine HN.o.mono ?_;rintro e w4 ⟨rfl,ad⟩;have ay:=ad.symm;clear ad HN;subst ay;obtain⟨w4,ad⟩:=gen w3;subst ad;have cF:cN w4 w1 3 (iA mf):=zjD w4 w1.heap.size 3 _ _ _ (blk aH aU);obtain⟨aE,bC⟩:=zn (HH.o.below aa) aC;clear aX a7 aB aC;have bn:Hid (BW w4 (w4.alloc (.cells #[iA mf,eA ak] 160))):=bwA w4;go_wp2;go_ret;refine⟨F,R,?_,Goes.below (aa.o.trans (bn.o.mono aa.o.size)),?_⟩
  .rw [aj.o];rw[aP.o];exact aE.o.below bn
  rw[ag.o];exact⟨w4.heap.size,ak,rfl,bC,aa.o.size,(λh=>by have h1:=(aE.o.fl _ h).2;omega),(λh=>by have h1:=(aE.o.rl _ h).2;omega),zjC w4 _⟩
 .have ae:=zc au;obtain⟨aQ,HG⟩:=zn az hg;have aj:Hid (s.zfM n i fr=s):=Z1 (λh=>by rw[hd] at h;exact absurd h.1 zjX);have ag:Hid (s.zg1 n fr=some (-1,1)):=by unfold Hid za.zg1;rw[zj3 (by rw[hd];exact zjX)]
  clear au az hg hd;unfold Qd XZ kE.cells;go_wp2_with (first|(refine zh rfl 57 _ _ rfl w1 mA rfl rfl 57 _ rfl (by simp[Value.oneCell']) Tryz.zgu ?_;intro w2 ar ai ax;have aq:=zc ai;clear ar ai ax)|fail)
  go_ret;have hB:=ae.o.trans (aq.o.mono ae.o.size);refine⟨F,R,by rw[aj.o];exact HH.o.below hB,Goes.below hB,?_⟩;rw[ag.o];exact⟨g,a1,rfl,bB,HG,(λh=>by have h1:=(HH.o.fl _ h).2;have h2:=HG.o;omega),(λh=>by have h1:=(HH.o.rl _ h).2;have h2:=HG.o;omega),blk aQ.o aq.o⟩
 have ae:=zc au;obtain⟨aQ,HG⟩:=zn az hg;have aj:Hid (s.zfM n i fr=s):=Z1 (λh=>by rw[an] at h;exact absurd h.2 zjX);have ag:Hid (s.zg1 n fr=some ((decV fr).f,2)):=by unfold Hid za.zg1;rw[zj2 hd,zj3 (by rw[an];exact zjX)]
 clear au az hg hd an;unfold Qd XZ kE.cells;go_wp2_with (first|(refine zh rfl 57 _ _ rfl w1 mA rfl rfl 57 _ rfl (by simp[Value.oneCell']) Tryz.zgu ?_;intro w2 ar ai ax;have aq:=zc ai;clear ar ai ax)|fail)
 go_ret;have hB:=ae.o.trans (aq.o.mono ae.o.size);refine⟨F,R,by rw[aj.o];exact HH.o.below hB,Goes.below hB,?_⟩;rw[ag.o];exact⟨g,a2,rfl,bz,HG,(λh=>by have h1:=(HH.o.fl _ h).2;have h2:=HG.o;omega),(λh=>by have h1:=(HH.o.rl _ h).2;have h2:=HG.o;omega),blk aQ.o aq.o⟩
end
section
variable{nb kb cb B rb n i:Nat}{V:yc}{s:za}{es:List Addr}{m:Int}{F R:Nat->Prop}
theorem Tryz.zgy:(prog.info? 72).map (·.size)=some 3:=by kernel_rfl
theorem Tryz.zic:(prog.info? 226).map (·.size)=some 3:=by kernel_rfl
theorem Zt{w:World}(hA:NodeAt nb kb cb V s w)(hx:Dom s.x):
 Calls prog 23 #[pA nb 0] w λe w'=>∃p r,e=.returned (.agg #[p,sA (nameB (memb s.x 26)),r])/\w'.ownsRow w.heap.size 3 1 p 8 (gX s.x 8)/\w'.ownsRow w.heap.size 3 1 r (memb s.x 26).length (xo s.x (memb s.x 26))/\(∀g,p.ownBlock=some g->r.ownBlock≠some g)/\BW w w':=by
 obtain⟨HX,ai⟩:=zn hx ((hA.below ((zjB _ w).alloc (zjA _) (.cells #[.slice none 0 0,sA ⟨#[]⟩,.slice none 0 0] 72))).reg);clear hx hA;go_enter func23,ntmps23;go_wp2_with (first|(refine zj6 rfl 116 _ rfl nb 1 rfl (yU s.x) _ ai underlying116 rfl (by rw[Tryz.zfG];simp[yU]) ?_)|fail)
 refine(K2 s.x _ HX).mono ?_;rintro e w1 ⟨p,r,rfl,hp,hr,ad,aa⟩;obtain⟨pp,pc,rfl⟩:=zm hp;obtain⟨rp,rc,rfl⟩:=zm hr;obtain⟨HP,ah,ak,af⟩:=qO hp hr ad aa;have aj:Hid (cL w1 w.heap.size #[.slice none 0 0,sA ⟨#[]⟩,.slice none 0 0] 72):=blk (zjC w _) aa;clear hp hr ad aa;go_wp2_with (first|(refine zd rfl 72 _ _ rfl w.heap.size #[.slice pp 8 pc,sA (nameB (memb s.x 26)),.slice rp (memb s.x 26).length rc] rfl rfl 72 _ aj.o rfl (by simp[Value.oneCell']) Tryz.zgy ?_;intro w3 ag ae)|fail)
 have hsz:w.heap.size+1<=w1.heap.size:=by have:=af.o.size;simp at this;omega
 have keep:∀{e n:Nat} {v:Value} {xs:List Value},w1.ownsRow (w.alloc (.cells #[.slice none 0 0,sA ⟨#[]⟩,.slice none 0 0] 72)).heap.size e 1 v n xs->w3.ownsRow w.heap.size e 1 v n xs:=λh=>vU (zb h (λg hg hlt=>ae.block g (λe=>by have:=(h.lt g hg).1;simp at this;omega))) (by simp);exact zjT (v:=.agg #[.slice pp 8 pc,sA (nameB (memb s.x 26)),.slice rp (memb s.x 26).length rc]) (kx results23 _ _ w.heap.size 72 _ _ rfl ag underlying72 rfl Tryz.zgy) rfl ⟨_,_,rfl,keep HP.o,keep ah.o,ak.o,((bwA w).trans (af.o.mono (by simp))).trans (ae.below (zjA _))⟩
theorem JK(t:zj5)(w:World):Calls prog 123 #[sA t] w λe w'=>e=.returned (bA (yN t))/\BW w w':=by
 have ae:=zc (Qe t w);go_enter func123,ntmps123;go_wp2_with fail
 refine ae.o.mono ?_;rintro e w1 ⟨⟨a,b,c,rfl,_⟩,ad⟩;have af:=zc ad;obtain⟨o,ho⟩:=gen (qY t.size (byt t 0) (byt t 1) (byt t 2));have HO:Hid (yN t=o):=ho.symm;rw[<-ho];clear ad ho ae;go_wp2_with (first|(refine zh rfl 226 _ _ rfl w1 #[.int .u8 a,iA b,iA c] rfl rfl 226 _ rfl (by simp[Value.oneCell']) Tryz.zic ?_;intro w2 ah aa ag;have ai:=zc aa;clear ah aa ag)|fail)
 go_ret;exact⟨by rw[HO.o];rfl,af.o.trans (ai.o.mono af.o.size)⟩
theorem XB{wc cap3:Nat}{t:zj5}{wp p3:Option Addr}{w2 Z w3 w4:World}
 (h:NodeW B es m F R nb kb rb cb n i s w2) (hA:NodeAt nb kb cb V s w2) (hf:∀k,V.zgH nb cb k->F k) (hwv:V.wv=.slice wp s.wait.length wc) (hBZ:BW w2 Z)
 (hown3:w3.ownsRow 0 9 1 (.slice p3 (s.wait.length+1) cap3) (s.wait.length+1) (s.wait.map .string++[sA t])) (hgrow3:Z.grownBy w3 (Value.ownBlock (.slice wp s.wait.length wc))) (hat3:Value.ownBlock (.slice p3 (s.wait.length+1) cap3)=Value.ownBlock (.slice wp s.wait.length wc)\/Value.ownBlock (.slice p3 (s.wait.length+1) cap3)=some Z.heap.size)
 (hq4:w4.heap[nb]? =some (.cells ((nodeA kb cb V s).setIfInBounds 36 (.slice p3 (s.wait.length+1) cap3)) 135 (0,0))) (ho4:kq nb w3 w4):
 ∃F',NodeW B es m F' R nb kb rb cb n i { s with wait:=s.wait++[t] } w4/\Goes F R w2 F' R w4:=by
 rw[<-hwv] at hgrow3 hat3;have hs:zk (λk=>k=nb\/some k=V.wv.ownBlock) w2 w4:=by
  refine⟨ho4.os.trans (hgrow3.os.trans hBZ.os),ho4.tape.trans (hgrow3.tape.trans hBZ.tape),ho4.output.trans (hgrow3.output.trans hBZ.output),?_,λk hk hn=>?_⟩
  .rw [ho4.size];exact zjF hBZ.size hgrow3.size
  rw[ho4.block k (λe=>hn (zj0 e)),hgrow3.block k (zjE hk hBZ.size) (λe=>hn (zj1 e)),hBZ.block k hk]
 have hnl:nb<w2.heap.size:=zg hA.blk;have aa:∀g,Value.ownBlock (.slice p3 (s.wait.length+1) cap3)=some g->g≠nb:=λg hg e=>by
  rcases hat3 with h1|h1
  .exact hA.rows.2.1 (e▸(h1.symm.trans hg))
  rw[h1] at hg;cases hg;have:=hBZ.size;omega
 refine h.zhw (s':={ s with wait:=s.wait++[t] }) hA hf (.slice p3 (s.wait.length+1) cap3) (by rw[<-nodeA_wait];exact hq4) ?_ ?_ hs rfl rfl rfl rfl rfl rfl
 .show World.ownsRow w4 0 _ 1 _ (s.wait++[t]).length ((s.wait++[t]).map .string);rw[zjO,List.map_append];exact zb hown3 (λg hg _=>ho4.block g (aa g hg))
 rcases hat3 with h1|h1
 .exact zj0 h1
 refine zj1 λg hg=>?_;rw[h1] at hg;cases hg;exact hBZ.size
theorem GC(t:zj5){w:World}(h:NodeW B es m F R nb kb rb cb n i s w)(hR:v8 B es w)(hw5:s.wait.length<=5):
 Calls prog 62 #[pA nb 0,sA t] w λe w'=>e=.returned (za6 es (s.zg8 t))/\∃F',NodeW B es m F' R nb kb rb cb n i (s.zgd t) w'/\Goes F R w F' R w':=by
 obtain⟨iW,aO,aM,aL,aK⟩:=info_parts Tryz.zgC;obtain⟨V,hA,hf⟩:=h.node;obtain⟨a11,aB⟩:=h.glob.sent.at 11 (by omega);obtain⟨a8,aP⟩:=h.glob.sent.at 8 (by omega);obtain⟨wp,wc,aN⟩:=zm hA.wait;obtain⟨aT,HH,HR,HA,HF,aw,aU,aF⟩:=jR (JK t w) h hR hA hf aN aP aB;clear h hR hA hf aN aP aB;go_enter func62,ntmps62;go_wp2_with fail
 refine aT.o.mono ?_;rintro e w2 ⟨rfl,aD⟩;obtain⟨aJ,aE,ar⟩:=zS aD (HH.o.below aD) (HA.o.below aD);have c11:cE w2 11 0 (eA a11):=aE.o.glob.sent.cell 11 _ _ rfl aF;have c8:cE w2 8 0 (eA a8):=(HR.o.below HH.o.bl aD).cell 8 _ _ rfl aU;have C36:Hid (w2.cell? (aA nb 36)=some (.slice wp s.wait.length wc)):=by
  have h1:cE w2 nb 36 V.wv:=ar.o.cell 36 rfl;rw[aw.o] at h1;exact h1
 clear aD aT;cases av:yN t with
 |false=>
  have al:Hid (s.zg8 t=some 11):=by unfold Hid za.zg8;rw[zj2 av]
  have ax:Hid (s.zgd t=s):=by unfold Hid za.zgd;rw[zj3 (by rw[al.o];simp)]
  clear av;go_wp2;go_ret;exact⟨by rw[al.o,ql aF.o];rfl,F,by rw[ax.o];exact aE,Goes.below aJ⟩
 |true=>
  have ak:¬yN t=false:=by rw[av];exact Bool.noConfusion
  have c36:=C36.o;by_cases h5:5<=s.wait.length
  .have al:Hid (s.zg8 t=some 8):=by unfold Hid za.zg8;rw[zj3 ak,zj2 h5]
   have ax:Hid (s.zgd t=s):=by unfold Hid za.zgd;rw[zj3 (by rw[al.o];simp)]
   have aV:5<=(s.wait.length:Int):=by omega
   clear av ak;go_wp2;go_ret;exact⟨by rw[al.o,ql aU.o];rfl,F,by rw[ax.o];exact aE,Goes.below aJ⟩
  have al:Hid (s.zg8 t=none):=by unfold Hid za.zg8;rw[zj3 ak,zj3 h5]
  have ax:Hid (s.zgd t={ s with wait:=s.wait++[t] }):=by unfold Hid za.zgd;rw[zj2 al.o]
  have aV:¬5<=(s.wait.length:Int):=by omega
  have htz:t.size<=1000:=zbT av;have aQ:Hid (w2.ownsRow 0 9 1 (.slice wp s.wait.length wc) s.wait.length (s.wait.map .string)):=by
   have h1:=ar.o.wait;rw[aw.o] at h1;exact h1
  have aS:Hid (nb<w2.heap.size):=zg ar.o.blk;have aR:Hid (Value.ownBlock (.slice wp s.wait.length wc)≠some nb):=by have h1:=ar.o.rows.2.1;rw[aw.o] at h1;exact h1
  have aH:=zc ar.o.blk;have aG:Hid ((nodeA kb cb V s)[36]? =some (.slice wp s.wait.length wc)):=by rw[<-aw.o];rfl
  clear av ak c11 c8
  go_upto_region 5 with fail
  refine rgd (S:=λ_=>True) trivial λhH=>?_;refine yd [0,1,2,3,5] hH (λ_ h=>h) ?_;have c36d:cE w2.drew nb 36 (.slice wp s.wait.length wc):=C36.o;refine Jp 4 6 (λK hK=>?_) λK hK=>?_
  .go_simp;refine hK.out _ _ trivial λhH=>?_;clear hK K
   try simp only[AP,AQ]
   refine zv 6 λK hK=>?_;go_simp;refine(vG t _ (by omega)).mono ?_;rintro en X ⟨rfl,aC⟩;have an:BW w2 X:=(zjB _ w2).drew.trans (aC.mono (zjA _));refine hK.out _ _ trivial λhH=>?_;clear hK K aC
   try simp only[AP,AQ]
   refine zv 7 λK hK=>?_;go_simp;obtain⟨Z,ag⟩:=gen (X.alloc (.cells #[sA t] 9));have ao:BW X Z:=by rw[ag];exact bwA X
   have au:Z.heap[X.heap.size]? =some (.cells #[sA t] 9 (0,0)):=by rw[ag];exact zjC X _
   rw[<-ag];clear ag;have ah:BW w2 Z:=an.trans (ao.mono an.size);refine hK.out _ _ trivial λhH=>?_;clear hK K
   try simp only[AP,AQ]
   refine zv 8 λK hK=>?_;rw[zj2 (by rfl)];have af:Z.ownsRow 0 9 1 (.slice wp s.wait.length wc) s.wait.length (s.wait.map .string):=zb aQ (λg _ hg=>ah.block g hg);refine yj _ _ _ 30 rfl 0 9 iW (sA zj4) 1 16 underlying30 aO aM aL aK rfl (by decide) (.slice wp s.wait.length wc) s.wait.length (s.wait.map .string) rfl af (nA X 0) 1 1 [sA t] rfl rfl ?n1 ?n2 (by unfold maxLen;omega) (by omega) (by omega) ?_
   case n1=>
    intro j u hj;rw[addr_add,zj8,zjD Z X.heap.size j _ _ _ au];simpa using hj
   case n2=>
    intro u hu;simp at hu;subst hu;rfl
   intro v3 w3 ad aa ai;have ae:cL w3 nb (nodeA kb cb V s) 135:=(aa.block nb (zjE aS ah.size) (λe=>aR e.symm)).trans (blk aH ah);refine hK.out _ _ trivial λhH=>?_;clear hK K;simp only[AP,AQ];refine yd [9,10] hH (λ_ h=>h) ?_;have c03:cE w3 nb 36 (.slice wp s.wait.length wc):=(zjD w3 nb 36 _ _ _ ae).trans aG;have f03:w3.frozen? (aA nb 36)=false:=zt ae 36;obtain⟨p3,cap3,rfl⟩:=zm ad;refine zv 11 λK hK=>?_;go_simp;obtain⟨w4,aj⟩:∃z,z=(w3.setCell (aA nb 36) (.slice p3 (s.wait.length+1) cap3)):=⟨_,rfl⟩;have az:kq nb w3 w4:=by rw[aj];exact zf w3 nb 36 _
   have ay:w4.heap[nb]? =some (.cells ((nodeA kb cb V s).setIfInBounds 36 (.slice p3 (s.wait.length+1) cap3)) 135 (0,0)):=by
    rw[aj];exact setCell_row ae 36 _
   rw[<-aj];refine hK.out _ _ trivial λhH=>?_;clear hK K hH aj;refine dnr ?_;have aq:=zc (XB aE ar HF aw ah ad aa ai ay az);clear ad aa ai ay az ae c03 f03 ah ao au af;go_wp2;go_ret;obtain⟨F',h1,h2⟩:=aq.o;exact⟨by rw[al.o];rfl,F',by rw[ax.o];exact h1,(Goes.below aJ).trans h2⟩
  go_simp;refine(vG t _ (by omega)).mono ?_;rintro en X ⟨rfl,aC⟩;have an:BW w2 X:=(zjB _ w2).drew.trans (aC.mono (zjA _));refine hK.out _ _ trivial λhH=>?_;clear hK K aC
  try simp only[AP,AQ]
  have c36X:cE X nb 36 (.slice wp s.wait.length wc):=Ext.cell C36.o (Ext.of an);refine Jp 4 7 (λK hK=>?_) λK hK=>?_;focus
   go_simp;refine hK.out _ _ trivial λhH=>?_;clear hK K
   try simp only[AP,AQ]
   refine zv 7 λK hK=>?_;go_simp;obtain⟨Z,ag⟩:=gen (X.alloc (.cells #[sA t] 9));have ao:BW X Z:=by rw[ag];exact bwA X
   have au:Z.heap[X.heap.size]? =some (.cells #[sA t] 9 (0,0)):=by rw[ag];exact zjC X _
   rw[<-ag];clear ag;have ah:BW w2 Z:=an.trans (ao.mono an.size)
  rotate_left;focus
   go_simp;obtain⟨Z,ag⟩:=gen (X.alloc (.cells #[sA t] 9));have ao:BW X Z:=by rw[ag];exact bwA X
   have au:Z.heap[X.heap.size]? =some (.cells #[sA t] 9 (0,0)):=by rw[ag];exact zjC X _
   rw[<-ag];clear ag;have ah:BW w2 Z:=an.trans (ao.mono an.size);refine hK.out _ _ trivial λhH=>?_;clear hK K
   try simp only[AP,AQ]
   have c36Z:cE Z nb 36 (.slice wp s.wait.length wc):=Ext.cell C36.o (Ext.of ah);refine zv 4 λK hK=>?_;go_simp
  rotate_left;all_goals
   refine hK.out _ _ trivial λhH=>?_;clear hK K
   try simp only[AP,AQ]
   refine zv 8 λK hK=>?_;rw[zj2 (by rfl)];have af:Z.ownsRow 0 9 1 (.slice wp s.wait.length wc) s.wait.length (s.wait.map .string):=zb aQ (λg _ hg=>ah.block g hg);refine yj _ _ _ 30 rfl 0 9 iW (sA zj4) 1 16 underlying30 aO aM aL aK rfl (by decide) (.slice wp s.wait.length wc) s.wait.length (s.wait.map .string) rfl af (nA X 0) 1 1 [sA t] rfl rfl ?n1 ?n2 (by unfold maxLen;omega) (by omega) (by omega) ?_
   case n1=>
    intro j u hj;rw[addr_add,zj8,zjD Z X.heap.size j _ _ _ au];simpa using hj
   case n2=>
    intro u hu;simp at hu;subst hu;rfl
   intro v3 w3 ad aa ai;have ae:cL w3 nb (nodeA kb cb V s) 135:=(aa.block nb (zjE aS ah.size) (λe=>aR e.symm)).trans (blk aH ah);refine hK.out _ _ trivial λhH=>?_;clear hK K;simp only[AP,AQ];refine yd [9,10] hH (λ_ h=>h) ?_;have c03:cE w3 nb 36 (.slice wp s.wait.length wc):=(zjD w3 nb 36 _ _ _ ae).trans aG;have f03:w3.frozen? (aA nb 36)=false:=zt ae 36;obtain⟨p3,cap3,rfl⟩:=zm ad;refine zv 11 λK hK=>?_;go_simp;obtain⟨w4,aj⟩:∃z,z=(w3.setCell (aA nb 36) (.slice p3 (s.wait.length+1) cap3)):=⟨_,rfl⟩;have az:kq nb w3 w4:=by rw[aj];exact zf w3 nb 36 _
   have ay:w4.heap[nb]? =some (.cells ((nodeA kb cb V s).setIfInBounds 36 (.slice p3 (s.wait.length+1) cap3)) 135 (0,0)):=by
    rw[aj];exact setCell_row ae 36 _
   rw[<-aj];refine hK.out _ _ trivial λhH=>?_;clear hK K hH aj;refine dnr ?_;have aq:=zc (XB aE ar HF aw ah ad aa ai ay az);clear ad aa ai ay az ae c03 f03 ah ao au af;go_wp2;go_ret;obtain⟨F',h1,h2⟩:=aq.o;exact⟨by rw[al.o];rfl,F',by rw[ax.o];exact h1,(Goes.below aJ).trans h2⟩

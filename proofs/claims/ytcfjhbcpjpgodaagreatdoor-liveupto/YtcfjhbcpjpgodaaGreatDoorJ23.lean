import Derived.Test.YtcfjhbcpjpgodaaGreatDoorJ22
namespace Go.Proofs.YtcfjhbcpjpgodaaGreatDoor
open Go.RowKit Proofs.Tryz
set_option maxRecDepth 100000
set_option maxHeartbeats 0
set_option linter.all false
section
variable{nb kb cb:Nat}{s:za}{w:World}
theorem Tryz.zgS:(prog.info? 61).map (·.size)=some 7:=by kernel_rfl
def XC(s:za):Array Value:=#[iA s.zfF,iA s.round,iA s.step,iA s.lr,iA s.vr,sA s.lv,sA s.vv]
theorem ZS(nb kb cb:Nat)(V:yc)(s:za)(w:World)(hA:NodeAt nb kb cb V s w):
 Calls prog 20 #[pA nb 0] w λe w'=>e=.returned (.agg (XC s))/\BW w w':=by
 obtain⟨w1,aa⟩:=gen (w.alloc (.cells #[iA 0,iA 0,iA 0,iA 0,iA 0,sA ⟨#[]⟩,sA ⟨#[]⟩] 61));have ah:Hid (BW w w1):=by rw[aa];exact bwA w
 have al:Hid (w1.heap[w.heap.size]? =some (.cells #[iA 0,iA 0,iA 0,iA 0,iA 0,sA ⟨#[]⟩,sA ⟨#[]⟩] 61 (0,0))):=by rw[aa];exact zjC w _
 obtain⟨HA,an,aj⟩:=zS hA (hA.below ah) aa;clear hA aa;go_enter func20,ntmps20;go_wp2_with fail
 rw[<-aj.o];refine rgd (S:=λW=>NodeAt nb kb cb V s W) (an.o.frame λ_ _=>rfl) λhH=>?_;refine yd [0,2,3,4,5,6,7,8,9,10,11,12,13,14,15,16,17,18,19,20,21,22,23,24,25,26,27,28,29,30,31] hH (λx h=>aI (show cE x nb 43 (iA s.round) from h.cell 43 rfl) (aI (show cE x nb 44 (iA s.step) from h.cell 44 rfl) (aI (show cE x nb 39 (iA s.lr) from h.cell 39 rfl) (aI (show cE x nb 41 (iA s.vr) from h.cell 41 rfl) (aI (show cE x nb 40 (sA s.lv) from h.cell 40 rfl) (show cE x nb 42 (sA s.vv) from h.cell 42 rfl)))))) ?_;refine zv 1 λK hK=>?_;go_simp;refine(zH nb kb cb V s _ hH).mono ?_;rintro e w4 ⟨rfl,ad⟩;have ai:=ad.symm;clear ad;subst ai;refine hK.out _ _ hH λhH=>?_;clear hK K
 try simp only[AP,AQ]
 refine yd [32] hH (λ_ h=>h) ?_;refine zv 33 λK hK=>?_;rw[zj2 (by rfl)];refine zo 61 _ _ rfl w.heap.size 0 #[iA s.zfF,iA s.round,iA s.step,iA s.lr,iA s.vr,sA s.lv,sA s.vv] rfl rfl 61 #[iA 0,iA 0,iA 0,iA 0,iA 0,sA ⟨#[]⟩,sA ⟨#[]⟩] al.o (by simp) (by simp[Value.oneCell']) Tryz.zgS ?_;intro X ae af;have ak:Hid (cL X w.heap.size #[iA s.zfF,iA s.round,iA s.step,iA s.lr,iA s.vr,sA s.lv,sA s.vv] 61):=ae;have ag:Hid (BW w X):=ah.o.drew.trans (af.below (zjA _));refine hK.out _ _ (HA.o.below ag) λhH=>?_;clear hK K hH ae af;refine dnr ?_;go_wp2;exact zjT (v:=.agg (XC s)) (kx results20 _ _ w.heap.size 61 _ _ rfl ak underlying61 rfl Tryz.zgS) rfl ⟨rfl,ag⟩
def zeN(B:Nat)(es:List Addr)(m:Int)(F R:Nat->Prop)(nb kb rb n i:Nat)(s:za)(w:World)(e:Ending)(w':World):Prop:=
 ∃v cb' F',e=.returned v/\w'.ownsRow w.heap.size 9 1 v s.out.length (s.out.map .string)/\NodeW B es m F' R nb kb rb cb' n i { s with out:=[] } w'/\Goes F R w F' R w'/\∀g,v.ownBlock=some g->¬F' g
theorem NodeAt.sent{nc:Nat}{V:yc}{w':World}(hA:NodeAt nb kb cb V s w)(hb:w'.heap[nb]? =some (.cells (nodeA kb nc V { s with out:=[] }) 135 (0,0)))(hch:qX w' nc [])(hs:∀k,k<w.heap.size->k≠cb->k≠nb->w'.heap[k]? =w.heap[k]?):NodeAt nb kb nc V { s with out:=[] } w':=by
 obtain⟨n1,n2,n3,n4,n5,n6⟩:=hA.rows;exact⟨hb,hA.eds,zb hA.dec λg e hg=>hs g hg (λx=>yD hA.dec hA.chan (x▸e)) (λx=>n1 (x▸e)),λd hd=>zb (hA.cert d hd) λg e hg=>hs g hg (λx=>yD (hA.cert d hd) hA.chan (x▸e)) (λx=>n6 d hd (x▸e)),zb hA.wait λg e hg=>hs g hg (λx=>yD hA.wait hA.chan (x▸e)) (λx=>n2 (x▸e)),zb hA.log λg e hg=>hs g hg (λx=>yD hA.log hA.chan (x▸e)) (λx=>n3 (x▸e)),zb hA.ahead λg e hg=>hs g hg (λx=>yD hA.ahead hA.chan (x▸e)) (λx=>n4 (x▸e)),zb hA.tims λg e hg=>hs g hg (λx=>yD hA.tims hA.chan (x▸e)) (λx=>n5 (x▸e)),hch,hA.alog,hA.awc,hA.acc⟩
theorem XH{B:Nat}{es:List Addr}{m:Int}{F R:Nat->Prop}{rb n i:Nat}(h:NodeW B es m F R nb kb rb cb n i s w)(hlen:s.out.length<=100):
 Calls prog 31 #[pA nb 0] w (zeN B es m F R nb kb rb n i s w):=by
 obtain⟨V,hA,hf⟩:=h.node;obtain⟨HT,HH,HA,HF⟩:=qO (zcz nb 53 cb (nodeA kb cb V s) 135 s.out w hlen hA.blk rfl hA.chan) h hA hf;clear h hA hf;go_enter func31,ntmps31;go_wp2_with fail
 refine HT.o.mono ?_;rintro e w2 ⟨v,nc,rfl,aa,al,ad,af,ah,ak,ai,aj,ag,hs⟩;have hN:=HA.o.sent ah ad hs;have ae:Hid (zeN B es m F R nb kb rb n i s w (.returned v) w2):=by
  obtain⟨hW,hG⟩:=HH.o.zgK (F':=λk=>F k\/k=nc) (cb':=nc) (s':={ s with out:=[] }) ⟨V,hN,λk hk=>by
   rcases hk with h1|h1|h1
   .exact zj0 (HF k (zj0 h1))
   .exact zj1 h1
   .exact zj0 (HF k (zj1 (zj1 h1)))⟩ rfl (λk hk=>by
   rcases hk with h1|h1
   .exact zj0 h1
   .exact zj1 (by rw[h1];exact al)) (λk hk=>by
   rcases hk with h1|h1
   .exact zjE (HH.o.fl k h1).2 ag
   rw[h1];exact qT ad) ⟨ak,ai,aj,ag,λk hk hn=>hs k hk (λe=>hn (e▸HF cb (zj1 (zj0 rfl)))) (λe=>hn (e▸HF nb (zj0 rfl)))⟩
  refine⟨v,nc,_,rfl,aa,hW,hG,λg hg hF=>?_⟩;rcases hF with h1|h1
  .have h2:=(HH.o.fl g h1).2;have h3:=(aa.lt g hg).1;omega
  exact af g hg h1
 clear hN aa ad af ah hs HT;go_wp2;go_ret;exact ae
end
section
variable{s:za}
theorem V4{B:Nat}{es:List Addr}{m:Int}{F R:Nat->Prop}{nb kb rb cb n i N:Nat}{w:World}(h:NodeW B es m F R nb kb rb cb n i s w)(ok:YI N s)(hno:∀q,q<=20->s.zgk q=none):
 Calls prog 108 #[pA nb 0] w (yC B es m F R nb kb rb cb n i (false,s) w):=by
 obtain⟨V,hA,hf⟩:=h.node;refine(Kw (λb w'=>b=false/\BW w w') hA h.bl h.glob ok (λp r hr _ hp=>?_) (λ_ W hW=>⟨rfl,hW⟩)).mono ?_
 .rw [hno r hr] at hp;cases hp
 rintro e w' ⟨b,rfl,rfl,hb⟩;exact yC.same h hb
theorem Js(x:Nat->Int)(b:Nat->Bool)(h:∀i,b i=false):∀k,powB x b k=0
 |0=>rfl
 |k+1=>by
  unfold powB;rw[h k,Js x b h k];simp
theorem km{t:Int}{x:Nat->Int}{fits:zl->Bool}{l:List zl}(hx:Dom x)(ht:0<=t)(h:∀e∈l,fits e=false):yg t x (sendB fits l)=false:=by
 have hb:∀i,sendB fits l i=false:=λi=>by
  unfold sendB;rw[List.any_eq_false];intro e he;rw[h e he];simp
 unfold yg;rw[Js x _ hb 8];have h1:=(kJ x 8 (λi _=>hx i)).1;have h2:0<=t*sumTo x 8:=Int.mul_nonneg ht h1;exact zjR (by omega)
def four:Nat->Int:=regOf (λ_=>1) 4
theorem zdp:vB (λ_=>1) 4=(four,true):=by
 rw[Yl _ 4 (by decide) (λi _=>⟨by show(0:Int)<=1;decide,by show(1:Int)<=9;decide⟩)];rfl
theorem x7:Dom four:=λi=>by
 unfold four regOf;split
 .exact ⟨by show(0:Int)<=1;decide,by show(1:Int)<=9;decide⟩
 .exact ⟨by decide,by decide⟩
theorem QF:0<sumTo four 8:=by decide
def zeg:kE:=⟨1,0,0,0,-1,false,⟨#[]⟩⟩
def zfp:kE:=⟨2,0,0,0,0,false,⟨#[]⟩⟩
def fr1:zj5:=Gm 1 0 0 0 (-1) false ⟨#[]⟩
def fr2:zj5:=Gm 2 0 0 0 0 false ⟨#[]⟩
def sg0:Nat->List zj5:=λ_=>[]
def vK:za:=⟨four,[],[],[⟨zeg,fr1,true⟩],[],-1,⟨#[]⟩,-1,⟨#[]⟩,0,1,false,false,false,false,0,[],0,[fr1],signR sg0 0 fr1⟩
def zV:za:=⟨four,[],[],[⟨zeg,fr1,true⟩,⟨zfp,fr2,true⟩],[],-1,⟨#[]⟩,-1,⟨#[]⟩,0,2,false,false,false,false,0,[],0,[fr1,fr2],signR (signR sg0 0 fr1) 0 fr2⟩
theorem zdF:((yJ four sg0).zfK []).zfH 0 0=vK:=by
 unfold za.zfH;rw[zj2 (by decide)];have hv:((yJ four sg0).zfK []).vr= -1:=rfl;rw[hv,zj2 (by decide)];rw[ZV (by decide) (by decide)];rfl
theorem zdE:(vK.zfI 0 2 0 false ⟨#[]⟩).zfO 2=zV:=by
 rw[ZV (by decide) (by decide)];rfl
theorem gl(e:zl)(h:e∈zV.log):e=⟨zeg,fr1,true⟩\/e=⟨zfp,fr2,true⟩:=by
 rcases List.mem_cons.1 h with h|h
 .exact zj0 h
 rcases List.mem_cons.1 h with h|h
 .exact zj1 h
 cases h
theorem YD(e:zl)(h:e∈vK.log):e∈zV.log:=by
 rcases List.mem_cons.1 h with h|h
 .rw [h];exact zjV
 cases h
theorem Vd(e:zl)(h:e∈zV.log):Xp e:=by
 rcases gl e h with rfl|rfl
 .exact ⟨by decide,by decide,by decide,by decide,by decide⟩
 exact⟨by decide,by decide,by decide,by decide,by decide⟩
theorem zcl(r:Int)(t:zj5)(e:zl)(h:e∈zV.log):votesForB 3 r t e=false:=by
 rcases gl e h with rfl|rfl<;>simp[votesForB,zeg,zfp]
theorem Ve(hx:s.x=four)(hl:∀e∈s.log,e∈zV.log)(q:Nat):s.zgk q=none:=by
 refine gF λe _=>?_;have hm:s.most (votesForB 3 (q:Int) e.m.s)=false:=by
  unfold za.most;rw[hx];exact km x7 (by decide) (λe' aa=>zcl _ _ e' (hl e' aa))
 unfold jC;simp[hm]
theorem Zm(hx:s.x=four)(hr:s.round=0)(hl:∀e∈s.log,e∈zV.log):s.zf1 0=(false,s):=by
 refine vC λr h1 h2=>?_;have hm:yg 1 s.x (sendB (λe=>decide (e.m.r=(r:Int))) s.log)=false:=by
  rw[hx];refine km x7 (by decide) λe he=>?_;rw[hr] at h1;rcases gl e (hl e he) with rfl|rfl
  .exact zjR (by show¬(0:Int)=(r:Int);omega)
  exact zjR (by show¬(0:Int)=(r:Int);omega)
 unfold za.zfV;rw[hm,Bool.and_false]
def Gy(s:za):Prop:=YI 100 s/\(s.sg 0).length<=1000000000000/\∀q,q<=20->s.zgk q=none
theorem KK:(vK.sg 0).length<=1:=by
 show(signR sg0 0 fr1 0).length<=1;unfold signR sg0;split<;>simp
theorem zaC:(zV.sg 0).length<=2:=by
 show(signR (signR sg0 0 fr1) 0 fr2 0).length<=2;have h1:(signR sg0 0 fr1 0).length<=1:=KK;generalize signR sg0 0 fr1=z at h1 ⊢;unfold signR;split
 .simp;omega
 omega
theorem zdH:Gy vK:=⟨⟨x7,QF,by decide,by decide,by decide,by decide,by decide,by decide,by decide,λe he=>Vd e (YD e he),λe he=>(by cases he),by decide,λt ht=>(by cases ht),by decide⟩,by have:=KK;omega,λq _=>Ve rfl YD q⟩
theorem zdG:Gy zV:=⟨⟨x7,QF,by decide,by decide,by decide,by decide,by decide,by decide,by decide,λe he=>Vd e he,λe he=>(by cases he),by decide,λt ht=>(by cases ht),by decide⟩,by have:=zaC;omega,λq _=>Ve rfl (λe he=>he) q⟩
def zas(s:za):Bool×za:=(false,s)
theorem zcm:vK.zfU 0 newB=(true,zV):=by
 rw[YC (p:=⟨zeg,fr1,true⟩) rfl rfl (by unfold za.zgP;rw[show vK.zgc (⟨zeg,fr1,true⟩:zl).m.s=true from congrArg Prod.snd (Zl four ⟨#[]⟩ rfl)];decide)];rw[show(⟨zeg,fr1,true⟩:zl).m.s=⟨#[]⟩ from rfl,zdE]
theorem KJ:vK.zfT zas 0=(true,zV):=by
 unfold za.zfT;rw[zj3 (by unfold zas;exact zjX),Zm rfl rfl YD,zj3 zjX,zcm,zj2 rfl]
theorem zaD:zV.zgF=none:=by
 refine gF λe he=>?_;have hm:zV.most (votesForB 2 0 e.m.s)=false:=by
  rcases gl e he with rfl|rfl
  .decide
  decide
 unfold jC;rw[show((zV.round:Nat):Int)=0 from rfl];simp only[hm,Bool.false_and,Bool.and_false]
theorem zaB:(zV.zfT zas 0).1=false:=by
 have h2:¬zV.step=1:=by decide
 unfold za.zfT;rw[zj3 (by unfold zas;exact zjX),Zm rfl rfl (λe he=>he),zj3 zjX,yR h2,zj3 zjX,yR h2,zj3 zjX,qE zaD,zj3 zjX];have hg:zV.zf4 0=(false,zV):=by
  unfold za.zf4;rw[zj3 (λh=>by have h1:=h.2;revert h1;decide)]
 have hw:zV.zf7=(false,zV):=by
  unfold za.zf7;rw[zj3 (λh=>by have h1:=h.2.2;revert h1;decide)]
 have aa:zV.zf9=(false,zV):=by
  unfold za.zf9;rw[zj3 (λh=>by have h1:=h.2;revert h1;decide)]
 rw[hg,zj3 zjX,hw,zj3 zjX,aa]
theorem zck:RunTo zas 0 Gy zV 1 (((yJ four sg0).zfK []).zfH 0 0):=by
 rw[zdF];refine⟨zdH,by rw[KJ],?_⟩;rw[KJ];exact⟨zdG,zaB,rfl⟩

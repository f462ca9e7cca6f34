import Derived.Test.YtcfjhbcpjpgodaaGreatDoorJ32
import Derived.Test.YtcfjhbcpjpgodaaGreatDoorExpire
import Derived.Test.YtcfjhbcpjpgodaaGreatDoorJ34
namespace Go.Proofs.YtcfjhbcpjpgodaaGreatDoor
open Go.RowKit Proofs.Tryz
set_option maxRecDepth 100000
set_option maxHeartbeats 0
set_option linter.all false
variable{B nb kb rb cb n i g f:Nat}{es:List Addr}{m:Int}{F R:Nat->Prop}{s:za}{w:World}{t:zU}
theorem Tryz.zgz:(prog.info? 177).map (·.size)=some 3:=by kernel_rfl
theorem zab(L:List zl)(w:World):FitsAt 93 #[] (λe=>e.own) L w:=by
 intro W e he hW;obtain⟨⟨K,H,R,f,v,nl,t⟩,fr,own⟩:=e;show Calls prog 93 #[.agg #[iA K,iA H,iA R,iA f,iA v,bA nl,sA t,sA fr,bA own]] W _;have hc:cN (W.alloc (.cells #[iA K,iA H,iA R,iA f,iA v,bA nl,sA t,sA fr,bA own] 164)) W 8 (bA own):=zjD _ W.heap.size 8 _ _ _ (zjC W _);have aa:Hid (BW W (W.alloc (.cells #[iA K,iA H,iA R,iA f,iA v,bA nl,sA t,sA fr,bA own] 164))):=bwA W;clear he hW;go_enter func93,ntmps93;go_wp2;go_ret;exact⟨rfl,aa⟩
theorem NodeW.only{w':World}(h:NodeW B es m F R nb kb rb cb n i s w)(ho:kq g w w')(hF:¬F g)(hR:¬R g)(hk:g≠kb)(hB:B<=g):NodeW B es m F R nb kb rb cb n i s w' where
 node:=h.node.frame λk hk=>ho.block k (λe=>hF (e▸hk))
 ring:=h.ring.frame λk hk=>ho.block k (λe=>hR (e▸hk))
 key:=h.key.keep (ho.block kb (λe=>hk e.symm))
 idn:=h.idn
 fr:=h.fr
 kf:=h.kf
 kr:=h.kr
 fl:=λk hk=>⟨(h.fl k hk).1,by rw[ho.size];exact(h.fl k hk).2⟩
 rl:=λk hk=>⟨(h.rl k hk).1,by rw[ho.size];exact(h.rl k hk).2⟩
 glob:=h.glob.same λk hk=>ho.block k (λe=>by omega)
 bl:=by rw[ho.size];exact h.bl
theorem Goes.new{F' R':Nat->Prop}{w1 w2:World}(h:Goes F R w F' R' w1)(ho:kq g w1 w2)(hg:w.heap.size<=g):Goes F R w F' R' w2:=
 ⟨h.ff,h.rr,⟨ho.os.trans h.same.os,ho.tape.trans h.same.tape,ho.output.trans h.same.output,by rw[ho.size];exact h.same.size,λk hk hn=>(ho.block k (λe=>by omega)).trans (h.same.block k hk hn)⟩⟩
theorem NodeW.zhi{t:Nat}(h:NodeW B es m F R nb kb rb cb n i s w)(e:s.time=t):w.cell? (aA nb 50)=some (iA t):=by
 obtain⟨V,hA,hf⟩:=h.node;rw[<-e];exact hA.cell 50 rfl
theorem NodeW.zjf(h:NodeW B es m F R nb kb rb cb n i s w):nb<w.heap.size:=by
 obtain⟨V,hA,hf⟩:=h.node;exact zg hA.blk
theorem Kd(s:za):s.zgp.time=s.time:=by
 unfold za.zgp;split<;>rfl
theorem G2(h:s.zgw=some t):∃l,s.tims=t::l/\t.due<=(s.time:Int):=by
 unfold za.zgw at h;split at h
 .cases h
 rename_i t' l e;split at h
 .rename_i hd;cases h;exact⟨l,e,hd⟩
 cases h
theorem zb1(h:s.zgw=none):za.zf0 i (f+1) s=s:=by
 unfold za.zgw at h;rw[za.zf0];split at h
 .rename_i e;rw[e]
 rename_i t l e;rw[e];split at h
 .cases h
 rename_i hd;simp only
 rw[zj3 hd]
theorem zb2{l:List zU}(h:s.tims=t::l)(hd:t.due<=(s.time:Int)):za.zf0 i (f+1) s=za.zf0 i f ((s.zfQ.zga i t).zge i):=by
 rw[za.zf0,h];simp only
 rw[zj2 hd]
def zeG(d:xC):xC:={ d with told:=false }
def za.zhv(s:za)(j:Nat):za:={ s with time:=s.time+1,dec:=(s.dec.take j).map zeG++s.dec.drop j }
theorem QJ(s:za)(j:Nat):(s.zhv j).dec.length=s.dec.length:=by
 show((s.dec.take j).map zeG++s.dec.drop j).length=_;simp;omega
theorem zdB(s:za)(j:Nat)(hj:j<s.dec.length):{ s.zhv j with dec:=(s.zhv j).dec.set j { (s.zhv j).dec.getD j yr with told:=false } }=s.zhv (j+1):=by
 have h1:(s.zhv j).dec=(s.dec.take j).map zeG++s.dec[j]::s.dec.drop (j+1):=by
  show(s.dec.take j).map zeG++s.dec.drop j=_;rw[List.drop_eq_getElem_cons hj]
 have hl:((s.dec.take j).map zeG).length=j:=by simp;omega
 have h2:(s.zhv j).dec.getD j yr=s.dec[j]:=by
  rw[h1,zjK,zjM (by omega),hl,Nat.sub_self];rfl
 have h3:(s.zhv j).dec.set j { (s.zhv j).dec.getD j yr with told:=false }=(s.zhv (j+1)).dec:=by
  rw[h2,h1,List.set_append_right _ _ (by omega),hl,Nat.sub_self,List.set_cons_zero];show _=(s.dec.take (j+1)).map zeG++s.dec.drop (j+1);rw[<-List.take_append_getElem hj,List.map_append,List.append_assoc];rfl
 show({ s with time:=s.time+1,dec:=(s.zhv j).dec.set j { (s.zhv j).dec.getD j yr with told:=false } }:za)={ s with time:=s.time+1,dec:=(s.zhv (j+1)).dec };rw[h3]
theorem zeF(s:za):s.zhv s.dec.length=s.zfN:=by
 show { s with time:=s.time+1,dec:=(s.dec.take s.dec.length).map zeG++s.dec.drop s.dec.length }=_;rw[zke,List.drop_length,List.append_nil];rfl
theorem KZ{S T:Nat}(h:NodeW B es m F R nb kb rb cb n i s w)(ok:NOk S T i 0 s)(hT:T+1<=1000000000000)(hS:S<=900000000000):
 Calls prog 41 #[pA nb 0] w λen w'=>en=.returned (.tuple #[])/\∃F' R',NodeW B es m F' R' nb kb rb cb n i (s.zfW i) w'/\Goes F R w F' R' w':=by
 obtain⟨V,hA,hf⟩:=h.node;have c50:cE w nb 50 (iA s.time):=hA.cell 50 rfl;have f50:w.frozen? (aA nb 50)=false:=hA.frozen 50;have b6:=ok.time;have hwt:IntKind.i64.wrap ((s.time:Int)+1)=(s.time:Int)+1:=wrap_small _ (by omega) (by omega);have hdl:s.dec.length<=12:=ok.hgt;obtain⟨wa,bg⟩:=gen (w.setCell (aA nb 50) (iA ((s.time:Int)+1)));have a7:NodeW B es m F R nb kb rb cb n i (s.zhv 0) wa/\Goes F R w F R wa:=by
  rw[bg];refine h.cellAt (s':=s.zhv 0) hA hf ?_ (zf _ _ _ _) rfl rfl rfl rfl rfl rfl rfl;rw[setCell_row hA.blk 50 _];rfl
 obtain⟨dp,dc,hdv⟩:∃dp dc,wa.cell? (aA nb 35)=some (.slice dp s.dec.length dc):=by
  obtain⟨V1,aw,_⟩:=a7.1.node;obtain⟨p,c,e⟩:=zm aw.dec;have h1:cE wa nb 35 V1.dv:=aw.cell 35 rfl;have h2:V1.ds.length=s.dec.length:=by
   have e:=congrArg List.length aw.eds;rw[List.length_map,QJ] at e;exact e
  rw[e,h2] at h1;exact⟨p,c,h1⟩
 obtain⟨bQ,bW,cr,HOK⟩:=qO a7.1 a7.2 bg ok;have ar:Hid (NOk S (T+1) i 0 s.zfN):=ok.zfN;obtain⟨HT,HS⟩:=zn hT hS;clear h hA hf ok hT hS b6 a7 bg;go_enter func41,ntmps41
 go_upto_region 1 with fail
 rw[<-cr.o];go_wp2;go_loopw [2,17] (λ_ iv wr=>∃j:Nat,j<=s.dec.length/\iv=iA j/\NodeW B es m F R nb kb rb cb n i (s.zhv j) wr/\Goes F R w F R wr) (λ_ iv _=>s.dec.length-(intOf iv).toNat)
 case atStart=>exact⟨0,zjG _,rfl,bQ,bW⟩
 obtain⟨j,hj,rfl,bM,bO⟩:=hrel;obtain⟨bb,bC⟩:=zn bM bO;clear bM bO bQ bW;by_cases ax:j=s.dec.length
 .have hge:¬(j:Int)<s.dec.length:=by omega
  obtain⟨w1,b5⟩:=gen wr;subst b5;have ai:Hid (NodeW B es m F R nb kb rb cb n i s.zfN w1):=by
   have h1:=bb.o;rw[ax,zeF] at h1;exact h1
  have a6:=zc bC;clear ax bb bC;obtain⟨s1,bk⟩:=gen s.zfN;have bT:=zc bk;rw[<-bk] at ai ar;clear bk;obtain⟨x,hx⟩:=gen s1.zgw;have a8:s1.zgp.time=s1.time:=Kd s1;obtain⟨R1,bt⟩:=gen R;have af:Hid (∀W,NodeW B es m F R1 nb kb rb cb n i s1 W->Calls prog 89 #[pA nb 51,iA s1.time] W λe w'=>e=.returned (zcw x)/\∃F',NodeW B es m F' R1 nb kb rb cb n i s1.zgp w'/\Goes F R1 W F' R1 w'):=λW hW=>by
   have h1:=Za hW (by have h2:=ar.o.tims;have h3:=(ar.o.st (by omega) HT.o HS.o).1.tb;omega);rw[<-hx] at h1;exact h1
  have cp:=zc hx;have C50:Hid (cE w1 nb 50 (iA s1.time)):=ai.o.zhi rfl;have bw:Hid (w.heap.size<=w1.heap.size):=a6.o.same.size;have cz:Hid (nb<w1.heap.size):=ai.o.zjf;rw[<-bt] at ai a6;have cu:=zc bt;clear hx bt
  go_upto_region 6 with fail
  go_cut [3,4] (λu3 u4 wc=>∃tb F2,u3=pA tb 0/\u4=bA x.isSome/\cL wc tb (gA (x.getD kS)) 177/\¬F2 tb/\¬R1 tb/\w.heap.size<=tb/\NodeW B es m F2 R1 nb kb rb cb n i s1.zgp wc/\Goes F R1 w F2 R1 wc)
  case first=>
   refine rgd (S:=λW=>cE W nb 50 (iA s1.time)) C50.o λhH=>?_;refine yd [0,1,2,3,4,5,6] hH (λx h=>h) ?_;refine Jp 7 11 (λK hK=>?_) λK hK=>?_
   .go_simp;refine(af _ (ai.o.below ((zjB _ w1).drew))).mono ?_;rintro en X2 ⟨rfl,F2,ad,ae⟩;have aq:cE X2 nb 50 (iA s1.time):=ad.zhi a8;refine hK.out _ _ aq λhH=>?_;clear hK K
    try simp only[AP,AQ]
    refine takeN [(8,some 28,zcw x),(9,some 37,.agg (gA (x.getD kS))),(10,some 38,bA x.isSome)] _ _ hH (by repeat(first|exact zj7|((first|(refine tkc rfl rfl (zj0 ⟨by rfl,λx h=>?_⟩) ?_;focus(unfold zcw;go_simp;done))|(refine tkc rfl rfl (zj0 ⟨by rfl,λx h=>?_⟩) ?_;focus(go_simp;done)));simp only[AP]))) ?_;simp only[ze,AP];refine zv 11 λK hK=>?_;go_simp;obtain⟨X3,aa⟩:=gen (X2.alloc (.cells #[iA 0,iA 0,iA 0] 177));have aF:BW X2 X3:=by rw[aa];exact bwA X2
    have aN:X3.heap[X2.heap.size]? =some (.cells #[iA 0,iA 0,iA 0] 177 (0,0)):=by rw[aa];exact zjC X2 _
    rw[<-aa];refine hK.out _ _ (Ext.cell aq (Ext.of aF)) λhH=>?_;clear hK K aa
    try simp only[AP,AQ]
    refine zv 12 λK hK=>?_;rw[zj2 (by rfl)];refine zo 177 _ _ rfl X2.heap.size 0 (gA (x.getD kS)) rfl rfl 177 #[iA 0,iA 0,iA 0] aN (by simp[gA]) (by simp[gA,Value.oneCell']) (by rw[Tryz.zgz];rfl) ?_;intro X aE ao;have ah:cL X X2.heap.size (gA (x.getD kS)) 177:=aE;have br:BW X2 X:=aF.trans (ao.below (zjA _));refine hK.out _ _ (Ext.cell aq (Ext.of br)) λhH=>?_;clear hK K
    try simp only[AP,AQ]
    refine yd [13] hH (λ_ h=>h) ?_;refine dnr ?_;go_wp2_with fail
    go_meet
    case rel=>exact⟨X2.heap.size,F2,rfl,rfl,ah,(λh=>by have:=(ad.fl _ h).2;omega),(λh=>by have:=(ad.rl _ h).2;omega),zjF bw.o (zjF (zjA _) ae.same.size),ad.below br,a6.o.trans ((Goes.below ((zjB _ w1).drew)).trans (ae.trans (Goes.below br)))⟩
   go_simp;obtain⟨X3,aa⟩:∃z,z=(w1.alloc (.cells #[iA 0,iA 0,iA 0] 177)).drew:=⟨_,rfl⟩;have aF:BW w1 X3:=by rw[aa];exact(bwA w1).drew
   have aN:X3.heap[w1.heap.size]? =some (.cells #[iA 0,iA 0,iA 0] 177 (0,0)):=by rw[aa];exact zjC w1 _
   rw[<-aa];refine hK.out _ _ (Ext.cell C50.o (Ext.of aF)) λhH=>?_;clear hK K aa
   try simp only[AP,AQ]
   refine zv 7 λK hK=>?_;go_simp;refine(af _ (ai.o.below aF)).mono ?_;rintro en X2 ⟨rfl,F2,ad,ae⟩;have aq:cE X2 nb 50 (iA s1.time):=ad.zhi a8;have ba:X2.heap[w1.heap.size]? =some (.cells #[iA 0,iA 0,iA 0] 177 (0,0)):=(ae.same.block _ (zg aN) (λh=>h.elim (λh=>by have:=(ai.o.fl _ h).2;omega) (λh=>by have:=(ai.o.rl _ h).2;omega))).trans aN;refine hK.out _ _ aq λhH=>?_;clear hK K
   try simp only[AP,AQ]
   refine takeN [(8,some 28,zcw x),(9,some 37,.agg (gA (x.getD kS))),(10,some 38,bA x.isSome)] _ _ hH (by repeat(first|exact zj7|((first|(refine tkc rfl rfl (zj0 ⟨by rfl,λx h=>?_⟩) ?_;focus(unfold zcw;go_simp;done))|(refine tkc rfl rfl (zj0 ⟨by rfl,λx h=>?_⟩) ?_;focus(go_simp;done)));simp only[AP]))) ?_;simp only[ze,AP];refine zv 12 λK hK=>?_;rw[zj2 (by rfl)];refine zo 177 _ _ rfl w1.heap.size 0 (gA (x.getD kS)) rfl rfl 177 #[iA 0,iA 0,iA 0] ba (by simp[gA]) (by simp[gA,Value.oneCell']) (by rw[Tryz.zgz];rfl) ?_;intro X aE ao;have ah:cL X w1.heap.size (gA (x.getD kS)) 177:=aE;have aj:¬F2 w1.heap.size:=λh=>(ae.ff _ h).elim (λh=>by have:=(ai.o.fl _ h).2;omega) (λh=>by have:=zg aN;omega);have av:¬R1 w1.heap.size:=λh=>by have:=(ai.o.rl _ h).2;omega
   have ca:w1.heap.size≠kb:=λe=>by have:=ai.o.key.lt;omega
   have cl:B<=w1.heap.size:=ai.o.bl;refine hK.out _ _ ((ao.cell (p:=(aA nb 50)) (λe=>by have h1:=cz.o;have h2:nb=w1.heap.size:=e;omega)).trans aq) λhH=>?_;clear hK K
   try simp only[AP,AQ]
   refine yd [13] hH (λ_ h=>h) ?_;refine dnr ?_;go_wp2_with fail
   go_meet
   case rel=>exact⟨w1.heap.size,F2,rfl,rfl,ah,aj,av,bw,ad.only ao aj av ca cl,(a6.o.trans ((Goes.below aF).trans ae)).new ao bw⟩
  obtain⟨tb,F2,rfl,rfl,hq,aj,av,aM,ad,ae⟩:=hcut;have an:Hid (∃(s':za) (F' R':Nat->Prop) (tb':Nat) (x':Option zU),Value.pointer (some (aA tb 0))=pA tb' 0/\Value.bool x.isSome=bA x'.isSome/\x'=s'.zgw/\wc.heap[tb']? =some (.cells (gA (x'.getD kS)) 177 (0,0))/\¬F' tb'/\¬R' tb'/\w.heap.size<=tb'/\NodeW B es m F' R' nb kb rb cb n i s'.zgp wc/\Goes F R w F' R' wc/\NOk S (T+1) i 0 s'/\s'.zgV<=s.tims.length/\za.zf0 i (s.tims.length+1) s'=za.zf0 i (s.tims.length+1) s.zfN):=by
   refine⟨s1,F2,R1,tb,x,rfl,rfl,cp,hq,aj,av,aM,ad,?_,ar,?_,by rw[bT.o]⟩
   .rw [cu.o] at ae ⊢;exact ae
   rw[bT.o];exact List.countP_le_length
  clear hq aj av aM ad ae af ai a6;go_wp2
  go_loopg [3,4] s.tims.length (λq u3 u4 wr=>∃(s':za) (F' R':Nat->Prop) (tb:Nat) (x:Option zU),u3=pA tb 0/\u4=bA x.isSome/\x=s'.zgw/\cL wr tb (gA (x.getD kS)) 177/\¬F' tb/\¬R' tb/\w.heap.size<=tb/\NodeW B es m F' R' nb kb rb cb n i s'.zgp wr/\Goes F R w F' R' wr/\NOk S (T+1) i 0 s'/\s'.zgV<=q/\za.zf0 i (q+1) s'=za.zf0 i (s.tims.length+1) s.zfN)
  case atStart=>exact an
  obtain⟨s',F0,R0,tb,x,rfl,rfl,hx,hq,aj,av,aM,bN,bP,bH,bK,aR⟩:=hrel;obtain⟨az,bd,au,b0,aD,bV,bU,cq⟩:=jR bN bP bH bK aR aj av aM;have HQ:=zc hq;clear bN bP bH bK aR aj av aM hq an;cases x with
  |none=>
   have HX:=zc hx.symm;clear hx;have bx:Hid (za.zf0 i (s.tims.length+1) s.zfN=s'):=by
    rw[<-aD.o];exact zb1 HX
   have aO:s'.zgp=s':=by
    unfold za.zgp;rw[HX.o];rfl
   rw[aO] at az;clear aO;obtain⟨sF,bF⟩:=gen s';rw[<-bF] at bx az au HX aD;clear bF;obtain⟨w9,b3⟩:=gen wr;subst b3;have ct:=zc az;obtain⟨V9,bu,cd⟩:=az.o.node;obtain⟨lp,lc,-,c37,b8,hle⟩:=bu.logAt;have c50:cE w9 nb 50 (iA sF.time):=bu.cell 50 rfl;have C37:=zc c37;have cC:Hid (∀W,BW w9 W->Calls prog 92 #[.slice lp sF.log.length lc,.func (.func 93) #[] #[]] W λe w'=>∃v,e=.returned v/\w'.ownsRow W.heap.size 9 1 v (zJ (λe=>e.own) sF.log).length ((zJ (λe=>e.own) sF.log).map .string)/\BW W w'):=λW hW=>Kk 93 #[] (λe=>e.own) sF.log lp lc W (enters_of func93 (by decide) rfl) (hle.ext (Ext.of hW)) (by have:=(au.o.lens (by omega)).1;omega) (zab sF.log W);have cA:Hid (sF.log.length<=2000):=(au.o.lens (by omega)).1;clear bu cd b8 hle c37;by_cases h5:sF.time % 5=0;focus
    have q5:((sF.time:Int).tmod 5==0)=true:=by rw[beq_iff_eq,Int.tmod_eq_emod_of_nonneg (by omega)];omega
    go_upto_region 14 with fail
    refine rgd (S:=λW=>cE W nb 37 (.slice lp sF.log.length lc)) C37.o λhH=>?_;refine yd [0,1,2,3,4,5,6] hH (λx h=>h) ?_;refine zv 7 λK hK=>?_;go_simp;refine(cC _ ((zjB _ w9).drew)).mono ?_;rintro en X2 ⟨v5,rfl,bE,cj⟩;obtain⟨p5,c5,rfl,hm5,b9⟩:=kV bE;have bs:BW w9 X2:=(zjB _ w9).drew.trans (cj.mono (zjA _));refine hK.out _ _ (Ext.cell C37.o (Ext.of bs)) λhH=>?_;clear hK K
    try simp only[AP,AQ]
    have aH:=ct.o.below bs;obtain⟨V5,aK,cf⟩:=aH.node;have aW:=zc (Qf nb 53 cb (zJ (λe=>e.own) sF.log).length c5 p5 (λj=>(zJ (λe=>e.own) sF.log).getD j zj4) sF.out X2 (by have h1:=vY (λe=>e.own) sF.log;have h2:=cA.o;omega) aK.nc aK.chan (aK.cell 53 rfl) (λj hj=>by
     obtain⟨b,o,hp,hbl,aS⟩:=b9 j hj;refine⟨b,o,hp,λe=>?_,aS⟩;exact yD bE aK.chan (by rw[hp,e];rfl)))
    rw[XM] at aW;refine zv 8 λK hK=>?_;go_simp;refine aW.o.mono ?_;rintro en X3 ⟨rfl,bq,bI⟩;obtain⟨aG,aJ⟩:=aH.zgX bq bI;refine hK.out _ _ (bI.cell hH aK.nc) λhH=>?_;clear hK K
    try simp only[AP,AQ]
    refine dnr ?_;have ag:Hid (NodeW B es m F0 R0 nb kb rb cb n i (s.zfW i) X3/\Goes F R w F0 R0 X3):=by
     unfold za.zfW za.again;rw[bx.o,zj2 h5];exact⟨aG,bd.o.trans ((Goes.below bs).trans aJ)⟩
    clear aG aJ aH aK cf
   rotate_left;focus
    have q5:((sF.time:Int).tmod 5==0)=false:=by rw[zjY,Ne,Int.tmod_eq_emod_of_nonneg (by omega)];omega
    have ag:Hid (NodeW B es m F0 R0 nb kb rb cb n i (s.zfW i) w9/\Goes F R w F0 R0 w9):=by
     unfold za.zfW za.again;rw[bx.o,zj3 h5];exact⟨az,bd⟩
   rotate_left;all_goals
    go_wp2;first|exact bodyPost_end (v:=.tuple #[]) (by simp[results,results41]) rfl ⟨rfl,F0,R0,ag.o.1,ag.o.2⟩|exact zjT (v:=.tuple #[]) (by simp[results,results41]) rfl ⟨rfl,F0,R0,ag.o.1,ag.o.2⟩
  |some t=>
   have HX:=zc hx.symm;clear hx;have aB:=zc (au.o.pop);have aO:s'.zgp=s'.zfQ:=by
    unfold za.zgp;rw[HX.o];rfl
   rw[aO] at az;clear aO;obtain⟨tl,bh,bp⟩:=G2 HX;have al:=zc (Gp (i:=i) bh bp);obtain⟨q,hq⟩:∃q,gk=q+1:=⟨gk-1,by have h1:=al.o;have h2:=b0.o;omega⟩;subst hq;obtain⟨cB,aX⟩:=zn (zb2 (i:=i) (f:=q+1) bh bp) (aB.o.exp (t:=t));have bf:=zc (aX.o.runs.2);obtain⟨s2,bj⟩:∃z,z=(s'.zfQ.zga i t).zge i:=⟨_,rfl⟩;rw[<-bj] at al bf;have bS:=zc bj;clear bj bh bp;obtain⟨w4,b4⟩:=gen wr;subst b4;have bZ:=zc (zap t az.o (aB.o.st (by omega) HT.o HS.o).1 (by omega) (aB.o.st (by omega) HT.o HS.o).2);go_wp2_with (first|(refine zkb rfl 177 _ rfl tb rfl 177 (gA t) (0,0) _ HQ underlying177 rfl (by rw[Tryz.zgz];rfl) ?_)|fail)
   refine bZ.o.mono ?_;rintro en w5 ⟨rfl,F5,R5,aH,aT⟩;have bm:cL w5 tb (gA t) 177:=(aT.same.block _ (zg HQ) (λh=>h.elim bV bU)).trans HQ;have aQ:¬F5 tb:=λh=>(aT.ff _ h).elim bV.o (λh=>by have:=zg HQ.o;omega);have aP:¬R5 tb:=λh=>(aT.rr _ h).elim bU.o (λh=>by have:=zg HQ.o;omega);obtain⟨bY,aZ⟩:=zn aT (Ge aH aX HT HS);clear aH aT bZ;go_wp2_with fail
   refine aZ.o.mono ?_;rintro en w6 ⟨rfl,F6,R6,aG,aJ⟩;have cx:Hid (cL w6 tb (gA t) 177):=(aJ.same.block _ (zg bm) (λh=>h.elim aQ aP)).trans bm;rw[<-bS.o] at aG;obtain⟨aL,bX⟩:=zn aG aJ;clear aG aJ aZ bm aQ aP
   go_upto_region 8 with(first|(refine zkb rfl 177 _ rfl tb rfl 177 (gA t) (0,0) _ cx underlying177 rfl (by rw[Tryz.zgz];rfl) ?_)|(refine zh rfl 177 _ _ rfl w6 (gA t) rfl rfl 177 _ rfl (by simp[gA,Value.oneCell']) (by rw[Tryz.zgz];rfl) ?_;intro w8 bG bL b2;have bc:=zc bG;have b1:=zc bL;clear bG bL b2)|fail)
   have bR:=zc (aL.o.below b1);obtain⟨tb2,ak⟩:=gen w6.heap.size;rw[<-ak] at bc;rw[<-ak];have aY:Hid (¬F6 tb2):=λh=>by have:=(aL.o.fl _ h).2;omega
   have aC:Hid (¬R6 tb2):=λh=>by have:=(aL.o.rl _ h).2;omega
   have bz:Hid (tb2≠nb):=λe=>by have h1:=aL.o.zjf;omega
   have bB:Hid (tb2≠kb):=λe=>by have h1:=aL.o.key.lt;omega
   have bD:Hid (B<=tb2):=by rw[ak];exact aL.o.bl
   have aU:Hid (w.heap.size<=tb2):=by rw[ak];exact zjF bd.o.same.size (zjF bY.o.same.size bX.o.same.size)
   clear ak;obtain⟨x,hx⟩:=gen s2.zgw;have a8:s2.zgp.time=s2.time:=Kd s2;have af:Hid (∀W,NodeW B es m F6 R6 nb kb rb cb n i s2 W->Calls prog 89 #[pA nb 51,iA s2.time] W λe w'=>e=.returned (zcw x)/\∃F',NodeW B es m F' R6 nb kb rb cb n i s2.zgp w'/\Goes F6 R6 W F' R6 w'):=λW hW=>by
    have h1:=Za hW (by have h2:=bf.o.tims;have h3:=(bf.o.st (by omega) HT.o HS.o).1.tb;omega);rw[<-hx] at h1;exact h1
   have C50:Hid (w8.cell? (aA nb 50)=some (iA s2.time)):=by
    obtain⟨V8,cm,_⟩:=bR.o.node;exact cm.cell 50 rfl
   have cn:=zc hx;clear hx;refine rgd (S:=λW=>cE W nb 50 (iA s2.time)) C50.o λhH=>?_;refine yd [0,1,2,3,4,5,6] hH (λx h=>h) ?_;refine zv 7 λK hK=>?_;go_simp;refine(af _ (bR.o.below ((zjB _ w8).drew))).mono ?_;rintro en X2 ⟨rfl,F3,ad,ae⟩;have aq:cE X2 nb 50 (iA s2.time):=ad.zhi a8;have ba:cL X2 tb2 (gA t) 177:=(ae.same.block _ (zg bc) (λh=>h.elim aY aC)).trans bc;refine hK.out _ _ aq λhH=>?_;clear hK K
   try simp only[AP,AQ]
   refine takeN [(8,some 40,zcw x),(9,some 49,.agg (gA (x.getD kS))),(10,some 50,bA x.isSome)] _ _ hH (by repeat(first|exact zj7|((first|(refine tkc rfl rfl (zj0 ⟨by rfl,λx h=>?_⟩) ?_;focus(unfold zcw;go_simp;done))|(refine tkc rfl rfl (zj0 ⟨by rfl,λx h=>?_⟩) ?_;focus(go_simp;done)));simp only[AP]))) ?_;simp only[ze,AP];refine zv 11 λK hK=>?_;rw[zj2 (by rfl)];refine zo 177 _ _ rfl tb2 0 (gA (x.getD kS)) rfl rfl 177 (gA t) ba (by simp[gA]) (by simp[gA,Value.oneCell']) (by rw[Tryz.zgz];rfl) ?_;intro X aE ao;have ah:cL X tb2 (gA (x.getD kS)) 177:=aE;have aj:¬F3 tb2:=λh=>(ae.ff _ h).elim aY.o (λh=>by have:=zg bc.o;have h2:w8.drew.heap.size=w8.heap.size:=rfl;omega);refine hK.out _ _ ((ao.cell (p:=(aA nb 50)) (λe=>bz e.symm)).trans aq) λhH=>?_;clear hK K
   try simp only[AP,AQ]
   refine yd [12] hH (λ_ h=>h) ?_;refine dnr ?_;have aV:Hid (NodeW B es m F3 R6 nb kb rb cb n i s2.zgp X/\Goes F R w F3 R6 X):=⟨ad.only ao aj aC bB bD,(bd.o.trans (bY.o.trans (bX.o.trans ((Goes.below b1).trans ((Goes.below ((zjB _ w8).drew)).trans ae))))).new ao aU⟩;obtain⟨cw,cy⟩:=zn ah aj;clear ad ae ao aj aE ah ba aq;go_wp2
   go_roundg q
   case rel=>exact⟨s2,F3,R6,tb2,x,rfl,rfl,cn,cw,cy,aC,aU,aV.o.1,aV.o.2,bf,by have h1:=al.o;have h2:=b0.o;omega,by rw[<-aD.o,cB.o,bS.o]⟩
   case measure=>omega
 have bo:j<s.dec.length:=by omega
 have b7:(j:Int)<s.dec.length:=by omega
 obtain⟨V1,aw,bJ⟩:=bb.o.node;obtain⟨g,cap,cv,ay,bn,cg,e1,e2,e3,⟨C,hC,ck⟩,ch⟩:=aw.ziq j (by rw[QJ];exact bo);have c35:wr.cell? (aA nb 35)=some (.slice (some (aA g 0)) s.dec.length cap):=by
  have h1:cE wr nb 35 V1.dv:=aw.cell 35 rfl;rw[ay,QJ] at h1;exact h1
 have f3:wr.frozen? (aA g (j*4+3))=false:=zt hC _;obtain⟨ad,ae⟩:=bb.o.zhx aw bJ ay (by rw[QJ];exact bo) false;rw[zdB s j bo] at ad;have ag:Hid (NodeW B es m F R nb kb rb cb n i (s.zhv (j+1)) (wr.setCell (aA g (j*4+3)) (bA false))/\Goes F R w F R (wr.setCell (aA g (j*4+3)) (bA false))):=⟨ad,bC.o.trans ae⟩;clear aw bJ ay bn cg e1 e2 hC ck ad ae ax;go_wp2;go_roundw
 case rel=>exact⟨j+1,by omega,by go_num,ag.o.1,ag.o.2⟩
 simp[intOf];omega

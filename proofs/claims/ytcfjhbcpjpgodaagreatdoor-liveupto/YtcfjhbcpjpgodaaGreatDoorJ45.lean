import Derived.Test.YtcfjhbcpjpgodaaGreatDoorTick
import Derived.Test.YtcfjhbcpjpgodaaGreatDoorActMsg
namespace Go.Proofs.YtcfjhbcpjpgodaaGreatDoor
open Go.RowKit
set_option maxRecDepth 100000
set_option maxHeartbeats 0
set_option linter.all false
section
open Proofs.Tryz
theorem VS{Sb:zj5->Prop}{B:Nat}{es:List Addr}{m:Int}{gv:Value}{rb n cc T M:Nat}{st:Nat->za}{said:List zj5}(a:ZL){w:World}(h:zK B es m rb n cc gv T M st said w)(ha:Zy a)(hk10:pickN a.k 11=10)(hn:n<=8)(hM:M+100*n<=4000000000000)(hT:T+n<=1000000000000):
 Calls prog 28 #[.pointer (some ⟨cc,0,none⟩),.agg a.cells] w λe w'=>e=.returned (.tuple #[])/\∃st' said',Moves n Sb (st,said) (st',said')/\zK B es m rb n cc gv (T+n) (M+100*n) st' said' w'/\Below B w w'/\∀j,j<n->(st' j).out=[]:=by
 obtain⟨ak,at1,af,ac,⟨mk,mh,mr,mf,mv,mn,ms⟩,rec⟩:=a;obtain⟨hlen,Fs,R,nbs,ks,cbs,kv,nv,sv,hO⟩:=h;obtain⟨g,cap,rfl,bV,bZ,bU⟩:=hO.nodeAt;have aP:=hO.npos;obtain⟨tj,bk⟩:=gen (pickN at1 n);have bS:tj<n:=by rw[bk];exact yv hO.npos
 have bR:(tj:Int)<n:=by omega
 show Calls prog 28 #[.pointer (some ⟨cc,0,none⟩),.agg #[.int .i64 ak,.int .i64 at1,.int .i64 af,.int .i64 ac,.int .i64 mk,.int .i64 mh,.int .i64 mr,.int .i64 mf,.int .i64 mv,.bool mn,.string ms,.string rec]] w _;obtain⟨w1,bg⟩:=gen (w.alloc (.cells #[.int .i64 ak,.int .i64 at1,.int .i64 af,.int .i64 ac,.int .i64 mk,.int .i64 mh,.int .i64 mr,.int .i64 mf,.int .i64 mv,.bool mn,.string ms,.string rec] 81));have aX:Below w.heap.size w w1:=by rw[bg];exact(zjB _ w).alloc (zjA _) _
 have aB:w1.heap[w.heap.size]? =some (.cells #[.int .i64 ak,.int .i64 at1,.int .i64 af,.int .i64 ac,.int .i64 mk,.int .i64 mh,.int .i64 mr,.int .i64 mf,.int .i64 mv,.bool mn,.string ms,.string rec] 81 (0,0)):=by rw[bg];exact zjC w _
 have C3:Hid (w1.cell? ⟨cc,3,none⟩=some (.slice (some ⟨g,0,none⟩) n cap)):=zjD w1 cc 3 _ _ _ (blk hO.blk aX);have CTJ:Hid (w1.cell? ⟨g,tj,none⟩=some (.pointer (some ⟨nbs tj,0,none⟩))):=(hO.below aX).zgi tj bS;have CA1:Hid (w1.cell? ⟨w.heap.size,1,none⟩=some (.int .i64 at1)):=zjD w1 w.heap.size 1 _ _ _ aB;have CA0:Hid (w1.cell? ⟨w.heap.size,0,none⟩=some (.int .i64 ak)):=zjD w1 w.heap.size 0 _ _ _ aB;have bL:Hid (∀W,Calls prog 26 #[.int .i64 at1,.int .i64 (n:Int)] W λe w'=>e=.returned (.int .i64 (tj:Int))/\w'=W):=λW=>by rw[bk];exact yo at1 n W ha.t.1 ha.t.2 aP (by omega)
 have bM:Hid (∀W,Calls prog 26 #[.int .i64 ak,.int .i64 11] W λe w'=>e=.returned (.int .i64 (pickN ak 11:Int))/\w'=W):=λW=>yo ak 11 W ha.k.1 ha.k.2 (by omega) (by omega);have bN:Hid (yx B es m nbs ks gv kv (.slice (some ⟨g,0,none⟩) n cap) rb n cc T M w.heap.size #[.int .i64 ak,.int .i64 at1,.int .i64 af,.int .i64 ac,.int .i64 mk,.int .i64 mh,.int .i64 mr,.int .i64 mf,.int .i64 mv,.bool mn,.string ms,.string rec] 81 st said w1):=yx.of hO hlen aX (zjA _) aB;have bO:Hid (B<=w.heap.size):=hO.bl;obtain⟨bP,b1,HAO⟩:=zS aX bg ha;obtain⟨ab,bu⟩:=gen w.heap.size;have HGC:=zc bZ;clear hO bU bk aX aB bg ha hlen;go_enter func28,ntmps28
 go_upto_region 1 with fail
 rw[<-b1.o];refine rgd (S:=λX=>Below w1.heap.size w1 X) ((zjB _ w1).drew) (λhH=>?_);refine zQ [(0,some 14,pA cc 0),(1,some 15,pA cc 0),(2,some 16,pA cc 3),(3,some 17,.slice (some ⟨g,0,none⟩) n cap),(4,some 18,pA w.heap.size 1),(5,some 19,.int .i64 at1),(6,some 20,pA cc 0),(7,some 21,pA cc 0),(8,some 22,pA cc 3),(9,some 23,.slice (some ⟨g,0,none⟩) n cap),(10,some 24,.int .i64 (n:Int))] _ _ hH (λx h=>aI (show x.cell? ⟨cc,3,none⟩=some (.slice (some ⟨g,0,none⟩) n cap) from Ext.cell C3.o (Ext.of h)) (show x.cell? ⟨w.heap.size,1,none⟩=some (.int .i64 at1) from Ext.cell CA1.o (Ext.of h))) ?_;simp only[ze,AP,pA];refine zv 11 (λK hK=>?_);go_simp;refine(bL _).mono ?_;rintro en X2 ⟨rfl,rfl⟩;refine hK.out _ _ (hH) (λhH=>?_);clear hK K
 try simp only[AP,AQ]
 refine zQ [(12,some 26,pA g tj),(13,some 27,pA (nbs tj) 0),(14,some 4,pA (nbs tj) 0)] _ _ hH (λx h=>show x.cell? ⟨g,tj,none⟩=some (.pointer (some ⟨nbs tj,0,none⟩)) from Ext.cell CTJ.o (Ext.of h)) ?_;simp only[ze,AP,pA];refine dnr ?_;obtain⟨w2,bj⟩:=gen w1.drew;have bI:Hid (Below w1.heap.size w1 w2):=by rw[bj];exact(zjB _ w1).drew
 rw[<-bj];have bc:=zc (bN.o.below bI);have bd:Hid (Below B w w2):=(bP.o.mono bO).trans ((bI.o.mono (zjF bO bP.o.size)));have c02:w2.cell? ⟨w.heap.size,0,none⟩=some (.int .i64 ak):=Ext.cell CA0.o (Ext.of bI);clear hH bj CTJ CA1 bN bL;rw[<-bu] at bc c02;have b2:=zc bu
 try rw[<-b2.o]
 clear bu
 go_upto_region 2 with fail
 go_wp2_with fail
 refine(bM _).mono ?_;rintro en X ⟨rfl,hX⟩;have b0:=hX.symm;clear hX;subst b0;rw[hk10];obtain⟨aR,Fs2,R2,cbs2,sv2,bK,bt,bT⟩:=bc.o;obtain⟨sp0,sc0,bm,c40,bp⟩:=bK.zgt;clear bK bt bT aR bp bm bM;by_cases h40:said.length<40
 .have bw:(said.length:Int)-40<0:=by omega
  have hl0:0<=(said.length:Int):=by omega
  have bQ:IntKind.i64.wrap ((said.length:Int)-40)=(said.length:Int)-40:=xD _ (by omega) (by omega);go_wp2;go_loopw [12,13] (λku _ wr=>∃(k:Nat) (st1:Nat->za),k<=said.length/\ku=.int .i64 k/\Moves n Sb (st,said) (st1,said)/\yx B es m nbs ks gv kv (.slice (some ⟨g,0,none⟩) n cap) rb n cc T M ab #[.int .i64 ak,.int .i64 at1,.int .i64 af,.int .i64 ac,.int .i64 mk,.int .i64 mh,.int .i64 mr,.int .i64 mf,.int .i64 mv,.bool mn,.string ms,.string rec] 81 st1 said wr/\Below B w wr) (λku _ _=>said.length-(intOf ku).toNat)
  case atStart=>exact⟨0,st,by omega,by first|rfl|go_num|(congr 1;omega),Moves.refl _,bc.o,bd.o⟩
  obtain⟨k,st1,bW,rfl,aj,aU,aq⟩:=hrel;obtain⟨ax,bf,bb⟩:=zS aj aq aU;clear aj aq;obtain⟨al,Fs1,R1,cbs1,sv1,aH,aG,aB⟩:=aU;obtain⟨sp1,sc1,aC,c41,aD⟩:=aH.zgt;have c31:wr.cell? ⟨cc,3,none⟩=some (.slice (some ⟨g,0,none⟩) n cap):=zjD wr cc 3 _ _ _ aH.blk;clear aH aG aB al aD aC;by_cases an:k=said.length
  .have bY:¬(k:Int)<said.length:=by omega
   have aL:=zc ax;have bF:=zc (bb.o.e.mono (show T<=T+n by omega) (zjA M));have bG:=zc bf;clear an;have ba:=zc (yA (Sb:=Sb) bF hn hM);go_wp2_with fail
   refine ba.o.mono ?_;rintro e w9 ⟨rfl,st2,said2,aa,a7,aW,aO⟩;have ay:Hid (∃st' said',Moves n Sb (st,said) (st',said')/\zK B es m rb n cc gv (T+n) (M+100*n) st' said' w9/\Below B w w9/\∀j,j<n->(st' j).out=[]):=⟨st2,said2,aL.o.trans aa,a7,bG.o.trans aW,aO⟩;clear aa a7 aW aO ba;go_wp2;first|exact bodyPost_end (v:=.tuple #[]) (by simp[results,results28]) rfl ⟨rfl,ay.o⟩|exact zjT (v:=.tuple #[]) (by simp[results,results28]) rfl ⟨rfl,ay.o⟩
  have aQ:k<said.length:=by omega
  have br:(k:Int)<said.length:=by omega
  clear an;obtain⟨wo,bh⟩:=gen wr;subst bh;go_wp2;go_loopw [13] (λiv wr=>∃(i:Nat) (st2:Nat->za),i<=n/\iv=.int .i64 i/\Moves n Sb (st,said) (st2,said)/\yx B es m nbs ks gv kv (.slice (some ⟨g,0,none⟩) n cap) rb n cc T M ab #[.int .i64 ak,.int .i64 at1,.int .i64 af,.int .i64 ac,.int .i64 mk,.int .i64 mh,.int .i64 mr,.int .i64 mf,.int .i64 mv,.bool mn,.string ms,.string rec] 81 st2 said wr/\Below B w wr) (λiv _=>n-(intOf iv).toNat)
  case atStart=>exact⟨0,st1,zjG _,rfl,ax,bb,bf⟩
  obtain⟨i,st2,bX,rfl,aa,aT,ao⟩:=hrel;obtain⟨aw,az,bC⟩:=zS aa ao aT;clear aa ao;obtain⟨ad,Fs3,R3,cbs3,sv3,ae,ah,aE⟩:=aT;have c33:wr.cell? ⟨cc,3,none⟩=some (.slice (some ⟨g,0,none⟩) n cap):=zjD wr cc 3 _ _ _ ae.blk;by_cases ag:i=n
  .have bs:¬(i:Int)<n:=by omega
   clear ae ah aE ad ag;go_wp2;go_roundw
   case rel=>exact⟨k+1,st2,by omega,by go_num,aw.o,bC.o,az.o⟩
   simp[intOf];omega
  have hi:i<n:=by omega
  have bq:(i:Int)<n:=by omega
  have ck:=ae.zgi i hi;obtain⟨sp,sc,bn,c43,aN⟩:=ae.zgt;obtain⟨sb,bo,csb,ai⟩:=aN (k) aQ;subst bo;have a8:=zc (qM (said.getD (k) zj4) (ae.city.node i hi) ae.city.globR (ae.city.ok i hi) (by omega) (by omega));obtain⟨fr,aF⟩:=gen (said.getD (k) zj4);rw[<-aF] at a8 csb;have bE:Hid (fr∈said):=by rw[aF];exact kz said zj4 (k) aQ
  obtain⟨av,aM,bx,bB,aK,bz,C33,CK⟩:=jR ae ah aE ad ai (ae.onv g rfl) c33 ck;obtain⟨C43,CSB⟩:=zn c43 csb;clear ae ah aE ad ag aF aN ai bn;have au:Hid (∀W,Below wr.heap.size wr W->Calls prog 29 #[.pointer (some ⟨nbs i,0,none⟩),.string fr] W (Xn B es m (Fs3 i) R3 (nbs i) (ks i) rb (cbs3 i) n i (st2 i) fr wr)):=λW hW=>vt av.o i hi fr hW (by omega);clear a8;have c33:=C33.o;have ck:=CK.o
  go_upto_region 13 with fail
  refine rgd (S:=λX=>X.cell? ⟨cc,3,none⟩=some (.slice (some ⟨g,0,none⟩) n cap)/\X.cell? ⟨g,i,none⟩=some (.pointer (some ⟨nbs i,0,none⟩))/\X.cell? ⟨cc,4,none⟩=some (.slice (some ⟨sb,0,none⟩) said.length sc)/\X.cell? ⟨sb,k,none⟩=some (.string fr)) ⟨C33.o,CK.o,C43.o,CSB.o⟩ (λhH=>?_);refine zQ [(0,some 66,pA cc 0),(1,some 67,pA cc 0),(2,some 68,pA cc 3),(3,some 69,.slice (some ⟨g,0,none⟩) n cap),(4,some 70,.int .i64 (i:Int)),(5,some 71,pA g i),(6,some 72,pA (nbs i) 0),(7,some 73,pA cc 0),(8,some 74,pA cc 0),(9,some 75,pA cc 4),(10,some 76,.slice (some ⟨sb,0,none⟩) said.length sc),(11,some 77,.int .i64 (k:Int)),(12,some 78,pA sb k),(13,some 79,.string fr)] _ _ hH (λx h=>aI h.1 (aI h.2.1 (aI h.2.2.1 (h.2.2.2)))) ?_;simp only[ze,AP,pA];refine zv 14 (λK hK=>?_);go_simp;refine(au _ ((zjB _ wr).drew)).mono ?_;rintro e w5 ⟨F',R',aY,aJ,aZ⟩;have ar:∀b,OutB B Fs3 R3 ks n wr b->w5.heap[b]? =wr.heap[b]? :=λb hb=>aJ.same.block b hb.2.1 (λe=>e.elim (hb.2.2.1 i hi) hb.2.2.2.1);have a6:w5.cell? ⟨cc,3,none⟩=some (.slice (some ⟨g,0,none⟩) n cap)/\w5.cell? ⟨g,i,none⟩=some (.pointer (some ⟨nbs i,0,none⟩))/\w5.cell? ⟨cc,4,none⟩=some (.slice (some ⟨sb,0,none⟩) said.length sc)/\w5.cell? ⟨sb,k,none⟩=some (.string fr):=⟨(zjH (w:=wr) (a:=⟨cc,3,none⟩) (ar cc av.o.occ)).trans C33.o,(zjH (w:=wr) (a:=⟨g,i,none⟩) (ar g bz)).trans CK.o,(zjH (w:=wr) (a:=⟨cc,4,none⟩) (ar cc av.o.occ)).trans C43.o,(zjH (w:=wr) (a:=⟨sb,k,none⟩) (ar sb aK)).trans CSB.o⟩;obtain⟨ev,rfl⟩:=xL aZ;refine hK.out _ _ (a6) (λhH=>?_);clear hK K
  try simp only[AP,AQ]
  refine dnr ?_;obtain⟨aS,aV⟩:=yx.turn bB av aM bx hi aY aJ ((av.o.city.ok i hi).zfX) (zjA T) (ya (st2 i) n i fr);have bD:=zc aS;have bH:Hid (Below B w w5):=az.o.trans aV;clear aY aJ aS aV a6 ar hH aZ au;go_wp2;go_roundw
  case rel=>exact⟨i+1,_,by omega,by go_num,Moves.more _ _ _ aw.o (Move.recv st2 said i fr hi bE.o),bD.o,bH.o⟩
  simp[intOf];omega
 have bw:¬(said.length:Int)-40<0:=by omega
 have hlm:said.length<=4000000000000:=by have:=bc.o.1;omega
 have bQ:IntKind.i64.wrap ((said.length:Int)-40)=(said.length:Int)-40:=xD _ (by omega) (by omega);have bJ:(said.length:Int)-40=((said.length-40:Nat):Int):=by omega
 go_wp2;go_loopw [12,13] (λku _ wr=>∃(k:Nat) (st1:Nat->za),k<=said.length/\ku=.int .i64 k/\Moves n Sb (st,said) (st1,said)/\yx B es m nbs ks gv kv (.slice (some ⟨g,0,none⟩) n cap) rb n cc T M ab #[.int .i64 ak,.int .i64 at1,.int .i64 af,.int .i64 ac,.int .i64 mk,.int .i64 mh,.int .i64 mr,.int .i64 mf,.int .i64 mv,.bool mn,.string ms,.string rec] 81 st1 said wr/\Below B w wr) (λku _ _=>said.length-(intOf ku).toNat)
 case atStart=>exact⟨said.length-40,st,by omega,by first|rfl|go_num|(congr 1;omega),Moves.refl _,bc.o,bd.o⟩
 obtain⟨k,st1,bW,rfl,aj,aU,aq⟩:=hrel;obtain⟨ax,bf,bb⟩:=zS aj aq aU;clear aj aq;obtain⟨al,Fs1,R1,cbs1,sv1,aH,aG,aB⟩:=aU;obtain⟨sp1,sc1,aC,c41,aD⟩:=aH.zgt;have c31:wr.cell? ⟨cc,3,none⟩=some (.slice (some ⟨g,0,none⟩) n cap):=zjD wr cc 3 _ _ _ aH.blk;clear aH aG aB al aD aC;by_cases an:k=said.length
 .have bY:¬(k:Int)<said.length:=by omega
  have aL:=zc ax;have bF:=zc (bb.o.e.mono (show T<=T+n by omega) (zjA M));have bG:=zc bf;clear an;have ba:=zc (yA (Sb:=Sb) bF hn hM);go_wp2_with fail
  refine ba.o.mono ?_;rintro e w9 ⟨rfl,st2,said2,aa,a7,aW,aO⟩;have ay:Hid (∃st' said',Moves n Sb (st,said) (st',said')/\zK B es m rb n cc gv (T+n) (M+100*n) st' said' w9/\Below B w w9/\∀j,j<n->(st' j).out=[]):=⟨st2,said2,aL.o.trans aa,a7,bG.o.trans aW,aO⟩;clear aa a7 aW aO ba;go_wp2;first|exact bodyPost_end (v:=.tuple #[]) (by simp[results,results28]) rfl ⟨rfl,ay.o⟩|exact zjT (v:=.tuple #[]) (by simp[results,results28]) rfl ⟨rfl,ay.o⟩
 have aQ:k<said.length:=by omega
 have br:(k:Int)<said.length:=by omega
 clear an;obtain⟨wo,bh⟩:=gen wr;subst bh;go_wp2;go_loopw [13] (λiv wr=>∃(i:Nat) (st2:Nat->za),i<=n/\iv=.int .i64 i/\Moves n Sb (st,said) (st2,said)/\yx B es m nbs ks gv kv (.slice (some ⟨g,0,none⟩) n cap) rb n cc T M ab #[.int .i64 ak,.int .i64 at1,.int .i64 af,.int .i64 ac,.int .i64 mk,.int .i64 mh,.int .i64 mr,.int .i64 mf,.int .i64 mv,.bool mn,.string ms,.string rec] 81 st2 said wr/\Below B w wr) (λiv _=>n-(intOf iv).toNat)
 case atStart=>exact⟨0,st1,zjG _,rfl,ax,bb,bf⟩
 obtain⟨i,st2,bX,rfl,aa,aT,ao⟩:=hrel;obtain⟨aw,az,bC⟩:=zS aa ao aT;clear aa ao;obtain⟨ad,Fs3,R3,cbs3,sv3,ae,ah,aE⟩:=aT;have c33:wr.cell? ⟨cc,3,none⟩=some (.slice (some ⟨g,0,none⟩) n cap):=zjD wr cc 3 _ _ _ ae.blk;by_cases ag:i=n
 .have bs:¬(i:Int)<n:=by omega
  clear ae ah aE ad ag;go_wp2;go_roundw
  case rel=>exact⟨k+1,st2,by omega,by go_num,aw.o,bC.o,az.o⟩
  simp[intOf];omega
 have hi:i<n:=by omega
 have bq:(i:Int)<n:=by omega
 have ck:=ae.zgi i hi;obtain⟨sp,sc,bn,c43,aN⟩:=ae.zgt;obtain⟨sb,bo,csb,ai⟩:=aN (k) aQ;subst bo;have a8:=zc (qM (said.getD (k) zj4) (ae.city.node i hi) ae.city.globR (ae.city.ok i hi) (by omega) (by omega));obtain⟨fr,aF⟩:=gen (said.getD (k) zj4);rw[<-aF] at a8 csb;have bE:Hid (fr∈said):=by rw[aF];exact kz said zj4 (k) aQ
 obtain⟨av,aM,bx,bB,aK,bz,C33,CK⟩:=jR ae ah aE ad ai (ae.onv g rfl) c33 ck;obtain⟨C43,CSB⟩:=zn c43 csb;clear ae ah aE ad ag aF aN ai bn;have au:Hid (∀W,Below wr.heap.size wr W->Calls prog 29 #[.pointer (some ⟨nbs i,0,none⟩),.string fr] W (Xn B es m (Fs3 i) R3 (nbs i) (ks i) rb (cbs3 i) n i (st2 i) fr wr)):=λW hW=>vt av.o i hi fr hW (by omega);clear a8;have c33:=C33.o;have ck:=CK.o
 go_upto_region 13 with fail
 refine rgd (S:=λX=>X.cell? ⟨cc,3,none⟩=some (.slice (some ⟨g,0,none⟩) n cap)/\X.cell? ⟨g,i,none⟩=some (.pointer (some ⟨nbs i,0,none⟩))/\X.cell? ⟨cc,4,none⟩=some (.slice (some ⟨sb,0,none⟩) said.length sc)/\X.cell? ⟨sb,k,none⟩=some (.string fr)) ⟨C33.o,CK.o,C43.o,CSB.o⟩ (λhH=>?_);refine zQ [(0,some 66,pA cc 0),(1,some 67,pA cc 0),(2,some 68,pA cc 3),(3,some 69,.slice (some ⟨g,0,none⟩) n cap),(4,some 70,.int .i64 (i:Int)),(5,some 71,pA g i),(6,some 72,pA (nbs i) 0),(7,some 73,pA cc 0),(8,some 74,pA cc 0),(9,some 75,pA cc 4),(10,some 76,.slice (some ⟨sb,0,none⟩) said.length sc),(11,some 77,.int .i64 (k:Int)),(12,some 78,pA sb k),(13,some 79,.string fr)] _ _ hH (λx h=>aI h.1 (aI h.2.1 (aI h.2.2.1 (h.2.2.2)))) ?_;simp only[ze,AP,pA];refine zv 14 (λK hK=>?_);go_simp;refine(au _ ((zjB _ wr).drew)).mono ?_;rintro e w5 ⟨F',R',aY,aJ,aZ⟩;have ar:∀b,OutB B Fs3 R3 ks n wr b->w5.heap[b]? =wr.heap[b]? :=λb hb=>aJ.same.block b hb.2.1 (λe=>e.elim (hb.2.2.1 i hi) hb.2.2.2.1);have a6:w5.cell? ⟨cc,3,none⟩=some (.slice (some ⟨g,0,none⟩) n cap)/\w5.cell? ⟨g,i,none⟩=some (.pointer (some ⟨nbs i,0,none⟩))/\w5.cell? ⟨cc,4,none⟩=some (.slice (some ⟨sb,0,none⟩) said.length sc)/\w5.cell? ⟨sb,k,none⟩=some (.string fr):=⟨(zjH (w:=wr) (a:=⟨cc,3,none⟩) (ar cc av.o.occ)).trans C33.o,(zjH (w:=wr) (a:=⟨g,i,none⟩) (ar g bz)).trans CK.o,(zjH (w:=wr) (a:=⟨cc,4,none⟩) (ar cc av.o.occ)).trans C43.o,(zjH (w:=wr) (a:=⟨sb,k,none⟩) (ar sb aK)).trans CSB.o⟩;obtain⟨ev,rfl⟩:=xL aZ;refine hK.out _ _ (a6) (λhH=>?_);clear hK K
 try simp only[AP,AQ]
 refine dnr ?_;obtain⟨aS,aV⟩:=yx.turn bB av aM bx hi aY aJ ((av.o.city.ok i hi).zfX) (zjA T) (ya (st2 i) n i fr);have bD:=zc aS;have bH:Hid (Below B w w5):=az.o.trans aV;clear aY aJ aS aV a6 ar hH aZ au;go_wp2;go_roundw
 case rel=>exact⟨i+1,_,by omega,by go_num,Moves.more _ _ _ aw.o (Move.recv st2 said i fr hi bE.o),bD.o,bH.o⟩
 simp[intOf];omega
variable{sg:Nat->List zj5}{i S:Nat}
def bornS(y:Nat->Int)(sg:Nat->List zj5)(i:Nat):za:=((yJ y sg).zfK []).zfH i 0
theorem Xh{y:Nat->Int}(hx:Dom y)(hp:0<sumTo y 8)(hs:(sg i).length<=S):NOk S 0 i 0 (bornS y sg i):=by
 refine NOk.begin ?_;refine⟨hx,hp,zjG _,zjG _,by show(1:Nat)<=3;omega,jx.nil _,jx.nil _,(λ_ h=>by cases h),?_,?_,zjG _,zjG _,zjG _,zjG _,(λ_ h=>by cases h),zjG _,(λ_ h=>by cases h),zjG _⟩
 .show ((xB ([]:List zl):Nat):Int)<=4*((0:Nat):Int)+((1:Nat):Int)+(-1)
  unfold xB;simp
 show(((sg i).length:Nat):Int)<=S+84*((0:Nat):Int)+4*((0:Nat):Int)+((1:Nat):Int)+(-1);omega
theorem zcf(y:Nat->Int)(sg:Nat->List zj5)(i k:Nat)(hk:k≠i):((bornS y sg i).zge i).sg k=sg k:=by
 have h1:SgO i ((yJ y sg).zfK []) ((bornS y sg i).zge i):=(vn _ _ _).trans (K5 i 2200 _);exact h1 k hk
theorem zef{B:Nat}{es:List Addr}{m:Int}{R:Nat->Prop}{kb rb n:Nat}{w:World}
 (g:Nat->Int) (p:Option Addr) (q cap:Nat) (y:Nat->Int) (hl:qW w w.heap.size p q (λj=>iA (g j))) (hgen:vB g q=(y,true)) (hx:Dom y) (hp:0<sumTo y 8)
 (hring:vh R rb n sg w) (hkey:qh w kb rb i) (hin:i<n) (hkr:¬R kb) (hrl:∀k,R k->B<=k/\k<w.heap.size) (hglob:kH B es m w) (hbl:B<=w.heap.size) (hsg:(sg i).length<=S) (hS:S<=900000000000):
 Calls prog 12 #[pA kb 0,.slice p q cap] w (zfx B es m R kb rb n i ((bornS y sg i).zge i) w):=by
 have aa:=Xh (i:=i) hx hp hsg;obtain⟨⟨k,hk⟩,_⟩:=aa.runs;exact zbE (N:=2000) (za.zfY i) (NOk S 0 i 0) Ky (λs hs=>hs.st (by omega) (by omega) hS) (by omega) (λnb cb F R s W hW hs=>Kx hW hs (by omega) hS) g p q cap y hl hgen hx hp hring hkey hin hkr hrl hglob hbl (by omega) hk
end
section
variable{n B rb k nb cb b cc:Nat}{es:List Addr}{m:Int}{Fs:Nat->Nat->Prop}{R F' R':Nat->Prop}{nbs ks cbs:Nat->Nat}{sg:Nat->List zj5}{st:Nat->za}{w w':World}{s':za}{gv kv nv:Value}
theorem Gf{g:Nat->Int}(hn:n<=8)(hn1:1<=n)(hgb:∀i,i<n->1<=g i/\g i<=3):vB g n=(regOf g n,true):=by
 rw[Yl g n hn (λi hi=>by have:=hgb i hi;omega)];have h:0<sumTo g n:=by
  obtain⟨k,rfl⟩:∃k,n=k+1:=⟨n-1,by omega⟩;have h1:=kJ g k (λi hi=>by have:=hgb i (by omega);omega);have h2:=hgb k (by omega);unfold sumTo;omega
 rw[zjQ h]
structure QS (B:Nat) (es:List Addr) (m:Int) (Fs:Nat->Nat->Prop) (R:Nat->Prop) (nbs ks cbs:Nat->Nat) (rb n k:Nat) (sg:Nat->List zj5) (st:Nat->za) (w:World):Prop where
 node:∀j,j<k->NodeW B es m (Fs j) R (nbs j) (ks j) rb (cbs j) n j (st j) w
 ok:∀j,j<k->NOk 0 0 j 0 (st j)
 sgs:∀j,j<k->(st j).sg=sg
 apart:∀i j b,i<k->j<k->i≠j->Fs i b->¬Fs j b
 keys:∀j i,j<k->i<n->¬Fs j (ks i)
 ring:vh R rb n sg w
 key:∀i,i<n->qh w (ks i) rb i
 kr:∀i,i<n->¬R (ks i)
 rl:∀b,R b->B<=b/\b<w.heap.size
 glob:kH B es m w
 globR:v8 B es w
 bl:B<=w.heap.size
 fresh:∀i,k<=i->i<n->sg i=[]
def OutK(B:Nat)(Fs:Nat->Nat->Prop)(R:Nat->Prop)(ks:Nat->Nat)(n k:Nat)(w:World)(b:Nat):Prop:=B<=b/\b<w.heap.size/\(∀j,j<k->¬Fs j b)/\¬R b/\∀i,i<n->ks i≠b
theorem QS.other{D:Nat->Prop}(h:QS B es m Fs R nbs ks cbs rb n k sg st w)(hs:zk D w w')(hD:∀b,D b->OutK B Fs R ks n k w b):QS B es m Fs R nbs ks cbs rb n k sg st w' where
 node:=λj hj=>by
  have hk1:=h.node j hj;exact⟨hk1.node.frame (λb hb=>hs.block b (hk1.fl b hb).2 (λe=>(hD b e).2.2.1 j hj hb)),hk1.ring.frame (λb hb=>hs.block b (hk1.rl b hb).2 (λe=>(hD b e).2.2.2.1 hb)),hk1.key.keep (hs.block _ hk1.key.lt (λe=>(hD _ e).2.2.2.2 j hk1.idn rfl)),hk1.idn,hk1.fr,hk1.kf,hk1.kr,λb hb=>⟨(hk1.fl b hb).1,zjE (hk1.fl b hb).2 hs.size⟩,λb hb=>⟨(hk1.rl b hb).1,zjE (hk1.rl b hb).2 hs.size⟩,hk1.glob.same (λb hb=>hs.block b (zjE hb hk1.bl) (λe=>by have:=(hD b e).1;omega)),zjF hk1.bl hs.size⟩
 ok:=h.ok
 sgs:=h.sgs
 apart:=h.apart
 keys:=h.keys
 ring:=h.ring.frame (λb hb=>hs.block b (h.rl b hb).2 (λe=>(hD b e).2.2.2.1 hb))
 key:=λi hi=>(h.key i hi).keep (hs.block _ (h.key i hi).lt (λe=>(hD _ e).2.2.2.2 i hi rfl))
 kr:=h.kr
 rl:=λb hb=>⟨(h.rl b hb).1,zjE (h.rl b hb).2 hs.size⟩
 glob:=h.glob.same (λb hb=>hs.block b (zjE hb h.bl) (λe=>by have:=(hD b e).1;omega))
 globR:=h.globR.same (λb hb=>hs.block b (zjE hb h.bl) (λe=>by have:=(hD b e).1;omega))
 bl:=zjF h.bl hs.size
 fresh:=h.fresh
theorem QS.born(h:QS B es m Fs R nbs ks cbs rb n k sg st w)(hk:k<n)(hN:NodeW B es m F' R' nb (ks k) rb cb n k s' w')(hG:Goes (λ_=>False) R w F' R' w')(hok:NOk 0 0 k 0 s')(hsg:∀i,i≠k->s'.sg i=sg i):
 QS B es m (Xu Fs k F') R' (Xt nbs k nb) ks (Xt cbs k cb) rb n (k+1) s'.sg (updS st k s') w':=by
 have ah:∀b,F' b->w.heap.size<=b:=λb hb=>(hG.ff b hb).elim (λe=>e.elim) id;have aj:∀b,R' b->R b\/w.heap.size<=b:=hG.rr;have ag:∀i,i<n->ks i<w.heap.size:=λi hi=>(h.key i hi).lt;have aa:∀b,b<w.heap.size->¬R b->w'.heap[b]? =w.heap[b]? :=λb hb hn=>hG.same.block b hb (λe=>e.elim (λe=>e.elim) hn);have af:∀i,i<n->qh w' (ks i) rb i:=λi hi=>(h.key i hi).keep (aa _ (ag i hi) (h.kr i hi));have ae:∀i,i<n->¬R' (ks i):=λi hi hr=>(aj _ hr).elim (h.kr i hi) (λe=>by have:=ag i hi;omega);refine⟨λj hj=>?_,λj hj=>?_,λj hj=>?_,λa b x ha hb ai hx hy=>?_,λj i hj hi hx=>?_,hN.ring,af,ae,hN.rl,hN.glob,h.globR.same λb hb=>aa b (zjE hb h.bl) (λe=>by have:=(h.rl b e).1;omega),hN.bl,λi hi ak=>?_⟩
 .by_cases e:j=k
  .subst e;rw[jq,KW,KW,zz];exact hN
  rw[qi e,KV e,KV e,zw e];have ad:=h.node j (by omega);refine⟨(ad.node.frame (λb hb=>aa b (ad.fl b hb).2 (ad.fr b hb))).signed _,hN.ring,af j ad.idn,ad.idn,λb hb hr=>?_,ad.kf,ae j ad.idn,λb hb=>⟨(ad.fl b hb).1,zjE (ad.fl b hb).2 hG.same.size⟩,hN.rl,hN.glob,hN.bl⟩;rcases aj b hr with h1|h1
  .exact ad.fr b hb h1
  have:=(ad.fl b hb).2;omega
 .by_cases e:j=k
  .subst e;rw[zz];exact hok
  rw[zw e];refine(h.ok j (by omega)).ring ?_;rw[hsg j e,h.sgs j (by omega)]
 .by_cases e:j=k
  .rw [e,zz]
  rw[zw e]
 .by_cases ea:a=k
  .have eb:b≠k:=λe=>ai (ea.trans e.symm);rw[ea,jq] at hx;rw[qi eb] at hy;have h1:=ah x hx;have:=((h.node b (by omega)).fl x hy).2;omega
  rw[qi ea] at hx;by_cases eb:b=k
  .rw [eb,jq] at hy;have h1:=ah x hy;have:=((h.node a (by omega)).fl x hx).2;omega
  rw[qi eb] at hy;exact h.apart a b x (by omega) (by omega) ai hx hy
 .by_cases e:j=k
  .rw [e,jq] at hx;have h1:=ah _ hx;have:=ag i hi;omega
  rw[qi e] at hx;exact h.keys j i (by omega) hi hx
 rw[hsg i (by omega)];exact h.fresh i (by omega) ak
theorem OutK.born(h:OutK B Fs R ks n k w b)(hG:Goes (λ_=>False) R w F' R' w'):OutK B (Xu Fs k F') R' ks n (k+1) w' b:=by
 refine⟨h.1,zjE h.2.1 hG.same.size,λj hj hb=>?_,λhb=>?_,h.2.2.2.2⟩
 .by_cases e:j=k
  .rw [e,jq] at hb;exact(hG.ff b hb).elim (λe=>e.elim) (λh1=>by have:=h.2.1;omega)
  rw[qi e] at hb;exact h.2.2.1 j (by omega) hb
 rcases hG.rr b hb with h1|h1
 .exact h.2.2.2.1 h1
 have:=h.2.1;omega
theorem OutK.keep(h:OutK B Fs R ks n k w b)(hs:w.heap.size<=w'.heap.size):OutK B Fs R ks n k w' b:=⟨h.1,zjE h.2.1 hs,h.2.2⟩
structure YR (B:Nat) (es:List Addr) (m:Int) (Fs:Nat->Nat->Prop) (R:Nat->Prop) (nbs ks cbs:Nat->Nat) (rb n k cc:Nat) (gv kv nv:Value) (sg:Nat->List zj5) (st:Nat->za) (w:World):Prop where
 city:QS B es m Fs R nbs ks cbs rb n k sg st w
 blk:w.heap[cc]? =some (.cells #[gv,.pointer (some ⟨rb,0,none⟩),kv,nv,.slice none 0 0] 84 (0,0))
 keyr:w.ownsRow 0 45 1 kv n (VM ks n)
 nodes:w.ownsRow 0 26 1 nv k (gJ nbs k)
 occ:OutK B Fs R ks n k w cc
 okv:∀g,kv.ownBlock=some g->OutK B Fs R ks n k w g
 onv:∀g,nv.ownBlock=some g->OutK B Fs R ks n k w g
theorem YR.born(h:YR B es m Fs R nbs ks cbs rb n k cc gv kv nv sg st w)(hk:k<n)(hN:NodeW B es m F' R' nb (ks k) rb cb n k s' w')(hG:Goes (λ_=>False) R w F' R' w')(hok:NOk 0 0 k 0 s')(hsg:∀i,i≠k->s'.sg i=sg i):
 QS B es m (Xu Fs k F') R' (Xt nbs k nb) ks (Xt cbs k cb) rb n (k+1) s'.sg (updS st k s') w'/\w'.heap[cc]? =some (.cells #[gv,.pointer (some ⟨rb,0,none⟩),kv,nv,.slice none 0 0] 84 (0,0))/\w'.ownsRow 0 45 1 kv n (VM ks n)/\w'.ownsRow 0 26 1 nv k (gJ nbs k)/\OutK B (Xu Fs k F') R' ks n (k+1) w' cc/\(∀g,kv.ownBlock=some g->OutK B (Xu Fs k F') R' ks n (k+1) w' g)/\∀g,nv.ownBlock=some g->OutK B (Xu Fs k F') R' ks n (k+1) w' g:=by
 have hb:∀b,OutK B Fs R ks n k w b->w'.heap[b]? =w.heap[b]? :=λb hb=>hG.same.block b hb.2.1 (λe=>e.elim (λe=>e.elim) hb.2.2.2.1);exact⟨h.city.born hk hN hG hok hsg,(hb cc h.occ).trans h.blk,zb h.keyr λg hg _=>hb g (h.okv g hg),zb h.nodes λg hg _=>hb g (h.onv g hg),h.occ.born hG,λg hg=>(h.okv g hg).born hG,λg hg=>(h.onv g hg).born hG⟩
theorem GY(nbs:Nat->Nat)(k b:Nat):gJ (Xt nbs k b) (k+1)=gJ nbs k++[.pointer (some ⟨b,0,none⟩)]:=by
 unfold gJ;rw[List.range_succ,List.map_append]
 congr 1
 .apply List.map_congr_left;intro i hi;have:i≠k:=by have:=List.mem_range.1 hi;omega
  rw[KV this]
 simp[KW]
theorem YR.zij{nv':Value}(hc:QS B es m Fs R nbs ks cbs rb n k sg st w)(hblk0:w.heap[cc]? =some (.cells #[gv,.pointer (some ⟨rb,0,none⟩),kv,nv,.slice none 0 0] 84 (0,0)))(hkeyr:w.ownsRow 0 45 1 kv n (VM ks n))(hnv:∀(g:Nat),nv.ownBlock=some g->∃c,w.heap[g]? =some (.cells c 26 (0,0)))(occ:OutK B Fs R ks n k w cc)(okv:∀g,kv.ownBlock=some g->OutK B Fs R ks n k w g)(onv:∀g,nv.ownBlock=some g->OutK B Fs R ks n k w g)
 (hblk:w'.heap[cc]? =some (.cells #[gv,.pointer (some ⟨rb,0,none⟩),kv,nv',.slice none 0 0] 84 (0,0))) (hown:w'.ownsRow 0 26 1 nv' k (gJ nbs k)) (hat:nv'.ownBlock=nv.ownBlock\/∀g,nv'.ownBlock=some g->w.heap.size<=g) (hs:zk (λb=>b=cc\/some b=nv.ownBlock) w w'):
 YR B es m Fs R nbs ks cbs rb n k cc gv kv nv' sg st w':=by
 refine⟨hc.other hs (λb e=>e.elim (λe=>e▸occ) (λe=>onv b e.symm)),hblk,zb hkeyr λg hg hl=>hs.block g hl (λe=>e.elim (λe=>yI hkeyr hblk0 (by decide) (e▸hg)) (λe=>?_)),hown,occ.keep hs.size,λg hg=>(okv g hg).keep hs.size,λg hg=>?_⟩
 .obtain ⟨c,h1⟩:=hnv g e.symm
  exact yI hkeyr h1 (by decide) hg
 rcases hat with h1|h1
 .exact (onv g (h1▸hg)).keep hs.size
 have h2:=h1 g hg;refine⟨zjF hc.bl h2,(hown.lt g hg).2,λj hj hb=>?_,λhb=>?_,λi hi e=>?_⟩
 .have:=((hc.node j hj).fl g hb).2
  omega
 .have:=(hc.rl g hb).2
  omega
 have:=(hc.key i hi).lt;omega
theorem YR.done(h:YR B es m Fs R nbs ks cbs rb n n cc gv kv nv sg st w)(hn:0<n):zK B es m rb n cc gv 0 0 st [] w:=by
 refine⟨zjG _,Fs,R,nbs,ks,cbs,kv,nv,.slice none 0 0,⟨⟨h.city.node,h.city.ok,λj k hj hk=>(h.city.sgs j hj).trans (h.city.sgs k hk).symm,h.city.apart,h.city.keys,h.city.globR⟩,hn,h.blk,h.keyr,h.nodes,zjZ _ _ _ _,h.occ,h.okv,h.onv,λg hg=>by cases hg⟩⟩
end
section
open Proofs.Tryz
theorem Tryz.zh5(p:Option Addr)(n c:Nat)(W:World):(Instr.build 84 #[(0,.slice p n c)]).run prog W=.ok (.agg #[.slice p n c,.pointer none,.slice none 0 0,.slice none 0 0,.slice none 0 0]) W:=by kernel_rfl
theorem Tryz.ziI(p:Option Addr)(n c:Nat)(W:World):(Instr.box 84 (.agg #[.slice p n c,.pointer none,.slice none 0 0,.slice none 0 0,.slice none 0 0])).run prog W=.ok (.pointer (some ⟨W.heap.size,0,none⟩)) (W.alloc (.cells #[.slice p n c,.pointer none,.slice none 0 0,.slice none 0 0,.slice none 0 0] 84)):=by kernel_rfl
theorem Tryz.zhY:(prog.info? 26).map (λi=>(i.zero,i.size,i.bytes))=some (some (.pointer none),1,8):=by kernel_rfl
section
variable{P:Program}
theorem KQ{ops:Array Oper}{rest:List Oper}{op:Oper}{a:Act}{w:World}{Q:Exit->Act->World->Prop}(hgd:op.guard=none)(t:TypeId)(i0:Nat)(x0:Operand)(ho:op.op=.build t #[(i0,x0)])(v0 v:Value)
 (h0:a.eval x0=v0) (hr:(Instr.build t #[(i0,v0)]).run P w=.ok v w) (h:wpList P ops Q rest (a.put op.dst v) w):wpList P ops Q (op::rest) a w:=
 wpList_plain hgd λ_ hK=>by
  unfold Oper.wp execOp;simp only[ho,List.map_toArray,List.map_cons,List.map_nil,h0,hr,Sem.run_bind,Sem.run_pure,Result.andThen_ok];exact hK _ _ h
theorem Vm{ops:Array Oper}{rest:List Oper}{op:Oper}{a:Act}{w w':World}{Q:Exit->Act->World->Prop}(hgd:op.guard=none)(t:TypeId)(x:Operand)(ho:op.op=.box t x)(vx v:Value)
 (hx:a.eval x=vx) (hr:(Instr.box t vx).run P w=.ok v w') (h:wpList P ops Q rest (a.put op.dst v) w'):wpList P ops Q (op::rest) a w:=
 wpList_plain hgd λ_ hK=>by
  unfold Oper.wp execOp;simp only[ho,hx,hr,Sem.run_bind,Sem.run_pure,Result.andThen_ok];exact hK _ _ h
end
def BornI(y:Nat->Int)(n k:Nat)(sg:Nat->List zj5)(st:Nat->za):Prop:=∀C:Nat->(Nat->List zj5)->(Nat->za)->Prop,C 0 (λ_=>[]) (λ_=>yJ (λ_=>0) (λ_=>[]))->(∀k sg st,k<n->C k sg st->C (k+1) ((bornS y sg k).zge k).sg (updS st k ((bornS y sg k).zge k)))->C k sg st
theorem zdC{es:List Addr}{m:Int}(g:Nat->Int)(gp:Option Addr)(n gc:Nat)(w:World)(hl:qW w w.heap.size gp n (λi=>.int .i64 (g i)))(hgb:∀i,i<n->1<=g i/\g i<=3)(hn:n<=8)(hn1:1<=n)(hglob:kH w.heap.size es m w)(hglobR:v8 w.heap.size es w):
 Calls prog 27 #[.slice gp n gc,.int .i64 0] w λe w'=>∃cc rb st said,e=.returned (.pointer (some ⟨cc,0,none⟩))/\zK w.heap.size es m rb n cc (.slice gp n gc) 0 (100*n) st said w'/\Below w.heap.size w w'/\(∀j,j<n->(st j).out=[])/\∃sg0 st0,BornI (regOf g n) n n sg0 st0/\(st,said)=hearK n (st0,[]):=by
 obtain⟨iW,bV,bP,bO,bN⟩:=info_parts Tryz.zhY;obtain⟨w1,aY⟩:=gen (w.alloc (.cells #[.slice gp n gc,.pointer none,.slice none 0 0,.slice none 0 0,.slice none 0 0] 84));have a7:Below w.heap.size w w1:=by rw[aY];exact(zjB _ w).alloc (zjA _) _
 have br:w1.heap[w.heap.size]? =some (.cells #[.slice gp n gc,.pointer none,.slice none 0 0,.slice none 0 0,.slice none 0 0] 84 (0,0)):=by rw[aY];exact zjC w _
 obtain⟨bM,HL,b3,b2,b1,bL,bY,bX⟩:=jR (Qu w1 (hglob.below (zjA _) a7) a7.size) hl hgb hglob hglobR a7 br aY;clear hl hgb hglob hglobR a7 br aY;go_enter func27,ntmps27;go_wp2_with (first|(refine KQ rfl 84 0 _ rfl (.slice gp n gc) _ rfl (Tryz.zh5 gp n gc _) ?_)|(refine Vm rfl 84 _ rfl _ _ rfl (Tryz.ziI gp n gc _) ?_)|fail)
 rw[<-bX.o];refine bM.o.mono ?_;rintro e w2 ⟨rfl,aJ⟩;have aF:Hid (Below w.heap.size w w2):=bL.o.trans (aJ.mono bL.o.size);have bD:Hid (w2.heap[w.heap.size]? =some (.cells #[.slice gp n gc,.pointer none,.slice none 0 0,.slice none 0 0,.slice none 0 0] 84 (0,0))):=blk bY aJ;have bC:=zc (ZW n w2 hn1 (by omega));clear aJ bM;go_wp2_with fail
 refine bC.o.mono ?_;rintro e w3 ⟨ov,kp,kc,ks,rfl,ah,ax,ay,ag,aH⟩;obtain⟨cc,aG⟩:=gen w.heap.size;obtain⟨rb,aZ⟩:=gen w2.heap.size;have bu:cc<rb:=by have:=zg bD.o;omega
 have a6:w3.heap[cc]? =some (.cells #[.slice gp n gc,.pointer none,.slice none 0 0,.slice none 0 0,.slice none 0 0] 84 (0,0)):=by rw[aG];exact blk bD aH
 obtain⟨w3a,af⟩:=gen (w3.setCell ⟨cc,1,none⟩ (.pointer (some ⟨rb,0,none⟩)));have an:w3a.heap[cc]? =some (.cells #[.slice gp n gc,.pointer (some ⟨rb,0,none⟩),.slice none 0 0,.slice none 0 0,.slice none 0 0] 84 (0,0)):=by rw[af,setCell_row a6 1 _];rfl
 have ad:kq cc w3 w3a:=by rw[af];exact zf w3 cc 1 _
 obtain⟨w4,aX⟩:=gen (w3a.setCell ⟨cc,2,none⟩ (.slice kp n kc));have bb:w4.heap[cc]? =some (.cells #[.slice gp n gc,.pointer (some ⟨rb,0,none⟩),.slice kp n kc,.slice none 0 0,.slice none 0 0] 84 (0,0)):=by rw[aX,setCell_row an 2 _];rfl
 have aD:kq cc w3a w4:=by rw[aX];exact zf w3a cc 2 _
 have aK:zk (λb=>b=cc) w3 w4:=⟨aD.os.trans ad.os,aD.tape.trans ad.tape,aD.output.trans ad.output,by rw[aD.size,ad.size];exact zjA _,λb _ hb=>(aD.block b hb).trans (ad.block b hb)⟩;have c1:w3.cell? ⟨cc,1,none⟩=some (.pointer none):=zjD w3 cc 1 _ _ _ a6;have f1:w3.frozen? ⟨cc,1,none⟩=false:=zt a6 1;have c2:(w3.setCell ⟨cc,1,none⟩ (.pointer (some ⟨rb,0,none⟩))).cell? ⟨cc,2,none⟩=some (.slice none 0 0):=by rw[<-af];exact zjD w3a cc 2 _ _ _ an
 have f2:(w3.setCell ⟨cc,1,none⟩ (.pointer (some ⟨rb,0,none⟩))).frozen? ⟨cc,2,none⟩=false:=by rw[<-af];exact zt an 2
 have aw:Hid (Below w.heap.size w w4):=(aF.o.trans (aH.mono aF.o.size)).trans (Below.same aK (λb e=>by rw[e,aG];exact zjA _) (zjF aF.o.size aH.size));have aB:w4.heap.size=w3.heap.size:=by rw[aD.size,ad.size]
 rw[<-aZ] at ah ax ay ag;have hR:∀b,(b=rb\/some b=ov.ownBlock)->b≠cc:=λb h=>h.elim (λe=>by omega) (λe=>λe2=>by have:=(ax.lt b e.symm).1;omega);have bc:∀i,i<n->ks i≠cc:=λi hi=>by have:=(ag i hi).1;omega
 have az:∀i,i<n->qh w4 (ks i) rb i:=λi hi=>(ag i hi).2.keep (aK.block _ (ag i hi).2.lt (bc i hi));have bI:Hid (YR w.heap.size es m (λ_ _=>False) (λb=>b=rb\/some b=ov.ownBlock) (λ_=>0) ks (λ_=>0) rb n 0 cc (.slice gp n gc) (.slice kp n kc) (.slice none 0 0) (λ_=>[]) (λ_=>yJ (λ_=>0) (λ_=>[])) w4):=by
  have hB3:w.heap.size<=w3.heap.size:=zjF aF.o.size aH.size;refine⟨⟨λj hj=>by omega,λj hj=>by omega,λj hj=>by omega,λa b x ha=>by omega,λj i hj=>by omega,ah.frame (λb hb=>aK.block b ?_ (hR b hb)),az,λi hi h=>?_,λb hb=>⟨?_,?_⟩,b2.o.below (zjA _) aw.o,b1.o.below (zjA _) aw.o,aw.o.size,λi _ _=>rfl⟩,bb,?_,zjZ _ _ _ _,⟨by rw[aG];exact zjA _,zg bb,λj hj=>by omega,λh=>hR cc h rfl,bc⟩,λb hb=>?_,λb hb=>by cases hb⟩
  .exact hb.elim (λe=>by rw[e];have:=aH.size;have h2:=(ag 0 (by omega)).2.lt;have h3:=(ag 0 (by omega)).1;omega) (λe=>(ax.lt b e.symm).2)
  .rcases h with h|h
   .have:=(ag i hi).1
    omega
   exact yI ax (ag i hi).2 (by decide) h.symm
  .exact hb.elim (λe=>by rw[e,aZ];exact aF.o.size) (λe=>by have h1:=(ax.lt b e.symm).1;have h2:=aF.o.size;omega)
  .rw [aB];exact hb.elim (λe=>by rw[e];have h2:=(ag 0 (by omega)).2.lt;have h3:=(ag 0 (by omega)).1;omega) (λe=>(ax.lt b e.symm).2)
  .exact zb (jD ay (zjG _)) λb hb bS=>aK.block b bS (λe=>by have h1:=(ay.lt b hb).1;omega)
  have h1:=(ay.lt b hb).1;have h2:=(ay.lt b hb).2;refine⟨by have:=aF.o.size;omega,by rw[aB];exact h2,λj hj=>by omega,λh=>?_,λi hi e=>?_⟩
  .rcases h with h|h
   .omega
   exact zO ay ax (by decide) b hb h.symm
  exact yI ay (ag i hi).2 (by decide) (e▸hb)
 have bW:=zc (show w4=(w3.setCell ⟨cc,1,none⟩ (.pointer (some ⟨rb,0,none⟩))).setCell ⟨cc,2,none⟩ (.slice kp n kc) by rw[aX,af]);have HCC:=zc aG
 try rw[<-aG]
 try rw[<-aZ]
 clear ah ax ay ag aH a6 an ad aD aK aX af aB hR bc az bb bC aZ aG;go_wp2
 try rw[<-bW.o]
 go_loopw [7,8,9] (λiv _ _ wr=>∃(k:Nat) (Fs:Nat->Nat->Prop) (R:Nat->Prop) (nbs cbs:Nat->Nat) (nv:Value) (sg:Nat->List zj5) (st:Nat->za),k<=n/\iv=.int .i64 k/\YR w.heap.size es m Fs R nbs ks cbs rb n k cc (.slice gp n gc) (.slice kp n kc) nv sg st wr/\Below w.heap.size w wr/\BornI (regOf g n) n k sg st) (λiv _ _ _=>n-(intOf iv).toNat)
 case atStart=>exact⟨0,_,_,_,_,_,_,_,zjG _,rfl,bI,aw,λC h0 _=>h0⟩
 obtain⟨k,Fs,R,nbs,cbs,nv,sg,st,hkn,rfl,hP,bw,bx⟩:=hrel;obtain⟨bJ,HP,a8⟩:=zS bx hP bw;have c2k:wr.cell? ⟨cc,2,none⟩=some (.slice kp n kc):=zjD wr cc 2 _ _ _ hP.blk;clear hP bw bI bx;by_cases aQ:k=n
 .have hge:¬(k:Int)<n:=by omega
  subst aQ;have bH:=zc (jS (HP.o.done (by omega)) hn (by omega));clear c2k;go_wp2_with fail
  refine bH.o.mono ?_;rintro e w9 ⟨rfl,st2,said2,aO,bz,aJ,bs⟩;have b4:=zc bz;have b5:Hid (Below w.heap.size w w9):=a8.o.trans aJ;have bZ:Hid (∀j,j<k->(st2 j).out=[]):=bs;have bh:=zc aO;clear aO bz aJ bs bH;go_wp2;go_ret;exact⟨cc,rb,st2,said2,rfl,b4.o.mono (zjA _) (by omega),b5.o,bZ.o,_,_,bJ.o,bh.o⟩
 have hk:k<n:=by omega
 have bR:(k:Int)<n:=by omega
 obtain⟨kg,bT,_,bU,ck⟩:=JH HP.o.keyr hk;subst bT;have ar:=Gf (g:=g) hn hn1 b3;have ao:=JT (g:=g) (n:=n) (by rw[ar]);have au:=Dom.gen g n;rw[ar] at ao au;have bG:=zc (zef (S:=0) (B:=w.heap.size) (es:=es) (m:=m) g gp n gc (regOf g n) ((HL.o.below a8).more a8.o.size) ar au ao HP.o.city.ring (HP.o.city.key k hk) hk (HP.o.city.kr k hk) HP.o.city.rl HP.o.city.glob HP.o.city.bl (by rw[HP.o.city.fresh k (zjA _) hk];exact zjA _) (by omega));have aU:=zc ((Xh (i:=k) (S:=0) au ao (show(sg k).length<=0 by rw[HP.o.city.fresh k (zjA _) hk];exact zjA _)).runs.2);clear ar ao au aQ;go_wp2_with fail
 refine bG.o.mono ?_;rintro e w5 ⟨nb,cb,F',R',rfl,hN,hG⟩;obtain⟨bB,aa,aP,aq,aN,aM,aL⟩:=HP.o.born hk hN hG aU (λi hi=>zcf (regOf g n) sg k i hi);obtain⟨np,nc,bQ⟩:=zm aq;subst bQ;have bo:Hid (Below w.heap.size w w5):=a8.o.trans (Below.zhl hG (λb e=>e.elim) (λb e=>(HP.o.city.rl b e).1) HP.o.city.bl);have aR:Below w5.heap.size w5 (w5.alloc (.cells #[.pointer (some ⟨nb,0,none⟩)] 26)):=(zjB _ w5).alloc (zjA _) _;have aE:=zc aR;have c35:(w5.alloc (.cells #[.pointer (some ⟨nb,0,none⟩)] 26)).cell? ⟨cc,3,none⟩=some (.slice np k nc):=zjD _ cc 3 _ _ _ (blk aa aR);have c35w:w5.cell? ⟨cc,3,none⟩=some (.slice np k nc):=zjD _ cc 3 _ _ _ aa;have bd:Hid ((w5.alloc (.cells #[.pointer (some ⟨nb,0,none⟩)] 26)).ownsRow 0 26 1 (.slice np k nc) k (gJ nbs k)):=zb aq λb _ hb=>aR.block b hb;have b0:Hid (∀(j:Nat) (u:Value),[Value.pointer (some ⟨nb,0,none⟩)][j]? =some u->(w5.alloc (.cells #[.pointer (some ⟨nb,0,none⟩)] 26)).cell? ((⟨w5.heap.size,0,none⟩:Addr).add j)=some u):=λj u hj=>by
  rw[addr_add,zj8,zjD _ w5.heap.size j _ _ _ (zjC w5 _)];simpa using hj
 obtain⟨ak,bg,bK,al,bj,bF,bf,bE⟩:=jR (blk aa aR) aq bB aa aP aN aM aL;clear hN hG bB aa aP aq aN aM aL aR bG aU;go_wp2_with (at_builtin;refine z8 _ rfl _ _ 82 rfl 0 26 iW (.pointer none) 1 8 underlying82 bV bP bO bN rfl (by decide) (.slice np k nc) k (gJ nbs k) rfl bd.o ⟨w5.heap.size,0,none⟩ 1 1 [.pointer (some ⟨nb,0,none⟩)] rfl rfl b0.o (λu hu=>by simp at hu;subst hu;rfl) (by unfold maxLen;omega) (by omega) (zjG _) ?_;intro v7 w7 ai ae aS;obtain⟨p7,c7,rfl⟩:=zm ai;have av:w7.heap[cc]? =some (.cells #[.slice gp n gc,.pointer (some ⟨rb,0,none⟩),.slice (some ⟨kg,0,none⟩) n kc,.slice np k nc,.slice none 0 0] 84 (0,0)):=(ae.block cc (zg ak) (λe=>yI bg al (by decide) e.symm)).trans ak;have c37:w7.cell? ⟨cc,3,none⟩=some (.slice np k nc):=zjD w7 cc 3 _ _ _ av;have f37:w7.frozen? ⟨cc,3,none⟩=false:=zt av 3;have aT:=zc ai;have aj:=zc ae;have aV:=zc aS;have bm:=zc av;clear ai ae aS av)
 obtain⟨w8,aW⟩:=gen (w7.setCell ⟨cc,3,none⟩ (.slice p7 (k+1) c7));have aC:kq cc w7 w8:=by rw[aW];exact zf w7 cc 3 _
 have bq:w8.heap[cc]? =some (.cells #[.slice gp n gc,.pointer (some ⟨rb,0,none⟩),.slice (some ⟨kg,0,none⟩) n kc,.slice p7 (k+1) c7,.slice none 0 0] 84 (0,0)):=by rw[aW,setCell_row bm.o 3 _];rfl
 have ba:zk (λb=>b=cc\/some b=Value.ownBlock (.slice np k nc)) w5 w8:=by
  refine⟨aC.os.trans (aj.o.os.trans aE.o.os),aC.tape.trans (aj.o.tape.trans aE.o.tape),aC.output.trans (aj.o.output.trans aE.o.output),?_,λb hb bt=>?_⟩
  .rw [aC.size];exact zjF aE.o.size aj.o.size
  rw[aC.block b (λe=>bt (zj0 e)),aj.o.block b (zjE hb aE.o.size) (λe=>bt (zj1 e)),aE.o.block b hb]
 have bp:∀b,Value.ownBlock (.slice p7 (k+1) c7)=some b->b≠cc:=λb hb e=>by
  rcases aV with h1|h1
  .exact yI bg al (by decide) (e▸(h1.symm.trans hb))
  rw[h1] at hb;cases hb;have h2:=zg ak;first|(dsimp only[pA] at *;omega)|(simp only[pA] at *;omega)
 have bk:Hid (YR w.heap.size es m (Xu Fs k F') R' (Xt nbs k nb) ks (Xt cbs k cb) rb n (k+1) cc (.slice gp n gc) (.slice (some ⟨kg,0,none⟩) n kc) (.slice p7 (k+1) c7) ((bornS (regOf g n) sg k).zge k).sg (updS st k ((bornS (regOf g n) sg k).zge k)) w8):=by
  refine YR.zij bK al bj (λb hb=>Jw bg hb) bF bf bE bq ?_ ?_ ba
  .rw [GY];exact zb aT λb hb _=>aC.block b (bp b hb)
  rcases aV with h1|h1
  .exact zj0 h1
  refine zj1 (λb hb=>?_);rw[h1] at hb;cases hb;exact aE.o.size
 have bn:Hid (Below w.heap.size w w8):=bo.o.trans (Below.same ba (λb e=>e.elim (λe=>e▸bF.o.1) (λe=>(bE b e.symm).1)) bK.o.bl)
 try rw[<-aW]
 clear aW aC bq ba bp
 try go_wp2
 go_roundw
 case rel=>exact⟨k+1,_,_,_,_,_,_,_,by omega,by go_num,bk.o,bn.o,λC h0 hs=>hs k _ _ hk (bJ.o C h0 hs)⟩
 simp[intOf];omega
variable{w:World}{n:Nat}{v:Value}
theorem Tryz.zje(W:World):(binOp .eql 30 (.slice none 0 0) (.slice none 0 0)).run prog W=.ok (bA true) W:=by kernel_rfl
theorem Tryz.zjd(b o n c:Nat)(W:World):(binOp .eql 30 (.slice (some (aA b o)) n c) (.slice none 0 0)).run prog W=.ok (bA false) W:=by kernel_rfl
theorem zeZ{base:Nat}{fr:Nat->zj5}(h:w.ownsRow base 9 1 v n ((List.range n).map λi=>sA (fr i))):∃p c,v=.slice p n c/\YQ p n c/\qW w w.heap.size p n (λi=>sA (fr i)):=by
 rcases h.2 with⟨rfl,hn⟩|⟨gb,cap,cur,rfl,hb,hg,hnc,hcm,hcs,ht⟩
 .subst hn;exact⟨none,0,rfl,zj0 ⟨rfl,rfl,rfl⟩,λi hi=>by omega⟩
 refine⟨_,cap,rfl,zj1 ⟨gb,0,rfl⟩,λi hi=>⟨gb,0,rfl,zg hg,?_⟩⟩;rw[zjD w gb (0+i) _ _ _ hg,zj8];have e1:(cur.toList.take (n*1))[i]? =((List.range n).map λi=>Value.string (fr i))[i]? :=by rw[ht]
 rw[zkc,zj2 (by omega)] at e1;rw[<-zkf,e1];simp[hi]
theorem zdQ{b t z:Nat}{xs:List Value}(h:w.ownsRow 0 t z v n xs)(hb:∀g,v.ownBlock=some g->b<=g):w.ownsRow b t z v n xs:=by
 refine⟨h.1,?_⟩;rcases h.2 with⟨rfl,hn⟩|⟨g,cap,cur,rfl,-,hr⟩
 .exact zj0 ⟨rfl,hn⟩
 exact zj1 ⟨g,cap,cur,rfl,hb g rfl,hr⟩
def zfh(n:Nat)(fr:Nat->zj5)(w:World)(e:Ending)(w':World):Prop:=∃p' c',e=.returned (.slice p' n c')/\YQ p' n c'/\qW w' w'.heap.size p' n (λi=>sA (fr i))/\w'.ownsRow w.heap.size 9 1 (.slice p' n c') n ((List.range n).map λi=>sA (fr i))/\BW w w'
theorem zau(p:Option Addr)(n c:Nat)(fr:Nat->zj5)(w:World)(hp:YQ p n c)(hl:qW w w.heap.size p n (λi=>sA (fr i)))(hn:n<=4000000000000):
 Calls prog 125 #[.slice p n c] w (zfh n fr w):=by
 obtain⟨iW,au,aq,ao,an⟩:=info_parts Tryz.zgC;have HL:=zc hl;clear hl;rcases hp with⟨rfl,rfl,rfl⟩|⟨b,o,rfl⟩
 .have q1:(binOp .eql 30 (.slice none 0 0) (.slice none 0 0)).run prog w=.ok (bA true) w:=Tryz.zje w;go_enter func125,ntmps125;go_wp2;go_ret;exact⟨none,0,rfl,zj0 ⟨rfl,rfl,rfl⟩,HL,⟨rfl,zj0 ⟨rfl,rfl⟩⟩,zjB _ _⟩
 have q1:(binOp .eql 30 (.slice (some (aA b o)) n c) (.slice none 0 0)).run prog w=.ok (bA false) w:=Tryz.zjd b o n c w;go_enter func125,ntmps125;have hq:cL (w.alloc (.cells #[] 9)) w.heap.size (#[]:Array Value) 9:=zjC w _;have ah:Hid ((w.alloc (.cells #[] 9)).ownsRow 0 9 1 (.slice (some (nA w 0)) 0 0) 0 []):=Ka (l:=[]) hq (zjG _) (zjG _);have ag:BW w (w.alloc (.cells #[] 9)):=bwA w;obtain⟨av,aj⟩:=zn ((HL.o.below ag).more ag.size) ag;clear ag hq;go_wp2_with (at_builtin;refine wpList_plain rfl λK hK=>vi _ _ 30 rfl 0 9 iW (sA zj4) 16 underlying30 au aq ao an rfl (.slice (some (nA w 0)) 0 0) 0 [] rfl ah (some (aA b o)) n c fr rfl (zj1 ⟨b,o,rfl⟩) av (by unfold maxLen;omega) (by omega) (zjG _) (λv7 w7 ad aa al=>hK _ _ ?_);clear hK K;rw[List.nil_append,zj8] at ad;have ae:=zdQ (b:=w.heap.size) ad (λg e=>al.elim (λh1=>by rw[h1] at e;cases e;exact zjA _) (λh1=>by rw[h1] at e;cases e;exact aj.o.size));obtain⟨p7,c7,ar,af,ak⟩:=zeZ ad;subst ar;have ai:Hid (YQ p7 n c7/\qW w7 w7.heap.size p7 n (λi=>sA (fr i))/\w7.ownsRow w.heap.size 9 1 (.slice p7 n c7) n ((List.range n).map λi=>sA (fr i))/\BW w w7):=⟨af,ak,ae,aj.o.trans { aa with block:=λk hk=>aa.block k (zjE hk aj.o.size) (λe=>by cases e;exact absurd hk (Nat.lt_irrefl _)) }⟩;clear ad ae aa al af ak)
 go_ret;exact⟨p7,c7,rfl,ai⟩
theorem Tryz.zhT:(prog.info? 175).map (·.size)=some 4:=by kernel_rfl
theorem Gr:∀(l:List (xC×Value)) (j:Nat) (d:xC) (cv:Value),l[j]? =some (d,cv)->(Zi l)[j*4+0]? =some (sA d.block)
 | [],_,_,_,h=>by simp at h
 |a::l,j,d,cv,h=>by
  have e1:Zi (a::l)=(zb7 a).toList++Zi l:=rfl;cases j with
  |zero=>
   simp only[List.getElem?_cons_zero] at h;cases h;rfl
  |succ j=>
   rw[List.getElem?_cons_succ] at h;rw[e1,zjM (by show 4<=(j+1)*4+0;omega),show(j+1)*4+0-(zb7 a).toList.length=j*4+0 by show(j+1)*4+0-4=_;omega];exact Gr l j d cv h
theorem zb6{g cap k:Nat}{ds:List (xC×Value)}{d:xC}{cv dv:Value}(h:w.ownsRow 0 175 4 dv ds.length (Zi ds))(hv:dv=.slice (some (aA g 0)) n cap)(hl:ds.length=n)(hk:k<n)(hd:ds[k]? =some (d,cv)):w.cell? (aA g (k*4+0))=some (sA d.block):=by
 subst hv;rcases h.2 with⟨e,_⟩|⟨g',cap',cur,e,hb,hg,hnc,hcm,hcs,ht⟩
 .cases e
 cases e;rw[zjD w g _ _ _ _ hg];have e1:(cur.toList.take (ds.length*4))[k*4+0]? =(Zi ds)[k*4+0]? :=by rw[ht]
 rw[zkc,zj2 (by omega)] at e1;rw[<-zkf,e1];exact Gr ds k d cv hd
def jY(s:za)(h:Int)(a:Addr)(w:World)(e:Ending)(w':World):Prop:=
 if 0<=h/\h<(s.dec.length:Int) then ∃p c,e=.returned (.tuple #[sA (s.dec.getD h.toNat yr).block,.slice p (s.dec.getD h.toNat yr).cert.length c,.nilIface])/\YQ p (s.dec.getD h.toNat yr).cert.length c/\qW w' w'.heap.size p (s.dec.getD h.toNat yr).cert.length (λi=>sA ((s.dec.getD h.toNat yr).cert.getD i zj4))/\w'.ownsRow w.heap.size 9 1 (.slice p (s.dec.getD h.toNat yr).cert.length c) (s.dec.getD h.toNat yr).cert.length ((List.range (s.dec.getD h.toNat yr).cert.length).map λi=>sA ((s.dec.getD h.toNat yr).cert.getD i zj4))/\BW w w'
 else e=.returned (.tuple #[sA ⟨#[]⟩,.slice none 0 0,eA a])/\BW w w'
theorem VZ(nb kb cb:Nat)(V:yc)(s:za)(h:Int)(a:Addr)(w:World)(hA:NodeAt nb kb cb V s w)(hh:s.dec.length<=12)(hcl:∀d∈s.dec,d.cert.length<=100000)(hg:w.cell? (aA 10 0)=some (eA a)):
 Calls prog 74 #[pA nb 0,iA h] w (jY s h a w):=by
 by_cases ai:0<=h/\h<(s.dec.length:Int)
 .obtain ⟨k,hk⟩:∃k:Nat,h=(k:Int):=⟨h.toNat,by omega⟩
  subst hk;have ak:k<s.dec.length:=by omega
  have HP:Hid (∀e w',(∃p c,e=.returned (.tuple #[sA (s.dec.getD k yr).block,.slice p (s.dec.getD k yr).cert.length c,.nilIface])/\YQ p (s.dec.getD k yr).cert.length c/\qW w' w'.heap.size p (s.dec.getD k yr).cert.length (λi=>sA ((s.dec.getD k yr).cert.getD i zj4))/\w'.ownsRow w.heap.size 9 1 (.slice p (s.dec.getD k yr).cert.length c) (s.dec.getD k yr).cert.length ((List.range (s.dec.getD k yr).cert.length).map λi=>sA ((s.dec.getD k yr).cert.getD i zj4))/\BW w w')->jY s (k:Int) a w e w'):=λe w' hx=>by
   unfold jY;rw[zj2 ai,Int.toNat_natCast];exact hx
  obtain⟨g,cap,cv,ae,aC,aj,c1,c2,c3,⟨C,hC,aF⟩,an⟩:=hA.ziq k ak;obtain⟨d,hd⟩:=gen (s.dec.getD k yr);rw[<-hd] at aj c1 c3 HP;have al:(d,cv)∈V.ds:=List.mem_of_getElem? aj;have aa:w.ownsRow 0 9 1 cv d.cert.length (d.cert.map .string):=hA.cert (d,cv) al;have aw:d.cert.length<=100000:=hcl d (by rw[<-hA.eds];exact List.mem_map.2 ⟨(d,cv),al,rfl⟩);have c0:w.cell? (aA g (k*4+0))=some (sA d.block):=by
   have hl:V.ds.length=s.dec.length:=by
    have e:=congrArg List.length hA.eds;rw[List.length_map] at e;exact e
   exact zb6 hA.dec ae hl ak aj
  obtain⟨cp,cc,aE⟩:=zm aa;subst aE;have c35:w.cell? (aA nb 35)=some (.slice (some (aA g 0)) s.dec.length cap):=by rw[<-ae];exact hA.cell 35 rfl
  have aG:Hid (w.rangeAt g (k*4) [sA d.block,sA d.prop,.slice cp d.cert.length cc,bA d.told]):=λj v hv=>by
   match j,hv with
   |0,hv=>cases hv;exact c0
   |1,hv=>cases hv;exact c1
   |2,hv=>cases hv;exact c2
   |3,hv=>cases hv;exact c3
   |j+4,hv=>cases hv
  obtain⟨q5,q6,e5,_,ah⟩:=kV aa;cases e5;obtain⟨aJ,aH⟩:=zn ah (vT aa);have hki:(k:Int)<s.dec.length:=by omega
  have hk0:¬(k:Int)<0:=by omega
  have aD:¬(s.dec.length:Int)<=(k:Int):=by omega
  clear hA ae aj c1 c2 c3 c0 hC aF an al aa hcl hd hg ai ak ah;go_enter func74,ntmps74
  go_upto_region 4 with(first|(refine zj6 rfl 175 _ rfl g (k*4) rfl [sA d.block,sA d.prop,.slice cp d.cert.length cc,bA d.told] _ aG underlying175 rfl (by rw[Tryz.zhT];rfl) ?_)|(refine zh rfl 175 _ _ rfl w #[sA d.block,sA d.prop,.slice cp d.cert.length cc,bA d.told] rfl rfl 175 _ rfl (by simp[Value.oneCell']) Tryz.zhT ?_;intro w3 av ay aB;have af:=zc ay;have az:=zc av;clear av ay aB)|fail)
  have c3b:cN w3 w 0 (sA d.block):=zjD w3 w.heap.size 0 _ _ _ az;have c3c:cN w3 w 2 (.slice cp d.cert.length cc):=zjD w3 w.heap.size 2 _ _ _ az;obtain⟨au,ar⟩:=zn c3b c3c;clear c3b c3c;refine rgd (S:=λX=>BW w3 X) ((zjB _ w3).drew) λhH=>?_;refine zQ [(0,some 27,pA w.heap.size 0),(1,some 28,sA d.block),(2,some 29,pA w.heap.size 2),(3,some 30,.slice cp d.cert.length cc)] _ _ hH (λx h=>aI (show cN x w 0 (sA d.block) from Ext.cell au (Ext.of h)) (show cN x w 2 (.slice cp d.cert.length cc) from Ext.cell ar (Ext.of h))) ?_;simp only[ze,AP,pA];refine zv 4 λK hK=>?_;go_simp;refine(zau cp d.cert.length cc (λi=>d.cert.getD i zj4) _ aH.o ((aJ.o.below (af.o.trans (hH.mono af.o.size))).more (zjF af.o.size hH.size)) (by omega)).mono ?_;rintro en X5 ⟨p5,c5,rfl,ag,ah,ad,ax⟩;have ao:BW w3 X5:=hH.trans (ax.mono hH.size);have aq:Hid (YQ p5 d.cert.length c5/\qW X5 X5.heap.size p5 d.cert.length (λi=>sA (d.cert.getD i zj4))/\X5.ownsRow w.heap.size 9 1 (.slice p5 d.cert.length c5) d.cert.length ((List.range d.cert.length).map λi=>sA (d.cert.getD i zj4))/\BW w X5):=⟨ag,ah,zdQ (vU ad (zjG _)) (λg e=>zjF (zjF af.o.size hH.size) (ad.lt g e).1),af.o.trans (ao.mono af.o.size)⟩;refine hK.out _ _ (ao) λhH=>?_;clear hK K
  try simp only[AP,AQ]
  refine y7 [(5,some 4,sA d.block),(6,some 5,.slice p5 d.cert.length c5),(7,some 6,.nilIface)] _ _ hH ?_;simp only[ze,AP];refine dnr ?_;clear hH ao ag ah ad ax;go_wp2
  go_ret3
  exact HP _ _ ⟨p5,c5,rfl,aq⟩
 have HP:Hid (∀e w',e=.returned (.tuple #[sA ⟨#[]⟩,.slice none 0 0,eA a])/\BW w w'->jY s h a w e w'):=λe w' hx=>by
  unfold jY;rw[zj3 ai];exact hx
 have HG:=zc hg;have c35:cE w nb 35 V.dv:=hA.cell 35 rfl;have aw:∃p c,V.dv=.slice p s.dec.length c:=by
  obtain⟨p,c,e⟩:=zm hA.dec;have hl:V.ds.length=s.dec.length:=by
   have e:=congrArg List.length hA.eds;rw[List.length_map] at e;exact e
  exact⟨p,c,by rw[e,hl]⟩
 obtain⟨p,c,ae⟩:=aw;rw[ae] at c35;clear hA hcl ae;by_cases h0:h<0;focus
  clear ai
 rotate_left;focus
  have aD:(s.dec.length:Int)<=h:=by omega
  clear ai
 rotate_left;all_goals
  go_enter func74,ntmps74;have c10:=HG.o;go_wp2_with fail
  go_quiet (fail)
  go_wp2
  go_ret3
  exact HP _ _ ⟨rfl,below_drewN (zjB _ w) _⟩
end
section
open Proofs.Tryz
def za.blk(s:za)(k:Nat):zj5:=(s.dec.getD k yr).block
theorem KF{s:za}{k:Nat}(h:k<s.zfF):s.blocks[k]? =some (s.blk k):=by
 unfold za.blocks za.blk;have h':k<s.dec.length:=h;rw[List.getElem?_map,zjK,zjJ h'];rfl
theorem J3{B:Nat}{es:List Addr}{m:Int}{hon:Nat->Bool}{x0:Nat->Int}{Q:Nat->Option Obj}{Fs:Nat->Nat->Prop}{R:Nat->Prop}{nbs ks cbs:Nat->Nat}{rb n T cc:Nat}{gv kv nv sv:Value}{st:Nat->za}{sg:Nat->List zj5}{said:List zj5}{w W:World}(h:Zp B es m hon x0 Q Fs R nbs ks cbs rb n T cc gv kv nv sv st sg said w)(hW:Below w.heap.size w W){i:Nat}(hi:i<n)(hh:hon i=true)(k:Int)(a:Addr)(hg:w.cell? ⟨10,0,none⟩=some (.iface 294 (.pointer (some a)))):
 Calls prog 74 #[.pointer (some ⟨nbs i,0,none⟩),.int .i64 k] W (jY (st i) k a W):=by
 obtain⟨V,hA,_⟩:=((h.below hW).city.node i hi hh).node;exact VZ (nbs i) (ks i) (cbs i) V (st i) k a W hA (h.city.ok i hi hh).hgt (h.city.ok i hi hh).cert (Ext.cell hg (Ext.of hW))
end
def vg:(Nat->Int)->List zj5->Option (Nat->Int)
 |x,[]=>some x
 |x,t::l=>if(zi x t).2 then vg (zi x t).1 l else none
def YN(g:Nat->Int)(n:Nat)(l:List zj5):(Nat->Int)×Int:=
 if(vB g n).2 then(match vg (vB g n).1 l with|some y=>(y,0)|none=>(yk,12)) else(yk,1)
theorem zbV(g:Nat->Int)(n:Nat)(l:List zj5)(h:(vB g n).2=false):YN g n l=(yk,1):=by unfold YN;rw[h];rfl
theorem zbU(g:Nat->Int)(n:Nat)(l:List zj5)(h:(vB g n).2=true)(h2:vg (vB g n).1 l=none):YN g n l=(yk,12):=by unfold YN;rw[h,h2];rfl
theorem Kl(g:Nat->Int)(n:Nat)(l:List zj5)(y:Nat->Int)(h:(vB g n).2=true)(h2:vg (vB g n).1 l=some y):YN g n l=(y,0):=by unfold YN;rw[h,h2];rfl
theorem zan(y:Nat->Int)(l:List zj5)(k:Nat)(hk:k<l.length)(z:Nat->Int)(o:Bool)(h:zi y (l.getD k zj4)=(z,o)):vg y (l.drop k)=if o then vg z (l.drop (k+1)) else none:=by
 have e:l.drop k=l.getD k zj4::l.drop (k+1):=by
  rw[List.drop_eq_getElem_cons hk,zjK,zjJ hk];rfl
 rw[e,vg,h]
section
open Proofs.Tryz
variable{y:Nat->Int}{a1 a12:Addr}{w w':World}
theorem zdm(g:Nat->Int)(p:Option Addr)(n cap:Nat)(b:Addr)(z:Nat->Int)(w:World)(hl:qW w w.heap.size p n (λi=>.int .i64 (g i)))(hg:w.cell? ⟨1,0,none⟩=some (.iface 294 (.pointer (some b))))(h:vB g n=(z,true)):
 Calls prog 52 #[.slice p n cap] w λe w'=>e=.returned (.tuple #[.agg (regA z),.nilIface])/\Below w.heap.size w w':=by
 have:=ZH g p n cap b w hl hg;rw[h] at this;exact this
theorem zev(g:Nat->Int)(p:Option Addr)(n cap:Nat)(b:Addr)(z:Nat->Int)(w:World)(hl:qW w w.heap.size p n (λi=>.int .i64 (g i)))(hg:w.cell? ⟨1,0,none⟩=some (.iface 294 (.pointer (some b))))(h:vB g n=(z,false)):
 Calls prog 52 #[.slice p n cap] w λe w'=>e=.returned (.tuple #[.agg (regA yk),.iface 294 (.pointer (some b))])/\Below w.heap.size w w':=by
 have:=ZH g p n cap b w hl hg;rw[h] at this;exact this
theorem Xk(x:Nat->Int)(s:zj5)(b:Addr)(m:Int)(z:Nat->Int)(w:World)(hx:Dom x)(hs:s.size<4294967281)(hg:w.cell? ⟨11,0,none⟩=some (.iface 294 (.pointer (some b))))(hm:w.cell? ⟨13,0,none⟩=some (.int .i64 m))(h:zi x s=(z,true)):
 Calls prog 94 #[.agg (regA x),.string s] w λe w'=>e=.returned (.tuple #[.agg (regA z),.nilIface])/\Below w.heap.size w w':=by
 have:=qU x s b m w hx hs hg hm;rw[h] at this;exact this
theorem zay(x:Nat->Int)(s:zj5)(b:Addr)(m:Int)(z:Nat->Int)(w:World)(hx:Dom x)(hs:s.size<4294967281)(hg:w.cell? ⟨11,0,none⟩=some (.iface 294 (.pointer (some b))))(hm:w.cell? ⟨13,0,none⟩=some (.int .i64 m))(h:zi x s=(z,false)):
 Calls prog 94 #[.agg (regA x),.string s] w λe w'=>e=.returned (.tuple #[.agg (regA yk),.iface 294 (.pointer (some b))])/\Below w.heap.size w w':=by
 have:=qU x s b m w hx hs hg hm;rw[h] at this;exact this
def Xo(f:(Nat->Int)×Int)(a1 a12:Addr)(w:World)(e:Ending)(w':World):Prop:=
 Below w.heap.size w w'/\
  ((f.2=0/\∃p r,e=.returned (.tuple #[.agg #[p,.string (nameB (memb f.1 26)),r],.nilIface])/\w'.ownsRow w.heap.size 3 1 p 8 (gX f.1 8)/\w'.ownsRow w.heap.size 3 1 r (memb f.1 26).length (xo f.1 (memb f.1 26))/\∀g,p.ownBlock=some g->r.ownBlock≠some g)\/
   (f.2=1/\e=.returned (.tuple #[.agg #[.slice none 0 0,.string ⟨#[]⟩,.slice none 0 0],.iface 294 (.pointer (some a1))]))\/(f.2=12/\e=.returned (.tuple #[.agg #[.slice none 0 0,.string ⟨#[]⟩,.slice none 0 0],.iface 294 (.pointer (some a12))])))
theorem Xo.arg(h:Below w.heap.size w w'):Xo (y,1) a1 a12 w (.returned (.tuple #[.agg #[.slice none 0 0,.string ⟨#[]⟩,.slice none 0 0],.iface 294 (.pointer (some a1))])) w':=⟨h,zj1 (zj0 ⟨rfl,rfl⟩)⟩
theorem Xo.bad(h:Below w.heap.size w w'):Xo (y,12) a1 a12 w (.returned (.tuple #[.agg #[.slice none 0 0,.string ⟨#[]⟩,.slice none 0 0],.iface 294 (.pointer (some a12))])) w':=⟨h,zj1 (zj1 ⟨rfl,rfl⟩)⟩
theorem zbW(g:Nat->Int)(p:Option Addr)(n cap:Nat)(l:List zj5)(lp:Option Addr)(lcap:Nat)(a1 a12:Addr)(m:Int)(w:World)(hg:qW w w.heap.size p n (λi=>.int .i64 (g i)))
 (hl:qW w w.heap.size lp l.length (λi=>.string (l.getD i zj4))) (hm:l.length<=maxLen) (hs:∀i,i<l.length->(l.getD i zj4).size<4294967281)
 (h1:w.cell? ⟨1,0,none⟩=some (.iface 294 (.pointer (some a1)))) (h12:w.cell? ⟨11,0,none⟩=some (.iface 294 (.pointer (some a12)))) (hmx:w.cell? ⟨13,0,none⟩=some (.int .i64 m)):
 Calls prog 86 #[.slice p n cap,.slice lp l.length lcap] w (Xo (YN g n l) a1 a12 w):=by
 have z0:=yV;obtain⟨z1,ax⟩:∃z,z=(vB g n).1:=⟨_,rfl⟩;obtain⟨o1,aM⟩:∃o,o=(vB g n).2:=⟨_,rfl⟩;have ag:Hid (vB g n=(z1,o1)):=by unfold Hid;rw[ax,aM]
 have aK:Hid (Dom z1):=by unfold Hid;rw[ax];exact Dom.gen g n
 clear ax aM;obtain⟨HG,HL,HM,HS,H1,bk,bd⟩:=Qy hg hl hm hs h1 h12 hmx;have aD:11<w.heap.size:=zjI _ _ h12;have aN:1<w.heap.size:=zjI _ _ h1;have a8:13<w.heap.size:=zjI _ _ hmx;clear hg hl hm hs h1 h12 hmx;have au:Hid (yq (w.alloc (.cells #[.slice none 0 0,.string ⟨#[]⟩,.slice none 0 0] 72)) w.heap.size (.slice none 0 0) zj4 (.slice none 0 0)):=zjC w _;have ai:Hid (Below w.heap.size w (w.alloc (.cells #[.slice none 0 0,.string ⟨#[]⟩,.slice none 0 0] 72))):=(zjB _ w).alloc (zjA _) _;have aa:(w.alloc (.cells #[.slice none 0 0,.string ⟨#[]⟩,.slice none 0 0] 72)).heap.size=w.heap.size+1:=by simp
 cases o1 with
 |false=>
  have HE:=zc (zbV g n l (by rw[ag.o]));have HC:=zc (zev g p n cap a1 z1 (w.alloc (.cells #[.slice none 0 0,.string ⟨#[]⟩,.slice none 0 0] 72)) ((HG.o.below ai).more (by rw[aa];omega)) ((ai.o.cell (p:=⟨1,0,none⟩) (by exact aN)).trans H1.o) ag.o);go_enter func86,ntmps86;go_wp2_with fail
  refine HC.o.mono ?_;rintro e w1 ⟨rfl,ad⟩;rw[aa] at ad;have aJ:=zc (au.o.block (ad.block w.heap.size (by omega)));have aw:Hid (Below w.heap.size w w1):=ai.o.trans (ad.mono (by omega));have ay:w.heap.size+1<=w1.heap.size:=by have:=ad.size;rw[aa] at this;exact this
  clear ad HC au;go_wp2_with (first|(refine zp rfl 116 _ _ rfl w1.heap.size yk rfl rfl 116 (regA yk) (zjC w1 _) (zj _) Tryz.zfG ?_;intro w2 ao aj;have aX:=zc aj;clear ao aj)|(refine zd rfl 72 _ _ rfl w.heap.size #[.slice none 0 0,.string ⟨#[]⟩,.slice none 0 0] rfl rfl 72 #[.slice none 0 0,.string ⟨#[]⟩,.slice none 0 0] (aJ.o.block ((((zjB _ w1).alloc (zjA _) _).trans (aX.o.below (zjA _))).block w.heap.size (by omega))) rfl (by simp[Value.oneCell']) Tryz.zgo ?_;intro w9 hq ho))
  exact zjT (v:=.tuple #[.agg #[.slice none 0 0,.string ⟨#[]⟩,.slice none 0 0],.iface 294 (.pointer (some a1))]) (zA results86 _ _ w.heap.size 72 _ _ _ rfl rfl hq underlying72 rfl Tryz.zgo) rfl (by rw[HE.o];exact Xo.arg ((aw.o.trans ((((zjB _ w1).alloc (zjA _) _).trans (aX.o.below (zjA _))).mono (by omega))).trans (ho.below (zjA _))))
 |true=>
  have HC:=zc (zdm g p n cap a1 z1 (w.alloc (.cells #[.slice none 0 0,.string ⟨#[]⟩,.slice none 0 0] 72)) ((HG.o.below ai).more (by rw[aa];omega)) ((ai.o.cell (p:=⟨1,0,none⟩) (by exact aN)).trans H1.o) ag.o);go_enter func86,ntmps86;go_wp2_with fail
  refine HC.o.mono ?_;rintro e w1 ⟨rfl,ad⟩;rw[aa] at ad;have aJ:=zc (au.o.block (ad.block w.heap.size (by omega)));have aw:Hid (Below w.heap.size w w1):=ai.o.trans (ad.mono (by omega));have ay:w.heap.size+1<=w1.heap.size:=by have:=ad.size;rw[aa] at this;exact this
  clear ad HC au ai aa;go_wp2_with (first|(refine zp rfl 116 _ _ rfl w1.heap.size z1 rfl rfl 116 (regA yk) (zjC w1 _) (zj _) Tryz.zfG ?_;intro w2 ao aj)|fail)
  have aU:=zc ao;have a7:Hid (Below w1.heap.size w1 w2):=((zjB _ w1).alloc (zjA _) _).trans (aj.below (zjA _));clear ao aj;go_loopw [7,9,21] (λer _ i wr=>∃(k:Nat) (y:Nat->Int),k<=l.length/\i=.int .i64 k/\er=.nilIface/\Dom y/\RegAt wr w1.heap.size 116 y/\Below w1.heap.size w1 wr/\vg z1 l=vg y (l.drop k)) (λ_ _ i _=>l.length-(intOf i).toNat)
  case atStart=>exact⟨0,z1,zjG _,rfl,rfl,aK,aU,a7,rfl⟩
  clear aU a7;obtain⟨k,y,hk,rfl,rfl,aQ,hy,ar,aO⟩:=hrel;obtain⟨av,HY,a6,aY⟩:=qO aQ hy ar aO;have ah:Hid (Below w.heap.size w wr):=aw.o.trans (ar.mono aw.o.size);have ak:=zc (aJ.o.block (ar.block w.heap.size (by omega)));clear aQ hy ar aO;by_cases af:k=l.length
  .have HE:Hid (YN g n l=(y,0)):=Kl g n l y (by rw[ag.o]) (by rw[ag.o];show vg z1 l=some y;rw[aY.o,af,List.drop_length];rfl);have aP:¬(k:Int)<l.length:=by omega
   clear af;go_wp2_with (first|(refine zr rfl 116 _ rfl _ rfl 116 y _ HY underlying116 rfl Tryz.zfG ?_)|fail)
   refine(K2 y wr av).mono ?_;rintro e w4 ⟨pv,rv,rfl,aC,az,aR,aG⟩;obtain⟨pp,pc,rfl⟩:=zm aC;obtain⟨rp,rc,rfl⟩:=zm az;obtain⟨aV,aT,bj,bb⟩:=qO aC az aR (ak.o.block (aG.block w.heap.size ak.o.lt));have bh:Hid (Below w.heap.size w w4):=ah.o.trans (aG.mono ah.o.size);clear aC az aR aG;go_wp2_with (refine zd rfl 72 _ _ rfl w.heap.size _ rfl rfl 72 #[.slice none 0 0,.string ⟨#[]⟩,.slice none 0 0] bb.o rfl (by simp[Value.oneCell']) Tryz.zgo ?_;intro w9 hq ho)
   refine zjT (v:=.tuple #[.agg #[.slice pp 8 pc,.string (nameB (memb y 26)),.slice rp (memb y 26).length rc],.nilIface]) (zA results86 _ _ w.heap.size 72 _ _ _ rfl rfl hq underlying72 rfl Tryz.zgo) rfl ?_;rw[HE.o];have hwr:w.heap.size<wr.heap.size:=ak.o.lt;exact⟨bh.o.trans (ho.below (zjA _)),zj0 ⟨rfl,_,_,rfl,vU (zb aV.o (λg2 e2 _=>ho.block g2 (by have:=(aV.o.lt g2 e2).1;omega))) (by omega),vU (zb aT.o (λg2 e2 _=>ho.block g2 (by have:=(aT.o.lt g2 e2).1;omega))) (by omega),bj.o⟩⟩
  have aE:k<l.length:=by omega
  obtain⟨bl,ol,rfl,aF,hc⟩:=HL.o k aE;have ba:(k:Int)<l.length:=by omega
  obtain⟨t,ht⟩:=gen (l.getD k zj4);have aS:Hid (t.size<4294967281):=by unfold Hid;rw[ht];exact HS k aE
  have hcr:wr.cell? ⟨bl,ol+k,none⟩=some (.string t):=by rw[ht];exact(ah.o.cell (p:=⟨bl,ol+k,none⟩) (by exact aF)).trans hc
  have hmx:l.length<=9223372036854775807:=by have:=HM.o;unfold maxLen at this;omega
  obtain⟨z,hz⟩:∃z,z=(zi y t).1:=⟨_,rfl⟩;obtain⟨o,ho⟩:∃o,o=(zi y t).2:=⟨_,rfl⟩;have HZ:Hid (zi y t=(z,o)):=by unfold Hid;rw[hz,ho]
  have bg:Hid (Dom z):=by unfold Hid;rw[hz];exact av.o.behind t
  have aZ:Hid (vg z1 l=if o then vg z (l.drop (k+1)) else none):=by unfold Hid;rw[aY.o];exact zan y l k aE z o (by rw[<-ht];exact HZ)
  have an:=zc ((ah.o.cell (p:=⟨11,0,none⟩) (by exact aD)).trans bk);have al:=zc ((ah.o.cell (p:=⟨13,0,none⟩) (by exact a8)).trans bd);clear ht hc hz ho af;cases o with
  |false=>
   have HE:Hid (YN g n l=(yk,12)):=zbU g n l (by rw[ag.o]) (by rw[ag.o];exact aZ);have HC:=zc (zay y t a12 m z wr av aS an al HZ);go_wp2_with (first|(refine zr rfl 116 _ rfl _ rfl 116 y _ HY underlying116 rfl Tryz.zfG ?_)|fail)
   refine HC.o.mono ?_;rintro e w3 ⟨rfl,ae⟩;have aL:Hid (Below w.heap.size w w3):=ah.o.trans (ae.mono ah.o.size);obtain⟨aH,bc⟩:=zn (HY.o.below ae) (ak.o.block (ae.block w.heap.size ak.o.lt));clear ae HC;go_wp2_with (first|(refine zp rfl 116 _ _ rfl w1.heap.size yk rfl rfl 116 (regA y) aH (zj _) Tryz.zfG ?_;intro w5 aB aq;have aW:=zc aq;clear aB aq)|(refine zd rfl 72 _ _ rfl w.heap.size #[.slice none 0 0,.string ⟨#[]⟩,.slice none 0 0] rfl rfl 72 #[.slice none 0 0,.string ⟨#[]⟩,.slice none 0 0] (bc.o.block (aW.o.block w.heap.size (by omega))) rfl (by simp[Value.oneCell']) Tryz.zgo ?_;intro w9 hq ho))
   exact zjT (v:=.tuple #[.agg #[.slice none 0 0,.string ⟨#[]⟩,.slice none 0 0],.iface 294 (.pointer (some a12))]) (zA results86 _ _ w.heap.size 72 _ _ _ rfl rfl hq underlying72 rfl Tryz.zgo) rfl (by rw[HE.o];exact Xo.bad ((aL.o.trans (aW.o.below (by omega))).trans (ho.below (zjA _))))
  |true=>
   have bf:Hid (vg z1 l=vg z (l.drop (k+1))):=aZ.o;have HC:=zc (Xk y t a12 m z wr av aS an al HZ);go_wp2_with (first|(refine zr rfl 116 _ rfl _ rfl 116 y _ HY underlying116 rfl Tryz.zfG ?_)|fail)
   refine HC.o.mono ?_;rintro e w3 ⟨rfl,ae⟩;have aL:Hid (Below w1.heap.size w1 w3):=a6.o.trans (ae.mono a6.o.size);have aH:=zc (HY.o.below ae);clear ae HC;go_wp2_with (first|(refine zp rfl 116 _ _ rfl w1.heap.size z rfl rfl 116 (regA y) aH (zj _) Tryz.zfG ?_;intro w5 aB aq)|fail)
   go_roundw
   case rel=>exact⟨k+1,z,by omega,by go_num,rfl,bg.o,aB,aL.o.trans (aq.below (zjA _)),bf.o⟩
   simp[intOf];omega
end
section
open Proofs.Tryz
def EqlP(C:Prop)(w:World)(e:Ending)(w':World):Prop:=(∃o,e=.returned (.bool o)/\(C->o=true))/\Below w.heap.size w w'
theorem xY(C:Prop)(pa pb ra rb:Nat->Int)(na nb:zj5)(p1 p2 r1 r2:Option Addr)(pc1 pc2 rc1 rc2 la lb:Nat)(w:World)(hla:la<=maxLen)(hp1:qW w w.heap.size p1 8 (λi=>.int .i64 (pa i)))(hp2:qW w w.heap.size p2 8 (λi=>.int .i64 (pb i)))(hr1:qW w w.heap.size r1 la (λi=>.int .i64 (ra i)))(hr2:qW w w.heap.size r2 lb (λi=>.int .i64 (rb i)))(hC:C->(∀i,i<8->pa i=pb i)/\la=lb/\(∀i,i<la->ra i=rb i)/\na=nb):
 Calls prog 32 #[.agg #[.slice p1 8 pc1,.string na,.slice r1 la rc1],.agg #[.slice p2 8 pc2,.string nb,.slice r2 lb rc2]] w (EqlP C w):=by
 have HC:=zc hC;clear hC;obtain⟨w1,af⟩:=gen (w.alloc (.cells #[.slice p1 8 pc1,.string na,.slice r1 la rc1] 72));obtain⟨w2,ah⟩:=gen (w1.alloc (.cells #[.slice p2 8 pc2,.string nb,.slice r2 lb rc2] 72));have an:Below w.heap.size w w1:=by rw[af];exact(zjB _ w).alloc (zjA _) _
 have aw:w1.heap[w.heap.size]? =some (.cells #[.slice p1 8 pc1,.string na,.slice r1 la rc1] 72 (0,0)):=by rw[af];exact zjC w _
 have al:Below w1.heap.size w1 w2:=by rw[ah];exact(zjB _ w1).alloc (zjA _) _
 have aj:w2.heap[w1.heap.size]? =some (.cells #[.slice p2 8 pc2,.string nb,.slice r2 lb rc2] 72 (0,0)):=by rw[ah];exact zjC w1 _
 have av:w1.heap.size=w.heap.size+1:=by rw[af];simp
 have ag:=blk aw al;have ae:Below w.heap.size w w2:=an.trans (al.mono an.size);obtain⟨b2,ad⟩:=gen (w.heap.size+1);rw[av,<-ad] at aj;obtain⟨aq,ao,aB⟩:=zS ag aj ae;have aE:Hid (∀W,Below w2.heap.size w2 W->Calls prog 47 #[.slice p1 8 pc1,.slice p2 8 pc2] W λe w'=>(∃o,e=.returned (.bool o)/\((∀i,i<8->pa i=pb i)->o=true))/\Below W.heap.size W w'):=λW hW=>by
  have h0:=ae.trans (hW.mono ae.size);refine(Zd pa pb p1 p2 8 8 pc1 pc2 W (by decide) ((hp1.below h0).more h0.size) ((hp2.below h0).more h0.size)).mono ?_;rintro e w' ⟨⟨o,h1,h2⟩,h3⟩;exact⟨⟨o,h1,h2 rfl⟩,h3⟩
 have aD:Hid (∀W,Below w2.heap.size w2 W->Calls prog 47 #[.slice r1 la rc1,.slice r2 lb rc2] W λe w'=>(∃o,e=.returned (.bool o)/\(la=lb->(∀i,i<la->ra i=rb i)->o=true))/\Below W.heap.size W w'):=λW hW=>by
  have h0:=ae.trans (hW.mono ae.size);exact Zd ra rb r1 r2 la lb rc1 rc2 W hla ((hr1.below h0).more h0.size) ((hr2.below h0).more h0.size)
 have aC:=zc (show w2=(w.alloc (.cells #[.slice p1 8 pc1,.string na,.slice r1 la rc1] 72)).alloc (.cells #[.slice p2 8 pc2,.string nb,.slice r2 lb rc2] 72) by rw[ah,af]);clear hp1 hp2 hr1 hr2 af ah an al aw aj ag ae av;have c10:w2.cell? ⟨w.heap.size,0,none⟩=some (.slice p1 8 pc1):=zjD w2 w.heap.size 0 _ _ _ aq;have c20:w2.cell? ⟨b2,0,none⟩=some (.slice p2 8 pc2):=zjD w2 b2 0 _ _ _ ao;have aJ:=zc ad;go_enter func32,ntmps32
 go_upto_region 1 with fail
 rw[<-aC.o]
 try rw[<-aJ.o]
 clear ad;go_wp2_with fail
 refine(aE _ (zjB _ w2)).mono ?_;rintro e w3 ⟨⟨o1,rfl,ay⟩,ai⟩;have aG:=zc ay;have c12:w3.cell? ⟨w.heap.size,2,none⟩=some (.slice r1 la rc1):=zjD w3 w.heap.size 2 _ _ _ (blk aq ai);have c22:w3.cell? ⟨b2,2,none⟩=some (.slice r2 lb rc2):=zjD w3 b2 2 _ _ _ (blk ao ai);have au:=zc ai;clear ay ai c10 c20;go_wp2_with fail
 refine(aD _ au).mono ?_;rintro e w4 ⟨⟨o2,rfl,ax⟩,az⟩;have aF:=zc ax;have ar:Hid (Below w2.heap.size w2 w4):=au.o.trans (az.mono au.o.size);have c11:w4.cell? ⟨w.heap.size,1,none⟩=some (.string na):=zjD w4 w.heap.size 1 _ _ _ (blk aq ar);have c21:w4.cell? ⟨b2,1,none⟩=some (.string nb):=zjD w4 b2 1 _ _ _ (blk ao ar);have aa:Hid (Below w.heap.size w w4):=aB.o.trans (ar.o.mono aB.o.size);clear ax az c12 c22;cases o1 with
 |false=>
  go_wp2;go_ret;exact⟨⟨false,rfl,λh=>aG (HC h).1⟩,aa⟩
 |true=>
  cases o2 with
  |false=>
   go_wp2;go_ret;exact⟨⟨false,rfl,λh=>aF (HC h).2.1 (HC h).2.2.1⟩,aa⟩
  |true=>
   by_cases ak:na=nb
   .subst ak;go_wp2;go_ret;exact⟨⟨true,by first|rfl|simp,λ_=>rfl⟩,aa.o⟩
   have q1:=gB ak;have aH:=zc ak;go_wp2;go_ret;exact⟨⟨false,by first|rfl|simp,λh=>absurd (HC.o h).2.2.2 aH.o⟩,aa.o⟩
end
section
variable{w:World}{v:Value}{x:Nat->Int}
theorem VA(x:Nat->Int)(l:List Nat):xo x l=(List.range l.length).map λi=>.int .i64 (x (8+l.getD i 0)):=by
 apply List.ext_getElem
 .simp [xo]
 intro i h1 h2;have hi:i<l.length:=by simpa [xo] using h1
 simp[xo,List.getD_eq_getElem?_getD,hi]
theorem qJ{base:Nat}(h:w.ownsRow base 3 1 v 8 (gX x 8)):∃p c,v=.slice p 8 c/\qW w w.heap.size p 8 (λi=>.int .i64 (x i)):=Z5 h
theorem jz{base:Nat}{l:List Nat}(h:w.ownsRow base 3 1 v l.length (xo x l)):∃p c,v=.slice p l.length c/\qW w w.heap.size p l.length (λi=>.int .i64 (x (8+l.getD i 0))):=by
 rw[VA] at h;exact Z5 h
end
section
open Proofs.Tryz
variable{n:Nat}
theorem zd9{w:World}{base e size g:Nat}{v:Value}{xs:List Value}(h:w.ownsRow base e size v n xs)(hg:v.ownBlock=some g):base<=g:=by
 rcases h.2 with⟨rfl,_⟩|⟨k,cap,cur,rfl,hk,_⟩
 .cases hg
 cases hg;exact hk
theorem Km:∀(l:List zj5) (x:Nat->Int),(∀(k:Nat) (b:zj5),l[k]? =some b->(zi (regs x (l.take k)) b).2=true)->vg x l=some (regs x l)
 | [],_,_=>rfl
 |t::l,x,h=>by
  have h0:(zi x t).2=true:=h 0 t rfl;unfold vg;rw[zj2 h0,Km l (zi x t).1 (λk b hb=>h (k+1) b hb)];rfl
theorem XL{sg:Nat->List zj5}{x:Nat->Int}{k h r:Int}{t:zj5}(hx:Dom x)(hq:Quo n sg x k h r t):t.size<=24:=by
 obtain⟨b,hb,hv⟩:=hq;have hb':=zjP hb;have hs:=kJ x 8 (λi _=>hx i);by_cases he:∃q,q<8/\b q=true
 .obtain ⟨q,ad,aa⟩:=he
  obtain⟨_,fr,_,h1,_,_,_,_,h2⟩:=hv q ad aa;rw[<-h2];exact(qQ h1).2.2.2.2.2.2.1
 have h0:powB x b 8<=powB x (λ_=>false) 8:=js (λi=>(hx i).1) 8 (λq hq aa=>absurd ⟨q,hq,aa⟩ he);have h1:powB x (λ_=>false) 8=0:=by simp[powB]
 omega
theorem NI.fold{i:Nat}{x0:Nat->Int}{s:za}(h:NI n i x0 s)(hd:Dom x0)(k:Nat):vg x0 (s.blocks.take k)=some (regs x0 (s.blocks.take k))/\∀j,j<(s.blocks.take k).length->((s.blocks.take k).getD j zj4).size<=24:=by
 have hg:∀(j:Nat) (b:zj5),(s.blocks.take k)[j]? =some b->(s.blocks.take k).take j=s.blocks.take j/\s.blocks[j]? =some b:=λj b hb=>by
  have hj:j<(s.blocks.take k).length:=(List.getElem?_eq_some_iff.1 hb).1;rw[List.length_take] at hj;rw[zkc,zj2 (by omega)] at hb;refine⟨?_,hb⟩;rw[List.take_take,Nat.min_eq_left (by omega)]
 refine⟨Km _ _ (λj b hb=>?_),λj hj=>?_⟩
 .obtain ⟨h1,h2⟩:=hg j b hb
  rw[h1];exact(h.dec j b h2).1
 have hb:(s.blocks.take k)[j]? =some (s.blocks.take k)[j]:=zjJ hj;rw[zjK,hb,Option.getD_some];obtain⟨_,r,hq⟩:=h.dec j _ (hg j _ hb).2;exact XL (Qb hd _) hq
theorem Tryz.zgU(a b c d e:Int)(t u:zj5)(W:World):(Instr.field 61 (.agg #[.int .i64 a,.int .i64 b,.int .i64 c,.int .i64 d,.int .i64 e,.string t,.string u]) 0).run prog W=.ok (.int .i64 a) W:=by kernel_rfl
end
theorem zL.below{w w':World}{cb rb:Nat}{x:Nat->Int}{h:Int}(hc:zL w cb rb x h)(hb:Below w.heap.size w w'):zL w' cb rb x h:=blk hc hb
section
open Proofs.Tryz
variable{n:Nat}{sg:Nat->List zj5}
theorem zaZ{fr:zj5}(h0:0<=(decV fr).f)(h1:(decV fr).f.toNat<n)(h2:fr∈sg (decV fr).f.toNat):zB sg n (decV fr).f fr=true:=by
 unfold zB;rw[zjQ (show 0<=(decV fr).f/\(decV fr).f<(n:Int) from⟨h0,by omega⟩),jk h2];rfl
theorem ze8{s:za}{k:Nat}(h:k<s.zfF):s.zhr[k]? =some ((s.dec.getD k yr).block,(s.dec.getD k yr).cert):=by
 have h':k<s.dec.length:=h;unfold za.zhr;rw[List.getElem?_map,zjK,zjJ h'];rfl
theorem zdu{B:Nat}{es:List Addr}{m:Int}{hon:Nat->Bool}{Q:Nat->Option Obj}{Fs:Nat->Nat->Prop}{R:Nat->Prop}{nbs ks cbs:Nat->Nat}{rb T cc gc:Nat}{gp:Option Addr}{kv nv sv:Value}{st:Nat->za}{said:List zj5}(gf:Nat->Int)(acc:List zj5)(ap:Option Addr)(acap:Nat){w:World}(h:Zp B es m hon (regOf gf n) Q Fs R nbs ks cbs rb n T cc (.slice gp n gc) kv nv sv st sg said w)(hn:n<=8)
 (hacl:qW w w.heap.size ap acc.length (λi=>.string (acc.getD i zj4))) (hagr:∀i,i<n->hon i=true->∀k,k<acc.length->k<(st i).zfF->acc.getD k zj4=(st i).blk k) {mx:Int} {a0 a1 a2 a9 a10 a11:Addr} (hS:gm es w) (he0:es[0]? =some a0) (he1:es[1]? =some a1) (he2:es[2]? =some a2) (he9:es[9]? =some a9) (he11:es[11]? =some a11) (hT:YG w) (hmx:w.cell? ⟨13,0,none⟩=some (.int .i64 mx)) (hg:w.cell? ⟨10,0,none⟩=some (.iface 294 (.pointer (some a10))))
 (hgl:qW w w.heap.size gp n (λi=>.int .i64 (gf i))) (hgen:vB gf n=(regOf gf n,true)) (hd:Dom (regOf gf n)):
 Calls prog 40 #[.pointer (some ⟨cc,0,none⟩),.slice ap acc.length acap] w λe w'=>e=.returned (.bool true)/\Below w.heap.size w w':=by
 obtain⟨iW,cA,cm,cl,cj⟩:=info_parts Tryz.zgC;obtain⟨g,cap,rfl,ct,hgc,bQ⟩:=h.nodeAt;obtain⟨HO,bM,bK,cH,cW,cV,cU,bz⟩:=jR h hacl hagr hS he1 he2 he9 he11;have cG:Hid (YG w):=hT;obtain⟨b5,HG,H1,c4,b8,ar,HD,bc⟩:=jR hmx hg (hS.cell 0 _ _ rfl he0) (hS.cell 11 _ _ rfl he11) hgl hgen hd bQ;have C3:Hid (w.cell? ⟨cc,3,none⟩=some (.slice (some ⟨g,0,none⟩) n cap)):=zjD w cc 3 _ _ _ h.blk;have C1:Hid (w.cell? ⟨cc,1,none⟩=some (.pointer (some ⟨rb,0,none⟩))):=zjD w cc 1 _ _ _ h.blk;have C0:Hid (w.cell? ⟨cc,0,none⟩=some (.slice gp n gc)):=zjD w cc 0 _ _ _ h.blk;clear h hacl hagr hS he0 he1 he2 he9 he11 hT hmx hg hgl hgen hd bQ;go_enter func40,ntmps40;go_wp2;go_loopw [5] (λiv wr=>∃i:Nat,i<=n/\iv=.int .i64 i/\Below w.heap.size w wr) (λiv _=>n-(intOf iv).toNat)
 case atStart=>exact⟨0,zjG _,rfl,zjB _ _⟩
 obtain⟨i,hin,rfl,hb⟩:=hrel;have HB:=zc hb;have c3:wr.cell? ⟨cc,3,none⟩=some (.slice (some ⟨g,0,none⟩) n cap):=Ext.cell C3.o (Ext.of hb);clear hb;by_cases aJ:i=n
 .have hge:¬(i:Int)<n:=by omega
  go_wp2;go_ret;exact⟨rfl,HB⟩
 have hi:i<n:=by omega
 have cu:(i:Int)<n:=by omega
 have ck0:=Ext.cell (bc i hi) (Ext.of HB);cases hh:hon i with
 |false=>
  have ck:wr.cell? ⟨g,i,none⟩=some (.pointer none):=by rw[<-zeY (nbs:=nbs) hh];exact ck0
  clear ck0 aJ;go_wp2;go_roundw
  case rel=>exact⟨i+1,by omega,by go_num,HB.o⟩
  simp[intOf];omega
 |true=>
  have ck:wr.cell? ⟨g,i,none⟩=some (.pointer (some ⟨nbs i,0,none⟩)):=by rw[<-Z2 (nbs:=nbs) hh];exact ck0
  clear ck0 aJ
  go_upto_region 5 with fail
  refine rgd (S:=λX=>Below w.heap.size w X) (HB.o.drew) (λhH=>?_);refine zQ [(0,some 37,pA cc 0),(1,some 38,pA cc 0),(2,some 39,pA cc 1),(3,some 40,pA rb 0),(4,some 41,pA cc 0),(5,some 42,pA cc 0),(6,some 43,pA cc 0),(7,some 44,.slice gp n gc)] _ _ hH (λx h=>aI (show x.cell? ⟨cc,1,none⟩=some (.pointer (some ⟨rb,0,none⟩)) from Ext.cell C1.o (Ext.of h)) (show x.cell? ⟨cc,0,none⟩=some (.slice gp n gc) from Ext.cell C0.o (Ext.of h))) ?_;simp only[ze,AP,pA];refine zv 8 (λK hK=>?_);go_simp;refine(zam rb gf gp n gc a0 (regOf gf n) _ ((b8.o.below hH).more hH.size) (Ext.cell H1 (Ext.of hH)) ar).mono ?_;rintro en w4 ⟨cb,bW,rfl,aL,bY⟩;have bt:Below w.heap.size w w4:=hH.trans (bY.mono hH.size);have cX:Hid (w.heap.size<=cb):=zjF hH.size bW;obtain⟨bH,aY⟩:=zn aL bt;refine hK.out _ _ (bt) (λhH=>?_);clear hK K
  try simp only[AP,AQ]
  refine y7 [(9,some 36,.tuple #[.pointer (some ⟨cb,0,none⟩),.nilIface]),(10,some 46,pA cb 0),(11,some 47,.nilIface),(12,some 6,pA cb 0),(13,some 7,.nilIface)] _ _ hH ?_;simp only[ze,AP,pA];refine dnr ?_;clear hH bt aL bY bW;have bd:Hid ((st i).zfF<=12):=(HO.o.city.ok i hi hh).hgt;obtain⟨V,hA,_⟩:=((HO.o.below aY).city.node i hi hh).node;have bw:=zc (ZS (nbs i) (ks i) (cbs i) V (st i) w4 hA);have c34:w4.cell? ⟨cc,3,none⟩=some (.slice (some ⟨g,0,none⟩) n cap):=Ext.cell C3.o (Ext.of aY);have ck4:w4.cell? ⟨g,i,none⟩=some (.pointer (some ⟨nbs i,0,none⟩)):=by rw[<-Z2 (nbs:=nbs) hh];exact Ext.cell (bc i hi) (Ext.of aY)
  clear hA c3 ck;unfold XC at bw;go_wp2_with fail
  refine bw.o.mono ?_;rintro e w5 ⟨rfl,bq⟩;have cZ:Hid (Below w.heap.size w w5):=aY.o.trans (bq.mono aY.o.size);have bG:=zc (bH.o.below bq);clear bq bw c34 ck4;obtain⟨ht,bl⟩:∃z,z=(st i).zfF:=⟨_,rfl⟩;rw[<-bl] at bd ⊢;have ay:=zc bl;have qf:=Tryz.zgU (ht:Int) ((st i).round:Int) ((st i).step:Int) (st i).lr (st i).vr (st i).lv (st i).vv w5;clear bl;go_wp2;go_loopw [8,10] (λbv hv wr=>∃k:Nat,k<=ht/\hv=.int .i64 k/\wr.ownsRow w.heap.size 9 1 bv ((st i).blocks.take k).length (((st i).blocks.take k).map .string)/\zL wr cb rb (regs (regOf gf n) ((st i).blocks.take k)) (k:Int)/\Below w.heap.size w wr) (λ_ hv _=>ht-(intOf hv).toNat)
  case atStart=>exact⟨0,zjG _,rfl,by simpa using zjZ w5 w.heap.size 9 1,bG.o,cZ.o⟩
  obtain⟨k,hkh,rfl,a6,bV,bZ⟩:=hrel;obtain⟨ah,aV⟩:=zn bZ bV;have ax:=HO.o.ci.ni i hi hh;obtain⟨l,hl⟩:∃z,z=(st i).blocks.take k:=⟨_,rfl⟩;have bT:l.length=k:=by rw[hl,List.length_take,zI,<-ay.o];omega
  have bx:Hid (∀j,j<l.length->(l.getD j zj4).size<=24):=by rw[hl];exact(NI.fold ax HD k).2
  have cT:Hid (vg (regOf gf n) l=some (regs (regOf gf n) l)):=by rw[hl];exact(NI.fold ax HD k).1
  rw[<-hl] at a6 aV;obtain⟨y,hy⟩:=gen (regs (regOf gf n) l);rw[<-hy] at aV;have bB:Hid (Dom y):=by rw[hy];exact Qb HD l
  obtain⟨lp,lcap,rfl,cw,bR⟩:=kV a6;obtain⟨cO,cQ,bf,HY,HLK⟩:=x6 a6 bR hl hy bT;have bS:l.length<=12:=by have h8:=bd.o;omega
  have cz:k<=12:=by have h8:=bd.o;omega
  clear a6 bV bZ ax hl bT hy bR;by_cases a8:k=ht
  .have cy:¬(k:Int)<(ht:Int):=by omega
   have cS:Hid (YN gf n l=(y,0)):=Kl gf n l y (by rw[ar.o]) (by rw[ar.o,cT.o,HY.o]);have b9:=zc (zbW gf gp n gc l lp lcap a0 a11 mx wr ((b8.o.below ah.o).more ah.o.size) cQ.o cw (λj hj=>by have:=bx.o j hj;omega) (Ext.cell H1.o (Ext.of ah.o)) (Ext.cell c4.o (Ext.of ah.o)) (Ext.cell b5.o (Ext.of ah.o)));have cD:Hid ((st i).x=y):=by
    unfold Hid;rw[(HO.o.ci.ni i hi hh).reg,HY.o,bf.o,List.take_of_length_le (by rw[zI,<-ay.o,a8];exact zjA _)]
   have cR:Hid ((k:Int)=(ht:Int)):=by unfold Hid;rw[a8]
   have c02:wr.cell? ⟨cc,0,none⟩=some (.slice gp n gc):=Ext.cell C0.o (Ext.of ah);clear a8;go_wp2_with fail
   refine b9.o.mono ?_;intro e w6 hF;rw[cS.o] at hF;obtain⟨bp,hF⟩:=hF;rcases hF with⟨_,pv,rv,rfl,hp,hr,cr⟩|⟨h0,_⟩|⟨h0,_⟩
   .obtain ⟨pp,pc,rfl,_⟩:=qJ hp
    obtain⟨rp,rc,rfl,_⟩:=jz hr;have cd:Hid (Below w.heap.size w w6):=ah.o.trans (bp.mono ah.o.size);obtain⟨bF,cM,cJ⟩:=zS (aV.o.below bp) hp hr;clear hp hr cr bp b9 c02
    go_upto_region 19 with(first|(refine zh rfl 72 _ _ rfl w6 #[.slice pp 8 pc,.string (nameB (memb y 26)),.slice rp (memb y 26).length rc] rfl rfl 72 _ rfl (by simp[Value.oneCell']) Tryz.zgy ?_;intro wx bO bX ch;have bg:=zc bX;have b3:=zc bO;clear bO bX ch)|fail)
    obtain⟨rgb,aB⟩:=gen w6.heap.size;rw[<-aB] at b3 ⊢;have ag:Hid (Below w.heap.size w wx):=cd.o.trans (bg.o.mono cd.o.size);have an:Hid (wx.rangeAt rgb 0 [.slice pp 8 pc,.string (nameB (memb y 26)),.slice rp (memb y 26).length rc]):=yG (l:=[.slice pp 8 pc,.string (nameB (memb y 26)),.slice rp (memb y 26).length rc]) b3;obtain⟨bC,b4,b2,C3X⟩:=qO (bF.o.below bg) (z7 cM bg) (z7 cJ bg) (Ext.cell C3.o (Ext.of ag));have CKX:Hid (wx.cell? ⟨g,i,none⟩=some (.pointer (some ⟨nbs i,0,none⟩))):=by unfold Hid;rw[<-Z2 (nbs:=nbs) hh];exact Ext.cell (bc i hi) (Ext.of ag)
    clear aB;refine rgd (S:=λX=>Below wx.heap.size wx X) ((zjB _ wx).drew) (λhH=>?_);refine takeN [(0,some 118,.agg #[.slice pp 8 pc,.string (nameB (memb y 26)),.slice rp (memb y 26).length rc]),(1,some 119,pA cc 0),(2,some 120,pA cc 0),(3,some 121,pA cc 3),(4,some 122,.slice (some ⟨g,0,none⟩) n cap),(5,some 123,.int .i64 (i:Int)),(6,some 124,pA g i),(7,some 125,pA (nbs i) 0)] _ _ hH (by repeat(first|exact zj7|((first|refine tkc rfl rfl (zka (by rfl) 72 _ rfl rgb 0 rfl [.slice pp 8 pc,.string (nameB (memb y 26)),.slice rp (memb y 26).length rc] _ (λW h=>Ext.range an (Ext.of h)) underlying72 rfl (by rw[Tryz.zgy];rfl)) ?_|(refine tkc rfl rfl (zj0 ⟨by rfl,λx h=>?_⟩) ?_;focus(have f0:x.cell? ⟨cc,3,none⟩=some (.slice (some ⟨g,0,none⟩) n cap):=Ext.cell C3X.o (Ext.of h);have f1:x.cell? ⟨g,i,none⟩=some (.pointer (some ⟨nbs i,0,none⟩)):=Ext.cell CKX.o (Ext.of h);go_simp;done)));simp only[AP]))) ?_;simp only[ze,AP,pA];refine zv 8 (λK hK=>?_);go_simp;obtain⟨V7,cC,_⟩:=((HO.o.below (ag.o.trans (hH.mono ag.o.size))).city.node i hi hh).node;refine(Zt cC (HO.o.city.ok i hi hh).dom).mono ?_;rintro en w7 ⟨qv,tv,rfl,ae,ad,_,aP⟩;rw[cD.o] at ae ad ⊢;obtain⟨qp,qc,rfl,aE⟩:=qJ ae;obtain⟨tp,tc,rfl,aC⟩:=jz ad;have af:Below wx.heap.size wx w7:=hH.trans (aP.mono hH.size);obtain⟨p1,c1,e1,aF⟩:=qJ (z7 b4 af);obtain⟨p3,c3,e3,aD⟩:=jz (z7 b2 af);cases e1;cases e3;refine hK.out _ _ (af) (λhH=>?_);clear hK K
    try simp only[AP,AQ]
    refine zv 9 (λK hK=>?_);go_simp;refine(xY True y y (λi=>y (8+(memb y 26).getD i 0)) (λi=>y (8+(memb y 26).getD i 0)) _ _ _ _ _ _ _ _ _ _ _ _ w7 (zjF (xt _ _) (by decide)) aF aE aD aC (λ_=>⟨λ_ _=>rfl,rfl,λ_ _=>rfl,rfl⟩)).mono ?_;rintro en w8 ⟨⟨oe,rfl,aG⟩,aO⟩;obtain rfl:=aG trivial;have al:Below wx.heap.size wx w8:=af.trans (aO.mono af.size);refine hK.out _ _ (al) (λhH=>?_);clear hK K
    try simp only[AP,AQ]
    refine y7 [(10,some 17,.bool true)] _ _ hH ?_;simp only[ze,AP];refine dnr ?_;obtain⟨w9,cp⟩:=gen w8;subst cp;have aj:=zc al;have aQ:Hid (w9.rangeAt rgb 0 [.slice pp 8 pc,.string (nameB (memb y 26)),.slice rp (memb y 26).length rc]):=Ext.range an (Ext.of aj);obtain⟨ak,cK,cI⟩:=zS (bC.o.below aj) (z7 b4 aj) (z7 b2 aj);have aW:Hid (Below w.heap.size w w9):=ag.o.trans (aj.o.mono ag.o.size);clear hH af al aO aF aE aD aC ae ad aG aP
    go_upto_region 20 with fail
    refine rgd (S:=λX=>Below w9.heap.size w9 X) ((zjB _ w9).drew) (λhH=>?_);refine takeN [(0,some 128,.agg #[.slice pp 8 pc,.string (nameB (memb y 26)),.slice rp (memb y 26).length rc]),(1,some 129,pA cb 0)] _ _ hH (by repeat(first|exact zj7|((first|refine tkc rfl rfl (zka (by rfl) 72 _ rfl rgb 0 rfl [.slice pp 8 pc,.string (nameB (memb y 26)),.slice rp (memb y 26).length rc] _ (λW h=>Ext.range aQ (Ext.of h)) underlying72 rfl (by rw[Tryz.zgy];rfl)) ?_|(refine tkc rfl rfl (zj0 ⟨by rfl,λx h=>?_⟩) ?_;focus(go_simp;done)));simp only[AP]))) ?_;simp only[ze,AP,pA];refine zv 2 (λK hK=>?_);go_simp;refine(x9 cb rb y (k:Int) _ (ak.o.below hH) bB).mono ?_;rintro en w7 ⟨qv,tv,rfl,ae,ad,_,aP⟩;obtain⟨qp,qc,rfl,aE⟩:=qJ ae;obtain⟨tp,tc,rfl,aC⟩:=jz ad;have af:Below w9.heap.size w9 w7:=hH.trans (aP.mono hH.size);obtain⟨p1,c1,e1,aF⟩:=qJ (z7 cK af);obtain⟨p3,c3,e3,aD⟩:=jz (z7 cI af);cases e1;cases e3;refine hK.out _ _ (af) (λhH=>?_);clear hK K
    try simp only[AP,AQ]
    refine zv 3 (λK hK=>?_);go_simp;refine(xY True y y (λi=>y (8+(memb y 26).getD i 0)) (λi=>y (8+(memb y 26).getD i 0)) _ _ _ _ _ _ _ _ _ _ _ _ w7 (zjF (xt _ _) (by decide)) aF aE aD aC (λ_=>⟨λ_ _=>rfl,rfl,λ_ _=>rfl,rfl⟩)).mono ?_;rintro en w8 ⟨⟨oe,rfl,aG⟩,aO⟩;obtain rfl:=aG trivial;have al:Below w9.heap.size w9 w8:=af.trans (aO.mono af.size);refine hK.out _ _ (al) (λhH=>?_);clear hK K
    try simp only[AP,AQ]
    refine y7 [(4,some 18,.bool true)] _ _ hH ?_;simp only[ze,AP];refine dnr ?_;have aU:=zc (ak.o.below al);have aX:Hid (Below w.heap.size w w8):=aW.o.trans (al.mono aW.o.size);have b7:=zc (Zw cb rb y (k:Int) w8 aU);clear hH af al aO aF aE aD aC ae ad aG aP;rw[cR.o] at b7;go_wp2_with fail
    refine b7.o.mono ?_;rintro e wz ⟨rfl,bN⟩;have cn:=bN.symm;clear bN;subst cn;go_wp2;go_roundw
    case rel=>exact⟨i+1,by omega,by go_num,aX.o⟩
    simp[intOf];omega
   .cases h0
   cases h0
  have a7:k<ht:=by omega
  have cx:(k:Int)<(ht:Int):=by omega
  obtain⟨b6,ca⟩:=zn a7 (J3 HO ah hi hh (k:Int) a10 HG);have c32:wr.cell? ⟨cc,3,none⟩=some (.slice (some ⟨g,0,none⟩) n cap):=Ext.cell C3.o (Ext.of ah);have ck2:wr.cell? ⟨g,i,none⟩=some (.pointer (some ⟨nbs i,0,none⟩)):=by rw[<-Z2 (nbs:=nbs) hh];exact Ext.cell (bc i hi) (Ext.of ah)
  go_wp2_with fail
  refine ca.o.mono ?_;intro e wd bu;unfold jY at bu;rw[zj2 ⟨by omega,by have h9:ht=(st i).dec.length:=ay.o;omega⟩,Int.toNat_natCast] at bu;obtain⟨p5,c5,rfl,aH,bh,_,aN⟩:=bu;obtain⟨t5,aw⟩:∃z,z=((st i).dec.getD k yr).block:=⟨_,rfl⟩;obtain⟨cf,aM⟩:∃z,z=((st i).dec.getD k yr).cert:=⟨_,rfl⟩;have av:Hid (Below w.heap.size w wd):=ah.o.trans (aN.mono ah.o.size);have b1:Hid ((st i).blocks.take (k+1)=l++[t5]):=by
   have h9:=KF (s:=st i) (k:=k) (by rw[<-ay.o];exact a7);unfold Hid;rw[List.take_add_one,h9,<-bf.o,aw];rfl
  have az:Hid (Vi n sg y k t5 cf/\(zi y t5).2=true/\t5.size<=24/\cf.length<=100000):=by
   have ax:=HO.o.ci.ni i hi hh;have bk:k<(st i).zfF:=by rw[<-ay.o];exact a7
   have h9:=ax.cert k _ (ze8 bk);rw[<-bf.o,<-HY.o,<-aw,<-aM] at h9;have cq:(st i).sg=sg:=HO.o.city.sgs i hi hh;rw[cq] at h9;obtain⟨g1,r9,g2⟩:=ax.dec k _ (KF bk);have e9:(st i).blk k=t5:=by rw[aw];rfl
   rw[<-bf.o,<-HY.o,e9] at g1 g2;refine⟨h9,g1,XL bB g2,?_⟩;rw[aM];have bU:k<(st i).dec.length:=bk;exact(HO.o.city.ok i hi hh).cert _ (by rw[zjK,zjJ bU];exact List.getElem_mem bU)
  have bL:Hid (k<acc.length->acc.getD k zj4=t5):=λh9=>by
   rw[bK.o i hi hh k h9 (by rw[<-ay.o];exact a7),aw];rfl
  rw[<-aw,<-aM];rw[<-aM] at bh aH;have cg:=zc (zaG R cb rb n sg y (k:Int) t5 (λj=>cf.getD j zj4) p5 cf.length c5 es a1 a2 a9 a11 mx wd bB.o (by omega) (by have:=bd.o;omega) (by have:=az.o.2.2.1;omega) (aV.o.below aN) (HO.o.below av.o).city.ring (λk hk=>((HO.o.below av.o).city.rl k hk).2) (cH.o.later av.o) cW.o cV.o cU.o bz.o (Ext.cell cG.o (Ext.of av.o)) (Ext.cell b5.o (Ext.of av.o)) bh (by have:=az.o.2.2.2;omega));obtain⟨aS,bD⟩:=zn (z7 cO aN) (aV.o.below aN);clear aw aM aN aH bh ca c32 ck2 a8;go_wp2_with fail
  refine cg.o.mono ?_;intro e wa cB;have bm:∀j,j<cf.length->cf.getD j zj4∈cf:=λj hj=>kz cf zj4 j hj;rcases cB with⟨c,b,_,_,_,bo⟩|⟨rfl,_,_,_,_,aK,bn⟩
  .exfalso;rcases bo with⟨_,h9⟩|⟨_,_,j,hj,h9⟩|⟨_,_,_,j,hj,h9⟩|⟨_,_,_,_,h9⟩
   .rw [az.o.2.1] at h9;cases h9
   .rw [(az.o.1.1 _ (bm j hj)).1] at h9;cases h9
   .obtain ⟨_,q1,q2,q3⟩:=az.o.1.1 _ (bm j hj)
    rw[zaZ q1 q2 q3] at h9;cases h9
   exact h9 az.o.1.2
  have bJ:Hid (Below w.heap.size w wa):=av.o.trans (Below.same bn (λj e=>by rw[e];exact cX) av.o.size);have aT:=zc (zb aS λj hj cv=>bn.block j cv (λe=>yI aS bD (by decide) (e▸hj)));have bE:=zc aK;clear aK bn cg bm;obtain⟨wb,aZ⟩:=gen (wa.alloc (.cells #[.string t5] 9));have bb:Below wa.heap.size wa wb:=by rw[aZ];exact(zjB _ wa).alloc (zjA _) _
  have bP:wb.heap[wa.heap.size]? =some (.cells #[.string t5] 9 (0,0)):=by rw[aZ];exact zjC wa _
  have aq:=zc (z7 aT bb);have bI:Hid (Below w.heap.size w wb):=bJ.o.trans (bb.mono bJ.o.size);have au:=zc (bE.o.below bb);have cP:Hid (∀(j:Nat) (u:Value),[Value.string t5][j]? =some u->wb.cell? ((⟨wa.heap.size,0,none⟩:Addr).add j)=some u):=λj u hj=>by
   rw[addr_add,zj8,zjD _ wa.heap.size j _ _ _ bP];simpa using hj
  have cF:=zc aZ;clear bb bP aZ;by_cases ba:k<acc.length;focus
   have bj:(k:Int)<acc.length:=by omega
   obtain⟨ab,ao,rfl,bs,b0⟩:=bM.o k ba;have cac:wa.cell? ⟨ab,ao+k,none⟩=some (.string t5):=by rw[bJ.o.cell bs,<-bL.o ba];exact b0
   clear b0 ba
  rotate_left;focus
   have bj:¬(k:Int)<acc.length:=by omega
   clear ba
  rotate_left;all_goals
   go_wp2_with (at_builtin;rw[<-cF.o];refine z8 _ rfl _ _ 30 rfl w.heap.size 9 iW (.string zj4) 1 16 underlying30 cA cm cl cj rfl (by decide) (.slice lp l.length lcap) l.length (l.map .string) rfl aq.o ⟨wa.heap.size,0,none⟩ 1 1 [.string t5] rfl rfl cP.o (λu hu=>by simp at hu;subst hu;rfl) (by unfold maxLen;omega) (by omega) bI.o.size ?_;intro v9 w9 ai aa br;obtain⟨p9,c9,rfl⟩:=zm ai;have aR:=zc ai;have ak:Hid (zL w9 cb rb (zi y t5).1 ((k:Int)+1)):=(aa.block cb (zg au) (λe=>yI aq au (by decide) e.symm)).trans au;have cY:Hid (Below w.heap.size w w9):=bI.o.trans ⟨aa.os,aa.tape,aa.output,aa.size,λj hj=>aa.block j (zjE hj bI.o.size) (λe=>absurd (zd9 aq e.symm) (Nat.not_le.2 hj))⟩;clear ai aa br)
   try go_wp2
   go_roundw
   case rel=>exact⟨k+1,b6,by go_num,by rw[b1.o,zjO,List.map_append];exact aR,by rw[b1.o,ZY,<-HY.o];exact ak,cY⟩
   case measure=>have h9:=b6.o;simp[intOf];omega
end
section
variable{es:List Addr}{m:Int}{w:World}
def SGL(es:List Addr)(m:Int)(w:World):Prop:=Sent es w/\YG w/\w.cell? ⟨13,0,none⟩=some (.int .i64 m)
theorem SGL.later{w':World}(h:SGL es m w)(hb:Below w.heap.size w w'):SGL es m w':=⟨h.1.later hb,h.2.1.below hb,(hb.cell (zjI _ _ h.2.2)).trans h.2.2⟩
theorem SGL.at(h:SGL es m w)(i:Nat)(hi:i<12):∃a,es[i]? =some a:=⟨_,zjJ (by rw[h.1.len];exact hi)⟩
theorem SGL.glob(h:SGL es m w):kH w.heap.size es m w:=by
 have hF:=gm.of h.1;refine⟨hF.four,h.2.2,λi g hg hi=>?_,zjI _ _ h.2.2,λa ha=>?_⟩
 .obtain ⟨a,ha⟩:=h.at i (List.getElem?_eq_some_iff.1 hg).1
  exact zjI _ _ (h.1.cell i g a hg ha)
 obtain⟨c,t,hc⟩:=h.1.blk a ha;exact zg hc
theorem SGL.globR(h:SGL es m w):v8 w.heap.size es w:=by
 refine⟨λi g a hg ha _=>h.1.cell i g a hg ha,λi g hg hi=>?_⟩;obtain⟨a,ha⟩:=h.at i (List.getElem?_eq_some_iff.1 hg).1;exact zjI _ _ (h.1.cell i g a hg ha)
theorem SGL.c(h:SGL es m w){i g:Nat}{a:Addr}(hg:qt[i]? =some g)(ha:es[i]? =some a):w.cell? ⟨g,0,none⟩=some (.iface 294 (.pointer (some a))):=h.1.cell i g a hg ha
theorem zba{g:Nat->Int}{n:Nat}(hgb:∀i,i<n->1<=g i/\g i<=3):Dom (regOf g n):=λi=>by
 unfold regOf;split
 .rename_i h1;have:=hgb i h1;omega
 .omega

import Derived.Test.YtcfjhbcpjpgodaaGreatDoorTick
import Derived.Test.YtcfjhbcpjpgodaaGreatDoorActMsg
namespace Go.Proofs.YtcfjhbcpjpgodaaGreatDoor
open Go.RowKit Proofs.Tryz
set_option maxRecDepth 100000
set_option maxHeartbeats 0
set_option linter.all false
theorem jl{Sb:zj5->Prop}{B:Nat}{es:List Addr}{m:Int}{gv:Value}{rb n cc T M:Nat}{st:Nat->za}{said:List zj5}(a:ZL){w:World}(h:zK B es m rb n cc gv T M st said w)(ha:Zy a)(hk:pickN a.k 11=0\/pickN a.k 11=1\/pickN a.k 11=2\/pickN a.k 11=3)(hn:n<=8)(hM:M+100*n<=4000000000000)(hT:T+n<=1000000000000):
 Calls prog 28 #[.pointer (some ⟨cc,0,none⟩),.agg a.cells] w λe w'=>e=.returned (.tuple #[])/\∃st' said',Moves n Sb (st,said) (st',said')/\zK B es m rb n cc gv (T+n) (M+100*n) st' said' w'/\Below B w w'/\∀j,j<n->(st' j).out=[]:=by
 obtain⟨ak,at1,af,ac,⟨mk,mh,mr,mf,mv,mn,ms⟩,rec⟩:=a;obtain⟨hlen,Fs,R,nbs,ks,cbs,kv,nv,sv,hO⟩:=h;obtain⟨g,cap,rfl,bZ,b3,bY⟩:=hO.nodeAt;have aD:=hO.npos;obtain⟨tj,aW⟩:=gen (pickN at1 n);have bu:tj<n:=by rw[aW];exact yv hO.npos
 have bU:(tj:Int)<n:=by omega
 show Calls prog 28 #[.pointer (some ⟨cc,0,none⟩),.agg #[.int .i64 ak,.int .i64 at1,.int .i64 af,.int .i64 ac,.int .i64 mk,.int .i64 mh,.int .i64 mr,.int .i64 mf,.int .i64 mv,.bool mn,.string ms,.string rec]] w _;obtain⟨w1,aR⟩:=gen (w.alloc (.cells #[.int .i64 ak,.int .i64 at1,.int .i64 af,.int .i64 ac,.int .i64 mk,.int .i64 mh,.int .i64 mr,.int .i64 mf,.int .i64 mv,.bool mn,.string ms,.string rec] 81));have aL:Below w.heap.size w w1:=by rw[aR];exact(zjB _ w).alloc (zjA _) _
 have ar:w1.heap[w.heap.size]? =some (.cells #[.int .i64 ak,.int .i64 at1,.int .i64 af,.int .i64 ac,.int .i64 mk,.int .i64 mh,.int .i64 mr,.int .i64 mf,.int .i64 mv,.bool mn,.string ms,.string rec] 81 (0,0)):=by rw[aR];exact zjC w _
 have C3:Hid (w1.cell? ⟨cc,3,none⟩=some (.slice (some ⟨g,0,none⟩) n cap)):=zjD w1 cc 3 _ _ _ (blk hO.blk aL);have CTJ:Hid (w1.cell? ⟨g,tj,none⟩=some (.pointer (some ⟨nbs tj,0,none⟩))):=(hO.below aL).zgi tj bu;have CA1:Hid (w1.cell? ⟨w.heap.size,1,none⟩=some (.int .i64 at1)):=zjD w1 w.heap.size 1 _ _ _ ar;have CA0:Hid (w1.cell? ⟨w.heap.size,0,none⟩=some (.int .i64 ak)):=zjD w1 w.heap.size 0 _ _ _ ar;have bM:Hid (∀W,Calls prog 26 #[.int .i64 at1,.int .i64 (n:Int)] W λe w'=>e=.returned (.int .i64 (tj:Int))/\w'=W):=λW=>by rw[aW];exact yo at1 n W ha.t.1 ha.t.2 aD (by omega)
 have bN:Hid (∀W,Calls prog 26 #[.int .i64 ak,.int .i64 11] W λe w'=>e=.returned (.int .i64 (pickN ak 11:Int))/\w'=W):=λW=>yo ak 11 W ha.k.1 ha.k.2 (by omega) (by omega);have bQ:Hid (yx B es m nbs ks gv kv (.slice (some ⟨g,0,none⟩) n cap) rb n cc T M w.heap.size #[.int .i64 ak,.int .i64 at1,.int .i64 af,.int .i64 ac,.int .i64 mk,.int .i64 mh,.int .i64 mr,.int .i64 mf,.int .i64 mv,.bool mn,.string ms,.string rec] 81 st said w1):=yx.of hO hlen aL (zjA _) ar;have bq:Hid (B<=w.heap.size):=hO.bl;obtain⟨bR,b6,aT⟩:=zS aL aR ha;obtain⟨ab,bj⟩:=gen w.heap.size;have HGC:=zc b3;clear hO bY aW aL ar aR ha hlen;go_enter func28,ntmps28
 go_upto_region 1 with fail
 rw[<-b6.o];refine rgd (S:=λX=>Below w1.heap.size w1 X) ((zjB _ w1).drew) (λhH=>?_);refine zQ [(0,some 14,pA cc 0),(1,some 15,pA cc 0),(2,some 16,pA cc 3),(3,some 17,.slice (some ⟨g,0,none⟩) n cap),(4,some 18,pA w.heap.size 1),(5,some 19,.int .i64 at1),(6,some 20,pA cc 0),(7,some 21,pA cc 0),(8,some 22,pA cc 3),(9,some 23,.slice (some ⟨g,0,none⟩) n cap),(10,some 24,.int .i64 (n:Int))] _ _ hH (λx h=>aI (show x.cell? ⟨cc,3,none⟩=some (.slice (some ⟨g,0,none⟩) n cap) from Ext.cell C3.o (Ext.of h)) (show x.cell? ⟨w.heap.size,1,none⟩=some (.int .i64 at1) from Ext.cell CA1.o (Ext.of h))) ?_;simp only[ze,AP,pA];refine zv 11 (λK hK=>?_);go_simp;refine(bM _).mono ?_;rintro en X2 ⟨rfl,rfl⟩;refine hK.out _ _ (hH) (λhH=>?_);clear hK K
 try simp only[AP,AQ]
 refine zQ [(12,some 26,pA g tj),(13,some 27,pA (nbs tj) 0),(14,some 4,pA (nbs tj) 0)] _ _ hH (λx h=>show x.cell? ⟨g,tj,none⟩=some (.pointer (some ⟨nbs tj,0,none⟩)) from Ext.cell CTJ.o (Ext.of h)) ?_;simp only[ze,AP,pA];refine dnr ?_;obtain⟨w2,aV⟩:=gen w1.drew;have bs:Hid (Below w1.heap.size w1 w2):=by rw[aV];exact(zjB _ w1).drew
 rw[<-aV];have aN:=zc (bQ.o.below bs);have az:Hid (Below B w w2):=(bR.o.mono bq).trans ((bs.o.mono (zjF bq bR.o.size)));have c02:w2.cell? ⟨w.heap.size,0,none⟩=some (.int .i64 ak):=Ext.cell CA0.o (Ext.of bs);clear hH aV CTJ CA1 bQ bM;rw[<-bj] at aN c02;have ch:=zc bj
 try rw[<-ch.o]
 clear bj
 go_upto_region 2 with fail
 go_wp2_with fail
 refine(bN _).mono ?_;rintro en X ⟨rfl,hX⟩;have b4:=hX.symm;clear hX;subst b4;rcases hk with hk|hk|hk|hk;all_goals
  rw[hk];obtain⟨aF,Fs2,R2,cbs2,sv2,bH,bg,a8⟩:=aN.o;obtain⟨sp0,sc0,aY,c40,a6⟩:=bH.zgt;have cAC0:w2.cell? ⟨ab,3,none⟩=some (.int .i64 ac):=zjD w2 ab 3 _ _ _ a8;have CF2:Hid (w2.cell? ⟨ab,2,none⟩=some (.int .i64 af)):=zjD w2 ab 2 _ _ _ a8;have C42:=zc c40;have b1:said.length<=4000000000000:=by omega
  clear bH bg a8 aF a6 aY;obtain⟨q,hq⟩:=gen (pickN ac 12);have bX:q<12:=by rw[hq];exact yv (by omega)
  have bO:Hid (∀W,Calls prog 26 #[.int .i64 ac,.int .i64 12] W λe w'=>e=.returned (.int .i64 (q:Int))/\w'=W):=λW=>by rw[hq];exact yo ac 12 W aT.o.c.1 aT.o.c.2 (by omega) (by omega)
  clear hq;by_cases h0:said.length=0
  .have b5:¬(0:Int)<said.length:=by omega
   have hq0:(0:Int)<=q:=by omega
   go_wp2;go_loopw [6,7] (λku _ wr=>ku=.int .i64 0/\wr=w2) (λ_ _ _=>0)
   case atStart=>exact⟨rfl,rfl⟩
   case round=>
    obtain⟨rfl,bS⟩:=hrel;subst bS;go_wp2_with fail
    refine(bO _).mono ?_;rintro e w8 ⟨rfl,ai⟩;have aB:=ai.symm;clear ai;subst aB;have ag:Hid (Moves n Sb (st,said) (st,said)):=Moves.refl _;have aO:=zc (aN.o.e.mono (show T<=T+n by omega) (zjA M));obtain⟨aQ,aq⟩:=zn az (yA (Sb:=Sb) aO hn hM);go_wp2_with fail
    refine aq.o.mono ?_;rintro e w9 ⟨rfl,st2,said2,aa,ao,an,aj⟩;have ad:Hid (∃st' said',Moves n Sb (st,said) (st',said')/\zK B es m rb n cc gv (T+n) (M+100*n) st' said' w9/\Below B w w9/\∀j,j<n->(st' j).out=[]):=⟨st2,said2,ag.o.trans aa,ao,aQ.o.trans an,aj⟩;clear aa ao an aj aq;go_wp2;first|exact bodyPost_end (v:=.tuple #[]) (by simp[results,results28]) rfl ⟨rfl,ad.o⟩|exact zjT (v:=.tuple #[]) (by simp[results,results28]) rfl ⟨rfl,ad.o⟩
  .have b5:(0:Int)<said.length:=by omega
   obtain⟨f,hf⟩:=gen (pickN af said.length);have hfn:f<said.length:=by rw[hf];exact yv (by omega)
   have b7:Hid (∀W,Calls prog 26 #[.int .i64 af,.int .i64 (said.length:Int)] W λe w'=>e=.returned (.int .i64 (f:Int))/\w'=W):=λW=>by rw[hf];exact XS af said.length W aT.o.f.1 aT.o.f.2 (by omega) b1
   clear hf
   go_upto_region 21 with fail
   refine rgd (S:=λX=>Below w2.heap.size w2 X) ((zjB _ w2).drew) (λhH=>?_);refine zQ [(0,some 93,pA ab 2),(1,some 94,.int .i64 af),(2,some 95,pA cc 0),(3,some 96,pA cc 0),(4,some 97,pA cc 4),(5,some 98,.slice sp0 said.length sc0),(6,some 99,.int .i64 (said.length:Int))] _ _ hH (λx h=>aI (show x.cell? ⟨ab,2,none⟩=some (.int .i64 af) from Ext.cell CF2.o (Ext.of h)) (show x.cell? ⟨cc,4,none⟩=some (.slice sp0 said.length sc0) from Ext.cell C42.o (Ext.of h))) ?_;simp only[ze,AP,pA];refine zv 7 (λK hK=>?_);go_simp;refine(b7 _).mono ?_;rintro en X2 ⟨rfl,rfl⟩;refine hK.out _ _ (hH) (λhH=>?_);clear hK K
   try simp only[AP,AQ]
   refine y7 [(8,some 5,.int .i64 (f:Int))] _ _ hH ?_;simp only[ze,AP];refine dnr ?_;obtain⟨w3,aU⟩:=gen w2.drew;rw[<-aU];have br:Hid (Below w2.heap.size w2 w3):=by rw[aU];exact(zjB _ w2).drew
   have cd:=zc (aN.o.below br);have aP:Hid (Below B w w3):=az.o.trans (br.o.mono (Below.zjw az bq));clear hH aU c40 cAC0 aN br;go_wp2;go_loopw [6,7] (λku _ wr=>∃(k:Nat) (st1:Nat->za),k<=12/\ku=.int .i64 k/\Moves n Sb (st,said) (st1,said)/\yx B es m nbs ks gv kv (.slice (some ⟨g,0,none⟩) n cap) rb n cc T M ab #[.int .i64 ak,.int .i64 at1,.int .i64 af,.int .i64 ac,.int .i64 mk,.int .i64 mh,.int .i64 mr,.int .i64 mf,.int .i64 mv,.bool mn,.string ms,.string rec] 81 st1 said wr/\Below B w wr) (λku _ _=>12-(intOf ku).toNat)
   case atStart=>exact⟨0,st,by omega,rfl,Moves.refl _,cd.o,aP.o⟩
   case round=>
    obtain⟨k,st1,hkn,rfl,aE,bB,aJ⟩:=hrel;obtain⟨ax,bp,bo⟩:=zS aE aJ bB;clear aE aJ;obtain⟨aG,Fs1,R1,cbs1,sv1,bk,bh,ar⟩:=bB;obtain⟨sp1,sc1,aX,c41,aZ⟩:=bk.zgt;have c31:wr.cell? ⟨cc,3,none⟩=some (.slice (some ⟨g,0,none⟩) n cap):=zjD wr cc 3 _ _ _ bk.blk;have cAC:wr.cell? ⟨ab,3,none⟩=some (.int .i64 ac):=zjD wr ab 3 _ _ _ ar;clear bk bh ar aG aZ aX;obtain⟨fk,bf⟩:=gen (f+k);have hwk:IntKind.i64.wrap ((f:Int)+(k:Int))=(fk:Int):=by rw[xD _ (by omega) (by omega)];omega
    clear bf;go_wp2_with fail
    refine(bO _).mono ?_;rintro e w8 ⟨rfl,ai⟩;have aB:=ai.symm;clear ai;subst aB;by_cases hkq:k<=q
    .have bb:(k:Int)<=q:=by omega
     by_cases bC:fk<said.length
     .have bd:(fk:Int)<said.length:=by omega
      obtain⟨wo,bT⟩:=gen wr;subst bT;go_wp2;go_loopw [7] (λiv wr=>∃(i:Nat) (st2:Nat->za),i<=n/\iv=.int .i64 i/\Moves n Sb (st,said) (st2,said)/\yx B es m nbs ks gv kv (.slice (some ⟨g,0,none⟩) n cap) rb n cc T M ab #[.int .i64 ak,.int .i64 at1,.int .i64 af,.int .i64 ac,.int .i64 mk,.int .i64 mh,.int .i64 mr,.int .i64 mf,.int .i64 mv,.bool mn,.string ms,.string rec] 81 st2 said wr/\Below B w wr) (λiv _=>n-(intOf iv).toNat)
      case atStart=>exact⟨0,st1,zjG _,rfl,ax,bo,bp⟩
      case round=>
       obtain⟨i,st2,hin,rfl,aa,bz,aH⟩:=hrel;obtain⟨aw,ay,bP⟩:=zS aa aH bz;clear aa aH;obtain⟨ae,Fs3,R3,cbs3,sv3,ah,au,a7⟩:=bz;have c33:wr.cell? ⟨cc,3,none⟩=some (.slice (some ⟨g,0,none⟩) n cap):=zjD wr cc 3 _ _ _ ah.blk;by_cases al:i=n
       .have b2:¬(i:Int)<n:=by omega
        clear ah au a7 ae al;go_wp2;go_roundw
        case rel=>exact⟨k+1,st2,by omega,by go_num,aw.o,bP.o,ay.o⟩
        simp[intOf];omega
       .have hi:i<n:=by omega
        have b0:(i:Int)<n:=by omega
        have ck:=ah.zgi i hi;obtain⟨sp,sc,bV,c43,bw⟩:=ah.zgt;obtain⟨sb,bW,csb,aC⟩:=bw (fk) bC;subst bW;have bK:=zc (qM (said.getD (fk) zj4) (ah.city.node i hi) ah.city.globR (ah.city.ok i hi) (by omega) (by omega));obtain⟨fr,bc⟩:=gen (said.getD (fk) zj4);rw[<-bc] at bK csb;have cf:Hid (fr∈said):=by rw[bc];exact kz said zj4 (fk) bC
        obtain⟨av,bt,bL,b9,bn,b8,C33,CK⟩:=jR ah au a7 ae aC (ah.onv g rfl) c33 ck;obtain⟨C43,CSB⟩:=zn c43 csb;clear ah au a7 ae al bc bw aC bV;have aM:Hid (∀W,Below wr.heap.size wr W->Calls prog 29 #[.pointer (some ⟨nbs i,0,none⟩),.string fr] W (Xn B es m (Fs3 i) R3 (nbs i) (ks i) rb (cbs3 i) n i (st2 i) fr wr)):=λW hW=>vt av.o i hi fr hW (by omega);clear bK;have c33:=C33.o;have ck:=CK.o;have cA0:wr.cell? ⟨ab,0,none⟩=some (.int .i64 ak):=zjD wr ab 0 _ _ _ bL;by_cases aS:nbs i=nbs tj
        .have ba:=Z7 aS wr;clear aS
         go_upto_region 29 with fail
         refine rgd (S:=λX=>X.cell? ⟨cc,3,none⟩=some (.slice (some ⟨g,0,none⟩) n cap)/\X.cell? ⟨g,i,none⟩=some (.pointer (some ⟨nbs i,0,none⟩))/\X.cell? ⟨cc,4,none⟩=some (.slice (some ⟨sb,0,none⟩) said.length sc)/\X.cell? ⟨sb,fk,none⟩=some (.string fr)) ⟨C33.o,CK.o,C43.o,CSB.o⟩ (λhH=>?_);refine zQ [(0,some 153,pA cc 0),(1,some 154,pA cc 0),(2,some 155,pA cc 3),(3,some 156,.slice (some ⟨g,0,none⟩) n cap),(4,some 157,.int .i64 (i:Int)),(5,some 158,pA g i),(6,some 159,pA (nbs i) 0),(7,some 160,pA cc 0),(8,some 161,pA cc 0),(9,some 162,pA cc 4),(10,some 163,.slice (some ⟨sb,0,none⟩) said.length sc),(11,some 164,.int .i64 (f:Int)),(12,some 165,.int .i64 (k:Int)),(13,some 166,.int .i64 (fk:Int)),(14,some 167,pA sb fk),(15,some 168,.string fr)] _ _ hH (λx h=>aI h.1 (aI h.2.1 (aI h.2.2.1 (h.2.2.2)))) ?_;simp only[ze,AP,pA];refine zv 16 (λK hK=>?_);go_simp;refine(aM _ ((zjB _ wr).drew)).mono ?_;rintro e w5 ⟨F',R',bE,bm,bF⟩;have aK:∀b,OutB B Fs3 R3 ks n wr b->w5.heap[b]? =wr.heap[b]? :=λb hb=>bm.same.block b hb.2.1 (λe=>e.elim (hb.2.2.1 i hi) hb.2.2.2.1);have bG:w5.cell? ⟨cc,3,none⟩=some (.slice (some ⟨g,0,none⟩) n cap)/\w5.cell? ⟨g,i,none⟩=some (.pointer (some ⟨nbs i,0,none⟩))/\w5.cell? ⟨cc,4,none⟩=some (.slice (some ⟨sb,0,none⟩) said.length sc)/\w5.cell? ⟨sb,fk,none⟩=some (.string fr):=⟨(zjH (w:=wr) (a:=⟨cc,3,none⟩) (aK cc av.o.occ)).trans C33.o,(zjH (w:=wr) (a:=⟨g,i,none⟩) (aK g b8)).trans CK.o,(zjH (w:=wr) (a:=⟨cc,4,none⟩) (aK cc av.o.occ)).trans C43.o,(zjH (w:=wr) (a:=⟨sb,fk,none⟩) (aK sb bn)).trans CSB.o⟩;obtain⟨ev,rfl⟩:=xL bF;refine hK.out _ _ (bG) (λhH=>?_);clear hK K
         try simp only[AP,AQ]
         refine dnr ?_;obtain⟨bx,bD⟩:=yx.turn b9 av bt bL hi bE bm ((av.o.city.ok i hi).zfX) (zjA T) (ya (st2 i) n i fr);have ca:=zc bx;have cg:Hid (Below B w w5):=ay.o.trans bD;clear bE bm bx bD bG aK hH bF aM;go_wp2;go_roundw
         case rel=>exact⟨i+1,_,by omega,by go_num,Moves.more _ _ _ aw.o (Move.recv st2 said i fr hi cf.o),ca.o,cg.o⟩
         simp[intOf];omega
        .obtain ⟨Ci,bJ⟩:=(av.o.city.node i hi).ziJ
         obtain⟨Ct,bI⟩:=(av.o.city.node tj bu).ziJ;have ba:=Zb aS bJ bI;clear bJ bI aS;go_wp2_with fail
         refine(bN _).mono ?_;rintro e w8 ⟨rfl,ai⟩;have aB:=ai.symm;clear ai;subst aB;rw[hk];go_wp2;go_roundw
         case rel=>exact⟨i+1,st2,by omega,by go_num,aw.o,bP.o,ay.o⟩
         simp[intOf];omega
     .have bd:¬(fk:Int)<said.length:=by omega
      have ag:=zc ax;have aO:=zc (bo.o.e.mono (show T<=T+n by omega) (zjA M));obtain⟨aQ,aq⟩:=zn bp (yA (Sb:=Sb) aO hn hM);go_wp2_with fail
      refine aq.o.mono ?_;rintro e w9 ⟨rfl,st2,said2,aa,ao,an,aj⟩;have ad:Hid (∃st' said',Moves n Sb (st,said) (st',said')/\zK B es m rb n cc gv (T+n) (M+100*n) st' said' w9/\Below B w w9/\∀j,j<n->(st' j).out=[]):=⟨st2,said2,ag.o.trans aa,ao,aQ.o.trans an,aj⟩;clear aa ao an aj aq;go_wp2;first|exact bodyPost_end (v:=.tuple #[]) (by simp[results,results28]) rfl ⟨rfl,ad.o⟩|exact zjT (v:=.tuple #[]) (by simp[results,results28]) rfl ⟨rfl,ad.o⟩
    .have bb:¬(k:Int)<=q:=by omega
     have ag:=zc ax;have aO:=zc (bo.o.e.mono (show T<=T+n by omega) (zjA M));obtain⟨aQ,aq⟩:=zn bp (yA (Sb:=Sb) aO hn hM);go_wp2_with fail
     refine aq.o.mono ?_;rintro e w9 ⟨rfl,st2,said2,aa,ao,an,aj⟩;have ad:Hid (∃st' said',Moves n Sb (st,said) (st',said')/\zK B es m rb n cc gv (T+n) (M+100*n) st' said' w9/\Below B w w9/\∀j,j<n->(st' j).out=[]):=⟨st2,said2,ag.o.trans aa,ao,aQ.o.trans an,aj⟩;clear aa ao an aj aq;go_wp2;first|exact bodyPost_end (v:=.tuple #[]) (by simp[results,results28]) rfl ⟨rfl,ad.o⟩|exact zjT (v:=.tuple #[]) (by simp[results,results28]) rfl ⟨rfl,ad.o⟩

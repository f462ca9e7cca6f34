/- Proved here: what an act does to a city: happensL_all. -/
import Derived.Test.YtcfjhbcpjpgodaaGreatDoorJ34
import Derived.Test.YtcfjhbcpjpgodaaGreatDoorJ33
import Derived.Test.YtcfjhbcpjpgodaaGreatDoorJ35
import Derived.Test.YtcfjhbcpjpgodaaGreatDoorJ36
import Derived.Test.YtcfjhbcpjpgodaaGreatDoorJ44
import Derived.Deep.DeepCutAuto
import Derived.Test.YtcfjhbcpjpgodaaGreatDoorHapLRecv
import Derived.Test.YtcfjhbcpjpgodaaGreatDoorJ39
import Derived.Test.YtcfjhbcpjpgodaaGreatDoorJ38
import Derived.Test.YtcfjhbcpjpgodaaGreatDoorTakeL
namespace Go.Proofs.YtcfjhbcpjpgodaaGreatDoor
open Go.RowKit Go.Proofs.Tryz
set_option linter.unusedSimpArgs false
set_option linter.unusedVariables false
set_option maxRecDepth 100000
set_option maxHeartbeats 25600000
variable{B rb n cc T M:Nat}{es:List Addr}{m:Int}{hon:Nat→Bool}{x0:Nat→Int}{Q:Nat→Option Obj}{gv:Value}{st:Nat→NodeS}{sg:Nat→List ByteArray}{said:List ByteArray}
theorem happensL_all(a:ActV){w:World}(h:CityEL B es m hon x0 Q rb n cc T M gv st sg said w)(ha:ActOk a)(hk10:pickN a.k 11=10)(hn:n≤8)(hM:M+1+100*n≤4000000000000)(hT:T+n≤1000000000000):
 Calls prog 28 #[.pointer (some ⟨cc,0,none⟩),.agg a.cells] w fun e w'=>e=.returned (.tuple #[])∧AfterL B es m hon x0 Q rb n cc (T+n) (M+1+100*n) gv sg w w':=by
 obtain⟨ak,at1,af,ac,⟨mk,mh,mr,mf,mv,mn,ms⟩,rec⟩:=a;obtain⟨hlen,Fs,R,nbs,ks,cbs,kv,nv,sv,hO⟩:=h;obtain⟨g,cap,rfl,hmax,hgc,hnp⟩:=hO.nodeAt;have hnpos:=hO.npos;obtain⟨tj,htj⟩:=gen (pickN at1 n);have htn:tj<n:=by rw[htj];exact pickN_lt hO.npos
 have htni:(tj:Int)<n:=by omega
 show Calls prog 28 #[.pointer (some ⟨cc,0,none⟩),.agg #[.int .i64 ak,.int .i64 at1,.int .i64 af,.int .i64 ac,.int .i64 mk,.int .i64 mh,.int .i64 mr,.int .i64 mf,.int .i64 mv,.bool mn,.string ms,.string rec]] w _;obtain⟨w1,hw1⟩:=gen (w.alloc (.cells #[.int .i64 ak,.int .i64 at1,.int .i64 af,.int .i64 ac,.int .i64 mk,.int .i64 mh,.int .i64 mr,.int .i64 mf,.int .i64 mv,.bool mn,.string ms,.string rec] 81));have hb1:Below w.heap.size w w1:=by rw[hw1];exact(Below.refl _ w).alloc (Nat.le_refl _) _
 have hq1:w1.heap[w.heap.size]? =some (.cells #[.int .i64 ak,.int .i64 at1,.int .i64 af,.int .i64 ac,.int .i64 mk,.int .i64 mh,.int .i64 mr,.int .i64 mf,.int .i64 mv,.bool mn,.string ms,.string rec] 81 (0,0)):=by rw[hw1];exact heap_alloc_new w _
 have C3:Hid (w1.cell? ⟨cc,3,none⟩=some (.slice (some ⟨g,0,none⟩) n cap)):=cell_of_row w1 cc 3 _ _ _ (blk hO.blk hb1);obtain⟨tv,htv⟩:=gen (ptL hon nbs tj);have HTV:=hide htv;have CTJ:Hid (w1.cell? ⟨g,tj,none⟩=some tv):=by rw[htv];exact(hO.below hb1).nodeCell tj htn
 clear htv;have CA1:Hid (w1.cell? ⟨w.heap.size,1,none⟩=some (.int .i64 at1)):=cell_of_row w1 w.heap.size 1 _ _ _ hq1;have CA0:Hid (w1.cell? ⟨w.heap.size,0,none⟩=some (.int .i64 ak)):=cell_of_row w1 w.heap.size 0 _ _ _ hq1;have HPT:Hid (∀W,Calls prog 26 #[.int .i64 at1,.int .i64 (n:Int)] W fun e w'=>e=.returned (.int .i64 (tj:Int))∧w'=W):=fun W=>by rw[htj];exact pick_at at1 n W ha.t.1 ha.t.2 hnpos (by omega)
 have HPK:Hid (∀W,Calls prog 26 #[.int .i64 ak,.int .i64 11] W fun e w'=>e=.returned (.int .i64 (pickN ak 11:Int))∧w'=W):=fun W=>pick_at ak 11 W ha.k.1 ha.k.2 (by omega) (by omega);have HG1:Hid (CityGL B es m hon x0 Q nbs ks gv kv (.slice (some ⟨g,0,none⟩) n cap) rb n cc T M w.heap.size #[.int .i64 ak,.int .i64 at1,.int .i64 af,.int .i64 ac,.int .i64 mk,.int .i64 mh,.int .i64 mr,.int .i64 mf,.int .i64 mv,.bool mn,.string ms,.string rec] 81 st sg said w1):=CityGL.of hO hlen hb1 (Nat.le_refl _) hq1;have HBL:Hid (B≤w.heap.size):=hO.city.bl;obtain⟨HB1,HW1,HAO⟩:=hide3 hb1 hw1 ha;obtain⟨ab,hab⟩:=gen w.heap.size;have HGC:=hide hgc;clear hO hnp htj hb1 hq1 hw1 ha hlen;go_enter func28,ntmps28
 go_upto_region 1 with fail
 rw[←HW1.out];refine rgd (S:=fun X=>Below w1.heap.size w1 X) ((Below.refl _ w1).drew) (fun hH=>?_);refine takeN [(0,some 14,pA cc 0),(1,some 15,pA cc 0),(2,some 16,pA cc 3),(3,some 17,.slice (some ⟨g,0,none⟩) n cap),(4,some 18,pA w.heap.size 1),(5,some 19,.int .i64 at1),(6,some 20,pA cc 0),(7,some 21,pA cc 0),(8,some 22,pA cc 3),(9,some 23,.slice (some ⟨g,0,none⟩) n cap),(10,some 24,.int .i64 (n:Int))] _ _ hH (by repeat(first|exact True.intro|(refine tkc rfl rfl (Or.inl ⟨by rfl,fun x h=>by have f0:x.cell? ⟨cc,3,none⟩=some (.slice (some ⟨g,0,none⟩) n cap):=Ext.cell C3.out (Ext.of h);have f1:x.cell? ⟨w.heap.size,1,none⟩=some (.int .i64 at1):=Ext.cell CA1.out (Ext.of h);go_simp⟩) ?_;simp only[AP]))) ?_;simp only[takesA,AP,pA];refine rdy1 11 (fun K hK=>?_);go_simp;refine(HPT.out _).mono ?_;rintro en X2 ⟨rfl,rfl⟩;refine hK.out _ _ (hH) (fun hH=>?_);clear hK K
 try simp only[AP,AQ]
 refine takeN [(12,some 26,pA g tj),(13,some 27,tv),(14,some 4,tv)] _ _ hH (by repeat(first|exact True.intro|(refine tkc rfl rfl (Or.inl ⟨by rfl,fun x h=>by have f0:x.cell? ⟨g,tj,none⟩=some (tv):=Ext.cell CTJ.out (Ext.of h);go_simp⟩) ?_;simp only[AP]))) ?_;simp only[takesA,AP,pA];refine dnr ?_;obtain⟨w2,hw2⟩:=gen w1.drew;have HB2:Hid (Below w1.heap.size w1 w2):=by rw[hw2];exact(Below.refl _ w1).drew
 rw[←hw2];have HG2:=hide (HG1.out.below HB2.out);have HBW2:Hid (Below B w w2):=(HB1.out.mono HBL.out).trans ((HB2.out.mono (Nat.le_trans HBL.out HB1.out.size)));have c02:w2.cell? ⟨w.heap.size,0,none⟩=some (.int .i64 ak):=Ext.cell CA0.out (Ext.of HB2.out);clear hH hw2 CTJ CA1 HG1 HPT;rw[←hab] at HG2 c02;have HAB:=hide hab
 try rw[←HAB.out]
 clear hab
 go_upto_region 2 with fail
 go_wp2_with fail
 refine(HPK.out _).mono ?_;rintro en X ⟨rfl,hX⟩;have hX2:=hX.symm;clear hX;subst hX2;rw[hk10];obtain⟨hlen2,Fs2,R2,cbs2,sv2,hO2,hab2,hq2⟩:=HG2.out;obtain⟨sp0,sc0,hsv0,c40,hsl0⟩:=hO2.saidAt;clear hO2 hab2 hq2 hlen2 hsl0 hsv0 HPK;by_cases h40:said.length<40
 .have h40i:(said.length:Int)-40<0:=by omega
  have hl0:0≤(said.length:Int):=by omega
  have hws:IntKind.i64.wrap ((said.length:Int)-40)=(said.length:Int)-40:=wrap_any _ (by omega) (by omega);go_wp2;go_loopw [12,13] (fun ku _ wr=>∃(k:Nat) (st1:Nat→NodeS) (sg1:Nat→List ByteArray),k≤said.length∧ku=.int .i64 k∧SgLe sg sg1∧CityGL B es m hon x0 Q nbs ks gv kv (.slice (some ⟨g,0,none⟩) n cap) rb n cc T M ab #[.int .i64 ak,.int .i64 at1,.int .i64 af,.int .i64 ac,.int .i64 mk,.int .i64 mh,.int .i64 mr,.int .i64 mf,.int .i64 mv,.bool mn,.string ms,.string rec] 81 st1 sg1 said wr∧Below B w wr) (fun ku _ _=>said.length-(intOf ku).toNat)
  case atStart=>exact⟨0,st,sg,by omega,by first|rfl|go_num|(congr 1;omega),SgLe.refl _,HG2.out,HBW2.out⟩
  obtain⟨k,st1,sg1,hkn,rfl,hmv1,hg1,hbw1⟩:=hrel;obtain⟨HMV1,HBO,HGO⟩:=hide3 hmv1 hbw1 hg1;clear hmv1 hbw1;obtain⟨hlen1,Fs1,R1,cbs1,sv1,hO1,hab1,hq1⟩:=hg1;obtain⟨sp1,sc1,hsv1,c41,hsl1⟩:=hO1.saidAt;have c31:wr.cell? ⟨cc,3,none⟩=some (.slice (some ⟨g,0,none⟩) n cap):=cell_of_row wr cc 3 _ _ _ hO1.blk;clear hO1 hab1 hq1 hlen1 hsl1 hsv1;by_cases hend:k=said.length
  .have hge:¬(k:Int)<said.length:=by omega
   have HMV9:=hide HMV1.out;have HE9:=hide (HGO.out.e.mono (show T≤T+n by omega) (Nat.le_succ M));have HB9:=hide HBO.out;clear hend;have HHE:=hide (hears_anyL HE9.out hn hM);go_wp2_with fail
   refine HHE.out.mono ?_;rintro e w9 ⟨rfl,st2,sg2,said2,hmv2,hE2,hb2⟩;have HEND:Hid (AfterL B es m hon x0 Q rb n cc (T+n) (M+1+100*n) gv sg w w9):=⟨st2,sg2,said2,SgLe.trans HMV9.out hmv2,hE2,HB9.out.trans hb2⟩;clear hmv2 hE2 hb2 HHE;go_wp2;first|exact bodyPost_end (v:=.tuple #[]) (by simp[results,results28]) rfl ⟨rfl,HEND.out⟩|exact bodyPost_ret (v:=.tuple #[]) (by simp[results,results28]) rfl ⟨rfl,HEND.out⟩
  have hlk:k<said.length:=by omega
  have hlki:(k:Int)<said.length:=by omega
  clear hend;obtain⟨wo,hwo⟩:=gen wr;subst hwo;go_wp2;go_loopw [13] (fun iv wr=>∃(i:Nat) (st2:Nat→NodeS) (sg2:Nat→List ByteArray),i≤n∧iv=.int .i64 i∧SgLe sg sg2∧CityGL B es m hon x0 Q nbs ks gv kv (.slice (some ⟨g,0,none⟩) n cap) rb n cc T M ab #[.int .i64 ak,.int .i64 at1,.int .i64 af,.int .i64 ac,.int .i64 mk,.int .i64 mh,.int .i64 mr,.int .i64 mf,.int .i64 mv,.bool mn,.string ms,.string rec] 81 st2 sg2 said wr∧Below B w wr) (fun iv _=>n-(intOf iv).toNat)
  case atStart=>exact⟨0,st1,sg1,Nat.zero_le _,rfl,HMV1.out,HGO.out,HBO.out⟩
  obtain⟨i,st2,sg2,hin,rfl,hmv2,hg2,hbw2⟩:=hrel;obtain⟨HMV2,HBW3,HGI⟩:=hide3 hmv2 hbw2 hg2;clear hmv2 hbw2;obtain⟨hlen3,Fs3,R3,cbs3,sv3,hO3,hab3,hq3⟩:=hg2;have c33:wr.cell? ⟨cc,3,none⟩=some (.slice (some ⟨g,0,none⟩) n cap):=cell_of_row wr cc 3 _ _ _ hO3.blk;by_cases hendi:i=n
  .have hgei:¬(i:Int)<n:=by omega
   clear hO3 hab3 hq3 hlen3 hendi;go_wp2;go_roundw
   case rel=>exact⟨k+1,st2,sg2,by omega,by go_num,HMV2.out,HGI.out,HBW3.out⟩
   case measure=>simp[intOf];omega
  have hi:i<n:=by omega
  have hlti:(i:Int)<n:=by omega
  cases hh:hon i with
  |true=>
   have ck:=hO3.nodeYes i hi hh;obtain⟨sp,sc,hsv,c43,hsl⟩:=hO3.saidAt;obtain⟨sb,hsp,csb,hosb⟩:=hsl (k) hlk;subst hsp;have HRV:=hide (receive_any (said.getD (k) ByteArray.empty) (hO3.city.node i hi hh) hO3.city.globR (hO3.city.ok i hi hh) (by omega) (by omega));obtain⟨fr,hfr⟩:=gen (said.getD (k) ByteArray.empty);rw[←hfr] at HRV csb;have HFM:Hid (fr∈said):=by rw[hfr];exact getD_mem said ByteArray.empty (k) hlk
   obtain⟨HO3,HAB3,HQ3,HL3,HOSB,HOG,C33,CK⟩:=hide8 hO3 hab3 hq3 hlen3 hosb (hO3.onv g rfl) c33 ck;obtain⟨C43,CSB⟩:=hide2 c43 csb;clear hO3 hab3 hq3 hlen3 hendi hfr hsl hosb hsv;have HRV2:Hid (∀W,Below wr.heap.size wr W→Calls prog 29 #[.pointer (some ⟨nbs i,0,none⟩),.string fr] W (RecvP B es m (Fs3 i) R3 (nbs i) (ks i) rb (cbs3 i) n i (st2 i) fr wr)):=fun W hW=>recv_fromL HO3.out i hi hh fr hW (by omega);clear HRV;have c33:=C33.out;have ck:=CK.out
   go_upto_region 13 with fail
   refine rgd (S:=fun X=>X.cell? ⟨cc,3,none⟩=some (.slice (some ⟨g,0,none⟩) n cap)∧X.cell? ⟨g,i,none⟩=some (.pointer (some ⟨nbs i,0,none⟩))∧X.cell? ⟨cc,4,none⟩=some (.slice (some ⟨sb,0,none⟩) said.length sc)∧X.cell? ⟨sb,k,none⟩=some (.string fr)) ⟨C33.out,CK.out,C43.out,CSB.out⟩ (fun hH=>?_);refine takeN [(0,some 66,pA cc 0),(1,some 67,pA cc 0),(2,some 68,pA cc 3),(3,some 69,.slice (some ⟨g,0,none⟩) n cap),(4,some 70,.int .i64 (i:Int)),(5,some 71,pA g i),(6,some 72,pA (nbs i) 0),(7,some 73,pA cc 0),(8,some 74,pA cc 0),(9,some 75,pA cc 4),(10,some 76,.slice (some ⟨sb,0,none⟩) said.length sc),(11,some 77,.int .i64 (k:Int)),(12,some 78,pA sb k),(13,some 79,.string fr)] _ _ hH (by repeat(first|exact True.intro|(refine tkc rfl rfl (Or.inl ⟨by rfl,fun x h=>by have f0:x.cell? ⟨cc,3,none⟩=some (.slice (some ⟨g,0,none⟩) n cap):=h.1;have f1:x.cell? ⟨g,i,none⟩=some (.pointer (some ⟨nbs i,0,none⟩)):=h.2.1;have f2:x.cell? ⟨cc,4,none⟩=some (.slice (some ⟨sb,0,none⟩) said.length sc):=h.2.2.1;have f3:x.cell? ⟨sb,k,none⟩=some (.string fr):=h.2.2.2;go_simp⟩) ?_;simp only[AP]))) ?_;simp only[takesA,AP,pA];refine rdy1 14 (fun K hK=>?_);go_simp;refine(HRV2.out _ ((Below.refl _ wr).drew)).mono ?_;rintro e w5 ⟨F',R',hW5,hG5,hV5⟩;have hb5:∀b,OutL B hon Fs3 R3 ks n wr b→w5.heap[b]? =wr.heap[b]? :=fun b hb=>hG5.same.block b hb.2.1 (fun e=>e.elim (hb.2.2.1 i hi hh) hb.2.2.2.1);have hS5:w5.cell? ⟨cc,3,none⟩=some (.slice (some ⟨g,0,none⟩) n cap)∧w5.cell? ⟨g,i,none⟩=some (.pointer (some ⟨nbs i,0,none⟩))∧w5.cell? ⟨cc,4,none⟩=some (.slice (some ⟨sb,0,none⟩) said.length sc)∧w5.cell? ⟨sb,k,none⟩=some (.string fr):=⟨(World.cell?_of_block (w:=wr) (a:=⟨cc,3,none⟩) (hb5 cc HO3.out.occ)).trans C33.out,(World.cell?_of_block (w:=wr) (a:=⟨g,i,none⟩) (hb5 g HOG.out)).trans CK.out,(World.cell?_of_block (w:=wr) (a:=⟨cc,4,none⟩) (hb5 cc HO3.out.occ)).trans C43.out,(World.cell?_of_block (w:=wr) (a:=⟨sb,k,none⟩) (hb5 sb HOSB.out)).trans CSB.out⟩;obtain⟨ev,rfl⟩:=recv_ret hV5;refine hK.out _ _ (hS5) (fun hH=>?_);clear hK K
   try simp only[AP,AQ]
   refine dnr ?_;obtain⟨hg5,hb6,hl5⟩:=CityGL.turn HL3.out HO3.out HAB3.out HQ3.out hi hh hW5 hG5 ((HO3.out.city.ok i hi hh).receive) (Nat.le_refl T) (sgo_receive (st2 i) n i fr) (sgu_receive (st2 i) n i fr) ((HO3.out.ci.ni i hi hh).receive hi fr);obtain⟨HLE5,HG5⟩:=hide2 hl5 hg5;have HB5:Hid (Below B w w5):=HBW3.out.trans hb6;clear hW5 hG5 hg5 hb6 hl5 hS5 hb5 hH hV5 HRV2;go_wp2;go_roundw
   case rel=>exact⟨i+1,_,_,by omega,by go_num,SgLe.trans HMV2.out HLE5.out,HG5.out,HB5.out⟩
   case measure=>simp[intOf];omega
  |false=>
   have ck:=hO3.nodeNo i hi hh;clear hO3 hab3 hq3 hlen3 hendi;go_wp2;go_roundw
   case rel=>exact⟨i+1,st2,sg2,by omega,by go_num,HMV2.out,HGI.out,HBW3.out⟩
   case measure=>simp[intOf];omega
 have h40i:¬(said.length:Int)-40<0:=by omega
 have hlm:said.length≤4000000000000:=by have:=HG2.out.1;omega
 have hws:IntKind.i64.wrap ((said.length:Int)-40)=(said.length:Int)-40:=wrap_any _ (by omega) (by omega);have hcast:(said.length:Int)-40=((said.length-40:Nat):Int):=by omega
 go_wp2;go_loopw [12,13] (fun ku _ wr=>∃(k:Nat) (st1:Nat→NodeS) (sg1:Nat→List ByteArray),k≤said.length∧ku=.int .i64 k∧SgLe sg sg1∧CityGL B es m hon x0 Q nbs ks gv kv (.slice (some ⟨g,0,none⟩) n cap) rb n cc T M ab #[.int .i64 ak,.int .i64 at1,.int .i64 af,.int .i64 ac,.int .i64 mk,.int .i64 mh,.int .i64 mr,.int .i64 mf,.int .i64 mv,.bool mn,.string ms,.string rec] 81 st1 sg1 said wr∧Below B w wr) (fun ku _ _=>said.length-(intOf ku).toNat)
 case atStart=>exact⟨said.length-40,st,sg,by omega,by first|rfl|go_num|(congr 1;omega),SgLe.refl _,HG2.out,HBW2.out⟩
 obtain⟨k,st1,sg1,hkn,rfl,hmv1,hg1,hbw1⟩:=hrel;obtain⟨HMV1,HBO,HGO⟩:=hide3 hmv1 hbw1 hg1;clear hmv1 hbw1;obtain⟨hlen1,Fs1,R1,cbs1,sv1,hO1,hab1,hq1⟩:=hg1;obtain⟨sp1,sc1,hsv1,c41,hsl1⟩:=hO1.saidAt;have c31:wr.cell? ⟨cc,3,none⟩=some (.slice (some ⟨g,0,none⟩) n cap):=cell_of_row wr cc 3 _ _ _ hO1.blk;clear hO1 hab1 hq1 hlen1 hsl1 hsv1;by_cases hend:k=said.length
 .have hge:¬(k:Int)<said.length:=by omega
  have HMV9:=hide HMV1.out;have HE9:=hide (HGO.out.e.mono (show T≤T+n by omega) (Nat.le_succ M));have HB9:=hide HBO.out;clear hend;have HHE:=hide (hears_anyL HE9.out hn hM);go_wp2_with fail
  refine HHE.out.mono ?_;rintro e w9 ⟨rfl,st2,sg2,said2,hmv2,hE2,hb2⟩;have HEND:Hid (AfterL B es m hon x0 Q rb n cc (T+n) (M+1+100*n) gv sg w w9):=⟨st2,sg2,said2,SgLe.trans HMV9.out hmv2,hE2,HB9.out.trans hb2⟩;clear hmv2 hE2 hb2 HHE;go_wp2;first|exact bodyPost_end (v:=.tuple #[]) (by simp[results,results28]) rfl ⟨rfl,HEND.out⟩|exact bodyPost_ret (v:=.tuple #[]) (by simp[results,results28]) rfl ⟨rfl,HEND.out⟩
 have hlk:k<said.length:=by omega
 have hlki:(k:Int)<said.length:=by omega
 clear hend;obtain⟨wo,hwo⟩:=gen wr;subst hwo;go_wp2;go_loopw [13] (fun iv wr=>∃(i:Nat) (st2:Nat→NodeS) (sg2:Nat→List ByteArray),i≤n∧iv=.int .i64 i∧SgLe sg sg2∧CityGL B es m hon x0 Q nbs ks gv kv (.slice (some ⟨g,0,none⟩) n cap) rb n cc T M ab #[.int .i64 ak,.int .i64 at1,.int .i64 af,.int .i64 ac,.int .i64 mk,.int .i64 mh,.int .i64 mr,.int .i64 mf,.int .i64 mv,.bool mn,.string ms,.string rec] 81 st2 sg2 said wr∧Below B w wr) (fun iv _=>n-(intOf iv).toNat)
 case atStart=>exact⟨0,st1,sg1,Nat.zero_le _,rfl,HMV1.out,HGO.out,HBO.out⟩
 obtain⟨i,st2,sg2,hin,rfl,hmv2,hg2,hbw2⟩:=hrel;obtain⟨HMV2,HBW3,HGI⟩:=hide3 hmv2 hbw2 hg2;clear hmv2 hbw2;obtain⟨hlen3,Fs3,R3,cbs3,sv3,hO3,hab3,hq3⟩:=hg2;have c33:wr.cell? ⟨cc,3,none⟩=some (.slice (some ⟨g,0,none⟩) n cap):=cell_of_row wr cc 3 _ _ _ hO3.blk;by_cases hendi:i=n
 .have hgei:¬(i:Int)<n:=by omega
  clear hO3 hab3 hq3 hlen3 hendi;go_wp2;go_roundw
  case rel=>exact⟨k+1,st2,sg2,by omega,by go_num,HMV2.out,HGI.out,HBW3.out⟩
  case measure=>simp[intOf];omega
 have hi:i<n:=by omega
 have hlti:(i:Int)<n:=by omega
 cases hh:hon i with
 |true=>
  have ck:=hO3.nodeYes i hi hh;obtain⟨sp,sc,hsv,c43,hsl⟩:=hO3.saidAt;obtain⟨sb,hsp,csb,hosb⟩:=hsl (k) hlk;subst hsp;have HRV:=hide (receive_any (said.getD (k) ByteArray.empty) (hO3.city.node i hi hh) hO3.city.globR (hO3.city.ok i hi hh) (by omega) (by omega));obtain⟨fr,hfr⟩:=gen (said.getD (k) ByteArray.empty);rw[←hfr] at HRV csb;have HFM:Hid (fr∈said):=by rw[hfr];exact getD_mem said ByteArray.empty (k) hlk
  obtain⟨HO3,HAB3,HQ3,HL3,HOSB,HOG,C33,CK⟩:=hide8 hO3 hab3 hq3 hlen3 hosb (hO3.onv g rfl) c33 ck;obtain⟨C43,CSB⟩:=hide2 c43 csb;clear hO3 hab3 hq3 hlen3 hendi hfr hsl hosb hsv;have HRV2:Hid (∀W,Below wr.heap.size wr W→Calls prog 29 #[.pointer (some ⟨nbs i,0,none⟩),.string fr] W (RecvP B es m (Fs3 i) R3 (nbs i) (ks i) rb (cbs3 i) n i (st2 i) fr wr)):=fun W hW=>recv_fromL HO3.out i hi hh fr hW (by omega);clear HRV;have c33:=C33.out;have ck:=CK.out
  go_upto_region 13 with fail
  refine rgd (S:=fun X=>X.cell? ⟨cc,3,none⟩=some (.slice (some ⟨g,0,none⟩) n cap)∧X.cell? ⟨g,i,none⟩=some (.pointer (some ⟨nbs i,0,none⟩))∧X.cell? ⟨cc,4,none⟩=some (.slice (some ⟨sb,0,none⟩) said.length sc)∧X.cell? ⟨sb,k,none⟩=some (.string fr)) ⟨C33.out,CK.out,C43.out,CSB.out⟩ (fun hH=>?_);refine takeN [(0,some 66,pA cc 0),(1,some 67,pA cc 0),(2,some 68,pA cc 3),(3,some 69,.slice (some ⟨g,0,none⟩) n cap),(4,some 70,.int .i64 (i:Int)),(5,some 71,pA g i),(6,some 72,pA (nbs i) 0),(7,some 73,pA cc 0),(8,some 74,pA cc 0),(9,some 75,pA cc 4),(10,some 76,.slice (some ⟨sb,0,none⟩) said.length sc),(11,some 77,.int .i64 (k:Int)),(12,some 78,pA sb k),(13,some 79,.string fr)] _ _ hH (by repeat(first|exact True.intro|(refine tkc rfl rfl (Or.inl ⟨by rfl,fun x h=>by have f0:x.cell? ⟨cc,3,none⟩=some (.slice (some ⟨g,0,none⟩) n cap):=h.1;have f1:x.cell? ⟨g,i,none⟩=some (.pointer (some ⟨nbs i,0,none⟩)):=h.2.1;have f2:x.cell? ⟨cc,4,none⟩=some (.slice (some ⟨sb,0,none⟩) said.length sc):=h.2.2.1;have f3:x.cell? ⟨sb,k,none⟩=some (.string fr):=h.2.2.2;go_simp⟩) ?_;simp only[AP]))) ?_;simp only[takesA,AP,pA];refine rdy1 14 (fun K hK=>?_);go_simp;refine(HRV2.out _ ((Below.refl _ wr).drew)).mono ?_;rintro e w5 ⟨F',R',hW5,hG5,hV5⟩;have hb5:∀b,OutL B hon Fs3 R3 ks n wr b→w5.heap[b]? =wr.heap[b]? :=fun b hb=>hG5.same.block b hb.2.1 (fun e=>e.elim (hb.2.2.1 i hi hh) hb.2.2.2.1);have hS5:w5.cell? ⟨cc,3,none⟩=some (.slice (some ⟨g,0,none⟩) n cap)∧w5.cell? ⟨g,i,none⟩=some (.pointer (some ⟨nbs i,0,none⟩))∧w5.cell? ⟨cc,4,none⟩=some (.slice (some ⟨sb,0,none⟩) said.length sc)∧w5.cell? ⟨sb,k,none⟩=some (.string fr):=⟨(World.cell?_of_block (w:=wr) (a:=⟨cc,3,none⟩) (hb5 cc HO3.out.occ)).trans C33.out,(World.cell?_of_block (w:=wr) (a:=⟨g,i,none⟩) (hb5 g HOG.out)).trans CK.out,(World.cell?_of_block (w:=wr) (a:=⟨cc,4,none⟩) (hb5 cc HO3.out.occ)).trans C43.out,(World.cell?_of_block (w:=wr) (a:=⟨sb,k,none⟩) (hb5 sb HOSB.out)).trans CSB.out⟩;obtain⟨ev,rfl⟩:=recv_ret hV5;refine hK.out _ _ (hS5) (fun hH=>?_);clear hK K
  try simp only[AP,AQ]
  refine dnr ?_;obtain⟨hg5,hb6,hl5⟩:=CityGL.turn HL3.out HO3.out HAB3.out HQ3.out hi hh hW5 hG5 ((HO3.out.city.ok i hi hh).receive) (Nat.le_refl T) (sgo_receive (st2 i) n i fr) (sgu_receive (st2 i) n i fr) ((HO3.out.ci.ni i hi hh).receive hi fr);obtain⟨HLE5,HG5⟩:=hide2 hl5 hg5;have HB5:Hid (Below B w w5):=HBW3.out.trans hb6;clear hW5 hG5 hg5 hb6 hl5 hS5 hb5 hH hV5 HRV2;go_wp2;go_roundw
  case rel=>exact⟨i+1,_,_,by omega,by go_num,SgLe.trans HMV2.out HLE5.out,HG5.out,HB5.out⟩
  case measure=>simp[intOf];omega
 |false=>
  have ck:=hO3.nodeNo i hi hh;clear hO3 hab3 hq3 hlen3 hendi;go_wp2;go_roundw
  case rel=>exact⟨i+1,st2,sg2,by omega,by go_num,HMV2.out,HGI.out,HBW3.out⟩
  case measure=>simp[intOf];omega
theorem happens_anyL(a:ActV){w:World}(h:CityEL B es m hon x0 Q rb n cc T M gv st sg said w)(ha:ActOk a)(hn:n≤8)(hM:M+1+100*n≤4000000000000)(hT:T+n≤1000000000000):
 Calls prog 28 #[.pointer (some ⟨cc,0,none⟩),.agg a.cells] w fun e w'=>e=.returned (.tuple #[])∧AfterL B es m hon x0 Q rb n cc (T+n) (M+1+100*n) gv sg w w':=by
 have h11:pickN a.k 11<11:=pickN_lt (by omega);obtain⟨r,hr⟩:=gen (pickN a.k 11);rw[←hr] at h11;match r,h11,hr with
 |0,_,hr=>exact happensL_recv a h ha (Or.inl hr.symm) hn hM hT
 |1,_,hr=>exact happensL_recv a h ha (Or.inr (Or.inl hr.symm)) hn hM hT
 |2,_,hr=>exact happensL_recv a h ha (Or.inr (Or.inr (Or.inl hr.symm))) hn hM hT
 |3,_,hr=>exact happensL_recv a h ha (Or.inr (Or.inr (Or.inr hr.symm))) hn hM hT
 |4,_,hr=>exact happensL_recv4 a h ha hr.symm hn hM hT
 |5,_,hr=>exact happensL_tick1 a h ha hr.symm hn hM hT
 |6,_,hr=>exact happensL_ticks a h ha hr.symm hn hM hT
 |7,_,hr=>exact happensL_sub a h ha hr.symm hn hM hT
 |8,_,hr=>exact happensL_lie a h ha (Or.inl hr.symm) hn hM hT
 |9,_,hr=>exact happensL_lie a h ha (Or.inr hr.symm) hn hM hT
 |10,_,hr=>exact happensL_all a h ha hr.symm hn hM hT
 |r+11,h,_=>exact absurd h (by omega)
end Go.Proofs.YtcfjhbcpjpgodaaGreatDoor

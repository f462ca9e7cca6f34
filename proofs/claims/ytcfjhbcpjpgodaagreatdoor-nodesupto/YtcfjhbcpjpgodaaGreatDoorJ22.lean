import Derived.Test.YtcfjhbcpjpgodaaGreatDoorJ18
import Derived.Stop.LaidErr
import Derived.Test.YtcfjhbcpjpgodaaGreatDoorJ15
import Derived.Test.YtcfjhbcpjpgodaaGreatDoorShelfA
import Derived.Test.YtcfjhbcpjpgodaaGreatDoorJ16
import Derived.Lib.SlBuf
namespace Go.Proofs.YtcfjhbcpjpgodaaGreatDoor
open Go.RowKit
set_option maxRecDepth 100000
set_option maxHeartbeats 0
set_option linter.all false
section
open Proofs.Tryz
theorem zac{o:Bool}(x:Nat->Int)(s:zgW)(b:Addr)(m:Int)(z:Nat->Int)(w:World)(hx:Dom x)(hs:s.size<4294967281)(hg:w.cell? ⟨11,0,none⟩=some (.iface 294 (.pointer (some b))))(hm:w.cell? ⟨13,0,none⟩=some (.int .i64 m))(h:(z,o)=behindR x s):
 Calls prog 94 #[.agg (regA x),.string s] w λe w'=>e=.returned (.tuple #[.agg (regA (if o then z else zA)),if o then .nilIface else .iface 294 (.pointer (some b))])/\Below w.heap.size w w':=by
 have h1:=JE x s b m w hx hs hg hm;rw[<-h] at h1;cases o<;>exact h1
theorem kE(x:Nat->Int)(s:zgW)(b:Addr)(m:Int)(w:World)(hx:Dom x)(hs:s.size<4294967281)(hg:w.cell? ⟨11,0,none⟩=some (.iface 294 (.pointer (some b))))(hm:w.cell? ⟨13,0,none⟩=some (.int .i64 m)):
 Calls prog 152 #[.agg (regA x),.string s] w λe w'=>e=.returned (.bool (behindR x s).2)/\Below w.heap.size w w':=by
 have HR:=zc (RegAt.alloc w 116 x);obtain⟨z,hz⟩:=gen (behindR x s);obtain⟨z,o⟩:=z;obtain⟨HZ,HC⟩:=ze hz (zac x s b m z (w.alloc (.cells (regA x) 116)) hx hs (cell?_alloc_old _ hg) (cell?_alloc_old _ hm) hz);have z0:=zX;clear hx hs hg hm hz;cases o with
 |true=>
  go_enter func152,ntmps152;go_wp2_with (first|(refine zn rfl 116 _ rfl w.heap.size rfl 116 x _ HR underlying116 rfl Tryz.zc2 ?_)|fail)
  refine HC.o.mono ?_;rintro e w2 ⟨rfl,ad⟩;have aa:Hid (Below w.heap.size w w2):=((zgq _ w).alloc (zgp _) _).trans (ad.mono (by simp));clear ad;simp only[if_true];go_wp2_with (first|(refine zk rfl 116 _ _ rfl w2.heap.size z rfl rfl 116 (regA zA) (zgr w2 _) (zg _) Tryz.zc2 ?_;intro w3 ae ab;have af:Hid (Below w.heap.size w w3):=(aa.o.alloc aa.o.size _).trans (ab.below aa.o.size);clear ae ab)|fail)
  go_ret;exact⟨by rw[<-HZ.o];rfl,af⟩
 |false=>
  go_enter func152,ntmps152;go_wp2_with (first|(refine zn rfl 116 _ rfl w.heap.size rfl 116 x _ HR underlying116 rfl Tryz.zc2 ?_)|fail)
  refine HC.o.mono ?_;rintro e w2 ⟨rfl,ad⟩;have aa:Hid (Below w.heap.size w w2):=((zgq _ w).alloc (zgp _) _).trans (ad.mono (by simp));clear ad;simp only[Bool.false_eq_true,if_false];go_wp2_with (first|(refine zk rfl 116 _ _ rfl w2.heap.size zA rfl rfl 116 (regA zA) (zgr w2 _) (zg _) Tryz.zc2 ?_;intro w3 ae ab;have af:Hid (Below w.heap.size w w3):=(aa.o.alloc aa.o.size _).trans (ab.below aa.o.size);clear ae ab)|fail)
  go_ret;exact⟨by rw[<-HZ.o];rfl,af⟩
def gL(x:Nat->Int)(id:Int):Int:=if 0<=id/\id<8 then x id.toNat else 0
theorem jK(x:Nat->Int)(id:Int)(w:World):
 Calls prog 142 #[.agg (regA x),.int .i64 id] w λe w'=>e=.returned (.int .i64 (gL x id))/\Below w.heap.size w w':=by
 have HR:=zc (RegAt.alloc w 116 x);by_cases hn:id<0
 .have e0:gL x id=0:=by unfold gL;rw[zgU (by omega)]
  rw[e0];clear e0;go_enter func142,ntmps142;go_wp2;go_ret;exact⟨rfl,(zgq _ w).alloc (zgp _) _⟩
 by_cases h8:8<=id
 .have e0:gL x id=0:=by unfold gL;rw[zgU (by omega)]
  rw[e0];clear e0;go_enter func142,ntmps142;go_wp2;go_ret;exact⟨rfl,(zgq _ w).alloc (zgp _) _⟩
 obtain⟨i,rfl⟩:∃i:Nat,id=(i:Int):=⟨id.toNat,by omega⟩;have e0:gL x (i:Int)=x i:=by unfold gL;rw[zgT (by omega)];rfl
 rw[e0];clear e0;have hi8:i<8:=by omega
 have aa:(i:Int)<8:=by omega
 have hc:=HR.o.cell i (by omega);go_enter func142,ntmps142;go_wp2;go_ret;exact⟨rfl,(zgq _ w).alloc (zgp _) _⟩
def idsTo(x:Nat->Int)(k:Nat):List Nat:=(List.range k).filter λi=>decide (0<x i)
def turnOf(x:Nat->Int)(t:Nat):Nat:=(idsTo x 8).getD (t % (idsTo x 8).length) 0
theorem yL(x:Nat->Int)(k:Nat):idsTo x (k+1)=idsTo x k++if 0<x k then [k] else []:=by
 unfold idsTo;rw[List.range_succ,List.filter_append];by_cases h:0<x k
 .rw [zgT h,List.filter_cons_of_pos (by simpa using h)];rfl
 rw[zgU h,List.filter_cons_of_neg (by simpa using h)];rfl
theorem gY(x:Nat->Int)(k:Nat):(idsTo x k).length<=k:=by
 unfold idsTo;have:=List.length_filter_le (λi=>decide (0<x i)) (List.range k);simpa using this
theorem KI(x:Nat->Int)(hx:Dom x):∀k,idsTo x k=[]->sumTo x k=0
 |0,_=>rfl
 |k+1,h=>by
  rw[yL] at h;have h1:=List.append_eq_nil_iff.1 h;have h2:=KI x hx k h1.1;have h3:=hx k;have h4:¬0<x k:=λhp=>by rw[zgT hp] at h1;simp at h1
  simp only[sumTo];omega
theorem GJ{x:Nat->Int}(hx:Dom x)(hp:0<sumTo x 8):0<(idsTo x 8).length:=by
 rcases Nat.eq_zero_or_pos (idsTo x 8).length with h|h
 .have:=KI x hx 8 (List.length_eq_zero_iff.1 h)
  omega
 exact h
def idL(l:List Nat):List Value:=l.map λ(i:Nat)=>Value.int .i64 (i:Int)
theorem K9(x:Nat->Int)(t:Nat)(w:World)(hx:Dom x)(hp:0<sumTo x 8)(ht:t<=1000000000):
 Calls prog 182 #[.agg (regA x),.int .i64 (t:Int)] w λe w'=>e=.returned (.int .i64 (turnOf x t:Int))/\Below w.heap.size w w':=by
 obtain⟨i3,ay,al,ak,aj⟩:=info_parts Tryz.zeh;obtain⟨HR,af,HT⟩:=zC (RegAt.alloc w 116 x) (GJ hx hp) ht;clear hx hp ht;go_enter func182,ntmps182;go_wp2_with (refine zgX rfl 46 _ rfl w.heap.size 0 rfl (vC x 8) _ (Yq HR) underlying46 rfl (by rw[yI];exact Tryz.zdI) ?_)
 go_loopw [5,6,7,10] (λv _ _ i wr=>∃k:Nat,k<=8/\i=.int .i64 k/\wr.ownsRow w.heap.size 3 1 v (idsTo x k).length (idL (idsTo x k))/\Below w.heap.size w wr) (λ_ _ _ i _=>8-(intOf i).toNat)
 case atStart=>exact⟨0,by omega,rfl,zgQ _ _ _ _,(zgq _ w).alloc (zgp _) _⟩
 obtain⟨k,hk,rfl,hv,hb⟩:=hrel;obtain⟨HV,HB⟩:=ze hv hb;clear hv hb;by_cases ah:k<8
 .have hg:=Qn (vC x 8).toArray k (x k) ah (JX x 8 k ah);have hk2:(k:Int)<8:=by omega
  have ax:=gY x k;obtain⟨L,hL⟩:=gen (idsTo x k);rw[<-hL] at HV ax;have ai:=zc hL;clear hL;have an:w.heap.size<=wr.heap.size:=HB.o.size;by_cases ad:0<x k
  .have HS:Hid (idsTo x (k+1)=L++[k]):=by unfold Hid;rw[yL,zgT ad,ai.o]
   have au:decide (0<x k)=true:=zgG ad;go_wp2_with (first|(at_builtin;refine kN _ rfl _ _ 22 rfl w.heap.size 3 i3 (.int .i64 0) 1 8 underlying22 ay al ak aj rfl (by decide) _ _ _ rfl (zb HV (λg _ hg=>zg2 wr (.cells #[.int .i64 (k:Int)] 3) g hg)) ⟨wr.heap.size,0,none⟩ 1 1 [.int .i64 (k:Int)] rfl rfl ?c1 ?c2 ?c3 ?c4 ?c5 ?_)|go_in)
   case c1=>
    intro j u hj;match j,hj with
    |0,hj=>simp at hj;subst hj;simp[Addr.add]
   case c2=>first|rfl|(intro u hu;simp at hu;subst hu;rfl)
   case c3=>unfold maxLen;omega
   case c4=>omega
   case c5=>first|omega|(simp;omega)
   intro v4 w4 ab aa aB;have aD:Hid (Below w.heap.size w w4):=(HB.o.alloc an _).grown aa (by simp;omega) (λk hk=>(HV.o.lt k hk).1);have ag:=zc ab;clear ab aa aB;go_wp2;go_roundw
   case rel=>
    refine⟨k+1,by omega,by go_num,?_,aD.o⟩;rw[HS.o,zgE];unfold idL;rw[List.map_append];exact ag
   simp[intOf];omega
  have HS:Hid (idsTo x (k+1)=L):=by unfold Hid;rw[yL,zgU ad,ai.o,List.append_nil]
  have au:decide (0<x k)=false:=zgH ad;go_wp2;go_roundw
  case rel=>
   refine⟨k+1,by omega,by go_num,?_,HB.o⟩;rw[HS.o];exact HV
  simp[intOf];omega
 obtain rfl:k=8:=by omega
 obtain⟨vp,vc,rfl⟩:=zl HV;obtain⟨n,hn⟩:∃n,n=(idsTo x 8).length:=⟨_,rfl⟩;have aw:0<n:=by rw[hn];exact af
 have hn8:n<=8:=by rw[hn];exact gY x 8
 obtain⟨r,hr⟩:=gen (t % n);have hrn:r<n:=by rw[hr];exact Nat.mod_lt _ aw
 have az:∃g,vp=some ⟨g,0,none⟩/\wr.cell? ⟨g,r,none⟩=some (.int .i64 (turnOf x t:Int)):=by
  rcases HV.o.2 with⟨_,h0⟩|⟨g,cap,cur,e0,hb,hg,hnc,hcm,hcs,ao⟩
  .omega
  cases e0;refine⟨g,rfl,?_⟩;rw[zgs wr g r _ _ _ hg];have e1:(cur.toList.take ((idsTo x 8).length*1))[r]? =(idL (idsTo x 8))[r]? :=by rw[ao]
  rw[zg5,zgT (by omega)] at e1;rw[<-zg8,e1];unfold idL turnOf;rw[List.getElem?_map,<-hn,<-hr,zgz,zgy (by omega)];rfl
 obtain⟨g,rfl,hc⟩:=az;have ar:Int.tmod (t:Int) (n:Int)=(r:Int):=by rw[hr];rfl
 have hnz:((n:Int)==0)=false:=by simp;omega
 have av:¬(n:Int)=0:=by omega
 have aq:(r:Int)<n:=by omega
 obtain⟨T,ae⟩:∃T:Int,T=(turnOf x t:Int):=⟨_,rfl⟩;rw[<-ae] at hc;have aC:=zc ae;rw[<-hn];clear HV hn hr ae;go_wp2;go_ret;exact⟨by rw[<-aC.o];rfl,HB⟩
end
section
variable{x:Nat->Int}
theorem xN(x:Nat->Int)(k:Nat)(v:Int)(n:Nat)(h:n<=k):sumTo (upd x k v) n=sumTo x n:=by
 induction n with
 |zero=>rfl
 |succ n ih=>
  simp only[sumTo];rw[ih (by omega),KF _ _ _ _ (by omega)]
theorem VO{t:zgW}(h:0<sumTo x 8)(hn:(nextT x t).2=true):0<sumTo (nextT x t).1 8:=by
 unfold nextT Gw at hn ⊢;split
 .rename_i e;rw[zgT e] at hn;have h2:=(Bool.and_eq_true_iff.1 hn).1;exact zgF h2
 split
 .rw [xN _ _ _ _ (by omega)];exact h
 split
 .rw [xN _ _ _ _ (by omega)];exact h
 rw[xN _ _ _ _ (by omega)];exact h
theorem xH:∀(l:List zgW) (x:Nat->Int),0<sumTo x 8->(behindL x l).2=true->0<sumTo (behindL x l).1 8
 | [],_,h,_=>h
 |t::l,x,h,hn=>by
  rw[behindL] at hn ⊢;by_cases e:(nextT x t).2=true
  .rw [zgT e] at hn ⊢;exact xH l _ (VO h e) hn
  .rw [zgU e] at hn;cases hn
theorem gI{b:zgW}(h:0<sumTo x 8)(hn:(behindR x b).2=true):0<sumTo (behindR x b).1 8:=by
 unfold behindR GO at hn ⊢;split
 .rename_i e;rw[zgT e] at hn;exact xH _ x h hn
 rename_i e;rw[zgU e] at hn;cases hn
theorem GQ{g:Nat->Int}{n:Nat}(h:(gN g n).2=true):0<sumTo (gN g n).1 8:=by
 unfold gN at h ⊢;split
 .rename_i e;rw[zgT e] at h;have e8:sumTo (regOf g n) 8=sumTo g n:=by
   have h1:=Zi g n (8-n);have h2:=e.1;rw[show n+(8-n)=8 by omega] at h1;exact h1
  rw[e8];exact zgF h
 rename_i e;rw[zgU e] at h;cases h
end
section
open Proofs.Tryz
variable{w:World}{g B:Nat}{K H R F V k0 k1 k2 k3 k4 k5:Int}{nl:Bool}{s:zgW}{b:Addr}
theorem zcU{W w1:World}(hb:BW W w1):(∀b o,b<W.heap.size->w1.cell? (aA b o)=W.cell? (aA b o))/\(∀b o,b<W.heap.size->w1.frozen? (aA b o)=W.frozen? (aA b o)):=
 ⟨λb o h=>hb.cell (p:=(aA b o)) h,λb o h=>hb.frozen (p:=(aA b o)) h⟩
def zM(w:World)(g:Nat)(K H R F V:Int)(nl:Bool)(s:zgW):Prop:=
 w.heap[g]? =some (.cells #[iA K,iA H,iA R,iA F,iA V,bA nl,sA s] 57 (0,0))
theorem zM.alloc(w:World)(K H R F V:Int)(nl:Bool)(s:zgW):zM (w.alloc (.cells #[iA K,iA H,iA R,iA F,iA V,bA nl,sA s] 57)) w.heap.size K H R F V nl s:=by
 unfold zM World.alloc;simp
theorem zM.zf6(w:World)(o:Obj)(K H R F V:Int)(nl:Bool)(s:zgW):zM ((w.alloc o).alloc (.cells #[iA K,iA H,iA R,iA F,iA V,bA nl,sA s] 57)) (w.heap.size+1) K H R F V nl s:=by
 have h:=zM.alloc (w.alloc o) K H R F V nl s;rw[World.size_alloc] at h;exact h
theorem zM.lt(h:zM w g K H R F V nl s):g<w.heap.size:=by
 rcases Nat.lt_or_ge g w.heap.size with h'|h'
 .exact h'
 unfold zM at h;simp[Array.getElem?_eq_none h'] at h
theorem zM.later{w':World}(h:zM w g K H R F V nl s)(hb:Below B w w')(hg:g<B):zM w' g K H R F V nl s:=by
 unfold zM at h ⊢;rw[hb.block g hg];exact h
theorem zM.drew(h:zM w g K H R F V nl s):zM w.drew g K H R F V nl s:=h
theorem zM.cells(h:zM w g K H R F V nl s):
 w.cell? (aA g 0)=some (iA K)/\w.cell? (aA g 1)=some (iA H)/\w.cell? (aA g 2)=some (iA R)/\w.cell? (aA g 3)=some (iA F)/\w.cell? (aA g 4)=some (iA V)/\w.cell? (aA g 5)=some (bA nl)/\w.cell? (aA g 6)=some (sA s)/\
 w.frozen? (aA g 0)=false/\w.frozen? (aA g 1)=false/\w.frozen? (aA g 2)=false/\w.frozen? (aA g 3)=false/\w.frozen? (aA g 4)=false/\w.frozen? (aA g 5)=false/\w.frozen? (aA g 6)=false:=by
 unfold zM at h;simp[World.cell?,World.frozen?,h]
theorem zM.zgj(h:zM w g K H R F V nl s)(V':Int):zM (w.setCell (aA g 4) (iA V')) g K H R F V' nl s:=by
 unfold zM at h ⊢;simp[World.setCell,Array.getElem?_modify,h]
theorem zM.zf8(h:zM w g K H R F V nl s)(nl':Bool):zM (w.setCell (aA g 5) (bA nl')) g K H R F V nl' s:=by
 unfold zM at h ⊢;simp[World.setCell,Array.getElem?_modify,h]
theorem zM.setOther(h:zM w g K H R F V nl s)(a:Addr)(v:Value)(ha:g≠a.block):zM (w.setCell a v) g K H R F V nl s:=by
 unfold zM at h ⊢;rw[Below.heap_setCell _ _ _ _ ha];exact h
theorem zM.zfZ(h:zM w g K H R F V nl s)(K' H' R' F' V':Int)(nl':Bool)(s':zgW):
 zM (((((((w.setCell (aA g 0) (iA K')).setCell (aA g 1) (iA H')).setCell (aA g 2) (iA R')).setCell (aA g 3) (iA F')).setCell (aA g 4) (iA V')).setCell (aA g 5) (bA nl')).setCell (aA g 6) (sA s')) g K' H' R' F' V' nl' s':=by
 unfold zM at h ⊢;simp[World.setCell,Array.getElem?_modify,h]
theorem kL{w0:World}(h:Below B w0 w)(hg:B<=g)(v0 v1 v2 v3 v4 v5 v6:Value):
 Below B w0 (((((((w.setCell (aA g 0) v0).setCell (aA g 1) v1).setCell (aA g 2) v2).setCell (aA g 3) v3).setCell (aA g 4) v4).setCell (aA g 5) v5).setCell (aA g 6) v6):=
 ((((((h.setCell (p:=(aA g 0)) hg _).setCell (p:=(aA g 1)) hg _).setCell (p:=(aA g 2)) hg _).setCell (p:=(aA g 3)) hg _).setCell (p:=(aA g 4)) hg _).setCell (p:=(aA g 5)) hg _).setCell (p:=(aA g 6)) hg _
theorem zM.zeT{g':Nat}(h:zM w g K H R F V nl s)(hg:g≠g')(v0 v1 v2 v3 v4 v5 v6:Value):
 zM (((((((w.setCell (aA g' 0) v0).setCell (aA g' 1) v1).setCell (aA g' 2) v2).setCell (aA g' 3) v3).setCell (aA g' 4) v4).setCell (aA g' 5) v5).setCell (aA g' 6) v6) g K H R F V nl s:=
 ((((((h.setOther _ _ hg).setOther _ _ hg).setOther _ _ hg).setOther _ _ hg).setOther _ _ hg).setOther _ _ hg).setOther _ _ hg
theorem GV(h:qB k0 k1 k2 k3 k4 k5 s.size=false):
 Ending.returned (.tuple #[.agg mA,eA b])=.returned (.tuple #[QA k0 k1 k2 k3 k4 k5 s,xB b (qB k0 k1 k2 k3 k4 k5 s.size)]):=by
 unfold QA xB;rw[h,zgU (by simp),zgU (by simp)]
theorem zbh(h:qB k0 k1 k2 k3 k4 k5 s.size=true)(hv:vOf k0 k4=V)(hn:nlOf k0 k4=nl):
 Ending.returned (.tuple #[.agg #[iA k0,iA k1,iA k2,iA k3,iA V,bA nl,sA s],.nilIface])=.returned (.tuple #[QA k0 k1 k2 k3 k4 k5 s,xB b (qB k0 k1 k2 k3 k4 k5 s.size)]):=by
 unfold QA xB;rw[h,zgT rfl,zgT rfl,hv,hn]
theorem jT(s:zgW)(w:World)(h:s.size<=281474976710656):
 Calls prog 82 #[sA s] w λe w'=>e=.returned (sA s)/\BW w w':=by
 go_enter func82,ntmps82;go_wp2_with (go_at_call 129;refine(Tryz.stringslite_Clone s _ h).mono ?_;rintro e w1 ⟨rfl,hb⟩)
 go_ret;exact⟨rfl,hb⟩
end
section
open Proofs.Tryz
variable{w:World}{g:Nat}
theorem Tryz.zfk:(prog.info? 5).map (λi=>(i.zero,i.size,i.bytes))=some (some (.int .u8 0),1,1):=by kernel_rfl
def zal(x:Nat->Int):List Value:=(List.range 26).map λj=>iA (x (8+j))
def JB(l:List Nat):List Value:=l.map λ(j:Nat)=>.int .u8 (97+(j:Int))
theorem Q4(x:Nat->Int):(zal x).length=26:=by simp[zal]
theorem zaI(x:Nat->Int)(i:Nat)(h:i<26):(zal x).toArray[i]? =some (iA (x (8+i))):=by simp[zal,h]
theorem QC(l:List Nat)(k:Nat):JB (l++[k])=JB l++[.int .u8 (97+(k:Int))]:=by simp[JB]
theorem VB{t:TypeId}{x:Nat->Int}(h:RegAt w g t x):w.rangeAt g 8 (zal x):=λj v hv=>by
 have hj:j<26:=by have:=(List.getElem?_eq_some_iff.1 hv).1;simpa [zal] using this
 rw[h.cell (8+j) (by omega)];have:(zal x)[j]? =some (iA (x (8+j))):=by simp[zal,hj]
 rw[this] at hv;exact hv
theorem GI(C:Array Value)(k:Nat)(v:Int)(hk:k<26)(hg:C[k]? =some (iA v))(W:World):(Instr.index 47 (.agg C) (iA k)).run prog W=.ok (iA v) W:=by
 have h:0<=(k:Int)/\(k:Int)<((26:Nat):Int):=by omega
 simp[Instr.index,run_underlying underlying47,asIntOf,go_sem,Tryz.sizeOf3,Tryz.isAgg3,hg,hk]
theorem Xm(w:World)(base:Nat)(v:Value)(l:List Nat)(h:w.ownsRow base 5 1 v l.length (JB l)):(convert 153 9 v).run prog w=.ok (sA (nameB l)) w:=by
 rcases h.2 with⟨rfl,hn⟩|⟨g,cap,cur,rfl,hb,hg,hnc,hcm,hcs,ht⟩
 .obtain rfl:=List.length_eq_zero_iff.1 hn;exact run_convert_bytes_nil w 153 5 underlying153 underlying5 0 0 9 underlying9
 refine run_convert_bytes_arg w 153 5 underlying153 underlying5 g 0 l.length cap (l.map λ(j:Nat)=>(j:Int)+97) (by simp) (λi hi=>?_) 9 underlying9;rw[zgs w g (0+i) _ _ _ hg,zg0];have e1:(cur.toList.take (l.length*1))[i]? =(JB l)[i]? :=by rw[ht]
 rw[zg5,zgT (by omega)] at e1;rw[<-zg8,e1];simp[JB,hi,Int.add_comm]
theorem Ys{base:Nat}{t:TypeId}{l:List Value}(h:w.heap[g]? =some (.cells l.toArray t (0,0)))(hb:base<=g)(hl:l.length<=maxLen):w.ownsRow base t 1 (.slice (some ⟨g,0,none⟩) l.length l.length) l.length l:=
 ⟨by simp,zgS ⟨g,l.length,l.toArray,rfl,hb,h,zgp _,hl,by simp,by simp⟩⟩
theorem zau(x:Nat->Int)(w:World)(hx:Dom x):
 Calls prog 76 #[.agg (regA x)] w λe w'=>∃p r,e=.returned (.agg #[p,sA (nameB (memb x 26)),r])/\w'.ownsRow w.heap.size 3 1 p 8 (vC x 8)/\w'.ownsRow w.heap.size 3 1 r (memb x 26).length (jE x (memb x 26))/\(∀g,p.ownBlock=some g->r.ownBlock≠some g)/\BW w w':=by
 obtain⟨i3,hi,aS,az,aR⟩:=info_parts Tryz.zeh;obtain⟨i5,bd,aG,aF,aE⟩:=info_parts Tryz.zfk;have bb:∀W:World,(Instr.makeSlice 22 (iA 8) (iA 8)).run prog W=.ok (.slice (some ⟨W.heap.size,0,none⟩) 8 8) (W.alloc (.cells #[iA 0,iA 0,iA 0,iA 0,iA 0,iA 0,iA 0,iA 0] 3)):=λW=>by
  have h:=run_makeSlice (P:=prog) W 22 3 i3 (iA 0) underlying22 hi aS .i64 .i64 8 8 (by decide) (by decide) (by rw[az];decide) (by rw[aR];decide) (by decide);have e:madeCells (Value.cells (iA 0)) (Int.toNat 8*1)=#[iA 0,iA 0,iA 0,iA 0,iA 0,iA 0,iA 0,iA 0]:=by kernel_rfl
  rw[h,az,e];rfl
 have HX:=zc hx;clear hx;obtain⟨W,hW⟩:∃W,W=(((w.alloc (.cells (regA x) 116)).alloc (.cells #[.slice none 0 0,sA ⟨#[]⟩,.slice none 0 0] 72)).alloc (.cells #[iA 0,iA 0,iA 0,iA 0,iA 0,iA 0,iA 0,iA 0] 3)):=⟨_,rfl⟩;have e1:(w.alloc (.cells (regA x) 116)).heap.size=w.heap.size+1:=by simp
 have e2:((w.alloc (.cells (regA x) 116)).alloc (.cells #[.slice none 0 0,sA ⟨#[]⟩,.slice none 0 0] 72)).heap.size=w.heap.size+1+1:=by simp
 have aK:W.heap.size=w.heap.size+1+1+1:=by rw[hW];simp
 have HR:Hid (RegAt W w.heap.size 116 x):=by
  unfold Hid;rw[hW];exact((RegAt.alloc w _ x).below (bwA _)).below (bwA _)
 have aZ:Hid (zV W (w.heap.size+1) (.slice none 0 0) zgV (.slice none 0 0)):=by
  unfold Hid;have h:zV ((w.alloc (.cells (regA x) 116)).alloc (.cells #[.slice none 0 0,sA ⟨#[]⟩,.slice none 0 0] 72)) (w.alloc (.cells (regA x) 116)).heap.size (.slice none 0 0) zgV (.slice none 0 0):=zgr (w.alloc (.cells (regA x) 116)) _;rw[e1] at h;rw[hW];exact h.block (zg2 _ _ (w.heap.size+1) h.lt)
 have HZ:Hid (W.heap[w.heap.size+1+1]? =some (.cells #[iA 0,iA 0,iA 0,iA 0,iA 0,iA 0,iA 0,iA 0] 3 (0,0))):=by
  unfold Hid;have h:=zgr ((w.alloc (.cells (regA x) 116)).alloc (.cells #[.slice none 0 0,sA ⟨#[]⟩,.slice none 0 0] 72)) (.cells #[iA 0,iA 0,iA 0,iA 0,iA 0,iA 0,iA 0,iA 0] 3);rw[e2] at h;rw[hW];exact h
 have HB:Hid (BW w W):=by
  unfold Hid;rw[hW];exact((bwA w).alloc (by simp) _).alloc (by rw[e2];omega) _
 have bg:=hW.symm;clear hW e1 e2;have a6:=zc (zgr W (.cells #[.slice none 0 0,sA ⟨#[]⟩,.slice none 0 0] 72));go_enter func76,ntmps76;go_wp2_with (refine zi rfl 72 _ _ rfl W.heap.size #[.slice (some ⟨w.heap.size+1+1,0,none⟩) 8 8,sA ⟨#[]⟩,.slice none 0 0] (by rw[aK];rfl) rfl 72 #[.slice none 0 0,sA ⟨#[]⟩,.slice none 0 0] a6.o rfl (by simp[Value.oneCell']) Tryz.zdO ?_;intro w4 hq ho)
 have HQ:Hid (zV w4 (w.heap.size+1+1+1) (.slice (some ⟨w.heap.size+1+1,0,none⟩) 8 8) zgV (.slice none 0 0)):=by have:=hq;rw[aK] at this;exact this
 have HO:Hid (ko (w.heap.size+1+1+1) (W.alloc (.cells #[.slice none 0 0,sA ⟨#[]⟩,.slice none 0 0] 72)) w4):=by have:=ho;rw[aK] at this;exact this
 clear hq ho a6 bb;have ax:Hid (BW W w4):=(bwA W).trans (HO.o.below (by omega));have aP:=zc (HR.o.below ax);have aq:=zc (aZ.o.block (ax.o.block (w.heap.size+1) (by omega)));have aL:Hid (cL w4 (w.heap.size+1+1) #[iA 0,iA 0,iA 0,iA 0,iA 0,iA 0,iA 0,iA 0] 3):=(ax.o.block _ (by omega)).trans HZ.o;have aC:Hid (BW w w4):=HB.o.trans (ax.o.mono HB.o.size);clear ax HO HR aZ HZ HB bg;refine rgd (S:=λW'=>zV W' (w.heap.size+1+1+1) (.slice (some ⟨w.heap.size+1+1,0,none⟩) 8 8) zgV (.slice none 0 0)) HQ λhH=>?_;refine zx [0,1,2,3] hH (λx h=>h.cell.1) ?_;refine zp 4 λK hK=>?_;rw[zgT (by rfl)];refine Lib.wp_copy_run _ _ _ 22 22 rfl _ _ rfl rfl (run_copy_row (P:=prog) _ 22 22 _ 3 (w.heap.size+1+1) 0 8 8 ⟨w.heap.size,0,none⟩ 8 8 #[iA 0,iA 0,iA 0,iA 0,iA 0,iA 0,iA 0,iA 0] 3 (vC x 8) underlying22 (by rw[hi];simp[az]) aL.o (by rw[yI];rfl) (λj v hv=>?_) (by rw[yI];decide) (λv hv=>?_)) ?_
 .have hj:j<8:=by have:=(List.getElem?_eq_some_iff.1 hv).1;rwa [yI] at this
  rw[addr_add,zg0];have h:=aP.o.cell j (by omega);have h2:(vC x 8)[j]? =some (iA (x j)):=by simp[vC,hj]
  rw[h2] at hv;cases hv;exact h
 .simp only[vC,List.mem_map] at hv;obtain⟨i,_,rfl⟩:=hv;rfl
 obtain⟨w5,aB⟩:=gen (w4.drew.setRow (w.heap.size+1+1) ((#[iA 0,iA 0,iA 0,iA 0,iA 0,iA 0,iA 0,iA 0]:Array Value).toList.take 0++vC x 8++(#[iA 0,iA 0,iA 0,iA 0,iA 0,iA 0,iA 0,iA 0]:Array Value).toList.drop (0+(vC x 8).length)).toArray);have av:Hid (ko (w.heap.size+1+1) w4 w5):=by unfold Hid;rw[aB];exact⟨rfl,rfl,rfl,by simp,λk hk=>setRow_other _ _ _ _ hk⟩
 have bn:Hid (w5.heap[w.heap.size+1+1]? =some (.cells (vC x 8).toArray 3 (0,0))):=by
  unfold Hid;rw[aB,setRow_heap w4.drew _ #[iA 0,iA 0,iA 0,iA 0,iA 0,iA 0,iA 0,iA 0] _ 3 (0,0) aL.o];have e:(#[iA 0,iA 0,iA 0,iA 0,iA 0,iA 0,iA 0,iA 0]:Array Value).toList.drop (0+(vC x 8).length)=[]:=by rw[yI];rfl
  rw[e,List.take_zero,List.nil_append,List.append_nil]
 rw[<-aB];clear aB;have ai:Hid (zV w5 (w.heap.size+1+1+1) (.slice (some ⟨w.heap.size+1+1,0,none⟩) 8 8) zgV (.slice none 0 0)):=hH.block (av.o.block _ (by omega));refine hK.out _ _ ai λhH=>?_;clear hK K;refine dnr ?_;have bj:=zc (aP.o.only av.o (by omega));have aO:=zc (aq.o.block (av.o.block (w.heap.size+1) (by omega)));have bo:Hid (BW w w5):=aC.o.trans (av.o.below (by omega));have hs5:w.heap.size+1+1+1<w5.heap.size:=ai.o.lt;clear HQ aP aq aL aC av hH;go_wp2_with (refine zgX rfl 47 _ rfl w.heap.size 8 rfl (zal x) _ (VB bj) underlying47 rfl (by rw[Q4];exact Tryz.zfj) ?_)
 go_loopw [4,5,6,16] (λnm _ _ i ws=>∃(k:Nat) (rv:Value),k<=26/\i=iA k/\But w5.heap.size (w.heap.size+1+1+1) w5 ws/\zV ws (w.heap.size+1+1+1) (.slice (some ⟨w.heap.size+1+1,0,none⟩) 8 8) zgV rv/\ws.ownsRow w5.heap.size 5 1 nm (memb x k).length (JB (memb x k))/\ws.ownsRow w5.heap.size 3 1 rv (memb x k).length (jE x (memb x k))) (λ_ _ _ i _=>26-(intOf i).toNat)
 case atStart=>exact⟨0,.slice none 0 0,by omega,rfl,But.refl _ _ _,ai.o,zgQ _ _ _ _,zgQ _ _ _ _⟩
 obtain⟨k,rv,hk,rfl,aJ,aT,aV,aU⟩:=hrel;obtain⟨aw,al,an,ak,aD⟩:=kY aJ aT aV aU aJ.size;clear aJ aT aV aU;by_cases ao:k=26
 .subst ao;have aN:=zc (aO.o.block (aw.o.block (w.heap.size+1) (by omega) (by omega)));have bl:=zc ((aw.o.block (w.heap.size+1+1) (by omega) (by omega)).trans bn.o);have aC:=zc (bo.o.trans (aw.o.below (B':=w.heap.size) (by omega) (by omega)));have hcv:=Xm wr w5.heap.size _ (memb x 26) an;obtain⟨np,nc,rfl⟩:=zl an;obtain⟨rp,rc,rfl⟩:=zl ak;have hc1:=al.o.cell.2.1;have hf1:=al.o.frozen 1;obtain⟨aY,ag⟩:=ze (al.o.zga (nameB (memb x 26))) (zd wr (w.heap.size+1+1+1) 1 (sA (nameB (memb x 26))));generalize hgW:wr.setCell ⟨w.heap.size+1+1+1,1,none⟩ (sA (nameB (memb x 26)))=w6 at aY ag;go_wp2_with (first|(refine zg4 rfl 72 _ rfl (w.heap.size+1+1+1) rfl 72 _ (0,0) _ aY.o underlying72 rfl Tryz.zdO ?_)|(refine zi rfl 72 _ _ rfl (w.heap.size+1) _ rfl rfl 72 _ (aN.o.block (ag.o.block (w.heap.size+1) (by omega))) rfl (by simp[Value.oneCell']) Tryz.zdO ?_;intro w7 hq ho))
  have aX:∀g,g≠(w.heap.size+1)->g≠(w.heap.size+1+1+1)->w7.heap[g]? =wr.heap[g]? :=λg h1 h2=>(ho.block g h1).trans (ag.o.block g h2);have bm:Hid (w7.heap[w.heap.size+1+1]? =some (.cells (vC x 8).toArray 3 (0,0))):=(aX _ (by omega) (by omega)).trans bl.o;have ae:Hid (w7.ownsRow w5.heap.size 3 1 (.slice rp (memb x 26).length rc) (memb x 26).length (jE x (memb x 26))):=zb ak.o (λg hg _=>aX g (by have:=(ak.o.lt g hg).1;omega) (by have:=(ak.o.lt g hg).1;omega));have a1:=zc (Ys (base:=w.heap.size) bm.o (by omega) (by rw[yI];unfold maxLen;omega));rw[yI] at a1;exact zgJ (v:=.agg #[.slice (some ⟨w.heap.size+1+1,0,none⟩) 8 8,sA (nameB (memb x 26)),.slice rp (memb x 26).length rc]) (results_cell_row results76 _ _ (w.heap.size+1) 72 _ (0,0) _ rfl hq underlying72 rfl Tryz.zdO) rfl ⟨_,_,rfl,a1.o,yU ae.o (by omega),λg e1 e2=>by(have h1:=(ae.o.lt g e2).1;have e3:some (w.heap.size+1+1)=some g:=e1;have e4:=zg6 e3;omega),(aC.o.trans (ag.o.below (by omega))).trans (ho.below (by omega))⟩
 have hki:(k:Int)<26:=by omega
 have aW:k<26:=by omega
 have bc:=GI (zal x).toArray k (x (8+k)) aW (zaI x k aW);clear ao;by_cases af:0<x (8+k)
 .have a7:=zc (J5 x k af);have hml:=jh x k;have hzb:(x (8+k)==0)=false:=by simp;omega
  have hzn:(x (8+k) != 0)=true:=by simp;omega
  clear af;go_wp2_with (first|(at_builtin;refine wpList_append_own _ rfl _ _ 153 rfl w5.heap.size 5 i5 (.int .u8 0) 1 1 underlying153 bd aG aF aE rfl (by decide) _ _ _ rfl (an.o.alloc _) ⟨wr.heap.size,0,none⟩ 1 1 [.int .u8 (97+(k:Int))] rfl rfl ?c1 ?c2 ?c3 ?c4 ?c5 ?_)|go_in)
  case c1=>
   intro j u hj;match j,hj with
   |0,hj=>simp at hj;subst hj;simp[Addr.add]
  case c2=>intro u hu;simp at hu;subst hu;rfl
  case c3=>unfold maxLen;omega
  case c4=>omega
  case c5=>have:=aD.o;simp;omega
  intro nm' w6 ah ab _;have au:=zc ah;have ay:Hid (∀g,rv.ownBlock=some g->_ ):=yA ak an (by decide);have aj:Hid (w6.ownsRow w5.heap.size 3 1 rv (memb x k).length (jE x (memb x k))):=zb (ak.o.alloc (.cells #[.int .u8 (97+(k:Int))] 5)) (λg hg aH=>ab.block g aH (λe=>ay g hg e.symm));have aQ:Hid (Below w5.heap.size wr w6):=((zgq _ wr).alloc aD.o _).grown ab (by have:=aD.o;simp;omega) (λj hj=>(an.o.lt j hj).1);clear ah ab ay;have bh:=zc (al.o.block (aQ.o.block (w.heap.size+1+1+1) (by omega)));have bf:=bh.o.cell.2.2;have hs6:w5.heap.size<=w6.heap.size:=zgu aD aQ.o.size;go_wp2_with (first|(at_builtin;refine wpList_append_own _ rfl _ _ 22 rfl w5.heap.size 3 i3 (iA 0) 1 8 underlying22 hi aS az aR rfl (by decide) _ _ _ rfl (aj.o.alloc _) ⟨w6.heap.size,0,none⟩ 1 1 [iA (x (8+k))] rfl rfl ?c1 ?c2 ?c3 ?c4 ?c5 ?_)|go_in)
  case c1=>
   intro j u hj;match j,hj with
   |0,hj=>simp at hj;subst hj;simp[Addr.add]
  case c2=>intro u hu;simp at hu;subst hu;rfl
  case c3=>unfold maxLen;omega
  case c4=>omega
  case c5=>simp;omega
  intro rv' w7 ad aa _;obtain⟨rp,rc,rfl⟩:=zl ad;have ae:=zc ad;have ay:=zc (yA au aj (by decide));have ar:=zc (zb (au.o.alloc (.cells #[iA (x (8+k))] 3)) (λg hg aH=>aa.block g aH (λe=>ay g hg e.symm)));have ba:Hid (Below w5.heap.size wr w7):=(aQ.o.alloc (by omega) _).grown aa (by simp;omega) (λj hj=>(aj.o.lt j hj).1);clear ad aa ay bf;have aM:=zc (al.o.block (ba.o.block (w.heap.size+1+1+1) (by omega)));have hc7:=aM.o.cell.2.2;have hf7:=aM.o.frozen 2;go_wp2;go_roundw
  case rel=>
   refine⟨k+1,.slice rp ((memb x k).length+1) rc,by omega,by go_num,(aw.o.trans (But.zeo ba.o)).trans (But.zdS (zd _ _ _ _)),aM.o.zf9 _,?_,?_⟩
   .exact zb (by rw[a7.o,QC,zgE];exact ar.o) (λg hg _=>(zd _ _ _ _).block g (by have:=(ar.o.lt g hg).1;omega))
   exact zb (by rw[a7.o,gg,zgE];exact ae.o) (λg hg _=>(zd _ _ _ _).block g (by have:=(ae.o.lt g hg).1;omega))
  simp[intOf];omega
 have a8:=zc (Gy x k af);have hz:x (8+k)=0:=by have:=HX.o (8+k);omega
 rw[hz] at bc;clear af hz;go_wp2;go_roundw
 case rel=>exact⟨k+1,rv,by omega,by go_num,aw.o,al.o,by rw[a8.o];exact an,by rw[a8.o];exact ak⟩
 simp[intOf];omega
end
section
open Proofs.Tryz
theorem vn(c:Int)(n:Nat)(w:World)(h1: -9223372036854775808<=c)(h2:c<=9223372036854775807)(hn:1<=n)(hn2:n<=1000000000):
 Calls prog 10 #[iA c,iA n] w λe w'=>(∃r:Nat,r<n/\e=.returned (iA r))/\w'=w:=by
 have hz:((n:Int)==0)=false:=by simp;omega
 have hz2:¬(n:Int)=0:=by omega
 by_cases hc:c<0
 .obtain ⟨d,hd⟩:∃d:Int,d= -(c+1):=⟨_,rfl⟩
  have ab:0<=d:=by omega
  have hd1:d<=9223372036854775807:=by omega
  obtain⟨r,hr⟩:∃r:Nat,(r:Int)=d.tmod n:=⟨(d.tmod n).toNat,by rw[Int.toNat_of_nonneg (Int.tmod_nonneg _ ab)]⟩;have aa:r<n:=by have:=Int.tmod_lt_of_pos d (show(0:Int)<n by omega);omega
  obtain⟨HR,HD,HN⟩:=zC hr hd aa;clear hr aa;go_enter func10,ntmps10;go_wp2;go_ret;refine⟨⟨r,HN,?_⟩,rfl⟩;show Ending.returned (Value.int .i64 (-(c+1).tmod (n:Int)))=_;rw[HR.o,HD.o,Int.neg_tmod]

 obtain⟨r,hr⟩:∃r:Nat,(r:Int)=c.tmod n:=⟨(c.tmod n).toNat,by rw[Int.toNat_of_nonneg (Int.tmod_nonneg _ (by omega))]⟩;have aa:r<n:=by have:=Int.tmod_lt_of_pos c (show(0:Int)<n by omega);omega
 obtain⟨HR,HN⟩:=ze hr aa;clear hr aa;go_enter func10,ntmps10;go_wp2;go_ret;refine⟨⟨r,HN,?_⟩,rfl⟩;show Ending.returned (Value.int .i64 (c % (n:Int)))=_;rw[HR.o,Int.tmod_eq_emod_of_nonneg (by omega)]
theorem za7(w:World):
 Calls prog 14 #[.slice none 0 0,.slice none 0 0] w λe w'=>e=.returned (bA true)/\w'=w:=by
 have hnl:∀W:World,(binOp .eql 22 (.slice none 0 0) (.slice none 0 0)).run prog W=.ok (bA true) W:=λW=>Km _ _ underlying22 _ _ _ W;go_enter func14,ntmps14;go_wp2;go_ret;exact⟨rfl,rfl⟩
theorem za8(g:Nat->Int)(b o n cap gb c:Nat)(w:World)(hn:n<=1099511627776)(hc:n+8<=c)(hl:kG w w.heap.size (some (aA b o)) n (λi=>iA (g i)))
 (hr:∀i,i<n+8->w.cell? (aA gb i)=some (if i<n then iA (g i) else iA (-77))):
 Calls prog 14 #[.slice (some (aA gb 0)) n c,.slice (some (aA b o)) n cap] w λe w'=>e=.returned (bA true)/\w'=w:=by
 have af:∀W:World,(binOp .eql 22 (.slice (some (aA b o)) n cap) (.slice none 0 0)).run prog W=.ok (bA false) W:=λW=>Km _ _ underlying22 _ _ _ W;obtain⟨HL,HR⟩:=ze hl hr;clear hl hr;go_enter func14,ntmps14;go_wp2;clear af
 go_loop [6,7] (λi _=>∃k:Nat,k<=n+8/\i=iA k) (λi _=>n+8-(intOf i).toNat)
 case atStart=>exact⟨0,by omega,rfl⟩
 obtain⟨k,hk,rfl⟩:=hrel;by_cases ae:k=n+8
 .have ah:¬(k:Int)<n+8:=by omega
  have hk2:¬k<n+8:=by omega
  clear ae;go_wp2;go_ret;exact⟨rfl,rfl⟩
 have ag:k<n+8:=by omega
 have ah:(k:Int)<n+8:=by omega
 have ad:=HR.o k ag;by_cases ab:k<n;focus
  have aa:(k:Int)<n:=by omega
  rw[zgT ab] at ad;obtain⟨b',o',e,_,hc1⟩:=HL.o k ab;cases e
 rotate_left;focus
  have aa:¬(k:Int)<n:=by omega
  rw[zgU ab] at ad
 rotate_left;all_goals
  clear ae;go_wp2
  go_round
  case rel=>exact⟨k+1,by omega,by go_num⟩
  simp[intOf];omega

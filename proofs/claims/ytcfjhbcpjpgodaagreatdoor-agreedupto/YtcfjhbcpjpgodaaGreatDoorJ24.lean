/- Proved here: small facts on a message that lies in memory, field by field, and on what a later world keeps of it. -/
import Derived.Test.YtcfjhbcpjpgodaaGreatDoorJ1
import Derived.Test.YtcfjhbcpjpgodaaGreatDoorShelfA
import Derived.Test.YtcfjhbcpjpgodaaGreatDoorJ15
import Derived.Deep.RegionHeld
import Derived.Deep.DeepCutAuto
import Derived.Test.YtcfjhbcpjpgodaaGreatDoorJ17
import Derived.Test.YtcfjhbcpjpgodaaGreatDoorJ3
import Derived.Test.YtcfjhbcpjpgodaaGreatDoorTakeL
namespace Go.Proofs.YtcfjhbcpjpgodaaGreatDoor
open Go.RowKit Go.Proofs.Tryz
set_option maxRecDepth 100000
set_option maxHeartbeats 4000000
variable{w w':World}{g B:Nat}{K H R F V k0 k1 k2 k3 k4 k5:Int}{nl:Bool}{s:ByteArray}{b:Addr}
theorem bcell{W w1:World}(hb:Below W.heap.size W w1):(∀b o,b<W.heap.size→w1.cell? ⟨b,o,none⟩=W.cell? ⟨b,o,none⟩)∧(∀b o,b<W.heap.size→w1.frozen? ⟨b,o,none⟩=W.frozen? ⟨b,o,none⟩):=
 ⟨fun b o h=>hb.cell (p:=⟨b,o,none⟩) h,fun b o h=>hb.frozen (p:=⟨b,o,none⟩) h⟩
def MsgAt(w:World)(g:Nat)(K H R F V:Int)(nl:Bool)(s:ByteArray):Prop:=
 w.heap[g]? =some (.cells #[.int .i64 K,.int .i64 H,.int .i64 R,.int .i64 F,.int .i64 V,.bool nl,.string s] 57 (0,0))
theorem MsgAt.alloc(w:World)(K H R F V:Int)(nl:Bool)(s:ByteArray):MsgAt (w.alloc (.cells #[.int .i64 K,.int .i64 H,.int .i64 R,.int .i64 F,.int .i64 V,.bool nl,.string s] 57)) w.heap.size K H R F V nl s:=by
 unfold MsgAt World.alloc;simp
theorem MsgAt.alloc2(w:World)(o:Obj)(K H R F V:Int)(nl:Bool)(s:ByteArray):MsgAt ((w.alloc o).alloc (.cells #[.int .i64 K,.int .i64 H,.int .i64 R,.int .i64 F,.int .i64 V,.bool nl,.string s] 57)) (w.heap.size+1) K H R F V nl s:=by
 have h:=MsgAt.alloc (w.alloc o) K H R F V nl s;rw[World.size_alloc] at h;exact h
theorem MsgAt.lt(h:MsgAt w g K H R F V nl s):g<w.heap.size:=by
 rcases Nat.lt_or_ge g w.heap.size with h'|h'
 .exact h'
 unfold MsgAt at h;simp[Array.getElem?_eq_none h'] at h
theorem MsgAt.later(h:MsgAt w g K H R F V nl s)(hb:Below B w w')(hg:g<B):MsgAt w' g K H R F V nl s:=by
 unfold MsgAt at h ⊢;rw[hb.block g hg];exact h
theorem MsgAt.drew(h:MsgAt w g K H R F V nl s):MsgAt w.drew g K H R F V nl s:=h
theorem MsgAt.cells(h:MsgAt w g K H R F V nl s):
 w.cell? ⟨g,0,none⟩=some (.int .i64 K)∧w.cell? ⟨g,1,none⟩=some (.int .i64 H)∧w.cell? ⟨g,2,none⟩=some (.int .i64 R)∧w.cell? ⟨g,3,none⟩=some (.int .i64 F)∧w.cell? ⟨g,4,none⟩=some (.int .i64 V)∧w.cell? ⟨g,5,none⟩=some (.bool nl)∧w.cell? ⟨g,6,none⟩=some (.string s)∧
 w.frozen? ⟨g,0,none⟩=false∧w.frozen? ⟨g,1,none⟩=false∧w.frozen? ⟨g,2,none⟩=false∧w.frozen? ⟨g,3,none⟩=false∧w.frozen? ⟨g,4,none⟩=false∧w.frozen? ⟨g,5,none⟩=false∧w.frozen? ⟨g,6,none⟩=false:=by
 unfold MsgAt at h;simp[World.cell?,World.frozen?,h]
theorem MsgAt.setV(h:MsgAt w g K H R F V nl s)(V':Int):MsgAt (w.setCell ⟨g,4,none⟩ (.int .i64 V')) g K H R F V' nl s:=by
 unfold MsgAt at h ⊢;simp[World.setCell,Array.getElem?_modify,h]
theorem MsgAt.setNl(h:MsgAt w g K H R F V nl s)(nl':Bool):MsgAt (w.setCell ⟨g,5,none⟩ (.bool nl')) g K H R F V nl' s:=by
 unfold MsgAt at h ⊢;simp[World.setCell,Array.getElem?_modify,h]
theorem MsgAt.setOther(h:MsgAt w g K H R F V nl s)(a:Addr)(v:Value)(ha:g≠a.block):MsgAt (w.setCell a v) g K H R F V nl s:=by
 unfold MsgAt at h ⊢;rw[Below.heap_setCell _ _ _ _ ha];exact h
theorem MsgAt.setAll(h:MsgAt w g K H R F V nl s)(K' H' R' F' V':Int)(nl':Bool)(s':ByteArray):
 MsgAt (((((((w.setCell ⟨g,0,none⟩ (.int .i64 K')).setCell ⟨g,1,none⟩ (.int .i64 H')).setCell ⟨g,2,none⟩ (.int .i64 R')).setCell ⟨g,3,none⟩ (.int .i64 F')).setCell ⟨g,4,none⟩ (.int .i64 V')).setCell ⟨g,5,none⟩ (.bool nl')).setCell ⟨g,6,none⟩ (.string s')) g K' H' R' F' V' nl' s':=by
 unfold MsgAt at h ⊢;simp[World.setCell,Array.getElem?_modify,h]
theorem below_setAll{w0:World}(h:Below B w0 w)(hg:B≤g)(v0 v1 v2 v3 v4 v5 v6:Value):
 Below B w0 (((((((w.setCell ⟨g,0,none⟩ v0).setCell ⟨g,1,none⟩ v1).setCell ⟨g,2,none⟩ v2).setCell ⟨g,3,none⟩ v3).setCell ⟨g,4,none⟩ v4).setCell ⟨g,5,none⟩ v5).setCell ⟨g,6,none⟩ v6):=
 ((((((h.setCell (p:=⟨g,0,none⟩) hg _).setCell (p:=⟨g,1,none⟩) hg _).setCell (p:=⟨g,2,none⟩) hg _).setCell (p:=⟨g,3,none⟩) hg _).setCell (p:=⟨g,4,none⟩) hg _).setCell (p:=⟨g,5,none⟩) hg _).setCell (p:=⟨g,6,none⟩) hg _
theorem MsgAt.setAllOther{g':Nat}(h:MsgAt w g K H R F V nl s)(hg:g≠g')(v0 v1 v2 v3 v4 v5 v6:Value):
 MsgAt (((((((w.setCell ⟨g',0,none⟩ v0).setCell ⟨g',1,none⟩ v1).setCell ⟨g',2,none⟩ v2).setCell ⟨g',3,none⟩ v3).setCell ⟨g',4,none⟩ v4).setCell ⟨g',5,none⟩ v5).setCell ⟨g',6,none⟩ v6) g K H R F V nl s:=
 ((((((h.setOther _ _ hg).setOther _ _ hg).setOther _ _ hg).setOther _ _ hg).setOther _ _ hg).setOther _ _ hg).setOther _ _ hg
theorem form_no(h:decB k0 k1 k2 k3 k4 k5 s.size=false):
 Ending.returned (.tuple #[.agg #[.int .i64 0,.int .i64 0,.int .i64 0,.int .i64 0,.int .i64 0,.bool false,.string ⟨#[]⟩],.iface 294 (.pointer (some b))])=.returned (.tuple #[decM k0 k1 k2 k3 k4 k5 s,formE b (decB k0 k1 k2 k3 k4 k5 s.size)]):=by
 unfold decM formE;rw[h,if_neg (by simp),if_neg (by simp)]
theorem form_yes(h:decB k0 k1 k2 k3 k4 k5 s.size=true)(hv:vOf k0 k4=V)(hn:nlOf k0 k4=nl):
 Ending.returned (.tuple #[.agg #[.int .i64 k0,.int .i64 k1,.int .i64 k2,.int .i64 k3,.int .i64 V,.bool nl,.string s],.nilIface])=.returned (.tuple #[decM k0 k1 k2 k3 k4 k5 s,formE b (decB k0 k1 k2 k3 k4 k5 s.size)]):=by
 unfold decM formE;rw[h,if_pos rfl,if_pos rfl,hv,hn]
theorem clone_any(s:ByteArray)(w:World)(h:s.size≤281474976710656):
 Calls prog 82 #[.string s] w fun e w'=>e=.returned (.string s)∧Below w.heap.size w w':=by
 go_enter func82,ntmps82;go_wp2_with (go_at_call 129;refine(Tryz.stringslite_Clone s _ h).mono ?_;rintro e w1 ⟨rfl,hb⟩)
 go_ret;exact⟨rfl,hb⟩
theorem wireDecode_short(t:ByteArray)(b:Addr)(w:World)(h:t.size<6)(hb:w.cell? ⟨2,0,none⟩=some (.iface 294 (.pointer (some b)))):
 Calls prog 102 #[.string t] w fun e w'=>e=.returned (.tuple #[.agg #[.int .i64 0,.int .i64 0,.int .i64 0,.int .i64 0,.int .i64 0,.bool false,.string ⟨#[]⟩],.iface 294 (.pointer (some b))])∧Below w.heap.size w w':=by
 have h':(t.size:Int)<6:=by omega
 have hc:=cell?_alloc_old (.cells #[.int .i64 0,.int .i64 0,.int .i64 0,.int .i64 0,.int .i64 0,.bool false,.string ⟨#[]⟩] 57) hb;go_enter func102,ntmps102;go_wp2
 go_region
 go_wp2;exact bodyPost_ret (v:=.tuple #[.agg #[.int .i64 0,.int .i64 0,.int .i64 0,.int .i64 0,.int .i64 0,.bool false,.string ⟨#[]⟩],.iface 294 (.pointer (some b))]) (by simp[results,results102,go_sem]) rfl ⟨rfl,((Below.refl _ _).alloc (Nat.le_refl _) _).drew⟩
theorem wireDecode_size(t:ByteArray)(k0 k1 k2 k3 k4 k5:Int)(s:ByteArray)(b:Addr)(w:World)(hp:Parts t k0 k1 k2 k3 k4 k5 s)(h5:(s.size:Int)≠k5)(hb:w.cell? ⟨2,0,none⟩=some (.iface 294 (.pointer (some b)))):
 Calls prog 102 #[.string t] w fun e w'=>e=.returned (.tuple #[.agg #[.int .i64 0,.int .i64 0,.int .i64 0,.int .i64 0,.int .i64 0,.bool false,.string ⟨#[]⟩],.iface 294 (.pointer (some b))])∧Below w.heap.size w w':=by
 have a5:=hp.at5;have b5:=hp.b5;have h6:¬(t.size:Int)<6:=by have:=hp.size;omega
 have ht:((t.size:Int) != 6+k5)=true:=by have:=hp.size;simp;omega
 have hc:=cell?_alloc_old (.cells #[.int .i64 0,.int .i64 0,.int .i64 0,.int .i64 0,.int .i64 0,.bool false,.string ⟨#[]⟩] 57) hb;clear hp h5;go_enter func102,ntmps102;go_wp2
 go_region
 go_wp2;exact bodyPost_ret (v:=.tuple #[.agg #[.int .i64 0,.int .i64 0,.int .i64 0,.int .i64 0,.int .i64 0,.bool false,.string ⟨#[]⟩],.iface 294 (.pointer (some b))]) (by simp[results,results102,go_sem]) rfl ⟨rfl,((Below.refl _ _).alloc (Nat.le_refl _) _).drew⟩
theorem wireDecode_a(t:ByteArray)(k1 k2 k3 k4 k5:Int)(s:ByteArray)(b:Addr)(w:World)(hp:Parts t 1 k1 k2 k3 k4 k5 s)(h5:(s.size:Int)=k5)(hb:w.cell? ⟨2,0,none⟩=some (.iface 294 (.pointer (some b)))):
 Calls prog 102 #[.string t] w fun e w'=>e=.returned (.tuple #[decM 1 k1 k2 k3 k4 k5 s,formE b (decB 1 k1 k2 k3 k4 k5 s.size)])∧Below w.heap.size w w':=by
 have a0:=hp.at0;have a1:=hp.at1;have a2:=hp.at2;have a3:=hp.at3;have a4:=hp.at4;have a5:=hp.at5;have ar:=hp.rest;have b0:=hp.b0;have b1:=hp.b1;have b2:=hp.b2;have b3:=hp.b3;have b4:=hp.b4;have b5:=hp.b5;have EV:Hid (vOf 1 k4=k4-1):=by unfold Hid vOf;rw[if_pos rfl]
 have EN:Hid (nlOf 1 k4=false):=by unfold Hid nlOf;rw[if_pos rfl]
 have h6:¬(t.size:Int)<6:=by have:=hp.size;omega
 have ht:((t.size:Int) != 6+k5)=false:=by have:=hp.size;simp;omega
 have HSM:Hid (s.size≤maxLen):=by unfold Hid maxLen;omega
 have HS:Hid (s.size≤281474976710656):=by unfold Hid;omega
 obtain⟨HP,H5,HBB⟩:=hide3 hp h5 hb;clear hp h5 hb;go_enter func102,ntmps102
 go_upto_region 3 with fail
 go_cut [4] (fun p4 wc=>∃g,p4=.pointer (some ⟨g,0,none⟩)∧MsgAt wc g 1 k1 k2 k3 0 false s∧MsgAt wc w.heap.size 0 0 0 0 0 false ⟨#[]⟩∧w.heap.size<g∧Below w.heap.size w wc)
 case first=>
  refine rgd (S:=fun _=>True) trivial (fun _=>?_);refine tkW (i:=0) (v:=.string t) rfl (Or.inl ⟨by rfl,?_⟩) trivial ?_
  .intro w hSw;go_simp
  simp only[Act.put,List.setIfInBounds_toArray];refine tkW (i:=1) (v:=.int .u8 1) rfl (Or.inl ⟨by rfl,?_⟩) trivial ?_
  .intro w hSw;go_simp
  simp only[Act.put];refine tkW (i:=2) (v:=.int .i64 1) rfl (Or.inl ⟨by rfl,?_⟩) trivial ?_
  .intro w hSw;go_simp;rw[IntKind.wrap_i64];omega
  simp only[Act.put];refine tkW (i:=3) (v:=.string t) rfl (Or.inl ⟨by rfl,?_⟩) trivial ?_
  .intro w hSw;go_simp
  simp only[Act.put];refine tkW (i:=4) (v:=.int .u8 k1) rfl (Or.inl ⟨by rfl,?_⟩) trivial ?_
  .intro w hSw;go_simp
  simp only[Act.put];refine tkW (i:=5) (v:=.int .i64 k1) rfl (Or.inl ⟨by rfl,?_⟩) trivial ?_
  .intro w hSw;go_simp;rw[IntKind.wrap_i64];omega
  simp only[Act.put];refine tkW (i:=6) (v:=.string t) rfl (Or.inl ⟨by rfl,?_⟩) trivial ?_
  .intro w hSw;go_simp
  simp only[Act.put];refine tkW (i:=7) (v:=.int .u8 k2) rfl (Or.inl ⟨by rfl,?_⟩) trivial ?_
  .intro w hSw;go_simp
  simp only[Act.put];refine tkW (i:=8) (v:=.int .i64 k2) rfl (Or.inl ⟨by rfl,?_⟩) trivial ?_
  .intro w hSw;go_simp;rw[IntKind.wrap_i64];omega
  simp only[Act.put];refine tkW (i:=9) (v:=.string t) rfl (Or.inl ⟨by rfl,?_⟩) trivial ?_
  .intro w hSw;go_simp
  simp only[Act.put];refine tkW (i:=10) (v:=.int .u8 k3) rfl (Or.inl ⟨by rfl,?_⟩) trivial ?_
  .intro w hSw;go_simp
  simp only[Act.put];refine tkW (i:=11) (v:=.int .i64 k3) rfl (Or.inl ⟨by rfl,?_⟩) trivial ?_
  .intro w hSw;go_simp;rw[IntKind.wrap_i64];omega
  simp only[Act.put];refine tkW (i:=12) (v:=.string t) rfl (Or.inl ⟨by rfl,?_⟩) trivial ?_
  .intro w hSw;go_simp
  simp only[Act.put];refine tkW (i:=13) (v:=.string s) rfl (Or.inl ⟨by rfl,?_⟩) trivial ?_
  .intro w hSw;go_simp
  simp only[Act.put];refine rdy2 14 16 (fun K hK=>?_) (fun K hK=>?_)
  .go_simp;go_wp2_with ((go_at_call 82;refine(clone_any s _ HS.out).mono ?_;rintro e w1 ⟨rfl,hb1⟩))
   refine hK.out _ _ trivial (fun _=>?_);clear hK K;refine tkW (i:=15) (v:=.agg #[.int .i64 1,.int .i64 k1,.int .i64 k2,.int .i64 k3,.int .i64 0,.bool false,.string s]) rfl (Or.inl ⟨by rfl,?_⟩) trivial ?_
   .intro w hSw;go_simp
   simp only[Act.put,List.setIfInBounds_toArray];refine rdy1 16 (fun K hK=>?_);go_simp;refine hK.out _ _ trivial (fun _=>?_);clear hK K;refine rdy1 17 (fun K hK=>?_);go_simp;refine hK.out _ _ trivial (fun _=>?_);clear hK K;refine dnr ?_;go_wp2_with fail
   go_meet
   case rel=>
    have hb2:Below w.heap.size w w1:=(((Below.refl _ w).alloc (Nat.le_refl _) _).drew).trans (hb1.mono (by simp));have hlt:w.heap.size<w1.heap.size:=by have:=hb1.size;simp at this;omega
    exact⟨w1.heap.size,rfl,MsgAt.alloc w1 1 k1 k2 k3 0 false s,((MsgAt.alloc w 0 0 0 0 0 false ⟨#[]⟩).drew.later hb1 (by simp)).later (Below.alloc (Below.refl w1.heap.size w1) (Nat.le_refl _) _) hlt,hlt,hb2.alloc (Nat.le_of_lt hlt) _⟩
  go_simp;refine hK.out _ _ trivial (fun _=>?_);clear hK K;refine rdy1 14 (fun K hK=>?_);go_simp;go_wp2_with ((go_at_call 82;refine(clone_any s _ HS.out).mono ?_;rintro e w1 ⟨rfl,hb1⟩))
  obtain⟨hc1,hf1⟩:=bcell hb1;refine hK.out _ _ trivial (fun _=>?_);clear hK K;refine tkW (i:=15) (v:=.agg #[.int .i64 1,.int .i64 k1,.int .i64 k2,.int .i64 k3,.int .i64 0,.bool false,.string s]) rfl (Or.inl ⟨by rfl,?_⟩) trivial ?_
  .intro w hSw;go_simp
  simp only[Act.put,List.setIfInBounds_toArray];refine rdy1 17 (fun K hK=>?_);go_simp;refine hK.out _ _ trivial (fun _=>?_);clear hK K;refine dnr ?_;go_wp2_with fail
  go_meet
  case rel=>
   have hb2:Below w.heap.size w w1:=((((Below.refl _ w).alloc (Nat.le_refl _) _).drew).alloc (by simp) _).trans (hb1.mono (by simp;omega));have hm1:MsgAt w1 (w.heap.size+1) 0 0 0 0 0 false ⟨#[]⟩:=(MsgAt.alloc2 w _ 0 0 0 0 0 false ⟨#[]⟩).drew.later hb1 (by simp);have hz1:MsgAt w1 w.heap.size 0 0 0 0 0 false ⟨#[]⟩:=((MsgAt.alloc w 0 0 0 0 0 false ⟨#[]⟩).later (Below.alloc (Below.refl (w.heap.size+1) _) (by simp) _) (by omega)).drew.later hb1 (by simp;omega);exact⟨w.heap.size+1,rfl,hm1.setAll 1 k1 k2 k3 0 false s,hz1.setAllOther (by omega) _ _ _ _ _ _ _,by omega,below_setAll hb2 (by omega) _ _ _ _ _ _ _⟩
 obtain⟨g,rfl,hm,hz,hlt,hB⟩:=hcut;obtain⟨c0,c1,c2,c3,c4,c5,c6,g0,g1,g2,g3,g4,g5,g6⟩:=hm.cells;have HM7:Hid (MsgAt (wc.setCell ⟨g,4,none⟩ (.int .i64 (k4-1))) g 1 k1 k2 k3 (k4-1) false s):=hm.setV (k4-1);have HZ7:Hid (MsgAt (wc.setCell ⟨g,4,none⟩ (.int .i64 (k4-1))) w.heap.size 0 0 0 0 0 false ⟨#[]⟩):=hz.setOther _ _ (by simp;omega);have HB7:Hid (Below w.heap.size w (wc.setCell ⟨g,4,none⟩ (.int .i64 (k4-1)))):=hB.setCell (by simp;omega) _;clear hm hz hB
 go_upto_region 7 with fail
 generalize wc.setCell ⟨g,4,none⟩ (.int .i64 (k4-1))=W7 at HM7 HZ7 HB7 ⊢;clear c0 c1 c2 c3 c4 c5 c6 g0 g1 g2 g3 g4 g5 g6
 go_cut [56] (fun c wd=>c=.bool (!(decB 1 k1 k2 k3 k4 k5 s.size))∧MsgAt wd g 1 k1 k2 k3 (k4-1) false s∧MsgAt wd w.heap.size 0 0 0 0 0 false ⟨#[]⟩∧Below w.heap.size w wd)
 case first=>
  cases hX:hasB 1 k1 k2 k3 (k4-1) false s.size with
  |false=>
   have HX:=hide hX;have HD:Hid (decB 1 k1 k2 k3 k4 k5 s.size=false):=decB_no (by rw[EV.out,EN.out];exact hX);clear hX;refine rgd (S:=(fun w'=>MsgAt w' g 1 k1 k2 k3 (k4-1) false s∧MsgAt w' w.heap.size 0 0 0 0 0 false ⟨#[]⟩∧Below w.heap.size w w')) ⟨HM7.out.drew,HZ7.out.drew,HB7.out.drew⟩ (fun hH=>?_);refine tkW (i:=0) (v:=.agg #[.int .i64 1,.int .i64 k1,.int .i64 k2,.int .i64 k3,.int .i64 (k4-1),.bool false,.string s]) rfl (Or.inl ⟨by rfl,?_⟩) hH ?_
   .intro w hSw;obtain⟨hm,_,_⟩:=hSw;obtain⟨c0,c1,c2,c3,c4,c5,c6,_⟩:=hm.cells;go_simp
   simp only[Act.put,List.setIfInBounds_toArray];refine rdy1 1 (fun K hK=>?_);go_simp;go_wp2_with ((go_at_call 139;refine(hasFrame_any 1 k1 k2 k3 (k4-1) false s _ HSM.out).mono ?_;rw[HX.out];rintro e w1 ⟨rfl,hb1⟩))
   refine hK.out _ _ ⟨hH.1.later hb1 hH.1.lt,hH.2.1.later hb1 hH.2.1.lt,hH.2.2.trans (hb1.mono (Nat.le_of_lt hH.2.1.lt))⟩ (fun hH=>?_);clear hK K;refine tkW (i:=2) (v:=.bool true) rfl (Or.inl ⟨by rfl,?_⟩) hH ?_
   .intro w hSw;go_simp
   simp only[Act.put,List.setIfInBounds_toArray];refine tkW (i:=3) (v:=.bool true) rfl (Or.inl ⟨by rfl,?_⟩) hH ?_
   .intro w hSw;go_simp
   simp only[Act.put];refine tkW (i:=4) (v:=undef) rfl (Or.inr ⟨by rfl,rfl⟩) hH ?_;simp only[Act.put];refine tkW (i:=5) (v:=undef) rfl (Or.inr ⟨by rfl,rfl⟩) hH ?_;simp only[Act.put];refine tkW (i:=6) (v:=undef) rfl (Or.inr ⟨by rfl,rfl⟩) hH ?_;simp only[Act.put];refine tkW (i:=7) (v:=undef) rfl (Or.inr ⟨by rfl,rfl⟩) hH ?_;simp only[Act.put];refine tkW (i:=8) (v:=undef) rfl (Or.inr ⟨by rfl,rfl⟩) hH ?_;simp only[Act.put];refine rdy1 9 (fun K hK=>?_);go_simp;refine hK.out _ _ hH (fun hH=>?_);clear hK K;refine dnr ?_;go_wp2_with fail
   go_meet
   case rel=>exact⟨by rw[HD.out];rfl,hH.1,hH.2.1,hH.2.2⟩
  |true=>
   have HX:=hide hX;cases hM:(markOf 1 (k4-1) false != k4) with
   |true=>
    have HD:Hid (decB 1 k1 k2 k3 k4 k5 s.size=false):=by
     unfold Hid decB;rw[EV.out,EN.out];simp at hM;simp[hM]
    clear hX;refine rgd (S:=(fun w'=>MsgAt w' g 1 k1 k2 k3 (k4-1) false s∧MsgAt w' w.heap.size 0 0 0 0 0 false ⟨#[]⟩∧Below w.heap.size w w')) ⟨HM7.out.drew,HZ7.out.drew,HB7.out.drew⟩ (fun hH=>?_);refine tkW (i:=0) (v:=.agg #[.int .i64 1,.int .i64 k1,.int .i64 k2,.int .i64 k3,.int .i64 (k4-1),.bool false,.string s]) rfl (Or.inl ⟨by rfl,?_⟩) hH ?_
    .intro w hSw;obtain⟨hm,_,_⟩:=hSw;obtain⟨c0,c1,c2,c3,c4,c5,c6,_⟩:=hm.cells;go_simp
    simp only[Act.put,List.setIfInBounds_toArray];refine rdy1 1 (fun K hK=>?_);go_simp;go_wp2_with ((go_at_call 139;refine(hasFrame_any 1 k1 k2 k3 (k4-1) false s _ HSM.out).mono ?_;rw[HX.out];rintro e w1 ⟨rfl,hb1⟩))
    refine hK.out _ _ ⟨hH.1.later hb1 hH.1.lt,hH.2.1.later hb1 hH.2.1.lt,hH.2.2.trans (hb1.mono (Nat.le_of_lt hH.2.1.lt))⟩ (fun hH=>?_);clear hK K;refine tkW (i:=2) (v:=.bool false) rfl (Or.inl ⟨by rfl,?_⟩) hH ?_
    .intro w hSw;go_simp
    simp only[Act.put,List.setIfInBounds_toArray];refine tkW (i:=3) (v:=.bool false) rfl (Or.inl ⟨by rfl,?_⟩) hH ?_
    .intro w hSw;go_simp
    simp only[Act.put];refine tkW (i:=4) (v:=.agg #[.int .i64 1,.int .i64 k1,.int .i64 k2,.int .i64 k3,.int .i64 (k4-1),.bool false,.string s]) rfl (Or.inl ⟨by rfl,?_⟩) hH ?_
    .intro w hSw;obtain⟨hm,_,_⟩:=hSw;obtain⟨c0,c1,c2,c3,c4,c5,c6,_⟩:=hm.cells;go_simp
    simp only[Act.put];refine tkW (i:=6) (v:=.string t) rfl (Or.inl ⟨by rfl,?_⟩) hH ?_
    .intro w hSw;go_simp
    simp only[Act.put];refine tkW (i:=7) (v:=.int .u8 k4) rfl (Or.inl ⟨by rfl,?_⟩) hH ?_
    .intro w hSw;go_simp
    simp only[Act.put];refine rdy1 5 (fun K hK=>?_);go_simp;go_wp2_with ((go_at_call 140;refine(wireMark_any 1 k1 k2 k3 (k4-1) false s _ HX.out).mono ?_;rintro e w1 ⟨rfl,hb1⟩))
    refine hK.out _ _ ⟨hH.1.later hb1 hH.1.lt,hH.2.1.later hb1 hH.2.1.lt,hH.2.2.trans (hb1.mono (Nat.le_of_lt hH.2.1.lt))⟩ (fun hH=>?_);clear hK K;refine tkW (i:=8) (v:=.bool true) rfl (Or.inl ⟨by rfl,?_⟩) hH ?_
    .intro w hSw;go_simp
    simp only[Act.put,List.setIfInBounds_toArray];refine rdy1 9 (fun K hK=>?_);go_simp;refine hK.out _ _ hH (fun hH=>?_);clear hK K;refine dnr ?_;go_wp2_with fail
    go_meet
    case rel=>exact⟨by rw[HD.out];rfl,hH.1,hH.2.1,hH.2.2⟩
   |false=>
    have HD:Hid (decB 1 k1 k2 k3 k4 k5 s.size=true):=by
     unfold Hid decB;rw[EV.out,EN.out,hX];simp at hM;simp[hM,H5.out]
    clear hX;refine rgd (S:=(fun w'=>MsgAt w' g 1 k1 k2 k3 (k4-1) false s∧MsgAt w' w.heap.size 0 0 0 0 0 false ⟨#[]⟩∧Below w.heap.size w w')) ⟨HM7.out.drew,HZ7.out.drew,HB7.out.drew⟩ (fun hH=>?_);refine tkW (i:=0) (v:=.agg #[.int .i64 1,.int .i64 k1,.int .i64 k2,.int .i64 k3,.int .i64 (k4-1),.bool false,.string s]) rfl (Or.inl ⟨by rfl,?_⟩) hH ?_
    .intro w hSw;obtain⟨hm,_,_⟩:=hSw;obtain⟨c0,c1,c2,c3,c4,c5,c6,_⟩:=hm.cells;go_simp
    simp only[Act.put,List.setIfInBounds_toArray];refine rdy1 1 (fun K hK=>?_);go_simp;go_wp2_with ((go_at_call 139;refine(hasFrame_any 1 k1 k2 k3 (k4-1) false s _ HSM.out).mono ?_;rw[HX.out];rintro e w1 ⟨rfl,hb1⟩))
    refine hK.out _ _ ⟨hH.1.later hb1 hH.1.lt,hH.2.1.later hb1 hH.2.1.lt,hH.2.2.trans (hb1.mono (Nat.le_of_lt hH.2.1.lt))⟩ (fun hH=>?_);clear hK K;refine tkW (i:=2) (v:=.bool false) rfl (Or.inl ⟨by rfl,?_⟩) hH ?_
    .intro w hSw;go_simp
    simp only[Act.put,List.setIfInBounds_toArray];refine tkW (i:=3) (v:=.bool false) rfl (Or.inl ⟨by rfl,?_⟩) hH ?_
    .intro w hSw;go_simp
    simp only[Act.put];refine tkW (i:=4) (v:=.agg #[.int .i64 1,.int .i64 k1,.int .i64 k2,.int .i64 k3,.int .i64 (k4-1),.bool false,.string s]) rfl (Or.inl ⟨by rfl,?_⟩) hH ?_
    .intro w hSw;obtain⟨hm,_,_⟩:=hSw;obtain⟨c0,c1,c2,c3,c4,c5,c6,_⟩:=hm.cells;go_simp
    simp only[Act.put];refine tkW (i:=6) (v:=.string t) rfl (Or.inl ⟨by rfl,?_⟩) hH ?_
    .intro w hSw;go_simp
    simp only[Act.put];refine tkW (i:=7) (v:=.int .u8 k4) rfl (Or.inl ⟨by rfl,?_⟩) hH ?_
    .intro w hSw;go_simp
    simp only[Act.put];refine rdy1 5 (fun K hK=>?_);go_simp;go_wp2_with ((go_at_call 140;refine(wireMark_any 1 k1 k2 k3 (k4-1) false s _ HX.out).mono ?_;rintro e w1 ⟨rfl,hb1⟩))
    refine hK.out _ _ ⟨hH.1.later hb1 hH.1.lt,hH.2.1.later hb1 hH.2.1.lt,hH.2.2.trans (hb1.mono (Nat.le_of_lt hH.2.1.lt))⟩ (fun hH=>?_);clear hK K;refine tkW (i:=8) (v:=.bool false) rfl (Or.inl ⟨by rfl,?_⟩) hH ?_
    .intro w hSw;go_simp
    simp only[Act.put,List.setIfInBounds_toArray];refine rdy1 9 (fun K hK=>?_);go_simp;refine hK.out _ _ hH (fun hH=>?_);clear hK K;refine dnr ?_;go_wp2_with fail
    go_meet
    case rel=>exact⟨by rw[HD.out];rfl,hH.1,hH.2.1,hH.2.2⟩
 obtain⟨rfl,hH⟩:=hcut;cases hD:decB 1 k1 k2 k3 k4 k5 s.size with
 |false=>
  have HD:=hide hD;clear hD;obtain⟨hm,hz,hB⟩:=hH;obtain⟨c0,c1,c2,c3,c4,c5,c6,g0,g1,g2,g3,g4,g5,g6⟩:=hm.cells;obtain⟨z0,z1,z2,z3,z4,z5,z6,y0,y1,y2,y3,y4,y5,y6⟩:=hz.cells;have HBF:=hide hB;have hbb:=(hB.cell (p:=⟨2,0,none⟩) (World.block_lt_of_cell? _ _ HBB.out)).trans HBB.out;have hn1:¬w.heap.size=2:=by have:=World.block_lt_of_cell? _ _ HBB.out;simp at this;omega
  have hn2:¬2=w.heap.size:=fun e=>hn1 e.symm;clear hm hz hB;go_wp2
  go_region
  go_wp2;exact bodyPost_ret (v:=.tuple #[.agg #[.int .i64 0,.int .i64 0,.int .i64 0,.int .i64 0,.int .i64 0,.bool false,.string ⟨#[]⟩],.iface 294 (.pointer (some b))]) (by simp[results,results102,go_sem,z0,z1,z2,z3,z4,z5,z6]) rfl ⟨form_no HD.out,(below_setAll HBF.out (Nat.le_refl _) _ _ _ _ _ _ _).drew⟩
 |true=>
  have HD:=hide hD;clear hD;obtain⟨hm,hz,hB⟩:=hH;obtain⟨c0,c1,c2,c3,c4,c5,c6,g0,g1,g2,g3,g4,g5,g6⟩:=hm.cells;obtain⟨z0,z1,z2,z3,z4,z5,z6,y0,y1,y2,y3,y4,y5,y6⟩:=hz.cells;have HBF:=hide hB;clear hm hz hB;go_wp2;exact bodyPost_ret (v:=.tuple #[.agg #[.int .i64 1,.int .i64 k1,.int .i64 k2,.int .i64 k3,.int .i64 (k4-1),.bool false,.string s],.nilIface]) (by simp[results,results102,go_sem,z0,z1,z2,z3,z4,z5,z6]) rfl ⟨form_yes HD.out EV.out EN.out,below_setAll HBF.out (Nat.le_refl _) _ _ _ _ _ _ _⟩
theorem wireDecode_bc(t:ByteArray)(k0 k1 k2 k3 k4 k5:Int)(s:ByteArray)(b:Addr)(w:World)(hp:Parts t k0 k1 k2 k3 k4 k5 s)(h5:(s.size:Int)=k5)(hb:w.cell? ⟨2,0,none⟩=some (.iface 294 (.pointer (some b))))(hk:k0≠1):
 Calls prog 102 #[.string t] w fun e w'=>e=.returned (.tuple #[decM k0 k1 k2 k3 k4 k5 s,formE b (decB k0 k1 k2 k3 k4 k5 s.size)])∧Below w.heap.size w w':=by
 have a0:=hp.at0;have a1:=hp.at1;have a2:=hp.at2;have a3:=hp.at3;have a4:=hp.at4;have a5:=hp.at5;have ar:=hp.rest;have b0:=hp.b0;have b1:=hp.b1;have b2:=hp.b2;have b3:=hp.b3;have b4:=hp.b4;have b5:=hp.b5;have EV:Hid (vOf k0 k4=0):=by unfold Hid vOf;rw[if_neg hk]
 obtain⟨nl,hnl⟩:∃z,(k4==1)=z:=⟨_,rfl⟩;have EN:Hid (nlOf k0 k4=nl):=by unfold Hid nlOf;rw[if_neg hk,←hnl];rfl
 have hk':(k0==1)=false:=by simpa using hk
 have hk4':(k4==1)=nl:=hnl;clear hk hnl;have h6:¬(t.size:Int)<6:=by have:=hp.size;omega
 have ht:((t.size:Int) != 6+k5)=false:=by have:=hp.size;simp;omega
 have HSM:Hid (s.size≤maxLen):=by unfold Hid maxLen;omega
 have HS:Hid (s.size≤281474976710656):=by unfold Hid;omega
 obtain⟨HP,H5,HBB⟩:=hide3 hp h5 hb;clear hp h5 hb;go_enter func102,ntmps102
 go_upto_region 3 with fail
 go_cut [4] (fun p4 wc=>∃g,p4=.pointer (some ⟨g,0,none⟩)∧MsgAt wc g k0 k1 k2 k3 0 false s∧MsgAt wc w.heap.size 0 0 0 0 0 false ⟨#[]⟩∧w.heap.size<g∧Below w.heap.size w wc)
 case first=>
  refine rgd (S:=fun _=>True) trivial (fun _=>?_);refine tkW (i:=0) (v:=.string t) rfl (Or.inl ⟨by rfl,?_⟩) trivial ?_
  .intro w hSw;go_simp
  simp only[Act.put,List.setIfInBounds_toArray];refine tkW (i:=1) (v:=.int .u8 k0) rfl (Or.inl ⟨by rfl,?_⟩) trivial ?_
  .intro w hSw;go_simp
  simp only[Act.put];refine tkW (i:=2) (v:=.int .i64 k0) rfl (Or.inl ⟨by rfl,?_⟩) trivial ?_
  .intro w hSw;go_simp;rw[IntKind.wrap_i64];omega
  simp only[Act.put];refine tkW (i:=3) (v:=.string t) rfl (Or.inl ⟨by rfl,?_⟩) trivial ?_
  .intro w hSw;go_simp
  simp only[Act.put];refine tkW (i:=4) (v:=.int .u8 k1) rfl (Or.inl ⟨by rfl,?_⟩) trivial ?_
  .intro w hSw;go_simp
  simp only[Act.put];refine tkW (i:=5) (v:=.int .i64 k1) rfl (Or.inl ⟨by rfl,?_⟩) trivial ?_
  .intro w hSw;go_simp;rw[IntKind.wrap_i64];omega
  simp only[Act.put];refine tkW (i:=6) (v:=.string t) rfl (Or.inl ⟨by rfl,?_⟩) trivial ?_
  .intro w hSw;go_simp
  simp only[Act.put];refine tkW (i:=7) (v:=.int .u8 k2) rfl (Or.inl ⟨by rfl,?_⟩) trivial ?_
  .intro w hSw;go_simp
  simp only[Act.put];refine tkW (i:=8) (v:=.int .i64 k2) rfl (Or.inl ⟨by rfl,?_⟩) trivial ?_
  .intro w hSw;go_simp;rw[IntKind.wrap_i64];omega
  simp only[Act.put];refine tkW (i:=9) (v:=.string t) rfl (Or.inl ⟨by rfl,?_⟩) trivial ?_
  .intro w hSw;go_simp
  simp only[Act.put];refine tkW (i:=10) (v:=.int .u8 k3) rfl (Or.inl ⟨by rfl,?_⟩) trivial ?_
  .intro w hSw;go_simp
  simp only[Act.put];refine tkW (i:=11) (v:=.int .i64 k3) rfl (Or.inl ⟨by rfl,?_⟩) trivial ?_
  .intro w hSw;go_simp;rw[IntKind.wrap_i64];omega
  simp only[Act.put];refine tkW (i:=12) (v:=.string t) rfl (Or.inl ⟨by rfl,?_⟩) trivial ?_
  .intro w hSw;go_simp
  simp only[Act.put];refine tkW (i:=13) (v:=.string s) rfl (Or.inl ⟨by rfl,?_⟩) trivial ?_
  .intro w hSw;go_simp
  simp only[Act.put];refine rdy2 14 16 (fun K hK=>?_) (fun K hK=>?_)
  .go_simp;go_wp2_with ((go_at_call 82;refine(clone_any s _ HS.out).mono ?_;rintro e w1 ⟨rfl,hb1⟩))
   refine hK.out _ _ trivial (fun _=>?_);clear hK K;refine tkW (i:=15) (v:=.agg #[.int .i64 k0,.int .i64 k1,.int .i64 k2,.int .i64 k3,.int .i64 0,.bool false,.string s]) rfl (Or.inl ⟨by rfl,?_⟩) trivial ?_
   .intro w hSw;go_simp
   simp only[Act.put,List.setIfInBounds_toArray];refine rdy1 16 (fun K hK=>?_);go_simp;refine hK.out _ _ trivial (fun _=>?_);clear hK K;refine rdy1 17 (fun K hK=>?_);go_simp;refine hK.out _ _ trivial (fun _=>?_);clear hK K;refine dnr ?_;go_wp2_with fail
   go_meet
   case rel=>
    have hb2:Below w.heap.size w w1:=(((Below.refl _ w).alloc (Nat.le_refl _) _).drew).trans (hb1.mono (by simp));have hlt:w.heap.size<w1.heap.size:=by have:=hb1.size;simp at this;omega
    exact⟨w1.heap.size,rfl,MsgAt.alloc w1 k0 k1 k2 k3 0 false s,((MsgAt.alloc w 0 0 0 0 0 false ⟨#[]⟩).drew.later hb1 (by simp)).later (Below.alloc (Below.refl w1.heap.size w1) (Nat.le_refl _) _) hlt,hlt,hb2.alloc (Nat.le_of_lt hlt) _⟩
  go_simp;refine hK.out _ _ trivial (fun _=>?_);clear hK K;refine rdy1 14 (fun K hK=>?_);go_simp;go_wp2_with ((go_at_call 82;refine(clone_any s _ HS.out).mono ?_;rintro e w1 ⟨rfl,hb1⟩))
  obtain⟨hc1,hf1⟩:=bcell hb1;refine hK.out _ _ trivial (fun _=>?_);clear hK K;refine tkW (i:=15) (v:=.agg #[.int .i64 k0,.int .i64 k1,.int .i64 k2,.int .i64 k3,.int .i64 0,.bool false,.string s]) rfl (Or.inl ⟨by rfl,?_⟩) trivial ?_
  .intro w hSw;go_simp
  simp only[Act.put,List.setIfInBounds_toArray];refine rdy1 17 (fun K hK=>?_);go_simp;refine hK.out _ _ trivial (fun _=>?_);clear hK K;refine dnr ?_;go_wp2_with fail
  go_meet
  case rel=>
   have hb2:Below w.heap.size w w1:=((((Below.refl _ w).alloc (Nat.le_refl _) _).drew).alloc (by simp) _).trans (hb1.mono (by simp;omega));have hm1:MsgAt w1 (w.heap.size+1) 0 0 0 0 0 false ⟨#[]⟩:=(MsgAt.alloc2 w _ 0 0 0 0 0 false ⟨#[]⟩).drew.later hb1 (by simp);have hz1:MsgAt w1 w.heap.size 0 0 0 0 0 false ⟨#[]⟩:=((MsgAt.alloc w 0 0 0 0 0 false ⟨#[]⟩).later (Below.alloc (Below.refl (w.heap.size+1) _) (by simp) _) (by omega)).drew.later hb1 (by simp;omega);exact⟨w.heap.size+1,rfl,hm1.setAll k0 k1 k2 k3 0 false s,hz1.setAllOther (by omega) _ _ _ _ _ _ _,by omega,below_setAll hb2 (by omega) _ _ _ _ _ _ _⟩
 obtain⟨g,rfl,hm,hz,hlt,hB⟩:=hcut;obtain⟨c0,c1,c2,c3,c4,c5,c6,g0,g1,g2,g3,g4,g5,g6⟩:=hm.cells;have HM7:Hid (MsgAt (wc.setCell ⟨g,5,none⟩ (.bool nl)) g k0 k1 k2 k3 0 nl s):=hm.setNl nl;have HZ7:Hid (MsgAt (wc.setCell ⟨g,5,none⟩ (.bool nl)) w.heap.size 0 0 0 0 0 false ⟨#[]⟩):=hz.setOther _ _ (by simp;omega);have HB7:Hid (Below w.heap.size w (wc.setCell ⟨g,5,none⟩ (.bool nl))):=hB.setCell (by simp;omega) _;clear hm hz hB
 go_upto_region 7 with fail
 generalize wc.setCell ⟨g,5,none⟩ (.bool nl)=W7 at HM7 HZ7 HB7 ⊢;clear c0 c1 c2 c3 c4 c5 c6 g0 g1 g2 g3 g4 g5 g6
 go_cut [56] (fun c wd=>c=.bool (!(decB k0 k1 k2 k3 k4 k5 s.size))∧MsgAt wd g k0 k1 k2 k3 0 nl s∧MsgAt wd w.heap.size 0 0 0 0 0 false ⟨#[]⟩∧Below w.heap.size w wd)
 case first=>
  cases hX:hasB k0 k1 k2 k3 0 nl s.size with
  |false=>
   have HX:=hide hX;have HD:Hid (decB k0 k1 k2 k3 k4 k5 s.size=false):=decB_no (by rw[EV.out,EN.out];exact hX);clear hX;refine rgd (S:=(fun w'=>MsgAt w' g k0 k1 k2 k3 0 nl s∧MsgAt w' w.heap.size 0 0 0 0 0 false ⟨#[]⟩∧Below w.heap.size w w')) ⟨HM7.out.drew,HZ7.out.drew,HB7.out.drew⟩ (fun hH=>?_);refine tkW (i:=0) (v:=.agg #[.int .i64 k0,.int .i64 k1,.int .i64 k2,.int .i64 k3,.int .i64 0,.bool nl,.string s]) rfl (Or.inl ⟨by rfl,?_⟩) hH ?_
   .intro w hSw;obtain⟨hm,_,_⟩:=hSw;obtain⟨c0,c1,c2,c3,c4,c5,c6,_⟩:=hm.cells;go_simp
   simp only[Act.put,List.setIfInBounds_toArray];refine rdy1 1 (fun K hK=>?_);go_simp;go_wp2_with ((go_at_call 139;refine(hasFrame_any k0 k1 k2 k3 0 nl s _ HSM.out).mono ?_;rw[HX.out];rintro e w1 ⟨rfl,hb1⟩))
   refine hK.out _ _ ⟨hH.1.later hb1 hH.1.lt,hH.2.1.later hb1 hH.2.1.lt,hH.2.2.trans (hb1.mono (Nat.le_of_lt hH.2.1.lt))⟩ (fun hH=>?_);clear hK K;refine tkW (i:=2) (v:=.bool true) rfl (Or.inl ⟨by rfl,?_⟩) hH ?_
   .intro w hSw;go_simp
   simp only[Act.put,List.setIfInBounds_toArray];refine tkW (i:=3) (v:=.bool true) rfl (Or.inl ⟨by rfl,?_⟩) hH ?_
   .intro w hSw;go_simp
   simp only[Act.put];refine tkW (i:=4) (v:=undef) rfl (Or.inr ⟨by rfl,rfl⟩) hH ?_;simp only[Act.put];refine tkW (i:=5) (v:=undef) rfl (Or.inr ⟨by rfl,rfl⟩) hH ?_;simp only[Act.put];refine tkW (i:=6) (v:=undef) rfl (Or.inr ⟨by rfl,rfl⟩) hH ?_;simp only[Act.put];refine tkW (i:=7) (v:=undef) rfl (Or.inr ⟨by rfl,rfl⟩) hH ?_;simp only[Act.put];refine tkW (i:=8) (v:=undef) rfl (Or.inr ⟨by rfl,rfl⟩) hH ?_;simp only[Act.put];refine rdy1 9 (fun K hK=>?_);go_simp;refine hK.out _ _ hH (fun hH=>?_);clear hK K;refine dnr ?_;go_wp2_with fail
   go_meet
   case rel=>exact⟨by rw[HD.out];rfl,hH.1,hH.2.1,hH.2.2⟩
  |true=>
   have HX:=hide hX;cases hM:(markOf k0 0 nl != k4) with
   |true=>
    have HD:Hid (decB k0 k1 k2 k3 k4 k5 s.size=false):=by
     unfold Hid decB;rw[EV.out,EN.out];simp at hM;simp[hM]
    clear hX;refine rgd (S:=(fun w'=>MsgAt w' g k0 k1 k2 k3 0 nl s∧MsgAt w' w.heap.size 0 0 0 0 0 false ⟨#[]⟩∧Below w.heap.size w w')) ⟨HM7.out.drew,HZ7.out.drew,HB7.out.drew⟩ (fun hH=>?_);refine tkW (i:=0) (v:=.agg #[.int .i64 k0,.int .i64 k1,.int .i64 k2,.int .i64 k3,.int .i64 0,.bool nl,.string s]) rfl (Or.inl ⟨by rfl,?_⟩) hH ?_
    .intro w hSw;obtain⟨hm,_,_⟩:=hSw;obtain⟨c0,c1,c2,c3,c4,c5,c6,_⟩:=hm.cells;go_simp
    simp only[Act.put,List.setIfInBounds_toArray];refine rdy1 1 (fun K hK=>?_);go_simp;go_wp2_with ((go_at_call 139;refine(hasFrame_any k0 k1 k2 k3 0 nl s _ HSM.out).mono ?_;rw[HX.out];rintro e w1 ⟨rfl,hb1⟩))
    refine hK.out _ _ ⟨hH.1.later hb1 hH.1.lt,hH.2.1.later hb1 hH.2.1.lt,hH.2.2.trans (hb1.mono (Nat.le_of_lt hH.2.1.lt))⟩ (fun hH=>?_);clear hK K;refine tkW (i:=2) (v:=.bool false) rfl (Or.inl ⟨by rfl,?_⟩) hH ?_
    .intro w hSw;go_simp
    simp only[Act.put,List.setIfInBounds_toArray];refine tkW (i:=3) (v:=.bool false) rfl (Or.inl ⟨by rfl,?_⟩) hH ?_
    .intro w hSw;go_simp
    simp only[Act.put];refine tkW (i:=4) (v:=.agg #[.int .i64 k0,.int .i64 k1,.int .i64 k2,.int .i64 k3,.int .i64 0,.bool nl,.string s]) rfl (Or.inl ⟨by rfl,?_⟩) hH ?_
    .intro w hSw;obtain⟨hm,_,_⟩:=hSw;obtain⟨c0,c1,c2,c3,c4,c5,c6,_⟩:=hm.cells;go_simp
    simp only[Act.put];refine tkW (i:=6) (v:=.string t) rfl (Or.inl ⟨by rfl,?_⟩) hH ?_
    .intro w hSw;go_simp
    simp only[Act.put];refine tkW (i:=7) (v:=.int .u8 k4) rfl (Or.inl ⟨by rfl,?_⟩) hH ?_
    .intro w hSw;go_simp
    simp only[Act.put];refine rdy1 5 (fun K hK=>?_);go_simp;go_wp2_with ((go_at_call 140;refine(wireMark_any k0 k1 k2 k3 0 nl s _ HX.out).mono ?_;rintro e w1 ⟨rfl,hb1⟩))
    refine hK.out _ _ ⟨hH.1.later hb1 hH.1.lt,hH.2.1.later hb1 hH.2.1.lt,hH.2.2.trans (hb1.mono (Nat.le_of_lt hH.2.1.lt))⟩ (fun hH=>?_);clear hK K;refine tkW (i:=8) (v:=.bool true) rfl (Or.inl ⟨by rfl,?_⟩) hH ?_
    .intro w hSw;go_simp
    simp only[Act.put,List.setIfInBounds_toArray];refine rdy1 9 (fun K hK=>?_);go_simp;refine hK.out _ _ hH (fun hH=>?_);clear hK K;refine dnr ?_;go_wp2_with fail
    go_meet
    case rel=>exact⟨by rw[HD.out];rfl,hH.1,hH.2.1,hH.2.2⟩
   |false=>
    have HD:Hid (decB k0 k1 k2 k3 k4 k5 s.size=true):=by
     unfold Hid decB;rw[EV.out,EN.out,hX];simp at hM;simp[hM,H5.out]
    clear hX;refine rgd (S:=(fun w'=>MsgAt w' g k0 k1 k2 k3 0 nl s∧MsgAt w' w.heap.size 0 0 0 0 0 false ⟨#[]⟩∧Below w.heap.size w w')) ⟨HM7.out.drew,HZ7.out.drew,HB7.out.drew⟩ (fun hH=>?_);refine tkW (i:=0) (v:=.agg #[.int .i64 k0,.int .i64 k1,.int .i64 k2,.int .i64 k3,.int .i64 0,.bool nl,.string s]) rfl (Or.inl ⟨by rfl,?_⟩) hH ?_
    .intro w hSw;obtain⟨hm,_,_⟩:=hSw;obtain⟨c0,c1,c2,c3,c4,c5,c6,_⟩:=hm.cells;go_simp
    simp only[Act.put,List.setIfInBounds_toArray];refine rdy1 1 (fun K hK=>?_);go_simp;go_wp2_with ((go_at_call 139;refine(hasFrame_any k0 k1 k2 k3 0 nl s _ HSM.out).mono ?_;rw[HX.out];rintro e w1 ⟨rfl,hb1⟩))
    refine hK.out _ _ ⟨hH.1.later hb1 hH.1.lt,hH.2.1.later hb1 hH.2.1.lt,hH.2.2.trans (hb1.mono (Nat.le_of_lt hH.2.1.lt))⟩ (fun hH=>?_);clear hK K;refine tkW (i:=2) (v:=.bool false) rfl (Or.inl ⟨by rfl,?_⟩) hH ?_
    .intro w hSw;go_simp
    simp only[Act.put,List.setIfInBounds_toArray];refine tkW (i:=3) (v:=.bool false) rfl (Or.inl ⟨by rfl,?_⟩) hH ?_
    .intro w hSw;go_simp
    simp only[Act.put];refine tkW (i:=4) (v:=.agg #[.int .i64 k0,.int .i64 k1,.int .i64 k2,.int .i64 k3,.int .i64 0,.bool nl,.string s]) rfl (Or.inl ⟨by rfl,?_⟩) hH ?_
    .intro w hSw;obtain⟨hm,_,_⟩:=hSw;obtain⟨c0,c1,c2,c3,c4,c5,c6,_⟩:=hm.cells;go_simp
    simp only[Act.put];refine tkW (i:=6) (v:=.string t) rfl (Or.inl ⟨by rfl,?_⟩) hH ?_
    .intro w hSw;go_simp
    simp only[Act.put];refine tkW (i:=7) (v:=.int .u8 k4) rfl (Or.inl ⟨by rfl,?_⟩) hH ?_
    .intro w hSw;go_simp
    simp only[Act.put];refine rdy1 5 (fun K hK=>?_);go_simp;go_wp2_with ((go_at_call 140;refine(wireMark_any k0 k1 k2 k3 0 nl s _ HX.out).mono ?_;rintro e w1 ⟨rfl,hb1⟩))
    refine hK.out _ _ ⟨hH.1.later hb1 hH.1.lt,hH.2.1.later hb1 hH.2.1.lt,hH.2.2.trans (hb1.mono (Nat.le_of_lt hH.2.1.lt))⟩ (fun hH=>?_);clear hK K;refine tkW (i:=8) (v:=.bool false) rfl (Or.inl ⟨by rfl,?_⟩) hH ?_
    .intro w hSw;go_simp
    simp only[Act.put,List.setIfInBounds_toArray];refine rdy1 9 (fun K hK=>?_);go_simp;refine hK.out _ _ hH (fun hH=>?_);clear hK K;refine dnr ?_;go_wp2_with fail
    go_meet
    case rel=>exact⟨by rw[HD.out];rfl,hH.1,hH.2.1,hH.2.2⟩
 obtain⟨rfl,hH⟩:=hcut;cases hD:decB k0 k1 k2 k3 k4 k5 s.size with
 |false=>
  have HD:=hide hD;clear hD;obtain⟨hm,hz,hB⟩:=hH;obtain⟨c0,c1,c2,c3,c4,c5,c6,g0,g1,g2,g3,g4,g5,g6⟩:=hm.cells;obtain⟨z0,z1,z2,z3,z4,z5,z6,y0,y1,y2,y3,y4,y5,y6⟩:=hz.cells;have HBF:=hide hB;have hbb:=(hB.cell (p:=⟨2,0,none⟩) (World.block_lt_of_cell? _ _ HBB.out)).trans HBB.out;have hn1:¬w.heap.size=2:=by have:=World.block_lt_of_cell? _ _ HBB.out;simp at this;omega
  have hn2:¬2=w.heap.size:=fun e=>hn1 e.symm;clear hm hz hB;go_wp2
  go_region
  go_wp2;exact bodyPost_ret (v:=.tuple #[.agg #[.int .i64 0,.int .i64 0,.int .i64 0,.int .i64 0,.int .i64 0,.bool false,.string ⟨#[]⟩],.iface 294 (.pointer (some b))]) (by simp[results,results102,go_sem,z0,z1,z2,z3,z4,z5,z6]) rfl ⟨form_no HD.out,(below_setAll HBF.out (Nat.le_refl _) _ _ _ _ _ _ _).drew⟩
 |true=>
  have HD:=hide hD;clear hD;obtain⟨hm,hz,hB⟩:=hH;obtain⟨c0,c1,c2,c3,c4,c5,c6,g0,g1,g2,g3,g4,g5,g6⟩:=hm.cells;obtain⟨z0,z1,z2,z3,z4,z5,z6,y0,y1,y2,y3,y4,y5,y6⟩:=hz.cells;have HBF:=hide hB;clear hm hz hB;go_wp2;exact bodyPost_ret (v:=.tuple #[.agg #[.int .i64 k0,.int .i64 k1,.int .i64 k2,.int .i64 k3,.int .i64 0,.bool nl,.string s],.nilIface]) (by simp[results,results102,go_sem,z0,z1,z2,z3,z4,z5,z6]) rfl ⟨form_yes HD.out EV.out EN.out,below_setAll HBF.out (Nat.le_refl _) _ _ _ _ _ _ _⟩
theorem wireDecode_any(t:ByteArray)(k0 k1 k2 k3 k4 k5:Int)(s:ByteArray)(b:Addr)(w:World)(hp:Parts t k0 k1 k2 k3 k4 k5 s)(hb:w.cell? ⟨2,0,none⟩=some (.iface 294 (.pointer (some b)))):
 Calls prog 102 #[.string t] w fun e w'=>e=.returned (.tuple #[decM k0 k1 k2 k3 k4 k5 s,formE b (decB k0 k1 k2 k3 k4 k5 s.size)])∧Below w.heap.size w w':=by
 by_cases h5:(s.size:Int)=k5
 .by_cases hk:k0=1
  .subst hk;exact wireDecode_a t k1 k2 k3 k4 k5 s b w hp h5 hb
  exact wireDecode_bc t k0 k1 k2 k3 k4 k5 s b w hp h5 hb hk
 have hd:decB k0 k1 k2 k3 k4 k5 s.size=false:=by
  unfold decB;rw[decide_eq_false h5];simp
 refine(wireDecode_size t k0 k1 k2 k3 k4 k5 s b w hp h5 hb).mono ?_;rintro e w' ⟨rfl,hB⟩;exact⟨form_no hd,hB⟩
theorem Tryz.sizeMsg:(prog.info? 57).map (·.size)=some 7:=by kernel_rfl
def ErrAt(w:World)(g:Nat)(b:Addr):Prop:=w.cell? ⟨g,0,none⟩=some (.iface 294 (.pointer (some b)))
theorem ErrAt.below(h:ErrAt w g b)(hb:Below w.heap.size w w'):ErrAt w' g b:=by
 unfold ErrAt at h ⊢;rw[hb.cell (p:=⟨g,0,none⟩) (by exact World.block_lt_of_cell? _ _ h)];exact h
theorem wireDecode_at(t:ByteArray)(b:Addr)(w:World)(hb:ErrAt w 2 b):
 Calls prog 102 #[.string t] w fun e w'=>e=.returned (.tuple #[.agg (decV t).cells,formE b (decOk t)])∧Below w.heap.size w w':=by
 by_cases h6:6≤t.size
 .have h:=wireDecode_any t _ _ _ _ _ _ _ b w (parts_byt t h6) hb;have e1:decOk t=decB (byt t 0) (byt t 1) (byt t 2) (byt t 3) (byt t 4) (byt t 5) (t.extract 6 t.size).size:=by unfold decOk;rw[decide_eq_true h6];rfl
  unfold decM at h;unfold decV;rw[e1];cases hd:decB (byt t 0) (byt t 1) (byt t 2) (byt t 3) (byt t 4) (byt t 5) (t.extract 6 t.size).size with
  |true=>
   rw[hd] at h;exact h
  |false=>
   rw[hd] at h;exact h
 have e1:decOk t=false:=by unfold decOk;rw[decide_eq_false h6];rfl
 unfold decV;rw[e1];exact wireDecode_short t b w (by omega) hb
theorem decV_no{t:ByteArray}(h:decOk t=false):decV t=msg0:=by unfold decV;rw[h];rfl
theorem wireDecode_no(t:ByteArray)(b:Addr)(w:World)(hb:ErrAt w 2 b)(h:decOk t=false):
 Calls prog 102 #[.string t] w fun e w'=>e=.returned (.tuple #[.agg #[.int .i64 0,.int .i64 0,.int .i64 0,.int .i64 0,.int .i64 0,.bool false,.string ⟨#[]⟩],.iface 294 (.pointer (some b))])∧Below w.heap.size w w':=by
 have h1:=wireDecode_at t b w hb;rw[decV_no h,h] at h1;exact h1
theorem wireDecode_yes(t:ByteArray)(b:Addr)(K H R F V:Int)(nl:Bool)(s:ByteArray)(w:World)(hb:ErrAt w 2 b)(h:decOk t=true)(hv:decV t=⟨K,H,R,F,V,nl,s⟩):
 Calls prog 102 #[.string t] w fun e w'=>e=.returned (.tuple #[.agg #[.int .i64 K,.int .i64 H,.int .i64 R,.int .i64 F,.int .i64 V,.bool nl,.string s],.nilIface])∧Below w.heap.size w w':=by
 have h1:=wireDecode_at t b w hb;rw[hv,h] at h1;exact h1
def RefAt(w:World)(g:Nat)(f:Int)(b:Addr):Prop:=w.heap[g]? =some (.cells #[.int .i64 f,.iface 294 (.pointer (some b))] 160 (0,0))
def refV(g:Nat):Value:=.iface 158 (.pointer (some ⟨g,0,none⟩))
def OpenP(sg:Nat→List ByteArray)(n:Nat)(t:ByteArray)(bF bS:Addr)(w:World)(e:Ending)(w':World):Prop:=
 Below w.heap.size w w'∧
  ((decOk t=true∧signedB sg n (decV t).f t=true∧e=.returned (.tuple #[.agg (decV t).cells,.nilIface]))∨
   (decOk t=false∧∃g,w.heap.size≤g∧RefAt w' g (-1) bF∧e=.returned (.tuple #[.agg msg0.cells,refV g]))∨
   (decOk t=true∧signedB sg n (decV t).f t=false∧∃g,w.heap.size≤g∧RefAt w' g (decV t).f bS∧e=.returned (.tuple #[.agg msg0.cells,refV g])))
theorem open_form(rb n:Nat)(sg:Nat→List ByteArray)(t:ByteArray)(bF bS:Addr)(w:World)(hF:ErrAt w 2 bF)(hd:decOk t=false):
 Calls prog 77 #[.pointer (some ⟨rb,0,none⟩),.string t] w (OpenP sg n t bF bS w):=by
 obtain⟨HD,HF⟩:=hide2 hd hF;clear hd hF;go_enter func77,ntmps77;go_wp2_with fail
 refine(wireDecode_no t bF _ (HF.out.below ((Below.refl _ w).alloc (Nat.le_refl _) _)) HD.out).mono ?_;rintro e w1 ⟨rfl,hB⟩;have hz:w.heap.size<w1.heap.size:=by have:=hB.size;simp at this;omega
 have H0:=hide ((hB.block w.heap.size (by simp)).trans (heap_alloc_new w (.cells #[.int .i64 0,.int .i64 0,.int .i64 0,.int .i64 0,.int .i64 0,.bool false,.string ⟨#[]⟩] 57)));have HB1:Hid (Below w.heap.size w w1):=((Below.refl _ w).alloc (Nat.le_refl _) _).trans (hB.mono (by simp));clear hB;go_wp2_with (first|(refine wpList_store_new rfl 57 _ _ rfl w1 #[.int .i64 0,.int .i64 0,.int .i64 0,.int .i64 0,.int .i64 0,.bool false,.string ⟨#[]⟩] rfl rfl 57 _ rfl (by simp[Value.oneCell']) Tryz.sizeMsg ?_;intro w2 hq2 hb2 hz2;have H2:=hide ((hb2.block _ hz).trans H0.out);have HZ:=hide hz2;clear hz2 hq2)|(refine wpList_store_rowG rfl 57 _ _ rfl w.heap.size #[.int .i64 0,.int .i64 0,.int .i64 0,.int .i64 0,.int .i64 0,.bool false,.string ⟨#[]⟩] rfl rfl 57 _ ((Below.heap_alloc w2 _ _ (by have:=HZ.out;omega)).trans H2.out) rfl (by simp[Value.oneCell']) Tryz.sizeMsg ?_;intro w3 hq3 ho3))
 have hz2:=HZ.out;have HB2:Hid (Below w.heap.size w w2):=HB1.out.trans (hb2.mono (by omega));refine bodyPost_ret (v:=.tuple #[.agg #[.int .i64 0,.int .i64 0,.int .i64 0,.int .i64 0,.int .i64 0,.bool false,.string ⟨#[]⟩],.iface 158 (.pointer (some ⟨w2.heap.size,0,none⟩))]) (results_rowG2 results77 _ _ w.heap.size 57 _ _ _ rfl rfl hq3 underlying57 rfl Tryz.sizeMsg) rfl ⟨(HB2.out.alloc (by omega) _).trans (ho3.below (by omega)),Or.inr (Or.inl ⟨HD.out,w2.heap.size,by omega,?_,rfl⟩)⟩;exact(ho3.block _ (by omega)).trans (heap_alloc_new w2 _)
theorem open_some(F:Nat→Prop)(rb n:Nat)(sg:Nat→List ByteArray)(t:ByteArray)(bF bS:Addr)(w:World)(hr:RingI F rb n sg w)(hlt:∀k,F k→k<w.heap.size)(hF:ErrAt w 2 bF)(hS:ErrAt w 3 bS)(hd:decOk t=true):
 Calls prog 77 #[.pointer (some ⟨rb,0,none⟩),.string t] w (OpenP sg n t bF bS w):=by
 obtain⟨m,hm⟩:=gen (decV t);obtain⟨K,H,R,Fm,V,nl,s⟩:=m;obtain⟨HM,HD,HF,HS,HR,HLT⟩:=hide6 hm hd hF hS hr hlt;clear hd hF hS hm hr hlt;go_enter func77,ntmps77;go_wp2_with fail
 refine(wireDecode_yes t bF K H R Fm V nl s _ (HF.out.below ((Below.refl _ w).alloc (Nat.le_refl _) _)) HD.out HM.out.symm).mono ?_;rintro e w1 ⟨rfl,hB⟩;have hz:w.heap.size<w1.heap.size:=by have:=hB.size;simp at this;omega
 have H0:=hide ((hB.block w.heap.size (by simp)).trans (heap_alloc_new w (.cells #[.int .i64 0,.int .i64 0,.int .i64 0,.int .i64 0,.int .i64 0,.bool false,.string ⟨#[]⟩] 57)));have HB1:Hid (Below w.heap.size w w1):=((Below.refl _ w).alloc (Nat.le_refl _) _).trans (hB.mono (by simp));clear hB;go_wp2_with (refine wpList_store_rowG rfl 57 _ _ rfl w1.heap.size #[.int .i64 K,.int .i64 H,.int .i64 R,.int .i64 Fm,.int .i64 V,.bool nl,.string s] rfl rfl 57 _ (heap_alloc_new w1 _) rfl (by simp[Value.oneCell']) Tryz.sizeMsg ?_;intro w2 hq2 ho2;have hc3:w2.cell? ⟨w1.heap.size,3,none⟩=some (.int .i64 Fm):=cell_of_row w2 _ 3 _ _ _ hq2)
 have hz2:w2.heap.size=w1.heap.size+1:=by rw[ho2.size];simp
 have H2:Hid (w2.heap[w.heap.size]? =some (.cells #[.int .i64 0,.int .i64 0,.int .i64 0,.int .i64 0,.int .i64 0,.bool false,.string ⟨#[]⟩] 57 (0,0))):=(ho2.block _ (by omega)).trans ((Below.heap_alloc w1 _ _ hz).trans H0.out);have HB2:Hid (Below w.heap.size w w2):=(HB1.out.alloc (by omega) _).trans (ho2.below (by omega));obtain⟨HZ,HQ2,HR2⟩:=hide3 hz2 hq2 (HR.out.frame (fun k hk=>HB2.out.block k (HLT.out k hk)));have hs2:w2.cell? ⟨3,0,none⟩=some (.iface 294 (.pointer (some bS))):=HS.out.below HB2.out;clear hq2 ho2 hz2;have HSB:=hide (signed_any F rb n sg Fm t w2 HR2.out);cases hsb:signedB sg n Fm t with
 |true=>
  rw[hsb] at HSB;have HSX:Hid (signedB sg n (decV t).f t=true):=by unfold Hid;rw[←HM.out];exact hsb
  clear hsb;refine HSB.out.mono ?_;rintro e wy ⟨rfl,hwy⟩;have hwv:=hwy.symm;clear hwy;subst hwv;go_wp2_with (first|(refine wpList_load_row rfl 57 _ rfl w1.heap.size rfl 57 #[.int .i64 K,.int .i64 H,.int .i64 R,.int .i64 Fm,.int .i64 V,.bool nl,.string s] (0,0) _ HQ2.out underlying57 rfl Tryz.sizeMsg ?_)|(refine wpList_store_rowG rfl 57 _ _ rfl w.heap.size #[.int .i64 K,.int .i64 H,.int .i64 R,.int .i64 Fm,.int .i64 V,.bool nl,.string s] rfl rfl 57 _ H2.out rfl (by simp[Value.oneCell']) Tryz.sizeMsg ?_;intro w3 hq3 ho3))
  have hz2:=HZ.out;refine bodyPost_ret (v:=.tuple #[.agg #[.int .i64 K,.int .i64 H,.int .i64 R,.int .i64 Fm,.int .i64 V,.bool nl,.string s],.nilIface]) (results_rowG2 results77 _ _ w.heap.size 57 _ _ _ rfl rfl hq3 underlying57 rfl Tryz.sizeMsg) rfl ⟨HB2.out.trans (ho3.below (by omega)),Or.inl ⟨HD.out,HSX.out,?_⟩⟩;rw[←HM.out];rfl
 |false=>
  rw[hsb] at HSB;have HSX:Hid (signedB sg n (decV t).f t=false):=by unfold Hid;rw[←HM.out];exact hsb
  clear hsb;refine HSB.out.mono ?_;rintro e wy ⟨rfl,hwy⟩;have hwv:=hwy.symm;clear hwy;subst hwv;go_wp2_with fail
  obtain⟨z0,z1,z2,z3,z4,z5,z6,y0,y1,y2,y3,y4,y5,y6⟩:=MsgAt.cells (w:=w2) (g:=w.heap.size) H2.out;have hz3:w.heap.size<w2.heap.size:=by have:=HZ.out;omega
  have hgl:3<w.heap.size:=World.block_lt_of_cell? _ _ HS.out;have hne1:¬3=w.heap.size:=by omega
  have hne2:¬w.heap.size=3:=by omega
  have hne3:¬w1.heap.size=w.heap.size:=by omega
  have hne4:¬w.heap.size=w1.heap.size:=by omega
  have hz4:w1.heap.size<w2.heap.size:=by have:=HZ.out;omega
  go_region
  go_wp2;refine bodyPost_ret (v:=.tuple #[.agg #[.int .i64 0,.int .i64 0,.int .i64 0,.int .i64 0,.int .i64 0,.bool false,.string ⟨#[]⟩],.iface 158 (.pointer (some ⟨w2.heap.size,0,none⟩))]) (by simp[results,results77,go_sem,z0,z1,z2,z3,z4,z5,z6,hz3]) rfl ⟨?_,Or.inr (Or.inr ⟨HD.out,HSX.out,w2.heap.size,by omega,?_,rfl⟩)⟩
  .refine Below.drew (Below.alloc (below_setAll HB2.out (Nat.le_refl _) _ _ _ _ _ _ _) ?_ _);simp;omega
  rw[←HM.out];have h:=heap_alloc_new (((((((w2.setCell ⟨w.heap.size,0,none⟩ (.int .i64 0)).setCell ⟨w.heap.size,1,none⟩ (.int .i64 0)).setCell ⟨w.heap.size,2,none⟩ (.int .i64 0)).setCell ⟨w.heap.size,3,none⟩ (.int .i64 0)).setCell ⟨w.heap.size,4,none⟩ (.int .i64 0)).setCell ⟨w.heap.size,5,none⟩ (.bool false)).setCell ⟨w.heap.size,6,none⟩ (.string ⟨#[]⟩)) (.cells #[.int .i64 Fm,.iface 294 (.pointer (some bS))] 160);have e:(((((((w2.setCell ⟨w.heap.size,0,none⟩ (.int .i64 0)).setCell ⟨w.heap.size,1,none⟩ (.int .i64 0)).setCell ⟨w.heap.size,2,none⟩ (.int .i64 0)).setCell ⟨w.heap.size,3,none⟩ (.int .i64 0)).setCell ⟨w.heap.size,4,none⟩ (.int .i64 0)).setCell ⟨w.heap.size,5,none⟩ (.bool false)).setCell ⟨w.heap.size,6,none⟩ (.string ⟨#[]⟩)).heap.size=w2.heap.size:=by simp
  rw[e] at h;exact h
theorem open_any(F:Nat→Prop)(rb n:Nat)(sg:Nat→List ByteArray)(t:ByteArray)(bF bS:Addr)(w:World)(hr:RingI F rb n sg w)(hlt:∀k,F k→k<w.heap.size)(hF:ErrAt w 2 bF)(hS:ErrAt w 3 bS):
 Calls prog 77 #[.pointer (some ⟨rb,0,none⟩),.string t] w (OpenP sg n t bF bS w):=by
 cases hd:decOk t with
 |true=>exact open_some F rb n sg t bF bS w hr hlt hF hS hd
 |false=>exact open_form rb n sg t bF bS w hF hd
end Go.Proofs.YtcfjhbcpjpgodaaGreatDoor

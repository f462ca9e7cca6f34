/- Proved here: the registry behind blocks, plain. -/
import Derived.Test.YtcfjhbcpjpgodaaGreatDoorJ5
import Derived.Test.YtcfjhbcpjpgodaaGreatDoorJ36
import Derived.Test.YtcfjhbcpjpgodaaGreatDoorTakeL
namespace Go.Proofs.YtcfjhbcpjpgodaaGreatDoor
open Go.RowKit Go.Proofs.Tryz
set_option maxRecDepth 100000
set_option maxHeartbeats 3200000
variable{y:Nat→Int}{a1 a12:Addr}{w w':World}
def foldB:(Nat→Int)→List ByteArray→Option (Nat→Int)
 |x,[]=>some x
 |x,t::l=>if(behindR x t).2 then foldB (behindR x t).1 l else none
def foldR(g:Nat→Int)(n:Nat)(l:List ByteArray):(Nat→Int)×Int:=
 if(genR g n).2 then(match foldB (genR g n).1 l with|some y=>(y,0)|none=>(reg0,12)) else(reg0,1)
theorem foldR_arg(g:Nat→Int)(n:Nat)(l:List ByteArray)(h:(genR g n).2=false):foldR g n l=(reg0,1):=by unfold foldR;rw[h];rfl
theorem foldR_bad(g:Nat→Int)(n:Nat)(l:List ByteArray)(h:(genR g n).2=true)(h2:foldB (genR g n).1 l=none):foldR g n l=(reg0,12):=by unfold foldR;rw[h,h2];rfl
theorem foldR_good(g:Nat→Int)(n:Nat)(l:List ByteArray)(y:Nat→Int)(h:(genR g n).2=true)(h2:foldB (genR g n).1 l=some y):foldR g n l=(y,0):=by unfold foldR;rw[h,h2];rfl
theorem foldB_step(y:Nat→Int)(l:List ByteArray)(k:Nat)(hk:k<l.length)(z:Nat→Int)(o:Bool)(h:behindR y (l.getD k ByteArray.empty)=(z,o)):foldB y (l.drop k)=if o then foldB z (l.drop (k+1)) else none:=by
 have e:l.drop k=l.getD k ByteArray.empty::l.drop (k+1):=by
  rw[List.drop_eq_getElem_cons hk,List.getD_eq_getElem?_getD,List.getElem?_eq_getElem hk];rfl
 rw[e,foldB,h]
theorem genP_yes(g:Nat→Int)(p:Option Addr)(n cap:Nat)(b:Addr)(z:Nat→Int)(w:World)(hl:Lies w w.heap.size p n (fun i=>.int .i64 (g i)))(hg:w.cell? ⟨1,0,none⟩=some (.iface 294 (.pointer (some b))))(h:genR g n=(z,true)):
 Calls prog 52 #[.slice p n cap] w fun e w'=>e=.returned (.tuple #[.agg (regA z),.nilIface])∧Below w.heap.size w w':=by
 have:=genP_any g p n cap b w hl hg;rw[h] at this;exact this
theorem genP_no(g:Nat→Int)(p:Option Addr)(n cap:Nat)(b:Addr)(z:Nat→Int)(w:World)(hl:Lies w w.heap.size p n (fun i=>.int .i64 (g i)))(hg:w.cell? ⟨1,0,none⟩=some (.iface 294 (.pointer (some b))))(h:genR g n=(z,false)):
 Calls prog 52 #[.slice p n cap] w fun e w'=>e=.returned (.tuple #[.agg (regA reg0),.iface 294 (.pointer (some b))])∧Below w.heap.size w w':=by
 have:=genP_any g p n cap b w hl hg;rw[h] at this;exact this
theorem behindP_yes(x:Nat→Int)(s:ByteArray)(b:Addr)(m:Int)(z:Nat→Int)(w:World)(hx:Dom x)(hs:s.size<4294967281)(hg:w.cell? ⟨11,0,none⟩=some (.iface 294 (.pointer (some b))))(hm:w.cell? ⟨13,0,none⟩=some (.int .i64 m))(h:behindR x s=(z,true)):
 Calls prog 94 #[.agg (regA x),.string s] w fun e w'=>e=.returned (.tuple #[.agg (regA z),.nilIface])∧Below w.heap.size w w':=by
 have:=behindP_any x s b m w hx hs hg hm;rw[h] at this;exact this
theorem behindP_no(x:Nat→Int)(s:ByteArray)(b:Addr)(m:Int)(z:Nat→Int)(w:World)(hx:Dom x)(hs:s.size<4294967281)(hg:w.cell? ⟨11,0,none⟩=some (.iface 294 (.pointer (some b))))(hm:w.cell? ⟨13,0,none⟩=some (.int .i64 m))(h:behindR x s=(z,false)):
 Calls prog 94 #[.agg (regA x),.string s] w fun e w'=>e=.returned (.tuple #[.agg (regA reg0),.iface 294 (.pointer (some b))])∧Below w.heap.size w w':=by
 have:=behindP_any x s b m w hx hs hg hm;rw[h] at this;exact this
def FoldP(f:(Nat→Int)×Int)(a1 a12:Addr)(w:World)(e:Ending)(w':World):Prop:=
 Below w.heap.size w w'∧
  ((f.2=0∧∃p r,e=.returned (.tuple #[.agg #[p,.string (nameB (memb f.1 26)),r],.nilIface])∧w'.ownsRow w.heap.size 3 1 p 8 (powL f.1 8)∧w'.ownsRow w.heap.size 3 1 r (memb f.1 26).length (roleL f.1 (memb f.1 26))∧∀g,p.ownBlock=some g→r.ownBlock≠some g)∨
   (f.2=1∧e=.returned (.tuple #[.agg #[.slice none 0 0,.string ⟨#[]⟩,.slice none 0 0],.iface 294 (.pointer (some a1))]))∨(f.2=12∧e=.returned (.tuple #[.agg #[.slice none 0 0,.string ⟨#[]⟩,.slice none 0 0],.iface 294 (.pointer (some a12))])))
theorem FoldP.arg(h:Below w.heap.size w w'):FoldP (y,1) a1 a12 w (.returned (.tuple #[.agg #[.slice none 0 0,.string ⟨#[]⟩,.slice none 0 0],.iface 294 (.pointer (some a1))])) w':=⟨h,Or.inr (Or.inl ⟨rfl,rfl⟩)⟩
theorem FoldP.bad(h:Below w.heap.size w w'):FoldP (y,12) a1 a12 w (.returned (.tuple #[.agg #[.slice none 0 0,.string ⟨#[]⟩,.slice none 0 0],.iface 294 (.pointer (some a12))])) w':=⟨h,Or.inr (Or.inr ⟨rfl,rfl⟩)⟩
theorem foldP_any(g:Nat→Int)(p:Option Addr)(n cap:Nat)(l:List ByteArray)(lp:Option Addr)(lcap:Nat)(a1 a12:Addr)(m:Int)(w:World)(hg:Lies w w.heap.size p n (fun i=>.int .i64 (g i)))
 (hl:Lies w w.heap.size lp l.length (fun i=>.string (l.getD i ByteArray.empty))) (hm:l.length≤maxLen) (hs:∀i,i<l.length→(l.getD i ByteArray.empty).size<4294967281)
 (h1:w.cell? ⟨1,0,none⟩=some (.iface 294 (.pointer (some a1)))) (h12:w.cell? ⟨11,0,none⟩=some (.iface 294 (.pointer (some a12)))) (hmx:w.cell? ⟨13,0,none⟩=some (.int .i64 m)):
 Calls prog 86 #[.slice p n cap,.slice lp l.length lcap] w (FoldP (foldR g n l) a1 a12 w):=by
 have z0:=regA_zero;obtain⟨z1,hz1⟩:∃z,z=(genR g n).1:=⟨_,rfl⟩;obtain⟨o1,ho1⟩:∃o,o=(genR g n).2:=⟨_,rfl⟩;have HGE:Hid (genR g n=(z1,o1)):=by unfold Hid;rw[hz1,ho1]
 have HDZ1:Hid (Dom z1):=by unfold Hid;rw[hz1];exact Dom.gen g n
 clear hz1 ho1;obtain⟨HG,HL,HM,HS,H1,H12,HMX⟩:=hide7 hg hl hm hs h1 h12 hmx;have hl12:11<w.heap.size:=World.block_lt_of_cell? _ _ h12;have hl1:1<w.heap.size:=World.block_lt_of_cell? _ _ h1;have hlx:13<w.heap.size:=World.block_lt_of_cell? _ _ hmx;clear hg hl hm hs h1 h12 hmx;have HT0:Hid (ToldAt (w.alloc (.cells #[.slice none 0 0,.string ⟨#[]⟩,.slice none 0 0] 72)) w.heap.size (.slice none 0 0) ByteArray.empty (.slice none 0 0)):=heap_alloc_new w _;have HB0:Hid (Below w.heap.size w (w.alloc (.cells #[.slice none 0 0,.string ⟨#[]⟩,.slice none 0 0] 72))):=(Below.refl _ w).alloc (Nat.le_refl _) _;have hsz0:(w.alloc (.cells #[.slice none 0 0,.string ⟨#[]⟩,.slice none 0 0] 72)).heap.size=w.heap.size+1:=by simp
 cases o1 with
 |false=>
  have HE:=hide (foldR_arg g n l (by rw[HGE.out]));have HC:=hide (genP_no g p n cap a1 z1 (w.alloc (.cells #[.slice none 0 0,.string ⟨#[]⟩,.slice none 0 0] 72)) ((HG.out.below HB0.out).more (by rw[hsz0];omega)) ((HB0.out.cell (p:=⟨1,0,none⟩) (by exact hl1)).trans H1.out) HGE.out);go_enter func86,ntmps86;go_wp2_with fail
  refine HC.out.mono ?_;rintro e w1 ⟨rfl,hb1⟩;rw[hsz0] at hb1;have HT1:=hide (HT0.out.block (hb1.block w.heap.size (by omega)));have HB1:Hid (Below w.heap.size w w1):=HB0.out.trans (hb1.mono (by omega));have hsz1:w.heap.size+1≤w1.heap.size:=by have:=hb1.size;rw[hsz0] at this;exact this
  clear hb1 HC HT0;go_wp2_with (first|(refine wpList_store_reg rfl 116 _ _ rfl w1.heap.size reg0 rfl rfl 116 (regA reg0) (heap_alloc_new w1 _) (regA_size _) Tryz.sizeRegistry ?_;intro w2 hq2 ho2;have HO2:=hide ho2;clear hq2 ho2)|(refine wpList_store_rowG rfl 72 _ _ rfl w.heap.size #[.slice none 0 0,.string ⟨#[]⟩,.slice none 0 0] rfl rfl 72 #[.slice none 0 0,.string ⟨#[]⟩,.slice none 0 0] (HT1.out.block ((((Below.refl _ w1).alloc (Nat.le_refl _) _).trans (HO2.out.below (Nat.le_refl _))).block w.heap.size (by omega))) rfl (by simp[Value.oneCell']) Tryz.sizeTold ?_;intro w9 hq ho))
  exact bodyPost_ret (v:=.tuple #[.agg #[.slice none 0 0,.string ⟨#[]⟩,.slice none 0 0],.iface 294 (.pointer (some a1))]) (results_row2 results86 _ _ w.heap.size 72 _ _ _ rfl rfl hq underlying72 rfl Tryz.sizeTold) rfl (by rw[HE.out];exact FoldP.arg ((HB1.out.trans ((((Below.refl _ w1).alloc (Nat.le_refl _) _).trans (HO2.out.below (Nat.le_refl _))).mono (by omega))).trans (ho.below (Nat.le_refl _))))
 |true=>
  have HC:=hide (genP_yes g p n cap a1 z1 (w.alloc (.cells #[.slice none 0 0,.string ⟨#[]⟩,.slice none 0 0] 72)) ((HG.out.below HB0.out).more (by rw[hsz0];omega)) ((HB0.out.cell (p:=⟨1,0,none⟩) (by exact hl1)).trans H1.out) HGE.out);go_enter func86,ntmps86;go_wp2_with fail
  refine HC.out.mono ?_;rintro e w1 ⟨rfl,hb1⟩;rw[hsz0] at hb1;have HT1:=hide (HT0.out.block (hb1.block w.heap.size (by omega)));have HB1:Hid (Below w.heap.size w w1):=HB0.out.trans (hb1.mono (by omega));have hsz1:w.heap.size+1≤w1.heap.size:=by have:=hb1.size;rw[hsz0] at this;exact this
  clear hb1 HC HT0 HB0 hsz0;go_wp2_with (first|(refine wpList_store_reg rfl 116 _ _ rfl w1.heap.size z1 rfl rfl 116 (regA reg0) (heap_alloc_new w1 _) (regA_size _) Tryz.sizeRegistry ?_;intro w2 hq2 ho2)|fail)
  have HQ2:=hide hq2;have HB2:Hid (Below w1.heap.size w1 w2):=((Below.refl _ w1).alloc (Nat.le_refl _) _).trans (ho2.below (Nat.le_refl _));clear hq2 ho2;go_loopw [7,9,21] (fun er _ i wr=>∃(k:Nat) (y:Nat→Int),k≤l.length∧i=.int .i64 k∧er=.nilIface∧Dom y∧RegAt wr w1.heap.size 116 y∧Below w1.heap.size w1 wr∧foldB z1 l=foldB y (l.drop k)) (fun _ _ i _=>l.length-(intOf i).toNat)
  case atStart=>exact⟨0,z1,Nat.zero_le _,rfl,rfl,HDZ1.out,HQ2.out,HB2.out,rfl⟩
  clear HQ2 HB2;obtain⟨k,y,hk,rfl,rfl,hdy,hy,hbw,hgf⟩:=hrel;obtain⟨HDY,HY,HBW,HGW⟩:=hide4 hdy hy hbw hgf;have HBX:Hid (Below w.heap.size w wr):=HB1.out.trans (hbw.mono HB1.out.size);have HTW:=hide (HT1.out.block (hbw.block w.heap.size (by omega)));clear hdy hy hbw hgf;by_cases hend:k=l.length
  .have HE:Hid (foldR g n l=(y,0)):=foldR_good g n l y (by rw[HGE.out]) (by rw[HGE.out];show foldB z1 l=some y;rw[HGW.out,hend,List.drop_length];rfl);have hend2:¬(k:Int)<l.length:=by omega
   clear hend;go_wp2_with (first|(refine wpList_load_reg rfl 116 _ rfl _ rfl 116 y _ HY.out underlying116 rfl Tryz.sizeRegistry ?_)|fail)
   refine(tell_any y wr HDY.out).mono ?_;rintro e w4 ⟨pv,rv,rfl,hp4,hr4,hap,hb4⟩;obtain⟨pp,pc,rfl⟩:=own_slice hp4;obtain⟨rp,rc,rfl⟩:=own_slice hr4;obtain⟨HP4,HR4,HAP,HT4⟩:=hide4 hp4 hr4 hap (HTW.out.block (hb4.block w.heap.size HTW.out.lt));have HB4:Hid (Below w.heap.size w w4):=HBX.out.trans (hb4.mono HBX.out.size);clear hp4 hr4 hap hb4;go_wp2_with (refine wpList_store_rowG rfl 72 _ _ rfl w.heap.size _ rfl rfl 72 #[.slice none 0 0,.string ⟨#[]⟩,.slice none 0 0] HT4.out rfl (by simp[Value.oneCell']) Tryz.sizeTold ?_;intro w9 hq ho)
   refine bodyPost_ret (v:=.tuple #[.agg #[.slice pp 8 pc,.string (nameB (memb y 26)),.slice rp (memb y 26).length rc],.nilIface]) (results_row2 results86 _ _ w.heap.size 72 _ _ _ rfl rfl hq underlying72 rfl Tryz.sizeTold) rfl ?_;rw[HE.out];have hwr:w.heap.size<wr.heap.size:=HTW.out.lt;exact⟨HB4.out.trans (ho.below (Nat.le_refl _)),Or.inl ⟨rfl,_,_,rfl,own_base (own_blocks HP4.out (fun g2 e2 _=>ho.block g2 (by have:=(HP4.out.lt g2 e2).1;omega))) (by omega),own_base (own_blocks HR4.out (fun g2 e2 _=>ho.block g2 (by have:=(HR4.out.lt g2 e2).1;omega))) (by omega),HAP.out⟩⟩
  have hkn:k<l.length:=by omega
  obtain⟨bl,ol,rfl,hbl0,hc⟩:=HL.out k hkn;have hkn2:(k:Int)<l.length:=by omega
  obtain⟨t,ht⟩:=gen (l.getD k ByteArray.empty);have HST:Hid (t.size<4294967281):=by unfold Hid;rw[ht];exact HS.out k hkn
  have hcr:wr.cell? ⟨bl,ol+k,none⟩=some (.string t):=by rw[ht];exact(HBX.out.cell (p:=⟨bl,ol+k,none⟩) (by exact hbl0)).trans hc
  have hmx:l.length≤9223372036854775807:=by have:=HM.out;unfold maxLen at this;omega
  obtain⟨z,hz⟩:∃z,z=(behindR y t).1:=⟨_,rfl⟩;obtain⟨o,ho⟩:∃o,o=(behindR y t).2:=⟨_,rfl⟩;have HZ:Hid (behindR y t=(z,o)):=by unfold Hid;rw[hz,ho]
  have HDZ:Hid (Dom z):=by unfold Hid;rw[hz];exact HDY.out.behind t
  have HGS:Hid (foldB z1 l=if o then foldB z (l.drop (k+1)) else none):=by unfold Hid;rw[HGW.out];exact foldB_step y l k hkn z o (by rw[←ht];exact HZ.out)
  have H12r:=hide ((HBX.out.cell (p:=⟨11,0,none⟩) (by exact hl12)).trans H12.out);have HMXr:=hide ((HBX.out.cell (p:=⟨13,0,none⟩) (by exact hlx)).trans HMX.out);clear ht hc hz ho hend;cases o with
  |false=>
   have HE:Hid (foldR g n l=(reg0,12)):=foldR_bad g n l (by rw[HGE.out]) (by rw[HGE.out];exact HGS.out);have HC:=hide (behindP_no y t a12 m z wr HDY.out HST.out H12r.out HMXr.out HZ.out);go_wp2_with (first|(refine wpList_load_reg rfl 116 _ rfl _ rfl 116 y _ HY.out underlying116 rfl Tryz.sizeRegistry ?_)|fail)
   refine HC.out.mono ?_;rintro e w3 ⟨rfl,hb3⟩;have HB3:Hid (Below w.heap.size w w3):=HBX.out.trans (hb3.mono HBX.out.size);obtain⟨HY3,HT3⟩:=hide2 (HY.out.below hb3) (HTW.out.block (hb3.block w.heap.size HTW.out.lt));clear hb3 HC;go_wp2_with (first|(refine wpList_store_reg rfl 116 _ _ rfl w1.heap.size reg0 rfl rfl 116 (regA y) HY3.out (regA_size _) Tryz.sizeRegistry ?_;intro w5 hq5 ho5;have HO5:=hide ho5;clear hq5 ho5)|(refine wpList_store_rowG rfl 72 _ _ rfl w.heap.size #[.slice none 0 0,.string ⟨#[]⟩,.slice none 0 0] rfl rfl 72 #[.slice none 0 0,.string ⟨#[]⟩,.slice none 0 0] (HT3.out.block (HO5.out.block w.heap.size (by omega))) rfl (by simp[Value.oneCell']) Tryz.sizeTold ?_;intro w9 hq ho))
   exact bodyPost_ret (v:=.tuple #[.agg #[.slice none 0 0,.string ⟨#[]⟩,.slice none 0 0],.iface 294 (.pointer (some a12))]) (results_row2 results86 _ _ w.heap.size 72 _ _ _ rfl rfl hq underlying72 rfl Tryz.sizeTold) rfl (by rw[HE.out];exact FoldP.bad ((HB3.out.trans (HO5.out.below (by omega))).trans (ho.below (Nat.le_refl _))))
  |true=>
   have HGN:Hid (foldB z1 l=foldB z (l.drop (k+1))):=HGS.out;have HC:=hide (behindP_yes y t a12 m z wr HDY.out HST.out H12r.out HMXr.out HZ.out);go_wp2_with (first|(refine wpList_load_reg rfl 116 _ rfl _ rfl 116 y _ HY.out underlying116 rfl Tryz.sizeRegistry ?_)|fail)
   refine HC.out.mono ?_;rintro e w3 ⟨rfl,hb3⟩;have HB3:Hid (Below w1.heap.size w1 w3):=HBW.out.trans (hb3.mono HBW.out.size);have HY3:=hide (HY.out.below hb3);clear hb3 HC;go_wp2_with (first|(refine wpList_store_reg rfl 116 _ _ rfl w1.heap.size z rfl rfl 116 (regA y) HY3.out (regA_size _) Tryz.sizeRegistry ?_;intro w5 hq5 ho5)|fail)
   go_roundw
   case rel=>exact⟨k+1,z,by omega,by go_num,rfl,HDZ.out,hq5,HB3.out.trans (ho5.below (Nat.le_refl _)),HGN.out⟩
   case measure=>simp[intOf];omega
end Go.Proofs.YtcfjhbcpjpgodaaGreatDoor

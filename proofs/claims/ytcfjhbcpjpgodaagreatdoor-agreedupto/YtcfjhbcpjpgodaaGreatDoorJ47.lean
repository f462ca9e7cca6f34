/- Proved here: premise of synodkeep tells a height below which those who lie have less than a third, at whatever height an honest node has come to. -/
import Derived.Test.YtcfjhbcpjpgodaaGreatDoorJ42
import Derived.Test.YtcfjhbcpjpgodaaGreatDoorJ43
import Derived.Test.YtcfjhbcpjpgodaaGreatDoorJ48
import Derived.Test.YtcfjhbcpjpgodaaGreatDoorJ46
import Derived.Test.YtcfjhbcpjpgodaaGreatDoorJ28
import Derived.Test.YtcfjhbcpjpgodaaGreatDoorTakeL
namespace Go.Proofs.YtcfjhbcpjpgodaaGreatDoor
open Go.RowKit Go.Proofs.Tryz
set_option linter.unusedSimpArgs false
set_option linter.unusedVariables false
set_option maxRecDepth 100000
set_option maxHeartbeats 25600000
variable{w w':World}{n i least B rb T cc gc cb:Nat}{sg:Nat→List ByteArray}{x x0:Nat→Int}{h m:Int}{s:NodeS}{hon:Nat→Bool}{st:Nat→NodeS}{es:List Addr}{Q:Nat→Option Obj}{Fs:Nat→Nat→Prop}{R:Nat→Prop}{nbs ks cbs:Nat→Nat}{gp:Option Addr}{kv nv sv:Value}{said:List ByteArray}{block:ByteArray}
theorem own_geP{base e size g:Nat}{v:Value}{xs:List Value}(h:w.ownsRow base e size v n xs)(hg:v.ownBlock=some g):base≤g:=by
 rcases h.2 with⟨rfl,_⟩|⟨k,cap,cur,rfl,hk,_⟩
 .cases hg
 cases hg;exact hk
theorem foldB_regs:∀(l:List ByteArray) (x:Nat→Int),(∀(k:Nat) (b:ByteArray),l[k]? =some b→(behindR (regs x (l.take k)) b).2=true)→foldB x l=some (regs x l)
 | [],_,_=>rfl
 |t::l,x,h=>by
  have h0:(behindR x t).2=true:=h 0 t rfl;unfold foldB;rw[if_pos h0,foldB_regs l (behindR x t).1 (fun k b hb=>h (k+1) b hb)];rfl
theorem quo_size{k r:Int}{t:ByteArray}(hx:Dom x)(hq:Quo n sg x k h r t):t.size≤24:=by
 obtain⟨b,hb,hv⟩:=hq;have hb':=of_decide_eq_true hb;have hs:=sumTo_bound x 8 (fun i _=>hx i);by_cases he:∃q,q<8∧b q=true
 .obtain ⟨q,hq8,hbq⟩:=he
  obtain⟨_,fr,_,h1,_,_,_,_,h2⟩:=hv q hq8 hbq;rw[←h2];exact(decV_ok h1).2.2.2.2.2.2.1
 have h0:powB x b 8≤powB x (fun _=>false) 8:=powB_le (fun i=>(hx i).1) 8 (fun q hq hbq=>absurd ⟨q,hq,hbq⟩ he);have h1:powB x (fun _=>false) 8=0:=by simp[powB]
 omega
theorem NI.fold(h:NI n i x0 s)(hd:Dom x0)(k:Nat):foldB x0 (s.blocks.take k)=some (regs x0 (s.blocks.take k))∧∀j,j<(s.blocks.take k).length→((s.blocks.take k).getD j ByteArray.empty).size≤24:=by
 have hg:∀(j:Nat) (b:ByteArray),(s.blocks.take k)[j]? =some b→(s.blocks.take k).take j=s.blocks.take j∧s.blocks[j]? =some b:=fun j b hb=>by
  have hj:j<(s.blocks.take k).length:=(List.getElem?_eq_some_iff.1 hb).1;rw[List.length_take] at hj;rw[List.getElem?_take,if_pos (by omega)] at hb;refine⟨?_,hb⟩;rw[List.take_take,Nat.min_eq_left (by omega)]
 refine⟨foldB_regs _ _ (fun j b hb=>?_),fun j hj=>?_⟩
 .obtain ⟨h1,h2⟩:=hg j b hb
  rw[h1];exact(h.dec j b h2).1
 have hb:(s.blocks.take k)[j]? =some (s.blocks.take k)[j]:=List.getElem?_eq_getElem hj;rw[List.getD_eq_getElem?_getD,hb,Option.getD_some];obtain⟨_,r,hq⟩:=h.dec j _ (hg j _ hb).2;exact quo_size (regs_dom hd _) hq
theorem Tryz.fieldState0(a b c d e:Int)(t u:ByteArray)(W:World):(Instr.field 61 (.agg #[.int .i64 a,.int .i64 b,.int .i64 c,.int .i64 d,.int .i64 e,.string t,.string u]) 0).run prog W=.ok (.int .i64 a) W:=by kernel_rfl
def PremU(n:Nat)(hon:Nat→Bool)(x0:Nat→Int)(st:Nat→NodeS)(i least:Nat):Prop:=∀j,j<i→hon j=true→∀h,h≤(st j).height→h<least→Less n hon (regs x0 ((st j).blocks.take h))
def PremiseP(n:Nat)(hon:Nat→Bool)(x0:Nat→Int)(st:Nat→NodeS)(w:World)(e:Ending)(w':World):Prop:=∃least:Nat,e=.returned (.tuple #[.int .i64 (least:Int),.bool true])∧least≤13∧PremU n hon x0 st n least∧Below w.heap.size w w'
theorem PremU.less{least':Nat}(h:PremU n hon x0 st i least)(hl:least'≤least):PremU n hon x0 st i least':=fun j hj hh k hk hkl=>h j hj hh k hk (by omega)
theorem PremU.more(h:PremU n hon x0 st i least)(hi:hon i=true→∀k,k≤(st i).height→k<least→Less n hon (regs x0 ((st i).blocks.take k))):PremU n hon x0 st (i+1) least:=fun j hj hh k hk hkl=>by
 by_cases e:j=i
 .rw [e] at hh hk ⊢;exact hi hh k hk hkl
 .exact h j (by omega) hh k hk hkl
theorem premise_any(gf:Nat→Int){w:World}(h:CityOL B es m hon (regOf gf n) Q Fs R nbs ks cbs rb n T cc (.slice gp n gc) kv nv sv st sg said w)(hn:n≤8)(a0 a1 a11:Addr)(hg:w.cell? ⟨10,0,none⟩=some (.iface 294 (.pointer (some a0))))(h1:w.cell? ⟨1,0,none⟩=some (.iface 294 (.pointer (some a1))))(h11:w.cell? ⟨11,0,none⟩=some (.iface 294 (.pointer (some a11))))(hmx:w.cell? ⟨13,0,none⟩=some (.int .i64 m))
 (hgl:Lies w w.heap.size gp n (fun i=>.int .i64 (gf i))) (hgen:genR gf n=(regOf gf n,true)) (hd:Dom (regOf gf n)):
 Calls prog 34 #[.pointer (some ⟨cc,0,none⟩)] w (PremiseP n hon (regOf gf n) st w):=by
 obtain⟨iW,hiW,hz0,hz1,hz2⟩:=info_parts Tryz.infoStrB;obtain⟨g,cap,rfl,hmax,hgc,hnp⟩:=h.nodeAt;obtain⟨HO,HG,H1,H11,HMX,HGL,HGEN,HD⟩:=hide8 h hg h1 h11 hmx hgl hgen hd;have HNP:=hide hnp;have C3:Hid (w.cell? ⟨cc,3,none⟩=some (.slice (some ⟨g,0,none⟩) n cap)):=cell_of_row w cc 3 _ _ _ h.blk;have C0:Hid (w.cell? ⟨cc,0,none⟩=some (.slice gp n gc)):=cell_of_row w cc 0 _ _ _ h.blk;clear h hg hnp h1 h11 hmx hgl hgen hd;go_enter func34,ntmps34;go_wp2;go_loopw [4,5] (fun lv iv wr=>∃i least:Nat,i≤n∧least≤13∧iv=.int .i64 i∧lv=.int .i64 least∧PremU n hon (regOf gf n) st i least∧Below w.heap.size w wr) (fun _ iv _=>n-(intOf iv).toNat)
 case atStart=>exact⟨0,13,Nat.zero_le _,Nat.le_refl _,rfl,rfl,fun j hj=>absurd hj (Nat.not_lt_zero j),Below.refl _ _⟩
 obtain⟨i,least,hin,hl13,rfl,rfl,hpu,hb⟩:=hrel;obtain⟨HPU,HB⟩:=hide2 hpu hb;have c3:wr.cell? ⟨cc,3,none⟩=some (.slice (some ⟨g,0,none⟩) n cap):=Ext.cell C3.out (Ext.of hb);clear hpu hb;by_cases hend:i=n
 .have hge:¬(i:Int)<n:=by omega
  subst hend;go_wp2;go_ret2;exact⟨least,rfl,hl13,HPU.out,HB.out⟩
 have hi:i<n:=by omega
 have hlti:(i:Int)<n:=by omega
 have ck0:=Ext.cell (HNP.out i hi) (Ext.of HB.out);cases hh:hon i with
 |false=>
  have ck:wr.cell? ⟨g,i,none⟩=some (.pointer none):=by rw[←ptL_no (nbs:=nbs) hh];exact ck0
  have HPU2:Hid (PremU n hon (regOf gf n) st (i+1) least):=HPU.out.more (fun hx=>by rw[hh] at hx;cases hx);clear ck0 hend;go_wp2;go_roundw
  case rel=>exact⟨i+1,least,by omega,hl13,by go_num,rfl,HPU2.out,HB.out⟩
  case measure=>simp[intOf];omega
 |true=>
  have ck:wr.cell? ⟨g,i,none⟩=some (.pointer (some ⟨nbs i,0,none⟩)):=by rw[←ptL_yes (nbs:=nbs) hh];exact ck0
  obtain⟨wo,hwo⟩:=gen wr;subst hwo;clear ck0 hend;go_wp2;go_loopw [4,6,7] (fun lv bv hv wr=>∃k:Nat,k≤13∧lv=.int .i64 least∧hv=.int .i64 k∧k≤(st i).height+1∧(∀j,j<k→Less n hon (regs (regOf gf n) ((st i).blocks.take j)))∧(k≤(st i).height→wr.ownsRow w.heap.size 9 1 bv ((st i).blocks.take k).length (((st i).blocks.take k).map .string))∧Below w.heap.size w wr) (fun _ _ hv _=>13-(intOf hv).toNat)
  case atStart=>exact⟨0,by omega,rfl,rfl,Nat.zero_le _,fun j hj=>absurd hj (Nat.not_lt_zero j),fun _=>by simpa using World.ownsRow_nil wo w.heap.size 9 1,HB.out⟩
  obtain⟨k,hk13,rfl,rfl,hkh,hless,hown,hb2⟩:=hrel;obtain⟨HLE,HOWN,HB2⟩:=hide3 hless hown hb2;have HHT:Hid ((st i).height≤12):=(HO.out.city.ok i hi hh).hgt;obtain⟨V,hA,_⟩:=((HO.out.below hb2).city.node i hi hh).node;have HST:=hide (state_any (nbs i) (ks i) (cbs i) V (st i) wr hA);have c32:wr.cell? ⟨cc,3,none⟩=some (.slice (some ⟨g,0,none⟩) n cap):=Ext.cell C3.out (Ext.of hb2);have ck2:wr.cell? ⟨g,i,none⟩=some (.pointer (some ⟨nbs i,0,none⟩)):=by rw[←ptL_yes (nbs:=nbs) hh];exact Ext.cell (HNP.out i hi) (Ext.of hb2)
  clear hless hown hb2 hA;unfold stateA at HST;go_wp2_with fail
  refine HST.out.mono ?_;rintro e w5 ⟨rfl,hb5⟩;have HB5:Hid (Below w.heap.size w w5):=HB2.out.trans (hb5.mono HB2.out.size);have HB25:=hide hb5;clear hb5 HST;obtain⟨ht,hht⟩:∃z,z=(st i).height:=⟨_,rfl⟩;rw[←hht] at HHT hkh ⊢;have HHE:=hide hht;have qf:=Tryz.fieldState0 (ht:Int) ((st i).round:Int) ((st i).step:Int) (st i).lr (st i).vr (st i).lv (st i).vv w5;by_cases hkl:k≤ht
  .have hkli:(k:Int)≤(ht:Int):=by omega
   have hk12:(k:Int)≤12:=by have:=HHT.out;omega
   obtain⟨l,hl⟩:∃z,z=(st i).blocks.take k:=⟨_,rfl⟩;have hNI:=HO.out.ci.ni i hi hh;obtain⟨hf1,hf2⟩:=NI.fold hNI HD.out k;have how:=HOWN.out (by rw[←hht];exact hkl);rw[←hl] at how hf1 hf2;have hlk:l.length=k:=by rw[hl,List.length_take,blocks_len];omega
   obtain⟨lp,lcap,rfl,hlm,hll⟩:=own_lies how;have HOW:=hide (own_keep how HB25.out);obtain⟨y,hy⟩:=gen (regs (regOf gf n) l);have HDY:Hid (Dom y):=by rw[hy];exact regs_dom HD.out l
   have HFR:Hid (foldR gf n l=(y,0)):=foldR_good gf n l y (by rw[HGEN.out]) (by rw[HGEN.out,hf1,hy]);have HFO:=hide (foldP_any gf gp n gc l lp lcap a1 a11 m w5 ((HGL.out.below HB5.out).more HB5.out.size) ((hll.below HB25.out).more HB25.out.size) hlm (fun j hj=>by have:=hf2 j hj;omega) (Ext.cell H1.out (Ext.of HB5.out)) (Ext.cell H11.out (Ext.of HB5.out)) (Ext.cell HMX.out (Ext.of HB5.out)));have c05:w5.cell? ⟨cc,0,none⟩=some (.slice gp n gc):=Ext.cell C0.out (Ext.of HB5.out);obtain⟨HHL,HY,HLK⟩:=hide3 hl hy hlk;clear hl hy hlk how hll hf1 hf2 hNI hht c32 ck2;go_wp2_with fail
   refine HFO.out.mono ?_;intro e w6 hF;rw[HFR.out] at hF;obtain⟨hb6,hF⟩:=hF;rcases hF with⟨_,pv,rv,rfl,hp,hr,hpr⟩|⟨h0,_⟩|⟨h0,_⟩
   .obtain ⟨pp,pc,rfl,_⟩:=told_powers hp
    obtain⟨rp,rc,rfl,_⟩:=told_roles hr;have HB6:Hid (Below w.heap.size w w6):=HB5.out.trans (hb6.mono HB5.out.size);obtain⟨HB56,HP6⟩:=hide2 hb6 hp;clear hp hr hpr hb6 HFO;have HLS:=hide (fun(W:World) (hW:Below w6.heap.size w6 W)=>less_any hon nbs n cc g cap y pp pc W hn HDY.out (by obtain⟨p9,c9,e9,hl9⟩:=told_powers (own_keep HP6.out hW);cases e9;exact hl9) (Ext.cell C3.out (Ext.of (HB6.out.trans (hW.mono HB6.out.size)))) (fun j hj=>Ext.cell (HNP.out j hj) (Ext.of (HB6.out.trans (hW.mono HB6.out.size)))));go_wp2_with (first|(refine wpList_store_new rfl 72 _ _ rfl w6 #[.slice pp 8 pc,.string (nameB (memb y 26)),.slice rp (memb y 26).length rc] rfl rfl 72 _ rfl (by simp[Value.oneCell']) Tryz.sizeToldN ?_;intro w7 hq7 hb7 hz7;have HB7:=hide hb7;have HQ7:=hide hq7;have cq7:w7.cell? ⟨w6.heap.size,0,none⟩=some (.slice pp 8 pc):=cell_of_row w7 w6.heap.size 0 _ _ _ hq7;clear hq7 hb7 hz7)|fail)
    refine(HLS.out w7 HB7.out).mono ?_;rintro e w8 ⟨rfl,hw8⟩;have hw9:=hw8.symm;clear hw8;subst hw9;have HBW7:Hid (Below w.heap.size w w7):=HB6.out.trans (HB7.out.mono HB6.out.size);have HB57:Hid (Below w5.heap.size w5 w7):=HB56.out.trans (HB7.out.mono HB56.out.size);cases hls:lessB n hon y with
    |false=>
     have HPU2:Hid (PremU n hon (regOf gf n) st (i+1) (min least k)):=(HPU.out.less (Nat.min_le_left _ _)).more (fun _ j hj hjl=>HLE.out j (by have:=Nat.min_le_right least k;omega));clear hls;go_wp2;go_roundw
     case rel=>exact⟨i+1,min least k,by omega,by have:=Nat.min_le_left least k;omega,by go_num,by first|rfl|(congr 1;omega)|simp,HPU2.out,HBW7.out⟩
     case measure=>simp[intOf];omega
    |true=>
     have HLE2:Hid (∀j,j<k+1→Less n hon (regs (regOf gf n) ((st i).blocks.take j))):=fun j hj=>by
      by_cases e:j=k
      .rw [e,←HHL.out,←HY.out];exact lessB_yes hls
      exact HLE.out j (by omega)
     have HDC:=hide (decided_city HO.out HBW7.out hi hh (k:Int) a0 HG.out);have c37:w7.cell? ⟨cc,3,none⟩=some (.slice (some ⟨g,0,none⟩) n cap):=Ext.cell C3.out (Ext.of HBW7.out);have ck7:w7.cell? ⟨g,i,none⟩=some (.pointer (some ⟨nbs i,0,none⟩)):=by rw[←ptL_yes (nbs:=nbs) hh];exact Ext.cell (HNP.out i hi) (Ext.of HBW7.out)
     clear hls cq7;go_wp2_with fail
     refine HDC.out.mono ?_;intro e wd hDD;unfold DecidedP at hDD;by_cases hkd:k<ht
     .rw [if_pos ⟨by omega,by have h9:ht=(st i).dec.length:=HHE.out;omega⟩,Int.toNat_natCast] at hDD;obtain⟨p5,c5,rfl,_,_,hbd⟩:=hDD;obtain⟨t5,ht5⟩:∃z,z=((st i).dec.getD k dcn0).block:=⟨_,rfl⟩;rw[←ht5];have HBD:Hid (Below w.heap.size w wd):=HBW7.out.trans (hbd.mono HBW7.out.size);have HB5D:Hid (Below w5.heap.size w5 wd):=HB57.out.trans (hbd.mono HB57.out.size);have HTK:Hid ((st i).blocks.take (k+1)=l++[t5]):=by
       have h9:=blk_blocks (s:=st i) (k:=k) (by rw[←HHE.out];exact hkd);unfold Hid;rw[List.take_add_one,h9,←HHL.out,ht5];rfl
      obtain⟨wa,hwa⟩:=gen (wd.alloc (.cells #[.string t5] 9));have hba:Below wd.heap.size wd wa:=by rw[hwa];exact(Below.refl _ wd).alloc (Nat.le_refl _) _
      have hqa:wa.heap[wd.heap.size]? =some (.cells #[.string t5] 9 (0,0)):=by rw[hwa];exact heap_alloc_new wd _
      have HOWA:=hide (own_keep (own_keep HOW.out HB5D.out) hba);have HBA:Hid (Below w.heap.size w wa):=HBD.out.trans (hba.mono HBD.out.size);have HN1:Hid (∀(j:Nat) (u:Value),[Value.string t5][j]? =some u→wa.cell? ((⟨wd.heap.size,0,none⟩:Addr).add j)=some u):=fun j u hj=>by
       rw[addr_add,Nat.zero_add,cell_of_row _ wd.heap.size j _ _ _ hqa];simpa using hj
      have HWA:=hide hwa;have hlk12:l.length≤12:=by have h9:=HLK.out;have h8:=HHT.out;omega
      clear hbd ht5 HDC c37 ck7 hba hqa hwa;go_wp2_with (at_builtin;rw[←HWA.out];refine wpList_append_at _ rfl _ _ 30 rfl w.heap.size 9 iW (.string ByteArray.empty) 1 16 underlying30 hiW hz0 hz1 hz2 rfl (by decide) (.slice lp l.length lcap) l.length (l.map .string) rfl HOWA.out ⟨wd.heap.size,0,none⟩ 1 1 [.string t5] rfl rfl HN1.out (fun u hu=>by simp at hu;subst hu;rfl) (by unfold maxLen;omega) (by omega) HBA.out.size ?_;intro v9 w9 hown9 hgrow9 hat9;obtain⟨p9,c9,rfl⟩:=own_slice hown9;have HOWN9:=hide hown9;have HB9:Hid (Below w.heap.size w w9):=HBA.out.trans ⟨hgrow9.os,hgrow9.tape,hgrow9.output,hgrow9.size,fun j hj=>hgrow9.block j (Nat.lt_of_lt_of_le hj HBA.out.size) (fun e=>absurd (own_geP HOWA.out e.symm) (Nat.not_le.2 hj))⟩;clear hown9 hgrow9 hat9)
      try go_wp2
      go_roundw
      case rel=>exact⟨k+1,by omega,rfl,by go_num,by rw[←HHE.out];omega,HLE2.out,fun _=>by rw[HTK.out,List.length_append,List.map_append];exact HOWN9.out,HB9.out⟩
      case measure=>simp[intOf];omega
     rw[if_neg (fun hx=>hkd (by have h9:ht=(st i).dec.length:=HHE.out;omega))] at hDD;obtain⟨rfl,hbd⟩:=hDD;have HBD:Hid (Below w.heap.size w wd):=HBW7.out.trans (hbd.mono HBW7.out.size);have HPU2:Hid (PremU n hon (regOf gf n) st (i+1) least):=HPU.out.more (fun _ j hj _=>HLE2.out j (by rw[←HHE.out] at hj;omega));clear hbd hkd HDC c37 ck7;go_wp2;go_roundw
     case rel=>exact⟨i+1,least,by omega,hl13,by go_num,rfl,HPU2.out,HBD.out⟩
     case measure=>simp[intOf];omega
   .cases h0
   cases h0
  have hkli:¬(k:Int)≤(ht:Int):=by omega
  have HPU2:Hid (PremU n hon (regOf gf n) st (i+1) least):=HPU.out.more (fun _ j hj _=>HLE.out j (by rw[←hht] at hj;omega));clear hht c32 ck2;go_wp2;go_roundw
  case rel=>exact⟨i+1,least,by omega,hl13,by go_num,rfl,HPU2.out,HB5.out⟩
  case measure=>simp[intOf];omega
theorem wrap_in(z:Int): -9223372036854775808≤IntKind.i64.wrap z∧IntKind.i64.wrap z≤9223372036854775807:=by
 show-9223372036854775808≤(if true&&decide (z % 18446744073709551616≥9223372036854775808) then z % 18446744073709551616-18446744073709551616 else z % 18446744073709551616)∧(if true&&decide (z % 18446744073709551616≥9223372036854775808) then z % 18446744073709551616-18446744073709551616 else z % 18446744073709551616)≤9223372036854775807;split
 .rename_i h;simp at h;omega
 rename_i h;simp at h;omega
theorem cert_quo{m:Nat}{fr:Nat→ByteArray}(h1:∀i,i<m→decOk (fr i)=true)(h2:∀i,i<m→signedB sg n (decV (fr i)).f (fr i)=true)(hc:CertOk x h block (fun i=>decV (fr i)) m):∃r,Quo n sg x 3 h r block:=by
 obtain⟨b,hb,hm⟩:=hc;refine⟨(decV (fr 0)).r,b,hm,fun q hq hbq=>?_⟩;obtain⟨i,hi,hf⟩:=(hb.who q hq).1 hbq;have hw:decV (fr i)=wantM h (decV (fr 0)).r block (decV (fr i)).f:=hb.want i hi;have hf':(decV (fr i)).f=(q:Int):=hf;have hs:=h2 i hi;unfold signedB at hs;rw[Bool.and_eq_true_iff] at hs;have hs1:=of_decide_eq_true hs.1;rw[hf'] at hs hs1;refine⟨by omega,fr i,?_,h1 i hi,?_⟩
 .have:=hasT_mem hs.2
  rw[Int.toNat_natCast] at this;exact this
 rw[hw];exact⟨rfl,rfl,rfl,rfl,rfl⟩
def AskP(cb rb n:Nat)(sg:Nat→List ByteArray)(x:Nat→Int)(h:Int)(block:ByteArray)(w:World)(e:Ending)(w':World):Prop:=∃ok:Bool,e=.returned (.tuple #[.bool ok,.string block])∧SameBut (fun k=>k=cb) w w'∧(ok=true→(behindR x block).2=true∧(∃r,Quo n sg x 3 h r block)∧ClientAt w' cb rb (behindR x block).1 (h+1))∧(ok=false→ClientAt w' cb rb x h)
theorem ClientAt.below(hc:ClientAt w cb rb x h)(hb:Below w.heap.size w w'):ClientAt w' cb rb x h:=blk hc hb
theorem ask_no(hb:Below w.heap.size w w')(hc:ClientAt w cb rb x h):AskP cb rb n sg x h block w (.returned (.tuple #[.bool false,.string block])) w':=
 ⟨false,rfl,⟨hb.os,hb.tape,hb.output,hb.size,fun k hk _=>hb.block k hk⟩,(fun e=>by cases e),fun _=>hc.below hb⟩
theorem ask_yes{w1:World}(hb:Below w.heap.size w w1)(hp:ButP cb w1 w')(hg:(behindR x block).2=true)(hq:∃r,Quo n sg x 3 h r block)(hc:ClientAt w' cb rb (behindR x block).1 (h+1)):AskP cb rb n sg x h block w (.returned (.tuple #[.bool true,.string block])) w':=
 ⟨true,rfl,⟨hp.os.trans hb.os,hp.tape.trans hb.tape,hp.output.trans hb.output,Nat.le_trans hb.size hp.size,fun k hk hn=>(hp.block k (Nat.lt_of_lt_of_le hk hb.size) hn).trans (hb.block k hk)⟩,fun _=>⟨hg,hq,hc⟩,(fun e=>by cases e)⟩
theorem asks_any{gv:Value}(x:Nat→Int)(h:Int)(block:ByteArray)(fm:Int)(many:Nat){w:World}(hO:CityOL B es m hon x0 Q Fs R nbs ks cbs rb n T cc gv kv nv sv st sg said w)(hsl:said.length≤4000000000000)(hcl:ClientAt w cb rb x h)(hx:Dom x)(hh0:0≤h)(hh1:h≤1000000000)(hbs:block.size<4294967281)(hfm:in64 fm)(hmany:many≤9){mx:Int}{a1 a2 a9 a11:Addr}(hS:SentF es w)(he1:es[1]? =some a1)(he2:es[2]? =some a2)(he9:es[9]? =some a9)(he11:es[11]? =some a11)(hT:TypAt w)(hmx:w.cell? ⟨13,0,none⟩=some (.int .i64 mx)):
 Calls prog 37 #[.pointer (some ⟨cc,0,none⟩),.pointer (some ⟨cb,0,none⟩),.string block,.int .i64 fm,.int .i64 (many:Int)] w (AskP cb rb n sg x h block w):=by
 obtain⟨iW,hiW,hz0,hz1,hz2⟩:=info_parts Tryz.infoStrB;obtain⟨sp0,sc,hsv,c4,hsd⟩:=hO.saidAt;obtain⟨HO,HCL,HX,HFM,HSF,HE1,HE2,HE9⟩:=hide8 hO hcl hx hfm hS he1 he2 he9;have HE11:=hide he11;have HTY:Hid (TypAt w):=hT;obtain⟨HMX,C4,HSD⟩:=hide3 hmx c4 hsd;clear hO hcl hx hfm hS he1 he2 he9 he11 hT hmx c4 hsd hsv;go_enter func37,ntmps37;go_wp2;go_loopw [12,13] (fun cv iv wr=>∃L:List ByteArray,L.length≤many∧iv=.int .i64 (L.length:Int)∧(∀f,f∈L→f∈said)∧wr.ownsRow w.heap.size 9 1 cv L.length (L.map .string)∧Below w.heap.size w wr) (fun _ iv _=>many-(intOf iv).toNat)
 case atStart=>exact⟨[],Nat.zero_le _,rfl,(fun _ hf=>by cases hf),World.ownsRow_nil w w.heap.size 9 1,Below.refl _ _⟩
 obtain⟨L,hLm,rfl,hLs,how,hb⟩:=hrel;obtain⟨HLS,HOW0,HB⟩:=hide3 hLs how hb;obtain⟨lp,lc,rfl,hlm,hll⟩:=own_lies how;have HLL:=hide hll;have HOW:=HOW0;have c4:wr.cell? ⟨cc,4,none⟩=some (.slice sp0 said.length sc):=Ext.cell C4.out (Ext.of hb);clear hLs how hb hll;by_cases hgo:L.length<many
 .have hgoi:(L.length:Int)<many:=by omega
  by_cases hs0:said.length=0
  .have hs0i:¬(0:Int)<said.length:=by omega
   have HAC:=hide (accept_any R cb rb n sg x h block (fun i=>L.getD i ByteArray.empty) lp L.length lc es a1 a2 a9 a11 mx wr HX.out hh0 hh1 hbs (HCL.out.below HB.out) (HO.out.below HB.out).city.ring (fun k hk=>((HO.out.below HB.out).city.rl k hk).2) (HSF.out.later HB.out) HE1.out HE2.out HE9.out HE11.out (Ext.cell HTY.out (Ext.of HB.out)) (Ext.cell HMX.out (Ext.of HB.out)) HLL.out (by omega));go_wp2_with fail
   refine HAC.out.mono ?_;intro e wa hA;rcases hA with⟨c,b,rfl,_,hba,_⟩|⟨rfl,hg1,hg2,hg3,hg4,hg5,hg6⟩
   .have HEND:Hid (AskP cb rb n sg x h block w (.returned (.tuple #[.bool false,.string block])) wa):=ask_no (HB.out.trans (hba.mono HB.out.size)) HCL.out;clear hba HAC;go_wp2;go_ret2;exact HEND.out
   have HEND:Hid (AskP cb rb n sg x h block w (.returned (.tuple #[.bool true,.string block])) wa):=ask_yes HB.out hg6 hg1 (cert_quo hg2 hg3 hg4) hg5;clear hg1 hg2 hg3 hg4 hg5 hg6 HAC;go_wp2;go_ret2;exact HEND.out
  have hs0i:(0:Int)<said.length:=by omega
  obtain⟨fz,hfz⟩:=gen (IntKind.i64.wrap (fm+(L.length:Int)));have hfb: -9223372036854775808≤fz∧fz≤9223372036854775807:=by rw[hfz];exact wrap_in _
  obtain⟨pk,hpk⟩:=gen (pickN fz said.length);have hpkl:pk<said.length:=by rw[hpk];exact pickN_lt (by omega)
  have hpkli:(pk:Int)<said.length:=by omega
  have HPK:Hid (∀W,Calls prog 26 #[.int .i64 fz,.int .i64 (said.length:Int)] W fun e w'=>e=.returned (.int .i64 (pk:Int))∧w'=W):=fun W=>by rw[hpk];exact pick_big fz said.length W hfb.1 hfb.2 (by omega) hsl
  obtain⟨sb,hsp,hcs,_⟩:=HSD.out pk hpkl;subst hsp;obtain⟨fr,hfr⟩:=gen (said.getD pk ByteArray.empty);have HFRM:Hid (fr∈said):=by rw[hfr];exact getD_mem said ByteArray.empty pk hpkl
  have CSBw:w.cell? ⟨sb,pk,none⟩=some (.string fr):=by rw[hfr];exact hcs
  have CSB:=hide CSBw;have hwz:IntKind.i64.wrap (fm+(L.length:Int))=fz:=hfz.symm;clear hpk hfr hcs CSBw hfz
  go_upto_region 5 with fail
  refine rgd (S:=fun X=>Below w.heap.size w X) (HB.out.drew) (fun hH=>?_);refine takeN [(0,some 28,.slice lp L.length lc),(1,some 29,pA cc 0),(2,some 30,pA cc 0),(3,some 31,pA cc 4),(4,some 32,.slice (some ⟨sb,0,none⟩) said.length sc),(5,some 33,.int .i64 fm),(6,some 34,.int .i64 (L.length:Int)),(7,some 35,.int .i64 fz),(8,some 36,pA cc 0),(9,some 37,pA cc 0),(10,some 38,pA cc 4),(11,some 39,.slice (some ⟨sb,0,none⟩) said.length sc),(12,some 40,.int .i64 (said.length:Int))] _ _ hH (by repeat(first|exact True.intro|(refine tkc rfl rfl (Or.inl ⟨by rfl,fun x h=>by have f0:x.cell? ⟨cc,4,none⟩=some (.slice (some ⟨sb,0,none⟩) said.length sc):=Ext.cell C4.out (Ext.of h);go_simp⟩) ?_;simp only[AP]))) ?_;simp only[takesA,AP,pA];refine rdy1 13 (fun K hK=>?_);go_simp;refine(HPK.out _).mono ?_;rintro en X2 ⟨rfl,rfl⟩;refine hK.out _ _ (hH) (fun hH=>?_);clear hK K
  try simp only[AP,AQ]
  refine takeN [(14,some 42,pA sb pk),(15,some 43,.string fr)] _ _ hH (by repeat(first|exact True.intro|(refine tkc rfl rfl (Or.inl ⟨by rfl,fun x h=>by have f0:x.cell? ⟨sb,pk,none⟩=some (.string fr):=Ext.cell CSB.out (Ext.of h);go_simp⟩) ?_;simp only[AP]))) ?_;simp only[takesA,AP,pA];refine rdy1 16 (fun K hK=>?_);go_simp;obtain⟨w2,hw2⟩:∃z,z=(wr.alloc (.cells #[.string fr] 9)).drew:=⟨_,rfl⟩;have hb2:Below wr.heap.size wr w2:=by rw[hw2];exact((Below.refl _ wr).alloc (Nat.le_refl _) _).drew
  have hx2:w2.heap[wr.heap.size]? =some (.cells #[.string fr] 9 (0,0)):=by
   rw[hw2];exact heap_alloc_new wr _
  rw[←hw2];refine hK.out _ _ (HB.out.trans (hb2.mono HB.out.size)) (fun hH=>?_);clear hK K hw2
  try simp only[AP,AQ]
  refine rdy1 17 (fun K hK=>?_);rw[if_pos (by rfl)];have hown2:=own_keep HOW.out hb2;refine wp_append_at _ _ _ 30 rfl w.heap.size 9 iW (.string ByteArray.empty) 1 16 underlying30 hiW hz0 hz1 hz2 rfl (by decide) (.slice lp L.length lc) L.length (L.map .string) rfl hown2 ⟨wr.heap.size,0,none⟩ 1 1 [.string fr] rfl rfl ?n1 (fun u hu=>by simp at hu;subst hu;rfl) (by unfold maxLen;omega) (by omega) (Nat.le_trans HB.out.size hb2.size) ?_
  case n1=>
   intro j u hj;rw[addr_add,Nat.zero_add,cell_of_row w2 wr.heap.size j _ _ _ hx2];simpa using hj
  intro v3 w3 hown3 hgrow3 hat3;have hB3:Below w.heap.size w w3:=(HB.out.trans (hb2.mono HB.out.size)).trans ⟨hgrow3.os,hgrow3.tape,hgrow3.output,hgrow3.size,fun j hj=>hgrow3.block j (Nat.lt_of_lt_of_le hj (Nat.le_trans HB.out.size hb2.size)) (fun e=>absurd (own_geP hown2 e.symm) (Nat.not_le.2 hj))⟩;refine hK.out _ _ hB3 (fun hH=>?_);clear hK K;simp only[AP,AQ];refine takeM [(18,some 12,v3)] _ _ hH ?_;simp only[takesA,AP];refine dnr ?_;obtain⟨p3,c3,rfl⟩:=own_slice hown3;have HOW3:Hid (w3.ownsRow w.heap.size 9 1 (.slice p3 (L.length+1) c3) (L++[fr]).length ((L++[fr]).map .string)):=by rw[List.length_append,List.map_append];exact hown3
  have HB3:=hide hB3;have HLS3:Hid (∀f,f∈L++[fr]→f∈said):=fun f hf=>by
   rcases List.mem_append.1 hf with hf|hf
   .exact HLS.out f hf
   rw[List.mem_singleton.1 hf];exact HFRM.out
  clear hown2 hown3 hgrow3 hat3 hB3 hH hb2 hx2;go_wp2;go_roundw
  case rel=>exact⟨L++[fr],by rw[List.length_append];exact hgo,by rw[List.length_append];go_num,HLS3.out,by rw[List.length_append] at HOW3;rw[List.length_append];exact HOW3.out,HB3.out⟩
  case measure=>simp[intOf];omega
 have hgoi:¬(L.length:Int)<many:=by omega
 have HAC:=hide (accept_any R cb rb n sg x h block (fun i=>L.getD i ByteArray.empty) lp L.length lc es a1 a2 a9 a11 mx wr HX.out hh0 hh1 hbs (HCL.out.below HB.out) (HO.out.below HB.out).city.ring (fun k hk=>((HO.out.below HB.out).city.rl k hk).2) (HSF.out.later HB.out) HE1.out HE2.out HE9.out HE11.out (Ext.cell HTY.out (Ext.of HB.out)) (Ext.cell HMX.out (Ext.of HB.out)) HLL.out (by omega));go_wp2_with fail
 refine HAC.out.mono ?_;intro e wa hA;rcases hA with⟨c,b,rfl,_,hba,_⟩|⟨rfl,hg1,hg2,hg3,hg4,hg5,hg6⟩
 .have HEND:Hid (AskP cb rb n sg x h block w (.returned (.tuple #[.bool false,.string block])) wa):=ask_no (HB.out.trans (hba.mono HB.out.size)) HCL.out;clear hba HAC;go_wp2;go_ret2;exact HEND.out
 have HEND:Hid (AskP cb rb n sg x h block w (.returned (.tuple #[.bool true,.string block])) wa):=ask_yes HB.out hg6 hg1 (cert_quo hg2 hg3 hg4) hg5;clear hg1 hg2 hg3 hg4 hg5 hg6 HAC;go_wp2;go_ret2;exact HEND.out
theorem signed_of{fr:ByteArray}(h0:0≤(decV fr).f)(h1:(decV fr).f.toNat<n)(h2:fr∈sg (decV fr).f.toNat):signedB sg n (decV fr).f fr=true:=by
 unfold signedB;rw[decide_eq_true (show 0≤(decV fr).f∧(decV fr).f<(n:Int) from⟨h0,by omega⟩),hasT_yes h2];rfl
theorem dcs_at{k:Nat}(h:k<s.height):s.dcs[k]? =some ((s.dec.getD k dcn0).block,(s.dec.getD k dcn0).cert):=by
 have h':k<s.dec.length:=h;unfold NodeS.dcs;rw[List.getElem?_map,List.getD_eq_getElem?_getD,List.getElem?_eq_getElem h'];rfl
theorem ends_any(gf:Nat→Int)(acc:List ByteArray)(ap:Option Addr)(acap:Nat){w:World}(h:CityOL B es m hon (regOf gf n) Q Fs R nbs ks cbs rb n T cc (.slice gp n gc) kv nv sv st sg said w)(hn:n≤8)
 (hacl:Lies w w.heap.size ap acc.length (fun i=>.string (acc.getD i ByteArray.empty))) (hagr:∀i,i<n→hon i=true→∀k,k<acc.length→k<(st i).height→acc.getD k ByteArray.empty=(st i).blk k) {mx:Int} {a0 a1 a2 a9 a10 a11:Addr} (hS:SentF es w) (he0:es[0]? =some a0) (he1:es[1]? =some a1) (he2:es[2]? =some a2) (he9:es[9]? =some a9) (he11:es[11]? =some a11) (hT:TypAt w) (hmx:w.cell? ⟨13,0,none⟩=some (.int .i64 mx)) (hg:w.cell? ⟨10,0,none⟩=some (.iface 294 (.pointer (some a10))))
 (hgl:Lies w w.heap.size gp n (fun i=>.int .i64 (gf i))) (hgen:genR gf n=(regOf gf n,true)) (hd:Dom (regOf gf n)):
 Calls prog 40 #[.pointer (some ⟨cc,0,none⟩),.slice ap acc.length acap] w fun e w'=>e=.returned (.bool true)∧Below w.heap.size w w':=by
 obtain⟨iW,hiW,hz0,hz1,hz2⟩:=info_parts Tryz.infoStrB;obtain⟨g,cap,rfl,hmax,hgc,hnp⟩:=h.nodeAt;obtain⟨HO,HACL,HAGR,HSF,HE1,HE2,HE9,HE11⟩:=hide8 h hacl hagr hS he1 he2 he9 he11;have HTY:Hid (TypAt w):=hT;obtain⟨HMX,HG,H1,H11,HGL,HGEN,HD,HNP⟩:=hide8 hmx hg (hS.cell 0 _ _ rfl he0) (hS.cell 11 _ _ rfl he11) hgl hgen hd hnp;have C3:Hid (w.cell? ⟨cc,3,none⟩=some (.slice (some ⟨g,0,none⟩) n cap)):=cell_of_row w cc 3 _ _ _ h.blk;have C1:Hid (w.cell? ⟨cc,1,none⟩=some (.pointer (some ⟨rb,0,none⟩))):=cell_of_row w cc 1 _ _ _ h.blk;have C0:Hid (w.cell? ⟨cc,0,none⟩=some (.slice gp n gc)):=cell_of_row w cc 0 _ _ _ h.blk;clear h hacl hagr hS he0 he1 he2 he9 he11 hT hmx hg hgl hgen hd hnp;go_enter func40,ntmps40;go_wp2;go_loopw [5] (fun iv wr=>∃i:Nat,i≤n∧iv=.int .i64 i∧Below w.heap.size w wr) (fun iv _=>n-(intOf iv).toNat)
 case atStart=>exact⟨0,Nat.zero_le _,rfl,Below.refl _ _⟩
 obtain⟨i,hin,rfl,hb⟩:=hrel;have HB:=hide hb;have c3:wr.cell? ⟨cc,3,none⟩=some (.slice (some ⟨g,0,none⟩) n cap):=Ext.cell C3.out (Ext.of hb);clear hb;by_cases hend:i=n
 .have hge:¬(i:Int)<n:=by omega
  go_wp2;go_ret;exact⟨rfl,HB.out⟩
 have hi:i<n:=by omega
 have hlti:(i:Int)<n:=by omega
 have ck0:=Ext.cell (HNP.out i hi) (Ext.of HB.out);cases hh:hon i with
 |false=>
  have ck:wr.cell? ⟨g,i,none⟩=some (.pointer none):=by rw[←ptL_no (nbs:=nbs) hh];exact ck0
  clear ck0 hend;go_wp2;go_roundw
  case rel=>exact⟨i+1,by omega,by go_num,HB.out⟩
  case measure=>simp[intOf];omega
 |true=>
  have ck:wr.cell? ⟨g,i,none⟩=some (.pointer (some ⟨nbs i,0,none⟩)):=by rw[←ptL_yes (nbs:=nbs) hh];exact ck0
  clear ck0 hend
  go_upto_region 5 with fail
  refine rgd (S:=fun X=>Below w.heap.size w X) (HB.out.drew) (fun hH=>?_);refine takeN [(0,some 37,pA cc 0),(1,some 38,pA cc 0),(2,some 39,pA cc 1),(3,some 40,pA rb 0),(4,some 41,pA cc 0),(5,some 42,pA cc 0),(6,some 43,pA cc 0),(7,some 44,.slice gp n gc)] _ _ hH (by repeat(first|exact True.intro|(refine tkc rfl rfl (Or.inl ⟨by rfl,fun x h=>by have f0:x.cell? ⟨cc,1,none⟩=some (.pointer (some ⟨rb,0,none⟩)):=Ext.cell C1.out (Ext.of h);have f1:x.cell? ⟨cc,0,none⟩=some (.slice gp n gc):=Ext.cell C0.out (Ext.of h);go_simp⟩) ?_;simp only[AP]))) ?_;simp only[takesA,AP,pA];refine rdy1 8 (fun K hK=>?_);go_simp;refine(follow_yes rb gf gp n gc a0 (regOf gf n) _ ((HGL.out.below hH).more hH.size) (Ext.cell H1.out (Ext.of hH)) HGEN.out).mono ?_;rintro en w4 ⟨cb,hcb,rfl,hcl4,hb4⟩;have hS4:Below w.heap.size w w4:=hH.trans (hb4.mono hH.size);have HCB:Hid (w.heap.size≤cb):=Nat.le_trans hH.size hcb;obtain⟨HCL4,HB4⟩:=hide2 hcl4 hS4;refine hK.out _ _ (hS4) (fun hH=>?_);clear hK K
  try simp only[AP,AQ]
  refine takeM [(9,some 36,.tuple #[.pointer (some ⟨cb,0,none⟩),.nilIface]),(10,some 46,pA cb 0),(11,some 47,.nilIface),(12,some 6,pA cb 0),(13,some 7,.nilIface)] _ _ hH ?_;simp only[takesA,AP,pA];refine dnr ?_;clear hH hS4 hcl4 hb4 hcb;have HHT:Hid ((st i).height≤12):=(HO.out.city.ok i hi hh).hgt;obtain⟨V,hA,_⟩:=((HO.out.below HB4.out).city.node i hi hh).node;have HST:=hide (state_any (nbs i) (ks i) (cbs i) V (st i) w4 hA);have c34:w4.cell? ⟨cc,3,none⟩=some (.slice (some ⟨g,0,none⟩) n cap):=Ext.cell C3.out (Ext.of HB4.out);have ck4:w4.cell? ⟨g,i,none⟩=some (.pointer (some ⟨nbs i,0,none⟩)):=by rw[←ptL_yes (nbs:=nbs) hh];exact Ext.cell (HNP.out i hi) (Ext.of HB4.out)
  clear hA c3 ck;unfold stateA at HST;go_wp2_with fail
  refine HST.out.mono ?_;rintro e w5 ⟨rfl,hb5⟩;have HB5:Hid (Below w.heap.size w w5):=HB4.out.trans (hb5.mono HB4.out.size);have HCL5:=hide (HCL4.out.below hb5);clear hb5 HST c34 ck4;obtain⟨ht,hht⟩:∃z,z=(st i).height:=⟨_,rfl⟩;rw[←hht] at HHT ⊢;have HHE:=hide hht;have qf:=Tryz.fieldState0 (ht:Int) ((st i).round:Int) ((st i).step:Int) (st i).lr (st i).vr (st i).lv (st i).vv w5;clear hht;go_wp2;go_loopw [8,10] (fun bv hv wr=>∃k:Nat,k≤ht∧hv=.int .i64 k∧wr.ownsRow w.heap.size 9 1 bv ((st i).blocks.take k).length (((st i).blocks.take k).map .string)∧ClientAt wr cb rb (regs (regOf gf n) ((st i).blocks.take k)) (k:Int)∧Below w.heap.size w wr) (fun _ hv _=>ht-(intOf hv).toNat)
  case atStart=>exact⟨0,Nat.zero_le _,rfl,by simpa using World.ownsRow_nil w5 w.heap.size 9 1,HCL5.out,HB5.out⟩
  obtain⟨k,hkh,rfl,how,hcl,hb2⟩:=hrel;obtain⟨HB2,HCL⟩:=hide2 hb2 hcl;have hNI:=HO.out.ci.ni i hi hh;obtain⟨l,hl⟩:∃z,z=(st i).blocks.take k:=⟨_,rfl⟩;have hlk:l.length=k:=by rw[hl,List.length_take,blocks_len,←HHE.out];omega
  have HSML:Hid (∀j,j<l.length→(l.getD j ByteArray.empty).size≤24):=by rw[hl];exact(NI.fold hNI HD.out k).2
  have HFB:Hid (foldB (regOf gf n) l=some (regs (regOf gf n) l)):=by rw[hl];exact(NI.fold hNI HD.out k).1
  rw[←hl] at how HCL;obtain⟨y,hy⟩:=gen (regs (regOf gf n) l);rw[←hy] at HCL;have HDY:Hid (Dom y):=by rw[hy];exact regs_dom HD.out l
  obtain⟨lp,lcap,rfl,hlm,hll⟩:=own_lies how;obtain⟨HOW,HLL,HHL,HY,HLK⟩:=hide5 how hll hl hy hlk;have hlk12:l.length≤12:=by have h8:=HHT.out;omega
  have hk12:k≤12:=by have h8:=HHT.out;omega
  clear how hcl hb2 hNI hl hlk hy hll;by_cases hke:k=ht
  .have hkei:¬(k:Int)<(ht:Int):=by omega
   have HFR:Hid (foldR gf n l=(y,0)):=foldR_good gf n l y (by rw[HGEN.out]) (by rw[HGEN.out,HFB.out,HY.out]);have HFO:=hide (foldP_any gf gp n gc l lp lcap a0 a11 mx wr ((HGL.out.below HB2.out).more HB2.out.size) HLL.out hlm (fun j hj=>by have:=HSML.out j hj;omega) (Ext.cell H1.out (Ext.of HB2.out)) (Ext.cell H11.out (Ext.of HB2.out)) (Ext.cell HMX.out (Ext.of HB2.out)));have HXS:Hid ((st i).x=y):=by
    unfold Hid;rw[(HO.out.ci.ni i hi hh).reg,HY.out,HHL.out,List.take_of_length_le (by rw[blocks_len,←HHE.out,hke];exact Nat.le_refl _)]
   have HKH:Hid ((k:Int)=(ht:Int)):=by unfold Hid;rw[hke]
   have c02:wr.cell? ⟨cc,0,none⟩=some (.slice gp n gc):=Ext.cell C0.out (Ext.of HB2.out);clear hke;go_wp2_with fail
   refine HFO.out.mono ?_;intro e w6 hF;rw[HFR.out] at hF;obtain⟨hb6,hF⟩:=hF;rcases hF with⟨_,pv,rv,rfl,hp,hr,hpr⟩|⟨h0,_⟩|⟨h0,_⟩
   .obtain ⟨pp,pc,rfl,_⟩:=told_powers hp
    obtain⟨rp,rc,rfl,_⟩:=told_roles hr;have HB6:Hid (Below w.heap.size w w6):=HB2.out.trans (hb6.mono HB2.out.size);obtain⟨HCL6,HP6,HR6⟩:=hide3 (HCL.out.below hb6) hp hr;clear hp hr hpr hb6 HFO c02
    go_upto_region 19 with(first|(refine wpList_store_new rfl 72 _ _ rfl w6 #[.slice pp 8 pc,.string (nameB (memb y 26)),.slice rp (memb y 26).length rc] rfl rfl 72 _ rfl (by simp[Value.oneCell']) Tryz.sizeToldN ?_;intro wx hqx hbx hzx;have HBX:=hide hbx;have HQX:=hide hqx;clear hqx hbx hzx)|fail)
    obtain⟨rgb,hrgb⟩:=gen w6.heap.size;rw[←hrgb] at HQX ⊢;have HBWX:Hid (Below w.heap.size w wx):=HB6.out.trans (HBX.out.mono HB6.out.size);have HRGwx:Hid (wx.rangeAt rgb 0 [.slice pp 8 pc,.string (nameB (memb y 26)),.slice rp (memb y 26).length rc]):=row_range (l:=[.slice pp 8 pc,.string (nameB (memb y 26)),.slice rp (memb y 26).length rc]) HQX.out;obtain⟨HCLX,HPX,HRX,C3X⟩:=hide4 (HCL6.out.below HBX.out) (own_keep HP6.out HBX.out) (own_keep HR6.out HBX.out) (Ext.cell C3.out (Ext.of HBWX.out));have CKX:Hid (wx.cell? ⟨g,i,none⟩=some (.pointer (some ⟨nbs i,0,none⟩))):=by unfold Hid;rw[←ptL_yes (nbs:=nbs) hh];exact Ext.cell (HNP.out i hi) (Ext.of HBWX.out)
    clear hrgb;refine rgd (S:=fun X=>Below wx.heap.size wx X) ((Below.refl _ wx).drew) (fun hH=>?_);refine takeN [(0,some 118,.agg #[.slice pp 8 pc,.string (nameB (memb y 26)),.slice rp (memb y 26).length rc]),(1,some 119,pA cc 0),(2,some 120,pA cc 0),(3,some 121,pA cc 3),(4,some 122,.slice (some ⟨g,0,none⟩) n cap),(5,some 123,.int .i64 (i:Int)),(6,some 124,pA g i),(7,some 125,pA (nbs i) 0)] _ _ hH (by repeat(first|exact True.intro|((first|refine tkc rfl rfl (yieldsIf_load_mid (by rfl) 72 _ rfl rgb 0 rfl [.slice pp 8 pc,.string (nameB (memb y 26)),.slice rp (memb y 26).length rc] _ (fun W h=>Ext.range HRGwx.out (Ext.of h)) underlying72 rfl (by rw[Tryz.sizeToldN];rfl)) ?_|(refine tkc rfl rfl (Or.inl ⟨by rfl,fun x h=>?_⟩) ?_;focus(have f0:x.cell? ⟨cc,3,none⟩=some (.slice (some ⟨g,0,none⟩) n cap):=Ext.cell C3X.out (Ext.of h);have f1:x.cell? ⟨g,i,none⟩=some (.pointer (some ⟨nbs i,0,none⟩)):=Ext.cell CKX.out (Ext.of h);go_simp;done)));simp only[AP]))) ?_;simp only[takesA,AP,pA];refine rdy1 8 (fun K hK=>?_);go_simp;obtain⟨V7,hA7,_⟩:=((HO.out.below (HBWX.out.trans (hH.mono HBWX.out.size))).city.node i hi hh).node;refine(nodeRegistry_any hA7 (HO.out.city.ok i hi hh).dom).mono ?_;rintro en w7 ⟨qv,tv,rfl,hqpw,hqrw,_,hb7⟩;rw[HXS.out] at hqpw hqrw ⊢;obtain⟨qp,qc,rfl,hpb⟩:=told_powers hqpw;obtain⟨tp,tc,rfl,hrb⟩:=told_roles hqrw;have hS7:Below wx.heap.size wx w7:=hH.trans (hb7.mono hH.size);obtain⟨p1,c1,e1,hpa⟩:=told_powers (own_keep HPX.out hS7);obtain⟨p3,c3,e3,hra⟩:=told_roles (own_keep HRX.out hS7);cases e1;cases e3;refine hK.out _ _ (hS7) (fun hH=>?_);clear hK K
    try simp only[AP,AQ]
    refine rdy1 9 (fun K hK=>?_);go_simp;refine(keepEqual_any True y y (fun i=>y (8+(memb y 26).getD i 0)) (fun i=>y (8+(memb y 26).getD i 0)) _ _ _ _ _ _ _ _ _ _ _ _ w7 (Nat.le_trans (memb_length _ _) (by decide)) hpa hpb hra hrb (fun _=>⟨fun _ _=>rfl,rfl,fun _ _=>rfl,rfl⟩)).mono ?_;rintro en w8 ⟨⟨oe,rfl,hoe⟩,hb8⟩;obtain rfl:=hoe trivial;have hS8:Below wx.heap.size wx w8:=hS7.trans (hb8.mono hS7.size);refine hK.out _ _ (hS8) (fun hH=>?_);clear hK K
    try simp only[AP,AQ]
    refine takeM [(10,some 17,.bool true)] _ _ hH ?_;simp only[takesA,AP];refine dnr ?_;obtain⟨w9,hw9⟩:=gen w8;subst hw9;have HB89:=hide hS8;have HRGw9:Hid (w9.rangeAt rgb 0 [.slice pp 8 pc,.string (nameB (memb y 26)),.slice rp (memb y 26).length rc]):=Ext.range HRGwx.out (Ext.of HB89.out);obtain⟨HCL9,HP9,HR9⟩:=hide3 (HCLX.out.below HB89.out) (own_keep HPX.out HB89.out) (own_keep HRX.out HB89.out);have HBW9:Hid (Below w.heap.size w w9):=HBWX.out.trans (HB89.out.mono HBWX.out.size);clear hH hS7 hS8 hb8 hpa hpb hra hrb hqpw hqrw hoe hb7
    go_upto_region 20 with fail
    refine rgd (S:=fun X=>Below w9.heap.size w9 X) ((Below.refl _ w9).drew) (fun hH=>?_);refine takeN [(0,some 128,.agg #[.slice pp 8 pc,.string (nameB (memb y 26)),.slice rp (memb y 26).length rc]),(1,some 129,pA cb 0)] _ _ hH (by repeat(first|exact True.intro|((first|refine tkc rfl rfl (yieldsIf_load_mid (by rfl) 72 _ rfl rgb 0 rfl [.slice pp 8 pc,.string (nameB (memb y 26)),.slice rp (memb y 26).length rc] _ (fun W h=>Ext.range HRGw9.out (Ext.of h)) underlying72 rfl (by rw[Tryz.sizeToldN];rfl)) ?_|(refine tkc rfl rfl (Or.inl ⟨by rfl,fun x h=>?_⟩) ?_;focus(go_simp;done)));simp only[AP]))) ?_;simp only[takesA,AP,pA];refine rdy1 2 (fun K hK=>?_);go_simp;refine(clientRegistry_any cb rb y (k:Int) _ (HCL9.out.below hH) HDY.out).mono ?_;rintro en w7 ⟨qv,tv,rfl,hqpw,hqrw,_,hb7⟩;obtain⟨qp,qc,rfl,hpb⟩:=told_powers hqpw;obtain⟨tp,tc,rfl,hrb⟩:=told_roles hqrw;have hS7:Below w9.heap.size w9 w7:=hH.trans (hb7.mono hH.size);obtain⟨p1,c1,e1,hpa⟩:=told_powers (own_keep HP9.out hS7);obtain⟨p3,c3,e3,hra⟩:=told_roles (own_keep HR9.out hS7);cases e1;cases e3;refine hK.out _ _ (hS7) (fun hH=>?_);clear hK K
    try simp only[AP,AQ]
    refine rdy1 3 (fun K hK=>?_);go_simp;refine(keepEqual_any True y y (fun i=>y (8+(memb y 26).getD i 0)) (fun i=>y (8+(memb y 26).getD i 0)) _ _ _ _ _ _ _ _ _ _ _ _ w7 (Nat.le_trans (memb_length _ _) (by decide)) hpa hpb hra hrb (fun _=>⟨fun _ _=>rfl,rfl,fun _ _=>rfl,rfl⟩)).mono ?_;rintro en w8 ⟨⟨oe,rfl,hoe⟩,hb8⟩;obtain rfl:=hoe trivial;have hS8:Below w9.heap.size w9 w8:=hS7.trans (hb8.mono hS7.size);refine hK.out _ _ (hS8) (fun hH=>?_);clear hK K
    try simp only[AP,AQ]
    refine takeM [(4,some 18,.bool true)] _ _ hH ?_;simp only[takesA,AP];refine dnr ?_;have HCL10:=hide (HCL9.out.below hS8);have HBW10:Hid (Below w.heap.size w w8):=HBW9.out.trans (hS8.mono HBW9.out.size);have HHG:=hide (clientHeight_any cb rb y (k:Int) w8 HCL10.out);clear hH hS7 hS8 hb8 hpa hpb hra hrb hqpw hqrw hoe hb7;rw[HKH.out] at HHG;go_wp2_with fail
    refine HHG.out.mono ?_;rintro e wz ⟨rfl,hwz⟩;have hwy:=hwz.symm;clear hwz;subst hwy;go_wp2;go_roundw
    case rel=>exact⟨i+1,by omega,by go_num,HBW10.out⟩
    case measure=>simp[intOf];omega
   .cases h0
   cases h0
  have hkl:k<ht:=by omega
  have hkli:(k:Int)<(ht:Int):=by omega
  obtain⟨HKL,HDC⟩:=hide2 hkl (decided_city HO.out HB2.out hi hh (k:Int) a10 HG.out);have c32:wr.cell? ⟨cc,3,none⟩=some (.slice (some ⟨g,0,none⟩) n cap):=Ext.cell C3.out (Ext.of HB2.out);have ck2:wr.cell? ⟨g,i,none⟩=some (.pointer (some ⟨nbs i,0,none⟩)):=by rw[←ptL_yes (nbs:=nbs) hh];exact Ext.cell (HNP.out i hi) (Ext.of HB2.out)
  go_wp2_with fail
  refine HDC.out.mono ?_;intro e wd hDD;unfold DecidedP at hDD;rw[if_pos ⟨by omega,by have h9:ht=(st i).dec.length:=HHE.out;omega⟩,Int.toNat_natCast] at hDD;obtain⟨p5,c5,rfl,hno5,hl5,hbd⟩:=hDD;obtain⟨t5,ht5⟩:∃z,z=((st i).dec.getD k dcn0).block:=⟨_,rfl⟩;obtain⟨cf,hcf⟩:∃z,z=((st i).dec.getD k dcn0).cert:=⟨_,rfl⟩;have HBD:Hid (Below w.heap.size w wd):=HB2.out.trans (hbd.mono HB2.out.size);have HTK:Hid ((st i).blocks.take (k+1)=l++[t5]):=by
   have h9:=blk_blocks (s:=st i) (k:=k) (by rw[←HHE.out];exact hkl);unfold Hid;rw[List.take_add_one,h9,←HHL.out,ht5];rfl
  have HCG:Hid (CertG n sg y k t5 cf∧(behindR y t5).2=true∧t5.size≤24∧cf.length≤100000):=by
   have hNI:=HO.out.ci.ni i hi hh;have hk9:k<(st i).height:=by rw[←HHE.out];exact hkl
   have h9:=hNI.cert k _ (dcs_at hk9);rw[←HHL.out,←HY.out,←ht5,←hcf] at h9;have hsg:(st i).sg=sg:=HO.out.city.sgs i hi hh;rw[hsg] at h9;obtain⟨g1,r9,g2⟩:=hNI.dec k _ (blk_blocks hk9);have e9:(st i).blk k=t5:=by rw[ht5];rfl
   rw[←HHL.out,←HY.out,e9] at g1 g2;refine⟨h9,g1,quo_size HDY.out g2,?_⟩;rw[hcf];have hkd:k<(st i).dec.length:=hk9;exact(HO.out.city.ok i hi hh).cert _ (by rw[List.getD_eq_getElem?_getD,List.getElem?_eq_getElem hkd];exact List.getElem_mem hkd)
  have HAEQ:Hid (k<acc.length→acc.getD k ByteArray.empty=t5):=fun h9=>by
   rw[HAGR.out i hi hh k h9 (by rw[←HHE.out];exact hkl),ht5];rfl
  rw[←ht5,←hcf];rw[←hcf] at hl5 hno5;have HAC:=hide (accept_any R cb rb n sg y (k:Int) t5 (fun j=>cf.getD j ByteArray.empty) p5 cf.length c5 es a1 a2 a9 a11 mx wd HDY.out (by omega) (by have:=HHT.out;omega) (by have:=HCG.out.2.2.1;omega) (HCL.out.below hbd) (HO.out.below HBD.out).city.ring (fun k hk=>((HO.out.below HBD.out).city.rl k hk).2) (HSF.out.later HBD.out) HE1.out HE2.out HE9.out HE11.out (Ext.cell HTY.out (Ext.of HBD.out)) (Ext.cell HMX.out (Ext.of HBD.out)) hl5 (by have:=HCG.out.2.2.2;omega));obtain⟨HOWD,HCLD⟩:=hide2 (own_keep HOW.out hbd) (HCL.out.below hbd);clear ht5 hcf hbd hno5 hl5 HDC c32 ck2 hke;go_wp2_with fail
  refine HAC.out.mono ?_;intro e wa hAA;have hgd:∀j,j<cf.length→cf.getD j ByteArray.empty∈cf:=fun j hj=>getD_mem cf ByteArray.empty j hj;rcases hAA with⟨c,b,_,_,_,hbad⟩|⟨rfl,_,_,_,_,hcla,hbp⟩
  .exfalso;rcases hbad with⟨_,h9⟩|⟨_,_,j,hj,h9⟩|⟨_,_,_,j,hj,h9⟩|⟨_,_,_,_,h9⟩
   .rw [HCG.out.2.1] at h9;cases h9
   .rw [(HCG.out.1.1 _ (hgd j hj)).1] at h9;cases h9
   .obtain ⟨_,q1,q2,q3⟩:=HCG.out.1.1 _ (hgd j hj)
    rw[signed_of q1 q2 q3] at h9;cases h9
   exact h9 HCG.out.1.2
  have HBA:Hid (Below w.heap.size w wa):=HBD.out.trans (Below.same hbp (fun j e=>by rw[e];exact HCB.out) HBD.out.size);have HOWA0:=hide (own_blocks HOWD.out fun j hj hlt=>hbp.block j hlt (fun e=>own_ne HOWD.out HCLD.out (by decide) (e▸hj)));have HCLA:=hide hcla;clear hcla hbp HAC hgd;obtain⟨wb,hwb⟩:=gen (wa.alloc (.cells #[.string t5] 9));have hbb:Below wa.heap.size wa wb:=by rw[hwb];exact(Below.refl _ wa).alloc (Nat.le_refl _) _
  have hqb:wb.heap[wa.heap.size]? =some (.cells #[.string t5] 9 (0,0)):=by rw[hwb];exact heap_alloc_new wa _
  have HOWB:=hide (own_keep HOWA0.out hbb);have HBB:Hid (Below w.heap.size w wb):=HBA.out.trans (hbb.mono HBA.out.size);have HCLB:=hide (HCLA.out.below hbb);have HN1:Hid (∀(j:Nat) (u:Value),[Value.string t5][j]? =some u→wb.cell? ((⟨wa.heap.size,0,none⟩:Addr).add j)=some u):=fun j u hj=>by
   rw[addr_add,Nat.zero_add,cell_of_row _ wa.heap.size j _ _ _ hqb];simpa using hj
  have HWB:=hide hwb;clear hbb hqb hwb;by_cases hka:k<acc.length;focus
   have hkai:(k:Int)<acc.length:=by omega
   obtain⟨ab,ao,rfl,habl,hac⟩:=HACL.out k hka;have cac:wa.cell? ⟨ab,ao+k,none⟩=some (.string t5):=by rw[HBA.out.cell habl,←HAEQ.out hka];exact hac
   clear hac hka
  rotate_left;focus
   have hkai:¬(k:Int)<acc.length:=by omega
   clear hka
  rotate_left;all_goals
   go_wp2_with (at_builtin;rw[←HWB.out];refine wpList_append_at _ rfl _ _ 30 rfl w.heap.size 9 iW (.string ByteArray.empty) 1 16 underlying30 hiW hz0 hz1 hz2 rfl (by decide) (.slice lp l.length lcap) l.length (l.map .string) rfl HOWB.out ⟨wa.heap.size,0,none⟩ 1 1 [.string t5] rfl rfl HN1.out (fun u hu=>by simp at hu;subst hu;rfl) (by unfold maxLen;omega) (by omega) HBB.out.size ?_;intro v9 w9 hown9 hgrow9 hat9;obtain⟨p9,c9,rfl⟩:=own_slice hown9;have HOWN9:=hide hown9;have HCL9:Hid (ClientAt w9 cb rb (behindR y t5).1 ((k:Int)+1)):=(hgrow9.block cb (row_lt0 HCLB.out) (fun e=>own_ne HOWB.out HCLB.out (by decide) e.symm)).trans HCLB.out;have HB9:Hid (Below w.heap.size w w9):=HBB.out.trans ⟨hgrow9.os,hgrow9.tape,hgrow9.output,hgrow9.size,fun j hj=>hgrow9.block j (Nat.lt_of_lt_of_le hj HBB.out.size) (fun e=>absurd (own_geP HOWB.out e.symm) (Nat.not_le.2 hj))⟩;clear hown9 hgrow9 hat9)
   try go_wp2
   go_roundw
   case rel=>exact⟨k+1,HKL.out,by go_num,by rw[HTK.out,List.length_append,List.map_append];exact HOWN9.out,by rw[HTK.out,regs_snoc,←HY.out];exact HCL9.out,HB9.out⟩
   case measure=>have h9:=HKL.out;simp[intOf];omega
def RawP(w:World)(e:Ending)(w':World):Prop:=∃z:Int,e=.returned (.int .i64 z)∧in64 z∧Below w.heap.size w w'
theorem raw_any(ak at1 af ac mk mh mr mf mv:Int)(mn:Bool)(ms rec:ByteArray)(w:World):
 Calls prog 39 #[.agg #[.int .i64 ak,.int .i64 at1,.int .i64 af,.int .i64 ac,.int .i64 mk,.int .i64 mh,.int .i64 mr,.int .i64 mf,.int .i64 mv,.bool mn,.string ms,.string rec]] w (RawP w):=by
 obtain⟨w1,hw1⟩:=gen (w.alloc (.cells #[.int .i64 ak,.int .i64 at1,.int .i64 af,.int .i64 ac,.int .i64 mk,.int .i64 mh,.int .i64 mr,.int .i64 mf,.int .i64 mv,.bool mn,.string ms,.string rec] 81));have HB1:Hid (Below w.heap.size w w1):=by rw[hw1];exact(Below.refl _ w).alloc (Nat.le_refl _) _
 have hq1:w1.heap[w.heap.size]? =some (.cells #[.int .i64 ak,.int .i64 at1,.int .i64 af,.int .i64 ac,.int .i64 mk,.int .i64 mh,.int .i64 mr,.int .i64 mf,.int .i64 mv,.bool mn,.string ms,.string rec] 81 (0,0)):=by rw[hw1];exact heap_alloc_new w _
 have c2:w1.cell? ⟨w.heap.size,2,none⟩=some (.int .i64 af):=cell_of_row w1 _ 2 _ _ _ hq1;have c3:w1.cell? ⟨w.heap.size,3,none⟩=some (.int .i64 ac):=cell_of_row w1 _ 3 _ _ _ hq1;have c11:w1.cell? ⟨w.heap.size,11,none⟩=some (.string rec):=cell_of_row w1 _ 11 _ _ _ hq1;obtain⟨z1,hz1⟩:∃z,IntKind.i64.wrap (af+ac)=z:=⟨_,rfl⟩;obtain⟨z2,hz2⟩:∃z,IntKind.i64.wrap (z1+(rec.size:Int))=z:=⟨_,rfl⟩;have HZ:Hid (in64 z2):=by rw[←hz2];exact wrap_in _
 have HW1:=hide hw1;clear hq1 hw1;go_enter func39,ntmps39
 go_upto_region 1 with fail
 rw[←HW1.out];go_wp2;go_ret;exact⟨z2,rfl,HZ.out,HB1.out⟩
def valsL:List ByteArray:=[⟨#[]⟩,⟨#[106,97,49]⟩,⟨#[106,98,50]⟩,⟨#[118,48,49]⟩,⟨#[118,50,48]⟩,⟨#[108,97]⟩,⟨#[120]⟩,⟨#[106,97,49,44,106,98,50]⟩]
theorem vals_small(k:Nat):(valsL.getD k ByteArray.empty).size≤24:=by
 match k with
 |0=>decide
 |1=>decide
 |2=>decide
 |3=>decide
 |4=>decide
 |5=>decide
 |6=>decide
 |7=>decide
 |k+8=>exact Nat.zero_le _
theorem vals_at(k:Nat)(h:k<8):(#[.string ⟨#[]⟩,.string ⟨#[106,97,49]⟩,.string ⟨#[106,98,50]⟩,.string ⟨#[118,48,49]⟩,.string ⟨#[118,50,48]⟩,.string ⟨#[108,97]⟩,.string ⟨#[120]⟩,.string ⟨#[106,97,49,44,106,98,50]⟩]:Array Value)[k]? =some (.string (valsL.getD k ByteArray.empty)):=by
 match k,h with
 |0,_=>rfl
 |1,_=>rfl
 |2,_=>rfl
 |3,_=>rfl
 |4,_=>rfl
 |5,_=>rfl
 |6,_=>rfl
 |7,_=>rfl
def ValP(w:World)(e:Ending)(w':World):Prop:=∃t:ByteArray,e=.returned (.string t)∧t.size≤24∧Below w.heap.size w w'
theorem values_any(c:Int)(w:World)(hc:in64 c):Calls prog 38 #[.int .i64 c] w (ValP w):=by
 obtain⟨k,hk⟩:=gen (pickN c 8);have hk8:k<8:=by rw[hk];exact pickN_lt (by omega)
 have hk8i:(k:Int)<8:=by omega
 have HPK:Hid (∀W,Calls prog 26 #[.int .i64 c,.int .i64 8] W fun e w'=>e=.returned (.int .i64 (k:Int))∧w'=W):=fun W=>by rw[hk];exact pick_at c 8 W hc.1 hc.2 (by omega) (by omega)
 obtain⟨w1,hw1⟩:=gen (w.alloc (.cells #[.string ⟨#[]⟩,.string ⟨#[106,97,49]⟩,.string ⟨#[106,98,50]⟩,.string ⟨#[118,48,49]⟩,.string ⟨#[118,50,48]⟩,.string ⟨#[108,97]⟩,.string ⟨#[120]⟩,.string ⟨#[106,97,49,44,106,98,50]⟩] 9));have HB1:Hid (Below w.heap.size w w1):=by rw[hw1];exact(Below.refl _ w).alloc (Nat.le_refl _) _
 obtain⟨t,ht⟩:=gen (valsL.getD k ByteArray.empty);have ck:w1.cell? ⟨w.heap.size,k,none⟩=some (.string t):=by rw[hw1,cell_of_row _ _ k _ _ _ (heap_alloc_new w _),ht];exact vals_at k hk8
 have HTS:Hid (t.size≤24):=by rw[ht];exact vals_small k
 have HW1:=hide hw1;clear hk ht hw1;go_enter func38,ntmps38;go_wp2_with fail
 rw[←HW1.out];refine(HPK.out _).mono ?_;rintro e w2 ⟨rfl,hw2⟩;have hw3:=hw2.symm;clear hw2;subst hw3;go_wp2;go_ret;exact⟨t,rfl,HTS.out,HB1.out⟩
end Go.Proofs.YtcfjhbcpjpgodaaGreatDoor

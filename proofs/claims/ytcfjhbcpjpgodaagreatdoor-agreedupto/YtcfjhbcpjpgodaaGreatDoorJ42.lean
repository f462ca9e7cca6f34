/- Proved here: have those who lie less than a third? -/
import Derived.Test.YtcfjhbcpjpgodaaGreatDoorJ34
import Derived.Test.YtcfjhbcpjpgodaaGreatDoorJ32
import Derived.Test.YtcfjhbcpjpgodaaGreatDoorJ30
import Derived.Test.YtcfjhbcpjpgodaaGreatDoorJ36
import Derived.Test.YtcfjhbcpjpgodaaGreatDoorJ17
import Derived.Test.YtcfjhbcpjpgodaaGreatDoorTakeL
namespace Go.Proofs.YtcfjhbcpjpgodaaGreatDoor
open Go.RowKit Go.Proofs.Tryz
set_option linter.unusedSimpArgs false
set_option linter.unusedVariables false
set_option maxRecDepth 100000
set_option maxHeartbeats 12800000
variable{n k B rb T cc:Nat}{hon:Nat→Bool}{x x0:Nat→Int}{w:World}{es:List Addr}{m:Int}{Q:Nat→Option Obj}{Fs:Nat→Nat→Prop}{R:Nat→Prop}{nbs ks cbs:Nat→Nat}{gv kv nv sv:Value}{st:Nat→NodeS}{sg:Nat→List ByteArray}{said:List ByteArray}
def lessB(n:Nat)(hon:Nat→Bool)(x:Nat→Int):Bool:=decide (3*powB x (lieB n hon) 8<sumTo x 8)
theorem lessB_yes(h:lessB n hon x=true):Less n hon x:=of_decide_eq_true (p:=3*powB x (lieB n hon) 8<sumTo x 8) h
theorem powB_bd(hx:Dom x)(b:Nat→Bool):∀k,0≤powB x b k∧powB x b k≤9*k
 |0=>by simp[powB]
 |k+1=>by
  have h1:=powB_bd hx b k;have h2:=hx k;simp only[powB];split<;>omega
theorem less_any(hon:Nat→Bool)(nbs:Nat→Nat)(n cc g cap:Nat)(x:Nat→Int)(p:Option Addr)(pc:Nat)(w:World)(hn:n≤8)(hx:Dom x)(hl:Lies w w.heap.size p 8 (fun i=>.int .i64 (x i)))(hc:w.cell? ⟨cc,3,none⟩=some (.slice (some ⟨g,0,none⟩) n cap))(hp:∀j,j<n→w.cell? ⟨g,j,none⟩=some (ptL hon nbs j)):
 Calls prog 87 #[.pointer (some ⟨cc,0,none⟩),.slice p 8 pc] w fun e w'=>e=.returned (.bool (lessB n hon x))∧w'=w:=by
 obtain⟨HL,HX,HP⟩:=hide3 hl hx hp;clear hl hx hp;go_enter func87,ntmps87;go_wp2
 go_loop [5,6,7] (fun va vb i=>∃j:Nat,j≤8∧i=.int .i64 j∧va=.int .i64 (sumTo x j)∧vb=.int .i64 (powB x (lieB n hon) j)) (fun _ _ i=>8-(intOf i).toNat)
 case atStart=>exact⟨0,Nat.zero_le _,rfl,rfl,rfl⟩
 obtain⟨j,hj,rfl,rfl,rfl⟩:=hrel;obtain⟨s0,hs0⟩:=gen (sumTo x j);have hsb:0≤s0∧s0≤9*j:=by rw[hs0];exact sumTo_bound x j (fun i _=>HX.out i)
 obtain⟨hs1,hs2⟩:=hsb;obtain⟨b0,hb0⟩:=gen (powB x (lieB n hon) j);have hbb:0≤b0∧b0≤9*j:=by rw[hb0];exact powB_bd HX.out _ j
 obtain⟨hb1,hb2⟩:=hbb;rw[←hs0,←hb0];by_cases hend:j=8
 .subst hend;obtain⟨HS,HB⟩:=hide2 hs0 hb0;by_cases hlt:3*b0<s0
  .have HD:Hid (lessB n hon x=true):=decide_eq_true (by rw[←hs0,←hb0];exact hlt);clear hs0 hb0;go_wp2;go_ret;rw[HD.out];exact⟨rfl,rfl⟩
  have HD:Hid (lessB n hon x=false):=decide_eq_false (by rw[←hs0,←hb0];exact hlt);clear hs0 hb0;go_wp2;go_ret;rw[HD.out];exact⟨rfl,rfl⟩
 have hlt2:(j:Int)<8:=by omega
 obtain⟨b,o,rfl,-,hcx⟩:=HL.out j (by omega);obtain⟨xj,hxj⟩:=gen (x j);have hcj:w.cell? ⟨b,o+j,none⟩=some (.int .i64 xj):=by rw[hxj];exact hcx
 have hxb:0≤xj∧xj≤9:=by rw[hxj];exact HX.out j
 obtain⟨hx0,hx9⟩:=hxb;have HSS:Hid (sumTo x (j+1)=s0+xj):=by rw[hs0,hxj];rfl
 have HBS:Hid (powB x (lieB n hon) (j+1)=b0+if lieB n hon j=true then xj else 0):=by rw[hb0,hxj];rfl
 by_cases hjn:j<n
 .have hjni:(j:Int)<n:=by omega
  cases hh:hon j with
  |true=>
   have ck:w.cell? ⟨g,j,none⟩=some (.pointer (some ⟨nbs j,0,none⟩)):=by rw[HP.out j hjn,ptL_yes hh]
   have HL0:Hid (lieB n hon j=false):=by unfold Hid lieB;rw[hh];simp
   clear hend hcx hxj hs0 hb0 hh;go_wp2
   go_round
   case rel=>exact⟨j+1,by omega,by go_num,by rw[HSS.out],by rw[HBS.out,HL0.out];simp⟩
   case measure=>simp[intOf];omega
  |false=>
   have ck:w.cell? ⟨g,j,none⟩=some (.pointer none):=by rw[HP.out j hjn,ptL_no hh]
   have HL0:Hid (lieB n hon j=true):=by unfold Hid lieB;rw[hh,decide_eq_true hjn];rfl
   clear hend hcx hxj hs0 hb0 hh;go_wp2
   go_round
   case rel=>exact⟨j+1,by omega,by go_num,by rw[HSS.out],by rw[HBS.out,HL0.out];rfl⟩
   case measure=>simp[intOf];omega
 have hjni:¬(j:Int)<n:=by omega
 have HL0:Hid (lieB n hon j=false):=by unfold Hid lieB;rw[decide_eq_false hjn];rfl
 clear hend hcx hxj hs0 hb0 hjn;go_wp2
 go_round
 case rel=>exact⟨j+1,by omega,by go_num,by rw[HSS.out],by rw[HBS.out,HL0.out];simp⟩
 case measure=>simp[intOf];omega
theorem Tryz.nilEq(W:World):(binOp .eql 30 (.slice none 0 0) (.slice none 0 0)).run prog W=.ok (.bool true) W:=by kernel_rfl
theorem Tryz.nilNe(b o n c:Nat)(W:World):(binOp .eql 30 (.slice (some ⟨b,o,none⟩) n c) (.slice none 0 0)).run prog W=.ok (.bool false) W:=by kernel_rfl
theorem own_fr{base:Nat}{v:Value}{fr:Nat→ByteArray}(h:w.ownsRow base 9 1 v n ((List.range n).map fun i=>.string (fr i))):∃p c,v=.slice p n c∧NilOr p n c∧Lies w w.heap.size p n (fun i=>.string (fr i)):=by
 rcases h.2 with⟨rfl,hn⟩|⟨gb,cap,cur,rfl,hb,hg,hnc,hcm,hcs,ht⟩
 .subst hn;exact⟨none,0,rfl,Or.inl ⟨rfl,rfl,rfl⟩,fun i hi=>by omega⟩
 refine⟨_,cap,rfl,Or.inr ⟨gb,0,rfl⟩,fun i hi=>⟨gb,0,rfl,row_lt0 hg,?_⟩⟩;rw[cell_of_row w gb (0+i) _ _ _ hg,Nat.zero_add];have e1:(cur.toList.take (n*1))[i]? =((List.range n).map fun i=>Value.string (fr i))[i]? :=by rw[ht]
 rw[List.getElem?_take,if_pos (by omega)] at e1;rw[←Array.getElem?_toList,e1];simp[hi]
def CloneP(n:Nat)(fr:Nat→ByteArray)(w:World)(e:Ending)(w':World):Prop:=∃p' c',e=.returned (.slice p' n c')∧NilOr p' n c'∧Lies w' w'.heap.size p' n (fun i=>.string (fr i))∧Below w.heap.size w w'
theorem cloneT_any(p:Option Addr)(n c:Nat)(fr:Nat→ByteArray)(w:World)(hp:NilOr p n c)(hl:Lies w w.heap.size p n (fun i=>.string (fr i)))(hn:n≤4000000000000):
 Calls prog 125 #[.slice p n c] w (CloneP n fr w):=by
 obtain⟨iW,hiW,hz0,hz1,hz2⟩:=info_parts Tryz.infoStrB;have HL:=hide hl;clear hl;rcases hp with⟨rfl,rfl,rfl⟩|⟨b,o,rfl⟩
 .have q1:(binOp .eql 30 (.slice none 0 0) (.slice none 0 0)).run prog w=.ok (.bool true) w:=Tryz.nilEq w;go_enter func125,ntmps125;go_wp2;go_ret;exact⟨none,0,rfl,Or.inl ⟨rfl,rfl,rfl⟩,HL.out,Below.refl _ _⟩
 have q1:(binOp .eql 30 (.slice (some ⟨b,o,none⟩) n c) (.slice none 0 0)).run prog w=.ok (.bool false) w:=Tryz.nilNe b o n c w;go_enter func125,ntmps125;have hq:(w.alloc (.cells #[] 9)).heap[w.heap.size]? =some (.cells (#[]:Array Value) 9 (0,0)):=heap_alloc_new w _;have HOWN:Hid ((w.alloc (.cells #[] 9)).ownsRow 0 9 1 (.slice (some ⟨w.heap.size,0,none⟩) 0 0) 0 []):=own_of_row (l:=[]) hq (Nat.zero_le _) (Nat.zero_le _);have hb1:Below w.heap.size w (w.alloc (.cells #[] 9)):=(Below.refl _ w).alloc (Nat.le_refl _) _;obtain⟨HL1,HB1⟩:=hide2 ((HL.out.below hb1).more hb1.size) hb1;clear hb1 hq;go_wp2_with (at_builtin;refine wpList_plain rfl fun K hK=>wp_append_texts _ _ 30 rfl 0 9 iW (.string ByteArray.empty) 16 underlying30 hiW hz0 hz1 hz2 rfl (.slice (some ⟨w.heap.size,0,none⟩) 0 0) 0 [] rfl HOWN.out (some ⟨b,o,none⟩) n c fr rfl (Or.inr ⟨b,o,rfl⟩) HL1.out (by unfold maxLen;omega) (by omega) (Nat.zero_le _) (fun v7 w7 hown hgrow hat=>hK _ _ ?_);clear hK K;rw[List.nil_append,Nat.zero_add] at hown;obtain⟨p7,c7,hv7,hno7,hl7⟩:=own_fr hown;subst hv7;have HEND:Hid (NilOr p7 n c7∧Lies w7 w7.heap.size p7 n (fun i=>.string (fr i))∧Below w.heap.size w w7):=⟨hno7,hl7,HB1.out.trans ⟨hgrow.os,hgrow.tape,hgrow.output,hgrow.size,fun k hk=>hgrow.block k (Nat.lt_of_lt_of_le hk HB1.out.size) (fun e=>by cases e;exact absurd hk (Nat.lt_irrefl _))⟩⟩;clear hown hgrow hat hno7 hl7)
 go_ret;exact⟨p7,c7,rfl,HEND.out⟩
theorem Tryz.sizeDcn:(prog.info? 175).map (·.size)=some 4:=by kernel_rfl
theorem dcnL_at0:∀(l:List (DcnV×Value)) (j:Nat) (d:DcnV) (cv:Value),l[j]? =some (d,cv)→(dcnL l)[j*4+0]? =some (.string d.block)
 | [],_,_,_,h=>by simp at h
 |a::l,j,d,cv,h=>by
  have e1:dcnL (a::l)=(dcnC a).toList++dcnL l:=rfl;cases j with
  |zero=>
   simp only[List.getElem?_cons_zero] at h;cases h;rfl
  |succ j=>
   rw[List.getElem?_cons_succ] at h;rw[e1,List.getElem?_append_right (by show 4≤(j+1)*4+0;omega),show(j+1)*4+0-(dcnC a).toList.length=j*4+0 by show(j+1)*4+0-4=_;omega];exact dcnL_at0 l j d cv h
theorem dcn_block{g cap:Nat}{ds:List (DcnV×Value)}{d:DcnV}{cv dv:Value}(h:w.ownsRow 0 175 4 dv ds.length (dcnL ds))(hv:dv=.slice (some ⟨g,0,none⟩) n cap)(hl:ds.length=n)(hk:k<n)(hd:ds[k]? =some (d,cv)):w.cell? ⟨g,k*4+0,none⟩=some (.string d.block):=by
 subst hv;rcases h.2 with⟨e,_⟩|⟨g',cap',cur,e,hb,hg,hnc,hcm,hcs,ht⟩
 .cases e
 cases e;rw[cell_of_row w g _ _ _ _ hg];have e1:(cur.toList.take (ds.length*4))[k*4+0]? =(dcnL ds)[k*4+0]? :=by rw[ht]
 rw[List.getElem?_take,if_pos (by omega)] at e1;rw[←Array.getElem?_toList,e1];exact dcnL_at0 ds k d cv hd
def DecidedP(s:NodeS)(h:Int)(a:Addr)(w:World)(e:Ending)(w':World):Prop:=
 if 0≤h∧h<(s.dec.length:Int) then ∃p c,e=.returned (.tuple #[.string (s.dec.getD h.toNat dcn0).block,.slice p (s.dec.getD h.toNat dcn0).cert.length c,.nilIface])∧NilOr p (s.dec.getD h.toNat dcn0).cert.length c∧Lies w' w'.heap.size p (s.dec.getD h.toNat dcn0).cert.length (fun i=>.string ((s.dec.getD h.toNat dcn0).cert.getD i ByteArray.empty))∧Below w.heap.size w w'
 else e=.returned (.tuple #[.string ⟨#[]⟩,.slice none 0 0,.iface 294 (.pointer (some a))])∧Below w.heap.size w w'
theorem decided_any(nb kb cb:Nat)(V:NodeV)(s:NodeS)(h:Int)(a:Addr)(w:World)(hA:NodeAt nb kb cb V s w)(hh:s.dec.length≤12)(hcl:∀d∈s.dec,d.cert.length≤100000)(hg:w.cell? ⟨10,0,none⟩=some (.iface 294 (.pointer (some a)))):
 Calls prog 74 #[.pointer (some ⟨nb,0,none⟩),.int .i64 h] w (DecidedP s h a w):=by
 by_cases hin:0≤h∧h<(s.dec.length:Int)
 .obtain ⟨k,hk⟩:∃k:Nat,h=(k:Int):=⟨h.toNat,by omega⟩
  subst hk;have hkl:k<s.dec.length:=by omega
  have HP:Hid (∀e w',(∃p c,e=.returned (.tuple #[.string (s.dec.getD k dcn0).block,.slice p (s.dec.getD k dcn0).cert.length c,.nilIface])∧NilOr p (s.dec.getD k dcn0).cert.length c∧Lies w' w'.heap.size p (s.dec.getD k dcn0).cert.length (fun i=>.string ((s.dec.getD k dcn0).cert.getD i ByteArray.empty))∧Below w.heap.size w w')→DecidedP s (k:Int) a w e w'):=fun e w' hx=>by
   unfold DecidedP;rw[if_pos hin,Int.toNat_natCast];exact hx
  obtain⟨g,cap,cv,hdv,hmax,hds,c1,c2,c3,⟨C,hC,hCs⟩,hcap⟩:=hA.dcnAt k hkl;obtain⟨d,hd⟩:=gen (s.dec.getD k dcn0);rw[←hd] at hds c1 c3 HP;have hdm:(d,cv)∈V.ds:=List.mem_of_getElem? hds;have hcert:w.ownsRow 0 9 1 cv d.cert.length (d.cert.map .string):=hA.cert (d,cv) hdm;have hdl:d.cert.length≤100000:=hcl d (by rw[←hA.eds];exact List.mem_map.2 ⟨(d,cv),hdm,rfl⟩);have c0:w.cell? ⟨g,k*4+0,none⟩=some (.string d.block):=by
   have hl:V.ds.length=s.dec.length:=by
    have e:=congrArg List.length hA.eds;rw[List.length_map] at e;exact e
   exact dcn_block hA.dec hdv hl hkl hds
  obtain⟨cp,cc,hcv⟩:=own_slice hcert;subst hcv;have c35:w.cell? ⟨nb,35,none⟩=some (.slice (some ⟨g,0,none⟩) s.dec.length cap):=by rw[←hdv];exact hA.cell 35 rfl
  have HRG:Hid (w.rangeAt g (k*4) [.string d.block,.string d.prop,.slice cp d.cert.length cc,.bool d.told]):=fun j v hv=>by
   match j,hv with
   |0,hv=>cases hv;exact c0
   |1,hv=>cases hv;exact c1
   |2,hv=>cases hv;exact c2
   |3,hv=>cases hv;exact c3
   |j+4,hv=>cases hv
  obtain⟨q5,q6,e5,_,hl5⟩:=own_lies hcert;cases e5;obtain⟨HLC,HNO⟩:=hide2 hl5 (own_nilorC hcert);have hki:(k:Int)<s.dec.length:=by omega
  have hk0:¬(k:Int)<0:=by omega
  have hge:¬(s.dec.length:Int)≤(k:Int):=by omega
  clear hA hdv hds c1 c2 c3 c0 hC hCs hcap hdm hcert hcl hd hg hin hkl hl5;go_enter func74,ntmps74
  go_upto_region 4 with(first|(refine wpList_load_mid rfl 175 _ rfl g (k*4) rfl [.string d.block,.string d.prop,.slice cp d.cert.length cc,.bool d.told] _ HRG.out underlying175 rfl (by rw[Tryz.sizeDcn];rfl) ?_)|(refine wpList_store_new rfl 175 _ _ rfl w #[.string d.block,.string d.prop,.slice cp d.cert.length cc,.bool d.told] rfl rfl 175 _ rfl (by simp[Value.oneCell']) Tryz.sizeDcn ?_;intro w3 hq3 hb3 hz3;have HB3:=hide hb3;have HQ3:=hide hq3;clear hq3 hb3 hz3)|fail)
  have c3b:w3.cell? ⟨w.heap.size,0,none⟩=some (.string d.block):=cell_of_row w3 w.heap.size 0 _ _ _ HQ3.out;have c3c:w3.cell? ⟨w.heap.size,2,none⟩=some (.slice cp d.cert.length cc):=cell_of_row w3 w.heap.size 2 _ _ _ HQ3.out;obtain⟨HC3b,HC3c⟩:=hide2 c3b c3c;clear c3b c3c;refine rgd (S:=fun X=>Below w3.heap.size w3 X) ((Below.refl _ w3).drew) (fun hH=>?_);refine takeN [(0,some 27,pA w.heap.size 0),(1,some 28,.string d.block),(2,some 29,pA w.heap.size 2),(3,some 30,.slice cp d.cert.length cc)] _ _ hH (by repeat(first|exact True.intro|(refine tkc rfl rfl (Or.inl ⟨by rfl,fun x h=>by have f0:x.cell? ⟨w.heap.size,0,none⟩=some (.string d.block):=Ext.cell HC3b.out (Ext.of h);have f1:x.cell? ⟨w.heap.size,2,none⟩=some (.slice cp d.cert.length cc):=Ext.cell HC3c.out (Ext.of h);go_simp⟩) ?_;simp only[AP]))) ?_;simp only[takesA,AP,pA];refine rdy1 4 (fun K hK=>?_);go_simp;refine(cloneT_any cp d.cert.length cc (fun i=>d.cert.getD i ByteArray.empty) _ HNO.out ((HLC.out.below (HB3.out.trans (hH.mono HB3.out.size))).more (Nat.le_trans HB3.out.size hH.size)) (by omega)).mono ?_;rintro en X5 ⟨p5,c5,rfl,hno5,hl5,hb5⟩;have hS5:Below w3.heap.size w3 X5:=hH.trans (hb5.mono hH.size);have HEND:Hid (NilOr p5 d.cert.length c5∧Lies X5 X5.heap.size p5 d.cert.length (fun i=>.string (d.cert.getD i ByteArray.empty))∧Below w.heap.size w X5):=⟨hno5,hl5,HB3.out.trans (hS5.mono HB3.out.size)⟩;refine hK.out _ _ (hS5) (fun hH=>?_);clear hK K
  try simp only[AP,AQ]
  refine takeM [(5,some 4,.string d.block),(6,some 5,.slice p5 d.cert.length c5),(7,some 6,.nilIface)] _ _ hH ?_;simp only[takesA,AP];refine dnr ?_;clear hH hS5 hno5 hl5 hb5;go_wp2
  go_ret3
  exact HP.out _ _ ⟨p5,c5,rfl,HEND.out⟩
 have HP:Hid (∀e w',e=.returned (.tuple #[.string ⟨#[]⟩,.slice none 0 0,.iface 294 (.pointer (some a))])∧Below w.heap.size w w'→DecidedP s h a w e w'):=fun e w' hx=>by
  unfold DecidedP;rw[if_neg hin];exact hx
 have HG:=hide hg;have c35:w.cell? ⟨nb,35,none⟩=some V.dv:=hA.cell 35 rfl;have hdl:∃p c,V.dv=.slice p s.dec.length c:=by
  obtain⟨p,c,e⟩:=own_slice hA.dec;have hl:V.ds.length=s.dec.length:=by
   have e:=congrArg List.length hA.eds;rw[List.length_map] at e;exact e
  exact⟨p,c,by rw[e,hl]⟩
 obtain⟨p,c,hdv⟩:=hdl;rw[hdv] at c35;clear hA hcl hdv;by_cases h0:h<0;focus
  clear hin
 rotate_left;focus
  have hge:(s.dec.length:Int)≤h:=by omega
  clear hin
 rotate_left;all_goals
  go_enter func74,ntmps74;have c10:=HG.out;go_wp2_with fail
  go_quiet (fail)
  go_wp2
  go_ret3
  exact HP.out _ _ ⟨rfl,below_drewN (Below.refl _ w) _⟩
def NodeS.blk(s:NodeS)(k:Nat):ByteArray:=(s.dec.getD k dcn0).block
theorem blk_blocks{s:NodeS}(h:k<s.height):s.blocks[k]? =some (s.blk k):=by
 unfold NodeS.blocks NodeS.blk;have h':k<s.dec.length:=h;rw[List.getElem?_map,List.getD_eq_getElem?_getD,List.getElem?_eq_getElem h'];rfl
def SeenL(hon:Nat→Bool)(st:Nat→NodeS)(k i:Nat)(t:ByteArray)(first:Bool):Prop:=first=true∨(first=false∧∃j,j<i∧hon j=true∧k<(st j).height∧t=(st j).blk k)
theorem decided_city{W:World}(h:CityOL B es m hon x0 Q Fs R nbs ks cbs rb n T cc gv kv nv sv st sg said w)(hW:Below w.heap.size w W){i:Nat}(hi:i<n)(hh:hon i=true)(k:Int)(a:Addr)(hg:w.cell? ⟨10,0,none⟩=some (.iface 294 (.pointer (some a)))):
 Calls prog 74 #[.pointer (some ⟨nbs i,0,none⟩),.int .i64 k] W (DecidedP (st i) k a W):=by
 obtain⟨V,hA,_⟩:=((h.below hW).city.node i hi hh).node;exact decided_any (nbs i) (ks i) (cbs i) V (st i) k a W hA (h.city.ok i hi hh).hgt (h.city.ok i hi hh).cert (Ext.cell hg (Ext.of hW))
theorem agreed_any(h:CityOL B es m hon x0 Q Fs R nbs ks cbs rb n T cc gv kv nv sv st sg said w)(hn:n≤8)(below:Int)(a:Addr)(hg:w.cell? ⟨10,0,none⟩=some (.iface 294 (.pointer (some a))))
 (hag:∀k:Nat,k<12→(k:Int)<below→∀i j,i<n→hon i=true→j<n→hon j=true→k<(st i).height→k<(st j).height→(st i).blk k=(st j).blk k):
 Calls prog 35 #[.pointer (some ⟨cc,0,none⟩),.int .i64 below] w fun e w'=>e=.returned (.bool true)∧Below w.heap.size w w':=by
 obtain⟨g,cap,rfl,hmax,hgc,hnp⟩:=h.nodeAt;obtain⟨HO,HG,HAG,HNP⟩:=hide4 h hg hag hnp;have C3:Hid (w.cell? ⟨cc,3,none⟩=some (.slice (some ⟨g,0,none⟩) n cap)):=cell_of_row w cc 3 _ _ _ h.blk;clear h hg hag hnp;go_enter func35,ntmps35;go_wp2;go_loopw [5] (fun iv wr=>∃k:Nat,k≤12∧iv=.int .i64 k∧Below w.heap.size w wr) (fun iv _=>12-(intOf iv).toNat)
 case atStart=>exact⟨0,Nat.zero_le _,rfl,Below.refl _ _⟩
 obtain⟨k,hk,rfl,hb⟩:=hrel;have HB:=hide hb;clear hb;by_cases hend:k=12
 .have hge:¬(k:Int)<12:=by omega
  go_wp2;go_ret;exact⟨rfl,HB.out⟩
 have hlt:(k:Int)<12:=by omega
 by_cases hbl:(k:Int)<below
 .obtain ⟨wo,hwo⟩:=gen wr
  subst hwo;go_wp2;go_loopw [6,7,8] (fun vv fb iv wr=>∃(i:Nat) (t:ByteArray) (first:Bool),i≤n∧iv=.int .i64 i∧vv=.string t∧fb=.bool first∧SeenL hon st k i t first∧Below w.heap.size w wr) (fun _ _ iv _=>n-(intOf iv).toNat)
  case atStart=>exact⟨0,_,true,Nat.zero_le _,rfl,rfl,rfl,Or.inl rfl,HB.out⟩
  obtain⟨i,t,first,hin,rfl,rfl,rfl,hseen,hb2⟩:=hrel;obtain⟨HSE,HB2⟩:=hide2 hseen hb2;have c3:wr.cell? ⟨cc,3,none⟩=some (.slice (some ⟨g,0,none⟩) n cap):=Ext.cell C3.out (Ext.of hb2);clear hseen hb2;by_cases hendi:i=n
  .have hgei:¬(i:Int)<n:=by omega
   go_wp2;go_roundw
   case rel=>exact⟨k+1,by omega,by go_num,HB2.out⟩
   case measure=>simp[intOf];omega
  have hi:i<n:=by omega
  have hlti:(i:Int)<n:=by omega
  have ck0:=Ext.cell (HNP.out i hi) (Ext.of HB2.out);cases hh:hon i with
  |false=>
   have ck:wr.cell? ⟨g,i,none⟩=some (.pointer none):=by rw[←ptL_no (nbs:=nbs) hh];exact ck0
   have HSE2:Hid (SeenL hon st k (i+1) t first):=HSE.out.imp id (fun⟨h1,j,h2,h3⟩=>⟨h1,j,by omega,h3⟩);clear ck0 hendi;go_wp2;go_roundw
   case rel=>exact⟨i+1,t,first,by omega,by go_num,rfl,rfl,HSE2.out,HB2.out⟩
   case measure=>simp[intOf];omega
  |true=>
   have ck:wr.cell? ⟨g,i,none⟩=some (.pointer (some ⟨nbs i,0,none⟩)):=by rw[←ptL_yes (nbs:=nbs) hh];exact ck0
   have HDC:=hide (decided_city HO.out HB2.out hi hh (k:Int) a HG.out);clear ck0 hendi;go_wp2_with fail
   refine HDC.out.mono ?_;intro e w5 hD;unfold DecidedP at hD;by_cases hkd:k<(st i).height
   .rw [if_pos ⟨by omega,by have:k<(st i).dec.length:=hkd;omega⟩,Int.toNat_natCast] at hD;obtain⟨p5,c5,rfl,_,_,hb5⟩:=hD;have HB5:Hid (Below w.heap.size w w5):=HB2.out.trans (hb5.mono HB2.out.size);obtain⟨t5,ht5⟩:∃z,z=(st i).blk k:=⟨_,rfl⟩;rw[show((st i).dec.getD k dcn0).block=t5 by rw[ht5];rfl];have HSE2:Hid (SeenL hon st k (i+1) t5 false):=Or.inr ⟨rfl,i,Nat.lt_succ_self i,hh,hkd,ht5⟩;have HEQ:Hid (first=false→t5=t):=fun hf=>by
     rcases HSE.out with h1|⟨_,j,h2,h3,h4,h5⟩
     .rw [hf] at h1;cases h1
     rw[ht5,h5];exact HAG.out k (by omega) hbl i j hi hh (by omega) h3 hkd h4
    clear hb5 ht5 hkd HDC;cases first with
    |true=>
     go_wp2;go_roundw
     case rel=>exact⟨i+1,t5,false,by omega,by go_num,rfl,rfl,HSE2.out,HB5.out⟩
     case measure=>simp[intOf];omega
    |false=>
     obtain rfl:=HEQ.out rfl;go_wp2;go_roundw
     case rel=>exact⟨i+1,t5,false,by omega,by go_num,rfl,rfl,HSE2.out,HB5.out⟩
     case measure=>simp[intOf];omega
   rw[if_neg (fun hx=>hkd (by show k<(st i).dec.length;omega))] at hD;obtain⟨rfl,hb5⟩:=hD;have HB5:Hid (Below w.heap.size w w5):=HB2.out.trans (hb5.mono HB2.out.size);have HSE2:Hid (SeenL hon st k (i+1) t first):=HSE.out.imp id (fun⟨h1,j,h2,h3⟩=>⟨h1,j,by omega,h3⟩);clear hb5 hkd HDC;go_wp2;go_roundw
   case rel=>exact⟨i+1,t,first,by omega,by go_num,rfl,rfl,HSE2.out,HB5.out⟩
   case measure=>simp[intOf];omega
 go_wp2;go_ret;exact⟨rfl,HB.out⟩
end Go.Proofs.YtcfjhbcpjpgodaaGreatDoor

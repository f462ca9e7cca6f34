/- Proved here: what errors.Is answers of an api.Refused that wraps a sentinel: true at that sentinel, false at another one. -/
import Derived.Test.YtcfjhbcpjpgodaaGreatDoorJ14
import Derived.Test.YtcfjhbcpjpgodaaGreatDoorJ24
import Derived.Test.YtcfjhbcpjpgodaaGreatDoorJ31
import Derived.Test.YtcfjhbcpjpgodaaGreatDoorJ26
import Derived.Test.YtcfjhbcpjpgodaaGreatDoorJ32
import Derived.Test.YtcfjhbcpjpgodaaGreatDoorTakeL
namespace Go.Proofs.YtcfjhbcpjpgodaaGreatDoor
open Go.RowKit Go.Extern.Stop Go.Stop Go.Extern Go.Proofs.Tryz
set_option linter.unusedSimpArgs false
set_option linter.unusedVariables false
set_option maxRecDepth 100000
set_option maxHeartbeats 12800000
theorem Tryz.noIsR(v:Value)(xT:TypeId)(w:World):(Instr.typeAssert (.iface 158 v) xT 213 true).run prog w=.ok (.tuple #[.nilIface,.bool false]) w:=run_typeAssert_lacksB underlying213 (by kernel_rfl) (by kernel_rfl) v xT w
theorem Tryz.hasUnwrapR(v:Value)(xT:TypeId)(w:World):(Instr.typeAssert (.iface 158 v) xT 216 true).run prog w=.ok (.tuple #[.iface 158 v,.bool true]) w:=run_typeAssert_hasB underlying216 (by kernel_rfl) v xT w
theorem Tryz.methodUnwrapR(v:Value)(w:World):(Go.method 423 158 v "Unwrap").run prog w=.ok (236,v) w:=by kernel_rfl
theorem Tryz.eqlRefErr(p q:Value)(w:World):(binOp .eql 42 (.iface 158 p) (.iface 294 q)).run prog w=.ok (.bool false) w:=run_eql_iface_types _ _ _ _ underlying42 (by decide) w
theorem is_refused_same(g:Nat)(f:Int)(b:Addr)(w:World)(hr:RefAt w g f b):
 Calls prog 30 #[refV g,.iface 294 (.pointer (some b))] w fun e w'=>e=.returned (.bool true)∧w'=w:=by
 have hc1:w.cell? ⟨g,1,none⟩=some (.iface 294 (.pointer (some b))):=cell_of_row w g 1 _ _ _ hr;obtain⟨i,hi,hcmp⟩:=Option.map_eq_some_iff.1 Tryz.isComp;obtain⟨j,hj,hjs⟩:=Option.map_eq_some_iff.1 Tryz.isSize;have h8:=@run_callFunc_extern prog 83 _ Extern.ReflectliteType.typeOf func83 (by kernel_rfl) (by kernel_rfl) (by kernel_rfl) (by kernel_rfl);have h32:=@run_callFunc_extern prog 239 _ comparableM func239 (by kernel_rfl) (by kernel_rfl) (by kernel_rfl) (by kernel_rfl);have tT:=Tryz.isTypeOf;have cT:=Tryz.isComparable;have mR:=Tryz.isMethodComparable;have nR:=Tryz.noIsR;have uR:=Tryz.hasUnwrapR;have mU:=Tryz.methodUnwrapR;have eR:=Tryz.eqlRefErr;have heq:=run_eql_iface_ptr_same (P:=prog) w b underlying42 underlying294 hi hcmp hj;clear hr;unfold refV;go_enter func30,ntmps30;go_wp2;refine wp_loop_rounds 2 ?_;rw[rounds_succ];go_wp2;rw[rounds_succ];go_wp2;go_ret;exact⟨rfl,rfl⟩
theorem is_refused_other(g:Nat)(f:Int)(a b:Addr)(ca cb:Array Value)(ta tb:TypeId)(w:World)(hr:RefAt w g f a)(hne:a≠b)(ha:w.heap[a.block]? =some (.cells ca ta (0,0)))(hb:w.heap[b.block]? =some (.cells cb tb (0,0))):
 Calls prog 30 #[refV g,.iface 294 (.pointer (some b))] w fun e w'=>e=.returned (.bool false)∧w'=w:=by
 have hc1:w.cell? ⟨g,1,none⟩=some (.iface 294 (.pointer (some a))):=cell_of_row w g 1 _ _ _ hr;obtain⟨i,hi,hcmp⟩:=Option.map_eq_some_iff.1 Tryz.isComp;obtain⟨j,hj,hjs⟩:=Option.map_eq_some_iff.1 Tryz.isSize;have h8:=@run_callFunc_extern prog 83 _ Extern.ReflectliteType.typeOf func83 (by kernel_rfl) (by kernel_rfl) (by kernel_rfl) (by kernel_rfl);have h32:=@run_callFunc_extern prog 239 _ comparableM func239 (by kernel_rfl) (by kernel_rfl) (by kernel_rfl) (by kernel_rfl);have tT:=Tryz.isTypeOf;have cT:=Tryz.isComparable;have mR:=Tryz.isMethodComparable;have nR:=Tryz.noIsR;have uR:=Tryz.hasUnwrapR;have mU:=Tryz.methodUnwrapR;have eR:=Tryz.eqlRefErr;have nE:=Tryz.noIsE;have uE:=Tryz.noUnwrapE;have vE:=Tryz.noUnwrapsE;have heq:=run_eql_iface_ptr_other (P:=prog) w underlying42 underlying294 hi hcmp hj (by rw[hjs];decide) hne ha hb;clear hr ha hb;unfold refV;go_enter func30,ntmps30;go_wp2;refine wp_loop_rounds 2 ?_;rw[rounds_succ];go_wp2;rw[rounds_succ];go_wp2;go_ret;exact⟨rfl,rfl⟩

open Go.RowKit
def NodeS.recvE(s:NodeS)(n:Nat)(fr:ByteArray):Option (Int×Nat):=
 if decOk fr=true then(if signedB s.sg n (decV fr).f fr=true then(s.refS (decV fr) fr).map (fun k=>((decV fr).f,k)) else some ((decV fr).f,2)) else some (-1,1)
def RecvV(es:List Addr)(o:Option (Int×Nat))(w:World)(F R:Nat→Prop)(e:Ending)(w':World):Prop:=match o with
 |none=>e=.returned .nilIface
 |some (f,k)=>∃g a,e=.returned (refV g)∧es[k]? =some a∧w.heap.size≤g∧¬F g∧¬R g∧RefAt w' g f a
def RecvP(B:Nat)(es:List Addr)(m:Int)(F R:Nat→Prop)(nb kb rb cb n i:Nat)(s:NodeS)(fr:ByteArray)(w:World)(e:Ending)(w':World):Prop:=
 ∃F' R',NodeW B es m F' R' nb kb rb cb n i (s.receiveS n i fr) w'∧Goes F R w F' R' w'∧RecvV es (s.recvE n fr) w F' R' e w'
theorem Tryz.sizeMsgR:(prog.info? 57).map (·.size)=some 7:=by kernel_rfl
theorem Tryz.buildEntR(k h r f v:Int)(nl:Bool)(t fr:ByteArray)(W:World):(Instr.build 164 #[(0,.agg #[.int .i64 k,.int .i64 h,.int .i64 r,.int .i64 f,.int .i64 v,.bool nl,.string t]),(1,.string fr)]).run prog W=.ok (.agg #[.int .i64 k,.int .i64 h,.int .i64 r,.int .i64 f,.int .i64 v,.bool nl,.string t,.string fr,.bool false]) W:=by kernel_rfl
section
variable{P:Program}
theorem yields_build2R{ops:Array Oper}{S:World→Prop}{op:Oper}{a:Act}(hw:Region.wanted op (yielded ops a.tmps)=true)(t:TypeId)(i0 i1:Nat)(x0 x1:Operand)(ho:op.op=.build t #[(i0,x0),(i1,x1)])(v0 v1 v:Value)
 (h0:a.eval x0=v0) (h1:a.eval x1=v1) (hr:∀W,(Instr.build t #[(i0,v0),(i1,v1)]).run P W=.ok v W):YieldsIf P ops S op v a:=
 .inl ⟨hw,fun w _=>by
  unfold execOp;simp only[ho,List.map_toArray,List.map_cons,List.map_nil,h0,h1,hr,Sem.run_bind,Sem.run_pure,Result.andThen_ok]⟩
end
theorem decOk_size{t:ByteArray}(h:decOk t=true):t.size≤1000:=by
 have h1:=(decV_ok h).2.2.2.2.2.2.1;unfold decV at h1;rw[if_pos h] at h1;simp only[ByteArray.size_extract] at h1;omega
theorem receiveS_no{s:NodeS}{n i:Nat}{fr:ByteArray}(h:¬(decOk fr=true∧signedB s.sg n (decV fr).f fr=true)):s.receiveS n i fr=s:=by
 unfold NodeS.receiveS;rw[if_neg h]
theorem refS_cases(s:NodeS)(m:MsgV)(fr:ByteArray):s.refS m fr=none∨(s.refS m fr=some 3∧m.h<(s.height:Int))∨∃k,s.refS m fr=some k∧4≤k∧k≤7∧¬m.h<(s.height:Int):=by
 unfold NodeS.refS;split
 .rename_i h;exact Or.inr (Or.inl ⟨rfl,h⟩)
 rename_i h;split
 .exact Or.inr (Or.inr ⟨4,rfl,by omega,by omega,h⟩)
 split
 .exact Or.inr (Or.inr ⟨5,rfl,by omega,by omega,h⟩)
 split
 .exact Or.inr (Or.inr ⟨6,rfl,by omega,by omega,h⟩)
 split
 .exact Or.inr (Or.inr ⟨7,rfl,by omega,by omega,h⟩)
 exact Or.inl rfl
theorem receive_any{B:Nat}{es:List Addr}{m:Int}{F R:Nat→Prop}{nb kb rb cb n i S T:Nat}{s:NodeS}(fr:ByteArray){w:World}(h:NodeW B es m F R nb kb rb cb n i s w)(hR:GlobR B es w)(ok:NOk S T i 0 s)(hT:T≤1000000000000)(hS:S≤900000000000):
 Calls prog 29 #[.pointer (some ⟨nb,0,none⟩),.string fr] w (RecvP B es m F R nb kb rb cb n i s fr w):=by
 obtain⟨V,hA,hf⟩:=h.node;obtain⟨a1,he1⟩:=h.glob.sent.at 1 (by omega);obtain⟨a2,he2⟩:=h.glob.sent.at 2 (by omega);obtain⟨a3,he3⟩:=h.glob.sent.at 3 (by omega);have c0:w.cell? ⟨nb,0,none⟩=some (.pointer (some ⟨kb,0,none⟩)):=hA.cell 0 rfl;obtain⟨HKR,HOP,HH,HR,HOK,HT,HS,HE1⟩:=hide8 (keyRing_any kb rb i w h.key) (open_any R rb n s.sg fr a1 a2 w h.ring (fun k hk=>(h.rl k hk).2) (h.glob.sent.cell 1 _ _ rfl he1) (h.glob.sent.cell 2 _ _ rfl he2)) h hR ok hT hS he1;obtain⟨HE2,HE3⟩:=hide2 he2 he3;clear h hR ok hT hS hA hf he1 he2 he3;go_enter func29,ntmps29;go_wp2_with fail
 refine HKR.out.mono ?_;rintro e w0 ⟨rfl,hw0⟩;have hw1:=hw0.symm;clear hw0 HKR;subst hw1;go_wp2_with fail
 refine HOP.out.mono ?_;clear HOP;rintro e w1 ⟨hb1,⟨hd,hsg,rfl⟩|⟨hd,g,hg,hra,rfl⟩|⟨hd,hsg,g,hg,hra,rfl⟩⟩
 .obtain ⟨mv,hmv⟩:=gen (decV fr)
  have HMB:=hide (decV_ok hd);have HRV:Hid (s.receiveS n i fr=s.recvS i (decV fr) fr):=by unfold Hid NodeS.receiveS;rw[if_pos ⟨hd,hsg⟩]
  have HRE:Hid (s.recvE n fr=(s.refS (decV fr) fr).map (fun k=>((decV fr).f,k))):=by unfold Hid NodeS.recvE;rw[if_pos hd,if_pos hsg]
  have HFZ:Hid (fr.size≤1000):=decOk_size hd;rw[←hmv] at HMB HRV HRE ⊢;obtain⟨mk,mh,mr,mf,mv,mn,ms⟩:=mv;have HB1:=hide hb1;clear hb1 hd hsg hmv;unfold MsgV.cells;go_wp2_with (first|(refine wpList_store_new rfl 57 _ _ rfl w1 #[.int .i64 mk,.int .i64 mh,.int .i64 mr,.int .i64 mf,.int .i64 mv,.bool mn,.string ms] rfl rfl 57 _ rfl (by simp[Value.oneCell']) Tryz.sizeMsgR ?_;intro w2 hq2 hb2 hz2;have HB2:=hide hb2;have HQ2:=hide hq2;clear hq2 hb2 hz2)|(refine wpList_load_row rfl 57 _ rfl w1.heap.size rfl 57 #[.int .i64 mk,.int .i64 mh,.int .i64 mr,.int .i64 mf,.int .i64 mv,.bool mn,.string ms] (0,0) _ HQ2.out underlying57 rfl (by rw[Tryz.sizeMsgR];rfl) ?_)|fail)
  have HB02:Hid (Below w.heap.size w w2):=HB1.out.trans (HB2.out.mono HB1.out.size);obtain⟨V2,hA2,hf2⟩:=(HH.out.below HB02.out).node;refine(refusal_any (B:=B) (es:=es) (N:=2000) ⟨mk,mh,mr,mf,mv,mn,ms⟩ fr hA2 (HH.out.glob.sent.len) (HR.out.below HH.out.bl HB02.out) (Nat.le_trans HH.out.bl HB02.out.size) (HOK.out.st (by omega) HT.out HS.out).1 (by omega) ⟨HMB.out.1,HMB.out.2.2.1⟩).mono ?_;rintro e w3 ⟨rfl,hb3⟩;have HB3:=hide hb3;have HB03:Hid (Below w.heap.size w w3):=HB02.out.trans (hb3.mono HB02.out.size);clear hb3 hA2 hf2;have HG3:=hide ((HR.out.below HH.out.bl HB03.out).cell 3 _ _ rfl HE3.out);have cP:=HG3.out;rcases refS_cases s ⟨mk,mh,mr,mf,mv,mn,ms⟩ fr with hr|⟨hr,hlt⟩|⟨k,hr,hk4,hk7,hnp⟩
  .have HREF:=hide hr;rw[hr,show sentV es none=.nilIface from rfl];rw[hr] at HRE;clear hr;have HN:=hide (is_nil a3 w3);go_wp2_with fail
   refine HN.out.mono ?_;rintro e w4 ⟨rfl,hw4⟩;have hw5:=hw4.symm;clear hw4 HN;subst hw5;obtain⟨w4,hw4⟩:=gen w3;subst hw4;obtain⟨HQ4,HW4⟩:=hide2 (blk HQ2.out HB3.out) (HH.out.below HB03.out);have HNF:Hid (¬F w1.heap.size):=fun h=>by have h1:=(HH.out.fl _ h).2;have h2:=HB1.out.size;omega
   have HNR:Hid (¬R w1.heap.size):=fun h=>by have h1:=(HH.out.rl _ h).2;have h2:=HB1.out.size;omega
   go_wp2_with fail
   refine rgd (S:=fun W=>W.heap[w1.heap.size]? =some (.cells #[.int .i64 mk,.int .i64 mh,.int .i64 mr,.int .i64 mf,.int .i64 mv,.bool mn,.string ms] 57 (0,0))) HQ4.out (fun hH=>?_);refine takeN [(0,some 39,pA nb 0),(1,some 40,.agg ([.int .i64 mk,.int .i64 mh,.int .i64 mr,.int .i64 mf,.int .i64 mv,.bool mn,.string ms]).toArray),(2,some 41,.string fr)] _ _ hH (by repeat(first|exact True.intro|((first|refine tkc rfl rfl (yieldsIf_load_mid (by rfl) 57 _ rfl w1.heap.size 0 rfl ([.int .i64 mk,.int .i64 mh,.int .i64 mr,.int .i64 mf,.int .i64 mv,.bool mn,.string ms]) _ (fun w h=>row_range h) underlying57 rfl (by rw[Tryz.sizeMsgR];rfl)) ?_|(refine tkc rfl rfl (Or.inl ⟨by rfl,fun x h=>?_⟩) ?_;focus(go_simp;done)));simp only[AP]))) ?_;simp only[takesA,AP,pA];refine rdy1 3 (fun K hK=>?_);go_simp;refine(clone_any fr _ (by have:=HFZ.out;omega)).mono ?_;rintro e w5 ⟨rfl,hb5⟩;have hB5:Below w4.heap.size w4 w5:=(Below.refl _ w4).drew.trans (hb5.mono (Nat.le_refl _));refine hK.out _ _ (blk HQ4.out hB5) (fun hH=>?_);clear hK K hb5
   try simp only[AP,AQ]
   refine takeN [(4,some 43,.agg #[.int .i64 mk,.int .i64 mh,.int .i64 mr,.int .i64 mf,.int .i64 mv,.bool mn,.string ms,.string fr,.bool false])] _ _ hH (by repeat(first|exact True.intro|(refine tkc rfl rfl (yields_build2R (by rfl) 164 0 1 _ _ rfl (.agg #[.int .i64 mk,.int .i64 mh,.int .i64 mr,.int .i64 mf,.int .i64 mv,.bool mn,.string ms]) (.string fr) (.agg #[.int .i64 mk,.int .i64 mh,.int .i64 mr,.int .i64 mf,.int .i64 mv,.bool mn,.string ms,.string fr,.bool false]) rfl rfl (fun W=>Tryz.buildEntR mk mh mr mf mv mn ms fr W)) ?_;simp only[AP]))) ?_;simp only[takesA,AP];have HTK:=hide (nodeTake_any ⟨⟨mk,mh,mr,mf,mv,mn,ms⟩,fr,false⟩ (HW4.out.below hB5) (by have:=(HOK.out.lens (by omega)).1;omega) (by have:=(HOK.out.lens (by omega)).2;omega));refine rdy1 5 (fun K hK=>?_);go_simp;refine HTK.out.mono ?_;rintro e w6 ⟨rfl,F6,hW6,hG6⟩;have hq6:w6.heap[w1.heap.size]? =some (.cells #[.int .i64 mk,.int .i64 mh,.int .i64 mr,.int .i64 mf,.int .i64 mv,.bool mn,.string ms] 57 (0,0)):=(hG6.same.block _ (row_lt0 (blk HQ4.out hB5)) (fun h=>h.elim HNF.out HNR.out)).trans (blk HQ4.out hB5);refine hK.out _ _ hq6 (fun hH=>?_);clear hK K
   try simp only[AP,AQ]
   refine dnr ?_;have HOKT:=hide (HOK.out.take HREF.out HMB.out);have HGO:=hide (goOn_all hW6 HOKT.out HT.out HS.out);have HG6:Hid (Goes F R w F6 R w6):=(Goes.below HB03.out).trans ((Goes.below hB5).trans hG6);clear hW6 hG6 hq6 hB5 HTK;go_wp2_with fail
   refine HGO.out.mono ?_;rintro e w7 ⟨rfl,F7,R7,hW7,hG7⟩;obtain⟨HW7,HG7⟩:=hide2 hW7 hG7;clear hW7 hG7 HGO;go_wp2;go_ret;refine⟨F7,R7,?_,HG6.out.trans HG7.out,?_⟩
   .rw [HRV.out];unfold NodeS.recvS;rw[if_neg (show¬mh<(s.height:Int) from(refS_none HREF.out).1),HREF.out];exact HW7.out
   rw[HRE.out];exact rfl
  .have HRS:Hid (s.recvS i ⟨mk,mh,mr,mf,mv,mn,ms⟩ fr=s.tellS mh.toNat):=by unfold Hid NodeS.recvS;rw[if_pos hlt]
   have HREF:=hide hr;rw[hr,sent_at HE3.out];rw[hr] at HRE;have HN:=hide (is_same a3 w3);clear hr;go_wp2_with fail
   refine HN.out.mono ?_;rintro e w4 ⟨rfl,hw4⟩;have hw5:=hw4.symm;clear hw4 HN;subst hw5;obtain⟨w4,hw4⟩:=gen w3;subst hw4;have HQ4:=hide (blk HQ2.out HB3.out);have cH:w4.cell? ⟨w1.heap.size,1,none⟩=some (.int .i64 mh):=cell_of_row w4 w1.heap.size 1 _ _ _ HQ4.out;obtain⟨kh,hkh⟩:∃kh:Nat,(kh:Int)=mh:=⟨mh.toNat,by have:=HMB.out.1;omega⟩;have HTA:=hide (tellAgain_any kh (HH.out.below HB03.out) (by have h1:s.dec.length=s.height:=rfl;omega) HOK.out.hgt HOK.out.cert);rw[hkh] at HTA;have HKH:Hid (mh.toNat=kh):=by unfold Hid;omega
   clear hkh;have HNF:Hid (¬F w1.heap.size):=fun h=>by have h1:=(HH.out.fl _ h).2;have h2:=HB1.out.size;omega
   have HNR:Hid (¬R w1.heap.size):=fun h=>by have h1:=(HH.out.rl _ h).2;have h2:=HB1.out.size;omega
   go_wp2_with fail
   refine HTA.out.mono ?_;rintro e w6 ⟨rfl,hW6,hG6⟩;have HW6:=hide hW6;have HG6:Hid (Goes F R w F R w6):=(Goes.below HB03.out).trans hG6;have cF:w6.cell? ⟨w1.heap.size,3,none⟩=some (.int .i64 mf):=cell_of_row w6 w1.heap.size 3 _ _ _ ((hG6.same.block _ (row_lt0 HQ4.out) (fun h=>h.elim HNF.out HNR.out)).trans HQ4.out);clear hW6 hG6 HTA cH;have HB6:Hid (Below w6.heap.size w6 (w6.alloc (.cells #[.int .i64 mf,.iface 294 (.pointer (some a3))] 160))):=(Below.refl _ w6).alloc (Nat.le_refl _) _;go_wp2;go_ret;refine⟨F,R,?_,HG6.out.trans (Goes.below HB6.out),?_⟩
   .rw [HRV.out];rw[HRS.out,show mh.toNat=kh from HKH.out];exact HW6.out.below HB6.out
   rw[HRE.out];exact⟨w6.heap.size,a3,rfl,HE3.out,HG6.out.same.size,(fun h=>by have h1:=(HW6.out.fl _ h).2;omega),(fun h=>by have h1:=(HW6.out.rl _ h).2;omega),heap_alloc_new w6 _⟩
  obtain⟨ak,hak⟩:=HH.out.glob.sent.at k (by omega);have hne:ak≠a3:=fun e=>by
   subst e;have h1:=(List.getElem?_inj (by rw[HH.out.glob.sent.len];show k<12;omega) HH.out.glob.sent.nodup).1 (hak.trans HE3.out.symm);omega
  obtain⟨c4,t4,hc4⟩:=HH.out.glob.sent.blk ak (List.mem_of_getElem? hak);obtain⟨c3,t3,hc3⟩:=HH.out.glob.sent.blk a3 (List.mem_of_getElem? HE3.out);have hcb:=blk hc4 HB03.out;have hcb3:=blk hc3 HB03.out;clear hc4 hc3;have HRS:Hid (s.recvS i ⟨mk,mh,mr,mf,mv,mn,ms⟩ fr=s):=by unfold Hid NodeS.recvS;rw[if_neg hnp,hr]
  have HREF:=hide hr;rw[hr,sent_at hak];rw[hr] at HRE;have HN:=hide (is_other ak a3 _ _ _ _ w3 hne hcb hcb3);clear hr;go_wp2_with fail
  refine HN.out.mono ?_;rintro e w4 ⟨rfl,hw4⟩;have hw5:=hw4.symm;clear hw4 HN;subst hw5;obtain⟨w4,hw4⟩:=gen w3;subst hw4;have cF:w4.cell? ⟨w1.heap.size,3,none⟩=some (.int .i64 mf):=cell_of_row w4 w1.heap.size 3 _ _ _ (blk HQ2.out HB3.out);obtain⟨HW4,HAK⟩:=hide2 (HH.out.below HB03.out) hak;clear hne hcb hcb3 hak;have HB4:Hid (Below w4.heap.size w4 (w4.alloc (.cells #[.int .i64 mf,.iface 294 (.pointer (some ak))] 160))):=(Below.refl _ w4).alloc (Nat.le_refl _) _;go_wp2;go_ret;refine⟨F,R,?_,Goes.below (HB03.out.trans (HB4.out.mono HB03.out.size)),?_⟩
  .rw [HRV.out];rw[HRS.out];exact HW4.out.below HB4.out
  rw[HRE.out];exact⟨w4.heap.size,ak,rfl,HAK.out,HB03.out.size,(fun h=>by have h1:=(HW4.out.fl _ h).2;omega),(fun h=>by have h1:=(HW4.out.rl _ h).2;omega),heap_alloc_new w4 _⟩
 .have HB1:=hide hb1;obtain⟨HRA,HG⟩:=hide2 hra hg;have HRV:Hid (s.receiveS n i fr=s):=receiveS_no (fun h=>by rw[hd] at h;exact absurd h.1 Bool.false_ne_true);have HRE:Hid (s.recvE n fr=some (-1,1)):=by unfold Hid NodeS.recvE;rw[if_neg (by rw[hd];exact Bool.false_ne_true)]
  clear hb1 hra hg hd;unfold refV msg0 MsgV.cells;go_wp2_with (first|(refine wpList_store_new rfl 57 _ _ rfl w1 #[.int .i64 0,.int .i64 0,.int .i64 0,.int .i64 0,.int .i64 0,.bool false,.string ⟨#[]⟩] rfl rfl 57 _ rfl (by simp[Value.oneCell']) Tryz.sizeMsgR ?_;intro w2 hq2 hb2 hz2;have HB2:=hide hb2;clear hq2 hb2 hz2)|fail)
  go_ret;have hB:=HB1.out.trans (HB2.out.mono HB1.out.size);refine⟨F,R,by rw[HRV.out];exact HH.out.below hB,Goes.below hB,?_⟩;rw[HRE.out];exact⟨g,a1,rfl,HE1.out,HG.out,(fun h=>by have h1:=(HH.out.fl _ h).2;have h2:=HG.out;omega),(fun h=>by have h1:=(HH.out.rl _ h).2;have h2:=HG.out;omega),blk HRA.out HB2.out⟩
 have HB1:=hide hb1;obtain⟨HRA,HG⟩:=hide2 hra hg;have HRV:Hid (s.receiveS n i fr=s):=receiveS_no (fun h=>by rw[hsg] at h;exact absurd h.2 Bool.false_ne_true);have HRE:Hid (s.recvE n fr=some ((decV fr).f,2)):=by unfold Hid NodeS.recvE;rw[if_pos hd,if_neg (by rw[hsg];exact Bool.false_ne_true)]
 clear hb1 hra hg hd hsg;unfold refV msg0 MsgV.cells;go_wp2_with (first|(refine wpList_store_new rfl 57 _ _ rfl w1 #[.int .i64 0,.int .i64 0,.int .i64 0,.int .i64 0,.int .i64 0,.bool false,.string ⟨#[]⟩] rfl rfl 57 _ rfl (by simp[Value.oneCell']) Tryz.sizeMsgR ?_;intro w2 hq2 hb2 hz2;have HB2:=hide hb2;clear hq2 hb2 hz2)|fail)
 go_ret;have hB:=HB1.out.trans (HB2.out.mono HB1.out.size);refine⟨F,R,by rw[HRV.out];exact HH.out.below hB,Goes.below hB,?_⟩;rw[HRE.out];exact⟨g,a2,rfl,HE2.out,HG.out,(fun h=>by have h1:=(HH.out.fl _ h).2;have h2:=HG.out;omega),(fun h=>by have h1:=(HH.out.rl _ h).2;have h2:=HG.out;omega),blk HRA.out HB2.out⟩
end Go.Proofs.YtcfjhbcpjpgodaaGreatDoor

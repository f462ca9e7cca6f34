/- Proved here (plain): two sets with more than two thirds of the power share one who does not lie; what more than two thirds have precommitted in a round, no later round has most prevotes for another. -/
import Derived.Test.YtcfjhbcpjpgodaaGreatDoorJ12
import Derived.Test.YtcfjhbcpjpgodaaGreatDoorJ1
import Derived.Test.YtcfjhbcpjpgodaaGreatDoorJ5
import Derived.Test.YtcfjhbcpjpgodaaGreatDoorJ45
import Derived.Test.YtcfjhbcpjpgodaaGreatDoorJ3
import Derived.Test.YtcfjhbcpjpgodaaGreatDoorJ24
import Derived.BigQuiet
import Derived.Test.YtcfjhbcpjpgodaaGreatDoorTakeL
namespace Go.Proofs.YtcfjhbcpjpgodaaGreatDoor
open Go.RowKit Go.Proofs.Tryz
set_option maxRecDepth 100000
set_option maxHeartbeats 12800000
theorem powB_le{x:Nat→Int}{b c:Nat→Bool}(hx:∀i,0≤x i):∀k,(∀q,q<k→b q=true→c q=true)→powB x b k≤powB x c k
 |0,_=>Int.le_refl _
 |k+1,h=>by
  have ih:=powB_le hx k (fun q hq=>h q (by omega));have h1:=h k (by omega);have h2:=hx k;simp only[powB];cases hb:b k with
  |false=>simp only[Bool.false_eq_true,if_false];split<;>omega
  |true=>rw[h1 hb];simp only[if_true];omega
theorem powB_and{x:Nat→Int}{b c:Nat→Bool}(hx:∀i,0≤x i):∀k,powB x b k+powB x c k≤sumTo x k+powB x (fun q=>b q&&c q) k
 |0=>by simp[powB,sumTo]
 |k+1=>by
  have ih:=powB_and (b:=b) (c:=c) hx k;have h2:=hx k;simp only[powB,sumTo];have key:∀(u v:Bool) (a:Int),0≤a→(if u=true then a else 0)+(if v=true then a else 0)≤a+if(u&&v)=true then a else 0:=fun u v a ha=>by cases u<;>cases v<;>simp<;>omega
  have h3:=key (b k) (c k) (x k) h2;omega
theorem two_meet{x:Nat→Int}{b c bad:Nat→Bool}(hx:∀i,0≤x i)(hb:moreB 2 x b=true)(hc:moreB 2 x c=true)(hl:3*powB x bad 8<sumTo x 8):∃q,q<8∧b q=true∧c q=true∧bad q=false:=by
 by_cases h:∃q,q<8∧b q=true∧c q=true∧bad q=false
 .exact h
 exfalso;have hb':=of_decide_eq_true hb;have hc':=of_decide_eq_true hc;have h1:=powB_and (b:=b) (c:=c) hx 8;have h2:powB x (fun q=>b q&&c q) 8≤powB x bad 8:=powB_le hx 8 fun q hq hbc=>by
  rw[Bool.and_eq_true_iff] at hbc;cases hbd:bad q with
  |true=>rfl
  |false=>exact absurd ⟨q,hq,hbc.1,hbc.2,hbd⟩ h
 omega
theorem one_meet{x:Nat→Int}{b bad:Nat→Bool}(hx:∀i,0≤x i)(hb:moreB 2 x b=true)(hl:3*powB x bad 8<sumTo x 8):∃q,q<8∧b q=true∧bad q=false:=by
 obtain⟨q,h1,h2,_,h3⟩:=two_meet hx hb hb hl;exact⟨q,h1,h2,h3⟩
def Vote(sg:Nat→List ByteArray)(k h r:Int)(t:ByteArray)(q:Nat):Prop:=∃fr,fr∈sg q∧decOk fr=true∧(decV fr).k=k∧(decV fr).h=h∧(decV fr).r=r∧(decV fr).nl=false∧(decV fr).s=t
def Quo(n:Nat)(sg:Nat→List ByteArray)(x:Nat→Int)(k h r:Int)(t:ByteArray):Prop:=∃b:Nat→Bool,moreB 2 x b=true∧∀q,q<8→b q=true→q<n∧Vote sg k h r t q
def SgLe(sg sg':Nat→List ByteArray):Prop:=∀q fr,fr∈sg q→fr∈sg' q
theorem SgLe.refl(sg:Nat→List ByteArray):SgLe sg sg:=fun _ _ h=>h
theorem SgLe.trans{a b c:Nat→List ByteArray}(h:SgLe a b)(h':SgLe b c):SgLe a c:=fun q fr hf=>h' q fr (h q fr hf)
theorem Vote.mono{sg sg':Nat→List ByteArray}{k h r:Int}{t:ByteArray}{q:Nat}(hv:Vote sg k h r t q)(hs:SgLe sg sg'):Vote sg' k h r t q:=by
 obtain⟨fr,h1,h2⟩:=hv;exact⟨fr,hs q fr h1,h2⟩
theorem Quo.mono{n:Nat}{sg sg':Nat→List ByteArray}{x:Nat→Int}{k h r:Int}{t:ByteArray}(hq:Quo n sg x k h r t)(hs:SgLe sg sg'):Quo n sg' x k h r t:=by
 obtain⟨b,h1,h2⟩:=hq;exact⟨b,h1,fun q hq hb=>⟨(h2 q hq hb).1,(h2 q hq hb).2.mono hs⟩⟩
def lieB(n:Nat)(hon:Nat→Bool):Nat→Bool:=fun q=>decide (q<n)&& !hon q
theorem lieB_hon{n q:Nat}{hon:Nat→Bool}(hq:q<n)(h:lieB n hon q=false):hon q=true:=by
 unfold lieB at h;rw[decide_eq_true hq,Bool.true_and] at h;simpa using h
structure Fair (n:Nat) (hon:Nat→Bool) (sg:Nat→List ByteArray) (x:Nat→Int) (h:Int):Prop where
 one:∀q,q<n→hon q=true→∀(k r:Int) (t t':ByteArray),k≠1→Vote sg k h r t q→Vote sg k h r t' q→t=t'
 pc:∀q,q<n→hon q=true→∀(r:Int) (t:ByteArray),Vote sg 3 h r t q→Quo n sg x 2 h r t
 pv:∀q,q<n→hon q=true→∀(r r':Int) (t t':ByteArray),Vote sg 3 h r t q→Vote sg 2 h r' t' q→r<r'→t≠t'→∃r2:Int,r≤r2∧r2<r'∧Quo n sg x 2 h r2 t'
theorem fair_locks{n:Nat}{hon:Nat→Bool}{sg:Nat→List ByteArray}{x:Nat→Int}{h:Int}(hF:Fair n hon sg x h)(hx:∀i,0≤x i)(hl:3*powB x (lieB n hon) 8<sumTo x 8){r:Int}{t:ByteArray}(hq:Quo n sg x 3 h r t):
 ∀(d:Nat) (r':Int) (t':ByteArray),r'=r+d→Quo n sg x 2 h r' t'→t'=t:=by
 intro d;induction d using Nat.strongRecOn with
 |ind d ih=>
  intro r' t' hr hq';obtain⟨b,hb,hbv⟩:=hq;obtain⟨c,hc,hcv⟩:=hq';obtain⟨q,hq8,h1,h2,h3⟩:=two_meet hx hb hc hl;have hqn:=(hbv q hq8 h1).1;have hh:=lieB_hon hqn h3;have v3:=(hbv q hq8 h1).2;have v2:=(hcv q hq8 h2).2;by_cases e:t'=t
  .exact e
  exfalso;rcases Nat.eq_zero_or_pos d with rfl|hd
  .have hr0:r'=r:=by omega
   subst hr0;obtain⟨a,ha,hav⟩:=hF.pc q hqn hh r' t v3;obtain⟨q2,hq28,g1,g2,g3⟩:=two_meet hx ha hc hl;have hq2n:=(hav q2 hq28 g1).1;exact e (hF.one q2 hq2n (lieB_hon hq2n g3) 2 r' t' t (by decide) (hcv q2 hq28 g2).2 (hav q2 hq28 g1).2)
  obtain⟨r2,hr1,hr2,hq2⟩:=hF.pv q hqn hh r r' t t' v3 v2 (by omega) (fun x=>e x.symm);exact e (ih (r2-r).toNat (by omega) r2 t' (by omega) hq2)
theorem fair_one{n:Nat}{hon:Nat→Bool}{sg:Nat→List ByteArray}{x:Nat→Int}{h:Int}(hF:Fair n hon sg x h)(hx:∀i,0≤x i)(hl:3*powB x (lieB n hon) 8<sumTo x 8){r r':Int}{t t':ByteArray}(hq:Quo n sg x 3 h r t)(hq':Quo n sg x 3 h r' t'):t=t':=by
 have key:∀{r r':Int} {t t':ByteArray},Quo n sg x 3 h r t→Quo n sg x 3 h r' t'→r≤r'→t'=t:=fun {r r' t t'} hq hq' hle=>by
  have hq2:=hq';obtain⟨c,hc,hcv⟩:=hq';obtain⟨q,hq8,h1,h2⟩:=one_meet hx hc hl;have hqn:=(hcv q hq8 h1).1;exact fair_locks hF hx hl hq (r'-r).toNat r' t' (by omega) (hF.pc q hqn (lieB_hon hqn h2) r' t' (hcv q hq8 h1).2)
 rcases Int.le_total r r' with h1|h1
 .exact (key hq hq' h1).symm
 exact key hq' hq h1
def regs(x0:Nat→Int)(l:List ByteArray):Nat→Int:=l.foldl (fun x b=>(behindR x b).1) x0
theorem regs_snoc(x0:Nat→Int)(l:List ByteArray)(b:ByteArray):regs x0 (l++[b])=(behindR (regs x0 l) b).1:=by
 unfold regs;rw[List.foldl_append];rfl
section
variable{P:Program}
theorem wp_store_new{op:Oper}{a:Act}{K:Act→World→Prop}{Q:Exit→Act→World→Prop}(ty:TypeId)(p y:Operand)(ho:op.op=.store ty p y)
 (w1:World) (D:Array Value) (hp:a.eval p=.pointer (some ⟨w1.heap.size,0,none⟩)) (hy:a.eval y=.agg D) (t:TypeId) (C:Array Value) (hC:C.size=D.size) (h1:∀v∈D.toList,v.oneCell'=true) (hi:(P.info? ty).map (·.size)=some D.size)
 (h:∀w',w'.heap[w1.heap.size]? =some (.cells D t (0,0))→Below w1.heap.size w1 w'→w'.heap.size=w1.heap.size+1→K (a.put op.dst undef) w'):op.wp P a (w1.alloc (.cells C t)) K Q:=by
 have hg:(w1.alloc (.cells C t)).heap[w1.heap.size]? =some (.cells C t (0,0)):=heap_alloc_new w1 _;have ho2:=only_setRow (w1.alloc (.cells C t)) w1.heap.size D;unfold Oper.wp execOp;simp only[ho,hp,hy,Instr.storeAt,Instr.sureAddr,Sem.run_bind,Sem.run_pure,Result.andThen_ok,run_storeVar_rowG (w1.alloc (.cells C t)) w1.heap.size t ty C D hg hC h1 hi];exact h _ (setRow_heap _ _ C _ t (0,0) hg) (((Below.refl _ w1).alloc (Nat.le_refl _) _).trans (ho2.below (Nat.le_refl _))) (by rw[ho2.size];simp)
end
theorem Tryz.guardMsgC:prog.eqGuardType prog.depth 57=false:=by kernel_rfl
theorem wpList_neq_msgC{ops:Array Oper}{rest:List Oper}{op:Oper}{a:Act}{w:World}{Q:Exit→Act→World→Prop}(hgd:op.guard=none)(x y:Operand)(t2:TypeId)(ho:op.op=.binOp .neq 57 x y t2)(m m':MsgV)
 (hx:a.eval x=.agg m.cells) (hy:a.eval y=.agg m'.cells) (h:wpList prog ops Q rest (a.put op.dst (.bool (!msgB m m'))) w):wpList prog ops Q (op::rest) a w:=
 wpList_plain hgd fun _ hK=>by
  have h1:=Tryz.neqMsg m m' w;have h2:=fun o=>run_eqGuard_agg (P:=prog) w o 57 x y m.cells m'.cells Tryz.guardMsgC;unfold Oper.wp execOp;simp only[ho,hx,hy,h1,h2,Sem.run_bind,Sem.run_pure,Result.andThen_ok];exact hK _ _ h
theorem row_rangeC{w:World}{g:Nat}{C:Array Value}{t:TypeId}(h:w.heap[g]? =some (.cells C t (0,0))):w.rangeAt g 0 C.toList:=fun j v hv=>by
 rw[cell_of_row w g (0+j) _ _ _ h,Nat.zero_add,←hv];simp
def clientA(rb:Nat)(x:Nat→Int)(h:Int):Array Value:=(.pointer (some ⟨rb,0,none⟩)::(regL x++[.int .i64 h])).toArray
def ClientAt(w:World)(cb rb:Nat)(x:Nat→Int)(h:Int):Prop:=w.heap[cb]? =some (.cells (clientA rb x h) 170 (0,0))
theorem regL_length(x:Nat→Int):(regL x).length=34:=by simp[regL]
theorem clientA_size(rb:Nat)(x:Nat→Int)(h:Int):(clientA rb x h).size=36:=by simp[clientA,regL_length]
theorem ClientAt.height{w:World}{cb rb:Nat}{x:Nat→Int}{h:Int}(hc:ClientAt w cb rb x h):w.cell? ⟨cb,35,none⟩=some (.int .i64 h):=by
 rw[cell_of_row w cb 35 _ _ _ hc];simp[clientA,regL]
theorem ClientAt.ring{w:World}{cb rb:Nat}{x:Nat→Int}{h:Int}(hc:ClientAt w cb rb x h):w.cell? ⟨cb,0,none⟩=some (.pointer (some ⟨rb,0,none⟩)):=by
 rw[cell_of_row w cb 0 _ _ _ hc];simp[clientA]
theorem ClientAt.reg{w:World}{cb rb:Nat}{x:Nat→Int}{h:Int}(hc:ClientAt w cb rb x h):w.rangeAt cb 1 (regL x):=fun j v hv=>by
 have hj:j<34:=by have:=(List.getElem?_eq_some_iff.1 hv).1;simpa [regL] using this
 rw[cell_of_row w cb (1+j) _ _ _ hc,←hv];unfold clientA;rw[List.getElem?_toArray,Nat.add_comm 1 j,List.getElem?_cons_succ,List.getElem?_append_left (by rw[regL_length];exact hj)]
theorem ClientAt.keep{w w':World}{cb rb:Nat}{x:Nat→Int}{h:Int}(hc:ClientAt w cb rb x h)(hb:Below w.heap.size w w'):ClientAt w' cb rb x h:=by
 unfold ClientAt at hc ⊢;exact blk hc hb
def wantM(h r:Int)(block:ByteArray)(f:Int):MsgV:=⟨3,h,r,f,0,false,block⟩
structure CertTo (ms:Nat→MsgV) (h:Int) (block:ByteArray) (k:Nat) (b:Nat→Bool):Prop where
 want:∀i,i<k→ms i=wantM h (ms 0).r block (ms i).f
 apart:∀i j,i<j→j<k→(ms i).f≠(ms j).f
 who:∀id:Nat,id<8→(b id=true↔∃i,i<k∧(ms i).f=(id:Int))
theorem CertTo.step{ms:Nat→MsgV}{h:Int}{block:ByteArray}{k:Nat}{b:Nat→Bool}{f:Nat}(hc:CertTo ms h block k b)(hw:ms k=wantM h (ms 0).r block (ms k).f)(hf:(ms k).f=(f:Int))(hf8:f<8)(hb:b f=false):CertTo ms h block (k+1) (yesB b f) where
 want:=fun i hi=>by
  by_cases e:i=k
  .rw [e];exact hw
  .exact hc.want i (by omega)
 apart:=fun i j hij hj=>by
  by_cases e:j=k
  .subst e;intro he;have:=(hc.who f hf8).2 ⟨i,hij,by rw[he,hf]⟩;rw[hb] at this;cases this
  .exact hc.apart i j hij (by omega)
 who:=fun id hid=>by
  unfold yesB;split
  .rename_i e;subst e;exact⟨fun _=>⟨k,by omega,hf⟩,fun _=>rfl⟩
  .rename_i e;rw[hc.who id hid];constructor
   .rintro ⟨i,hi,h1⟩;exact⟨i,by omega,h1⟩
   .rintro ⟨i,hi,h1⟩
    refine⟨i,?_,h1⟩;have:i≠k:=fun e2=>by subst e2;rw[hf] at h1;omega
    omega
def CertOk(x:Nat→Int)(h:Int)(block:ByteArray)(ms:Nat→MsgV)(m:Nat):Prop:=∃b,CertTo ms h block m b∧moreB 2 x b=true
theorem CertTo.less{ms:Nat→MsgV}{h:Int}{block:ByteArray}{k m:Nat}{b b':Nat→Bool}{f:Nat}(hc:CertTo ms h block k b)(hm:CertTo ms h block m b')(hk:k<m)(hf:(ms k).f=(f:Int))(hf8:f<8):b f=false:=by
 cases e:b f with
 |false=>rfl
 |true=>
  obtain⟨i,hi,h1⟩:=(hc.who f hf8).1 e;exact absurd (h1.trans hf.symm) (hm.apart i k hi hk)
theorem powB_congr(x:Nat→Int){b b':Nat→Bool}(k:Nat)(h:∀i,i<k→b i=b' i):powB x b k=powB x b' k:=by
 induction k with
 |zero=>rfl
 |succ k ih=>simp only[powB];rw[ih (fun i hi=>h i (by omega)),h k (by omega)]
theorem CertTo.same{ms:Nat→MsgV}{h:Int}{block:ByteArray}{k:Nat}{b b':Nat→Bool}(hc:CertTo ms h block k b)(hm:CertTo ms h block k b')(t:Int)(x:Nat→Int):moreB t x b=moreB t x b':=by
 unfold moreB;have e:powB x b 8=powB x b' 8:=powB_congr x 8 (fun i hi=>by
  have h1:=hc.who i hi;have h2:=hm.who i hi;rw[←h2] at h1;cases ha:b i<;>cases hb:b' i<;>simp_all)
 rw[e]
theorem isDecided_any(cb rb:Nat)(x:Nat→Int)(h:Int)(block:ByteArray)(ms:Nat→MsgV)(p:Option Addr)(m cap:Nat)(w:World)(hx:Dom x)(hc:ClientAt w cb rb x h)(hms:MsgsAt w w.heap.size p m ms)(hf:∀i,i<m→0≤(ms i).f∧(ms i).f<8)(hm:m≤1000000000):
 Calls prog 97 #[.pointer (some ⟨cb,0,none⟩),.string block,.slice p m cap] w fun e w'=>∃r:Bool,e=.returned (.bool r)∧(r=true↔CertOk x h block ms m)∧Below w.heap.size w w':=by
 obtain⟨HX,HC,HMS,HF,HM⟩:=hide5 hx hc hms hf hm;have hmx:(m:Int)≤9223372036854775807:=by omega
 have hcbl:cb<w.heap.size:=row_lt0 hc;clear hx hc hms hf hm;go_enter func97,ntmps97;go_wp2;go_loopw [9,10,13] (fun _ _ i wr=>∃(k:Nat) (b:Nat→Bool),k≤m∧i=.int .i64 k∧CertTo ms h block k b∧wr.heap[w.heap.size]? =some (.cells (boolA b) 190 (0,0))∧Below w.heap.size w wr) (fun _ _ i _=>m-(intOf i).toNat)
 case atStart=>exact⟨0,fun _=>false,Nat.zero_le _,rfl,⟨fun i hi=>by omega,fun i j hi hj=>by omega,fun id _=>⟨fun h=>(by cases h),fun⟨i,hi,_⟩=>(by omega)⟩⟩,heap_alloc_new w _,(Below.refl _ w).alloc (Nat.le_refl _) _⟩
 obtain⟨k,b,hk,rfl,hct,hbl,hb⟩:=hrel;obtain⟨HCT,HBL,HB⟩:=hide3 hct hbl hb;have hsb:w.heap.size<wr.heap.size:=row_lt0 hbl;have HCR:=hide (HC.out.keep hb);clear hct hbl hb;by_cases hkn:k=m
 .subst hkn;go_wp2_with fail
  refine rgd (S:=fun W=>ClientAt W cb rb x h∧W.heap[w.heap.size]? =some (.cells (boolA b) 190 (0,0))∧Below w.heap.size w W) ⟨HCR.out,HBL.out,HB.out.drew⟩ (fun hH=>?_);refine takeN [(0,some 42,pA cb 0),(1,some 43,pA cb 0),(2,some 44,pA cb 1),(3,some 45,.agg (regA x)),(4,some 46,.agg (boolA b))] _ _ hH (by repeat(first|exact True.intro|((first|refine tkc rfl rfl (yieldsIf_load_mid (by rfl) 116 _ rfl cb 1 rfl (regL x) _ (fun w h=>h.1.reg) underlying116 rfl (by rw[Tryz.sizeRegistry];simp[regL])) ?_|refine tkc rfl rfl (yieldsIf_load_mid (by rfl) 190 _ rfl w.heap.size 0 rfl (boolA b).toList _ (fun w h=>row_rangeC h.2.1) underlying190 rfl Tryz.sizeBools) ?_|(refine tkc rfl rfl (Or.inl ⟨by rfl,fun x h=>?_⟩) ?_;focus(go_simp;done)));simp only[AP]))) ?_;simp only[takesA,AP,pA];refine rdy1 5 (fun K hK=>?_);go_simp;go_wp2_with ((go_at_call 137;refine(moreThan_any 2 x b _ HX.out (by decide) (by decide)).mono ?_;rintro e w1 ⟨rfl,hb1⟩))
  refine hK.out _ _ ⟨hH.1.keep hb1,blk hH.2.1 hb1,hH.2.2.trans (hb1.mono hH.2.2.size)⟩ (fun hH=>?_);clear hK K hb1;refine rdy1 6 (fun K hK=>?_);go_simp;refine hK.out _ _ hH (fun hH=>?_);clear hK K;refine dnr ?_;go_wp2;go_ret;exact⟨moreB 2 x b,rfl,⟨fun h=>⟨b,HCT.out,h⟩,fun⟨b2,h1,h2⟩=>(by rw[HCT.out.same h1];exact h2)⟩,hH.2.2⟩
 have hlt:k<m:=by omega
 have hlt2:(k:Int)<m:=by omega
 have HK:=hide hlt;have hkx:k≤1000000000:=by have:=HM.out;omega
 have h0m:(0:Int)<m:=by omega
 have h0n:0<m:=by omega
 obtain⟨pb,po,rfl,hpb,hrg⟩:=HMS.out.below HB.out k hlt;obtain⟨pb',po',e0,_,hrg0⟩:=HMS.out.below HB.out 0 (by omega);cases e0;obtain⟨hf0,hf8⟩:=HF.out k hlt;have HRG:=hide hrg;obtain⟨r0,hr0⟩:∃r,r=(ms 0).r:=⟨_,rfl⟩;have hc0:wr.cell? ⟨pb,po+2,none⟩=some (.int .i64 r0):=by rw[hr0];have:=hrg0 2 _ rfl;simpa using this
 have HR0:=hide hr0;have hch:wr.cell? ⟨cb,35,none⟩=some (.int .i64 h):=HCR.out.height;have hpbr:pb<wr.heap.size:=Nat.lt_of_lt_of_le hpb HB.out.size;have hcbr:cb<wr.heap.size:=Nat.lt_of_lt_of_le hcbl HB.out.size;clear hrg hrg0 hkn hr0;obtain⟨mm,hmm⟩:=gen (ms k);rw[←hmm] at hf0 hf8 HRG;obtain⟨f,hfe⟩:∃f:Nat,mm.f=(f:Int):=⟨mm.f.toNat,by omega⟩;obtain⟨K,H,R,Fm,V,nl,s⟩:=mm;have hfm:Fm=(f:Int):=hfe;subst hfm;have HMM:=hide hmm;have hfi:(f:Int)<8:=by simp only at hf8;exact hf8
 clear hmm hfe hf0 hf8 hlt;have hbf:wr.cell? ⟨w.heap.size,f,none⟩=some (.bool (b f)):=(cell_of_row wr _ f _ _ _ HBL.out).trans (boolA_get b f (by omega));have hbz:wr.frozen? ⟨w.heap.size,f,none⟩=false:=frozen_row HBL.out f;go_wp2_with (first|(refine wpList_load_mid rfl 57 _ rfl pb (po+k*7) rfl _ _ HRG.out underlying57 rfl Tryz.sizeMsg ?_)|(refine wpList_store_new rfl 57 _ _ rfl wr #[.int .i64 K,.int .i64 H,.int .i64 R,.int .i64 (f:Int),.int .i64 V,.bool nl,.string s] rfl rfl 57 _ rfl (by simp[Value.oneCell']) Tryz.sizeMsg ?_;intro w2 hq2 hb2 hz2;have q3:w2.cell? ⟨wr.heap.size,3,none⟩=some (.int .i64 (f:Int)):=cell_of_row w2 _ 3 _ _ _ hq2;have HQ2:=hide hq2;have HB2:=hide hb2;have HZ2:=hide hz2;clear hq2 hz2 hb2)|fail)
 have c1:w2.cell? ⟨cb,35,none⟩=some (.int .i64 h):=(HB2.out.cell (p:=⟨cb,35,none⟩) (by exact hcbr)).trans hch;have c2:w2.cell? ⟨pb,po+2,none⟩=some (.int .i64 r0):=(HB2.out.cell (p:=⟨pb,po+2,none⟩) (by exact hpbr)).trans hc0;clear hch hc0 hbf hbz;have hz3:wr.heap.size<w2.heap.size:=by have:=HZ2.out;omega
 have hcb2:cb<w2.heap.size:=by omega
 have hpb2:pb<w2.heap.size:=by omega
 refine rgd (S:=fun W=>W.cell? ⟨cb,35,none⟩=some (.int .i64 h)∧W.cell? ⟨pb,po+2,none⟩=some (.int .i64 r0)∧W.cell? ⟨wr.heap.size,3,none⟩=some (.int .i64 (f:Int))) ⟨c1,c2,q3⟩ (fun hH=>?_);refine takeN [(0,some 17,pA cb 0),(1,some 18,pA cb 0),(2,some 19,pA cb 35),(3,some 20,.int .i64 h),(4,some 21,.slice (some ⟨pb,po,none⟩) m cap),(5,some 22,pA pb po),(6,some 23,pA pb (po+2)),(7,some 24,.int .i64 r0),(8,some 25,pA wr.heap.size 3),(9,some 26,.int .i64 (f:Int)),(10,some 27,.string block),(11,some 28,.agg #[.int .i64 3,.int .i64 h,.int .i64 r0,.int .i64 (f:Int),.int .i64 0,.bool false,.string block])] _ _ hH (by repeat(first|exact True.intro|(refine tkc rfl rfl (Or.inl ⟨by rfl,fun x h=>by have f0:=h.1;have f1:=h.2.1;have f2:=h.2.2;go_simp⟩) ?_;simp only[AP]))) ?_;simp only[takesA,AP,pA];refine rdy1 12 (fun K hK=>?_);go_simp;refine hK.out _ _ ⟨(World.cell?_of_block (w:=w2) (a:=⟨cb,35,none⟩) (Below.heap_alloc w2 _ cb hcb2)).trans c1,(World.cell?_of_block (w:=w2) (a:=⟨pb,po+2,none⟩) (Below.heap_alloc w2 _ pb hpb2)).trans c2,(World.cell?_of_block (w:=w2) (a:=⟨wr.heap.size,3,none⟩) (Below.heap_alloc w2 _ wr.heap.size hz3)).trans q3⟩ (fun hH=>?_);clear hK K;refine rdy1 13 (fun K hK=>?_);rw[if_pos (by rfl)];refine wp_store_new 57 _ _ rfl w2.drew #[.int .i64 3,.int .i64 h,.int .i64 r0,.int .i64 (f:Int),.int .i64 0,.bool false,.string block] rfl rfl 57 _ rfl (by simp[Value.oneCell']) Tryz.sizeMsg ?_;intro w4 hq4 hb4' hz4;have hb4:Below w2.heap.size w2 w4:=((Below.refl w2.heap.size w2).drew).trans hb4';refine hK.out _ _ ⟨(hb4.cell (p:=⟨cb,35,none⟩) (by exact hcb2)).trans c1,(hb4.cell (p:=⟨pb,po+2,none⟩) (by exact hpb2)).trans c2,(hb4.cell (p:=⟨wr.heap.size,3,none⟩) (by exact hz3)).trans q3⟩ (fun hH=>?_);clear hK K;refine dnr ?_;have HQ4:Hid (w4.heap[w2.heap.size]? =some (.cells #[.int .i64 3,.int .i64 h,.int .i64 r0,.int .i64 (f:Int),.int .i64 0,.bool false,.string block] 57 (0,0))):=hq4;obtain⟨HQ24,HBL4⟩:=hide2 (blk HQ2.out hb4) (blk (blk HBL.out HB2.out) hb4);have HB4:Hid (Below w.heap.size w w4):=HB.out.trans ((HB2.out.mono HB.out.size).trans (hb4.mono (by omega)));have q43:w4.cell? ⟨wr.heap.size,3,none⟩=some (.int .i64 (f:Int)):=hH.2.2;have q44:w4.cell? ⟨w.heap.size,f,none⟩=some (.bool (b f)):=(cell_of_row w4 _ f _ _ _ HBL4.out).trans (boolA_get b f (by omega));have q45:w4.frozen? ⟨w.heap.size,f,none⟩=false:=frozen_row HBL4.out f;clear hH hq4 hb4' hz4 hb4 c1 c2 q3 hz3 hcb2 hpb2 HBL HB HB2 HQ2 HZ2 HCR;cases hmb:msgB ⟨K,H,R,(f:Int),V,nl,s⟩ (wantM h r0 block (f:Int)) with
 |false=>
  have HNO:Hid (¬CertOk x h block ms m):=by
   rintro⟨b',hct',_⟩;have e:=hct'.want k HK.out;rw[←HR0.out,←HMM.out] at e;rw[(msgB_iff _ _).2 e] at hmb;cases hmb
  have HMB:=hide hmb;clear hmb;go_wp2_with (first|(refine wpList_load_row rfl 57 _ rfl wr.heap.size rfl 57 #[.int .i64 K,.int .i64 H,.int .i64 R,.int .i64 (f:Int),.int .i64 V,.bool nl,.string s] (0,0) _ HQ24.out underlying57 rfl Tryz.sizeMsg ?_)|(refine wpList_load_row rfl 57 _ rfl w2.heap.size rfl 57 #[.int .i64 3,.int .i64 h,.int .i64 r0,.int .i64 (f:Int),.int .i64 0,.bool false,.string block] (0,0) _ HQ4.out underlying57 rfl Tryz.sizeMsg ?_)|(refine wpList_neq_msgC rfl _ _ _ rfl ⟨K,H,R,(f:Int),V,nl,s⟩ (wantM h r0 block (f:Int)) rfl rfl ?_;rw[HMB.out])|go_in)
  go_ret;exact⟨false,rfl,⟨fun h=>(by cases h),fun h=>absurd h HNO.out⟩,HB4.out⟩
 |true=>
  obtain⟨HME,HMB⟩:=hide2 ((msgB_iff _ _).1 hmb) hmb;clear hmb;cases hbf:b f with
  |true=>
   have HNO:Hid (¬CertOk x h block ms m):=by
    rintro⟨b',hct',_⟩;have e:=HCT.out.less hct' HK.out (f:=f) (by rw[←HMM.out]) (by omega);rw[hbf] at e;cases e
   rw[hbf] at q44;clear hbf;go_wp2_with (first|(refine wpList_load_row rfl 57 _ rfl wr.heap.size rfl 57 #[.int .i64 K,.int .i64 H,.int .i64 R,.int .i64 (f:Int),.int .i64 V,.bool nl,.string s] (0,0) _ HQ24.out underlying57 rfl Tryz.sizeMsg ?_)|(refine wpList_load_row rfl 57 _ rfl w2.heap.size rfl 57 #[.int .i64 3,.int .i64 h,.int .i64 r0,.int .i64 (f:Int),.int .i64 0,.bool false,.string block] (0,0) _ HQ4.out underlying57 rfl Tryz.sizeMsg ?_)|(refine wpList_neq_msgC rfl _ _ _ rfl ⟨K,H,R,(f:Int),V,nl,s⟩ (wantM h r0 block (f:Int)) rfl rfl ?_;rw[HMB.out])|go_in)
   go_ret;exact⟨false,rfl,⟨fun h=>(by cases h),fun h=>absurd h HNO.out⟩,HB4.out⟩
  |false=>
   have HBF:=hide hbf;rw[hbf] at q44;clear hbf;go_wp2_with (first|(refine wpList_load_row rfl 57 _ rfl wr.heap.size rfl 57 #[.int .i64 K,.int .i64 H,.int .i64 R,.int .i64 (f:Int),.int .i64 V,.bool nl,.string s] (0,0) _ HQ24.out underlying57 rfl Tryz.sizeMsg ?_)|(refine wpList_load_row rfl 57 _ rfl w2.heap.size rfl 57 #[.int .i64 3,.int .i64 h,.int .i64 r0,.int .i64 (f:Int),.int .i64 0,.bool false,.string block] (0,0) _ HQ4.out underlying57 rfl Tryz.sizeMsg ?_)|(refine wpList_neq_msgC rfl _ _ _ rfl ⟨K,H,R,(f:Int),V,nl,s⟩ (wantM h r0 block (f:Int)) rfl rfl ?_;rw[HMB.out])|go_in)
   go_roundw
   case rel=>
    refine⟨k+1,yesB b f,HK.out,by go_num,HCT.out.step ?_ (by rw[←HMM.out]) (by omega) HBF.out,?_,HB4.out.setCell (by exact Nat.le_refl _) _⟩
    .rw [←HMM.out,←HR0.out];exact HME.out
    rw[←boolA_set b f (by omega)];have h1:=HBL4.out;simp[World.setCell,Array.getElem?_modify,h1]
   case measure=>have:=HK.out;simp[intOf];omega
end Go.Proofs.YtcfjhbcpjpgodaaGreatDoor

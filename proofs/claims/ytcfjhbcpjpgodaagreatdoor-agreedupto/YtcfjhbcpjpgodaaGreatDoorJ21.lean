/- Proved here: the certificate of a proposal: the frames of the precommits for it, by senders. -/
import Derived.Test.YtcfjhbcpjpgodaaGreatDoorJ27
import Derived.Test.YtcfjhbcpjpgodaaGreatDoorJ17
import Derived.Test.YtcfjhbcpjpgodaaGreatDoorJ11
import Derived.Test.YtcfjhbcpjpgodaaGreatDoorJ6
import Derived.Shelf.Slices.Delete
import Derived.Sort.OwnSorted
import Derived.Test.YtcfjhbcpjpgodaaGreatDoorTakeL
namespace Go.Proofs.YtcfjhbcpjpgodaaGreatDoor
open Go.RowKit Go.Proofs.Tryz
set_option maxRecDepth 100000
set_option maxHeartbeats 6400000
theorem own_nilorC{w:World}{base e n c:Nat}{p:Option Addr}{xs:List Value}(h:w.ownsRow base e 1 (.slice p n c) n xs):NilOr p n c:=by
 rcases h.2 with⟨e,h0⟩|⟨b,cap,cur,e,_⟩
 .cases e;exact Or.inl ⟨rfl,rfl,rfl⟩
 cases e;exact Or.inr ⟨b,0,rfl⟩
theorem own_baseC{w:World}{b b' e z n:Nat}{v:Value}{xs:List Value}(h:w.ownsRow b e z v n xs)(hb:b'≤b):w.ownsRow b' e z v n xs:=by
 rcases h with⟨h1,h2|⟨g,cap,cur,h2,h3,h4⟩⟩
 .exact ⟨h1,Or.inl h2⟩
 exact⟨h1,Or.inr ⟨g,cap,cur,h2,Nat.le_trans hb h3,h4⟩⟩
theorem range_getD(L:List ByteArray):((List.range L.length).map fun i=>Value.string (L.getD i ByteArray.empty))=L.map .string:=by
 apply List.ext_getElem
 .simp
 intro i h1 h2;have hi:i<L.length:=by simpa using h1
 simp[List.getD_eq_getElem?_getD,hi]
def certTo(fits:EntV→Bool)(l:List EntV):Nat→List ByteArray
 |0=>[]
 |k+1=>certTo fits l k++framesL (fun e=>decide (e.m.f=(k:Int))&&fits e) l
theorem certTo_le(fits:EntV→Bool)(l:List EntV):∀k,(certTo fits l k).length≤k*l.length
 |0=>by simp[certTo]
 |k+1=>by
  have h1:=certTo_le fits l k;have h2:=framesL_le (fun e=>decide (e.m.f=(k:Int))&&fits e) l;rw[certTo,List.length_append,Nat.add_mul,Nat.one_mul];omega
theorem cert1_fits(g:Nat)(lb:Array Value)(fits:EntV→Bool)(b1 b2:Nat)(k:Int)(L:List EntV)(w:World)(eg:EntersP g)(c1:w.cell? ⟨b1,0,none⟩=some (.int .i64 k))(c2:w.cell? ⟨b2,0,none⟩=some (.func (.func g) #[] lb))(hf:FitsAt g lb fits L w):
 FitsAt 201 #[.pointer (some ⟨b1,0,none⟩),.pointer (some ⟨b2,0,none⟩)] (fun e=>decide (e.m.f=k)&&fits e) L w:=by
 intro W e he hW;have HCL:=hide (fun W' hW'=>hf W' e he hW');have eg':∀(args:Array Value) (w:World),(callFunc g args).run prog w=.ok (.enter g args) w:=eg;obtain⟨⟨K,H,R,f,v,nl,t⟩,fr,own⟩:=e;show Calls prog 201 #[.agg #[.int .i64 K,.int .i64 H,.int .i64 R,.int .i64 f,.int .i64 v,.bool nl,.string t,.string fr,.bool own],.pointer (some ⟨b1,0,none⟩),.pointer (some ⟨b2,0,none⟩)] W _;have hc:(W.alloc (.cells #[.int .i64 K,.int .i64 H,.int .i64 R,.int .i64 f,.int .i64 v,.bool nl,.string t,.string fr,.bool own] 164)).cell? ⟨W.heap.size,3,none⟩=some (.int .i64 f):=cell_of_row _ W.heap.size 3 _ _ _ (heap_alloc_new W _);have hc1:(W.alloc (.cells #[.int .i64 K,.int .i64 H,.int .i64 R,.int .i64 f,.int .i64 v,.bool nl,.string t,.string fr,.bool own] 164)).cell? ⟨b1,0,none⟩=some (.int .i64 k):=cell?_alloc_old _ (Ext.cell c1 (Ext.of hW));have hc2:(W.alloc (.cells #[.int .i64 K,.int .i64 H,.int .i64 R,.int .i64 f,.int .i64 v,.bool nl,.string t,.string fr,.bool own] 164)).cell? ⟨b2,0,none⟩=some (.func (.func g) #[] lb):=cell?_alloc_old _ (Ext.cell c2 (Ext.of hW));have HQ:Hid ((W.alloc (.cells #[.int .i64 K,.int .i64 H,.int .i64 R,.int .i64 f,.int .i64 v,.bool nl,.string t,.string fr,.bool own] 164)).heap[W.heap.size]? =some (.cells #[.int .i64 K,.int .i64 H,.int .i64 R,.int .i64 f,.int .i64 v,.bool nl,.string t,.string fr,.bool own] 164 (0,0))):=heap_alloc_new W _;have HB1:Hid (Below W.heap.size W (W.alloc (.cells #[.int .i64 K,.int .i64 H,.int .i64 R,.int .i64 f,.int .i64 v,.bool nl,.string t,.string fr,.bool own] 164))):=(Below.refl _ W).alloc (Nat.le_refl _) _;have HB0:Hid (Below w.heap.size w (W.alloc (.cells #[.int .i64 K,.int .i64 H,.int .i64 R,.int .i64 f,.int .i64 v,.bool nl,.string t,.string fr,.bool own] 164))):=hW.trans (HB1.out.mono hW.size);clear he hW c1 c2 hf eg;by_cases hid:f=k
 .subst hid;have HC:=hide (HCL.out (W.alloc (.cells #[.int .i64 K,.int .i64 H,.int .i64 R,.int .i64 f,.int .i64 v,.bool nl,.string t,.string fr,.bool own] 164)) HB0.out);have q:(f==f)=true:=by simp
  have HE:Hid ((decide (f=f)&&fits ⟨⟨K,H,R,f,v,nl,t⟩,fr,own⟩)=fits ⟨⟨K,H,R,f,v,nl,t⟩,fr,own⟩):=by unfold Hid;simp
  clear HCL;go_enter func201,ntmps201;go_wp2_with (first|(refine wpList_load_row rfl 164 _ rfl W.heap.size rfl 164 #[.int .i64 K,.int .i64 H,.int .i64 R,.int .i64 f,.int .i64 v,.bool nl,.string t,.string fr,.bool own] (0,0) _ HQ.out underlying164 rfl Tryz.sizeEnt ?_)|(go_at_fn g;refine HC.out.mono ?_;rintro e w3 ⟨rfl,hb3⟩;have HB3:=hide hb3;clear hb3)|fail)
  go_ret;exact⟨ret_b (by first|rfl|(rw[HE.out])|simp),below_to HB1.out HB3.out⟩
 have q:(f==k)=false:=by simpa using hid
 have HE:Hid ((decide (f=k)&&fits ⟨⟨K,H,R,f,v,nl,t⟩,fr,own⟩)=false):=by unfold Hid;simp[hid]
 clear HCL;go_enter func201,ntmps201;go_wp2;go_ret;exact⟨ret_b (by first|exact HE.out.symm|(rw[HE.out])|simp[hid]),HB1.out⟩
theorem store_box(g:Nat)(lb:Array Value)(w:World):(store ⟨w.heap.size,0,none⟩ (.func (.func g) #[] lb)).run prog (w.alloc (.cells #[.nilFunc] 183))=.ok () (w.alloc (.cells #[.func (.func g) #[] lb] 183)):=by
 have hc:(w.alloc (.cells #[.nilFunc] 183)).cell? ⟨w.heap.size,0,none⟩=some .nilFunc:=cell_of_row _ w.heap.size 0 _ _ _ (heap_alloc_new w _);have hf:(w.alloc (.cells #[.nilFunc] 183)).frozen? ⟨w.heap.size,0,none⟩=false:=by
  unfold World.frozen?;simp only[heap_alloc_new];rfl
 rw[run_store prog _ _ _ _ rfl,hc];simp[hf,World.setCell_alloc_at]
theorem certificate_any(nb kb cb:Nat)(p:EntV)(V:NodeV)(s:NodeS)(w:World)(hA:NodeAt nb kb cb V s w)(hm:s.log.length≤10000000):
 Calls prog 185 #[.pointer (some ⟨nb,0,none⟩),.agg p.cells] w fun e w'=>∃v,e=.returned v∧w'.ownsRow w.heap.size 9 1 v (certTo (votesForB 3 p.m.r p.m.s) s.log 8).length ((certTo (votesForB 3 p.m.r p.m.s) s.log 8).map .string)∧Below w.heap.size w w':=by
 obtain⟨i9,hi9,hz0,hz1,hz2⟩:=info_parts Tryz.infoString;have hmf:∀(fn:Fn) (first cap:Array Value) (w:World),(Instr.makeFunc fn first cap).run prog w=.ok (.func fn first cap) w:=fun _ _ _ _=>rfl;obtain⟨lp,lc,elv,c37,hlm,hle⟩:=hA.logAt;have hnl:nb<w.heap.size:=row_lt0 hA.blk;obtain⟨⟨K,H,R,f,v,nl,t⟩,fr,own⟩:=p;show Calls prog 185 #[.pointer (some ⟨nb,0,none⟩),.agg #[.int .i64 K,.int .i64 H,.int .i64 R,.int .i64 f,.int .i64 v,.bool nl,.string t,.string fr,.bool own]] w fun e w'=>∃v,e=.returned v∧w'.ownsRow w.heap.size 9 1 v (certTo (votesForB 3 R t) s.log 8).length ((certTo (votesForB 3 R t) s.log 8).map .string)∧Below w.heap.size w w';have k2:(w.alloc (.cells #[.int .i64 K,.int .i64 H,.int .i64 R,.int .i64 f,.int .i64 v,.bool nl,.string t,.string fr,.bool own] 164)).cell? ⟨w.heap.size,2,none⟩=some (.int .i64 R):=cell_of_row _ w.heap.size 2 _ _ _ (heap_alloc_new w _);have k6:(w.alloc (.cells #[.int .i64 K,.int .i64 H,.int .i64 R,.int .i64 f,.int .i64 v,.bool nl,.string t,.string fr,.bool own] 164)).cell? ⟨w.heap.size,6,none⟩=some (.string t):=cell_of_row _ w.heap.size 6 _ _ _ (heap_alloc_new w _);have HV:=hide (votesFor_any 3 R t (w.alloc (.cells #[.int .i64 K,.int .i64 H,.int .i64 R,.int .i64 f,.int .i64 v,.bool nl,.string t,.string fr,.bool own] 164)));have HB1:Hid (Below w.heap.size w (w.alloc (.cells #[.int .i64 K,.int .i64 H,.int .i64 R,.int .i64 f,.int .i64 v,.bool nl,.string t,.string fr,.bool own] 164))):=(Below.refl _ w).alloc (Nat.le_refl _) _;obtain⟨HLE,HC37,HM⟩:=hide3 hle c37 hm;clear hle c37 hm hlm elv hA;go_enter func185,ntmps185;go_wp2_with (first|(go_at_call 151;refine HV.out.mono ?_;rintro e w2 ⟨g,lb,rfl,eg,hfit,hb2⟩;have HB2:Hid (Below w.heap.size w w2):=below_to HB1.out hb2;have HG:=hide eg;have HFIT:=hide hfit;have hsb:=store_box g lb w2;clear eg hfit hb2)|fail)
 clear hsb;obtain⟨w3,hw3⟩:=gen (w2.alloc (.cells #[.func (.func g) #[] lb] 183));have HB3:Hid (Below w.heap.size w w3):=by rw[hw3];exact HB2.out.alloc HB2.out.size _
 have HF3:Hid (∀l,FitsAt g lb (votesForB 3 R t) l w3):=by rw[hw3];exact fun l=>(HFIT.out l).later ((Below.refl _ w2).alloc (Nat.le_refl _) _)
 have HX3:Hid (w3.cell? ⟨w2.heap.size,0,none⟩=some (.func (.func g) #[] lb)):=by rw[hw3];exact cell_of_row _ w2.heap.size 0 _ _ _ (heap_alloc_new w2 _)
 have hz3:w3.heap.size=w2.heap.size+1:=by rw[hw3];simp
 have HZ3:=hide hz3;clear hz3;have HW3:=hide hw3;clear hw3;first|rw[←HW3.out]|skip
 go_loopw [6,7,15] (fun v _ kv wr=>∃k:Nat,k≤8∧kv=.int .i64 k∧wr.ownsRow w3.heap.size 9 1 v (certTo (votesForB 3 R t) s.log k).length ((certTo (votesForB 3 R t) s.log k).map .string)∧Below w3.heap.size w3 wr) (fun _ _ kv _=>8-(intOf kv).toNat)
 case atStart=>exact⟨0,Nat.zero_le _,rfl,World.ownsRow_nil _ _ _ _,Below.refl _ _⟩
 obtain⟨k,hk,rfl,hv,hb⟩:=hrel;obtain⟨HOWN,HB⟩:=hide2 hv hb;clear hv hb;by_cases hend:k=8
 .subst hend;go_wp2;go_ret;exact⟨_,rfl,own_baseC HOWN.out HB3.out.size,HB3.out.trans (HB.out.mono HB3.out.size)⟩
 have hk8:k<8:=by omega
 have hk82:(k:Int)<8:=by omega
 obtain⟨w4,hw4⟩:=gen (wr.alloc (.cells #[.int .i64 k] 3));have HB4:Hid (Below wr.heap.size wr w4):=by rw[hw4];exact(Below.refl _ wr).alloc (Nat.le_refl _) _
 have HX4:Hid (w4.cell? ⟨wr.heap.size,0,none⟩=some (.int .i64 k)):=by rw[hw4];exact cell_of_row _ wr.heap.size 0 _ _ _ (heap_alloc_new wr _)
 have HB34:Hid (Below w3.heap.size w3 w4):=below_to HB.out HB4.out;have HB04:Hid (Below w.heap.size w w4):=HB3.out.trans (HB34.out.mono HB3.out.size);have hc4:w4.cell? ⟨nb,37,none⟩=some (.slice lp s.log.length lc):=(HB04.out.cell (p:=⟨nb,37,none⟩) (by exact hnl)).trans HC37.out;have hc4':=hc4;rw[hw4] at hc4';have hg4:w4.cell? ⟨w2.heap.size,0,none⟩=some (.func (.func g) #[] lb):=(HB34.out.cell (p:=⟨w2.heap.size,0,none⟩) (by show w2.heap.size<w3.heap.size;rw[HZ3.out];omega)).trans HX3.out;have HFR:=hide (frames_any 201 #[.pointer (some ⟨wr.heap.size,0,none⟩),.pointer (some ⟨w2.heap.size,0,none⟩)] _ s.log lp lc w4 (enters_of func201 (by decide) rfl) ((HLE.out.below HB04.out).more HB04.out.size) (by have:=HM.out;omega) (cert1_fits g lb (votesForB 3 R t) wr.heap.size w2.heap.size (k:Int) s.log w4 HG.out HX4.out hg4 ((HF3.out s.log).later HB34.out)));have HW4:=hide hw4;have HCL:Hid ((certTo (votesForB 3 R t) s.log k).length≤80000000):=by
  have h1:=certTo_le (votesForB 3 R t) s.log k;have h2:k*s.log.length≤8*10000000:=Nat.mul_le_mul (by omega) HM.out;unfold Hid;omega
 have HFL:=hide (framesL_le (fun e=>decide (e.m.f=(k:Int))&&votesForB 3 R t e) s.log);obtain⟨L0,hL0⟩:=gen (certTo (votesForB 3 R t) s.log k);obtain⟨L1,hL1⟩:=gen (framesL (fun e=>decide (e.m.f=(k:Int))&&votesForB 3 R t e) s.log);rw[←hL0] at HOWN HCL;rw[←hL1] at HFR HFL;have HS:Hid (certTo (votesForB 3 R t) s.log (k+1)=L0++L1):=by rw[hL0,hL1];rfl
 clear hw4 hc4 hg4 hL0 hL1;go_wp2_with fail
 rw[←HW4.out];refine HFR.out.mono ?_;rintro e w5 ⟨v5,rfl,hv5,hb5⟩;obtain⟨p5,c5,rfl,_,hl5⟩:=own_lies hv5;obtain⟨HN5,HL5⟩:=hide2 (own_nilorC hv5) hl5;have HB45:Hid (Below wr.heap.size wr w5):=below_to HB4.out hb5;have HB35:Hid (Below w3.heap.size w3 w5):=below_to HB.out HB45.out;have HO5:=hide (own_keep HOWN.out HB45.out);clear hv5 hb5 hl5;go_wp2_with (at_builtin;refine wpList_append_texts _ rfl _ _ 30 rfl w3.heap.size 9 i9 (.string ByteArray.empty) 16 underlying30 hi9 hz0 hz1 hz2 rfl _ L0.length _ rfl HO5.out p5 L1.length c5 (fun i=>L1.getD i ByteArray.empty) rfl HN5.out HL5.out (by have:=HCL.out;have:=HFL.out;have:=HM.out;unfold maxLen;omega) (by have:=HCL.out;have:=HFL.out;have:=HM.out;omega) HB35.out.size ?_;intro v6 w6 hown6 hgrow6 hat6;have HO6:=hide hown6;have HB6:Hid (Below w3.heap.size w3 w6):=HB35.out.grown hgrow6 HB35.out.size (fun k hk=>(HO5.out.lt k hk).1);clear hown6 hgrow6 hat6)
 go_roundw
 case rel=>
  refine⟨k+1,by omega,by go_num,?_,HB6.out⟩;have h:=HO6.out;rw[range_getD] at h;rw[HS.out,List.length_append,List.map_append];exact h
 case measure=>simp[intOf];omega
def idxI(fits:EntV→Bool):List EntV→Nat→Int
 | [],_=> -1
 |e::l,k=>if fits e=true then(k:Int) else idxI fits l (k+1)
theorem idxI_none{fits:EntV→Bool}:∀(l:List EntV) (k:Nat),(∀e∈l,fits e=false)→idxI fits l k= -1
 | [],_,_=>rfl
 |e::l,k,h=>by
  unfold idxI;rw[h e (List.mem_cons_self ..),if_neg (by decide)];exact idxI_none l (k+1) fun x hx=>h x (List.mem_cons_of_mem _ hx)
theorem idxI_some{fits:EntV→Bool}:∀(l:List EntV) (k j:Nat),j<l.length→(∀e∈l.take j,fits e=false)→fits (l.getD j ent0)=true→idxI fits l k=((k+j:Nat):Int)
 | [],_,j,h,_,_=>by simp at h
 |e::l,k,0,_,_,ht=>by
  unfold idxI;rw[show fits e=true from ht,if_pos rfl];rfl
 |e::l,k,j+1,hj,ha,ht=>by
  unfold idxI;rw[ha e (by simp),if_neg (by decide),idxI_some l (k+1) j (by simpa using hj) (fun x hx=>ha x (by rw[List.take_succ_cons];exact List.mem_cons_of_mem _ hx)) (by simpa using ht)]
  congr 1
  omega
theorem idx_cases(fits:EntV→Bool):∀l:List EntV,(∀e∈l,fits e=false)∨∃k,k<l.length∧(∀e∈l.take k,fits e=false)∧fits (l.getD k ent0)=true
 | []=>Or.inl (by simp)
 |e::l=>by
  cases he:fits e with
  |true=>exact Or.inr ⟨0,by simp,by simp,by simpa using he⟩
  |false=>
   rcases idx_cases fits l with h|⟨k,hk,ha,ht⟩
   .left;intro x hx;rcases List.mem_cons.1 hx with rfl|hx
    .exact he
    .exact h x hx
   .right;refine⟨k+1,by simpa using hk,?_,by simpa using ht⟩;intro x hx;rw[List.take_succ_cons] at hx;rcases List.mem_cons.1 hx with rfl|hx
    .exact he
    .exact ha x hx
theorem indexFunc_any(g:Nat)(lb:Array Value)(fits:EntV→Bool)(l:List EntV)(p:Option Addr)(cap:Nat)(w:World)(eg:EntersP g)(hl:EntsAt w w.heap.size p l.length (fun i=>l.getD i ent0))(hm:l.length≤maxLen)(hf:FitsAt g lb fits l w):
 Calls prog 141 #[.slice p l.length cap,.func (.func g) #[] lb] w fun e w'=>e=.returned (.int .i64 (idxI fits l 0))∧Below w.heap.size w w':=by
 obtain⟨HL,HF⟩:=hide2 hl hf;have hmx:l.length≤9223372036854775807:=by unfold maxLen at hm;omega
 have eg':∀(args:Array Value) (w:World),(callFunc g args).run prog w=.ok (.enter g args) w:=eg;clear hl hm hf eg;go_enter func141,ntmps141;go_wp2;go_loopw [5,8] (fun _ i wr=>∃j:Nat,j≤l.length∧i=.int .i64 j∧(∀e∈l.take j,fits e=false)∧Below w.heap.size w wr) (fun _ i _=>l.length-(intOf i).toNat)
 case atStart=>exact⟨0,Nat.zero_le _,rfl,fun e he=>by simp at he,Below.refl _ _⟩
 obtain⟨j,hj,rfl,hno,hb⟩:=hrel;obtain⟨HB,HNO⟩:=hide2 hb hno;clear hb hno;by_cases hend:j=l.length
 .have HI:Hid (idxI fits l 0= -1):=idxI_none l 0 (by have h:=HNO.out;rw[hend,List.take_length] at h;exact h);have hge:¬(j:Int)<l.length:=by omega
  clear hend;go_wp2;go_ret;exact⟨by rw[HI.out];rfl,HB.out⟩
 have hlt:j<l.length:=by omega
 have hlt2:(j:Int)<l.length:=by omega
 obtain⟨b,o,rfl,hbb,hrg⟩:=HL.out.below HB.out j hlt;obtain⟨ev,hev⟩:=gen (l.getD j ent0);have hrg':=hrg;simp only[←hev] at hrg';obtain⟨⟨K,H,R,f,V,nl,s⟩,fr,own⟩:=ev;have HRG:Hid (wr.rangeAt b (o+j*9) [.int .i64 K,.int .i64 H,.int .i64 R,.int .i64 f,.int .i64 V,.bool nl,.string s,.string fr,.bool own]):=hrg';have HEV:=hide hev;clear hrg hrg' hev hbb;have hMEM:=getD_mem l ent0 j hlt;rw[←HEV.out] at hMEM;have HCL:=hide (HF.out wr ⟨⟨K,H,R,f,V,nl,s⟩,fr,own⟩ hMEM HB.out);clear hMEM;cases hft:fits ⟨⟨K,H,R,f,V,nl,s⟩,fr,own⟩ with
 |false=>
  have HN2:Hid (∀e∈l.take (j+1),fits e=false):=by
   intro e he;rw[take_stepE l ent0 j hlt,List.mem_append] at he;rcases he with he|he
   .exact HNO.out e he
   rw[List.mem_singleton] at he;rw[he,←HEV.out];exact hft
  go_wp2_with (first|(refine wpList_load_mid rfl 164 _ rfl b (o+j*9) rfl [.int .i64 K,.int .i64 H,.int .i64 R,.int .i64 f,.int .i64 V,.bool nl,.string s,.string fr,.bool own] _ HRG.out underlying164 rfl Tryz.sizeEnt ?_)|(go_at_fn g;refine HCL.out.mono ?_;rw[hft];rintro e w3 ⟨rfl,hb3⟩;have HB3:Hid (Below wr.heap.size wr w3):=hb3;clear hb3)|fail)
  go_roundw
  case rel=>exact⟨j+1,by omega,by go_num,HN2.out,HB.out.trans (HB3.out.mono HB.out.size)⟩
  case measure=>simp[intOf];omega
 |true=>
  have HI:Hid (idxI fits l 0=(j:Int)):=by
   unfold Hid;rw[idxI_some l 0 j hlt HNO.out (by rw[←HEV.out];exact hft),Nat.zero_add]
  go_wp2_with (first|(refine wpList_load_mid rfl 164 _ rfl b (o+j*9) rfl [.int .i64 K,.int .i64 H,.int .i64 R,.int .i64 f,.int .i64 V,.bool nl,.string s,.string fr,.bool own] _ HRG.out underlying164 rfl Tryz.sizeEnt ?_)|(go_at_fn g;refine HCL.out.mono ?_;rw[hft];rintro e w3 ⟨rfl,hb3⟩;have HB3:Hid (Below wr.heap.size wr w3):=hb3;clear hb3)|fail)
  go_ret;exact⟨by rw[HI.out];rfl,HB.out.trans (HB3.out.mono HB.out.size)⟩
def EntCells(cur:Array Value)(cap:Nat)(l:List EntV):Prop:=l.length≤cap∧cap≤maxLen∧cur.size=cap*9∧cur.toList.take (l.length*9)=entL l
def EntRowAt(w:World)(g cap:Nat)(l:List EntV):Prop:=∃cur,w.heap[g]? =some (.cells cur 164 (0,0))∧EntCells cur cap l
theorem entL_set(x:EntV):∀(l:List EntV) (k:Nat),k<l.length→entL (l.set k x)=(entL l).take (k*9)++x.cells.toList++(entL l).drop (k*9+9)
 | [],k,h=>by simp at h
 |m::l,0,_=>by
  have hc:m.cells.toList.length=9:=by simp[EntV.cells]
  have e:entL (m::l)=m.cells.toList++entL l:=by simp[entL]
  have e2:entL (x::l)=x.cells.toList++entL l:=by simp[entL]
  rw[List.set_cons_zero,e,e2,Nat.zero_mul,List.take_zero,List.nil_append,Nat.zero_add,List.drop_append_of_le_length (by omega),List.drop_of_length_le (by omega),List.nil_append]
 |m::l,k+1,h=>by
  have hc:m.cells.toList.length=9:=by simp[EntV.cells]
  have ih:=entL_set x l k (by simpa using h);have e:entL (m::l)=m.cells.toList++entL l:=by simp[entL]
  have e2:entL (m::l.set k x)=m.cells.toList++entL (l.set k x):=by simp[entL]
  rw[List.set_cons_succ,e,e2,ih];have h1:(k+1)*9=m.cells.toList.length+k*9:=by omega
  have h2:(k+1)*9+9=m.cells.toList.length+(k*9+9):=by omega
  rw[h1,List.take_length_add_append,Nat.add_assoc,List.drop_length_add_append];simp[List.append_assoc]
theorem EntCells.set{cur:Array Value}{cap:Nat}{l:List EntV}(h:EntCells cur cap l)(k:Nat)(x:EntV)(hk:k<l.length):EntCells (cur.toList.take (k*9)++x.cells.toList++cur.toList.drop (k*9+9)).toArray cap (l.set k x):=by
 obtain⟨h1,h2,h3,h4⟩:=h;have hx:x.cells.toList.length=9:=by simp[EntV.cells]
 have hk5:k*9+9≤l.length*9:=by
  have:(k+1)*9≤l.length*9:=Nat.mul_le_mul_right 9 (by omega);omega
 have hlc:l.length*9≤cap*9:=Nat.mul_le_mul_right 9 h1;obtain⟨R,hR⟩:=gen (cur.toList.drop (l.length*9));have hcur:cur.toList=entL l++R:=by rw[hR,←h4,List.take_append_drop]
 have hlen:(entL l).length=l.length*9:=entL_length l;refine⟨by simpa using h1,h2,?_,?_⟩
 .simp only[List.size_toArray,List.length_append,List.length_take,List.length_drop,hx,Array.length_toList];omega
 have e:cur.toList.take (k*9)++x.cells.toList++cur.toList.drop (k*9+9)=entL (l.set k x)++R:=by
  rw[hcur,entL_set x l k hk,List.take_append_of_le_length (by omega),List.drop_append_of_le_length (by omega)];simp[List.append_assoc]
 rw[List.toList_toArray,e,List.length_set,List.take_append_of_le_length (by rw[entL_length,List.length_set];exact Nat.le_refl _),List.take_of_length_le (by rw[entL_length,List.length_set];exact Nat.le_refl _)]
theorem entL_take:∀(l:List EntV) (k:Nat),entL (l.take k)=(entL l).take (k*9)
 | [],k=>by simp[entL]
 |m::l,0=>by simp[entL]
 |m::l,k+1=>by
  have hc:m.cells.toList.length=9:=by simp[EntV.cells]
  have e:entL (m::l)=m.cells.toList++entL l:=by simp[entL]
  have e2:entL (m::l.take k)=m.cells.toList++entL (l.take k):=by simp[entL]
  rw[List.take_succ_cons,e,e2,entL_take l k,show(k+1)*9=m.cells.toList.length+k*9 by omega,List.take_length_add_append]
theorem EntCells.front{cur cur':Array Value}{cap:Nat}{l:List EntV}(h:EntCells cur cap l)(k:Nat)(hk:k≤l.length)(hs:cur'.size=cur.size)(ht:cur'.toList.take (k*9)=cur.toList.take (k*9)):EntCells cur' cap (l.take k):=by
 obtain⟨h1,h2,h3,h4⟩:=h;have hl:(l.take k).length=k:=by rw[List.length_take];omega
 refine⟨by omega,h2,by omega,?_⟩;rw[hl,entL_take,←h4,List.take_take,Nat.min_eq_left (Nat.mul_le_mul_right 9 hk),ht]
theorem EntRowAt.ents{w:World}{g cap:Nat}{l:List EntV}(h:EntRowAt w g cap l):EntsAt w w.heap.size (some ⟨g,0,none⟩) l.length (fun i=>l.getD i ent0):=fun i hi=>by
 obtain⟨cur,hg,h1,h2,h3,h4⟩:=h;refine⟨g,0,rfl,row_lt0 hg,fun j v hv=>?_⟩;rw[cell_of_row w g _ _ _ _ hg,Nat.zero_add];have hj:j<9:=by have:=(List.getElem?_eq_some_iff.1 hv).1;simpa [EntV.cells] using this
 have e1:(cur.toList.take (l.length*9))[i*9+j]? =(entL l)[i*9+j]? :=by rw[h4]
 have hlt:i*9+j<l.length*9:=by
  have:(i+1)*9≤l.length*9:=Nat.mul_le_mul_right 9 (by omega);omega
 rw[List.getElem?_take,if_pos hlt] at e1;rw[←Array.getElem?_toList,e1,←hv];exact entL_get l j hj i hi
theorem EntRowAt.keep{w w':World}{g cap:Nat}{l:List EntV}(h:EntRowAt w g cap l)(hb:w'.heap[g]? =w.heap[g]?):EntRowAt w' g cap l:=by
 obtain⟨cur,hg,h1⟩:=h;exact⟨cur,hb.trans hg,h1⟩
theorem EntRowAt.lt{w:World}{g cap:Nat}{l:List EntV}(h:EntRowAt w g cap l):g<w.heap.size:=by
 obtain⟨cur,hg,_⟩:=h;exact row_lt0 hg
theorem entrow_own{w:World}{base g cap:Nat}{l:List EntV}(h:EntRowAt w g cap l)(hb:base≤g):w.ownsRow base 164 9 (.slice (some ⟨g,0,none⟩) l.length cap) l.length (entL l):=by
 obtain⟨cur,hg,h1,h2,h3,h4⟩:=h;exact⟨entL_length l,Or.inr ⟨g,cap,cur,rfl,hb,hg,h1,h2,h3,h4⟩⟩
def FitsIn(g:Nat)(lb:Array Value)(fits:EntV→Bool)(l:List EntV)(gb cap:Nat)(w:World):Prop:=
 ∀(W:World) (e:EntV) (l':List EntV),e∈l→l'.length=l.length→(∀x∈l',x∈l)→EntRowAt W gb cap l'→SameBut (fun k=>k=gb) w W→Calls prog g (#[.agg e.cells]++lb) W fun en w'=>en=.returned (.bool (fits e))∧Below W.heap.size W w'
theorem SameBut.ofBelow{F:Nat→Prop}{w w':World}(h:Below w.heap.size w w'):SameBut F w w':=⟨h.os,h.tape,h.output,h.size,fun k hk _=>h.block k hk⟩
theorem SameBut.trans1{gb:Nat}{w w1 w2:World}(h:SameBut (fun k=>k=gb) w w1)(h2:SameBut (fun k=>k=gb) w1 w2):SameBut (fun k=>k=gb) w w2:=⟨h2.os.trans h.os,h2.tape.trans h.tape,h2.output.trans h.output,Nat.le_trans h.size h2.size,fun k hk hn=>(h2.block k (Nat.lt_of_lt_of_le hk h.size) hn).trans (h.block k hk hn)⟩
theorem FitsIn.at{g:Nat}{lb:Array Value}{fits:EntV→Bool}{l:List EntV}{gb cap:Nat}{w:World}(h:FitsIn g lb fits l gb cap w)(hr:EntRowAt w gb cap l):FitsAt g lb fits l w:=fun W e he hW=>h W e l he rfl (fun _ h=>h) (hr.keep (hW.block gb hr.lt)) (SameBut.ofBelow hW)
theorem Only.sameBut{gb:Nat}{w w':World}(h:Only gb w w'):SameBut (fun k=>k=gb) w w':=⟨h.os,h.tape,h.output,Nat.le_of_eq h.size.symm,fun k _ hn=>h.block k hn⟩
section
variable{P:Program}
theorem wpList_store_midD{ops:Array Oper}{rest:List Oper}{op:Oper}{a:Act}{w:World}{Q:Exit→Act→World→Prop}(hgd:op.guard=none)(ty:TypeId)(p y:Operand)(ho:op.op=.store ty p y)
 (g off:Nat) (D:Array Value) (hp:a.eval p=.pointer (some ⟨g,off,none⟩)) (hy:a.eval y=.agg D) (t:TypeId) (C:Array Value) (hg:w.heap[g]? =some (.cells C t (0,0))) (hC:off+D.size≤C.size) (h1:∀v∈D.toList,v.oneCell'=true) (hi:(P.info? ty).map (·.size)=some D.size)
 (h:∀w',w'.heap[g]? =some (.cells (C.toList.take off++D.toList++C.toList.drop (off+D.size)).toArray t (0,0))→Only g w w'→wpList P ops Q rest (a.put op.dst undef) w'):wpList P ops Q (op::rest) a w:=
 wpList_plain hgd fun _ hK=>wp_store_midG ty p y ho g off D hp hy t C hg hC h1 hi (fun w' h1 h2=>hK _ _ (h w' h1 h2))
end
theorem slice_frontE(p:Option Addr)(n c r:Nat)(hr:r≤c)(W:World):(Instr.sliceAt 125 (.slice p n c) none (some (.int .i64 (r:Int))) none).run prog W=.ok (.slice p r c) W:=by
 have h2:p.map (fun a=>a.add 0)=p:=by cases p<;>simp[Addr.add]
 simp[Instr.sliceAt,Instr.slice,Instr.sliceBounds,Instr.sliceBound,asIntOf,run_underlying underlying125,Tryz.sizeOf164,hr,h2]
theorem slice_backE(g n c r:Nat)(hr:r<n)(hn:n≤c)(W:World):(Instr.sliceAt 125 (.slice (some ⟨g,0,none⟩) n c) (some (.int .i64 (r:Int))) none none).run prog W=.ok (.slice (some ⟨g,r*9,none⟩) (n-r) (c-r)) W:=by
 have h1:r≤n:=Nat.le_of_lt hr;have h2:¬c=r:=by omega
 simp[Instr.sliceAt,Instr.slice,Instr.sliceBounds,Instr.sliceBound,asIntOf,run_underlying underlying125,Tryz.sizeOf164,h1,h2,Addr.add];exact fun h=>h.symm
theorem clear_run(gb cap i n:Nat)(cur:Array Value)(w:World)(hg:w.heap[gb]? =some (.cells cur 164 (0,0)))(hs:cur.size=cap*9)(hi:i<n)(hn:n≤cap):∃(cur':Array Value) (w':World),(∀ty,(Builtin.clear_ #[125] ty #[.slice (some ⟨gb,i*9,none⟩) (n-i) (cap-i)]).run prog w=.ok (.tuple #[]) w')∧w'.heap[gb]? =some (.cells cur' 164 (0,0))∧cur'.size=cur.size∧cur'.toList.take (i*9)=cur.toList.take (i*9)∧Only gb w w':=by
 obtain⟨zs,hzs⟩:∃zs,zs=(Builtin.zeroCells ent0.cells (n-i)).toList:=⟨_,rfl⟩;have hzl:zs.length=(n-i)*9:=by rw[hzs];simp[Builtin.zeroCells,EntV.cells,ent0]
 have hz1:∀v∈zs,v.oneCell'=true:=by
  intro v hv;rw[hzs] at hv;have hsz:ent0.cells.size=9:=rfl;simp only[Builtin.zeroCells,Array.toList_map,List.mem_map,hsz] at hv;obtain⟨k,_,rfl⟩:=hv;have hk:k % 9<9:=Nat.mod_lt _ (by omega);have hall:∀q,q<9→(ent0.cells[q]!).oneCell'=true:=by
   intro q hq;have:q=0∨q=1∨q=2∨q=3∨q=4∨q=5∨q=6∨q=7∨q=8:=by omega
   rcases this with rfl|rfl|rfl|rfl|rfl|rfl|rfl|rfl|rfl<;>rfl
  exact hall _ hk
 have hle:i*9+0+zs.length≤cur.size:=by
  rw[hzl,hs,Nat.add_zero,←Nat.add_mul];exact Nat.mul_le_mul_right 9 (by omega)
 have hst:=run_storeCells_at prog gb (i*9) 164 zs 0 cur w hg hle hz1;have hic:i*9≤cur.size:=by omega
 refine⟨(cur.toList.take (i*9+0)++zs++cur.toList.drop (i*9+0+zs.length)).toArray,_,fun ty=>?_,setRow_heap _ _ cur _ _ (0,0) hg,?_,?_,only_setRow _ _ _⟩
 .obtain ⟨m,hm⟩:∃m,n-i=m+1:=⟨n-i-1,by omega⟩
  rw[hm] at hzs ⊢;have hz0:∀w,(zeroValue 164).run prog w=.ok (.agg ent0.cells) w:=fun w=>by kernel_rfl
  have hzc:(Value.agg ent0.cells).cells=ent0.cells:=rfl;have hst2:(storeCells ⟨gb,i*9,none⟩ (Builtin.zeroCells ent0.cells (m+1)).toList).run prog w=.ok () (w.setRow gb (cur.toList.take (i*9+0)++zs++cur.toList.drop (i*9+0+zs.length)).toArray):=by
   rw[←hzs];exact hst
  obtain⟨W,hW⟩:=gen (w.setRow gb (cur.toList.take (i*9+0)++zs++cur.toList.drop (i*9+0+zs.length)).toArray);rw[←hW] at hst2 ⊢;clear hW hst hzs;simp[Builtin.clear_,run_underlying underlying125,hz0,hzc,hst2]
 .simp only[List.size_toArray,List.length_append,List.length_take,List.length_drop,Array.length_toList];omega
 rw[List.toList_toArray,Nat.add_zero,List.append_assoc,List.take_append_of_le_length (by simp;omega),List.take_take,Nat.min_self]
theorem filter_step{fits:EntV→Bool}{l:List EntV}{j:Nat}(h:j<l.length):(l.take (j+1)).filter (fun e=> !fits e)=(l.take j).filter (fun e=> !fits e)++if fits (l.getD j ent0)=true then [] else [l.getD j ent0]:=by
 rw[take_stepE l ent0 j h,List.filter_append]
 congr 1
 cases hb:fits (l.getD j ent0) with
 |true=>rw[List.filter_cons_of_neg (by rw[hb];decide)];rfl
 |false=>rw[List.filter_cons_of_pos (by rw[hb];rfl)];rfl
theorem filter_all{fits:EntV→Bool}{l:List EntV}(h:∀e∈l,fits e=false):l.filter (fun e=> !fits e)=l:=by
 rw[List.filter_eq_self];intro e he;rw[h e he];rfl
theorem drop_get{l l':List EntV}{j:Nat}(h:l'.drop j=l.drop j):l'.getD j ent0=l.getD j ent0:=by
 have e:(l'.drop j)[0]? =(l.drop j)[0]? :=by rw[h]
 rw[List.getElem?_drop,List.getElem?_drop,Nat.add_zero] at e;simp only[List.getD_eq_getElem?_getD,e]
theorem drop_more{l l':List EntV}{j:Nat}(h:l'.drop j=l.drop j):l'.drop (j+1)=l.drop (j+1):=by
 rw[←List.drop_drop,←List.drop_drop,h]
theorem set_take{l:List EntV}{i:Nat}(x:EntV)(hi:i<l.length):(l.set i x).take (i+1)=l.take i++[x]:=by
 rw[take_stepE (l.set i x) ent0 i (by simpa using hi),List.take_set_of_le (Nat.le_refl i)]
 congr 2
 simp[List.getD_eq_getElem?_getD,hi]
theorem set_drop{l:List EntV}{i j:Nat}(x:EntV)(hij:i<j):(l.set i x).drop j=l.drop j:=List.drop_set_of_lt hij
theorem deleteFunc_any(g:Nat)(lb:Array Value)(fits:EntV→Bool)(l:List EntV)(gb cap:Nat)(w:World)(eg:EntersP g)(hr:EntRowAt w gb cap l)(hf:FitsIn g lb fits l gb cap w):
 Calls prog 104 #[.slice (some ⟨gb,0,none⟩) l.length cap,.func (.func g) #[] lb] w fun e w'=>e=.returned (.slice (some ⟨gb,0,none⟩) (l.filter fun e=> !fits e).length cap)∧EntRowAt w' gb cap (l.filter fun e=> !fits e)∧SameBut (fun k=>k=gb) w w':=by
 have hm:l.length≤maxLen:=by obtain⟨cur,_,h1,h2,_⟩:=hr;exact Nat.le_trans h1 h2
 have hnc:l.length≤cap:=by obtain⟨cur,_,h1,h2,_⟩:=hr;exact h1
 have hmx:l.length≤9223372036854775807:=by unfold maxLen at hm;omega
 obtain⟨HIX,HR,HF⟩:=hide3 (indexFunc_any g lb fits l (some ⟨gb,0,none⟩) cap w eg hr.ents hm (hf.at hr)) hr hf;have eg':∀(args:Array Value) (w:World),(callFunc g args).run prog w=.ok (.enter g args) w:=eg;clear hr hf hm eg;rcases idx_cases fits l with hno|⟨k,hk,hno,ht⟩
 .have HFA:=hide (filter_all hno);rw[idxI_none l 0 hno] at HIX;clear hno;go_enter func104,ntmps104;go_wp2_with fail
  refine HIX.out.mono ?_;rintro e w1 ⟨rfl,hb1⟩;have HB1:=hide hb1;clear hb1;go_wp2;go_ret;exact⟨by rw[HFA.out];rfl,by rw[HFA.out];exact HR.out.keep (HB1.out.block gb HR.out.lt),SameBut.ofBelow HB1.out⟩
 have HF0:Hid (l.take k=(l.take (k+1)).filter fun e=> !fits e):=by
  unfold Hid;rw[filter_step hk,ht,if_pos rfl,List.append_nil,filter_all hno]
 rw[idxI_some l 0 k hk hno ht,Nat.zero_add] at HIX;have HK:=hide hk;clear hno ht hk;go_enter func104,ntmps104;go_wp2_with fail
 refine HIX.out.mono ?_;rintro e w1 ⟨rfl,hb1⟩;have HR1:Hid (EntRowAt w1 gb cap l):=HR.out.keep (hb1.block gb HR.out.lt);have HS1:Hid (SameBut (fun k=>k=gb) w w1):=SameBut.ofBelow hb1;clear hb1 HIX;have hk2:k+1≤9223372036854775807:=by have:=HK.out;omega
 have hkn:¬(k:Int)= -1:=by omega
 have hkn2:((k:Int)== -1)=false:=by rw[beq_eq_false_iff_ne];exact hkn
 go_wp2;go_loopw [5,6,7] (fun iv jv _ wr=>∃(i j:Nat) (l':List EntV),iv=.int .i64 i∧jv=.int .i64 j∧i<j∧j≤l.length∧l'.length=l.length∧(∀x∈l',x∈l)∧l'.take i=(l.take j).filter (fun e=> !fits e)∧l'.drop j=l.drop j∧EntRowAt wr gb cap l'∧SameBut (fun k=>k=gb) w wr) (fun _ jv _ _=>l.length-(intOf jv).toNat)
 case atStart=>exact⟨k,k+1,l,rfl,by go_num,by omega,HK.out,rfl,fun _ h=>h,HF0.out,rfl,HR1.out,HS1.out⟩
 obtain⟨i,j,l',rfl,rfl,hij,hj,hlen,hin,htake,hdrop,hrow,hs⟩:=hrel;obtain⟨HROW,HS,HLN,HTK,HDR,HIN⟩:=hide6 hrow hs hlen htake hdrop hin;clear hrow hs hlen htake hdrop hin HR1 HS1;by_cases hend:j=l.length
 .have hge:¬(j:Int)<l.length:=by omega
  have hil:i<l.length:=by omega
  obtain⟨cur,hcur,hcells⟩:=HROW.out;obtain⟨cur',w5,hclr,hq5,hsz5,htk5,ho5⟩:=clear_run gb cap i l.length cur wr hcur hcells.2.2.1 hil hnc;have HFIN:Hid (l.filter (fun e=> !fits e)=l'.take i):=by
   unfold Hid;rw[HTK.out,hend,List.take_length]
  have HRW:Hid (EntRowAt w5 gb cap (l'.take i)):=⟨cur',hq5,hcells.front i (by rw[HLN.out];omega) hsz5 htk5⟩;have HSW:Hid (SameBut (fun k=>k=gb) w w5):=HS.out.trans1 (Only.sameBut ho5);have HLI:Hid ((l'.take i).length=i):=by unfold Hid;rw[List.length_take,HLN.out];omega
  have hsb:=fun W=>slice_backE gb l.length cap i hil hnc W;have hsf:=fun W=>slice_frontE (some ⟨gb,0,none⟩) l.length cap i (by omega) W;clear hend hcur hcells hq5 hsz5 htk5 ho5;go_wp2;go_ret;exact⟨by rw[HFIN.out,HLI.out];rfl,by rw[HFIN.out];exact HRW.out,HSW.out⟩
 have hlt:j<l.length:=by omega
 have hlt2:(j:Int)<l.length:=by omega
 have hil:i<l.length:=by omega
 have hil2:(i:Int)<l.length:=by omega
 obtain⟨b0,o0,eb,_,hrg⟩:=HROW.out.ents j (by rw[HLN.out];exact hlt);cases eb;obtain⟨ev,hev⟩:=gen (l.getD j ent0);have hrg':=hrg;simp only[drop_get HDR.out,←hev,Nat.zero_add] at hrg';obtain⟨⟨K,H,R,f,V,nl,s⟩,fr,own⟩:=ev;have HRG:Hid (wr.rangeAt gb (j*9) [.int .i64 K,.int .i64 H,.int .i64 R,.int .i64 f,.int .i64 V,.bool nl,.string s,.string fr,.bool own]):=hrg';have HEV:=hide hev;have hMEM:=getD_mem l ent0 j hlt;rw[←HEV.out] at hMEM;have HMEM:=hide hMEM;have HCL:Hid (∀W,Below wr.heap.size wr W→Calls prog g (#[.agg #[.int .i64 K,.int .i64 H,.int .i64 R,.int .i64 f,.int .i64 V,.bool nl,.string s,.string fr,.bool own]]++lb) W fun en w'=>en=.returned (.bool (fits ⟨⟨K,H,R,f,V,nl,s⟩,fr,own⟩))∧Below W.heap.size W w'):=fun W hW=>HF.out W ⟨⟨K,H,R,f,V,nl,s⟩,fr,own⟩ l' hMEM HLN.out HIN.out (HROW.out.keep (hW.block gb HROW.out.lt)) (HS.out.trans1 (SameBut.ofBelow hW));clear hrg hrg' hev hMEM;cases hft:fits ⟨⟨K,H,R,f,V,nl,s⟩,fr,own⟩ with
 |true=>
  have HT2:Hid (l'.take i=(l.take (j+1)).filter fun e=> !fits e):=by
   unfold Hid;rw[filter_step hlt,←HEV.out,hft,if_pos rfl,List.append_nil,HTK.out]
  go_wp2_with (first|(refine wpList_load_mid rfl 164 _ rfl gb (j*9) (by first|rfl|simp[Act.eval,Act.put]) [.int .i64 K,.int .i64 H,.int .i64 R,.int .i64 f,.int .i64 V,.bool nl,.string s,.string fr,.bool own] _ HRG.out underlying164 rfl Tryz.sizeEnt ?_)|(refine wpList_store_new rfl 164 _ _ rfl wr #[.int .i64 K,.int .i64 H,.int .i64 R,.int .i64 f,.int .i64 V,.bool nl,.string s,.string fr,.bool own] rfl rfl 164 _ rfl (by simp[Value.oneCell']) Tryz.sizeEnt ?_;intro w2 hq2 hb2 hz2;have HQ2:=hide hq2;have HB2:Hid (Below wr.heap.size wr w2):=hb2;clear hq2 hb2 hz2)|(refine wpList_load_rowW rfl 164 _ rfl wr.heap.size rfl 164 #[.int .i64 K,.int .i64 H,.int .i64 R,.int .i64 f,.int .i64 V,.bool nl,.string s,.string fr,.bool own] _ HQ2.out underlying164 rfl Tryz.sizeEnt ?_)|(go_at_fn g;refine(HCL.out w2 HB2.out).mono ?_;rw[hft];rintro e w3 ⟨rfl,hb3⟩;have HB3:Hid (Below wr.heap.size wr w3):=HB2.out.trans (hb3.mono HB2.out.size);clear hb3)|fail)
  go_roundw
  case rel=>exact⟨i,j+1,l',rfl,by go_num,by omega,by omega,HLN.out,HIN.out,HT2.out,drop_more HDR.out,HROW.out.keep (HB3.out.block gb HROW.out.lt),HS.out.trans1 (SameBut.ofBelow HB3.out)⟩
  case measure=>simp[intOf];omega
 |false=>
  have HT2:Hid ((l'.set i ⟨⟨K,H,R,f,V,nl,s⟩,fr,own⟩).take (i+1)=(l.take (j+1)).filter fun e=> !fits e):=by
   unfold Hid;rw[filter_step hlt,←HEV.out,hft,if_neg (by decide),set_take _ (by rw[HLN.out];exact hil),HTK.out]
  have HD2:Hid ((l'.set i ⟨⟨K,H,R,f,V,nl,s⟩,fr,own⟩).drop (j+1)=l.drop (j+1)):=by
   unfold Hid;rw[set_drop _ (by omega)];exact drop_more HDR.out
  have HI2:Hid (∀x∈l'.set i ⟨⟨K,H,R,f,V,nl,s⟩,fr,own⟩,x∈l):=fun x hx=>by
   rcases List.mem_or_eq_of_mem_set hx with h|h
   .exact HIN.out x h
   rw[h];exact HMEM.out
  have HL2:Hid ((l'.set i ⟨⟨K,H,R,f,V,nl,s⟩,fr,own⟩).length=l.length):=by unfold Hid;rw[List.length_set];exact HLN.out
  obtain⟨cur,hcur,hcells⟩:=HROW.out;obtain⟨HCELLS,HCUR⟩:=hide2 hcells hcur;have hiC:i*9+9≤cur.size:=by
   rw[hcells.2.2.1];have:(i+1)*9≤cap*9:=Nat.mul_le_mul_right 9 (by omega);omega
  have hgl:gb<wr.heap.size:=HROW.out.lt;clear hcells hcur;go_wp2_with (first|(refine wpList_load_mid rfl 164 _ rfl gb (j*9) (by first|rfl|simp[Act.eval,Act.put]) [.int .i64 K,.int .i64 H,.int .i64 R,.int .i64 f,.int .i64 V,.bool nl,.string s,.string fr,.bool own] _ HRG.out underlying164 rfl Tryz.sizeEnt ?_)|(refine wpList_store_new rfl 164 _ _ rfl wr #[.int .i64 K,.int .i64 H,.int .i64 R,.int .i64 f,.int .i64 V,.bool nl,.string s,.string fr,.bool own] rfl rfl 164 _ rfl (by simp[Value.oneCell']) Tryz.sizeEnt ?_;intro w2 hq2 hb2 hz2;have HQ2:=hide hq2;have HB2:Hid (Below wr.heap.size wr w2):=hb2;clear hq2 hb2 hz2)|(refine wpList_load_rowW rfl 164 _ rfl wr.heap.size rfl 164 #[.int .i64 K,.int .i64 H,.int .i64 R,.int .i64 f,.int .i64 V,.bool nl,.string s,.string fr,.bool own] _ HQ2.out underlying164 rfl Tryz.sizeEnt ?_)|(go_at_fn g;refine(HCL.out w2 HB2.out).mono ?_;rw[hft];rintro e w3 ⟨rfl,hb3⟩;have HQ23:=hide (blk HQ2.out hb3);have HB3:Hid (Below wr.heap.size wr w3):=HB2.out.trans (hb3.mono HB2.out.size);have HCUR3:=hide (blk HCUR.out HB3.out);clear hb3)|(refine wpList_load_row rfl 164 _ rfl wr.heap.size rfl 164 #[.int .i64 K,.int .i64 H,.int .i64 R,.int .i64 f,.int .i64 V,.bool nl,.string s,.string fr,.bool own] (0,0) _ HQ23.out underlying164 rfl Tryz.sizeEnt ?_)|(refine wpList_store_midD rfl 164 _ _ rfl gb (i*9) #[.int .i64 K,.int .i64 H,.int .i64 R,.int .i64 f,.int .i64 V,.bool nl,.string s,.string fr,.bool own] (by first|rfl|simp[Act.eval,Act.put]) rfl 164 cur HCUR3.out hiC (by simp[Value.oneCell']) Tryz.sizeEnt ?_;intro w4 hq4 ho4;have HQ4:=hide hq4;have HO4:=hide ho4;clear hq4 ho4)|fail)
  have HR4:Hid (EntRowAt w4 gb cap (l'.set i ⟨⟨K,H,R,f,V,nl,s⟩,fr,own⟩)):=⟨_,HQ4.out,HCELLS.out.set i ⟨⟨K,H,R,f,V,nl,s⟩,fr,own⟩ (by rw[HLN.out];exact hil)⟩;go_roundw
  case rel=>exact⟨i+1,j+1,l'.set i ⟨⟨K,H,R,f,V,nl,s⟩,fr,own⟩,by go_num,by go_num,by omega,by omega,HL2.out,HI2.out,HT2.out,HD2.out,HR4.out,(HS.out.trans1 (SameBut.ofBelow HB3.out)).trans1 (Only.sameBut HO4.out)⟩
  case measure=>simp[intOf];omega
open Go.RowKit Go.Sort
def Tryz.delRen:Go.Shelf.Ren:=⟨fun|24=>204|n=>n,fun|24=>30|n=>n,fun n=>n⟩
theorem Tryz.laysDel:Go.Proofs.Lays2.n24 prog Tryz.delRen:={
 mixed:=by kernel_rfl
 f24:=func204.trans (congrArg some (by kernel_rfl))
 t0:=by kernel_rfl
 a0:=fun _=>by kernel_rfl
 z0:=fun _=>by kernel_rfl
 v0:=fun _=>by kernel_rfl
 t3:=by kernel_rfl
 a3:=fun _=>by kernel_rfl
 z3:=fun _=>by kernel_rfl
 v3:=fun _=>by kernel_rfl
 t4:=by kernel_rfl
 a4:=fun _=>by kernel_rfl
 z4:=fun _=>by kernel_rfl
 v4:=fun _=>by kernel_rfl
 t9:=by kernel_rfl
 a9:=fun _=>by kernel_rfl
 z9:=fun _=>by kernel_rfl
 v9:=fun _=>by kernel_rfl
 t24:=by kernel_rfl
 a24:=fun _=>by kernel_rfl
 z24:=fun _=>by kernel_rfl
 v24:=fun _=>by kernel_rfl
 i9:=by kernel_rfl }
theorem enc_bytes(b:ByteArray):encStr b.data.toList=Value.string b:=by
 show Value.string ⟨b.data.toList.toArray⟩=Value.string b;rw[Array.toArray_toList]
theorem map_enc(L:List ByteArray):(L.map fun b=>b.data.toList).map encStr=L.map .string:=by
 rw[List.map_map];exact List.map_congr_left fun b _=>enc_bytes b
theorem delete1_any(g cap i base:Nat)(L:List ByteArray)(w:World)(h:w.ownsRow base 9 1 (.slice (some ⟨g,0,none⟩) L.length cap) L.length (L.map .string))(hi:i<L.length):
 Calls prog 204 #[.slice (some ⟨g,0,none⟩) L.length cap,.int .i64 (i:Int),.int .i64 ((i+1:Nat):Int)] w fun e w'=>e=.returned (.slice (some ⟨g,0,none⟩) (L.eraseIdx i).length cap)∧w'.ownsRow base 9 1 (.slice (some ⟨g,0,none⟩) (L.eraseIdx i).length cap) (L.eraseIdx i).length ((L.eraseIdx i).map .string)∧SameBut (fun k=>k=g) w w':=by
 rcases h.2 with⟨e0,_⟩|⟨g',cap',cur,e0,hb,hg,hn,hc,hs,ht⟩
 .cases e0
 cases e0;obtain⟨zs,hzs⟩:=gen (L.map fun b=>b.data.toList);have hzl:zs.length=L.length:=by rw[hzs,List.length_map]
 have hze:zs.map encStr=L.map .string:=by rw[hzs];exact map_enc L
 have hH:Holds encStr w g 0 zs.toArray:=holds_of_block hg (by rw[hzl,hze];simpa using ht);have hD:=Any.slices_Delete_string Tryz.laysDel g 0 cap i (i+1) zs w hH (by rw[hzl];exact hn) (by unfold maxLen at hc;omega) (by omega) (by omega);rw[hzl] at hD;refine Calls.mono hD ?_;rintro e w' ⟨rfl,q,rfl⟩;have hel:(L.eraseIdx i).length=L.length-1:=by rw[List.length_eraseIdx,if_pos hi]
 have e1:i+1-i=1:=by omega
 obtain⟨ts,hts⟩:=gen (zs.take i++zs.drop (i+1)++List.replicate (i+1-i) []);have htl:ts.length=L.length:=by
  rw[hts,e1];simp only[List.length_append,List.length_take,List.length_drop,List.length_replicate,hzl];omega
 have h3:ts.map encStr=(L.eraseIdx i).map Value.string++[encStr []]:=by
  rw[hts,e1,List.map_append,List.map_append,List.map_take,List.map_drop,hze,←List.map_take,←List.map_drop,←List.map_append,←List.eraseIdx_eq_take_drop_succ];rfl
 have hee:(L.eraseIdx i).map Value.string=(ts.map encStr).take (L.eraseIdx i).length:=by
  rw[h3,List.take_append_of_le_length (by rw[List.length_map];exact Nat.le_refl _),List.take_of_length_le (by rw[List.length_map];exact Nat.le_refl _)]
 have hheap:(putRow encStr (Sort.ahead w q) g 0 ts.toArray).heap[g]? =some (.cells (putCells encStr 0 ts.toArray cur) 9 (0,0)):=by
  have h1:=heap_sorted (n:=q) (os:=#[]) ts.toArray hg
  rwa [grow_empty] at h1
 have hgr:w.grownBy (putRow encStr (Sort.ahead w q) g 0 ts.toArray) (some g):=by
  have h1:=grownBy_sorted (w:=w) (g:=g) (n:=q) (os:=#[]) ts.toArray
  rwa [grow_empty] at h1
 rw[←hts];refine⟨by rw[e1,hel],⟨by rw[List.length_map,Nat.mul_one],Or.inr ⟨g,cap,_,rfl,hb,hheap,by omega,hc,by simp[putCells,hs],?_⟩⟩,⟨hgr.os,hgr.tape,hgr.output,hgr.size,fun k hk hne=>hgr.block k hk (fun e=>hne (by simpa using e))⟩⟩;have h2:=take_putCells cur ts (by omega);rw[Nat.mul_one,hee,←h2,List.take_take,Nat.min_eq_left (by omega)]
def idxT(t:ByteArray):List ByteArray→Nat→Int
 | [],_=> -1
 |e::l,k=>if e=t then(k:Int) else idxT t l (k+1)
theorem idxT_none{t:ByteArray}:∀(l:List ByteArray) (k:Nat),(∀e∈l,e≠t)→idxT t l k= -1
 | [],_,_=>rfl
 |e::l,k,h=>by
  unfold idxT;rw[if_neg (h e (List.mem_cons_self ..))];exact idxT_none l (k+1) fun x hx=>h x (List.mem_cons_of_mem _ hx)
theorem idxT_some{t:ByteArray}:∀(l:List ByteArray) (k j:Nat),j<l.length→(∀e∈l.take j,e≠t)→l.getD j ByteArray.empty=t→idxT t l k=((k+j:Nat):Int)
 | [],_,j,h,_,_=>by simp at h
 |e::l,k,0,_,_,ht=>by
  unfold idxT;rw[if_pos (show e=t from ht)];rfl
 |e::l,k,j+1,hj,ha,ht=>by
  unfold idxT;rw[if_neg (ha e (by simp)),idxT_some l (k+1) j (by simpa using hj) (fun x hx=>ha x (by rw[List.take_succ_cons];exact List.mem_cons_of_mem _ hx)) (by simpa using ht)]
  congr 1
  omega
theorem indexT_any(l:List ByteArray)(t:ByteArray)(p:Option Addr)(cap:Nat)(w:World)(hl:Lies w w.heap.size p l.length (fun i=>.string (l.getD i ByteArray.empty)))(hm:l.length≤maxLen):
 Calls prog 203 #[.slice p l.length cap,.string t] w fun e w'=>e=.returned (.int .i64 (idxT t l 0))∧Below w.heap.size w w':=by
 have HL:=hide hl;have hmx:l.length≤9223372036854775807:=by unfold maxLen at hm;omega
 clear hl hm;go_enter func203,ntmps203;go_wp2;go_loopw [5,8] (fun _ i wr=>∃j:Nat,j≤l.length∧i=.int .i64 j∧(∀e∈l.take j,e≠t)∧Below w.heap.size w wr) (fun _ i _=>l.length-(intOf i).toNat)
 case atStart=>exact⟨0,Nat.zero_le _,rfl,fun e he=>by simp at he,Below.refl _ _⟩
 obtain⟨j,hj,rfl,hno,hb⟩:=hrel;obtain⟨HB,HNO⟩:=hide2 hb hno;clear hb hno;by_cases hend:j=l.length
 .have HI:Hid (idxT t l 0= -1):=idxT_none l 0 (by have h:=HNO.out;rw[hend,List.take_length] at h;exact h);have hge:¬(j:Int)<l.length:=by omega
  clear hend;go_wp2;go_ret;exact⟨by rw[HI.out];rfl,HB.out⟩
 have hlt:j<l.length:=by omega
 have hlt2:(j:Int)<l.length:=by omega
 obtain⟨b,o,rfl,hbb,hrg⟩:=HL.out.below HB.out j hlt;obtain⟨ev,hev⟩:=gen (l.getD j ByteArray.empty);simp only[←hev] at hrg;have HEV:=hide hev;clear hev hbb;by_cases hst:ev=t
 .have HI:Hid (idxT t l 0=(j:Int)):=by
   unfold Hid;rw[idxT_some l 0 j hlt HNO.out (by rw[←HEV.out];exact hst),Nat.zero_add]
  subst hst;go_wp2;go_ret;exact⟨by rw[HI.out];rfl,HB.out⟩
 have q1:=text_ne (Ne.symm hst);have HN2:Hid (∀e∈l.take (j+1),e≠t):=by
  intro e he;rw[take_stepE l ByteArray.empty j hlt,List.mem_append] at he;rcases he with he|he
  .exact HNO.out e he
  rw[List.mem_singleton] at he;rw[he,←HEV.out];exact hst
 go_wp2;go_roundw
 case rel=>exact⟨j+1,by omega,by go_num,HN2.out,HB.out⟩
 case measure=>simp[intOf];omega
end Go.Proofs.YtcfjhbcpjpgodaaGreatDoor

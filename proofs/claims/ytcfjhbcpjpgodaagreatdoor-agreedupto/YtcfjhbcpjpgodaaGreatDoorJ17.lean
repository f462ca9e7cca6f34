/- Proved here: a ring in memory: who has signed what; and what Signed answers. -/
import Derived.Test.YtcfjhbcpjpgodaaGreatDoorBase
import Derived.BigQuiet
import Derived.Test.YtcfjhbcpjpgodaaGreatDoorMarks
import Derived.Laws.AppendOwnNone
import Derived.Deep.MidRow
import Derived.Test.YtcfjhbcpjpgodaaGreatDoorTakeL
namespace Go.Proofs.YtcfjhbcpjpgodaaGreatDoor
open Go.RowKit Go.Proofs.Tryz
set_option maxRecDepth 100000
set_option linter.unusedSimpArgs false
set_option maxHeartbeats 3200000
def RingI(F:Nat→Prop)(rb n:Nat)(sg:Nat→List ByteArray)(w:World):Prop:=
 ∃(ob cap:Nat) (cur:Array Value) (iv:Nat→Value),
  w.heap[rb]? =some (.cells #[.slice (some ⟨ob,0,none⟩) n cap] 112 (0,0))∧w.heap[ob]? =some (.cells cur 30 (0,0))∧(∀i,i<n→cur[i]? =some (iv i))∧
  (∀i,i<n→w.ownsRow 0 9 1 (iv i) (sg i).length ((sg i).map .string))∧(∀i j,i<n→j<n→i≠j→∀g,(iv i).ownBlock=some g→(iv j).ownBlock≠some g)∧
  F rb∧F ob∧∀i,i<n→∀g,(iv i).ownBlock=some g→F g
theorem RingI.frame{F:Nat→Prop}{rb n:Nat}{sg:Nat→List ByteArray}{w w':World}(h:RingI F rb n sg w)(hb:∀k,F k→w'.heap[k]? =w.heap[k]?):RingI F rb n sg w':=by
 obtain⟨ob,cap,cur,iv,h1,h2,h3,h4,h5,h6,h7,h8⟩:=h;exact⟨ob,cap,cur,iv,(hb rb h6).trans h1,(hb ob h7).trans h2,h3,fun i hi=>own_blocks (h4 i hi) (fun g e _=>hb g (h8 i hi g e)),h5,h6,h7,h8⟩
def hasT(l:List ByteArray)(t:ByteArray):Bool:=l.any fun s=>s.data==t.data
theorem hasT_iff(l:List ByteArray)(t:ByteArray):hasT l t=true↔t∈l:=by
 unfold hasT;rw[List.any_eq_true];constructor
 .rintro ⟨s,hs,he⟩
  have:s=t:=ByteArray.ext (by simpa using he);rw[←this];exact hs
 intro h;exact⟨t,h,by simp⟩
theorem hasT_yes{l:List ByteArray}{t:ByteArray}(h:t∈l):hasT l t=true:=(hasT_iff l t).2 h
theorem hasT_no{l:List ByteArray}{t:ByteArray}(h:t∉l):hasT l t=false:=by
 cases e:hasT l t with
 |false=>rfl
 |true=>exact absurd ((hasT_iff l t).1 e) h
def signedB(sg:Nat→List ByteArray)(n:Nat)(id:Int)(t:ByteArray):Bool:=decide (0≤id∧id<(n:Int))&&hasT (sg id.toNat) t
theorem signedB_out{sg:Nat→List ByteArray}{n:Nat}{id:Int}{t:ByteArray}(h:¬(0≤id∧id<(n:Int))):signedB sg n id t=false:=by unfold signedB;rw[decide_eq_false h];rfl
theorem signedB_in{sg:Nat→List ByteArray}{n i:Nat}{t:ByteArray}(h:i<n):signedB sg n (i:Int) t=hasT (sg i) t:=by unfold signedB;rw[decide_eq_true (by omega)];simp
theorem text_ne{s t:ByteArray}(h:¬s=t):(s.toList==t.toList)=false:=by
 apply Bool.eq_false_iff.2;intro e;have e1:s.toList=t.toList:=by simpa using e
 rw[ByteArray.toList_eq,ByteArray.toList_eq] at e1;exact h (ByteArray.ext (Array.ext' e1))
theorem mem_take_step(l:List ByteArray)(t:ByteArray)(k:Nat)(h:t∉l.take k)(hn:l.getD k ByteArray.empty≠t):t∉l.take (k+1):=by
 intro hm;by_cases hk:k<l.length
 .rw [←List.take_append_getElem hk,List.mem_append] at hm;rcases hm with hm|hm
  .exact h hm
  rw[List.mem_singleton] at hm;rw[List.getD_eq_getElem?_getD,List.getElem?_eq_getElem hk] at hn;exact hn hm.symm
 rw[List.take_of_length_le (by omega)] at hm h;exact h hm
theorem signed_any(F:Nat→Prop)(rb n:Nat)(sg:Nat→List ByteArray)(id:Int)(t:ByteArray)(w:World)(h:RingI F rb n sg w):
 Calls prog 71 #[.pointer (some ⟨rb,0,none⟩),.int .i64 id,.string t] w fun e w'=>e=.returned (.bool (signedB sg n id t))∧w'=w:=by
 obtain⟨ob,cap,cur,iv,h1,h2,h3,h4,-,-,-,-⟩:=h;have hc0:w.cell? ⟨rb,0,none⟩=some (.slice (some ⟨ob,0,none⟩) n cap):=cell_of_row w rb 0 _ _ _ h1;by_cases ho:0≤id∧id<(n:Int)
 .obtain ⟨i,rfl⟩:∃i:Nat,id=(i:Int):=⟨id.toNat,by omega⟩
  have hin:i<n:=by omega
  obtain⟨ip,ic,he,hm,hlies⟩:=own_lies (h4 i hin);have hc1:w.cell? ⟨ob,i,none⟩=some (.slice ip (sg i).length ic):=by rw[cell_of_row w ob i _ _ _ h2,h3 i hin,he]
  rw[signedB_in hin];obtain⟨l,hl⟩:=gen (sg i);rw[←hl] at hlies hc1 hm ⊢;have HL:=hide hlies;have hb1:¬(i:Int)<0:=by omega
  have hb2:¬(n:Int)≤(i:Int):=by omega
  have hb3:(i:Int)<n:=by omega
  have hmx:l.length≤9223372036854775807:=by unfold maxLen at hm;omega
  clear h1 h2 h3 h4 he hlies ho hl hm;go_enter func71,ntmps71;go_wp2
  go_loop [7] (fun k=>∃j:Nat,j≤l.length∧k=.int .i64 j∧t∉l.take j) (fun k=>l.length-(intOf k).toNat)
  case atStart=>exact⟨0,by omega,rfl,by simp⟩
  obtain⟨j,hj,rfl,hnot⟩:=hrel;by_cases hend:j=l.length
  .have HF:Hid (hasT l t=false):=hasT_no (by rw[hend,List.take_length] at hnot;exact hnot);have hge:¬(j:Int)<l.length:=by omega
   clear hend hnot;go_wp2;go_ret;exact⟨ret_b HF.out.symm,rfl⟩
  have hlt:j<l.length:=by omega
  have hlt2:(j:Int)<l.length:=by omega
  obtain⟨b,o,rfl,-,hc2⟩:=HL.out j hlt;obtain⟨s,hs⟩:=gen (l.getD j ByteArray.empty);have hc3:w.cell? ⟨b,o+j,none⟩=some (.string s):=by rw[hs];exact hc2
  clear hc2;by_cases hst:s=t
  .have HF:Hid (hasT l t=true):=hasT_yes (by rw[←hst,hs,List.getD_eq_getElem?_getD,List.getElem?_eq_getElem hlt];exact List.getElem_mem hlt);subst hst;clear hs hend hnot;go_wp2;go_ret;exact⟨ret_b HF.out.symm,rfl⟩
  have HM:=hide (mem_take_step l t j hnot (by rw[←hs];exact hst));have q1:=text_ne hst;clear hs hend hnot;go_wp2
  go_round
  case rel=>exact⟨j+1,by omega,by go_num,HM.out⟩
  case measure=>simp[intOf];omega
 rw[signedB_out ho];by_cases hneg:id<0
 .clear h1 h2 h3 h4 ho;go_enter func71,ntmps71;go_wp2;go_ret;exact⟨rfl,rfl⟩
 have hge:(n:Int)≤id:=by omega
 clear h1 h2 h3 h4 ho;go_enter func71,ntmps71;go_wp2;go_ret;exact⟨rfl,rfl⟩
structure SameBut (F:Nat→Prop) (w w':World):Prop where
 os:w'.os=w.os
 tape:w'.tape=w.tape
 output:w'.output=w.output
 size:w.heap.size≤w'.heap.size
 block:∀k,k<w.heap.size→¬F k→w'.heap[k]? =w.heap[k]?
def signR(sg:Nat→List ByteArray)(i:Nat)(t:ByteArray):Nat→List ByteArray:=fun j=>if j=i∧hasT (sg i) t=false then sg i++[t] else sg j
theorem signR_known{sg:Nat→List ByteArray}{i:Nat}{t:ByteArray}(h:t∈sg i):signR sg i t=sg:=by
 funext j;unfold signR;rw[if_neg (by intro hh;rw[hasT_yes h] at hh;cases hh.2)]
theorem signR_same{sg:Nat→List ByteArray}{i:Nat}{t:ByteArray}(h:t∉sg i):signR sg i t i=sg i++[t]:=by unfold signR;rw[if_pos ⟨rfl,hasT_no h⟩]
theorem signR_other{sg:Nat→List ByteArray}{i j:Nat}{t:ByteArray}(h:j≠i):signR sg i t j=sg j:=by unfold signR;rw[if_neg (by intro hh;exact h hh.1)]
theorem row_apart0{w:World}{base e n g:Nat}{t:TypeId}{v:Value}{xs:List Value}{C:Array Value}(h:w.ownsRow base e 1 v n xs)(hg:w.heap[g]? =some (.cells C t (0,0)))(ht:t≠e):some g≠v.ownBlock:=by
 intro e1;rcases h.2 with⟨rfl,_⟩|⟨g1,_,_,rfl,_,hh1,_⟩
 .cases e1
 cases e1;rw[hh1] at hg;exact ht (by simpa using(Obj.cells.inj (Option.some.inj hg)).2.1.symm)
def SignP(F:Nat→Prop)(rb n:Nat)(sg':Nat→List ByteArray)(w w':World):Prop:=
 ∃F':Nat→Prop,RingI F' rb n sg' w'∧(∀k,F' k→F k∨w.heap.size≤k)∧(∀k,F' k→k<w'.heap.size)∧SameBut F w w'
theorem cell_lt'{w:World}{p:Addr}{v:Value}(h:w.cell? p=some v):p.block<w.heap.size:=World.block_lt_of_cell? _ _ h
theorem sign_end{F:Nat→Prop}{rb n ob cap i:Nat}{sg:Nat→List ByteArray}{t:ByteArray}{cur:Array Value}{iv:Nat→Value}{ip vp:Option Addr}{ic vc:Nat}{w w3:World}
 (hF:∀k,F k→k<w.heap.size) (h1:w.heap[rb]? =some (.cells #[.slice (some ⟨ob,0,none⟩) n cap] 112 (0,0))) (h2:w.heap[ob]? =some (.cells cur 30 (0,0))) (h3:∀i,i<n→cur[i]? =some (iv i))
 (h4:∀i,i<n→w.ownsRow 0 9 1 (iv i) (sg i).length ((sg i).map .string)) (h5:∀i j,i<n→j<n→i≠j→∀g,(iv i).ownBlock=some g→(iv j).ownBlock≠some g) (h6:F rb) (h7:F ob) (h8:∀i,i<n→∀g,(iv i).ownBlock=some g→F g)
 (hin:i<n) (he:iv i=.slice ip (sg i).length ic) (hmem:t∉sg i) (hown:w3.ownsRow 0 9 1 (.slice vp ((sg i).length+1) vc) ((sg i).length+1) ((sg i).map .string++[.string t]))
 (hat:Value.ownBlock (.slice vp ((sg i).length+1) vc)=Value.ownBlock (.slice ip (sg i).length ic)∨Value.ownBlock (.slice vp ((sg i).length+1) vc)=some (w.heap.size+1))
 (hkeep:∀k,k<w.heap.size→some k≠Value.ownBlock (.slice ip (sg i).length ic)→w3.heap[k]? =w.heap[k]?) (hs3:w.heap.size+1≤w3.heap.size) (hos:w3.os=w.os∧w3.tape=w.tape∧w3.output=w.output)
 (hO:w.ownsRow 0 9 1 (.slice ip (sg i).length ic) (sg i).length ((sg i).map .string)):
 SignP F rb n (signR sg i t) w (w3.setCell ⟨ob,i,none⟩ (.slice vp ((sg i).length+1) vc)):=by
 have hon:=only_setCell w3 ob i (.slice vp ((sg i).length+1) vc);have neo:some ob≠Value.ownBlock (.slice ip (sg i).length ic):=row_apart0 hO h2 (by decide);have ner:some rb≠Value.ownBlock (.slice ip (sg i).length ic):=row_apart0 hO h1 (by decide);have hor:rb≠ob:=fun e=>by rw[e,h2] at h1;simp at h1
 have h23:w3.heap[ob]? =some (.cells cur 30 (0,0)):=(hkeep ob (row_lt0 h2) neo).trans h2;have hnob:some ob≠Value.ownBlock (.slice vp ((sg i).length+1) vc):=row_apart0 hown h23 (by decide);obtain⟨v,hv⟩:=gen (Value.slice vp ((sg i).length+1) vc);rw[←hv] at hown hat hon hnob ⊢;obtain⟨jv,hjv⟩:∃f:Nat→Value,f=fun j=>if j=i then v else iv j:=⟨_,rfl⟩
 have jy:∀j,j=i→jv j=v:=fun j e=>by rw[hjv];exact if_pos e
 have jn:∀j,j≠i→jv j=iv j:=fun j e=>by rw[hjv];exact if_neg e
 clear hjv;refine⟨fun k=>F k∨some k=v.ownBlock,⟨ob,cap,cur.setIfInBounds i v,jv,?_,?_,?_,?_,?_,Or.inl h6,Or.inl h7,?_⟩,?_,?_,⟨hos.1,hos.2.1,hos.2.2,?_,?_⟩⟩
 .rw [hon.block rb hor,hkeep rb (row_lt0 h1) ner];exact h1
 .simp [World.setCell,Array.getElem?_modify,h23]
 .intro j hj;rw[Array.getElem?_setIfInBounds];by_cases e:i=j
  .subst e;rw[if_pos rfl,if_pos (Array.getElem?_eq_some_iff.1 (h3 i hin)).1,jy i rfl]
  rw[if_neg e,jn j (fun e2=>e e2.symm)];exact h3 j hj
 .intro j hj;by_cases e:j=i
  .subst e;rw[jy j rfl,signR_same hmem,List.length_append,List.map_append];exact own_blocks hown (fun g hg _=>hon.block g (fun e=>hnob (by rw[←e];exact hg.symm)))
  rw[jn j e,signR_other e];refine own_blocks (h4 j hj) (fun g hg hlt=>?_);rw[hon.block g (fun e2=>row_apart0 (h4 j hj) h2 (by decide) (by rw[←e2];exact hg.symm)),hkeep g hlt (fun e2=>h5 j i hj hin e g hg (by rw[he];exact e2.symm))]
 .intro j k hj hk hne g hg;by_cases e:j=i
  .rw [jy j e] at hg;have e2:k≠i:=fun e2=>hne (by rw[e,e2]);rw[jn k e2];intro hg2;rcases hat with h|h
   .exact h5 k i hk hin e2 g hg2 (by rw[he,←h];exact hg)
   rw[h] at hg;cases hg;have:=((h4 k hk).lt _ hg2).2;omega
  rw[jn j e] at hg;by_cases e2:k=i
  .rw [jy k e2];intro hg2;rcases hat with h|h
   .exact h5 j i hj hin e g hg (by rw[he,←h];exact hg2)
   rw[h] at hg2;cases hg2;have:=((h4 j hj).lt _ hg).2;omega
  rw[jn k e2];exact h5 j k hj hk hne g hg
 .intro j hj g hg;by_cases e:j=i
  .rw [jy j e] at hg;exact Or.inr hg.symm
  rw[jn j e] at hg;exact Or.inl (h8 j hj g hg)
 .intro k hk;rcases hk with hk|hk
  .exact Or.inl hk
  rcases hat with h|h
  .exact Or.inl (h8 i hin k (by rw[he,←h];exact hk.symm))
  rw[h] at hk;cases hk;exact Or.inr (by omega)
 .intro k hk;rw[hon.size];rcases hk with hk|hk
  .have:=hF k hk
   omega
  exact(hown.lt k hk.symm).2
 .rw [hon.size];omega
 intro k hk hnF;rw[hon.block k (fun e=>hnF (by rw[e];exact h7)),hkeep k hk (fun e=>hnF (h8 i hin k (by rw[he];exact e.symm)))]
theorem sign_any(F:Nat→Prop)(rb n kb i:Nat)(sg:Nat→List ByteArray)(t:ByteArray)(w:World)(h:RingI F rb n sg w)(hin:i<n)(hk:w.heap[kb]? =some (.cells #[.pointer (some ⟨rb,0,none⟩),.int .i64 (i:Int)] 114 (0,0)))
 (hlen:(sg i).length≤4000000000000) (hF:∀k,F k→k<w.heap.size):
 Calls prog 44 #[.pointer (some ⟨kb,0,none⟩),.string t] w fun e w'=>e=.returned (.tuple #[])∧SignP F rb n (signR sg i t) w w':=by
 have HR:=hide h;have hk0:w.cell? ⟨kb,0,none⟩=some (.pointer (some ⟨rb,0,none⟩)):=cell_of_row w kb 0 _ _ _ hk;have HKB:=hide hk;have hk1:w.cell? ⟨kb,1,none⟩=some (.int .i64 (i:Int)):=cell_of_row w kb 1 _ _ _ hk;obtain⟨i9,hi9,hz0,hz1,hz2⟩:=info_parts Tryz.infoString;by_cases hmem:t∈sg i
 .have HE:Hid (signR sg i t=sg):=signR_known hmem;have hsb:signedB sg n (i:Int) t=true:=by rw[signedB_in hin];exact hasT_yes hmem
  have HFB:=hide hF;clear h hmem hk hF hlen;go_enter func44,ntmps44;go_wp2_with fail
  go_quiet (first|(go_at_call 71;refine Calls.quiet_of_same (signed_any F rb n sg (i:Int) t _ (HR.out.frame (fun _ _=>rfl)))))
  all_goals go_wp2
  all_goals exact bodyPost_end (v:=.tuple #[]) (by simp[results,results44]) rfl ⟨rfl,F,by rw[HE.out];exact HR.out.frame (fun _ _=>rfl),fun k hk=>Or.inl hk,fun k hk=>HFB.out k hk,⟨rfl,rfl,rfl,Nat.le_refl _,fun _ _ _=>rfl⟩⟩
 obtain⟨ob,cap,cur,iv,h1,h2,h3,h4,h5,h6,h7,h8⟩:=h;have hc0:w.cell? ⟨rb,0,none⟩=some (.slice (some ⟨ob,0,none⟩) n cap):=cell_of_row w rb 0 _ _ _ h1;have hO:=h4 i hin;obtain⟨ip,ic,he⟩:=own_slice hO;have hc1:w.cell? ⟨ob,i,none⟩=some (.slice ip (sg i).length ic):=by rw[cell_of_row w ob i _ _ _ h2,h3 i hin,he]
 rw[he] at hO;have hsb:signedB sg n (i:Int) t=false:=by rw[signedB_in hin];exact hasT_no hmem
 obtain⟨HO,H1,H2,H3,H4,H5,H8,HE⟩:=hide8 hO h1 h2 h3 h4 h5 h8 he;obtain⟨HMEM,HFB⟩:=hide2 hmem hF;have h67:F rb∧F ob:=⟨h6,h7⟩;have hi2:(i:Int)<n:=by omega
 have hobc:cur.size>i:=(Array.getElem?_eq_some_iff.1 (h3 i hin)).1;clear h1 h2 h3 h4 h5 h6 h7 h8 hO he hmem hk hF;go_enter func44,ntmps44;go_wp2_with fail
 go_quiet (first|(go_at_call 71;refine Calls.quiet_of_same (signed_any F rb n sg (i:Int) t _ (HR.out.frame (fun _ _=>rfl)))))
 go_wp2_with fail
 refine rgd (S:=fun W=>W.cell? ⟨kb,0,none⟩=some (.pointer (some ⟨rb,0,none⟩))∧W.cell? ⟨kb,1,none⟩=some (.int .i64 (i:Int))∧W.cell? ⟨rb,0,none⟩=some (.slice (some ⟨ob,0,none⟩) n cap)) ⟨hk0,hk1,hc0⟩ (fun hH=>?_);refine takeN [(0,some 17,pA kb 0),(1,some 18,pA kb 0),(2,some 19,pA kb 0),(3,some 20,pA rb 0),(4,some 21,pA rb 0),(5,some 22,pA rb 0),(6,some 23,.slice (some ⟨ob,0,none⟩) n cap),(7,some 24,pA kb 0),(8,some 25,pA kb 0),(9,some 26,pA kb 1),(10,some 27,.int .i64 (i:Int)),(11,some 28,pA kb 0),(12,some 29,pA kb 0),(13,some 30,pA kb 0),(14,some 31,pA rb 0),(15,some 32,pA rb 0),(16,some 33,pA rb 0),(17,some 34,.slice (some ⟨ob,0,none⟩) n cap),(18,some 35,pA kb 0),(19,some 36,pA kb 0),(20,some 37,pA kb 1),(21,some 38,.int .i64 (i:Int)),(22,some 39,pA ob i),(24,some 41,.string t)] _ _ hH (by repeat(first|exact True.intro|(refine tkc rfl rfl (Or.inl ⟨by rfl,fun x h=>by have f0:=h.1;have f1:=h.2.2;have f2:=h.2.1;go_simp⟩) ?_;simp only[AP]))) ?_;simp only[takesA,AP,pA];have hobl:ob<w.heap.size:=cell_lt hc1;have hib:∀g,Value.ownBlock (.slice ip (sg i).length ic)=some g→g≠ob∧g≠rb∧g≠kb∧g<w.heap.size:=fun g hg=>by
  obtain⟨hg1,hg2⟩:=HO.out.lt g hg;refine⟨fun e=>row_apart0 HO.out H2.out (by decide) (by rw[←e];exact hg.symm),fun e=>row_apart0 HO.out H1.out (by decide) (by rw[←e];exact hg.symm),fun e=>row_apart0 HO.out HKB.out (by decide) (by rw[←e];exact hg.symm),hg2⟩
 have ne:=fun g=>fun(h:some g=Value.ownBlock (.slice ip (sg i).length ic))=>hib g h.symm;have hobrb:ob≠rb:=fun e=>by have h:=H2.out;rw[e,H1.out] at h;simp at h
 have hobkb:ob≠kb:=fun e=>by have h:=H2.out;rw[e,HKB.out] at h;simp at h
 have hal:∀(m:Nat) (o:Obj) (p:Addr) (v:Value),w.cell? p=some v→((w.drewN m).alloc o).cell? p=some v:=fun m o p v hp=>by
  rw[←hp];exact World.cell?_of_block (w:=w) (Below.heap_alloc (w.drewN m) o p.block (cell_lt' hp))
 refine rdy2 23 25 (fun K hK=>?_) (fun K hK=>?_);focus
  go_simp;refine hK.out _ _ hH (fun hH=>?_);clear hK K;refine rdy1 25 (fun K hK=>?_);go_simp;refine hK.out _ _ ⟨hal _ _ _ _ hk0,hal _ _ _ _ hk1,hal _ _ _ _ hc0⟩ (fun hH=>?_)
 rotate_left;focus
  go_simp;refine hK.out _ _ ⟨hal _ _ _ _ hk0,hal _ _ _ _ hk1,hal _ _ _ _ hc0⟩ (fun hH=>?_);clear hK K;refine rdy1 23 (fun K hK=>?_);have hc9:=fun m o=>hal m o _ _ hc1;go_simp;refine hK.out _ _ hH (fun hH=>?_)
 rotate_left;all_goals
  clear hK K;refine rdy1 26 (fun K hK=>?_);rw[if_pos (by rfl)];refine wp_append_at _ _ _ 30 rfl 0 9 i9 (.string ByteArray.empty) 1 16 underlying30 hi9 hz0 hz1 hz2 rfl (by decide) (.slice ip (sg i).length ic) (sg i).length ((sg i).map .string) rfl (own_blocks (w:=w) HO.out (fun g _ hg=>Below.heap_alloc (w.drewN _) _ g hg)) ⟨w.heap.size,0,none⟩ 1 1 [.string t] rfl rfl (fun j u hj=>?_) (fun u hu=>?_) (by unfold maxLen;omega) (by omega) (Nat.zero_le _) ?_
  .match j,hj with
   |0,hj=>simp at hj;subst hj;rw[addr_add];exact cell_of_row _ _ 0 _ _ _ (heap_alloc_new (w.drewN _) _)
   |j+1,hj=>simp at hj
  .simp at hu;subst hu;rfl
  intro v' w3 hown hgrow hat;obtain⟨HN,HGR,HAT⟩:=hide3 hown hgrow hat;clear hown hgrow hat;have hkeep:∀k,k<w.heap.size→some k≠Value.ownBlock (.slice ip (sg i).length ic)→w3.heap[k]? =w.heap[k]? :=fun k hk hne=>(HGR.out.block k (by simp;omega) hne).trans (Below.heap_alloc (w.drewN _) _ k hk);have hs3:w.heap.size+1≤w3.heap.size:=by have:=HGR.out.size;simp at this;omega
  have HAT2:Hid (v'.ownBlock=Value.ownBlock (.slice ip (sg i).length ic)∨v'.ownBlock=some (w.heap.size+1)):=by have h:=HAT.out;simpa [Hid] using h
  have HOS:Hid (w3.os=w.os∧w3.tape=w.tape∧w3.output=w.output):=⟨HGR.out.os,HGR.out.tape,HGR.out.output⟩;refine hK.out _ _ ?_ (fun hH=>?_)
  .exact ⟨(World.cell?_of_block (w:=w) (a:=⟨kb,0,none⟩) (hkeep kb (cell_lt hk0) (fun e=>(ne kb e).2.2.1 rfl))).trans hk0,(World.cell?_of_block (w:=w) (a:=⟨kb,1,none⟩) (hkeep kb (cell_lt hk1) (fun e=>(ne kb e).2.2.1 rfl))).trans hk1,(World.cell?_of_block (w:=w) (a:=⟨rb,0,none⟩) (hkeep rb (cell_lt hc0) (fun e=>(ne rb e).2.1 rfl))).trans hc0⟩
  clear hK K HAT HGR;refine takeM [(27,some 44,pA ob i)] _ _ hH ?_;simp only[takesA,AP,pA];have H23:=hide ((hkeep ob hobl (fun e=>(ne ob e).1 rfl)).trans H2.out);have hf3:w3.frozen? ⟨ob,i,none⟩=false:=by have h:=H23.out;simp[World.frozen?,h]
  have hc3:w3.cell? ⟨ob,i,none⟩=some (.slice ip (sg i).length ic):=by rw[←hc1];exact World.cell?_of_block (w:=w) (a:=⟨ob,i,none⟩) (hkeep ob hobl (fun e=>(ne ob e).1 rfl))
  obtain⟨vp,vc,rfl⟩:=own_slice HN.out;have HON:=hide (only_setCell w3 ob i (.slice vp ((sg i).length+1) vc));refine rdy1 28 (fun K hK=>?_);go_simp;refine hK.out _ _ ?_ (fun hH=>?_)
  .exact ⟨(HON.out.cell (p:=⟨kb,0,none⟩) (by exact fun e=>hobkb e.symm)).trans hH.1,(HON.out.cell (p:=⟨kb,1,none⟩) (by exact fun e=>hobkb e.symm)).trans hH.2.1,(HON.out.cell (p:=⟨rb,0,none⟩) (by exact fun e=>hobrb e.symm)).trans hH.2.2⟩
  clear hK K;refine dnr ?_;go_wp2;exact bodyPost_end (v:=.tuple #[]) (by simp[results,results44]) rfl ⟨rfl,sign_end HFB.out H1.out H2.out H3.out H4.out H5.out h67.1 h67.2 H8.out hin HE.out HMEM.out HN.out HAT2.out hkeep hs3 HOS.out HO.out⟩
theorem Tryz.infoTexts:(prog.info? 30).map (fun i=>(i.zero,i.size,i.bytes))=some (some (.slice none 0 0),1,24):=by kernel_rfl
theorem Tryz.infoKeyP:(prog.info? 45).map (fun i=>(i.zero,i.size,i.bytes))=some (some (.pointer none),1,8):=by kernel_rfl
def KeyAt(w:World)(kb rb i:Nat):Prop:=w.heap[kb]? =some (.cells #[.pointer (some ⟨rb,0,none⟩),.int .i64 (i:Int)] 114 (0,0))
def keyL(ks:Nat→Nat)(k:Nat):List Value:=(List.range k).map fun i=>.pointer (some ⟨ks i,0,none⟩)
theorem keyL_step(ks:Nat→Nat)(k b:Nat):keyL (fun i=>if i=k then b else ks i) (k+1)=keyL ks k++[.pointer (some ⟨b,0,none⟩)]:=by
 unfold keyL;rw[List.range_succ,List.map_append]
 congr 1
 .apply List.map_congr_left;intro i hi;have:i<k:=by simpa using hi
  simp;omega
 simp
theorem ringNew_any(n:Nat)(w:World)(hn0:1≤n)(hn:n≤100):
 Calls prog 9 #[.int .i64 (n:Int)] w fun e w'=>∃(ov:Value) (kp:Option Addr) (kc:Nat) (ks:Nat→Nat),e=.returned (.tuple #[.pointer (some ⟨w.heap.size,0,none⟩),.slice kp n kc])∧
  RingI (fun k=>k=w.heap.size∨some k=ov.ownBlock) w.heap.size n (fun _=>[]) w'∧w'.ownsRow (w.heap.size+1) 30 1 ov n (List.replicate n (.slice none 0 0))∧
  w'.ownsRow (w.heap.size+1) 45 1 (.slice kp n kc) n (keyL ks n)∧(∀i,i<n→w.heap.size<ks i∧KeyAt w' (ks i) w.heap.size i)∧Below w.heap.size w w':=by
 obtain⟨i30,hi30,hz0,hz1,hz2⟩:=info_parts Tryz.infoTexts;obtain⟨i45,hi45,hy0,hy1,hy2⟩:=info_parts Tryz.infoKeyP;obtain⟨HN0,HN⟩:=hide2 hn0 hn;clear hn0 hn;go_enter func9,ntmps9;go_wp2;go_loopw [5,6] (fun kv i wr=>∃(k:Nat) (ov:Value) (ks:Nat→Nat),k≤n∧i=.int .i64 k∧wr.heap[w.heap.size]? =some (.cells #[ov] 112 (0,0))∧wr.ownsRow (w.heap.size+1) 30 1 ov k (List.replicate k (.slice none 0 0))∧
  wr.ownsRow (w.heap.size+1) 45 1 kv k (keyL ks k)∧(∀i,i<k→w.heap.size<ks i∧KeyAt wr (ks i) w.heap.size i)∧Below w.heap.size w wr) (fun _ i _=>n-(intOf i).toNat)
 case atStart=>exact⟨0,.slice none 0 0,fun _=>0,Nat.zero_le _,rfl,heap_alloc_new w _,World.ownsRow_nil _ _ _ _,World.ownsRow_nil _ _ _ _,fun i hi=>by omega,(Below.refl _ w).alloc (Nat.le_refl _) _⟩
 obtain⟨k,ov,ks,hk,rfl,hr,ho,hkv,hks,hb⟩:=hrel;obtain⟨HR,HO,HKV,HKS,HB⟩:=hide5 hr ho hkv hks hb;have hszr:w.heap.size<wr.heap.size:=row_lt0 hr;have hc0:wr.cell? ⟨w.heap.size,0,none⟩=some ov:=cell_of_row wr w.heap.size 0 _ _ _ hr;clear hr ho hkv hks hb;by_cases hkn:k=n
 .subst hkn;obtain⟨kp,kc,rfl⟩:=own_slice HKV.out;go_wp2;go_ret2;refine⟨ov,kp,kc,ks,rfl,?_,HO.out,HKV.out,HKS.out,HB.out⟩;obtain⟨op,oc,rfl⟩:=own_slice HO.out;rcases HO.out.2 with⟨_,h0⟩|⟨g,cap,cur,e0,hb,hg,hnc,hcm,hcs,ht⟩
  .have:=HN0.out
   omega
  cases e0;refine⟨g,oc,cur,fun _=>.slice none 0 0,HR.out,hg,fun i hi=>?_,fun i hi=>World.ownsRow_nil _ _ _ _,fun i j _ _ _ g e=>by(intro e2;cases e2),Or.inl rfl,Or.inr rfl,fun i _ g e=>(by cases e)⟩;have e1:(cur.toList.take (k*1))[i]? =(List.replicate k (Value.slice none 0 0))[i]? :=by rw[ht]
  rw[List.getElem?_take,if_pos (by omega),List.getElem?_replicate,if_pos hi] at e1;rw[←Array.getElem?_toList,e1]
 have hlt:(k:Int)<n:=by omega
 have hkl:k<n:=by omega
 have HKN:=hide hkl;have hk100:k≤100:=by have:=HN.out;omega
 have hc0a:∀o,(wr.alloc o).cell? ⟨w.heap.size,0,none⟩=some ov:=fun o=>(((Below.refl wr.heap.size wr).alloc (Nat.le_refl _) o).cell (p:=⟨w.heap.size,0,none⟩) (by exact hszr)).trans hc0;clear hkn;go_wp2_with (first|(at_builtin;refine wpList_append_own _ rfl _ _ 63 rfl (w.heap.size+1) 30 i30 (.slice none 0 0) 1 24 underlying63 hi30 hz0 hz1 hz2 rfl (by decide) _ _ _ rfl (HO.out.alloc _) ⟨wr.heap.size,0,none⟩ 1 1 [.slice none 0 0] rfl rfl ?c1 ?c2 ?c3 ?c4 ?c5 ?_)|go_in)
 case c1=>
  intro j u hj;match j,hj with
  |0,hj=>simp at hj;subst hj;simp[Addr.add]
 case c2=>intro u hu;simp at hu;subst hu;rfl
 case c3=>have:=HN.out;unfold maxLen;omega
 case c4=>have:=HN.out;omega
 case c5=>simp;omega
 intro ov' w2 hown2 hgrow2 _;obtain⟨op,oc,rfl⟩:=own_slice hown2;have HO2:=hide hown2;have HB2:Hid (Below (w.heap.size+1) wr w2):=((Below.refl _ wr).alloc hszr _).grown hgrow2 (by simp;omega) (fun j hj=>(HO.out.lt j hj).1);have HKV2:Hid (w2.ownsRow (w.heap.size+1) 45 1 _ k (keyL ks k)):=own_blocks (HKV.out.alloc (.cells #[.slice none 0 0] 30)) (fun g hg hlt=>hgrow2.block g hlt (fun e=>own_apart HKV.out HO.out (by decide) g hg e.symm));have HKS2:Hid (∀i,i<k→w.heap.size<ks i∧KeyAt w2 (ks i) w.heap.size i):=fun i hi=>by
  obtain⟨h1,h2⟩:=HKS.out i hi;refine⟨h1,?_⟩;unfold KeyAt at h2 ⊢;rw[hgrow2.block (ks i) (by have:=row_lt0 h2;simp;omega) (fun e=>row_apart0 HO.out h2 (by decide) e),Below.heap_alloc wr _ _ (row_lt0 h2)];exact h2
 clear hown2 hgrow2;have HR2:=hide ((HB2.out.block w.heap.size (by omega)).trans HR.out);have hc2:w2.cell? ⟨w.heap.size,0,none⟩=some ov:=cell_of_row w2 w.heap.size 0 _ _ _ HR2.out;have hf2:w2.frozen? ⟨w.heap.size,0,none⟩=false:=by have h:=HR2.out;simp[World.frozen?,h]
 have hsz2:wr.heap.size≤w2.heap.size:=HB2.out.size;clear hc0 hc0a;obtain⟨w3,hw3⟩:=gen (w2.setCell ⟨w.heap.size,0,none⟩ (.slice op (k+1) oc));have HON:Hid (Only w.heap.size w2 w3):=by unfold Hid;rw[hw3];exact only_setCell _ _ _ _
 have HR3:Hid (w3.heap[w.heap.size]? =some (.cells #[.slice op (k+1) oc] 112 (0,0))):=by
  unfold Hid;have h:=HR2.out;rw[hw3];simp[World.setCell,Array.getElem?_modify,h]
 have HO3:=hide (own_blocks HO2.out (fun g hg _=>HON.out.block g (by have:=(HO2.out.lt g hg).1;omega)));have HKV3:=hide (own_blocks HKV2.out (fun g hg _=>HON.out.block g (by have:=(HKV2.out.lt g hg).1;omega)));have HKS3:Hid (∀i,i<k→w.heap.size<ks i∧KeyAt w3 (ks i) w.heap.size i):=fun i hi=>by
  obtain⟨h1,h2⟩:=HKS2.out i hi;refine⟨h1,?_⟩;unfold KeyAt at h2 ⊢;rw[HON.out.block (ks i) (by omega)];exact h2
 have hsz3:w3.heap.size=w2.heap.size:=HON.out.size;have hw4:=hw3.symm;clear hw3;go_wp2_with (first|(at_builtin;refine wpList_append_own _ rfl _ _ 29 rfl (w.heap.size+1) 45 i45 (.pointer none) 1 8 underlying29 hi45 hy0 hy1 hy2 rfl (by decide) _ _ _ rfl ((HKV3.out.alloc _).alloc _) ⟨w2.heap.size+1,0,none⟩ 1 1 [.pointer (some ⟨w2.heap.size,0,none⟩)] rfl rfl ?c1 ?c2 ?c3 ?c4 ?c5 ?_)|go_in)
 case c1=>
  intro j u hj;match j,hj with
  |0,hj=>
   simp at hj;subst hj;rw[addr_add,←hsz3];have e1:(w3.alloc (.cells #[.pointer (some ⟨w.heap.size,0,none⟩),.int .i64 (k:Int)] 114)).heap.size=w3.heap.size+1:=by simp
   rw[←e1];exact cell_of_row _ _ 0 _ _ _ (heap_alloc_new _ _)
 case c2=>intro u hu;simp at hu;subst hu;rfl
 case c3=>have:=HN.out;unfold maxLen;omega
 case c4=>have:=HN.out;omega
 case c5=>simp;omega
 intro kv' w5 hown5 hgrow5 _;obtain⟨kp,kc,rfl⟩:=own_slice hown5;have HKV5:=hide hown5;have hal:∀g,g<w3.heap.size→((w3.alloc (.cells #[.pointer (some ⟨w.heap.size,0,none⟩),.int .i64 (k:Int)] 114)).alloc (.cells #[.pointer (some ⟨w2.heap.size,0,none⟩)] 45)).heap[g]? =w3.heap[g]? :=fun g hg=>(Below.heap_alloc _ _ g (by simp;omega)).trans (Below.heap_alloc _ _ g hg);have hkb:((w3.alloc (.cells #[.pointer (some ⟨w.heap.size,0,none⟩),.int .i64 (k:Int)] 114)).alloc (.cells #[.pointer (some ⟨w2.heap.size,0,none⟩)] 45)).heap[w2.heap.size]? =some (.cells #[.pointer (some ⟨w.heap.size,0,none⟩),.int .i64 (k:Int)] 114 (0,0)):=by
  rw[←hsz3,Below.heap_alloc _ _ w3.heap.size (by simp)];exact heap_alloc_new w3 _
 have HKS5:Hid (∀i,i<k+1→w.heap.size<(if i=k then w2.heap.size else ks i)∧KeyAt w5 (if i=k then w2.heap.size else ks i) w.heap.size i):=fun i hi=>by
  by_cases e:i=k
  .rw [if_pos e,e];refine⟨by omega,?_⟩;unfold KeyAt;rw[hgrow5.block w2.heap.size (by simp;omega) (row_apart0 ((HKV3.out.alloc _).alloc _) hkb (by decide))];exact hkb
  rw[if_neg e];obtain⟨h1,h2⟩:=HKS3.out i (by omega);refine⟨h1,?_⟩;unfold KeyAt at h2 ⊢;rw[hgrow5.block (ks i) (by have:=row_lt0 h2;simp;omega) (row_apart0 HKV3.out h2 (by decide)),hal _ (row_lt0 h2)];exact h2
 have HO5:=hide (own_blocks HO3.out (fun g hg hlt=>(hgrow5.block g (by simp;omega) (fun e=>own_apart HO3.out HKV3.out (by decide) g hg e.symm)).trans (hal g hlt)));have HR5:Hid (w5.heap[w.heap.size]? =some (.cells #[.slice op (k+1) oc] 112 (0,0))):=(hgrow5.block w.heap.size (by simp;omega) (row_apart0 HKV3.out HR3.out (by decide))).trans ((hal _ (by omega)).trans HR3.out);have HB5:Hid (Below w.heap.size w w5):=by
  have h3:Below w.heap.size w w3:=(HB.out.trans (HB2.out.mono (by omega))).trans (HON.out.below (Nat.le_refl _));exact((h3.alloc (by omega) _).alloc (by simp;omega) _).grown hgrow5 (by simp;omega) (fun j hj=>by have:=(HKV3.out.lt j hj).1;omega)
 have HKL:=hide (keyL_step ks k w2.heap.size);clear hown5 hgrow5 hal hkb;go_wp2;go_roundw
 case rel=>exact⟨k+1,.slice op (k+1) oc,_,HKN.out,by go_num,HR5.out,by rw[List.replicate_succ'];exact HO5.out,by rw[HKL.out];exact HKV5.out,HKS5.out,HB5.out⟩
 case measure=>have:=HKN.out;simp[intOf];omega
section
variable{P:Program}(w:World)
theorem wpList_append_at{ops:Array Oper}{rest:List Oper}{o:Oper}{a:Act}{Q:Exit→Act→World→Prop}(hgd:o.guard=none)(s x:Operand)(t:TypeId)
 (ho:o.op=.call { callee:=.builtin .append,args:=#[s,x],argTypes:=#[t,t] })
 (base:Nat) (e:TypeId) (i:TypeInfo) (z:Value) (size bytes:Nat) (ht:P.underlying t=some (.slice e)) (hi:P.info? e=some i) (hz:i.zero=some z)
 (hsize:i.size=size) (hby:i.bytes=bytes) (hzs:z.cells.size=size) (hsz:0<size)
 (v:Value) (n:Nat) (xs:List Value) (hs:a.eval s=v) (hown:w.ownsRow base e size v n xs)
 (ad:Addr) (m c:Nat) (news:List Value) (hx:a.eval x=.slice (some ad) m c) (hl:news.length=m*size) (hnews:∀j u,news[j]? =some u→w.cell? (ad.add j)=some u) (h1:∀u∈news,u.oneCell'=true)
 (h63:n+m≤maxLen) (hbytes:(n+m)*bytes≤140737488355328) (hbase:base≤w.heap.size)
 (h:∀v' w',w'.ownsRow base e size v' (n+m) (xs++news)→w.grownBy w' v.ownBlock→(v'.ownBlock=v.ownBlock∨v'.ownBlock=some w.heap.size)→wpList P ops Q rest (a.put o.dst v') w'):wpList P ops Q (o::rest) a w:=
 wpList_plain hgd fun _ hK=>wp_append_at w s x t ho base e i z size bytes ht hi hz hsize hby hzs hsz v n xs hs hown ad m c news hx hl hnews h1 h63 hbytes hbase fun v' w' h2 h3 h4=>hK _ _ (h v' w' h2 h3 h4)
theorem wpList_append_texts{ops:Array Oper}{rest:List Oper}{o:Oper}{a:Act}{Q:Exit→Act→World→Prop}(hgd:o.guard=none)(s x:Operand)(t:TypeId)
 (ho:o.op=.call { callee:=.builtin .append,args:=#[s,x],argTypes:=#[t,t] })
 (base:Nat) (e:TypeId) (i:TypeInfo) (z:Value) (bytes:Nat) (ht:P.underlying t=some (.slice e)) (hi:P.info? e=some i) (hz:i.zero=some z)
 (hsize:i.size=1) (hby:i.bytes=bytes) (hzs:z.cells.size=1)
 (v:Value) (n:Nat) (xs:List Value) (hs:a.eval s=v) (hown:w.ownsRow base e 1 v n xs)
 (p:Option Addr) (m c:Nat) (fr:Nat→ByteArray) (hx:a.eval x=.slice p m c) (hp:NilOr p m c) (hl:Lies w w.heap.size p m (fun i=>.string (fr i)))
 (h63:n+m≤maxLen) (hbytes:(n+m)*bytes≤140737488355328) (hbase:base≤w.heap.size)
 (h:∀v' w',w'.ownsRow base e 1 v' (n+m) (xs++(List.range m).map fun i=>.string (fr i))→w.grownBy w' v.ownBlock→(v'.ownBlock=v.ownBlock∨v'.ownBlock=some w.heap.size)→wpList P ops Q rest (a.put o.dst v') w'):wpList P ops Q (o::rest) a w:=by
 rcases hp with⟨rfl,rfl,rfl⟩|⟨b,off,rfl⟩
 .refine wpList_plain hgd fun K hK=>?_;have hr:=run_append_owned_none (P:=P) w base t o.type e i 1 ht hi v n xs hown;unfold Oper.wp execOp;simp only[ho,resolve,invoke,builtin,Sem.run_bind,Sem.run_pure,Result.andThen_ok,List.map_toArray,List.map_cons,List.map_nil,hs,hx,hr];exact hK _ _ (h v w (by simpa using hown) (World.grownBy.refl _ _) (Or.inl rfl))
 refine wpList_append_at w hgd s x t ho base e i z 1 bytes ht hi hz hsize hby hzs (by decide) v n xs hs hown ⟨b,off,none⟩ m c ((List.range m).map fun i=>.string (fr i)) hx (by simp) (fun j u hj=>?_) (fun u hu=>?_) h63 hbytes hbase h
 .have hjm:j<m:=by have:=(List.getElem?_eq_some_iff.1 hj).1;simpa using this
  obtain⟨b',o',e',_,hc⟩:=hl j hjm;cases e';have e2:((List.range m).map fun i=>Value.string (fr i))[j]? =some (.string (fr j)):=by simp[hjm]
  rw[e2] at hj;cases hj;rw[addr_add];exact hc
 simp only[List.mem_map] at hu;obtain⟨i,_,rfl⟩:=hu;rfl
end
theorem keyId_any(kb rb i:Nat)(w:World)(h:KeyAt w kb rb i):Calls prog 144 #[.pointer (some ⟨kb,0,none⟩)] w fun e w'=>e=.returned (.int .i64 (i:Int))∧w'=w:=by
 have hk1:w.cell? ⟨kb,1,none⟩=some (.int .i64 (i:Int)):=cell_of_row w kb 1 _ _ _ h;clear h;go_enter func144,ntmps144;go_wp2;go_ret;exact⟨rfl,rfl⟩
theorem keyRing_any(kb rb i:Nat)(w:World)(h:KeyAt w kb rb i):Calls prog 78 #[.pointer (some ⟨kb,0,none⟩)] w fun e w'=>e=.returned (.pointer (some ⟨rb,0,none⟩))∧w'=w:=by
 have hk0:w.cell? ⟨kb,0,none⟩=some (.pointer (some ⟨rb,0,none⟩)):=cell_of_row w kb 0 _ _ _ h;clear h;go_enter func78,ntmps78;go_wp2;go_ret;exact⟨rfl,rfl⟩
structure Ext (w:World) where
 W:World
 b:Below w.heap.size w W
theorem Ext.ne(w:World):Nonempty (Ext w):=⟨⟨w,Below.refl _ w⟩⟩
def Ext.of{w W:World}(h:Below w.heap.size w W):Ext w:=⟨W,h⟩
theorem Ext.cell{w:World}{p:Addr}{v:Value}(h:w.cell? p=some v)(u:Ext w):u.W.cell? p=some v:=(u.b.cell (World.block_lt_of_cell? _ _ h)).trans h
theorem Ext.range{w:World}{b o:Nat}{l:List Value}(h:w.rangeAt b o l)(u:Ext w):u.W.rangeAt b o l:=fun j v hv=>Ext.cell (h j v hv) u
section
variable{P:Program}
theorem Calls.ext{f:FuncId}{args:Array Value}{w:World}(u:Ext w){v:Value}(h:Calls P f args u.W fun e w'=>e=.returned v∧Below u.W.heap.size u.W w'):Calls P f args u.W fun e w''=>e=.returned v∧∃u':Ext w,w''=u'.W:=
 h.mono fun _ w' ⟨he,hb⟩=>⟨he,⟨w',u.b.trans (hb.mono u.b.size)⟩,rfl⟩
theorem Calls.extSame{f:FuncId}{args:Array Value}{w:World}(u:Ext w){v:Value}(h:Calls P f args u.W fun e w'=>e=.returned v∧w'=u.W):Calls P f args u.W fun e w''=>e=.returned v∧∃u':Ext w,w''=u'.W:=
 h.mono fun _ _ ⟨he,hb⟩=>⟨he,u,hb⟩
theorem wp_region_ext{id:Nat}{Q:Exit→Act→World→Prop}{a:Act}{w:World}{l:List Oper}(hm:P.follows .mixedOrders=true)(hB:Region.lexB .any l.toArray=true)
 (h:wpQuiet P l.toArray (fun w'=>∃u:Ext w,w'=u.W) (fun a'=>∀w',(∃u:Ext w,w'=u.W)→Q .normal a' w') l a):(Code.region id l.toArray true).wp P Q a w:=
 wp_region_quiet (C:=fun w'=>∃u:Ext w,w'=u.W) hm hB ⟨⟨w.drew,(Below.refl _ w).drew⟩,rfl⟩ (by simpa using h)
theorem quiet_load_mid{o:Oper}{a:Act}{w:World}{K:Act→Prop}(d:Option Tmp)(hd:o.dst=d)(ty:TypeId)(x:Operand)(ho:o.op=.load ty x)(b off:Nat)(hx:a.eval x=.pointer (some ⟨b,off,none⟩))(cs:List Value)(t:TypeDesc)(hS:∀u:Ext w,u.W.rangeAt b off cs)
 (hu:P.underlying ty=some t) (ht:t.isRow=true) (hi:(P.info? ty).map (·.size)=some cs.length) (hk:K (a.put d (.agg cs.toArray))):o.quiet P a (fun w'=>∃u:Ext w,w'=u.W) K:=by
 subst hd;refine⟨_,fun W hW=>?_,hk⟩;obtain⟨u,rfl⟩:=hW;unfold Oper.quietAt execOp;simp only[ho,hx,Instr.loadAt,Instr.sureAddr,Sem.run_bind,Sem.run_pure,Result.andThen_ok,run_loadVar_mid u.W b off ty cs t (hS u) hu ht hi];exact⟨rfl,rfl⟩
end
end Go.Proofs.YtcfjhbcpjpgodaaGreatDoor

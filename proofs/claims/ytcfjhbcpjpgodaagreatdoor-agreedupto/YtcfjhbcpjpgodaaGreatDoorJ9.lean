/- Proved here: the pieces that strings.SplitN tells at a comma are the pieces between the commas, as long as these are not too many. -/
import Derived.Test.YtcfjhbcpjpgodaaGreatDoorJ5
import Derived.Lib.Split
import Derived.Lib.SplitLaws
import Derived.Lib.CutLaws
import Derived.Test.YtcfjhbcpjpgodaaGreatDoorJ8
namespace Go.Proofs.YtcfjhbcpjpgodaaGreatDoor
open Go.RowKit
def comma:ByteArray:=⟨#[44]⟩
theorem byt_list(b:ByteArray)(i:Nat)(h:i<b.size)(hc:b.data.toList[i]? ≠some 44):byt b i≠44:=by
 intro e;apply hc;have hl:i<b.data.toList.length:=by simpa using h
 unfold byt at e;rw[List.getD_eq_getElem?_getD,List.getElem?_eq_getElem hl] at e;rw[List.getElem?_eq_getElem hl];have e2:(b.data.toList[i]).toNat=44:=by simp only[Option.getD_some] at e;omega
 congr 1
 exact UInt8.toNat_inj.1 e2
theorem byt_list_eq(b:ByteArray)(i:Nat)(hc:b.data.toList[i]? =some 44):i<b.size∧byt b i=44:=by
 have hl:=(List.getElem?_eq_some_iff.1 hc).1;refine⟨by simpa using hl,?_⟩;unfold byt;rw[List.getD_eq_getElem?_getD,hc];rfl
theorem cuts_skip(b:ByteArray)(fr i:Nat):∀j,i+j≤b.size→(∀k,i≤k→k<i+j→byt b k≠44)→cuts b fr i=cuts b fr (i+j)
 |0,_,_=>rfl
 |j+1,h,hn=>by
  rw[cuts_skip b fr i j (by omega) (fun k h1 h2=>hn k h1 (by omega)),cuts_go b fr (i+j) (by omega) (hn _ (by omega) (by omega))];rfl
theorem extract_in(b:ByteArray)(m fr i:Nat)(h:m+i≤b.size):(b.extract m b.size).extract fr i=b.extract (m+fr) (m+i):=by
 apply ByteArray.ext;apply Array.ext';rw[Lib.extract_data,Lib.extract_data,Lib.extract_data,List.drop_take,List.drop_drop,List.take_take]
 congr 1
 omega
theorem cuts_in(b:ByteArray)(m:Nat)(hm:m≤b.size):∀(n fr i:Nat),b.size+1-(m+i)=n→cuts (b.extract m b.size) fr i=cuts b (m+fr) (m+i):=by
 intro n;induction n using Nat.strongRecOn with
 |_ n ih=>
  intro fr i hn;have hz:=size_piece b m b.size (Nat.le_refl _);rcases Nat.lt_trichotomy (m+i) b.size with h|h|h
  .have hb:byt (b.extract m b.size) i=byt b (m+i):=byt_piece b m b.size i h;by_cases hc:byt b (m+i)=44
   .rw [cuts_at _ fr i (by omega) (by rw[hb];exact hc),cuts_at b _ (m+i) h hc,extract_in b m fr i (by omega),ih (b.size+1-(m+(i+1))) (by omega) (i+1) (i+1) rfl];rfl
   rw[cuts_go _ fr i (by omega) (by rw[hb];exact hc),cuts_go b _ (m+i) h hc,ih (b.size+1-(m+(i+1))) (by omega) fr (i+1) rfl];rfl
  .have e:i=(b.extract m b.size).size:=by omega
   rw[h];have h1:=cuts_end (b.extract m b.size) fr;rw[←e] at h1;rw[h1,cuts_end,cuts_out _ _ (i+1) (by omega),cuts_out b _ (b.size+1) (by omega),extract_in b m fr i (by omega),h]
  rw[cuts_out _ _ _ (by omega),cuts_out b _ _ h]
theorem index_comma(b:ByteArray):Lib.indexB b comma=Lib.indexByte b.data.toList 44:=Lib.index_one _ _
theorem cuts_none(b:ByteArray)(h:Lib.indexB b comma= -1):cuts b 0 0=[b]:=by
 rw[index_comma] at h;rw[cuts_skip b 0 0 b.size (by omega) (fun k _ hk=>byt_list b k (by omega) (Lib.indexByte_none h k)),Nat.zero_add,cuts_end,cuts_out _ _ _ (by omega)]
 congr 1
 apply ByteArray.ext;apply Array.ext';rw[Lib.extract_data,List.drop_zero,List.take_of_length_le (by simp)]
theorem cuts_some(b:ByteArray)(i:Nat)(h:Lib.indexB b comma=i):cuts b 0 0=b.extract 0 i::cuts (b.extract (i+1) b.size) 0 0:=by
 rw[index_comma] at h;obtain⟨h1,h2⟩:=Lib.indexByte_some h;obtain⟨h3,h4⟩:=byt_list_eq b i h1;rw[cuts_in b (i+1) (by omega) _ 0 0 rfl,cuts_skip b 0 0 i (by omega) (fun k _ hk=>byt_list b k (by omega) (h2 k (by omega))),Nat.zero_add,cuts_at b 0 i h3 h4]
theorem cuts_pos(b:ByteArray):1≤(cuts b 0 0).length:=by
 rcases Lib.indexB_cases b comma with h|⟨i,h,_⟩
 .rw [cuts_none b h];simp
 rw[cuts_some b i h];simp
theorem cuts_len(b:ByteArray):∀(n fr i:Nat),b.size+1-i=n→(cuts b fr i).length≤n:=by
 intro n;induction n with
 |zero=>intro fr i hn;rw[cuts_out b fr i (by omega)];simp
 |succ n ih=>
  intro fr i hn;rcases Nat.lt_trichotomy i b.size with h|h|h
  .by_cases hc:byt b i=44
   .rw [cuts_at b fr i h hc];have:=ih (i+1) (i+1) (by omega);simp only[List.length_cons];omega
   rw[cuts_go b fr i h hc];have:=ih fr (i+1) (by omega);omega
  .rw [h,cuts_end,cuts_out _ _ _ (by omega)];simp
  omega
theorem comma_size:comma.size=1:=rfl
theorem splitB_few:∀(k:Nat) (s:ByteArray),(cuts s 0 0).length≤k+1→Lib.splitB comma 0 k s=cuts s 0 0
 |0,s,h=>by
  rcases Lib.indexB_cases s comma with hi|⟨i,hi,_⟩
  .rw [Lib.splitB_miss comma 0 0 s hi,cuts_none s hi]
  .rw [cuts_some s i hi,List.length_cons] at h;have:=cuts_pos (s.extract (i+1) s.size);omega
 |k+1,s,h=>by
  rcases Lib.indexB_cases s comma with hi|⟨i,hi,_⟩
  .rw [Lib.splitB_miss comma 0 _ s hi,cuts_none s hi]
  .rw [cuts_some s i hi,List.length_cons] at h;rw[Lib.splitB_hit comma 0 k s i hi,cuts_some s i hi,comma_size,splitB_few k _ (by omega)];rfl
theorem splitB_many:∀(k:Nat) (s:ByteArray),k+1≤(cuts s 0 0).length→(Lib.splitB comma 0 k s).length=k+1
 |0,s,_=>rfl
 |k+1,s,h=>by
  rcases Lib.indexB_cases s comma with hi|⟨i,hi,_⟩
  .rw [cuts_none s hi] at h;simp at h
  .rw [cuts_some s i hi,List.length_cons] at h;rw[Lib.splitB_hit comma 0 k s i hi,comma_size,List.length_cons,splitB_many k _ (by omega)]
theorem splitN_few(b:ByteArray)(h:(cuts b 0 0).length≤3):Lib.splitB comma 0 (min 4 (b.size+1)-1) b=cuts b 0 0:=by
 apply splitB_few;have:=cuts_len b (b.size+1) 0 0 rfl;omega
theorem splitN_many(b:ByteArray)(h:3<(cuts b 0 0).length):(Lib.splitB comma 0 (min 4 (b.size+1)-1) b).length=4:=by
 have h1:=cuts_len b (b.size+1) 0 0 rfl;have h2:min 4 (b.size+1)-1=3:=by omega
 rw[h2];exact splitB_many 3 b (by omega)
theorem behind_empty(x:Nat→Int)(s:ByteArray)(h:s.size=0):behindR x s=(x,true):=by
 unfold behindR splitR;rw[if_pos h];rfl
theorem behind_many(x:Nat→Int)(s:ByteArray)(h:s.size≠0)(h3:3<(cuts s 0 0).length):(behindR x s).2=false:=by
 unfold behindR splitR;rw[if_neg h];split
 .rw [decide_eq_false (by omega)];rfl
 rfl
theorem behind_form(x:Nat→Int)(s:ByteArray)(h:s.size≠0)(k:Nat)(hk:k<(cuts s 0 0).length)(hf:formB ((cuts s 0 0).getD k ByteArray.empty)=false):(behindR x s).2=false:=by
 unfold behindR splitR;rw[if_neg h,if_neg]
 .rfl
 intro ha;have:=List.all_eq_true.1 ha _ (List.getElem_mem hk);rw[List.getD_eq_getElem?_getD,List.getElem?_eq_getElem hk] at hf;simp only[Option.getD_some] at hf;rw[hf] at this;cases this
theorem behind_next(x:Nat→Int)(s:ByteArray)(h:s.size≠0)(hf:(behindL x (cuts s 0 0)).2=false):(behindR x s).2=false:=by
 unfold behindR splitR;rw[if_neg h];split
 .unfold goOn;split
  .exact hf
  rfl
 rfl
theorem behind_votes(x:Nat→Int)(s:ByteArray)(h:s.size≠0)(hv:2≤votes (cuts s 0 0)):(behindR x s).2=false:=by
 unfold behindR splitR;rw[if_neg h];split
 .rw [decide_eq_false (p:=votes (cuts s 0 0)<2) (by omega),Bool.and_false];rfl
 rfl
theorem behind_good(x y:Nat→Int)(s:ByteArray)(h:s.size≠0)(h3:(cuts s 0 0).length≤3)(ha:(cuts s 0 0).all formB=true)(hv:votes (cuts s 0 0)<2)(hy:behindL x (cuts s 0 0)=(y,true)):behindR x s=(y,true):=by
 unfold behindR splitR;rw[if_neg h,if_pos ha];simp only
 rw[decide_eq_true h3,decide_eq_true hv];exact hy
theorem behindL_step(y:Nat→Int)(l:List ByteArray)(k:Nat)(hk:k<l.length)(t:ByteArray)(ht:t=l.getD k ByteArray.empty):behindL y (l.drop k)=if(nextT y t).2 then behindL (nextT y t).1 (l.drop (k+1)) else((nextT y t).1,false):=by
 have e:l.drop k=t::l.drop (k+1):=by
  rw[ht,List.drop_eq_getElem_cons hk,List.getD_eq_getElem?_getD,List.getElem?_eq_getElem hk];rfl
 rw[e];rfl
theorem take_step(l:List ByteArray)(k:Nat)(hk:k<l.length)(t:ByteArray)(ht:t=l.getD k ByteArray.empty):l.take (k+1)=l.take k++[t]:=by
 rw[ht,List.getD_eq_getElem?_getD,List.getElem?_eq_getElem hk,Option.getD_some,List.take_append_getElem hk]
theorem next_prog(y:Nat→Int)(t:ByteArray)(hf:formB t=true):
 nextT y t=(upd y (spot (byt t 0) (idxN (byt t 0) (byt t 1)).toNat) (numN (byt t 0) (byt t 2)),mayB y (byt t 0) (idxN (byt t 0) (byt t 1)).toNat (numN (byt t 0) (byt t 2))):=by
 have hf':=of_decide_eq_true hf;unfold nextT nextR mayB spot idxN numN;rcases hf' with⟨hn,h0,h1,h2⟩|⟨hn,h0,h1,h2,h3,h4⟩|⟨hn,h0,h1,h2,h3,h4⟩
 .rw [h0];simp
 .rcases h0 with h0|h0
  .rw [h0];simp;omega
  rw[h0];simp
 rw[h0];simp[Bool.and_comm]
theorem form_spots(t:ByteArray)(hf:formB t=true):
 (byt t 0=106∨byt t 0=108∨byt t 0=114∨byt t 0=118)∧(byt t 0=118→(idxN (byt t 0) (byt t 1)).toNat<8)∧(byt t 0≠118→(idxN (byt t 0) (byt t 1)).toNat<26)∧0≤numN (byt t 0) (byt t 2)∧numN (byt t 0) (byt t 2)≤9∧idxN (byt t 0) (byt t 1)=(((idxN (byt t 0) (byt t 1)).toNat:Nat):Int):=by
 have hf':=of_decide_eq_true hf;unfold idxN numN;rcases hf' with⟨hn,h0,h1,h2⟩|⟨hn,h0,h1,h2,h3,h4⟩|⟨hn,h0,h1,h2,h3,h4⟩
 .rw [h0];simp;omega
 .rcases h0 with h0|h0
  .rw [h0];simp;omega
  rw[h0];simp;omega
 rw[h0];simp;omega
end Go.Proofs.YtcfjhbcpjpgodaaGreatDoor

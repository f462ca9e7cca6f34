import Derived.Test.YtcfjhbcpjpgodaaGreatDoorJ1
import Derived.Test.YtcfjhbcpjpgodaaGreatDoorTakeL
namespace Go.Proofs.YtcfjhbcpjpgodaaGreatDoor
open Go.RowKit
set_option maxRecDepth 100000
set_option maxHeartbeats 0
set_option linter.all false
def regOf(g:Nat->Int)(k:Nat):Nat->Int:=λi=>if i<k then g i else 0
theorem GN(g:Nat->Int):regOf g 0=yk:=by funext i;simp[regOf,yk]
theorem GO(g:Nat->Int)(k:Nat):upd (regOf g k) k (g k)=regOf g (k+1):=by
 funext i;simp only[upd,regOf];by_cases h:i=k
 .subst h;simp
 rw[zj3 h];by_cases h2:i<k
 .rw [zj2 h2,zj2 (by omega)]
 rw[zj3 h2,zj3 (by omega)]
def vB(g:Nat->Int)(n:Nat):(Nat->Int)×Bool:=if n<=8/\∀i,i<n->0<=g i/\g i<=9 then(regOf g n,decide (0<sumTo g n)) else(yk,false)
theorem QE(g:Nat->Int)(n:Nat)(h:¬(n<=8/\∀i,i<n->0<=g i/\g i<=9)):vB g n=(yk,false):=zj3 h
theorem Yl(g:Nat->Int)(n:Nat)(h:n<=8)(h2:∀i,i<n->0<=g i/\g i<=9):vB g n=(regOf g n,decide (0<sumTo g n)):=zj2 ⟨h,h2⟩
section
variable{x:Nat->Int}
def zbD(x:Nat->Int)(c0 c1 c2:Int):(Nat->Int)×Bool:=
 if c0=118 then(upd x (c1-48).toNat (c2-48),decide (0<sumTo (upd x (c1-48).toNat (c2-48)) 8)&&decide (x (c1-48).toNat≠c2-48))
 else if c0=108 then(upd x (8+(c1-97).toNat) 0,decide (x (8+(c1-97).toNat)≠0)&&decide (x (8+(c1-97).toNat)≠0))
 else if c0=106 then(upd x (8+(c1-97).toNat) (c2-48),decide (x (8+(c1-97).toNat)=0)&&decide (x (8+(c1-97).toNat)≠c2-48))
 else(upd x (8+(c1-97).toNat) (c2-48),decide (x (8+(c1-97).toNat)≠0)&&decide (x (8+(c1-97).toNat)≠c2-48))
def yS(x:Nat->Int)(t:zj5):(Nat->Int)×Bool:=zbD x (byt t 0) (byt t 1) (byt t 2)
def Dom(x:Nat->Int):Prop:=∀i,0<=x i/\x i<=9
theorem Dom.set(h:Dom x)(k:Nat)(v:Int)(h0:0<=v)(h1:v<=9):Dom (upd x k v):=by
 intro i;unfold upd;split
 .exact ⟨h0,h1⟩
 exact h i
theorem Dom.next{t:zj5}(h:Dom x)(hf:yN t=true):Dom (yS x t).1:=by
 have hf':=zjP hf;unfold yS zbD;split
 .exact h.set _ _ (by omega) (by omega)
 split
 .exact h.set _ _ (by omega) (by omega)
 split
 .exact h.set _ _ (by omega) (by omega)
 exact h.set _ _ (by omega) (by omega)
end
def behindL:(Nat->Int)->List zj5->(Nat->Int)×Bool
 |x,[]=>(x,true)
 |x,t::l=>if(yS x t).2 then behindL (yS x t).1 l else((yS x t).1,false)
def zeR(y:Nat->Int)(o:Bool)(l:List zj5):(Nat->Int)×Bool:=if o then behindL y l else(y,false)
def zi(x:Nat->Int)(b:zj5):(Nat->Int)×Bool:=zeR x (qs b).2 (qs b).1
theorem Vq(b:zj5)(k:Nat)(hk:k<(qs b).1.length):yN ((qs b).1.getD k zj4)=true:=by
 unfold qs at hk ⊢;split at hk
 .simp at hk
 rename_i h0;rw[zj3 h0];split at hk
 .rename_i h1;rw[zj2 h1];simp only at hk ⊢;rw[zjK,zjJ hk];exact List.all_eq_true.1 h1 _ (List.getElem_mem hk)
 simp at hk
theorem Dom.zero:Dom yk:=λ_=>by simp[yk]
theorem Dom.gen(g:Nat->Int)(n:Nat):Dom (vB g n).1:=by
 unfold vB;split
 .rename_i h;intro i;simp only[regOf];split
  .exact h.2 i (by assumption)
  omega
 exact Dom.zero
theorem Dom.zhs:∀(l:List zj5) (x:Nat->Int),Dom x->(∀t∈l,yN t=true)->Dom (behindL x l).1
 | [],x,h,_=>h
 |t::l,x,h,hl=>by
  unfold Go.Proofs.YtcfjhbcpjpgodaaGreatDoor.behindL;split
  .exact Dom.zhs l _ (h.next (hl t (by simp))) (λt ht=>hl t (by simp[ht]))
  .exact h.next (hl t (by simp))
theorem Dom.behind{x:Nat->Int}(b:zj5)(h:Dom x):Dom (zi x b).1:=by
 unfold zi zeR;split
 .refine Dom.zhs _ x h λt ht=>?_;obtain⟨k,hk,rfl⟩:=List.getElem_of_mem ht;have:=Vq b k hk;rw[zjK,zjJ hk] at this;exact this
 exact h
section
open Proofs.Tryz
def gX(x:Nat->Int)(k:Nat):List Value:=(List.range k).map λj=>iA (x j)
theorem yH(x:Nat->Int)(k:Nat):(gX x k).length=k:=by simp[gX]
def memb(x:Nat->Int)(k:Nat):List Nat:=(List.range k).filter λj=>decide (0<x (8+j))
theorem zc9(x:Nat->Int)(k:Nat)(h:0<x (8+k)):memb x (k+1)=memb x k++[k]:=by simp[memb,List.range_succ,h]
theorem zeh(x:Nat->Int)(k:Nat)(h:¬0<x (8+k)):memb x (k+1)=memb x k:=by simp[memb,List.range_succ,h]
theorem xt(x:Nat->Int)(k:Nat):(memb x k).length<=k:=by
 have:=List.length_filter_le (λj=>decide (0<x (8+j))) (List.range k);simpa [memb] using this
def nameB(l:List Nat):zj5:=strOfNums (l.map λ(j:Nat)=>(j:Int)+97)
def xo(x:Nat->Int)(l:List Nat):List Value:=l.map λj=>iA (x (8+j))
theorem Jl(x:Nat->Int)(l:List Nat)(k:Nat):xo x (l++[k])=xo x l++[iA (x (8+k))]:=by simp[xo]
def yq(w:World)(g:Nat)(p:Value)(s:zj5)(r:Value):Prop:=w.heap[g]? =some (.cells #[p,sA s,r] 72 (0,0))
theorem yq.cell{w:World}{g:Nat}{p:Value}{s:zj5}{r:Value}(h:yq w g p s r):w.cell? (aA g 0)=some p/\w.cell? (aA g 1)=some (sA s)/\w.cell? (aA g 2)=some r:=
 ⟨zjD w g 0 _ _ _ h,zjD w g 1 _ _ _ h,zjD w g 2 _ _ _ h⟩
theorem yq.frozen{w:World}{g:Nat}{p:Value}{s:zj5}{r:Value}(h:yq w g p s r)(i:Nat):w.frozen? (aA g i)=false:=by
 unfold yq at h;simp[World.frozen?,h]
theorem yq.lt{w:World}{g:Nat}{p:Value}{s:zj5}{r:Value}(h:yq w g p s r):g<w.heap.size:=by
 rcases Nat.lt_or_ge g w.heap.size with h'|h'
 .exact h'
 unfold yq at h;simp[Array.getElem?_eq_none h'] at h
theorem yq.zjs{w:World}{g:Nat}{p:Value}{s:zj5}{r:Value}(h:yq w g p s r)(v:zj5):yq (w.setCell (aA g 1) (sA v)) g p v r:=by
 unfold yq at h ⊢;simp[World.setCell,Array.getElem?_modify,h]
theorem yq.zjr{w:World}{g:Nat}{p:Value}{s:zj5}{r:Value}(h:yq w g p s r)(v:Value):yq (w.setCell (aA g 2) v) g p s v:=by
 unfold yq at h ⊢;simp[World.setCell,Array.getElem?_modify,h]
theorem yq.block{w w':World}{g:Nat}{p:Value}{s:zj5}{r:Value}(h:yq w g p s r)(hb:w'.heap[g]? =w.heap[g]?):yq w' g p s r:=by
 unfold yq at h ⊢;rw[hb];exact h
structure But (B g:Nat) (w w':World):Prop where
 os:w'.os=w.os
 tape:w'.tape=w.tape
 output:w'.output=w.output
 size:w.heap.size<=w'.heap.size
 block:∀k,k<B->k≠g->w'.heap[k]? =w.heap[k]?
theorem But.refl(B g:Nat)(w:World):But B g w w:=⟨rfl,rfl,rfl,zjA _,λ_ _ _=>rfl⟩
theorem But.trans{B g:Nat}{a b c:World}(h:But B g a b)(k:But B g b c):But B g a c:=
 ⟨k.os.trans h.os,k.tape.trans h.tape,k.output.trans h.output,zjF h.size k.size,λi hi hg=>(k.block i hi hg).trans (h.block i hi hg)⟩
theorem But.zig{B g:Nat}{w w':World}(h:Below B w w'):But B g w w':=⟨h.os,h.tape,h.output,h.size,λk hk _=>h.block k hk⟩
theorem But.ziy{B g:Nat}{w w':World}(h:kq g w w'):But B g w w':=⟨h.os,h.tape,h.output,by rw[h.size];exact zjA _,λk _ hg=>h.block k hg⟩
theorem But.below{B B' g:Nat}{w w':World}(h:But B g w w')(hg:B'<=g)(hB:B'<=B):Below B' w w':=⟨h.os,h.tape,h.output,h.size,λk hk=>h.block k (by omega) (by omega)⟩
section
variable{P:Program}
end
theorem Tryz.zgo:(prog.info? 72).map (·.size)=some 3:=by kernel_rfl
theorem XQ(x:Nat->Int)(n i:Nat)(h:i<n):(gX x n).toArray[i]? =some (iA (x i)):=by simp[gX,h]
theorem Y7{w:World}{g:Nat}{t:TypeId}{x:Nat->Int}(h:RegAt w g t x):w.rangeAt g 0 (gX x 8):=λj v hv=>by
 have hj:j<8:=by have:=(List.getElem?_eq_some_iff.1 hv).1;simpa [gX] using this
 rw[zj8,h.cell j (by omega)];have:(gX x 8)[j]? =some (iA (x j)):=by simp[gX,hj]
 rw[this] at hv;exact hv
theorem JN(C:Array Value)(k:Nat)(v:Int)(hk:k<8)(hg:C[k]? =some (iA v))(W:World):(Instr.index 46 (.agg C) (iA k)).run prog W=.ok (iA v) W:=by
 have h:0<=(k:Int)/\(k:Int)<((8:Nat):Int):=by omega
 simp[Instr.index,run_underlying underlying46,asIntOf,go_sem,Tryz.sizeOf3,Tryz.isAgg3,hg,hk]
theorem xH(x:Nat->Int)(w:World)(hx:∀i,i<8->0<=x i/\x i<=9):
 Calls prog 103 #[.agg (regA x)] w λe w'=>e=.returned (iA (sumTo x 8))/\BW w w':=by
 have HX:=zc hx;clear hx;have HR:=zc (RegAt.alloc w 116 x);go_enter func103,ntmps103;go_wp2_with (refine zj6 rfl 46 _ rfl w.heap.size 0 rfl (gX x 8) _ (Y7 HR) underlying46 rfl (by rw[yH];exact Tryz.zgZ) ?_)
 go_loop [3,5,8] (λn _ i=>∃k:Nat,k<=8/\i=iA k/\n=iA (sumTo x k)) (λ_ _ i=>8-(intOf i).toNat)
 case atStart=>exact⟨0,by omega,rfl,rfl⟩
 obtain⟨k,hk,rfl,rfl⟩:=hrel;by_cases aa:k<8
 .have hg:=JN (gX x 8).toArray k (x k) aa (XQ x 8 k aa);have hb:=kJ x k (λi hi=>HX.o i (by omega));have hxk:=HX.o k aa;have hk2:(k:Int)<8:=by omega
  go_wp2
  go_round
  case rel=>exact⟨k+1,by omega,by go_num,rfl⟩
  simp[intOf];omega
 obtain rfl:k=8:=by omega
 go_wp2;go_ret;exact⟨rfl,bwA _⟩
theorem Jt(c a b:Int)(w:World)(ha:0<=a)(hb:b<=255):
 Calls prog 181 #[.int .u8 c,.int .u8 a,.int .u8 b] w λe w'=>e=.returned (.tuple #[iA (if a<=c/\c<=b then c-a else 0),bA (decide (a<=c/\c<=b))])/\w'=w:=by
 by_cases h2:c<a
 .rw [zj3 (by omega),zjR (by omega)];go_enter func181,ntmps181;go_wp2;go_ret2;exact⟨rfl,rfl⟩
 by_cases h3:b<c
 .rw [zj3 (by omega),zjR (by omega)];go_enter func181,ntmps181;go_wp2;go_ret2;exact⟨rfl,rfl⟩
 rw[zj2 (by omega),zjQ (by omega)];go_enter func181,ntmps181;go_wp2;go_ret2;exact⟨rfl,rfl⟩

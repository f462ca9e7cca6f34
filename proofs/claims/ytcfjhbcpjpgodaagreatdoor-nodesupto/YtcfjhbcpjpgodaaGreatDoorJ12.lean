import Derived.Test.YtcfjhbcpjpgodaaGreatDoorJ11
import Derived.Test.YtcfjhbcpjpgodaaGreatDoorJ10
import Derived.Test.YtcfjhbcpjpgodaaGreatDoorRefNextL
namespace Go.Proofs.YtcfjhbcpjpgodaaGreatDoor
open Go.RowKit
set_option maxRecDepth 100000
set_option maxHeartbeats 0
set_option linter.all false
section
open Proofs.Tryz
variable{x:Nat->Int}
def Gw(x:Nat->Int)(c0 c1 c2:Int):(Nat->Int)×Bool:=
 if c0=118 then(upd x (c1-48).toNat (c2-48),decide (0<sumTo (upd x (c1-48).toNat (c2-48)) 8)&&decide (x (c1-48).toNat≠c2-48))
 else if c0=108 then(upd x (8+(c1-97).toNat) 0,decide (x (8+(c1-97).toNat)≠0)&&decide (x (8+(c1-97).toNat)≠0))
 else if c0=106 then(upd x (8+(c1-97).toNat) (c2-48),decide (x (8+(c1-97).toNat)=0)&&decide (x (8+(c1-97).toNat)≠c2-48))
 else(upd x (8+(c1-97).toNat) (c2-48),decide (x (8+(c1-97).toNat)≠0)&&decide (x (8+(c1-97).toNat)≠c2-48))
def nextT(x:Nat->Int)(t:zgW):(Nat->Int)×Bool:=Gw x (byt t 0) (byt t 1) (byt t 2)
def Dom(x:Nat->Int):Prop:=∀i,0<=x i/\x i<=9
theorem Dom.set(h:Dom x)(k:Nat)(v:Int)(h0:0<=v)(h1:v<=9):Dom (upd x k v):=by
 intro i;unfold upd;split
 .exact ⟨h0,h1⟩
 exact h i
theorem Dom.next{t:zgW}(h:Dom x)(hf:z7 t=true):Dom (nextT x t).1:=by
 have hf':=zgF hf;unfold nextT Gw;split
 .exact h.set _ _ (by omega) (by omega)
 split
 .exact h.set _ _ (by omega) (by omega)
 split
 .exact h.set _ _ (by omega) (by omega)
 exact h.set _ _ (by omega) (by omega)
theorem J4(x:Nat->Int)(t:zgW)(w:World)(hx:Dom x)(hf:z7 t=true):
 Calls prog 189 #[.agg (regA x),sA t] w λe w'=>e=.returned (.tuple #[.agg (regA (nextT x t).1),bA (nextT x t).2])/\BW w w':=by
 have aa:=zgF hf;have i0:=zY t 0 (by omega);have i1:=zY t 1 (by omega);unfold nextT Gw;rcases aa with⟨hn,h0,h1,h2⟩|⟨hn,h0,h1,h2,h3,h4⟩|⟨hn,h0,h1,h2,h3,h4⟩
 .rw [h0] at i0 ⊢;rw[zgU (by omega),zgT rfl];have e1:byt t 1=(((byt t 1-97).toNat:Nat):Int)+97:=by omega
  exact zcm x t (byt t 1-97).toNat w (by omega) i0 (by rw[<-e1];exact i1)
 .have i2:=zY t 2 (by omega);have e1:byt t 1=(((byt t 1-97).toNat:Nat):Int)+97:=by omega
  have e2:byt t 2=(((byt t 2-48).toNat:Nat):Int)+48:=by omega
  have e3:byt t 2-48=(((byt t 2-48).toNat:Nat):Int):=by omega
  rcases h0 with h0|h0
  .rw [h0] at i0 ⊢;rw[zgU (by omega),zgU (by omega),zgT rfl,e3];exact zcn x t (byt t 1-97).toNat (byt t 2-48).toNat w (by omega) i0 (by rw[<-e1];exact i1) (by omega) (by rw[<-e2];exact i2)
  rw[h0] at i0 ⊢;rw[zgU (by omega),zgU (by omega),zgU (by omega),e3];exact zcl x t (byt t 1-97).toNat (byt t 2-48).toNat w (by omega) i0 (by rw[<-e1];exact i1) (by omega) (by rw[<-e2];exact i2)
 have i2:=zY t 2 (by omega);have e1:byt t 1=(((byt t 1-48).toNat:Nat):Int)+48:=by omega
 have e2:byt t 2=(((byt t 2-48).toNat:Nat):Int)+48:=by omega
 have e3:byt t 2-48=(((byt t 2-48).toNat:Nat):Int):=by omega
 rw[h0] at i0 ⊢;rw[zgT rfl,e3];exact zck x t (byt t 1-48).toNat (byt t 2-48).toNat w (λi _=>hx i) (by omega) (by omega) i0 (by rw[<-e1];exact i1) (by rw[<-e2];exact i2)
end
section
open Proofs.Tryz
def behindL:(Nat->Int)->List zgW->(Nat->Int)×Bool
 |x,[]=>(x,true)
 |x,t::l=>if(nextT x t).2 then behindL (nextT x t).1 l else((nextT x t).1,false)
def GO(y:Nat->Int)(o:Bool)(l:List zgW):(Nat->Int)×Bool:=if o then behindL y l else(y,false)
def behindR(x:Nat->Int)(b:zgW):(Nat->Int)×Bool:=GO x (ym b).2 (ym b).1
theorem zbd(y:Nat->Int)(o:Bool):GO y o []=(y,o):=by cases o<;>rfl
theorem GN(y:Nat->Int)(l:List zgW):GO y false l=(y,false):=rfl
theorem GM(y:Nat->Int)(l:List zgW)(k:Nat)(hk:k<l.length):GO y true (l.drop k)=GO (nextT y (l.getD k zgV)).1 (nextT y (l.getD k zgV)).2 (l.drop (k+1)):=by
 have e:l.drop k=l.getD k zgV::l.drop (k+1):=by
  rw[List.drop_eq_getElem_cons hk,zgz,zgy hk];rfl
 rw[e];rfl
theorem Zj(b:zgW)(k:Nat)(hk:k<(ym b).1.length):z7 ((ym b).1.getD k zgV)=true:=by
 unfold ym at hk ⊢;split at hk
 .simp at hk
 rename_i h0;rw[zgU h0];split at hk
 .rename_i h1;rw[zgT h1];simp only at hk ⊢;rw[zgz,zgy hk];exact List.all_eq_true.1 h1 _ (List.getElem_mem hk)
 simp at hk
theorem zax(b:zgW)(l:List zgW)(o:Bool)(w:World)(hs:b.size<4294967281)(h:ym b=(l,o)):
 Calls prog 206 #[sA b] w λe w'=>∃p cap,e=.returned (.tuple #[.slice p l.length cap,bA o])/\l.length<=maxLen/\kG w' w'.heap.size p l.length (λi=>sA (l.getD i zgV))/\BW w w':=by
 refine(KO b w hs).mono ?_;rintro e w' ⟨v,rfl,ho,hb⟩;rw[h] at ho;obtain⟨p,cap,rfl,hm,hl⟩:=zL ho;exact⟨p,cap,by rw[h],hm,hl,hb⟩
theorem YO(x:Nat->Int)(b:zgW)(w:World)(hx:Dom x)(hs:b.size<4294967281):
 Calls prog 205 #[.agg (regA x),sA b] w λe w'=>e=.returned (.tuple #[.agg (regA (behindR x b).1),bA (behindR x b).2])/\BW w w':=by
 obtain⟨l,hl⟩:∃l,l=(ym b).1:=⟨_,rfl⟩;obtain⟨o0,ai⟩:∃o,o=(ym b).2:=⟨_,rfl⟩;have HS:Hid (ym b=(l,o0)):=by unfold Hid;rw[hl,ai]
 have HF:Hid (∀k,k<l.length->z7 (l.getD k zgV)=true):=by unfold Hid;rw[hl];exact Zj b
 have HG:Hid (behindR x b=GO x o0 l):=by unfold Hid behindR;rw[<-hl,<-ai]
 have HX:=zc hx;clear hx hl ai;have z0:=zX;have aq:RegAt ((w.alloc (.cells (regA x) 49)).alloc (.cells (regA zA) 49)) w.heap.size 49 x:=(RegAt.alloc w 49 x).below (bwA _);have ao:RegAt ((w.alloc (.cells (regA x) 49)).alloc (.cells (regA zA) 49)) (w.heap.size+1) 49 zA:=by
  have h:=RegAt.alloc (w.alloc (.cells (regA x) 49)) 49 zA;simpa using h
 obtain⟨ay,ax⟩:=ze aq ao;clear aq ao;go_enter func205,ntmps205;go_wp2_with fail
 refine(zax b l o0 _ hs HS).mono ?_;rintro e w1 ⟨p,cap,rfl,hm,ad,ae⟩;obtain⟨af,ak⟩:=ze (ay.o.below ae) (ax.o.below ae);have aw:Hid (BW w w1):=((bwA w).alloc (by simp) _).trans (ae.mono (by simp;omega));obtain⟨HL,HM⟩:=ze ad hm;have hsz:w.heap.size+1+1<=w1.heap.size:=by have:=ae.size;simpa using this
 clear ae ad hm ay ax;go_wp2_with (first|(refine zn rfl 49 _ rfl _ rfl 49 x _ af underlying49 rfl Tryz.zc3 ?_)|(refine zk rfl 49 _ _ rfl w1.heap.size x rfl rfl 49 (regA zA) (zgr w1 _) (zg _) Tryz.zc3 ?_;intro w2 hq ho))
 have HQ:=zc hq;have aE:Hid (BW w1 w2):=(bwA w1).trans (ho.below (zgp _));clear hq ho af;go_loopw [7,9] (λok i wr=>∃(k:Nat) (y:Nat->Int) (o:Bool),k<=l.length/\i=iA k/\ok=bA o/\Dom y/\RegAt wr w1.heap.size 49 y/\BW w1 wr/\behindR x b=GO y o (l.drop k)) (λ_ i _=>l.length-(intOf i).toNat)
 case atStart=>exact⟨0,x,o0,zgv _,rfl,rfl,HX,HQ,aE,HG⟩
 clear HQ aE;obtain⟨k,y,o,hk,rfl,rfl,ar,hy,aj,hg⟩:=hrel;obtain⟨aD,HY,ag,aB⟩:=yi ar hy aj hg;obtain⟨ab,al⟩:=ze (ak.o.below (ag)) (aw.o.trans (aj.mono aw.o.size));clear ar hy aj hg;by_cases aa:k=l.length\/o=false
 .have HE:Hid (behindR x b=(y,o)):=by
   unfold Hid;rw[aB.o];rcases aa with h|h
   .rw [h,List.drop_length,zbd]
   rw[h,GN]
  rcases aa with h|h
  .subst h;go_wp2_with (first|(refine zn rfl 49 _ rfl _ rfl 49 y _ HY underlying49 rfl Tryz.zc3 ?_)|(refine zk rfl 49 _ _ rfl (w.heap.size+1) y rfl rfl 49 (regA zA) ab.o (zg _) Tryz.zc3 ?_;intro w2 hq ho))
   exact zgJ (v:=.tuple #[.agg (regA y),bA o]) (zo results205 _ _ (w.heap.size+1) 49 y _ _ rfl rfl hq underlying49 rfl Tryz.zc3) rfl ⟨by rw[HE.o],al.o.trans (ho.below (by omega))⟩
  subst h;by_cases ah:(k:Int)<l.length
  .go_wp2_with (first|(refine zn rfl 49 _ rfl _ rfl 49 y _ HY underlying49 rfl Tryz.zc3 ?_)|(refine zk rfl 49 _ _ rfl (w.heap.size+1) y rfl rfl 49 (regA zA) ab.o (zg _) Tryz.zc3 ?_;intro w2 hq ho))
   exact zgJ (v:=.tuple #[.agg (regA y),bA false]) (zo results205 _ _ (w.heap.size+1) 49 y _ _ rfl rfl hq underlying49 rfl Tryz.zc3) rfl ⟨by rw[HE.o],al.o.trans (ho.below (by omega))⟩
  go_wp2_with (first|(refine zn rfl 49 _ rfl _ rfl 49 y _ HY underlying49 rfl Tryz.zc3 ?_)|(refine zk rfl 49 _ _ rfl (w.heap.size+1) y rfl rfl 49 (regA zA) ab.o (zg _) Tryz.zc3 ?_;intro w2 hq ho))
  exact zgJ (v:=.tuple #[.agg (regA y),bA false]) (zo results205 _ _ (w.heap.size+1) 49 y _ _ rfl rfl hq underlying49 rfl Tryz.zc3) rfl ⟨by rw[HE.o],al.o.trans (ho.below (by omega))⟩
 obtain⟨ah,ho⟩:k<l.length/\o=true:=by
  cases o
  .exact absurd (zgS rfl) aa
  exact⟨by rcases Nat.lt_or_ge k l.length with h|h;exact h;exact absurd (zgR (by omega)) aa,rfl⟩
 subst ho;clear aa;obtain⟨bl,ol,rfl,au,hc⟩:=HL.o k ah;have aF:(k:Int)<l.length:=by omega
 obtain⟨t,ht⟩:=gen (l.getD k zgV);have aC:Hid (z7 t=true):=by unfold Hid;rw[ht];exact HF k ah
 have aG:wr.cell? (aA bl (ol+k))=some (sA t):=by rw[ht];exact(ag.o.cell (p:=(aA bl (ol+k))) (by exact au)).trans hc
 have aH:Hid (behindR x b=GO (nextT y t).1 (nextT y t).2 (l.drop (k+1))):=by unfold Hid;rw[aB.o,GM y l k ah,ht]
 have hmx:l.length<=9223372036854775807:=by have:=HM.o;unfold maxLen at this;omega
 clear ht hc;go_wp2_with fail
 refine rgd (S:=λW=>cE W bl (ol+k) (sA t)) aG λhH=>?_;refine zx [1,2,3,4] hH (λ_ h=>h) ?_;refine zp 0 λK hK=>?_;rw[zgT (by rfl)];refine wp_load_row 49 _ rfl w1.heap.size rfl 49 (regA y) (0,0) _ HY.o.drew underlying49 rfl (by rw[zg];exact Tryz.zc3) ?_;refine hK.out _ _ hH λhH=>?_;clear hK K;refine zp 5 λK hK=>?_;go_simp;go_wp2_with ((go_at_call 189;refine(J4 y t _ aD aC).mono ?_;rintro e w3 ⟨rfl,av⟩))
 have an:=zc av;clear av;refine hK.out _ _ ((an.o.cell (p:=(aA bl (ol+k))) (by have:=ag.o.size;exact zgt au this)).trans hH) λhH=>?_;clear hK K;refine zx [6,7,8] hH (λ_ h=>h) ?_;refine zp 9 λK hK=>?_;rw[zgT (by rfl)];refine zu 49 _ _ rfl w1.heap.size (nextT y t).1 rfl rfl 49 (regA y) (HY.o.drew.below an) (zg _) Tryz.zc3 ?_;intro w4 hq ho;obtain⟨HQ,az⟩:=ze hq ho;clear hq ho;refine hK.out _ _ ((az.o.cell (p:=(aA bl (ol+k))) (by show bl≠w1.heap.size;omega)).trans hH) λhH=>?_;clear hK K;refine zp 10 λK hK=>?_;go_simp;refine hK.out _ _ hH λhH=>?_;clear hK K;refine dnr ?_;go_wp2;go_roundw
 case rel=>exact⟨k+1,(nextT y t).1,(nextT y t).2,by omega,by go_num,rfl,aD.o.next aC.o,HQ.o,(ag.o.drew.trans (an.o.mono (by have:=ag.o.size;exact this))).trans (az.o.below (zgp _)),aH⟩
 simp[intOf];omega
end
theorem Dom.zero:Dom zA:=λ_=>by simp[zA]
theorem Dom.gen(g:Nat->Int)(n:Nat):Dom (gN g n).1:=by
 unfold gN;split
 .rename_i h;intro i;simp only[regOf];split
  .exact h.2 i (by assumption)
  omega
 exact Dom.zero
theorem Dom.zeK:∀(l:List zgW) (x:Nat->Int),Dom x->(∀t∈l,z7 t=true)->Dom (behindL x l).1
 | [],x,h,_=>h
 |t::l,x,h,hl=>by
  unfold Go.Proofs.YtcfjhbcpjpgodaaGreatDoor.behindL;split
  .exact Dom.zeK l _ (h.next (hl t (by simp))) (λt ht=>hl t (by simp[ht]))
  .exact h.next (hl t (by simp))
theorem Dom.behind{x:Nat->Int}(b:zgW)(h:Dom x):Dom (behindR x b).1:=by
 unfold behindR GO;split
 .refine Dom.zeK _ x h λt ht=>?_;obtain⟨k,hk,rfl⟩:=List.getElem_of_mem ht;have:=Zj b k hk;rw[zgz,zgy hk] at this;exact this
 exact h
section
open Proofs.Tryz
def vC(x:Nat->Int)(k:Nat):List Value:=(List.range k).map λj=>iA (x j)
theorem Gf(x:Nat->Int)(k:Nat):vC x (k+1)=vC x k++[iA (x k)]:=by simp[vC,List.range_succ]
theorem yI(x:Nat->Int)(k:Nat):(vC x k).length=k:=by simp[vC]
def memb(x:Nat->Int)(k:Nat):List Nat:=(List.range k).filter λj=>decide (0<x (8+j))
theorem J5(x:Nat->Int)(k:Nat)(h:0<x (8+k)):memb x (k+1)=memb x k++[k]:=by simp[memb,List.range_succ,h]
theorem Gy(x:Nat->Int)(k:Nat)(h:¬0<x (8+k)):memb x (k+1)=memb x k:=by simp[memb,List.range_succ,h]
theorem jh(x:Nat->Int)(k:Nat):(memb x k).length<=k:=by
 have:=List.length_filter_le (λj=>decide (0<x (8+j))) (List.range k);simpa [memb] using this
def nameB(l:List Nat):zgW:=strOfNums (l.map λ(j:Nat)=>(j:Int)+97)
def jE(x:Nat->Int)(l:List Nat):List Value:=l.map λj=>iA (x (8+j))
theorem gg(x:Nat->Int)(l:List Nat)(k:Nat):jE x (l++[k])=jE x l++[iA (x (8+k))]:=by simp[jE]
def zV(w:World)(g:Nat)(p:Value)(s:zgW)(r:Value):Prop:=w.heap[g]? =some (.cells #[p,sA s,r] 72 (0,0))
theorem zV.cell{w:World}{g:Nat}{p:Value}{s:zgW}{r:Value}(h:zV w g p s r):w.cell? (aA g 0)=some p/\w.cell? (aA g 1)=some (sA s)/\w.cell? (aA g 2)=some r:=
 ⟨zgs w g 0 _ _ _ h,zgs w g 1 _ _ _ h,zgs w g 2 _ _ _ h⟩
theorem zV.frozen{w:World}{g:Nat}{p:Value}{s:zgW}{r:Value}(h:zV w g p s r)(i:Nat):w.frozen? (aA g i)=false:=by
 unfold zV at h;simp[World.frozen?,h]
theorem zV.lt{w:World}{g:Nat}{p:Value}{s:zgW}{r:Value}(h:zV w g p s r):g<w.heap.size:=by
 rcases Nat.lt_or_ge g w.heap.size with h'|h'
 .exact h'
 unfold zV at h;simp[Array.getElem?_eq_none h'] at h
theorem zV.zgk{w:World}{g:Nat}{p:Value}{s:zgW}{r:Value}(h:zV w g p s r)(v:Value):zV (w.setCell (aA g 0) v) g v s r:=by
 unfold zV at h ⊢;simp[World.setCell,Array.getElem?_modify,h]
theorem zV.zga{w:World}{g:Nat}{p:Value}{s:zgW}{r:Value}(h:zV w g p s r)(v:zgW):zV (w.setCell (aA g 1) (sA v)) g p v r:=by
 unfold zV at h ⊢;simp[World.setCell,Array.getElem?_modify,h]
theorem zV.zf9{w:World}{g:Nat}{p:Value}{s:zgW}{r:Value}(h:zV w g p s r)(v:Value):zV (w.setCell (aA g 2) v) g p s v:=by
 unfold zV at h ⊢;simp[World.setCell,Array.getElem?_modify,h]
theorem zV.block{w w':World}{g:Nat}{p:Value}{s:zgW}{r:Value}(h:zV w g p s r)(hb:w'.heap[g]? =w.heap[g]?):zV w' g p s r:=by
 unfold zV at h ⊢;rw[hb];exact h
structure But (B g:Nat) (w w':World):Prop where
 os:w'.os=w.os
 tape:w'.tape=w.tape
 output:w'.output=w.output
 size:w.heap.size<=w'.heap.size
 block:∀k,k<B->k≠g->w'.heap[k]? =w.heap[k]?
theorem But.refl(B g:Nat)(w:World):But B g w w:=⟨rfl,rfl,rfl,zgp _,λ_ _ _=>rfl⟩
theorem But.trans{B g:Nat}{a b c:World}(h:But B g a b)(k:But B g b c):But B g a c:=
 ⟨k.os.trans h.os,k.tape.trans h.tape,k.output.trans h.output,zgu h.size k.size,λi hi hg=>(k.block i hi hg).trans (h.block i hi hg)⟩
theorem But.zeo{B g:Nat}{w w':World}(h:Below B w w'):But B g w w':=⟨h.os,h.tape,h.output,h.size,λk hk _=>h.block k hk⟩
theorem But.zdS{B g:Nat}{w w':World}(h:ko g w w'):But B g w w':=⟨h.os,h.tape,h.output,by rw[h.size];exact zgp _,λk _ hg=>h.block k hg⟩
theorem But.below{B B' g:Nat}{w w':World}(h:But B g w w')(hg:B'<=g)(hB:B'<=B):Below B' w w':=⟨h.os,h.tape,h.output,h.size,λk hk=>h.block k (by omega) (by omega)⟩
theorem But.reg{B g i:Nat}{w w':World}{t:TypeId}{x:Nat->Int}(h:But B g w w')(hr:RegAt w i t x)(hi:i<B)(hg:i≠g):RegAt w' i t x:=by
 unfold RegAt at hr ⊢;rw[h.block i hi hg];exact hr
theorem But.own{B g base e size n:Nat}{v:Value}{xs:List Value}{w w':World}(h:But B g w w')(ho:w.ownsRow base e size v n xs)(hB:w.heap.size<=B)(hg:g<base):w'.ownsRow base e size v n xs:=by
 refine⟨ho.1,?_⟩;rcases ho.2 with h1|⟨k,cap,cur,rfl,hb,hk,hr⟩
 .exact zgR h1
 refine zgS ⟨k,cap,cur,rfl,hb,?_,hr⟩;have hlt:k<w.heap.size:=by
  rcases Nat.lt_or_ge k w.heap.size with h'|h'
  .exact h'
  simp[Array.getElem?_eq_none h'] at hk
 rw[h.block k (by omega) (by omega)];exact hk
section
variable{P:Program}
end
theorem Tryz.zdO:(prog.info? 72).map (·.size)=some 3:=by kernel_rfl
theorem zcT(W:World)(c:Int):
 (convert 153 9 (.slice (some (aA W.heap.size 0)) 1 1)).run prog (W.alloc (.cells #[.int .u8 c] 5))=.ok (sA (strOfNums [c])) (W.alloc (.cells #[.int .u8 c] 5)):=
 run_convert_bytes_arg _ 153 5 underlying153 underlying5 W.heap.size 0 1 1 [c] rfl (λi hi=>by
  match i,hi with
  |0,_=>simp) 9 underlying9
theorem VR(l:List Nat):(nameB l).size=l.length:=by unfold nameB;rw[strOfNums_size];simp
theorem Qh(l:List Nat)(k:Nat):nameB l++strOfNums [(k:Int)+97]=nameB (l++[k]):=by
 apply ByteArray.ext;apply Array.ext';rw[ByteArray.data_append,Array.toList_append];unfold nameB;rw[strOfNums_data,strOfNums_data,strOfNums_data];simp
theorem JX(x:Nat->Int)(n i:Nat)(h:i<n):(vC x n).toArray[i]? =some (iA (x i)):=by simp[vC,h]
theorem Yq{w:World}{g:Nat}{t:TypeId}{x:Nat->Int}(h:RegAt w g t x):w.rangeAt g 0 (vC x 8):=λj v hv=>by
 have hj:j<8:=by have:=(List.getElem?_eq_some_iff.1 hv).1;simpa [vC] using this
 rw[zg0,h.cell j (by omega)];have:(vC x 8)[j]? =some (iA (x j)):=by simp[vC,hj]
 rw[this] at hv;exact hv
theorem Qn(C:Array Value)(k:Nat)(v:Int)(hk:k<8)(hg:C[k]? =some (iA v))(W:World):(Instr.index 46 (.agg C) (iA k)).run prog W=.ok (iA v) W:=by
 have h:0<=(k:Int)/\(k:Int)<((8:Nat):Int):=by omega
 simp[Instr.index,run_underlying underlying46,asIntOf,go_sem,Tryz.sizeOf3,Tryz.isAgg3,hg,hk]
theorem xh(x:Nat->Int)(w:World)(hx:∀i,i<8->0<=x i/\x i<=9):
 Calls prog 103 #[.agg (regA x)] w λe w'=>e=.returned (iA (sumTo x 8))/\BW w w':=by
 have HX:=zc hx;clear hx;have HR:=zc (RegAt.alloc w 116 x);go_enter func103,ntmps103;go_wp2_with (refine zgX rfl 46 _ rfl w.heap.size 0 rfl (vC x 8) _ (Yq HR) underlying46 rfl (by rw[yI];exact Tryz.zdI) ?_)
 go_loop [3,5,8] (λn _ i=>∃k:Nat,k<=8/\i=iA k/\n=iA (sumTo x k)) (λ_ _ i=>8-(intOf i).toNat)
 case atStart=>exact⟨0,by omega,rfl,rfl⟩
 obtain⟨k,hk,rfl,rfl⟩:=hrel;by_cases aa:k<8
 .have hg:=Qn (vC x 8).toArray k (x k) aa (JX x 8 k aa);have hb:=yH x k (λi hi=>HX.o i (by omega));have hxk:=HX.o k aa;have hk2:(k:Int)<8:=by omega
  go_wp2
  go_round
  case rel=>exact⟨k+1,by omega,by go_num,rfl⟩
  simp[intOf];omega
 obtain rfl:k=8:=by omega
 go_wp2;go_ret;exact⟨rfl,bwA _⟩
theorem Qd(c a b:Int)(w:World)(ha:0<=a)(hb:b<=255):
 Calls prog 181 #[.int .u8 c,.int .u8 a,.int .u8 b] w λe w'=>e=.returned (.tuple #[iA (if a<=c/\c<=b then c-a else 0),bA (decide (a<=c/\c<=b))])/\w'=w:=by
 by_cases h2:c<a
 .rw [zgU (by omega),zgH (by omega)];go_enter func181,ntmps181;go_wp2;go_ret2;exact⟨rfl,rfl⟩
 by_cases h3:b<c
 .rw [zgU (by omega),zgH (by omega)];go_enter func181,ntmps181;go_wp2;go_ret2;exact⟨rfl,rfl⟩
 rw[zgT (by omega),zgG (by omega)];go_enter func181,ntmps181;go_wp2;go_ret2;exact⟨rfl,rfl⟩

import Derived.Test.YtcfjhbcpjpgodaaGreatDoorJournal
import Derived.Stop.LaidErr
import Derived.Test.YtcfjhbcpjpgodaaGreatDoorJ19
import Derived.Test.YtcfjhbcpjpgodaaGreatDoorJ12
import Derived.Test.YtcfjhbcpjpgodaaGreatDoorJ16
namespace Go.Proofs.YtcfjhbcpjpgodaaGreatDoor
open Go.RowKit
set_option maxRecDepth 100000
set_option maxHeartbeats 0
set_option linter.all false
section
open Proofs.Tryz
theorem xx{g:Nat}{fn:Func}{c:Code}(hf:prog.funcs[g]? =some fn)(hname:(fn.name== "runtime.NumGoroutine")=false)(hb:fn.body=some c):qo g:=enters_of hf hname hb
def votesB(k r:Int)(e:zl):Bool:=decide (e.m.k=k)&&decide (e.m.r=r)
def votesForB(k r:Int)(t:zj5)(e:zl):Bool:=decide (e.m.k=k)&&decide (e.m.r=r)&& !e.m.nl&&decide (e.m.s=t)
def votesNoB(k r:Int)(e:zl):Bool:=decide (e.m.k=k)&&decide (e.m.r=r)&&e.m.nl
theorem zeT(e:zl)(b1 b2:Nat)(k r:Int)(W:World)(h1:W.cell? (aA b1 0)=some (iA k))(h2:W.cell? (aA b2 0)=some (iA r)):
 Calls prog 188 #[.agg e.cells,pA b1 0,pA b2 0] W λen w'=>en=.returned (bA (votesB k r e))/\BW W w':=by
 obtain⟨⟨K,H,R,f,V,nl,s⟩,fr,own⟩:=e;have g1:=λo=>cell?_alloc_old o h1;have g2:=λo=>cell?_alloc_old o h2;clear h1 h2;show Calls prog 188 #[.agg #[iA K,iA H,iA R,iA f,iA V,bA nl,sA s,sA fr,bA own],pA b1 0,pA b2 0] W _;by_cases hk:K=k
 .subst hk;have qk:(K==K)=true:=by simp
  by_cases hr:R=r
  .subst hr;have qr:(R==R)=true:=by simp
   go_enter func188,ntmps188;go_wp2;go_ret;exact⟨yz (by simp[votesB]),bwA W⟩
  have qr:(R==r)=false:=by simpa using hr
  go_enter func188,ntmps188;go_wp2;go_ret;exact⟨yz (by simp[votesB,hr]),bwA W⟩
 have qk:(K==k)=false:=by simpa using hk
 go_enter func188,ntmps188;go_wp2;go_ret;exact⟨yz (by simp[votesB,hk]),bwA W⟩
theorem zcs(e:zl)(b1 b2:Nat)(k r:Int)(W:World)(h1:W.cell? (aA b1 0)=some (iA k))(h2:W.cell? (aA b2 0)=some (iA r)):
 Calls prog 187 #[.agg e.cells,pA b1 0,pA b2 0] W λen w'=>en=.returned (bA (votesNoB k r e))/\BW W w':=by
 obtain⟨⟨K,H,R,f,V,nl,s⟩,fr,own⟩:=e;have g1:=λo=>cell?_alloc_old o h1;have g2:=λo=>cell?_alloc_old o h2;clear h1 h2;show Calls prog 187 #[.agg #[iA K,iA H,iA R,iA f,iA V,bA nl,sA s,sA fr,bA own],pA b1 0,pA b2 0] W _;by_cases hk:K=k
 .subst hk;have qk:(K==K)=true:=by simp
  by_cases hr:R=r
  .subst hr;have qr:(R==R)=true:=by simp
   cases nl with
   |true=>
    go_enter func187,ntmps187;go_wp2;go_ret;exact⟨yz (by simp[votesNoB]),bwA W⟩
   |false=>
    go_enter func187,ntmps187;go_wp2;go_ret;exact⟨yz (by simp[votesNoB]),bwA W⟩
  have qr:(R==r)=false:=by simpa using hr
  go_enter func187,ntmps187;go_wp2;go_ret;exact⟨yz (by simp[votesNoB,hr]),bwA W⟩
 have qk:(K==k)=false:=by simpa using hk
 go_enter func187,ntmps187;go_wp2;go_ret;exact⟨yz (by simp[votesNoB,hk]),bwA W⟩
theorem zaO(e:zl)(b1 b2 b3:Nat)(k r:Int)(t:zj5)(W:World)(h1:W.cell? (aA b1 0)=some (iA k))(h2:W.cell? (aA b2 0)=some (iA r))(h3:W.cell? (aA b3 0)=some (sA t)):
 Calls prog 184 #[.agg e.cells,pA b1 0,pA b2 0,pA b3 0] W λen w'=>en=.returned (bA (votesForB k r t e))/\BW W w':=by
 obtain⟨⟨K,H,R,f,V,nl,s⟩,fr,own⟩:=e;have g1:=λo=>cell?_alloc_old o h1;have g2:=λo=>cell?_alloc_old o h2;have g3:=λo=>cell?_alloc_old o h3;clear h1 h2 h3;show Calls prog 184 #[.agg #[iA K,iA H,iA R,iA f,iA V,bA nl,sA s,sA fr,bA own],pA b1 0,pA b2 0,pA b3 0] W _;by_cases hk:K=k
 .subst hk;have qk:(K==K)=true:=by simp
  by_cases hr:R=r
  .subst hr;have qr:(R==R)=true:=by simp
   cases nl with
   |true=>
    go_enter func184,ntmps184;go_wp2;go_ret;exact⟨yz (by simp[votesForB]),bwA W⟩
   |false=>
    by_cases hs:s=t
    .subst hs;go_enter func184,ntmps184;go_wp2;go_ret;exact⟨yz (by simp[votesForB]),bwA W⟩
    have q1:=gB hs;go_enter func184,ntmps184;go_wp2;go_ret;exact⟨yz (by simp[votesForB,hs]),bwA W⟩
  have qr:(R==r)=false:=by simpa using hr
  go_enter func184,ntmps184;go_wp2;go_ret;exact⟨yz (by simp[votesForB,hr]),bwA W⟩
 have qk:(K==k)=false:=by simpa using hk
 go_enter func184,ntmps184;go_wp2;go_ret;exact⟨yz (by simp[votesForB,hk]),bwA W⟩
theorem xF(k r:Int)(w:World):
 Calls prog 161 #[iA k,iA r] w λe w'=>∃g lb,e=.returned (.func (.func g) #[] lb)/\qo g/\(∀l,FitsAt g lb (votesB k r) l w')/\BW w w':=by
 have hmf:∀(fn:Fn) (first cap:Array Value) (w:World),(Instr.makeFunc fn first cap).run prog w=.ok (.func fn first cap) w:=λ_ _ _ _=>rfl;go_enter func161,ntmps161;go_wp2;go_ret;have hz:((w.alloc (.cells #[iA k] 3)).alloc (.cells #[iA r] 3)).heap.size=w.heap.size+2:=by simp
 have hb:BW w ((w.alloc (.cells #[iA k] 3)).alloc (.cells #[iA r] 3)):=((bwA w).alloc (by simp) _);have q1:((w.alloc (.cells #[iA k] 3)).alloc (.cells #[iA r] 3)).heap[w.heap.size]? =some (.cells #[iA k] 3 (0,0)):=by
  have h:=zjC w (.cells #[iA k] 3);rw[zj9 (w.alloc (.cells #[iA k] 3)) _ (w.heap.size) (by simp;try omega)];exact h
 have q2:((w.alloc (.cells #[iA k] 3)).alloc (.cells #[iA r] 3)).heap[w.heap.size+1]? =some (.cells #[iA r] 3 (0,0)):=by
  have h:=zjC (w.alloc (.cells #[iA k] 3)) (.cells #[iA r] 3);have e1:(w.alloc (.cells #[iA k] 3)).heap.size=w.heap.size+1:=by simp
  rw[e1] at h;exact h
 obtain⟨W0,aa⟩:∃z,z=((w.alloc (.cells #[iA k] 3)).alloc (.cells #[iA r] 3)):=⟨_,rfl⟩;rw[<-aa] at hz hb q1 q2 ⊢;refine⟨188,_,rfl,xx func188 (by kernel_rfl) rfl,λl W e _ hW=>?_,hb⟩;exact zeT e w.heap.size (w.heap.size+1) k r W (zjD W _ 0 _ _ _ (blk q1 hW)) (zjD W _ 0 _ _ _ (blk q2 hW))
theorem ZN(k r:Int)(w:World):
 Calls prog 160 #[iA k,iA r] w λe w'=>∃g lb,e=.returned (.func (.func g) #[] lb)/\qo g/\(∀l,FitsAt g lb (votesNoB k r) l w')/\BW w w':=by
 have hmf:∀(fn:Fn) (first cap:Array Value) (w:World),(Instr.makeFunc fn first cap).run prog w=.ok (.func fn first cap) w:=λ_ _ _ _=>rfl;go_enter func160,ntmps160;go_wp2;go_ret;have hz:((w.alloc (.cells #[iA k] 3)).alloc (.cells #[iA r] 3)).heap.size=w.heap.size+2:=by simp
 have hb:BW w ((w.alloc (.cells #[iA k] 3)).alloc (.cells #[iA r] 3)):=((bwA w).alloc (by simp) _);have q1:((w.alloc (.cells #[iA k] 3)).alloc (.cells #[iA r] 3)).heap[w.heap.size]? =some (.cells #[iA k] 3 (0,0)):=by
  have h:=zjC w (.cells #[iA k] 3);rw[zj9 (w.alloc (.cells #[iA k] 3)) _ (w.heap.size) (by simp;try omega)];exact h
 have q2:((w.alloc (.cells #[iA k] 3)).alloc (.cells #[iA r] 3)).heap[w.heap.size+1]? =some (.cells #[iA r] 3 (0,0)):=by
  have h:=zjC (w.alloc (.cells #[iA k] 3)) (.cells #[iA r] 3);have e1:(w.alloc (.cells #[iA k] 3)).heap.size=w.heap.size+1:=by simp
  rw[e1] at h;exact h
 obtain⟨W0,aa⟩:∃z,z=((w.alloc (.cells #[iA k] 3)).alloc (.cells #[iA r] 3)):=⟨_,rfl⟩;rw[<-aa] at hz hb q1 q2 ⊢;refine⟨187,_,rfl,xx func187 (by kernel_rfl) rfl,λl W e _ hW=>?_,hb⟩;exact zcs e w.heap.size (w.heap.size+1) k r W (zjD W _ 0 _ _ _ (blk q1 hW)) (zjD W _ 0 _ _ _ (blk q2 hW))
theorem kj(k r:Int)(t:zj5)(w:World):
 Calls prog 151 #[iA k,iA r,sA t] w λe w'=>∃g lb,e=.returned (.func (.func g) #[] lb)/\qo g/\(∀l,FitsAt g lb (votesForB k r t) l w')/\BW w w':=by
 have hmf:∀(fn:Fn) (first cap:Array Value) (w:World),(Instr.makeFunc fn first cap).run prog w=.ok (.func fn first cap) w:=λ_ _ _ _=>rfl;go_enter func151,ntmps151;go_wp2;go_ret;have hz:(((w.alloc (.cells #[iA k] 3)).alloc (.cells #[iA r] 3)).alloc (.cells #[sA t] 9)).heap.size=w.heap.size+3:=by simp
 have hb:BW w (((w.alloc (.cells #[iA k] 3)).alloc (.cells #[iA r] 3)).alloc (.cells #[sA t] 9)):=(((bwA w).alloc (by simp) _).alloc (by simp;omega) _);have q1:(((w.alloc (.cells #[iA k] 3)).alloc (.cells #[iA r] 3)).alloc (.cells #[sA t] 9)).heap[w.heap.size]? =some (.cells #[iA k] 3 (0,0)):=by
  have h:=zjC w (.cells #[iA k] 3);rw[zj9 ((w.alloc (.cells #[iA k] 3)).alloc (.cells #[iA r] 3)) _ (w.heap.size) (by simp;try omega)];rw[zj9 (w.alloc (.cells #[iA k] 3)) _ (w.heap.size) (by simp;try omega)];exact h
 have q2:(((w.alloc (.cells #[iA k] 3)).alloc (.cells #[iA r] 3)).alloc (.cells #[sA t] 9)).heap[w.heap.size+1]? =some (.cells #[iA r] 3 (0,0)):=by
  have h:=zjC (w.alloc (.cells #[iA k] 3)) (.cells #[iA r] 3);have e1:(w.alloc (.cells #[iA k] 3)).heap.size=w.heap.size+1:=by simp
  rw[e1] at h;rw[zj9 ((w.alloc (.cells #[iA k] 3)).alloc (.cells #[iA r] 3)) _ (w.heap.size+1) (by simp;try omega)];exact h
 have q3:(((w.alloc (.cells #[iA k] 3)).alloc (.cells #[iA r] 3)).alloc (.cells #[sA t] 9)).heap[w.heap.size+2]? =some (.cells #[sA t] 9 (0,0)):=by
  have h:=zjC ((w.alloc (.cells #[iA k] 3)).alloc (.cells #[iA r] 3)) (.cells #[sA t] 9);have e1:((w.alloc (.cells #[iA k] 3)).alloc (.cells #[iA r] 3)).heap.size=w.heap.size+2:=by simp
  rw[e1] at h;exact h
 obtain⟨W0,aa⟩:∃z,z=(((w.alloc (.cells #[iA k] 3)).alloc (.cells #[iA r] 3)).alloc (.cells #[sA t] 9)):=⟨_,rfl⟩;rw[<-aa] at hz hb q1 q2 q3 ⊢;refine⟨184,_,rfl,xx func184 (by kernel_rfl) rfl,λl W e _ hW=>?_,hb⟩;exact zaO e w.heap.size (w.heap.size+1) (w.heap.size+2) k r t W (zjD W _ 0 _ _ _ (blk q1 hW)) (zjD W _ 0 _ _ _ (blk q2 hW)) (zjD W _ 0 _ _ _ (blk q3 hW))
end
section
variable{w w':World}{cb nb kb B rb i n e size g:Nat}{out:List zj5}{F R F':Nat->Prop}{es:List Addr}{m:Int}{v:Value}{xs:List Value}{C:Array Value}
structure xC where
 block:zj5
 prop:zj5
 cert:List zj5
 told:Bool
def yr:xC:=⟨⟨#[]⟩,⟨#[]⟩,[],false⟩
def zb7(d:xC×Value):Array Value:=#[sA d.1.block,sA d.1.prop,d.2,bA d.1.told]
def Zi(l:List (xC×Value)):List Value:=l.flatMap λd=>(zb7 d).toList
theorem Xa(l:List (xC×Value))(d:xC×Value):Zi (l++[d])=Zi l++(zb7 d).toList:=by simp[Zi]
structure za where
 x:Nat->Int
 dec:List xC
 wait:List zj5
 log:List zl
 ahead:List zl
 lr:Int
 lv:zj5
 vr:Int
 vv:zj5
 round:Nat
 step:Nat
 held:Bool
 b1:Bool
 b2:Bool
 b3:Bool
 time:Nat
 tims:List zU
 tb:Nat
 out:List zj5
 sg:Nat->List zj5
def za.zfF(s:za):Nat:=s.dec.length
structure yc where
 ds:List (xC×Value)
 dv:Value
 wv:Value
 lv:Value
 av:Value
 tv:Value
def Ql(kb cb:Nat)(V:yc)(s:za):List Value:=
 pA kb 0::(yU s.x++[V.dv,V.wv,V.lv,V.av,iA s.lr,sA s.lv,iA s.vr,sA s.vv,iA s.round,iA s.step,bA s.held,bA false,bA s.b1,bA s.b2,bA s.b3,iA s.time,V.tv,iA s.tb,.chan (some cb)])
def nodeA(kb cb:Nat)(V:yc)(s:za):Array Value:=(Ql kb cb V s).toArray
variable{V:yc}
variable{s s':za}
theorem JB(kb cb:Nat)(V:yc)(s:za):(Ql kb cb V s).length=54:=by simp[Ql,yU]
theorem kM(kb cb:Nat)(V:yc)(s:za):(nodeA kb cb V s).size=54:=by simp[nodeA,JB]
def yc.zgH(V:yc)(nb cb k:Nat):Prop:=k=nb\/k=cb\/V.dv.ownBlock=some k\/V.wv.ownBlock=some k\/V.lv.ownBlock=some k\/V.av.ownBlock=some k\/V.tv.ownBlock=some k\/∃d,d∈V.ds/\d.2.ownBlock=some k
structure NodeAt (nb kb cb:Nat) (V:yc) (s:za) (w:World):Prop where
 blk:w.heap[nb]? =some (.cells (nodeA kb cb V s) 135 (0,0))
 eds:V.ds.map (·.1)=s.dec
 dec:w.ownsRow 0 175 4 V.dv V.ds.length (Zi V.ds)
 cert:∀d,d∈V.ds->w.ownsRow 0 9 1 d.2 d.1.cert.length (d.1.cert.map .string)
 wait:w.ownsRow 0 9 1 V.wv s.wait.length (s.wait.map .string)
 log:w.ownsRow 0 164 9 V.lv s.log.length (kQ s.log)
 ahead:w.ownsRow 0 164 9 V.av s.ahead.length (kQ s.ahead)
 tims:w.ownsRow 0 223 5 V.tv s.tims.length (qj s.tims)
 chan:qX w cb s.out
 alog:∀g,V.lv.ownBlock=some g->V.av.ownBlock≠some g
 awc:∀d,d∈V.ds->∀g,d.2.ownBlock=some g->V.wv.ownBlock≠some g
 acc:V.ds.Pairwise λd e=>∀g,d.2.ownBlock=some g->e.2.ownBlock≠some g
theorem qT(h:qX w cb out):cb<w.heap.size:=by
 obtain⟨s,r,h⟩:=h;exact zg h
theorem NodeAt.lt(h:NodeAt nb kb cb V s w)(k:Nat)(hk:V.zgH nb cb k):k<w.heap.size:=by
 rcases hk with rfl|rfl|e|e|e|e|e|⟨d,hd,e⟩
 .exact zg h.blk
 .exact qT h.chan
 .exact (h.dec.lt k e).2
 .exact (h.wait.lt k e).2
 .exact (h.log.lt k e).2
 .exact (h.ahead.lt k e).2
 .exact (h.tims.lt k e).2
 exact((h.cert d hd).lt k e).2
theorem NodeAt.frame(h:NodeAt nb kb cb V s w)(hb:∀k,V.zgH nb cb k->w'.heap[k]? =w.heap[k]?):NodeAt nb kb cb V s w' where
 blk:=(hb nb (zj0 rfl)).trans h.blk
 eds:=h.eds
 dec:=zb h.dec λg e _=>hb g (zj1 (zj1 (zj0 e)))
 cert:=λd hd=>zb (h.cert d hd) λg e _=>hb g (zj1 (zj1 (zj1 (zj1 (zj1 (zj1 (zj1 ⟨d,hd,e⟩)))))))
 wait:=zb h.wait λg e _=>hb g (zj1 (zj1 (zj1 (zj0 e))))
 log:=zb h.log λg e _=>hb g (zj1 (zj1 (zj1 (zj1 (zj0 e)))))
 ahead:=zb h.ahead λg e _=>hb g (zj1 (zj1 (zj1 (zj1 (zj1 (zj0 e))))))
 tims:=zb h.tims λg e _=>hb g (zj1 (zj1 (zj1 (zj1 (zj1 (zj1 (zj0 e)))))))
 chan:=by
  obtain⟨a,b,hc⟩:=h.chan;exact⟨a,b,(hb cb (zj1 (zj0 rfl))).trans hc⟩
 alog:=h.alog
 awc:=h.awc
 acc:=h.acc
def Vg(F:Nat->Prop)(nb kb cb:Nat)(s:za)(w:World):Prop:=∃V,NodeAt nb kb cb V s w/\∀k,V.zgH nb cb k->F k
theorem Vg.frame(h:Vg F nb kb cb s w)(hb:∀k,F k->w'.heap[k]? =w.heap[k]?):Vg F nb kb cb s w':=by
 obtain⟨V,h1,h2⟩:=h;exact⟨V,h1.frame (λk hk=>hb k (h2 k hk)),h2⟩
structure kH (B:Nat) (es:List Addr) (m:Int) (w:World):Prop where
 sent:zaH es w
 len:w.cell? (aA 13 0)=some (iA m)
 gb:∀i g:Nat,qt[i]? =some g->zdq i=true->g<B
 mb:13<B
 eb:∀a,a∈es->a.block<B
theorem kH.same(h:kH B es m w)(hb:∀k,k<B->w'.heap[k]? =w.heap[k]?):kH B es m w':=by
 refine⟨⟨h.sent.len,h.sent.nodup,λi g a hg ha hi=>?_,λa ha=>?_⟩,?_,h.gb,h.mb,h.eb⟩
 .exact (zjH (w:=w) (a:=(aA g 0)) (hb g (h.gb i g hg hi))).trans (h.sent.cellF i g a hg ha hi)
 .obtain ⟨c,t,hc⟩:=h.sent.blk a ha
  exact⟨c,t,(hb a.block (h.eb a ha)).trans hc⟩
 exact(zjH (w:=w) (a:=(aA 13 0)) (hb _ h.mb)).trans h.len
structure NodeW (B:Nat) (es:List Addr) (m:Int) (F R:Nat->Prop) (nb kb rb cb n i:Nat) (s:za) (w:World):Prop where
 node:Vg F nb kb cb s w
 ring:vh R rb n s.sg w
 key:qh w kb rb i
 idn:i<n
 fr:∀k,F k->¬R k
 kf:¬F kb
 kr:¬R kb
 fl:∀k,F k->B<=k/\k<w.heap.size
 rl:∀k,R k->B<=k/\k<w.heap.size
 glob:kH B es m w
 bl:B<=w.heap.size
structure Goes (F R:Nat->Prop) (w:World) (F' R':Nat->Prop) (w':World):Prop where
 ff:∀k,F' k->F k\/w.heap.size<=k
 rr:∀k,R' k->R k\/w.heap.size<=k
 same:zk (λk=>F k\/R k) w w'
theorem Goes.refl(F R:Nat->Prop)(w:World):Goes F R w F R w:=⟨λ_ h=>zj0 h,λ_ h=>zj0 h,⟨rfl,rfl,rfl,zjA _,λ_ _ _=>rfl⟩⟩
theorem Goes.below(h:BW w w'):Goes F R w F R w':=⟨λ_ h=>zj0 h,λ_ h=>zj0 h,⟨h.os,h.tape,h.output,h.size,λk hk _=>h.block k hk⟩⟩
theorem Goes.trans{R' F2 R2:Nat->Prop}{w2:World}(h:Goes F R w F' R' w')(h':Goes F' R' w' F2 R2 w2):Goes F R w F2 R2 w2:=by
 refine⟨λk hk=>?_,λk hk=>?_,⟨h'.same.os.trans h.same.os,h'.same.tape.trans h.same.tape,h'.same.output.trans h.same.output,zjF h.same.size h'.same.size,λk hk hn=>?_⟩⟩
 .rcases h'.ff k hk with h1|h1
  .exact h.ff k h1
  exact zj1 (zjF h.same.size h1)
 .rcases h'.rr k hk with h1|h1
  .exact h.rr k h1
  exact zj1 (zjF h.same.size h1)
 rw[h'.same.block k (zjE hk h.same.size) (λh1=>?_)]
 .exact h.same.block k hk hn
 rcases h1 with h1|h1
 .rcases h.ff k h1 with h2|h2
  .exact hn (zj0 h2)
  omega
 rcases h.rr k h1 with h2|h2
 .exact hn (zj1 h2)
 omega
theorem qh.keep(h:qh w kb rb i)(hb:w'.heap[kb]? =w.heap[kb]?):qh w' kb rb i:=hb.trans h
theorem qh.lt(h:qh w kb rb i):kb<w.heap.size:=zg h
theorem NodeW.below(h:NodeW B es m F R nb kb rb cb n i s w)(hb:BW w w'):NodeW B es m F R nb kb rb cb n i s w' where
 node:=h.node.frame λk hk=>hb.block k (h.fl k hk).2
 ring:=h.ring.frame λk hk=>hb.block k (h.rl k hk).2
 key:=h.key.keep (hb.block kb h.key.lt)
 idn:=h.idn
 fr:=h.fr
 kf:=h.kf
 kr:=h.kr
 fl:=λk hk=>⟨(h.fl k hk).1,zjE (h.fl k hk).2 hb.size⟩
 rl:=λk hk=>⟨(h.rl k hk).1,zjE (h.rl k hk).2 hb.size⟩
 glob:=h.glob.same λk hk=>hb.block k (zjE hk h.bl)
 bl:=zjF h.bl hb.size
theorem NodeW.zgK{cb':Nat}(h:NodeW B es m F R nb kb rb cb n i s w)(hn:Vg F' nb kb cb' s' w')(hsg:s'.sg=s.sg)(hF:∀k,F' k->F k\/w.heap.size<=k)(hl:∀k,F' k->k<w'.heap.size)(hs:zk F w w'):
 NodeW B es m F' R nb kb rb cb' n i s' w'/\Goes F R w F' R w':=by
 refine⟨⟨hn,?_,h.key.keep (hs.block kb h.key.lt h.kf),h.idn,λk hk hR=>?_,λhk=>?_,h.kr,λk hk=>⟨?_,hl k hk⟩,λk hk=>⟨(h.rl k hk).1,zjE (h.rl k hk).2 hs.size⟩,h.glob.same λk hk=>hs.block k (zjE hk h.bl) (λhf=>?_),zjF h.bl hs.size⟩,⟨hF,λ_ h=>zj0 h,{ hs with block:=λk hk aa=>hs.block k hk (λhf=>aa (zj0 hf)) }⟩⟩
 .rw [hsg];exact h.ring.frame λk hk=>hs.block k (h.rl k hk).2 (λhf=>h.fr k hf hk)
 .rcases hF k hk with h1|h1
  .exact h.fr k h1 hR
  have:=(h.rl k hR).2;omega
 .rcases hF kb hk with h1|h1
  .exact h.kf h1
  have:=h.key.lt;omega
 .rcases hF k hk with h1|h1
  .exact (h.fl k h1).1
  exact zjF h.bl h1
 have:=(h.fl k hf).1;omega
theorem NodeW.zi7{sg':Nat->List zj5}(h:NodeW B es m F R nb kb rb cb n i s w)(hp:zeM R rb n sg' w w'):
 ∃R',NodeW B es m F R' nb kb rb cb n i { s with sg:=sg' } w'/\Goes F R w F R' w':=by
 obtain⟨R',hr,hR,hl,hs⟩:=hp;refine⟨R',⟨?_,hr,h.key.keep (hs.block kb h.key.lt h.kr),h.idn,λk hk ad=>?_,h.kf,λhk=>?_,λk hk=>⟨(h.fl k hk).1,zjE (h.fl k hk).2 hs.size⟩,λk hk=>⟨?_,hl k hk⟩,h.glob.same λk hk=>hs.block k (zjE hk h.bl) (λhf=>?_),zjF h.bl hs.size⟩,⟨λ_ h=>zj0 h,hR,{ hs with block:=λk hk aa=>hs.block k hk (λhf=>aa (zj1 hf)) }⟩⟩
 .obtain ⟨V,h1,h2⟩:=h.node
  have h3:=h1.frame (w':=w') (λk hk=>hs.block k (h.fl k (h2 k hk)).2 (h.fr k (h2 k hk)));exact⟨V,⟨h3.blk,h3.eds,h3.dec,h3.cert,h3.wait,h3.log,h3.ahead,h3.tims,h3.chan,h3.alog,h3.awc,h3.acc⟩,h2⟩
 .rcases hR k ad with h1|h1
  .exact h.fr k hk h1
  have:=(h.fl k hk).2;omega
 .rcases hR kb hk with h1|h1
  .exact h.kr h1
  have:=h.key.lt;omega
 .rcases hR k hk with h1|h1
  .exact (h.rl k h1).1
  exact zjF h.bl h1
 have:=(h.rl k hf).1;omega
theorem NodeAt.cell(h:NodeAt nb kb cb V s w)(o:Nat){v:Value}(ho:(nodeA kb cb V s)[o]? =some v):w.cell? (aA nb o)=some v:=(zjD w nb o _ _ _ h.blk).trans ho
theorem NodeAt.frozen(h:NodeAt nb kb cb V s w)(o:Nat):w.frozen? (aA nb o)=false:=zt h.blk o
theorem NodeAt.nc(h:NodeAt nb kb cb V s w):nb≠cb:=λe=>by
 obtain⟨a,b,hc⟩:=h.chan;have h1:=h.blk;rw[e,hc] at h1;cases h1
theorem Jw{base:Nat}(h:w.ownsRow base e size v n xs)(hg:v.ownBlock=some g):∃c,w.heap[g]? =some (.cells c e (0,0)):=by
 rcases h.2 with⟨rfl,_⟩|⟨g1,_,c,rfl,_,aa,_⟩
 .cases hg
 cases hg;exact⟨c,aa⟩
theorem yI{base:Nat}{t:TypeId}(h:w.ownsRow base e size v n xs)(hg:w.heap[g]? =some (.cells C t (0,0)))(ht:t≠e):v.ownBlock≠some g:=λe1=>by
 obtain⟨c,hc⟩:=Jw h e1;rw[hg] at hc;cases hc;exact ht rfl
theorem yD{base:Nat}(h:w.ownsRow base e size v n xs)(hg:qX w cb out):v.ownBlock≠some cb:=λe1=>by
 obtain⟨c,hc⟩:=Jw h e1;obtain⟨a,b,hd⟩:=hg;rw[hd] at hc;cases hc
theorem zO{b1 b2 e1 e2 z1 z2 n1 n2:Nat}{v1 v2:Value}{xs1 xs2:List Value}(h1:w.ownsRow b1 e1 z1 v1 n1 xs1)(h2:w.ownsRow b2 e2 z2 v2 n2 xs2)(he:e1≠e2)(g:Nat)(hg:v1.ownBlock=some g):v2.ownBlock≠some g:=λe=>by
 obtain⟨c,hc⟩:=Jw h1 hg;obtain⟨d,hd⟩:=Jw h2 e;rw[hc] at hd;cases hd;exact he rfl
theorem NodeAt.rows(h:NodeAt nb kb cb V s w):V.dv.ownBlock≠some nb/\V.wv.ownBlock≠some nb/\V.lv.ownBlock≠some nb/\V.av.ownBlock≠some nb/\V.tv.ownBlock≠some nb/\∀d,d∈V.ds->d.2.ownBlock≠some nb:=
 ⟨yI h.dec h.blk (by decide),yI h.wait h.blk (by decide),yI h.log h.blk (by decide),yI h.ahead h.blk (by decide),yI h.tims h.blk (by decide),λd hd=>yI (h.cert d hd) h.blk (by decide)⟩
theorem NodeAt.store(h:NodeAt nb kb cb V s w)(hb:w'.heap[nb]? =some (.cells (nodeA kb cb V s') 135 (0,0)))(ho:kq nb w w')(hd:s'.dec=s.dec)(hw:s'.wait=s.wait)(hl:s'.log=s.log)(ha:s'.ahead=s.ahead)(ht:s'.tims=s.tims)(hc:s'.out=s.out):NodeAt nb kb cb V s' w':=by
 obtain⟨n1,n2,n3,n4,n5,n6⟩:=h.rows;refine⟨hb,by rw[hd];exact h.eds,zb h.dec λg e _=>ho.block g (λx=>n1 (x▸e)),λd hd=>zb (h.cert d hd) λg e _=>ho.block g (λx=>n6 d hd (x▸e)),?_,?_,?_,?_,?_,h.alog,h.awc,h.acc⟩
 .rw [hw];exact zb h.wait λg e _=>ho.block g (λx=>n2 (x▸e))
 .rw [hl];exact zb h.log λg e _=>ho.block g (λx=>n3 (x▸e))
 .rw [ha];exact zb h.ahead λg e _=>ho.block g (λx=>n4 (x▸e))
 .rw [ht];exact zb h.tims λg e _=>ho.block g (λx=>n5 (x▸e))
 rw[hc];obtain⟨a,b,hc⟩:=h.chan;exact⟨a,b,(ho.block cb (λe=>h.nc e.symm)).trans hc⟩
theorem setCell_row{t:TypeId}(h:w.heap[g]? =some (.cells C t (0,0)))(o:Nat)(v:Value):(w.setCell (aA g o) v).heap[g]? =some (.cells (C.setIfInBounds o v) t (0,0)):=by
 simp[World.setCell,Array.getElem?_modify,h]
theorem Jx(ho:kq g w w')(hF:F g):zk F w w':=⟨ho.os,ho.tape,ho.output,by rw[ho.size];exact zjA _,λk _ hn=>ho.block k (λe=>hn (e▸hF))⟩
theorem NodeW.cellAt(h:NodeW B es m F R nb kb rb cb n i s w)(hA:NodeAt nb kb cb V s w)(hf:∀k,V.zgH nb cb k->F k)(hb:w'.heap[nb]? =some (.cells (nodeA kb cb V s') 135 (0,0)))(ho:kq nb w w')
 (hd:s'.dec=s.dec) (hw:s'.wait=s.wait) (hl:s'.log=s.log) (ha:s'.ahead=s.ahead) (ht:s'.tims=s.tims) (hc:s'.out=s.out) (hg:s'.sg=s.sg):NodeW B es m F R nb kb rb cb n i s' w'/\Goes F R w F R w':=by
 have h1:=hA.store hb ho hd hw hl ha ht hc;exact h.zgK ⟨V,h1,hf⟩ hg (λk hk=>zj0 hk) (λk hk=>by rw[ho.size];exact(h.fl k hk).2) (Jx ho (hf nb (zj0 rfl)))
end
def za.prop(s:za)(r:Nat):Nat:=turnOf s.x (s.zfF+r)
def za.zgc(s:za)(t:zj5):Bool:=(zi s.x t).2
def za.zfJ(s:za)(m:kE):Bool:=decide (YH s.x m.f=0)||(decide (m.k=1)&& !decide (m.f=(s.prop m.r.toNat:Int)))
def za.most(s:za)(fits:zl->Bool):Bool:=yg 2 s.x (sendB fits s.log)
def za.msg(s:za)(i:Nat)(k v:Int)(nl:Bool)(t:zj5):kE:=⟨k,(s.zfF:Int),(s.round:Int),(i:Int),v,nl,t⟩
def za.enc(s:za)(i:Nat)(k v:Int)(nl:Bool)(t:zj5):zj5:=Gm k (s.zfF:Int) (s.round:Int) (i:Int) v nl t
def za.zfI(s:za)(i:Nat)(k v:Int)(nl:Bool)(t:zj5):za:=
 if YH s.x (i:Int)=0 then s else
 if hasB k (s.zfF:Int) (s.round:Int) (i:Int) v nl t.size=true then
  { s with sg:=signR s.sg i (s.enc i k v nl t),out:=put1 s.out (s.enc i k v nl t),log:=s.log++[⟨s.msg i k v nl t,s.enc i k v nl t,true⟩] }
 else s
def za.timer(s:za)(num ticks:Nat):za:=
 { s with
  b1:=if num=1 then true else s.b1,b2:=if num=2 then true else s.b2,b3:=if num=3 then true else s.b3,
  tims:=upT s.tims.length (s.tims++[⟨(num:Int),(s.zfF:Int),(s.round:Int),(s.time:Int)+ticks+s.round,(s.tb:Int)⟩]) s.tims.length,
  tb:=s.tb+1 }
def jG(b t:zj5):zj5:=if b=⟨#[]⟩ then t else b++⟨#[44]⟩++t
def qK(x:Nat->Int)(b t:zj5):zj5:=if(jG b t).size<=24/\(zi x (jG b t)).2=true then jG b t else b
def blockF(x:Nat->Int)(l:List zj5):zj5:=l.foldl (qK x) ⟨#[]⟩
theorem Xi(x:Nat->Int)(l:List zj5)(j:Nat)(h:j<l.length):blockF x (l.take (j+1))=qK x (blockF x (l.take j)) (l.getD j zj4):=by
 unfold blockF;rw[<-List.take_append_getElem h,List.foldl_append,zjK,zjJ h];rfl
theorem GD{x:Nat->Int}{b t:zj5}(h:b.size<=24):(qK x b t).size<=24:=by
 unfold qK;split
 .rename_i h1;exact h1.1
 exact h
theorem xy(x:Nat->Int)(l:List zj5):(blockF x l).size<=24:=by
 unfold blockF;have:∀(l:List zj5) (b:zj5),b.size<=24->(l.foldl (qK x) b).size<=24:=λl=>by
  induction l with
  |nil=>intro b hb;exact hb
  |cons t l ih=>intro b hb;exact ih _ (GD hb)
 exact this l _ (by decide)
def za.zfL(s:za)(r st:Nat):za:={ s with round:=r,step:=st,held:=false,b1:=false,b2:=false,b3:=false }
def za.zfH(s:za)(i r:Nat):za:=
 if s.prop r=i then(s.zfL r 1).zfI i 1 s.vr false (if s.vr<0 then blockF s.x s.wait else s.vv) else(s.zfL r 1).timer 1 3
def za.zir(s:za)(i:Nat):za:=
 if s.zfF=12 then { s with lr:= -1,lv:=⟨#[]⟩,vr:= -1,vv:=⟨#[]⟩,log:=s.ahead.filter λe=> !s.zfJ e.m,ahead:=[] }.zfL 0 0
 else { s with lr:= -1,lv:=⟨#[]⟩,vr:= -1,vv:=⟨#[]⟩,log:=s.ahead.filter λe=> !s.zfJ e.m,ahead:=[] }.zfH i 0
section
open Proofs.Tryz
variable{nb kb cb:Nat}{V:yc}{s:za}{w w':World}
theorem NodeAt.below(h:NodeAt nb kb cb V s w)(hb:BW w w'):NodeAt nb kb cb V s w':=h.frame λk hk=>hb.block k (h.lt k hk)
theorem kH.below{B:Nat}{es:List Addr}{m:Int}(h:kH B es m w)(hB:B<=w.heap.size)(hb:BW w w'):kH B es m w':=h.same λk hk=>hb.block k (zjE hk hB)
theorem NodeAt.len(h:NodeAt nb kb cb V s w):V.ds.length=s.zfF:=by
 have e:=congrArg List.length h.eds;rw[List.length_map] at e;exact e
theorem zby(kb cb:Nat)(V:yc)(s:za)(j:Nat)(hj:j<34):(nodeA kb cb V s)[1+j]? =some (iA (s.x j)):=by
 unfold nodeA Ql;rw[List.getElem?_toArray,Nat.add_comm,List.getElem?_cons_succ,zjN (by simp[yU];omega)];simp[yU,hj]
theorem NodeAt.reg(h:NodeAt nb kb cb V s w):w.rangeAt nb 1 (yU s.x):=λj v hv=>by
 have hj:j<34:=by have:=(List.getElem?_eq_some_iff.1 hv).1;simpa [yU] using this
 rw[h.cell (1+j) (zby kb cb V s j hj)];have:(yU s.x)[j]? =some (iA (s.x j)):=by simp[yU,hj]
 rw[this] at hv;exact hv
theorem zH(nb kb cb:Nat)(V:yc)(s:za)(w:World)(hA:NodeAt nb kb cb V s w):
 Calls prog 73 #[pA nb 0] w λe w'=>e=.returned (iA s.zfF)/\w'=w:=by
 obtain⟨p,c,hv⟩:=zm hA.dec;rw[hA.len] at hv;have c35:cE w nb 35 V.dv:=hA.cell 35 rfl;rw[hv] at c35;clear hA hv;go_enter func73,ntmps73;go_wp2;go_ret;exact⟨rfl,rfl⟩
theorem qn(nb kb cb r:Nat)(V:yc)(s:za)(w:World)(hA:NodeAt nb kb cb V s w)(hx:Dom s.x)(hp:0<sumTo s.x 8)(hh:s.zfF<=12)(hr:r<=1000):
 Calls prog 143 #[pA nb 0,iA r] w λe w'=>e=.returned (iA (s.prop r:Int))/\BW w w':=by
 obtain⟨HA,HX,HP,HR⟩:=qO hA hx hp hA.reg;have hh2:(s.zfF:Int)<=12:=by omega
 have hr2:(r:Int)<=1000:=by omega
 have aa:Hid ((s.zfF:Int)+(r:Int)=((s.zfF+r:Nat):Int)):=by unfold Hid;omega
 clear hA hx hp;go_enter func143,ntmps143;go_wp2_with fail
 haveI:=Ext.ne w;refine zP (by kernel_rfl) (by kernel_rfl) ?_;repeat(first|go_big_quiet_skip|(go_big_quiet_want;first|(refine zW (some 8) rfl 116 _ rfl nb 1 rfl (yU s.x) _ (Ext.range HR) underlying116 rfl (by rw[Tryz.zfG];simp[yU]) ?_;simp only[AP];go_big_quiet_on)|(go_big_quiet_op;first|go_big_quiet_on|(apply Exists.intro;refine⟨λu=>?_,?_⟩;(· (first|(exact Calls.zhq u (zH nb kb cb V s u.W (HA.o.below u.b)))|(rw[aa.o];exact Calls.ext u (Jr s.x (s.zfF+r) u.W HX.o HP.o (by omega)))));go_big_quiet_on))))
 refine wpQuiet_nil ?_;rintro _ ⟨u,rfl⟩;go_wp2;go_ret;exact⟨rfl,u.b⟩
theorem NodeAt.logAt(h:NodeAt nb kb cb V s w):∃p c,V.lv=.slice p s.log.length c/\w.cell? (aA nb 37)=some (.slice p s.log.length c)/\s.log.length<=maxLen/\kD w w.heap.size p s.log.length (λi=>s.log.getD i yl):=by
 obtain⟨p,c,e,h1,h2⟩:=XU h.log;have c37:cE w nb 37 V.lv:=h.cell 37 rfl;rw[e] at c37;exact⟨p,c,e,c37,h1,h2⟩
theorem kD.ext{p:Option Addr}{n:Nat}{es:Nat->zl}(h:kD w w.heap.size p n es)(u:Ext w):kD u.W u.W.heap.size p n es:=(h.below u.b).more u.b.size
theorem FitsAt.ext{g:Nat}{lb:Array Value}{fits:zl->Bool}{l:List zl}(h:FitsAt g lb fits l w)(u:Ext w):FitsAt g lb fits l u.W:=h.later u.b
theorem ky(nb kb cb g:Nat)(lb:Array Value)(fits:zl->Bool)(V:yc)(s:za)(w:World)(hA:NodeAt nb kb cb V s w)(hx:Dom s.x)(eg:qo g)(hf:FitsAt g lb fits s.log w)(hid:∀e∈s.log,0<=e.m.f/\e.m.f<8):
 Calls prog 150 #[pA nb 0,.func (.func g) #[] lb] w λe w'=>e=.returned (bA (s.most fits))/\BW w w':=by
 obtain⟨p,c,-,c37,hm,hE⟩:=hA.logAt;obtain⟨HE,HM,HX,HR,HF,aa,ad⟩:=Qy hE hm hx hA.reg hf hid eg;have c37u:=λu:Ext w=>Ext.cell c37 u;clear hA hx hE hm hf hid eg c37;go_enter func150,ntmps150;go_wp2_with fail
 haveI:=Ext.ne w;refine zP (by kernel_rfl) (by kernel_rfl) ?_;repeat(first|go_big_quiet_skip|(go_big_quiet_want;first|(refine zW (some 8) rfl 116 _ rfl nb 1 rfl (yU s.x) _ (Ext.range HR) underlying116 rfl (by rw[Tryz.zfG];simp[yU]) ?_;simp only[AP];go_big_quiet_on)|(go_big_quiet_op;first|go_big_quiet_on|(apply Exists.intro;refine⟨λu=>?_,?_⟩;(· (first|(exact Calls.ext u (xn g lb fits s.log p c u.W ad.o (HE.o.ext u) HM.o (HF.o.ext u) aa.o))|(exact Calls.ext u (jg 2 s.x (sendB fits s.log) u.W HX.o (by omega) (by omega)))));go_big_quiet_on))))
 refine wpQuiet_nil ?_;rintro _ ⟨u,rfl⟩;go_wp2;go_ret;exact⟨rfl,u.b⟩
theorem xd(nb kb cb:Nat)(m:kE)(V:yc)(s:za)(w:World)(hA:NodeAt nb kb cb V s w)(hx:Dom s.x)(hp:0<sumTo s.x 8)(hh:s.zfF<=12)(hr:0<=m.r/\m.r<=20):
 Calls prog 106 #[pA nb 0,.agg m.cells] w λe w'=>e=.returned (bA (s.zfJ m))/\BW w w':=by
 obtain⟨K,H,R,f,v,nl,t⟩:=m;obtain⟨r,rfl⟩:∃r:Nat,R=(r:Int):=⟨R.toNat,by simp only at hr;omega⟩;have ak:r<=1000:=by simp only at hr;omega
 show Calls prog 106 #[pA nb 0,.agg #[iA K,iA H,iA r,iA f,iA v,bA nl,sA t]] w _;obtain⟨w1,ad⟩:=gen (w.alloc (.cells #[iA K,iA H,iA r,iA f,iA v,bA nl,sA t] 57));have ag:BW w w1:=by rw[ad];exact bwA w
 have ae:w1.heap[w.heap.size]? =some (.cells #[iA K,iA H,iA r,iA f,iA v,bA nl,sA t] 57 (0,0)):=by rw[ad];exact zjC w _
 have ah:=hA.below ag;have k0:∀u:Ext w1,cN u.W w 0 (iA K):=λu=>Ext.cell (zjD w1 w.heap.size 0 _ _ _ ae) u;have k2:∀u:Ext w1,cN u.W w 2 (iA r):=λu=>Ext.cell (zjD w1 w.heap.size 2 _ _ _ ae) u;have k3:∀u:Ext w1,cN u.W w 3 (iA f):=λu=>Ext.cell (zjD w1 w.heap.size 3 _ _ _ ae) u;obtain⟨HA,HX,HP,HR,aa,ai⟩:=JQ ah hx hp ah.reg ag ad;clear hA hx hp ah ag ae hr ad;by_cases h0:YH s.x f=0
 .have HO:Hid (s.zfJ ⟨K,H,(r:Int),f,v,nl,t⟩=true):=by unfold Hid za.zfJ;simp[h0]
  go_enter func106,ntmps106;go_wp2_with fail
  rw[<-ai.o];haveI:=Ext.ne w1;refine zP (by kernel_rfl) (by kernel_rfl) ?_;repeat(first|go_big_quiet_skip|(go_big_quiet_want;first|(refine zW (some 8) rfl 116 _ rfl nb 1 rfl (yU s.x) _ (Ext.range HR) underlying116 rfl (by rw[Tryz.zfG];simp[yU]) ?_;simp only[AP];go_big_quiet_on)|(go_big_quiet_op;first|go_big_quiet_on|(apply Exists.intro;refine⟨λu=>?_,?_⟩;(· (first|(have hc:=Calls.ext u (vy s.x f u.W);rw[h0] at hc;exact hc)));go_big_quiet_on))))
  refine wpQuiet_nil ?_;rintro _ ⟨u,rfl⟩;go_wp2;go_ret;exact⟨yz HO.o.symm,aa.o.trans (u.b.mono aa.o.size)⟩
 obtain⟨pw,af⟩:=gen (YH s.x f);have q1:(pw==0)=false:=by rw[zjY,af];exact h0
 have aj:=zc af;clear af;by_cases hk:K=1
 .subst hk;have HO:Hid (s.zfJ ⟨1,H,(r:Int),f,v,nl,t⟩= !decide (f=(s.prop r:Int))):=by unfold Hid za.zfJ;simp[h0]
  clear h0;go_enter func106,ntmps106;go_wp2_with fail
  rw[<-ai.o];haveI:=Ext.ne w1;refine zP (by kernel_rfl) (by kernel_rfl) ?_;repeat(first|go_big_quiet_skip|(go_big_quiet_want;first|(refine zW (some 8) rfl 116 _ rfl nb 1 rfl (yU s.x) _ (Ext.range HR) underlying116 rfl (by rw[Tryz.zfG];simp[yU]) ?_;simp only[AP];go_big_quiet_on)|(go_big_quiet_op;first|go_big_quiet_on|(apply Exists.intro;refine⟨λu=>?_,?_⟩;(· (first|(have hc:=Calls.ext u (vy s.x f u.W);rw[<-aj.o] at hc;exact hc)|(exact Calls.ext u (qn nb kb cb r V s u.W (HA.o.below u.b) HX HP hh ak))));go_big_quiet_on))))
  refine wpQuiet_nil ?_;rintro _ ⟨u,rfl⟩;go_wp2;go_ret;exact⟨yz (by rw[HO.o];first|rfl|(simp only[bne];rfl)|(rw[Bool.eq_iff_iff];simp)),aa.o.trans (u.b.mono aa.o.size)⟩
 have HO:Hid (s.zfJ ⟨K,H,(r:Int),f,v,nl,t⟩=false):=by unfold Hid za.zfJ;simp[h0,hk]
 have q2:(K==1)=false:=by rw[zjY];exact hk
 clear h0;go_enter func106,ntmps106;go_wp2_with fail
 rw[<-ai.o];haveI:=Ext.ne w1;refine zP (by kernel_rfl) (by kernel_rfl) ?_;repeat(first|go_big_quiet_skip|(go_big_quiet_want;first|(refine zW (some 8) rfl 116 _ rfl nb 1 rfl (yU s.x) _ (Ext.range HR) underlying116 rfl (by rw[Tryz.zfG];simp[yU]) ?_;simp only[AP];go_big_quiet_on)|(go_big_quiet_op;first|go_big_quiet_on|(apply Exists.intro;refine⟨λu=>?_,?_⟩;(· (first|(have hc:=Calls.ext u (vy s.x f u.W);rw[<-aj.o] at hc;exact hc)));go_big_quiet_on))))
 refine wpQuiet_nil ?_;rintro _ ⟨u,rfl⟩;go_wp2;go_ret;exact⟨yz HO.o.symm,aa.o.trans (u.b.mono aa.o.size)⟩
theorem JE(nb kb cb:Nat)(h:Int)(V:yc)(s:za)(w:World)(hA:NodeAt nb kb cb V s w):
 Calls prog 126 #[pA nb 0,iA h] w λe w'=>e=.returned (pA nb (if h=(s.zfF:Int) then 37 else 38))/\w'=w:=by
 have HA:=zc hA;clear hA;by_cases hh:h=(s.zfF:Int)
 .subst hh;go_enter func126,ntmps126;go_wp2_with (go_at_call 73;refine(zH nb kb cb V s w HA).mono ?_;rintro e w2 ⟨rfl,aa⟩;have ad:=aa.symm;clear aa;subst ad)
  go_ret;exact⟨by simp,rfl⟩
 rw[zj3 hh];go_enter func126,ntmps126;go_wp2_with (go_at_call 73;refine(zH nb kb cb V s w HA).mono ?_;rintro e w2 ⟨rfl,aa⟩;have ad:=aa.symm;clear aa;subst ad)
 go_ret;exact⟨rfl,rfl⟩
end
section
open Proofs.Tryz
def zfe(nb off:Nat)(C:Array Value)(T:TypeId)(l:List zl)(e:zl)(v:Value)(w:World)(en:Ending)(w':World):Prop:=
 ∃v',en=.returned (.tuple #[])/\w'.heap[nb]? =some (.cells (C.setIfInBounds off v') T (0,0))/\w'.ownsRow 0 164 9 v' (l.length+1) (kQ (l++[e]))/\(v'.ownBlock=v.ownBlock\/∀g,v'.ownBlock=some g->w.heap.size<=g)/\zk (λk=>k=nb\/some k=v.ownBlock) w w'
theorem XA(nb off:Nat)(C:Array Value)(T:TypeId)(l:List zl)(e:zl)(v:Value)(w:World)(hq:w.heap[nb]? =some (.cells C T (0,0)))(ht:T≠164)(hc0:C[off]? =some v)(hown:w.ownsRow 0 164 9 v l.length (kQ l))(hlen:l.length<=100000000)
 (hlog:∀W,BW w W->Calls prog 126 #[pA nb 0,iA e.m.h] W λen w'=>en=.returned (pA nb off)/\w'=W):
 Calls prog 81 #[pA nb 0,.agg e.cells] w (zfe nb off C T l e v w):=by
 obtain⟨iW,aM,aD,aC,aB⟩:=info_parts Tryz.ziD;obtain⟨p,cap,rfl⟩:=zm hown;obtain⟨⟨kd,H,r,f,v,nl,t⟩,fr,own⟩:=e;have aH:nb<w.heap.size:=zg hq;have ay:∀g,Value.ownBlock (.slice p l.length cap)=some g->g≠nb:=λg hg e=>by
  subst e;exact yI hown hq ht hg
 show Calls prog 81 #[pA nb 0,.agg #[iA kd,iA H,iA r,iA f,iA v,bA nl,sA t,sA fr,bA own]] w _;obtain⟨w1,ak⟩:=gen (w.alloc (.cells #[iA kd,iA H,iA r,iA f,iA v,bA nl,sA t,sA fr,bA own] 164));have ad:BW w w1:=by rw[ak];exact bwA w
 have aj:w1.heap[w.heap.size]? =some (.cells #[iA kd,iA H,iA r,iA f,iA v,bA nl,sA t,sA fr,bA own] 164 (0,0)):=by rw[ak];exact zjC w _
 have hz:w1.heap.size=w.heap.size+1:=by rw[ak];simp
 have ax:cL w1 nb C T:=blk hq ad;have c0:cE w1 nb off (.slice p l.length cap):=(zjD w1 nb off _ _ _ ax).trans hc0;have cH:cN w1 w 1 (iA H):=zjD w1 w.heap.size 1 _ _ _ aj;have cH':(w.alloc (.cells #[iA kd,iA H,iA r,iA f,iA v,bA nl,sA t,sA fr,bA own] 164)).cell? (nA w 1)=some (iA H):=by rw[<-ak];exact cH
 have an:w1.ownsRow 0 164 9 (.slice p l.length cap) l.length (kQ l):=zb hown (λg _ hg=>ad.block g hg);obtain⟨HZ,av,aO,aN⟩:=qO hz hown (hlog w1 ad) ak;clear hz hown hlog ak;go_enter func81,ntmps81;go_wp2_with fail
 rw[<-aN.o];refine aO.o.mono ?_;rintro e w2 ⟨rfl,af⟩;have aF:=af.symm;clear af;subst aF;go_wp2_with fail
 have aK:nb<w1.heap.size:=zjE aH ad.size;have hl2:w.heap.size<w1.heap.size:=zg aj;refine rgd (S:=λW=>cL W w.heap.size #[iA kd,iA H,iA r,iA f,iA v,bA nl,sA t,sA fr,bA own] 164) aj λhH=>?_;refine takeN [(0,some 10,pA nb off),(1,some 11,pA nb off),(2,some 12,pA nb off),(4,some 14,.agg #[iA kd,iA H,iA r,iA f,iA v,bA nl,sA t,sA fr,bA own])] _ _ hH (by repeat(first|exact zj7|((first|refine tkc rfl rfl (zka (by rfl) 164 _ rfl w.heap.size 0 rfl [iA kd,iA H,iA r,iA f,iA v,bA nl,sA t,sA fr,bA own] _ (λw h=>yG h) underlying164 rfl (by rw[Tryz.zfS];rfl)) ?_|(refine tkc rfl rfl (zj0 ⟨by rfl,λx h=>?_⟩) ?_;focus(go_simp;done)));simp only[AP]))) ?_;simp only[ze,AP,pA];refine wpAnyH_ready (rs:=[3,5]) (by kernel_rfl) (by simp) ?_;have c0':cE w1.drew nb off (.slice p l.length cap):=c0;refine AllReadyH.cons rfl (λK hK=>?_) (AllReadyH.cons rfl (λK hK=>?_) AllReadyH.nil);focus
  go_simp;refine hK.out _ _ aj λhH=>?_;clear hK K;refine zv 5 λK hK=>?_
 rotate_left;focus
  go_simp;refine hK.out _ _ (blk aj ((bwA w1).drew)) λhH=>?_;clear hK K;refine zv 3 λK hK=>?_;have c0'':cE (w1.alloc (.cells #[iA kd,iA H,iA r,iA f,iA v,bA nl,sA t,sA fr,bA own] 164)) nb off (.slice p l.length cap):=(zjH (w:=w1) (a:=(aA nb off)) (zj9 w1 _ nb aK)).trans c0
 rotate_left;all_goals
  go_simp;obtain⟨w2,af⟩:∃z,z=(w1.alloc (.cells #[iA kd,iA H,iA r,iA f,iA v,bA nl,sA t,sA fr,bA own] 164)).drew:=⟨_,rfl⟩;have ae:BW w1 w2:=by rw[af];exact(bwA w1).drew
  have aE:w2.heap[w1.heap.size]? =some (.cells #[iA kd,iA H,iA r,iA f,iA v,bA nl,sA t,sA fr,bA own] 164 (0,0)):=by
   rw[af];exact zjC w1 _
  have az:w2.heap.size=w1.heap.size+1:=by rw[af];show(w1.alloc _).heap.size=_;simp
  rw[<-af];refine hK.out _ _ (blk aj ae) λhH=>?_;clear hK K af;refine zv 6 λK hK=>?_;rw[zj2 (by rfl)];have al:w2.ownsRow 0 164 9 (.slice p l.length cap) l.length (kQ l):=zb an (λg _ hg=>ae.block g hg);refine yj _ _ _ 125 rfl 0 164 iW (.agg #[iA 0,iA 0,iA 0,iA 0,iA 0,bA false,sA zj4,sA zj4,bA false]) 9 88 underlying125 aM aD aC aB rfl (by decide) (.slice p l.length cap) l.length (kQ l) rfl al (nA w1 0) 1 1 [iA kd,iA H,iA r,iA f,iA v,bA nl,sA t,sA fr,bA own] rfl rfl ?n1 ?n2 (by unfold maxLen;omega) (by omega) (by omega) ?_
  case n1=>
   intro j u hj;rw[addr_add,zj8,zjD w2 w1.heap.size j _ _ _ aE];simpa using hj
  case n2=>
   intro u hu;simp at hu;rcases hu with rfl|rfl|rfl|rfl|rfl|rfl|rfl|rfl|rfl<;>rfl
  intro v3 w3 ag aa aq;have ai:cL w3 nb C T:=(aa.block nb (by omega) (λe=>ay nb e.symm rfl)).trans (blk ax ae);have ao:w3.heap[w.heap.size]? =some (.cells #[iA kd,iA H,iA r,iA f,iA v,bA nl,sA t,sA fr,bA own] 164 (0,0)):=(aa.block w.heap.size (by omega) (λe=>by have:=(av.o.lt _ e.symm).2;omega)).trans (blk aj ae);refine hK.out _ _ ao λhH=>?_;clear hK K;simp only[AP,AQ];refine yd [7] hH (λ_ h=>h) ?_;have c03:cE w3 nb off (.slice p l.length cap):=(zjD w3 nb off _ _ _ ai).trans hc0;have f03:w3.frozen? (aA nb off)=false:=zt ai off;obtain⟨p3,cap3,rfl⟩:=zm ag;refine zv 8 λK hK=>?_;go_simp;obtain⟨w4,ar⟩:∃z,z=(w3.setCell (aA nb off) (.slice p3 (l.length+1) cap3)):=⟨_,rfl⟩;have ah:kq nb w3 w4:=by rw[ar];exact zf w3 nb off _
  have aG:w4.heap[nb]? =some (.cells (C.setIfInBounds off (.slice p3 (l.length+1) cap3)) T (0,0)):=by
   rw[ar];exact setCell_row ai off _
  rw[<-ar];have au:cL w4 w.heap.size #[iA kd,iA H,iA r,iA f,iA v,bA nl,sA t,sA fr,bA own] 164:=(ah.block _ (by omega)).trans ao;refine hK.out _ _ au λhH=>?_;clear hK K hH ar;refine dnr ?_;have aw:Hid (zfe nb off C T l ⟨⟨kd,H,r,f,v,nl,t⟩,fr,own⟩ (.slice p l.length cap) w (.returned (.tuple #[])) w4):=by
   have aJ:∀g,Value.ownBlock (.slice p3 (l.length+1) cap3)=some g->g≠nb:=λg hg e=>by
    subst e;rcases aq with h|h
    .exact ay _ (h.symm.trans hg) rfl
    .have h2:=h.symm.trans hg;cases h2;omega
   refine⟨.slice p3 (l.length+1) cap3,rfl,aG,?_,?_,?_⟩
   .rw [VV];exact zb ag (λg hg _=>ah.block g (aJ g hg))
   .rcases aq with h|h
    .exact zj0 h
    .refine zj1 λg hg=>?_;have h2:=h.symm.trans hg;cases h2;omega
   .refine ⟨?_,?_,?_,?_,λk hk hn=>?_⟩
    .rw [ah.os,aa.os,ae.os,ad.os]
    .rw [ah.tape,aa.tape,ae.tape,ad.tape]
    .rw [ah.output,aa.output,ae.output,ad.output]
    .rw [ah.size];exact zjF ad.size (zjF ae.size aa.size)
    .have aL:k<w1.heap.size:=zjE hk ad.size;rw[ah.block k (λe=>hn (zj0 e)),aa.block k (by omega) (λe=>hn (zj1 e)),ae.block k aL,ad.block k hk]
  exact bodyPost_end (v:=.tuple #[]) (by simp[results,results81]) rfl aw.o
variable{B nb kb rb cb n i:Nat}{es:List Addr}{m:Int}{F R:Nat→Prop}{s s':za}{V:yc}{w w':World}
theorem NodeW.ziz(h:NodeW B es m F R nb kb rb cb n i s w)(hA:NodeAt nb kb cb V s w)(hf:∀k,V.zgH nb cb k→F k)(v':Value)
 (hb:w'.heap[nb]? =some (.cells (nodeA kb cb { V with lv:=v' } s') 135 (0,0))) (hown:w'.ownsRow 0 164 9 v' s'.log.length (kQ s'.log)) (hat:v'.ownBlock=V.lv.ownBlock∨∀g,v'.ownBlock=some g→w.heap.size≤g) (hs:zk (λk=>k=nb∨some k=V.lv.ownBlock) w w')
 (edec:s'.dec=s.dec)
 (ewait:s'.wait=s.wait)
 (eahead:s'.ahead=s.ahead)
 (etims:s'.tims=s.tims)
 (eout:s'.out=s.out)
 (esg:s'.sg=s.sg):∃F',NodeW B es m F' R nb kb rb cb n i s' w'∧Goes F R w F' R w':=by
 obtain⟨n1,n2,n3,n4,n5,n6⟩:=hA.rows;have hv:∀g,v'.ownBlock=some g→V.lv.ownBlock=some g∨w.heap.size≤g:=λg hg=>by
  rcases hat with h1|h1
  .exact zj0 (h1.symm.trans hg)
  exact zj1 (h1 g hg)
 have hN:NodeAt nb kb cb { V with lv:=v' } s' w':=by
  refine⟨hb,by rw[edec];exact hA.eds,?_,?_,?_,?_,?_,?_,?_,?_,?_,hA.acc⟩
  .exact zb hA.dec λg e hg=>hs.block g hg (λx=>x.elim (λx=>n1 (x▸e)) (λx=>zO hA.dec hA.log (by decide) g e x.symm))
  .exact λd hd=>zb (hA.cert d hd) λg e hg=>hs.block g hg (λx=>x.elim (λx=>n6 d hd (x▸e)) (λx=>zO (hA.cert d hd) hA.log (by decide) g e x.symm))
  .rw [ewait];exact zb hA.wait λg e hg=>hs.block g hg (λx=>x.elim (λx=>n2 (x▸e)) (λx=>zO hA.wait hA.log (by decide) g e x.symm))
  .exact hown
  .rw [eahead];exact zb hA.ahead λg e hg=>hs.block g hg (λx=>x.elim (λx=>n4 (x▸e)) (λx=>hA.alog g x.symm e))
  .rw [etims];exact zb hA.tims λg e hg=>hs.block g hg (λx=>x.elim (λx=>n5 (x▸e)) (λx=>zO hA.tims hA.log (by decide) g e x.symm))
  .rw [eout];obtain⟨a,b,hc⟩:=hA.chan;exact⟨a,b,(hs.block cb (qT hA.chan) (λx=>x.elim (λx=>hA.nc x.symm) (λx=>yD hA.log hA.chan x.symm))).trans hc⟩
  .intro g hg ha;rcases hv g hg with h1|h1
   .exact hA.alog g h1 ha
   have:=(hA.ahead.lt g ha).2;omega
  exact hA.awc
 refine⟨λk=>F k∨v'.ownBlock=some k,?_⟩;refine h.zgK ⟨_,hN,λk hk=>?_⟩ esg (λk hk=>?_) (λk hk=>?_) ⟨hs.os,hs.tape,hs.output,hs.size,λk hk hn=>hs.block k hk (λx=>x.elim (λx=>hn (x▸hf nb (zj0 rfl))) (λx=>hn (hf k (zj1 (zj1 (zj1 (zj1 (zj0 x.symm))))))))⟩
 .rcases hk with rfl|rfl|e|e|e|e|e|⟨d,hd,e⟩
  .exact zj0 (hf _ (zj0 rfl))
  .exact zj0 (hf _ (zj1 (zj0 rfl)))
  .exact zj0 (hf k (zj1 (zj1 (zj0 e))))
  .exact zj0 (hf k (zj1 (zj1 (zj1 (zj0 e)))))
  .exact zj1 e
  .exact zj0 (hf k (zj1 (zj1 (zj1 (zj1 (zj1 (zj0 e)))))))
  .exact zj0 (hf k (zj1 (zj1 (zj1 (zj1 (zj1 (zj1 (zj0 e))))))))
  exact zj0 (hf k (zj1 (zj1 (zj1 (zj1 (zj1 (zj1 (zj1 (⟨d,hd,e⟩)))))))))
 .rcases hk with hk|hk
  .exact zj0 hk
  rcases hv k hk with h1|h1
  .exact zj0 (hf k (zj1 (zj1 (zj1 (zj1 (zj0 h1))))))
  exact zj1 h1
 rcases hk with hk|hk
 .exact zjE (h.fl k hk).2 hs.size
 exact(hown.lt k hk).2
theorem NodeW.zia(h:NodeW B es m F R nb kb rb cb n i s w)(hA:NodeAt nb kb cb V s w)(hf:∀k,V.zgH nb cb k→F k)(v':Value)
 (hb:w'.heap[nb]? =some (.cells (nodeA kb cb { V with av:=v' } s') 135 (0,0))) (hown:w'.ownsRow 0 164 9 v' s'.ahead.length (kQ s'.ahead)) (hat:v'.ownBlock=V.av.ownBlock∨∀g,v'.ownBlock=some g→w.heap.size≤g) (hs:zk (λk=>k=nb∨some k=V.av.ownBlock) w w')
 (edec:s'.dec=s.dec)
 (ewait:s'.wait=s.wait)
 (elog:s'.log=s.log)
 (etims:s'.tims=s.tims)
 (eout:s'.out=s.out)
 (esg:s'.sg=s.sg):∃F',NodeW B es m F' R nb kb rb cb n i s' w'∧Goes F R w F' R w':=by
 obtain⟨n1,n2,n3,n4,n5,n6⟩:=hA.rows;have hv:∀g,v'.ownBlock=some g→V.av.ownBlock=some g∨w.heap.size≤g:=λg hg=>by
  rcases hat with h1|h1
  .exact zj0 (h1.symm.trans hg)
  exact zj1 (h1 g hg)
 have hN:NodeAt nb kb cb { V with av:=v' } s' w':=by
  refine⟨hb,by rw[edec];exact hA.eds,?_,?_,?_,?_,?_,?_,?_,?_,?_,hA.acc⟩
  .exact zb hA.dec λg e hg=>hs.block g hg (λx=>x.elim (λx=>n1 (x▸e)) (λx=>zO hA.dec hA.ahead (by decide) g e x.symm))
  .exact λd hd=>zb (hA.cert d hd) λg e hg=>hs.block g hg (λx=>x.elim (λx=>n6 d hd (x▸e)) (λx=>zO (hA.cert d hd) hA.ahead (by decide) g e x.symm))
  .rw [ewait];exact zb hA.wait λg e hg=>hs.block g hg (λx=>x.elim (λx=>n2 (x▸e)) (λx=>zO hA.wait hA.ahead (by decide) g e x.symm))
  .rw [elog];exact zb hA.log λg e hg=>hs.block g hg (λx=>x.elim (λx=>n3 (x▸e)) (λx=>hA.alog g e x.symm))
  .exact hown
  .rw [etims];exact zb hA.tims λg e hg=>hs.block g hg (λx=>x.elim (λx=>n5 (x▸e)) (λx=>zO hA.tims hA.ahead (by decide) g e x.symm))
  .rw [eout];obtain⟨a,b,hc⟩:=hA.chan;exact⟨a,b,(hs.block cb (qT hA.chan) (λx=>x.elim (λx=>hA.nc x.symm) (λx=>yD hA.ahead hA.chan x.symm))).trans hc⟩
  .intro g hg ha;rcases hv g ha with h1|h1
   .exact hA.alog g hg h1
   have:=(hA.log.lt g hg).2;omega
  exact hA.awc
 refine⟨λk=>F k∨v'.ownBlock=some k,?_⟩;refine h.zgK ⟨_,hN,λk hk=>?_⟩ esg (λk hk=>?_) (λk hk=>?_) ⟨hs.os,hs.tape,hs.output,hs.size,λk hk hn=>hs.block k hk (λx=>x.elim (λx=>hn (x▸hf nb (zj0 rfl))) (λx=>hn (hf k (zj1 (zj1 (zj1 (zj1 (zj1 (zj0 x.symm)))))))))⟩
 .rcases hk with rfl|rfl|e|e|e|e|e|⟨d,hd,e⟩
  .exact zj0 (hf _ (zj0 rfl))
  .exact zj0 (hf _ (zj1 (zj0 rfl)))
  .exact zj0 (hf k (zj1 (zj1 (zj0 e))))
  .exact zj0 (hf k (zj1 (zj1 (zj1 (zj0 e)))))
  .exact zj0 (hf k (zj1 (zj1 (zj1 (zj1 (zj0 e))))))
  .exact zj1 e
  .exact zj0 (hf k (zj1 (zj1 (zj1 (zj1 (zj1 (zj1 (zj0 e))))))))
  exact zj0 (hf k (zj1 (zj1 (zj1 (zj1 (zj1 (zj1 (zj1 (⟨d,hd,e⟩)))))))))
 .rcases hk with hk|hk
  .exact zj0 hk
  rcases hv k hk with h1|h1
  .exact zj0 (hf k (zj1 (zj1 (zj1 (zj1 (zj1 (zj0 h1)))))))
  exact zj1 h1
 rcases hk with hk|hk
 .exact zjE (h.fl k hk).2 hs.size
 exact(hown.lt k hk).2
theorem NodeW.zhy(h:NodeW B es m F R nb kb rb cb n i s w)(hA:NodeAt nb kb cb V s w)(hf:∀k,V.zgH nb cb k→F k)(v':Value)
 (hb:w'.heap[nb]? =some (.cells (nodeA kb cb { V with tv:=v' } s') 135 (0,0))) (hown:w'.ownsRow 0 223 5 v' s'.tims.length (qj s'.tims)) (hat:v'.ownBlock=V.tv.ownBlock∨∀g,v'.ownBlock=some g→w.heap.size≤g) (hs:zk (λk=>k=nb∨some k=V.tv.ownBlock) w w')
 (edec:s'.dec=s.dec)
 (ewait:s'.wait=s.wait)
 (elog:s'.log=s.log)
 (eahead:s'.ahead=s.ahead)
 (eout:s'.out=s.out)
 (esg:s'.sg=s.sg):∃F',NodeW B es m F' R nb kb rb cb n i s' w'∧Goes F R w F' R w':=by
 obtain⟨n1,n2,n3,n4,n5,n6⟩:=hA.rows;have hv:∀g,v'.ownBlock=some g→V.tv.ownBlock=some g∨w.heap.size≤g:=λg hg=>by
  rcases hat with h1|h1
  .exact zj0 (h1.symm.trans hg)
  exact zj1 (h1 g hg)
 have hN:NodeAt nb kb cb { V with tv:=v' } s' w':=by
  refine⟨hb,by rw[edec];exact hA.eds,?_,?_,?_,?_,?_,?_,?_,?_,?_,hA.acc⟩
  .exact zb hA.dec λg e hg=>hs.block g hg (λx=>x.elim (λx=>n1 (x▸e)) (λx=>zO hA.dec hA.tims (by decide) g e x.symm))
  .exact λd hd=>zb (hA.cert d hd) λg e hg=>hs.block g hg (λx=>x.elim (λx=>n6 d hd (x▸e)) (λx=>zO (hA.cert d hd) hA.tims (by decide) g e x.symm))
  .rw [ewait];exact zb hA.wait λg e hg=>hs.block g hg (λx=>x.elim (λx=>n2 (x▸e)) (λx=>zO hA.wait hA.tims (by decide) g e x.symm))
  .rw [elog];exact zb hA.log λg e hg=>hs.block g hg (λx=>x.elim (λx=>n3 (x▸e)) (λx=>zO hA.log hA.tims (by decide) g e x.symm))
  .rw [eahead];exact zb hA.ahead λg e hg=>hs.block g hg (λx=>x.elim (λx=>n4 (x▸e)) (λx=>zO hA.ahead hA.tims (by decide) g e x.symm))
  .exact hown
  .rw [eout];obtain⟨a,b,hc⟩:=hA.chan;exact⟨a,b,(hs.block cb (qT hA.chan) (λx=>x.elim (λx=>hA.nc x.symm) (λx=>yD hA.tims hA.chan x.symm))).trans hc⟩
  .exact hA.alog
  exact hA.awc
 refine⟨λk=>F k∨v'.ownBlock=some k,?_⟩;refine h.zgK ⟨_,hN,λk hk=>?_⟩ esg (λk hk=>?_) (λk hk=>?_) ⟨hs.os,hs.tape,hs.output,hs.size,λk hk hn=>hs.block k hk (λx=>x.elim (λx=>hn (x▸hf nb (zj0 rfl))) (λx=>hn (hf k (zj1 (zj1 (zj1 (zj1 (zj1 (zj1 (zj0 x.symm))))))))))⟩
 .rcases hk with rfl|rfl|e|e|e|e|e|⟨d,hd,e⟩
  .exact zj0 (hf _ (zj0 rfl))
  .exact zj0 (hf _ (zj1 (zj0 rfl)))
  .exact zj0 (hf k (zj1 (zj1 (zj0 e))))
  .exact zj0 (hf k (zj1 (zj1 (zj1 (zj0 e)))))
  .exact zj0 (hf k (zj1 (zj1 (zj1 (zj1 (zj0 e))))))
  .exact zj0 (hf k (zj1 (zj1 (zj1 (zj1 (zj1 (zj0 e)))))))
  .exact zj1 e
  exact zj0 (hf k (zj1 (zj1 (zj1 (zj1 (zj1 (zj1 (zj1 (⟨d,hd,e⟩)))))))))
 .rcases hk with hk|hk
  .exact zj0 hk
  rcases hv k hk with h1|h1
  .exact zj0 (hf k (zj1 (zj1 (zj1 (zj1 (zj1 (zj1 (zj0 h1))))))))
  exact zj1 h1
 rcases hk with hk|hk
 .exact zjE (h.fl k hk).2 hs.size
 exact(hown.lt k hk).2
theorem NodeW.zhw(h:NodeW B es m F R nb kb rb cb n i s w)(hA:NodeAt nb kb cb V s w)(hf:∀k,V.zgH nb cb k→F k)(v':Value)
 (hb:w'.heap[nb]? =some (.cells (nodeA kb cb { V with wv:=v' } s') 135 (0,0))) (hown:w'.ownsRow 0 9 1 v' s'.wait.length (List.map Value.string s'.wait)) (hat:v'.ownBlock=V.wv.ownBlock∨∀g,v'.ownBlock=some g→w.heap.size≤g) (hs:zk (λk=>k=nb∨some k=V.wv.ownBlock) w w')
 (edec:s'.dec=s.dec)
 (elog:s'.log=s.log)
 (eahead:s'.ahead=s.ahead)
 (etims:s'.tims=s.tims)
 (eout:s'.out=s.out)
 (esg:s'.sg=s.sg):∃F',NodeW B es m F' R nb kb rb cb n i s' w'∧Goes F R w F' R w':=by
 obtain⟨n1,n2,n3,n4,n5,n6⟩:=hA.rows;have hv:∀g,v'.ownBlock=some g→V.wv.ownBlock=some g∨w.heap.size≤g:=λg hg=>by
  rcases hat with h1|h1
  .exact zj0 (h1.symm.trans hg)
  exact zj1 (h1 g hg)
 have hN:NodeAt nb kb cb { V with wv:=v' } s' w':=by
  refine⟨hb,by rw[edec];exact hA.eds,?_,?_,?_,?_,?_,?_,?_,?_,?_,hA.acc⟩
  .exact zb hA.dec λg e hg=>hs.block g hg (λx=>x.elim (λx=>n1 (x▸e)) (λx=>zO hA.dec hA.wait (by decide) g e x.symm))
  .exact λd hd=>zb (hA.cert d hd) λg e hg=>hs.block g hg (λx=>x.elim (λx=>n6 d hd (x▸e)) (λx=>hA.awc d hd g e x.symm))
  .exact hown
  .rw [elog];exact zb hA.log λg e hg=>hs.block g hg (λx=>x.elim (λx=>n3 (x▸e)) (λx=>zO hA.log hA.wait (by decide) g e x.symm))
  .rw [eahead];exact zb hA.ahead λg e hg=>hs.block g hg (λx=>x.elim (λx=>n4 (x▸e)) (λx=>zO hA.ahead hA.wait (by decide) g e x.symm))
  .rw [etims];exact zb hA.tims λg e hg=>hs.block g hg (λx=>x.elim (λx=>n5 (x▸e)) (λx=>zO hA.tims hA.wait (by decide) g e x.symm))
  .rw [eout];obtain⟨a,b,hc⟩:=hA.chan;exact⟨a,b,(hs.block cb (qT hA.chan) (λx=>x.elim (λx=>hA.nc x.symm) (λx=>yD hA.wait hA.chan x.symm))).trans hc⟩
  .exact hA.alog
  intro d hd g hg ha;rcases hv g ha with h1|h1
  .exact hA.awc d hd g hg h1
  have:=((hA.cert d hd).lt g hg).2;omega
 refine⟨λk=>F k∨v'.ownBlock=some k,?_⟩;refine h.zgK ⟨_,hN,λk hk=>?_⟩ esg (λk hk=>?_) (λk hk=>?_) ⟨hs.os,hs.tape,hs.output,hs.size,λk hk hn=>hs.block k hk (λx=>x.elim (λx=>hn (x▸hf nb (zj0 rfl))) (λx=>hn (hf k (zj1 (zj1 (zj1 (zj0 x.symm)))))))⟩
 .rcases hk with rfl|rfl|e|e|e|e|e|⟨d,hd,e⟩
  .exact zj0 (hf _ (zj0 rfl))
  .exact zj0 (hf _ (zj1 (zj0 rfl)))
  .exact zj0 (hf k (zj1 (zj1 (zj0 e))))
  .exact zj1 e
  .exact zj0 (hf k (zj1 (zj1 (zj1 (zj1 (zj0 e))))))
  .exact zj0 (hf k (zj1 (zj1 (zj1 (zj1 (zj1 (zj0 e)))))))
  .exact zj0 (hf k (zj1 (zj1 (zj1 (zj1 (zj1 (zj1 (zj0 e))))))))
  exact zj0 (hf k (zj1 (zj1 (zj1 (zj1 (zj1 (zj1 (zj1 (⟨d,hd,e⟩)))))))))
 .rcases hk with hk|hk
  .exact zj0 hk
  rcases hv k hk with h1|h1
  .exact zj0 (hf k (zj1 (zj1 (zj1 (zj0 h1)))))
  exact zj1 h1
 rcases hk with hk|hk
 .exact zjE (h.fl k hk).2 hs.size
 exact(hown.lt k hk).2
theorem NodeW.zgX{out':List zj5}(h:NodeW B es m F R nb kb rb cb n i s w)(hc:qX w' cb out')(ho:qB cb w w'):
 NodeW B es m F R nb kb rb cb n i { s with out:=out' } w'∧Goes F R w F R w':=by
 obtain⟨V,hA,hf⟩:=h.node;have hN:NodeAt nb kb cb V { s with out:=out' } w':=by
  refine⟨(ho.block nb hA.nc).trans hA.blk,hA.eds,zb hA.dec λg e _=>ho.block g (λx=>yD hA.dec hA.chan (x▸e)),λd hd=>zb (hA.cert d hd) λg e _=>ho.block g (λx=>yD (hA.cert d hd) hA.chan (x▸e)),zb hA.wait λg e _=>ho.block g (λx=>yD hA.wait hA.chan (x▸e)),zb hA.log λg e _=>ho.block g (λx=>yD hA.log hA.chan (x▸e)),zb hA.ahead λg e _=>ho.block g (λx=>yD hA.ahead hA.chan (x▸e)),zb hA.tims λg e _=>ho.block g (λx=>yD hA.tims hA.chan (x▸e)),hc,hA.alog,hA.awc,hA.acc⟩
 exact h.zgK ⟨V,hN,hf⟩ rfl (λk hk=>zj0 hk) (λk hk=>by rw[ho.size];exact(h.fl k hk).2) ⟨ho.os,ho.tape,ho.output,by rw[ho.size];exact zjA _,λk _ hn=>ho.block k (λe=>hn (e▸hf cb (zj1 (zj0 rfl))))⟩
def za.zf5(s:za)(e:zl):za:=if e.m.h=(s.zfF:Int) then { s with log:=s.log++[e] } else { s with ahead:=s.ahead++[e] }
theorem gZ(e:zl){w:World}(h:NodeW B es m F R nb kb rb cb n i s w)(hl:s.log.length≤100000000)(ha:s.ahead.length≤100000000):
 Calls prog 81 #[.pointer (some ⟨nb,0,none⟩),.agg e.cells] w λen w'=>en=.returned (.tuple #[])∧∃F',NodeW B es m F' R nb kb rb cb n i (s.zf5 e) w'∧Goes F R w F' R w':=by
 obtain⟨V,hA,hf⟩:=h.node;have aa:∀W,Below w.heap.size w W→Calls prog 126 #[.pointer (some ⟨nb,0,none⟩),.int .i64 e.m.h] W λen w'=>en=.returned (.pointer (some ⟨nb,if e.m.h=(s.zfF:Int) then 37 else 38,none⟩))∧w'=W:=λW hW=>JE nb kb cb e.m.h V s W (hA.below hW);by_cases hh:e.m.h=(s.zfF:Int)
 .rw [zj2 hh] at aa;refine(XA nb 37 (nodeA kb cb V s) 135 s.log e V.lv w hA.blk (by decide) rfl hA.log hl aa).mono ?_;rintro en w' ⟨v',rfl,h1,h2,h3,h4⟩;refine⟨rfl,?_⟩;unfold za.zf5;rw[zj2 hh];exact h.ziz (s':={ s with log:=s.log++[e] }) hA hf v' h1 (by rw[zjO];exact h2) h3 h4 rfl rfl rfl rfl rfl rfl
 rw[zj3 hh] at aa;refine(XA nb 38 (nodeA kb cb V s) 135 s.ahead e V.av w hA.blk (by decide) rfl hA.ahead ha aa).mono ?_;rintro en w' ⟨v',rfl,h1,h2,h3,h4⟩;refine⟨rfl,?_⟩;unfold za.zf5;rw[zj3 hh];exact h.zia (s':={ s with ahead:=s.ahead++[e] }) hA hf v' h1 (by rw[zjO];exact h2) h3 h4 rfl rfl rfl rfl rfl rfl
end
section
open Proofs.Tryz
variable{s:za}{i nb kb cb:Nat}{k v:Int}{nl:Bool}{t:zj5}
theorem GJ(h:YH s.x (i:Int)=0):s.zfI i k v nl t=s:=by unfold za.zfI;rw[zj2 h]
theorem zcI(h:hasB k (s.zfF:Int) (s.round:Int) (i:Int) v nl t.size=false):s.zfI i k v nl t=s:=by
 unfold za.zfI;split
 .rfl
 rw[zj3 (by rw[h];exact zjX)]
theorem ZV(h:¬YH s.x (i:Int)=0)(hb:hasB k (s.zfF:Int) (s.round:Int) (i:Int) v nl t.size=true):
 s.zfI i k v nl t={ { s with sg:=signR s.sg i (s.enc i k v nl t) } with out:=put1 s.out (s.enc i k v nl t) }.zf5 ⟨s.msg i k v nl t,s.enc i k v nl t,true⟩:=by
 unfold za.zfI;rw[zj3 h,zj2 hb];exact(zj2 rfl).symm
theorem NodeAt.fresh{V:yc}{w:World}(h:NodeAt nb kb cb V s w):∀j,V.zgH nb cb j->j≠w.heap.size:=λj hj e=>by have:=h.lt j hj;omega
theorem Tryz.zhA:(prog.info? 57).map (·.size)=some 7:=by kernel_rfl
theorem vQ{B:Nat}{es:List Addr}{m:Int}{F R:Nat->Prop}{rb n:Nat}(k h0 r0 f0 v:Int)(nl:Bool)(t:zj5)(a1':Addr){w:World}(h:NodeW B es m F R nb kb rb cb n i s w)(he1:es[1]? =some a1')(hl:s.log.length<=100000000)(ha:s.ahead.length<=100000000)(hsg:(s.sg i).length<=4000000000000)(ht:t.size<=maxLen):
 Calls prog 147 #[pA nb 0,.agg #[iA k,iA h0,iA r0,iA f0,iA v,bA nl,sA t]] w λen w'=>en=.returned (.tuple #[])/\∃F' R',NodeW B es m F' R' nb kb rb cb n i (s.zfI i k v nl t) w'/\Goes F R w F' R' w':=by
 have HH:=zc h;obtain⟨V,hA,hf⟩:=h.node

 obtain⟨w1,ai⟩:=gen (w.alloc (.cells #[iA k,iA h0,iA r0,iA f0,iA v,bA nl,sA t] 57));have az:BW w w1:=by rw[ai];exact bwA w
 have aX:w1.heap[w.heap.size]? =some (.cells #[iA k,iA h0,iA r0,iA f0,iA v,bA nl,sA t] 57 (0,0)):=by rw[ai];exact zjC w _
 have aU:w1.heap.size=w.heap.size+1:=by rw[ai];simp
 have aQ:=zc hA.fresh;have aE:=hA.below az;have c0:w1.cell? (aA nb 0)=some (pA kb 0):=aE.cell 0 rfl;have c0':(w.alloc (.cells #[iA k,iA h0,iA r0,iA f0,iA v,bA nl,sA t] 57)).cell? (aA nb 0)=some (pA kb 0):=by rw[<-ai];exact c0
 obtain⟨bm,aP,aG,bl,HZ1,bf,bs,HT⟩:=jR aE aE.reg az aX aU ai hsg ht;obtain⟨bD,HL,bG⟩:=zS he1 hl ha;have ah:Hid (qh w1 kb rb i):=(HH.o.below az).key;clear aE az aX aU ai hsg ht he1 hl ha h hf hA;by_cases aj:YH s.x (i:Int)=0
 .have HS:Hid (s.zfI i k v nl t=s):=GJ aj;go_enter func147,ntmps147;go_wp2_with fail
  rw[<-bf.o];refine(xX kb rb i w1 ah).mono ?_;rintro e w2 ⟨rfl,al⟩;have aH:=al.symm;clear al;subst aH;clear c0';go_wp2_with (first|(refine zj6 rfl 116 _ rfl nb 1 rfl (yU s.x) _ aP underlying116 rfl (by rw[Tryz.zfG];simp[yU]) ?_)|fail)
  refine(vy s.x (i:Int) w1).mono ?_;rintro e w3 ⟨rfl,ad⟩;have aT:Hid (BW w w3):=aG.o.trans (ad.mono aG.o.size);clear ad;rw[aj];go_wp2;exact zjT (v:=.tuple #[]) (by simp[results,results147]) rfl ⟨rfl,F,R,by rw[HS.o];exact HH.o.below aT,Goes.below aT⟩
 obtain⟨pw,aw⟩:=gen (YH s.x (i:Int));have q0:decide (pw=0)=false:=zjR (by rw[aw];exact aj);have q1:¬pw=0:=by rw[aw];exact aj
 have bx:=zc aw;clear aw;go_enter func147,ntmps147;go_wp2_with fail
 rw[<-bf.o];refine(xX kb rb i w1 ah).mono ?_;rintro e w2 ⟨rfl,al⟩;have aH:=al.symm;clear al;subst aH;clear c0';go_wp2_with (first|(refine zj6 rfl 116 _ rfl nb 1 rfl (yU s.x) _ aP underlying116 rfl (by rw[Tryz.zfG];simp[yU]) ?_)|fail)
 refine(vy s.x (i:Int) w1).mono ?_;rintro e w3 ⟨rfl,ad⟩;have aT:=zc ad;have bw:Hid (w3.heap[w.heap.size]? =some (.cells #[iA k,iA h0,iA r0,iA f0,iA v,bA nl,sA t] 57 (0,0))):=blk bl ad;have bH:Hid (NodeAt nb kb cb V s w3):=bm.o.below ad;have bE:Hid (BW w w3):=aG.o.trans (ad.mono aG.o.size);clear ad;rw[<-bx.o];go_wp2_with fail
 refine rgd (S:=λW=>NodeAt nb kb cb V s W) (bH.o.frame λ_ _=>rfl) λhH=>?_;refine yd [0,2,3,4,5,6,7] hH (λx h=>show x.cell? (aA nb 43)=some (iA s.round) from h.cell 43 rfl) ?_;refine zv 1 λK hK=>?_;go_simp;refine(zH nb kb cb V s _ hH).mono ?_;rintro e w4 ⟨rfl,aV⟩;have bn:=aV.symm;clear aV;subst bn;refine hK.out _ _ hH λhH=>?_;clear hK K
 try simp only[AP,AQ]
 refine yd [8] hH (λ_ h=>h) ?_;have q0:w3.drew.heap[w.heap.size]? =some (.cells #[iA k,iA h0,iA r0,iA f0,iA v,bA nl,sA t] 57 (0,0)):=bw.o;have fz0:w3.drew.frozen? (nA w 1)=false:=zt q0 1;have cz0:w3.drew.cell? (nA w 1)=some (iA h0):=zjD w3.drew w.heap.size 1 _ _ _ q0;refine zv 9 λK hK=>?_;go_simp;obtain⟨a1,aD⟩:∃z,z=(w3.setCell (nA w 1) (iA s.zfF)).drew:=⟨_,rfl⟩;have o0:kq w.heap.size w3.drew a1:=by rw[aD];have hx:=zf w3 w.heap.size 1 (iA s.zfF);exact⟨hx.os,hx.tape,hx.output,hx.size,hx.block⟩
 have g0:a1.heap[w.heap.size]? =some (.cells #[iA k,iA s.zfF,iA r0,iA f0,iA v,bA nl,sA t] 57 (0,0)):=by rw[aD];exact setCell_row (w:=w3) q0 1 _
 rw[<-aD];have n0:NodeAt nb kb cb V s a1:=hH.frame λj hj=>o0.block j (λe=>aQ j hj e);refine hK.out _ _ n0 λhH=>?_;clear hK K aD
 try simp only[AP,AQ]
 refine yd [10] hH (λ_ h=>h) ?_;have q1:a1.heap[w.heap.size]? =some (.cells #[iA k,iA s.zfF,iA r0,iA f0,iA v,bA nl,sA t] 57 (0,0)):=g0;have fz1:a1.frozen? (nA w 2)=false:=zt q1 2;have cz1:a1.cell? (nA w 2)=some (iA r0):=zjD a1 w.heap.size 2 _ _ _ q1;refine zv 11 λK hK=>?_;go_simp;obtain⟨a2,aC⟩:=gen (a1.setCell (nA w 2) (iA s.round));have o1:kq w.heap.size a1 a2:=by rw[aC];have hx:=zf a1 w.heap.size 2 (iA s.round);exact⟨hx.os,hx.tape,hx.output,hx.size,hx.block⟩
 have g1:a2.heap[w.heap.size]? =some (.cells #[iA k,iA s.zfF,iA s.round,iA f0,iA v,bA nl,sA t] 57 (0,0)):=by rw[aC];exact setCell_row (w:=a1) q1 2 _
 rw[<-aC];have n1:NodeAt nb kb cb V s a2:=hH.frame λj hj=>o1.block j (λe=>aQ j hj e);refine hK.out _ _ n1 λhH=>?_;clear hK K aC
 try simp only[AP,AQ]
 refine yd [12] hH (λ_ h=>h) ?_;have q2:a2.heap[w.heap.size]? =some (.cells #[iA k,iA s.zfF,iA s.round,iA f0,iA v,bA nl,sA t] 57 (0,0)):=g1;have fz2:a2.frozen? (nA w 3)=false:=zt q2 3;have cz2:a2.cell? (nA w 3)=some (iA f0):=zjD a2 w.heap.size 3 _ _ _ q2;refine zv 13 λK hK=>?_;go_simp;obtain⟨a3,aB⟩:=gen (a2.setCell (nA w 3) (iA i));have o2:kq w.heap.size a2 a3:=by rw[aB];have hx:=zf a2 w.heap.size 3 (iA i);exact⟨hx.os,hx.tape,hx.output,hx.size,hx.block⟩
 have g2:a3.heap[w.heap.size]? =some (.cells #[iA k,iA s.zfF,iA s.round,iA i,iA v,bA nl,sA t] 57 (0,0)):=by rw[aB];exact setCell_row (w:=a2) q2 3 _
 rw[<-aB];have n2:NodeAt nb kb cb V s a3:=hH.frame λj hj=>o2.block j (λe=>aQ j hj e);refine hK.out _ _ n2 λhH=>?_;clear hK K aB
 try simp only[AP,AQ]
 refine dnr ?_;have aS:Hid (BW w a3):=bE.o.drew.trans (((o0.below (zjA _)).trans (o1.below (zjA _))).trans (o2.below (zjA _)) |>.mono (by exact zjA _));obtain⟨aR,bd⟩:=zn g2 (HH.o.below aS);have aZ:a3.cell? (aA 2 0)=some (eA a1'):=bd.o.glob.sent.cell 1 _ _ rfl bD;have au:=zc (xa k (s.zfF:Int) (s.round:Int) (i:Int) v nl t a1' a3 HT aZ);clear aZ bl aP bm ah c0 g2 g1 g0 o0 o1 o2 n0 n1 n2 q2 cz0 cz1 cz2 fz0 fz1 fz2;go_wp2_with (first|(refine zkb rfl 57 _ rfl w.heap.size rfl 57 #[iA k,iA s.zfF,iA s.round,iA i,iA v,bA nl,sA t] (0,0) _ aR underlying57 rfl Tryz.zhA ?_)|fail)
 refine au.o.mono ?_;rintro e w5 ⟨rfl,aL⟩;have aF:Hid (BW w w5):=aS.o.trans (aL.mono aS.o.size);have bk:Hid (w5.heap[w.heap.size]? =some (.cells #[iA k,iA s.zfF,iA s.round,iA i,iA v,bA nl,sA t] 57 (0,0))):=blk aR aL;clear aL au;by_cases ao:hasB k (s.zfF:Int) (s.round:Int) (i:Int) v nl t.size=true
 .rw [ao];unfold gM;simp only[if_true];obtain⟨fr,aK⟩:=gen (Gm k (s.zfF:Int) (s.round:Int) (i:Int) v nl t);rw[<-aK];have bC:=zc aK;clear aK;obtain⟨br,ak⟩:=zn (ZV (s:=s) (i:=i) (k:=k) (v:=v) (nl:=nl) (t:=t) aj ao) (HH.o.below aF);obtain⟨V5,bc,bo⟩:=ak.o.node;have d0:w5.cell? (aA nb 0)=some (pA kb 0):=bc.cell 0 rfl;have bh:=zc (zcB R rb n kb i s.sg fr w5 ak.o.ring ak.o.idn ak.o.key bs (λj hj=>(ak.o.rl j hj).2));clear bc bo ao aj aR bd;go_wp2_with fail
  refine bh.o.mono ?_;rintro e w6 ⟨rfl,aW⟩;obtain⟨R6,a8,aM⟩:=ak.o.zi7 aW;obtain⟨bq,bB⟩:=zn a8 aM;have bu:Hid (w6.heap[w.heap.size]? =some (.cells #[iA k,iA s.zfF,iA s.round,iA i,iA v,bA nl,sA t] 57 (0,0))):=(aM.same.block _ (zg bk.o) (λx=>x.elim (λx=>by have:=(HH.o.fl _ x).2;omega) (λx=>by have:=(HH.o.rl _ x).2;omega))).trans bk.o;clear aW a8 aM bh d0;obtain⟨w7,av⟩:=gen (w6.alloc (.cells #[sA fr] 9));have ay:BW w6 w7:=by rw[av];exact bwA w6
  have aJ:w7.heap[w6.heap.size]? =some (.cells #[sA fr] 9 (0,0)):=by rw[av];exact zjC w6 _
  have aO:=zc (bq.o.below ay);have bj:Hid (w7.heap[w.heap.size]? =some (.cells #[iA k,iA s.zfF,iA s.round,iA i,iA v,bA nl,sA t] 57 (0,0))):=blk bu ay;obtain⟨V7,ag,aY⟩:=aO.o.node;have an:w6.heap.size≠cb:=λe=>by
   obtain⟨x1,x2,h2⟩:=ag.chan;rw[<-e,aJ] at h2;cases h2
  have aa:∀j,j<1->∃b o,(some (nA w6 0):Option Addr)=some (aA b o)/\b≠cb/\w7.cell? (aA b (o+j))=some (sA ((λ_=>fr) j)):=λj hj=>by
   have e0:j=0:=by omega
   subst e0;exact⟨w6.heap.size,0,rfl,an,zjD w7 w6.heap.size 0 _ _ _ aJ⟩
  have aq:=zc (Qf nb 53 cb 1 1 (some (nA w6 0)) (λ_=>fr) s.out w7 (by omega) ag.nc ag.chan (ag.cell 53 rfl) aa);clear aa an;obtain⟨bF,aN⟩:=zn ay av;clear ay aJ ag aY av;go_wp2_with fail
  rw[<-aN.o];refine aq.o.mono ?_;rintro e w8 ⟨rfl,af,ax⟩;obtain⟨a7,bb⟩:=aO.o.zgX af ax;have bp:=zc a7;have bz:Hid (Goes F R w F R6 w8):=((Goes.below (F:=F) (R:=R) aF).trans bB).trans ((Goes.below (F:=F) (R:=R6) bF).trans bb);have bt:Hid (w8.heap[w.heap.size]? =some (.cells #[iA k,iA s.zfF,iA s.round,iA i,iA v,bA nl,sA t] 57 (0,0))):=(ax.block _ (λe=>by obtain⟨x1,x2,h2⟩:=af;have h3:=(ax.block w.heap.size);have h1:=bj.o;obtain⟨V7,ag,aY⟩:=aO.o.node;obtain⟨y1,y2,h4⟩:=ag.chan;rw[<-e,h1] at h4;cases h4)).trans bj;clear af ax a7 bb aq;have bg:=zc (gZ (⟨⟨k,(s.zfF:Int),(s.round:Int),(i:Int),v,nl,t⟩,fr,true⟩:zl) bp HL bG);go_wp2_with (first|(refine zkb rfl 57 _ rfl w.heap.size rfl 57 #[iA k,iA s.zfF,iA s.round,iA i,iA v,bA nl,sA t] (0,0) _ bt underlying57 rfl Tryz.zhA ?_)|fail)
  refine bg.o.mono ?_;rintro e w9 ⟨rfl,F9,a6,ba⟩;have ar:Hid (∃F' R',NodeW B es m F' R' nb kb rb cb n i (s.zfI i k v nl t) w9/\Goes F R w F' R' w9):=by
   refine⟨F9,R6,?_,bz.o.trans ba⟩;rw[br.o];unfold za.enc za.msg;rw[<-bC.o];exact a6
  clear a6 ba bg;go_wp2;first|exact bodyPost_end (v:=.tuple #[]) (by simp[results,results147]) rfl ⟨rfl,ar.o⟩|exact zjT (v:=.tuple #[]) (by simp[results,results147]) rfl ⟨rfl,ar.o⟩
 have ae:hasB k (s.zfF:Int) (s.round:Int) (i:Int) v nl t.size=false:=by simpa using ao
 have HS:Hid (s.zfI i k v nl t=s):=zcI ae;rw[ae];unfold gM;simp only[Bool.false_eq_true,if_false];clear ao ae;go_wp2;exact zjT (v:=.tuple #[]) (by simp[results,results147]) rfl ⟨rfl,F,R,by rw[HS.o];exact HH.o.below aF,Goes.below aF⟩
end
section
open Proofs.Tryz
variable{B nb kb rb cb n i:Nat}{es:List Addr}{m:Int}{F R:Nat->Prop}{s:za}
def za.zgE(s:za)(num:Nat):za:={ s with b1:=if num=1 then true else s.b1,b2:=if num=2 then true else s.b2,b3:=if num=3 then true else s.b3 }
theorem VI(kb cb num:Nat)(V:yc)(s:za)(h:num=1\/num=2\/num=3):(nodeA kb cb V s).setIfInBounds (46+num) (bA true)=nodeA kb cb V (s.zgE num):=by
 rcases h with rfl|rfl|rfl<;>rfl
theorem Qm(kb cb num:Nat)(V:yc)(s:za)(h:num=1\/num=2\/num=3):∃b,(nodeA kb cb V s)[46+num]? =some (bA b):=by
 rcases h with rfl|rfl|rfl
 .exact ⟨s.b1,rfl⟩
 .exact ⟨s.b2,rfl⟩
 exact⟨s.b3,rfl⟩
theorem Ze(nb kb cb num:Nat)(V:yc)(s:za)(w:World)(hA:NodeAt nb kb cb V (s.zgE num) w):
 Calls prog 73 #[pA nb 0] w λe w'=>e=.returned (iA s.zfF)/\w'=w:=zH nb kb cb V (s.zgE num) w hA
theorem zaR{num ticks:Nat}{V:yc}{v4:Value}{w w1 w3 w4:World}(h:NodeW B es m F R nb kb rb cb n i s w)(hA:NodeAt nb kb cb V s w)(hf:∀k,V.zgH nb cb k->F k)
 (hw1:w1=w.setCell (aA nb (46+num)) (bA true)) (hA1:NodeAt nb kb cb V (s.zgE num) w1) (hb3:BW w1 w3)
 (hn4:w4.heap[nb]? =some (.cells (((nodeA kb cb V (s.zgE num)).setIfInBounds 51 v4).setIfInBounds (51+1) (iA ((s.tb:Int)+1))) 135 (0,0)))
 (ho4:w4.ownsRow 0 223 5 v4 (s.tims.length+1) (qj (upT s.tims.length (s.tims++[⟨(num:Int),(s.zfF:Int),(s.round:Int),(s.time:Int)+ticks+s.round,(s.tb:Int)⟩]) s.tims.length)))
 (hat4:v4.ownBlock=V.tv.ownBlock\/∀g,v4.ownBlock=some g->w3.heap.size<=g) (hs4:zk (λk=>k=nb\/some k=V.tv.ownBlock) w3 w4):
 ∃F',NodeW B es m F' R nb kb rb cb n i (s.timer num ticks) w4/\Goes F R w F' R w4:=by
 have ad:kq nb w w1:=by rw[hw1];exact zf _ _ _ _
 obtain⟨af,ag⟩:=h.cellAt (s':=s.zgE num) hA hf hA1.blk ad rfl rfl rfl rfl rfl rfl rfl;have ae:=af.below hb3;have ah:=hA1.below hb3;have e:w4.heap[nb]? =some (.cells (nodeA kb cb { V with tv:=v4 } (s.timer num ticks)) 135 (0,0)):=by
  rw[hn4];have e1:((s.tb:Int)+1)=((s.tb+1:Nat):Int):=by omega
  rw[e1];rfl
 have aa:(s.timer num ticks).tims.length=s.tims.length+1:=by
  show(upT s.tims.length (s.tims++[_]) s.tims.length).length=_;rw[vM,zjO];rfl
 obtain⟨F',h1,h2⟩:=ae.zhy (s':=s.timer num ticks) ah hf v4 e (by rw[aa];exact ho4) hat4 hs4 rfl rfl rfl rfl rfl rfl;exact⟨F',h1,(ag.trans (Goes.below hb3)).trans h2⟩
theorem ju(num ticks:Nat){w:World}(hnum:num=1\/num=2\/num=3)(h:NodeW B es m F R nb kb rb cb n i s w)(htl:s.tims.length<=100000000)(htb:s.tb<=1000000000)(htm:s.time<=1000000000000)(htk:ticks<=1000)(hr:s.round<=1000):
 Calls prog 145 #[pA nb 0,iA num,iA ticks] w λen w'=>en=.returned (.tuple #[])/\∃F',NodeW B es m F' R nb kb rb cb n i (s.timer num ticks) w'/\Goes F R w F' R w':=by
 obtain⟨V,hA,hf⟩:=h.node;obtain⟨w1,al⟩:=gen (w.setCell (aA nb (46+num)) (bA true));have az:kq nb w w1:=by rw[al];exact zf _ _ _ _
 have aF:NodeAt nb kb cb V (s.zgE num) w1:=hA.store (by rw[al,setCell_row hA.blk,VI kb cb num V s hnum]) az rfl rfl rfl rfl rfl rfl;obtain⟨bx,aE⟩:=Qm kb cb num V s hnum;have c46:cE w nb (46+num) (bA bx):=hA.cell (46+num) aE;have f46:w.frozen? (aA nb (46+num))=false:=hA.frozen (46+num);have ag:(num:Int)<4:=by omega
 have hn0:¬(num:Int)<0:=by omega
 obtain⟨HH,aR,HF,ad,aG,aK⟩:=JQ h hA hf aF al htl;have aL:Hid (0<=(s.tb:Int)/\(s.tb:Int)<=1000000000):=by unfold Hid;omega
 have aH:(s.time:Int)<=1000000000000:=by omega
 have aJ:(ticks:Int)<=1000:=by omega
 have hr2:(s.round:Int)<=1000:=by omega
 have hwa:IntKind.i64.wrap ((s.time:Int)+(ticks:Int))=(s.time:Int)+ticks:=wrap_small _ (by omega) (by omega);have hwb:IntKind.i64.wrap ((s.time:Int)+(ticks:Int)+(s.round:Int))=(s.time:Int)+ticks+s.round:=wrap_small _ (by omega) (by omega);clear h hA hf aF al htl htb htm htk hr az aE;go_enter func145,ntmps145;go_wp2_with fail
 rw[<-aG.o];refine rgd (S:=λW=>NodeAt nb kb cb V (s.zgE num) W) (ad.o.frame λ_ _=>rfl) λhH=>?_;refine yd [0,1,3,4,5,6,7] hH (λx h=>show cE x nb 43 (iA s.round) from h.cell 43 rfl) ?_;refine Jp 2 9 (λK hK=>?_) λK hK=>?_;focus
  go_simp;refine(Ze nb kb cb num V s _ hH).mono ?_;rintro e w4 ⟨rfl,ae⟩;have aq:=ae.symm;clear ae;subst aq;refine hK.out _ _ hH λhH=>?_;clear hK K
  try simp only[AP,AQ]
  refine yd [8] hH (λ_ h=>h) ?_;refine zv 9 λK hK=>?_;go_simp;obtain⟨w2,aa⟩:∃z,z=(w1.alloc (.cells #[iA 0,iA 0,iA 0] 177)).drew:=⟨_,rfl⟩;have ah:BW w1 w2:=by rw[aa];exact(bwA w1).drew
  have au:w2.heap[w1.heap.size]? =some (.cells #[iA 0,iA 0,iA 0] 177 (0,0)):=by rw[aa];exact zjC w1 _
  rw[<-aa];refine hK.out _ _ (ad.o.below ah) λhH=>?_;clear hK K aa
  try simp only[AP,AQ]
 rotate_left;focus
  go_simp;obtain⟨w2,aa⟩:∃z,z=(w1.alloc (.cells #[iA 0,iA 0,iA 0] 177)).drew:=⟨_,rfl⟩;have ah:BW w1 w2:=by rw[aa];exact(bwA w1).drew
  have au:w2.heap[w1.heap.size]? =some (.cells #[iA 0,iA 0,iA 0] 177 (0,0)):=by rw[aa];exact zjC w1 _
  rw[<-aa];refine hK.out _ _ (ad.o.below ah) λhH=>?_;clear hK K aa
  try simp only[AP,AQ]
  refine zv 2 λK hK=>?_;go_simp;refine(Ze nb kb cb num V s _ hH).mono ?_;rintro e w4 ⟨rfl,ae⟩;have aq:=ae.symm;clear ae;subst aq;refine hK.out _ _ hH λhH=>?_;clear hK K
  try simp only[AP,AQ]
  refine yd [8] hH (λ_ h=>h) ?_
 rotate_left;all_goals
  refine zv 10 λK hK=>?_;rw[zj2 (by rfl)];refine zo 177 _ _ rfl w1.heap.size 0 #[iA num,iA s.zfF,iA s.round] rfl rfl 177 #[iA 0,iA 0,iA 0] au (by simp) (by simp[Value.oneCell']) Tryz.zgf ?_;intro w3 aw ay;have af:cL w3 w1.heap.size #[iA num,iA s.zfF,iA s.round] 177:=aw;have an:BW w1 w3:=ah.trans (ay.below (zjA _));refine hK.out _ _ (ad.o.below an) λhH=>?_;clear hK K hH;refine dnr ?_;obtain⟨ao,aQ,ak⟩:=zS af an (ad.o.below an);have aO:Hid (w1.heap.size≠nb):=λe=>by have:=zg ad.o.blk;omega
  clear aw af an ay ah au;have j1:cE w3 nb 50 (iA s.time):=ak.o.cell 50 rfl;have j2:cE w3 nb 43 (iA s.round):=ak.o.cell 43 rfl;go_wp2_with fail
  refine rgd (S:=λW=>cE W nb 50 (iA s.time)/\cE W nb 43 (iA s.round)/\cL W w1.heap.size #[iA num,iA s.zfF,iA s.round] 177) ⟨j1,j2,ao⟩ λhH=>?_;refine takeN [(0,some 22,pA nb 0),(1,some 23,pA nb 0),(2,some 24,pA nb 51),(3,some 25,.agg #[iA num,iA s.zfF,iA s.round]),(4,some 26,pA nb 0),(5,some 27,pA nb 0),(6,some 28,pA nb 50),(7,some 29,iA s.time),(8,some 30,iA ticks),(9,some 31,iA ((s.time:Int)+ticks)),(10,some 32,pA nb 0),(11,some 33,pA nb 0),(12,some 34,pA nb 43),(13,some 35,pA nb 43),(14,some 36,iA s.round),(15,some 37,iA ((s.time:Int)+ticks+s.round))] _ _ hH (by repeat(first|exact zj7|((first|refine tkc rfl rfl (zka (by rfl) 177 _ rfl w1.heap.size 0 rfl [iA num,iA s.zfF,iA s.round] _ (λw h=>yG h.2.2) underlying177 rfl (by rw[Tryz.zgf];rfl)) ?_|(refine tkc rfl rfl (zj0 ⟨by rfl,λx h=>?_⟩) ?_;focus(have f0:cE x nb 50 (iA s.time):=h.1;have f1:cE x nb 43 (iA s.round):=h.2.1;go_simp;done)));simp only[AP]))) ?_;simp only[ze,AP,pA];refine zv 16 λK hK=>?_;go_simp;refine(zcj nb 51 0 (nodeA kb cb V (s.zgE num)) 135 s.tims V.tv (num:Int) (s.zfF:Int) (s.round:Int) ((s.time:Int)+ticks+s.round) (s.tb:Int) w3.drew ak.o.blk (by decide) rfl rfl ak.o.tims (zjG _) aK aL).mono ?_;rintro e w4 ⟨v4,rfl,ag,ax,ai,ar⟩;obtain⟨aP,aN,av,aM⟩:=qO ag ax ai ar;have aD:cE w4 nb 50 (iA s.time):=zjD w4 nb 50 _ _ _ ag;have aC:cE w4 nb 43 (iA s.round):=zjD w4 nb 43 _ _ _ ag;have aB:cL w4 w1.heap.size #[iA num,iA s.zfF,iA s.round] 177:=(ar.block _ (zg ao) (λx=>x.elim (λx=>aO x) (λx=>yI ak.o.tims ao (by decide) x.symm))).trans ao;clear ag ax ai ar;refine hK.out _ _ ⟨aD,aC,aB⟩ λhH=>?_;clear hK K hH aD aC aB;refine dnr ?_;have aj:=zc (zaR (ticks:=ticks) HH aR HF aG ad aQ.o.drew aP aN av aM);go_wp2;first|exact bodyPost_end (v:=.tuple #[]) (by simp[results,results145]) rfl ⟨rfl,aj.o⟩|exact zjT (v:=.tuple #[]) (by simp[results,results145]) rfl ⟨rfl,aj.o⟩

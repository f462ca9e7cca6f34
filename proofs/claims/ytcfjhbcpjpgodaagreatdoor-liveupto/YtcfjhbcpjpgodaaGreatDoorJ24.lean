import Derived.Test.YtcfjhbcpjpgodaaGreatDoorJournal
import Derived.Test.YtcfjhbcpjpgodaaGreatDoorJ19
import Derived.Test.YtcfjhbcpjpgodaaGreatDoorJ17
namespace Go.Proofs.YtcfjhbcpjpgodaaGreatDoor
open Go.RowKit Proofs.Tryz
set_option maxRecDepth 100000
set_option maxHeartbeats 0
set_option linter.all false
section
def zdj(fits:zl->Bool):List zl->Nat->Int
 | [],_=> -1
 |e::l,k=>if fits e=true then(k:Int) else zdj fits l (k+1)
theorem Yh{fits:zl->Bool}:∀(l:List zl) (k:Nat),(∀e∈l,fits e=false)->zdj fits l k= -1
 | [],_,_=>rfl
 |e::l,k,h=>by
  unfold zdj;rw[h e (zjV ..),zj3 (by decide)];exact Yh l (k+1) λx hx=>h x (List.mem_cons_of_mem _ hx)
theorem Yg{fits:zl->Bool}:∀(l:List zl) (k j:Nat),j<l.length->(∀e∈l.take j,fits e=false)->fits (l.getD j yl)=true->zdj fits l k=((k+j:Nat):Int)
 | [],_,j,h,_,_=>by simp at h
 |e::l,k,0,_,_,ht=>by
  unfold zdj;rw[show fits e=true from ht,zj2 rfl];rfl
 |e::l,k,j+1,hj,ha,ht=>by
  unfold zdj;rw[ha e (by simp),zj3 (by decide),Yg l (k+1) j (by simpa using hj) (λx hx=>ha x (by rw[List.take_succ_cons];exact List.mem_cons_of_mem _ hx)) (by simpa using ht)]
  congr 1
  omega
theorem JO(fits:zl->Bool):∀l:List zl,(∀e∈l,fits e=false)\/∃k,k<l.length/\(∀e∈l.take k,fits e=false)/\fits (l.getD k yl)=true
 | []=>zj0 (by simp)
 |e::l=>by
  cases he:fits e with
  |true=>exact zj1 ⟨0,by simp,by simp,by simpa using he⟩
  |false=>
   rcases JO fits l with h|⟨k,hk,ha,ht⟩
   .left;intro x hx;rcases List.mem_cons.1 hx with rfl|hx
    .exact he
    .exact h x hx
   .right;refine⟨k+1,by simpa using hk,?_,by simpa using ht⟩;intro x hx;rw[List.take_succ_cons] at hx;rcases List.mem_cons.1 hx with rfl|hx
    .exact he
    .exact ha x hx
theorem Qx(g:Nat)(lb:Array Value)(fits:zl->Bool)(l:List zl)(p:Option Addr)(cap:Nat)(w:World)(eg:qo g)(hl:kD w w.heap.size p l.length (λi=>l.getD i yl))(hm:l.length<=maxLen)(hf:FitsAt g lb fits l w):
 Calls prog 141 #[.slice p l.length cap,.func (.func g) #[] lb] w λe w'=>e=.returned (iA (zdj fits l 0))/\BW w w':=by
 obtain⟨HL,HF⟩:=zn hl hf;have hmx:l.length<=9223372036854775807:=by unfold maxLen at hm;omega
 have eg':∀(args:Array Value) (w:World),(callFunc g args).run prog w=.ok (.enter g args) w:=eg;clear hl hm hf eg;go_enter func141,ntmps141;go_wp2;go_loopw [5,8] (λ_ i wr=>∃j:Nat,j<=l.length/\i=iA j/\(∀e∈l.take j,fits e=false)/\BW w wr) (λ_ i _=>l.length-(intOf i).toNat)
 case atStart=>exact⟨0,zjG _,rfl,λe he=>by simp at he,zjB _ _⟩
 obtain⟨j,hj,rfl,ao,hb⟩:=hrel;obtain⟨HB,aj⟩:=zn hb ao;clear hb ao;by_cases ae:j=l.length
 .have HI:Hid (zdj fits l 0= -1):=Yh l 0 (by have h:=aj.o;rw[ae,zke] at h;exact h);have hge:¬(j:Int)<l.length:=by omega
  clear ae;go_wp2;go_ret;exact⟨by rw[HI.o];rfl,HB⟩
 have ag:j<l.length:=by omega
 have au:(j:Int)<l.length:=by omega
 obtain⟨b,o,rfl,av,an⟩:=HL.o.below HB j ag;obtain⟨ev,ai⟩:=gen (l.getD j yl);have aa:=an;simp only[<-ai] at aa;obtain⟨⟨K,H,R,f,V,nl,s⟩,fr,own⟩:=ev;have aq:Hid (wr.rangeAt b (o+j*9) [iA K,iA H,iA R,iA f,iA V,bA nl,sA s,sA fr,bA own]):=aa;have ak:=zc ai;clear an aa ai av;have ad:=kz l yl j ag;rw[<-ak.o] at ad;have ar:=zc (HF wr ⟨⟨K,H,R,f,V,nl,s⟩,fr,own⟩ ad HB);clear ad;cases ah:fits ⟨⟨K,H,R,f,V,nl,s⟩,fr,own⟩ with
 |false=>
  have aw:Hid (∀e∈l.take (j+1),fits e=false):=by
   intro e he;rw[ym l yl j ag,zjU] at he;rcases he with he|he
   .exact aj e he
   rw[zjW] at he;rw[he,<-ak.o];exact ah
  go_wp2_with (first|(refine zj6 rfl 164 _ rfl b (o+j*9) rfl [iA K,iA H,iA R,iA f,iA V,bA nl,sA s,sA fr,bA own] _ aq underlying164 rfl Tryz.zfS ?_)|(go_at_fn g;refine ar.o.mono ?_;rw[ah];rintro e w3 ⟨rfl,af⟩;have al:Hid (BW wr w3):=af;clear af)|fail)
  go_roundw
  case rel=>exact⟨j+1,by omega,by go_num,aw.o,HB.o.trans (al.o.mono HB.o.size)⟩
  simp[intOf];omega
 |true=>
  have HI:Hid (zdj fits l 0=(j:Int)):=by
   unfold Hid;rw[Yg l 0 j ag aj.o (by rw[<-ak.o];exact ah),zj8]
  go_wp2_with (first|(refine zj6 rfl 164 _ rfl b (o+j*9) rfl [iA K,iA H,iA R,iA f,iA V,bA nl,sA s,sA fr,bA own] _ aq underlying164 rfl Tryz.zfS ?_)|(go_at_fn g;refine ar.o.mono ?_;rw[ah];rintro e w3 ⟨rfl,af⟩;have al:Hid (BW wr w3):=af;clear af)|fail)
  go_ret;exact⟨by rw[HI.o];rfl,HB.o.trans (al.o.mono HB.o.size)⟩
def jX(cur:Array Value)(cap:Nat)(l:List zl):Prop:=l.length<=cap/\cap<=maxLen/\cur.size=cap*9/\cur.toList.take (l.length*9)=kQ l
def yf(w:World)(g cap:Nat)(l:List zl):Prop:=∃cur,w.heap[g]? =some (.cells cur 164 (0,0))/\jX cur cap l
theorem Gk(x:zl):∀(l:List zl) (k:Nat),k<l.length->kQ (l.set k x)=(kQ l).take (k*9)++x.cells.toList++(kQ l).drop (k*9+9)
 | [],k,h=>by simp at h
 |m::l,0,_=>by
  have hc:m.cells.toList.length=9:=by simp[zl.cells]
  have e:kQ (m::l)=m.cells.toList++kQ l:=by simp[kQ]
  have e2:kQ (x::l)=x.cells.toList++kQ l:=by simp[kQ]
  rw[List.set_cons_zero,e,e2,Nat.zero_mul,List.take_zero,List.nil_append,zj8,List.drop_append_of_le_length (by omega),List.drop_of_length_le (by omega),List.nil_append]
 |m::l,k+1,h=>by
  have hc:m.cells.toList.length=9:=by simp[zl.cells]
  have ih:=Gk x l k (by simpa using h);have e:kQ (m::l)=m.cells.toList++kQ l:=by simp[kQ]
  have e2:kQ (m::l.set k x)=m.cells.toList++kQ (l.set k x):=by simp[kQ]
  rw[List.set_cons_succ,e,e2,ih];have h1:(k+1)*9=m.cells.toList.length+k*9:=by omega
  have h2:(k+1)*9+9=m.cells.toList.length+(k*9+9):=by omega
  rw[h1,List.take_length_add_append,Nat.add_assoc,List.drop_length_add_append];simp[List.append_assoc]
theorem jX.set{cur:Array Value}{cap:Nat}{l:List zl}(h:jX cur cap l)(k:Nat)(x:zl)(hk:k<l.length):jX (cur.toList.take (k*9)++x.cells.toList++cur.toList.drop (k*9+9)).toArray cap (l.set k x):=by
 obtain⟨h1,h2,h3,h4⟩:=h;have hx:x.cells.toList.length=9:=by simp[zl.cells]
 have hk5:k*9+9<=l.length*9:=by
  have:(k+1)*9<=l.length*9:=Nat.mul_le_mul_right 9 (by omega);omega
 have hlc:l.length*9<=cap*9:=Nat.mul_le_mul_right 9 h1;obtain⟨R,hR⟩:=gen (cur.toList.drop (l.length*9));have aa:cur.toList=kQ l++R:=by rw[hR,<-h4,List.take_append_drop]
 have ad:(kQ l).length=l.length*9:=jT l;refine⟨by simpa using h1,h2,?_,?_⟩
 .simp only[List.size_toArray,List.length_append,List.length_take,List.length_drop,hx,Array.length_toList];omega
 have e:cur.toList.take (k*9)++x.cells.toList++cur.toList.drop (k*9+9)=kQ (l.set k x)++R:=by
  rw[aa,Gk x l k hk,List.take_append_of_le_length (by omega),List.drop_append_of_le_length (by omega)];simp[List.append_assoc]
 rw[List.toList_toArray,e,List.length_set,List.take_append_of_le_length (by rw[jT,List.length_set];exact zjA _),List.take_of_length_le (by rw[jT,List.length_set];exact zjA _)]
theorem JY:∀(l:List zl) (k:Nat),kQ (l.take k)=(kQ l).take (k*9)
 | [],k=>by simp[kQ]
 |m::l,0=>by simp[kQ]
 |m::l,k+1=>by
  have hc:m.cells.toList.length=9:=by simp[zl.cells]
  have e:kQ (m::l)=m.cells.toList++kQ l:=by simp[kQ]
  have e2:kQ (m::l.take k)=m.cells.toList++kQ (l.take k):=by simp[kQ]
  rw[List.take_succ_cons,e,e2,JY l k,show(k+1)*9=m.cells.toList.length+k*9 by omega,List.take_length_add_append]
theorem jX.front{cur cur':Array Value}{cap:Nat}{l:List zl}(h:jX cur cap l)(k:Nat)(hk:k<=l.length)(hs:cur'.size=cur.size)(ht:cur'.toList.take (k*9)=cur.toList.take (k*9)):jX cur' cap (l.take k):=by
 obtain⟨h1,h2,h3,h4⟩:=h;have hl:(l.take k).length=k:=by rw[List.length_take];omega
 refine⟨by omega,h2,by omega,?_⟩;rw[hl,JY,<-h4,List.take_take,Nat.min_eq_left (Nat.mul_le_mul_right 9 hk),ht]
theorem yf.ziW{w:World}{g cap:Nat}{l:List zl}(h:yf w g cap l):kD w w.heap.size (some (aA g 0)) l.length (λi=>l.getD i yl):=λi hi=>by
 obtain⟨cur,hg,h1,h2,h3,h4⟩:=h;refine⟨g,0,rfl,zg hg,λj v hv=>?_⟩;rw[zjD w g _ _ _ _ hg,zj8];have hj:j<9:=by have:=(List.getElem?_eq_some_iff.1 hv).1;simpa [zl.cells] using this
 have e1:(cur.toList.take (l.length*9))[i*9+j]? =(kQ l)[i*9+j]? :=by rw[h4]
 have aa:i*9+j<l.length*9:=by
  have:(i+1)*9<=l.length*9:=Nat.mul_le_mul_right 9 (by omega);omega
 rw[zkc,zj2 aa] at e1;rw[<-zkf,e1,<-hv];exact Gl l j hj i hi
theorem yf.keep{w w':World}{g cap:Nat}{l:List zl}(h:yf w g cap l)(hb:w'.heap[g]? =w.heap[g]?):yf w' g cap l:=by
 obtain⟨cur,hg,h1⟩:=h;exact⟨cur,hb.trans hg,h1⟩
theorem yf.lt{w:World}{g cap:Nat}{l:List zl}(h:yf w g cap l):g<w.heap.size:=by
 obtain⟨cur,hg,_⟩:=h;exact zg hg
theorem Kq{w:World}{base g cap:Nat}{l:List zl}(h:yf w g cap l)(hb:base<=g):w.ownsRow base 164 9 (.slice (some (aA g 0)) l.length cap) l.length (kQ l):=by
 obtain⟨cur,hg,h1,h2,h3,h4⟩:=h;exact⟨jT l,zj1 ⟨g,cap,cur,rfl,hb,hg,h1,h2,h3,h4⟩⟩
def Gw(g:Nat)(lb:Array Value)(fits:zl->Bool)(l:List zl)(gb cap:Nat)(w:World):Prop:=
 ∀(W:World) (e:zl) (l':List zl),e∈l->l'.length=l.length->(∀x∈l',x∈l)->yf W gb cap l'->zk (λk=>k=gb) w W->Calls prog g (#[.agg e.cells]++lb) W λen w'=>en=.returned (bA (fits e))/\BW W w'
theorem zk.zgJ{F:Nat->Prop}{w w':World}(h:BW w w'):zk F w w':=⟨h.os,h.tape,h.output,h.size,λk hk _=>h.block k hk⟩
theorem zk.zgY{gb:Nat}{w w1 w2:World}(h:zk (λk=>k=gb) w w1)(h2:zk (λk=>k=gb) w1 w2):zk (λk=>k=gb) w w2:=⟨h2.os.trans h.os,h2.tape.trans h.tape,h2.output.trans h.output,zjF h.size h2.size,λk hk hn=>(h2.block k (zjE hk h.size) hn).trans (h.block k hk hn)⟩
theorem Gw.at{g:Nat}{lb:Array Value}{fits:zl->Bool}{l:List zl}{gb cap:Nat}{w:World}(h:Gw g lb fits l gb cap w)(hr:yf w gb cap l):FitsAt g lb fits l w:=λW e he hW=>h W e l he rfl (λ_ h=>h) (hr.keep (hW.block gb hr.lt)) (zk.zgJ hW)
theorem kq.zhU{gb:Nat}{w w':World}(h:kq gb w w'):zk (λk=>k=gb) w w':=⟨h.os,h.tape,h.output,Nat.le_of_eq h.size.symm,λk _ hn=>h.block k hn⟩
section
variable{P:Program}
theorem gu{ops:Array Oper}{rest:List Oper}{op:Oper}{a:Act}{w:World}{Q:Exit->Act->World->Prop}(hgd:op.guard=none)(ty:TypeId)(p y:Operand)(ho:op.op=.store ty p y)
 (g off:Nat) (D:Array Value) (hp:a.eval p=pA g off) (hy:a.eval y=.agg D) (t:TypeId) (C:Array Value) (hg:w.heap[g]? =some (.cells C t (0,0))) (hC:off+D.size<=C.size) (h1:∀v∈D.toList,v.oneCell'=true) (hi:(P.info? ty).map (·.size)=some D.size)
 (h:∀w',w'.heap[g]? =some (.cells (C.toList.take off++D.toList++C.toList.drop (off+D.size)).toArray t (0,0))->kq g w w'->wpList P ops Q rest (a.put op.dst undef) w'):wpList P ops Q (op::rest) a w:=
 wpList_plain hgd λ_ hK=>zo ty p y ho g off D hp hy t C hg hC h1 hi (λw' h1 h2=>hK _ _ (h w' h1 h2))
end
theorem Jg(p:Option Addr)(n c r:Nat)(hr:r<=c)(W:World):(Instr.sliceAt 125 (.slice p n c) none (some (iA r)) none).run prog W=.ok (.slice p r c) W:=by
 have h2:p.map (λa=>a.add 0)=p:=by cases p<;>simp[Addr.add]
 simp[Instr.sliceAt,Instr.slice,Instr.sliceBounds,Instr.sliceBound,asIntOf,run_underlying underlying125,Tryz.sizeOf164,hr,h2]
theorem Vt(g n c r:Nat)(hr:r<n)(hn:n<=c)(W:World):(Instr.sliceAt 125 (.slice (some (aA g 0)) n c) (some (iA r)) none none).run prog W=.ok (.slice (some (aA g (r*9))) (n-r) (c-r)) W:=by
 have h1:r<=n:=zjS hr;have h2:¬c=r:=by omega
 simp[Instr.sliceAt,Instr.slice,Instr.sliceBounds,Instr.sliceBound,asIntOf,run_underlying underlying125,Tryz.sizeOf164,h1,h2,Addr.add];exact λh=>h.symm
theorem zcb(gb cap i n:Nat)(cur:Array Value)(w:World)(hg:w.heap[gb]? =some (.cells cur 164 (0,0)))(hs:cur.size=cap*9)(hi:i<n)(hn:n<=cap):∃(cur':Array Value) (w':World),(∀ty,(Builtin.clear_ #[125] ty #[.slice (some (aA gb (i*9))) (n-i) (cap-i)]).run prog w=.ok (.tuple #[]) w')/\w'.heap[gb]? =some (.cells cur' 164 (0,0))/\cur'.size=cur.size/\cur'.toList.take (i*9)=cur.toList.take (i*9)/\kq gb w w':=by
 obtain⟨zs,aa⟩:∃zs,zs=(Builtin.zeroCells yl.cells (n-i)).toList:=⟨_,rfl⟩;have ag:zs.length=(n-i)*9:=by rw[aa];simp[Builtin.zeroCells,zl.cells,yl]
 have ai:∀v∈zs,v.oneCell'=true:=by
  intro v hv;rw[aa] at hv;have ak:yl.cells.size=9:=rfl;simp only[Builtin.zeroCells,Array.toList_map,List.mem_map,ak] at hv;obtain⟨k,_,rfl⟩:=hv;have hk:k % 9<9:=Nat.mod_lt _ (by omega);have ae:∀q,q<9->(yl.cells[q]!).oneCell'=true:=by
   intro q hq;have:q=0\/q=1\/q=2\/q=3\/q=4\/q=5\/q=6\/q=7\/q=8:=by omega
   rcases this with rfl|rfl|rfl|rfl|rfl|rfl|rfl|rfl|rfl<;>rfl
  exact ae _ hk
 have al:i*9+0+zs.length<=cur.size:=by
  rw[ag,hs,Nat.add_zero,<-Nat.add_mul];exact Nat.mul_le_mul_right 9 (by omega)
 have af:=run_storeCells_at prog gb (i*9) 164 zs 0 cur w hg al ai;have hic:i*9<=cur.size:=by omega
 refine⟨(cur.toList.take (i*9+0)++zs++cur.toList.drop (i*9+0+zs.length)).toArray,_,λty=>?_,setRow_heap _ _ cur _ _ (0,0) hg,?_,?_,y9 _ _ _⟩
 .obtain ⟨m,hm⟩:∃m,n-i=m+1:=⟨n-i-1,by omega⟩
  rw[hm] at aa ⊢;have aj:∀w,(zeroValue 164).run prog w=.ok (.agg yl.cells) w:=λw=>by kernel_rfl
  have ah:(Value.agg yl.cells).cells=yl.cells:=rfl;have ad:(storeCells (aA gb (i*9)) (Builtin.zeroCells yl.cells (m+1)).toList).run prog w=.ok () (w.setRow gb (cur.toList.take (i*9+0)++zs++cur.toList.drop (i*9+0+zs.length)).toArray):=by
   rw[<-aa];exact af
  obtain⟨W,hW⟩:=gen (w.setRow gb (cur.toList.take (i*9+0)++zs++cur.toList.drop (i*9+0+zs.length)).toArray);rw[<-hW] at ad ⊢;clear hW af aa;simp[Builtin.clear_,run_underlying underlying125,aj,ah,ad]
 .simp only[List.size_toArray,List.length_append,List.length_take,List.length_drop,Array.length_toList];omega
 rw[List.toList_toArray,Nat.add_zero,List.append_assoc,List.take_append_of_le_length (by simp;omega),List.take_take,Nat.min_self]
theorem xv{fits:zl->Bool}{l:List zl}{j:Nat}(h:j<l.length):(l.take (j+1)).filter (λe=> !fits e)=(l.take j).filter (λe=> !fits e)++if fits (l.getD j yl)=true then [] else [l.getD j yl]:=by
 rw[ym l yl j h,List.filter_append]
 congr 1
 cases hb:fits (l.getD j yl) with
 |true=>rw[List.filter_cons_of_neg (by rw[hb];decide)];rfl
 |false=>rw[List.filter_cons_of_pos (by rw[hb];rfl)];rfl
theorem filter_all{fits:zl->Bool}{l:List zl}(h:∀e∈l,fits e=false):l.filter (λe=> !fits e)=l:=by
 rw[List.filter_eq_self];intro e he;rw[h e he];rfl
theorem zdx{l l':List zl}{j:Nat}(h:l'.drop j=l.drop j):l'.getD j yl=l.getD j yl:=by
 have e:(l'.drop j)[0]? =(l.drop j)[0]? :=by rw[h]
 rw[List.getElem?_drop,List.getElem?_drop,Nat.add_zero] at e;simp only[List.getD_eq_getElem?_getD,e]
theorem J0{l l':List zl}{j:Nat}(h:l'.drop j=l.drop j):l'.drop (j+1)=l.drop (j+1):=by
 rw[<-List.drop_drop,<-List.drop_drop,h]
theorem zcF{l:List zl}{i:Nat}(x:zl)(hi:i<l.length):(l.set i x).take (i+1)=l.take i++[x]:=by
 rw[ym (l.set i x) yl i (by simpa using hi),List.take_set_of_le (zjA i)]
 congr 2
 simp[List.getD_eq_getElem?_getD,hi]
theorem set_drop{l:List zl}{i j:Nat}(x:zl)(hij:i<j):(l.set i x).drop j=l.drop j:=List.drop_set_of_lt hij
theorem YO(g:Nat)(lb:Array Value)(fits:zl->Bool)(l:List zl)(gb cap:Nat)(w:World)(eg:qo g)(hr:yf w gb cap l)(hf:Gw g lb fits l gb cap w):
 Calls prog 104 #[.slice (some (aA gb 0)) l.length cap,.func (.func g) #[] lb] w λe w'=>e=.returned (.slice (some (aA gb 0)) (l.filter λe=> !fits e).length cap)/\yf w' gb cap (l.filter λe=> !fits e)/\zk (λk=>k=gb) w w':=by
 have hm:l.length<=maxLen:=by obtain⟨cur,_,h1,h2,_⟩:=hr;exact zjF h1 h2
 have aY:l.length<=cap:=by obtain⟨cur,_,h1,h2,_⟩:=hr;exact h1
 have hmx:l.length<=9223372036854775807:=by unfold maxLen at hm;omega
 obtain⟨aB,HR,HF⟩:=zS (Qx g lb fits l (some (aA gb 0)) cap w eg hr.ziW hm (hf.at hr)) hr hf;have eg':∀(args:Array Value) (w:World),(callFunc g args).run prog w=.ok (.enter g args) w:=eg;clear hr hf hm eg;rcases JO fits l with ak|⟨k,hk,ak,ht⟩
 .have ba:=zc (filter_all ak);rw[Yh l 0 ak] at aB;clear ak;go_enter func104,ntmps104;go_wp2_with fail
  refine aB.o.mono ?_;rintro e w1 ⟨rfl,aq⟩;have bc:=zc aq;clear aq;go_wp2;go_ret;exact⟨by rw[ba.o];rfl,by rw[ba.o];exact HR.o.keep (bc.o.block gb HR.o.lt),zk.zgJ bc⟩
 have bt:Hid (l.take k=(l.take (k+1)).filter λe=> !fits e):=by
  unfold Hid;rw[xv hk,ht,zj2 rfl,List.append_nil,filter_all ak]
 rw[Yg l 0 k hk ak ht,zj8] at aB;have HK:=zc hk;clear ak ht hk;go_enter func104,ntmps104;go_wp2_with fail
 refine aB.o.mono ?_;rintro e w1 ⟨rfl,aq⟩;have a8:Hid (yf w1 gb cap l):=HR.o.keep (aq.block gb HR.o.lt);have a6:Hid (zk (λk=>k=gb) w w1):=zk.zgJ aq;clear aq aB;have hk2:k+1<=9223372036854775807:=by have:=HK.o;omega
 have bg:¬(k:Int)= -1:=by omega
 have bf:((k:Int)== -1)=false:=by rw[zjY];exact bg
 go_wp2;go_loopw [5,6,7] (λiv jv _ wr=>∃(i j:Nat) (l':List zl),iv=iA i/\jv=iA j/\i<j/\j<=l.length/\l'.length=l.length/\(∀x∈l',x∈l)/\l'.take i=(l.take j).filter (λe=> !fits e)/\l'.drop j=l.drop j/\yf wr gb cap l'/\zk (λk=>k=gb) w wr) (λ_ jv _ _=>l.length-(intOf jv).toNat)
 case atStart=>exact⟨k,k+1,l,rfl,by go_num,by omega,HK.o,rfl,λ_ h=>h,bt.o,rfl,a8.o,a6.o⟩
 obtain⟨i,j,l',rfl,rfl,hij,hj,hlen,aZ,ag,ah,av,hs⟩:=hrel;obtain⟨ad,HS,ai,aL,aR,aP⟩:=JQ av hs hlen ag ah aZ;clear av hs hlen ag ah aZ a8 a6;by_cases ay:j=l.length
 .have hge:¬(j:Int)<l.length:=by omega
  have ax:i<l.length:=by omega
  obtain⟨cur,ae,aa⟩:=ad.o;obtain⟨cur',w5,bk,aU,au,ar,aW⟩:=zcb gb cap i l.length cur wr ae aa.2.2.1 ax aY;have aC:Hid (l.filter (λe=> !fits e)=l'.take i):=by
   unfold Hid;rw[aL.o,ay,zke]
  have bm:Hid (yf w5 gb cap (l'.take i)):=⟨cur',aU,aa.front i (by rw[ai.o];omega) au ar⟩;have bl:Hid (zk (λk=>k=gb) w w5):=HS.o.zgY (kq.zhU aW);have bq:Hid ((l'.take i).length=i):=by unfold Hid;rw[List.length_take,ai.o];omega
  have hsb:=λW=>Vt gb l.length cap i ax aY W;have hsf:=λW=>Jg (some (aA gb 0)) l.length cap i (by omega) W;clear ay ae aa aU au ar aW;go_wp2;go_ret;exact⟨by rw[aC.o,bq.o];rfl,by rw[aC.o];exact bm,bl⟩
 have aF:j<l.length:=by omega
 have bd:(j:Int)<l.length:=by omega
 have ax:i<l.length:=by omega
 have bh:(i:Int)<l.length:=by omega
 obtain⟨b0,o0,eb,_,aT⟩:=ad.o.ziW j (by rw[ai.o];exact aF);cases eb;obtain⟨ev,aK⟩:=gen (l.getD j yl);have aj:=aT;simp only[zdx aR.o,<-aK,Nat.zero_add] at aj;obtain⟨⟨K,H,R,f,V,nl,s⟩,fr,own⟩:=ev;have a7:Hid (wr.rangeAt gb (j*9) [iA K,iA H,iA R,iA f,iA V,bA nl,sA s,sA fr,bA own]):=aj;have aQ:=zc aK;have af:=kz l yl j aF;rw[<-aQ.o] at af;have aO:=zc af;have bb:Hid (∀W,BW wr W->Calls prog g (#[.agg #[iA K,iA H,iA R,iA f,iA V,bA nl,sA s,sA fr,bA own]]++lb) W λen w'=>en=.returned (bA (fits ⟨⟨K,H,R,f,V,nl,s⟩,fr,own⟩))/\BW W w'):=λW hW=>HF W ⟨⟨K,H,R,f,V,nl,s⟩,fr,own⟩ l' af ai aP (ad.o.keep (hW.block gb ad.o.lt)) (HS.o.zgY (zk.zgJ hW));clear aT aj aK af;cases aG:fits ⟨⟨K,H,R,f,V,nl,s⟩,fr,own⟩ with
 |true=>
  have aM:Hid (l'.take i=(l.take (j+1)).filter λe=> !fits e):=by
   unfold Hid;rw[xv aF,<-aQ.o,aG,zj2 rfl,List.append_nil,aL.o]
  go_wp2_with (first|(refine zj6 rfl 164 _ rfl gb (j*9) (by first|rfl|simp[Act.eval,Act.put]) [iA K,iA H,iA R,iA f,iA V,bA nl,sA s,sA fr,bA own] _ a7.o underlying164 rfl Tryz.zfS ?_)|(refine zh rfl 164 _ _ rfl wr #[iA K,iA H,iA R,iA f,iA V,bA nl,sA s,sA fr,bA own] rfl rfl 164 _ rfl (by simp[Value.oneCell']) Tryz.zfS ?_;intro w2 aw az aJ;have aH:=zc aw;have an:Hid (BW wr w2):=az;clear aw az aJ)|(refine zD rfl 164 _ rfl wr.heap.size rfl 164 #[iA K,iA H,iA R,iA f,iA V,bA nl,sA s,sA fr,bA own] _ aH underlying164 rfl Tryz.zfS ?_)|(go_at_fn g;refine(bb w2 an).mono ?_;rw[aG];rintro e w3 ⟨rfl,ao⟩;have aE:Hid (BW wr w3):=an.o.trans (ao.mono an.o.size);clear ao)|fail)
  go_roundw
  case rel=>exact⟨i,j+1,l',rfl,by go_num,by omega,by omega,ai.o,aP.o,aM.o,J0 aR.o,ad.o.keep (aE.o.block gb ad.o.lt),HS.o.zgY (zk.zgJ aE.o)⟩
  simp[intOf];omega
 |false=>
  have aM:Hid ((l'.set i ⟨⟨K,H,R,f,V,nl,s⟩,fr,own⟩).take (i+1)=(l.take (j+1)).filter λe=> !fits e):=by
   unfold Hid;rw[xv aF,<-aQ.o,aG,zj3 (by decide),zcF _ (by rw[ai.o];exact ax),aL]
  have bu:Hid ((l'.set i ⟨⟨K,H,R,f,V,nl,s⟩,fr,own⟩).drop (j+1)=l.drop (j+1)):=by
   unfold Hid;rw[set_drop _ (by omega)];exact J0 aR
  have bs:Hid (∀x∈l'.set i ⟨⟨K,H,R,f,V,nl,s⟩,fr,own⟩,x∈l):=λx hx=>by
   rcases List.mem_or_eq_of_mem_set hx with h|h
   .exact aP x h
   rw[h];exact aO
  have br:Hid ((l'.set i ⟨⟨K,H,R,f,V,nl,s⟩,fr,own⟩).length=l.length):=by unfold Hid;rw[List.length_set];exact ai
  obtain⟨cur,ae,aa⟩:=ad.o;obtain⟨al,aS⟩:=zn aa ae;have bj:i*9+9<=cur.size:=by
   rw[aa.2.2.1];have:(i+1)*9<=cap*9:=Nat.mul_le_mul_right 9 (by omega);omega
  have hgl:gb<wr.heap.size:=ad.o.lt;clear aa ae;go_wp2_with (first|(refine zj6 rfl 164 _ rfl gb (j*9) (by first|rfl|simp[Act.eval,Act.put]) [iA K,iA H,iA R,iA f,iA V,bA nl,sA s,sA fr,bA own] _ a7.o underlying164 rfl Tryz.zfS ?_)|(refine zh rfl 164 _ _ rfl wr #[iA K,iA H,iA R,iA f,iA V,bA nl,sA s,sA fr,bA own] rfl rfl 164 _ rfl (by simp[Value.oneCell']) Tryz.zfS ?_;intro w2 aw az aJ;have aH:=zc aw;have an:Hid (BW wr w2):=az;clear aw az aJ)|(refine zD rfl 164 _ rfl wr.heap.size rfl 164 #[iA K,iA H,iA R,iA f,iA V,bA nl,sA s,sA fr,bA own] _ aH underlying164 rfl Tryz.zfS ?_)|(go_at_fn g;refine(bb w2 an).mono ?_;rw[aG];rintro e w3 ⟨rfl,ao⟩;have aN:=zc (blk aH ao);have aE:Hid (BW wr w3):=an.o.trans (ao.mono an.o.size);have aD:=zc (blk aS aE);clear ao)|(refine zkb rfl 164 _ rfl wr.heap.size rfl 164 #[iA K,iA H,iA R,iA f,iA V,bA nl,sA s,sA fr,bA own] (0,0) _ aN.o underlying164 rfl Tryz.zfS ?_)|(refine gu rfl 164 _ _ rfl gb (i*9) #[iA K,iA H,iA R,iA f,iA V,bA nl,sA s,sA fr,bA own] (by first|rfl|simp[Act.eval,Act.put]) rfl 164 cur aD.o bj (by simp[Value.oneCell']) Tryz.zfS ?_;intro w4 aV aX;have bo:=zc aV;have bp:=zc aX;clear aV aX)|fail)
  have bn:Hid (yf w4 gb cap (l'.set i ⟨⟨K,H,R,f,V,nl,s⟩,fr,own⟩)):=⟨_,bo,al.o.set i ⟨⟨K,H,R,f,V,nl,s⟩,fr,own⟩ (by rw[ai.o];exact ax)⟩;go_roundw
  case rel=>exact⟨i+1,j+1,l'.set i ⟨⟨K,H,R,f,V,nl,s⟩,fr,own⟩,by go_num,by go_num,by omega,by omega,br.o,bs.o,aM.o,bu.o,bn.o,(HS.o.zgY (zk.zgJ aE.o)).zgY (kq.zhU bp.o)⟩
  simp[intOf];omega
end
section
open Go.Extern.Stop Go.Stop Go.Extern
theorem Tryz.ziL(v:Value)(xT:TypeId)(w:World):(Instr.typeAssert (.iface 158 v) xT 213 true).run prog w=.ok (.tuple #[.nilIface,.bool false]) w:=run_typeAssert_lacksB underlying213 (by kernel_rfl) (by kernel_rfl) v xT w
theorem Tryz.zg4(v:Value)(xT:TypeId)(w:World):(Instr.typeAssert (.iface 158 v) xT 216 true).run prog w=.ok (.tuple #[.iface 158 v,.bool true]) w:=run_typeAssert_hasB underlying216 (by kernel_rfl) v xT w
theorem Tryz.zgL(v:Value)(w:World):(Go.method 423 158 v "Unwrap").run prog w=.ok (236,v) w:=by kernel_rfl
theorem Tryz.zhe(p q:Value)(w:World):(binOp .eql 42 (.iface 158 p) (.iface 294 q)).run prog w=.ok (.bool false) w:=run_eql_iface_types _ _ _ _ underlying42 (by decide) w
theorem Yc(g:Nat)(f:Int)(b:Addr)(w:World)(hr:RefAt w g f b):
 Calls prog 30 #[Qd g,eA b] w λe w'=>e=.returned (.bool true)/\w'=w:=by
 have hc1:cE w g 1 (eA b):=zjD w g 1 _ _ _ hr;obtain⟨i,hi,aa⟩:=Option.map_eq_some_iff.1 Tryz.zho;obtain⟨j,hj,hjs⟩:=Option.map_eq_some_iff.1 Tryz.zhn;have h8:=@run_callFunc_extern prog 83 _ Extern.ReflectliteType.typeOf func83 (by kernel_rfl) (by kernel_rfl) (by kernel_rfl) (by kernel_rfl);have h32:=@run_callFunc_extern prog 239 _ qS func239 (by kernel_rfl) (by kernel_rfl) (by kernel_rfl) (by kernel_rfl);have tT:=Tryz.zgQ;have cT:=Tryz.zgx;have mR:=Tryz.zgj;have nR:=Tryz.ziL;have uR:=Tryz.zg4;have mU:=Tryz.zgL;have eR:=Tryz.zhe;have heq:=run_eql_iface_ptr_same (P:=prog) w b underlying42 underlying294 hi aa hj;clear hr;unfold Qd;go_enter func30,ntmps30;go_wp2;refine wp_loop_rounds 2 ?_;rw[rounds_succ];go_wp2;rw[rounds_succ];go_wp2;go_ret;exact⟨rfl,rfl⟩
theorem Zu(g:Nat)(f:Int)(a b:Addr)(ca cb:Array Value)(ta tb:TypeId)(w:World)(hr:RefAt w g f a)(hne:a≠b)(ha:w.heap[a.block]? =some (.cells ca ta (0,0)))(hb:w.heap[b.block]? =some (.cells cb tb (0,0))):
 Calls prog 30 #[Qd g,eA b] w λe w'=>e=.returned (.bool false)/\w'=w:=by
 have hc1:cE w g 1 (eA a):=zjD w g 1 _ _ _ hr;obtain⟨i,hi,aa⟩:=Option.map_eq_some_iff.1 Tryz.zho;obtain⟨j,hj,ad⟩:=Option.map_eq_some_iff.1 Tryz.zhn;have h8:=@run_callFunc_extern prog 83 _ Extern.ReflectliteType.typeOf func83 (by kernel_rfl) (by kernel_rfl) (by kernel_rfl) (by kernel_rfl);have h32:=@run_callFunc_extern prog 239 _ qS func239 (by kernel_rfl) (by kernel_rfl) (by kernel_rfl) (by kernel_rfl);have tT:=Tryz.zgQ;have cT:=Tryz.zgx;have mR:=Tryz.zgj;have nR:=Tryz.ziL;have uR:=Tryz.zg4;have mU:=Tryz.zgL;have eR:=Tryz.zhe;have nE:=Tryz.ziM;have uE:=Tryz.zhd;have vE:=Tryz.zg2;have heq:=run_eql_iface_ptr_other (P:=prog) w underlying42 underlying294 hi aa hj (by rw[ad];decide) hne ha hb;clear hr ha hb;unfold Qd;go_enter func30,ntmps30;go_wp2;refine wp_loop_rounds 2 ?_;rw[rounds_succ];go_wp2;rw[rounds_succ];go_wp2;go_ret;exact⟨rfl,rfl⟩

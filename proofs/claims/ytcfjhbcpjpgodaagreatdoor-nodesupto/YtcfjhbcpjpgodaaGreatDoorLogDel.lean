import Derived.Test.YtcfjhbcpjpgodaaGreatDoorJournal
import Derived.Test.YtcfjhbcpjpgodaaGreatDoorJ19
namespace Go.Proofs.YtcfjhbcpjpgodaaGreatDoor
open Go.RowKit Proofs.Tryz
set_option maxRecDepth 100000
set_option maxHeartbeats 0
set_option linter.all false
def zbb(fits:zt->Bool):List zt->Nat->Int
 | [],_=> -1
 |e::l,k=>if fits e=true then(k:Int) else zbb fits l (k+1)
theorem ZF{fits:zt->Bool}:∀(l:List zt) (k:Nat),(∀e∈l,fits e=false)->zbb fits l k= -1
 | [],_,_=>rfl
 |e::l,k,h=>by
  unfold zbb;rw[h e (zgL ..),zgU (by decide)];exact ZF l (k+1) λx hx=>h x (List.mem_cons_of_mem _ hx)
theorem ZE{fits:zt->Bool}:∀(l:List zt) (k j:Nat),j<l.length->(∀e∈l.take j,fits e=false)->fits (l.getD j zJ)=true->zbb fits l k=((k+j:Nat):Int)
 | [],_,j,h,_,_=>by simp at h
 |e::l,k,0,_,_,ht=>by
  unfold zbb;rw[show fits e=true from ht,zgT rfl];rfl
 |e::l,k,j+1,hj,ha,ht=>by
  unfold zbb;rw[ha e (by simp),zgU (by decide),ZE l (k+1) j (by simpa using hj) (λx hx=>ha x (by rw[List.take_succ_cons];exact List.mem_cons_of_mem _ hx)) (by simpa using ht)]
  congr 1
  omega
theorem Qo(fits:zt->Bool):∀l:List zt,(∀e∈l,fits e=false)\/∃k,k<l.length/\(∀e∈l.take k,fits e=false)/\fits (l.getD k zJ)=true
 | []=>zgR (by simp)
 |e::l=>by
  cases he:fits e with
  |true=>exact zgS ⟨0,by simp,by simp,by simpa using he⟩
  |false=>
   rcases Qo fits l with h|⟨k,hk,ha,ht⟩
   .left;intro x hx;rcases List.mem_cons.1 hx with rfl|hx
    .exact he
    .exact h x hx
   .right;refine⟨k+1,by simpa using hk,?_,by simpa using ht⟩;intro x hx;rw[List.take_succ_cons] at hx;rcases List.mem_cons.1 hx with rfl|hx
    .exact he
    .exact ha x hx
theorem Kj(g:Nat)(lb:Array Value)(fits:zt->Bool)(l:List zt)(p:Option Addr)(cap:Nat)(w:World)(eg:kR g)(hl:km w w.heap.size p l.length (λi=>l.getD i zJ))(hm:l.length<=maxLen)(hf:FitsAt g lb fits l w):
 Calls prog 141 #[.slice p l.length cap,.func (.func g) #[] lb] w λe w'=>e=.returned (iA (zbb fits l 0))/\BW w w':=by
 obtain⟨HL,HF⟩:=ze hl hf;have hmx:l.length<=9223372036854775807:=by unfold maxLen at hm;omega
 have eg':∀(args:Array Value) (w:World),(callFunc g args).run prog w=.ok (.enter g args) w:=eg;clear hl hm hf eg;go_enter func141,ntmps141;go_wp2;go_loopw [5,8] (λ_ i wr=>∃j:Nat,j<=l.length/\i=iA j/\(∀e∈l.take j,fits e=false)/\BW w wr) (λ_ i _=>l.length-(intOf i).toNat)
 case atStart=>exact⟨0,zgv _,rfl,λe he=>by simp at he,zgq _ _⟩
 obtain⟨j,hj,rfl,an,hb⟩:=hrel;obtain⟨HB,ai⟩:=ze hb an;clear hb an;by_cases ad:j=l.length
 .have HI:Hid (zbb fits l 0= -1):=ZF l 0 (by have h:=ai.o;rw[ad,zg7] at h;exact h);have hge:¬(j:Int)<l.length:=by omega
  clear ad;go_wp2;go_ret;exact⟨by rw[HI.o];rfl,HB⟩
 have af:j<l.length:=by omega
 have ar:(j:Int)<l.length:=by omega
 obtain⟨b,o,rfl,au,al⟩:=HL.o.below HB j af;obtain⟨ev,ah⟩:=gen (l.getD j zJ);have aa:=al;simp only[<-ah] at aa;obtain⟨⟨K,H,R,f,V,nl,s⟩,fr,own⟩:=ev;have ao:Hid (wr.rangeAt b (o+j*9) [iA K,iA H,iA R,iA f,iA V,bA nl,sA s,sA fr,bA own]):=aa;have aj:=zc ah;clear al aa ah au;have ab:=yo l zJ j af;rw[<-aj.o] at ab;have aq:=zc (HF wr ⟨⟨K,H,R,f,V,nl,s⟩,fr,own⟩ ab HB);clear ab;cases ag:fits ⟨⟨K,H,R,f,V,nl,s⟩,fr,own⟩ with
 |false=>
  have av:Hid (∀e∈l.take (j+1),fits e=false):=by
   intro e he;rw[zy l zJ j af,zgK] at he;rcases he with he|he
   .exact ai e he
   rw[zgM] at he;rw[he,<-aj.o];exact ag
  go_wp2_with (first|(refine zgX rfl 164 _ rfl b (o+j*9) rfl [iA K,iA H,iA R,iA f,iA V,bA nl,sA s,sA fr,bA own] _ ao underlying164 rfl Tryz.zc5 ?_)|(go_at_fn g;refine aq.o.mono ?_;rw[ag];rintro e w3 ⟨rfl,ae⟩;have ak:Hid (BW wr w3):=ae;clear ae)|fail)
  go_roundw
  case rel=>exact⟨j+1,by omega,by go_num,av.o,HB.o.trans (ak.o.mono HB.o.size)⟩
  simp[intOf];omega
 |true=>
  have HI:Hid (zbb fits l 0=(j:Int)):=by
   unfold Hid;rw[ZE l 0 j af ai.o (by rw[<-aj.o];exact ag),zg0]
  go_wp2_with (first|(refine zgX rfl 164 _ rfl b (o+j*9) rfl [iA K,iA H,iA R,iA f,iA V,bA nl,sA s,sA fr,bA own] _ ao underlying164 rfl Tryz.zc5 ?_)|(go_at_fn g;refine aq.o.mono ?_;rw[ag];rintro e w3 ⟨rfl,ae⟩;have ak:Hid (BW wr w3):=ae;clear ae)|fail)
  go_ret;exact⟨by rw[HI.o];rfl,HB.o.trans (ak.o.mono HB.o.size)⟩
def jr(cur:Array Value)(cap:Nat)(l:List zt):Prop:=l.length<=cap/\cap<=maxLen/\cur.size=cap*9/\cur.toList.take (l.length*9)=kF l
def yh(w:World)(g cap:Nat)(l:List zt):Prop:=∃cur,w.heap[g]? =some (.cells cur 164 (0,0))/\jr cur cap l
theorem Vi(x:zt):∀(l:List zt) (k:Nat),k<l.length->kF (l.set k x)=(kF l).take (k*9)++x.cells.toList++(kF l).drop (k*9+9)
 | [],k,h=>by simp at h
 |m::l,0,_=>by
  have hc:m.cells.toList.length=9:=by simp[zt.cells]
  have e:kF (m::l)=m.cells.toList++kF l:=by simp[kF]
  have e2:kF (x::l)=x.cells.toList++kF l:=by simp[kF]
  rw[List.set_cons_zero,e,e2,Nat.zero_mul,List.take_zero,List.nil_append,zg0,List.drop_append_of_le_length (by omega),List.drop_of_length_le (by omega),List.nil_append]
 |m::l,k+1,h=>by
  have hc:m.cells.toList.length=9:=by simp[zt.cells]
  have ih:=Vi x l k (by simpa using h);have e:kF (m::l)=m.cells.toList++kF l:=by simp[kF]
  have e2:kF (m::l.set k x)=m.cells.toList++kF (l.set k x):=by simp[kF]
  rw[List.set_cons_succ,e,e2,ih];have h1:(k+1)*9=m.cells.toList.length+k*9:=by omega
  have h2:(k+1)*9+9=m.cells.toList.length+(k*9+9):=by omega
  rw[h1,List.take_length_add_append,Nat.add_assoc,List.drop_length_add_append];simp[List.append_assoc]
theorem jr.set{cur:Array Value}{cap:Nat}{l:List zt}(h:jr cur cap l)(k:Nat)(x:zt)(hk:k<l.length):jr (cur.toList.take (k*9)++x.cells.toList++cur.toList.drop (k*9+9)).toArray cap (l.set k x):=by
 obtain⟨h1,h2,h3,h4⟩:=h;have hx:x.cells.toList.length=9:=by simp[zt.cells]
 have hk5:k*9+9<=l.length*9:=by
  have:(k+1)*9<=l.length*9:=Nat.mul_le_mul_right 9 (by omega);omega
 have hlc:l.length*9<=cap*9:=Nat.mul_le_mul_right 9 h1;obtain⟨R,hR⟩:=gen (cur.toList.drop (l.length*9));have aa:cur.toList=kF l++R:=by rw[hR,<-h4,List.take_append_drop]
 have ab:(kF l).length=l.length*9:=jl l;refine⟨by simpa using h1,h2,?_,?_⟩
 .simp only[List.size_toArray,List.length_append,List.length_take,List.length_drop,hx,Array.length_toList];omega
 have e:cur.toList.take (k*9)++x.cells.toList++cur.toList.drop (k*9+9)=kF (l.set k x)++R:=by
  rw[aa,Vi x l k hk,List.take_append_of_le_length (by omega),List.drop_append_of_le_length (by omega)];simp[List.append_assoc]
 rw[List.toList_toArray,e,List.length_set,List.take_append_of_le_length (by rw[jl,List.length_set];exact zgp _),List.take_of_length_le (by rw[jl,List.length_set];exact zgp _)]
theorem Qx:∀(l:List zt) (k:Nat),kF (l.take k)=(kF l).take (k*9)
 | [],k=>by simp[kF]
 |m::l,0=>by simp[kF]
 |m::l,k+1=>by
  have hc:m.cells.toList.length=9:=by simp[zt.cells]
  have e:kF (m::l)=m.cells.toList++kF l:=by simp[kF]
  have e2:kF (m::l.take k)=m.cells.toList++kF (l.take k):=by simp[kF]
  rw[List.take_succ_cons,e,e2,Qx l k,show(k+1)*9=m.cells.toList.length+k*9 by omega,List.take_length_add_append]
theorem jr.front{cur cur':Array Value}{cap:Nat}{l:List zt}(h:jr cur cap l)(k:Nat)(hk:k<=l.length)(hs:cur'.size=cur.size)(ht:cur'.toList.take (k*9)=cur.toList.take (k*9)):jr cur' cap (l.take k):=by
 obtain⟨h1,h2,h3,h4⟩:=h;have hl:(l.take k).length=k:=by rw[List.length_take];omega
 refine⟨by omega,h2,by omega,?_⟩;rw[hl,Qx,<-h4,List.take_take,Nat.min_eq_left (Nat.mul_le_mul_right 9 hk),ht]
theorem yh.ents{w:World}{g cap:Nat}{l:List zt}(h:yh w g cap l):km w w.heap.size (some (aA g 0)) l.length (λi=>l.getD i zJ):=λi hi=>by
 obtain⟨cur,hg,h1,h2,h3,h4⟩:=h;refine⟨g,0,rfl,zj hg,λj v hv=>?_⟩;rw[zgs w g _ _ _ _ hg,zg0];have hj:j<9:=by have:=(List.getElem?_eq_some_iff.1 hv).1;simpa [zt.cells] using this
 have e1:(cur.toList.take (l.length*9))[i*9+j]? =(kF l)[i*9+j]? :=by rw[h4]
 have aa:i*9+j<l.length*9:=by
  have:(i+1)*9<=l.length*9:=Nat.mul_le_mul_right 9 (by omega);omega
 rw[zg5,zgT aa] at e1;rw[<-zg8,e1,<-hv];exact Vj l j hj i hi
theorem yh.keep{w w':World}{g cap:Nat}{l:List zt}(h:yh w g cap l)(hb:w'.heap[g]? =w.heap[g]?):yh w' g cap l:=by
 obtain⟨cur,hg,h1⟩:=h;exact⟨cur,hb.trans hg,h1⟩
theorem yh.lt{w:World}{g cap:Nat}{l:List zt}(h:yh w g cap l):g<w.heap.size:=by
 obtain⟨cur,hg,_⟩:=h;exact zj hg
theorem YE{w:World}{base g cap:Nat}{l:List zt}(h:yh w g cap l)(hb:base<=g):w.ownsRow base 164 9 (.slice (some (aA g 0)) l.length cap) l.length (kF l):=by
 obtain⟨cur,hg,h1,h2,h3,h4⟩:=h;exact⟨jl l,zgS ⟨g,cap,cur,rfl,hb,hg,h1,h2,h3,h4⟩⟩
def Vp(g:Nat)(lb:Array Value)(fits:zt->Bool)(l:List zt)(gb cap:Nat)(w:World):Prop:=
 ∀(W:World) (e:zt) (l':List zt),e∈l->l'.length=l.length->(∀x∈l',x∈l)->yh W gb cap l'->zm (λk=>k=gb) w W->Calls prog g (#[.agg e.cells]++lb) W λen w'=>en=.returned (bA (fits e))/\BW W w'
theorem zm.zea{F:Nat->Prop}{w w':World}(h:BW w w'):zm F w w':=⟨h.os,h.tape,h.output,h.size,λk hk _=>h.block k hk⟩
theorem zm.zem{gb:Nat}{w w1 w2:World}(h:zm (λk=>k=gb) w w1)(h2:zm (λk=>k=gb) w1 w2):zm (λk=>k=gb) w w2:=⟨h2.os.trans h.os,h2.tape.trans h.tape,h2.output.trans h.output,zgu h.size h2.size,λk hk hn=>(h2.block k (zgt hk h.size) hn).trans (h.block k hk hn)⟩
theorem Vp.at{g:Nat}{lb:Array Value}{fits:zt->Bool}{l:List zt}{gb cap:Nat}{w:World}(h:Vp g lb fits l gb cap w)(hr:yh w gb cap l):FitsAt g lb fits l w:=λW e he hW=>h W e l he rfl (λ_ h=>h) (hr.keep (hW.block gb hr.lt)) (zm.zea hW)
theorem ko.zfe{gb:Nat}{w w':World}(h:ko gb w w'):zm (λk=>k=gb) w w':=⟨h.os,h.tape,h.output,Nat.le_of_eq h.size.symm,λk _ hn=>h.block k hn⟩
section
variable{P:Program}
theorem xK{ops:Array Oper}{rest:List Oper}{op:Oper}{a:Act}{w:World}{Q:Exit->Act->World->Prop}(hgd:op.guard=none)(ty:TypeId)(p y:Operand)(ho:op.op=.store ty p y)
 (g off:Nat) (D:Array Value) (hp:a.eval p=pA g off) (hy:a.eval y=.agg D) (t:TypeId) (C:Array Value) (hg:w.heap[g]? =some (.cells C t (0,0))) (hC:off+D.size<=C.size) (h1:∀v∈D.toList,v.oneCell'=true) (hi:(P.info? ty).map (·.size)=some D.size)
 (h:∀w',w'.heap[g]? =some (.cells (C.toList.take off++D.toList++C.toList.drop (off+D.size)).toArray t (0,0))->ko g w w'->wpList P ops Q rest (a.put op.dst undef) w'):wpList P ops Q (op::rest) a w:=
 wpList_plain hgd λ_ hK=>zr ty p y ho g off D hp hy t C hg hC h1 hi (λw' h1 h2=>hK _ _ (h w' h1 h2))
end
theorem KQ(p:Option Addr)(n c r:Nat)(hr:r<=c)(W:World):(Instr.sliceAt 125 (.slice p n c) none (some (iA r)) none).run prog W=.ok (.slice p r c) W:=by
 have h2:p.map (λa=>a.add 0)=p:=by cases p<;>simp[Addr.add]
 simp[Instr.sliceAt,Instr.slice,Instr.sliceBounds,Instr.sliceBound,asIntOf,run_underlying underlying125,Tryz.sizeOf164,hr,h2]
theorem QW(g n c r:Nat)(hr:r<n)(hn:n<=c)(W:World):(Instr.sliceAt 125 (.slice (some (aA g 0)) n c) (some (iA r)) none none).run prog W=.ok (.slice (some (aA g (r*9))) (n-r) (c-r)) W:=by
 have h1:r<=n:=zgI hr;have h2:¬c=r:=by omega
 simp[Instr.sliceAt,Instr.slice,Instr.sliceBounds,Instr.sliceBound,asIntOf,run_underlying underlying125,Tryz.sizeOf164,h1,h2,Addr.add];exact λh=>h.symm
theorem G6(gb cap i n:Nat)(cur:Array Value)(w:World)(hg:w.heap[gb]? =some (.cells cur 164 (0,0)))(hs:cur.size=cap*9)(hi:i<n)(hn:n<=cap):∃(cur':Array Value) (w':World),(∀ty,(Builtin.clear_ #[125] ty #[.slice (some (aA gb (i*9))) (n-i) (cap-i)]).run prog w=.ok (.tuple #[]) w')/\w'.heap[gb]? =some (.cells cur' 164 (0,0))/\cur'.size=cur.size/\cur'.toList.take (i*9)=cur.toList.take (i*9)/\ko gb w w':=by
 obtain⟨zs,aa⟩:∃zs,zs=(Builtin.zeroCells zJ.cells (n-i)).toList:=⟨_,rfl⟩;have af:zs.length=(n-i)*9:=by rw[aa];simp[Builtin.zeroCells,zt.cells,zJ]
 have ah:∀v∈zs,v.oneCell'=true:=by
  intro v hv;rw[aa] at hv;have aj:zJ.cells.size=9:=rfl;simp only[Builtin.zeroCells,Array.toList_map,List.mem_map,aj] at hv;obtain⟨k,_,rfl⟩:=hv;have hk:k % 9<9:=Nat.mod_lt _ (by omega);have ad:∀q,q<9->(zJ.cells[q]!).oneCell'=true:=by
   intro q hq;have:q=0\/q=1\/q=2\/q=3\/q=4\/q=5\/q=6\/q=7\/q=8:=by omega
   rcases this with rfl|rfl|rfl|rfl|rfl|rfl|rfl|rfl|rfl<;>rfl
  exact ad _ hk
 have ak:i*9+0+zs.length<=cur.size:=by
  rw[af,hs,Nat.add_zero,<-Nat.add_mul];exact Nat.mul_le_mul_right 9 (by omega)
 have ae:=run_storeCells_at prog gb (i*9) 164 zs 0 cur w hg ak ah;have hic:i*9<=cur.size:=by omega
 refine⟨(cur.toList.take (i*9+0)++zs++cur.toList.drop (i*9+0+zs.length)).toArray,_,λty=>?_,setRow_heap _ _ cur _ _ (0,0) hg,?_,?_,yW _ _ _⟩
 .obtain ⟨m,hm⟩:∃m,n-i=m+1:=⟨n-i-1,by omega⟩
  rw[hm] at aa ⊢;have ai:∀w,(zeroValue 164).run prog w=.ok (.agg zJ.cells) w:=λw=>by kernel_rfl
  have ag:(Value.agg zJ.cells).cells=zJ.cells:=rfl;have ab:(storeCells (aA gb (i*9)) (Builtin.zeroCells zJ.cells (m+1)).toList).run prog w=.ok () (w.setRow gb (cur.toList.take (i*9+0)++zs++cur.toList.drop (i*9+0+zs.length)).toArray):=by
   rw[<-aa];exact ae
  obtain⟨W,hW⟩:=gen (w.setRow gb (cur.toList.take (i*9+0)++zs++cur.toList.drop (i*9+0+zs.length)).toArray);rw[<-hW] at ab ⊢;clear hW ae aa;simp[Builtin.clear_,run_underlying underlying125,ai,ag,ab]
 .simp only[List.size_toArray,List.length_append,List.length_take,List.length_drop,Array.length_toList];omega
 rw[List.toList_toArray,Nat.add_zero,List.append_assoc,List.take_append_of_le_length (by simp;omega),List.take_take,Nat.min_self]
theorem vS{fits:zt->Bool}{l:List zt}{j:Nat}(h:j<l.length):(l.take (j+1)).filter (λe=> !fits e)=(l.take j).filter (λe=> !fits e)++if fits (l.getD j zJ)=true then [] else [l.getD j zJ]:=by
 rw[zy l zJ j h,List.filter_append]
 congr 1
 cases hb:fits (l.getD j zJ) with
 |true=>rw[List.filter_cons_of_neg (by rw[hb];decide)];rfl
 |false=>rw[List.filter_cons_of_pos (by rw[hb];rfl)];rfl
theorem filter_all{fits:zt->Bool}{l:List zt}(h:∀e∈l,fits e=false):l.filter (λe=> !fits e)=l:=by
 rw[List.filter_eq_self];intro e he;rw[h e he];rfl
theorem zbl{l l':List zt}{j:Nat}(h:l'.drop j=l.drop j):l'.getD j zJ=l.getD j zJ:=by
 have e:(l'.drop j)[0]? =(l.drop j)[0]? :=by rw[h]
 rw[List.getElem?_drop,List.getElem?_drop,Nat.add_zero] at e;simp only[List.getD_eq_getElem?_getD,e]
theorem Qy{l l':List zt}{j:Nat}(h:l'.drop j=l.drop j):l'.drop (j+1)=l.drop (j+1):=by
 rw[<-List.drop_drop,<-List.drop_drop,h]
theorem zaD{l:List zt}{i:Nat}(x:zt)(hi:i<l.length):(l.set i x).take (i+1)=l.take i++[x]:=by
 rw[zy (l.set i x) zJ i (by simpa using hi),List.take_set_of_le (zgp i)]
 congr 2
 simp[List.getD_eq_getElem?_getD,hi]
theorem set_drop{l:List zt}{i j:Nat}(x:zt)(hij:i<j):(l.set i x).drop j=l.drop j:=List.drop_set_of_lt hij
theorem Yc(g:Nat)(lb:Array Value)(fits:zt->Bool)(l:List zt)(gb cap:Nat)(w:World)(eg:kR g)(hr:yh w gb cap l)(hf:Vp g lb fits l gb cap w):
 Calls prog 104 #[.slice (some (aA gb 0)) l.length cap,.func (.func g) #[] lb] w λe w'=>e=.returned (.slice (some (aA gb 0)) (l.filter λe=> !fits e).length cap)/\yh w' gb cap (l.filter λe=> !fits e)/\zm (λk=>k=gb) w w':=by
 have hm:l.length<=maxLen:=by obtain⟨cur,_,h1,h2,_⟩:=hr;exact zgu h1 h2
 have aX:l.length<=cap:=by obtain⟨cur,_,h1,h2,_⟩:=hr;exact h1
 have hmx:l.length<=9223372036854775807:=by unfold maxLen at hm;omega
 obtain⟨az,HR,HF⟩:=zC (Kj g lb fits l (some (aA gb 0)) cap w eg hr.ents hm (hf.at hr)) hr hf;have eg':∀(args:Array Value) (w:World),(callFunc g args).run prog w=.ok (.enter g args) w:=eg;clear hr hf hm eg;rcases Qo fits l with aj|⟨k,hk,aj,ht⟩
 .have a7:=zc (filter_all aj);rw[ZF l 0 aj] at az;clear aj;go_enter func104,ntmps104;go_wp2_with fail
  refine az.o.mono ?_;rintro e w1 ⟨rfl,ao⟩;have ba:=zc ao;clear ao;go_wp2;go_ret;exact⟨by rw[a7.o];rfl,by rw[a7.o];exact HR.o.keep (ba.o.block gb HR.o.lt),zm.zea ba⟩
 have bs:Hid (l.take k=(l.take (k+1)).filter λe=> !fits e):=by
  unfold Hid;rw[vS hk,ht,zgT rfl,List.append_nil,filter_all aj]
 rw[ZE l 0 k hk aj ht,zg0] at az;have HK:=zc hk;clear aj ht hk;go_enter func104,ntmps104;go_wp2_with fail
 refine az.o.mono ?_;rintro e w1 ⟨rfl,ao⟩;have a6:Hid (yh w1 gb cap l):=HR.o.keep (ao.block gb HR.o.lt);have aZ:Hid (zm (λk=>k=gb) w w1):=zm.zea ao;clear ao az;have hk2:k+1<=9223372036854775807:=by have:=HK.o;omega
 have bd:¬(k:Int)= -1:=by omega
 have bc:((k:Int)== -1)=false:=by rw[zgP];exact bd
 go_wp2;go_loopw [5,6,7] (λiv jv _ wr=>∃(i j:Nat) (l':List zt),iv=iA i/\jv=iA j/\i<j/\j<=l.length/\l'.length=l.length/\(∀x∈l',x∈l)/\l'.take i=(l.take j).filter (λe=> !fits e)/\l'.drop j=l.drop j/\yh wr gb cap l'/\zm (λk=>k=gb) w wr) (λ_ jv _ _=>l.length-(intOf jv).toNat)
 case atStart=>exact⟨k,k+1,l,rfl,by go_num,by omega,HK.o,rfl,λ_ h=>h,bs.o,rfl,a6.o,aZ.o⟩
 obtain⟨i,j,l',rfl,rfl,hij,hj,hlen,aY,af,ag,au,hs⟩:=hrel;obtain⟨ab,HS,ah,aK,aQ,aO⟩:=xz au hs hlen af ag aY;clear au hs hlen af ag aY a6 aZ;by_cases ax:j=l.length
 .have hge:¬(j:Int)<l.length:=by omega
  have aw:i<l.length:=by omega
  obtain⟨cur,ad,aa⟩:=ab.o;obtain⟨cur',w5,bh,aT,ar,aq,aV⟩:=G6 gb cap i l.length cur wr ad aa.2.2.1 aw aX;have aB:Hid (l.filter (λe=> !fits e)=l'.take i):=by
   unfold Hid;rw[aK.o,ax,zg7]
  have bl:Hid (yh w5 gb cap (l'.take i)):=⟨cur',aT,aa.front i (by rw[ah.o];omega) ar aq⟩;have bj:Hid (zm (λk=>k=gb) w w5):=HS.o.zem (ko.zfe aV);have bp:Hid ((l'.take i).length=i):=by unfold Hid;rw[List.length_take,ah.o];omega
  have hsb:=λW=>QW gb l.length cap i aw aX W;have hsf:=λW=>KQ (some (aA gb 0)) l.length cap i (by omega) W;clear ax ad aa aT ar aq aV;go_wp2;go_ret;exact⟨by rw[aB.o,bp.o];rfl,by rw[aB.o];exact bl,bj⟩
 have aE:j<l.length:=by omega
 have bb:(j:Int)<l.length:=by omega
 have aw:i<l.length:=by omega
 have bf:(i:Int)<l.length:=by omega
 obtain⟨b0,o0,eb,_,aS⟩:=ab.o.ents j (by rw[ah.o];exact aE);cases eb;obtain⟨ev,aJ⟩:=gen (l.getD j zJ);have ai:=aS;simp only[zbl aQ.o,<-aJ,Nat.zero_add] at ai;obtain⟨⟨K,H,R,f,V,nl,s⟩,fr,own⟩:=ev;have a1:Hid (wr.rangeAt gb (j*9) [iA K,iA H,iA R,iA f,iA V,bA nl,sA s,sA fr,bA own]):=ai;have aP:=zc aJ;have ae:=yo l zJ j aE;rw[<-aP.o] at ae;have aN:=zc ae;have a8:Hid (∀W,BW wr W->Calls prog g (#[.agg #[iA K,iA H,iA R,iA f,iA V,bA nl,sA s,sA fr,bA own]]++lb) W λen w'=>en=.returned (bA (fits ⟨⟨K,H,R,f,V,nl,s⟩,fr,own⟩))/\BW W w'):=λW hW=>HF W ⟨⟨K,H,R,f,V,nl,s⟩,fr,own⟩ l' ae ah aO (ab.o.keep (hW.block gb ab.o.lt)) (HS.o.zem (zm.zea hW));clear aS ai aJ ae;cases aF:fits ⟨⟨K,H,R,f,V,nl,s⟩,fr,own⟩ with
 |true=>
  have aL:Hid (l'.take i=(l.take (j+1)).filter λe=> !fits e):=by
   unfold Hid;rw[vS aE,<-aP.o,aF,zgT rfl,List.append_nil,aK.o]
  go_wp2_with (first|(refine zgX rfl 164 _ rfl gb (j*9) (by first|rfl|simp[Act.eval,Act.put]) [iA K,iA H,iA R,iA f,iA V,bA nl,sA s,sA fr,bA own] _ a1.o underlying164 rfl Tryz.zc5 ?_)|(refine zf rfl 164 _ _ rfl wr #[iA K,iA H,iA R,iA f,iA V,bA nl,sA s,sA fr,bA own] rfl rfl 164 _ rfl (by simp[Value.oneCell']) Tryz.zc5 ?_;intro w2 av ay aH;have aG:=zc av;have al:Hid (BW wr w2):=ay;clear av ay aH)|(refine zE rfl 164 _ rfl wr.heap.size rfl 164 #[iA K,iA H,iA R,iA f,iA V,bA nl,sA s,sA fr,bA own] _ aG underlying164 rfl Tryz.zc5 ?_)|(go_at_fn g;refine(a8 w2 al).mono ?_;rw[aF];rintro e w3 ⟨rfl,an⟩;have aD:Hid (BW wr w3):=al.o.trans (an.mono al.o.size);clear an)|fail)
  go_roundw
  case rel=>exact⟨i,j+1,l',rfl,by go_num,by omega,by omega,ah.o,aO.o,aL.o,Qy aQ.o,ab.o.keep (aD.o.block gb ab.o.lt),HS.o.zem (zm.zea aD.o)⟩
  simp[intOf];omega
 |false=>
  have aL:Hid ((l'.set i ⟨⟨K,H,R,f,V,nl,s⟩,fr,own⟩).take (i+1)=(l.take (j+1)).filter λe=> !fits e):=by
   unfold Hid;rw[vS aE,<-aP.o,aF,zgU (by decide),zaD _ (by rw[ah.o];exact aw),aK]
  have bt:Hid ((l'.set i ⟨⟨K,H,R,f,V,nl,s⟩,fr,own⟩).drop (j+1)=l.drop (j+1)):=by
   unfold Hid;rw[set_drop _ (by omega)];exact Qy aQ
  have br:Hid (∀x∈l'.set i ⟨⟨K,H,R,f,V,nl,s⟩,fr,own⟩,x∈l):=λx hx=>by
   rcases List.mem_or_eq_of_mem_set hx with h|h
   .exact aO x h
   rw[h];exact aN
  have bq:Hid ((l'.set i ⟨⟨K,H,R,f,V,nl,s⟩,fr,own⟩).length=l.length):=by unfold Hid;rw[List.length_set];exact ah
  obtain⟨cur,ad,aa⟩:=ab.o;obtain⟨ak,aR⟩:=ze aa ad;have bg:i*9+9<=cur.size:=by
   rw[aa.2.2.1];have:(i+1)*9<=cap*9:=Nat.mul_le_mul_right 9 (by omega);omega
  have hgl:gb<wr.heap.size:=ab.o.lt;clear aa ad;go_wp2_with (first|(refine zgX rfl 164 _ rfl gb (j*9) (by first|rfl|simp[Act.eval,Act.put]) [iA K,iA H,iA R,iA f,iA V,bA nl,sA s,sA fr,bA own] _ a1.o underlying164 rfl Tryz.zc5 ?_)|(refine zf rfl 164 _ _ rfl wr #[iA K,iA H,iA R,iA f,iA V,bA nl,sA s,sA fr,bA own] rfl rfl 164 _ rfl (by simp[Value.oneCell']) Tryz.zc5 ?_;intro w2 av ay aH;have aG:=zc av;have al:Hid (BW wr w2):=ay;clear av ay aH)|(refine zE rfl 164 _ rfl wr.heap.size rfl 164 #[iA K,iA H,iA R,iA f,iA V,bA nl,sA s,sA fr,bA own] _ aG underlying164 rfl Tryz.zc5 ?_)|(go_at_fn g;refine(a8 w2 al).mono ?_;rw[aF];rintro e w3 ⟨rfl,an⟩;have aM:=zc (blk aG an);have aD:Hid (BW wr w3):=al.o.trans (an.mono al.o.size);have aC:=zc (blk aR aD);clear an)|(refine zg4 rfl 164 _ rfl wr.heap.size rfl 164 #[iA K,iA H,iA R,iA f,iA V,bA nl,sA s,sA fr,bA own] (0,0) _ aM.o underlying164 rfl Tryz.zc5 ?_)|(refine xK rfl 164 _ _ rfl gb (i*9) #[iA K,iA H,iA R,iA f,iA V,bA nl,sA s,sA fr,bA own] (by first|rfl|simp[Act.eval,Act.put]) rfl 164 cur aC.o bg (by simp[Value.oneCell']) Tryz.zc5 ?_;intro w4 aU aW;have bn:=zc aU;have bo:=zc aW;clear aU aW)|fail)
  have bm:Hid (yh w4 gb cap (l'.set i ⟨⟨K,H,R,f,V,nl,s⟩,fr,own⟩)):=⟨_,bn,ak.o.set i ⟨⟨K,H,R,f,V,nl,s⟩,fr,own⟩ (by rw[ah.o];exact aw)⟩;go_roundw
  case rel=>exact⟨i+1,j+1,l'.set i ⟨⟨K,H,R,f,V,nl,s⟩,fr,own⟩,by go_num,by go_num,by omega,by omega,bq.o,br.o,aL.o,bt.o,bm.o,(HS.o.zem (zm.zea aD.o)).zem (ko.zfe bo.o)⟩
  simp[intOf];omega

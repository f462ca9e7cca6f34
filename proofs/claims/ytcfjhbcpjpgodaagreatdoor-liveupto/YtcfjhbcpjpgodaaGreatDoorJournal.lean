import Derived.Test.YtcfjhbcpjpgodaaGreatDoorJ14
import Derived.Test.YtcfjhbcpjpgodaaGreatDoorJ13
namespace Go.Proofs.YtcfjhbcpjpgodaaGreatDoor
open Go.RowKit Proofs.Tryz
set_option maxRecDepth 100000
set_option maxHeartbeats 0
set_option linter.all false
variable{l:List zl}{fits:zl->Bool}{r:Int}
def ZG(l:List zl)(f:zj5):Bool:=l.any λe=>decide (e.fr=f)
theorem zeu{f:zj5}(h:∀e∈l,e.fr≠f):ZG l f=false:=by
 unfold ZG;rw[List.any_eq_false];intro e he;simpa using h e he
theorem zet(l:List zl)(p:Option Addr)(cap:Nat)(t:zj5)(w:World)(hl:kD w w.heap.size p l.length (λi=>l.getD i yl))(hm:l.length<=maxLen):
 Calls prog 127 #[.slice p l.length cap,sA t] w λe w'=>e=.returned (bA (ZG l t))/\BW w w':=by
 have HL:=zc hl;have hmx:l.length<=9223372036854775807:=by unfold maxLen at hm;omega
 clear hl hm;go_enter func127,ntmps127;go_wp2;go_loopw [6,9] (λ_ i wr=>∃j:Nat,j<=l.length/\i=iA j/\(∀e∈l.take j,e.fr≠t)/\BW w wr) (λ_ i _=>l.length-(intOf i).toNat)
 case atStart=>exact⟨0,zjG _,rfl,λe he=>by simp at he,zjB _ _⟩
 obtain⟨j,hj,rfl,an,hb⟩:=hrel;obtain⟨HB,aq⟩:=zn hb an;clear hb an;by_cases ae:j=l.length
 .have HF:Hid (ZG l t=false):=zeu (by have h:=aq.o;rw[ae,zke] at h;exact h);have hge:¬(j:Int)<l.length:=by omega
  clear ae;go_wp2;go_ret;exact⟨yz HF.o.symm,HB⟩
 have ai:j<l.length:=by omega
 have au:(j:Int)<l.length:=by omega
 obtain⟨b,o,rfl,av,al⟩:=HL.o.below HB j ai;obtain⟨ev,aj⟩:=gen (l.getD j yl);have aa:=al;simp only[<-aj] at aa;obtain⟨⟨K,H,R,f,V,nl,s⟩,fr,own⟩:=ev;have ao:Hid (wr.rangeAt b (o+j*9) [iA K,iA H,iA R,iA f,iA V,bA nl,sA s,sA fr,bA own]):=aa;have ar:=zc aj;clear al aa aj av;by_cases ag:fr=t
 .have HF:Hid (ZG l t=true):=by
   unfold Hid ZG;rw[List.any_eq_true];refine⟨_,kz l yl j ai,?_⟩;rw[<-ar.o];simpa using ag
  subst ag;go_wp2_with (first|(refine zj6 rfl 164 _ rfl b (o+j*9) rfl [iA K,iA H,iA R,iA f,iA V,bA nl,sA s,sA fr,bA own] _ ao.o underlying164 rfl Tryz.zfS ?_)|(refine zh rfl 164 _ _ rfl wr #[iA K,iA H,iA R,iA f,iA V,bA nl,sA s,sA fr,bA own] rfl rfl 164 _ rfl (by simp[Value.oneCell']) Tryz.zfS ?_;intro w2 ad af ah;have c7:cN w2 wr 7 (sA fr):=zjD w2 wr.heap.size 7 _ _ _ ad;have aw:=zc ad;have ak:Hid (BW wr w2):=af;clear ad af ah)|fail)
  go_ret;exact⟨yz HF.o.symm,HB.o.trans (ak.o.mono HB.o.size)⟩
 have q1:=gB ag;have ax:Hid (∀e∈l.take (j+1),e.fr≠t):=by
  intro e he;rw[ym l yl j ai,zjU] at he;rcases he with he|he
  .exact aq e he
  rw[zjW] at he;rw[he,<-ar.o];exact ag
 go_wp2_with (first|(refine zj6 rfl 164 _ rfl b (o+j*9) rfl [iA K,iA H,iA R,iA f,iA V,bA nl,sA s,sA fr,bA own] _ ao.o underlying164 rfl Tryz.zfS ?_)|(refine zh rfl 164 _ _ rfl wr #[iA K,iA H,iA R,iA f,iA V,bA nl,sA s,sA fr,bA own] rfl rfl 164 _ rfl (by simp[Value.oneCell']) Tryz.zfS ?_;intro w2 ad af ah;have c7:cN w2 wr 7 (sA fr):=zjD w2 wr.heap.size 7 _ _ _ ad;have aw:=zc ad;have ak:Hid (BW wr w2):=af;clear ad af ah)|fail)
 go_roundw
 case rel=>exact⟨j+1,by omega,by go_num,ax.o,HB.o.trans (ak.o.mono HB.o.size)⟩
 simp[intOf];omega
def Qq(m:kE)(e:zl):Bool:=decide (e.m.k=m.k/\e.m.h=m.h/\e.m.r=m.r/\e.m.f=m.f)
def likeN(l:List zl)(m:kE):Nat:=(l.filter (Qq m)).length
theorem zaa(l:List zl)(m:kE)(k:Nat)(h:k<l.length):likeN (l.take (k+1)) m=likeN (l.take k) m+if Qq m (l.getD k yl) then 1 else 0:=by
 unfold likeN;rw[ym l yl k h,List.filter_append,zjO];cases hb:Qq m (l.getD k yl) with
 |true=>
  rw[List.filter_cons_of_pos hb];rfl
 |false=>
  rw[List.filter_cons_of_neg (by rw[hb];decide)];rfl
def FitsAt(g:Nat)(lb:Array Value)(fits:zl->Bool)(l:List zl)(w:World):Prop:=
 ∀(W:World) (e:zl),e∈l->BW w W->Calls prog g (#[.agg e.cells]++lb) W λen w'=>en=.returned (bA (fits e))/\BW W w'
theorem FitsAt.later{g:Nat}{lb:Array Value}{w w':World}(h:FitsAt g lb fits l w)(hb:BW w w'):FitsAt g lb fits l w':=λW e he hW=>h W e he (hb.trans (hW.mono hb.size))
def qo(g:Nat):Prop:=∀(args:Array Value) (w:World),(callFunc g args).run prog w=.ok (.enter g args) w
def sendB(fits:zl->Bool)(l:List zl):Nat->Bool:=λi=>l.any λe=>fits e&&decide (e.m.f=(i:Int))
theorem Y1{k:Nat}(h:k<l.length)(i:Nat):sendB fits (l.take (k+1)) i=(sendB fits (l.take k) i||(fits (l.getD k yl)&&decide ((l.getD k yl).m.f=(i:Int)))):=by
 unfold sendB;rw[ym l yl k h,List.any_append];simp
theorem Yv{b b':Nat->Bool}(h:∀i,i<8->b i=b' i):kB b=kB b':=by
 unfold kB;rw[h 0 (by omega),h 1 (by omega),h 2 (by omega),h 3 (by omega),h 4 (by omega),h 5 (by omega),h 6 (by omega),h 7 (by omega)]
theorem xn(g:Nat)(lb:Array Value)(fits:zl->Bool)(l:List zl)(p:Option Addr)(cap:Nat)(w:World)(eg:qo g)(hl:kD w w.heap.size p l.length (λi=>l.getD i yl))(hm:l.length<=maxLen)(hf:FitsAt g lb fits l w)(hid:∀e∈l,0<=e.m.f/\e.m.f<8):
 Calls prog 154 #[.slice p l.length cap,.func (.func g) #[] lb] w λe w'=>e=.returned (.agg (kB (sendB fits l)))/\BW w w':=by
 obtain⟨HL,HF,aE⟩:=zS hl hf hid;have hmx:l.length<=9223372036854775807:=by unfold maxLen at hm;omega
 have eg':∀(args:Array Value) (w:World),(callFunc g args).run prog w=.ok (.enter g args) w:=eg;clear hl hm hf hid eg;go_enter func154,ntmps154;go_wp2;go_loopw [7,10] (λ_ i wr=>∃j:Nat,j<=l.length/\i=iA j/\wr.heap[w.heap.size]? =some (.cells (kB λ_=>false) 190 (0,0))/\wr.heap[w.heap.size+1]? =some (.cells (kB (sendB fits (l.take j))) 190 (0,0))/\BW w wr) (λ_ i _=>l.length-(intOf i).toNat)
 case atStart=>
  refine⟨0,zjG _,rfl,?_,?_,(bwA w).alloc (by simp) _⟩
  .rw [zj9 _ _ w.heap.size (by simp)];exact zjC w _
  have h:=zjC (w.alloc (.cells (kB λ_=>false) 190)) (.cells (kB λ_=>false) 190);have e1:(w.alloc (.cells (kB λ_=>false) 190)).heap.size=w.heap.size+1:=by simp
  rw[e1] at h;exact h
 obtain⟨j,hj,rfl,ay,ax,hb⟩:=hrel;obtain⟨HB,aq,ag⟩:=zS hb ay ax;clear hb ay ax;by_cases ah:j=l.length
 .have hge:¬(j:Int)<l.length:=by omega
  have aL:Hid (wr.heap[w.heap.size+1]? =some (.cells (kB (sendB fits l)) 190 (0,0))):=by have h:=ag.o;rw[ah,zke] at h;exact h
  clear ah;go_wp2_with (first|(refine zkb rfl 190 _ rfl (w.heap.size+1) rfl 190 (kB (sendB fits l)) (0,0) _ aL.o underlying190 rfl Tryz.zgA ?_)|(refine zd rfl 190 _ _ rfl w.heap.size (kB (sendB fits l)) rfl rfl 190 _ aq.o rfl (by simp[kB,Value.oneCell']) Tryz.zgA ?_;intro w3 av az;have aM:=zc av;have aa:Hid (BW w w3):=HB.o.trans (az.below (zjA _));clear av az)|fail)
  exact zjT (v:=.agg (kB (sendB fits l))) (kx results154 _ _ w.heap.size 190 _ _ rfl aM underlying190 rfl Tryz.zgA) rfl ⟨rfl,aa⟩
 have ak:j<l.length:=by omega
 have aG:(j:Int)<l.length:=by omega
 have hz:w.heap.size+1<wr.heap.size:=zg ag;obtain⟨b,o,rfl,aJ,au⟩:=HL.o.below HB j ak;obtain⟨ev,ao⟩:=gen (l.getD j yl);have ae:=au;simp only[<-ao] at ae;obtain⟨⟨K,H,R,f,V,nl,s⟩,fr,own⟩:=ev;have aK:Hid (wr.rangeAt b (o+j*9) [iA K,iA H,iA R,iA f,iA V,bA nl,sA s,sA fr,bA own]):=ae;have ar:=zc ao;clear au ae ao aJ;have ad:=zc (kz l yl j ak);rw[<-ar.o] at ad;obtain⟨fi,rfl⟩:∃fi:Nat,f=(fi:Int):=⟨f.toNat,by have:=aE.o _ ad.o;simp only at this;omega⟩;have aB:fi<8:=by have:=aE.o _ ad.o;simp only at this;omega
 have aH:(fi:Int)<8:=by omega
 have aN:=zc (λW hW=>HF W _ ad hW);go_wp2_with (first|(refine zj6 rfl 164 _ rfl b (o+j*9) rfl [iA K,iA H,iA R,iA fi,iA V,bA nl,sA s,sA fr,bA own] _ aK.o underlying164 rfl Tryz.zfS ?_)|(refine zh rfl 164 _ _ rfl wr #[iA K,iA H,iA R,iA fi,iA V,bA nl,sA s,sA fr,bA own] rfl rfl 164 _ rfl (by simp[Value.oneCell']) Tryz.zfS ?_;intro w2 aw aC aF;have aD:=zc aw;have aj:Hid (BW wr w2):=aC;clear aw aC aF)|(refine zkb rfl 164 _ rfl wr.heap.size rfl 164 #[iA K,iA H,iA R,iA fi,iA V,bA nl,sA s,sA fr,bA own] (0,0) _ aD underlying164 rfl Tryz.zfS ?_)|fail)
 have an:=zc (aN w2 (HB.o.trans (aj.o.mono HB.o.size)));cases al:fits ⟨⟨K,H,R,(fi:Int),V,nl,s⟩,fr,own⟩ with
 |false=>
  rw[al] at an;go_wp2_with (go_at_fn g;refine an.o.mono ?_;rintro e w3 ⟨rfl,af⟩;have ai:=zc af;clear af)
  have aa:Hid (BW wr w3):=aj.o.trans (ai.o.mono aj.o.size);go_roundw
  case rel=>
   refine⟨j+1,by omega,by go_num,blk aq.o aa.o,?_,HB.o.trans (aa.o.mono HB.o.size)⟩;rw[Yv (b':=sendB fits (l.take j)) (λi hi=>by rw[Y1 ak,<-ar.o,al];simp)];exact blk ag aa
  simp[intOf];omega
 |true=>
  rw[al] at an;go_wp2_with (go_at_fn g;refine an.o.mono ?_;rintro e w3 ⟨rfl,af⟩;have ai:=zc af;have aa:Hid (BW wr w3):=aj.o.trans (af.mono aj.o.size);have d3:cN w3 wr 3 (iA fi):=zjD w3 wr.heap.size 3 _ _ _ (blk aD af);have d4:cE w3 (w.heap.size+1) fi (bA (sendB fits (l.take j) fi)):=(zjD w3 _ fi _ _ _ (blk ag aa)).trans (gh _ fi aB);have d5:w3.frozen? (aA (w.heap.size+1) fi)=false:=zt (blk ag aa) fi;clear af)
  go_roundw
  case rel=>
   refine⟨j+1,by omega,by go_num,?_,?_,(HB.o.trans (aa.o.mono HB.o.size)).setCell (by exact Nat.le_succ _) _⟩
   .rw [Below.heap_setCell _ _ _ _ (by show w.heap.size≠w.heap.size+1;omega)];exact blk aq aa
   have h1:=blk ag aa;rw[Yv (b':=zdZ (sendB fits (l.take j)) fi) (λi hi=>by
    rw[Y1 ak,<-ar.o,al];unfold zdZ;by_cases e:i=fi
    .subst e;simp
    rw[zj3 e];have e2:¬((fi:Int)=(i:Int)):=by omega
    simp[e2]),<-Va _ fi aB]
   simp[World.setCell,Array.getElem?_modify,h1]
  simp[intOf];omega
def zJ(fits:zl->Bool)(l:List zl):List zj5:=(l.filter fits).map (·.fr)
theorem vY(fits:zl->Bool)(l:List zl):(zJ fits l).length<=l.length:=by
 unfold zJ;rw[List.length_map];exact List.length_filter_le fits l
theorem Zf(fits:zl->Bool)(l:List zl)(j:Nat)(h:j<l.length):zJ fits (l.take (j+1))=if fits (l.getD j yl)=true then zJ fits (l.take j)++[(l.getD j yl).fr] else zJ fits (l.take j):=by
 unfold zJ;rw[ym l yl j h,List.filter_append];by_cases hf:fits (l.getD j yl)=true
 .rw [zj2 hf,List.filter_cons_of_pos hf,List.filter_nil,List.map_append];rfl
 rw[zj3 hf,List.filter_cons_of_neg hf,List.filter_nil,List.append_nil]
theorem Kk(g:Nat)(lb:Array Value)(fits:zl->Bool)(l:List zl)(p:Option Addr)(cap:Nat)(w:World)(eg:qo g)(hl:kD w w.heap.size p l.length (λi=>l.getD i yl))(hm:l.length<=1000000000)(hf:FitsAt g lb fits l w):
 Calls prog 92 #[.slice p l.length cap,.func (.func g) #[] lb] w λe w'=>∃v,e=.returned v/\w'.ownsRow w.heap.size 9 1 v (zJ fits l).length ((zJ fits l).map .string)/\BW w w':=by
 obtain⟨i9,aL,aG,aF,aq⟩:=info_parts Tryz.zgM;obtain⟨HL,HF⟩:=zn hl hf;have hmx:l.length<=9223372036854775807:=by omega
 have HM:=zc hm;have eg':∀(args:Array Value) (w:World),(callFunc g args).run prog w=.ok (.enter g args) w:=eg;clear hl hm hf eg;go_enter func92,ntmps92;go_wp2;go_loopw [5,7,10] (λv _ i wr=>∃j:Nat,j<=l.length/\i=iA j/\wr.ownsRow w.heap.size 9 1 v (zJ fits (l.take j)).length ((zJ fits (l.take j)).map .string)/\BW w wr) (λ_ _ i _=>l.length-(intOf i).toNat)
 case atStart=>exact⟨0,zjG _,rfl,zjZ _ _ _ _,zjB _ _⟩
 obtain⟨j,hj,rfl,hv,hb⟩:=hrel;obtain⟨HB,HV⟩:=zn hb hv;clear hb hv;by_cases ah:j=l.length
 .have hge:¬(j:Int)<l.length:=by omega
  have aw:=HV.o;rw[ah,zke] at aw;have av:=zc aw;clear ah aw;go_wp2;go_ret;exact⟨_,rfl,av,HB⟩
 have al:j<l.length:=by omega
 have aJ:(j:Int)<l.length:=by omega
 obtain⟨b,o,rfl,aM,az⟩:=HL.o.below HB j al;obtain⟨ev,au⟩:=gen (l.getD j yl);have ad:=az;simp only[<-au] at ad;obtain⟨⟨K,H,R,f,V,nl,s⟩,fr,own⟩:=ev;have aO:Hid (wr.rangeAt b (o+j*9) [iA K,iA H,iA R,iA f,iA V,bA nl,sA s,sA fr,bA own]):=ad;have ay:=zc au;clear az ad au aM;have ai:=zc (kz l yl j al);rw[<-ay.o] at ai;have aP:=zc (λW hW=>HF W _ ai hW);go_wp2_with (first|(refine zj6 rfl 164 _ rfl b (o+j*9) rfl [iA K,iA H,iA R,iA f,iA V,bA nl,sA s,sA fr,bA own] _ aO.o underlying164 rfl Tryz.zfS ?_)|(refine zh rfl 164 _ _ rfl wr #[iA K,iA H,iA R,iA f,iA V,bA nl,sA s,sA fr,bA own] rfl rfl 164 _ rfl (by simp[Value.oneCell']) Tryz.zfS ?_;intro w2 aB aC aq;have aD:=zc aB;have ak:Hid (BW wr w2):=aC;clear aB aC aq)|(refine zkb rfl 164 _ rfl wr.heap.size rfl 164 #[iA K,iA H,iA R,iA f,iA V,bA nl,sA s,sA fr,bA own] (0,0) _ aD underlying164 rfl Tryz.zfS ?_)|fail)
 have ao:=zc (aP w2 (HB.o.trans (ak.o.mono HB.o.size)));have aK:(zJ fits (l.take j)).length<=1000000000:=by
  have h1:=vY fits (l.take j);have h2:(l.take j).length<=l.length:=by rw[List.length_take];omega
  have:=HM.o;omega
 obtain⟨L,hL⟩:=gen (zJ fits (l.take j));rw[<-hL] at HV aK;have aE:=zc hL;clear hL;cases an:fits ⟨⟨K,H,R,f,V,nl,s⟩,fr,own⟩ with
 |false=>
  rw[an] at ao;go_wp2_with (go_at_fn g;refine ao.o.mono ?_;rintro e w3 ⟨rfl,ae⟩;have aj:=zc ae;clear ae)
  have af:Hid (BW wr w3):=ak.o.trans (aj.o.mono ak.o.size);go_roundw
  case rel=>
   refine⟨j+1,by omega,by go_num,?_,HB.o.trans (af.o.mono HB.o.size)⟩;rw[Zf fits l j al,<-ay.o,an,zj3 (by decide),<-aE.o];exact z7 HV af
  simp[intOf];omega
 |true=>
  rw[an] at ao;have aH:w.heap.size<=wr.heap.size:=HB.o.size;go_wp2_with (first|(go_at_fn g;refine ao.o.mono ?_;rintro e w3 ⟨rfl,ae⟩;have aj:=zc ae;have af:Hid (BW wr w3):=ak.o.trans (ae.mono ak.o.size);have d7:cN w3 wr 7 (sA fr):=zjD w3 wr.heap.size 7 _ _ _ (blk aD ae);have ar:w.heap.size<=w3.heap.size:=zjF aH af.o.size;clear ae)|(at_builtin;refine z8 _ rfl _ _ 30 rfl w.heap.size 9 i9 (sA zj4) 1 16 underlying30 aL aG aF aq rfl (by decide) _ _ _ rfl (z7 (z7 HV af) ((zjB _ w3).alloc (zjA _) (.cells #[sA fr] 9))) (nA w3 0) 1 1 [sA fr] rfl rfl ?c1 ?c2 ?c3 ?c4 ?c5 ?_)|go_in)
  case c1=>
   intro j u hj;match j,hj with
   |0,hj=>simp at hj;subst hj;simp[Addr.add]
  case c2=>first|rfl|(intro u hu;simp at hu;subst hu;rfl)
  case c3=>unfold maxLen;omega
  case c4=>omega
  case c5=>first|omega|(simp;omega)
  intro v4 w4 ag aa aN;have aQ:Hid (BW w w4):=((HB.o.trans (af.o.mono HB.o.size)).alloc ar _).grown aa (by simp;omega) (λk hk=>(HV.o.lt k hk).1);have ax:=zc ag;clear ag aa aN;go_wp2;go_roundw
  case rel=>
   refine⟨j+1,by omega,by go_num,?_,aQ.o⟩;rw[Zf fits l j al,<-ay.o,an,<-aE.o,zj2 rfl,zjO,List.map_append];exact ax
  simp[intOf];omega
def jC(r:Int)(fits:zl->Bool)(e:zl):Bool:=decide (e.m.k=1)&&decide (e.m.r=r)&&fits e
def propF(l:List zl)(r:Int)(fits:zl->Bool):Option zl:=l.find? (jC r fits)
theorem gF(h:∀e∈l,jC r fits e=false):propF l r fits=none:=by
 unfold propF;rw[List.find?_eq_none];intro e he;rw[h e he];decide
theorem GQ{j:Nat}(hj:j<l.length)(h:∀e∈l.take j,jC r fits e=false)(hp:jC r fits (l.getD j yl)=true):propF l r fits=some (l.getD j yl):=by
 unfold propF;have e:l.take j++(l.getD j yl::l.drop (j+1))=l:=by
  have h1:=ym l yl j hj;have h2:=List.take_append_drop (j+1) l;rw[h1,List.append_assoc] at h2;exact h2
 have e2:List.find? (jC r fits) (l.take j++(l.getD j yl::l.drop (j+1)))=some (l.getD j yl):=by
  rw[List.find?_append,List.find?_eq_none.2 (λx hx=>by rw[h x hx];decide),List.find?_cons_of_pos hp];rfl
 rw[e] at e2;exact e2
def ve(x:Option zl):Value:=.tuple #[.agg (x.getD yl).cells,bA x.isSome]
theorem vw(g:Nat)(lb:Array Value)(fits:zl->Bool)(l:List zl)(r:Int)(p:Option Addr)(cap:Nat)(w:World)(eg:qo g)(hl:kD w w.heap.size p l.length (λi=>l.getD i yl))(hm:l.length<=maxLen)(hf:FitsAt g lb fits (l.filter λe=>decide (e.m.k=1)&&decide (e.m.r=r)) w):
 Calls prog 148 #[.slice p l.length cap,iA r,.func (.func g) #[] lb] w λe w'=>e=.returned (ve (propF l r fits))/\BW w w':=by
 obtain⟨HL,HF⟩:=zn hl hf;have hmx:l.length<=9223372036854775807:=by unfold maxLen at hm;omega
 have eg':∀(args:Array Value) (w:World),(callFunc g args).run prog w=.ok (.enter g args) w:=eg;clear hl hm hf eg;go_enter func148,ntmps148;go_wp2;go_loopw [9,12] (λ_ i wr=>∃j:Nat,j<=l.length/\i=iA j/\(∀e∈l.take j,jC r fits e=false)/\wr.heap[w.heap.size]? =some (.cells yl.cells 164 (0,0))/\BW w wr) (λ_ i _=>l.length-(intOf i).toNat)
 case atStart=>exact⟨0,zjG _,rfl,λe he=>by simp at he,zjC w _,bwA w⟩
 obtain⟨j,hj,rfl,aJ,hq,hb⟩:=hrel;obtain⟨HB,HQ,aC⟩:=zS hb hq aJ;clear hb hq aJ;by_cases al:j=l.length
 .have hge:¬(j:Int)<l.length:=by omega
  have HN:Hid (propF l r fits=none):=gF (by have h:=aC.o;rw[al,zke] at h;exact h);clear al;go_wp2_with (first|(refine zd rfl 164 _ _ rfl w.heap.size yl.cells rfl rfl 164 _ HQ.o rfl (by simp[zl.cells,Value.oneCell']) Tryz.zfS ?_;intro w3 aF aH;have aO:=zc aF;have ai:Hid (BW w w3):=HB.o.trans (aH.below (zjA _));clear aF aH)|fail)
  exact zjT (v:=ve none) (yu results148 _ _ w.heap.size 164 _ _ _ rfl rfl aO underlying164 rfl Tryz.zfS) rfl ⟨by rw[HN.o],ai⟩
 have ao:j<l.length:=by omega
 have aL:(j:Int)<l.length:=by omega
 obtain⟨b,o,rfl,aM,aD⟩:=HL.o.below HB j ao;obtain⟨ev,ax⟩:=gen (l.getD j yl);have ah:=aD;simp only[<-ax] at ah;obtain⟨⟨K,H,R,f,V,nl,s⟩,fr,own⟩:=ev;have au:Hid (wr.rangeAt b (o+j*9) [iA K,iA H,iA R,iA f,iA V,bA nl,sA s,sA fr,bA own]):=ah;have av:=zc ax;clear aD ah ax aM;have hz:w.heap.size<wr.heap.size:=zg HQ;have af:=kz l yl j ao;rw[<-av.o] at af;have aB:Hid (jC r fits ⟨⟨K,H,R,f,V,nl,s⟩,fr,own⟩=false->∀e∈l.take (j+1),jC r fits e=false):=by
  intro h0 e he;rw[ym l yl j ao,zjU] at he;rcases he with he|he
  .exact aC e he
  rw[zjW] at he;rw[he,<-av.o];exact h0
 by_cases aq:K=1
 .by_cases aw:R=r
  .subst aq;subst aw;have aK:=zc (λW hW=>HF.o W ⟨⟨1,H,R,f,V,nl,s⟩,fr,own⟩ (List.mem_filter.2 ⟨af,by simp⟩) hW);have qrr:(R==R)=true:=by simp
   clear af;cases ar:fits ⟨⟨1,H,R,f,V,nl,s⟩,fr,own⟩ with
   |false=>
    have an:Hid (jC R fits ⟨⟨1,H,R,f,V,nl,s⟩,fr,own⟩=false):=by unfold Hid jC;rw[ar];simp
    go_wp2_with (first|(refine zj6 rfl 164 _ rfl b (o+j*9) rfl [iA 1,iA H,iA R,iA f,iA V,bA nl,sA s,sA fr,bA own] _ au.o underlying164 rfl Tryz.zfS ?_)|(refine zh rfl 164 _ _ rfl wr #[iA 1,iA H,iA R,iA f,iA V,bA nl,sA s,sA fr,bA own] rfl rfl 164 _ rfl (by simp[Value.oneCell']) Tryz.zfS ?_;intro w2 aa ae ag;have c0:cN w2 wr 0 (iA 1):=zjD w2 wr.heap.size 0 _ _ _ aa;have c2:cN w2 wr 2 (iA R):=zjD w2 wr.heap.size 2 _ _ _ aa;have ak:=zc aa;have ad:Hid (BW wr w2):=ae;clear aa ae ag)|(refine zD rfl 164 _ rfl wr.heap.size rfl 164 #[iA 1,iA H,iA R,iA f,iA V,bA nl,sA s,sA fr,bA own] _ ak underlying164 rfl Tryz.zfS ?_)|(go_at_fn g;refine(aK w2 (HB.o.trans (ad.o.mono HB.o.size))).mono ?_;rw[ar];rintro e w3 ⟨rfl,aj⟩;have ai:Hid (BW wr w3):=ad.o.trans (aj.mono ad.o.size);clear aj)|fail)
    go_roundw
    case rel=>exact⟨j+1,by omega,by go_num,aB.o an.o,blk HQ.o ai.o,HB.o.trans (ai.o.mono HB.o.size)⟩
    simp[intOf];omega
   |true=>
    have aP:Hid (propF l R fits=some ⟨⟨1,H,R,f,V,nl,s⟩,fr,own⟩):=by
     unfold Hid;rw[GQ ao aC.o (by rw[<-av.o];unfold jC;rw[ar];simp),<-av.o]
    go_wp2_with (first|(refine zj6 rfl 164 _ rfl b (o+j*9) rfl [iA 1,iA H,iA R,iA f,iA V,bA nl,sA s,sA fr,bA own] _ au.o underlying164 rfl Tryz.zfS ?_)|(refine zh rfl 164 _ _ rfl wr #[iA 1,iA H,iA R,iA f,iA V,bA nl,sA s,sA fr,bA own] rfl rfl 164 _ rfl (by simp[Value.oneCell']) Tryz.zfS ?_;intro w2 aa ae ag;have c0:cN w2 wr 0 (iA 1):=zjD w2 wr.heap.size 0 _ _ _ aa;have c2:cN w2 wr 2 (iA R):=zjD w2 wr.heap.size 2 _ _ _ aa;have ak:=zc aa;have ad:Hid (BW wr w2):=ae;clear aa ae ag)|(refine zD rfl 164 _ rfl wr.heap.size rfl 164 #[iA 1,iA H,iA R,iA f,iA V,bA nl,sA s,sA fr,bA own] _ ak underlying164 rfl Tryz.zfS ?_)|(go_at_fn g;refine(aK w2 (HB.o.trans (ad.o.mono HB.o.size))).mono ?_;rw[ar];rintro e w3 ⟨rfl,aj⟩;have ai:Hid (BW wr w3):=ad.o.trans (aj.mono ad.o.size);have az:=zc (blk ak aj);have ay:=zc (blk HQ ai);clear aj)|(refine zkb rfl 164 _ rfl wr.heap.size rfl 164 #[iA 1,iA H,iA R,iA f,iA V,bA nl,sA s,sA fr,bA own] (0,0) _ az.o underlying164 rfl Tryz.zfS ?_)|(refine zd rfl 164 _ _ rfl w.heap.size #[iA 1,iA H,iA R,iA f,iA V,bA nl,sA s,sA fr,bA own] rfl rfl 164 _ ay.o rfl (by simp[Value.oneCell']) Tryz.zfS ?_;intro w4 aE aG;have aN:=zc aE;have aQ:Hid (BW w w4):=(HB.o.trans (ai.o.mono HB.o.size)).trans (aG.below (zjA _));clear aE aG)|fail)
    exact zjT (v:=ve (some ⟨⟨1,H,R,f,V,nl,s⟩,fr,own⟩)) (yu results148 _ _ w.heap.size 164 _ _ _ rfl rfl aN underlying164 rfl Tryz.zfS) rfl ⟨by rw[aP.o],aQ⟩
  subst aq;have an:Hid (jC r fits ⟨⟨1,H,R,f,V,nl,s⟩,fr,own⟩=false):=by unfold Hid jC;simp[aw]
  have qrr:(R==r)=false:=by simpa using aw
  clear af;go_wp2_with (first|(refine zj6 rfl 164 _ rfl b (o+j*9) rfl [iA 1,iA H,iA R,iA f,iA V,bA nl,sA s,sA fr,bA own] _ au.o underlying164 rfl Tryz.zfS ?_)|(refine zh rfl 164 _ _ rfl wr #[iA 1,iA H,iA R,iA f,iA V,bA nl,sA s,sA fr,bA own] rfl rfl 164 _ rfl (by simp[Value.oneCell']) Tryz.zfS ?_;intro w2 aa ae ag;have c0:cN w2 wr 0 (iA 1):=zjD w2 wr.heap.size 0 _ _ _ aa;have c2:cN w2 wr 2 (iA R):=zjD w2 wr.heap.size 2 _ _ _ aa;have ak:=zc aa;have ad:Hid (BW wr w2):=ae;clear aa ae ag)|fail)
  go_roundw
  case rel=>exact⟨j+1,by omega,by go_num,aB.o an.o,blk HQ.o ad.o,HB.o.trans (ad.o.mono HB.o.size)⟩
  simp[intOf];omega
 have an:Hid (jC r fits ⟨⟨K,H,R,f,V,nl,s⟩,fr,own⟩=false):=by unfold Hid jC;simp[aq]
 have qkk:(K==1)=false:=by simpa using aq
 clear af;go_wp2_with (first|(refine zj6 rfl 164 _ rfl b (o+j*9) rfl [iA K,iA H,iA R,iA f,iA V,bA nl,sA s,sA fr,bA own] _ au.o underlying164 rfl Tryz.zfS ?_)|(refine zh rfl 164 _ _ rfl wr #[iA K,iA H,iA R,iA f,iA V,bA nl,sA s,sA fr,bA own] rfl rfl 164 _ rfl (by simp[Value.oneCell']) Tryz.zfS ?_;intro w2 aa ae ag;have c0:cN w2 wr 0 (iA K):=zjD w2 wr.heap.size 0 _ _ _ aa;have ak:=zc aa;have ad:Hid (BW wr w2):=ae;clear aa ae ag)|fail)
 go_roundw
 case rel=>exact⟨j+1,by omega,by go_num,aB.o an.o,blk HQ.o ad.o,HB.o.trans (ad.o.mono HB.o.size)⟩
 simp[intOf];omega

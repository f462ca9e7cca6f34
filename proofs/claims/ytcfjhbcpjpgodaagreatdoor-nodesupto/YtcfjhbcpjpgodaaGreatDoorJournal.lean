import Derived.Test.YtcfjhbcpjpgodaaGreatDoorJ15
import Derived.Test.YtcfjhbcpjpgodaaGreatDoorJ18
namespace Go.Proofs.YtcfjhbcpjpgodaaGreatDoor
open Go.RowKit Proofs.Tryz
set_option maxRecDepth 100000
set_option maxHeartbeats 0
set_option linter.all false
variable{l:List zt}{fits:zt->Bool}{r:Int}
def gA(l:List zt)(f:zgW):Bool:=l.any λe=>decide (e.fr=f)
theorem zbZ{f:zgW}(h:∀e∈l,e.fr≠f):gA l f=false:=by
 unfold gA;rw[List.any_eq_false];intro e he;simpa using h e he
theorem zbY(l:List zt)(p:Option Addr)(cap:Nat)(t:zgW)(w:World)(hl:km w w.heap.size p l.length (λi=>l.getD i zJ))(hm:l.length<=maxLen):
 Calls prog 127 #[.slice p l.length cap,sA t] w λe w'=>e=.returned (bA (gA l t))/\BW w w':=by
 have HL:=zc hl;have hmx:l.length<=9223372036854775807:=by unfold maxLen at hm;omega
 clear hl hm;go_enter func127,ntmps127;go_wp2;go_loopw [6,9] (λ_ i wr=>∃j:Nat,j<=l.length/\i=iA j/\(∀e∈l.take j,e.fr≠t)/\BW w wr) (λ_ i _=>l.length-(intOf i).toNat)
 case atStart=>exact⟨0,zgv _,rfl,λe he=>by simp at he,zgq _ _⟩
 obtain⟨j,hj,rfl,al,hb⟩:=hrel;obtain⟨HB,ao⟩:=ze hb al;clear hb al;by_cases ad:j=l.length
 .have HF:Hid (gA l t=false):=zbZ (by have h:=ao.o;rw[ad,zg7] at h;exact h);have hge:¬(j:Int)<l.length:=by omega
  clear ad;go_wp2;go_ret;exact⟨zS HF.o.symm,HB⟩
 have ah:j<l.length:=by omega
 have ar:(j:Int)<l.length:=by omega
 obtain⟨b,o,rfl,au,ak⟩:=HL.o.below HB j ah;obtain⟨ev,ai⟩:=gen (l.getD j zJ);have aa:=ak;simp only[<-ai] at aa;obtain⟨⟨K,H,R,f,V,nl,s⟩,fr,own⟩:=ev;have an:Hid (wr.rangeAt b (o+j*9) [iA K,iA H,iA R,iA f,iA V,bA nl,sA s,sA fr,bA own]):=aa;have aq:=zc ai;clear ak aa ai au;by_cases af:fr=t
 .have HF:Hid (gA l t=true):=by
   unfold Hid gA;rw[List.any_eq_true];refine⟨_,yo l zJ j ah,?_⟩;rw[<-aq.o];simpa using af
  subst af;go_wp2_with (first|(refine zgX rfl 164 _ rfl b (o+j*9) rfl [iA K,iA H,iA R,iA f,iA V,bA nl,sA s,sA fr,bA own] _ an.o underlying164 rfl Tryz.zc5 ?_)|(refine zf rfl 164 _ _ rfl wr #[iA K,iA H,iA R,iA f,iA V,bA nl,sA s,sA fr,bA own] rfl rfl 164 _ rfl (by simp[Value.oneCell']) Tryz.zc5 ?_;intro w2 ab ae ag;have c7:cN w2 wr 7 (sA fr):=zgs w2 wr.heap.size 7 _ _ _ ab;have av:=zc ab;have aj:Hid (BW wr w2):=ae;clear ab ae ag)|fail)
  go_ret;exact⟨zS HF.o.symm,HB.o.trans (aj.o.mono HB.o.size)⟩
 have q1:=kP af;have aw:Hid (∀e∈l.take (j+1),e.fr≠t):=by
  intro e he;rw[zy l zJ j ah,zgK] at he;rcases he with he|he
  .exact ao e he
  rw[zgM] at he;rw[he,<-aq.o];exact af
 go_wp2_with (first|(refine zgX rfl 164 _ rfl b (o+j*9) rfl [iA K,iA H,iA R,iA f,iA V,bA nl,sA s,sA fr,bA own] _ an.o underlying164 rfl Tryz.zc5 ?_)|(refine zf rfl 164 _ _ rfl wr #[iA K,iA H,iA R,iA f,iA V,bA nl,sA s,sA fr,bA own] rfl rfl 164 _ rfl (by simp[Value.oneCell']) Tryz.zc5 ?_;intro w2 ab ae ag;have c7:cN w2 wr 7 (sA fr):=zgs w2 wr.heap.size 7 _ _ _ ab;have av:=zc ab;have aj:Hid (BW wr w2):=ae;clear ab ae ag)|fail)
 go_roundw
 case rel=>exact⟨j+1,by omega,by go_num,aw.o,HB.o.trans (aj.o.mono HB.o.size)⟩
 simp[intOf];omega
def xS(m:yX)(e:zt):Bool:=decide (e.m.k=m.k/\e.m.h=m.h/\e.m.r=m.r/\e.m.f=m.f)
def likeN(l:List zt)(m:yX):Nat:=(l.filter (xS m)).length
theorem Yw(l:List zt)(m:yX)(k:Nat)(h:k<l.length):likeN (l.take (k+1)) m=likeN (l.take k) m+if xS m (l.getD k zJ) then 1 else 0:=by
 unfold likeN;rw[zy l zJ k h,List.filter_append,zgE];cases hb:xS m (l.getD k zJ) with
 |true=>
  rw[List.filter_cons_of_pos hb];rfl
 |false=>
  rw[List.filter_cons_of_neg (by rw[hb];decide)];rfl
def FitsAt(g:Nat)(lb:Array Value)(fits:zt->Bool)(l:List zt)(w:World):Prop:=
 ∀(W:World) (e:zt),e∈l->BW w W->Calls prog g (#[.agg e.cells]++lb) W λen w'=>en=.returned (bA (fits e))/\BW W w'
theorem FitsAt.later{g:Nat}{lb:Array Value}{w w':World}(h:FitsAt g lb fits l w)(hb:BW w w'):FitsAt g lb fits l w':=λW e he hW=>h W e he (hb.trans (hW.mono hb.size))
def kR(g:Nat):Prop:=∀(args:Array Value) (w:World),(callFunc g args).run prog w=.ok (.enter g args) w
def sendB(fits:zt->Bool)(l:List zt):Nat->Bool:=λi=>l.any λe=>fits e&&decide (e.m.f=(i:Int))
theorem vj{k:Nat}(h:k<l.length)(i:Nat):sendB fits (l.take (k+1)) i=(sendB fits (l.take k) i||(fits (l.getD k zJ)&&decide ((l.getD k zJ).m.f=(i:Int)))):=by
 unfold sendB;rw[zy l zJ k h,List.any_append];simp
theorem jq{b b':Nat->Bool}(h:∀i,i<8->b i=b' i):kj b=kj b':=by
 unfold kj;rw[h 0 (by omega),h 1 (by omega),h 2 (by omega),h 3 (by omega),h 4 (by omega),h 5 (by omega),h 6 (by omega),h 7 (by omega)]
theorem vR(g:Nat)(lb:Array Value)(fits:zt->Bool)(l:List zt)(p:Option Addr)(cap:Nat)(w:World)(eg:kR g)(hl:km w w.heap.size p l.length (λi=>l.getD i zJ))(hm:l.length<=maxLen)(hf:FitsAt g lb fits l w)(hid:∀e∈l,0<=e.m.f/\e.m.f<8):
 Calls prog 154 #[.slice p l.length cap,.func (.func g) #[] lb] w λe w'=>e=.returned (.agg (kj (sendB fits l)))/\BW w w':=by
 obtain⟨HL,HF,aD⟩:=zC hl hf hid;have hmx:l.length<=9223372036854775807:=by unfold maxLen at hm;omega
 have eg':∀(args:Array Value) (w:World),(callFunc g args).run prog w=.ok (.enter g args) w:=eg;clear hl hm hf hid eg;go_enter func154,ntmps154;go_wp2;go_loopw [7,10] (λ_ i wr=>∃j:Nat,j<=l.length/\i=iA j/\wr.heap[w.heap.size]? =some (.cells (kj λ_=>false) 190 (0,0))/\wr.heap[w.heap.size+1]? =some (.cells (kj (sendB fits (l.take j))) 190 (0,0))/\BW w wr) (λ_ i _=>l.length-(intOf i).toNat)
 case atStart=>
  refine⟨0,zgv _,rfl,?_,?_,(bwA w).alloc (by simp) _⟩
  .rw [zg2 _ _ w.heap.size (by simp)];exact zgr w _
  have h:=zgr (w.alloc (.cells (kj λ_=>false) 190)) (.cells (kj λ_=>false) 190);have e1:(w.alloc (.cells (kj λ_=>false) 190)).heap.size=w.heap.size+1:=by simp
  rw[e1] at h;exact h
 obtain⟨j,hj,rfl,ax,aw,hb⟩:=hrel;obtain⟨HB,ao,af⟩:=zC hb ax aw;clear hb ax aw;by_cases ag:j=l.length
 .have hge:¬(j:Int)<l.length:=by omega
  have aK:Hid (wr.heap[w.heap.size+1]? =some (.cells (kj (sendB fits l)) 190 (0,0))):=by have h:=af.o;rw[ag,zg7] at h;exact h
  clear ag;go_wp2_with (first|(refine zg4 rfl 190 _ rfl (w.heap.size+1) rfl 190 (kj (sendB fits l)) (0,0) _ aK.o underlying190 rfl Tryz.zd9 ?_)|(refine zi rfl 190 _ _ rfl w.heap.size (kj (sendB fits l)) rfl rfl 190 _ ao.o rfl (by simp[kj,Value.oneCell']) Tryz.zd9 ?_;intro w3 au ay;have aL:=zc au;have aa:Hid (BW w w3):=HB.o.trans (ay.below (zgp _));clear au ay)|fail)
  exact zgJ (v:=.agg (kj (sendB fits l))) (kW results154 _ _ w.heap.size 190 _ _ rfl aL underlying190 rfl Tryz.zd9) rfl ⟨rfl,aa⟩
 have aj:j<l.length:=by omega
 have aF:(j:Int)<l.length:=by omega
 have hz:w.heap.size+1<wr.heap.size:=zj af;obtain⟨b,o,rfl,aH,ar⟩:=HL.o.below HB j aj;obtain⟨ev,an⟩:=gen (l.getD j zJ);have ad:=ar;simp only[<-an] at ad;obtain⟨⟨K,H,R,f,V,nl,s⟩,fr,own⟩:=ev;have aJ:Hid (wr.rangeAt b (o+j*9) [iA K,iA H,iA R,iA f,iA V,bA nl,sA s,sA fr,bA own]):=ad;have aq:=zc an;clear ar ad an aH;have ab:=zc (yo l zJ j aj);rw[<-aq.o] at ab;obtain⟨fi,rfl⟩:∃fi:Nat,f=(fi:Int):=⟨f.toNat,by have:=aD.o _ ab.o;simp only at this;omega⟩;have az:fi<8:=by have:=aD.o _ ab.o;simp only at this;omega
 have aG:(fi:Int)<8:=by omega
 have aM:=zc (λW hW=>HF W _ ab hW);go_wp2_with (first|(refine zgX rfl 164 _ rfl b (o+j*9) rfl [iA K,iA H,iA R,iA fi,iA V,bA nl,sA s,sA fr,bA own] _ aJ.o underlying164 rfl Tryz.zc5 ?_)|(refine zf rfl 164 _ _ rfl wr #[iA K,iA H,iA R,iA fi,iA V,bA nl,sA s,sA fr,bA own] rfl rfl 164 _ rfl (by simp[Value.oneCell']) Tryz.zc5 ?_;intro w2 av aB aE;have aC:=zc av;have ai:Hid (BW wr w2):=aB;clear av aB aE)|(refine zg4 rfl 164 _ rfl wr.heap.size rfl 164 #[iA K,iA H,iA R,iA fi,iA V,bA nl,sA s,sA fr,bA own] (0,0) _ aC underlying164 rfl Tryz.zc5 ?_)|fail)
 have al:=zc (aM w2 (HB.o.trans (ai.o.mono HB.o.size)));cases ak:fits ⟨⟨K,H,R,(fi:Int),V,nl,s⟩,fr,own⟩ with
 |false=>
  rw[ak] at al;go_wp2_with (go_at_fn g;refine al.o.mono ?_;rintro e w3 ⟨rfl,ae⟩;have ah:=zc ae;clear ae)
  have aa:Hid (BW wr w3):=ai.o.trans (ah.o.mono ai.o.size);go_roundw
  case rel=>
   refine⟨j+1,by omega,by go_num,blk ao.o aa.o,?_,HB.o.trans (aa.o.mono HB.o.size)⟩;rw[jq (b':=sendB fits (l.take j)) (λi hi=>by rw[vj aj,<-aq.o,ak];simp)];exact blk af aa
  simp[intOf];omega
 |true=>
  rw[ak] at al;go_wp2_with (go_at_fn g;refine al.o.mono ?_;rintro e w3 ⟨rfl,ae⟩;have ah:=zc ae;have aa:Hid (BW wr w3):=ai.o.trans (ae.mono ai.o.size);have d3:cN w3 wr 3 (iA fi):=zgs w3 wr.heap.size 3 _ _ _ (blk aC ae);have d4:cE w3 (w.heap.size+1) fi (bA (sendB fits (l.take j) fi)):=(zgs w3 _ fi _ _ _ (blk af aa)).trans (xG _ fi az);have d5:w3.frozen? (aA (w.heap.size+1) fi)=false:=zq (blk af aa) fi;clear ae)
  go_roundw
  case rel=>
   refine⟨j+1,by omega,by go_num,?_,?_,(HB.o.trans (aa.o.mono HB.o.size)).setCell (by exact Nat.le_succ _) _⟩
   .rw [Below.heap_setCell _ _ _ _ (by show w.heap.size≠w.heap.size+1;omega)];exact blk ao aa
   have h1:=blk af aa;rw[jq (b':=zak (sendB fits (l.take j)) fi) (λi hi=>by
    rw[vj aj,<-aq.o,ak];unfold zak;by_cases e:i=fi
    .subst e;simp
    rw[zgU e];have e2:¬((fi:Int)=(i:Int)):=by omega
    simp[e2]),<-QE _ fi az]
   simp[World.setCell,Array.getElem?_modify,h1]
  simp[intOf];omega
def zF(fits:zt->Bool)(l:List zt):List zgW:=(l.filter fits).map (·.fr)
theorem qh(fits:zt->Bool)(l:List zt):(zF fits l).length<=l.length:=by
 unfold zF;rw[List.length_map];exact List.length_filter_le fits l
theorem gB(fits:zt->Bool)(l:List zt)(j:Nat)(h:j<l.length):zF fits (l.take (j+1))=if fits (l.getD j zJ)=true then zF fits (l.take j)++[(l.getD j zJ).fr] else zF fits (l.take j):=by
 unfold zF;rw[zy l zJ j h,List.filter_append];by_cases hf:fits (l.getD j zJ)=true
 .rw [zgT hf,List.filter_cons_of_pos hf,List.filter_nil,List.map_append];rfl
 rw[zgU hf,List.filter_cons_of_neg hf,List.filter_nil,List.append_nil]
theorem YB(g:Nat)(lb:Array Value)(fits:zt->Bool)(l:List zt)(p:Option Addr)(cap:Nat)(w:World)(eg:kR g)(hl:km w w.heap.size p l.length (λi=>l.getD i zJ))(hm:l.length<=1000000000)(hf:FitsAt g lb fits l w):
 Calls prog 92 #[.slice p l.length cap,.func (.func g) #[] lb] w λe w'=>∃v,e=.returned v/\w'.ownsRow w.heap.size 9 1 v (zF fits l).length ((zF fits l).map .string)/\BW w w':=by
 obtain⟨i9,aK,aF,aE,ao⟩:=info_parts Tryz.zdz;obtain⟨HL,HF⟩:=ze hl hf;have hmx:l.length<=9223372036854775807:=by omega
 have HM:=zc hm;have eg':∀(args:Array Value) (w:World),(callFunc g args).run prog w=.ok (.enter g args) w:=eg;clear hl hm hf eg;go_enter func92,ntmps92;go_wp2;go_loopw [5,7,10] (λv _ i wr=>∃j:Nat,j<=l.length/\i=iA j/\wr.ownsRow w.heap.size 9 1 v (zF fits (l.take j)).length ((zF fits (l.take j)).map .string)/\BW w wr) (λ_ _ i _=>l.length-(intOf i).toNat)
 case atStart=>exact⟨0,zgv _,rfl,zgQ _ _ _ _,zgq _ _⟩
 obtain⟨j,hj,rfl,hv,hb⟩:=hrel;obtain⟨HB,HV⟩:=ze hb hv;clear hb hv;by_cases ag:j=l.length
 .have hge:¬(j:Int)<l.length:=by omega
  have av:=HV.o;rw[ag,zg7] at av;have au:=zc av;clear ag av;go_wp2;go_ret;exact⟨_,rfl,au,HB⟩
 have ak:j<l.length:=by omega
 have aH:(j:Int)<l.length:=by omega
 obtain⟨b,o,rfl,aL,ay⟩:=HL.o.below HB j ak;obtain⟨ev,ar⟩:=gen (l.getD j zJ);have ab:=ay;simp only[<-ar] at ab;obtain⟨⟨K,H,R,f,V,nl,s⟩,fr,own⟩:=ev;have aN:Hid (wr.rangeAt b (o+j*9) [iA K,iA H,iA R,iA f,iA V,bA nl,sA s,sA fr,bA own]):=ab;have ax:=zc ar;clear ay ab ar aL;have ah:=zc (yo l zJ j ak);rw[<-ax.o] at ah;have aO:=zc (λW hW=>HF W _ ah hW);go_wp2_with (first|(refine zgX rfl 164 _ rfl b (o+j*9) rfl [iA K,iA H,iA R,iA f,iA V,bA nl,sA s,sA fr,bA own] _ aN.o underlying164 rfl Tryz.zc5 ?_)|(refine zf rfl 164 _ _ rfl wr #[iA K,iA H,iA R,iA f,iA V,bA nl,sA s,sA fr,bA own] rfl rfl 164 _ rfl (by simp[Value.oneCell']) Tryz.zc5 ?_;intro w2 az aB ao;have aC:=zc az;have aj:Hid (BW wr w2):=aB;clear az aB ao)|(refine zg4 rfl 164 _ rfl wr.heap.size rfl 164 #[iA K,iA H,iA R,iA f,iA V,bA nl,sA s,sA fr,bA own] (0,0) _ aC underlying164 rfl Tryz.zc5 ?_)|fail)
 have an:=zc (aO w2 (HB.o.trans (aj.o.mono HB.o.size)));have aJ:(zF fits (l.take j)).length<=1000000000:=by
  have h1:=qh fits (l.take j);have h2:(l.take j).length<=l.length:=by rw[List.length_take];omega
  have:=HM.o;omega
 obtain⟨L,hL⟩:=gen (zF fits (l.take j));rw[<-hL] at HV aJ;have aD:=zc hL;clear hL;cases al:fits ⟨⟨K,H,R,f,V,nl,s⟩,fr,own⟩ with
 |false=>
  rw[al] at an;go_wp2_with (go_at_fn g;refine an.o.mono ?_;rintro e w3 ⟨rfl,ad⟩;have ai:=zc ad;clear ad)
  have ae:Hid (BW wr w3):=aj.o.trans (ai.o.mono aj.o.size);go_roundw
  case rel=>
   refine⟨j+1,by omega,by go_num,?_,HB.o.trans (ae.o.mono HB.o.size)⟩;rw[gB fits l j ak,<-ax.o,al,zgU (by decide),<-aD.o];exact gX HV ae
  simp[intOf];omega
 |true=>
  rw[al] at an;have aG:w.heap.size<=wr.heap.size:=HB.o.size;go_wp2_with (first|(go_at_fn g;refine an.o.mono ?_;rintro e w3 ⟨rfl,ad⟩;have ai:=zc ad;have ae:Hid (BW wr w3):=aj.o.trans (ad.mono aj.o.size);have d7:cN w3 wr 7 (sA fr):=zgs w3 wr.heap.size 7 _ _ _ (blk aC ad);have aq:w.heap.size<=w3.heap.size:=zgu aG ae.o.size;clear ad)|(at_builtin;refine kN _ rfl _ _ 30 rfl w.heap.size 9 i9 (sA zgV) 1 16 underlying30 aK aF aE ao rfl (by decide) _ _ _ rfl (gX (gX HV ae) ((zgq _ w3).alloc (zgp _) (.cells #[sA fr] 9))) (nA w3 0) 1 1 [sA fr] rfl rfl ?c1 ?c2 ?c3 ?c4 ?c5 ?_)|go_in)
  case c1=>
   intro j u hj;match j,hj with
   |0,hj=>simp at hj;subst hj;simp[Addr.add]
  case c2=>first|rfl|(intro u hu;simp at hu;subst hu;rfl)
  case c3=>unfold maxLen;omega
  case c4=>omega
  case c5=>first|omega|(simp;omega)
  intro v4 w4 af aa aM;have aP:Hid (BW w w4):=((HB.o.trans (ae.o.mono HB.o.size)).alloc aq _).grown aa (by simp;omega) (λk hk=>(HV.o.lt k hk).1);have aw:=zc af;clear af aa aM;go_wp2;go_roundw
  case rel=>
   refine⟨j+1,by omega,by go_num,?_,aP.o⟩;rw[gB fits l j ak,<-ax.o,al,<-aD.o,zgT rfl,zgE,List.map_append];exact aw
  simp[intOf];omega
def ye(r:Int)(fits:zt->Bool)(e:zt):Bool:=decide (e.m.k=1)&&decide (e.m.r=r)&&fits e
def propF(l:List zt)(r:Int)(fits:zt->Bool):Option zt:=l.find? (ye r fits)
theorem qV(h:∀e∈l,ye r fits e=false):propF l r fits=none:=by
 unfold propF;rw[List.find?_eq_none];intro e he;rw[h e he];decide
theorem qU{j:Nat}(hj:j<l.length)(h:∀e∈l.take j,ye r fits e=false)(hp:ye r fits (l.getD j zJ)=true):propF l r fits=some (l.getD j zJ):=by
 unfold propF;have e:l.take j++(l.getD j zJ::l.drop (j+1))=l:=by
  have h1:=zy l zJ j hj;have h2:=List.take_append_drop (j+1) l;rw[h1,List.append_assoc] at h2;exact h2
 have e2:List.find? (ye r fits) (l.take j++(l.getD j zJ::l.drop (j+1)))=some (l.getD j zJ):=by
  rw[List.find?_append,List.find?_eq_none.2 (λx hx=>by rw[h x hx];decide),List.find?_cons_of_pos hp];rfl
 rw[e] at e2;exact e2
def jz(x:Option zt):Value:=.tuple #[.agg (x.getD zJ).cells,bA x.isSome]
theorem jJ(g:Nat)(lb:Array Value)(fits:zt->Bool)(l:List zt)(r:Int)(p:Option Addr)(cap:Nat)(w:World)(eg:kR g)(hl:km w w.heap.size p l.length (λi=>l.getD i zJ))(hm:l.length<=maxLen)(hf:FitsAt g lb fits (l.filter λe=>decide (e.m.k=1)&&decide (e.m.r=r)) w):
 Calls prog 148 #[.slice p l.length cap,iA r,.func (.func g) #[] lb] w λe w'=>e=.returned (jz (propF l r fits))/\BW w w':=by
 obtain⟨HL,HF⟩:=ze hl hf;have hmx:l.length<=9223372036854775807:=by unfold maxLen at hm;omega
 have eg':∀(args:Array Value) (w:World),(callFunc g args).run prog w=.ok (.enter g args) w:=eg;clear hl hm hf eg;go_enter func148,ntmps148;go_wp2;go_loopw [9,12] (λ_ i wr=>∃j:Nat,j<=l.length/\i=iA j/\(∀e∈l.take j,ye r fits e=false)/\wr.heap[w.heap.size]? =some (.cells zJ.cells 164 (0,0))/\BW w wr) (λ_ i _=>l.length-(intOf i).toNat)
 case atStart=>exact⟨0,zgv _,rfl,λe he=>by simp at he,zgr w _,bwA w⟩
 obtain⟨j,hj,rfl,aH,hq,hb⟩:=hrel;obtain⟨HB,HQ,aB⟩:=zC hb hq aH;clear hb hq aH;by_cases ak:j=l.length
 .have hge:¬(j:Int)<l.length:=by omega
  have HN:Hid (propF l r fits=none):=qV (by have h:=aB.o;rw[ak,zg7] at h;exact h);clear ak;go_wp2_with (first|(refine zi rfl 164 _ _ rfl w.heap.size zJ.cells rfl rfl 164 _ HQ.o rfl (by simp[zt.cells,Value.oneCell']) Tryz.zc5 ?_;intro w3 aE aG;have aN:=zc aE;have ah:Hid (BW w w3):=HB.o.trans (aG.below (zgp _));clear aE aG)|fail)
  exact zgJ (v:=jz none) (yw results148 _ _ w.heap.size 164 _ _ _ rfl rfl aN underlying164 rfl Tryz.zc5) rfl ⟨by rw[HN.o],ah⟩
 have an:j<l.length:=by omega
 have aK:(j:Int)<l.length:=by omega
 obtain⟨b,o,rfl,aL,aC⟩:=HL.o.below HB j an;obtain⟨ev,aw⟩:=gen (l.getD j zJ);have ag:=aC;simp only[<-aw] at ag;obtain⟨⟨K,H,R,f,V,nl,s⟩,fr,own⟩:=ev;have ar:Hid (wr.rangeAt b (o+j*9) [iA K,iA H,iA R,iA f,iA V,bA nl,sA s,sA fr,bA own]):=ag;have au:=zc aw;clear aC ag aw aL;have hz:w.heap.size<wr.heap.size:=zj HQ;have ae:=yo l zJ j an;rw[<-au.o] at ae;have az:Hid (ye r fits ⟨⟨K,H,R,f,V,nl,s⟩,fr,own⟩=false->∀e∈l.take (j+1),ye r fits e=false):=by
  intro h0 e he;rw[zy l zJ j an,zgK] at he;rcases he with he|he
  .exact aB e he
  rw[zgM] at he;rw[he,<-au.o];exact h0
 by_cases ao:K=1
 .by_cases av:R=r
  .subst ao;subst av;have aJ:=zc (λW hW=>HF.o W ⟨⟨1,H,R,f,V,nl,s⟩,fr,own⟩ (List.mem_filter.2 ⟨ae,by simp⟩) hW);have qrr:(R==R)=true:=by simp
   clear ae;cases aq:fits ⟨⟨1,H,R,f,V,nl,s⟩,fr,own⟩ with
   |false=>
    have al:Hid (ye R fits ⟨⟨1,H,R,f,V,nl,s⟩,fr,own⟩=false):=by unfold Hid ye;rw[aq];simp
    go_wp2_with (first|(refine zgX rfl 164 _ rfl b (o+j*9) rfl [iA 1,iA H,iA R,iA f,iA V,bA nl,sA s,sA fr,bA own] _ ar.o underlying164 rfl Tryz.zc5 ?_)|(refine zf rfl 164 _ _ rfl wr #[iA 1,iA H,iA R,iA f,iA V,bA nl,sA s,sA fr,bA own] rfl rfl 164 _ rfl (by simp[Value.oneCell']) Tryz.zc5 ?_;intro w2 aa ad af;have c0:cN w2 wr 0 (iA 1):=zgs w2 wr.heap.size 0 _ _ _ aa;have c2:cN w2 wr 2 (iA R):=zgs w2 wr.heap.size 2 _ _ _ aa;have aj:=zc aa;have ab:Hid (BW wr w2):=ad;clear aa ad af)|(refine zE rfl 164 _ rfl wr.heap.size rfl 164 #[iA 1,iA H,iA R,iA f,iA V,bA nl,sA s,sA fr,bA own] _ aj underlying164 rfl Tryz.zc5 ?_)|(go_at_fn g;refine(aJ w2 (HB.o.trans (ab.o.mono HB.o.size))).mono ?_;rw[aq];rintro e w3 ⟨rfl,ai⟩;have ah:Hid (BW wr w3):=ab.o.trans (ai.mono ab.o.size);clear ai)|fail)
    go_roundw
    case rel=>exact⟨j+1,by omega,by go_num,az.o al.o,blk HQ.o ah.o,HB.o.trans (ah.o.mono HB.o.size)⟩
    simp[intOf];omega
   |true=>
    have aO:Hid (propF l R fits=some ⟨⟨1,H,R,f,V,nl,s⟩,fr,own⟩):=by
     unfold Hid;rw[qU an aB.o (by rw[<-au.o];unfold ye;rw[aq];simp),<-au.o]
    go_wp2_with (first|(refine zgX rfl 164 _ rfl b (o+j*9) rfl [iA 1,iA H,iA R,iA f,iA V,bA nl,sA s,sA fr,bA own] _ ar.o underlying164 rfl Tryz.zc5 ?_)|(refine zf rfl 164 _ _ rfl wr #[iA 1,iA H,iA R,iA f,iA V,bA nl,sA s,sA fr,bA own] rfl rfl 164 _ rfl (by simp[Value.oneCell']) Tryz.zc5 ?_;intro w2 aa ad af;have c0:cN w2 wr 0 (iA 1):=zgs w2 wr.heap.size 0 _ _ _ aa;have c2:cN w2 wr 2 (iA R):=zgs w2 wr.heap.size 2 _ _ _ aa;have aj:=zc aa;have ab:Hid (BW wr w2):=ad;clear aa ad af)|(refine zE rfl 164 _ rfl wr.heap.size rfl 164 #[iA 1,iA H,iA R,iA f,iA V,bA nl,sA s,sA fr,bA own] _ aj underlying164 rfl Tryz.zc5 ?_)|(go_at_fn g;refine(aJ w2 (HB.o.trans (ab.o.mono HB.o.size))).mono ?_;rw[aq];rintro e w3 ⟨rfl,ai⟩;have ah:Hid (BW wr w3):=ab.o.trans (ai.mono ab.o.size);have ay:=zc (blk aj ai);have ax:=zc (blk HQ ah);clear ai)|(refine zg4 rfl 164 _ rfl wr.heap.size rfl 164 #[iA 1,iA H,iA R,iA f,iA V,bA nl,sA s,sA fr,bA own] (0,0) _ ay.o underlying164 rfl Tryz.zc5 ?_)|(refine zi rfl 164 _ _ rfl w.heap.size #[iA 1,iA H,iA R,iA f,iA V,bA nl,sA s,sA fr,bA own] rfl rfl 164 _ ax.o rfl (by simp[Value.oneCell']) Tryz.zc5 ?_;intro w4 aD aF;have aM:=zc aD;have aP:Hid (BW w w4):=(HB.o.trans (ah.o.mono HB.o.size)).trans (aF.below (zgp _));clear aD aF)|fail)
    exact zgJ (v:=jz (some ⟨⟨1,H,R,f,V,nl,s⟩,fr,own⟩)) (yw results148 _ _ w.heap.size 164 _ _ _ rfl rfl aM underlying164 rfl Tryz.zc5) rfl ⟨by rw[aO.o],aP⟩
  subst ao;have al:Hid (ye r fits ⟨⟨1,H,R,f,V,nl,s⟩,fr,own⟩=false):=by unfold Hid ye;simp[av]
  have qrr:(R==r)=false:=by simpa using av
  clear ae;go_wp2_with (first|(refine zgX rfl 164 _ rfl b (o+j*9) rfl [iA 1,iA H,iA R,iA f,iA V,bA nl,sA s,sA fr,bA own] _ ar.o underlying164 rfl Tryz.zc5 ?_)|(refine zf rfl 164 _ _ rfl wr #[iA 1,iA H,iA R,iA f,iA V,bA nl,sA s,sA fr,bA own] rfl rfl 164 _ rfl (by simp[Value.oneCell']) Tryz.zc5 ?_;intro w2 aa ad af;have c0:cN w2 wr 0 (iA 1):=zgs w2 wr.heap.size 0 _ _ _ aa;have c2:cN w2 wr 2 (iA R):=zgs w2 wr.heap.size 2 _ _ _ aa;have aj:=zc aa;have ab:Hid (BW wr w2):=ad;clear aa ad af)|fail)
  go_roundw
  case rel=>exact⟨j+1,by omega,by go_num,az.o al.o,blk HQ.o ab.o,HB.o.trans (ab.o.mono HB.o.size)⟩
  simp[intOf];omega
 have al:Hid (ye r fits ⟨⟨K,H,R,f,V,nl,s⟩,fr,own⟩=false):=by unfold Hid ye;simp[ao]
 have qkk:(K==1)=false:=by simpa using ao
 clear ae;go_wp2_with (first|(refine zgX rfl 164 _ rfl b (o+j*9) rfl [iA K,iA H,iA R,iA f,iA V,bA nl,sA s,sA fr,bA own] _ ar.o underlying164 rfl Tryz.zc5 ?_)|(refine zf rfl 164 _ _ rfl wr #[iA K,iA H,iA R,iA f,iA V,bA nl,sA s,sA fr,bA own] rfl rfl 164 _ rfl (by simp[Value.oneCell']) Tryz.zc5 ?_;intro w2 aa ad af;have c0:cN w2 wr 0 (iA K):=zgs w2 wr.heap.size 0 _ _ _ aa;have aj:=zc aa;have ab:Hid (BW wr w2):=ad;clear aa ad af)|fail)
 go_roundw
 case rel=>exact⟨j+1,by omega,by go_num,az.o al.o,blk HQ.o ab.o,HB.o.trans (ab.o.mono HB.o.size)⟩
 simp[intOf];omega

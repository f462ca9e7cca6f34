import Derived.Test.YtcfjhbcpjpgodaaGreatDoorJ2
import Derived.BigQuiet
import Derived.Test.YtcfjhbcpjpgodaaGreatDoorTakeL
namespace Go.Proofs.YtcfjhbcpjpgodaaGreatDoor
open Go.RowKit
set_option maxRecDepth 100000
set_option maxHeartbeats 0
set_option linter.all false
def JA(b:zgW):Nat->Nat->Nat->List zgW
 |0,_,_=>[]
 |n+1,fr,i=>if i<b.size then(if byt b i=44 then b.extract fr i::JA b n (i+1) (i+1) else JA b n fr (i+1)) else if i=b.size then [b.extract fr i] else []
def yG(b:zgW)(fr i:Nat):List zgW:=JA b (b.size+1-i) fr i
theorem vU(b:zgW)(fr i:Nat)(h:i<b.size)(h2:byt b i≠44):yG b fr i=yG b fr (i+1):=by
 unfold yG;rw[show b.size+1-i=(b.size+1-(i+1))+1 by omega,JA,zgT h,zgU h2]
theorem jS(b:zgW)(fr i:Nat)(h:i<b.size)(h2:byt b i=44):yG b fr i=b.extract fr i::yG b (i+1) (i+1):=by
 unfold yG;rw[show b.size+1-i=(b.size+1-(i+1))+1 by omega,JA,zgT h,zgT h2]
theorem yM(b:zgW)(fr i:Nat)(h:b.size<i):yG b fr i=[]:=by
 unfold yG;rw[show b.size+1-i=0 by omega,JA]
theorem kZ(b:zgW)(fr:Nat):yG b fr b.size=b.extract fr b.size::yG b (b.size+1) (b.size+1):=by
 rw[yM b _ (b.size+1) (by omega)];unfold yG;rw[show b.size+1-b.size=0+1 by omega,JA,zgU (by omega),zgT rfl]
theorem ZU(b:zgW)(fr i j:Nat)(h:fr+j<i):byt (b.extract fr i) j=byt b (fr+j):=by
 unfold byt;rw[Lib.extract_data];rw[zgz,zgz,zg5,zgT (by omega),List.getElem?_drop]
theorem vf(b:zgW)(fr i:Nat)(h:i<=b.size):(b.extract fr i).size=i-fr:=by
 simp[ByteArray.size_extract];omega
def votes:List zgW->Nat
 | []=>0
 |t::l=>votes l+if byt t 0=118 then 1 else 0
theorem zR(a:List zgW)(t:zgW):votes (a++[t])=votes a+if byt t 0=118 then 1 else 0:=by
 induction a with
 |nil=>simp[votes]
 |cons x l ih=>simp only[List.cons_append,votes,ih];omega
theorem xf(a:List zgW):votes a<=a.length:=by
 induction a with
 |nil=>simp[votes]
 |cons x l ih=>simp only[votes,List.length_cons];split<;>omega
def ym(b:zgW):List zgW×Bool:=
 if b.size=0 then([],true) else if(yG b 0 0).all z7 then(yG b 0 0,decide ((yG b 0 0).length<=3)&&decide (votes (yG b 0 0)<2)) else([],false)
theorem Yi(b:zgW)(done rest:List zgW)(t:zgW)(hb:b.size≠0)(h:yG b 0 0=done++t::rest)(hf:z7 t=false):ym b=([],false):=by
 unfold ym;rw[zgU hb,zgU (by rw[h];simp[hf])]
theorem QT(b:zgW)(done:List zgW)(hb:b.size≠0)(h:yG b 0 0=done)(hf:done.all z7=true):ym b=(done,decide (done.length<=3)&&decide (votes done<2)):=by
 unfold ym;rw[zgU hb,h,zgT hf]
section
structure Ext (w:World) where
 W:World
 b:BW w W
theorem Ext.ne(w:World):Nonempty (Ext w):=⟨⟨w,zgq _ w⟩⟩
def Ext.of{w W:World}(h:BW w W):Ext w:=⟨W,h⟩
theorem Ext.cell{w:World}{p:Addr}{v:Value}(h:w.cell? p=some v)(u:Ext w):u.W.cell? p=some v:=(u.b.cell (zgx _ _ h)).trans h
theorem Ext.range{w:World}{b o:Nat}{l:List Value}(h:w.rangeAt b o l)(u:Ext w):u.W.rangeAt b o l:=λj v hv=>Ext.cell (h j v hv) u
section
variable{P:Program}
theorem Calls.ext{f:FuncId}{args:Array Value}{w:World}(u:Ext w){v:Value}(h:Calls P f args u.W λe w'=>e=.returned v/\Below u.W.heap.size u.W w'):Calls P f args u.W λe w''=>e=.returned v/\∃u':Ext w,w''=u'.W:=
 h.mono λ_ w' ⟨he,hb⟩=>⟨he,⟨w',u.b.trans (hb.mono u.b.size)⟩,rfl⟩
theorem Calls.zeJ{f:FuncId}{args:Array Value}{w:World}(u:Ext w){v:Value}(h:Calls P f args u.W λe w'=>e=.returned v/\w'=u.W):Calls P f args u.W λe w''=>e=.returned v/\∃u':Ext w,w''=u'.W:=
 h.mono λ_ _ ⟨he,hb⟩=>⟨he,u,hb⟩
theorem zB{id:Nat}{Q:Exit->Act->World->Prop}{a:Act}{w:World}{l:List Oper}(hm:P.follows .mixedOrders=true)(hB:Region.lexB .any l.toArray=true)
 (h:wpQuiet P l.toArray (λw'=>∃u:Ext w,w'=u.W) (λa'=>∀w',(∃u:Ext w,w'=u.W)->Q .normal a' w') l a):(Code.region id l.toArray true).wp P Q a w:=
 wp_region_quiet (C:=λw'=>∃u:Ext w,w'=u.W) hm hB ⟨⟨w.drew,(zgq _ w).drew⟩,rfl⟩ (by simpa using h)
theorem zP{o:Oper}{a:Act}{w:World}{K:Act->Prop}(d:Option Tmp)(hd:o.dst=d)(ty:TypeId)(x:Operand)(ho:o.op=.load ty x)(b off:Nat)(hx:a.eval x=pA b off)(cs:List Value)(t:TypeDesc)(hS:∀u:Ext w,u.W.rangeAt b off cs)
 (hu:P.underlying ty=some t) (ht:t.isRow=true) (hi:(P.info? ty).map (·.size)=some cs.length) (hk:K (a.put d (.agg cs.toArray))):o.quiet P a (λw'=>∃u:Ext w,w'=u.W) K:=by
 subst hd;refine⟨_,λW hW=>?_,hk⟩;obtain⟨u,rfl⟩:=hW;unfold Oper.quietAt execOp;simp only[ho,hx,Instr.loadAt,Instr.sureAddr,Sem.run_bind,Sem.run_pure,Result.andThen_ok,run_loadVar_mid u.W b off ty cs t (hS u) hu ht hi];exact⟨rfl,rfl⟩
end
end
section
open Proofs.Tryz
theorem gq{b:zgW}(h:¬b.size=0):(b.toList==[])=false:=by
 apply Bool.eq_false_iff.2;intro e;have e1:b.toList=[]:=by simpa using e
 have e2:b.toList.length=b.size:=by rw[ByteArray.toList_eq];simp
 rw[e1] at e2;exact h e2.symm
theorem KO(b:zgW)(w:World)(hs:b.size<4294967281):
 Calls prog 206 #[sA b] w λe w'=>∃v,e=.returned (.tuple #[v,bA (ym b).2])/\w'.ownsRow w.heap.size 9 1 v (ym b).1.length ((ym b).1.map .string)/\BW w w':=by
 by_cases an:b.size=0
 .have e0:b=zgV:=by
   apply ByteArray.ext;exact Array.eq_empty_of_size_eq_zero an
  subst e0;go_enter func206,ntmps206;go_wp2;go_ret2;exact⟨.slice none 0 0,rfl,zgQ _ _ _ _,zgq _ _⟩
 have aG:=gq an;obtain⟨i9,hi,av,au,ar⟩:=info_parts Tryz.zdz;go_enter func206,ntmps206;go_wp2;clear aG;go_loopw [4,5,6,7] (λl fr vt i wr=>∃(done:List zgW) (f k:Nat),f<=k/\k<=b.size+1/\done.length<=f/\yG b 0 0=done++yG b f k/\done.all z7=true/\fr=iA f/\i=iA k/\vt=iA (votes done:Nat)/\wr.ownsRow w.heap.size 9 1 l done.length (done.map .string)/\BW w wr) (λ_ _ _ i _=>b.size+1-(intOf i).toNat)
 case atStart=>exact⟨[],0,0,by omega,by omega,by simp,rfl,rfl,rfl,rfl,rfl,zgQ _ _ _ _,zgq _ _⟩
 obtain⟨done,f,k,hfk,hk,aK,hc,ay,rfl,rfl,rfl,ho,az⟩:=hrel;obtain⟨HC,HF,HO,HB⟩:=yi hc ay ho az;clear hc ay ho az;by_cases h1:k<b.size
 .have aJ:(k:Int)<b.size:=by omega
  have ik:=zY b k h1;by_cases h2:byt b k=44
  .have af:=zc (jS b f k h1 h2);rw[h2] at ik;clear h2;obtain⟨t,ht⟩:=gen (b.extract f k);have aF:∀W:World,(Instr.slice 9 (sA b) (some (iA f)) (some (iA k)) none).run prog W=.ok (sA t) W:=λW=>by
    rw[run_slice_string W 9 b .i64 .i64 f k underlying9 (by omega) (by omega) (by omega),ht];rfl
   have ao:=zc (show t.size=k-f by rw[ht];exact vf b f k (by omega));have ai:Hid (t.size<=maxLen):=by unfold Hid maxLen;rw[ao.o];omega
   have HT:=zc ht;clear ht;have af:Hid (yG b f k=t::yG b (k+1) (k+1)):=by unfold Hid;rw[HT.o];exact af
   by_cases hf:z7 t=true
   .have aE:f+2<=k:=by
     have:=zgF (p:=_) hf;rw[ao.o] at this;omega
    have i0:=zY b f (by omega);have al:byt b f=byt t 0:=by rw[HT.o,ZU b f k 0 (by omega)];rfl
    rw[al] at i0;have HN:Hid (yG b 0 0=(done++[t])++yG b (k+1) (k+1)):=by unfold Hid;rw[HC.o,List.append_assoc];exact congrArg _ af
    have aq:Hid ((done++[t]).all z7=true):=by unfold Hid;rw[List.all_append,HF.o];simp[hf]
    have aB:=xf done;clear al;by_cases hv:byt t 0=118
    .have ag:Hid (votes (done++[t])=votes done+1):=by unfold Hid;rw[zR,zgT hv]
     rw[hv] at i0;clear hv;go_wp2_with (first|(go_at_call 124;refine(jj t _ ai).mono ?_;rintro e w1 ⟨rfl,ad⟩;have ae:=ad.symm;clear ad;subst ae;rw[hf])|(at_builtin;refine wpList_append_own _ rfl _ _ 30 rfl w.heap.size 9 i9 (sA zgV) 1 16 underlying30 hi av au ar rfl (by decide) _ _ _ rfl (HO.o.alloc _) (nA wr 0) 1 1 [sA t] rfl rfl ?c1 ?c2 ?c3 ?c4 ?c5 ?_)|go_in)
     case c1=>
      intro j u hj;match j,hj with
      |0,hj=>simp at hj;subst hj;simp[Addr.add]
     case c2=>intro u hu;simp at hu;subst hu;rfl
     case c3=>unfold maxLen;omega
     case c4=>omega
     case c5=>have:=HB.o.size;simp;omega
     intro v' w1 aa ab _;have ah:=zc aa;have aj:=zc ((HB.o.alloc (by have:=HB.o.size;omega) _).grown ab (by have:=HB.o.size;simp;omega) (λk hk=>(HO.o.lt k hk).1));clear aa ab;go_wp2;go_roundw
     case rel=>exact⟨done++[t],k+1,k+1,by omega,by omega,by simp;omega,HN.o,aq.o,by go_num,by go_num,by rw[ag.o];go_num,by simpa using ah.o,aj.o⟩
     simp[intOf];omega
    have aC:(byt t 0==118)=false:=by simpa using hv
    have ag:Hid (votes (done++[t])=votes done):=by unfold Hid;rw[zR,zgU hv];rfl
    clear hv;go_wp2_with (first|(go_at_call 124;refine(jj t _ ai).mono ?_;rintro e w1 ⟨rfl,ad⟩;have ae:=ad.symm;clear ad;subst ae;rw[hf])|(at_builtin;refine wpList_append_own _ rfl _ _ 30 rfl w.heap.size 9 i9 (sA zgV) 1 16 underlying30 hi av au ar rfl (by decide) _ _ _ rfl (HO.o.alloc _) (nA wr 0) 1 1 [sA t] rfl rfl ?c1 ?c2 ?c3 ?c4 ?c5 ?_)|go_in)
    case c1=>
     intro j u hj;match j,hj with
     |0,hj=>simp at hj;subst hj;simp[Addr.add]
    case c2=>intro u hu;simp at hu;subst hu;rfl
    case c3=>unfold maxLen;omega
    case c4=>omega
    case c5=>have:=HB.o.size;simp;omega
    intro v' w1 aa ab _;have ah:=zc aa;have aj:=zc ((HB.o.alloc (by have:=HB.o.size;omega) _).grown ab (by have:=HB.o.size;simp;omega) (λk hk=>(HO.o.lt k hk).1));clear aa ab;go_wp2;go_roundw
    case rel=>exact⟨done++[t],k+1,k+1,by omega,by omega,by simp;omega,HN.o,aq.o,by go_num,by go_num,by rw[ag.o],by simpa using ah.o,aj.o⟩
    simp[intOf];omega
   have ak:z7 t=false:=by simpa using hf
   have HR:=zc (Yi b done _ t an (HC.o.trans (congrArg _ af)) ak);clear hf;go_wp2_with (go_at_call 124;refine(jj t _ ai).mono ?_;rintro e w1 ⟨rfl,ad⟩;have ae:=ad.symm;clear ad;subst ae;rw[ak])
   go_ret2;exact⟨.slice none 0 0,by rw[HR.o];rfl,by rw[HR.o];exact zgQ _ _ _ _,HB⟩
  have h2b:(byt b k==44)=false:=by simpa using h2
  have af:=zc (vU b f k h1 h2);clear h2;go_wp2;go_roundw
  case rel=>exact⟨done,f,k+1,by omega,by omega,aK,by rw[<-af.o];exact HC,HF,rfl,by go_num,rfl,HO,HB⟩
  simp[intOf];omega
 by_cases h2:k=b.size
 .have af:Hid (yG b f k=b.extract f k::yG b (k+1) (k+1)):=by unfold Hid;rw[h2];exact kZ b f
  have aJ:(k:Int)<=b.size:=by omega
  have hkj:¬(k:Int)<b.size:=by omega
  have hkl:k<=b.size:=by omega
  have hkm:b.size<=k:=by omega
  clear h2;obtain⟨t,ht⟩:=gen (b.extract f k);have aF:∀W:World,(Instr.slice 9 (sA b) (some (iA f)) (some (iA k)) none).run prog W=.ok (sA t) W:=λW=>by
   rw[run_slice_string W 9 b .i64 .i64 f k underlying9 (by omega) (by omega) (by omega),ht];rfl
  have ao:=zc (show t.size=k-f by rw[ht];exact vf b f k (by omega));have ai:Hid (t.size<=maxLen):=by unfold Hid maxLen;rw[ao.o];omega
  have HT:=zc ht;clear ht;have af:Hid (yG b f k=t::yG b (k+1) (k+1)):=by unfold Hid;rw[HT.o];exact af
  by_cases hf:z7 t=true
  .have aE:f+2<=k:=by
    have:=zgF (p:=_) hf;rw[ao.o] at this;omega
   have i0:=zY b f (by omega);have al:byt b f=byt t 0:=by rw[HT.o,ZU b f k 0 (by omega)];rfl
   rw[al] at i0;have HN:Hid (yG b 0 0=(done++[t])++yG b (k+1) (k+1)):=by unfold Hid;rw[HC.o,List.append_assoc];exact congrArg _ af
   have aq:Hid ((done++[t]).all z7=true):=by unfold Hid;rw[List.all_append,HF.o];simp[hf]
   have aB:=xf done;clear al;by_cases hv:byt t 0=118
   .have ag:Hid (votes (done++[t])=votes done+1):=by unfold Hid;rw[zR,zgT hv]
    rw[hv] at i0;clear hv;go_wp2_with (first|(go_at_call 124;refine(jj t _ ai).mono ?_;rintro e w1 ⟨rfl,ad⟩;have ae:=ad.symm;clear ad;subst ae;rw[hf])|(at_builtin;refine wpList_append_own _ rfl _ _ 30 rfl w.heap.size 9 i9 (sA zgV) 1 16 underlying30 hi av au ar rfl (by decide) _ _ _ rfl (HO.o.alloc _) (nA wr 0) 1 1 [sA t] rfl rfl ?c1 ?c2 ?c3 ?c4 ?c5 ?_)|go_in)
    case c1=>
     intro j u hj;match j,hj with
     |0,hj=>simp at hj;subst hj;simp[Addr.add]
    case c2=>intro u hu;simp at hu;subst hu;rfl
    case c3=>unfold maxLen;omega
    case c4=>omega
    case c5=>have:=HB.o.size;simp;omega
    intro v' w1 aa ab _;have ah:=zc aa;have aj:=zc ((HB.o.alloc (by have:=HB.o.size;omega) _).grown ab (by have:=HB.o.size;simp;omega) (λk hk=>(HO.o.lt k hk).1));clear aa ab;go_wp2;go_roundw
    case rel=>exact⟨done++[t],k+1,k+1,by omega,by omega,by simp;omega,HN.o,aq.o,by go_num,by go_num,by rw[ag.o];go_num,by simpa using ah.o,aj.o⟩
    simp[intOf];omega
   have aC:(byt t 0==118)=false:=by simpa using hv
   have ag:Hid (votes (done++[t])=votes done):=by unfold Hid;rw[zR,zgU hv];rfl
   clear hv;go_wp2_with (first|(go_at_call 124;refine(jj t _ ai).mono ?_;rintro e w1 ⟨rfl,ad⟩;have ae:=ad.symm;clear ad;subst ae;rw[hf])|(at_builtin;refine wpList_append_own _ rfl _ _ 30 rfl w.heap.size 9 i9 (sA zgV) 1 16 underlying30 hi av au ar rfl (by decide) _ _ _ rfl (HO.o.alloc _) (nA wr 0) 1 1 [sA t] rfl rfl ?c1 ?c2 ?c3 ?c4 ?c5 ?_)|go_in)
   case c1=>
    intro j u hj;match j,hj with
    |0,hj=>simp at hj;subst hj;simp[Addr.add]
   case c2=>intro u hu;simp at hu;subst hu;rfl
   case c3=>unfold maxLen;omega
   case c4=>omega
   case c5=>have:=HB.o.size;simp;omega
   intro v' w1 aa ab _;have ah:=zc aa;have aj:=zc ((HB.o.alloc (by have:=HB.o.size;omega) _).grown ab (by have:=HB.o.size;simp;omega) (λk hk=>(HO.o.lt k hk).1));clear aa ab;go_wp2;go_roundw
   case rel=>exact⟨done++[t],k+1,k+1,by omega,by omega,by simp;omega,HN.o,aq.o,by go_num,by go_num,by rw[ag.o],by simpa using ah.o,aj.o⟩
   simp[intOf];omega
  have ak:z7 t=false:=by simpa using hf
  have HR:=zc (Yi b done _ t an (HC.o.trans (congrArg _ af)) ak);clear hf;go_wp2_with (go_at_call 124;refine(jj t _ ai).mono ?_;rintro e w1 ⟨rfl,ad⟩;have ae:=ad.symm;clear ad;subst ae;rw[ak])
  go_ret2;exact⟨.slice none 0 0,by rw[HR.o];rfl,by rw[HR.o];exact zgQ _ _ _ _,HB⟩
 have hk2:¬(k:Int)<=b.size:=by omega
 have HR:=zc (QT b done an (by rw[HC.o,yM b f k (by omega),List.append_nil]) HF.o);rcases HO.o.2 with⟨rfl,hn⟩|⟨g,cap,cur,rfl,-,-,-,-,-,-⟩
 .obtain rfl:done=[]:=List.eq_nil_of_length_eq_zero hn;go_wp2;go_ret2;exact⟨_,by rw[HR.o];rfl,by rw[HR.o];exact HO,HB⟩
 by_cases ax:done.length<=3
 .have aH:(done.length:Int)<=3:=by omega
  by_cases aw:votes done<2;focus
   have aD:(votes done:Int)<2:=by omega
   have HX:Hid ((decide (done.length<=3)&&decide (votes done<2))=true):=by unfold Hid;simp[ax,aw]
  rotate_left;focus
   have aD:¬(votes done:Int)<2:=by omega
   have HX:Hid ((decide (done.length<=3)&&decide (votes done<2))=false):=by unfold Hid;simp[aw]
  rotate_left;all_goals
   go_wp2;go_ret2;exact⟨_,by rw[HR.o,HX.o];rfl,by rw[HR.o];exact HO,HB⟩
 have aH:¬(done.length:Int)<=3:=by omega
 have HX:Hid ((decide (done.length<=3)&&decide (votes done<2))=false):=by unfold Hid;simp[ax]
 go_wp2;go_ret2;exact⟨_,by rw[HR.o,HX.o];rfl,by rw[HR.o];exact HO,HB⟩
theorem zcn(x:Nat->Int)(t:zgW)(m:Nat)(d:Nat)(w:World)(hm:m<26)
 (a0:∀W:World,(Instr.index 9 (sA t) (iA 0)).run prog W=.ok (.int .u8 106) W) (a1:∀W:World,(Instr.index 9 (sA t) (iA 1)).run prog W=.ok (.int .u8 ((m:Int)+97)) W) (hd:d<10) (a2:∀W:World,(Instr.index 9 (sA t) (iA 2)).run prog W=.ok (.int .u8 ((d:Int)+48)) W):
 Calls prog 189 #[.agg (regA x),sA t] w λe w'=>e=.returned (.tuple #[.agg (regA (upd x (8+m) (d:Int))),bA (decide (x (8+m)=0)&&decide (x (8+m)≠(d:Int)))])/\BW w w':=by
 have e1:GC ((m:Int)+97)=m:=by rw[xw (by omega)];omega
 have e2:XB ((d:Int)+48)=d:=by rw[jo (by omega)];omega
 have z0:=zX;have ab:∀o,RegAt ((w.alloc (.cells (regA x) 49)).alloc o) w.heap.size 49 x:=λo=>(RegAt.alloc w 49 x).below (bwA _);have af:∀(o1 o2:Obj) (y z:Nat->Int),(storeCells (aA (w.heap.size+1+1) 0) (regA y).toList).run prog (((w.alloc o1).alloc o2).alloc (.cells (regA z) 49))=.ok () (((w.alloc o1).alloc o2).alloc (.cells (regA y) 49)):=λo1 o2 y z=>by
  have:=yE (P:=prog) ((w.alloc o1).alloc o2) 49 z y;simpa using this
 have ae:=qD x (8+m) (by omega);have aa:=xp x (8+m) (d:Int) (by omega);have hm8:(m:Int)<26:=by omega
 go_enter func189,ntmps189;go_wp2_with (first|(refine zn rfl 49 _ rfl _ rfl 49 x _ (ab _) underlying49 rfl Tryz.zc3 ?_)|(go_at_call 177;refine(zH _ _ (by omega) (by omega)).mono ?_;rintro e w1 ⟨rfl,rfl⟩)|(go_at_call 178;refine(zK _ _ (by omega) (by omega)).mono ?_;rintro e w1 ⟨rfl,rfl⟩))
 have HA:Hid (RegAt (((w.alloc (.cells (regA x) 49)).alloc (.cells (regA zA) 49)).alloc (.cells (regA (upd x (8+m) (d:Int))) 49)) (w.heap.size+1+1) 49 (upd x (8+m) (d:Int))):=by
  have:=RegAt.alloc ((w.alloc (.cells (regA x) 49)).alloc (.cells (regA zA) 49)) 49 (upd x (8+m) (d:Int));have h2:RegAt (((w.alloc (.cells (regA x) 49)).alloc (.cells (regA zA) 49)).alloc (.cells (regA (upd x (8+m) (d:Int))) 49)) (w.heap.size+1+1) 49 (upd x (8+m) (d:Int)):=by simpa using this
  exact h2
 have HD:Hid (RegAt (((w.alloc (.cells (regA x) 49)).alloc (.cells (regA zA) 49)).alloc (.cells (regA (upd x (8+m) (d:Int))) 49)) (w.heap.size+1) 49 zA):=by
  have:=(RegAt.alloc (w.alloc (.cells (regA x) 49)) 49 zA).below ((zgq _ _).alloc (zgp _) (.cells (regA (upd x (8+m) (d:Int))) 49));have h2:RegAt (((w.alloc (.cells (regA x) 49)).alloc (.cells (regA zA) 49)).alloc (.cells (regA (upd x (8+m) (d:Int))) 49)) (w.heap.size+1) 49 zA:=by simpa using this
  exact h2
 have HB:Hid (BW w (((w.alloc (.cells (regA x) 49)).alloc (.cells (regA zA) 49)).alloc (.cells (regA (upd x (8+m) (d:Int))) 49))):=((bwA w).alloc (by simp) _).alloc (by simp;omega) _;clear ab af ae aa z0 e1 e2 a2 a1;generalize ((w.alloc (.cells (regA x) 49)).alloc (.cells (regA zA) 49)).alloc (.cells (regA (upd x (8+m) (d:Int))) 49)=W4 at HA HD HB ⊢;by_cases hz:x (8+m)=0
 .have ad:(x (8+m)==0)=true:=by simpa using hz
  by_cases hn:x (8+m)=(d:Int)
  .have HR:Hid ((decide (x (8+m)=0)&&decide (x (8+m)≠(d:Int)))=false):=by unfold Hid;simp only[Bool.and_eq_false_iff,decide_eq_false_iff_not];omega
   have ag:(x (8+m) != (d:Int))=false:=by simp[hn]
   clear hn hz;refine rgd (S:=(λw'=>RegAt w' (w.heap.size+1+1) 49 (upd x (8+m) (d:Int))/\(∃q,RegAt w' (w.heap.size+1) 49 q)/\BW w w')) ⟨HA.o.drew,⟨zA,HD.o.drew⟩,HB.o.drew⟩ λhH=>?_;refine takeN [(0,some 50,.agg (regA (upd x (8+m) (d:Int)))),(1,some 51,sA t),(2,some 52,.int .u8 106),(3,some 53,bA true),(4,some 54,iA (x (8+m))),(5,some 55,bA true),(6,some 56,bA true),(7,some 57,bA true),(8,some 58,iA (x (8+m))),(9,some 59,iA d),(10,some 60,bA false),(11,some 61,bA false)] _ _ hH (by repeat(first|exact zgY|((first|refine tkc rfl rfl (zv (by rfl) 49 _ rfl (w.heap.size+1+1) rfl 49 (upd x (8+m) (d:Int)) _ (λw h=>h.1) underlying49 rfl Tryz.zc3) ?_|(refine tkc rfl rfl (zgR ⟨by rfl,λx h=>?_⟩) ?_;focus(go_simp;done)));simp only[AP]))) ?_;simp only[zh,AP];refine zp 12 λK hK=>?_;rw[zgT (by rfl)];refine zu 49 _ _ rfl (w.heap.size+1) (upd x (8+m) (d:Int)) rfl rfl 49 (regA hH.2.1.choose) hH.2.1.choose_spec (zg _) Tryz.zc3 ?_;intro w2 hq ho;have HQ:=zc hq;refine hK.out _ _ ⟨hH.1.only ho (by omega),⟨_,hq⟩,hH.2.2.trans (ho.below (by omega))⟩ λhH=>?_;clear hK K hq ho;refine zp 13 λK hK=>?_;go_simp;refine hK.out _ _ hH λhH=>?_;clear hK K;refine dnr ?_;go_wp2;exact zgJ (v:=.tuple #[.agg (regA (upd x (8+m) (d:Int))),bA false]) (zo results189 _ _ (w.heap.size+1) 49 (upd x (8+m) (d:Int)) _ _ rfl rfl HQ underlying49 rfl Tryz.zc3) rfl ⟨by rw[HR.o],hH.2.2⟩
  have HR:Hid ((decide (x (8+m)=0)&&decide (x (8+m)≠(d:Int)))=true):=by unfold Hid;simp only[Bool.and_eq_true,decide_eq_true_eq];omega
  have ag:(x (8+m) != (d:Int))=true:=by simp[hn]
  clear hn hz;refine rgd (S:=(λw'=>RegAt w' (w.heap.size+1+1) 49 (upd x (8+m) (d:Int))/\(∃q,RegAt w' (w.heap.size+1) 49 q)/\BW w w')) ⟨HA.o.drew,⟨zA,HD.o.drew⟩,HB.o.drew⟩ λhH=>?_;refine takeN [(0,some 50,.agg (regA (upd x (8+m) (d:Int)))),(1,some 51,sA t),(2,some 52,.int .u8 106),(3,some 53,bA true),(4,some 54,iA (x (8+m))),(5,some 55,bA true),(6,some 56,bA true),(7,some 57,bA true),(8,some 58,iA (x (8+m))),(9,some 59,iA d),(10,some 60,bA true),(11,some 61,bA true)] _ _ hH (by repeat(first|exact zgY|((first|refine tkc rfl rfl (zv (by rfl) 49 _ rfl (w.heap.size+1+1) rfl 49 (upd x (8+m) (d:Int)) _ (λw h=>h.1) underlying49 rfl Tryz.zc3) ?_|(refine tkc rfl rfl (zgR ⟨by rfl,λx h=>?_⟩) ?_;focus(go_simp;done)));simp only[AP]))) ?_;simp only[zh,AP];refine zp 12 λK hK=>?_;rw[zgT (by rfl)];refine zu 49 _ _ rfl (w.heap.size+1) (upd x (8+m) (d:Int)) rfl rfl 49 (regA hH.2.1.choose) hH.2.1.choose_spec (zg _) Tryz.zc3 ?_;intro w2 hq ho;have HQ:=zc hq;refine hK.out _ _ ⟨hH.1.only ho (by omega),⟨_,hq⟩,hH.2.2.trans (ho.below (by omega))⟩ λhH=>?_;clear hK K hq ho;refine zp 13 λK hK=>?_;go_simp;refine hK.out _ _ hH λhH=>?_;clear hK K;refine dnr ?_;go_wp2;exact zgJ (v:=.tuple #[.agg (regA (upd x (8+m) (d:Int))),bA true]) (zo results189 _ _ (w.heap.size+1) 49 (upd x (8+m) (d:Int)) _ _ rfl rfl HQ underlying49 rfl Tryz.zc3) rfl ⟨by rw[HR.o],hH.2.2⟩
 have ad:(x (8+m)==0)=false:=by simpa using hz
 have HR:Hid ((decide (x (8+m)=0)&&decide (x (8+m)≠(d:Int)))=false):=by unfold Hid;simp only[Bool.and_eq_false_iff,decide_eq_false_iff_not];omega
 clear hz;refine rgd (S:=(λw'=>RegAt w' (w.heap.size+1+1) 49 (upd x (8+m) (d:Int))/\(∃q,RegAt w' (w.heap.size+1) 49 q)/\BW w w')) ⟨HA.o.drew,⟨zA,HD.o.drew⟩,HB.o.drew⟩ λhH=>?_;refine takeN [(0,some 50,.agg (regA (upd x (8+m) (d:Int)))),(1,some 51,sA t),(2,some 52,.int .u8 106),(3,some 53,bA true),(4,some 54,iA (x (8+m))),(5,some 55,bA false),(6,some 56,bA false),(7,some 57,bA false),(8,some 58,undef),(9,some 59,undef),(10,some 60,undef),(11,some 61,bA false)] _ _ hH (by repeat(first|exact zgY|((first|refine tkc rfl rfl (zv (by rfl) 49 _ rfl (w.heap.size+1+1) rfl 49 (upd x (8+m) (d:Int)) _ (λw h=>h.1) underlying49 rfl Tryz.zc3) ?_|(refine tkc rfl rfl (zgR ⟨by rfl,λx h=>?_⟩) ?_;focus(go_simp;done))|refine tkc rfl rfl (zgS ⟨by rfl,rfl⟩) ?_);simp only[AP]))) ?_;simp only[zh,AP];refine zp 12 λK hK=>?_;rw[zgT (by rfl)];refine zu 49 _ _ rfl (w.heap.size+1) (upd x (8+m) (d:Int)) rfl rfl 49 (regA hH.2.1.choose) hH.2.1.choose_spec (zg _) Tryz.zc3 ?_;intro w2 hq ho;have HQ:=zc hq;refine hK.out _ _ ⟨hH.1.only ho (by omega),⟨_,hq⟩,hH.2.2.trans (ho.below (by omega))⟩ λhH=>?_;clear hK K hq ho;refine zp 13 λK hK=>?_;go_simp;refine hK.out _ _ hH λhH=>?_;clear hK K;refine dnr ?_;go_wp2;exact zgJ (v:=.tuple #[.agg (regA (upd x (8+m) (d:Int))),bA false]) (zo results189 _ _ (w.heap.size+1) 49 (upd x (8+m) (d:Int)) _ _ rfl rfl HQ underlying49 rfl Tryz.zc3) rfl ⟨by rw[HR.o],hH.2.2⟩
theorem zcl(x:Nat->Int)(t:zgW)(m:Nat)(d:Nat)(w:World)(hm:m<26)
 (a0:∀W:World,(Instr.index 9 (sA t) (iA 0)).run prog W=.ok (.int .u8 114) W) (a1:∀W:World,(Instr.index 9 (sA t) (iA 1)).run prog W=.ok (.int .u8 ((m:Int)+97)) W) (hd:d<10) (a2:∀W:World,(Instr.index 9 (sA t) (iA 2)).run prog W=.ok (.int .u8 ((d:Int)+48)) W):
 Calls prog 189 #[.agg (regA x),sA t] w λe w'=>e=.returned (.tuple #[.agg (regA (upd x (8+m) (d:Int))),bA (decide (x (8+m)≠0)&&decide (x (8+m)≠(d:Int)))])/\BW w w':=by
 have e1:GC ((m:Int)+97)=m:=by rw[xw (by omega)];omega
 have e2:XB ((d:Int)+48)=d:=by rw[jo (by omega)];omega
 have z0:=zX;have ab:∀o,RegAt ((w.alloc (.cells (regA x) 49)).alloc o) w.heap.size 49 x:=λo=>(RegAt.alloc w 49 x).below (bwA _);have af:∀(o1 o2:Obj) (y z:Nat->Int),(storeCells (aA (w.heap.size+1+1) 0) (regA y).toList).run prog (((w.alloc o1).alloc o2).alloc (.cells (regA z) 49))=.ok () (((w.alloc o1).alloc o2).alloc (.cells (regA y) 49)):=λo1 o2 y z=>by
  have:=yE (P:=prog) ((w.alloc o1).alloc o2) 49 z y;simpa using this
 have ae:=qD x (8+m) (by omega);have aa:=xp x (8+m) (d:Int) (by omega);have hm8:(m:Int)<26:=by omega
 go_enter func189,ntmps189;go_wp2_with (first|(refine zn rfl 49 _ rfl _ rfl 49 x _ (ab _) underlying49 rfl Tryz.zc3 ?_)|(go_at_call 177;refine(zH _ _ (by omega) (by omega)).mono ?_;rintro e w1 ⟨rfl,rfl⟩)|(go_at_call 178;refine(zK _ _ (by omega) (by omega)).mono ?_;rintro e w1 ⟨rfl,rfl⟩))
 have HA:Hid (RegAt (((w.alloc (.cells (regA x) 49)).alloc (.cells (regA zA) 49)).alloc (.cells (regA (upd x (8+m) (d:Int))) 49)) (w.heap.size+1+1) 49 (upd x (8+m) (d:Int))):=by
  have:=RegAt.alloc ((w.alloc (.cells (regA x) 49)).alloc (.cells (regA zA) 49)) 49 (upd x (8+m) (d:Int));have h2:RegAt (((w.alloc (.cells (regA x) 49)).alloc (.cells (regA zA) 49)).alloc (.cells (regA (upd x (8+m) (d:Int))) 49)) (w.heap.size+1+1) 49 (upd x (8+m) (d:Int)):=by simpa using this
  exact h2
 have HD:Hid (RegAt (((w.alloc (.cells (regA x) 49)).alloc (.cells (regA zA) 49)).alloc (.cells (regA (upd x (8+m) (d:Int))) 49)) (w.heap.size+1) 49 zA):=by
  have:=(RegAt.alloc (w.alloc (.cells (regA x) 49)) 49 zA).below ((zgq _ _).alloc (zgp _) (.cells (regA (upd x (8+m) (d:Int))) 49));have h2:RegAt (((w.alloc (.cells (regA x) 49)).alloc (.cells (regA zA) 49)).alloc (.cells (regA (upd x (8+m) (d:Int))) 49)) (w.heap.size+1) 49 zA:=by simpa using this
  exact h2
 have HB:Hid (BW w (((w.alloc (.cells (regA x) 49)).alloc (.cells (regA zA) 49)).alloc (.cells (regA (upd x (8+m) (d:Int))) 49))):=((bwA w).alloc (by simp) _).alloc (by simp;omega) _;clear ab af ae aa z0 e1 e2 a2 a1;generalize ((w.alloc (.cells (regA x) 49)).alloc (.cells (regA zA) 49)).alloc (.cells (regA (upd x (8+m) (d:Int))) 49)=W4 at HA HD HB ⊢;by_cases hz:x (8+m)=0
 .have ad:(x (8+m)==0)=true:=by simpa using hz
  have HR:Hid ((decide (x (8+m)≠0)&&decide (x (8+m)≠(d:Int)))=false):=by unfold Hid;simp only[Bool.and_eq_false_iff,decide_eq_false_iff_not];omega
  clear hz;refine rgd (S:=(λw'=>RegAt w' (w.heap.size+1+1) 49 (upd x (8+m) (d:Int))/\(∃q,RegAt w' (w.heap.size+1) 49 q)/\BW w w')) ⟨HA.o.drew,⟨zA,HD.o.drew⟩,HB.o.drew⟩ λhH=>?_;refine takeN [(0,some 50,.agg (regA (upd x (8+m) (d:Int)))),(1,some 51,sA t),(2,some 52,.int .u8 114),(3,some 53,bA false),(4,some 54,iA (x (8+m))),(5,some 55,bA true),(6,some 56,bA false),(7,some 57,bA false),(8,some 58,undef),(9,some 59,undef),(10,some 60,undef),(11,some 61,bA false)] _ _ hH (by repeat(first|exact zgY|((first|refine tkc rfl rfl (zv (by rfl) 49 _ rfl (w.heap.size+1+1) rfl 49 (upd x (8+m) (d:Int)) _ (λw h=>h.1) underlying49 rfl Tryz.zc3) ?_|(refine tkc rfl rfl (zgR ⟨by rfl,λx h=>?_⟩) ?_;focus(go_simp;done))|refine tkc rfl rfl (zgS ⟨by rfl,rfl⟩) ?_);simp only[AP]))) ?_;simp only[zh,AP];refine zp 12 λK hK=>?_;rw[zgT (by rfl)];refine zu 49 _ _ rfl (w.heap.size+1) (upd x (8+m) (d:Int)) rfl rfl 49 (regA hH.2.1.choose) hH.2.1.choose_spec (zg _) Tryz.zc3 ?_;intro w2 hq ho;have HQ:=zc hq;refine hK.out _ _ ⟨hH.1.only ho (by omega),⟨_,hq⟩,hH.2.2.trans (ho.below (by omega))⟩ λhH=>?_;clear hK K hq ho;refine zp 13 λK hK=>?_;go_simp;refine hK.out _ _ hH λhH=>?_;clear hK K;refine dnr ?_;go_wp2;exact zgJ (v:=.tuple #[.agg (regA (upd x (8+m) (d:Int))),bA false]) (zo results189 _ _ (w.heap.size+1) 49 (upd x (8+m) (d:Int)) _ _ rfl rfl HQ underlying49 rfl Tryz.zc3) rfl ⟨by rw[HR.o],hH.2.2⟩
 have ad:(x (8+m)==0)=false:=by simpa using hz
 by_cases hn:x (8+m)=(d:Int)
 .have HR:Hid ((decide (x (8+m)≠0)&&decide (x (8+m)≠(d:Int)))=false):=by unfold Hid;simp only[Bool.and_eq_false_iff,decide_eq_false_iff_not];omega
  have ag:(x (8+m) != (d:Int))=false:=by simp[hn]
  clear hn hz;refine rgd (S:=(λw'=>RegAt w' (w.heap.size+1+1) 49 (upd x (8+m) (d:Int))/\(∃q,RegAt w' (w.heap.size+1) 49 q)/\BW w w')) ⟨HA.o.drew,⟨zA,HD.o.drew⟩,HB.o.drew⟩ λhH=>?_;refine takeN [(0,some 50,.agg (regA (upd x (8+m) (d:Int)))),(1,some 51,sA t),(2,some 52,.int .u8 114),(3,some 53,bA false),(4,some 54,iA (x (8+m))),(5,some 55,bA false),(6,some 56,bA true),(7,some 57,bA true),(8,some 58,iA (x (8+m))),(9,some 59,iA d),(10,some 60,bA false),(11,some 61,bA false)] _ _ hH (by repeat(first|exact zgY|((first|refine tkc rfl rfl (zv (by rfl) 49 _ rfl (w.heap.size+1+1) rfl 49 (upd x (8+m) (d:Int)) _ (λw h=>h.1) underlying49 rfl Tryz.zc3) ?_|(refine tkc rfl rfl (zgR ⟨by rfl,λx h=>?_⟩) ?_;focus(go_simp;done)));simp only[AP]))) ?_;simp only[zh,AP];refine zp 12 λK hK=>?_;rw[zgT (by rfl)];refine zu 49 _ _ rfl (w.heap.size+1) (upd x (8+m) (d:Int)) rfl rfl 49 (regA hH.2.1.choose) hH.2.1.choose_spec (zg _) Tryz.zc3 ?_;intro w2 hq ho;have HQ:=zc hq;refine hK.out _ _ ⟨hH.1.only ho (by omega),⟨_,hq⟩,hH.2.2.trans (ho.below (by omega))⟩ λhH=>?_;clear hK K hq ho;refine zp 13 λK hK=>?_;go_simp;refine hK.out _ _ hH λhH=>?_;clear hK K;refine dnr ?_;go_wp2;exact zgJ (v:=.tuple #[.agg (regA (upd x (8+m) (d:Int))),bA false]) (zo results189 _ _ (w.heap.size+1) 49 (upd x (8+m) (d:Int)) _ _ rfl rfl HQ underlying49 rfl Tryz.zc3) rfl ⟨by rw[HR.o],hH.2.2⟩
 have HR:Hid ((decide (x (8+m)≠0)&&decide (x (8+m)≠(d:Int)))=true):=by unfold Hid;simp only[Bool.and_eq_true,decide_eq_true_eq];omega
 have ag:(x (8+m) != (d:Int))=true:=by simp[hn]
 clear hn hz;refine rgd (S:=(λw'=>RegAt w' (w.heap.size+1+1) 49 (upd x (8+m) (d:Int))/\(∃q,RegAt w' (w.heap.size+1) 49 q)/\BW w w')) ⟨HA.o.drew,⟨zA,HD.o.drew⟩,HB.o.drew⟩ λhH=>?_;refine takeN [(0,some 50,.agg (regA (upd x (8+m) (d:Int)))),(1,some 51,sA t),(2,some 52,.int .u8 114),(3,some 53,bA false),(4,some 54,iA (x (8+m))),(5,some 55,bA false),(6,some 56,bA true),(7,some 57,bA true),(8,some 58,iA (x (8+m))),(9,some 59,iA d),(10,some 60,bA true),(11,some 61,bA true)] _ _ hH (by repeat(first|exact zgY|((first|refine tkc rfl rfl (zv (by rfl) 49 _ rfl (w.heap.size+1+1) rfl 49 (upd x (8+m) (d:Int)) _ (λw h=>h.1) underlying49 rfl Tryz.zc3) ?_|(refine tkc rfl rfl (zgR ⟨by rfl,λx h=>?_⟩) ?_;focus(go_simp;done)));simp only[AP]))) ?_;simp only[zh,AP];refine zp 12 λK hK=>?_;rw[zgT (by rfl)];refine zu 49 _ _ rfl (w.heap.size+1) (upd x (8+m) (d:Int)) rfl rfl 49 (regA hH.2.1.choose) hH.2.1.choose_spec (zg _) Tryz.zc3 ?_;intro w2 hq ho;have HQ:=zc hq;refine hK.out _ _ ⟨hH.1.only ho (by omega),⟨_,hq⟩,hH.2.2.trans (ho.below (by omega))⟩ λhH=>?_;clear hK K hq ho;refine zp 13 λK hK=>?_;go_simp;refine hK.out _ _ hH λhH=>?_;clear hK K;refine dnr ?_;go_wp2;exact zgJ (v:=.tuple #[.agg (regA (upd x (8+m) (d:Int))),bA true]) (zo results189 _ _ (w.heap.size+1) 49 (upd x (8+m) (d:Int)) _ _ rfl rfl HQ underlying49 rfl Tryz.zc3) rfl ⟨by rw[HR.o],hH.2.2⟩

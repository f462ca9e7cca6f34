import Derived.Test.YtcfjhbcpjpgodaaGreatDoorChecked
import Derived.WalkKit
import Derived.Stop.Asserts
import Derived.RowKitTokens
import Derived.Test.YtcfjhbcpjpgodaaGreatDoorJ4
import Derived.Test.YtcfjhbcpjpgodaaGreatDoorJ5
import Derived.Lib.BufferWrite
import Derived.BigQuiet
import Derived.Test.YtcfjhbcpjpgodaaGreatDoorTakeL
import Derived.Test.YtcfjhbcpjpgodaaGreatDoorMarks
import Derived.Laws.AppendOwnNone
namespace Go.Proofs.YtcfjhbcpjpgodaaGreatDoor
open Go.RowKit
set_option maxRecDepth 100000
set_option maxHeartbeats 0
set_option linter.all false
section
open Go.Extern.Stop Go.Stop Go.Extern Proofs.Tryz
theorem Tryz.zgQ(v:Value)(w:World):(Extern.ReflectliteType.typeOf #[.iface 294 v]).run prog w=.ok (.iface 211 (.agg #[.pointer (some ⟨16,294,none⟩)])) w:=by kernel_rfl
def qS:Array Value->Sem Value:=Extern.ReflectliteType.method λt=>do Extern.Rtype.noPackHeld "Comparable" t;pure (.bool (<-typeInfo t).comparable)
theorem Tryz.zgx(w:World):(qS #[.agg #[.pointer (some ⟨16,294,none⟩)]]).run prog w=.ok (.bool true) w:=by kernel_rfl
theorem Tryz.zgj(v:Value)(w:World):(Go.method 423 211 v "Comparable").run prog w=.ok (239,v) w:=by kernel_rfl
theorem Tryz.zho:(prog.info? 294).map (·.comparable)=some true:=by kernel_rfl
theorem Tryz.zhn:(prog.info? 312).map (·.size)=some 1:=by kernel_rfl
theorem Tryz.ziM(v:Value)(xT:TypeId)(w:World):(Instr.typeAssert (.iface 294 v) xT 213 true).run prog w=.ok (.tuple #[.nilIface,.bool false]) w:=run_typeAssert_lacksB underlying213 (by kernel_rfl) (by kernel_rfl) v xT w
theorem Tryz.zhd(v:Value)(xT:TypeId)(w:World):(Instr.typeAssert (.iface 294 v) xT 216 true).run prog w=.ok (.tuple #[.nilIface,.bool false]) w:=run_typeAssert_lacksB underlying216 (by kernel_rfl) (by kernel_rfl) v xT w
theorem Tryz.zg2(v:Value)(xT:TypeId)(w:World):(Instr.typeAssert (.iface 294 v) xT 218 true).run prog w=.ok (.tuple #[.nilIface,.bool false]) w:=run_typeAssert_lacksB underlying218 (by kernel_rfl) (by kernel_rfl) v xT w
theorem zer(a:Addr)(w:World):
 Calls prog 30 #[.iface 294 (.pointer (some a)),.iface 294 (.pointer (some a))] w λe w'=>e=.returned (.bool true)/\w'=w:=by
 obtain⟨i,hi,aa⟩:=Option.map_eq_some_iff.1 Tryz.zho;obtain⟨j,hj,hjs⟩:=Option.map_eq_some_iff.1 Tryz.zhn;have h8:=@run_callFunc_extern prog 83 _ Extern.ReflectliteType.typeOf func83 (by kernel_rfl) (by kernel_rfl) (by kernel_rfl) (by kernel_rfl);have h32:=@run_callFunc_extern prog 239 _ qS func239 (by kernel_rfl) (by kernel_rfl) (by kernel_rfl) (by kernel_rfl);have tT:=Tryz.zgQ;have cT:=Tryz.zgx;have mR:=Tryz.zgj;have heq:=run_eql_iface_ptr_same (P:=prog) w a underlying42 underlying294 hi aa hj;go_enter func30,ntmps30;go_wp2;refine wp_loop_rounds 1 ?_;rw[rounds_succ];go_wp2;go_ret;exact⟨rfl,rfl⟩
theorem zdU(b:Addr)(w:World):
 Calls prog 30 #[.nilIface,.iface 294 (.pointer (some b))] w λe w'=>e=.returned (.bool false)/\w'=w:=by
 have hn:=run_eql_iface_nil_left (P:=prog) w 294 (.pointer (some b)) underlying42;go_enter func30,ntmps30;go_wp2;go_ret;exact⟨rfl,rfl⟩
theorem zdh(a b:Addr)(ca cb:Array Value)(ta tb:TypeId)(w:World)(hne:a≠b)(ha:w.heap[a.block]? =some (.cells ca ta (0,0)))(hb:w.heap[b.block]? =some (.cells cb tb (0,0))):
 Calls prog 30 #[.iface 294 (.pointer (some a)),.iface 294 (.pointer (some b))] w λe w'=>e=.returned (.bool false)/\w'=w:=by
 obtain⟨i,hi,aa⟩:=Option.map_eq_some_iff.1 Tryz.zho;obtain⟨j,hj,ad⟩:=Option.map_eq_some_iff.1 Tryz.zhn;have h8:=@run_callFunc_extern prog 83 _ Extern.ReflectliteType.typeOf func83 (by kernel_rfl) (by kernel_rfl) (by kernel_rfl) (by kernel_rfl);have h32:=@run_callFunc_extern prog 239 _ qS func239 (by kernel_rfl) (by kernel_rfl) (by kernel_rfl) (by kernel_rfl);have tT:=Tryz.zgQ;have cT:=Tryz.zgx;have mR:=Tryz.zgj;have nE:=Tryz.ziM;have uE:=Tryz.zhd;have vE:=Tryz.zg2;have heq:=run_eql_iface_ptr_other (P:=prog) w underlying42 underlying294 hi aa hj (by rw[ad];decide) hne ha hb;go_enter func30,ntmps30;go_wp2;refine wp_loop_rounds 1 ?_;rw[rounds_succ];go_wp2;go_ret;exact⟨rfl,rfl⟩
end
section
open Proofs.Tryz
theorem yL(K H R F V:Int)(nl:Bool)(s:zj5)(w:World)(hs:s.size<=maxLen):
 Calls prog 139 #[.agg #[iA K,iA H,iA R,iA F,iA V,bA nl,sA s]] w λe w'=>e=.returned (bA (hasB K H R F V nl s.size))/\BW w w':=by
 unfold maxLen at hs;by_cases h1:H<0
 .go_enter func139,ntmps139;go_wp2;go_ret;exact⟨yt (by simp[hasB]<;>omega),bwA _⟩
 by_cases h2:12<=H
 .go_enter func139,ntmps139;go_wp2;go_ret;exact⟨yt (by simp[hasB]<;>omega),bwA _⟩
 by_cases h3:R<0
 .go_enter func139,ntmps139;go_wp2;go_ret;exact⟨yt (by simp[hasB]<;>omega),bwA _⟩
 by_cases h4:255<R
 .go_enter func139,ntmps139;go_wp2;go_ret;exact⟨yt (by simp[hasB]<;>omega),bwA _⟩
 by_cases h5:F<0
 .go_enter func139,ntmps139;go_wp2;go_ret;exact⟨yt (by simp[hasB]<;>omega),bwA _⟩
 by_cases h6:8<=F
 .go_enter func139,ntmps139;go_wp2;go_ret;exact⟨yt (by simp[hasB]<;>omega),bwA _⟩
 by_cases h7:24<(s.size:Int)
 .go_enter func139,ntmps139;go_wp2;go_ret;exact⟨yt (by simp[hasB]<;>omega),bwA _⟩
 by_cases k1:K=1
 .subst k1;cases nl with
  |true=>
   go_enter func139,ntmps139;go_wp2;go_ret;exact⟨yt (by simp[hasB]<;>omega),bwA _⟩
  |false=>
   by_cases v1: -1<=V
   .by_cases v2:V<R
    .have v2':¬R<=V:=by omega
     go_enter func139,ntmps139;go_wp2;go_ret;exact⟨yt (by simp[hasB]<;>omega),bwA _⟩
    go_enter func139,ntmps139;go_wp2;go_ret;exact⟨yt (by simp[hasB]<;>omega),bwA _⟩
   go_enter func139,ntmps139;go_wp2;go_ret;exact⟨yt (by simp[hasB]<;>omega),bwA _⟩
 have k1':(K==1)=false:=by simpa using k1
 by_cases k23:K=2\/K=3
 .by_cases v0:V=0
  .subst v0;cases nl with
   |false=>
    rcases k23 with k|k;focus
     subst k
    rotate_left;focus
     subst k
    rotate_left;all_goals
     clear k1';go_enter func139,ntmps139;go_wp2;go_ret;exact⟨yt (by simp[hasB]<;>omega),bwA _⟩
   |true=>
    rcases k23 with k|k;focus
     subst k
    rotate_left;focus
     subst k
    rotate_left;all_goals
     clear k1';go_enter func139,ntmps139;go_wp2;go_ret;refine⟨yt ?_,bwA _⟩;rw[JL];exact Gb _ _ _ _ _ (by omega) (by omega) (by omega) (by omega) (by omega) (by omega) (by omega) (by omega)
  have v0':(V==0)=false:=by simpa using v0
  rcases k23 with k|k;focus
   subst k
  rotate_left;focus
   subst k
  rotate_left;all_goals
   clear k1';go_enter func139,ntmps139;go_wp2;go_ret;exact⟨yt (by simp[hasB]<;>omega),bwA _⟩
 have k2:(K==2)=false:=by simp;omega
 have k3:(K==3)=false:=by simp;omega
 go_enter func139,ntmps139;go_wp2;go_ret;exact⟨yt (by simp[hasB]<;>omega),bwA _⟩
theorem gU(K H R F V:Int)(nl:Bool)(s:zj5)(w:World)(h:hasB K H R F V nl s.size=true):
 Calls prog 140 #[.agg #[iA K,iA H,iA R,iA F,iA V,bA nl,sA s]] w λe w'=>e=.returned (.int .u8 (jh K V nl))/\BW w w':=by
 have h':=zjP h;clear h;by_cases k1:K=1
 .subst k1;have v1: -1<=V:=by omega
  have v2:V<255:=by omega
  clear h';go_enter func140,ntmps140;go_wp2;go_ret;refine⟨VC ?_,bwA _⟩;simp[jh]
 have k1':(K==1)=false:=by simpa using k1
 clear h';cases nl
 .go_enter func140,ntmps140;go_wp2;go_ret;exact⟨VC (by simp[jh,k1]),bwA _⟩
 go_enter func140,ntmps140;go_wp2;go_ret;exact⟨VC (by simp[jh,k1]),bwA _⟩
theorem Tryz.zg3:(prog.info? 5).map (λi=>(i.size,i.bytes,i.zero))=some (1,1,some (.int .u8 0)):=by kernel_rfl
theorem GX(s:zj5):strOfNums (s.data.toList.map λb=>(b.toNat:Int))=s:=by
 apply ByteArray.ext;apply Array.toList_inj.1;show(List.map _ _).toArray.toList=_;rw[List.toList_toArray,List.map_map]
 conv=>rhs;rw[<-List.map_id s.data.toList]
 apply List.map_congr_left;intro x _;simp
theorem VH(a b:List Int):strOfNums (a++b)=strOfNums a++strOfNums b:=by
 apply ByteArray.ext;apply Array.toList_inj.1;simp[strOfNums]
theorem vZ(W:World)(g:Nat)(Y:Array Value)(K H R F m:Int)(s:zj5)(hg:W.heap[g]? =some (.cells Y 5 (0,0)))
 (hY:Y.toList=[.int .u8 K,.int .u8 H,.int .u8 R,.int .u8 F,.int .u8 m,.int .u8 s.size]++Lib.byteCells s.data.toList):
 (convert 153 9 (.slice (some (aA g 0)) (6+s.size) (6+s.size))).run prog W=.ok (sA (yM K H R F m s)) W:=by
 have h:=run_convert_bytes_arg (P:=prog) W 153 5 underlying153 underlying5 g 0 (6+s.size) (6+s.size) ([K,H,R,F,m,s.size]++s.data.toList.map λb=>(b.toNat:Int)) (by simp;omega) (λi hi=>by
  have e:Y.toList[i]? =some (.int .u8 (([K,H,R,F,m,(s.size:Int)]++s.data.toList.map λb=>(b.toNat:Int)).getD i 0)):=by
   rw[hY];have e2:[Value.int .u8 K,.int .u8 H,.int .u8 R,.int .u8 F,.int .u8 m,.int .u8 s.size]++Lib.byteCells s.data.toList=([K,H,R,F,m,(s.size:Int)]++s.data.toList.map λb=>(b.toNat:Int)).map (Value.int .u8):=by
    simp[Lib.byteCells]
   rw[e2,List.getElem?_map,zjK];have aa:i<([K,H,R,F,m,(s.size:Int)]++s.data.toList.map λb=>(b.toNat:Int)).length:=by simp;omega
   rw[zjJ aa];rfl
  rw[zj8];simp only[World.cell?,hg];rw[<-zkf];exact e) 9 underlying9
 rw[h,VH,GX];rfl
theorem Vu(M:Array Value)(n:Nat)(z a0 a1 a2 a3 a4 a5:Value)(h:M.toList=List.replicate (6+n) z):
 ((((((M.setIfInBounds 0 a0).setIfInBounds 1 a1).setIfInBounds 2 a2).setIfInBounds 3 a3).setIfInBounds 4 a4).setIfInBounds 5 a5).toList=[a0,a1,a2,a3,a4,a5]++List.replicate n z:=by
 have e:List.replicate (6+n) z=z::z::z::z::z::z::List.replicate n z:=by rw[Nat.add_comm];rfl
 simp only[Array.toList_setIfInBounds,h,e];rfl
end
theorem jI(l:List Int)(s:zj5)(i:Nat)(x:Int)(hi:l[i]? =some x)(h0:0<=x)(h1:x<=255):byt (strOfNums l++s) i=x:=by
 have hl:i<l.length:=(List.getElem?_eq_some_iff.1 hi).1;unfold byt strOfNums;rw[ByteArray.data_append,Array.toList_append,zjK,zjN (by simpa using hl)];simp only[List.getElem?_map,hi,Option.map_some,Option.getD_some,UInt8.toNat_ofNat'];omega
theorem JX(l:List Int)(s:zj5):(strOfNums l++s).extract l.length (strOfNums l++s).size=s:=by
 apply ByteArray.ext;apply Array.ext';rw[Lib.extract_data];have hz:(strOfNums l++s).size=l.length+s.size:=by rw[ByteArray.size_append,strOfNums_size]
 rw[hz];have hd:(strOfNums l++s).data.toList=(strOfNums l).data.toList++s.data.toList:=by rw[ByteArray.data_append,Array.toList_append]
 rw[hd];have hll:(strOfNums l).data.toList.length=l.length:=by unfold strOfNums;simp
 rw[List.drop_append_of_le_length (by omega)];have h0:(strOfNums l).data.toList.drop l.length=[]:=List.drop_of_length_le (by omega);rw[h0,List.nil_append];exact List.take_of_length_le (by simp)
theorem gN{K H R F V:Int}{nl:Bool}{s:zj5}(h:hasB K H R F V nl s.size=true):zM (Gm K H R F V nl s)=true/\decV (Gm K H R F V nl s)=⟨K,H,R,F,V,nl,s⟩:=by
 rw[ZI h];have h':=zjP h;obtain⟨h1,h2,h3,h4,h5,h6,h7,h8⟩:=h';obtain⟨M,hM⟩:=gen (jh K V nl);have hv:vOf K M=V:=by
  rw[hM];unfold vOf jh;rcases h8 with⟨rfl,rfl,_,_⟩|⟨hk,rfl,hn⟩
  .simp
  have:¬K=1:=by omega
  simp[this]
 have hn:nlOf K M=nl:=by
  rw[hM];unfold nlOf jh;rcases h8 with⟨rfl,rfl,_,_⟩|⟨hk,rfl,hn⟩
  .simp
  have:¬K=1:=by omega
  cases nl<;>simp[this]
 have ad:0<=M/\M<=255:=by
  rw[hM];unfold jh;rcases h8 with⟨rfl,rfl,_,_⟩|⟨hk,rfl,hn⟩
  .simp;omega
  have:¬K=1:=by omega
  cases nl<;>simp[this]
 have hK:0<=K/\K<=255:=by omega
 rw[<-hM];have b0:byt (yM K H R F M s) 0=K:=jI [K,H,R,F,M,s.size] s 0 K rfl hK.1 hK.2;have b1:byt (yM K H R F M s) 1=H:=jI [K,H,R,F,M,s.size] s 1 H rfl h1 (by omega);have b2:byt (yM K H R F M s) 2=R:=jI [K,H,R,F,M,s.size] s 2 R rfl h3 h4;have b3:byt (yM K H R F M s) 3=F:=jI [K,H,R,F,M,s.size] s 3 F rfl h5 (by omega);have b4:byt (yM K H R F M s) 4=M:=jI [K,H,R,F,M,s.size] s 4 M rfl ad.1 ad.2;have b5:byt (yM K H R F M s) 5=s.size:=jI [K,H,R,F,M,s.size] s 5 s.size rfl (by omega) (by omega);have ex:(yM K H R F M s).extract 6 (yM K H R F M s).size=s:=JX [K,H,R,F,M,s.size] s;have hz:6<=(yM K H R F M s).size:=by unfold yM;rw[ByteArray.size_append,zfl];omega
 have aa:zM (yM K H R F M s)=true:=by
  unfold zM Zh;rw[b0,b1,b2,b3,b4,b5,ex,hv,hn,h,zjQ hz,<-hM];simp
 refine⟨aa,?_⟩;unfold decV;rw[zj2 aa,b0,b1,b2,b3,b4,ex,hv,hn]
section
open Proofs.Tryz
variable{n:Nat}{sg:Nat->List zj5}{l:List zj5}{t:zj5}
def vh(F:Nat->Prop)(rb n:Nat)(sg:Nat->List zj5)(w:World):Prop:=
 ∃(ob cap:Nat) (cur:Array Value) (iv:Nat->Value),
  w.heap[rb]? =some (.cells #[.slice (some (aA ob 0)) n cap] 112 (0,0))/\w.heap[ob]? =some (.cells cur 30 (0,0))/\(∀i,i<n->cur[i]? =some (iv i))/\
  (∀i,i<n->w.ownsRow 0 9 1 (iv i) (sg i).length ((sg i).map .string))/\(∀i j,i<n->j<n->i≠j->∀g,(iv i).ownBlock=some g->(iv j).ownBlock≠some g)/\
  F rb/\F ob/\∀i,i<n->∀g,(iv i).ownBlock=some g->F g
theorem vh.frame{F:Nat->Prop}{rb:Nat}{w w':World}(h:vh F rb n sg w)(hb:∀k,F k->w'.heap[k]? =w.heap[k]?):vh F rb n sg w':=by
 obtain⟨ob,cap,cur,iv,h1,h2,h3,h4,h5,h6,h7,h8⟩:=h;exact⟨ob,cap,cur,iv,(hb rb h6).trans h1,(hb ob h7).trans h2,h3,λi hi=>zb (h4 i hi) (λg e _=>hb g (h8 i hi g e)),h5,h6,h7,h8⟩
def zaM(l:List zj5)(t:zj5):Bool:=l.any λs=>s.data==t.data
theorem vX(l:List zj5)(t:zj5):zaM l t=true↔t∈l:=by
 unfold zaM;rw[List.any_eq_true];constructor
 .rintro ⟨s,hs,he⟩
  have:s=t:=ByteArray.ext (by simpa using he);rw[<-this];exact hs
 intro h;exact⟨t,h,by simp⟩
theorem jk(h:t∈l):zaM l t=true:=(vX l t).2 h
theorem Qz(h:t∉l):zaM l t=false:=by
 cases e:zaM l t with
 |false=>rfl
 |true=>exact absurd ((vX l t).1 e) h
def zB(sg:Nat->List zj5)(n:Nat)(id:Int)(t:zj5):Bool:=decide (0<=id/\id<(n:Int))&&zaM (sg id.toNat) t
theorem Vv{id:Int}(h:¬(0<=id/\id<(n:Int))):zB sg n id t=false:=by unfold zB;rw[zjR h];rfl
theorem vO{i:Nat}(h:i<n):zB sg n (i:Int) t=zaM (sg i) t:=by unfold zB;rw[zjQ (by omega)];simp
theorem gB{s:zj5}(h:¬s=t):(s.toList==t.toList)=false:=by
 apply Bool.eq_false_iff.2;intro e;have e1:s.toList=t.toList:=by simpa using e
 rw[ByteArray.toList_eq,ByteArray.toList_eq] at e1;exact h (ByteArray.ext (Array.ext' e1))
theorem Qo(l:List zj5)(t:zj5)(k:Nat)(h:t∉l.take k)(hn:l.getD k zj4≠t):t∉l.take (k+1):=by
 intro hm;by_cases hk:k<l.length
 .rw [<-List.take_append_getElem hk,zjU] at hm;rcases hm with hm|hm
  .exact h hm
  rw[zjW] at hm;rw[zjK,zjJ hk] at hn;exact hn hm.symm
 rw[List.take_of_length_le (by omega)] at hm h;exact h hm
theorem gD(F:Nat->Prop)(rb n:Nat)(sg:Nat->List zj5)(id:Int)(t:zj5)(w:World)(h:vh F rb n sg w):
 Calls prog 71 #[pA rb 0,iA id,sA t] w λe w'=>e=.returned (bA (zB sg n id t))/\w'=w:=by
 obtain⟨ob,cap,cur,iv,h1,h2,h3,h4,-,-,-,-⟩:=h;have hc0:cE w rb 0 (.slice (some (aA ob 0)) n cap):=zjD w rb 0 _ _ _ h1;by_cases ho:0<=id/\id<(n:Int)
 .obtain ⟨i,rfl⟩:∃i:Nat,id=(i:Int):=⟨id.toNat,by omega⟩
  have ah:i<n:=by omega
  obtain⟨ip,ic,he,hm,ad⟩:=kV (h4 i ah);have an:w.cell? (aA ob i)=some (.slice ip (sg i).length ic):=by rw[zjD w ob i _ _ _ h2,h3 i ah,he]
  rw[vO ah];obtain⟨l,hl⟩:=gen (sg i);rw[<-hl] at ad an hm ⊢;have HL:=zc ad;have hb1:¬(i:Int)<0:=by omega
  have hb2:¬(n:Int)<=(i:Int):=by omega
  have hb3:(i:Int)<n:=by omega
  have hmx:l.length<=9223372036854775807:=by unfold maxLen at hm;omega
  clear h1 h2 h3 h4 he ad ho hl hm;go_enter func71,ntmps71;go_wp2
  go_loop [7] (λk=>∃j:Nat,j<=l.length/\k=iA j/\t∉l.take j) (λk=>l.length-(intOf k).toNat)
  case atStart=>exact⟨0,by omega,rfl,by simp⟩
  obtain⟨j,hj,rfl,aa⟩:=hrel;by_cases ae:j=l.length
  .have HF:Hid (zaM l t=false):=Qz (by rw[ae,zke] at aa;exact aa);have al:¬(j:Int)<l.length:=by omega
   clear ae aa;go_wp2;go_ret;exact⟨yz HF.o.symm,rfl⟩
  have ag:j<l.length:=by omega
  have ak:(j:Int)<l.length:=by omega
  obtain⟨b,o,rfl,-,ai⟩:=HL.o j ag;obtain⟨s,hs⟩:=gen (l.getD j zj4);have hc3:w.cell? (aA b (o+j))=some (sA s):=by rw[hs];exact ai
  clear ai;by_cases af:s=t
  .have HF:Hid (zaM l t=true):=jk (by rw[<-af,hs,zjK,zjJ ag];exact List.getElem_mem ag);subst af;clear hs ae aa;go_wp2;go_ret;exact⟨yz HF.o.symm,rfl⟩
  have HM:=zc (Qo l t j aa (by rw[<-hs];exact af));have q1:=gB af;clear hs ae aa;go_wp2
  go_round
  case rel=>exact⟨j+1,by omega,by go_num,HM.o⟩
  simp[intOf];omega
 rw[Vv ho];by_cases aj:id<0
 .clear h1 h2 h3 h4 ho;go_enter func71,ntmps71;go_wp2;go_ret;exact⟨rfl,rfl⟩
 have al:(n:Int)<=id:=by omega
 clear h1 h2 h3 h4 ho;go_enter func71,ntmps71;go_wp2;go_ret;exact⟨rfl,rfl⟩
end
section
open Proofs.Tryz
variable{sg:Nat->List zj5}{i n:Nat}{t:zj5}{w:World}{v:Value}
structure zk (F:Nat->Prop) (w w':World):Prop where
 os:w'.os=w.os
 tape:w'.tape=w.tape
 output:w'.output=w.output
 size:w.heap.size<=w'.heap.size
 block:∀k,k<w.heap.size->¬F k->w'.heap[k]? =w.heap[k]?
def signR(sg:Nat->List zj5)(i:Nat)(t:zj5):Nat->List zj5:=λj=>if j=i/\zaM (sg i) t=false then sg i++[t] else sg j
theorem xm(h:t∈sg i):signR sg i t=sg:=by
 funext j;unfold signR;rw[zj3 (by intro hh;rw[jk h] at hh;cases hh.2)]
theorem gE(h:t∉sg i):signR sg i t i=sg i++[t]:=by unfold signR;rw[zj2 ⟨rfl,Qz h⟩]
theorem qL{j:Nat}(h:j≠i):signR sg i t j=sg j:=by unfold signR;rw[zj3 (by intro hh;exact h hh.1)]
theorem yn{base e g:Nat}{t:TypeId}{xs:List Value}{C:Array Value}(h:w.ownsRow base e 1 v n xs)(hg:w.heap[g]? =some (.cells C t (0,0)))(ht:t≠e):some g≠v.ownBlock:=by
 intro e1;rcases h.2 with⟨rfl,_⟩|⟨g1,_,_,rfl,_,aa,_⟩
 .cases e1
 cases e1;rw[aa] at hg;exact ht (by simpa using(Obj.cells.inj (zkd hg)).2.1.symm)
def zeM(F:Nat->Prop)(rb n:Nat)(sg':Nat->List zj5)(w w':World):Prop:=
 ∃F':Nat->Prop,vh F' rb n sg' w'/\(∀k,F' k->F k\/w.heap.size<=k)/\(∀k,F' k->k<w'.heap.size)/\zk F w w'
theorem QL{p:Addr}(h:w.cell? p=some v):p.block<w.heap.size:=zjI _ _ h
theorem zcA{F:Nat->Prop}{rb ob cap:Nat}{cur:Array Value}{iv:Nat->Value}{ip vp:Option Addr}{ic vc:Nat}{w3:World}
 (hF:∀k,F k->k<w.heap.size) (h1:w.heap[rb]? =some (.cells #[.slice (some (aA ob 0)) n cap] 112 (0,0))) (h2:w.heap[ob]? =some (.cells cur 30 (0,0))) (h3:∀i,i<n->cur[i]? =some (iv i))
 (h4:∀i,i<n->w.ownsRow 0 9 1 (iv i) (sg i).length ((sg i).map .string)) (h5:∀i j,i<n->j<n->i≠j->∀g,(iv i).ownBlock=some g->(iv j).ownBlock≠some g) (h6:F rb) (h7:F ob) (h8:∀i,i<n->∀g,(iv i).ownBlock=some g->F g)
 (hin:i<n) (he:iv i=.slice ip (sg i).length ic) (hmem:t∉sg i) (hown:w3.ownsRow 0 9 1 (.slice vp ((sg i).length+1) vc) ((sg i).length+1) ((sg i).map .string++[sA t]))
 (hat:Value.ownBlock (.slice vp ((sg i).length+1) vc)=Value.ownBlock (.slice ip (sg i).length ic)\/Value.ownBlock (.slice vp ((sg i).length+1) vc)=some (w.heap.size+1))
 (hkeep:∀k,k<w.heap.size->some k≠Value.ownBlock (.slice ip (sg i).length ic)->w3.heap[k]? =w.heap[k]?) (hs3:w.heap.size+1<=w3.heap.size) (hos:w3.os=w.os/\w3.tape=w.tape/\w3.output=w.output)
 (hO:w.ownsRow 0 9 1 (.slice ip (sg i).length ic) (sg i).length ((sg i).map .string)):
 zeM F rb n (signR sg i t) w (w3.setCell (aA ob i) (.slice vp ((sg i).length+1) vc)):=by
 have hon:=zf w3 ob i (.slice vp ((sg i).length+1) vc);have neo:some ob≠Value.ownBlock (.slice ip (sg i).length ic):=yn hO h2 (by decide);have ner:some rb≠Value.ownBlock (.slice ip (sg i).length ic):=yn hO h1 (by decide);have ai:rb≠ob:=λe=>by rw[e,h2] at h1;simp at h1
 have ah:cL w3 ob cur 30:=(hkeep ob (zg h2) neo).trans h2;have ad:some ob≠Value.ownBlock (.slice vp ((sg i).length+1) vc):=yn hown ah (by decide);obtain⟨v,hv⟩:=gen (Value.slice vp ((sg i).length+1) vc);rw[<-hv] at hown hat hon ad ⊢;obtain⟨jv,ae⟩:∃f:Nat->Value,f=λj=>if j=i then v else iv j:=⟨_,rfl⟩
 have jy:∀j,j=i->jv j=v:=λj e=>by rw[ae];exact zj2 e
 have jn:∀j,j≠i->jv j=iv j:=λj e=>by rw[ae];exact zj3 e
 clear ae;refine⟨λk=>F k\/some k=v.ownBlock,⟨ob,cap,cur.setIfInBounds i v,jv,?_,?_,?_,?_,?_,zj0 h6,zj0 h7,?_⟩,?_,?_,⟨hos.1,hos.2.1,hos.2.2,?_,?_⟩⟩
 .rw [hon.block rb ai,hkeep rb (zg h1) ner];exact h1
 .simp [World.setCell,Array.getElem?_modify,ah]
 .intro j hj;rw[Array.getElem?_setIfInBounds];by_cases e:i=j
  .subst e;rw[zj2 rfl,zj2 (Array.getElem?_eq_some_iff.1 (h3 i hin)).1,jy i rfl]
  rw[zj3 e,jn j (λe2=>e e2.symm)];exact h3 j hj
 .intro j hj;by_cases e:j=i
  .subst e;rw[jy j rfl,gE hmem,zjO,List.map_append];exact zb hown (λg hg _=>hon.block g (λe=>ad (by rw[<-e];exact hg.symm)))
  rw[jn j e,qL e];refine zb (h4 j hj) λg hg aj=>?_;rw[hon.block g (λe2=>yn (h4 j hj) h2 (by decide) (by rw[<-e2];exact hg.symm)),hkeep g aj (λe2=>h5 j i hj hin e g hg (by rw[he];exact e2.symm))]
 .intro j k hj hk af g hg;by_cases e:j=i
  .rw [jy j e] at hg;have e2:k≠i:=λe2=>af (by rw[e,e2]);rw[jn k e2];intro aa;rcases hat with h|h
   .exact h5 k i hk hin e2 g aa (by rw[he,<-h];exact hg)
   rw[h] at hg;cases hg;have:=((h4 k hk).lt _ aa).2;omega
  rw[jn j e] at hg;by_cases e2:k=i
  .rw [jy k e2];intro aa;rcases hat with h|h
   .exact h5 j i hj hin e g hg (by rw[he,<-h];exact aa)
   rw[h] at aa;cases aa;have:=((h4 j hj).lt _ hg).2;omega
  rw[jn k e2];exact h5 j k hj hk af g hg
 .intro j hj g hg;by_cases e:j=i
  .rw [jy j e] at hg;exact zj1 hg.symm
  rw[jn j e] at hg;exact zj0 (h8 j hj g hg)
 .intro k hk;rcases hk with hk|hk
  .exact zj0 hk
  rcases hat with h|h
  .exact zj0 (h8 i hin k (by rw[he,<-h];exact hk.symm))
  rw[h] at hk;cases hk;exact zj1 (by omega)
 .intro k hk;rw[hon.size];rcases hk with hk|hk
  .have:=hF k hk
   omega
  exact(hown.lt k hk.symm).2
 .rw [hon.size];omega
 intro k hk ag;rw[hon.block k (λe=>ag (by rw[e];exact h7)),hkeep k hk (λe=>ag (h8 i hin k (by rw[he];exact e.symm)))]
theorem zcB(F:Nat->Prop)(rb n kb i:Nat)(sg:Nat->List zj5)(t:zj5)(w:World)(h:vh F rb n sg w)(hin:i<n)(hk:w.heap[kb]? =some (.cells #[pA rb 0,iA i] 114 (0,0)))
 (hlen:(sg i).length<=4000000000000) (hF:∀k,F k->k<w.heap.size):
 Calls prog 44 #[pA kb 0,sA t] w λe w'=>e=.returned (.tuple #[])/\zeM F rb n (signR sg i t) w w':=by
 have HR:=zc h;have an:cE w kb 0 (pA rb 0):=zjD w kb 0 _ _ _ hk;have az:=zc hk;have al:cE w kb 1 (iA i):=zjD w kb 1 _ _ _ hk;obtain⟨i9,aL,aE,aD,aC⟩:=info_parts Tryz.zgM;by_cases ad:t∈sg i
 .have HE:Hid (signR sg i t=sg):=xm ad;have aF:zB sg n (i:Int) t=true:=by rw[vO hin];exact jk ad
  have av:=zc hF;clear h ad hk hF hlen;go_enter func44,ntmps44;go_wp2_with fail
  go_quiet (first|(go_at_call 71;refine Calls.quiet_of_same (gD F rb n sg (i:Int) t _ (HR.o.frame (λ_ _=>rfl)))))
  all_goals go_wp2
  all_goals exact bodyPost_end (v:=.tuple #[]) (by simp[results,results44]) rfl ⟨rfl,F,by rw[HE.o];exact HR.o.frame (λ_ _=>rfl),λk hk=>zj0 hk,λk hk=>av k hk,⟨rfl,rfl,rfl,zjA _,λ_ _ _=>rfl⟩⟩
 obtain⟨ob,cap,cur,iv,h1,h2,h3,h4,h5,h6,h7,h8⟩:=h;have ao:cE w rb 0 (.slice (some (aA ob 0)) n cap):=zjD w rb 0 _ _ _ h1;have hO:=h4 i hin;obtain⟨ip,ic,he⟩:=zm hO;have aq:w.cell? (aA ob i)=some (.slice ip (sg i).length ic):=by rw[zjD w ob i _ _ _ h2,h3 i hin,he]
 rw[he] at hO;have aF:zB sg n (i:Int) t=false:=by rw[vO hin];exact Qz ad
 obtain⟨HO,H1,H2,H3,H4,H5,H8,HE⟩:=jR hO h1 h2 h3 h4 h5 h8 he;obtain⟨au,av⟩:=zn ad hF;have ay:F rb/\F ob:=⟨h6,h7⟩;have hi2:(i:Int)<n:=by omega
 have aH:cur.size>i:=(Array.getElem?_eq_some_iff.1 (h3 i hin)).1;clear h1 h2 h3 h4 h5 h6 h7 h8 hO he ad hk hF;go_enter func44,ntmps44;go_wp2_with fail
 go_quiet (first|(go_at_call 71;refine Calls.quiet_of_same (gD F rb n sg (i:Int) t _ (HR.o.frame (λ_ _=>rfl)))))
 go_wp2_with fail
 refine rgd (S:=λW=>cE W kb 0 (pA rb 0)/\cE W kb 1 (iA i)/\cE W rb 0 (.slice (some (aA ob 0)) n cap)) ⟨an,al,ao⟩ λhH=>?_;refine yd [0,1,2,3,4,5,6,7,8,9,10,11,12,13,14,15,16,17,18,19,20,21,22,24] hH (λx h=>aI h.1 (aI h.2.2 (h.2.1))) ?_;have ak:ob<w.heap.size:=QM aq;have aK:∀g,Value.ownBlock (.slice ip (sg i).length ic)=some g->g≠ob/\g≠rb/\g≠kb/\g<w.heap.size:=λg hg=>by
  obtain⟨hg1,aM⟩:=HO.o.lt g hg;refine⟨λe=>yn HO H2 (by decide) (by rw[<-e];exact hg.symm),λe=>yn HO H1 (by decide) (by rw[<-e];exact hg.symm),λe=>yn HO az (by decide) (by rw[<-e];exact hg.symm),aM⟩
 have ne:=λg=>λ(h:some g=Value.ownBlock (.slice ip (sg i).length ic))=>aK g h.symm;have aj:ob≠rb:=λe=>by have h:=H2.o;rw[e,H1.o] at h;simp at h
 have ae:ob≠kb:=λe=>by have h:=H2.o;rw[e,az.o] at h;simp at h
 have ag:∀(m:Nat) (o:Obj) (p:Addr) (v:Value),w.cell? p=some v->((w.drewN m).alloc o).cell? p=some v:=λm o p v hp=>by
  rw[<-hp];exact zjH (w:=w) (zj9 (w.drewN m) o p.block (QL hp))
 refine Jp 23 25 (λK hK=>?_) λK hK=>?_;focus
  go_simp;refine hK.out _ _ hH λhH=>?_;clear hK K;refine zv 25 λK hK=>?_;go_simp;refine hK.out _ _ ⟨ag _ _ _ _ an,ag _ _ _ _ al,ag _ _ _ _ ao⟩ λhH=>?_
 rotate_left;focus
  go_simp;refine hK.out _ _ ⟨ag _ _ _ _ an,ag _ _ _ _ al,ag _ _ _ _ ao⟩ λhH=>?_;clear hK K;refine zv 23 λK hK=>?_;have hc9:=λm o=>ag m o _ _ aq;go_simp;refine hK.out _ _ hH λhH=>?_
 rotate_left;all_goals
  clear hK K;refine zv 26 λK hK=>?_;rw[zj2 (by rfl)];refine yj _ _ _ 30 rfl 0 9 i9 (sA zj4) 1 16 underlying30 aL aE aD aC rfl (by decide) (.slice ip (sg i).length ic) (sg i).length ((sg i).map .string) rfl (zb (w:=w) HO (λg _ hg=>zj9 (w.drewN _) _ g hg)) (nA w 0) 1 1 [sA t] rfl rfl (λj u hj=>?_) (λu hu=>?_) (by unfold maxLen;omega) (by omega) (zjG _) ?_
  .match j,hj with
   |0,hj=>simp at hj;subst hj;rw[addr_add];exact zjD _ _ 0 _ _ _ (zjC (w.drewN _) _)
   |j+1,hj=>simp at hj
  .simp at hu;subst hu;rfl
  intro v' w3 ai af ax;obtain⟨HN,ah,aB⟩:=zS ai af ax;clear ai af ax;have aa:∀k,k<w.heap.size->some k≠Value.ownBlock (.slice ip (sg i).length ic)->w3.heap[k]? =w.heap[k]? :=λk hk aJ=>(ah.o.block k (by simp;omega) aJ).trans (zj9 (w.drewN _) _ k hk);have aG:w.heap.size+1<=w3.heap.size:=by have:=ah.o.size;simp at this;omega
  have aw:Hid (v'.ownBlock=Value.ownBlock (.slice ip (sg i).length ic)\/v'.ownBlock=some (w.heap.size+1)):=by have h:=aB.o;simpa [Hid] using h
  have aN:Hid (w3.os=w.os/\w3.tape=w.tape/\w3.output=w.output):=⟨ah.o.os,ah.o.tape,ah.o.output⟩;refine hK.out _ _ ?_ λhH=>?_
  .exact ⟨(zjH (w:=w) (a:=(aA kb 0)) (aa kb (QM an) (λe=>(ne kb e).2.2.1 rfl))).trans an,(zjH (w:=w) (a:=(aA kb 1)) (aa kb (QM al) (λe=>(ne kb e).2.2.1 rfl))).trans al,(zjH (w:=w) (a:=(aA rb 0)) (aa rb (QM ao) (λe=>(ne rb e).2.1 rfl))).trans ao⟩
  clear hK K aB ah;refine yd [27] hH (λ_ h=>h) ?_;have aO:=zc ((aa ob ak (λe=>(ne ob e).1 rfl)).trans H2);have hf3:w3.frozen? (aA ob i)=false:=by have h:=aO.o;simp[World.frozen?,h]
  have hc3:w3.cell? (aA ob i)=some (.slice ip (sg i).length ic):=by rw[<-aq];exact zjH (w:=w) (a:=(aA ob i)) (aa ob ak (λe=>(ne ob e).1 rfl))
  obtain⟨vp,vc,rfl⟩:=zm HN;have ar:=zc (zf w3 ob i (.slice vp ((sg i).length+1) vc));refine zv 28 λK hK=>?_;go_simp;refine hK.out _ _ ?_ λhH=>?_
  .exact ⟨(ar.o.cell (p:=(aA kb 0)) (by exact λe=>ae e.symm)).trans hH.1,(ar.o.cell (p:=(aA kb 1)) (by exact λe=>ae e.symm)).trans hH.2.1,(ar.o.cell (p:=(aA rb 0)) (by exact λe=>aj e.symm)).trans hH.2.2⟩
  clear hK K;refine dnr ?_;go_wp2;exact bodyPost_end (v:=.tuple #[]) (by simp[results,results44]) rfl ⟨rfl,zcA av.o H1.o H2.o H3.o H4.o H5.o ay.1 ay.2 H8.o hin HE.o au.o HN.o aw.o aa aG aN.o HO.o⟩
end
section
open Proofs.Tryz
theorem Tryz.zhX:(prog.info? 30).map (λi=>(i.zero,i.size,i.bytes))=some (some (.slice none 0 0),1,24):=by kernel_rfl
theorem Tryz.zim:(prog.info? 45).map (λi=>(i.zero,i.size,i.bytes))=some (some (.pointer none),1,8):=by kernel_rfl
def qh(w:World)(kb rb i:Nat):Prop:=w.heap[kb]? =some (.cells #[pA rb 0,iA i] 114 (0,0))
def VM(ks:Nat->Nat)(k:Nat):List Value:=(List.range k).map λi=>pA (ks i) 0
theorem zbM(ks:Nat->Nat)(k b:Nat):VM (λi=>if i=k then b else ks i) (k+1)=VM ks k++[pA b 0]:=by
 unfold VM;rw[List.range_succ,List.map_append]
 congr 1
 .apply List.map_congr_left;intro i hi;have:i<k:=by simpa using hi
  simp;omega
 simp
theorem ZW(n:Nat)(w:World)(hn0:1<=n)(hn:n<=100):
 Calls prog 9 #[iA n] w λe w'=>∃(ov:Value) (kp:Option Addr) (kc:Nat) (ks:Nat->Nat),e=.returned (.tuple #[pA w.heap.size 0,.slice kp n kc])/\
  vh (λk=>k=w.heap.size\/some k=ov.ownBlock) w.heap.size n (λ_=>[]) w'/\w'.ownsRow (w.heap.size+1) 30 1 ov n (List.replicate n (.slice none 0 0))/\
  w'.ownsRow (w.heap.size+1) 45 1 (.slice kp n kc) n (VM ks n)/\(∀i,i<n->w.heap.size<ks i/\qh w' (ks i) w.heap.size i)/\BW w w':=by
 obtain⟨i30,av,aR,aQ,aP⟩:=info_parts Tryz.zhX;obtain⟨i45,au,aU,aT,aS⟩:=info_parts Tryz.zim;obtain⟨aZ,HN⟩:=zn hn0 hn;clear hn0 hn;go_enter func9,ntmps9;go_wp2;go_loopw [5,6] (λkv i wr=>∃(k:Nat) (ov:Value) (ks:Nat->Nat),k<=n/\i=iA k/\cL wr w.heap.size #[ov] 112/\wr.ownsRow (w.heap.size+1) 30 1 ov k (List.replicate k (.slice none 0 0))/\
  wr.ownsRow (w.heap.size+1) 45 1 kv k (VM ks k)/\(∀i,i<k->w.heap.size<ks i/\qh wr (ks i) w.heap.size i)/\BW w wr) (λ_ i _=>n-(intOf i).toNat)
 case atStart=>exact⟨0,.slice none 0 0,λ_=>0,zjG _,rfl,zjC w _,zjZ _ _ _ _,zjZ _ _ _ _,λi hi=>by omega,bwA w⟩
 obtain⟨k,ov,ks,hk,rfl,hr,ho,aE,aF,hb⟩:=hrel;obtain⟨HR,HO,aq,aN,HB⟩:=x6 hr ho aE aF hb;have ah:w.heap.size<wr.heap.size:=zg hr;have aJ:cN wr w 0 ov:=zjD wr w.heap.size 0 _ _ _ hr;clear hr ho aE aF hb;by_cases aG:k=n
 .subst aG;obtain⟨kp,kc,rfl⟩:=zm aq;go_wp2;go_ret2;refine⟨ov,kp,kc,ks,rfl,?_,HO,aq,aN,HB⟩;obtain⟨op,oc,rfl⟩:=zm HO;rcases HO.o.2 with⟨_,h0⟩|⟨g,cap,cur,e0,hb,hg,hnc,hcm,hcs,ht⟩
  .have:=aZ.o
   omega
  cases e0;refine⟨g,oc,cur,λ_=>.slice none 0 0,HR,hg,λi hi=>?_,λi hi=>zjZ _ _ _ _,λi j _ _ _ g e=>by(intro e2;cases e2),zj0 rfl,zj1 rfl,λi _ g e=>(by cases e)⟩;have e1:(cur.toList.take (k*1))[i]? =(List.replicate k (Value.slice none 0 0))[i]? :=by rw[ht]
  rw[zkc,zj2 (by omega),List.getElem?_replicate,zj2 hi] at e1;rw[<-zkf,e1]
 have an:(k:Int)<n:=by omega
 have aW:k<n:=by omega
 have aO:=zc aW;have aH:k<=100:=by have:=HN.o;omega
 have aw:∀o,cN (wr.alloc o) w 0 ov:=λo=>(((zjB wr.heap.size wr).alloc (zjA _) o).cell (p:=(nA w 0)) (by exact ah)).trans aJ;clear aG;go_wp2_with (first|(at_builtin;refine wpList_append_own _ rfl _ _ 63 rfl (w.heap.size+1) 30 i30 (.slice none 0 0) 1 24 underlying63 av aR aQ aP rfl (by decide) _ _ _ rfl (HO.o.alloc _) (nA wr 0) 1 1 [.slice none 0 0] rfl rfl ?c1 ?c2 ?c3 ?c4 ?c5 ?_)|go_in)
 case c1=>
  intro j u hj;match j,hj with
  |0,hj=>simp at hj;subst hj;simp[Addr.add]
 case c2=>intro u hu;simp at hu;subst hu;rfl
 case c3=>have:=HN.o;unfold maxLen;omega
 case c4=>have:=HN.o;omega
 case c5=>simp;omega
 intro ov' w2 ag ad _;obtain⟨op,oc,rfl⟩:=zm ag;have aM:=zc ag;have aD:Hid (Below (w.heap.size+1) wr w2):=((zjB _ wr).alloc ah _).grown ad (by simp;omega) (λj hj=>(HO.o.lt j hj).1);have ak:Hid (w2.ownsRow (w.heap.size+1) 45 1 _ k (VM ks k)):=zb (aq.o.alloc (.cells #[.slice none 0 0] 30)) (λg hg an=>ad.block g an (λe=>xR aq HO (by decide) g hg e.symm));have aC:Hid (∀i,i<k->w.heap.size<ks i/\qh w2 (ks i) w.heap.size i):=λi hi=>by
  obtain⟨h1,h2⟩:=aN.o i hi;refine⟨h1,?_⟩;unfold qh at h2 ⊢;rw[ad.block (ks i) (by have:=zg h2;simp;omega) (λe=>yn HO.o h2 (by decide) e),zj9 wr _ _ (zg h2)];exact h2
 clear ag ad;have ax:=zc ((aD.o.block w.heap.size (by omega)).trans HR.o);have hc2:cN w2 w 0 ov:=zjD w2 w.heap.size 0 _ _ _ ax;have hf2:w2.frozen? (nA w 0)=false:=by have h:=ax.o;simp[World.frozen?,h]
 have aV:wr.heap.size<=w2.heap.size:=aD.o.size;clear aJ aw;obtain⟨w3,al⟩:=gen (w2.setCell (nA w 0) (.slice op (k+1) oc));have aj:Hid (kq w.heap.size w2 w3):=by unfold Hid;rw[al];exact zf _ _ _ _
 have aK:Hid (w3.heap[w.heap.size]? =some (.cells #[.slice op (k+1) oc] 112 (0,0))):=by
  unfold Hid;have h:=ax.o;rw[al];simp[World.setCell,Array.getElem?_modify,h]
 have aL:=zc (zb aM.o (λg hg _=>aj.o.block g (by have:=(aM.o.lt g hg).1;omega)));have ae:=zc (zb ak.o (λg hg _=>aj.o.block g (by have:=(ak.o.lt g hg).1;omega)));have aB:Hid (∀i,i<k->w.heap.size<ks i/\qh w3 (ks i) w.heap.size i):=λi hi=>by
  obtain⟨h1,h2⟩:=aC.o i hi;refine⟨h1,?_⟩;unfold qh at h2 ⊢;rw[aj.o.block (ks i) (by omega)];exact h2
 have ai:w3.heap.size=w2.heap.size:=aj.o.size;have hw4:=al.symm;clear al;go_wp2_with (first|(at_builtin;refine wpList_append_own _ rfl _ _ 29 rfl (w.heap.size+1) 45 i45 (.pointer none) 1 8 underlying29 au aU aT aS rfl (by decide) _ _ _ rfl ((ae.o.alloc _).alloc _) (aA (w2.heap.size+1) 0) 1 1 [pA w2.heap.size 0] rfl rfl ?c1 ?c2 ?c3 ?c4 ?c5 ?_)|go_in)
 case c1=>
  intro j u hj;match j,hj with
  |0,hj=>
   simp at hj;subst hj;rw[addr_add,<-ai];have e1:(w3.alloc (.cells #[pA w.heap.size 0,iA k] 114)).heap.size=w3.heap.size+1:=by simp
   rw[<-e1];exact zjD _ _ 0 _ _ _ (zjC _ _)
 case c2=>intro u hu;simp at hu;subst hu;rfl
 case c3=>have:=HN.o;unfold maxLen;omega
 case c4=>have:=HN.o;omega
 case c5=>simp;omega
 intro kv' w5 af aa _;obtain⟨kp,kc,rfl⟩:=zm af;have ay:=zc af;have ao:∀g,g<w3.heap.size->((w3.alloc (.cells #[pA w.heap.size 0,iA k] 114)).alloc (.cells #[pA w2.heap.size 0] 45)).heap[g]? =w3.heap[g]? :=λg hg=>(zj9 _ _ g (by simp;omega)).trans (zj9 _ _ g hg);have ar:((w3.alloc (.cells #[pA w.heap.size 0,iA k] 114)).alloc (.cells #[pA w2.heap.size 0] 45)).heap[w2.heap.size]? =some (.cells #[pA w.heap.size 0,iA k] 114 (0,0)):=by
  rw[<-ai,zj9 _ _ w3.heap.size (by simp)];exact zjC w3 _
 have az:Hid (∀i,i<k+1->w.heap.size<(if i=k then w2.heap.size else ks i)/\qh w5 (if i=k then w2.heap.size else ks i) w.heap.size i):=λi hi=>by
  by_cases e:i=k
  .rw [zj2 e,e];refine⟨by omega,?_⟩;unfold qh;rw[aa.block w2.heap.size (by simp;omega) (yn ((ae.o.alloc _).alloc _) ar (by decide))];exact ar
  rw[zj3 e];obtain⟨h1,h2⟩:=aB.o i (by omega);refine⟨h1,?_⟩;unfold qh at h2 ⊢;rw[aa.block (ks i) (by have:=zg h2;simp;omega) (yn ae.o h2 (by decide)),ao _ (zg h2)];exact h2
 have aY:=zc (zb aL.o (λg hg an=>(aa.block g (by simp;omega) (λe=>xR aL.o ae.o (by decide) g hg e.symm)).trans (ao g an)));have aX:Hid (cL w5 w.heap.size #[.slice op (k+1) oc] 112):=(aa.block w.heap.size (by simp;omega) (yn ae.o aK.o (by decide))).trans ((ao _ (by omega)).trans aK.o);have a7:Hid (BW w w5):=by
  have h3:BW w w3:=(HB.o.trans (aD.o.mono (by omega))).trans (aj.o.below (zjA _));exact((h3.alloc (by omega) _).alloc (by simp;omega) _).grown aa (by simp;omega) (λj hj=>by have:=(ae.o.lt j hj).1;omega)
 have a6:=zc (zbM ks k w2.heap.size);clear af aa ao ar;go_wp2;go_roundw
 case rel=>exact⟨k+1,.slice op (k+1) oc,_,aO,by go_num,aX,by rw[List.replicate_succ'];exact aY,by rw[a6.o];exact ay,az,a7⟩
 case measure=>have:=aO.o;simp[intOf];omega
end
section
section
variable{P:Program}(w:World)
theorem z8{ops:Array Oper}{rest:List Oper}{o:Oper}{a:Act}{Q:Exit->Act->World->Prop}(hgd:o.guard=none)(s x:Operand)(t:TypeId)
 (ho:o.op=.call { callee:=.builtin .append,args:=#[s,x],argTypes:=#[t,t] })
 (base:Nat) (e:TypeId) (i:TypeInfo) (z:Value) (size bytes:Nat) (ht:P.underlying t=some (.slice e)) (hi:P.info? e=some i) (hz:i.zero=some z)
 (hsize:i.size=size) (hby:i.bytes=bytes) (hzs:z.cells.size=size) (hsz:0<size)
 (v:Value) (n:Nat) (xs:List Value) (hs:a.eval s=v) (hown:w.ownsRow base e size v n xs)
 (ad:Addr) (m c:Nat) (news:List Value) (hx:a.eval x=.slice (some ad) m c) (hl:news.length=m*size) (hnews:∀j u,news[j]? =some u->w.cell? (ad.add j)=some u) (h1:∀u∈news,u.oneCell'=true)
 (h63:n+m<=maxLen) (hbytes:(n+m)*bytes<=140737488355328) (hbase:base<=w.heap.size)
 (h:∀v' w',w'.ownsRow base e size v' (n+m) (xs++news)->w.grownBy w' v.ownBlock->(v'.ownBlock=v.ownBlock\/v'.ownBlock=some w.heap.size)->wpList P ops Q rest (a.put o.dst v') w'):wpList P ops Q (o::rest) a w:=
 wpList_plain hgd λ_ hK=>yj w s x t ho base e i z size bytes ht hi hz hsize hby hzs hsz v n xs hs hown ad m c news hx hl hnews h1 h63 hbytes hbase λv' w' h2 h3 h4=>hK _ _ (h v' w' h2 h3 h4)
theorem xi{ops:Array Oper}{rest:List Oper}{o:Oper}{a:Act}{Q:Exit->Act->World->Prop}(hgd:o.guard=none)(s x:Operand)(t:TypeId)
 (ho:o.op=.call { callee:=.builtin .append,args:=#[s,x],argTypes:=#[t,t] })
 (base:Nat) (e:TypeId) (i:TypeInfo) (z:Value) (bytes:Nat) (ht:P.underlying t=some (.slice e)) (hi:P.info? e=some i) (hz:i.zero=some z)
 (hsize:i.size=1) (hby:i.bytes=bytes) (hzs:z.cells.size=1)
 (v:Value) (n:Nat) (xs:List Value) (hs:a.eval s=v) (hown:w.ownsRow base e 1 v n xs)
 (p:Option Addr) (m c:Nat) (fr:Nat->zj5) (hx:a.eval x=.slice p m c) (hp:YQ p m c) (hl:qW w w.heap.size p m (λi=>sA (fr i)))
 (h63:n+m<=maxLen) (hbytes:(n+m)*bytes<=140737488355328) (hbase:base<=w.heap.size)
 (h:∀v' w',w'.ownsRow base e 1 v' (n+m) (xs++(List.range m).map λi=>sA (fr i))->w.grownBy w' v.ownBlock->(v'.ownBlock=v.ownBlock\/v'.ownBlock=some w.heap.size)->wpList P ops Q rest (a.put o.dst v') w'):wpList P ops Q (o::rest) a w:=by
 rcases hp with⟨rfl,rfl,rfl⟩|⟨b,off,rfl⟩
 .refine wpList_plain hgd λK hK=>?_;have hr:=run_append_owned_none (P:=P) w base t o.type e i 1 ht hi v n xs hown;unfold Oper.wp execOp;simp only[ho,resolve,invoke,builtin,Sem.run_bind,Sem.run_pure,Result.andThen_ok,List.map_toArray,List.map_cons,List.map_nil,hs,hx,hr];exact hK _ _ (h v w (by simpa using hown) (World.grownBy.refl _ _) (zj0 rfl))
 refine z8 w hgd s x t ho base e i z 1 bytes ht hi hz hsize hby hzs (by decide) v n xs hs hown (aA b off) m c ((List.range m).map λi=>sA (fr i)) hx (by simp) (λj u hj=>?_) (λu hu=>?_) h63 hbytes hbase h
 .have aa:j<m:=by have:=(List.getElem?_eq_some_iff.1 hj).1;simpa using this
  obtain⟨b',o',e',_,hc⟩:=hl j aa;cases e';have e2:((List.range m).map λi=>Value.string (fr i))[j]? =some (sA (fr j)):=by simp[aa]
  rw[e2] at hj;cases hj;rw[addr_add];exact hc
 simp only[List.mem_map] at hu;obtain⟨i,_,rfl⟩:=hu;rfl
end
end
section
open Proofs.Tryz
variable{w w':World}{n:Nat}{v:Value}
theorem Tryz.ziC:(prog.info? 57).map (λi=>(i.zero,i.size,i.bytes))=some (some (.agg #[iA 0,iA 0,iA 0,iA 0,iA 0,bA false,sA zj4]),7,64):=by kernel_rfl
def XX(l:List kE):List Value:=l.flatMap λm=>m.cells.toList
theorem Z9(l:List kE)(m:kE):XX (l++[m])=XX l++m.cells.toList:=by simp[XX]
theorem z7{base e size:Nat}{xs:List Value}(h:w.ownsRow base e size v n xs)(hb:BW w w'):w'.ownsRow base e size v n xs:=zb h (λg _ hg=>hb.block g hg)
def KM(w:World)(B:Nat)(p:Option Addr)(n:Nat)(ms:Nat->kE):Prop:=∀i,i<n->∃b o,p=some (aA b o)/\b<B/\w.rangeAt b (o+i*7) (ms i).cells.toList
theorem KM.below{B:Nat}{p:Option Addr}{ms:Nat->kE}(h:KM w B p n ms)(hb:Below B w w'):KM w' B p n ms:=λi hi=>by
 obtain⟨b,o,e,hB,hr⟩:=h i hi;exact⟨b,o,e,hB,λj v hv=>(hb.cell (p:=(aA b (o+i*7+j))) (by exact hB)).trans (hr j v hv)⟩
theorem blk{g:Nat}{o:Obj}(h:w.heap[g]? =some o)(hb:BW w w'):w'.heap[g]? =some o:=(hb.block g (zg h)).trans h
theorem zc7(l:List kE)(j:Nat)(hj:j<7):∀i,i<l.length->(XX l)[i*7+j]? =((l.getD i XZ).cells.toList)[j]? :=by
 induction l with
 |nil=>intro i hi;simp at hi
 |cons m l ih=>
  intro i hi;have e:XX (m::l)=m.cells.toList++XX l:=by simp[XX]
  have hc:m.cells.toList.length=7:=by simp[kE.cells]
  rw[e];cases i with
  |zero=>
   rw[Nat.zero_mul,zj8,zjN (by omega)];rfl
  |succ i=>
   rw[zjM (by omega),hc,show(i+1)*7+j-7=i*7+j by omega];have h2:=ih i (by simpa using hi);simpa using h2
theorem zcW{base:Nat}{l:List kE}(h:w.ownsRow base 57 7 v l.length (XX l)):∃p c,v=.slice p l.length c/\KM w w.heap.size p l.length (λi=>l.getD i XZ):=by
 rcases h.2 with⟨rfl,hn⟩|⟨g,cap,cur,rfl,hb,hg,hnc,hcm,hcs,ht⟩
 .exact ⟨none,0,by rw[hn],λi hi=>by omega⟩
 refine⟨_,cap,rfl,λi hi=>⟨g,0,rfl,zg hg,λj v hv=>?_⟩⟩;rw[zjD w g _ _ _ _ hg,zj8];have hj:j<7:=by have:=(List.getElem?_eq_some_iff.1 hv).1;simpa [kE.cells] using this
 have e1:(cur.toList.take (l.length*7))[i*7+j]? =(XX l)[i*7+j]? :=by rw[ht]
 have aa:i*7+j<l.length*7:=by
  have:(i+1)*7<=l.length*7:=Nat.mul_le_mul_right 7 (by omega);omega
 rw[zkc,zj2 aa] at e1;rw[<-zkf,e1,<-hv];exact zc7 l j hj i hi
end
section
open Proofs.Tryz
variable{w:World}{B n:Nat}{p:Option Addr}
structure zl where
 m:kE
 fr:zj5
 own:Bool
def yl:zl:=⟨XZ,⟨#[]⟩,false⟩
def zl.cells(e:zl):Array Value:=#[iA e.m.k,iA e.m.h,iA e.m.r,iA e.m.f,iA e.m.v,bA e.m.nl,sA e.m.s,sA e.fr,bA e.own]
variable{es:Nat->zl}
theorem Tryz.ziD:(prog.info? 164).map (λi=>(i.zero,i.size,i.bytes))=some (some (.agg #[iA 0,iA 0,iA 0,iA 0,iA 0,bA false,sA zj4,sA zj4,bA false]),9,88):=by kernel_rfl
theorem Tryz.zfS:(prog.info? 164).map (·.size)=some 9:=by kernel_rfl
def kQ(l:List zl):List Value:=l.flatMap λm=>m.cells.toList
theorem VV(l:List zl)(m:zl):kQ (l++[m])=kQ l++m.cells.toList:=by simp[kQ]
theorem jT(l:List zl):(kQ l).length=l.length*9:=by
 induction l with
 |nil=>rfl
 |cons m l ih=>simp only[kQ,List.flatMap_cons,List.length_append,List.length_cons] at ih ⊢;rw[ih];simp[zl.cells];omega
def kD(w:World)(B:Nat)(p:Option Addr)(n:Nat)(es:Nat->zl):Prop:=∀i,i<n->∃b o,p=some (aA b o)/\b<B/\w.rangeAt b (o+i*9) (es i).cells.toList
theorem kD.below{w':World}(h:kD w B p n es)(hb:Below B w w'):kD w' B p n es:=λi hi=>by
 obtain⟨b,o,e,hB,hr⟩:=h i hi;exact⟨b,o,e,hB,λj v hv=>(hb.cell (p:=(aA b (o+i*9+j))) (by exact hB)).trans (hr j v hv)⟩
theorem kD.more{B':Nat}(h:kD w B p n es)(hb:B<=B'):kD w B' p n es:=λi hi=>by
 obtain⟨b,o,e,hB,hr⟩:=h i hi;exact⟨b,o,e,zjE hB hb,hr⟩
theorem Gl(l:List zl)(j:Nat)(hj:j<9):∀i,i<l.length->(kQ l)[i*9+j]? =((l.getD i yl).cells.toList)[j]? :=by
 induction l with
 |nil=>intro i hi;simp at hi
 |cons m l ih=>
  intro i hi;have e:kQ (m::l)=m.cells.toList++kQ l:=by simp[kQ]
  have hc:m.cells.toList.length=9:=by simp[zl.cells]
  rw[e];cases i with
  |zero=>
   rw[Nat.zero_mul,zj8,zjN (by omega)];rfl
  |succ i=>
   rw[zjM (by omega),hc,show(i+1)*9+j-9=i*9+j by omega];have h2:=ih i (by simpa using hi);simpa using h2
theorem XU{base:Nat}{v:Value}{l:List zl}(h:w.ownsRow base 164 9 v l.length (kQ l)):∃p c,v=.slice p l.length c/\l.length<=maxLen/\kD w w.heap.size p l.length (λi=>l.getD i yl):=by
 rcases h.2 with⟨rfl,hn⟩|⟨g,cap,cur,rfl,hb,hg,aa,ae,hcs,ht⟩
 .exact ⟨none,0,by rw[hn],by rw[hn];exact zjG _,λi hi=>by omega⟩
 refine⟨_,cap,rfl,zjF aa ae,λi hi=>⟨g,0,rfl,zg hg,λj v hv=>?_⟩⟩;rw[zjD w g _ _ _ _ hg,zj8];have hj:j<9:=by have:=(List.getElem?_eq_some_iff.1 hv).1;simpa [zl.cells] using this
 have e1:(cur.toList.take (l.length*9))[i*9+j]? =(kQ l)[i*9+j]? :=by rw[ht]
 have ad:i*9+j<l.length*9:=by
  have:(i+1)*9<=l.length*9:=Nat.mul_le_mul_right 9 (by omega);omega
 rw[zkc,zj2 ad] at e1;rw[<-zkf,e1,<-hv];exact Gl l j hj i hi
theorem ym{α:Type}(l:List α)(d:α)(k:Nat)(h:k<l.length):l.take (k+1)=l.take k++[l.getD k d]:=by
 rw[<-List.take_append_getElem h,zjK,zjJ h];rfl
theorem kz{α:Type}(l:List α)(d:α)(k:Nat)(h:k<l.length):l.getD k d∈l:=by
 rw[zjK,zjJ h];exact List.getElem_mem h
end
section
open Proofs.Tryz
theorem xX(kb rb i:Nat)(w:World)(h:qh w kb rb i):Calls prog 144 #[pA kb 0] w λe w'=>e=.returned (iA i)/\w'=w:=by
 have hk1:cE w kb 1 (iA i):=zjD w kb 1 _ _ _ h;clear h;go_enter func144,ntmps144;go_wp2;go_ret;exact⟨rfl,rfl⟩
theorem VL(kb rb i:Nat)(w:World)(h:qh w kb rb i):Calls prog 78 #[pA kb 0] w λe w'=>e=.returned (pA rb 0)/\w'=w:=by
 have hk0:cE w kb 0 (pA rb 0):=zjD w kb 0 _ _ _ h;clear h;go_enter func78,ntmps78;go_wp2;go_ret;exact⟨rfl,rfl⟩

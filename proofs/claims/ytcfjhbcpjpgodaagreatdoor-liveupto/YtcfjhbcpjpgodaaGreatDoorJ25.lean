import Derived.Stop.Asserts
import Derived.RowKitTokens
import Derived.Test.YtcfjhbcpjpgodaaGreatDoorJ24
import Derived.Sort.OwnSorted
import Derived.Test.YtcfjhbcpjpgodaaGreatDoorShelfC
import Derived.Test.YtcfjhbcpjpgodaaGreatDoorJ20
import Derived.Test.YtcfjhbcpjpgodaaGreatDoorJ18
namespace Go.Proofs.YtcfjhbcpjpgodaaGreatDoor
open Go.RowKit
set_option maxRecDepth 100000
set_option maxHeartbeats 0
set_option linter.all false
section
open Go.Extern.Stop Go.Stop Go.Extern Proofs.Tryz
theorem Tryz.zhK(t:Addr)(w:World):(ReflectliteValue.unpack (.iface 201 (.pointer (some t)))).run prog w
 =.ok (.agg #[.pointer (some ⟨16,201,none⟩),.pointer (some ⟨w.heap.size,0,none⟩),.int .u64 150]) (w.alloc (.cells #[.pointer (some t)] 201)):=by kernel_rfl
theorem Tryz.zis(a:Addr)(w:World):(ReflectliteValue.methodAny (ReflectliteValue.valueError "reflectlite.Value.Type" 0) (λt _ _ _=>ReflectliteType.toType t) #[.agg #[.pointer (some ⟨16,201,none⟩),.pointer (some a),.int .u64 150]]).run prog w
 =.ok (.iface 211 (.agg #[.pointer (some ⟨16,201,none⟩)])) w:=by kernel_rfl
theorem Tryz.zht(h:Value)(w:World):(Go.method 423 211 (.agg #[h]) "Kind").run prog w=.ok (232,h) w:=by kernel_rfl
theorem Tryz.zit(w:World):((ReflectliteType.abiMethod λt=>Functor.map (λa:Nat=>Value.int IntKind.u8 (a:Int)) (Rtype.kind t)) #[.pointer (some ⟨16,201,none⟩)]).run prog w=.ok (.int .u8 22) w:=by kernel_rfl
theorem Tryz.ziu(w:World):((ReflectliteType.abiMethod λt=>Functor.map (λa:Nat=>Value.int IntKind.u8 (a:Int)) (Rtype.kind t)) #[.pointer (some ⟨16,158,none⟩)]).run prog w=.ok (.int .u8 22) w:=by kernel_rfl
theorem rlm(z:Sem Value)(f:TypeId->Addr->Nat->Nat->Sem Value)(v:Value):
 ReflectliteValue.method z f #[v]=(do match <-ReflectliteValue.parts v with|none=>z|some (t,a,fl)=>f t a fl (fl % 32)):=rfl
theorem Tryz.zhh(a:Addr)(w:World):(ReflectliteValue.parts (.agg #[.pointer (some ⟨16,201,none⟩),.pointer (some a),.int .u64 150])).run prog w=.ok (some (201,a,150)) w:=by kernel_rfl
theorem Tryz.zh8(a p:Addr)(W:World)(ha:W.cell? a=some (.pointer (some p))):
 (ReflectliteValue.method (ReflectliteValue.valueError "reflectlite.Value.IsNil" 0) ReflectliteValue.isNil #[.agg #[.pointer (some ⟨16,201,none⟩),.pointer (some a),.int .u64 150]]).run prog W=.ok (.bool false) W:=by
 rw[rlm];simp only[Sem.run_bind,Tryz.zhh,Result.andThen];simp[ReflectliteValue.isNil,loadVar,isAgg,underlying,underlying201,ha,Result.andThen]
theorem Tryz.zhu(h:Value)(w:World):(Go.method 423 211 (.agg #[h]) "Elem").run prog w=.ok (240,.agg #[h]) w:=by kernel_rfl
theorem Tryz.zgO(h:Value)(w:World):(Go.method 423 211 (.agg #[h]) "Implements").run prog w=.ok (241,.agg #[h]) w:=by kernel_rfl
theorem Tryz.zgI(h:Value)(w:World):(Go.method 423 211 (.agg #[h]) "AssignableTo").run prog w=.ok (238,.agg #[h]) w:=by kernel_rfl
theorem Tryz.ziv(w:World):(ReflectliteType.method ReflectliteType.elem #[.agg #[.pointer (some ⟨16,201,none⟩)]]).run prog w=.ok (.iface 211 (.agg #[.pointer (some ⟨16,158,none⟩)])) w:=by kernel_rfl
theorem Tryz.zg5(w:World):(ReflectliteType.relation "Implements" ReflectliteType.implements_ #[.agg #[.pointer (some ⟨16,158,none⟩)],.iface 211 (.agg #[.pointer (some ⟨16,42,none⟩)])]).run prog w=.ok (.bool true) w:=by kernel_rfl
theorem Tryz.zhO(v:Value)(w:World):(ReflectliteType.typeOf #[.iface 158 v]).run prog w=.ok (.iface 211 (.agg #[.pointer (some ⟨16,158,none⟩)])) w:=by kernel_rfl
theorem Tryz.zg6(w:World):(ReflectliteType.relation "AssignableTo" ReflectliteType.assignableTo #[.agg #[.pointer (some ⟨16,158,none⟩)],.iface 211 (.agg #[.pointer (some ⟨16,158,none⟩)])]).run prog w=.ok (.bool true) w:=by kernel_rfl
theorem Tryz.zhL(e:Addr)(w:World):(ReflectliteValue.unpack (.iface 158 (.pointer (some e)))).run prog w
 =.ok (.agg #[.pointer (some ⟨16,158,none⟩),.pointer (some ⟨w.heap.size,0,none⟩),.int .u64 150]) (w.alloc (.cells #[.pointer (some e)] 158)):=by kernel_rfl
theorem Tryz.zhQ(w:World):(Rtype.elem? 201).run prog w=.ok (some 158) w:=by kernel_rfl
theorem Tryz.zi2(p:Addr)(w:World):(ReflectliteValue.mk 158 p ReflectliteValue.flagAddr).run prog w=.ok (.agg #[.pointer (some ⟨16,158,none⟩),.pointer (some p),.int .u64 406]) w:=by kernel_rfl
theorem Tryz.zh9(a p:Addr)(W:World)(ha:W.cell? a=some (.pointer (some p))):
 (ReflectliteValue.method (ReflectliteValue.valueError "reflectlite.Value.Elem" 0) ReflectliteValue.elem #[.agg #[.pointer (some ⟨16,201,none⟩),.pointer (some a),.int .u64 150]]).run prog W
  =.ok (.agg #[.pointer (some ⟨16,158,none⟩),.pointer (some p),.int .u64 406]) W:=by
 rw[rlm];simp only[Sem.run_bind,Tryz.zhh,Result.andThen];simp[ReflectliteValue.elem,loadVar,isAgg,underlying,underlying201,ha,Result.andThen,Tryz.zhQ,Tryz.zi2]
theorem rls(v x:Value):ReflectliteValue.set #[v,x]=(do
 let (some (dst,a,fl),some (src,b,_)):=(<-ReflectliteValue.parts v,<-ReflectliteValue.parts x)
  |unsupported (.noEntry "extern/(internal/reflectlite.Value).Set.zeroValue")
 if fl / ReflectliteValue.flagAddr % 2==0 then unsupported (.noEntry "extern/(internal/reflectlite.Value).Set.unaddressable")
 let val <-loadVar src b
 if <-Rtype.directlyAssignable dst src then storeVar dst a val
 else if <-Rtype.implements dst src then
  if(<-Rtype.kind src)==20 then
   match val with
   | .nilIface=>unsupported (.noEntry "extern/reflectlite: a nil value of one interface type handed on as a value of another")
   |_=>storeVar dst a val
  else storeVar dst a (.iface src val)
 else panicString ("reflectlite.Set: value of type " ++(<-Rtype.spelt src)++ " is not assignable to type " ++(<-Rtype.spelt dst))
 pure (.tuple #[])):=rfl
theorem Tryz.zhP(a:Addr)(w:World):(ReflectliteValue.parts (.agg #[.pointer (some ⟨16,158,none⟩),.pointer (some a),.int .u64 406])).run prog w=.ok (some (158,a,406)) w:=by kernel_rfl
theorem Tryz.zh7(a:Addr)(w:World):(ReflectliteValue.parts (.agg #[.pointer (some ⟨16,158,none⟩),.pointer (some a),.int .u64 150])).run prog w=.ok (some (158,a,150)) w:=by kernel_rfl
theorem Tryz.zhR(w:World):(Rtype.directlyAssignable 158 158).run prog w=.ok true w:=by kernel_rfl
theorem Tryz.ziK(ta b e:Addr)(old:Value)(W:World)(hb:W.cell? b=some (.pointer (some e)))(ht:W.cell? ta=some old)(hf:W.frozen? ta=false):
 (ReflectliteValue.set #[.agg #[.pointer (some ⟨16,158,none⟩),.pointer (some ta),.int .u64 406],.agg #[.pointer (some ⟨16,158,none⟩),.pointer (some b),.int .u64 150]]).run prog W
  =.ok (.tuple #[]) (W.setCell ta (.pointer (some e))):=by
 rw[rls];simp only[Sem.run_bind,Tryz.zhP,Tryz.zh7,Result.andThen];simp[ReflectliteValue.flagAddr,loadVar,isAgg,underlying,underlying158,hb,Result.andThen,Tryz.zhR,storeVar,Value.cells,storeCells,Addr.add];rw[run_store prog W ta _ _ (by rfl)];simp[ht,hf]
theorem zfc(e t:Addr)(old:Value)(w:World)(hg:w.cell? ⟨12,0,none⟩=some (.iface 211 (.agg #[.pointer (some ⟨16,42,none⟩)])))(ht0:w.cell? t=some old)(hf0:w.frozen? t=false):
 Calls prog 120 #[.iface 158 (.pointer (some e)),.iface 201 (.pointer (some t))] w λev w'=>ev=.returned (.bool true)/\w'=((((w.alloc (.cells #[.pointer (some t)] 201)).alloc (.cells #[.pointer (some ⟨16,201,none⟩),.pointer (some ⟨w.heap.size,0,none⟩),.int .u64 150] 252)).alloc (.cells #[.pointer (some ⟨16,201,none⟩),.pointer (some ⟨w.heap.size,0,none⟩),.int .u64 150] 252)).alloc (.cells #[.pointer (some e)] 158)).setCell t (.pointer (some e)):=by
 have h6:=@run_callFunc_extern prog 172 _ (λargs=>ReflectliteValue.unpack (args.getD 0 (.tuple #[]))) func172 (by kernel_rfl) (by kernel_rfl) (by kernel_rfl) (by kernel_rfl);have h7:=@run_callFunc_extern prog 173 _ (ReflectliteValue.methodAny (ReflectliteValue.valueError "reflectlite.Value.Type" 0) (λt _ _ _=>ReflectliteType.toType t)) func173 (by kernel_rfl) (by kernel_rfl) (by kernel_rfl) (by kernel_rfl);have h8:=@run_callFunc_extern prog 174 _ (ReflectliteValue.method (ReflectliteValue.valueError "reflectlite.Value.IsNil" 0) ReflectliteValue.isNil) func174 (by kernel_rfl) (by kernel_rfl) (by kernel_rfl) (by kernel_rfl);have h27:=@run_callFunc_extern prog 232 _ (ReflectliteType.abiMethod λt=>do pure (.int .u8 (<-Rtype.kind t))) func232 (by kernel_rfl) (by kernel_rfl) (by kernel_rfl) (by kernel_rfl);have h37:=@run_callFunc_extern prog 240 _ (ReflectliteType.method ReflectliteType.elem) func240 (by kernel_rfl) (by kernel_rfl) (by kernel_rfl) (by kernel_rfl);have h38:=@run_callFunc_extern prog 241 _ (ReflectliteType.relation "Implements" ReflectliteType.implements_) func241 (by kernel_rfl) (by kernel_rfl) (by kernel_rfl) (by kernel_rfl);have h10:=@run_callFunc_extern prog 83 _ ReflectliteType.typeOf func83 (by kernel_rfl) (by kernel_rfl) (by kernel_rfl) (by kernel_rfl);have h35:=@run_callFunc_extern prog 238 _ (ReflectliteType.relation "AssignableTo" ReflectliteType.assignableTo) func238 (by kernel_rfl) (by kernel_rfl) (by kernel_rfl) (by kernel_rfl);have h11:=@run_callFunc_extern prog 195 _ (ReflectliteValue.method (ReflectliteValue.valueError "reflectlite.Value.Elem" 0) ReflectliteValue.elem) func195 (by kernel_rfl) (by kernel_rfl) (by kernel_rfl) (by kernel_rfl);have h12:=@run_callFunc_extern prog 196 _ ReflectliteValue.set func196 (by kernel_rfl) (by kernel_rfl) (by kernel_rfl) (by kernel_rfl);have tO:=Tryz.zhO;have mA:=Tryz.zgI;have a25:=Tryz.zg6;have v25:=Tryz.zhL;have f6:=Tryz.zhK;have f7:=Tryz.zis;have mK:=Tryz.zht;have mE:=Tryz.zhu;have mI:=Tryz.zgO;have k27:=Tryz.zit;have k25:=Tryz.ziu;have e27:=Tryz.ziv;have i25:=Tryz.zg5;have n8:=Tryz.zh8 ⟨w.heap.size,0,none⟩ t ((w.alloc (.cells #[.pointer (some t)] 201)).alloc (.cells #[.pointer (some ⟨16,201,none⟩),.pointer (some ⟨w.heap.size,0,none⟩),.int .u64 150] 252)) (by simp);have ad:12<w.heap.size:=zjI _ _ hg;have hg2:((w.alloc (.cells #[.pointer (some t)] 201)).alloc (.cells #[.pointer (some ⟨16,201,none⟩),.pointer (some ⟨w.heap.size,0,none⟩),.int .u64 150] 252)).cell? ⟨12,0,none⟩=some (.iface 211 (.agg #[.pointer (some ⟨16,42,none⟩)])):=by
  rw[World.cell?_alloc_lt _ _ ⟨12,0,none⟩ (by simp;omega),World.cell?_alloc_lt _ _ ⟨12,0,none⟩ ad];exact hg
 have aa:t.block<w.heap.size:=by
  rcases Nat.lt_or_ge t.block w.heap.size with h|h
  .exact h
  simp[World.cell?,Array.getElem?_eq_none h] at ht0
 have el:=Tryz.zh9 ⟨w.heap.size,0,none⟩ t (((w.alloc (.cells #[.pointer (some t)] 201)).alloc (.cells #[.pointer (some ⟨16,201,none⟩),.pointer (some ⟨w.heap.size,0,none⟩),.int .u64 150] 252)).alloc (.cells #[.pointer (some ⟨16,201,none⟩),.pointer (some ⟨w.heap.size,0,none⟩),.int .u64 150] 252)) (by rw[World.cell?_alloc_lt _ _ ⟨w.heap.size,0,none⟩ (by simp;omega)];simp);have st:=Tryz.ziK t ⟨w.heap.size+1+1+1,0,none⟩ e old ((((w.alloc (.cells #[.pointer (some t)] 201)).alloc (.cells #[.pointer (some ⟨16,201,none⟩),.pointer (some ⟨w.heap.size,0,none⟩),.int .u64 150] 252)).alloc (.cells #[.pointer (some ⟨16,201,none⟩),.pointer (some ⟨w.heap.size,0,none⟩),.int .u64 150] 252)).alloc (.cells #[.pointer (some e)] 158))
  (by rw[World.cell?_alloc_at _ _ _ _ (by simp)];rfl)
  (by rw[World.cell?_alloc_lt _ _ t (by simp;omega),World.cell?_alloc_lt _ _ t (by simp;omega),World.cell?_alloc_lt _ _ t (by simp;omega),World.cell?_alloc_lt _ _ t aa];exact ht0)
  (by rw[World.frozen?_alloc_old _ _ t (by simp;omega),World.frozen?_alloc_old _ _ t (by simp;omega),World.frozen?_alloc_old _ _ t (by simp;omega),World.frozen?_alloc_old _ _ t (Nat.ne_of_lt aa)];exact hf0)
 go_enter func120,ntmps120;go_wp2;refine wp_loop_rounds 1 ?_;rw[rounds_succ];go_wp2;go_ret;exact⟨rfl,rfl⟩
end
section
open Go.Sort Proofs.Tryz
variable{t:zj5}
def Tryz.ziX:Go.Shelf.Ren:=⟨λ|24=>204|n=>n,λ|24=>30|n=>n,λn=>n⟩
theorem Tryz.ziA:Go.Proofs.Lays2.n24 prog Tryz.ziX:={
 mixed:=by kernel_rfl
 f24:=func204.trans (congrArg some (by kernel_rfl))
 t0:=by kernel_rfl
 a0:=λ_=>by kernel_rfl
 z0:=λ_=>by kernel_rfl
 v0:=λ_=>by kernel_rfl
 t3:=by kernel_rfl
 a3:=λ_=>by kernel_rfl
 z3:=λ_=>by kernel_rfl
 v3:=λ_=>by kernel_rfl
 t4:=by kernel_rfl
 a4:=λ_=>by kernel_rfl
 z4:=λ_=>by kernel_rfl
 v4:=λ_=>by kernel_rfl
 t9:=by kernel_rfl
 a9:=λ_=>by kernel_rfl
 z9:=λ_=>by kernel_rfl
 v9:=λ_=>by kernel_rfl
 t24:=by kernel_rfl
 a24:=λ_=>by kernel_rfl
 z24:=λ_=>by kernel_rfl
 v24:=λ_=>by kernel_rfl
 i9:=by kernel_rfl }
theorem zbY(b:zj5):encStr b.data.toList=Value.string b:=by
 show Value.string ⟨b.data.toList.toArray⟩=Value.string b;rw[Array.toArray_toList]
theorem zej(L:List zj5):(L.map λb=>b.data.toList).map encStr=L.map .string:=by
 rw[List.map_map];exact List.map_congr_left λb _=>zbY b
theorem VY(g cap i base:Nat)(L:List zj5)(w:World)(h:w.ownsRow base 9 1 (.slice (some (aA g 0)) L.length cap) L.length (L.map .string))(hi:i<L.length):
 Calls prog 204 #[.slice (some (aA g 0)) L.length cap,iA i,iA ((i+1:Nat):Int)] w λe w'=>e=.returned (.slice (some (aA g 0)) (L.eraseIdx i).length cap)/\w'.ownsRow base 9 1 (.slice (some (aA g 0)) (L.eraseIdx i).length cap) (L.eraseIdx i).length ((L.eraseIdx i).map .string)/\zk (λk=>k=g) w w':=by
 rcases h.2 with⟨e0,_⟩|⟨g',cap',cur,e0,hb,hg,hn,hc,hs,ht⟩
 .cases e0
 cases e0;obtain⟨zs,af⟩:=gen (L.map λb=>b.data.toList);have ad:zs.length=L.length:=by rw[af,List.length_map]
 have ag:zs.map encStr=L.map .string:=by rw[af];exact zej L
 have hH:Holds encStr w g 0 zs.toArray:=holds_of_block hg (by rw[ad,ag];simpa using ht);have hD:=Any.slices_Delete_string Tryz.ziA g 0 cap i (i+1) zs w hH (by rw[ad];exact hn) (by unfold maxLen at hc;omega) (by omega) (by omega);rw[ad] at hD;refine Calls.mono hD ?_;rintro e w' ⟨rfl,q,rfl⟩;have aj:(L.eraseIdx i).length=L.length-1:=by rw[List.length_eraseIdx,zj2 hi]
 have e1:i+1-i=1:=by omega
 obtain⟨ts,ae⟩:=gen (zs.take i++zs.drop (i+1)++List.replicate (i+1-i) []);have htl:ts.length=L.length:=by
  rw[ae,e1];simp only[List.length_append,List.length_take,List.length_drop,List.length_replicate,ad];omega
 have h3:ts.map encStr=(L.eraseIdx i).map Value.string++[encStr []]:=by
  rw[ae,e1,List.map_append,List.map_append,List.map_take,List.map_drop,ag,<-List.map_take,<-List.map_drop,<-List.map_append,<-List.eraseIdx_eq_take_drop_succ];rfl
 have ak:(L.eraseIdx i).map Value.string=(ts.map encStr).take (L.eraseIdx i).length:=by
  rw[h3,List.take_append_of_le_length (by rw[List.length_map];exact zjA _),List.take_of_length_le (by rw[List.length_map];exact zjA _)]
 have aa:(putRow encStr (Sort.ahead w q) g 0 ts.toArray).heap[g]? =some (.cells (putCells encStr 0 ts.toArray cur) 9 (0,0)):=by
  have h1:=heap_sorted (n:=q) (os:=#[]) ts.toArray hg
  rwa [grow_empty] at h1
 have ah:w.grownBy (putRow encStr (Sort.ahead w q) g 0 ts.toArray) (some g):=by
  have h1:=grownBy_sorted (w:=w) (g:=g) (n:=q) (os:=#[]) ts.toArray
  rwa [grow_empty] at h1
 rw[<-ae];refine⟨by rw[e1,aj],⟨by rw[List.length_map,Nat.mul_one],zj1 ⟨g,cap,_,rfl,hb,aa,by omega,hc,by simp[putCells,hs],?_⟩⟩,{ ah with block:=λk hk ai=>ah.block k hk (λe=>ai (by simpa using e)) }⟩;have h2:=take_putCells cur ts (by omega);rw[Nat.mul_one,ak,<-h2,List.take_take,Nat.min_eq_left (by omega)]
def zdi(t:zj5):List zj5->Nat->Int
 | [],_=> -1
 |e::l,k=>if e=t then(k:Int) else zdi t l (k+1)
theorem Yf:∀(l:List zj5) (k:Nat),(∀e∈l,e≠t)->zdi t l k= -1
 | [],_,_=>rfl
 |e::l,k,h=>by
  unfold zdi;rw[zj3 (h e (zjV ..))];exact Yf l (k+1) λx hx=>h x (List.mem_cons_of_mem _ hx)
theorem Ye:∀(l:List zj5) (k j:Nat),j<l.length->(∀e∈l.take j,e≠t)->l.getD j zj4=t->zdi t l k=((k+j:Nat):Int)
 | [],_,j,h,_,_=>by simp at h
 |e::l,k,0,_,_,ht=>by
  unfold zdi;rw[zj2 (show e=t from ht)];rfl
 |e::l,k,j+1,hj,ha,ht=>by
  unfold zdi;rw[zj3 (ha e (by simp)),Ye l (k+1) j (by simpa using hj) (λx hx=>ha x (by rw[List.take_succ_cons];exact List.mem_cons_of_mem _ hx)) (by simpa using ht)]
  congr 1
  omega
theorem zac(l:List zj5)(t:zj5)(p:Option Addr)(cap:Nat)(w:World)(hl:qW w w.heap.size p l.length (λi=>sA (l.getD i zj4)))(hm:l.length<=maxLen):
 Calls prog 203 #[.slice p l.length cap,sA t] w λe w'=>e=.returned (iA (zdi t l 0))/\BW w w':=by
 have HL:=zc hl;have hmx:l.length<=9223372036854775807:=by unfold maxLen at hm;omega
 clear hl hm;go_enter func203,ntmps203;go_wp2;go_loopw [5,8] (λ_ i wr=>∃j:Nat,j<=l.length/\i=iA j/\(∀e∈l.take j,e≠t)/\BW w wr) (λ_ i _=>l.length-(intOf i).toNat)
 case atStart=>exact⟨0,zjG _,rfl,λe he=>by simp at he,zjB _ _⟩
 obtain⟨j,hj,rfl,ah,hb⟩:=hrel;obtain⟨HB,ag⟩:=zn hb ah;clear hb ah;by_cases aa:j=l.length
 .have HI:Hid (zdi t l 0= -1):=Yf l 0 (by have h:=ag.o;rw[aa,zke] at h;exact h);have hge:¬(j:Int)<l.length:=by omega
  clear aa;go_wp2;go_ret;exact⟨by rw[HI.o];rfl,HB⟩
 have ae:j<l.length:=by omega
 have ak:(j:Int)<l.length:=by omega
 obtain⟨b,o,rfl,al,aj⟩:=HL.o.below HB j ae;obtain⟨ev,af⟩:=gen (l.getD j zj4);simp only[<-af] at aj;have ai:=zc af;clear af al;by_cases ad:ev=t
 .have HI:Hid (zdi t l 0=(j:Int)):=by
   unfold Hid;rw[Ye l 0 j ae ag.o (by rw[<-ai.o];exact ad),zj8]
  subst ad;go_wp2;go_ret;exact⟨by rw[HI.o];rfl,HB⟩
 have q1:=gB (Ne.symm ad);have an:Hid (∀e∈l.take (j+1),e≠t):=by
  intro e he;rw[ym l zj4 j ae,zjU] at he;rcases he with he|he
  .exact ag e he
  rw[zjW] at he;rw[he,<-ai.o];exact ad
 go_wp2;go_roundw
 case rel=>exact⟨j+1,by omega,by go_num,an.o,HB.o⟩
 simp[intOf];omega
end
section
open Proofs.Tryz
variable{t:zj5}
def pcs(t:zj5):List zj5:=Lib.splitB comma 0 (Lib.countB t comma) t
theorem GU(t:zj5):(pcs t).length=Lib.countB t comma+1:=Lib.splitB_all comma (by decide) 0 _ t rfl
theorem Vr(t:zj5)(m:Int)(w:World)(hs:t.size<4294967281)(hm:w.cell? (aA 13 0)=some (iA m)):
 Calls prog 202 #[sA t,sA ⟨#[44]⟩] w λe w'=>e=.returned (.slice (some (aA w.heap.size 0)) (pcs t).length (pcs t).length)/\w'=w.alloc (.cells ((pcs t).map Value.string).toArray 9):=by
 refine(Tryz.strings_Split t comma m w hs hm (by decide)).mono ?_;rintro e w' ⟨rfl,rfl⟩;exact⟨by rw[GU],rfl⟩
def xe(t:zj5):List zj5->List zj5
 | []=>[]
 |e::l=>if e=t then l else e::xe t l
theorem Yn:∀(l:List zj5),(∀e∈l,e≠t)->xe t l=l
 | [],_=>rfl
 |e::l,h=>by
  unfold xe;rw[zj3 (h e (zjV ..)),Yn l λx hx=>h x (List.mem_cons_of_mem _ hx)]
theorem Ym:∀(l:List zj5) (j:Nat),j<l.length->(∀e∈l.take j,e≠t)->l.getD j zj4=t->xe t l=l.eraseIdx j
 | [],j,h,_,_=>by simp at h
 |e::l,0,_,_,ht=>by
  unfold xe;rw[zj2 (show e=t from ht)];rfl
 |e::l,j+1,hj,ha,ht=>by
  unfold xe;rw[zj3 (ha e (by simp)),Ym l j (by simpa using hj) (λx hx=>ha x (by rw[List.take_succ_cons];exact List.mem_cons_of_mem _ hx)) (by simpa using ht)];rfl
theorem Kh(t:zj5):∀l:List zj5,(∀e∈l,e≠t)\/∃k,k<l.length/\(∀e∈l.take k,e≠t)/\l.getD k zj4=t
 | []=>zj0 (by simp)
 |e::l=>by
  by_cases he:e=t
  .exact zj1 ⟨0,by simp,by simp,by simpa using he⟩
  .rcases Kh t l with h|⟨k,hk,ha,ht⟩
   .left;intro x hx;rcases List.mem_cons.1 hx with rfl|hx
    .exact he
    .exact h x hx
   .right;refine⟨k+1,by simpa using hk,?_,by simpa using ht⟩;intro x hx;rw[List.take_succ_cons] at hx;rcases List.mem_cons.1 hx with rfl|hx
    .exact he
    .exact ha x hx
def kP(l ps:List zj5):List zj5:=ps.foldl (λl t=>xe t l) l
theorem JU(l ps:List zj5)(k:Nat)(h:k<ps.length):kP l (ps.take (k+1))=xe (ps.getD k zj4) (kP l (ps.take k)):=by
 unfold kP;rw[ym ps zj4 k h,List.foldl_append];rfl
theorem nodeA_wait(kb cb:Nat)(V:yc)(s:za)(v:Value)(l:List zj5):(nodeA kb cb V s).setIfInBounds 36 v=nodeA kb cb { V with wv:=v } { s with wait:=l }:=by
 unfold nodeA Ql;rfl
theorem zal{B:Nat}{es:List Addr}{m:Int}{F R:Nat->Prop}{nb kb rb cb n i:Nat}{s:za}(t:zj5){w:World}(h:NodeW B es m F R nb kb rb cb n i s w)(ht:t.size<=1000000):
 Calls prog 186 #[pA nb 0,sA t] w λen w'=>en=.returned (.tuple #[])/\∃F',NodeW B es m F' R nb kb rb cb n i { s with wait:=kP s.wait (pcs t) } w'/\Goes F R w F' R w':=by
 have aJ:=zc (Vr t m w (by omega) h.glob.len);have HH:=zc h;obtain⟨ps,aD⟩:=gen (pcs t);rw[<-aD] at aJ ⊢;have hpl:ps.length<=9223372036854775807:=by
  rw[aD];have h1:=Lib.splitB_length_le comma 0 (Lib.countB t comma) t;have h2:Lib.countB t comma<=t.size:=Lib.countB_le comma (by decide) t.size t (zjA _);unfold pcs;omega
 clear h ht aD;go_enter func186,ntmps186;go_wp2_with fail
 refine aJ.o.mono ?_;rintro e w1 ⟨rfl,aB⟩;have aU:Hid (BW w w1):=by rw[aB];exact bwA w
 have aS:Hid (w1.heap[w.heap.size]? =some (.cells (ps.map Value.string).toArray 9 (0,0))):=by rw[aB];exact zjC w _
 have aV:w.heap.size<w1.heap.size:=zg aS;have a6:Hid (¬(F w.heap.size\/R w.heap.size)):=λx=>x.elim (λx=>Nat.lt_irrefl _ (HH.o.fl _ x).2) (λx=>Nat.lt_irrefl _ (HH.o.rl _ x).2);have a8:Hid (NodeW B es m F R nb kb rb cb n i s w1):=HH.o.below aU;clear aB aJ;go_wp2;go_loopw [5,6,10] (λ_ _ kv wr=>∃(k:Nat) (F':Nat->Prop),k<=ps.length/\kv=iA k/\NodeW B es m F' R nb kb rb cb n i { s with wait:=kP s.wait (ps.take k) } wr/\Goes F R w1 F' R wr) (λ_ _ kv _=>ps.length-(intOf kv).toNat)
 case atStart=>exact⟨0,F,zjG _,rfl,a8,Goes.refl _ _ _⟩
 obtain⟨k,F',hk,rfl,hn,aO⟩:=hrel;obtain⟨HN,az⟩:=zn hn aO;clear hn aO;by_cases ar:k=ps.length
 .have hge:¬(k:Int)<ps.length:=by omega
  have au:Hid (NodeW B es m F' R nb kb rb cb n i { s with wait:=kP s.wait ps } wr):=by
   have h:=HN.o;rw[ar,zke] at h;exact h
  have HG:Hid (Goes F R w F' R wr):=(Goes.below aU).trans az;clear ar;go_wp2;first|exact bodyPost_end (v:=.tuple #[]) (by simp[results,results186]) rfl ⟨rfl,F',au.o,HG.o⟩|exact zjT (v:=.tuple #[]) (by simp[results,results186]) rfl ⟨rfl,F',au.o,HG.o⟩
 have aN:k<ps.length:=by omega
 have aW:(k:Int)<ps.length:=by omega
 have aL:wr.heap[w.heap.size]? =some (.cells (ps.map Value.string).toArray 9 (0,0)):=(az.o.same.block _ aV a6).trans aS;obtain⟨rc,aC⟩:=gen (ps.getD k zj4);have hpc:wr.cell? (nA w k)=some (sA rc):=by
  rw[zjD wr w.heap.size k _ _ _ aL,aC];simp[List.getD_eq_getElem?_getD,aN]
 have aa:=JU s.wait ps k aN;rw[<-aC] at aa;obtain⟨L,hL⟩:=gen (kP s.wait (ps.take k));rw[<-hL] at aa HN;have ah:=zc aa;clear aL aC aa hL;obtain⟨V,hA,hf⟩:=HN.o.node;obtain⟨p,c,ewv,aF,ae⟩:=kV hA.wait;have aH:wr.cell? (aA nb 36)=some (.slice p L.length c):=by rw[hA.cell 36 (v:=V.wv) rfl,ewv]
 obtain⟨ay,HA,HF⟩:=zS (zac L rc p c wr ae aF) hA hf;clear hA hf ae;rcases Kh rc L with aj|⟨j,hj,aj,aG⟩
 .rw [Yf L 0 aj] at ay;have HE:=zc (Yn L aj);clear aj;go_wp2_with (first|(go_at_call 203;refine ay.o.mono ?_;rintro e w2 ⟨rfl,al⟩;have ao:=zc al;clear al)|fail)
  go_roundw
  case rel=>
   refine⟨k+1,F',by omega,by go_num,?_,az.o.trans (Goes.below ao.o)⟩;rw[ah.o,HE.o];exact HN.o.below ao
  simp[intOf];omega
 rw[Ye L 0 j hj aj aG,zj8] at ay;have HE:=zc (Ym L j hj aj aG);have hjl:j<=9223372036854775806:=by
  have aE:L.length<=maxLen:=aF;unfold maxLen at aE;omega
 clear aj aG;obtain⟨g,rfl⟩:∃g,p=some (aA g 0):=by
  rcases HA.o.wait.2 with⟨_,h0⟩|⟨g,cap,cur,e0,_⟩
  .simp only at h0;omega
  rw[ewv] at e0;cases e0;exact⟨g,rfl⟩
 have ax:nb≠g:=λe=>(HA.o.rows).2.1 (by rw[ewv,e];rfl);obtain⟨HJ,an⟩:=zn hj ewv;clear hj aF ewv;go_wp2_with (first|(go_at_call 203;refine ay.o.mono ?_;rintro e w2 ⟨rfl,al⟩;have ao:=zc al;have ak:cE w2 nb 36 (.slice (some (aA g 0)) L.length c):=(al.cell (p:=(aA nb 36)) (by exact zg HA.o.blk)).trans aH;have aT:=zc (VY g c j 0 L w2 (by have h:=(HA.o.below al).wait;rw[an.o] at h;exact h) HJ);rw[show((j+1:Nat):Int)=(j:Int)+1 by omega] at aT;clear al)|(go_at_call 204;refine aT.o.mono ?_;rintro e w3 ⟨rfl,ad,aw⟩;have aZ:=zc ad;have aq:=zc aw;have aX:cE w3 nb 36 (.slice (some (aA g 0)) L.length c):=(zjH (w:=w2) (a:=(aA nb 36)) (aw.block nb (zjI _ _ ak) ax)).trans ak;have aP:w3.frozen? (aA nb 36)=false:=zt ((aw.block nb (zjI _ _ ak) ax).trans (HA.o.below ao).blk) 36;clear ad aw)|fail)
 have aK:Hid (NodeAt nb kb cb V { s with wait:=L } w2):=HA.o.below ao;have ag:cL w3 nb (nodeA kb cb V { s with wait:=L }) 135:=(aq.o.block nb (zg aK.o.blk) ax).trans aK.o.blk;obtain⟨w4,av⟩:=gen (w3.setCell (aA nb 36) (.slice (some (aA g 0)) (L.eraseIdx j).length c));have ai:kq nb w3 w4:=by rw[av];exact zf _ _ _ _
 have af:w4.heap[nb]? =some (.cells (nodeA kb cb { V with wv:=.slice (some (aA g 0)) (L.eraseIdx j).length c } { s with wait:=L.eraseIdx j }) 135 (0,0)):=by
  rw[av,setCell_row ag,nodeA_wait kb cb V _ _ (L.eraseIdx j)]
 have hT:=(HN.o.below ao).zhw (s':={ s with wait:=L.eraseIdx j }) (w':=w4) aK HF (.slice (some (aA g 0)) (L.eraseIdx j).length c) af (zb aZ λg' e _=>ai.block g' (λx=>ax (x▸(by cases e;rfl)))) (zj0 (by rw[an.o];rfl)) ⟨ai.os.trans aq.o.os,ai.tape.trans aq.o.tape,ai.output.trans aq.o.output,zjF aq.o.size (Nat.le_of_eq ai.size.symm),λq hq aM=>(ai.block q (λx=>aM (zj0 x))).trans (aq.o.block q hq (λx=>aM (zj1 (by rw[an.o,x];rfl))))⟩ rfl rfl rfl rfl rfl rfl;obtain⟨F2,aQ,aR⟩:=hT;obtain⟨a7,ba,aY⟩:=zS aQ aR av;clear aQ aR ai af ag av;first|rw[<-aY.o]|skip
 go_roundw
 case rel=>
  refine⟨k+1,F2,by omega,by go_num,?_,(az.o.trans (Goes.below ao.o)).trans ba.o⟩;rw[ah.o,HE.o];exact a7
 simp[intOf];omega
end
section
open Proofs.Tryz
variable{w w':World}{n g:Nat}
def Zs(sg:Nat->List zj5)(n:Nat)(fr:Nat->zj5)(i:Nat):kE:=if zB sg n (decV (fr i)).f (fr i) then decV (fr i) else XZ
theorem Y2(sg:Nat->List zj5)(n:Nat)(fr:Nat->zj5)(k:Nat):(List.range (k+1)).map (Zs sg n fr)=(List.range k).map (Zs sg n fr)++[Zs sg n fr k]:=by rw[List.range_succ,List.map_append];rfl
theorem zbm{base e size:Nat}{t:TypeId}{v:Value}{xs:List Value}{C:Array Value}(h:w.ownsRow base e size v n xs)(hg:w.heap[g]? =some (.cells C t (0,0)))(ht:t≠e):some g≠v.ownBlock:=by
 intro e1;rcases h.2 with⟨rfl,_⟩|⟨g1,_,_,rfl,_,aa,_⟩
 .cases e1
 cases e1;rw[aa] at hg;exact ht (by simpa using(Obj.cells.inj (zkd hg)).2.1.symm)
theorem RefAt.keep{f:Int}{b:Addr}(h:RefAt w g f b)(hb:Below w.heap.size w w'):RefAt w' g f b:=by
 unfold RefAt at h ⊢;rw[hb.block g (zg h)];exact h
def zdK(sg:Nat->List zj5)(n:Nat)(fr:Nat->zj5)(m:Nat)(bF bS:Addr)(w:World)(e:Ending)(w':World):Prop:=
 Below w.heap.size w w'/\
  (((∀i,i<m->zM (fr i)=true)/\(∀i,i<m->zB sg n (decV (fr i)).f (fr i)=true)/\∃v,e=.returned (.tuple #[v,.nilIface])/\w'.ownsRow w.heap.size 57 7 v m (XX ((List.range m).map λi=>decV (fr i))))\/
   ((∃i,i<m/\zM (fr i)=false)/\∃g f,RefAt w' g f bF/\e=.returned (.tuple #[.slice none 0 0,Qd g]))\/
   ((∀i,i<m->zM (fr i)=true)/\(∃i,i<m/\zB sg n (decV (fr i)).f (fr i)=false)/\∃g f,RefAt w' g f bS/\e=.returned (.tuple #[.slice none 0 0,Qd g])))
def zfi(sg:Nat->List zj5)(n:Nat)(fr:Nat->zj5)(k:Nat)(bS:Addr)(wr:World)(u:Value):Prop:=
 (u=.nilIface/\∀i,i<k->zB sg n (decV (fr i)).f (fr i)=true)\/(∃i,i<k/\zB sg n (decV (fr i)).f (fr i)=false)/\∃g f,u=Qd g/\RefAt wr g f bS
theorem zfi.next{sg:Nat->List zj5}{fr:Nat->zj5}{k:Nat}{bS:Addr}{u:Value}(h:zfi sg n fr k bS w u)(hk:∀g f b,RefAt w g f b->RefAt w' g f b)(hs:zB sg n (decV (fr k)).f (fr k)=true):zfi sg n fr (k+1) bS w' u:=by
 rcases h with⟨h1,h2⟩|⟨⟨i,hi,h1⟩,g,f,h2,h3⟩
 .refine zj0 ⟨h1,λi hi=>?_⟩;by_cases e:i=k
  .rw [e];exact hs
  exact h2 i (by omega)
 exact zj1 ⟨⟨i,by omega,h1⟩,g,f,h2,hk _ _ _ h3⟩
theorem VG(F:Nat->Prop)(rb n:Nat)(sg:Nat->List zj5)(fr:Nat->zj5)(p:Option Addr)(m cap:Nat)(es:List Addr)(bF bS:Addr)(w:World)(hr:vh F rb n sg w)(hlt:∀k,F k->k<w.heap.size)(hS:gm es w)(he1:es[1]? =some bF)(he2:es[2]? =some bS)
 (hl:qW w w.heap.size p m (λi=>.string (fr i))) (hm:m<=1000000000):
 Calls prog 95 #[.pointer (some ⟨rb,0,none⟩),.slice p m cap] w (zdK sg n fr m bF bS w):=by
 obtain⟨iM,aX,aS,aR,aQ⟩:=info_parts Tryz.ziC;obtain⟨HR,bb,bj,aC,bc,HL,HM⟩:=Qy hr hlt hS he1 he2 hl hm;have hmx:(m:Int)<=9223372036854775807:=by omega
 have bl:Hid (bS≠bF):=λe=>by
  obtain⟨bh,e1'⟩:=List.getElem?_eq_some_iff.1 he1;obtain⟨bg,e2'⟩:=List.getElem?_eq_some_iff.1 he2;have h3:=(List.pairwise_iff_getElem.1 hS.nodup) 1 2 bh bg (by omega);exact h3 (by rw[e1',e2',e])
 clear hr hlt hS he1 he2 hl hm;go_enter func95,ntmps95;go_wp2;go_loopw [6,7,9,10,11,14] (λv u _ _ _ i wr=>∃k:Nat,k<=m/\i=.int .i64 k/\(∀i,i<k->zM (fr i)=true)/\wr.ownsRow w.heap.size 57 7 v k (XX ((List.range k).map (Zs sg n fr)))/\zfi sg n fr k bS wr u/\Below w.heap.size w wr) (λ_ _ _ _ _ i _=>m-(intOf i).toNat)
 case atStart=>exact⟨0,zjG _,rfl,λi hi=>by omega,zjZ _ _ _ _,zj0 ⟨rfl,λi hi=>by omega⟩,zjB _ _⟩
 obtain⟨k,hk,rfl,a7,hv,aT,hb⟩:=hrel;obtain⟨aH,HV,a8,HB⟩:=qO a7 hv aT hb;clear a7 hv aT hb;by_cases aW:k=m
 .subst aW;rcases a8 with⟨rfl,ay⟩|⟨aU,g,f,rfl,aj⟩
  .have aD:=zc ay;clear ay;go_wp2;go_ret2;refine⟨HB,zj0 ⟨aH,aD,_,rfl,?_⟩⟩;have h:=HV.o;rw[List.map_congr_left (f:=Zs sg n fr) (g:=λi=>decV (fr i)) (λi hi=>by unfold Zs;rw[zj2 (aD.o i (by simpa using hi))])] at h;exact h
  have bk:=zc aU;have aq:=zc aj;clear aU aj;unfold Qd;go_wp2;go_ret2;exact⟨HB,zj1 (zj1 ⟨aH,bk,g,f,aq,rfl⟩)⟩
 have hlt:k<m:=by omega
 have bf:(k:Int)<m:=by omega
 have HK:=zc hlt;obtain⟨pb,po,rfl,bd,hc⟩:=HL.o k hlt;have aY:wr.cell? ⟨pb,po+k,none⟩=some (.string (fr k)):=(HB.o.cell (p:=⟨pb,po+k,none⟩) (by exact bd)).trans hc;obtain⟨t,ht⟩:=gen (fr k);rw[<-ht] at aY;have HT:=zc ht;have hkx:k<=1000000000:=by have:=HM.o;omega
 clear hc ht aW;have ao:=zc (bj.o.later HB);have HO:=zc (XV F rb n sg t bF bS wr (HR.o.frame (λk hk=>HB.o.block k (bb k hk))) (λk hk=>zjE (bb k hk) HB.o.size) (ao.o.cell 1 _ _ rfl aC) (ao.o.cell 2 _ _ rfl bc));obtain⟨mm,aV⟩:=gen (decV t);obtain⟨K,H,R,Fm,V,nl,s⟩:=mm;have ba:=zc aV;clear aV;go_wp2_with fail
 refine HO.o.mono ?_;clear HO;rintro e w1 ⟨ax,aw⟩;have aG:Hid (Below w.heap.size w w1):=HB.o.trans (ax.mono HB.o.size);have aK:=zc (z7 HV ax);have aJ:w.heap.size<=w1.heap.size:=aG.o.size;have ah:=zc (ao.o.later ax);have aM:Hid (∀g f b,RefAt wr g f b->RefAt w1 g f b):=λg f b h=>h.keep ax;clear ax aY;rcases aw with⟨hd,hs,rfl⟩|⟨hd,g,hg,aj,rfl⟩|⟨hd,hs,g,hg,aj,rfl⟩
 .rw [<-ba.o];have HD:Hid (zM (fr k)=true):=by unfold Hid;rw[<-HT.o];exact hd
  have az:Hid (zB sg n (decV (fr k)).f (fr k)=true):=by unfold Hid;rw[<-HT.o];exact hs
  have seenM_yes:Zs sg n fr k=⟨K,H,R,Fm,V,nl,s⟩:=by unfold Zs;rw[zj2 az.o,<-HT.o,ba.o]
  have aL:=zc seenM_yes;clear hd hs seenM_yes;unfold kE.cells;go_wp2_with (first|(refine zh rfl 57 _ _ rfl w1 #[.int .i64 K,.int .i64 H,.int .i64 R,.int .i64 Fm,.int .i64 V,.bool nl,.string s] rfl rfl 57 _ rfl (by simp[Value.oneCell']) Tryz.zgb ?_;intro w2 ak ae af;have aF:=zc ak;have al:=zc (z7 aK ae);have aB:=zc (ah.o.later ae);have aE:w2.cell? ⟨2,0,none⟩=some (.iface 294 (.pointer (some bF))):=aB.o.cell 1 _ _ rfl aC;have ag:=zc ae;have au:=zc af;clear ak af ae)|fail)
  refine(zdU bF w2).mono ?_;rintro e wy ⟨rfl,ai⟩;have av:=ai.symm;clear ai;subst av;clear aE;go_wp2_with (first|(refine zkb rfl 57 _ rfl w1.heap.size rfl 57 #[.int .i64 K,.int .i64 H,.int .i64 R,.int .i64 Fm,.int .i64 V,.bool nl,.string s] (0,0) _ aF underlying57 rfl Tryz.zgb ?_)|(at_builtin;refine z8 _ rfl _ _ 185 rfl w.heap.size 57 iM _ 7 64 underlying185 aX aS aR aQ rfl (by decide) _ _ _ rfl (z7 al ((zjB _ w2).alloc (zjA _) (.cells #[.int .i64 K,.int .i64 H,.int .i64 R,.int .i64 Fm,.int .i64 V,.bool nl,.string s] 57))) ⟨w2.heap.size,0,none⟩ 1 1 [.int .i64 K,.int .i64 H,.int .i64 R,.int .i64 Fm,.int .i64 V,.bool nl,.string s] rfl rfl ?c1 ?c2 ?c3 ?c4 ?c5 ?_)|go_in)
  case c1=>
   intro j u hj;rw[addr_add,zj8];rw[zjD _ _ j _ _ _ (zjC w2 (.cells #[.int .i64 K,.int .i64 H,.int .i64 R,.int .i64 Fm,.int .i64 V,.bool nl,.string s] 57))];simpa using hj
  case c2=>simp[Value.oneCell']
  case c3=>unfold maxLen;omega
  case c4=>omega
  case c5=>have:=au.o;simp;omega
  intro v5 w5 ad aa an;have af:=au.o;have aN:Hid (w5.ownsRow w.heap.size 57 7 v5 (k+1) (XX ((List.range (k+1)).map (Zs sg n fr)))):=by
   unfold Hid;rw[Y2,Z9,aL.o];exact ad
  have ar:Hid (Below w.heap.size w2 w5):=((zjB _ w2).alloc (by omega) _).grown aa (by simp;omega) (λk hk=>(al.o.lt k hk).1);have aP:Hid (Below w.heap.size w w5):=(aG.o.trans (ag.o.mono aJ)).trans ar;have aO:Hid (∀g f b,RefAt w2 g f b->RefAt w5 g f b):=λg f b h=>by
   unfold RefAt at h ⊢;rw[aa.block g (by have:=zg h;simp;omega) (zbm al.o h (by decide)),zj9 _ _ _ (zg h)];exact h
  clear ad aa an af;go_wp2;go_roundw
  case rel=>exact⟨k+1,HK,by go_num,λi hi=>(by by_cases e:i=k;(rw[e];exact HD);exact aH.o i (by omega)),aN.o,a8.o.next (λg f b h=>aO.o g f b ((aM.o g f b h).keep ag.o)) az.o,aP.o⟩
  case measure=>have:=HK.o;simp[intOf];omega
 .have HD:Hid (zM (fr k)=false):=by unfold Hid;rw[<-HT.o];exact hd
  have aq:=zc aj;clear hd hg aj;unfold kE.cells XZ Qd;go_wp2_with (first|(refine zh rfl 57 _ _ rfl w1 #[.int .i64 0,.int .i64 0,.int .i64 0,.int .i64 0,.int .i64 0,.bool false,.string ⟨#[]⟩] rfl rfl 57 _ rfl (by simp[Value.oneCell']) Tryz.zgb ?_;intro w2 ak ae af;have aF:=zc ak;have al:=zc (z7 aK ae);have aB:=zc (ah.o.later ae);have aE:w2.cell? ⟨2,0,none⟩=some (.iface 294 (.pointer (some bF))):=aB.o.cell 1 _ _ rfl aC;have ag:=zc ae;have au:=zc af;clear ak af ae)|fail)
  refine(Yc g (-1) bF w2 (aq.o.keep ag)).mono ?_;rintro e wy ⟨rfl,ai⟩;have av:=ai.symm;clear ai;subst av;go_wp2;go_ret2;exact⟨aG.o.trans (ag.o.mono aJ),zj1 (zj0 ⟨⟨k,HK,HD⟩,g,-1,aq.o.keep ag,rfl⟩)⟩
 have HD:Hid (zM (fr k)=true):=by unfold Hid;rw[<-HT.o];exact hd
 have az:Hid (zB sg n (decV (fr k)).f (fr k)=false):=by unfold Hid;rw[<-HT.o];exact hs
 have seenM_no:Zs sg n fr k=XZ:=by unfold Zs;rw[az.o];rfl
 obtain⟨aL,aq⟩:=zn seenM_no aj;clear hd hs hg aj seenM_no;unfold kE.cells XZ Qd;obtain⟨cF,tF,a6⟩:=ah.o.blk bF (List.mem_of_getElem? aC);obtain⟨cS,tS,aZ⟩:=ah.o.blk bS (List.mem_of_getElem? bc);obtain⟨bn,bm⟩:=zn a6 aZ;clear a6 aZ;go_wp2_with (first|(refine zh rfl 57 _ _ rfl w1 #[.int .i64 0,.int .i64 0,.int .i64 0,.int .i64 0,.int .i64 0,.bool false,.string ⟨#[]⟩] rfl rfl 57 _ rfl (by simp[Value.oneCell']) Tryz.zgb ?_;intro w2 ak ae af;have aF:=zc ak;have al:=zc (z7 aK ae);have aB:=zc (ah.o.later ae);have aE:w2.cell? ⟨2,0,none⟩=some (.iface 294 (.pointer (some bF))):=aB.o.cell 1 _ _ rfl aC;have ag:=zc ae;have au:=zc af;clear ak af ae)|fail)
 refine(Zu g _ bS bF _ _ _ _ w2 (aq.o.keep ag) bl (blk bm ag) (blk bn ag)).mono ?_;rintro e wy ⟨rfl,ai⟩;have av:=ai.symm;clear ai;subst av;clear aE;go_wp2_with (first|(refine zkb rfl 57 _ rfl w1.heap.size rfl 57 #[.int .i64 0,.int .i64 0,.int .i64 0,.int .i64 0,.int .i64 0,.bool false,.string ⟨#[]⟩] (0,0) _ aF underlying57 rfl Tryz.zgb ?_)|(at_builtin;refine z8 _ rfl _ _ 185 rfl w.heap.size 57 iM _ 7 64 underlying185 aX aS aR aQ rfl (by decide) _ _ _ rfl (z7 al ((zjB _ w2).alloc (zjA _) (.cells #[.int .i64 0,.int .i64 0,.int .i64 0,.int .i64 0,.int .i64 0,.bool false,.string ⟨#[]⟩] 57))) ⟨w2.heap.size,0,none⟩ 1 1 [.int .i64 0,.int .i64 0,.int .i64 0,.int .i64 0,.int .i64 0,.bool false,.string ⟨#[]⟩] rfl rfl ?c1 ?c2 ?c3 ?c4 ?c5 ?_)|go_in)
 case c1=>
  intro j u hj;rw[addr_add,zj8];rw[zjD _ _ j _ _ _ (zjC w2 (.cells #[.int .i64 0,.int .i64 0,.int .i64 0,.int .i64 0,.int .i64 0,.bool false,.string ⟨#[]⟩] 57))];simpa using hj
 case c2=>simp[Value.oneCell']
 case c3=>unfold maxLen;omega
 case c4=>omega
 case c5=>have:=au.o;simp;omega
 intro v5 w5 ad aa an;have af:=au.o;have aN:Hid (w5.ownsRow w.heap.size 57 7 v5 (k+1) (XX ((List.range (k+1)).map (Zs sg n fr)))):=by
  unfold Hid;rw[Y2,Z9,aL.o];exact ad
 have ar:Hid (Below w.heap.size w2 w5):=((zjB _ w2).alloc (by omega) _).grown aa (by simp;omega) (λk hk=>(al.o.lt k hk).1);have aP:Hid (Below w.heap.size w w5):=(aG.o.trans (ag.o.mono aJ)).trans ar;have aO:Hid (∀g f b,RefAt w2 g f b->RefAt w5 g f b):=λg f b h=>by
  unfold RefAt at h ⊢;rw[aa.block g (by have:=zg h;simp;omega) (zbm al.o h (by decide)),zj9 _ _ _ (zg h)];exact h
 clear ad aa an af;go_wp2;go_roundw
 case rel=>exact⟨k+1,HK,by go_num,λi hi=>(by by_cases e:i=k;(rw[e];exact HD);exact aH.o i (by omega)),aN.o,zj1 ⟨⟨k,by omega,az.o⟩,g,_,rfl,aO.o _ _ _ (aq.o.keep ag.o)⟩,aP.o⟩
 case measure=>have:=HK.o;simp[intOf];omega
end
section
open Proofs.Tryz
def YG(w:World):Prop:=w.cell? (aA 12 0)=some (.iface 211 (.agg #[pA 16 42]))
theorem YG.below{w w':World}(h:YG w)(hb:BW w w'):YG w':=by
 unfold YG at h ⊢;rw[hb.cell (p:=(aA 12 0)) (by exact zjI _ _ h)];exact h
theorem zaN(g:Nat)(f:Int)(b:Addr)(w:World)(hr:RefAt w g f b)(hT:YG w):
 Calls prog 96 #[Qd g] w λe w'=>e=.returned (eA b)/\BW w w':=by
 have ad:cE w g 1 (eA b):=zjD w g 1 _ _ _ hr;have ae:g<w.heap.size:=zg hr;have HT:=zc hT;clear hr hT;unfold Qd;go_enter func96,ntmps96;go_wp2_with fail
 refine(zfc (aA g 0) (nA w 0) (.pointer none) _ (HT.o.below (bwA w)) (by simp) (by simp)).mono ?_;rintro e w1 ⟨rfl,aa⟩;have HB:Hid (BW w w1):=by
  unfold Hid;rw[aa];exact((((((bwA w).alloc (by simp) _).alloc (by simp;omega) _).alloc (by simp;omega) _).alloc (by simp;omega) _).setCell (by exact zjA _) _)
 have q0:w1.cell? (nA w 0)=some (pA g 0):=by
  rw[aa];refine World.cell?_setCell_same _ _ _ (u:=.pointer none) ?_;rw[World.cell?_alloc_lt _ _ (nA w 0) (by simp;omega),World.cell?_alloc_lt _ _ (nA w 0) (by simp;omega),World.cell?_alloc_lt _ _ (nA w 0) (by simp;omega),World.cell?_alloc_lt _ _ (nA w 0) (by simp)];exact zjD _ _ 0 _ _ _ (zjC w _)
 have q1:cE w1 g 1 (eA b):=(HB.o.cell (p:=(aA g 1)) (by exact ae)).trans ad;clear aa ad;go_wp2;go_ret;exact⟨rfl,HB⟩
theorem zbn{w:World}{base m:Nat}{v:Value}{fr:Nat->zj5}(h:w.ownsRow base 57 7 v m (XX ((List.range m).map λi=>decV (fr i)))):∃p c,v=.slice p m c/\KM w w.heap.size p m (λi=>decV (fr i)):=by
 obtain⟨L,hL⟩:∃L,L=(List.range m).map λi=>decV (fr i):=⟨_,rfl⟩;have hl:L.length=m:=by rw[hL];simp
 rw[<-hL,<-hl] at h;obtain⟨p,c,e,hm⟩:=zcW h;rw[hl] at e hm;refine⟨p,c,e,λi hi=>?_⟩;have h1:=hm i hi;have e1:L.getD i XZ=decV (fr i):=by rw[hL,zjK];simp[hi]
 simp only[e1] at h1;exact h1
section
variable{P:Program}
theorem gr{ops:Array Oper}{rest:List Oper}{op:Oper}{a:Act}{w:World}{Q:Exit->Act->World->Prop}(hgd:op.guard=none)(ty:TypeId)(p y:Operand)(ho:op.op=.store ty p y)
 (g off:Nat) (D:Array Value) (hp:a.eval p=pA g off) (hy:a.eval y=.agg D) (t:TypeId) (C:Array Value) (hg:w.heap[g]? =some (.cells C t (0,0))) (hC:off+D.size<=C.size) (h1:∀v∈D.toList,v.oneCell'=true) (hi:(P.info? ty).map (·.size)=some D.size)
 (h:∀w',w'.heap[g]? =some (.cells (C.toList.take off++D.toList++C.toList.drop (off+D.size)).toArray t (0,0))->kq g w w'->wpList P ops Q rest (a.put op.dst undef) w'):wpList P ops Q (op::rest) a w:=
 wpList_plain hgd λ_ hK=>by
  have hs:=run_storeCells_at P g off t D.toList 0 C w hg (by simp;omega) h1;have hr:(storeVar ty (aA g off) (.agg D)).run P w=.ok () (w.setRow g (C.toList.take off++D.toList++C.toList.drop (off+D.size)).toArray):=by
   simp only[Nat.add_zero,Array.length_toList] at hs;cases hq:P.info? ty with
   |none=>simp[hq] at hi
   |some i=>
    have hz:i.size=D.size:=by simpa [hq] using hi
    simp[storeVar,sizeOf,typeInfo,hq,Value.cells,hz,hs]
  unfold Oper.wp execOp;simp only[ho,hp,hy,Instr.storeAt,Instr.sureAddr,Sem.run_bind,Sem.run_pure,Result.andThen_ok,hr];exact hK _ _ (h _ (setRow_heap _ _ C _ t (0,0) hg) (y9 _ _ _))
end
theorem Xd(rb:Nat)(x y:Nat->Int)(h:Int):((yP rb x h).toList.take 1++(regA y).toList++(yP rb x h).toList.drop (1+(regA y).size)).toArray=yP rb y h:=by
 unfold yP regA;simp[jO]
theorem YP(rb:Nat)(x:Nat->Int)(h h':Int):(yP rb x h).setIfInBounds 35 (iA h')=yP rb x h':=by
 unfold yP;simp[jO]
theorem Xl(x:Nat->Int)(s:zj5)(b:Addr)(m:Int)(z:Nat->Int)(w:World)(hx:Dom x)(hs:s.size<4294967281)(hg:w.cell? (aA 11 0)=some (eA b))(hm:w.cell? (aA 13 0)=some (iA m))(h:(z,true)=zi x s):
 Calls prog 94 #[.agg (regA x),sA s] w λe w'=>e=.returned (.tuple #[.agg (regA z),.nilIface])/\BW w w':=by
 have:=qU x s b m w hx hs hg hm;rw[<-h] at this;exact this
theorem zaz(x:Nat->Int)(s:zj5)(b:Addr)(m:Int)(z:Nat->Int)(w:World)(hx:Dom x)(hs:s.size<4294967281)(hg:w.cell? (aA 11 0)=some (eA b))(hm:w.cell? (aA 13 0)=some (iA m))(h:(z,false)=zi x s):
 Calls prog 94 #[.agg (regA x),sA s] w λe w'=>e=.returned (.tuple #[.agg (regA yk),eA b])/\BW w w':=by
 have:=qU x s b m w hx hs hg hm;rw[<-h] at this;exact this
def ButP(g:Nat)(w w':World):Prop:=zk (λk=>k=g) w w'
def zeQ(cb rb n:Nat)(sg:Nat->List zj5)(x:Nat->Int)(h:Int)(block:zj5)(fr:Nat->zj5)(m:Nat)(es:List Addr)(w:World)(e:Ending)(w':World):Prop:=
 (∃c b,e=.returned (eA b)/\es[c]? =some b/\BW w w'/\
  ((c=11/\(zi x block).2=false)\/(c=1/\(zi x block).2=true/\∃i,i<m/\zM (fr i)=false)\/
   (c=2/\(zi x block).2=true/\(∀i,i<m->zM (fr i)=true)/\∃i,i<m/\zB sg n (decV (fr i)).f (fr i)=false)\/
   (c=9/\(zi x block).2=true/\(∀i,i<m->zM (fr i)=true)/\(∀i,i<m->zB sg n (decV (fr i)).f (fr i)=true)/\¬KN x h block (λi=>decV (fr i)) m)))\/
 (e=.returned .nilIface/\(zi x block).2=true/\(∀i,i<m->zM (fr i)=true)/\(∀i,i<m->zB sg n (decV (fr i)).f (fr i)=true)/\KN x h block (λi=>decV (fr i)) m/\
  zL w' cb rb (zi x block).1 (h+1)/\ButP cb w w')
theorem zaG(F:Nat->Prop)(cb rb n:Nat)(sg:Nat->List zj5)(x:Nat->Int)(h:Int)(block:zj5)(fr:Nat->zj5)(p:Option Addr)(m cap:Nat)(es:List Addr)(a1 a2 a9 a11:Addr)(mx:Int)(w:World)(hx:Dom x)(hh0:0<=h)(hh:h<=1000000000)(hs:block.size<4294967281)
 (hc:zL w cb rb x h) (hr:vh F rb n sg w) (hlt:∀k,F k->k<w.heap.size) (hS:gm es w) (he1:es[1]? =some a1) (he2:es[2]? =some a2) (he9:es[9]? =some a9) (he11:es[11]? =some a11) (hT:YG w) (hmx:w.cell? (aA 13 0)=some (iA mx))
 (hl:qW w w.heap.size p m (λi=>sA (fr i))) (hm:m<=1000000000):
 Calls prog 46 #[pA cb 0,sA block,.slice p m cap] w (zeQ cb rb n sg x h block fr m es w):=by
 obtain⟨HX,HC,HR,aQ,ay,aV,aU,aT⟩:=jR hx hc hr hlt hS he1 he2 he9;obtain⟨aj,HT,HL,HM,aP,aM⟩:=JQ he11 hT hl hm hmx hs;have aK:cE w cb 0 (pA rb 0):=hc.ring;have ar:cb<w.heap.size:=zg hc;clear hx hc hr hlt hS he1 he2 he9 he11 hT hl hm hmx hs;obtain⟨z,hz⟩:=gen (zi x block);obtain⟨y,o⟩:=z;have HZ:=zc hz;have z0:=yV;clear hz;cases o with
 |false=>
  go_enter func46,ntmps46;go_wp2_with (first|(refine zj6 rfl 116 _ rfl cb 1 rfl (yU x) _ HC.o.reg underlying116 rfl (by rw[Tryz.zfG];simp[yU]) ?_)|fail)
  refine(zaz x block a11 mx y w HX aM (ay.o.cell 11 _ _ rfl aj) aP HZ).mono ?_;rintro e w1 ⟨rfl,au⟩;have ah:=zc au;clear au;go_wp2_with (first|(refine zp rfl 116 _ _ rfl w1.heap.size yk rfl rfl 116 (regA yk) (zjC w1 _) (zj _) Tryz.zfG ?_;intro w2 ai an;have aO:=zc ai;have aa:Hid (BW w w2):=(ah.o.alloc ah.o.size _).trans (an.below ah.o.size);have aL:Hid (w1.heap.size<w2.heap.size):=zg ai;have ax:cE w2 cb 0 (pA rb 0):=(aa.o.cell (p:=(aA cb 0)) (by exact ar)).trans aK;clear ai an)|fail)
  go_ret;exact zj0 ⟨11,a11,rfl,aj,aa,zj0 ⟨rfl,by rw[<-HZ.o]⟩⟩
 |true=>
  go_enter func46,ntmps46;go_wp2_with (first|(refine zj6 rfl 116 _ rfl cb 1 rfl (yU x) _ HC.o.reg underlying116 rfl (by rw[Tryz.zfG];simp[yU]) ?_)|fail)
  refine(Xl x block a11 mx y w HX aM (ay.o.cell 11 _ _ rfl aj) aP HZ).mono ?_;rintro e w1 ⟨rfl,au⟩;have ah:=zc au;clear au;go_wp2_with (first|(refine zp rfl 116 _ _ rfl w1.heap.size y rfl rfl 116 (regA yk) (zjC w1 _) (zj _) Tryz.zfG ?_;intro w2 ai an;have aO:=zc ai;have aa:Hid (BW w w2):=(ah.o.alloc ah.o.size _).trans (an.below ah.o.size);have aL:Hid (w1.heap.size<w2.heap.size):=zg ai;have ax:cE w2 cb 0 (pA rb 0):=(aa.o.cell (p:=(aA cb 0)) (by exact ar)).trans aK;clear ai an)|fail)
  have aX:=zc (ay.o.later aa);have HG:Hid ((zi x block).2=true):=by unfold Hid;rw[<-HZ.o]
  have HO:=zc (VG F rb n sg fr p m cap es a1 a2 w2 (HR.o.frame (λk hk=>aa.o.block k (aQ k hk))) (λk hk=>zjE (aQ k hk) aa.o.size) aX aV aU ((HL.o.below aa).more aa.o.size) HM);refine HO.o.mono ?_;clear HO;rintro e w3 ⟨ag,⟨al,aF,v,rfl,aG⟩|⟨ao,g,f,ak,rfl⟩|⟨al,ao,g,f,ak,rfl⟩⟩
  .obtain ⟨mp,mc,rfl,aJ⟩:=zbn aG
   obtain⟨av,aN⟩:=zn al aF;have ae:Hid (BW w w3):=aa.o.trans (ag.mono aa.o.size);have aZ:=zc (blk aO ag);have aW:Hid (w1.heap.size<w3.heap.size):=zjE aL ag.size;have aS:=zc (Qv cb rb x h block (λi=>decV (fr i)) mp m mc w3 HX.o (HC.o.keep ae.o) aJ (λi hi=>by have:=qQ (av.o i hi);omega) HM.o);clear al aF aG aJ ag ax;go_wp2_with fail
   refine aS.o.mono ?_;clear aS;rintro e w4 ⟨r,rfl,aq,af⟩;have ad:Hid (BW w w4):=ae.o.trans (af.mono ae.o.size);obtain⟨aY,a6⟩:=zn (blk aZ af) (HC.o.keep ad);have hc9:cE w4 9 0 (eA a9):=(ay.o.later ad).cell 9 _ _ rfl aT;have HZ4:Hid (w1.heap.size<w4.heap.size):=zjE aW af.size;have aR:=zc aq;clear aq af;cases r with
   |false=>
    go_wp2;go_ret;exact zj0 ⟨9,a9,rfl,aT.o,ad.o,zj1 (zj1 (zj1 ⟨rfl,HG.o,av.o,aN.o,λhc=>(by have:=aR.o.2 hc;cases this)⟩))⟩
   |true=>
    have aB:¬w1.heap.size=cb:=by have:=ah.o.size;omega
    go_wp2_with (first|(refine zr rfl 116 _ rfl w1.heap.size rfl 116 y _ aY underlying116 rfl Tryz.zfG ?_)|(refine gr rfl 116 _ _ rfl cb 1 (regA y) rfl rfl 170 _ a6 (by rw[J7,zj];decide) (XK y) (by rw[zj];exact Tryz.zfG) ?_;intro w5 az aH;rw[Xd] at az;have aE:Hid (zL w5 cb rb y h):=az;have hch:cE w5 cb 35 (iA h):=aE.o.zfF;have hcf:w5.frozen? (aA cb 35)=false:=zt aE 35;have aw:=zc aH;clear az aH)|fail)
    go_ret;refine zj1 ⟨rfl,HG,av,aN,aR.o.1 (by trivial),?_,?_⟩
    .have h5:=aE.o;unfold zL at h5 ⊢;rw[<-HZ.o,<-YP rb y h (h+1)];simp[World.setCell,Array.getElem?_modify,h5]
    have hon:=zf w5 cb 35 (iA (h+1));refine⟨?_,?_,?_,?_,λk hk aB=>?_⟩
    .rw [hon.os,aw.o.os,ad.o.os]
    .rw [hon.tape,aw.o.tape,ad.o.tape]
    .rw [hon.output,aw.o.output,ad.o.output]
    .rw [hon.size,aw.o.size];exact ad.o.size
    rw[hon.block k aB,aw.o.block k aB,ad.o.block k hk]
  .have aD:=zc ao;have aC:=zc ak;have ae:Hid (BW w w3):=aa.o.trans (ag.mono aa.o.size);clear ao ak ag ax;have HW:=zc (zaN g f a1 w3 aC (HT.o.below ae));unfold Qd at HW ⊢;go_wp2_with fail
   refine HW.o.mono ?_;rintro e w4 ⟨rfl,af⟩;have ad:Hid (BW w w4):=ae.o.trans (af.mono ae.o.size);clear af;go_wp2;go_ret;exact zj0 ⟨1,a1,rfl,aV,ad,zj1 (zj0 ⟨rfl,HG,aD⟩)⟩
  have aD:=zc ao;obtain⟨av,aC⟩:=zn al ak;have ae:Hid (BW w w3):=aa.o.trans (ag.mono aa.o.size);clear ao ak al ag ax;have HW:=zc (zaN g f a2 w3 aC (HT.o.below ae));unfold Qd at HW ⊢;go_wp2_with fail
  refine HW.o.mono ?_;rintro e w4 ⟨rfl,af⟩;have ad:Hid (BW w w4):=ae.o.trans (af.mono ae.o.size);clear af;go_wp2;go_ret;exact zj0 ⟨2,a2,rfl,aU,ad,zj1 (zj1 (zj0 ⟨rfl,HG,av,aD⟩))⟩
theorem Tryz.ziE:(prog.info? 175).map (λi=>(i.zero,i.size,i.bytes))=some (some (.agg #[sA zj4,sA zj4,.slice none 0 0,bA false]),4,64):=by kernel_rfl
theorem Tryz.zhI(t fr:zj5)(p:Option Addr)(n c:Nat)(W:World):(Instr.build 175 #[(0,sA t),(1,sA fr),(2,.slice p n c)]).run prog W=.ok (.agg #[sA t,sA fr,.slice p n c,bA false]) W:=by kernel_rfl
theorem NodeW.ziG{B:Nat}{es:List Addr}{m:Int}{F R:Nat->Prop}{nb kb rb cb n i:Nat}{s:za}{V:yc}{w w':World}(h:NodeW B es m F R nb kb rb cb n i s w)(hA:NodeAt nb kb cb V s w)(hf:∀k,V.zgH nb cb k->F k)(v' cv:Value)(d:xC)
 (hb:w'.heap[nb]? =some (.cells (nodeA kb cb { V with dv:=v',ds:=V.ds++[(d,cv)] } { s with dec:=s.dec++[d] }) 135 (0,0))) (hown:w'.ownsRow 0 175 4 v' (V.ds.length+1) (Zi (V.ds++[(d,cv)]))) (hc:w'.ownsRow 0 9 1 cv d.cert.length (d.cert.map .string)) (hcn:∀g,cv.ownBlock=some g->w.heap.size<=g)
 (hat:v'.ownBlock=V.dv.ownBlock\/∀g,v'.ownBlock=some g->w.heap.size<=g) (hs:zk (λk=>k=nb\/some k=V.dv.ownBlock) w w'):∃F',NodeW B es m F' R nb kb rb cb n i { s with dec:=s.dec++[d] } w'/\Goes F R w F' R w':=by
 obtain⟨n1,n2,n3,n4,n5,n6⟩:=hA.rows;have hv:∀g,v'.ownBlock=some g->V.dv.ownBlock=some g\/w.heap.size<=g:=λg hg=>by
  rcases hat with h1|h1
  .exact zj0 (h1.symm.trans hg)
  exact zj1 (h1 g hg)
 have hN:NodeAt nb kb cb { V with dv:=v',ds:=V.ds++[(d,cv)] } { s with dec:=s.dec++[d] } w':=by
  refine⟨hb,?_,?_,?_,?_,?_,?_,?_,?_,hA.alog,?_,?_⟩
  .show (V.ds++[(d,cv)]).map (·.1)=s.dec++[d]
   rw[List.map_append,hA.eds];rfl
  .show w'.ownsRow 0 175 4 v' (V.ds++[(d,cv)]).length (Zi (V.ds++[(d,cv)]));rw[zjO];exact hown
  .intro d' aa;rcases List.mem_append.1 aa with hd|hd
   .exact zb (hA.cert d' hd) λg e hg=>hs.block g hg (λx=>x.elim (λx=>n6 d' hd (x▸e)) (λx=>zO (hA.cert d' hd) hA.dec (by decide) g e x.symm))
   rw[zjW] at hd;rw[hd];exact hc
  .exact zb hA.wait λg e hg=>hs.block g hg (λx=>x.elim (λx=>n2 (x▸e)) (λx=>zO hA.wait hA.dec (by decide) g e x.symm))
  .exact zb hA.log λg e hg=>hs.block g hg (λx=>x.elim (λx=>n3 (x▸e)) (λx=>zO hA.log hA.dec (by decide) g e x.symm))
  .exact zb hA.ahead λg e hg=>hs.block g hg (λx=>x.elim (λx=>n4 (x▸e)) (λx=>zO hA.ahead hA.dec (by decide) g e x.symm))
  .exact zb hA.tims λg e hg=>hs.block g hg (λx=>x.elim (λx=>n5 (x▸e)) (λx=>zO hA.tims hA.dec (by decide) g e x.symm))
  .obtain ⟨a,b,hc⟩:=hA.chan
   exact⟨a,b,(hs.block cb (qT hA.chan) (λx=>x.elim (λx=>hA.nc x.symm) (λx=>yD hA.dec hA.chan x.symm))).trans hc⟩
  .intro d' aa g hg ha;rcases List.mem_append.1 aa with hd|hd
   .exact hA.awc d' hd g hg ha
   rw[zjW] at hd;rw[hd] at hg;have h1:=hcn g hg;have h2:=(hA.wait.lt g ha).2;omega
  show(V.ds++[(d,cv)]).Pairwise λd e=>∀g,d.2.ownBlock=some g->e.2.ownBlock≠some g;rw[List.pairwise_append];refine⟨hA.acc,List.pairwise_singleton _ _,λa ha b hb g hg ad=>?_⟩;rw[zjW] at hb;rw[hb] at ad;have h1:=hcn g ad;have h2:=((hA.cert a ha).lt g hg).2;omega
 refine⟨λk=>F k\/v'.ownBlock=some k\/cv.ownBlock=some k,?_⟩;refine h.zgK ⟨_,hN,λk hk=>?_⟩ rfl (λk hk=>?_) (λk hk=>?_) { hs with block:=λk hk hn=>hs.block k hk (λx=>x.elim (λx=>hn (x▸hf nb (zj0 rfl))) (λx=>hn (hf k (zj1 (zj1 (zj0 x.symm)))))) }
 .rcases hk with rfl|rfl|e|e|e|e|e|⟨d',aa,e⟩
  .exact zj0 (hf _ (zj0 rfl))
  .exact zj0 (hf _ (zj1 (zj0 rfl)))
  .exact zj1 (zj0 e)
  .exact zj0 (hf k (zj1 (zj1 (zj1 (zj0 e)))))
  .exact zj0 (hf k (zj1 (zj1 (zj1 (zj1 (zj0 e))))))
  .exact zj0 (hf k (zj1 (zj1 (zj1 (zj1 (zj1 (zj0 e)))))))
  .exact zj0 (hf k (zj1 (zj1 (zj1 (zj1 (zj1 (zj1 (zj0 e))))))))
  rcases List.mem_append.1 aa with hd|hd
  .exact zj0 (hf k (zj1 (zj1 (zj1 (zj1 (zj1 (zj1 (zj1 ⟨d',hd,e⟩))))))))
  rw[zjW] at hd;rw[hd] at e;exact zj1 (zj1 e)
 .rcases hk with hk|hk|hk
  .exact zj0 hk
  .rcases hv k hk with h1|h1
   .exact zj0 (hf k (zj1 (zj1 (zj0 h1))))
   exact zj1 h1
  exact zj1 (hcn k hk)
 rcases hk with hk|hk|hk
 .exact zjE (h.fl k hk).2 hs.size
 .exact (hown.lt k hk).2
 exact(hc.lt k hk).2
end
section
variable{w:World}{n g cap nb kb cb:Nat}{V:yc}{s:za}
theorem zcV{base e size k:Nat}{xs:List Value}{u:Value}(h:w.ownsRow base e size (.slice (some (aA g 0)) n cap) n xs):(w.setCell (aA g k) u).ownsRow base e size (.slice (some (aA g 0)) n cap) n (xs.set k u):=by
 refine⟨by rw[List.length_set];exact h.1,?_⟩;rcases h.2 with⟨h1,_⟩|⟨g1,cap1,cur,h1,hb,hg,aa,ae,ad,ht⟩
 .cases h1
 cases h1;refine zj1 ⟨g,cap,cur.setIfInBounds k u,rfl,hb,setCell_row hg k u,aa,ae,by rw[Array.size_setIfInBounds];exact ad,?_⟩;rw[Array.toList_setIfInBounds,List.take_set,ht]
theorem Gq(u:Bool):∀(l:List (xC×Value)) (j:Nat),j<l.length->(Zi l).set (j*4+3) (bA u)=Zi (l.set j ({ (l.getD j (yr,.nilIface)).1 with told:=u },(l.getD j (yr,.nilIface)).2))
 | [],j,h=>by simp at h
 |d::l,0,_=>by
  simp[Zi,zb7]
 |d::l,j+1,h=>by
  have ih:=Gq u l j (by simpa using h);have e1:Zi (d::l)=(zb7 d).toList++Zi l:=rfl;have e2:(zb7 d).toList.length=4:=rfl;have e3:(d::l).getD (j+1) (yr,.nilIface)=l.getD j (yr,.nilIface):=by simp
  rw[e1,List.set_append_right _ _ (by rw[e2];omega),e2,show(j+1)*4+3-4=j*4+3 by omega,ih,e3,List.set_cons_succ];rfl
theorem NodeAt.ziq(h:NodeAt nb kb cb V s w)(j:Nat)(hj:j<s.dec.length):∃g cap cv,V.dv=.slice (some (aA g 0)) s.dec.length cap/\s.dec.length<=maxLen/\V.ds[j]? =some (s.dec.getD j yr,cv)/\w.cell? (aA g (j*4+1))=some (sA (s.dec.getD j yr).prop)/\w.cell? (aA g (j*4+2))=some cv/\w.cell? (aA g (j*4+3))=some (bA (s.dec.getD j yr).told)/\(∃C,w.heap[g]? =some (.cells C 175 (0,0))/\C.size=cap*4)/\s.dec.length<=cap:=by
 have hl:V.ds.length=s.dec.length:=by
  have e:=congrArg List.length h.eds;rw[List.length_map] at e;exact e
 obtain⟨d,hd⟩:∃d,V.ds[j]? =some d:=⟨_,zjJ (by omega)⟩;have ad:d.1=s.dec.getD j yr:=by
  rw[<-h.eds,zjK,List.getElem?_map,hd];rfl
 rcases h.dec.2 with⟨_,h1⟩|⟨g,cap,cur,h1,hb,hg,hnc,hcm,ae,ht⟩
 .omega
 have aa:∀(l:List (xC×Value)) (j k:Nat) (d:xC×Value),k<4->l[j]? =some d->(Zi l)[j*4+k]? =(zb7 d).toList[k]? :=λl=>by
  induction l with
  |nil=>intro j k d _ hd;simp at hd
  |cons a l ih=>
   intro j k d hk hd;have e1:Zi (a::l)=(zb7 a).toList++Zi l:=rfl;cases j with
   |zero=>
    simp only[List.getElem?_cons_zero] at hd;cases hd;rw[e1,zjN (by show 0*4+k<4;omega),Nat.zero_mul,zj8]
   |succ j=>
    rw[List.getElem?_cons_succ] at hd;rw[e1,zjM (by show 4<=(j+1)*4+k;omega),show(j+1)*4+k-(zb7 a).toList.length=j*4+k by show(j+1)*4+k-4=_;omega];exact ih j k d hk hd
 have hc:∀k,k<4->w.cell? (aA g (j*4+k))=(zb7 d).toList[k]? :=λk hk=>by
  rw[zjD w g (j*4+k) _ _ _ hg,<-aa V.ds j k d hk hd,<-ht,zkc,zj2 (by omega),zkf]
 refine⟨g,cap,d.2,by rw[h1,hl],by omega,by rw[hd,<-ad],?_,hc 2 (by omega),?_,⟨cur,hg,ae⟩,by omega⟩
 .rw [<-ad];exact hc 1 (by omega)
 rw[<-ad];exact hc 3 (by omega)
theorem NodeW.zhx{B:Nat}{es:List Addr}{m:Int}{F R:Nat->Prop}{rb i j:Nat}(h:NodeW B es m F R nb kb rb cb n i s w)(hA:NodeAt nb kb cb V s w)(hf:∀k,V.zgH nb cb k->F k)(hv:V.dv=.slice (some (aA g 0)) s.dec.length cap)(hj:j<s.dec.length)(u:Bool):
 NodeW B es m F R nb kb rb cb n i { s with dec:=s.dec.set j { s.dec.getD j yr with told:=u } } (w.setCell (aA g (j*4+3)) (bA u))/\Goes F R w F R (w.setCell (aA g (j*4+3)) (bA u)):=by
 have hl:V.ds.length=s.dec.length:=by
  have e:=congrArg List.length hA.eds;rw[List.length_map] at e;exact e
 obtain⟨d,hd⟩:∃d,V.ds[j]? =some d:=⟨_,zjJ (by omega)⟩;have ag:V.ds.getD j (yr,.nilIface)=d:=by rw[zjK,hd];rfl
 have af:d∈V.ds:=List.mem_of_getElem? hd;have ah:d.1=s.dec.getD j yr:=by
  rw[<-hA.eds,zjK,List.getElem?_map,hd];rfl
 have ho:kq g w (w.setCell (aA g (j*4+3)) (bA u)):=zf w g (j*4+3) _;have aa:V.dv.ownBlock=some g:=by rw[hv];rfl
 have ai:F g:=hf g (zj1 (zj1 (zj0 aa)));have ae:(V.ds.set j ({ d.1 with told:=u },d.2)).map (·.2)=V.ds.map (·.2):=by
  apply List.ext_getElem?;intro k;rw[List.getElem?_map,List.getElem?_map,List.getElem?_set];split
  .rename_i e;rw[<-e,hd,zj2 (by omega)];rfl
  rfl
 have ad:∀x,x∈V.ds.set j ({ d.1 with told:=u },d.2)->∃y,y∈V.ds/\y.2=x.2/\y.1.cert=x.1.cert:=λx hx=>by
  rcases List.mem_or_eq_of_mem_set hx with h1|h1
  .exact ⟨x,h1,rfl,rfl⟩
  rw[h1];exact⟨d,af,rfl,rfl⟩
 have hk:NodeAt nb kb cb { V with ds:=V.ds.set j ({ d.1 with told:=u },d.2) } { s with dec:=s.dec.set j { s.dec.getD j yr with told:=u } } (w.setCell (aA g (j*4+3)) (bA u)):=by
  refine⟨?_,?_,?_,?_,?_,?_,?_,?_,?_,hA.alog,?_,?_⟩
  .exact (ho.block nb (λe=>hA.rows.1 (e▸aa))).trans hA.blk
  .show (V.ds.set j _).map (·.1)=s.dec.set j _
   rw[List.map_set,hA.eds,<-ah]
  .show World.ownsRow _ 0 175 4 V.dv (V.ds.set j _).length (Zi (V.ds.set j _));have h1:=hA.dec;have h2:=Gq u V.ds j (by omega);rw[ag] at h2;rw[List.length_set,<-h2];rw[hv,<-hl] at h1 ⊢;exact zcV h1
  .intro x hx;obtain⟨y,hy,e1,e2⟩:=ad x hx;rw[<-e1,<-e2];exact zb (hA.cert y hy) λk hk _=>ho.block k (λe=>zO (hA.cert y hy) hA.dec (by decide) k hk (e▸aa))
  .exact zb hA.wait λk hk _=>ho.block k (λe=>zO hA.wait hA.dec (by decide) k hk (e▸aa))
  .exact zb hA.log λk hk _=>ho.block k (λe=>zO hA.log hA.dec (by decide) k hk (e▸aa))
  .exact zb hA.ahead λk hk _=>ho.block k (λe=>zO hA.ahead hA.dec (by decide) k hk (e▸aa))
  .exact zb hA.tims λk hk _=>ho.block k (λe=>zO hA.tims hA.dec (by decide) k hk (e▸aa))
  .obtain ⟨a,b,hc⟩:=hA.chan
   exact⟨a,b,(ho.block cb (λe=>yD hA.dec hA.chan (e▸aa))).trans hc⟩
  .intro x hx k hk;obtain⟨y,hy,e1,e2⟩:=ad x hx;exact hA.awc y hy k (by rw[e1];exact hk)
  have h1:(V.ds.map (·.2)).Pairwise λa b:Value=>∀g,a.ownBlock=some g->b.ownBlock≠some g:=by
   rw[List.pairwise_map];exact hA.acc
  show(V.ds.set j ({ d.1 with told:=u },d.2)).Pairwise λd e=>∀g,d.2.ownBlock=some g->e.2.ownBlock≠some g;rw[<-ae,List.pairwise_map] at h1;exact h1
 refine h.zgK ⟨_,hk,λk hk=>?_⟩ rfl (λk hk=>zj0 hk) (λk hk=>by rw[ho.size];exact(h.fl k hk).2) (Jx ho ai);rcases hk with e|e|e|e|e|e|e|⟨x,hx,e⟩
 .exact hf k (zj0 e)
 .exact hf k (zj1 (zj0 e))
 .exact hf k (zj1 (zj1 (zj0 e)))
 .exact hf k (zj1 (zj1 (zj1 (zj0 e))))
 .exact hf k (zj1 (zj1 (zj1 (zj1 (zj0 e)))))
 .exact hf k (zj1 (zj1 (zj1 (zj1 (zj1 (zj0 e))))))
 .exact hf k (zj1 (zj1 (zj1 (zj1 (zj1 (zj1 (zj0 e)))))))
 obtain⟨y,hy,e1,e2⟩:=ad x hx;exact hf k (zj1 (zj1 (zj1 (zj1 (zj1 (zj1 (zj1 ⟨y,hy,by rw[e1];exact e⟩)))))))

import Derived.Stop.Asserts
import Derived.RowKitTokens
import Derived.Test.YtcfjhbcpjpgodaaGreatDoorLogDel
import Derived.Sort.OwnSorted
import Derived.Test.YtcfjhbcpjpgodaaGreatDoorShelfC
import Derived.Test.YtcfjhbcpjpgodaaGreatDoorJ23
import Derived.Test.YtcfjhbcpjpgodaaGreatDoorJ27
namespace Go.Proofs.YtcfjhbcpjpgodaaGreatDoor
open Go.RowKit
set_option maxRecDepth 100000
set_option maxHeartbeats 0
set_option linter.all false
section
open Go.Extern.Stop Go.Stop Go.Extern Proofs.Tryz
theorem Tryz.zeY(t:Addr)(w:World):(ReflectliteValue.unpack (.iface 201 (.pointer (some t)))).run prog w
 =.ok (.agg #[.pointer (some ⟨16,201,none⟩),.pointer (some ⟨w.heap.size,0,none⟩),.int .u64 150]) (w.alloc (.cells #[.pointer (some t)] 201)):=by kernel_rfl
theorem Tryz.zfC(a:Addr)(w:World):(ReflectliteValue.methodAny (ReflectliteValue.valueError "reflectlite.Value.Type" 0) (λt _ _ _=>ReflectliteType.toType t) #[.agg #[.pointer (some ⟨16,201,none⟩),.pointer (some a),.int .u64 150]]).run prog w
 =.ok (.iface 211 (.agg #[.pointer (some ⟨16,201,none⟩)])) w:=by kernel_rfl
theorem Tryz.zeL(h:Value)(w:World):(Go.method 423 211 (.agg #[h]) "Kind").run prog w=.ok (232,h) w:=by kernel_rfl
theorem Tryz.zfD(w:World):((ReflectliteType.abiMethod λt=>Functor.map (λa:Nat=>Value.int IntKind.u8 (a:Int)) (Rtype.kind t)) #[.pointer (some ⟨16,201,none⟩)]).run prog w=.ok (.int .u8 22) w:=by kernel_rfl
theorem Tryz.zfE(w:World):((ReflectliteType.abiMethod λt=>Functor.map (λa:Nat=>Value.int IntKind.u8 (a:Int)) (Rtype.kind t)) #[.pointer (some ⟨16,158,none⟩)]).run prog w=.ok (.int .u8 22) w:=by kernel_rfl
theorem rlm(z:Sem Value)(f:TypeId->Addr->Nat->Nat->Sem Value)(v:Value):
 ReflectliteValue.method z f #[v]=(do match <-ReflectliteValue.parts v with|none=>z|some (t,a,fl)=>f t a fl (fl % 32)):=rfl
theorem Tryz.zeD(a:Addr)(w:World):(ReflectliteValue.parts (.agg #[.pointer (some ⟨16,201,none⟩),.pointer (some a),.int .u64 150])).run prog w=.ok (some (201,a,150)) w:=by kernel_rfl
theorem Tryz.zfs(a p:Addr)(W:World)(ha:W.cell? a=some (.pointer (some p))):
 (ReflectliteValue.method (ReflectliteValue.valueError "reflectlite.Value.IsNil" 0) ReflectliteValue.isNil #[.agg #[.pointer (some ⟨16,201,none⟩),.pointer (some a),.int .u64 150]]).run prog W=.ok (.bool false) W:=by
 rw[rlm];simp only[Sem.run_bind,Tryz.zeD,Result.andThen];simp[ReflectliteValue.isNil,loadVar,isAgg,underlying,underlying201,ha,Result.andThen]
theorem Tryz.zeM(h:Value)(w:World):(Go.method 423 211 (.agg #[h]) "Elem").run prog w=.ok (240,.agg #[h]) w:=by kernel_rfl
theorem Tryz.zee(h:Value)(w:World):(Go.method 423 211 (.agg #[h]) "Implements").run prog w=.ok (241,.agg #[h]) w:=by kernel_rfl
theorem Tryz.zd6(h:Value)(w:World):(Go.method 423 211 (.agg #[h]) "AssignableTo").run prog w=.ok (238,.agg #[h]) w:=by kernel_rfl
theorem Tryz.zfF(w:World):(ReflectliteType.method ReflectliteType.elem #[.agg #[.pointer (some ⟨16,201,none⟩)]]).run prog w=.ok (.iface 211 (.agg #[.pointer (some ⟨16,158,none⟩)])) w:=by kernel_rfl
theorem Tryz.zeu(w:World):(ReflectliteType.relation "Implements" ReflectliteType.implements_ #[.agg #[.pointer (some ⟨16,158,none⟩)],.iface 211 (.agg #[.pointer (some ⟨16,42,none⟩)])]).run prog w=.ok (.bool true) w:=by kernel_rfl
theorem Tryz.ze7(v:Value)(w:World):(ReflectliteType.typeOf #[.iface 158 v]).run prog w=.ok (.iface 211 (.agg #[.pointer (some ⟨16,158,none⟩)])) w:=by kernel_rfl
theorem Tryz.zev(w:World):(ReflectliteType.relation "AssignableTo" ReflectliteType.assignableTo #[.agg #[.pointer (some ⟨16,158,none⟩)],.iface 211 (.agg #[.pointer (some ⟨16,158,none⟩)])]).run prog w=.ok (.bool true) w:=by kernel_rfl
theorem Tryz.zeZ(e:Addr)(w:World):(ReflectliteValue.unpack (.iface 158 (.pointer (some e)))).run prog w
 =.ok (.agg #[.pointer (some ⟨16,158,none⟩),.pointer (some ⟨w.heap.size,0,none⟩),.int .u64 150]) (w.alloc (.cells #[.pointer (some e)] 158)):=by kernel_rfl
theorem Tryz.ze9(w:World):(Rtype.elem? 201).run prog w=.ok (some 158) w:=by kernel_rfl
theorem Tryz.zf5(p:Addr)(w:World):(ReflectliteValue.mk 158 p ReflectliteValue.flagAddr).run prog w=.ok (.agg #[.pointer (some ⟨16,158,none⟩),.pointer (some p),.int .u64 406]) w:=by kernel_rfl
theorem Tryz.zft(a p:Addr)(W:World)(ha:W.cell? a=some (.pointer (some p))):
 (ReflectliteValue.method (ReflectliteValue.valueError "reflectlite.Value.Elem" 0) ReflectliteValue.elem #[.agg #[.pointer (some ⟨16,201,none⟩),.pointer (some a),.int .u64 150]]).run prog W
  =.ok (.agg #[.pointer (some ⟨16,158,none⟩),.pointer (some p),.int .u64 406]) W:=by
 rw[rlm];simp only[Sem.run_bind,Tryz.zeD,Result.andThen];simp[ReflectliteValue.elem,loadVar,isAgg,underlying,underlying201,ha,Result.andThen,Tryz.ze9,Tryz.zf5]
theorem rls(v x:Value):ReflectliteValue.set #[v,x]=(do
 let (some (dst,a,fl),some (src,b,_)):=(<-ReflectliteValue.parts v,<-ReflectliteValue.parts x)
  |unsupported (.noEntry "extern/(internal/reflectlite.Value).Set.zeroValue")
 if fl / ReflectliteValue.flagAddr % 2==0 then unsupported (.noEntry "extern/(internal/reflectlite.Value).Set.unaddressable")
 let val <-loadVar src b
 if <-Rtype.directlyAssignable dst src then storeVar dst a val
 else if <-Rtype.implements dst src then
  if(<-Rtype.kind src)==20 then
   match val with
   | .nilIface=>unsupported (.noEntry "extern/reflectlite: a nil value of one interface type handed on as a value of another")
   |_=>storeVar dst a val
  else storeVar dst a (.iface src val)
 else panicString ("reflectlite.Set: value of type " ++(<-Rtype.spelt src)++ " is not assignable to type " ++(<-Rtype.spelt dst))
 pure (.tuple #[])):=rfl
theorem Tryz.ze8(a:Addr)(w:World):(ReflectliteValue.parts (.agg #[.pointer (some ⟨16,158,none⟩),.pointer (some a),.int .u64 406])).run prog w=.ok (some (158,a,406)) w:=by kernel_rfl
theorem Tryz.zfr(a:Addr)(w:World):(ReflectliteValue.parts (.agg #[.pointer (some ⟨16,158,none⟩),.pointer (some a),.int .u64 150])).run prog w=.ok (some (158,a,150)) w:=by kernel_rfl
theorem Tryz.zfa(w:World):(Rtype.directlyAssignable 158 158).run prog w=.ok true w:=by kernel_rfl
theorem Tryz.zfU(ta b e:Addr)(old:Value)(W:World)(hb:W.cell? b=some (.pointer (some e)))(ht:W.cell? ta=some old)(hf:W.frozen? ta=false):
 (ReflectliteValue.set #[.agg #[.pointer (some ⟨16,158,none⟩),.pointer (some ta),.int .u64 406],.agg #[.pointer (some ⟨16,158,none⟩),.pointer (some b),.int .u64 150]]).run prog W
  =.ok (.tuple #[]) (W.setCell ta (.pointer (some e))):=by
 rw[rls];simp only[Sem.run_bind,Tryz.ze8,Tryz.zfr,Result.andThen];simp[ReflectliteValue.flagAddr,loadVar,isAgg,underlying,underlying158,hb,Result.andThen,Tryz.zfa,storeVar,Value.cells,storeCells,Addr.add];rw[run_store prog W ta _ _ (by rfl)];simp[ht,hf]
theorem zcs(e t:Addr)(old:Value)(w:World)(hg:w.cell? ⟨12,0,none⟩=some (.iface 211 (.agg #[.pointer (some ⟨16,42,none⟩)])))(ht0:w.cell? t=some old)(hf0:w.frozen? t=false):
 Calls prog 120 #[.iface 158 (.pointer (some e)),.iface 201 (.pointer (some t))] w λev w'=>ev=.returned (.bool true)/\w'=((((w.alloc (.cells #[.pointer (some t)] 201)).alloc (.cells #[.pointer (some ⟨16,201,none⟩),.pointer (some ⟨w.heap.size,0,none⟩),.int .u64 150] 252)).alloc (.cells #[.pointer (some ⟨16,201,none⟩),.pointer (some ⟨w.heap.size,0,none⟩),.int .u64 150] 252)).alloc (.cells #[.pointer (some e)] 158)).setCell t (.pointer (some e)):=by
 have h6:=@run_callFunc_extern prog 172 _ (λargs=>ReflectliteValue.unpack (args.getD 0 (.tuple #[]))) func172 (by kernel_rfl) (by kernel_rfl) (by kernel_rfl) (by kernel_rfl);have h7:=@run_callFunc_extern prog 173 _ (ReflectliteValue.methodAny (ReflectliteValue.valueError "reflectlite.Value.Type" 0) (λt _ _ _=>ReflectliteType.toType t)) func173 (by kernel_rfl) (by kernel_rfl) (by kernel_rfl) (by kernel_rfl);have h8:=@run_callFunc_extern prog 174 _ (ReflectliteValue.method (ReflectliteValue.valueError "reflectlite.Value.IsNil" 0) ReflectliteValue.isNil) func174 (by kernel_rfl) (by kernel_rfl) (by kernel_rfl) (by kernel_rfl);have h27:=@run_callFunc_extern prog 232 _ (ReflectliteType.abiMethod λt=>do pure (.int .u8 (<-Rtype.kind t))) func232 (by kernel_rfl) (by kernel_rfl) (by kernel_rfl) (by kernel_rfl);have h37:=@run_callFunc_extern prog 240 _ (ReflectliteType.method ReflectliteType.elem) func240 (by kernel_rfl) (by kernel_rfl) (by kernel_rfl) (by kernel_rfl);have h38:=@run_callFunc_extern prog 241 _ (ReflectliteType.relation "Implements" ReflectliteType.implements_) func241 (by kernel_rfl) (by kernel_rfl) (by kernel_rfl) (by kernel_rfl);have h10:=@run_callFunc_extern prog 83 _ ReflectliteType.typeOf func83 (by kernel_rfl) (by kernel_rfl) (by kernel_rfl) (by kernel_rfl);have h35:=@run_callFunc_extern prog 238 _ (ReflectliteType.relation "AssignableTo" ReflectliteType.assignableTo) func238 (by kernel_rfl) (by kernel_rfl) (by kernel_rfl) (by kernel_rfl);have h11:=@run_callFunc_extern prog 195 _ (ReflectliteValue.method (ReflectliteValue.valueError "reflectlite.Value.Elem" 0) ReflectliteValue.elem) func195 (by kernel_rfl) (by kernel_rfl) (by kernel_rfl) (by kernel_rfl);have h12:=@run_callFunc_extern prog 196 _ ReflectliteValue.set func196 (by kernel_rfl) (by kernel_rfl) (by kernel_rfl) (by kernel_rfl);have tO:=Tryz.ze7;have mA:=Tryz.zd6;have a25:=Tryz.zev;have v25:=Tryz.zeZ;have f6:=Tryz.zeY;have f7:=Tryz.zfC;have mK:=Tryz.zeL;have mE:=Tryz.zeM;have mI:=Tryz.zee;have k27:=Tryz.zfD;have k25:=Tryz.zfE;have e27:=Tryz.zfF;have i25:=Tryz.zeu;have n8:=Tryz.zfs ⟨w.heap.size,0,none⟩ t ((w.alloc (.cells #[.pointer (some t)] 201)).alloc (.cells #[.pointer (some ⟨16,201,none⟩),.pointer (some ⟨w.heap.size,0,none⟩),.int .u64 150] 252)) (by simp);have ab:12<w.heap.size:=zgx _ _ hg;have hg2:((w.alloc (.cells #[.pointer (some t)] 201)).alloc (.cells #[.pointer (some ⟨16,201,none⟩),.pointer (some ⟨w.heap.size,0,none⟩),.int .u64 150] 252)).cell? ⟨12,0,none⟩=some (.iface 211 (.agg #[.pointer (some ⟨16,42,none⟩)])):=by
  rw[World.cell?_alloc_lt _ _ ⟨12,0,none⟩ (by simp;omega),World.cell?_alloc_lt _ _ ⟨12,0,none⟩ ab];exact hg
 have aa:t.block<w.heap.size:=by
  rcases Nat.lt_or_ge t.block w.heap.size with h|h
  .exact h
  simp[World.cell?,Array.getElem?_eq_none h] at ht0
 have el:=Tryz.zft ⟨w.heap.size,0,none⟩ t (((w.alloc (.cells #[.pointer (some t)] 201)).alloc (.cells #[.pointer (some ⟨16,201,none⟩),.pointer (some ⟨w.heap.size,0,none⟩),.int .u64 150] 252)).alloc (.cells #[.pointer (some ⟨16,201,none⟩),.pointer (some ⟨w.heap.size,0,none⟩),.int .u64 150] 252)) (by rw[World.cell?_alloc_lt _ _ ⟨w.heap.size,0,none⟩ (by simp;omega)];simp);have st:=Tryz.zfU t ⟨w.heap.size+1+1+1,0,none⟩ e old ((((w.alloc (.cells #[.pointer (some t)] 201)).alloc (.cells #[.pointer (some ⟨16,201,none⟩),.pointer (some ⟨w.heap.size,0,none⟩),.int .u64 150] 252)).alloc (.cells #[.pointer (some ⟨16,201,none⟩),.pointer (some ⟨w.heap.size,0,none⟩),.int .u64 150] 252)).alloc (.cells #[.pointer (some e)] 158))
  (by rw[World.cell?_alloc_at _ _ _ _ (by simp)];rfl)
  (by rw[World.cell?_alloc_lt _ _ t (by simp;omega),World.cell?_alloc_lt _ _ t (by simp;omega),World.cell?_alloc_lt _ _ t (by simp;omega),World.cell?_alloc_lt _ _ t aa];exact ht0)
  (by rw[World.frozen?_alloc_old _ _ t (by simp;omega),World.frozen?_alloc_old _ _ t (by simp;omega),World.frozen?_alloc_old _ _ t (by simp;omega),World.frozen?_alloc_old _ _ t (Nat.ne_of_lt aa)];exact hf0)
 go_enter func120,ntmps120;go_wp2;refine wp_loop_rounds 1 ?_;rw[rounds_succ];go_wp2;go_ret;exact⟨rfl,rfl⟩
end
section
open Go.Sort Proofs.Tryz
variable{t:zgW}
def Tryz.zf0:Go.Shelf.Ren:=⟨λ|24=>204|n=>n,λ|24=>30|n=>n,λn=>n⟩
theorem Tryz.zfK:Go.Proofs.Lays2.n24 prog Tryz.zf0:={
 mixed:=by kernel_rfl
 f24:=func204.trans (congrArg some (by kernel_rfl))
 t0:=by kernel_rfl
 a0:=λ_=>by kernel_rfl
 z0:=λ_=>by kernel_rfl
 v0:=λ_=>by kernel_rfl
 t3:=by kernel_rfl
 a3:=λ_=>by kernel_rfl
 z3:=λ_=>by kernel_rfl
 v3:=λ_=>by kernel_rfl
 t4:=by kernel_rfl
 a4:=λ_=>by kernel_rfl
 z4:=λ_=>by kernel_rfl
 v4:=λ_=>by kernel_rfl
 t9:=by kernel_rfl
 a9:=λ_=>by kernel_rfl
 z9:=λ_=>by kernel_rfl
 v9:=λ_=>by kernel_rfl
 t24:=by kernel_rfl
 a24:=λ_=>by kernel_rfl
 z24:=λ_=>by kernel_rfl
 v24:=λ_=>by kernel_rfl
 i9:=by kernel_rfl }
theorem GX(b:zgW):encStr b.data.toList=Value.string b:=by
 show Value.string ⟨b.data.toList.toArray⟩=Value.string b;rw[Array.toArray_toList]
theorem zbX(L:List zgW):(L.map λb=>b.data.toList).map encStr=L.map .string:=by
 rw[List.map_map];exact List.map_congr_left λb _=>GX b
theorem Jw(g cap i base:Nat)(L:List zgW)(w:World)(h:w.ownsRow base 9 1 (.slice (some (aA g 0)) L.length cap) L.length (L.map .string))(hi:i<L.length):
 Calls prog 204 #[.slice (some (aA g 0)) L.length cap,iA i,iA ((i+1:Nat):Int)] w λe w'=>e=.returned (.slice (some (aA g 0)) (L.eraseIdx i).length cap)/\w'.ownsRow base 9 1 (.slice (some (aA g 0)) (L.eraseIdx i).length cap) (L.eraseIdx i).length ((L.eraseIdx i).map .string)/\zm (λk=>k=g) w w':=by
 rcases h.2 with⟨e0,_⟩|⟨g',cap',cur,e0,hb,hg,hn,hc,hs,ht⟩
 .cases e0
 cases e0;obtain⟨zs,ae⟩:=gen (L.map λb=>b.data.toList);have ab:zs.length=L.length:=by rw[ae,List.length_map]
 have af:zs.map encStr=L.map .string:=by rw[ae];exact zbX L
 have hH:Holds encStr w g 0 zs.toArray:=holds_of_block hg (by rw[ab,af];simpa using ht);have hD:=Any.slices_Delete_string Tryz.zfK g 0 cap i (i+1) zs w hH (by rw[ab];exact hn) (by unfold maxLen at hc;omega) (by omega) (by omega);rw[ab] at hD;refine Calls.mono hD ?_;rintro e w' ⟨rfl,q,rfl⟩;have ai:(L.eraseIdx i).length=L.length-1:=by rw[List.length_eraseIdx,zgT hi]
 have e1:i+1-i=1:=by omega
 obtain⟨ts,ad⟩:=gen (zs.take i++zs.drop (i+1)++List.replicate (i+1-i) []);have htl:ts.length=L.length:=by
  rw[ad,e1];simp only[List.length_append,List.length_take,List.length_drop,List.length_replicate,ab];omega
 have h3:ts.map encStr=(L.eraseIdx i).map Value.string++[encStr []]:=by
  rw[ad,e1,List.map_append,List.map_append,List.map_take,List.map_drop,af,<-List.map_take,<-List.map_drop,<-List.map_append,<-List.eraseIdx_eq_take_drop_succ];rfl
 have aj:(L.eraseIdx i).map Value.string=(ts.map encStr).take (L.eraseIdx i).length:=by
  rw[h3,List.take_append_of_le_length (by rw[List.length_map];exact zgp _),List.take_of_length_le (by rw[List.length_map];exact zgp _)]
 have aa:(putRow encStr (Sort.ahead w q) g 0 ts.toArray).heap[g]? =some (.cells (putCells encStr 0 ts.toArray cur) 9 (0,0)):=by
  have h1:=heap_sorted (n:=q) (os:=#[]) ts.toArray hg
  rwa [grow_empty] at h1
 have ag:w.grownBy (putRow encStr (Sort.ahead w q) g 0 ts.toArray) (some g):=by
  have h1:=grownBy_sorted (w:=w) (g:=g) (n:=q) (os:=#[]) ts.toArray
  rwa [grow_empty] at h1
 rw[<-ad];refine⟨by rw[e1,ai],⟨by rw[List.length_map,Nat.mul_one],zgS ⟨g,cap,_,rfl,hb,aa,by omega,hc,by simp[putCells,hs],?_⟩⟩,{ ag with block:=λk hk ah=>ag.block k hk (λe=>ah (by simpa using e)) }⟩;have h2:=take_putCells cur ts (by omega);rw[Nat.mul_one,aj,<-h2,List.take_take,Nat.min_eq_left (by omega)]
def zba(t:zgW):List zgW->Nat->Int
 | [],_=> -1
 |e::l,k=>if e=t then(k:Int) else zba t l (k+1)
theorem ZD:∀(l:List zgW) (k:Nat),(∀e∈l,e≠t)->zba t l k= -1
 | [],_,_=>rfl
 |e::l,k,h=>by
  unfold zba;rw[zgU (h e (zgL ..))];exact ZD l (k+1) λx hx=>h x (List.mem_cons_of_mem _ hx)
theorem ZC:∀(l:List zgW) (k j:Nat),j<l.length->(∀e∈l.take j,e≠t)->l.getD j zgV=t->zba t l k=((k+j:Nat):Int)
 | [],_,j,h,_,_=>by simp at h
 |e::l,k,0,_,_,ht=>by
  unfold zba;rw[zgT (show e=t from ht)];rfl
 |e::l,k,j+1,hj,ha,ht=>by
  unfold zba;rw[zgU (ha e (by simp)),ZC l (k+1) j (by simpa using hj) (λx hx=>ha x (by rw[List.take_succ_cons];exact List.mem_cons_of_mem _ hx)) (by simpa using ht)]
  congr 1
  omega
theorem V6(l:List zgW)(t:zgW)(p:Option Addr)(cap:Nat)(w:World)(hl:kG w w.heap.size p l.length (λi=>sA (l.getD i zgV)))(hm:l.length<=maxLen):
 Calls prog 203 #[.slice p l.length cap,sA t] w λe w'=>e=.returned (iA (zba t l 0))/\BW w w':=by
 have HL:=zc hl;have hmx:l.length<=9223372036854775807:=by unfold maxLen at hm;omega
 clear hl hm;go_enter func203,ntmps203;go_wp2;go_loopw [5,8] (λ_ i wr=>∃j:Nat,j<=l.length/\i=iA j/\(∀e∈l.take j,e≠t)/\BW w wr) (λ_ i _=>l.length-(intOf i).toNat)
 case atStart=>exact⟨0,zgv _,rfl,λe he=>by simp at he,zgq _ _⟩
 obtain⟨j,hj,rfl,ag,hb⟩:=hrel;obtain⟨HB,af⟩:=ze hb ag;clear hb ag;by_cases aa:j=l.length
 .have HI:Hid (zba t l 0= -1):=ZD l 0 (by have h:=af.o;rw[aa,zg7] at h;exact h);have hge:¬(j:Int)<l.length:=by omega
  clear aa;go_wp2;go_ret;exact⟨by rw[HI.o];rfl,HB⟩
 have ad:j<l.length:=by omega
 have aj:(j:Int)<l.length:=by omega
 obtain⟨b,o,rfl,ak,ai⟩:=HL.o.below HB j ad;obtain⟨ev,ae⟩:=gen (l.getD j zgV);simp only[<-ae] at ai;have ah:=zc ae;clear ae ak;by_cases ab:ev=t
 .have HI:Hid (zba t l 0=(j:Int)):=by
   unfold Hid;rw[ZC l 0 j ad af.o (by rw[<-ah.o];exact ab),zg0]
  subst ab;go_wp2;go_ret;exact⟨by rw[HI.o];rfl,HB⟩
 have q1:=kP (Ne.symm ab);have al:Hid (∀e∈l.take (j+1),e≠t):=by
  intro e he;rw[zy l zgV j ad,zgK] at he;rcases he with he|he
  .exact af e he
  rw[zgM] at he;rw[he,<-ah.o];exact ab
 go_wp2;go_roundw
 case rel=>exact⟨j+1,by omega,by go_num,al.o,HB.o⟩
 simp[intOf];omega
end
section
open Proofs.Tryz
variable{t:zgW}
def pcs(t:zgW):List zgW:=Lib.splitB comma 0 (Lib.countB t comma) t
theorem VI(t:zgW):(pcs t).length=Lib.countB t comma+1:=Lib.splitB_all comma (by decide) 0 _ t rfl
theorem QU(t:zgW)(m:Int)(w:World)(hs:t.size<4294967281)(hm:w.cell? (aA 13 0)=some (iA m)):
 Calls prog 202 #[sA t,sA ⟨#[44]⟩] w λe w'=>e=.returned (.slice (some (aA w.heap.size 0)) (pcs t).length (pcs t).length)/\w'=w.alloc (.cells ((pcs t).map Value.string).toArray 9):=by
 refine(Tryz.strings_Split t comma m w hs hm (by decide)).mono ?_;rintro e w' ⟨rfl,rfl⟩;exact⟨by rw[VI],rfl⟩
def yO(t:zgW):List zgW->List zgW
 | []=>[]
 |e::l=>if e=t then l else e::yO t l
theorem vT:∀(l:List zgW),(∀e∈l,e≠t)->yO t l=l
 | [],_=>rfl
 |e::l,h=>by
  unfold yO;rw[zgU (h e (zgL ..)),vT l λx hx=>h x (List.mem_cons_of_mem _ hx)]
theorem ZK:∀(l:List zgW) (j:Nat),j<l.length->(∀e∈l.take j,e≠t)->l.getD j zgV=t->yO t l=l.eraseIdx j
 | [],j,h,_,_=>by simp at h
 |e::l,0,_,_,ht=>by
  unfold yO;rw[zgT (show e=t from ht)];rfl
 |e::l,j+1,hj,ha,ht=>by
  unfold yO;rw[zgU (ha e (by simp)),ZK l j (by simpa using hj) (λx hx=>ha x (by rw[List.take_succ_cons];exact List.mem_cons_of_mem _ hx)) (by simpa using ht)];rfl
theorem YA(t:zgW):∀l:List zgW,(∀e∈l,e≠t)\/∃k,k<l.length/\(∀e∈l.take k,e≠t)/\l.getD k zgV=t
 | []=>zgR (by simp)
 |e::l=>by
  by_cases he:e=t
  .exact zgS ⟨0,by simp,by simp,by simpa using he⟩
  .rcases YA t l with h|⟨k,hk,ha,ht⟩
   .left;intro x hx;rcases List.mem_cons.1 hx with rfl|hx
    .exact he
    .exact h x hx
   .right;refine⟨k+1,by simpa using hk,?_,by simpa using ht⟩;intro x hx;rw[List.take_succ_cons] at hx;rcases List.mem_cons.1 hx with rfl|hx
    .exact he
    .exact ha x hx
def yu(l ps:List zgW):List zgW:=ps.foldl (λl t=>yO t l) l
theorem gC(l ps:List zgW)(k:Nat)(h:k<ps.length):yu l (ps.take (k+1))=yO (ps.getD k zgV) (yu l (ps.take k)):=by
 unfold yu;rw[zy ps zgV k h,List.foldl_append];rfl
theorem nodeA_wait(kb cb:Nat)(V:yg)(s:za)(v:Value)(l:List zgW):(nodeA kb cb V s).setIfInBounds 36 v=nodeA kb cb { V with wv:=v } { s with wait:=l }:=by
 unfold nodeA Kd;rfl
theorem Xg{B:Nat}{es:List Addr}{m:Int}{F R:Nat->Prop}{nb kb rb cb n i:Nat}{s:za}(t:zgW){w:World}(h:NodeW B es m F R nb kb rb cb n i s w)(ht:t.size<=1000000):
 Calls prog 186 #[pA nb 0,sA t] w λen w'=>en=.returned (.tuple #[])/\∃F',NodeW B es m F' R nb kb rb cb n i { s with wait:=yu s.wait (pcs t) } w'/\Goes F R w F' R w':=by
 have aH:=zc (QU t m w (by omega) h.glob.len);have HH:=zc h;obtain⟨ps,aC⟩:=gen (pcs t);rw[<-aC] at aH ⊢;have hpl:ps.length<=9223372036854775807:=by
  rw[aC];have h1:=Lib.splitB_length_le comma 0 (Lib.countB t comma) t;have h2:Lib.countB t comma<=t.size:=Lib.countB_le comma (by decide) t.size t (zgp _);unfold pcs;omega
 clear h ht aC;go_enter func186,ntmps186;go_wp2_with fail
 refine aH.o.mono ?_;rintro e w1 ⟨rfl,az⟩;have aT:Hid (BW w w1):=by rw[az];exact bwA w
 have aR:Hid (w1.heap[w.heap.size]? =some (.cells (ps.map Value.string).toArray 9 (0,0))):=by rw[az];exact zgr w _
 have aU:w.heap.size<w1.heap.size:=zj aR;have aZ:Hid (¬(F w.heap.size\/R w.heap.size)):=λx=>x.elim (λx=>zgO _ (HH.o.fl _ x).2) (λx=>zgO _ (HH.o.rl _ x).2);have a6:Hid (NodeW B es m F R nb kb rb cb n i s w1):=HH.o.below aT;clear az aH;go_wp2;go_loopw [5,6,10] (λ_ _ kv wr=>∃(k:Nat) (F':Nat->Prop),k<=ps.length/\kv=iA k/\NodeW B es m F' R nb kb rb cb n i { s with wait:=yu s.wait (ps.take k) } wr/\Goes F R w1 F' R wr) (λ_ _ kv _=>ps.length-(intOf kv).toNat)
 case atStart=>exact⟨0,F,zgv _,rfl,a6,Goes.refl _ _ _⟩
 obtain⟨k,F',hk,rfl,hn,aN⟩:=hrel;obtain⟨HN,ay⟩:=ze hn aN;clear hn aN;by_cases aq:k=ps.length
 .have hge:¬(k:Int)<ps.length:=by omega
  have ar:Hid (NodeW B es m F' R nb kb rb cb n i { s with wait:=yu s.wait ps } wr):=by
   have h:=HN.o;rw[aq,zg7] at h;exact h
  have HG:Hid (Goes F R w F' R wr):=(Goes.below aT).trans ay;clear aq;go_wp2;first|exact bodyPost_end (v:=.tuple #[]) (by simp[results,results186]) rfl ⟨rfl,F',ar.o,HG.o⟩|exact zgJ (v:=.tuple #[]) (by simp[results,results186]) rfl ⟨rfl,F',ar.o,HG.o⟩
 have aM:k<ps.length:=by omega
 have aV:(k:Int)<ps.length:=by omega
 have aK:wr.heap[w.heap.size]? =some (.cells (ps.map Value.string).toArray 9 (0,0)):=(ay.o.same.block _ aU aZ).trans aR;obtain⟨rc,aB⟩:=gen (ps.getD k zgV);have hpc:wr.cell? (nA w k)=some (sA rc):=by
  rw[zgs wr w.heap.size k _ _ _ aK,aB];simp[List.getD_eq_getElem?_getD,aM]
 have aa:=gC s.wait ps k aM;rw[<-aB] at aa;obtain⟨L,hL⟩:=gen (yu s.wait (ps.take k));rw[<-hL] at aa HN;have ag:=zc aa;clear aK aB aa hL;obtain⟨V,hA,hf⟩:=HN.o.node;obtain⟨p,c,ewv,aE,ad⟩:=zL hA.wait;have aG:wr.cell? (aA nb 36)=some (.slice p L.length c):=by rw[hA.cell 36 (v:=V.wv) rfl,ewv]
 obtain⟨ax,HA,HF⟩:=zC (V6 L rc p c wr ad aE) hA hf;clear hA hf ad;rcases YA rc L with ai|⟨j,hj,ai,aF⟩
 .rw [ZD L 0 ai] at ax;have HE:=zc (vT L ai);clear ai;go_wp2_with (first|(go_at_call 203;refine ax.o.mono ?_;rintro e w2 ⟨rfl,ak⟩;have an:=zc ak;clear ak)|fail)
  go_roundw
  case rel=>
   refine⟨k+1,F',by omega,by go_num,?_,ay.o.trans (Goes.below an.o)⟩;rw[ag.o,HE.o];exact HN.o.below an
  simp[intOf];omega
 rw[ZC L 0 j hj ai aF,zg0] at ax;have HE:=zc (ZK L j hj ai aF);have hjl:j<=9223372036854775806:=by
  have aD:L.length<=maxLen:=aE;unfold maxLen at aD;omega
 clear ai aF;obtain⟨g,rfl⟩:∃g,p=some (aA g 0):=by
  rcases HA.o.wait.2 with⟨_,h0⟩|⟨g,cap,cur,e0,_⟩
  .simp only at h0;omega
  rw[ewv] at e0;cases e0;exact⟨g,rfl⟩
 have aw:nb≠g:=λe=>(HA.o.rows).2.1 (by rw[ewv,e];rfl);obtain⟨HJ,al⟩:=ze hj ewv;clear hj aE ewv;go_wp2_with (first|(go_at_call 203;refine ax.o.mono ?_;rintro e w2 ⟨rfl,ak⟩;have an:=zc ak;have aj:cE w2 nb 36 (.slice (some (aA g 0)) L.length c):=(ak.cell (p:=(aA nb 36)) (by exact zj HA.o.blk)).trans aG;have aS:=zc (Jw g c j 0 L w2 (by have h:=(HA.o.below ak).wait;rw[al.o] at h;exact h) HJ);rw[show((j+1:Nat):Int)=(j:Int)+1 by omega] at aS;clear ak)|(go_at_call 204;refine aS.o.mono ?_;rintro e w3 ⟨rfl,ab,av⟩;have aY:=zc ab;have ao:=zc av;have aW:cE w3 nb 36 (.slice (some (aA g 0)) L.length c):=(zgw (w:=w2) (a:=(aA nb 36)) (av.block nb (zgx _ _ aj) aw)).trans aj;have aO:w3.frozen? (aA nb 36)=false:=zq ((av.block nb (zgx _ _ aj) aw).trans (HA.o.below an).blk) 36;clear ab av)|fail)
 have aJ:Hid (NodeAt nb kb cb V { s with wait:=L } w2):=HA.o.below an;have af:cL w3 nb (nodeA kb cb V { s with wait:=L }) 135:=(ao.o.block nb (zj aJ.o.blk) aw).trans aJ.o.blk;obtain⟨w4,au⟩:=gen (w3.setCell (aA nb 36) (.slice (some (aA g 0)) (L.eraseIdx j).length c));have ah:ko nb w3 w4:=by rw[au];exact zd _ _ _ _
 have ae:w4.heap[nb]? =some (.cells (nodeA kb cb { V with wv:=.slice (some (aA g 0)) (L.eraseIdx j).length c } { s with wait:=L.eraseIdx j }) 135 (0,0)):=by
  rw[au,setCell_row af,nodeA_wait kb cb V _ _ (L.eraseIdx j)]
 have hT:=(HN.o.below an).zeO (s':={ s with wait:=L.eraseIdx j }) (w':=w4) aJ HF (.slice (some (aA g 0)) (L.eraseIdx j).length c) ae (zb aY λg' e _=>ah.block g' (λx=>aw (x▸(by cases e;rfl)))) (zgR (by rw[al.o];rfl)) ⟨ah.os.trans ao.o.os,ah.tape.trans ao.o.tape,ah.output.trans ao.o.output,zgu ao.o.size (Nat.le_of_eq ah.size.symm),λq hq aL=>(ah.block q (λx=>aL (zgR x))).trans (ao.o.block q hq (λx=>aL (zgS (by rw[al.o,x];rfl))))⟩ rfl rfl rfl rfl rfl rfl;obtain⟨F2,aP,aQ⟩:=hT;obtain⟨a1,a7,aX⟩:=zC aP aQ au;clear aP aQ ah ae af au;first|rw[<-aX.o]|skip
 go_roundw
 case rel=>
  refine⟨k+1,F2,by omega,by go_num,?_,(ay.o.trans (Goes.below an.o)).trans a7.o⟩;rw[ag.o,HE.o];exact a1
 simp[intOf];omega
end
section
variable{t b:zgW}{x y:Nat->Int}{l:List zgW}
def QN(b t:zgW):zgW:=b++⟨#[44]⟩++t
theorem qQ(b t:zgW):(QN b t).data.toList=b.data.toList++44::t.data.toList:=by
 unfold QN;rw[ByteArray.data_append,ByteArray.data_append,Array.toList_append,Array.toList_append];simp
theorem xn(b t:zgW):(QN b t).size=b.size+1+t.size:=by
 have h:=congrArg List.length (qQ b t);rw[zgE,List.length_cons,Array.length_toList,Array.length_toList,Array.length_toList] at h;show(QN b t).data.size=b.data.size+1+t.data.size;omega
theorem kI(b:zgW):b.data.toList.length=b.size:=by rw[Array.length_toList];rfl
theorem JP(b t:zgW)(j:Nat)(h:j<b.size):byt (QN b t) j=byt b j:=by
 unfold byt;rw[qQ,zgz,zgz,zgD (by rw[kI];exact h)]
theorem zbJ(b t:zgW):byt (QN b t) b.size=44:=by
 unfold byt;rw[qQ,zgz,zgC (by rw[kI];exact zgp _),kI,Nat.sub_self];rfl
theorem XU(b t:zgW)(j:Nat):byt (QN b t) (b.size+1+j)=byt t j:=by
 unfold byt;rw[qQ,zgz,zgz,zgC (by rw[kI];omega),kI,show b.size+1+j-b.size=j+1 by omega,List.getElem?_cons_succ]
theorem XV(b t:zgW)(fr i:Nat)(h:i<=b.size):(QN b t).extract fr i=b.extract fr i:=by
 apply ByteArray.ext;apply Array.toList_inj.1;rw[Lib.extract_data,Lib.extract_data,qQ,List.drop_append];have hl:(b.data.toList.drop fr).length=b.size-fr:=by rw[List.length_drop,kI]
 rw[List.take_append_of_le_length (by rw[hl];omega)]
theorem zbK(b t:zgW):(QN b t).extract (b.size+1) (QN b t).size=t:=by
 apply ByteArray.ext;apply Array.toList_inj.1;rw[Lib.extract_data,qQ,xn,List.drop_append,List.drop_eq_nil_of_le (by rw[kI];omega),kI,show b.size+1-b.size=1 by omega,List.nil_append,List.drop_succ_cons,List.drop_zero,List.take_of_length_le (by rw[kI];omega)]
theorem YC(h:z7 t=true):0<t.size/\∀j,j<t.size->byt t j≠44:=by
 unfold z7 yn at h;have h1:=zgF h;refine⟨by omega,λj hj=>?_⟩;match j,hj with
 |0,_=>omega
 |1,_=>omega
 |2,_=>omega
 |j+3,hj=>omega
theorem G5(b t:zgW)(ht:∀j,j<t.size->byt t j≠44):∀(n fr i:Nat),b.size-i=n->i<=b.size->yG (QN b t) fr i=yG b fr i++[t]:=by
 intro n;induction n with
 |zero=>
  intro fr i hn hi;have e:i=b.size:=by omega
  subst e;have hz:=xn b t;rw[jS _ fr _ (by omega) (zbJ b t),XV b t fr _ (zgp _),kZ,yM b _ _ (by omega),jQ (QN b t) (b.size+1) (b.size+1) t.size (by omega) (λk h1 h2=>?_)]
  .have e2:b.size+1+t.size=(QN b t).size:=hz.symm;rw[e2,kZ,yM _ _ _ (by omega),zbK];rfl
  rw[show k=b.size+1+(k-(b.size+1)) by omega,XU];exact ht _ (by omega)
 |succ n ih=>
  intro fr i hn hi;have hz:=xn b t;by_cases hc:byt b i=44
  .rw [jS (QN b t) fr i (by omega) (by rw[JP b t i (by omega)];exact hc),jS b fr i (by omega) hc,XV b t fr i hi,ih (i+1) (i+1) (by omega) (by omega)];rfl
  rw[vU (QN b t) fr i (by omega) (by rw[JP b t i (by omega)];exact hc),vU b fr i (by omega) hc,ih fr (i+1) (by omega) (by omega)]
theorem zbn(ht:∀j,j<t.size->byt t j≠44):yG t 0 0=[t]:=by
 rw[jQ t 0 0 t.size (by omega) (λk _ h2=>ht k (by omega)),zg0,kZ,yM _ _ _ (by omega)]
 congr 1
 apply ByteArray.ext;apply Array.toList_inj.1;rw[Lib.extract_data,List.drop_zero,List.take_of_length_le (by rw[kI];omega)]
theorem jV(t:zgW):∀(l:List zgW) (x:Nat->Int),(behindL x l).2=true->behindL x (l++[t])=nextT (behindL x l).1 t
 | [],x,_=>by
  show(if(nextT x t).2 then _ else _)=_;split
  .rename_i h;show((nextT x t).1,true)=nextT x t;rw[<-h]
  .rename_i h;have h2:(nextT x t).2=false:=by simpa using h
   show((nextT x t).1,false)=nextT x t;rw[<-h2]
 |a::l,x,h=>by
  have e:∀l,behindL x (a::l)=if(nextT x a).2 then behindL (nextT x a).1 l else((nextT x a).1,false):=λ_=>rfl
  rw[e] at h;rw[List.cons_append,e,e];by_cases ha:(nextT x a).2=true
  .rw [zgT ha] at h;rw[zgT ha,zgT ha];exact jV t l _ h
  .rw [zgU ha] at h;cases h
structure xI (x:Nat->Int) (b:zgW) (l:List zgW) (y:Nat->Int):Prop where
 cut:(b.size=0/\l=[])\/(b.size≠0/\yG b 0 0=l/\l≠[])
 form:l.all z7=true
 len:l.length<=3
 vot:votes l<2
 reg:behindL x l=(y,true)
 siz:b.size<=24
theorem xI.nil(x:Nat->Int):xI x ⟨#[]⟩ [] x:=⟨zgR ⟨rfl,rfl⟩,rfl,by decide,by decide,rfl,by decide⟩
theorem xI.empty(h:xI x b l y):b=⟨#[]⟩↔l=[]:=by
 rcases h.cut with⟨h1,h2⟩|⟨h1,h2,h3⟩
 .exact ⟨λ_=>h2,λ_=>ByteArray.ext (Array.eq_empty_of_size_eq_zero h1)⟩
 exact⟨λe=>absurd (by rw[e];rfl) h1,λe=>absurd e h3⟩
theorem xI.next(h:xI x b l y){t:zgW}(ht:z7 t=true):yG (qy b t) 0 0=l++[t]/\(qy b t).size≠0:=by
 obtain⟨h0,h1⟩:=YC ht;unfold qy;by_cases e:b=⟨#[]⟩
 .rw [zgT e,h.empty.1 e,zbn h1];exact⟨rfl,by omega⟩
 rw[zgU e];have hb:b.size≠0:=λhz=>e (ByteArray.ext (Array.eq_empty_of_size_eq_zero hz));rcases h.cut with⟨h2,_⟩|⟨_,h2,_⟩
 .exact absurd h2 hb
 refine⟨?_,by have:=xn b t;unfold QN at this;omega⟩;have:=G5 b t h1 _ 0 0 rfl (zgv _);rw[h2] at this;exact this
theorem xI.yes(h:xI x b l y){t:zgW}(ht:z7 t=true)(h1:(nextT y t).2=true)(h2:l.length≠3)(h3:(qy b t).size<=24)(h4:¬(byt t 0=118/\0<votes l)):
 kV x b t=qy b t/\xI x (qy b t) (l++[t]) (nextT y t).1:=by
 obtain⟨e1,e2⟩:=h.next ht;have hl:=h.len;have hv:=h.vot;have aa:votes (l++[t])<2:=by
  rw[zR];split
  .rename_i e;have:¬0<votes l:=λhx=>h4 ⟨e,hx⟩;omega
  omega
 have hr:behindL x (l++[t])=((nextT y t).1,true):=by
  rw[jV t l x (by rw[h.reg]),h.reg];show nextT y t=_;rw[<-h1]
 have ad:(l++[t]).all z7=true:=by rw[List.all_append,h.form];simp[ht]
 have ab:(l++[t]).length<=3:=by rw[zgE,List.length_singleton];omega
 refine⟨?_,⟨zgS ⟨e2,e1,by simp⟩,ad,ab,aa,hr,h3⟩⟩;unfold kV;rw[zgT ⟨h3,by rw[Z0 x _ _ e2 (by rw[e1];exact ab) (by rw[e1];exact ad) (by rw[e1];exact aa) (by rw[e1];exact hr)]⟩]
theorem xI.no(h:xI x b l y){t:zgW}(ht:z7 t=true)(hno:¬((nextT y t).2=true/\l.length≠3/\(qy b t).size<=24/\¬(byt t 0=118/\0<votes l))):kV x b t=b:=by
 obtain⟨e1,e2⟩:=h.next ht;unfold kV;rw[zgU];rintro⟨h3,h5⟩;refine hno ⟨?_,λh6=>?_,h3,λh6=>?_⟩
 .cases hb:(nextT y t).2 with
  |true=>rfl
  |false=>
   rw[ZY x _ e2 (by rw[e1,jV t l x (by rw[h.reg]),h.reg];exact hb)] at h5;cases h5
 .rw [ZZ x _ e2 (by rw[e1,zgE,List.length_singleton];omega)] at h5;cases h5
 rw[gH x _ e2 (by rw[e1,zR,zgT h6.1];omega)] at h5;cases h5
end
section
open Go.Extern.Stop Go.Stop Go.Extern Proofs.Tryz
theorem Tryz.zfW(v:Value)(xT:TypeId)(w:World):(Instr.typeAssert (.iface 158 v) xT 213 true).run prog w=.ok (.tuple #[.nilIface,.bool false]) w:=run_typeAssert_lacksB underlying213 (by kernel_rfl) (by kernel_rfl) v xT w
theorem Tryz.zet(v:Value)(xT:TypeId)(w:World):(Instr.typeAssert (.iface 158 v) xT 216 true).run prog w=.ok (.tuple #[.iface 158 v,.bool true]) w:=run_typeAssert_hasB underlying216 (by kernel_rfl) v xT w
theorem Tryz.zec(v:Value)(w:World):(Go.method 423 158 v "Unwrap").run prog w=.ok (236,v) w:=by kernel_rfl
theorem Tryz.zeA(p q:Value)(w:World):(binOp .eql 42 (.iface 158 p) (.iface 294 q)).run prog w=.ok (.bool false) w:=run_eql_iface_types _ _ _ _ underlying42 (by decide) w
theorem ZA(g:Nat)(f:Int)(b:Addr)(w:World)(hr:gP w g f b):
 Calls prog 30 #[QO g,eA b] w λe w'=>e=.returned (.bool true)/\w'=w:=by
 have hc1:cE w g 1 (eA b):=zgs w g 1 _ _ _ hr;obtain⟨i,hi,aa⟩:=Option.map_eq_some_iff.1 Tryz.zeH;obtain⟨j,hj,hjs⟩:=Option.map_eq_some_iff.1 Tryz.zeG;have h8:=@run_callFunc_extern prog 83 _ Extern.ReflectliteType.typeOf func83 (by kernel_rfl) (by kernel_rfl) (by kernel_rfl) (by kernel_rfl);have h32:=@run_callFunc_extern prog 239 _ qn func239 (by kernel_rfl) (by kernel_rfl) (by kernel_rfl) (by kernel_rfl);have tT:=Tryz.zeg;have cT:=Tryz.zdN;have mR:=Tryz.zdu;have nR:=Tryz.zfW;have uR:=Tryz.zet;have mU:=Tryz.zec;have eR:=Tryz.zeA;have heq:=run_eql_iface_ptr_same (P:=prog) w b underlying42 underlying294 hi aa hj;clear hr;unfold QO;go_enter func30,ntmps30;go_wp2;refine wp_loop_rounds 2 ?_;rw[rounds_succ];go_wp2;rw[rounds_succ];go_wp2;go_ret;exact⟨rfl,rfl⟩
theorem gM(g:Nat)(f:Int)(a b:Addr)(ca cb:Array Value)(ta tb:TypeId)(w:World)(hr:gP w g f a)(hne:a≠b)(ha:w.heap[a.block]? =some (.cells ca ta (0,0)))(hb:w.heap[b.block]? =some (.cells cb tb (0,0))):
 Calls prog 30 #[QO g,eA b] w λe w'=>e=.returned (.bool false)/\w'=w:=by
 have hc1:cE w g 1 (eA a):=zgs w g 1 _ _ _ hr;obtain⟨i,hi,aa⟩:=Option.map_eq_some_iff.1 Tryz.zeH;obtain⟨j,hj,ab⟩:=Option.map_eq_some_iff.1 Tryz.zeG;have h8:=@run_callFunc_extern prog 83 _ Extern.ReflectliteType.typeOf func83 (by kernel_rfl) (by kernel_rfl) (by kernel_rfl) (by kernel_rfl);have h32:=@run_callFunc_extern prog 239 _ qn func239 (by kernel_rfl) (by kernel_rfl) (by kernel_rfl) (by kernel_rfl);have tT:=Tryz.zeg;have cT:=Tryz.zdN;have mR:=Tryz.zdu;have nR:=Tryz.zfW;have uR:=Tryz.zet;have mU:=Tryz.zec;have eR:=Tryz.zeA;have nE:=Tryz.zfX;have uE:=Tryz.zey;have vE:=Tryz.zep;have heq:=run_eql_iface_ptr_other (P:=prog) w underlying42 underlying294 hi aa hj (by rw[ab];decide) hne ha hb;clear hr ha hb;unfold QO;go_enter func30,ntmps30;go_wp2;refine wp_loop_rounds 2 ?_;rw[rounds_succ];go_wp2;rw[rounds_succ];go_wp2;go_ret;exact⟨rfl,rfl⟩
end
section
section
variable{P:Program}
theorem Ky{op:Oper}{a:Act}{K:Act->World->Prop}{Q:Exit->Act->World->Prop}(ty:TypeId)(p y:Operand)(ho:op.op=.store ty p y)
 (w1:World) (D:Array Value) (hp:a.eval p=pA w1.heap.size 0) (hy:a.eval y=.agg D) (t:TypeId) (C:Array Value) (hC:C.size=D.size) (h1:∀v∈D.toList,v.oneCell'=true) (hi:(P.info? ty).map (·.size)=some D.size)
 (h:∀w',w'.heap[w1.heap.size]? =some (.cells D t (0,0))->BW w1 w'->w'.heap.size=w1.heap.size+1->K (a.put op.dst undef) w'):op.wp P a (w1.alloc (.cells C t)) K Q:=by
 have hg:cL (w1.alloc (.cells C t)) w1.heap.size C t:=zgr w1 _;have aa:=yW (w1.alloc (.cells C t)) w1.heap.size D;unfold Oper.wp execOp;simp only[ho,hp,hy,Instr.storeAt,Instr.sureAddr,Sem.run_bind,Sem.run_pure,Result.andThen_ok,kB (w1.alloc (.cells C t)) w1.heap.size t ty C D hg hC h1 hi];exact h _ (setRow_heap _ _ C _ t (0,0) hg) ((bwA w1).trans (aa.below (zgp _))) (by rw[aa.size];simp)
end
end
def Kv(w:World):Prop:=w.cell? (aA 12 0)=some (.iface 211 (.agg #[pA 16 42]))
theorem Kv.below{w w':World}(h:Kv w)(hb:BW w w'):Kv w':=by
 unfold Kv at h ⊢;rw[hb.cell (p:=(aA 12 0)) (by exact zgx _ _ h)];exact h
section
section
variable{P:Program}
theorem qO{ops:Array Oper}{rest:List Oper}{op:Oper}{a:Act}{w:World}{Q:Exit->Act->World->Prop}(hgd:op.guard=none)(ty:TypeId)(p y:Operand)(ho:op.op=.store ty p y)
 (g off:Nat) (D:Array Value) (hp:a.eval p=pA g off) (hy:a.eval y=.agg D) (t:TypeId) (C:Array Value) (hg:w.heap[g]? =some (.cells C t (0,0))) (hC:off+D.size<=C.size) (h1:∀v∈D.toList,v.oneCell'=true) (hi:(P.info? ty).map (·.size)=some D.size)
 (h:∀w',w'.heap[g]? =some (.cells (C.toList.take off++D.toList++C.toList.drop (off+D.size)).toArray t (0,0))->ko g w w'->wpList P ops Q rest (a.put op.dst undef) w'):wpList P ops Q (op::rest) a w:=
 wpList_plain hgd λ_ hK=>by
  have hs:=run_storeCells_at P g off t D.toList 0 C w hg (by simp;omega) h1;have hr:(storeVar ty (aA g off) (.agg D)).run P w=.ok () (w.setRow g (C.toList.take off++D.toList++C.toList.drop (off+D.size)).toArray):=by
   simp only[Nat.add_zero,Array.length_toList] at hs;cases hq:P.info? ty with
   |none=>simp[hq] at hi
   |some i=>
    have hz:i.size=D.size:=by simpa [hq] using hi
    simp[storeVar,sizeOf,typeInfo,hq,Value.cells,hz,hs]
  unfold Oper.wp execOp;simp only[ho,hp,hy,Instr.storeAt,Instr.sureAddr,Sem.run_bind,Sem.run_pure,Result.andThen_ok,hr];exact hK _ _ (h _ (setRow_heap _ _ C _ t (0,0) hg) (yW _ _ _))
end
end
section
open Proofs.Tryz
theorem Tryz.zfN:(prog.info? 175).map (λi=>(i.zero,i.size,i.bytes))=some (some (.agg #[sA zgV,sA zgV,.slice none 0 0,bA false]),4,64):=by kernel_rfl
theorem Tryz.zeX(t fr:zgW)(p:Option Addr)(n c:Nat)(W:World):(Instr.build 175 #[(0,sA t),(1,sA fr),(2,.slice p n c)]).run prog W=.ok (.agg #[sA t,sA fr,.slice p n c,bA false]) W:=by kernel_rfl
theorem NodeW.zfP{B:Nat}{es:List Addr}{m:Int}{F R:Nat->Prop}{nb kb rb cb n i:Nat}{s:za}{V:yg}{w w':World}(h:NodeW B es m F R nb kb rb cb n i s w)(hA:NodeAt nb kb cb V s w)(hf:∀k,V.zd4 nb cb k->F k)(v' cv:Value)(d:YT)
 (hb:w'.heap[nb]? =some (.cells (nodeA kb cb { V with dv:=v',ds:=V.ds++[(d,cv)] } { s with dec:=s.dec++[d] }) 135 (0,0))) (hown:w'.ownsRow 0 175 4 v' (V.ds.length+1) (gG (V.ds++[(d,cv)]))) (hc:w'.ownsRow 0 9 1 cv d.cert.length (d.cert.map .string)) (hcn:∀g,cv.ownBlock=some g->w.heap.size<=g)
 (hat:v'.ownBlock=V.dv.ownBlock\/∀g,v'.ownBlock=some g->w.heap.size<=g) (hs:zm (λk=>k=nb\/some k=V.dv.ownBlock) w w'):∃F',NodeW B es m F' R nb kb rb cb n i { s with dec:=s.dec++[d] } w'/\Goes F R w F' R w':=by
 obtain⟨n1,n2,n3,n4,n5,n6⟩:=hA.rows;have hv:∀g,v'.ownBlock=some g->V.dv.ownBlock=some g\/w.heap.size<=g:=λg hg=>by
  rcases hat with h1|h1
  .exact zgR (h1.symm.trans hg)
  exact zgS (h1 g hg)
 have hN:NodeAt nb kb cb { V with dv:=v',ds:=V.ds++[(d,cv)] } { s with dec:=s.dec++[d] } w':=by
  refine⟨hb,?_,?_,?_,?_,?_,?_,?_,?_,hA.alog,?_,?_⟩
  .show (V.ds++[(d,cv)]).map (·.1)=s.dec++[d]
   rw[List.map_append,hA.eds];rfl
  .show w'.ownsRow 0 175 4 v' (V.ds++[(d,cv)]).length (gG (V.ds++[(d,cv)]));rw[zgE];exact hown
  .intro d' aa;rcases List.mem_append.1 aa with hd|hd
   .exact zb (hA.cert d' hd) λg e hg=>hs.block g hg (λx=>x.elim (λx=>n6 d' hd (x▸e)) (λx=>zT (hA.cert d' hd) hA.dec (by decide) g e x.symm))
   rw[zgM] at hd;rw[hd];exact hc
  .exact zb hA.wait λg e hg=>hs.block g hg (λx=>x.elim (λx=>n2 (x▸e)) (λx=>zT hA.wait hA.dec (by decide) g e x.symm))
  .exact zb hA.log λg e hg=>hs.block g hg (λx=>x.elim (λx=>n3 (x▸e)) (λx=>zT hA.log hA.dec (by decide) g e x.symm))
  .exact zb hA.ahead λg e hg=>hs.block g hg (λx=>x.elim (λx=>n4 (x▸e)) (λx=>zT hA.ahead hA.dec (by decide) g e x.symm))
  .exact zb hA.tims λg e hg=>hs.block g hg (λx=>x.elim (λx=>n5 (x▸e)) (λx=>zT hA.tims hA.dec (by decide) g e x.symm))
  .obtain ⟨a,b,hc⟩:=hA.chan
   exact⟨a,b,(hs.block cb (qq hA.chan) (λx=>x.elim (λx=>hA.nc x.symm) (λx=>yF hA.dec hA.chan x.symm))).trans hc⟩
  .intro d' aa g hg ha;rcases List.mem_append.1 aa with hd|hd
   .exact hA.awc d' hd g hg ha
   rw[zgM] at hd;rw[hd] at hg;have h1:=hcn g hg;have h2:=(hA.wait.lt g ha).2;omega
  show(V.ds++[(d,cv)]).Pairwise λd e=>∀g,d.2.ownBlock=some g->e.2.ownBlock≠some g;rw[List.pairwise_append];refine⟨hA.acc,List.pairwise_singleton _ _,λa ha b hb g hg ab=>?_⟩;rw[zgM] at hb;rw[hb] at ab;have h1:=hcn g ab;have h2:=((hA.cert a ha).lt g hg).2;omega
 refine⟨λk=>F k\/v'.ownBlock=some k\/cv.ownBlock=some k,?_⟩;refine h.zeb ⟨_,hN,λk hk=>?_⟩ rfl (λk hk=>?_) (λk hk=>?_) { hs with block:=λk hk hn=>hs.block k hk (λx=>x.elim (λx=>hn (x▸hf nb (zgR rfl))) (λx=>hn (hf k (zgS (zgS (zgR x.symm)))))) }
 .rcases hk with rfl|rfl|e|e|e|e|e|⟨d',aa,e⟩
  .exact zgR (hf _ (zgR rfl))
  .exact zgR (hf _ (zgS (zgR rfl)))
  .exact zgS (zgR e)
  .exact zgR (hf k (zgS (zgS (zgS (zgR e)))))
  .exact zgR (hf k (zgS (zgS (zgS (zgS (zgR e))))))
  .exact zgR (hf k (zgS (zgS (zgS (zgS (zgS (zgR e)))))))
  .exact zgR (hf k (zgS (zgS (zgS (zgS (zgS (zgS (zgR e))))))))
  rcases List.mem_append.1 aa with hd|hd
  .exact zgR (hf k (zgS (zgS (zgS (zgS (zgS (zgS (zgS ⟨d',hd,e⟩))))))))
  rw[zgM] at hd;rw[hd] at e;exact zgS (zgS e)
 .rcases hk with hk|hk|hk
  .exact zgR hk
  .rcases hv k hk with h1|h1
   .exact zgR (hf k (zgS (zgS (zgR h1))))
   exact zgS h1
  exact zgS (hcn k hk)
 rcases hk with hk|hk|hk
 .exact zgt (h.fl k hk).2 hs.size
 .exact (hown.lt k hk).2
 exact(hc.lt k hk).2
end
section
variable{w:World}{n g cap nb kb cb:Nat}{V:yg}{s:za}
theorem zaU{base e size k:Nat}{xs:List Value}{u:Value}(h:w.ownsRow base e size (.slice (some (aA g 0)) n cap) n xs):(w.setCell (aA g k) u).ownsRow base e size (.slice (some (aA g 0)) n cap) n (xs.set k u):=by
 refine⟨by rw[List.length_set];exact h.1,?_⟩;rcases h.2 with⟨h1,_⟩|⟨g1,cap1,cur,h1,hb,hg,aa,ad,ab,ht⟩
 .cases h1
 cases h1;refine zgS ⟨g,cap,cur.setIfInBounds k u,rfl,hb,setCell_row hg k u,aa,ad,by rw[Array.size_setIfInBounds];exact ab,?_⟩;rw[Array.toList_setIfInBounds,List.take_set,ht]
theorem Vl(u:Bool):∀(l:List (YT×Value)) (j:Nat),j<l.length->(gG l).set (j*4+3) (bA u)=gG (l.set j ({ (l.getD j (yz,.nilIface)).1 with told:=u },(l.getD j (yz,.nilIface)).2))
 | [],j,h=>by simp at h
 |d::l,0,_=>by
  simp[gG,G4]
 |d::l,j+1,h=>by
  have ih:=Vl u l j (by simpa using h);have e1:gG (d::l)=(G4 d).toList++gG l:=rfl;have e2:(G4 d).toList.length=4:=rfl;have e3:(d::l).getD (j+1) (yz,.nilIface)=l.getD j (yz,.nilIface):=by simp
  rw[e1,List.set_append_right _ _ (by rw[e2];omega),e2,show(j+1)*4+3-4=j*4+3 by omega,ih,e3,List.set_cons_succ];rfl
theorem NodeAt.zfA(h:NodeAt nb kb cb V s w)(j:Nat)(hj:j<s.dec.length):∃g cap cv,V.dv=.slice (some (aA g 0)) s.dec.length cap/\s.dec.length<=maxLen/\V.ds[j]? =some (s.dec.getD j yz,cv)/\w.cell? (aA g (j*4+1))=some (sA (s.dec.getD j yz).prop)/\w.cell? (aA g (j*4+2))=some cv/\w.cell? (aA g (j*4+3))=some (bA (s.dec.getD j yz).told)/\(∃C,w.heap[g]? =some (.cells C 175 (0,0))/\C.size=cap*4)/\s.dec.length<=cap:=by
 have hl:V.ds.length=s.dec.length:=by
  have e:=congrArg List.length h.eds;rw[List.length_map] at e;exact e
 obtain⟨d,hd⟩:∃d,V.ds[j]? =some d:=⟨_,zgy (by omega)⟩;have ab:d.1=s.dec.getD j yz:=by
  rw[<-h.eds,zgz,List.getElem?_map,hd];rfl
 rcases h.dec.2 with⟨_,h1⟩|⟨g,cap,cur,h1,hb,hg,hnc,hcm,ad,ht⟩
 .omega
 have aa:∀(l:List (YT×Value)) (j k:Nat) (d:YT×Value),k<4->l[j]? =some d->(gG l)[j*4+k]? =(G4 d).toList[k]? :=λl=>by
  induction l with
  |nil=>intro j k d _ hd;simp at hd
  |cons a l ih=>
   intro j k d hk hd;have e1:gG (a::l)=(G4 a).toList++gG l:=rfl;cases j with
   |zero=>
    simp only[List.getElem?_cons_zero] at hd;cases hd;rw[e1,zgD (by show 0*4+k<4;omega),Nat.zero_mul,zg0]
   |succ j=>
    rw[List.getElem?_cons_succ] at hd;rw[e1,zgC (by show 4<=(j+1)*4+k;omega),show(j+1)*4+k-(G4 a).toList.length=j*4+k by show(j+1)*4+k-4=_;omega];exact ih j k d hk hd
 have hc:∀k,k<4->w.cell? (aA g (j*4+k))=(G4 d).toList[k]? :=λk hk=>by
  rw[zgs w g (j*4+k) _ _ _ hg,<-aa V.ds j k d hk hd,<-ht,zg5,zgT (by omega),zg8]
 refine⟨g,cap,d.2,by rw[h1,hl],by omega,by rw[hd,<-ab],?_,hc 2 (by omega),?_,⟨cur,hg,ad⟩,by omega⟩
 .rw [<-ab];exact hc 1 (by omega)
 rw[<-ab];exact hc 3 (by omega)
theorem NodeW.zeP{B:Nat}{es:List Addr}{m:Int}{F R:Nat->Prop}{rb i j:Nat}(h:NodeW B es m F R nb kb rb cb n i s w)(hA:NodeAt nb kb cb V s w)(hf:∀k,V.zd4 nb cb k->F k)(hv:V.dv=.slice (some (aA g 0)) s.dec.length cap)(hj:j<s.dec.length)(u:Bool):
 NodeW B es m F R nb kb rb cb n i { s with dec:=s.dec.set j { s.dec.getD j yz with told:=u } } (w.setCell (aA g (j*4+3)) (bA u))/\Goes F R w F R (w.setCell (aA g (j*4+3)) (bA u)):=by
 have hl:V.ds.length=s.dec.length:=by
  have e:=congrArg List.length hA.eds;rw[List.length_map] at e;exact e
 obtain⟨d,hd⟩:∃d,V.ds[j]? =some d:=⟨_,zgy (by omega)⟩;have af:V.ds.getD j (yz,.nilIface)=d:=by rw[zgz,hd];rfl
 have ae:d∈V.ds:=List.mem_of_getElem? hd;have ag:d.1=s.dec.getD j yz:=by
  rw[<-hA.eds,zgz,List.getElem?_map,hd];rfl
 have ho:ko g w (w.setCell (aA g (j*4+3)) (bA u)):=zd w g (j*4+3) _;have aa:V.dv.ownBlock=some g:=by rw[hv];rfl
 have ah:F g:=hf g (zgS (zgS (zgR aa)));have ad:(V.ds.set j ({ d.1 with told:=u },d.2)).map (·.2)=V.ds.map (·.2):=by
  apply List.ext_getElem?;intro k;rw[List.getElem?_map,List.getElem?_map,List.getElem?_set];split
  .rename_i e;rw[<-e,hd,zgT (by omega)];rfl
  rfl
 have ab:∀x,x∈V.ds.set j ({ d.1 with told:=u },d.2)->∃y,y∈V.ds/\y.2=x.2/\y.1.cert=x.1.cert:=λx hx=>by
  rcases List.mem_or_eq_of_mem_set hx with h1|h1
  .exact ⟨x,h1,rfl,rfl⟩
  rw[h1];exact⟨d,ae,rfl,rfl⟩
 have hk:NodeAt nb kb cb { V with ds:=V.ds.set j ({ d.1 with told:=u },d.2) } { s with dec:=s.dec.set j { s.dec.getD j yz with told:=u } } (w.setCell (aA g (j*4+3)) (bA u)):=by
  refine⟨?_,?_,?_,?_,?_,?_,?_,?_,?_,hA.alog,?_,?_⟩
  .exact (ho.block nb (λe=>hA.rows.1 (e▸aa))).trans hA.blk
  .show (V.ds.set j _).map (·.1)=s.dec.set j _
   rw[List.map_set,hA.eds,<-ag]
  .show World.ownsRow _ 0 175 4 V.dv (V.ds.set j _).length (gG (V.ds.set j _));have h1:=hA.dec;have h2:=Vl u V.ds j (by omega);rw[af] at h2;rw[List.length_set,<-h2];rw[hv,<-hl] at h1 ⊢;exact zaU h1
  .intro x hx;obtain⟨y,hy,e1,e2⟩:=ab x hx;rw[<-e1,<-e2];exact zb (hA.cert y hy) λk hk _=>ho.block k (λe=>zT (hA.cert y hy) hA.dec (by decide) k hk (e▸aa))
  .exact zb hA.wait λk hk _=>ho.block k (λe=>zT hA.wait hA.dec (by decide) k hk (e▸aa))
  .exact zb hA.log λk hk _=>ho.block k (λe=>zT hA.log hA.dec (by decide) k hk (e▸aa))
  .exact zb hA.ahead λk hk _=>ho.block k (λe=>zT hA.ahead hA.dec (by decide) k hk (e▸aa))
  .exact zb hA.tims λk hk _=>ho.block k (λe=>zT hA.tims hA.dec (by decide) k hk (e▸aa))
  .obtain ⟨a,b,hc⟩:=hA.chan
   exact⟨a,b,(ho.block cb (λe=>yF hA.dec hA.chan (e▸aa))).trans hc⟩
  .intro x hx k hk;obtain⟨y,hy,e1,e2⟩:=ab x hx;exact hA.awc y hy k (by rw[e1];exact hk)
  have h1:(V.ds.map (·.2)).Pairwise λa b:Value=>∀g,a.ownBlock=some g->b.ownBlock≠some g:=by
   rw[List.pairwise_map];exact hA.acc
  show(V.ds.set j ({ d.1 with told:=u },d.2)).Pairwise λd e=>∀g,d.2.ownBlock=some g->e.2.ownBlock≠some g;rw[<-ad,List.pairwise_map] at h1;exact h1
 refine h.zeb ⟨_,hk,λk hk=>?_⟩ rfl (λk hk=>zgR hk) (λk hk=>by rw[ho.size];exact(h.fl k hk).2) (Zt ho ah);rcases hk with e|e|e|e|e|e|e|⟨x,hx,e⟩
 .exact hf k (zgR e)
 .exact hf k (zgS (zgR e))
 .exact hf k (zgS (zgS (zgR e)))
 .exact hf k (zgS (zgS (zgS (zgR e))))
 .exact hf k (zgS (zgS (zgS (zgS (zgR e)))))
 .exact hf k (zgS (zgS (zgS (zgS (zgS (zgR e))))))
 .exact hf k (zgS (zgS (zgS (zgS (zgS (zgS (zgR e)))))))
 obtain⟨y,hy,e1,e2⟩:=ab x hx;exact hf k (zgS (zgS (zgS (zgS (zgS (zgS (zgS ⟨y,hy,by rw[e1];exact e⟩)))))))
end
section
open Go.Extern.Stop Go.Stop Go.Extern Proofs.Tryz
variable{es:List Addr}{w:World}
theorem Jq(hS:Sent es w)(i j:Nat)(a b:Addr)(hi:es[i]? =some a)(hj:es[j]? =some b)(t:Bool)(ht:t=decide (i=j))(g:Nat)(f:Int)(hr:gP w g f a):
 Calls prog 30 #[QO g,eA b] w λe w'=>e=.returned (bA t)/\w'=w:=by
 subst ht;by_cases h:i=j
 .subst h;rw[hi] at hj;obtain rfl:=zg6 hj;simpa using ZA g f a w hr
 obtain⟨ca,ta,ha⟩:=hS.blk a (List.mem_of_getElem? hi);obtain⟨cb,tb,hb⟩:=hS.blk b (List.mem_of_getElem? hj);have af:a≠b:=by
  rintro rfl;have hn:=hS.nodup;obtain⟨ae,ad⟩:=List.getElem?_eq_some_iff.1 hi;obtain⟨ab,aa⟩:=List.getElem?_eq_some_iff.1 hj;rw[List.Nodup,List.pairwise_iff_getElem] at hn;rcases Nat.lt_or_gt_of_ne h with h'|h'
  .exact hn i j ae ab h' (ad.trans aa.symm)
  exact hn j i ab ae h' (aa.trans ad.symm)
 simpa [h] using gM g f a b ca cb ta tb w hr af ha hb
theorem XD(a0 a1 a2 a3 a4 a5 a6 a7 a8 a9 a10 a11 a:Addr)(k g:Nat)(f:Int)(w:World)(hS:Sent [a0,a1,a2,a3,a4,a5,a6,a7,a8,a9,a10,a11] w)(hk:[a0,a1,a2,a3,a4,a5,a6,a7,a8,a9,a10,a11][k]? =some a)(hr:gP w g f a):
 Calls prog 15 #[QO g] w λe w'=>e=.returned (iA (k+1))/\BW w w':=by
 have c0:=hS.cell 0 _ _ rfl rfl;have c1:=hS.cell 1 _ _ rfl rfl;have c2:=hS.cell 2 _ _ rfl rfl;have c3:=hS.cell 3 _ _ rfl rfl;have c4:=hS.cell 4 _ _ rfl rfl;have c5:=hS.cell 5 _ _ rfl rfl;have c6:=hS.cell 6 _ _ rfl rfl;have c7:=hS.cell 7 _ _ rfl rfl;have c8:=hS.cell 8 _ _ rfl rfl;have c9:=hS.cell 9 _ _ rfl rfl;have c10:=hS.cell 10 _ _ rfl rfl;have c11:=hS.cell 11 _ _ rfl rfl;obtain⟨hK,ak,al⟩:=zC hk hS hr;have ai:g<w.heap.size:=zj hr;clear hk hS hr;unfold QO;go_enter func15,ntmps15;go_wp2;go_loopw [4,5] (λn i wr=>∃j:Nat,j<=12/\i=iA j/\n=iA (y9 k j)/\(∀j,j<12->wr.cell? (nA w j)=some (.iface 294 (.pointer (some ([a0,a1,a2,a3,a4,a5,a6,a7,a8,a9,a10,a11].getD j a0)))))/\BW w wr) (λ_ i _=>12-(intOf i).toNat)
 case atStart=>
  refine⟨0,by omega,rfl,rfl,?_,bwA _⟩;intro j hj;match j,hj with
  |0,_|1,_|2,_|3,_|4,_|5,_|6,_|7,_|8,_|9,_|10,_|11,_=>simp
 obtain⟨j,hj,rfl,hn,aa,hb⟩:=hrel;have af:=zc (ak.o.later hb);have ab:Hid (gP wr g f a):=(hb.block g ai).trans al;by_cases ag:j<12
 .have hc:=aa j ag;have ae:[a0,a1,a2,a3,a4,a5,a6,a7,a8,a9,a10,a11][j]? =some ([a0,a1,a2,a3,a4,a5,a6,a7,a8,a9,a10,a11].getD j a0):=by
   rw[zgz,zgy (by simpa using ag)];rfl
  generalize [a0,a1,a2,a3,a4,a5,a6,a7,a8,a9,a10,a11].getD j a0=b at hc ae;obtain⟨hJ,aj⟩:=ze ae aa;clear aa ae;rcases Nat.lt_trichotomy j k with ad|ad|ad;focus
   have e1:y9 k j=99:=by unfold y9;rw[zgU (by omega)]
   have e2:Hid (y9 k (j+1)=99):=by unfold Hid y9;rw[zgU (by omega)]
   rw[e1] at hn;clear e1;subst hn;go_wp2_with (go_at_call 30;refine(Jq af.o k j _ _ hK.o hJ.o false (by simp;omega) g f ab.o).mono ?_;rintro e w' ⟨rfl,rfl⟩)
  rotate_left;focus
   subst ad;have e1:y9 j j=99:=by unfold y9;rw[zgU (by omega)]
   have e2:Hid (y9 j (j+1)=(j:Int)+1):=by unfold Hid y9;rw[zgT (by omega)]
   rw[e1] at hn;clear e1;subst hn;go_wp2_with (go_at_call 30;refine(Jq af.o j j _ _ hK.o hJ.o true (by simp) g f ab.o).mono ?_;rintro e w' ⟨rfl,rfl⟩)
  rotate_left;focus
   have e1:y9 k j=(k:Int)+1:=by unfold y9;rw[zgT (by omega)]
   have e2:Hid (y9 k (j+1)=(k:Int)+1):=by unfold Hid y9;rw[zgT (by omega)]
   rw[e1] at hn;clear e1;subst hn;go_wp2_with (go_at_call 30;refine(Jq af.o k j _ _ hK.o hJ.o false (by simp;omega) g f ab.o).mono ?_;rintro e w' ⟨rfl,rfl⟩)
  rotate_left;all_goals
   go_roundw
   case rel=>exact⟨j+1,by omega,by go_num,by rw[e2.o],aj.o,hb⟩
   simp[intOf];omega
 have ah:k<12:=by simpa using(List.getElem?_eq_some_iff.1 hK.o).1
 have e1:y9 k j=(k:Int)+1:=by unfold y9;rw[zgT (by omega)]
 rw[e1] at hn;clear e1;subst hn;go_wp2;go_ret;exact⟨rfl,hb⟩
theorem Vq(hS:Sent es w)(k:Nat)(a:Addr)(hk:es[k]? =some a)(g:Nat)(f:Int)(hr:gP w g f a):
 Calls prog 15 #[QO g] w λe w'=>e=.returned (iA (k+1))/\BW w w':=by
 match es,hS.len with
 | [a0,a1,a2,a3,a4,a5,a6,a7,a8,a9,a10,a11],_=>exact XD a0 a1 a2 a3 a4 a5 a6 a7 a8 a9 a10 a11 a k g f w hS hk hr

/- Proved here: what is read out of a message's frame is the message. -/
import Derived.Test.YtcfjhbcpjpgodaaGreatDoorJ1
import Derived.Test.YtcfjhbcpjpgodaaGreatDoorJ15
import Derived.Test.YtcfjhbcpjpgodaaGreatDoorJ17
import Derived.Test.YtcfjhbcpjpgodaaGreatDoorJ3
import Derived.ChangeKeysEq
import Derived.MapKept
import Derived.Test.YtcfjhbcpjpgodaaGreatDoorBase
import Derived.LaidEql
import Derived.Stop.Asserts
import Derived.RowKitTokens
import Derived.Test.YtcfjhbcpjpgodaaGreatDoorTakeL
namespace Go.Proofs.YtcfjhbcpjpgodaaGreatDoor
open Go.RowKit Go.Proofs.Tryz
set_option maxHeartbeats 4000000
theorem byt_front(l:List Int)(s:ByteArray)(i:Nat)(x:Int)(hi:l[i]? =some x)(h0:0≤x)(h1:x≤255):byt (strOfNums l++s) i=x:=by
 have hl:i<l.length:=(List.getElem?_eq_some_iff.1 hi).1;unfold byt strOfNums;rw[ByteArray.data_append,Array.toList_append,List.getD_eq_getElem?_getD,List.getElem?_append_left (by simpa using hl)];simp only[List.getElem?_map,hi,Option.map_some,Option.getD_some,UInt8.toNat_ofNat'];omega
theorem extract_back(l:List Int)(s:ByteArray):(strOfNums l++s).extract l.length (strOfNums l++s).size=s:=by
 apply ByteArray.ext;apply Array.ext';rw[Lib.extract_data];have hz:(strOfNums l++s).size=l.length+s.size:=by rw[ByteArray.size_append,strOfNums_size]
 rw[hz];have hd:(strOfNums l++s).data.toList=(strOfNums l).data.toList++s.data.toList:=by rw[ByteArray.data_append,Array.toList_append]
 rw[hd];have hll:(strOfNums l).data.toList.length=l.length:=by unfold strOfNums;simp
 rw[List.drop_append_of_le_length (by omega)];have h0:(strOfNums l).data.toList.drop l.length=[]:=List.drop_of_length_le (by omega);rw[h0,List.nil_append];exact List.take_of_length_le (by simp)
theorem dec_enc{K H R F V:Int}{nl:Bool}{s:ByteArray}(h:hasB K H R F V nl s.size=true):decOk (encS K H R F V nl s)=true∧decV (encS K H R F V nl s)=⟨K,H,R,F,V,nl,s⟩:=by
 rw[encS_yes h];have h':=of_decide_eq_true h;obtain⟨h1,h2,h3,h4,h5,h6,h7,h8⟩:=h';obtain⟨M,hM⟩:=gen (markOf K V nl);have hv:vOf K M=V:=by
  rw[hM];unfold vOf markOf;rcases h8 with⟨rfl,rfl,_,_⟩|⟨hk,rfl,hn⟩
  .simp
  have:¬K=1:=by omega
  simp[this]
 have hn:nlOf K M=nl:=by
  rw[hM];unfold nlOf markOf;rcases h8 with⟨rfl,rfl,_,_⟩|⟨hk,rfl,hn⟩
  .simp
  have:¬K=1:=by omega
  cases nl<;>simp[this]
 have hMb:0≤M∧M≤255:=by
  rw[hM];unfold markOf;rcases h8 with⟨rfl,rfl,_,_⟩|⟨hk,rfl,hn⟩
  .simp;omega
  have:¬K=1:=by omega
  cases nl<;>simp[this]
 have hK:0≤K∧K≤255:=by omega
 rw[←hM];have b0:byt (frameOf K H R F M s) 0=K:=byt_front [K,H,R,F,M,s.size] s 0 K rfl hK.1 hK.2;have b1:byt (frameOf K H R F M s) 1=H:=byt_front [K,H,R,F,M,s.size] s 1 H rfl h1 (by omega);have b2:byt (frameOf K H R F M s) 2=R:=byt_front [K,H,R,F,M,s.size] s 2 R rfl h3 h4;have b3:byt (frameOf K H R F M s) 3=F:=byt_front [K,H,R,F,M,s.size] s 3 F rfl h5 (by omega);have b4:byt (frameOf K H R F M s) 4=M:=byt_front [K,H,R,F,M,s.size] s 4 M rfl hMb.1 hMb.2;have b5:byt (frameOf K H R F M s) 5=s.size:=byt_front [K,H,R,F,M,s.size] s 5 s.size rfl (by omega) (by omega);have ex:(frameOf K H R F M s).extract 6 (frameOf K H R F M s).size=s:=extract_back [K,H,R,F,M,s.size] s;have hz:6≤(frameOf K H R F M s).size:=by unfold frameOf;rw[ByteArray.size_append,size6];omega
 have hok:decOk (frameOf K H R F M s)=true:=by
  unfold decOk decB;rw[b0,b1,b2,b3,b4,b5,ex,hv,hn,h,decide_eq_true hz,←hM];simp
 refine⟨hok,?_⟩;unfold decV;rw[if_pos hok,b0,b1,b2,b3,b4,ex,hv,hn]
theorem msgV_ext{a b:MsgV}(h1:a.k=b.k)(h2:a.h=b.h)(h3:a.r=b.r)(h4:a.f=b.f)(h5:a.v=b.v)(h6:a.nl=b.nl)(h7:a.s=b.s):a=b:=by
 cases a;cases b;simp only at h1 h2 h3 h4 h5 h6 h7;subst h1 h2 h3 h4 h5 h6 h7;rfl
def msgB(a b:MsgV):Bool:=a.k==b.k&&(a.h==b.h&&(a.r==b.r&&(a.f==b.f&&(a.v==b.v&&(a.nl==b.nl&&a.s.toList==b.s.toList)))))
theorem toList_eq_iff(s t:ByteArray):s.toList=t.toList↔s=t:=by
 constructor
 .intro h;rw[ByteArray.toList_eq,ByteArray.toList_eq] at h;exact ByteArray.ext (Array.ext' h)
 rintro rfl;rfl
theorem msgB_iff(a b:MsgV):msgB a b=true↔a=b:=by
 unfold msgB;simp only[Bool.and_eq_true,beq_iff_eq,toList_eq_iff];constructor
 .rintro ⟨h1,h2,h3,h4,h5,h6,h7⟩;exact msgV_ext h1 h2 h3 h4 h5 h6 h7
 rintro rfl;exact⟨rfl,rfl,rfl,rfl,rfl,rfl,rfl⟩
theorem Tryz.neqMsg(a b:MsgV)(w:World):(binOp .neq 57 (.agg a.cells) (.agg b.cells)).run prog w=.ok (.bool (!msgB a b)) w:=by
 unfold MsgV.cells msgB;go_simp
 repeat' split
 all_goals simp_all
section
variable{P:Program}
end

open Go.RowKit Go.Extern.Stop Go.Stop Go.Extern
theorem Tryz.asvalueOf27(t:Addr)(w:World):(ReflectliteValue.unpack (.iface 201 (.pointer (some t)))).run prog w
 =.ok (.agg #[.pointer (some ⟨16,201,none⟩),.pointer (some ⟨w.heap.size,0,none⟩),.int .u64 150]) (w.alloc (.cells #[.pointer (some t)] 201)):=by kernel_rfl
theorem Tryz.astype27(a:Addr)(w:World):(ReflectliteValue.methodAny (ReflectliteValue.valueError "reflectlite.Value.Type" 0) (fun t _ _ _=>ReflectliteType.toType t) #[.agg #[.pointer (some ⟨16,201,none⟩),.pointer (some a),.int .u64 150]]).run prog w
 =.ok (.iface 211 (.agg #[.pointer (some ⟨16,201,none⟩)])) w:=by kernel_rfl
theorem Tryz.asmethodKind(h:Value)(w:World):(Go.method 423 211 (.agg #[h]) "Kind").run prog w=.ok (232,h) w:=by kernel_rfl
theorem Tryz.askind27(w:World):((ReflectliteType.abiMethod fun t=>Functor.map (fun a:Nat=>Value.int IntKind.u8 (a:Int)) (Rtype.kind t)) #[.pointer (some ⟨16,201,none⟩)]).run prog w=.ok (.int .u8 22) w:=by kernel_rfl
theorem Tryz.askind25(w:World):((ReflectliteType.abiMethod fun t=>Functor.map (fun a:Nat=>Value.int IntKind.u8 (a:Int)) (Rtype.kind t)) #[.pointer (some ⟨16,158,none⟩)]).run prog w=.ok (.int .u8 22) w:=by kernel_rfl
theorem rlm(z:Sem Value)(f:TypeId→Addr→Nat→Nat→Sem Value)(v:Value):
 ReflectliteValue.method z f #[v]=(do match ←ReflectliteValue.parts v with|none=>z|some (t,a,fl)=>f t a fl (fl % 32)):=rfl
theorem Tryz.asparts27(a:Addr)(w:World):(ReflectliteValue.parts (.agg #[.pointer (some ⟨16,201,none⟩),.pointer (some a),.int .u64 150])).run prog w=.ok (some (201,a,150)) w:=by kernel_rfl
theorem Tryz.asisNil27(a p:Addr)(W:World)(ha:W.cell? a=some (.pointer (some p))):
 (ReflectliteValue.method (ReflectliteValue.valueError "reflectlite.Value.IsNil" 0) ReflectliteValue.isNil #[.agg #[.pointer (some ⟨16,201,none⟩),.pointer (some a),.int .u64 150]]).run prog W=.ok (.bool false) W:=by
 rw[rlm];simp only[Sem.run_bind,Tryz.asparts27,Result.andThen];simp[ReflectliteValue.isNil,loadVar,isAgg,underlying,underlying201,ha,Result.andThen]
theorem Tryz.asmethodElem(h:Value)(w:World):(Go.method 423 211 (.agg #[h]) "Elem").run prog w=.ok (240,.agg #[h]) w:=by kernel_rfl
theorem Tryz.asmethodImplements(h:Value)(w:World):(Go.method 423 211 (.agg #[h]) "Implements").run prog w=.ok (241,.agg #[h]) w:=by kernel_rfl
theorem Tryz.asmethodAssignableTo(h:Value)(w:World):(Go.method 423 211 (.agg #[h]) "AssignableTo").run prog w=.ok (238,.agg #[h]) w:=by kernel_rfl
theorem Tryz.aselem27(w:World):(ReflectliteType.method ReflectliteType.elem #[.agg #[.pointer (some ⟨16,201,none⟩)]]).run prog w=.ok (.iface 211 (.agg #[.pointer (some ⟨16,158,none⟩)])) w:=by kernel_rfl
theorem Tryz.asimplements25(w:World):(ReflectliteType.relation "Implements" ReflectliteType.implements_ #[.agg #[.pointer (some ⟨16,158,none⟩)],.iface 211 (.agg #[.pointer (some ⟨16,42,none⟩)])]).run prog w=.ok (.bool true) w:=by kernel_rfl
theorem Tryz.astypeOf25(v:Value)(w:World):(ReflectliteType.typeOf #[.iface 158 v]).run prog w=.ok (.iface 211 (.agg #[.pointer (some ⟨16,158,none⟩)])) w:=by kernel_rfl
theorem Tryz.asassignable25(w:World):(ReflectliteType.relation "AssignableTo" ReflectliteType.assignableTo #[.agg #[.pointer (some ⟨16,158,none⟩)],.iface 211 (.agg #[.pointer (some ⟨16,158,none⟩)])]).run prog w=.ok (.bool true) w:=by kernel_rfl
theorem Tryz.asvalueOf25(e:Addr)(w:World):(ReflectliteValue.unpack (.iface 158 (.pointer (some e)))).run prog w
 =.ok (.agg #[.pointer (some ⟨16,158,none⟩),.pointer (some ⟨w.heap.size,0,none⟩),.int .u64 150]) (w.alloc (.cells #[.pointer (some e)] 158)):=by kernel_rfl
theorem Tryz.aselemOf27(w:World):(Rtype.elem? 201).run prog w=.ok (some 158) w:=by kernel_rfl
theorem Tryz.asmk25(p:Addr)(w:World):(ReflectliteValue.mk 158 p ReflectliteValue.flagAddr).run prog w=.ok (.agg #[.pointer (some ⟨16,158,none⟩),.pointer (some p),.int .u64 406]) w:=by kernel_rfl
theorem Tryz.aselemV27(a p:Addr)(W:World)(ha:W.cell? a=some (.pointer (some p))):
 (ReflectliteValue.method (ReflectliteValue.valueError "reflectlite.Value.Elem" 0) ReflectliteValue.elem #[.agg #[.pointer (some ⟨16,201,none⟩),.pointer (some a),.int .u64 150]]).run prog W
  =.ok (.agg #[.pointer (some ⟨16,158,none⟩),.pointer (some p),.int .u64 406]) W:=by
 rw[rlm];simp only[Sem.run_bind,Tryz.asparts27,Result.andThen];simp[ReflectliteValue.elem,loadVar,isAgg,underlying,underlying201,ha,Result.andThen,Tryz.aselemOf27,Tryz.asmk25]
theorem rls(v x:Value):ReflectliteValue.set #[v,x]=(do
 let (some (dst,a,fl),some (src,b,_)):=(←ReflectliteValue.parts v,←ReflectliteValue.parts x)
  |unsupported (.noEntry "extern/(internal/reflectlite.Value).Set.zeroValue")
 if fl / ReflectliteValue.flagAddr % 2==0 then unsupported (.noEntry "extern/(internal/reflectlite.Value).Set.unaddressable")
 let val ←loadVar src b
 if ←Rtype.directlyAssignable dst src then storeVar dst a val
 else if ←Rtype.implements dst src then
  if(←Rtype.kind src)==20 then
   match val with
   | .nilIface=>unsupported (.noEntry "extern/reflectlite: a nil value of one interface type handed on as a value of another")
   |_=>storeVar dst a val
  else storeVar dst a (.iface src val)
 else panicString ("reflectlite.Set: value of type " ++(←Rtype.spelt src)++ " is not assignable to type " ++(←Rtype.spelt dst))
 pure (.tuple #[])):=rfl
theorem Tryz.asparts25a(a:Addr)(w:World):(ReflectliteValue.parts (.agg #[.pointer (some ⟨16,158,none⟩),.pointer (some a),.int .u64 406])).run prog w=.ok (some (158,a,406)) w:=by kernel_rfl
theorem Tryz.asparts25(a:Addr)(w:World):(ReflectliteValue.parts (.agg #[.pointer (some ⟨16,158,none⟩),.pointer (some a),.int .u64 150])).run prog w=.ok (some (158,a,150)) w:=by kernel_rfl
theorem Tryz.asdirect25(w:World):(Rtype.directlyAssignable 158 158).run prog w=.ok true w:=by kernel_rfl
theorem Tryz.asset25(ta b e:Addr)(old:Value)(W:World)(hb:W.cell? b=some (.pointer (some e)))(ht:W.cell? ta=some old)(hf:W.frozen? ta=false):
 (ReflectliteValue.set #[.agg #[.pointer (some ⟨16,158,none⟩),.pointer (some ta),.int .u64 406],.agg #[.pointer (some ⟨16,158,none⟩),.pointer (some b),.int .u64 150]]).run prog W
  =.ok (.tuple #[]) (W.setCell ta (.pointer (some e))):=by
 rw[rls];simp only[Sem.run_bind,Tryz.asparts25a,Tryz.asparts25,Result.andThen];simp[ReflectliteValue.flagAddr,loadVar,isAgg,underlying,underlying158,hb,Result.andThen,Tryz.asdirect25,storeVar,Value.cells,storeCells,Addr.add];rw[run_store prog W ta _ _ (by rfl)];simp[ht,hf]
theorem as_hit(e t:Addr)(old:Value)(w:World)(hg:w.cell? ⟨12,0,none⟩=some (.iface 211 (.agg #[.pointer (some ⟨16,42,none⟩)])))(ht0:w.cell? t=some old)(hf0:w.frozen? t=false):
 Calls prog 120 #[.iface 158 (.pointer (some e)),.iface 201 (.pointer (some t))] w fun ev w'=>ev=.returned (.bool true)∧w'=((((w.alloc (.cells #[.pointer (some t)] 201)).alloc (.cells #[.pointer (some ⟨16,201,none⟩),.pointer (some ⟨w.heap.size,0,none⟩),.int .u64 150] 252)).alloc (.cells #[.pointer (some ⟨16,201,none⟩),.pointer (some ⟨w.heap.size,0,none⟩),.int .u64 150] 252)).alloc (.cells #[.pointer (some e)] 158)).setCell t (.pointer (some e)):=by
 have h6:=@run_callFunc_extern prog 172 _ (fun args=>ReflectliteValue.unpack (args.getD 0 (.tuple #[]))) func172 (by kernel_rfl) (by kernel_rfl) (by kernel_rfl) (by kernel_rfl);have h7:=@run_callFunc_extern prog 173 _ (ReflectliteValue.methodAny (ReflectliteValue.valueError "reflectlite.Value.Type" 0) (fun t _ _ _=>ReflectliteType.toType t)) func173 (by kernel_rfl) (by kernel_rfl) (by kernel_rfl) (by kernel_rfl);have h8:=@run_callFunc_extern prog 174 _ (ReflectliteValue.method (ReflectliteValue.valueError "reflectlite.Value.IsNil" 0) ReflectliteValue.isNil) func174 (by kernel_rfl) (by kernel_rfl) (by kernel_rfl) (by kernel_rfl);have h27:=@run_callFunc_extern prog 232 _ (ReflectliteType.abiMethod fun t=>do pure (.int .u8 (←Rtype.kind t))) func232 (by kernel_rfl) (by kernel_rfl) (by kernel_rfl) (by kernel_rfl);have h37:=@run_callFunc_extern prog 240 _ (ReflectliteType.method ReflectliteType.elem) func240 (by kernel_rfl) (by kernel_rfl) (by kernel_rfl) (by kernel_rfl);have h38:=@run_callFunc_extern prog 241 _ (ReflectliteType.relation "Implements" ReflectliteType.implements_) func241 (by kernel_rfl) (by kernel_rfl) (by kernel_rfl) (by kernel_rfl);have h10:=@run_callFunc_extern prog 83 _ ReflectliteType.typeOf func83 (by kernel_rfl) (by kernel_rfl) (by kernel_rfl) (by kernel_rfl);have h35:=@run_callFunc_extern prog 238 _ (ReflectliteType.relation "AssignableTo" ReflectliteType.assignableTo) func238 (by kernel_rfl) (by kernel_rfl) (by kernel_rfl) (by kernel_rfl);have h11:=@run_callFunc_extern prog 195 _ (ReflectliteValue.method (ReflectliteValue.valueError "reflectlite.Value.Elem" 0) ReflectliteValue.elem) func195 (by kernel_rfl) (by kernel_rfl) (by kernel_rfl) (by kernel_rfl);have h12:=@run_callFunc_extern prog 196 _ ReflectliteValue.set func196 (by kernel_rfl) (by kernel_rfl) (by kernel_rfl) (by kernel_rfl);have tO:=Tryz.astypeOf25;have mA:=Tryz.asmethodAssignableTo;have a25:=Tryz.asassignable25;have v25:=Tryz.asvalueOf25;have f6:=Tryz.asvalueOf27;have f7:=Tryz.astype27;have mK:=Tryz.asmethodKind;have mE:=Tryz.asmethodElem;have mI:=Tryz.asmethodImplements;have k27:=Tryz.askind27;have k25:=Tryz.askind25;have e27:=Tryz.aselem27;have i25:=Tryz.asimplements25;have n8:=Tryz.asisNil27 ⟨w.heap.size,0,none⟩ t ((w.alloc (.cells #[.pointer (some t)] 201)).alloc (.cells #[.pointer (some ⟨16,201,none⟩),.pointer (some ⟨w.heap.size,0,none⟩),.int .u64 150] 252)) (by simp);have hlt:12<w.heap.size:=World.block_lt_of_cell? _ _ hg;have hg2:((w.alloc (.cells #[.pointer (some t)] 201)).alloc (.cells #[.pointer (some ⟨16,201,none⟩),.pointer (some ⟨w.heap.size,0,none⟩),.int .u64 150] 252)).cell? ⟨12,0,none⟩=some (.iface 211 (.agg #[.pointer (some ⟨16,42,none⟩)])):=by
  rw[World.cell?_alloc_lt _ _ ⟨12,0,none⟩ (by simp;omega),World.cell?_alloc_lt _ _ ⟨12,0,none⟩ hlt];exact hg
 have htl:t.block<w.heap.size:=by
  rcases Nat.lt_or_ge t.block w.heap.size with h|h
  .exact h
  simp[World.cell?,Array.getElem?_eq_none h] at ht0
 have el:=Tryz.aselemV27 ⟨w.heap.size,0,none⟩ t (((w.alloc (.cells #[.pointer (some t)] 201)).alloc (.cells #[.pointer (some ⟨16,201,none⟩),.pointer (some ⟨w.heap.size,0,none⟩),.int .u64 150] 252)).alloc (.cells #[.pointer (some ⟨16,201,none⟩),.pointer (some ⟨w.heap.size,0,none⟩),.int .u64 150] 252)) (by rw[World.cell?_alloc_lt _ _ ⟨w.heap.size,0,none⟩ (by simp;omega)];simp);have st:=Tryz.asset25 t ⟨w.heap.size+1+1+1,0,none⟩ e old ((((w.alloc (.cells #[.pointer (some t)] 201)).alloc (.cells #[.pointer (some ⟨16,201,none⟩),.pointer (some ⟨w.heap.size,0,none⟩),.int .u64 150] 252)).alloc (.cells #[.pointer (some ⟨16,201,none⟩),.pointer (some ⟨w.heap.size,0,none⟩),.int .u64 150] 252)).alloc (.cells #[.pointer (some e)] 158))
  (by rw[World.cell?_alloc_at _ _ _ _ (by simp)];rfl)
  (by rw[World.cell?_alloc_lt _ _ t (by simp;omega),World.cell?_alloc_lt _ _ t (by simp;omega),World.cell?_alloc_lt _ _ t (by simp;omega),World.cell?_alloc_lt _ _ t htl];exact ht0)
  (by rw[World.frozen?_alloc_old _ _ t (by simp;omega),World.frozen?_alloc_old _ _ t (by simp;omega),World.frozen?_alloc_old _ _ t (by simp;omega),World.frozen?_alloc_old _ _ t (Nat.ne_of_lt htl)];exact hf0)
 go_enter func120,ntmps120;go_wp2;refine wp_loop_rounds 1 ?_;rw[rounds_succ];go_wp2;go_ret;exact⟨rfl,rfl⟩
end Go.Proofs.YtcfjhbcpjpgodaaGreatDoor

/- Proved here: plain facts on when a message has a frame. -/
import Derived.Test.YtcfjhbcpjpgodaaGreatDoorBase
import Derived.Laws.BytesArg
import Derived.Lib.Strings
import Derived.Lib.RabinKarpLaws
import Derived.WalkSpells
import Derived.Deep.QuietTactic
import Derived.BigQuiet
import Derived.BigRegion
import Derived.Deep.RegionWith
import Derived.WalkSmall
namespace Go.Proofs.YtcfjhbcpjpgodaaGreatDoor
open Go.RowKit Go.Proofs.Tryz
variable{K H R F V:Int}{nl:Bool}{s:ByteArray}
def hasB(K H R F V:Int)(nl:Bool)(n:Nat):Bool:=
 decide (0≤H∧H<12∧0≤R∧R≤255∧0≤F∧F<8∧n≤24∧((K=1∧nl=false∧-1≤V∧V<R)∨((K=2∨K=3)∧V=0∧(nl=false∨n=0))))
theorem isEmpty_size(s:ByteArray):s.toList.isEmpty=decide (s.size=0):=by
 rw[ByteArray.toList_eq,Bool.eq_iff_iff,List.isEmpty_iff,decide_eq_true_eq,←List.length_eq_zero_iff];simp
theorem hasB_nil(K H R F:Int)(n:Nat)(h1:0≤H)(h2:H<12)(h3:0≤R)(h4:R≤255)(h5:0≤F)(h6:F<8)(_h7:n≤24)(hk:K=2∨K=3):decide (n=0)=hasB K H R F 0 true n:=by
 unfold hasB;rw[decide_eq_decide];simp;omega
theorem ret_bool{a b:Bool}(h:a=b):Ending.returned (.bool a)=.returned (.bool b):=by rw[h]
def markOf(K V:Int)(nl:Bool):Int:=if K=1 then V+1 else if nl then 1 else 0
theorem ret_int{k:IntKind}{a b:Int}(h:a=b):Ending.returned (.int k a)=.returned (.int k b):=by rw[h]
def frameOf(K H R F M:Int)(s:ByteArray):ByteArray:=strOfNums [K,H,R,F,M,s.size]++s
theorem size6(x0 x1 x2 x3 x4 x5:Int):(strOfNums [x0,x1,x2,x3,x4,x5]).size=6:=strOfNums_size _
def encS(K H R F V:Int)(nl:Bool)(s:ByteArray):ByteArray:=if hasB K H R F V nl s.size=true then frameOf K H R F (markOf K V nl) s else⟨#[]⟩
theorem encS_yes(h:hasB K H R F V nl s.size=true):encS K H R F V nl s=frameOf K H R F (markOf K V nl) s:=by unfold encS;rw[if_pos h]
theorem encS_no(h:hasB K H R F V nl s.size=false):encS K H R F V nl s=⟨#[]⟩:=by unfold encS;rw[if_neg (by simp[h])]
structure Parts (t:ByteArray) (k0 k1 k2 k3 k4 k5:Int) (s:ByteArray):Prop where
 whole:t=strOfNums [k0,k1,k2,k3,k4,k5]++s
 size:t.size=6+s.size
 at0:∀W:World,(Instr.index 9 (.string t) (.int .i64 0)).run prog W=.ok (.int .u8 k0) W
 at1:∀W:World,(Instr.index 9 (.string t) (.int .i64 1)).run prog W=.ok (.int .u8 k1) W
 at2:∀W:World,(Instr.index 9 (.string t) (.int .i64 2)).run prog W=.ok (.int .u8 k2) W
 at3:∀W:World,(Instr.index 9 (.string t) (.int .i64 3)).run prog W=.ok (.int .u8 k3) W
 at4:∀W:World,(Instr.index 9 (.string t) (.int .i64 4)).run prog W=.ok (.int .u8 k4) W
 at5:∀W:World,(Instr.index 9 (.string t) (.int .i64 5)).run prog W=.ok (.int .u8 k5) W
 rest:∀W:World,(Instr.slice 9 (.string t) (some (.int .i64 6)) none none).run prog W=.ok (.string s) W
 b0:0≤k0∧k0≤255
 b1:0≤k1∧k1≤255
 b2:0≤k2∧k2≤255
 b3:0≤k3∧k3≤255
 b4:0≤k4∧k4≤255
 b5:0≤k5∧k5≤255
theorem index_at(t:ByteArray)(i:Nat)(h:i<t.size)(W:World):(Instr.index 9 (.string t) (.int .i64 (i:Int))).run prog W=.ok (.int .u8 (t[i].toNat:Int)) W:=by
 rw[run_index_string _ _ _ _ _ underlying9];simp[h]
theorem parts_at(t:ByteArray)(h:6≤t.size):Parts t (t[0].toNat:Int) (t[1].toNat:Int) (t[2].toNat:Int) (t[3].toNat:Int) (t[4].toNat:Int) (t[5].toNat:Int) (t.extract 6 t.size):=by
 have hb:∀x:UInt8,0≤(x.toNat:Int)∧(x.toNat:Int)≤255:=fun x=>by have:=x.toNat_lt;omega
 refine⟨?_,?_,index_at t 0 (by omega),index_at t 1 (by omega),index_at t 2 (by omega),index_at t 3 (by omega),index_at t 4 (by omega),index_at t 5 (by omega),?_,hb _,hb _,hb _,hb _,hb _,hb _⟩
 .apply ByteArray.ext;apply Array.toList_inj.1;rw[ByteArray.data_append,Array.toList_append,Lib.extract_data,strOfNums_data];have hl:6≤t.data.toList.length:=by rw[←Lib.size_eq];exact h
  have e:t.data.toList=t.data.toList.take 6++t.data.toList.drop 6:=(List.take_append_drop _ _).symm;rw[List.take_of_length_le (by simp)]
  conv=>lhs;rw[e]
  congr 1
  apply List.ext_getElem?;intro i;by_cases hi:i<6
  .rw [List.getElem?_take_of_lt hi,byte_at t i (by omega)];match i,hi with
   |0,_|1,_|2,_|3,_|4,_|5,_=>simp
  rw[List.getElem?_eq_none (by simp;omega),List.getElem?_eq_none (by simp;omega)]
 .simp;omega
 intro W;rw[run_slice_string_from_if _ _ _ _ _ underlying9];have h6:(6:Int)≤(t.size:Int):=by omega
 simp[h6]
theorem byt_get(t:ByteArray)(i:Nat)(h:i<t.size):byt t i=(t[i].toNat:Int):=by
 unfold byt;have hl:i<t.data.toList.length:=by simpa using h
 rw[List.getD_eq_getElem?_getD,List.getElem?_eq_getElem hl];rfl
theorem parts_byt(t:ByteArray)(h:6≤t.size):Parts t (byt t 0) (byt t 1) (byt t 2) (byt t 3) (byt t 4) (byt t 5) (t.extract 6 t.size):=by
 rw[byt_get t 0 (by omega),byt_get t 1 (by omega),byt_get t 2 (by omega),byt_get t 3 (by omega),byt_get t 4 (by omega),byt_get t 5 (by omega)];exact parts_at t h
def vOf(k0 k4:Int):Int:=if k0=1 then k4-1 else 0
def nlOf(k0 k4:Int):Bool:=if k0=1 then false else decide (k4=1)
def decB(k0 k1 k2 k3 k4 k5:Int)(n:Nat):Bool:=hasB k0 k1 k2 k3 (vOf k0 k4) (nlOf k0 k4) n&&decide (markOf k0 (vOf k0 k4) (nlOf k0 k4)=k4)&&decide ((n:Int)=k5)
def decM(k0 k1 k2 k3 k4 k5:Int)(s:ByteArray):Value:=
 if decB k0 k1 k2 k3 k4 k5 s.size=true then .agg #[.int .i64 k0,.int .i64 k1,.int .i64 k2,.int .i64 k3,.int .i64 (vOf k0 k4),.bool (nlOf k0 k4),.string s]
 else .agg #[.int .i64 0,.int .i64 0,.int .i64 0,.int .i64 0,.int .i64 0,.bool false,.string ⟨#[]⟩]
theorem decB_no{k0 k1 k2 k3 k4 k5:Int}{n:Nat}(h:hasB k0 k1 k2 k3 (vOf k0 k4) (nlOf k0 k4) n=false):decB k0 k1 k2 k3 k4 k5 n=false:=by
 unfold decB;rw[h];rfl
structure MsgV where
 k:Int
 h:Int
 r:Int
 f:Int
 v:Int
 nl:Bool
 s:ByteArray
def MsgV.cells(m:MsgV):Array Value:=#[.int .i64 m.k,.int .i64 m.h,.int .i64 m.r,.int .i64 m.f,.int .i64 m.v,.bool m.nl,.string m.s]
def msg0:MsgV:=⟨0,0,0,0,0,false,⟨#[]⟩⟩
def decOk(t:ByteArray):Bool:=decide (6≤t.size)&&decB (byt t 0) (byt t 1) (byt t 2) (byt t 3) (byt t 4) (byt t 5) (t.extract 6 t.size).size
def decV(t:ByteArray):MsgV:=if decOk t then⟨byt t 0,byt t 1,byt t 2,byt t 3,vOf (byt t 0) (byt t 4),nlOf (byt t 0) (byt t 4),t.extract 6 t.size⟩ else msg0
theorem decV_ok{t:ByteArray}(h:decOk t=true):0≤(decV t).h∧(decV t).h<12∧0≤(decV t).r∧(decV t).r≤255∧0≤(decV t).f∧(decV t).f<8∧(decV t).s.size≤24∧1≤(decV t).k∧(decV t).k≤3:=by
 have h2:=h;unfold decOk decB at h2;simp only[Bool.and_eq_true] at h2;have h3:=of_decide_eq_true h2.2.1.1;unfold decV;rw[if_pos h];simp only
 omega
end Go.Proofs.YtcfjhbcpjpgodaaGreatDoor

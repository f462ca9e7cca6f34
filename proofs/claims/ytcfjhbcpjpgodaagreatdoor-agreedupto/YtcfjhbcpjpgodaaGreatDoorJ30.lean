/- Proved here: nodes that share a ring, in memory, with the texts that were said; what stays of them where one of them turns. -/
import Derived.Test.YtcfjhbcpjpgodaaGreatDoorJ25
import Derived.Test.YtcfjhbcpjpgodaaGreatDoorJ26
import Derived.Test.YtcfjhbcpjpgodaaGreatDoorJ27
import Derived.Test.YtcfjhbcpjpgodaaGreatDoorJ21
import Derived.Test.YtcfjhbcpjpgodaaGreatDoorBase
import Derived.Test.YtcfjhbcpjpgodaaGreatDoorTakeL
namespace Go.Proofs.YtcfjhbcpjpgodaaGreatDoor
open Go.RowKit Go.Proofs.Tryz
def updF(Fs:Nat→Nat→Prop)(j:Nat)(F':Nat→Prop):Nat→Nat→Prop:=fun k=>if k=j then F' else Fs k
def updN(f:Nat→Nat)(j v:Nat):Nat→Nat:=fun k=>if k=j then v else f k
def updS(st:Nat→NodeS)(j:Nat)(s':NodeS):Nat→NodeS:=fun k=>if k=j then s' else { st k with sg:=s'.sg }
theorem updF_at{Fs:Nat→Nat→Prop}{j:Nat}{F':Nat→Prop}:updF Fs j F' j=F':=by unfold updF;rw[if_pos rfl]
theorem updF_ne{Fs:Nat→Nat→Prop}{j k:Nat}{F':Nat→Prop}(h:k≠j):updF Fs j F' k=Fs k:=by unfold updF;rw[if_neg h]
theorem updN_at{f:Nat→Nat}{j v:Nat}:updN f j v j=v:=by unfold updN;rw[if_pos rfl]
theorem updN_ne{f:Nat→Nat}{j k v:Nat}(h:k≠j):updN f j v k=f k:=by unfold updN;rw[if_neg h]
theorem updS_at{st:Nat→NodeS}{j:Nat}{s':NodeS}:updS st j s' j=s':=by unfold updS;rw[if_pos rfl]
theorem updS_ne{st:Nat→NodeS}{j k:Nat}{s':NodeS}(h:k≠j):updS st j s' k={ st k with sg:=s'.sg }:=by unfold updS;rw[if_neg h]
theorem NodeI.signed{F:Nat→Prop}{nb kb cb:Nat}{s:NodeS}{w:World}(h:NodeI F nb kb cb s w)(sg':Nat→List ByteArray):NodeI F nb kb cb { s with sg:=sg' } w:=by
 obtain⟨V,h3,h2⟩:=h;exact⟨V,⟨h3.blk,h3.eds,h3.dec,h3.cert,h3.wait,h3.log,h3.ahead,h3.tims,h3.chan,h3.alog,h3.awc,h3.acc⟩,h2⟩
theorem NOk.later{S T T' i:Nat}{e:Int}{s:NodeS}(h:NOk S T i e s)(hT:T≤T'):NOk S T' i e s:=⟨h.dom,h.pos,h.hgt,h.rnd,h.stp,h.log,h.ahead,h.ao,h.own,h.sg,h.tb,h.tims,Nat.le_trans h.time hT,h.wait,h.waitz,h.vz,h.cert,h.out⟩
theorem Below.of_goes{B:Nat}{F R F' R':Nat→Prop}{w w':World}(hG:Goes F R w F' R' w')(hF:∀k,F k→B≤k)(hR:∀k,R k→B≤k)(hB:B≤w.heap.size):Below B w w':=
 ⟨hG.same.os,hG.same.tape,hG.same.output,hG.same.size,fun k hk=>hG.same.block k (Nat.lt_of_lt_of_le hk hB) (fun e=>e.elim (fun e=>by have:=hF k e;omega) (fun e=>by have:=hR k e;omega))⟩
theorem NodeW.goesB{B:Nat}{es:List Addr}{m:Int}{F R F' R':Nat→Prop}{nb kb rb cb n i:Nat}{s:NodeS}{w w':World}(h:NodeW B es m F R nb kb rb cb n i s w)(hG:Goes F R w F' R' w'):Below B w w':=Below.of_goes hG (fun k hk=>(h.fl k hk).1) (fun k hk=>(h.rl k hk).1) h.bl
theorem Below.same{B:Nat}{D:Nat→Prop}{w w':World}(hs:SameBut D w w')(hD:∀k,D k→B≤k)(hB:B≤w.heap.size):Below B w w':=
 ⟨hs.os,hs.tape,hs.output,hs.size,fun k hk=>hs.block k (Nat.lt_of_lt_of_le hk hB) (fun e=>by have:=hD k e;omega)⟩
section
variable{P:Program}
theorem wp_append_texts{o:Oper}{a:Act}{w:World}{K:Act→World→Prop}{Q:Exit→Act→World→Prop}(s x:Operand)(t:TypeId)
 (ho:o.op=.call { callee:=.builtin .append,args:=#[s,x],argTypes:=#[t,t] })
 (base:Nat) (e:TypeId) (i:TypeInfo) (z:Value) (bytes:Nat) (ht:P.underlying t=some (.slice e)) (hi:P.info? e=some i) (hz:i.zero=some z)
 (hsize:i.size=1) (hby:i.bytes=bytes) (hzs:z.cells.size=1)
 (v:Value) (n:Nat) (xs:List Value) (hs:a.eval s=v) (hown:w.ownsRow base e 1 v n xs)
 (p:Option Addr) (m c:Nat) (fr:Nat→ByteArray) (hx:a.eval x=.slice p m c) (hp:NilOr p m c) (hl:Lies w w.heap.size p m (fun i=>.string (fr i)))
 (h63:n+m≤maxLen) (hbytes:(n+m)*bytes≤140737488355328) (hbase:base≤w.heap.size)
 (h:∀v' w',w'.ownsRow base e 1 v' (n+m) (xs++(List.range m).map fun i=>.string (fr i))→w.grownBy w' v.ownBlock→(v'.ownBlock=v.ownBlock∨v'.ownBlock=some w.heap.size)→K (a.put o.dst v') w'):o.wp P a w K Q:=by
 rcases hp with⟨rfl,rfl,rfl⟩|⟨b,off,rfl⟩
 .have hr:=run_append_owned_none (P:=P) w base t o.type e i 1 ht hi v n xs hown;unfold Oper.wp execOp;simp only[ho,resolve,invoke,builtin,Sem.run_bind,Sem.run_pure,Result.andThen_ok,List.map_toArray,List.map_cons,List.map_nil,hs,hx,hr];exact h v w (by simpa using hown) (World.grownBy.refl _ _) (Or.inl rfl)
 refine wp_append_at w s x t ho base e i z 1 bytes ht hi hz hsize hby hzs (by decide) v n xs hs hown ⟨b,off,none⟩ m c ((List.range m).map fun i=>.string (fr i)) hx (by simp) (fun j u hj=>?_) (fun u hu=>?_) h63 hbytes hbase h
 .have hjm:j<m:=by have:=(List.getElem?_eq_some_iff.1 hj).1;simpa using this
  obtain⟨b',o',e',_,hc⟩:=hl j hjm;cases e';have e2:((List.range m).map fun i=>Value.string (fr i))[j]? =some (.string (fr j)):=by simp[hjm]
  rw[e2] at hj;cases hj;rw[addr_add];exact hc
 simp only[List.mem_map] at hu;obtain⟨a,_,rfl⟩:=hu;rfl
end
theorem Only.cellN{g a:Nat}{C D:Array Value}{t:TypeId}{v:Value}{w w':World}(_h:Only g w w')(h1:w.heap[g]? =some (.cells C t (0,0)))(h2:w'.heap[g]? =some (.cells D t (0,0)))(hc:C[a]? =some v)(hd:D[a]? =some v):w'.cell? ⟨g,a,none⟩=w.cell? ⟨g,a,none⟩:=by
 rw[cell_of_row w g a _ _ _ h1,cell_of_row w' g a _ _ _ h2,hc,hd]
def pickN(c:Int)(n:Nat):Nat:=if c<0 then((-(c+1)).tmod n).toNat else(c.tmod n).toNat
theorem pickN_lt{c:Int}{n:Nat}(hn:0<n):pickN c n<n:=by
 unfold pickN;split
 .have h1:=Int.tmod_lt_of_pos (-(c+1)) (show(0:Int)<n by omega);have h2:=Int.tmod_nonneg (a:= -(c+1)) (n:Int) (by omega);omega
 have h1:=Int.tmod_lt_of_pos c (show(0:Int)<n by omega);have h2:=Int.tmod_nonneg (a:=c) (n:Int) (by omega);omega
theorem pick_at(c:Int)(n:Nat)(w:World)(h1: -9223372036854775808≤c)(h2:c≤9223372036854775807)(hn:1≤n)(hn2:n≤4000000000000):
 Calls prog 26 #[.int .i64 c,.int .i64 (n:Int)] w fun e w'=>e=.returned (.int .i64 (pickN c n:Int))∧w'=w:=by
 have hz:((n:Int)==0)=false:=by simp;omega
 have hz2:¬(n:Int)=0:=by omega
 by_cases hc:c<0
 .obtain ⟨d,hd⟩:∃d:Int,d= -(c+1):=⟨_,rfl⟩
  have hd0:0≤d:=by omega
  have hd1:d≤9223372036854775807:=by omega
  obtain⟨r,hr⟩:∃r:Nat,(r:Int)=d.tmod n:=⟨(d.tmod n).toNat,by rw[Int.toNat_of_nonneg (Int.tmod_nonneg _ hd0)]⟩;have hrn:r<n:=by have:=Int.tmod_lt_of_pos d (show(0:Int)<n by omega);omega
  have HP:Hid ((pickN c n:Int)=d.tmod n):=by unfold Hid pickN;rw[if_pos hc,←hd,←hr];simp
  obtain⟨HR,HD,HN⟩:=hide3 hr hd hrn;clear hr hrn;go_enter func26,ntmps26;go_wp2;go_ret;refine⟨?_,rfl⟩;show Ending.returned (Value.int .i64 (-(c+1).tmod (n:Int)))=_;rw[HP.out,HD.out,Int.neg_tmod]

 obtain⟨r,hr⟩:∃r:Nat,(r:Int)=c.tmod n:=⟨(c.tmod n).toNat,by rw[Int.toNat_of_nonneg (Int.tmod_nonneg _ (by omega))]⟩;have hrn:r<n:=by have:=Int.tmod_lt_of_pos c (show(0:Int)<n by omega);omega
 have HP:Hid ((pickN c n:Int)=c.tmod n):=by unfold Hid pickN;rw[if_neg hc,←hr];simp
 obtain⟨HR,HN⟩:=hide2 hr hrn;clear hr hrn;go_enter func26,ntmps26;go_wp2;go_ret;refine⟨?_,rfl⟩;show Ending.returned (Value.int .i64 (c % (n:Int)))=_;rw[HP.out,Int.tmod_eq_emod_of_nonneg (by omega)]
theorem pick_big(c:Int)(n:Nat)(w:World)(h1: -9223372036854775808≤c)(h2:c≤9223372036854775807)(hn:1≤n)(hn2:n≤4000000000000):
 Calls prog 26 #[.int .i64 c,.int .i64 (n:Int)] w fun e w'=>e=.returned (.int .i64 (pickN c n:Int))∧w'=w:=pick_at c n w h1 h2 hn hn2
structure ActV where
 k:Int
 t:Int
 f:Int
 c:Int
 m:MsgV
 r:ByteArray
def ActV.cells(a:ActV):Array Value:=#[.int .i64 a.k,.int .i64 a.t,.int .i64 a.f,.int .i64 a.c,.int .i64 a.m.k,.int .i64 a.m.h,.int .i64 a.m.r,.int .i64 a.m.f,.int .i64 a.m.v,.bool a.m.nl,.string a.m.s,.string a.r]
def in64(c:Int):Prop:= -9223372036854775808≤c∧c≤9223372036854775807
structure ActOk (a:ActV):Prop where
 k:in64 a.k
 t:in64 a.t
 f:in64 a.f
 c:in64 a.c
 mf:in64 a.m.f
 ms:a.m.s.size≤4000000000000
end Go.Proofs.YtcfjhbcpjpgodaaGreatDoor

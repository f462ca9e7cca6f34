import Derived.Test.YtcfjhbcpjpgodaaGreatDoorJ2
import Derived.Test.YtcfjhbcpjpgodaaGreatDoorTakeL
import Derived.BigQuiet
namespace Go.Proofs.YtcfjhbcpjpgodaaGreatDoor
open Go.RowKit Proofs.Tryz
set_option maxRecDepth 100000
set_option maxHeartbeats 0
set_option linter.all false
theorem Tryz.zeV:(prog.info? 3).isSome=true:=by kernel_rfl
theorem Tryz.zfm:prog.cellsOf 3=1:=by kernel_rfl
theorem Tryz.zfg(xs:Array Value)(off:Nat)(v:Value)(h:xs[off]? =some v)(w:World):(part 3 xs off).run prog w=.ok v w:=by
 have ha:(isAgg 3).run prog w=.ok false w:=by kernel_rfl
 unfold part;simp only[Sem.run_bind,ha,Result.andThen_ok];simp[h]
theorem gF(d:Nat)(xs ys:Array Value)(x y:Nat->Int)(w:World):∀is:List Nat,(∀i,i∈is->xs[i]? =some (iA (x i))/\ys[i]? =some (iA (y i)))->
 (Op.eqItems (d+1) 3 1 xs ys is).run prog w=.ok (is.all λi=>x i==y i) w
 | [],_=>by simp[Op.eqItems]
 |i::is,h=>by
  have h0:=h i (by simp);have ih:=gF d xs ys x y w is (λj hj=>h j (by simp[hj]));have p1:=Tryz.zfg xs i _ h0.1 w;have p2:=Tryz.zfg ys i _ h0.2 w;have p3:=run_equalIn_int (P:=prog) w d 3 .i64 .i64 (x i) (y i) underlying3;simp only[Op.eqItems,Nat.mul_one,Sem.run_bind,p1,p2,p3,Result.andThen_ok];cases hxy:(x i==y i)
  .simp [hxy]
  .simp [hxy,ih]
theorem eq8(x y:Nat->Int)(w:World):(Op.equalIn 10000 46 (.agg #[iA (x 0),iA (x 1),iA (x 2),iA (x 3),iA (x 4),iA (x 5),iA (x 6),iA (x 7)]) (.agg #[iA (y 0),iA (y 1),iA (y 2),iA (y 3),iA (y 4),iA (y 5),iA (y 6),iA (y 7)])).run prog w=.ok ((List.range 8).all λi=>x i==y i) w:=by
 obtain⟨i,hi⟩:=Option.isSome_iff_exists.1 Tryz.zeV;rw[run_equalIn_array w 9999 _ _ underlying46 hi,Tryz.zfm];refine gF 9998 _ _ x y w (List.range 8) λj hj=>?_;have aa:j<8:=by simpa using hj
 match j,aa with
 |0,_|1,_|2,_|3,_|4,_|5,_|6,_|7,_=>simp
section
variable{n:Nat}{sg:Nat->List zgW}{l:List zgW}{t:zgW}
def RingI(F:Nat->Prop)(rb n:Nat)(sg:Nat->List zgW)(w:World):Prop:=
 ∃(ob cap:Nat) (cur:Array Value) (iv:Nat->Value),
  w.heap[rb]? =some (.cells #[.slice (some (aA ob 0)) n cap] 112 (0,0))/\w.heap[ob]? =some (.cells cur 30 (0,0))/\(∀i,i<n->cur[i]? =some (iv i))/\
  (∀i,i<n->w.ownsRow 0 9 1 (iv i) (sg i).length ((sg i).map .string))/\(∀i j,i<n->j<n->i≠j->∀g,(iv i).ownBlock=some g->(iv j).ownBlock≠some g)/\
  F rb/\F ob/\∀i,i<n->∀g,(iv i).ownBlock=some g->F g
theorem RingI.frame{F:Nat->Prop}{rb:Nat}{w w':World}(h:RingI F rb n sg w)(hb:∀k,F k->w'.heap[k]? =w.heap[k]?):RingI F rb n sg w':=by
 obtain⟨ob,cap,cur,iv,h1,h2,h3,h4,h5,h6,h7,h8⟩:=h;exact⟨ob,cap,cur,iv,(hb rb h6).trans h1,(hb ob h7).trans h2,h3,λi hi=>zb (h4 i hi) (λg e _=>hb g (h8 i hi g e)),h5,h6,h7,h8⟩
def GK(l:List zgW)(t:zgW):Bool:=l.any λs=>s.data==t.data
theorem gZ(l:List zgW)(t:zgW):GK l t=true↔t∈l:=by
 unfold GK;rw[List.any_eq_true];constructor
 .rintro ⟨s,hs,he⟩
  have:s=t:=ByteArray.ext (by simpa using he);rw[<-this];exact hs
 intro h;exact⟨t,h,by simp⟩
theorem xA(h:t∈l):GK l t=true:=(gZ l t).2 h
theorem Js(h:t∉l):GK l t=false:=by
 cases e:GK l t with
 |false=>rfl
 |true=>exact absurd ((gZ l t).1 e) h
def z8(sg:Nat->List zgW)(n:Nat)(id:Int)(t:zgW):Bool:=decide (0<=id/\id<(n:Int))&&GK (sg id.toNat) t
theorem QZ{id:Int}(h:¬(0<=id/\id<(n:Int))):z8 sg n id t=false:=by unfold z8;rw[zgH h];rfl
theorem vg{i:Nat}(h:i<n):z8 sg n (i:Int) t=GK (sg i) t:=by unfold z8;rw[zgG (by omega)];simp
theorem kP{s:zgW}(h:¬s=t):(s.toList==t.toList)=false:=by
 apply Bool.eq_false_iff.2;intro e;have e1:s.toList=t.toList:=by simpa using e
 rw[ByteArray.toList_eq,ByteArray.toList_eq] at e1;exact h (ByteArray.ext (Array.ext' e1))
theorem Kh(l:List zgW)(t:zgW)(k:Nat)(h:t∉l.take k)(hn:l.getD k zgV≠t):t∉l.take (k+1):=by
 intro hm;by_cases hk:k<l.length
 .rw [<-List.take_append_getElem hk,zgK] at hm;rcases hm with hm|hm
  .exact h hm
  rw[zgM] at hm;rw[zgz,zgy hk] at hn;exact hn hm.symm
 rw[List.take_of_length_le (by omega)] at hm h;exact h hm
theorem qP(F:Nat->Prop)(rb n:Nat)(sg:Nat->List zgW)(id:Int)(t:zgW)(w:World)(h:RingI F rb n sg w):
 Calls prog 71 #[pA rb 0,iA id,sA t] w λe w'=>e=.returned (bA (z8 sg n id t))/\w'=w:=by
 obtain⟨ob,cap,cur,iv,h1,h2,h3,h4,-,-,-,-⟩:=h;have hc0:cE w rb 0 (.slice (some (aA ob 0)) n cap):=zgs w rb 0 _ _ _ h1;by_cases ho:0<=id/\id<(n:Int)
 .obtain ⟨i,rfl⟩:∃i:Nat,id=(i:Int):=⟨id.toNat,by omega⟩
  have ag:i<n:=by omega
  obtain⟨ip,ic,he,hm,ab⟩:=zL (h4 i ag);have al:w.cell? (aA ob i)=some (.slice ip (sg i).length ic):=by rw[zgs w ob i _ _ _ h2,h3 i ag,he]
  rw[vg ag];obtain⟨l,hl⟩:=gen (sg i);rw[<-hl] at ab al hm ⊢;have HL:=zc ab;have hb1:¬(i:Int)<0:=by omega
  have hb2:¬(n:Int)<=(i:Int):=by omega
  have hb3:(i:Int)<n:=by omega
  have hmx:l.length<=9223372036854775807:=by unfold maxLen at hm;omega
  clear h1 h2 h3 h4 he ab ho hl hm;go_enter func71,ntmps71;go_wp2
  go_loop [7] (λk=>∃j:Nat,j<=l.length/\k=iA j/\t∉l.take j) (λk=>l.length-(intOf k).toNat)
  case atStart=>exact⟨0,by omega,rfl,by simp⟩
  obtain⟨j,hj,rfl,aa⟩:=hrel;by_cases ad:j=l.length
  .have HF:Hid (GK l t=false):=Js (by rw[ad,zg7] at aa;exact aa);have ak:¬(j:Int)<l.length:=by omega
   clear ad aa;go_wp2;go_ret;exact⟨zS HF.o.symm,rfl⟩
  have af:j<l.length:=by omega
  have aj:(j:Int)<l.length:=by omega
  obtain⟨b,o,rfl,-,ah⟩:=HL.o j af;obtain⟨s,hs⟩:=gen (l.getD j zgV);have hc3:w.cell? (aA b (o+j))=some (sA s):=by rw[hs];exact ah
  clear ah;by_cases ae:s=t
  .have HF:Hid (GK l t=true):=xA (by rw[<-ae,hs,zgz,zgy af];exact List.getElem_mem af);subst ae;clear hs ad aa;go_wp2;go_ret;exact⟨zS HF.o.symm,rfl⟩
  have HM:=zc (Kh l t j aa (by rw[<-hs];exact ae));have q1:=kP ae;clear hs ad aa;go_wp2
  go_round
  case rel=>exact⟨j+1,by omega,by go_num,HM.o⟩
  simp[intOf];omega
 rw[QZ ho];by_cases ai:id<0
 .clear h1 h2 h3 h4 ho;go_enter func71,ntmps71;go_wp2;go_ret;exact⟨rfl,rfl⟩
 have ak:(n:Int)<=id:=by omega
 clear h1 h2 h3 h4 ho;go_enter func71,ntmps71;go_wp2;go_ret;exact⟨rfl,rfl⟩
end
def regOf(g:Nat->Int)(k:Nat):Nat->Int:=λi=>if i<k then g i else 0
theorem Yl(g:Nat->Int):regOf g 0=zA:=by funext i;simp[regOf,zA]
theorem Ym(g:Nat->Int)(k:Nat):upd (regOf g k) k (g k)=regOf g (k+1):=by
 funext i;simp only[upd,regOf];by_cases h:i=k
 .subst h;simp
 rw[zgU h];by_cases h2:i<k
 .rw [zgT h2,zgT (by omega)]
 rw[zgU h2,zgU (by omega)]
def gN(g:Nat->Int)(n:Nat):(Nat->Int)×Bool:=if n<=8/\∀i,i<n->0<=g i/\g i<=9 then(regOf g n,decide (0<sumTo g n)) else(zA,false)
theorem vw(g:Nat->Int)(n:Nat)(h:¬(n<=8/\∀i,i<n->0<=g i/\g i<=9)):gN g n=(zA,false):=zgU h
theorem Qr(g:Nat->Int)(n:Nat)(h:n<=8)(h2:∀i,i<n->0<=g i/\g i<=9):gN g n=(regOf g n,decide (0<sumTo g n)):=zgT ⟨h,h2⟩
theorem ZI(g:Nat->Int)(p:Option Addr)(n cap:Nat)(w:World)(hl:kG w w.heap.size p n (λi=>iA (g i))):
 Calls prog 13 #[.slice p n cap] w λe w'=>e=.returned (.tuple #[.agg (regA (gN g n).1),bA (gN g n).2])/\BW w w':=by
 have z0:=zX;have HL:=zc hl;clear hl;go_enter func13,ntmps13;go_wp2;go_loopw [5,6] (λs i wr=>∃k:Nat,k<=n/\k<=8/\(∀j,j<k->0<=g j/\g j<=9)/\i=iA k/\s=iA (sumTo g k)/\RegAt wr w.heap.size 49 zA/\RegAt wr (w.heap.size+1) 49 (regOf g k)/\BW w wr) (λ_ i _=>n-(intOf i).toNat)
 case atStart=>
  refine⟨0,by omega,by omega,λj hj=>by omega,rfl,rfl,?_,?_,?_⟩
  .have h:=(RegAt.alloc w 49 zA).below ((zgq _ _).alloc (zgp _) (.cells (regA zA) 49));rw[<-z0] at h ⊢;exact h
  .have h:=RegAt.alloc (w.alloc (.cells (regA zA) 49)) 49 zA;rw[Yl];simpa using h
  exact(bwA w).alloc (by simp) _
 obtain⟨k,hk,af,hd,rfl,rfl,h1,h2,hb⟩:=hrel;obtain⟨HD,HB,H1,H2⟩:=yi hd hb h1 h2;clear hd hb h1 h2;by_cases ab:k=n
 .subst ab;go_wp2_with (first|(refine zn rfl 49 _ rfl _ rfl 49 _ _ H2 underlying49 rfl Tryz.zc3 ?_)|(refine zk rfl 49 _ _ rfl (w.heap.size) _ rfl rfl 49 _ H1 (zg _) Tryz.zc3 ?_;intro w2 hq ho))
  exact zgJ (v:=.tuple #[.agg (regA (regOf g k)),bA (decide (0<sumTo g k))]) (zo results13 _ _ w.heap.size 49 _ _ _ rfl rfl hq underlying49 rfl Tryz.zc3) rfl ⟨by rw[Qr g k af HD.o],HB.o.trans (ho.below (zgp _))⟩
 have aa:k<n:=by omega
 have hki:(k:Int)<n:=by omega
 obtain⟨b,o,rfl,ak,hc⟩:=HL.o k aa;have ai:=(HB.o.cell (p:=(aA b (o+k))) (by exact ak)).trans hc;clear hc ab;by_cases h8:k=8
 .subst h8;have HR:gN g n=(zA,false):=vw g n (λhh=>by have:=hh.1;omega);go_wp2_with (refine zk rfl 49 _ _ rfl (w.heap.size) zA rfl rfl 49 _ H1 (zg _) Tryz.zc3 ?_;intro w2 hq ho)
  exact zgJ (v:=.tuple #[.agg (regA zA),bA false]) (zo results13 _ _ w.heap.size 49 _ _ _ rfl rfl hq underlying49 rfl Tryz.zc3) rfl ⟨by first|rfl|rw[HR],HB.o.trans (ho.below (zgp _))⟩
 have h8i:(k:Int)<8:=by omega
 by_cases ae:g k<0
 .have HR:gN g n=(zA,false):=vw g n (λhh=>by have:=hh.2 k aa;omega);go_wp2_with (refine zk rfl 49 _ _ rfl (w.heap.size) zA rfl rfl 49 _ H1 (zg _) Tryz.zc3 ?_;intro w2 hq ho)
  exact zgJ (v:=.tuple #[.agg (regA zA),bA false]) (zo results13 _ _ w.heap.size 49 _ _ _ rfl rfl hq underlying49 rfl Tryz.zc3) rfl ⟨by first|rfl|rw[HR],HB.o.trans (ho.below (zgp _))⟩
 by_cases aj:9<g k
 .have HR:gN g n=(zA,false):=vw g n (λhh=>by have:=hh.2 k aa;omega);go_wp2_with (refine zk rfl 49 _ _ rfl (w.heap.size) zA rfl rfl 49 _ H1 (zg _) Tryz.zc3 ?_;intro w2 hq ho)
  exact zgJ (v:=.tuple #[.agg (regA zA),bA false]) (zo results13 _ _ w.heap.size 49 _ _ _ rfl rfl hq underlying49 rfl Tryz.zc3) rfl ⟨by first|rfl|rw[HR],HB.o.trans (ho.below (zgp _))⟩
 have hsb:=yH g k HD;have ad:=H2.o.cell k (by omega);have hfz:=H2.o.frozen k;have ah:(wr.setCell (aA (w.heap.size+1) k) (iA (g k))).cell? (aA b (o+k))=some (iA (g k)):=by
  rw[<-ai];exact zgw (by simp[World.setCell,Array.getElem?_modify];omega)
 go_wp2;go_roundw
 case rel=>
  refine⟨k+1,by omega,by omega,λj hj=>?_,by go_num,rfl,?_,?_,?_⟩
  .by_cases ag:j<k
   .exact HD j ag
   obtain rfl:j=k:=by omega
   omega
  .exact H1.o.only (zd _ _ _ _) (by omega)
  .rw [<-Ym];exact H2.o.set k (g k) (by omega)
  exact HB.o.trans ((zd _ _ _ _).below (by omega))
 simp[intOf];omega
theorem QH(x:Nat->Int)(k v:Nat)(_hk:k<8)(h:x k=v):((List.range 8).all λi=>upd x k (v:Int) i==x i)=true:=by
 rw[List.all_eq_true];intro i _;unfold upd;split
 .rename_i e;subst e;simp[h]
 simp
theorem Ku(x:Nat->Int)(k v:Nat)(hk:k<8)(h:¬x k=v):((List.range 8).all λi=>upd x k (v:Int) i==x i)=false:=by
 rw[List.all_eq_false];refine⟨k,by simpa using hk,?_⟩;rw[JG];simp;omega
theorem zck(x:Nat->Int)(t:zgW)(k v:Nat)(w:World)(hx:∀i,i<8->0<=x i/\x i<=9)(hk:k<8)(hv:v<10)
 (a0:∀W:World,(Instr.index 9 (sA t) (iA 0)).run prog W=.ok (.int .u8 118) W) (a1:∀W:World,(Instr.index 9 (sA t) (iA 1)).run prog W=.ok (.int .u8 ((k:Int)+48)) W)
 (a2:∀W:World,(Instr.index 9 (sA t) (iA 2)).run prog W=.ok (.int .u8 ((v:Int)+48)) W):
 Calls prog 189 #[.agg (regA x),sA t] w λe w'=>e=.returned (.tuple #[.agg (regA (upd x k v)),bA (decide (0<sumTo (upd x k v) 8)&&decide (x k≠v))])/\BW w w':=by
 have e1:XB ((k:Int)+48)=k:=by rw[jo (by omega)];omega
 have e2:XB ((v:Int)+48)=v:=by rw[jo (by omega)];omega
 have HX:=zc hx;have HY:Hid (∀i,i<8->0<=upd x k (v:Int) i/\upd x k (v:Int) i<=9):=λi hi=>by
  unfold upd;split
  .omega
  exact hx i hi
 have z0:=zX;clear hx;have ad:∀o,RegAt ((w.alloc (.cells (regA x) 49)).alloc o) w.heap.size 49 x:=λo=>(RegAt.alloc w 49 x).below (bwA _);have af:∀(o1 o2:Obj) (y z:Nat->Int),(storeCells (aA (w.heap.size+1+1) 0) (regA y).toList).run prog (((w.alloc o1).alloc o2).alloc (.cells (regA z) 49))=.ok () (((w.alloc o1).alloc o2).alloc (.cells (regA y) 49)):=λo1 o2 y z=>by
  have:=yE (P:=prog) ((w.alloc o1).alloc o2) 49 z y;simpa using this
 have ae:=qD x k (by omega);have hk8:(k:Int)<8:=by omega
 have ab:=xp x k (v:Int) (by omega);go_enter func189,ntmps189;go_wp2_with (first|(refine zn rfl 49 _ rfl _ rfl 49 x _ (ad _) underlying49 rfl Tryz.zc3 ?_))
 refine rgd (S:=λ_=>True) trivial λ_=>?_;refine y8 [(0,some 13,sA t),(1,some 14,.int .u8 ((k:Int)+48)),(3,some 16,sA t),(4,some 17,.int .u8 ((v:Int)+48)),(6,some 19,pA (w.heap.size+1+1) 0)] _ _ trivial ?_;simp only[zh,AP,pA];refine zp 2 λK hK=>?_;go_simp;go_wp2_with ((go_at_call 178;refine(zK _ _ (by omega) (by omega)).mono ?_;rintro e w1 ⟨rfl,rfl⟩))
 refine hK.out _ _ trivial λ_=>?_;clear hK K;refine zp 5 λK hK=>?_;go_simp;go_wp2_with ((go_at_call 178;refine(zK _ _ (by omega) (by omega)).mono ?_;rintro e w1 ⟨rfl,rfl⟩))
 refine hK.out _ _ trivial λ_=>?_;clear hK K;refine y8 [(7,some 20,pA (w.heap.size+1+1) k)] _ _ trivial ?_;simp only[zh,AP,pA];refine zp 8 λK hK=>?_;go_simp;refine hK.out _ _ trivial λ_=>?_;clear hK K;refine dnr ?_;go_wp2_with fail
 have HA:Hid (RegAt (((w.alloc (.cells (regA x) 49)).alloc (.cells (regA zA) 49)).alloc (.cells (regA (upd x k (v:Int))) 49)).drew (w.heap.size+1+1) 49 (upd x k (v:Int))):=by
  have:=RegAt.alloc ((w.alloc (.cells (regA x) 49)).alloc (.cells (regA zA) 49)) 49 (upd x k (v:Int));have h2:RegAt (((w.alloc (.cells (regA x) 49)).alloc (.cells (regA zA) 49)).alloc (.cells (regA (upd x k (v:Int))) 49)) (w.heap.size+1+1) 49 (upd x k (v:Int)):=by simpa using this
  exact h2.drew
 have HC:Hid (RegAt (((w.alloc (.cells (regA x) 49)).alloc (.cells (regA zA) 49)).alloc (.cells (regA (upd x k (v:Int))) 49)).drew w.heap.size 49 x):=((ad _).below (bwA _)).drew;have HD:Hid (RegAt (((w.alloc (.cells (regA x) 49)).alloc (.cells (regA zA) 49)).alloc (.cells (regA (upd x k (v:Int))) 49)).drew (w.heap.size+1) 49 zA):=by
  have:=(RegAt.alloc (w.alloc (.cells (regA x) 49)) 49 zA).below ((zgq _ _).alloc (zgp _) (.cells (regA (upd x k (v:Int))) 49));have h2:RegAt (((w.alloc (.cells (regA x) 49)).alloc (.cells (regA zA) 49)).alloc (.cells (regA (upd x k (v:Int))) 49)) (w.heap.size+1) 49 zA:=by simpa using this
  exact h2.drew
 have HB:Hid (BW w (((w.alloc (.cells (regA x) 49)).alloc (.cells (regA zA) 49)).alloc (.cells (regA (upd x k (v:Int))) 49)).drew):=(((bwA w).alloc (by simp) _).alloc (by simp;omega) _).drew;clear ad af ae ab z0 e1 e2 a0 a1 a2;generalize (((w.alloc (.cells (regA x) 49)).alloc (.cells (regA zA) 49)).alloc (.cells (regA (upd x k (v:Int))) 49)).drew=W4 at HA HC HD HB ⊢;by_cases hs:0<sumTo (upd x k (v:Int)) 8
 .by_cases hn:x k=v
  .have hq:=eq8 (upd x k (v:Int)) x;rw[QH x k v hk hn] at hq;have HR:Hid ((decide (0<sumTo (upd x k (v:Int)) 8)&&decide (x k≠v))=false):=by unfold Hid;simp[hn]
   clear hn;refine rgd (S:=(λw'=>RegAt w' (w.heap.size+1+1) 49 (upd x k (v:Int))/\RegAt w' w.heap.size 49 x/\(∃q,RegAt w' (w.heap.size+1) 49 q)/\BW w w')) ⟨HA.o.drew,HC.o.drew,⟨zA,HD.o.drew⟩,HB.o.drew⟩ λhH=>?_;refine takeN [(0,some 21,.agg (regA (upd x k (v:Int)))),(1,some 22,.agg (regA (upd x k (v:Int))))] _ _ hH (by repeat(first|exact zgY|(refine tkc rfl rfl (zv (by rfl) 49 _ rfl (w.heap.size+1+1) rfl 49 (upd x k (v:Int)) _ (λw h=>h.1) underlying49 rfl Tryz.zc3) ?_;simp only[AP]))) ?_;simp only[zh,AP];refine zp 2 λK hK=>?_;go_simp;go_wp2_with ((go_at_call 194;refine(xq (upd x k (v:Int)) _ HY).mono ?_;rintro e w1 ⟨rfl,aa⟩))
   refine hK.out _ _ ⟨hH.1.below aa,hH.2.1.below aa,⟨_,hH.2.2.1.choose_spec.below aa⟩,hH.2.2.2.trans (aa.mono hH.2.2.2.size)⟩ λhH=>?_;clear hK K;refine takeN [(3,some 24,bA true),(4,some 25,bA true),(5,some 26,pA (w.heap.size+1+1) 0),(6,some 27,.agg #[iA (upd x k (v:Int) 0),iA (upd x k (v:Int) 1),iA (upd x k (v:Int) 2),iA (upd x k (v:Int) 3),iA (upd x k (v:Int) 4),iA (upd x k (v:Int) 5),iA (upd x k (v:Int) 6),iA (upd x k (v:Int) 7)]),(7,some 28,pA w.heap.size 0),(8,some 29,.agg #[iA (x 0),iA (x 1),iA (x 2),iA (x 3),iA (x 4),iA (x 5),iA (x 6),iA (x 7)]),(9,some 30,bA false),(10,some 31,bA false)] _ _ hH (by repeat(first|exact zgY|((first|refine tkc rfl rfl (yD (by rfl) 46 _ rfl (w.heap.size+1+1) rfl 49 (upd x k (v:Int)) _ (λw h=>h.1) underlying46 rfl Tryz.zdI) ?_|refine tkc rfl rfl (yD (by rfl) 46 _ rfl w.heap.size rfl 49 x _ (λw h=>h.2.1) underlying46 rfl Tryz.zdI) ?_|(refine tkc rfl rfl (zgR ⟨by rfl,λx h=>?_⟩) ?_;focus(go_simp;done)));simp only[AP]))) ?_;simp only[zh,AP,pA];refine zp 11 λK hK=>?_;rw[zgT (by rfl)];refine zu 49 _ _ rfl (w.heap.size+1) (upd x k (v:Int)) rfl rfl 49 (regA hH.2.2.1.choose) hH.2.2.1.choose_spec (zg _) Tryz.zc3 ?_;intro w2 hq ho;have HQ:=zc hq;refine hK.out _ _ ⟨hH.1.only ho (by omega),hH.2.1.only ho (by omega),⟨_,hq⟩,hH.2.2.2.trans (ho.below (by omega))⟩ λhH=>?_;clear hK K hq ho;refine zp 12 λK hK=>?_;go_simp;refine hK.out _ _ hH λhH=>?_;clear hK K;refine dnr ?_;go_wp2;exact zgJ (v:=.tuple #[.agg (regA (upd x k (v:Int))),bA false]) (zo results189 _ _ (w.heap.size+1) 49 (upd x k (v:Int)) _ _ rfl rfl HQ underlying49 rfl Tryz.zc3) rfl ⟨by rw[HR.o],hH.2.2.2⟩
  have hq:=eq8 (upd x k (v:Int)) x;rw[Ku x k v hk hn] at hq;have HR:Hid ((decide (0<sumTo (upd x k (v:Int)) 8)&&decide (x k≠v))=true):=by unfold Hid;simp[hn,hs]
  clear hn;refine rgd (S:=(λw'=>RegAt w' (w.heap.size+1+1) 49 (upd x k (v:Int))/\RegAt w' w.heap.size 49 x/\(∃q,RegAt w' (w.heap.size+1) 49 q)/\BW w w')) ⟨HA.o.drew,HC.o.drew,⟨zA,HD.o.drew⟩,HB.o.drew⟩ λhH=>?_;refine takeN [(0,some 21,.agg (regA (upd x k (v:Int)))),(1,some 22,.agg (regA (upd x k (v:Int))))] _ _ hH (by repeat(first|exact zgY|(refine tkc rfl rfl (zv (by rfl) 49 _ rfl (w.heap.size+1+1) rfl 49 (upd x k (v:Int)) _ (λw h=>h.1) underlying49 rfl Tryz.zc3) ?_;simp only[AP]))) ?_;simp only[zh,AP];refine zp 2 λK hK=>?_;go_simp;go_wp2_with ((go_at_call 194;refine(xq (upd x k (v:Int)) _ HY).mono ?_;rintro e w1 ⟨rfl,aa⟩))
  refine hK.out _ _ ⟨hH.1.below aa,hH.2.1.below aa,⟨_,hH.2.2.1.choose_spec.below aa⟩,hH.2.2.2.trans (aa.mono hH.2.2.2.size)⟩ λhH=>?_;clear hK K;refine takeN [(3,some 24,bA true),(4,some 25,bA true),(5,some 26,pA (w.heap.size+1+1) 0),(6,some 27,.agg #[iA (upd x k (v:Int) 0),iA (upd x k (v:Int) 1),iA (upd x k (v:Int) 2),iA (upd x k (v:Int) 3),iA (upd x k (v:Int) 4),iA (upd x k (v:Int) 5),iA (upd x k (v:Int) 6),iA (upd x k (v:Int) 7)]),(7,some 28,pA w.heap.size 0),(8,some 29,.agg #[iA (x 0),iA (x 1),iA (x 2),iA (x 3),iA (x 4),iA (x 5),iA (x 6),iA (x 7)]),(9,some 30,bA true),(10,some 31,bA true)] _ _ hH (by repeat(first|exact zgY|((first|refine tkc rfl rfl (yD (by rfl) 46 _ rfl (w.heap.size+1+1) rfl 49 (upd x k (v:Int)) _ (λw h=>h.1) underlying46 rfl Tryz.zdI) ?_|refine tkc rfl rfl (yD (by rfl) 46 _ rfl w.heap.size rfl 49 x _ (λw h=>h.2.1) underlying46 rfl Tryz.zdI) ?_|(refine tkc rfl rfl (zgR ⟨by rfl,λx h=>?_⟩) ?_;focus(go_simp;done)));simp only[AP]))) ?_;simp only[zh,AP,pA];refine zp 11 λK hK=>?_;rw[zgT (by rfl)];refine zu 49 _ _ rfl (w.heap.size+1) (upd x k (v:Int)) rfl rfl 49 (regA hH.2.2.1.choose) hH.2.2.1.choose_spec (zg _) Tryz.zc3 ?_;intro w2 hq ho;have HQ:=zc hq;refine hK.out _ _ ⟨hH.1.only ho (by omega),hH.2.1.only ho (by omega),⟨_,hq⟩,hH.2.2.2.trans (ho.below (by omega))⟩ λhH=>?_;clear hK K hq ho;refine zp 12 λK hK=>?_;go_simp;refine hK.out _ _ hH λhH=>?_;clear hK K;refine dnr ?_;go_wp2;exact zgJ (v:=.tuple #[.agg (regA (upd x k (v:Int))),bA true]) (zo results189 _ _ (w.heap.size+1) 49 (upd x k (v:Int)) _ _ rfl rfl HQ underlying49 rfl Tryz.zc3) rfl ⟨by rw[HR.o],hH.2.2.2⟩
 have HR:Hid ((decide (0<sumTo (upd x k (v:Int)) 8)&&decide (x k≠v))=false):=by unfold Hid;simp[hs]
 refine rgd (S:=(λw'=>RegAt w' (w.heap.size+1+1) 49 (upd x k (v:Int))/\RegAt w' w.heap.size 49 x/\(∃q,RegAt w' (w.heap.size+1) 49 q)/\BW w w')) ⟨HA.o.drew,HC.o.drew,⟨zA,HD.o.drew⟩,HB.o.drew⟩ λhH=>?_;refine takeN [(0,some 21,.agg (regA (upd x k (v:Int)))),(1,some 22,.agg (regA (upd x k (v:Int))))] _ _ hH (by repeat(first|exact zgY|(refine tkc rfl rfl (zv (by rfl) 49 _ rfl (w.heap.size+1+1) rfl 49 (upd x k (v:Int)) _ (λw h=>h.1) underlying49 rfl Tryz.zc3) ?_;simp only[AP]))) ?_;simp only[zh,AP];refine zp 2 λK hK=>?_;go_simp;go_wp2_with ((go_at_call 194;refine(xq (upd x k (v:Int)) _ HY).mono ?_;rintro e w1 ⟨rfl,aa⟩))
 refine hK.out _ _ ⟨hH.1.below aa,hH.2.1.below aa,⟨_,hH.2.2.1.choose_spec.below aa⟩,hH.2.2.2.trans (aa.mono hH.2.2.2.size)⟩ λhH=>?_;clear hK K;refine zZ [(3,some 24,bA false),(4,some 25,bA false),(5,some 26,undef),(6,some 27,undef),(7,some 28,undef),(8,some 29,undef),(9,some 30,undef),(10,some 31,bA false)] _ _ hH (λ_ h=>h) ?_;simp only[zh,AP];refine zp 11 λK hK=>?_;rw[zgT (by rfl)];refine zu 49 _ _ rfl (w.heap.size+1) (upd x k (v:Int)) rfl rfl 49 (regA hH.2.2.1.choose) hH.2.2.1.choose_spec (zg _) Tryz.zc3 ?_;intro w2 hq ho;have HQ:=zc hq;refine hK.out _ _ ⟨hH.1.only ho (by omega),hH.2.1.only ho (by omega),⟨_,hq⟩,hH.2.2.2.trans (ho.below (by omega))⟩ λhH=>?_;clear hK K hq ho;refine zp 12 λK hK=>?_;go_simp;refine hK.out _ _ hH λhH=>?_;clear hK K;refine dnr ?_;go_wp2;exact zgJ (v:=.tuple #[.agg (regA (upd x k (v:Int))),bA false]) (zo results189 _ _ (w.heap.size+1) 49 (upd x k (v:Int)) _ _ rfl rfl HQ underlying49 rfl Tryz.zc3) rfl ⟨by rw[HR.o],hH.2.2.2⟩
theorem QJ(a b:Nat->zgW)(p q:Option Addr)(n m cap cap':Nat)(w:World)(hn:n<=maxLen)(ha:kG w w.heap.size p n (λi=>sA (a i)))(hb:kG w w.heap.size q m (λi=>sA (b i))):
 Calls prog 69 #[.slice p n cap,.slice q m cap'] w λe w'=>(∃o,e=.returned (bA o)/\(n=m->(∀i,i<n->a i=b i)->o=true))/\BW w w':=by
 obtain⟨HA,HB⟩:=ze ha hb;have hmx:n<=9223372036854775807:=by unfold maxLen at hn;omega
 clear ha hb hn;by_cases ab:n=m
 .subst ab;go_enter func69,ntmps69;go_wp2;go_loopw [5] (λi wr=>∃k:Nat,k<=n/\i=iA k/\BW w wr) (λi _=>n-(intOf i).toNat)
  case atStart=>exact⟨0,zgv _,rfl,zgq _ _⟩
  obtain⟨k,hk,rfl,ah⟩:=hrel;have aa:=zc ah;clear ah;by_cases ae:k=n
  .subst ae;go_wp2;go_ret;exact⟨⟨true,rfl,λ_ _=>rfl⟩,aa⟩
  have ad:k<n:=by omega
  have ai:(k:Int)<n:=by omega
  obtain⟨b1,o1,rfl,al,ag⟩:=HA.o k ad;obtain⟨b2,o2,rfl,ak,af⟩:=HB.o k ad;have hr1:cE wr b1 (o1+k) (sA (a k)):=(aa.o.cell (p:=(aA b1 (o1+k))) (by exact al)).trans ag;have hr2:cE wr b2 (o2+k) (sA (b k)):=(aa.o.cell (p:=(aA b2 (o2+k))) (by exact ak)).trans af;clear ag af ae;by_cases he:a k=b k
  .have aj:((a k).toList==(b k).toList)=true:=by rw[he];simp
   clear he;go_wp2_with fail
   go_quiet (fail)
   all_goals go_wp2
   go_roundw
   case rel=>exact⟨k+1,by omega,by go_num,zgZ aa.o _⟩
   simp[intOf];omega
  have aj:((a k).toList==(b k).toList)=false:=kP he;have HN:=zc he;clear he;go_wp2_with fail
  go_quiet (fail)
  all_goals go_wp2
  go_ret;exact⟨⟨false,rfl,λ_ h=>absurd (h k ad) HN⟩,zgZ aa _⟩
 have hne:¬((n:Int)=m):=by omega
 have HN:=zc ab;clear ab;go_enter func69,ntmps69;go_wp2;go_ret;exact⟨⟨false,rfl,λh=>absurd h HN⟩,zgq _ _⟩

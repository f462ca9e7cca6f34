/- Proved here (under way): a city in which some lie, its client and what the client has accepted; what an act, a question and one more block leave of them. -/
import Derived.Test.YtcfjhbcpjpgodaaGreatDoorJ40
import Derived.Test.YtcfjhbcpjpgodaaGreatDoorJ41
import Derived.Test.YtcfjhbcpjpgodaaGreatDoorJ47
import Derived.Test.YtcfjhbcpjpgodaaGreatDoorJ48
import Derived.Test.YtcfjhbcpjpgodaaGreatDoorJ30
import Derived.Test.YtcfjhbcpjpgodaaGreatDoorTakeL
namespace Go.Proofs.YtcfjhbcpjpgodaaGreatDoor
open Go.RowKit Go.Proofs.Tryz
set_option linter.unusedSimpArgs false
set_option linter.unusedVariables false
set_option maxRecDepth 100000
set_option maxHeartbeats 12800000
variable{w w':World}{b B rb n T cc cb M:Nat}{o:Obj}{es:List Addr}{m:Int}{hon:Nat→Bool}{x0:Nat→Int}{Q:Nat→Option Obj}{gv v:Value}{st:Nat→NodeS}{sg:Nat→List ByteArray}{said row acc:List ByteArray}
theorem heap_lt(h:w.heap[b]? =some o):b<w.heap.size:=by
 rcases Nat.lt_or_ge b w.heap.size with h'|h'
 .exact h'
 rw[Array.getElem?_eq_none h'] at h;cases h
theorem CityOL.reguest{Q':Nat→Option Obj}{Fs:Nat→Nat→Prop}{R:Nat→Prop}{nbs ks cbs:Nat→Nat}{kv nv sv:Value}{D:Nat→Prop}(h:CityOL B es m hon x0 Q Fs R nbs ks cbs rb n T cc gv kv nv sv st sg said w)(hs:SameBut D w w')(hD:∀b,D b→(∃o,Q b=some o)∧∃C t,w.heap[b]? =some (.cells C t (0,0))∧t≠45∧t≠26)(hQ:∀b o,Q' b=some o→w'.heap[b]? =some o∧((∃o',Q b=some o')∨w.heap.size≤b)):
 CityOL B es m hon x0 Q' Fs R nbs ks cbs rb n T cc gv kv nv sv st sg said w':=by
 have hk:∀b,D b→OutL B hon Fs R ks n w b∧b≠cc∧sv.ownBlock≠some b:=fun b hb=>by
  obtain⟨⟨o,ho⟩,_⟩:=hD b hb;exact⟨(h.guest b o ho).1,(h.guest b o ho).2.2⟩
 refine⟨h.city.other hs (fun b hb=>(hk b hb).1),h.ci,h.lies,h.npos,(hs.block cc h.occ.2.1 (fun e=>(hk cc e).2.1 rfl)).trans h.blk,own_blocks h.keyr fun g hg hl=>hs.block g hl (fun e=>?_),own_blocks h.nodes fun g hg hl=>hs.block g hl (fun e=>?_),own_blocks h.said fun g hg hl=>hs.block g hl (fun e=>(hk g e).2.2 hg),h.occ.keep hs.size,fun g hg=>(h.okv g hg).keep hs.size,fun g hg=>(h.onv g hg).keep hs.size,fun g hg=>(h.osv g hg).keep hs.size,fun b o e=>?_⟩
 .obtain ⟨_,C,t,h1,h2,_⟩:=hD g e
  exact own_ne h.keyr h1 h2 hg
 .obtain ⟨_,C,t,h1,_,h3⟩:=hD g e
  exact own_ne h.nodes h1 h3 hg
 obtain⟨h1,⟨o',h2⟩|h2⟩:=hQ b o e
 .obtain ⟨g1,_,g3⟩:=h.guest b o' h2
  exact⟨g1.keep hs.size,h1,g3⟩
 refine⟨⟨Nat.le_trans h.city.bl h2,heap_lt h1,fun j hj hh hf=>?_,fun hr=>?_,fun k hk e=>?_⟩,h1,fun e=>?_,fun e=>?_⟩
 .have:=((h.city.node j hj hh).fl b hf).2
  omega
 .have:=(h.city.rl b hr).2
  omega
 .have:=(h.city.key k hk).lt
  omega
 .have:=h.occ.2.1
  omega
 have:=(h.said.lt b e).2;omega
def guestOf(w:World)(cb:Nat)(v:Value):Nat→Option Obj:=fun b=>if b=cb∨v.ownBlock=some b then w.heap[b]? else none
theorem guestOf_in(h:guestOf w cb v b=some o):(b=cb∨v.ownBlock=some b)∧w.heap[b]? =some o:=by
 unfold guestOf at h;split at h
 .rename_i h1;exact⟨h1,h⟩
 cases h
theorem guestOf_at(h:b=cb∨v.ownBlock=some b):guestOf w cb v b=w.heap[b]? :=if_pos h
theorem guestOf_same(h:∀b,(b=cb∨v.ownBlock=some b)→w'.heap[b]? =w.heap[b]?):guestOf w' cb v=guestOf w cb v:=by
 funext b;unfold guestOf;split
 .rename_i h1;exact h b h1
 rfl
structure AgI (B:Nat) (es:List Addr) (m:Int) (hon:Nat→Bool) (x0:Nat→Int) (rb n cc cb T M:Nat) (gv:Value) (v:Value) (row acc:List ByteArray) (st:Nat→NodeS) (sg:Nat→List ByteArray) (said:List ByteArray) (w:World):Prop where
 city:CityEL B es m hon x0 (guestOf w cb v) rb n cc T M gv st sg said w
 cl:ClientAt w cb rb (regs x0 acc) (acc.length:Int)
 own:w.ownsRow 0 9 1 v row.length (row.map .string)
 chain:Chain n sg x0 acc
 le:acc.length≤12
theorem Chain.snoc{l:List ByteArray}{b:ByteArray}(h:Chain n sg x0 l)(hb:∃r,Quo n sg (regs x0 l) 3 (l.length:Int) r b):Chain n sg x0 (l++[b]):=fun k c hc=>by
 rcases Nat.lt_trichotomy k l.length with hk|hk|hk
 .rw [List.getElem?_append_left hk] at hc;rw[List.take_append_of_le_length (by omega)];exact h k c hc
 .subst hk;rw[List.getElem?_append_right (Nat.le_refl _),Nat.sub_self] at hc;cases hc;rw[List.take_left];exact hb
 .rw [List.getElem?_eq_none (by rw[List.length_append];simp only[List.length_cons,List.length_nil];omega)] at hc;cases hc
theorem AgI.below(h:AgI B es m hon x0 rb n cc cb T M gv v row acc st sg said w)(hb:Below w.heap.size w w'):AgI B es m hon x0 rb n cc cb T M gv v row acc st sg said w':=by
 have hg:guestOf w' cb v=guestOf w cb v:=guestOf_same fun b hb1=>by
  refine hb.block b ?_;rcases hb1 with rfl|e
  .exact heap_lt h.cl
  exact(h.own.lt b e).2
 refine⟨?_,h.cl.below hb,own_blocks h.own fun g _ hl=>hb.block g hl,h.chain,h.le⟩;rw[hg];exact h.city.below hb
theorem AgI.hap{T' M':Nat}(h:AgI B es m hon x0 rb n cc cb T M gv v row acc st sg said w)(ha:AfterL B es m hon x0 (guestOf w cb v) rb n cc T' M' gv sg w w'):∃st' sg' said',AgI B es m hon x0 rb n cc cb T' M' gv v row acc st' sg' said' w'∧Below B w w':=by
 obtain⟨st',sg',said',hsg,hE,hb⟩:=ha;have hk:∀b,(b=cb∨v.ownBlock=some b)→w'.heap[b]? =w.heap[b]? :=fun b hb1=>by
  obtain⟨_,Fs,R,nbs,ks,cbs,kv,nv,sv,hO⟩:=hE;have hlt:b<w.heap.size:=by
   rcases hb1 with rfl|e
   .exact heap_lt h.cl
   exact(h.own.lt b e).2
  obtain⟨o,ho⟩:∃o,w.heap[b]? =some o:=⟨_,Array.getElem?_eq_getElem hlt⟩;rw[(hO.guest b o (by rw[guestOf_at hb1];exact ho)).2.1,ho]
 refine⟨st',sg',said',⟨?_,(hk cb (Or.inl rfl)).trans h.cl,own_blocks h.own fun g hg _=>hk g (Or.inr hg),h.chain.mono hsg,h.le⟩,hb⟩;rw[guestOf_same hk];exact hE
theorem AgI.ask(h:AgI B es m hon x0 rb n cc cb T M gv v row acc st sg said w){x:Nat→Int}{k:Int}(hs:SameBut (fun b=>b=cb) w w')(hc:ClientAt w' cb rb x k){acc':List ByteArray}(hx:x=regs x0 acc')(hk:k=(acc'.length:Int))(hch:Chain n sg x0 acc')(hle:acc'.length≤12):AgI B es m hon x0 rb n cc cb T M gv v row acc' st sg said w'∧Below B w w':=by
 have hne:v.ownBlock≠some cb:=own_ne h.own h.cl (by decide);obtain⟨hM,Fs,R,nbs,ks,cbs,kv,nv,sv,hO⟩:=h.city;have hQ:guestOf w cb v cb=some (.cells (clientA rb (regs x0 acc) (acc.length:Int)) 170 (0,0)):=by rw[guestOf_at (Or.inl rfl)];exact h.cl
 have hOut:=(hO.guest cb _ hQ).1;refine⟨⟨⟨hM,Fs,R,nbs,ks,cbs,kv,nv,sv,hO.reguest hs (fun b hb=>?_) (fun b o e=>?_)⟩,?_,own_blocks h.own fun g hg hl=>hs.block g hl (fun e=>hne (e▸hg)),hch,hle⟩,Below.same hs (fun k e=>by rw[e];exact hOut.1) hO.city.bl⟩
 .rw [hb];exact⟨⟨_,hQ⟩,_,_,h.cl,by decide,by decide⟩
 .obtain ⟨h1,h2⟩:=guestOf_in e
  refine⟨h2,Or.inl ?_⟩;have hlt:b<w.heap.size:=by
   rcases h1 with rfl|e
   .exact heap_lt h.cl
   exact(h.own.lt b e).2
  exact⟨_,(guestOf_at h1).trans (Array.getElem?_eq_getElem hlt)⟩
 rw[←hx,←hk];exact hc
theorem AgI.more{v':Value}{row':List ByteArray}{w2:World}(h:AgI B es m hon x0 rb n cc cb T M gv v row acc st sg said w)(hb:Below w.heap.size w w2)(hg:w2.grownBy w' v.ownBlock)(hown:w'.ownsRow 0 9 1 v' row'.length (row'.map .string))(hat:v'.ownBlock=v.ownBlock∨v'.ownBlock=some w2.heap.size):AgI B es m hon x0 rb n cc cb T M gv v' row' acc st sg said w'∧Below B w w':=by
 have h2:=h.below hb;have hne:v.ownBlock≠some cb:=own_ne h2.own h2.cl (by decide);obtain⟨hM,Fs,R,nbs,ks,cbs,kv,nv,sv,hO⟩:=h2.city;have hs:SameBut (fun k=>some k=v.ownBlock) w2 w':=⟨hg.os,hg.tape,hg.output,hg.size,fun k hk hn=>hg.block k hk (fun e=>hn e)⟩;have hQ:∀b,v.ownBlock=some b→∃o,guestOf w2 cb v b=some o:=fun b e=>⟨_,(guestOf_at (Or.inr e)).trans (Array.getElem?_eq_getElem (h2.own.lt b e).2)⟩;have hcl:w'.heap[cb]? =w2.heap[cb]? :=hs.block cb (heap_lt h2.cl) (fun e=>hne e.symm);have hB:Below B w w':=by
  refine Below.trans (hb.mono (Nat.le_trans (h.city.bl) (Nat.le_refl _))) (Below.same hs (fun k e=>?_) hO.city.bl);obtain⟨o,ho⟩:=hQ k e.symm;exact(hO.guest k o ho).1.1
 refine⟨⟨⟨hM,Fs,R,nbs,ks,cbs,kv,nv,sv,hO.reguest hs (fun b e=>⟨hQ b e.symm,?_⟩) (fun b o e=>?_)⟩,hcl.trans h2.cl,hown,h.chain,h.le⟩,hB⟩
 .rcases h2.own.2 with⟨e1,_⟩|⟨k,cap,cur,e1,_,hk,_⟩
  .rw [e1] at e;cases e
  rw[e1] at e;cases e;exact⟨_,_,hk,by decide,by decide⟩
 obtain⟨h3,h4⟩:=guestOf_in e;refine⟨h4,?_⟩;rcases h3 with rfl|h3
 .exact Or.inl ⟨_,(guestOf_at (Or.inl rfl)).trans h2.cl⟩
 rcases hat with h5|h5
 .exact Or.inl (hQ b (h5.symm.trans h3))
 rw[h5] at h3;cases h3;exact Or.inr (Nat.le_refl _)
theorem AgI.begin(h:CityEL B es m hon x0 Q rb n cc T M gv st sg said w)(hb:Below w.heap.size w w')(hcb:w.heap.size≤cb)(hc:ClientAt w' cb rb x0 0):AgI B es m hon x0 rb n cc cb T M gv (.slice none 0 0) [] [] st sg said w':=by
 obtain⟨hM,Fs,R,nbs,ks,cbs,kv,nv,sv,hO⟩:=h;refine⟨⟨hM,Fs,R,nbs,ks,cbs,kv,nv,sv,hO.reguest (D:=fun _=>False) ⟨hb.os,hb.tape,hb.output,hb.size,fun k hk _=>hb.block k hk⟩ (fun b e=>e.elim) (fun b o e=>?_)⟩,hc,World.ownsRow_nil _ _ _ _,fun k b e=>(by cases e),Nat.zero_le _⟩;obtain⟨h1,h2⟩:=guestOf_in e;rcases h1 with rfl|h1
 .exact ⟨h2,Or.inr hcb⟩
 cases h1
theorem AgI.agreed(h:AgI B es m hon x0 rb n cc cb T M gv v row acc st sg said w)(hd:Dom x0){least:Nat}(hp:PremU n hon x0 st n least):∀k:Nat,k<12→(k:Int)<(least:Int)→∀i j,i<n→hon i=true→j<n→hon j=true→k<(st i).height→k<(st j).height→(st i).blk k=(st j).blk k:=by
 intro k _ hk i j hi hhi hj hhj h1 h2;obtain⟨_,Fs,R,nbs,ks,cbs,kv,nv,sv,hO⟩:=h.city;have hP:Prem n hon x0 ⟨st,sg,said⟩ k:=fun q hq hhq l hl hlq=>hp q hq hhq l hlq (by omega);have e:=hO.ci.agreed hd hP (Nat.le_refl k) hi hhi hj hhj h1 h2;have e':(st i).blocks[k]? =(st j).blocks[k]? :=e;rw[blk_blocks h1,blk_blocks h2] at e';exact Option.some.inj e'
theorem AgI.same(h:AgI B es m hon x0 rb n cc cb T M gv v row acc st sg said w)(hd:Dom x0)(hp:PremU n hon x0 st n 13):∀i,i<n→hon i=true→∀k,k<acc.length→k<(st i).height→acc.getD k ByteArray.empty=(st i).blk k:=by
 intro i hi hhi k hk h1;obtain⟨_,Fs,R,nbs,ks,cbs,kv,nv,sv,hO⟩:=h.city;have hle:=h.le;have hP:Prem n hon x0 ⟨st,sg,said⟩ 12:=fun q hq hhq l hl hlq=>hp q hq hhq l hlq (by omega);have e:=hO.ci.agree hd hP k (by omega) acc h.chain i hi hhi hk h1;have e':acc[k]? =(st i).blocks[k]? :=e;rw[List.getD_eq_getElem?_getD,e',blk_blocks h1];rfl
def SGL(es:List Addr)(m:Int)(w:World):Prop:=Sent es w∧TypAt w∧w.cell? ⟨13,0,none⟩=some (.int .i64 m)
theorem SGL.later(h:SGL es m w)(hb:Below w.heap.size w w'):SGL es m w':=⟨h.1.later hb,h.2.1.below hb,(hb.cell (World.block_lt_of_cell? _ _ h.2.2)).trans h.2.2⟩
theorem SGL.at(h:SGL es m w)(i:Nat)(hi:i<12):∃a,es[i]? =some a:=⟨_,List.getElem?_eq_getElem (by rw[h.1.len];exact hi)⟩
theorem SGL.glob(h:SGL es m w):GlobAt w.heap.size es m w:=by
 have hF:=SentF.of h.1;refine⟨hF.four,h.2.2,fun i g hg hi=>?_,World.block_lt_of_cell? _ _ h.2.2,fun a ha=>?_⟩
 .obtain ⟨a,ha⟩:=h.at i (List.getElem?_eq_some_iff.1 hg).1
  exact World.block_lt_of_cell? _ _ (h.1.cell i g a hg ha)
 obtain⟨c,t,hc⟩:=h.1.blk a ha;exact row_lt0 hc
theorem SGL.globR(h:SGL es m w):GlobR w.heap.size es w:=by
 refine⟨fun i g a hg ha _=>h.1.cell i g a hg ha,fun i g hg hi=>?_⟩;obtain⟨a,ha⟩:=h.at i (List.getElem?_eq_some_iff.1 hg).1;exact World.block_lt_of_cell? _ _ (h.1.cell i g a hg ha)
theorem SGL.c(h:SGL es m w){i g:Nat}{a:Addr}(hg:sentGs[i]? =some g)(ha:es[i]? =some a):w.cell? ⟨g,0,none⟩=some (.iface 294 (.pointer (some a))):=h.1.cell i g a hg ha
theorem regOf_dom{g:Nat→Int}(hgb:∀i,i<n→1≤g i∧g i≤3):Dom (regOf g n):=fun i=>by
 unfold regOf;split
 .rename_i h1;have:=hgb i h1;omega
 .omega
def AskQ(B:Nat)(es:List Addr)(m:Int)(hon:Nat→Bool)(x0:Nat→Int)(rb n cc cb T M:Nat)(gv v:Value)(row:List ByteArray)(t:ByteArray)(ok:Bool)(st:Nat→NodeS)(sg:Nat→List ByteArray)(said:List ByteArray)(w0 X:World):Prop:=Below B w0 X∧(ok=true→AgI B es m hon x0 rb n cc cb T M gv v row (row++[t]) st sg said X)∧(ok=false→AgI B es m hon x0 rb n cc cb T M gv v row row st sg said X)
theorem AskQ.of{t:ByteArray}{ok:Bool}{w0 X:World}(h:AgI B es m hon x0 rb n cc cb T M gv v row row st sg said w)(hs:SameBut (fun b=>b=cb) w X)(hyes:ok=true→(behindR (regs x0 row) t).2=true∧(∃r,Quo n sg (regs x0 row) 3 (row.length:Int) r t)∧ClientAt X cb rb (behindR (regs x0 row) t).1 ((row.length:Int)+1))(hno:ok=false→ClientAt X cb rb (regs x0 row) (row.length:Int))(hlt:row.length<12)(hb:Below B w0 w):AskQ B es m hon x0 rb n cc cb T M gv v row t ok st sg said w0 X:=by
 cases ok with
 |true=>
  obtain⟨_,hq,hc⟩:=hyes rfl;have h1:=h.ask hs hc (acc':=row++[t]) (regs_snoc x0 row t).symm (by rw[List.length_append];simp) (h.chain.snoc hq) (by rw[List.length_append];exact hlt);exact⟨hb.trans h1.2,fun _=>h1.1,fun e=>by cases e⟩
 |false=>
  have h1:=h.ask hs (hno rfl) (acc':=row) rfl rfl h.chain h.le;exact⟨hb.trans h1.2,(fun e=>by cases e),fun _=>h1.1⟩
theorem agreed_walk(raw:Nat→Int)(p:Option Addr)(q cap:Nat)(size lies:Int)(acts:Nat→ActV)(ap:Option Addr)(an acap:Nat)(w:World)
 (hraw:Lies w w.heap.size p q (fun i=>.int .i64 (raw i))) (hq:q≤1048576) (hr:∀i,i<q→-9223372036854775808≤raw i∧raw i≤9223372036854775807) (hsz:in64 size)
 (hacts:ActsAt w w.heap.size ap an acts) (han:an≤1048576) (hao:∀i,i<an→ActOk (acts i)) (hgl:SGL es m w):
 Calls prog 5 #[.slice p q cap,.int .i64 size,.int .i64 lies,.slice ap an acap] w fun e w'=>e=.returned (.bool true)∧Below w.heap.size w w':=by
 obtain⟨iW,hiW,hz0,hz1,hz2⟩:=info_parts Tryz.infoStrB;obtain⟨r,hrr⟩:=gen (pickN size 7);have hr7:r<7:=by rw[hrr];exact pickN_lt (by omega)
 have HPS:Hid (∀W,Calls prog 26 #[.int .i64 size,.int .i64 7] W fun e w'=>e=.returned (.int .i64 (r:Int))∧w'=W):=fun W=>by rw[hrr];exact pick_at size 7 W hsz.1 hsz.2 (by omega) (by omega)
 obtain⟨n,hn⟩:∃z,z=1+r:=⟨_,rfl⟩;have hwn:IntKind.i64.wrap (1+(r:Int))=(n:Int):=by rw[wrap_any _ (by omega) (by omega)];omega
 have hn8:n≤8:=by omega
 have hn1:1≤n:=by omega
 have HPW:=hide (powers_any raw p q cap n w hraw (by unfold maxLen;omega) hr (by omega));obtain⟨HAC,HAO,HGL⟩:=hide3 hacts hao hgl;obtain⟨a0,ha0⟩:=hgl.at 0 (by omega);obtain⟨a1,ha1⟩:=hgl.at 1 (by omega);obtain⟨a2,ha2⟩:=hgl.at 2 (by omega);obtain⟨a9,ha9⟩:=hgl.at 9 (by omega);obtain⟨a10,ha10⟩:=hgl.at 10 (by omega);obtain⟨a11,ha11⟩:=hgl.at 11 (by omega);obtain⟨HA0,HA1,HA2,HA9,HA10,HA11⟩:=hide6 ha0 ha1 ha2 ha9 ha10 ha11;clear hraw hr hsz hacts hao hgl hrr hn ha0 ha1 ha2 ha9 ha10 ha11;go_enter func5,ntmps5;go_wp2_with fail
 refine(HPS.out _).mono ?_;rintro e w0 ⟨rfl,hw0⟩;have hw00:=hw0.symm;clear hw0;subst hw00;go_wp2_with fail
 refine HPW.out.mono ?_;rintro e w1 ⟨v,g,rfl,hv,hgb,hb1⟩;obtain⟨gp,gc,rfl,hgl⟩:=own_numsK hv;obtain⟨HB1,HG1,HGP⟩:=hide3 hb1 (HGL.out.later hb1) hgl;have HGEN:Hid (genR g n=(regOf g n,true)):=genC_all hn8 hn1 hgb;have HDOM:Hid (Dom (regOf g n)):=regOf_dom hgb;have HCI:=hide (city_anyL lies g gp n gc w1 hgl hgb hn8 hn1 HG1.out.glob HG1.out.globR);clear hv hgl hgb hb1 HPW;go_wp2_with fail
 refine HCI.out.mono ?_;rintro e w2 ⟨cc,rb,st,sg,said,rfl,hE,hb2⟩;obtain⟨HE0,HB2⟩:=hide2 hE hb2;obtain⟨_,Fs,R,nbs,ks,cbs,kv,nv,sv,hO⟩:=hE;have c1:w2.cell? ⟨cc,1,none⟩=some (.pointer (some ⟨rb,0,none⟩)):=cell_of_row w2 cc 1 _ _ _ hO.blk;have HBW2:Hid (Below w.heap.size w w2):=HB1.out.trans (hb2.mono HB1.out.size);have HFO:=hide (follow_yes rb g gp n gc a0 (regOf g n) w2 ((HGP.out.below hb2).more hb2.size) ((HGL.out.later HBW2.out).c (i:=0) rfl HA0.out) HGEN.out);clear hO hb2 HCI;go_wp2_with fail
 refine HFO.out.mono ?_;rintro e w3 ⟨cb,hcb,rfl,hcl,hb3⟩;have HI0:=hide (AgI.begin HE0.out hb3 hcb hcl);have HBL0:Hid (Below w1.heap.size w1 w3):=HB2.out.trans (hb3.mono HB2.out.size);clear hcb hcl hb3 HFO c1 HBW2 HE0 HB2;go_wp2;go_loopw [13,14] (fun v iv wr=>∃(k:Nat) (row:List ByteArray) (st1:Nat→NodeS) (sg1:Nat→List ByteArray) (said1:List ByteArray),k≤an∧iv=.int .i64 k∧AgI w1.heap.size es m (honB lies) (regOf g n) rb n cc cb (n*k) (100*n+(1+100*n)*k) (.slice gp n gc) v row row st1 sg1 said1 wr∧Below w1.heap.size w1 wr) (fun _ iv _=>an+1-(intOf iv).toNat)
 case atStart=>exact⟨0,[],st,sg,said,Nat.zero_le _,rfl,HI0.out,HBL0.out⟩
 obtain⟨k,row,st1,sg1,said1,hk,rfl,hI,hbl⟩:=hrel;obtain⟨lp,lc,rfl,hlm,hll⟩:=own_lies hI.own;obtain⟨HI,HBL⟩:=hide2 hI hbl;have HBW:Hid (Below w.heap.size w wr):=HB1.out.trans (hbl.mono HB1.out.size);have hkle:(k:Int)≤an:=by omega
 clear hlm hll hI hbl HI0 HBL0;obtain⟨hM1,Fs1,R1,nbs1,ks1,cbs1,kv1,nv1,sv1,hO1⟩:=HI.out.city;have hG:=HGL.out.later HBW.out;have HPR:=hide (premise_any g hO1 hn8 a10 a0 a11 (hG.c (i:=10) rfl HA10.out) (hG.c (i:=0) rfl HA0.out) (hG.c (i:=11) rfl HA11.out) hG.2.2 ((HGP.out.below HBL.out).more HBL.out.size) HGEN.out HDOM.out);clear hM1 hO1 hG;go_wp2_with fail
 refine HPR.out.mono ?_;rintro e w4 ⟨least,rfl,hl13,hpu,hb4⟩;obtain⟨HPU,HI4,HB4⟩:=hide3 hpu (HI.out.below hb4) hb4;obtain⟨hM4,Fs4,R4,nbs4,ks4,cbs4,kv4,nv4,sv4,hO4⟩:=HI4.out.city;have HAG:=hide (agreed_any hO4 hn8 (least:Int) a10 (((HGL.out.later HBW.out).later hb4).c (i:=10) rfl HA10.out) (HI4.out.agreed HDOM.out hpu));clear hpu hb4 hM4 hO4 HPR;go_wp2_with fail
 refine HAG.out.mono ?_;rintro e w5 ⟨rfl,hb5⟩;have HI5:=hide (HI4.out.below hb5);have HB5:Hid (Below wr.heap.size wr w5):=HB4.out.trans (hb5.mono HB4.out.size);have HBW5:Hid (Below w.heap.size w w5):=HBW.out.trans (HB5.out.mono HBW.out.size);have HBL5:Hid (Below w1.heap.size w1 w5):=HBL.out.trans (HB5.out.mono HI.out.city.bl);clear hb5 HAG HB4 HI4 HB5 HBL HBW HI;by_cases hle:least<13
 .have hlei:(least:Int)<13:=by omega
  go_wp2;go_ret;exact⟨rfl,HBW5.out⟩
 have hlei:¬(least:Int)<13:=by omega
 have hl:least=13:=by omega
 by_cases hend:k=an
 .have hendi:(k:Int)=an:=by omega
  obtain⟨hM5,Fs5,R5,nbs5,ks5,cbs5,kv5,nv5,sv5,hO5⟩:=HI5.out.city;have hG:=HGL.out.later HBW5.out;obtain⟨lp',lc',e',_,hll⟩:=own_lies HI5.out.own;cases e';have HEN:=hide (ends_any g row lp lc hO5 hn8 hll (HI5.out.same HDOM.out (hl▸HPU.out)) (SentF.of hG.1) HA0.out HA1.out HA2.out HA9.out HA11.out hG.2.1 hG.2.2 (hG.c (i:=10) rfl HA10.out) ((HGP.out.below HBL5.out).more HBL5.out.size) HGEN.out HDOM.out);clear hM5 hO5 hG hll hend hl hle HPU HI5;go_wp2_with fail
  refine HEN.out.mono ?_;rintro e w6 ⟨rfl,hb6⟩;have HEND:Hid (Below w.heap.size w w6):=HBW5.out.trans (hb6.mono HBW5.out.size);clear hb6 HEN;go_wp2;go_ret;exact⟨rfl,HEND.out⟩
 have hendi:¬(k:Int)=an:=by omega
 have hlk:k<an:=by omega
 have hlki:(k:Int)<an:=by omega
 obtain⟨b,o,rfl,hbb,hrw⟩:=HAC.out k hlk;obtain⟨av,hav⟩:=gen (acts k);have hok:=HAO.out k hlk;rw[←hav] at hrw hok;obtain⟨ak,at1,af,ac,⟨mk,mh,mr,mf,mv,mn,ms⟩,rec⟩:=av;have HBB:=hide hbb;have HRGW:Hid (w.rangeAt b (o+k*12) [.int .i64 ak,.int .i64 at1,.int .i64 af,.int .i64 ac,.int .i64 mk,.int .i64 mh,.int .i64 mr,.int .i64 mf,.int .i64 mv,.bool mn,.string ms,.string rec]):=hrw;have HRG5:Hid (w5.rangeAt b (o+k*12) [.int .i64 ak,.int .i64 at1,.int .i64 af,.int .i64 ac,.int .i64 mk,.int .i64 mh,.int .i64 mr,.int .i64 mf,.int .i64 mv,.bool mn,.string ms,.string rec]):=fun j v hv=>(World.cell?_of_block (w:=w) (a:=⟨b,o+k*12+j,none⟩) (HBW5.out.block b hbb)).trans (hrw j v hv);have HAK:Hid (in64 ak):=hok.k;have HAF:Hid (in64 af):=hok.f;have HAC2:Hid (in64 ac):=hok.c;have hnk:n*k≤8*1048576:=Nat.mul_le_mul hn8 (by omega);have hmk:(1+100*n)*k≤801*1048576:=Nat.mul_le_mul (by omega) (by omega);have HHA:=hide (happens_anyL ⟨ak,at1,af,ac,⟨mk,mh,mr,mf,mv,mn,ms⟩,rec⟩ HI5.out.city hok hn8 (by omega) (by omega));obtain⟨TT,hTT⟩:=gen (n*k+n);obtain⟨MM,hMM⟩:∃z,z=100*n+(1+100*n)*k+1+100*n:=⟨_,rfl⟩;have HTT:Hid (TT=n*(k+1)):=by rw[hTT,Nat.mul_succ];exact rfl
 have HMM:Hid (MM=100*n+(1+100*n)*(k+1)):=by rw[hMM,Nat.mul_succ];unfold Hid;omega
 have HMB:Hid (MM≤4000000000000):=by rw[hMM];unfold Hid;omega
 have HHB:Hid (Calls prog 28 #[.pointer (some ⟨cc,0,none⟩),.agg #[.int .i64 ak,.int .i64 at1,.int .i64 af,.int .i64 ac,.int .i64 mk,.int .i64 mh,.int .i64 mr,.int .i64 mf,.int .i64 mv,.bool mn,.string ms,.string rec]] w5 fun e w'=>e=.returned (.tuple #[])∧AfterL w1.heap.size es m (honB lies) (regOf g n) (guestOf w5 cb (.slice lp row.length lc)) rb n cc TT MM (.slice gp n gc) sg1 w5 w'):=by rw[hTT,hMM];exact HHA.out
 clear hrw hok hav hbb hend hl hle HHA hTT hMM hnk hmk HPU;go_wp2_with (first|(refine wpList_load_mid rfl 81 _ rfl b (o+k*12) rfl [.int .i64 ak,.int .i64 at1,.int .i64 af,.int .i64 ac,.int .i64 mk,.int .i64 mh,.int .i64 mr,.int .i64 mf,.int .i64 mv,.bool mn,.string ms,.string rec] _ HRG5.out underlying81 rfl Tryz.sizeAct ?_)|fail)
 refine HHB.out.mono ?_;rintro e w6 ⟨rfl,haf⟩;obtain⟨st2,sg2,said2,hI6,hb6⟩:=HI5.out.hap haf;have HI6:=hide hI6;have HBL6:Hid (Below w1.heap.size w1 w6):=HBL5.out.trans hb6;have HBW6:Hid (Below w.heap.size w w6):=HB1.out.trans (HBL6.out.mono HB1.out.size);have HRG6:Hid (w6.rangeAt b (o+k*12) [.int .i64 ak,.int .i64 at1,.int .i64 af,.int .i64 ac,.int .i64 mk,.int .i64 mh,.int .i64 mr,.int .i64 mf,.int .i64 mv,.bool mn,.string ms,.string rec]):=fun j v hv=>(World.cell?_of_block (w:=w) (a:=⟨b,o+k*12+j,none⟩) (HBW6.out.block b HBB.out)).trans (HRGW.out j v hv);have HGL6:=hide (HGL.out.later HBW6.out);have c0:w6.cell? ⟨b,o+k*12,none⟩=some (.int .i64 ak):=HRG6.out 0 _ rfl;clear haf hI6 hb6 HHB HRG5 HI5 HBL5 HBW5;obtain⟨pk,hpk⟩:=gen (pickN ak 3);have HPK:Hid (∀W,Calls prog 26 #[.int .i64 ak,.int .i64 3] W fun e w'=>e=.returned (.int .i64 (pk:Int))∧w'=W):=fun W=>by rw[hpk];exact pick_at ak 3 W HAK.out.1 HAK.out.2 (by omega) (by omega)
 have HEND6:Hid (AgI w1.heap.size es m (honB lies) (regOf g n) rb n cc cb (n*(k+1)) (100*n+(1+100*n)*(k+1)) (.slice gp n gc) (.slice lp row.length lc) row row st2 sg2 said2 w6):=by rw[←HTT.out,←HMM.out];exact HI6.out
 clear hpk;by_cases hp0:pk=0
 .have hp0i:(pk:Int)=0:=by omega
  have HHT:=hide (clientHeight_any cb rb _ (row.length:Int) w6 HI6.out.cl);by_cases hlt12:row.length<12
  .have hlti:(row.length:Int)<12:=by omega
   clear hp0;go_wp2_with fail
   refine(HPK.out _).mono ?_;rintro e wp ⟨rfl,hwp⟩;have hwq:=hwp.symm;clear hwp;subst hwq;go_wp2_with fail
   refine HHT.out.mono ?_;rintro e wp ⟨rfl,hwp⟩;have hwq:=hwp.symm;clear hwp;subst hwq;clear HHT HPK HEND6;obtain⟨pm,hpm⟩:=gen (pickN ac 9);have hpm9:pm<9:=by rw[hpm];exact pickN_lt (by omega)
   have HPM:Hid (∀W,Calls prog 26 #[.int .i64 ac,.int .i64 9] W fun e w'=>e=.returned (.int .i64 (pm:Int))∧w'=W):=fun W=>by rw[hpm];exact pick_at ac 9 W HAC2.out.1 HAC2.out.2 (by omega) (by omega)
   obtain⟨many,hmany⟩:∃z,z=1+pm:=⟨_,rfl⟩;have hwm:IntKind.i64.wrap (1+(pm:Int))=(many:Int):=by rw[wrap_any _ (by omega) (by omega)];omega
   have hmn9:many≤9:=by omega
   clear hpm hmany
   go_upto_region 21 with fail
   go_cut [18,19] from 45 to 117 (fun u18 u19 wx=>∃(ok:Bool) (t:ByteArray),u18=.bool ok∧u19=.string t∧AskQ w1.heap.size es m (honB lies) (regOf g n) rb n cc cb TT MM (.slice gp n gc) (.slice lp row.length lc) row t ok st2 sg2 said2 w1 wx)
   case first=>
    have hS0:Below w6.heap.size w6 w6.drew:=(Below.refl _ w6).drew;refine rgd (S:=fun X=>X.rangeAt b (o+k*12) [.int .i64 ak,.int .i64 at1,.int .i64 af,.int .i64 ac,.int .i64 mk,.int .i64 mh,.int .i64 mr,.int .i64 mf,.int .i64 mv,.bool mn,.string ms,.string rec]) (Ext.range HRG6.out (Ext.of hS0)) (fun hH=>?_);refine takeN [(0,some 90,pA cc 0),(1,some 91,pA cb 0),(2,some 92,.slice (some ⟨b,o,none⟩) an acap),(3,some 93,.int .i64 (k:Int)),(4,some 94,pA b (o+k*12)),(5,some 95,.agg #[.int .i64 ak,.int .i64 at1,.int .i64 af,.int .i64 ac,.int .i64 mk,.int .i64 mh,.int .i64 mr,.int .i64 mf,.int .i64 mv,.bool mn,.string ms,.string rec]),(8,some 98,.slice (some ⟨b,o,none⟩) an acap),(9,some 99,.int .i64 (k:Int)),(10,some 100,pA b (o+k*12)),(11,some 101,pA b (o+k*12+2)),(12,some 102,.int .i64 af),(13,some 103,.slice (some ⟨b,o,none⟩) an acap),(14,some 104,.int .i64 (k:Int)),(15,some 105,pA b (o+k*12)),(16,some 106,pA b (o+k*12+3)),(17,some 107,.int .i64 ac)] _ _ hH (by repeat(first|exact True.intro|((first|refine tkc rfl rfl (yieldsIf_load_mid (by rfl) 81 _ rfl b (o+k*12) rfl [.int .i64 ak,.int .i64 at1,.int .i64 af,.int .i64 ac,.int .i64 mk,.int .i64 mh,.int .i64 mr,.int .i64 mf,.int .i64 mv,.bool mn,.string ms,.string rec] _ (fun W h=>h) underlying81 rfl Tryz.sizeAct) ?_|(refine tkc rfl rfl (Or.inl ⟨by rfl,fun x h=>?_⟩) ?_;focus(have f0:x.cell? ⟨b,o+k*12+2,none⟩=some (.int .i64 af):=h 2 _ rfl;have f1:x.cell? ⟨b,o+k*12+3,none⟩=some (.int .i64 ac):=h 3 _ rfl;go_simp;done)));simp only[AP]))) ?_;simp only[takesA,AP,pA];refine rdy1 6 (fun K hK=>?_);go_simp;refine(raw_any ak at1 af ac mk mh mr mf mv mn ms rec _).mono ?_;rintro en X1 ⟨z,rfl,hz64,hbz⟩;have hS1:Below w6.heap.size w6 X1:=hS0.trans (hbz.mono hS0.size);refine hK.out _ _ (Ext.range HRG6.out (Ext.of hS1)) (fun hH=>?_);clear hK K hbz
    try simp only[AP,AQ]
    refine rdy1 7 (fun K hK=>?_);go_simp;refine(values_any z _ hz64).mono ?_;rintro en X2 ⟨t,rfl,ht24,hbt⟩;have hS2:Below w6.heap.size w6 X2:=hS1.trans (hbt.mono hS1.size);refine hK.out _ _ (Ext.range HRG6.out (Ext.of hS2)) (fun hH=>?_);clear hK K hbt
    try simp only[AP,AQ]
    refine rdy1 18 (fun K hK=>?_);go_simp;refine(HPM.out _).mono ?_;rintro en Xp ⟨rfl,hxp⟩;have hxq:=hxp.symm;clear hxp;subst hxq;refine hK.out _ _ hH (fun hH=>?_);clear hK K
    try simp only[AP,AQ]
    refine takeM [(19,some 109,.int .i64 (many:Int))] _ _ hH ?_;simp only[takesA,AP];refine rdy1 20 (fun K hK=>?_);go_simp;have hI7:=HI6.out.below hS2;have hc7:=hI7.city;obtain⟨hM7,Fs7,R7,nbs7,ks7,cbs7,kv7,nv7,sv7,hO7⟩:=hc7;have hG7:=HGL6.out.later hS2;refine(asks_any (regs (regOf g n) row) (row.length:Int) t af many hO7 (Nat.le_trans hM7 HMB.out) hI7.cl (regs_dom HDOM.out row) (by omega) (by have:=hI7.le;omega) (by omega) HAF.out hmn9 (SentF.of hG7.1) HA1.out HA2.out HA9.out HA11.out hG7.2.1 hG7.2.2).mono ?_;rintro en X9 ⟨ok,rfl,hs9,hyes,hno⟩;have HQ9:Hid (AskQ w1.heap.size es m (honB lies) (regOf g n) rb n cc cb TT MM (.slice gp n gc) (.slice lp row.length lc) row t ok st2 sg2 said2 w1 X9):=AskQ.of hI7 hs9 hyes hno hlt12 (HBL6.out.trans (hS2.mono HI6.out.city.bl));have hR9:X9.rangeAt b (o+k*12) [.int .i64 ak,.int .i64 at1,.int .i64 af,.int .i64 ac,.int .i64 mk,.int .i64 mh,.int .i64 mr,.int .i64 mf,.int .i64 mv,.bool mn,.string ms,.string rec]:=fun j v hv=>(World.cell?_of_block (w:=w) (a:=⟨b,o+k*12+j,none⟩) ((HB1.out.trans (HQ9.out.1.mono HB1.out.size)).block b HBB.out)).trans (HRGW.out j v hv);refine hK.out _ _ hR9 (fun hH=>?_);clear hK K
    try simp only[AP,AQ]
    refine takeM [(21,some 89,.tuple #[.bool ok,.string t]),(22,some 111,.bool ok),(23,some 112,.string t),(24,some 18,.bool ok),(25,some 19,.string t)] _ _ hH ?_;simp only[takesA,AP];refine dnr ?_;clear hH;go_wp2_with fail
    go_meet
    case rel=>exact⟨ok,t,rfl,rfl,HQ9.out⟩
   obtain⟨w9,hw9⟩:=gen wc;subst hw9;obtain⟨ok,t,rfl,rfl,hq9⟩:=hcut;cases ok with
   |false=>
    have HI9:Hid (AgI w1.heap.size es m (honB lies) (regOf g n) rb n cc cb (n*(k+1)) (100*n+(1+100*n)*(k+1)) (.slice gp n gc) (.slice lp row.length lc) row row st2 sg2 said2 w9):=by rw[←HTT.out,←HMM.out];exact hq9.2.2 rfl
    have HBL9:Hid (Below w1.heap.size w1 w9):=hq9.1;clear hq9 HI6 HMM HTT HRG6 c0;go_wp2;go_roundw
    case rel=>exact⟨k+1,row,st2,sg2,said2,by omega,by go_num,HI9.out,HBL9.out⟩
    case measure=>simp[intOf];omega
   |true=>
    have HI9:Hid (AgI w1.heap.size es m (honB lies) (regOf g n) rb n cc cb (n*(k+1)) (100*n+(1+100*n)*(k+1)) (.slice gp n gc) (.slice lp row.length lc) row (row++[t]) st2 sg2 said2 w9):=by rw[←HTT.out,←HMM.out];exact hq9.2.1 rfl
    have HBL9:Hid (Below w1.heap.size w1 w9):=hq9.1;obtain⟨y,hy⟩:=gen (w9.alloc (.cells #[.string t] 9));have hby:Below w9.heap.size w9 y:=by rw[hy];exact(Below.refl _ w9).alloc (Nat.le_refl _) _
    have HQY:Hid (y.heap[w9.heap.size]? =some (.cells #[.string t] 9 (0,0))):=by rw[hy];exact heap_alloc_new w9 _
    have HOY:=hide (HI9.out.below hby).own;obtain⟨HBY,HY⟩:=hide2 hby hy;clear hq9 HI6 HMM HTT HRG6 c0 hy hby;go_wp2_with (first|(at_builtin;rw[←HY.out];refine wpList_append_own_at _ rfl _ _ 30 rfl 0 9 iW (.string ByteArray.empty) 1 16 underlying30 hiW hz0 hz1 hz2 rfl (by decide) _ _ _ rfl HOY.out ⟨w9.heap.size,0,none⟩ 1 1 [.string t] rfl rfl ?c1 ?c2 ?c3 ?c4 ?c5 ?_)|fail)
    case c1=>
     intro q u hq;match q,hq with
     |0,hq=>simp at hq;subst hq;rw[addr_add];exact cell_of_row y w9.heap.size 0 _ _ _ HQY.out
    case c2=>first|rfl|(intro u hu;simp at hu;subst hu;rfl)
    case c3=>unfold maxLen;omega
    case c4=>omega
    case c5=>exact Nat.zero_le _
    intro v4 wa hown hgrow _ hat;obtain⟨vp4,vc4,rfl⟩:=own_slice hown;have hmore:=HI9.out.more (row':=row++[t]) HBY.out hgrow (by rw[List.length_append,List.map_append];exact hown) hat;have HIa:=hide hmore.1;have HBa:Hid (Below w1.heap.size w1 wa):=HBL9.out.trans hmore.2;clear hown hgrow hat hmore;go_wp2;go_roundw
    case rel=>exact⟨k+1,row++[t],st2,sg2,said2,by omega,by go_num,HIa.out,HBa.out⟩
    case measure=>simp[intOf];omega
  have hlti:¬(row.length:Int)<12:=by omega
  clear hp0;go_wp2_with fail
  refine(HPK.out _).mono ?_;rintro e wp ⟨rfl,hwp⟩;have hwq:=hwp.symm;clear hwp;subst hwq;go_wp2_with fail
  refine HHT.out.mono ?_;rintro e wp ⟨rfl,hwp⟩;have hwq:=hwp.symm;clear hwp;subst hwq;clear HHT HPK;go_wp2;go_roundw
  case rel=>exact⟨k+1,row,st2,sg2,said2,by omega,by go_num,HEND6.out,HBL6.out⟩
  case measure=>simp[intOf];omega
 have hp0i:¬(pk:Int)=0:=by omega
 clear hp0;go_wp2_with fail
 refine(HPK.out _).mono ?_;rintro e wp ⟨rfl,hwp⟩;have hwq:=hwp.symm;clear hwp;subst hwq;clear HPK;go_wp2;go_roundw
 case rel=>exact⟨k+1,row,st2,sg2,said2,by omega,by go_num,HEND6.out,HBL6.out⟩
 case measure=>simp[intOf];omega
end Go.Proofs.YtcfjhbcpjpgodaaGreatDoor

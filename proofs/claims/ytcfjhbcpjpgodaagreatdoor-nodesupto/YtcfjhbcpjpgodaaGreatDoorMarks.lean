import Derived.Maps.AppendAt
import Derived.OwnWalk
namespace Go.Proofs.YtcfjhbcpjpgodaaGreatDoor
section
variable{P:Program}(w:World)
theorem jU{w:World}{b j:Nat}{M:Value}(h:w.cell? ⟨b,j,none⟩=some M):b<w.heap.size:=by
 rcases Nat.lt_or_ge b w.heap.size with h'|h'
 .exact h'
 simp[World.cell?,Array.getElem?_eq_none h'] at h
theorem Zw{w:World}{b j:Nat}{M:Value}(o:Obj)(h:w.cell? ⟨b,j,none⟩=some M):(w.drew.alloc o).cell? ⟨b,j,none⟩=some M:=by
 rw[<-h];exact World.cell?_of_block (w:=w) (a:=⟨b,j,none⟩) (heap_alloc_old w.drew o b (jU h))
theorem gK(base:Nat)(t ty e:TypeId)(i:TypeInfo)(z:Value)(bytes:Nat)(ht:P.underlying t=some (.slice e))(hi:P.info? e=some i)(hz:i.zero=some z)
 (hsize:i.size=1) (hby:i.bytes=bytes) (hzs:z.cells.size=1)
 (v:Value) (n:Nat) (xs:List Value) (hown:w.ownsRow base e 1 v n xs)
 (a:Addr) (m c:Nat) (M:Value) (hm:0<m) (hnews:∀j u,(List.replicate m M)[j]? =some u->w.cell? (a.add j)=some u) (h1:M.oneCell'=true)
 (h63:n+m<=maxLen) (hbytes:(n+m)*bytes<=140737488355328) (hbase:base<=w.heap.size):
 ∃v' w',(Builtin.append_ #[t,t] ty #[v,.slice (some a) m c]).run P w=.ok v' w'/\w'.ownsRow base e 1 v' (n+m) (xs++List.replicate m M)/\w.grownBy w' v.ownBlock/\
  (v'.ownBlock=v.ownBlock\/v'.ownBlock=some w.heap.size)/\w'.ownsRow base e 1 v n xs/\∀b j,w.cell? ⟨b,j,none⟩=some M->w'.cell? ⟨b,j,none⟩=some M:=by
 have hM:∀u∈List.replicate m M,u.oneCell'=true:=λu hu=>by rw[List.eq_of_mem_replicate hu];exact h1
 have hl:(List.replicate m M).length=m*1:=by simp
 have ah:(List.replicate m M).length=m*i.size:=by rw[hsize];exact hl
 obtain⟨v',w',hr,h2,h3,_,h5⟩:=run_append_own_at (P:=P) w base t ty e i z 1 bytes ht hi hz hsize hby hzs (by decide) v n xs hown a m c (List.replicate m M) hl hnews hM h63 hbytes hbase;refine⟨v',w',hr,h2,h3,h5,?_⟩;have ag:n+m<=9223372036854775807:=by simp only[maxLen] at h63;omega
 rcases hown.2 with⟨rfl,rfl⟩|⟨g,cap,cur,rfl,ak,hg,ai,aj,hcs,ab⟩
 .have ae:=run_append_nil (P:=P) w t ty e i z ht hi hz a m c (List.replicate m M) ah hnews hm (by omega) (by rw[hby];have hb:=hbytes;simp only[Nat.zero_add] at hb;omega);rw[ae] at hr;cases hr;exact⟨⟨hown.1,Or.inl ⟨rfl,rfl⟩⟩,λb j aa=>Zw _ aa⟩
 by_cases ad:n+m<=cap
 .have ae:=run_append_room (P:=P) w t ty e i ht hi g n cap cur hg a m c (List.replicate m M) ah hnews hM ad (by rw[hsize];simp;omega);rw[ae] at hr;cases hr;refine⟨⟨hown.1,Or.inr ⟨g,cap,_,rfl,ak,setRow_heap w g cur _ e _ hg,ai,aj,?_,?_⟩⟩,?_⟩
  .rw [hsize];simp only[List.size_toArray,List.length_append,List.length_take,List.length_drop,Array.length_toList,List.length_replicate];omega
  .rw [hsize,List.append_assoc,List.take_append_of_le_length (by simp;omega),List.take_take,Nat.min_self];exact ab
  intro b j aa;by_cases e2:b=g
  .subst e2;rw[cell_of_row _ _ j _ _ _ (setRow_heap w b cur _ e _ hg)];rw[cell_of_row w b j _ _ _ hg] at aa;rw[hsize,Nat.mul_one];have hj:j<cur.size:=(Array.getElem?_eq_some_iff.1 aa).1;rw[<-Array.getElem?_toList] at aa;simp only[List.getElem?_toArray];by_cases c1:j<n
   .rw [List.append_assoc,List.getElem?_append_left (by simp;omega),List.getElem?_take,if_pos c1];exact aa
   by_cases c2:j<n+m
   .rw [List.getElem?_append_left (by simp;omega),List.getElem?_append_right (by simp;omega)];rw[List.getElem?_replicate,if_pos (by simp;omega)]
   rw[List.getElem?_append_right (by simp;omega),List.getElem?_drop];rw[<-aa]
   congr 1
   simp;omega
  rw[<-aa];exact World.cell?_of_block (w:=w) (a:=⟨b,j,none⟩) (setRow_other w g b _ e2)
 have af:∀j u,xs[j]? =some u->w.cell? ((⟨g,0,none⟩:Addr).add j)=some u:=hown.cells (g:=g) rfl;have ae:=run_append_grow (P:=P) w t ty e i z ht hi hz ⟨g,0,none⟩ n cap xs (by rw[hsize];exact hown.1) af a m c (List.replicate m M) ah hnews (by omega) (by omega) (by rw[hby];exact growslice_fits (by omega) hbytes);rw[ae] at hr;cases hr;exact⟨hown.kept (row:=none) ⟨rfl,rfl,rfl,by simp,λk hk _=>heap_alloc_old w.drew _ k hk⟩ (Or.inr (by simp[Value.ownBlock])),λb j aa=>Zw _ aa⟩
theorem yq{o:Oper}{a:Act}{K:Act->World->Prop}{Q:Exit->Act->World->Prop}(s x:Operand)(t:TypeId)
 (ho:o.op=.call { callee:=.builtin .append,args:=#[s,x],argTypes:=#[t,t] })
 (base:Nat) (e:TypeId) (i:TypeInfo) (z:Value) (bytes:Nat) (ht:P.underlying t=some (.slice e)) (hi:P.info? e=some i) (hz:i.zero=some z)
 (hsize:i.size=1) (hby:i.bytes=bytes) (hzs:z.cells.size=1)
 (v:Value) (n:Nat) (xs:List Value) (hs:a.eval s=v) (hown:w.ownsRow base e 1 v n xs)
 (ad:Addr) (m c:Nat) (M:Value) (hx:a.eval x=.slice (some ad) m c) (hm:0<m) (hnews:∀j u,(List.replicate m M)[j]? =some u->w.cell? (ad.add j)=some u) (h1:M.oneCell'=true)
 (h63:n+m<=maxLen) (hbytes:(n+m)*bytes<=140737488355328) (hbase:base<=w.heap.size)
 (h:∀v' w',w'.ownsRow base e 1 v' (n+m) (xs++List.replicate m M)->w.grownBy w' v.ownBlock->(v'.ownBlock=v.ownBlock\/v'.ownBlock=some w.heap.size)->w'.ownsRow base e 1 v n xs->(∀b j,w.cell? ⟨b,j,none⟩=some M->w'.cell? ⟨b,j,none⟩=some M)->K (a.put o.dst v') w'):o.wp P a w K Q:=by
 obtain⟨v',w',hr,h2,h3,h4,h5,h6⟩:=gK (P:=P) w base t o.type e i z bytes ht hi hz hsize hby hzs v n xs hown ad m c M hm hnews h1 h63 hbytes hbase;unfold Oper.wp execOp;simp only[ho,resolve,invoke,builtin,Sem.run_bind,Sem.run_pure,Result.andThen_ok,List.map_toArray,List.map_cons,List.map_nil,hs,hx,hr];exact h v' w' h2 h3 h4 h5 h6
theorem zQ{o:Oper}{a:Act}{K:Act->World->Prop}{Q:Exit->Act->World->Prop}(s x:Operand)(t:TypeId)
 (ho:o.op=.call { callee:=.builtin .append,args:=#[s,x],argTypes:=#[t,t] })
 (base:Nat) (e:TypeId) (i:TypeInfo) (z:Value) (size bytes:Nat) (ht:P.underlying t=some (.slice e)) (hi:P.info? e=some i) (hz:i.zero=some z)
 (hsize:i.size=size) (hby:i.bytes=bytes) (hzs:z.cells.size=size) (hsz:0<size)
 (v:Value) (n:Nat) (xs:List Value) (hs:a.eval s=v) (hown:w.ownsRow base e size v n xs)
 (ad:Addr) (m c:Nat) (news:List Value) (hx:a.eval x=.slice (some ad) m c) (hl:news.length=m*size) (hnews:∀j u,news[j]? =some u->w.cell? (ad.add j)=some u) (h1:∀u∈news,u.oneCell'=true)
 (h63:n+m<=maxLen) (hbytes:(n+m)*bytes<=140737488355328) (hbase:base<=w.heap.size)
 (h:∀v' w',w'.ownsRow base e size v' (n+m) (xs++news)->w.grownBy w' v.ownBlock->(v'.ownBlock=v.ownBlock\/v'.ownBlock=some w.heap.size)->K (a.put o.dst v') w'):o.wp P a w K Q:=by
 obtain⟨v',w',hr,h2,h3,_,h5⟩:=run_append_own_at (P:=P) w base t o.type e i z size bytes ht hi hz hsize hby hzs hsz v n xs hown ad m c news hl hnews h1 h63 hbytes hbase;unfold Oper.wp execOp;simp only[ho,resolve,invoke,builtin,Sem.run_bind,Sem.run_pure,Result.andThen_ok,List.map_toArray,List.map_cons,List.map_nil,hs,hx,hr];exact h v' w' h2 h3 h5

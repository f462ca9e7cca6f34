/- Proved here: a decision of a node is marked as told, or as not told. -/
import Derived.Test.YtcfjhbcpjpgodaaGreatDoorJ31
import Derived.Test.YtcfjhbcpjpgodaaGreatDoorJ25
import Derived.Test.YtcfjhbcpjpgodaaGreatDoorTakeL
namespace Go.Proofs.YtcfjhbcpjpgodaaGreatDoor
open Go.RowKit Go.Proofs.Tryz
set_option linter.unusedSimpArgs false
set_option linter.unusedVariables false
set_option maxRecDepth 100000
set_option maxHeartbeats 6400000
variable{w:World}{n g cap nb kb cb B rb i:Nat}{V:NodeV}{s:NodeS}{es:List Addr}{m:Int}{F R:Nat→Prop}
theorem own_setE{base e size k:Nat}{xs:List Value}{u:Value}(h:w.ownsRow base e size (.slice (some ⟨g,0,none⟩) n cap) n xs):(w.setCell ⟨g,k,none⟩ u).ownsRow base e size (.slice (some ⟨g,0,none⟩) n cap) n (xs.set k u):=by
 refine⟨by rw[List.length_set];exact h.1,?_⟩;rcases h.2 with⟨h1,_⟩|⟨g1,cap1,cur,h1,hb,hg,hnc,hcm,hcs,ht⟩
 .cases h1
 cases h1;refine Or.inr ⟨g,cap,cur.setIfInBounds k u,rfl,hb,setCell_row hg k u,hnc,hcm,by rw[Array.size_setIfInBounds];exact hcs,?_⟩;rw[Array.toList_setIfInBounds,List.take_set,ht]
theorem dcnL_set(u:Bool):∀(l:List (DcnV×Value)) (j:Nat),j<l.length→(dcnL l).set (j*4+3) (.bool u)=dcnL (l.set j ({ (l.getD j (dcn0,.nilIface)).1 with told:=u },(l.getD j (dcn0,.nilIface)).2))
 | [],j,h=>by simp at h
 |d::l,0,_=>by
  simp[dcnL,dcnC]
 |d::l,j+1,h=>by
  have ih:=dcnL_set u l j (by simpa using h);have e1:dcnL (d::l)=(dcnC d).toList++dcnL l:=rfl;have e2:(dcnC d).toList.length=4:=rfl;have e3:(d::l).getD (j+1) (dcn0,.nilIface)=l.getD j (dcn0,.nilIface):=by simp
  rw[e1,List.set_append_right _ _ (by rw[e2];omega),e2,show(j+1)*4+3-4=j*4+3 by omega,ih,e3,List.set_cons_succ];rfl
theorem NodeAt.dcnAt(h:NodeAt nb kb cb V s w)(j:Nat)(hj:j<s.dec.length):∃g cap cv,V.dv=.slice (some ⟨g,0,none⟩) s.dec.length cap∧s.dec.length≤maxLen∧V.ds[j]? =some (s.dec.getD j dcn0,cv)∧w.cell? ⟨g,j*4+1,none⟩=some (.string (s.dec.getD j dcn0).prop)∧w.cell? ⟨g,j*4+2,none⟩=some cv∧w.cell? ⟨g,j*4+3,none⟩=some (.bool (s.dec.getD j dcn0).told)∧(∃C,w.heap[g]? =some (.cells C 175 (0,0))∧C.size=cap*4)∧s.dec.length≤cap:=by
 have hl:V.ds.length=s.dec.length:=by
  have e:=congrArg List.length h.eds;rw[List.length_map] at e;exact e
 obtain⟨d,hd⟩:∃d,V.ds[j]? =some d:=⟨_,List.getElem?_eq_getElem (by omega)⟩;have hd1:d.1=s.dec.getD j dcn0:=by
  rw[←h.eds,List.getD_eq_getElem?_getD,List.getElem?_map,hd];rfl
 rcases h.dec.2 with⟨_,h1⟩|⟨g,cap,cur,h1,hb,hg,hnc,hcm,hcs,ht⟩
 .omega
 have hget:∀(l:List (DcnV×Value)) (j k:Nat) (d:DcnV×Value),k<4→l[j]? =some d→(dcnL l)[j*4+k]? =(dcnC d).toList[k]? :=fun l=>by
  induction l with
  |nil=>intro j k d _ hd;simp at hd
  |cons a l ih=>
   intro j k d hk hd;have e1:dcnL (a::l)=(dcnC a).toList++dcnL l:=rfl;cases j with
   |zero=>
    simp only[List.getElem?_cons_zero] at hd;cases hd;rw[e1,List.getElem?_append_left (by show 0*4+k<4;omega),Nat.zero_mul,Nat.zero_add]
   |succ j=>
    rw[List.getElem?_cons_succ] at hd;rw[e1,List.getElem?_append_right (by show 4≤(j+1)*4+k;omega),show(j+1)*4+k-(dcnC a).toList.length=j*4+k by show(j+1)*4+k-4=_;omega];exact ih j k d hk hd
 have hc:∀k,k<4→w.cell? ⟨g,j*4+k,none⟩=(dcnC d).toList[k]? :=fun k hk=>by
  rw[cell_of_row w g (j*4+k) _ _ _ hg,←hget V.ds j k d hk hd,←ht,List.getElem?_take,if_pos (by omega),Array.getElem?_toList]
 refine⟨g,cap,d.2,by rw[h1,hl],by omega,by rw[hd,←hd1],?_,hc 2 (by omega),?_,⟨cur,hg,hcs⟩,by omega⟩
 .rw [←hd1];exact hc 1 (by omega)
 rw[←hd1];exact hc 3 (by omega)
theorem NodeW.toldTurn{j:Nat}(h:NodeW B es m F R nb kb rb cb n i s w)(hA:NodeAt nb kb cb V s w)(hf:∀k,V.foot nb cb k→F k)(hv:V.dv=.slice (some ⟨g,0,none⟩) s.dec.length cap)(hj:j<s.dec.length)(u:Bool):
 NodeW B es m F R nb kb rb cb n i { s with dec:=s.dec.set j { s.dec.getD j dcn0 with told:=u } } (w.setCell ⟨g,j*4+3,none⟩ (.bool u))∧Goes F R w F R (w.setCell ⟨g,j*4+3,none⟩ (.bool u)):=by
 have hl:V.ds.length=s.dec.length:=by
  have e:=congrArg List.length hA.eds;rw[List.length_map] at e;exact e
 obtain⟨d,hd⟩:∃d,V.ds[j]? =some d:=⟨_,List.getElem?_eq_getElem (by omega)⟩;have hdg:V.ds.getD j (dcn0,.nilIface)=d:=by rw[List.getD_eq_getElem?_getD,hd];rfl
 have hdm:d∈V.ds:=List.mem_of_getElem? hd;have hd1:d.1=s.dec.getD j dcn0:=by
  rw[←hA.eds,List.getD_eq_getElem?_getD,List.getElem?_map,hd];rfl
 have ho:Only g w (w.setCell ⟨g,j*4+3,none⟩ (.bool u)):=only_setCell w g (j*4+3) _;have hdv:V.dv.ownBlock=some g:=by rw[hv];rfl
 have hFg:F g:=hf g (Or.inr (Or.inr (Or.inl hdv)));have hsn:(V.ds.set j ({ d.1 with told:=u },d.2)).map (·.2)=V.ds.map (·.2):=by
  apply List.ext_getElem?;intro k;rw[List.getElem?_map,List.getElem?_map,List.getElem?_set];split
  .rename_i e;rw[←e,hd,if_pos (by omega)];rfl
  rfl
 have hmem:∀x,x∈V.ds.set j ({ d.1 with told:=u },d.2)→∃y,y∈V.ds∧y.2=x.2∧y.1.cert=x.1.cert:=fun x hx=>by
  rcases List.mem_or_eq_of_mem_set hx with h1|h1
  .exact ⟨x,h1,rfl,rfl⟩
  rw[h1];exact⟨d,hdm,rfl,rfl⟩
 have hk:NodeAt nb kb cb { V with ds:=V.ds.set j ({ d.1 with told:=u },d.2) } { s with dec:=s.dec.set j { s.dec.getD j dcn0 with told:=u } } (w.setCell ⟨g,j*4+3,none⟩ (.bool u)):=by
  refine⟨?_,?_,?_,?_,?_,?_,?_,?_,?_,hA.alog,?_,?_⟩
  .exact (ho.block nb (fun e=>hA.rows.1 (e▸hdv))).trans hA.blk
  .show (V.ds.set j _).map (·.1)=s.dec.set j _
   rw[List.map_set,hA.eds,←hd1]
  .show World.ownsRow _ 0 175 4 V.dv (V.ds.set j _).length (dcnL (V.ds.set j _));have h1:=hA.dec;have h2:=dcnL_set u V.ds j (by omega);rw[hdg] at h2;rw[List.length_set,←h2];rw[hv,←hl] at h1 ⊢;exact own_setE h1
  .intro x hx;obtain⟨y,hy,e1,e2⟩:=hmem x hx;rw[←e1,←e2];exact own_blocks (hA.cert y hy) fun k hk _=>ho.block k (fun e=>own_tt (hA.cert y hy) hA.dec (by decide) k hk (e▸hdv))
  .exact own_blocks hA.wait fun k hk _=>ho.block k (fun e=>own_tt hA.wait hA.dec (by decide) k hk (e▸hdv))
  .exact own_blocks hA.log fun k hk _=>ho.block k (fun e=>own_tt hA.log hA.dec (by decide) k hk (e▸hdv))
  .exact own_blocks hA.ahead fun k hk _=>ho.block k (fun e=>own_tt hA.ahead hA.dec (by decide) k hk (e▸hdv))
  .exact own_blocks hA.tims fun k hk _=>ho.block k (fun e=>own_tt hA.tims hA.dec (by decide) k hk (e▸hdv))
  .obtain ⟨a,b,hc⟩:=hA.chan
   exact⟨a,b,(ho.block cb (fun e=>own_nc hA.dec hA.chan (e▸hdv))).trans hc⟩
  .intro x hx k hk;obtain⟨y,hy,e1,e2⟩:=hmem x hx;exact hA.awc y hy k (by rw[e1];exact hk)
  have h1:(V.ds.map (·.2)).Pairwise fun a b:Value=>∀g,a.ownBlock=some g→b.ownBlock≠some g:=by
   rw[List.pairwise_map];exact hA.acc
  show(V.ds.set j ({ d.1 with told:=u },d.2)).Pairwise fun d e=>∀g,d.2.ownBlock=some g→e.2.ownBlock≠some g;rw[←hsn,List.pairwise_map] at h1;exact h1
 refine h.turnF ⟨_,hk,fun k hk=>?_⟩ rfl (fun k hk=>Or.inl hk) (fun k hk=>by rw[ho.size];exact(h.fl k hk).2) (only_same ho hFg);rcases hk with e|e|e|e|e|e|e|⟨x,hx,e⟩
 .exact hf k (Or.inl e)
 .exact hf k (Or.inr (Or.inl e))
 .exact hf k (Or.inr (Or.inr (Or.inl e)))
 .exact hf k (Or.inr (Or.inr (Or.inr (Or.inl e))))
 .exact hf k (Or.inr (Or.inr (Or.inr (Or.inr (Or.inl e)))))
 .exact hf k (Or.inr (Or.inr (Or.inr (Or.inr (Or.inr (Or.inl e))))))
 .exact hf k (Or.inr (Or.inr (Or.inr (Or.inr (Or.inr (Or.inr (Or.inl e)))))))
 obtain⟨y,hy,e1,e2⟩:=hmem x hx;exact hf k (Or.inr (Or.inr (Or.inr (Or.inr (Or.inr (Or.inr (Or.inr ⟨y,hy,by rw[e1];exact e⟩)))))))
theorem tellAgain_any(k:Nat){w:World}(h:NodeW B es m F R nb kb rb cb n i s w)(hk:k<s.dec.length)(hh:s.dec.length≤12)(hcl:∀d∈s.dec,d.cert.length≤100000):
 Calls prog 80 #[.pointer (some ⟨nb,0,none⟩),.int .i64 (k:Int)] w fun en w'=>en=.returned (.tuple #[])∧NodeW B es m F R nb kb rb cb n i (s.tellS k) w'∧Goes F R w F R w':=by
 obtain⟨V,hA,hf⟩:=h.node;obtain⟨g,cap,cv,hdv,hmax,hds,c1,c2,c3,⟨C,hC,hCs⟩,hcap⟩:=hA.dcnAt k hk;have c35:w.cell? ⟨nb,35,none⟩=some (.slice (some ⟨g,0,none⟩) s.dec.length cap):=by rw[←hdv];exact hA.cell 35 rfl
 have hki:(k:Int)<s.dec.length:=by omega
 obtain⟨d,hd⟩:=gen (s.dec.getD k dcn0);rw[←hd] at hds c1 c3;have hdm:(d,cv)∈V.ds:=List.mem_of_getElem? hds;have hcert:=hA.cert (d,cv) hdm;have hdl:d.cert.length≤100000:=hcl d (by rw[←hA.eds];exact List.mem_map.2 ⟨(d,cv),hdm,rfl⟩);have hgc:g≠cb:=fun e=>own_nc hA.dec hA.chan (by rw[hdv,←e];rfl);have hgn:g≠nb:=fun e=>hA.rows.1 (by rw[hdv,←e];rfl);cases ht:d.told with
 |true=>
  rw[ht] at c3;have HEND:Hid (NodeW B es m F R nb kb rb cb n i (s.tellS k) w∧Goes F R w F R w):=by
   unfold NodeS.tellS;rw[←hd,if_pos ht];exact⟨h,Goes.refl F R w⟩
  clear h hA hf hdv hds c1 c2 hC hCs hdm hcert hdl hcl hd ht;go_enter func80,ntmps80;go_wp2;first|exact bodyPost_end (v:=.tuple #[]) (by simp[results,results80]) rfl ⟨rfl,HEND.out⟩|exact bodyPost_ret (v:=.tuple #[]) (by simp[results,results80]) rfl ⟨rfl,HEND.out⟩
 |false=>
  rw[ht] at c3;have f3:w.frozen? ⟨g,k*4+3,none⟩=false:=frozen_row hC _;obtain⟨hW1,hG1⟩:=h.toldTurn hA hf hdv hk true;rw[←hd] at hW1;have hS:Hid (s.tellS k={ s with dec:=s.dec.set k { d with told:=true },out:=putL s.out (d.prop::d.cert) }):=by
   unfold Hid NodeS.tellS;rw[←hd,if_neg (by rw[ht];exact Bool.false_ne_true)]
  have ho1:Only g w (w.setCell ⟨g,k*4+3,none⟩ (.bool true)):=only_setCell w g (k*4+3) _;have C1w:Hid ((w.setCell ⟨g,k*4+3,none⟩ (.bool true)).cell? ⟨g,k*4+1,none⟩=some (.string d.prop)):=by
   unfold Hid;rw[cell_of_row _ g (k*4+1) _ _ _ (setCell_row hC _ _),Array.getElem?_setIfInBounds_ne (by omega),←cell_of_row w g (k*4+1) _ _ _ hC];exact c1
  have C2w:Hid ((w.setCell ⟨g,k*4+3,none⟩ (.bool true)).cell? ⟨g,k*4+2,none⟩=some cv):=by
   unfold Hid;rw[cell_of_row _ g (k*4+2) _ _ _ (setCell_row hC _ _),Array.getElem?_setIfInBounds_ne (by omega),←cell_of_row w g (k*4+2) _ _ _ hC];exact c2
  have hcert1:(w.setCell ⟨g,k*4+3,none⟩ (.bool true)).ownsRow 0 9 1 cv d.cert.length (d.cert.map .string):=own_blocks hcert fun j hj _=>ho1.block j (fun e=>own_tt hcert hA.dec (by decide) j hj (by rw[hdv,e];rfl));obtain⟨w1,hw1⟩:=gen (w.setCell ⟨g,k*4+3,none⟩ (.bool true));rw[←hw1] at hW1 hG1 C1w C2w hcert1;obtain⟨HW1,HG1⟩:=hide2 hW1 hG1;obtain⟨V1,hA1,hf1⟩:=hW1.node;have HA1:=hide hA1;have C1:=C1w;have C2:=C2w;obtain⟨HGC,HCERT,HDL,HWE⟩:=hide4 hgc hcert1 hdl hw1;clear C1w C2w h hA hf hdv hds c1 c2 hC hCs hdm hcert hdl hcl hd ht hW1 hG1 hA1 hf1 hw1 hcert1 ho1;go_enter func80,ntmps80
  go_upto_region 3 with fail
  rw[←HWE.out];refine rgd (S:=fun W=>W.cell? ⟨g,k*4+1,none⟩=some (.string d.prop)) C1.out (fun hH=>?_);refine takeN [(0,some 18,pA nb 0),(1,some 19,pA nb 0),(2,some 20,pA nb 53),(3,some 21,pA g (k*4)),(4,some 22,pA g (k*4)),(5,some 23,pA g (k*4+1)),(6,some 24,.string d.prop)] _ _ hH (by repeat(first|exact True.intro|(refine tkc rfl rfl (Or.inl ⟨by rfl,fun x h=>by have f0:x.cell? ⟨g,k*4+1,none⟩=some (.string d.prop):=h;go_simp⟩) ?_;simp only[AP]))) ?_;simp only[takesA,AP,pA];refine rdy1 7 (fun K hK=>?_);go_simp;obtain⟨w2,hw2⟩:∃z,z=(w1.alloc (.cells #[.string d.prop] 9)).drew:=⟨_,rfl⟩;have hb2:Below w1.heap.size w1 w2:=by rw[hw2];exact((Below.refl _ w1).alloc (Nat.le_refl _) _).drew
  have hq2:w2.heap[w1.heap.size]? =some (.cells #[.string d.prop] 9 (0,0)):=by rw[hw2];exact heap_alloc_new w1 _
  rw[←hw2];clear hw2;refine hK.out _ _ (Ext.cell C1.out (Ext.of hb2)) (fun hH=>?_);clear hK K
  try simp only[AP,AQ]
  have hW2:=HW1.out.below hb2;obtain⟨V2,hA2,hf2⟩:=hW2.node;have hcell2:∀j,j<1→∃b o,(some ⟨w1.heap.size,0,none⟩:Option Addr)=some ⟨b,o,none⟩∧b≠cb∧w2.cell? ⟨b,o+j,none⟩=some (.string d.prop):=fun j hj=>by
   have e:j=0:=by omega
   subst e;exact⟨w1.heap.size,0,rfl,(fun e=>by have h1:=chan_lt HA1.out.chan;omega),cell_of_row w2 w1.heap.size 0 _ _ _ hq2⟩
  have HPUT:=hide (put_any nb 53 cb 1 1 (some ⟨w1.heap.size,0,none⟩) (fun _=>d.prop) s.out w2 (by omega) hA2.nc hA2.chan (hA2.cell 53 rfl) hcell2);clear hcell2;have HW2:=hide hW2;clear hW2 hA2 hf2;refine rdy1 8 (fun K hK=>?_);go_simp;refine HPUT.out.mono ?_;rintro en w3 ⟨rfl,hch3,ho3⟩;have hc3:w3.cell? ⟨g,k*4+1,none⟩=some (.string d.prop):=ho3.cell hH HGC.out;refine hK.out _ _ hc3 (fun hH=>?_);clear hK K
  try simp only[AP,AQ]
  refine dnr ?_;obtain⟨hW3,hG3⟩:=HW2.out.outTurn hch3 ho3;have HG3:Hid (Goes F R w F R w3):=HG1.out.trans ((Goes.below hb2).trans hG3);have c23:w3.cell? ⟨g,k*4+2,none⟩=some cv:=ho3.cell (Ext.cell C2.out (Ext.of hb2)) HGC.out;obtain⟨V3,hA3,hf3⟩:=hW3.node;have hcert3:w3.ownsRow 0 9 1 cv d.cert.length (d.cert.map .string):=own_blocks HCERT.out fun j hj hl=>(ho3.block j (fun e=>own_nc HCERT.out HA1.out.chan (e▸hj))).trans (hb2.block j hl);obtain⟨pc,cc,hcv,hcm,hlies⟩:=own_lies hcert3;have HPUT3:=hide (put_any nb 53 cb d.cert.length cc pc (fun j=>d.cert.getD j ByteArray.empty) (putN (fun _=>d.prop) s.out 0 1) w3.drew (by have:=HDL.out;omega) hA3.nc hA3.chan (hA3.cell 53 rfl) (fun j hj=>by
   obtain⟨b,o,hp,hbl,hcell⟩:=hlies j hj;refine⟨b,o,hp,fun e=>?_,hcell⟩;exact own_nc hcert3 hA3.chan (by rw[hcv,hp,e];rfl)))
  rw[putN_all] at HPUT3;rw[hcv] at c23;have HW3:=hide hW3;have HNV:Hid (putL (putN (fun _=>d.prop) s.out 0 1) d.cert=putL s.out (d.prop::d.cert)):=rfl;clear hW3 hA3 hf3 hcert3 hlies hcm hG3 hch3 ho3 hb2 hq2 HPUT
  go_upto_region 4 with fail
  refine rgd (S:=fun W=>W.cell? ⟨g,k*4+2,none⟩=some (.slice pc d.cert.length cc)) c23 (fun hH=>?_);refine takeN [(0,some 27,pA nb 0),(1,some 28,pA nb 0),(2,some 29,pA nb 53),(3,some 30,pA g (k*4)),(4,some 31,pA g (k*4)),(5,some 32,pA g (k*4+2)),(6,some 33,.slice pc d.cert.length cc)] _ _ hH (by repeat(first|exact True.intro|(refine tkc rfl rfl (Or.inl ⟨by rfl,fun x h=>by have f0:x.cell? ⟨g,k*4+2,none⟩=some (.slice pc d.cert.length cc):=h;go_simp⟩) ?_;simp only[AP]))) ?_;simp only[takesA,AP,pA];refine rdy1 7 (fun K hK=>?_);go_simp;refine(HPUT3.out).mono ?_;rintro en w4 ⟨rfl,hch4,ho4⟩;have hc4:w4.cell? ⟨g,k*4+2,none⟩=some (.slice pc d.cert.length cc):=ho4.cell hH HGC.out;refine hK.out _ _ hc4 (fun hH=>?_);clear hK K
  try simp only[AP,AQ]
  refine dnr ?_;obtain⟨hW4,hG4⟩:=(HW3.out.below ((Below.refl _ w3).drew)).outTurn hch4 ho4;have hG4:=(Goes.below ((Below.refl _ w3).drew)).trans hG4;have HEND:Hid (NodeW B es m F R nb kb rb cb n i (s.tellS k) w4∧Goes F R w F R w4):=by
   rw[HNV.out] at hW4;rw[hS.out];exact⟨hW4,HG3.out.trans hG4⟩
  clear hW4 hG4 hch4 ho4;go_wp2;first|exact bodyPost_end (v:=.tuple #[]) (by simp[results,results80]) rfl ⟨rfl,HEND.out⟩|exact bodyPost_ret (v:=.tuple #[]) (by simp[results,results80]) rfl ⟨rfl,HEND.out⟩
end Go.Proofs.YtcfjhbcpjpgodaaGreatDoor

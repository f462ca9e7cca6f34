import Derived.Test.YtcfjhbcpjpgodaaGreatDoorJ2
namespace Go.Proofs.YtcfjhbcpjpgodaaGreatDoor
open Go.RowKit Proofs.Tryz
set_option maxRecDepth 100000
set_option maxHeartbeats 0
set_option linter.all false
theorem Y6(K H R F V:Int)(nl:Bool)(s:zgW)(w:World)(hs:s.size<=24)(h1:0<=H)(h2:H<12)(h3:0<=R)(h4:R<=255)(h5:0<=F)(h6:F<8)(hK:K=2\/K=3):
 Calls prog 58 #[.agg #[iA K,iA H,iA R,iA F,iA V,bA nl,sA s]] w λe w'=>e=.returned (.tuple #[sA (encS K H R F V nl s),bA (hasB K H R F V nl s.size)])/\BW w w':=by
 have k0:2<=K:=by omega
 have k1:K<=3:=by omega
 have k2:(K==1)=false:=by simp;omega
 have HK:Hid (K=2\/K=3):=hK;clear hK;by_cases hv:V=0
 .subst hv;have ad:=zcr w;have aa:=zbF;cases nl
  .have hy:Hid (hasB K H R F 0 false s.size=true):=by unfold Hid;simp[hasB]<;>omega
   have hm:yS K 0 false=0:=by unfold yS;rw[zgU (by omega)];rfl
   have HM:=zc hm;clear hm;go_enter func58,ntmps58;go_wp2;go_ret2;exact⟨yC (by rw[qF hy.o,HM.o];rfl) hy.o.symm,(bwA _).alloc (by simp) _⟩
  by_cases hz:s.size=0
  .have ab:s=⟨#[]⟩:=ByteArray.ext (Array.eq_empty_of_size_eq_zero hz);subst ab;have hy:Hid (hasB K H R F 0 true (⟨#[]⟩:zgW).size=true):=by
    show hasB K H R F 0 true 0=true;rw[<-Za K H R F 0 h1 h2 h3 h4 h5 h6 (by omega) HK.o];rfl
   have hm:yS K 0 true=1:=by unfold yS;rw[zgU (by omega)];rfl
   have HM:=zc hm;clear hm hz;go_enter func58,ntmps58;go_wp2;go_ret2;exact⟨yC (by rw[qF hy.o,HM.o];rfl) hy.o.symm,(bwA _).alloc (by simp) _⟩
  have he:s.toList.isEmpty=false:=by rw[gy];simpa using hz
  have hy:Hid (hasB K H R F 0 true s.size=false):=by
   unfold Hid;rw[<-Za K H R F s.size h1 h2 h3 h4 h5 h6 hs HK.o];simpa using hz
  clear ad aa hz;go_enter func58,ntmps58;go_wp2;go_ret2;exact⟨yC (yy hy.o).symm hy.o.symm,bwA _⟩
 have hv':(V==0)=false:=by simpa using hv
 have hy:Hid (hasB K H R F V nl s.size=false):=by
  have:=HK.o;unfold Hid;simp[hasB]<;>omega
 cases nl
 .go_enter func58,ntmps58;go_wp2;go_ret2;exact⟨yC (yy hy.o).symm hy.o.symm,bwA _⟩
 go_enter func58,ntmps58;go_wp2;go_ret2;exact⟨yC (yy hy.o).symm hy.o.symm,bwA _⟩

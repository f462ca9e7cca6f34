import Derived.Test.YtcfjhbcpjpgodaaGreatDoorBase
namespace Go.Proofs.YtcfjhbcpjpgodaaGreatDoor
open Go.RowKit
section
variable{P:Program}
def qu(P:Program)(md:Region.Mode)(ops:Array Oper)(S:World->Prop):List (Nat×Option Tmp×Value)->Array Bool->Act->Prop
 | [],_,_=>True
 |(i,d,v)::l,listed,a=>(∃oi,ops[i]? =some oi/\oi.dst=d/\Region.free md ops listed i=true/\(Region.ready md ops listed).contains i=true/\YieldsIf P ops S oi v a)/\qu P md ops S l (listed.setIfInBounds i true) (a.put d v)
def KH:List (Nat×Option Tmp×Value)->Array Bool->Array Bool
 | [],b=>b
 |(i,_,_)::l,b=>KH l (b.setIfInBounds i true)
def zh:List (Nat×Option Tmp×Value)->Act->Act
 | [],a=>a
 |(_,d,v)::l,a=>zh l (a.put d v)
theorem zcf{ops:Array Oper}{Q:Exit->Act->World->Prop}{md:Region.Mode}{S:World->Prop}{fuel:Nat}{w:World}(hs:Region.noSelect ops=true)(hQ:∀c a (d:Nat) v w,Q (.panic c) (Act.put a (some d) v) w->Q (.panic c) a w)(hS:S w):∀(l:List (Nat×Option Tmp×Value)) (listed:Array Bool) (a:Act),qu P md ops S l listed a->wpAnyH P md ops Q S fuel (KH l listed) (zh l a) w->wpAnyH P md ops Q S (fuel+l.length) listed a w
 | [],_,_,_,h=>h
 |(i,d,v)::l,listed,a,hk,h=>by
  obtain⟨⟨oi,h1,h2,h3,h4,h5⟩,h6⟩:=hk;exact zcz i d v h1 h2 hs h3 h4 (λc a w hx=>match d,hx with|none,hx=>hx|some d,hx=>hQ c a d v w hx) h5 hS (zcf hs hQ hS l _ _ h6 h)
theorem AP:(∀(a:Act) (d:Nat) (v:Value),a.put (some d) v={ a with tmps:=a.tmps.setIfInBounds d v })/\(∀(a:Act) (v:Value),a.put none v=a)/\(∀(l:List Value) (i:Nat) (v:Value),l.toArray.setIfInBounds i v=(l.set i v).toArray)/\(∀(x y:Value) (l:List Value),(x::l).set 0 y=y::l)/\(∀(x y:Value) (l:List Value) (i:Nat),(x::l).set (i+1) y=x::l.set i y):=
 ⟨λ_ _ _=>rfl,λ_ _=>rfl,λ_ _ _=>List.setIfInBounds_toArray ..,λ_ _ _=>rfl,λ_ _ _ _=>rfl⟩
theorem tkc{md:Region.Mode}{ops:Array Oper}{S:World->Prop}{i:Nat}{d:Option Tmp}{v:Value}{l:List (Nat×Option Tmp×Value)}{listed:Array Bool}{a:Act}{oi:Oper}(h1:ops[i]? =some oi)(h2:oi.dst=d)(hy:YieldsIf P ops S oi v a)(hr:qu P md ops S l (listed.setIfInBounds i true) (a.put d v))(h3:Region.free md ops listed i=true:=by kernel_rfl)(h4:(Region.ready md ops listed).contains i=true:=by kernel_rfl):qu P md ops S ((i,d,v)::l) listed a:=⟨⟨oi,h1,h2,h3,h4,hy⟩,hr⟩
theorem y8{ops:Array Oper}{Q:Exit->Act->World->Prop}{md:Region.Mode}{S:World->Prop}{listed:Array Bool}{a:Act}{w:World}(l:List (Nat×Option Tmp×Value))(fuel f:Nat)(hS:S w)(h:wpAnyH P md ops Q S f (KH l listed) (zh l a) w)(hk:qu P md ops S l listed a:=by repeat(first|exact zgY|(refine tkc rfl rfl (zgR ⟨by rfl,λx h=>by go_simp⟩) ?_;simp only[AP])))(hf:fuel=f+l.length:=by rfl)(hs:Region.noSelect ops=true:=by kernel_rfl)(hQ:∀c a (d:Nat) v w,Q (.panic c) (Act.put a (some d) v) w->Q (.panic c) a w:=by exact λ_ _ _ _ _ h=>h):wpAnyH P md ops Q S fuel listed a w:=by
 subst hf;exact zcf hs hQ hS l listed a hk h
theorem takeN{ops:Array Oper}{Q:Exit->Act->World->Prop}{md:Region.Mode}{S:World->Prop}{listed:Array Bool}{a:Act}{w:World}(l:List (Nat×Option Tmp×Value))(fuel f:Nat)(hS:S w)(hk:qu P md ops S l listed a)(h:wpAnyH P md ops Q S f (KH l listed) (zh l a) w)(hf:fuel=f+l.length:=by rfl)(hs:Region.noSelect ops=true:=by kernel_rfl)(hQ:∀c a (d:Nat) v w,Q (.panic c) (Act.put a (some d) v) w->Q (.panic c) a w:=by exact λ_ _ _ _ _ h=>h):wpAnyH P md ops Q S fuel listed a w:=y8 l fuel f hS h hk hf hs hQ
theorem qu.mono{md:Region.Mode}{ops:Array Oper}{S S':World->Prop}(hi:∀x,S x->S' x):∀(l:List (Nat×Option Tmp×Value)) (listed:Array Bool) (a:Act),qu P md ops S' l listed a->qu P md ops S l listed a
 | [],_,_,_=>zgY
 |(_,_,_)::l,_,_,⟨⟨oi,h1,h2,h3,h4,h5⟩,h6⟩=>⟨⟨oi,h1,h2,h3,h4,h5.imp (λh=>⟨h.1,λx hx=>h.2 x (hi x hx)⟩) id⟩,qu.mono hi l _ _ h6⟩
theorem zZ{ops:Array Oper}{Q:Exit->Act->World->Prop}{md:Region.Mode}{S Fc:World->Prop}{listed:Array Bool}{a:Act}{w:World}(l:List (Nat×Option Tmp×Value))(fuel f:Nat)(hS:S w)(hi:∀x,S x->Fc x)(h:wpAnyH P md ops Q S f (KH l listed) (zh l a) w)(hk:qu P md ops Fc l listed a:=by repeat(first|exact zgY|(refine tkc rfl rfl (zgR ⟨?_,λx h=>?_⟩) ?_;(focus rfl);(focus((try dsimp only at h);go_simp;done));simp only[AP])|(refine tkc rfl rfl (zgS ⟨?_,rfl⟩) ?_;(focus rfl);simp only[AP])))(hf:fuel=f+l.length:=by rfl)(hs:Region.noSelect ops=true:=by kernel_rfl)(hQ:∀c a (d:Nat) v w,Q (.panic c) (Act.put a (some d) v) w->Q (.panic c) a w:=by exact λ_ _ _ _ _ h=>h):wpAnyH P md ops Q S fuel listed a w:=y8 l fuel f hS h (hk.mono hi) hf hs hQ
def jZ(P:Program)(md:Region.Mode)(ops:Array Oper)(S:World->Prop):List Nat->Array Bool->Act->Array Bool->Act->Prop
 | [],b,a,b',a'=>b=b'/\a=a'
 |i::l,b,a,b',a'=>∃oi v,ops[i]? =some oi/\Region.free md ops b i=true/\(Region.ready md ops b).contains i=true/\YieldsIf P ops S oi v a/\jZ P md ops S l (b.setIfInBounds i true) (a.put oi.dst v) b' a'
theorem tkz{md:Region.Mode}{ops:Array Oper}{S:World->Prop}{b:Array Bool}{a:Act}:jZ P md ops S [] b a b a:=⟨rfl,rfl⟩
theorem tkt{md:Region.Mode}{ops:Array Oper}{S:World->Prop}{i:Nat}{v:Value}{l:List Nat}{b b':Array Bool}{a a':Act}{oi:Oper}(h1:ops[i]? =some oi)(hy:YieldsIf P ops S oi v a:=by first|(refine zgR ⟨rfl,λx h=>?_⟩;(try dsimp only at h);go_simp;(try with_reducible rfl);done)|exact zgS ⟨rfl,rfl⟩)(hr:jZ P md ops S l (b.setIfInBounds i true) (a.put oi.dst v) b' a':=by(try simp only[AP]);first|exact tkz|exact tkt rfl)(h3:Region.free md ops b i=true:=by kernel_rfl)(h4:(Region.ready md ops b).contains i=true:=by kernel_rfl):jZ P md ops S (i::l) b a b' a':=⟨oi,v,h1,h3,h4,hy,hr⟩
theorem jZ.take{ops:Array Oper}{Q:Exit->Act->World->Prop}{md:Region.Mode}{S Fc:World->Prop}{w:World}(hs:Region.noSelect ops=true)(hQ:∀c a (d:Nat) v w,Q (.panic c) (Act.put a (some d) v) w->Q (.panic c) a w)(hS:S w)(hi:∀x,S x->Fc x){b':Array Bool}{a':Act}{f:Nat}(h:wpAnyH P md ops Q S f b' a' w):∀(l:List Nat) (b:Array Bool) (a:Act),jZ P md ops Fc l b a b' a'->wpAnyH P md ops Q S (f+l.length) b a w
 | [],_,_,⟨e1,e2⟩=>by subst e1 e2;exact h
 |_::l,_,_,⟨oi,v,h1,h3,h4,h5,h6⟩=>wpAnyH_take h1 hs h3 h4 (λc a w hx=>match oi.dst,hx with|none,hx=>hx|some d,hx=>hQ c a d v w hx) (h5.imp (λh=>⟨h.1,λx hx=>h.2 x (hi x hx)⟩) id) hS (jZ.take hs hQ hS hi h l _ _ h6)
theorem zx{ops:Array Oper}{Q:Exit->Act->World->Prop}{md:Region.Mode}{S Fc:World->Prop}{listed b':Array Bool}{a a':Act}{w:World}{fuel f:Nat}(l:List Nat)(hS:S w)(hi:∀x,S x->Fc x)(h:wpAnyH P md ops Q S f b' a' w)(hk:jZ P md ops Fc l listed a b' a':=by first|exact tkz|exact tkt rfl)(hf:fuel=f+l.length:=by rfl)(hs:Region.noSelect ops=true:=by kernel_rfl)(hQ:∀c a (d:Nat) v w,Q (.panic c) (Act.put a (some d) v) w->Q (.panic c) a w:=by exact λ_ _ _ _ _ h=>h):wpAnyH P md ops Q S fuel listed a w:=by
 subst hf;exact hk.take hs hQ hS hi h l listed a
abbrev aI{a b:Prop}(h:a)(k:b):a/\b:=⟨h,k⟩
theorem tkW{ops:Array Oper}{Q:Exit->Act->World->Prop}{md:Region.Mode}{S:World->Prop}{i:Nat}{v:Value}{oi:Oper}{fuel:Nat}{listed:Array Bool}{a:Act}{w:World}(hi:ops[i]? =some oi)(hy:YieldsIf P ops S oi v a)(hS:S w)(h:wpAnyH P md ops Q S fuel (listed.setIfInBounds i true) (a.put oi.dst v) w)(hs:Region.noSelect ops=true:=by kernel_rfl)(hf:Region.free md ops listed i=true:=by kernel_rfl)(hr:(Region.ready md ops listed).contains i=true:=by kernel_rfl)(hQ:∀c a w,Q (.panic c) (a.put oi.dst v) w->Q (.panic c) a w:=by exact λ_ _ _ h=>h):wpAnyH P md ops Q S (fuel+1) listed a w:=wpAnyH_take hi hs hf hr hQ hy hS h
theorem zp{md:Region.Mode}{ops:Array Oper}{Q:Exit->Act->World->Prop}{S:World->Prop}{fuel:Nat}{listed:Array Bool}{a:Act}{w:World}(i:Nat){o:Oper}
 (h:∀K':Act->World->Prop,Shut (∀a w,S w->(S w->wpAnyH P md ops Q S fuel (listed.setIfInBounds i true) a w)->K' a w)->if Region.wanted o (yielded ops a.tmps)=true then Oper.wp P o a w K' Q else K' (a.put o.dst undef) w) (ho:ops[i]? =some o:=by rfl) (hr:Region.ready md ops listed=[i]:=by kernel_rfl):wpAnyH P md ops Q S (fuel+1) listed a w:=
 wpAnyH_ready hr (List.cons_ne_nil _ _) (AllReadyH.cons ho h AllReadyH.nil)
theorem AQ:(∀(l:List Oper) (i:Nat) (h:i<l.toArray.size),l.toArray[i]=l[i]'(by simpa using h))/\(∀(x:Oper) (l:List Oper) (i:Nat) (h:i+1<(x::l).length),(x::l)[i+1]=l[i]'(by simpa using h))/\(∀(x:Oper) (l:List Oper) (h:0<(x::l).length),(x::l)[0]=x):=
 ⟨λ_ _ _=>rfl,λ_ _ _ _=>rfl,λ_ _ _=>rfl⟩
theorem gen{α:Sort _}(x:α):∃z,z=x:=⟨x,rfl⟩
theorem ze{a b:Prop}(h:a)(k:b):Hid a/\Hid b:=⟨h,k⟩
theorem zC{a b c:Prop}(h:a)(k:b)(l:c):Hid a/\Hid b/\Hid c:=⟨h,k,l⟩
theorem yi{a b c d:Prop}(h:a)(k:b)(l:c)(m:d):Hid a/\Hid b/\Hid c/\Hid d:=⟨h,k,l,m⟩
theorem kY{a b c d e:Prop}(h:a)(k:b)(l:c)(m:d)(n:e):Hid a/\Hid b/\Hid c/\Hid d/\Hid e:=⟨h,k,l,m,n⟩
theorem xz{a b c d e f:Prop}(h:a)(k:b)(l:c)(m:d)(n:e)(o:f):Hid a/\Hid b/\Hid c/\Hid d/\Hid e/\Hid f:=⟨h,k,l,m,n,o⟩
theorem Qq{a b c d e f g:Prop}(h:a)(k:b)(l:c)(m:d)(n:e)(o:f)(p:g):Hid a/\Hid b/\Hid c/\Hid d/\Hid e/\Hid f/\Hid g:=⟨h,k,l,m,n,o,p⟩
theorem vF{a b c d e f g i:Prop}(h:a)(k:b)(l:c)(m:d)(n:e)(o:f)(p:g)(q:i):Hid a/\Hid b/\Hid c/\Hid d/\Hid e/\Hid f/\Hid g/\Hid i:=⟨h,k,l,m,n,o,p,q⟩
theorem dnr{md:Region.Mode}{ops:Array Oper}{Q:Exit->Act->World->Prop}{S:World->Prop}{fuel:Nat}{listed:Array Bool}{a:Act}{w:World}(h:Q .normal a w)(hr:Region.ready md ops listed=[]:=by kernel_rfl):wpAnyH P md ops Q S fuel listed a w:=wpAnyH_done hr h fuel
theorem rgd{ops:Array Oper}{Q:Exit->Act->World->Prop}{S:World->Prop}{id:Nat}{a:Act}{w:World}(hS:S w.drew)(h:S w.drew->wpAnyH P .any ops Q S ops.size (Array.replicate ops.size false) a w.drew)(hm:P.follows .mixedOrders=true:=by kernel_rfl):(Code.region id ops true).wp P Q a w:=wp_region_held_drew hm hS h
theorem gn{md:Region.Mode}{ops:Array Oper}{Q:Exit->Act->World->Prop}{S:World->Prop}{fuel:Nat}{listed:Array Bool}{a:Act}{w:World}(i j:Nat){o p:Oper}
 (h:∀K':Act->World->Prop,Shut (∀a w,S w->(S w->wpAnyH P md ops Q S fuel (listed.setIfInBounds i true) a w)->K' a w)->if Region.wanted o (yielded ops a.tmps)=true then Oper.wp P o a w K' Q else K' (a.put o.dst undef) w) (k:∀K':Act->World->Prop,Shut (∀a w,S w->(S w->wpAnyH P md ops Q S fuel (listed.setIfInBounds j true) a w)->K' a w)->if Region.wanted p (yielded ops a.tmps)=true then Oper.wp P p a w K' Q else K' (a.put p.dst undef) w) (ho:ops[i]? =some o:=by rfl) (hp:ops[j]? =some p:=by rfl) (hr:Region.ready md ops listed=[i,j]:=by kernel_rfl):wpAnyH P md ops Q S (fuel+1) listed a w:=
 wpAnyH_ready hr (List.cons_ne_nil _ _) (AllReadyH.cons ho h (AllReadyH.cons hp k AllReadyH.nil))

/- The law's long: is a script too long to be asked? Its fresh: a heap of 400 words. -/
import Derived.Test.YtpkojcfdkkjmcaaGreatDoorso02Z
import Derived.Test.YtpkojcfdkkjmcaaGreatDoorso09Z
import Derived.Test.YtpkojcfdkkjmcaaGreatDoorso17Z
import Derived.Test.YtpkojcfdkkjmcaaGreatDoorso37Z
namespace Go.Proofs.YtpkojcfdkkjmcaaGreatDoor
set_option maxRecDepth 100000
open Go.RowKit
def hs0:Hst:=⟨[],[],[],[],0⟩
theorem sndN_nil (N:Nat):SndN [] N:=⟨⟨fun _=>false,⟨fun k hk=>absurd hk (Nat.not_lt_zero _),fun x hx=>(by cases hx),fun k hk=>absurd hk (Nat.not_lt_zero _),fun k hk=>absurd hk (Nat.not_lt_zero _),fun k hk=>absurd hk (Nat.not_lt_zero _),fun k hk=>absurd hk (Nat.not_lt_zero _),fun k hk=>absurd hk (Nat.not_lt_zero _)⟩⟩,⟨fun k hk=>absurd hk (Nat.not_lt_zero _),fun k hk=>absurd hk (Nat.not_lt_zero _)⟩⟩
theorem sj0:Sj hs0 0:=⟨⟨sndN_nil _,fun e he=>(by cases he),fun p hp=>(by cases hp),fun p hp=>(by cases hp),fun p hp=>(by cases hp),List.Pairwise.nil⟩,Int.le_refl _,Int.le_refl _,Nat.le_refl _,Nat.le_refl _⟩
end Go.Proofs.YtpkojcfdkkjmcaaGreatDoor
namespace Go.Proofs.YtpkojcfdkkjmcaaGreatDoor
set_option maxRecDepth 100000
open Go.RowKit
section
variable {ns:List Nd}
def Bsr (ns:List Nd) (R Q:Nat->Nat->Prop):Prop:=∀u v,Q u v->R u v∨∃u1 v1,u1<ns.length/\v1<ns.length/\R u u1/\R v v1/\(ndN ns u1).kind≠1/\(ndN ns v1).kind≠1/\labS (ndN ns u1) (ndN ns v1)/\∀k,k<(ndN ns u1).args.length->Q (argN ns u1 k) (argN ns v1 k)
def Rst (ns:List Nd) (R:Nat->Nat->Prop) (u v:Nat):Prop:=∃Q,Bsr ns R Q/\Q u v
theorem Rst.of {R:Nat->Nat->Prop} {u v:Nat} (h:R u v):Rst ns R u v:=⟨R,fun _ _ h=>Or.inl h,h⟩
theorem rst_bs (ns:List Nd) (R:Nat->Nat->Prop):Bsr ns R (Rst ns R):=fun u v ⟨Q,hQ,h⟩=>by
 rcases hQ u v h with h1 | ⟨u1,v1,a1,a2,a3,a4,a5,a6,a7,a8⟩
 ·exact Or.inl h1
 ·exact Or.inr ⟨u1,v1,a1,a2,a3,a4,a5,a6,a7,fun k hk=>⟨Q,hQ,a8 k hk⟩⟩
theorem rst_cg {R:Nat->Nat->Prop} (hR:Cg ns R):Cg ns (Rst ns R):=by
 have hsym:∀u v,Rst ns R u v->Rst ns R v u:=fun u v h=>by
  refine⟨fun x y=>Rst ns R y x,fun x y hxy=>?_,h⟩
  rcases rst_bs ns R y x hxy with h1 | ⟨u1,v1,a1,a2,a3,a4,a5,a6,a7,a8⟩
  ·exact Or.inl (hR.symm _ _ h1)
  ·exact Or.inr ⟨v1,u1,a2,a1,a4,a3,a6,a5,a7.symm,fun k hk=>a8 k (by rw[a7.2.2.2];exact hk)⟩
 have hl:∀u v w,R u v->Rst ns R v w->Rst ns R u w:=fun u v w h1 h2=>by
  refine⟨fun x y=>∃z,R x z/\Rst ns R z y,fun x y ⟨z,hx,hz⟩=>?_,v,h1,h2⟩
  rcases rst_bs ns R z y hz with h3 | ⟨u1,v1,a1,a2,a3,a4,a5,a6,a7,a8⟩
  ·exact Or.inl (hR.trans _ _ _ hx h3)
  ·exact Or.inr ⟨u1,v1,a1,a2,hR.trans _ _ _ hx a3,a4,a5,a6,a7,fun k hk=>⟨_,hR.refl _,a8 k hk⟩⟩
 have htr:∀u v w,Rst ns R u v->Rst ns R v w->Rst ns R u w:=fun u v w h1 h2=>by
  refine⟨fun x y=>∃z,Rst ns R x z/\Rst ns R z y,fun x y ⟨z,hx,hz⟩=>?_,v,h1,h2⟩
  rcases rst_bs ns R x z hx with h3 | ⟨u1,v1,a1,a2,a3,a4,a5,a6,a7,a8⟩
  ·rcases rst_bs ns R z y hz with h4 | ⟨u2,v2,b1,b2,b3,b4,b5,b6,b7,b8⟩
   ·exact Or.inl (hR.trans _ _ _ h3 h4)
   ·exact Or.inr ⟨u2,v2,b1,b2,hR.trans _ _ _ h3 b3,b4,b5,b6,b7,fun k hk=>⟨_,Rst.of (hR.refl _),b8 k hk⟩⟩
  ·rcases rst_bs ns R z y hz with h4 | ⟨u2,v2,b1,b2,b3,b4,b5,b6,b7,b8⟩
   ·exact Or.inr ⟨u1,v1,a1,a2,a3,hR.trans _ _ _ (hR.symm _ _ h4) a4,a5,a6,a7,fun k hk=>⟨_,a8 k hk,Rst.of (hR.refl _)⟩⟩
   ·have hvu:R v1 u2:=hR.trans _ _ _ (hR.symm _ _ a4) b3
    obtain⟨c1,c2⟩:=hR.lab v1 u2 a2 b1 hvu a6 b5
    exact Or.inr ⟨u1,v2,a1,b2,a3,b4,a5,b6,(a7.trans c1).trans b7,fun k hk=>⟨argN ns v1 k,a8 k hk,hl _ _ _ (c2 k (by rw[←a7.2.2.2];exact hk)) (b8 k (by rw[←c1.2.2.2,←a7.2.2.2];exact hk))⟩⟩
 refine⟨⟨fun x=>Rst.of (hR.refl x),hsym,htr⟩,fun x y hx hy h hkx hky=>?_⟩
 rcases rst_bs ns R x y h with h1 | ⟨u1,v1,a1,a2,a3,a4,a5,a6,a7,a8⟩
 ·obtain⟨c1,c2⟩:=hR.lab x y hx hy h1 hkx hky
  exact⟨c1,fun k hk=>Rst.of (c2 k hk)⟩
 ·obtain⟨c1,c2⟩:=hR.lab x u1 hx a1 a3 hkx a5
  obtain⟨d1,d2⟩:=hR.lab y v1 hy a2 a4 hky a6
  refine⟨(c1.trans a7).trans d1.symm,fun k hk=>?_⟩
  have hk1:k<(ndN ns u1).args.length:=by rw[←c1.2.2.2];exact hk
  have hk2:k<(ndN ns y).args.length:=by rw[d1.2.2.2,←a7.2.2.2];exact hk1
  exact hl _ _ _ (c2 k hk) (htr _ _ _ (a8 k hk1) (Rst.of (hR.symm _ _ (d2 k hk2))))
end
structure Hm (ns:List Nd) (E:Nat->Nat) (A:Gf) (r:Nat->Nat):Prop where
 rng:∀x,x<ns.length->r x<A.nodes.length
 ker:∀x y,x<ns.length->y<ns.length->E x=E y->r x=r y
 lab:∀x,x<ns.length->labS (ndN ns (E x)) (ndN A.nodes (r x))
 arg:∀x,x<ns.length->∀k,k<(ndN ns (E x)).args.length->argN A.nodes (r x) k=r (argN ns (E x) k)
 var:∀x y,x<ns.length->y<ns.length->(ndN ns (E x)).kind=1->r x=r y->E x=E y
theorem Hm.rst {ns:List Nd} (hA:GoodA ns) {P:List (Nat×Nat)} {E:Nat->Nat} (hU:Un ns P E []) {A:Gf} {r:Nat->Nat} (h:Hm ns E A r) {R:Nat->Nat->Prop} (hR:Cg ns R) (hP:∀p∈P,R p.1 p.2) {x y:Nat} (hx:x<ns.length) (hy:y<ns.length) (e:r x=r y):Rst ns R x y:=by
 have hE:=hU.done.2.2 R hR hP
 refine⟨fun u v=>u<ns.length/\v<ns.length/\r u=r v,fun u v ⟨hu,hv,e⟩=>?_,hx,hy,e⟩
 have lu:=h.lab u hu
 have lv:=h.lab v hv
 by_cases hk:(ndN ns (E u)).kind=1
 ·exact Or.inl (hE u v (h.var u v hu hv hk e))
 ·have hl:labS (ndN ns (E u)) (ndN ns (E v)):=lu.trans (by rw[e];exact lv.symm)
  have hEu:=hU.rng u hu
  have hEv:=hU.rng v hv
  refine Or.inr ⟨E u,E v,hEu,hEv,hE u (E u) (hU.idem u).symm,hE v (E v) (hU.idem v).symm,hk,by rw[←hl.1];exact hk,hl,fun k hk=>?_⟩
  have hkv:k<(ndN ns (E v)).args.length:=by rw[←hl.2.2.2];exact hk
  refine⟨(hA.arg _ hEu k hk).2,(hA.arg _ hEv k hkv).2,?_⟩
  rw[←h.arg u hu k hk,←h.arg v hv k hkv,e]
def upR (ns:List Nd) (R:Nat->Nat->Prop) (r:Nat->Nat) (y z:Nat):Prop:=y=z∨∃x x',x<ns.length/\x'<ns.length/\y=r x/\z=r x'/\Rst ns R x x'
theorem Hm.up {ns:List Nd} (hA:GoodA ns) {P:List (Nat×Nat)} {E:Nat->Nat} (hU:Un ns P E []) {A:Gf} {r:Nat->Nat} (h:Hm ns E A r) {R:Nat->Nat->Prop} (hR:Cg ns R) (hP:∀p∈P,R p.1 p.2):Cg A.nodes (upR ns R r):=by
 have hS:=rst_cg hR
 have hE:=hU.done.2.2 R hR hP
 refine⟨⟨fun x=>Or.inl rfl,fun y z hyz=>?_,fun y z w hyz hzw=>?_⟩,fun y z hy hz hyz hky hkz=>?_⟩
 ·rcases hyz with e | ⟨x,x',a1,a2,a3,a4,a5⟩
  ·exact Or.inl e.symm
  ·exact Or.inr ⟨x',x,a2,a1,a4,a3,hS.symm _ _ a5⟩
 ·rcases hyz with e | ⟨x,x',a1,a2,a3,a4,a5⟩
  ·rw[e];exact hzw
  ·rcases hzw with e | ⟨u,u',b1,b2,b3,b4,b5⟩
   ·exact Or.inr ⟨x,x',a1,a2,a3,e ▸ a4,a5⟩
   ·exact Or.inr ⟨x,u',a1,b2,a3,b4,hS.trans _ _ _ a5 (hS.trans _ _ _ (h.rst hA hU hR hP a2 b1 (a4.symm.trans b3)) b5)⟩
 ·rcases hyz with e | ⟨x,x',a1,a2,a3,a4,a5⟩
  ·subst e
   exact⟨labS.refl _,fun k _=>Or.inl rfl⟩
  ·have lx:=h.lab x a1
   have lx':=h.lab x' a2
   rw[a3] at hky
   rw[a4] at hkz
   have k1:(ndN ns (E x)).kind≠1:=by rw[lx.1];exact hky
   have k2:(ndN ns (E x')).kind≠1:=by rw[lx'.1];exact hkz
   have hEE:Rst ns R (E x) (E x'):=hS.trans _ _ _ (Rst.of (hE (E x) x (hU.idem x))) (hS.trans _ _ _ a5 (Rst.of (hE x' (E x') (hU.idem x').symm)))
   obtain⟨c1,c2⟩:=hS.lab (E x) (E x') (hU.rng x a1) (hU.rng x' a2) hEE k1 k2
   rw[a3,a4]
   refine⟨(lx.symm.trans c1).trans lx',fun k hk=>?_⟩
   have hk1:k<(ndN ns (E x)).args.length:=by rw[lx.2.2.2];exact hk
   have hk2:k<(ndN ns (E x')).args.length:=by rw[←c1.2.2.2];exact hk1
   rw[h.arg x a1 k hk1,h.arg x' a2 k hk2]
   exact Or.inr ⟨_,_,(hA.arg _ (hU.rng x a1) k hk1).2,(hA.arg _ (hU.rng x' a2) k hk2).2,rfl,rfl,c2 k hk1⟩
def dnR (ns:List Nd) (R:Nat->Nat->Prop) (r:Nat->Nat) (x y:Nat):Prop:=x=y∨(x<ns.length/\y<ns.length/\R (r x) (r y))
theorem Hm.dn {ns:List Nd} (hA:GoodA ns) {P:List (Nat×Nat)} {E:Nat->Nat} (hU:Un ns P E []) {A:Gf} {r:Nat->Nat} (h:Hm ns E A r) {R:Nat->Nat->Prop} (hR:Cg A.nodes R) (hPn:∀p∈P,p.1<ns.length/\p.2<ns.length):Cg ns (dnR ns R r)/\∀p∈P,dnR ns R r p.1 p.2:=by
 obtain⟨hC,hP,_⟩:=hU.done
 refine⟨⟨⟨fun x=>Or.inl rfl,fun x y hxy=>?_,fun x y z hxy hyz=>?_⟩,fun x y hx hy hxy hkx hky=>?_⟩,fun p hp=>Or.inr ⟨(hPn p hp).1,(hPn p hp).2,by rw[h.ker _ _ (hPn p hp).1 (hPn p hp).2 (hP p hp)];exact hR.refl _⟩⟩
 ·rcases hxy with e | ⟨a,b,c⟩
  ·exact Or.inl e.symm
  ·exact Or.inr ⟨b,a,hR.symm _ _ c⟩
 ·rcases hxy with e | ⟨a,b,c⟩
  ·rw[e];exact hyz
  ·rcases hyz with e | ⟨a',b',c'⟩
   ·exact Or.inr (e ▸ ⟨a,b,c⟩)
   ·exact Or.inr ⟨a,b',hR.trans _ _ _ c c'⟩
 ·have hr:R (r x) (r y):=by
   rcases hxy with e | ⟨_,_,c⟩
   ·rw[e];exact hR.refl _
   ·exact c
  obtain⟨ex,lx,_⟩:=hU.rep x hx hkx
  obtain⟨ey,ly,_⟩:=hU.rep y hy hky
  have mx:=h.lab x hx
  have my:=h.lab y hy
  obtain⟨c1,c2⟩:=hR.lab (r x) (r y) (h.rng x hx) (h.rng y hy) hr (by rw[←mx.1];exact ex) (by rw[←my.1];exact ey)
  refine⟨(lx.trans mx).trans (c1.trans (my.symm.trans ly.symm)),fun k hk=>?_⟩
  have hkE:k<(ndN ns (E x)).args.length:=by rw[←lx.2.2.2];exact hk
  have hkr:k<(ndN A.nodes (r x)).args.length:=by rw[←mx.2.2.2];exact hkE
  have hkEy:k<(ndN ns (E y)).args.length:=by rw[my.2.2.2,←c1.2.2.2];exact hkr
  have hky':k<(ndN ns y).args.length:=by rw[ly.2.2.2];exact hkEy
  have ax:=(hA.arg x hx k hk).2
  have ay:=(hA.arg y hy k hky').2
  have bx:=(hA.arg _ (hU.rng x hx) k hkE).2
  have by':=(hA.arg _ (hU.rng y hy) k hkEy).2
  have e1:r (argN ns x k)=r (argN ns (E x) k):=h.ker _ _ ax bx ((hC.lab x (E x) hx (hU.rng x hx) (hU.idem x).symm hkx ex).2 k hk)
  have e2:r (argN ns y k)=r (argN ns (E y) k):=h.ker _ _ ay by' ((hC.lab y (E y) hy (hU.rng y hy) (hU.idem y).symm hky ey).2 k hky')
  refine Or.inr ⟨ax,ay,?_⟩
  rw[e1,e2,←h.arg x hx k hkE,←h.arg y hy k hkEy]
  exact c2 k hkr
theorem Hm.nosol {ns:List Nd} (hA:GoodA ns) {P:List (Nat×Nat)} {E:Nat->Nat} (hU:Un ns P E []) {A:Gf} {r:Nat->Nat} (h:Hm ns E A r) (hPn:∀p∈P,p.1<ns.length/\p.2<ns.length) {a b:Nat} (ha:a<ns.length) (hb:b<ns.length):NoSol A.nodes [(r a,r b)]↔NoSol ns (P++[(a,b)]):=by
 constructor
 ·intro hn R hR hp
  refine hn _ (h.up hA hU hR (fun p hq=>hp p (by simp[hq]))) (fun p hq=>?_)
  have e:p=(r a,r b):=by simpa using hq
  subst e
  exact Or.inr ⟨a,b,ha,hb,rfl,rfl,Rst.of (hp (a,b) (by simp))⟩
 ·intro hn R hR hp
  obtain⟨h1,h2⟩:=h.dn hA hU hR hPn
  refine hn _ h1 (fun p hq=>?_)
  rcases List.mem_append.1 hq with e | e
  ·exact h2 p e
  ·have e1:p=(a,b):=by simpa using e
   subst e1
   exact Or.inr ⟨ha,hb,hp (r a,r b) (by simp)⟩
end Go.Proofs.YtpkojcfdkkjmcaaGreatDoor
namespace Go.Proofs.YtpkojcfdkkjmcaaGreatDoor
set_option maxRecDepth 100000
open Go.RowKit
theorem Un.other {ns:List Nd} {P Q:List (Nat×Nat)} {E:Nat->Nat} (h:Un ns P E []) (hPQ:∀R,Cg ns R->((∀p∈P,R p.1 p.2)↔∀p∈Q,R p.1 p.2)):Un ns Q E []:=by
 obtain⟨h1,h2,h3⟩:=h.done
 exact⟨h.rng,h.idem,fun R hR hq=>h.min R hR ((hPQ R hR).2 hq),h.tr,h.rep,fun p hp R hR hk _=>hk _ _ ((hPQ _ h1).1 h2 p hp)⟩
theorem gE_nd {ns:List Nd} {rs:List Int} {E:Nat->Nat} {x:Nat} (hx:x<ns.length):(gE ns rs E).nd (x:Int)=renum (EI E) (ndN ns x):=by
 simp[gE,Gf.nd,ndN,List.getD,hx]
theorem nd_N (A:Gf) (z:Nat):A.nd (z:Int)=ndN A.nodes z:=by simp[Gf.nd,ndN]
theorem leastS_uniq {g:Gf} (hg:Good g) {ps qs:List (Int×Int)} {t u:Gf} (hPQ:∀R,Cg g.nodes R->((∀p∈ps.map natP,R p.1 p.2)↔∀p∈qs.map natP,R p.1 p.2)) (ht:LeastS g ps t) (hu:LeastS g qs u):t=u:=by
 obtain⟨E,e1,hU,hd,rfl⟩:=ht
 obtain⟨F,e2,hV0,hk,rfl⟩:=hu
 have hV:=hV0.other (fun R hR=>(hPQ R hR).symm)
 have hA:=goodA_of hg
 obtain⟨hC,hp,hm⟩:=hU.done
 obtain⟨hC',hp',hm'⟩:=hV.done
 have hEF:∀x y,E x=E y->F x=F y:=fun x y e=>hm _ hC' hp' x y e
 have hFE:∀x y,F x=F y->E x=E y:=fun x y e=>hm' _ hC hp x y e
 have hgE:=gE_good hg hU.rng
 have hgF:=gE_good hg hV.rng
 have hlE:(gE g.nodes g.roots E).nodes.length=g.nodes.length:=by simp[gE]
 have hlF:(gE g.nodes g.roots F).nodes.length=g.nodes.length:=by simp[gE]
 have hkind:∀x,x<g.nodes.length->labS (ndN g.nodes (E x)) (ndN g.nodes (F x))/\((ndN g.nodes (E x)).kind≠1->∀k,k<(ndN g.nodes (E x)).args.length->E (argN g.nodes (E x) k)=E (argN g.nodes (F x) k)):=fun x hx=>by
  have hEx:=hU.rng x hx
  have hFx:=hV.rng x hx
  have hEF':E (E x)=E (F x):=hFE _ _ (by rw[hV.idem];exact hEF _ _ (hU.idem x))
  by_cases h1:(ndN g.nodes (E x)).kind=1
  ·by_cases h2:(ndN g.nodes (F x)).kind=1
   ·refine⟨?_,fun h=>absurd h1 h⟩
    have a1:=hg.node (ndN g.nodes (E x)) (by simp[ndN,List.getD,hEx])
    have a2:=hg.node (ndN g.nodes (F x)) (by simp[ndN,List.getD,hFx])
    unfold goodNd at a1 a2
    rw[if_pos h1] at a1
    rw[if_pos h2] at a2
    simp only[Bool.and_eq_true,decide_eq_true_eq] at a1 a2
    exact⟨h1.trans h2.symm,str_eq (a1.1.1.trans a2.1.1.symm),a1.1.2.trans a2.1.2.symm,a1.2.trans a2.2.symm⟩
   ·obtain⟨b1,_⟩:=hU.rep (F x) hFx h2
    rw[←hEF',hU.idem] at b1
    exact absurd h1 b1
  ·by_cases h2:(ndN g.nodes (F x)).kind=1
   ·obtain⟨b1,_⟩:=hV.rep (E x) hEx h1
    have:F (E x)=F x:=hEF _ _ (hU.idem x)
    rw[this] at b1
    exact absurd h2 b1
   ·obtain⟨c1,c2⟩:=hC.lab (E x) (F x) hEx hFx hEF' h1 h2
    exact⟨c1,fun _ k hk=>c2 k hk⟩
 refine Pr.least hgE hgF hd hk (R:=fun u v=>∃x,x<g.nodes.length/\u=((E x:Nat):Int)/\v=((F x:Nat):Int)) ⟨?_,?_,?_,?_,?_,by simp[gE],?_⟩
 ·rintro u v ⟨x,hx,rfl,rfl⟩
  have:=hU.rng x hx
  have:=hV.rng x hx
  exact⟨⟨by omega,by rw[hlE];omega⟩,by omega,by rw[hlF];omega⟩
 ·rintro u v ⟨x,hx,rfl,rfl⟩
  rw[gE_nd (hU.rng x hx),gE_nd (hV.rng x hx)]
  obtain⟨l1,l2,l3,l4⟩:=(hkind x hx).1
  exact⟨l1,l2,l3,by simpa[renum] using l4⟩
 ·rintro u v ⟨x,hx,rfl,rfl⟩ k hk
  have hEx:=hU.rng x hx
  have hFx:=hV.rng x hx
  rw[gE_nd hEx] at hk
  have hk1:k<(ndN g.nodes (E x)).args.length:=by simpa[renum] using hk
  obtain⟨l,la⟩:=hkind x hx
  have hk2:k<(ndN g.nodes (F x)).args.length:=by rw[←l.2.2.2];exact hk1
  have hnv:(ndN g.nodes (E x)).kind≠1:=fun h=>by rw[hA.var _ h] at hk1;simp at hk1
  refine⟨argN g.nodes (E x) k,(hA.arg _ hEx k hk1).2,?_,?_⟩
  ·unfold Gf.arg
   rw[gE_nd hEx]
   simp[renum,List.getD,hk1,EI,argN]
  ·unfold Gf.arg
   rw[gE_nd hFx]
   have:=hEF _ _ (la hnv k hk1)
   rw[this]
   simp[renum,List.getD,hk2,EI,argN]
 ·rintro u v v' ⟨x,hx,rfl,rfl⟩ ⟨x',hx',e,rfl⟩ _
  have e1:E x=E x':=by omega
  rw[hEF _ _ e1]
 ·rintro u u' v ⟨x,hx,rfl,rfl⟩ ⟨x',hx',rfl,e⟩ _
  have e1:F x=F x':=by omega
  rw[hFE _ _ e1]
 ·intro i hi
  have hi':i<g.roots.length:=by simpa[gE] using hi
  have hr:=hg.root (g.roots.getD i 0) (getD_mem hi')
  refine⟨(g.roots.getD i 0).toNat,by omega,?_,?_⟩
  ·simp[gE,List.getD,hi',EI]
  ·simp[gE,List.getD,hi',EI]
end Go.Proofs.YtpkojcfdkkjmcaaGreatDoor

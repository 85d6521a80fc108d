/- The reference of layer 4: Check. -/
import Derived.Deep.RegionHeld3
import Derived.Deep.LoopGhost
import Derived.Deep.QuietTactic
import Derived.BigQuiet
import Derived.Test.YtpkojcfdkkjmcaaGreatDoorRows
import Derived.ProofKit
import Derived.SizedLaws
import Derived.OpenShut
import Derived.ShutString
import Derived.Deep.Strs
import Derived.Test.YtpkojcfdkkjmcaaGreatDoorso02Z
import Derived.Test.YtpkojcfdkkjmcaaGreatDoorso01Z
namespace Go.Proofs.YtpkojcfdkkjmcaaGreatDoor
set_option maxRecDepth 100000
open Go.RowKit
theorem box_set0 {w:World} {q:Nat} {u0 u1 u2 u3 v0 v1 v2 v3:Value} {T:TypeId} (h:w.heap[q]?=some (.cells #[u0,u1,u2,u3] T)) :
  ((((w.setCell ⟨q,0,none⟩ v0).setCell ⟨q,1,none⟩ v1).setCell ⟨q,2,none⟩ v2).setCell ⟨q,3,none⟩ v3).heap[q]?=some (.cells #[v0,v1,v2,v3] T):=by
 have h0:=heap_setCell_same w q 0 _ _ v0 h
 have h1:=heap_setCell_same _ q 1 _ _ v1 h0
 have h2:=heap_setCell_same _ q 2 _ _ v2 h1
 exact heap_setCell_same _ q 3 _ _ v3 h2
theorem set4_below {W w:World} {q:Nat} {v0 v1 v2 v3:Value} (h:Below W.heap.size W w) (hq:W.heap.size<=q) :
  Below W.heap.size W ((((w.setCell ⟨q,0,none⟩ v0).setCell ⟨q,1,none⟩ v1).setCell ⟨q,2,none⟩ v2).setCell ⟨q,3,none⟩ v3):=
 (((h.setCell hq _).setCell hq _).setCell hq _).setCell hq _
end Go.Proofs.YtpkojcfdkkjmcaaGreatDoor
namespace Go.Proofs.YtpkojcfdkkjmcaaGreatDoor
set_option maxRecDepth 100000
open Go.RowKit
def isN (g:Gf) (x:Int):Prop:=0<=x/\x<(g.nodes.length:Int)
def Gf.nd (g:Gf) (x:Int):Nd:=g.nodes.getD x.toNat nd0
def labE (g:Gf) (x y:Int):Prop:=(g.nd x).kind=(g.nd y).kind/\(g.nd x).name=(g.nd y).name/\(g.nd x).num=(g.nd y).num/\(g.nd x).args.length=(g.nd y).args.length/\((g.nd x).kind=1->x=y)
def Gf.arg (g:Gf) (x:Int) (k:Nat):Int:=(g.nd x).args.getD k 0
theorem labE_refl (g:Gf) (x:Int):labE g x x:=⟨rfl,rfl,rfl,rfl,fun _=>rfl⟩
theorem labE_symm {g:Gf} {x y:Int} (h:labE g x y):labE g y x:=⟨h.1.symm,h.2.1.symm,h.2.2.1.symm,h.2.2.2.1.symm,fun e=>(h.2.2.2.2 (h.1.trans e)).symm⟩
theorem labE_trans {g:Gf} {x y z:Int} (h:labE g x y) (k:labE g y z):labE g x z:=⟨h.1.trans k.1,h.2.1.trans k.2.1,h.2.2.1.trans k.2.2.1,h.2.2.2.1.trans k.2.2.2.1,fun e=>(h.2.2.2.2 e).trans (k.2.2.2.2 (h.1.symm.trans e))⟩
def Sim (g:Gf) (R:Int->Int->Prop):Prop:=∀x y,R x y->isN g x/\isN g y/\labE g x y/\∀k,k<(g.nd x).args.length->R (g.arg x k) (g.arg y k)
def Al (g:Gf) (x y:Int):Prop:=∃R,Sim g R/\R x y
theorem al_sim (g:Gf):Sim g (Al g):=fun x y h=>by
 obtain⟨R,hR,h⟩:=h
 obtain⟨h1,h2,h3,h4⟩:=hR x y h
 exact⟨h1,h2,h3,fun k hk=>⟨R,hR,h4 k hk⟩⟩
theorem arg_isN {g:Gf} (hg:Good g) {x:Int} (h:isN g x) {k:Nat} (hk:k<(g.nd x).args.length):isN g (g.arg x k):=by
 have h1:=(hg.args h.1 h.2).1
 exact h1 _ (getD_mem hk)
theorem al_refl {g:Gf} (hg:Good g) {x:Int} (h:isN g x):Al g x x:=by
 refine⟨fun a b=>a=b/\isN g a,fun a b hab=>?_,rfl,h⟩
 obtain⟨rfl,ha⟩:=hab
 exact⟨ha,ha,labE_refl g a,fun k hk=>⟨rfl,arg_isN hg ha hk⟩⟩
theorem al_symm {g:Gf} {x y:Int} (h:Al g x y):Al g y x:=by
 refine⟨fun a b=>Al g b a,fun a b hab=>?_,h⟩
 obtain⟨h1,h2,h3,h4⟩:=al_sim g b a hab
 exact⟨h2,h1,labE_symm h3,fun k hk=>h4 k (by rw[h3.2.2.2.1];exact hk)⟩
theorem al_trans {g:Gf} {x y z:Int} (h:Al g x y) (k:Al g y z):Al g x z:=by
 refine⟨fun a c=>∃b,Al g a b/\Al g b c,fun a c hac=>?_,y,h,k⟩
 obtain⟨b,hab,hbc⟩:=hac
 obtain⟨h1,h2,h3,h4⟩:=al_sim g a b hab
 obtain⟨_,k2,k3,k4⟩:=al_sim g b c hbc
 exact⟨h1,k2,labE_trans h3 k3,fun i hi=>⟨_,h4 i hi,k4 i (by rw[←h3.2.2.2.1];exact hi)⟩⟩
def Cl (g:Gf) (S:Int->Prop):Prop:=∀x y,Al g x y->(S x↔S y)
structure Rf (g:Gf) (cls:Int->Nat) (C D:Nat) (F:List (Int->Prop)) (S:Int->Prop) (d:Nat):Prop where
 lt:∀x,isN g x->cls x<C
 lab:∀x y,isN g x->isN g y->cls x=cls y->labE g x y
 al:∀x y,Al g x y->cls x=cls y
 old:∀P∈F,∀x y,isN g x->isN g y->cls x=cls y->∀k,k<(g.nd x).args.length->(P (g.arg x k)↔P (g.arg y k))
 now:∀x y,isN g x->isN g y->cls x=cls y->∀k,k<d->k<(g.nd x).args.length->(S (g.arg x k)↔S (g.arg y k))
 cl:Cl g S
 sep:∀x y,isN g x->isN g y->cls x≠cls y->(∃P∈F,¬(P x↔P y))∨¬(S x↔S y)∨D<=cls x∨D<=cls y
theorem Rf.start {g:Gf} {cls:Int->Nat} {C:Nat} (hlt:∀x,isN g x->cls x<C) (hl:∀x y,isN g x->isN g y->(cls x=cls y↔labE g x y)):Rf g cls C 0 [] (fun _=>True) 0:=by
 refine⟨hlt,fun x y hx hy e=>(hl x y hx hy).1 e,fun x y h=>?_,by simp,fun _ _ _ _ _ k hk=>absurd hk (Nat.not_lt_zero _),fun _ _ _=>Iff.rfl,fun _ _ _ _ _=>Or.inr (Or.inr (Or.inl (Nat.zero_le _)))⟩
 obtain⟨h1,h2,h3,_⟩:=al_sim g x y h
 exact (hl x y h1 h2).2 h3
theorem Rf.next {g:Gf} {cls:Int->Nat} {C D:Nat} {F:List (Int->Prop)} {S:Int->Prop} {d:Nat} (h:Rf g cls C D F S d) (hg:∀x,isN g x->(g.nd x).args.length<=d):Rf g cls C (D+1) (F++[S]) (fun x=>cls x=D) 0:=by
 refine⟨h.lt,h.lab,h.al,fun P hP x y hx hy e k hk=>?_,fun _ _ _ _ _ k hk=>absurd hk (Nat.not_lt_zero _),fun x y hal=>by rw[h.al x y hal],fun x y hx hy e=>?_⟩
 ·rcases List.mem_append.1 hP with hP | hP
  ·exact h.old P hP x y hx hy e k hk
  ·have e':P=S:=by simpa using hP
   subst e'
   exact h.now x y hx hy e k (by have:=hg x hx;omega) hk
 ·rcases h.sep x y hx hy e with⟨P,hP,hn⟩ | hn | hd | hd
  ·exact Or.inl ⟨P,by simp[hP],hn⟩
  ·exact Or.inl ⟨S,by simp,hn⟩
  ·by_cases e1:cls x=D
   ·refine Or.inr (Or.inl ?_)
    show ¬(cls x=D↔cls y=D)
    intro hi
    exact e (e1.trans (hi.1 e1).symm)
   ·exact Or.inr (Or.inr (Or.inl (by omega)))
  ·by_cases e1:cls y=D
   ·refine Or.inr (Or.inl ?_)
    show ¬(cls x=D↔cls y=D)
    intro hi
    exact e ((hi.2 e1).trans e1.symm)
   ·exact Or.inr (Or.inr (Or.inr (by omega)))
theorem Rf.split {g:Gf} {cls cls':Int->Nat} {C C' D:Nat} {F:List (Int->Prop)} {S:Int->Prop} {d:Nat} (h:Rf g cls C D F S d) (hC:D<=C) (hlt:∀x,isN g x->cls' x<C')
  (hnew:∀x,isN g x->cls' x=cls x∨C<=cls' x) (hfine:∀x y,isN g x->isN g y->cls' x=cls' y->cls x=cls y)
  (hsame:∀x y,isN g x->isN g y->cls x=cls y->(cls' x=cls' y↔((d<(g.nd x).args.length/\S (g.arg x d))↔(d<(g.nd y).args.length/\S (g.arg y d))))):Rf g cls' C' D F S (d+1):=by
 refine⟨hlt,fun x y hx hy e=>h.lab x y hx hy (hfine x y hx hy e),fun x y hal=>?_,fun P hP x y hx hy e=>h.old P hP x y hx hy (hfine x y hx hy e),fun x y hx hy e k hk hkl=>?_,h.cl,fun x y hx hy e=>?_⟩
 ·obtain⟨hx,hy,hl,ha⟩:=al_sim g x y hal
  refine (hsame x y hx hy (h.al x y hal)).2 ?_
  constructor
  ·rintro⟨h1,h2⟩
   exact⟨by rw[←hl.2.2.2.1];exact h1,(h.cl _ _ (ha d h1)).1 h2⟩
  ·rintro⟨h1,h2⟩
   have h1':d<(g.nd x).args.length:=by rw[hl.2.2.2.1];exact h1
   exact⟨h1',(h.cl _ _ (ha d h1')).2 h2⟩
 ·have e0:=hfine x y hx hy e
  rcases Nat.lt_or_eq_of_le (Nat.le_of_lt_succ hk) with hk' | hk'
  ·exact h.now x y hx hy e0 k hk' hkl
  ·subst hk'
   have hl:=h.lab x y hx hy e0
   have hy':k<(g.nd y).args.length:=by rw[←hl.2.2.2.1];exact hkl
   have:=(hsame x y hx hy e0).1 e
   exact⟨fun h2=>(this.1 ⟨hkl,h2⟩).2,fun h2=>(this.2 ⟨hy',h2⟩).2⟩
 ·by_cases e0:cls x=cls y
  ·rcases hnew x hx with h1 | h1
   ·rcases hnew y hy with h2 | h2
    ·exact absurd (by rw[h1,h2,e0]) e
    ·exact Or.inr (Or.inr (Or.inr (by omega)))
   ·exact Or.inr (Or.inr (Or.inl (by omega)))
  ·rcases h.sep x y hx hy e0 with hs | hs | hs | hs
   ·exact Or.inl hs
   ·exact Or.inr (Or.inl hs)
   ·rcases hnew x hx with h1 | h1
    ·exact Or.inr (Or.inr (Or.inl (by omega)))
    ·exact Or.inr (Or.inr (Or.inl (by omega)))
   ·rcases hnew y hy with h1 | h1
    ·exact Or.inr (Or.inr (Or.inr (by omega)))
    ·exact Or.inr (Or.inr (Or.inr (by omega)))
theorem Rf.last {g:Gf} (hg:Good g) {cls:Int->Nat} {C D:Nat} {F:List (Int->Prop)} {S:Int->Prop} {d:Nat} (h:Rf g cls C D F S d) (hD:C<=D) (hd:∀x,isN g x->(g.nd x).args.length<=d):∀x y,isN g x->isN g y->(cls x=cls y↔Al g x y):=by
 intro x y hx hy
 refine⟨fun e=>⟨fun a b=>isN g a/\isN g b/\cls a=cls b,fun a b hab=>?_,hx,hy,e⟩,h.al x y⟩
 obtain⟨ha,hb,e⟩:=hab
 have hl:=h.lab a b ha hb e
 refine⟨ha,hb,hl,fun k hk=>?_⟩
 have hk':k<(g.nd b).args.length:=by rw[←hl.2.2.2.1];exact hk
 have na:=arg_isN hg ha hk
 have nb:=arg_isN hg hb hk'
 refine⟨na,nb,Classical.byContradiction fun hne=>?_⟩
 rcases h.sep _ _ na nb hne with⟨P,hP,hn⟩ | hn | hn | hn
 ·exact hn (h.old P hP a b ha hb e k hk)
 ·exact hn (h.now a b ha hb e k (by have:=hd a ha;omega) hk)
 ·have:=h.lt _ na
  omega
 ·have:=h.lt _ nb
  omega
end Go.Proofs.YtpkojcfdkkjmcaaGreatDoor
namespace Go.Proofs.YtpkojcfdkkjmcaaGreatDoor
set_option maxRecDepth 100000
open Go.ChangeShapes Go.WideShapes Go.ChangeAt Go.RowKit Go.Deep
theorem own:ownKnob Tryz.prog.godebug=none:=by kernel_rfl
theorem laidOut:laidOutB Tryz.prog=true:=by kernel_rfl
theorem cellsI:Tryz.prog.cellsOf 3=1:=by kernel_rfl
theorem cellsS:Tryz.prog.cellsOf 9=1:=by kernel_rfl
theorem cellsIs:Tryz.prog.cellsOf 36=1:=by kernel_rfl
theorem cellsNs:Tryz.prog.cellsOf 35=1:=by kernel_rfl
theorem cellsN:Tryz.prog.cellsOf 86=4:=by kernel_rfl
theorem cellsG:Tryz.prog.cellsOf 38=2:=by kernel_rfl
theorem ints_of_cells {H:Type} {enc:TypeId×Value->H} {W:World} {fuel:Nat} {u:Value} {x:DataW H×List MemPlace} (h:DataW.trod enc Tryz.prog W 0 (fun _=>true) true fuel 36 [u]=some x) :
  ∃l:List Int,Ri W u l/\l.length<=9223372036854775807:=by
 rcases open_ints Tryz.underlying36 Tryz.underlying3 cellsI h with⟨hcs,hx⟩ | ⟨a,len,cap,zs,hcs,_,hl,hm,hz,hx,hcell,hwz⟩
 ·simp at hcs
  subst hcs
  exact⟨[],Ri.nil _,by simp⟩
 ·simp at hcs
  subst hcs
  simp only[if_true] at hz
  have hlen:(zs.take len).length=len:=by simp;omega
  refine⟨zs.take len,⟨some a,cap,by rw[hlen],fun j hj=>?_⟩,by rw[hlen];unfold maxLen at hm;omega⟩
  rw[hlen] at hj
  obtain⟨b,off,spot⟩:=a
  have hspot:spot=none:=by simpa[Addr.add] using World.cell?_spot (hcell 0 (by omega))
  subst hspot
  refine⟨b,off,rfl,?_⟩
  have:=hcell j (by omega)
  rw[add_plain] at this
  rw[this]
  simp[List.getD,hj]
theorem node_of_cells {H:Type} {enc:TypeId×Value->H} {W:World} {fuel:Nat} {cs:List Value} {x:DataW H×List MemPlace} (h:DataW.trod enc Tryz.prog W 0 (fun _=>true) true fuel 86 cs=some x) :
  ∃(n:Nd) (av:Value),cs=[.int .i64 n.kind,.string n.name,.int .i64 n.num,av]/\Ri W av n.args/\n.name.size<=9223372036854775807:=by
 obtain⟨xs,n,_,hx,hl,hlen,hf⟩:=DataW.trod_struct Tryz.underlying86 h
 rw[cellsN] at hl
 match cs,hl with
 | [c0,c1,c2,c3],_=>
  match xs,hlen with
  | [y0,y1,y2,y3],_=>
   have h0:=hf 0 _ rfl
   have h1:=hf 1 _ rfl
   have h2:=hf 2 _ rfl
   have h3:=hf 3 _ rfl
   simp[cellsI] at h0 h2
   simp[cellsS] at h1
   simp[cellsIs] at h3
   obtain⟨a0,e0,_,w0⟩:=DataW.trod_int Tryz.underlying3 h0
   obtain⟨a1,e1,_,w1⟩:=DataW.trod_string Tryz.underlying9 h1
   obtain⟨a2,e2,_,w2⟩:=DataW.trod_int Tryz.underlying3 h2
   obtain⟨l,hr,_⟩:=ints_of_cells h3
   simp at e0 e1 e2
   subst e0 e1 e2
   exact⟨⟨a0,a1,a2,l⟩,c3,rfl,hr,by unfold maxLen at w1;exact w1⟩
theorem nodes_of_cells {H:Type} {enc:TypeId×Value->H} {W:World} {fuel:Nat} {u:Value} {x:DataW H×List MemPlace} (h:DataW.trod enc Tryz.prog W 0 (fun _=>true) true fuel 35 [u]=some x) :
  ∃l:List Nd,Rn W u l/\(∀n∈l,n.name.size<=9223372036854775807)/\l.length<=9223372036854775807:=by
 rcases Go.Deep.open_slice Tryz.underlying35 h with⟨hcs,_⟩ | ⟨ad,len,cap,m,n,D,Pl,hcs,_,hl,hm,hmm,_,hel⟩
 ·simp at hcs
  subst hcs
  exact⟨[],Rn.nil _,by simp,by simp⟩
 ·simp at hcs
  subst hcs
  simp only[if_true] at hmm
  rw[cellsN] at hel
  have each:∀i,∃(n:Nd) (av:Value),i<len->(Ri W av n.args/\n.name.size<=9223372036854775807)/\W.cells? 0 (ad.add (i*4)) 4=some [.int .i64 n.kind,.string n.name,.int .i64 n.num,av]:=fun i=>by
   by_cases hi:i<len
   ·obtain⟨cs',hc,ht⟩:=hel i (by omega)
    obtain⟨n,av,rfl,h1,h2⟩:=node_of_cells ht
    exact⟨n,av,fun _=>⟨⟨h1,h2⟩,hc⟩⟩
   ·exact⟨nd0,.nilIface,fun h=>absurd h hi⟩
  obtain⟨ns,hns⟩:∃ns:Nat->Nd,∀i,∃av:Value,i<len->(Ri W av (ns i).args/\(ns i).name.size<=9223372036854775807)/\W.cells? 0 (ad.add (i*4)) 4=some [.int .i64 (ns i).kind,.string (ns i).name,.int .i64 (ns i).num,av]:=
   ⟨fun i=>Classical.choose (each i),fun i=>Classical.choose_spec (each i)⟩
  refine⟨(List.range len).map ns,⟨some ad,cap,by simp,fun j hj=>?_⟩,fun n hn=>?_,by simp;unfold maxLen at hm;omega⟩
  ·have hj':j<len:=by simpa using hj
   obtain⟨b,off,spot⟩:=ad
   obtain⟨av,hav⟩:=hns j
   obtain⟨⟨h1,h2⟩,h3⟩:=hav hj'
   have hcj:=(World.cells?_some h3).2.2
   have hspot:spot=none:=by
    obtain⟨av0,hav0⟩:=hns 0
    have:=(World.cells?_some (hav0 (by omega)).2).2.2 0 (by omega)
    simp at this
    simpa[Addr.add] using World.cell?_spot this
   subst hspot
   have e:∀i,((⟨b,off,none⟩:Addr).add (j*4)).add i=⟨b,off+j*4+i,none⟩:=fun i=>by rw[add_plain,add_plain]
   have hg:((List.range len).map ns).getD j nd0=ns j:=by simp[List.getD,hj']
   refine⟨b,off,av,rfl,?_⟩
   rw[hg]
   refine⟨?_,?_,?_,?_,h1⟩
   ·have:=hcj 0 (by omega);rw[e] at this;simpa using this
   ·have:=hcj 1 (by omega);rw[e] at this;simpa using this
   ·have:=hcj 2 (by omega);rw[e] at this;simpa using this
   ·have:=hcj 3 (by omega);rw[e] at this;simpa using this
  ·obtain⟨i,hi,rfl⟩:=List.mem_map.1 hn
   obtain⟨av,hav⟩:=hns i
   exact (hav (List.mem_range.1 hi)).1.2
theorem graph_of_cells {H:Type} {enc:TypeId×Value->H} {W:World} {fuel:Nat} {cs:List Value} {x:DataW H×List MemPlace} (h:DataW.trod enc Tryz.prog W 0 (fun _=>true) true fuel 38 cs=some x) :
  ∃(nv rv:Value) (g:Gf),cs=[nv,rv]/\Gr W nv rv g/\Sized g:=by
 obtain⟨xs,n,_,hx,hl,hlen,hf⟩:=DataW.trod_struct Tryz.underlying38 h
 rw[cellsG] at hl
 match cs,hl with
 | [c0,c1],_=>
  match xs,hlen with
  | [y0,y1],_=>
   have h0:=hf 0 _ rfl
   have h1:=hf 1 _ rfl
   simp[cellsNs] at h0
   simp[cellsIs] at h1
   obtain⟨ns,hr,hs,_⟩:=nodes_of_cells h0
   obtain⟨l,hr',_⟩:=ints_of_cells h1
   exact⟨c0,c1,⟨ns,l⟩,rfl,⟨hr,hr'⟩,hs⟩
theorem graph_of {H:Type} {enc:TypeId×Value->H} {W:World} {base:Nat} {u:Value} {d:DataW H} {p:List MemPlace} (hv:Value.okWide Tryz.prog W .any base 38 u) (h:DataW.Trod enc Tryz.prog W 0 (fun _=>true) true 38 u d p) :
  ∃(nv rv:Value) (g:Gf),u=.agg #[nv,rv]/\Gr W nv rv g/\Sized g:=by
 obtain⟨cs,rfl,hsz⟩:=okWide_struct Tryz.underlying38 hv
 obtain⟨fuel,hf⟩:=h
 have hf':DataW.trod enc Tryz.prog W 0 (fun _=>true) true fuel 38 cs.toList=some (d,p):=by simpa[Value.cells] using hf
 obtain⟨nv,rv,g,hc,h1,h2⟩:=graph_of_cells hf'
 refine⟨nv,rv,g,?_,h1,h2⟩
 congr 1
 exact Array.toList_inj.1 (by simpa using hc)
end Go.Proofs.YtpkojcfdkkjmcaaGreatDoor
namespace Go.Proofs.YtpkojcfdkkjmcaaGreatDoor
set_option maxRecDepth 100000
open Go.RowKit
theorem str_eq {a b:ByteArray} (h:a.toList=b.toList):a=b:=by
 rw[ByteArray.toList_eq,ByteArray.toList_eq] at h
 cases a
 cases b
 simp at h
 rw[h]
end Go.Proofs.YtpkojcfdkkjmcaaGreatDoor

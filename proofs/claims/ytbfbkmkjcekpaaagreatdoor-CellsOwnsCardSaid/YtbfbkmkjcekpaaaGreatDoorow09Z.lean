/- What check, Check and Words of package arena do; what the reference's Same says of two rows. -/
import Derived.Deep.RegionHeld3
import Derived.Deep.LoopGhost
import Derived.Deep.QuietTactic
import Derived.BigQuiet
import Derived.Test.YtbfbkmkjcekpaaaGreatDoorow06Z
import Derived.Test.YtbfbkmkjcekpaaaGreatDoorow07Z
import Derived.Test.YtbfbkmkjcekpaaaGreatDoorow00Z
namespace Go.Proofs.YtbfbkmkjcekpaaaGreatDoor
set_option maxRecDepth 100000
open Go.RowKit
theorem Tryz.infoU:(Tryz.prog.info? 57).map (fun i=>(i.zero,i.size,i.bytes))=some (some (.int .u64 0),1,8):=by kernel_rfl
theorem words_one (l:List Int):∀u∈l.map (Value.int .u64),u.oneCell'=true:=ints_oneCell .u64 l
theorem a_own_row {w:World} {B g n:Nat} {l:List Int} (h:w.heap[g]?=some (.cells (l.map (Value.int .u64)).toArray 57 (0,0))) (hB:B<=g) (hn:l.length=n) (hm:n<=maxLen) :
  w.ownsRow B 57 1 (.slice (some ⟨g,0,none⟩) n n) n (l.map (Value.int .u64)):=
 ⟨by simp[hn],Or.inr ⟨g,n,_,rfl,hB,h,Nat.le_refl _,hm,by simp[hn],by rw[List.take_of_length_le (by simp;omega)]⟩⟩
theorem Tryz.sizeU:(Tryz.prog.info? 57).map (·.size)=some 1:=by kernel_rfl
theorem own_at {w:World} {B g n:Nat} {e:TypeId} {xs:List Value} (h:w.ownsRow B e 1 (.slice (some ⟨g,0,none⟩) n n) n xs):Hid (w.heap[g]?=some (.cells xs.toArray e (0,0))):=by
 rcases h.2 with⟨h',_⟩ | ⟨g',cap',cur,h',hb,hg,hnc,hcm,hcs,htake⟩
 ·simp at h'
 ·simp only[Value.slice.injEq,Option.some.injEq,Addr.mk.injEq,and_true,true_and] at h'
  obtain⟨rfl,rfl⟩:=h'
  show _=_
  rw[hg,←htake,List.take_of_length_le (by simp;omega)]
theorem rd_copy {w:World} {ao:Option Addr} {n cap g:Nat} {l:List Int} (h:Rd w (.slice ao n cap) l):0<(l.map (Value.int .u64)).length->(some (⟨g,0,none⟩:Addr)=some ⟨g,0,none⟩)/\∃ad,ao=some ad/\∀j v,(l.map (Value.int .u64))[j]?=some v->w.cell? (ad.add j)=some v:=by
 intro h0
 refine⟨rfl,?_⟩
 rcases h.src with⟨e,rfl⟩ | ⟨a,c,e,hc⟩
 ·simp at h0
 ·simp at e
  exact⟨a,e.1,hc⟩
theorem len_min (l:List Int):(l.map (Value.int .u64)).length=Nat.min l.length l.length:=by show _=min _ _;simp
theorem made_len (l:List Int):0+(l.map (Value.int .u64)).length<=((madeCells (Value.int .u64 0).cells (l.length*1)).toList).length:=by simp[Value.cells,toList_madeCells_one]
set_option maxHeartbeats 1000000 in
theorem words_any {w:World} {B p:Nat} {m:Int} {v:Value} {l:List Int} (h:Ar 138 w B p m v l) :
  Calls Tryz.prog 45 #[.pointer (some ⟨p,0,none⟩)] w fun e w'=>e=.returned (.slice (some ⟨w.heap.size,0,none⟩) l.length l.length)/\
   w'.ownsRow w.heap.size 57 1 (.slice (some ⟨w.heap.size,0,none⟩) l.length l.length) l.length (l.map (Value.int .u64))/\Below w.heap.size w w':=by
 obtain⟨i0,hi,hz0,hz1,hz2⟩:=info_parts Tryz.infoU
 have hrd:=h.rd
 have hp:=h.lt
 have hl:l.length<=65536:=by have:=h.len;have:=h.m2;omega
 obtain⟨ao,cap,rfl,_⟩:=h.val
 have c1:=h.c1
 have HL:Hid (∀(g:Nat) (w1:World),w.heap.size<=g->w1.heap[g]?=some (.cells (splice (madeCells (Value.int .u64 0).cells (l.length*1)).toList 0 (l.map (Value.int .u64))).toArray 57 (0,0))->w1.ownsRow w.heap.size 57 1 (.slice (some ⟨g,0,none⟩) l.length l.length) l.length (l.map (Value.int .u64))):=by
  intro g w1 hg h1
  refine a_own_row ?_ hg rfl (by unfold maxLen;omega)
  rw[h1]
  simp[splice,Value.cells,toList_madeCells_one]
 go_enter Tryz.func45,Tryz.ntmps45
 go_wp2_with (first
  | (refine wpList_copy_splice rfl (.tmp 12) (.tmp 16) 48 48 rfl 57 Tryz.underlying48 Tryz.sizeU (some ⟨w.heap.size,0,none⟩) ao l.length l.length l.length cap rfl rfl w.heap.size 0 ((madeCells (Value.int .u64 0).cells (l.length*1)).toList) 57 hg1.out (l.map (Value.int .u64)) (len_min l) (rd_copy hr1) (made_len l) (words_one l) w.heap.size w hb1 (Nat.le_refl _) ?_;intro w2 hh2 hb2)
  | (at_make;refine wpList_make_full _ rfl _ _ 48 rfl w.heap.size 57 i0 (.int .u64 0) 1 Tryz.underlying48 hi hz0 hz1 .i64 .i64 _ _ l.length rfl rfl rfl rfl (by rw[hz2];omega) (by unfold maxLen;omega) (Nat.le_refl _) ?_;intro w1 hown1 hgrow1;have hb1:Below w.heap.size w w1:=(Below.refl _ _).grown hgrow1 (Nat.le_refl _) (fun _ e=>by cases e);have c1':=(hb1.cell (p:=⟨p,1,none⟩) hp).trans c1;have hr1:=hrd.below hb1;have hg1:=own_at hown1))
 go_ret
 exact⟨rfl,HL.out _ _ (Nat.le_refl _) hh2.out,hb2⟩
end Go.Proofs.YtbfbkmkjcekpaaaGreatDoor
namespace Go.Proofs.YtbfbkmkjcekpaaaGreatDoor
set_option maxRecDepth 100000
open Go.RowKit
theorem box_set0 {w:World} {q:Nat} {u0 u1 u2 u3 v0 v1 v2 v3:Value} {T:TypeId} (h:w.heap[q]?=some (.cells #[u0,u1,u2,u3] T)) :
  ((((w.setCell ⟨q,0,none⟩ v0).setCell ⟨q,1,none⟩ v1).setCell ⟨q,2,none⟩ v2).setCell ⟨q,3,none⟩ v3).heap[q]?=some (.cells #[v0,v1,v2,v3] T):=by
 have h0:=heap_setCell_same w q 0 _ _ v0 h
 have h1:=heap_setCell_same _ q 1 _ _ v1 h0
 have h2:=heap_setCell_same _ q 2 _ _ v2 h1
 exact heap_setCell_same _ q 3 _ _ v3 h2
theorem set4_below {W w:World} {q:Nat} {v0 v1 v2 v3:Value} (h:Below W.heap.size W w) (hq:W.heap.size<=q) :
  Below W.heap.size W ((((w.setCell ⟨q,0,none⟩ v0).setCell ⟨q,1,none⟩ v1).setCell ⟨q,2,none⟩ v2).setCell ⟨q,3,none⟩ v3):=
 (((h.setCell hq _).setCell hq _).setCell hq _).setCell hq _
end Go.Proofs.YtbfbkmkjcekpaaaGreatDoor
namespace Go.Proofs.YtbfbkmkjcekpaaaGreatDoor
set_option maxRecDepth 100000
open Go.RowKit
def isN (g:Gf) (x:Int):Prop:=0<=x/\x<(g.nodes.length:Int)
def Gf.nd (g:Gf) (x:Int):Nd:=g.nodes.getD x.toNat nd0
def labE (g:Gf) (x y:Int):Prop:=(g.nd x).kind=(g.nd y).kind/\(g.nd x).name=(g.nd y).name/\(g.nd x).num=(g.nd y).num/\(g.nd x).args.length=(g.nd y).args.length/\((g.nd x).kind=1->x=y)
def Gf.arg (g:Gf) (x:Int) (k:Nat):Int:=(g.nd x).args.getD k 0
theorem labE_refl (g:Gf) (x:Int):labE g x x:=⟨rfl,rfl,rfl,rfl,fun _=>rfl⟩
theorem labE_symm {g:Gf} {x y:Int} (h:labE g x y):labE g y x:=⟨h.1.symm,h.2.1.symm,h.2.2.1.symm,h.2.2.2.1.symm,fun e=>(h.2.2.2.2 (h.1.trans e)).symm⟩
theorem labE_trans {g:Gf} {x y z:Int} (h:labE g x y) (k:labE g y z):labE g x z:=⟨h.1.trans k.1,h.2.1.trans k.2.1,h.2.2.1.trans k.2.2.1,h.2.2.2.1.trans k.2.2.2.1,fun e=>(h.2.2.2.2 e).trans (k.2.2.2.2 (h.1.symm.trans e))⟩
def Sim (g:Gf) (R:Int->Int->Prop):Prop:=∀x y,R x y->isN g x/\isN g y/\labE g x y/\∀k,k<(g.nd x).args.length->R (g.arg x k) (g.arg y k)
def Al (g:Gf) (x y:Int):Prop:=∃R,Sim g R/\R x y
theorem al_sim (g:Gf):Sim g (Al g):=fun x y h=>by
 obtain⟨R,hR,h⟩:=h
 obtain⟨h1,h2,h3,h4⟩:=hR x y h
 exact⟨h1,h2,h3,fun k hk=>⟨R,hR,h4 k hk⟩⟩
theorem arg_isN {g:Gf} (hg:Good g) {x:Int} (h:isN g x) {k:Nat} (hk:k<(g.nd x).args.length):isN g (g.arg x k):=by
 have h1:=(hg.args h.1 h.2).1
 exact h1 _ (getD_mem hk)
theorem al_refl {g:Gf} (hg:Good g) {x:Int} (h:isN g x):Al g x x:=by
 refine⟨fun a b=>a=b/\isN g a,fun a b hab=>?_,rfl,h⟩
 obtain⟨rfl,ha⟩:=hab
 exact⟨ha,ha,labE_refl g a,fun k hk=>⟨rfl,arg_isN hg ha hk⟩⟩
theorem al_symm {g:Gf} {x y:Int} (h:Al g x y):Al g y x:=by
 refine⟨fun a b=>Al g b a,fun a b hab=>?_,h⟩
 obtain⟨h1,h2,h3,h4⟩:=al_sim g b a hab
 exact⟨h2,h1,labE_symm h3,fun k hk=>h4 k (by rw[h3.2.2.2.1];exact hk)⟩
theorem al_trans {g:Gf} {x y z:Int} (h:Al g x y) (k:Al g y z):Al g x z:=by
 refine⟨fun a c=>∃b,Al g a b/\Al g b c,fun a c hac=>?_,y,h,k⟩
 obtain⟨b,hab,hbc⟩:=hac
 obtain⟨h1,h2,h3,h4⟩:=al_sim g a b hab
 obtain⟨_,k2,k3,k4⟩:=al_sim g b c hbc
 exact⟨h1,k2,labE_trans h3 k3,fun i hi=>⟨_,h4 i hi,k4 i (by rw[←h3.2.2.2.1];exact hi)⟩⟩
def Cl (g:Gf) (S:Int->Prop):Prop:=∀x y,Al g x y->(S x↔S y)
structure Rf (g:Gf) (cls:Int->Nat) (C D:Nat) (F:List (Int->Prop)) (S:Int->Prop) (d:Nat):Prop where
 lt:∀x,isN g x->cls x<C
 lab:∀x y,isN g x->isN g y->cls x=cls y->labE g x y
 al:∀x y,Al g x y->cls x=cls y
 old:∀P∈F,∀x y,isN g x->isN g y->cls x=cls y->∀k,k<(g.nd x).args.length->(P (g.arg x k)↔P (g.arg y k))
 now:∀x y,isN g x->isN g y->cls x=cls y->∀k,k<d->k<(g.nd x).args.length->(S (g.arg x k)↔S (g.arg y k))
 cl:Cl g S
 sep:∀x y,isN g x->isN g y->cls x≠cls y->(∃P∈F,¬(P x↔P y))∨¬(S x↔S y)∨D<=cls x∨D<=cls y
theorem Rf.start {g:Gf} {cls:Int->Nat} {C:Nat} (hlt:∀x,isN g x->cls x<C) (hl:∀x y,isN g x->isN g y->(cls x=cls y↔labE g x y)):Rf g cls C 0 [] (fun _=>True) 0:=by
 refine⟨hlt,fun x y hx hy e=>(hl x y hx hy).1 e,fun x y h=>?_,by simp,fun _ _ _ _ _ k hk=>absurd hk (Nat.not_lt_zero _),fun _ _ _=>Iff.rfl,fun _ _ _ _ _=>Or.inr (Or.inr (Or.inl (Nat.zero_le _)))⟩
 obtain⟨h1,h2,h3,_⟩:=al_sim g x y h
 exact (hl x y h1 h2).2 h3
theorem Rf.next {g:Gf} {cls:Int->Nat} {C D:Nat} {F:List (Int->Prop)} {S:Int->Prop} {d:Nat} (h:Rf g cls C D F S d) (hg:∀x,isN g x->(g.nd x).args.length<=d):Rf g cls C (D+1) (F++[S]) (fun x=>cls x=D) 0:=by
 refine⟨h.lt,h.lab,h.al,fun P hP x y hx hy e k hk=>?_,fun _ _ _ _ _ k hk=>absurd hk (Nat.not_lt_zero _),fun x y hal=>by rw[h.al x y hal],fun x y hx hy e=>?_⟩
 ·rcases List.mem_append.1 hP with hP | hP
  ·exact h.old P hP x y hx hy e k hk
  ·have e':P=S:=by simpa using hP
   subst e'
   exact h.now x y hx hy e k (by have:=hg x hx;omega) hk
 ·rcases h.sep x y hx hy e with⟨P,hP,hn⟩ | hn | hd | hd
  ·exact Or.inl ⟨P,by simp[hP],hn⟩
  ·exact Or.inl ⟨S,by simp,hn⟩
  ·by_cases e1:cls x=D
   ·refine Or.inr (Or.inl ?_)
    show ¬(cls x=D↔cls y=D)
    intro hi
    exact e (e1.trans (hi.1 e1).symm)
   ·exact Or.inr (Or.inr (Or.inl (by omega)))
  ·by_cases e1:cls y=D
   ·refine Or.inr (Or.inl ?_)
    show ¬(cls x=D↔cls y=D)
    intro hi
    exact e ((hi.2 e1).trans e1.symm)
   ·exact Or.inr (Or.inr (Or.inr (by omega)))
theorem Rf.split {g:Gf} {cls cls':Int->Nat} {C C' D:Nat} {F:List (Int->Prop)} {S:Int->Prop} {d:Nat} (h:Rf g cls C D F S d) (hC:D<=C) (hlt:∀x,isN g x->cls' x<C')
  (hnew:∀x,isN g x->cls' x=cls x∨C<=cls' x) (hfine:∀x y,isN g x->isN g y->cls' x=cls' y->cls x=cls y)
  (hsame:∀x y,isN g x->isN g y->cls x=cls y->(cls' x=cls' y↔((d<(g.nd x).args.length/\S (g.arg x d))↔(d<(g.nd y).args.length/\S (g.arg y d))))):Rf g cls' C' D F S (d+1):=by
 refine⟨hlt,fun x y hx hy e=>h.lab x y hx hy (hfine x y hx hy e),fun x y hal=>?_,fun P hP x y hx hy e=>h.old P hP x y hx hy (hfine x y hx hy e),fun x y hx hy e k hk hkl=>?_,h.cl,fun x y hx hy e=>?_⟩
 ·obtain⟨hx,hy,hl,ha⟩:=al_sim g x y hal
  refine (hsame x y hx hy (h.al x y hal)).2 ?_
  constructor
  ·rintro⟨h1,h2⟩
   exact⟨by rw[←hl.2.2.2.1];exact h1,(h.cl _ _ (ha d h1)).1 h2⟩
  ·rintro⟨h1,h2⟩
   have h1':d<(g.nd x).args.length:=by rw[hl.2.2.2.1];exact h1
   exact⟨h1',(h.cl _ _ (ha d h1')).2 h2⟩
 ·have e0:=hfine x y hx hy e
  rcases Nat.lt_or_eq_of_le (Nat.le_of_lt_succ hk) with hk' | hk'
  ·exact h.now x y hx hy e0 k hk' hkl
  ·subst hk'
   have hl:=h.lab x y hx hy e0
   have hy':k<(g.nd y).args.length:=by rw[←hl.2.2.2.1];exact hkl
   have:=(hsame x y hx hy e0).1 e
   exact⟨fun h2=>(this.1 ⟨hkl,h2⟩).2,fun h2=>(this.2 ⟨hy',h2⟩).2⟩
 ·by_cases e0:cls x=cls y
  ·rcases hnew x hx with h1 | h1
   ·rcases hnew y hy with h2 | h2
    ·exact absurd (by rw[h1,h2,e0]) e
    ·exact Or.inr (Or.inr (Or.inr (by omega)))
   ·exact Or.inr (Or.inr (Or.inl (by omega)))
  ·rcases h.sep x y hx hy e0 with hs | hs | hs | hs
   ·exact Or.inl hs
   ·exact Or.inr (Or.inl hs)
   ·rcases hnew x hx with h1 | h1
    ·exact Or.inr (Or.inr (Or.inl (by omega)))
    ·exact Or.inr (Or.inr (Or.inl (by omega)))
   ·rcases hnew y hy with h1 | h1
    ·exact Or.inr (Or.inr (Or.inr (by omega)))
    ·exact Or.inr (Or.inr (Or.inr (by omega)))
theorem Rf.last {g:Gf} (hg:Good g) {cls:Int->Nat} {C D:Nat} {F:List (Int->Prop)} {S:Int->Prop} {d:Nat} (h:Rf g cls C D F S d) (hD:C<=D) (hd:∀x,isN g x->(g.nd x).args.length<=d):∀x y,isN g x->isN g y->(cls x=cls y↔Al g x y):=by
 intro x y hx hy
 refine⟨fun e=>⟨fun a b=>isN g a/\isN g b/\cls a=cls b,fun a b hab=>?_,hx,hy,e⟩,h.al x y⟩
 obtain⟨ha,hb,e⟩:=hab
 have hl:=h.lab a b ha hb e
 refine⟨ha,hb,hl,fun k hk=>?_⟩
 have hk':k<(g.nd b).args.length:=by rw[←hl.2.2.2.1];exact hk
 have na:=arg_isN hg ha hk
 have nb:=arg_isN hg hb hk'
 refine⟨na,nb,Classical.byContradiction fun hne=>?_⟩
 rcases h.sep _ _ na nb hne with⟨P,hP,hn⟩ | hn | hn | hn
 ·exact hn (h.old P hP a b ha hb e k hk)
 ·exact hn (h.now a b ha hb e k (by have:=hd a ha;omega) hk)
 ·have:=h.lt _ na
  omega
 ·have:=h.lt _ nb
  omega
end Go.Proofs.YtbfbkmkjcekpaaaGreatDoor
namespace Go.Proofs.YtbfbkmkjcekpaaaGreatDoor
set_option maxRecDepth 100000
open Go.RowKit
structure Opd where
 kd:Int
 g:Gf
 a:Int
 b:Int
def od0:Opd:=⟨0,gf0,0,0⟩
def OpAt (w:World) (b o:Nat) (nv rv:Value) (x:Opd):Prop:=
 w.cell? ⟨b,o,none⟩=some (.int .i64 x.kd)/\w.cell? ⟨b,o+1,none⟩=some nv/\w.cell? ⟨b,o+2,none⟩=some rv/\w.cell? ⟨b,o+3,none⟩=some (.int .i64 x.a)/\w.cell? ⟨b,o+4,none⟩=some (.int .i64 x.b)/\Gr w nv rv x.g/\Sized x.g
def Rop (w:World) (v:Value) (os:List Opd):Prop:=
 ∃ao c,v=.slice ao os.length c/\∀j,j<os.length->∃b o nv rv,ao=some ⟨b,o,none⟩/\OpAt w b (o+j*5) nv rv (os.getD j od0)
theorem OpAt.below {w w':World} {b o:Nat} {nv rv:Value} {x:Opd} (h:OpAt w b o nv rv x) (hb:Below w.heap.size w w'):OpAt w' b o nv rv x:=by
 obtain⟨h0,h1,h2,h3,h4,h5,h6⟩:=h
 have k:∀{i:Nat} {u:Value},w.cell? ⟨b,i,none⟩=some u->w'.cell? ⟨b,i,none⟩=some u:=fun {i u} h=>(hb.cell (p:=⟨b,i,none⟩) (lt_of_cell h)).trans h
 exact⟨k h0,k h1,k h2,k h3,k h4,h5.below hb,h6⟩
theorem Rop.below {w w':World} {v:Value} {os:List Opd} (h:Rop w v os) (hb:Below w.heap.size w w'):Rop w' v os:=by
 obtain⟨ao,c,e,h⟩:=h
 refine⟨ao,c,e,fun j hj=>?_⟩
 obtain⟨b,o,nv,rv,e,h⟩:=h j hj
 exact⟨b,o,nv,rv,e,h.below hb⟩
abbrev opV (kd:Int) (nv rv:Value) (a b:Int):Value:=.agg #[.int .i64 kd,nv,rv,.int .i64 a,.int .i64 b]
end Go.Proofs.YtbfbkmkjcekpaaaGreatDoor

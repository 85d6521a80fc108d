/- The walk through a graph that Reach of package graph makes. -/
import Derived.Deep.AppendLies
import Derived.Laws.MakeOwn
import Derived.Test.YtgmldkojldlekaaGreatDoorSR07Z
import Derived.Test.YtgmldkojldlekaaGreatDoorSR06Z
namespace Go.Proofs.YtgmldkojldlekaaGreatDoor
set_option maxRecDepth 100000
open Go.RowKit
theorem infoI : (Tryz.prog.info? 3).map (fun i => (i.zero, i.size, i.bytes)) = some (some (.int .i64 0), 1, 8) := by kernel_rfl
def seenArr (N : Nat) (m : List Int) : Array Value := ((List.range N).map fun (i : Nat) => Value.bool (decide ((i : Int) ∈ m))).toArray
theorem seen_size (N : Nat) (m : List Int) : (seenArr N m).size = N := by simp [seenArr]
theorem seen_at {N : Nat} {m : List Int} {i : Nat} (h : i < N) : (seenArr N m)[i]? = some (.bool (decide ((i : Int) ∈ m))) := by simp [seenArr, h]
theorem seen_set {N : Nat} {m : List Int} {n : Nat} : (seenArr N m).setIfInBounds n (.bool true) = seenArr N (m ++ [(n : Int)]) := by
  apply Array.ext
  · simp [seen_size]
  · intro i h1 h2
    have hi : i < N := by simpa [seen_size] using h2
    have e1 : (seenArr N (m ++ [(n : Int)]))[i] = .bool (decide ((i : Int) ∈ m ++ [(n : Int)])) := by
      have := seen_at (N := N) (m := m ++ [(n : Int)]) hi
      rw [Array.getElem?_eq_getElem (by simpa [seen_size] using hi)] at this
      exact Option.some.inj this
    have e2 : (seenArr N m)[i]'(by simpa [seen_size] using hi) = .bool (decide ((i : Int) ∈ m)) := by
      have := seen_at (N := N) (m := m) hi
      rw [Array.getElem?_eq_getElem (by simpa [seen_size] using hi)] at this
      exact Option.some.inj this
    rw [e1, Array.getElem_setIfInBounds (by simpa [seen_size] using hi)]
    split
    · rename_i e
      subst e
      simp
    · rename_i e
      rw [e2]
      congr 1
      rw [decide_eq_decide]
      simp
      intro e'
      omega
structure St (W w : World) (nv : Value) (N : Nat) (sr sv mv fv gv : Nat) (m : List Int) : Prop where
  b : Below W.heap.size W w
  sc : w.cell? ⟨sv, 0, none⟩ = some (.slice (some ⟨sr, 0, none⟩) N N)
  fc : w.cell? ⟨fv, 0, none⟩ = some (.func (.func 76) #[] #[.pointer (some ⟨sv, 0, none⟩), .pointer (some ⟨mv, 0, none⟩), .pointer (some ⟨fv, 0, none⟩), .pointer (some ⟨gv, 0, none⟩)])
  gc : w.cell? ⟨gv, 0, none⟩ = some nv
  row : w.heap[sr]? = some (.cells (seenArr N m) 4 (0, 0))
  met : ∃ ao c, w.heap[mv]? = some (.cells #[.slice ao m.length c] 28 (0, 0)) ∧ w.ownsRow W.heap.size 3 1 (.slice ao m.length c) m.length (m.map (Value.int .i64)) ∧ (∀ k, Value.ownBlock (.slice ao m.length c) = some k → k ∉ [sr, sv, mv, fv, gv])
structure Bks (W : World) (sr sv mv fv gv : Nat) : Prop where
  nd : [sr, sv, mv, fv, gv].Nodup
  ge : ∀ k ∈ [sr, sv, mv, fv, gv], W.heap.size ≤ k
theorem own_block {w w' : World} {B : Nat} {e : TypeId} {s : Nat} {v : Value} {n : Nat} {xs : List Value} (h : w.ownsRow B e s v n xs) (hb : ∀ k, v.ownBlock = some k → w'.heap[k]? = w.heap[k]?) : w'.ownsRow B e s v n xs := by
  refine ⟨h.1, ?_⟩
  rcases h.2 with h0 | ⟨g, cap, cur, rfl, hB, hg, rest⟩
  · exact Or.inl h0
  · exact Or.inr ⟨g, cap, cur, rfl, hB, by rw [hb g rfl]; exact hg, rest⟩
theorem St.push {W w w2 : World} {nv : Value} {N sr sv mv fv gv : Nat} {m : List Int} {n : Nat} {o : Obj} {ao : Option Addr} {c g cap : Nat} (hB : Bks W sr sv mv fv gv) (h : St W w nv N sr sv mv fv gv m)
    (hm : w.heap[mv]? = some (.cells #[.slice ao m.length c] 28 (0, 0))) (hk : ∀ k, Value.ownBlock (.slice ao m.length c) = some k → k ∉ [sr, sv, mv, fv, gv])
    (hg : ((w.setCell ⟨sr, n, none⟩ (.bool true)).alloc o).grownBy w2 (Value.ownBlock (.slice ao m.length c)))
    (hown : w2.ownsRow W.heap.size 3 1 (.slice (some ⟨g, 0, none⟩) (m.length + 1) cap) (m.length + 1) (m.map (Value.int .i64) ++ [.int .i64 (n : Int)]))
    (hat : Value.ownBlock (.slice ao m.length c) = some g ∨ g = w.heap.size + 1) (hbl : ∀ k, Value.ownBlock (.slice ao m.length c) = some k → W.heap.size ≤ k) :
    St W (w2.setCell ⟨mv, 0, none⟩ (.slice (some ⟨g, 0, none⟩) (m.length + 1) cap)) nv N sr sv mv fv gv (m ++ [(n : Int)]) := by
  have hnd := hB.nd
  simp only [List.nodup_cons, List.mem_cons, List.not_mem_nil, or_false, not_or, List.nodup_nil, and_true, not_false_eq_true] at hnd
  obtain ⟨⟨a1, a2, a3, a4⟩, ⟨a5, a6, a7⟩, ⟨a8, a9⟩, a10⟩ := hnd
  have hlt : ∀ k ∈ [sr, sv, mv, fv, gv], k < w.heap.size := fun k hk' => by
    simp at hk'
    rcases hk' with rfl | rfl | rfl | rfl | rfl
    · exact lt_of_block h.row
    · exact lt_of_cell h.sc
    · exact lt_of_block hm
    · exact lt_of_cell h.fc
    · exact lt_of_cell h.gc
  have hsz : ((w.setCell ⟨sr, n, none⟩ (.bool true)).alloc o).heap.size = w.heap.size + 1 := by simp
  have h1 : ∀ k ∈ [sr, sv, mv, fv, gv], w2.heap[k]? = (w.setCell ⟨sr, n, none⟩ (.bool true)).heap[k]? := fun k hk' => by
    rw [hg.block k (by have := hlt k hk'; omega) (fun e => hk k e.symm hk'), Below.heap_alloc _ _ _ (by simpa using hlt k hk')]
  have h2 : ∀ k ∈ [sv, fv, gv], (w2.setCell ⟨mv, 0, none⟩ (.slice (some ⟨g, 0, none⟩) (m.length + 1) cap)).heap[k]? = w.heap[k]? := fun k hk' => by
    have hin : k ∈ [sr, sv, mv, fv, gv] := by
      simp at hk' ⊢
      rcases hk' with rfl | rfl | rfl <;> simp
    have hne : k ≠ mv ∧ k ≠ sr := by
      simp at hk'
      rcases hk' with rfl | rfl | rfl
      · exact ⟨a5, fun e => a1 e.symm⟩
      · exact ⟨fun e => a8 e.symm, fun e => a3 e.symm⟩
      · exact ⟨fun e => a9 e.symm, fun e => a4 e.symm⟩
    rw [Below.heap_setCell _ _ _ _ hne.1, h1 k hin, Below.heap_setCell _ _ _ _ hne.2]
  have hgk : g ∉ [sr, sv, mv, fv, gv] := by
    rcases hat with e | e
    · exact hk g e
    · intro hx
      have := hlt g hx
      omega
  have hmv := h1 mv (by simp)
  rw [Below.heap_setCell _ _ _ _ (fun e => a2 e.symm), hm] at hmv
  have hb1 : Below W.heap.size W ((w.setCell ⟨sr, n, none⟩ (.bool true)).alloc o) := (h.b.setCell (hB.ge sr (by simp)) _).alloc (by simpa using h.b.size) _
  refine ⟨?_, ?_, ?_, ?_, ?_, ⟨some ⟨g, 0, none⟩, cap, ?_, ?_, ?_⟩⟩
  · exact (hb1.grown hg hb1.size (fun k e => hbl k e)).setCell (hB.ge mv (by simp)) _
  · exact (World.cell?_of_block (a := ⟨sv, 0, none⟩) (h2 sv (by simp))).trans h.sc
  · exact (World.cell?_of_block (a := ⟨fv, 0, none⟩) (h2 fv (by simp))).trans h.fc
  · exact (World.cell?_of_block (a := ⟨gv, 0, none⟩) (h2 gv (by simp))).trans h.gc
  · rw [Below.heap_setCell _ _ _ _ a2, h1 sr (by simp), heap_setCell_same w sr n _ _ _ h.row, seen_set]
  · have := one_setCell (u := .slice (some ⟨g, 0, none⟩) (m.length + 1) cap) hmv
    simpa using this
  · have h3 : (w2.setCell ⟨mv, 0, none⟩ (.slice (some ⟨g, 0, none⟩) (m.length + 1) cap)).ownsRow W.heap.size 3 1 (.slice (some ⟨g, 0, none⟩) (m.length + 1) cap) (m.length + 1) (m.map (Value.int .i64) ++ [.int .i64 (n : Int)]) :=
      own_block hown (fun k e => Below.heap_setCell _ _ _ _ (fun e' => hgk (by
        have : g = k := by simpa [Value.ownBlock] using e
        rw [this, e']
        simp)))
    simpa using h3
  · intro k e
    have : g = k := by simpa [Value.ownBlock] using e
    rw [← this]
    exact hgk
theorem take_snoc {l : List Int} {k : Nat} (h : k < l.length) : l.take (k + 1) = l.take k ++ [l.getD k 0] := by
  rw [List.take_succ_eq_append_getElem h]
  simp [List.getD, h]
theorem meetF_old {g : Gf} {f : Nat} {l m : List Int} {n : Int} (h : n ∈ meetF g f l m) : meetF g f (l ++ [n]) m = meetF g f l m := by
  cases f with
  | zero => rfl
  | succ f =>
    rw [meetF_succ] at h ⊢
    rw [meetF_succ, List.foldl_append]
    simp only [List.foldl_cons, List.foldl_nil]
    exact if_pos h
theorem meetF_new {g : Gf} {f : Nat} {l m : List Int} {n : Int} (h : n ∉ meetF g (f + 1) l m) : meetF g (f + 1) (l ++ [n]) m = meetF g f (g.argsOf n) (meetF g (f + 1) l m ++ [n]) := by
  rw [meetF_succ] at h ⊢
  rw [meetF_succ, List.foldl_append]
  simp only [List.foldl_cons, List.foldl_nil]
  exact if_neg h
end Go.Proofs.YtgmldkojldlekaaGreatDoor

namespace Go.Proofs.YtgmldkojldlekaaGreatDoor
set_option maxRecDepth 100000
open Go.RowKit
def isN (g : Gf) (x : Int) : Prop := 0 ≤ x ∧ x < (g.nodes.length : Int)
def Gf.nd (g : Gf) (x : Int) : Nd := g.nodes.getD x.toNat nd0
def labE (g : Gf) (x y : Int) : Prop := (g.nd x).kind = (g.nd y).kind ∧ (g.nd x).name = (g.nd y).name ∧ (g.nd x).num = (g.nd y).num ∧ (g.nd x).args.length = (g.nd y).args.length ∧ ((g.nd x).kind = 1 → x = y)
def Gf.arg (g : Gf) (x : Int) (k : Nat) : Int := (g.nd x).args.getD k 0
theorem labE_refl (g : Gf) (x : Int) : labE g x x := ⟨rfl, rfl, rfl, rfl, fun _ => rfl⟩
theorem labE_symm {g : Gf} {x y : Int} (h : labE g x y) : labE g y x := ⟨h.1.symm, h.2.1.symm, h.2.2.1.symm, h.2.2.2.1.symm, fun e => (h.2.2.2.2 (h.1.trans e)).symm⟩
theorem labE_trans {g : Gf} {x y z : Int} (h : labE g x y) (k : labE g y z) : labE g x z := ⟨h.1.trans k.1, h.2.1.trans k.2.1, h.2.2.1.trans k.2.2.1, h.2.2.2.1.trans k.2.2.2.1, fun e => (h.2.2.2.2 e).trans (k.2.2.2.2 (h.1.symm.trans e))⟩
def Sim (g : Gf) (R : Int → Int → Prop) : Prop := ∀ x y, R x y → isN g x ∧ isN g y ∧ labE g x y ∧ ∀ k, k < (g.nd x).args.length → R (g.arg x k) (g.arg y k)
def Al (g : Gf) (x y : Int) : Prop := ∃ R, Sim g R ∧ R x y
theorem al_sim (g : Gf) : Sim g (Al g) := fun x y h => by
  obtain ⟨R, hR, h⟩ := h
  obtain ⟨h1, h2, h3, h4⟩ := hR x y h
  exact ⟨h1, h2, h3, fun k hk => ⟨R, hR, h4 k hk⟩⟩
theorem arg_isN {g : Gf} (hg : Good g) {x : Int} (h : isN g x) {k : Nat} (hk : k < (g.nd x).args.length) : isN g (g.arg x k) := by
  have h1 := (hg.args h.1 h.2).1
  exact h1 _ (getD_mem hk)
theorem al_refl {g : Gf} (hg : Good g) {x : Int} (h : isN g x) : Al g x x := by
  refine ⟨fun a b => a = b ∧ isN g a, fun a b hab => ?_, rfl, h⟩
  obtain ⟨rfl, ha⟩ := hab
  exact ⟨ha, ha, labE_refl g a, fun k hk => ⟨rfl, arg_isN hg ha hk⟩⟩
theorem al_symm {g : Gf} {x y : Int} (h : Al g x y) : Al g y x := by
  refine ⟨fun a b => Al g b a, fun a b hab => ?_, h⟩
  obtain ⟨h1, h2, h3, h4⟩ := al_sim g b a hab
  exact ⟨h2, h1, labE_symm h3, fun k hk => h4 k (by rw [h3.2.2.2.1]; exact hk)⟩
theorem al_trans {g : Gf} {x y z : Int} (h : Al g x y) (k : Al g y z) : Al g x z := by
  refine ⟨fun a c => ∃ b, Al g a b ∧ Al g b c, fun a c hac => ?_, y, h, k⟩
  obtain ⟨b, hab, hbc⟩ := hac
  obtain ⟨h1, h2, h3, h4⟩ := al_sim g a b hab
  obtain ⟨_, k2, k3, k4⟩ := al_sim g b c hbc
  exact ⟨h1, k2, labE_trans h3 k3, fun i hi => ⟨_, h4 i hi, k4 i (by rw [← h3.2.2.2.1]; exact hi)⟩⟩
def Cl (g : Gf) (S : Int → Prop) : Prop := ∀ x y, Al g x y → (S x ↔ S y)
structure Rf (g : Gf) (cls : Int → Nat) (C D : Nat) (F : List (Int → Prop)) (S : Int → Prop) (d : Nat) : Prop where
  lt : ∀ x, isN g x → cls x < C
  lab : ∀ x y, isN g x → isN g y → cls x = cls y → labE g x y
  al : ∀ x y, Al g x y → cls x = cls y
  old : ∀ P ∈ F, ∀ x y, isN g x → isN g y → cls x = cls y → ∀ k, k < (g.nd x).args.length → (P (g.arg x k) ↔ P (g.arg y k))
  now : ∀ x y, isN g x → isN g y → cls x = cls y → ∀ k, k < d → k < (g.nd x).args.length → (S (g.arg x k) ↔ S (g.arg y k))
  cl : Cl g S
  sep : ∀ x y, isN g x → isN g y → cls x ≠ cls y → (∃ P ∈ F, ¬ (P x ↔ P y)) ∨ ¬ (S x ↔ S y) ∨ D ≤ cls x ∨ D ≤ cls y
theorem Rf.start {g : Gf} {cls : Int → Nat} {C : Nat} (hlt : ∀ x, isN g x → cls x < C) (hl : ∀ x y, isN g x → isN g y → (cls x = cls y ↔ labE g x y)) : Rf g cls C 0 [] (fun _ => True) 0 := by
  refine ⟨hlt, fun x y hx hy e => (hl x y hx hy).1 e, fun x y h => ?_, by simp, fun _ _ _ _ _ k hk => absurd hk (Nat.not_lt_zero _), fun _ _ _ => Iff.rfl, fun _ _ _ _ _ => Or.inr (Or.inr (Or.inl (Nat.zero_le _)))⟩
  obtain ⟨h1, h2, h3, _⟩ := al_sim g x y h
  exact (hl x y h1 h2).2 h3
theorem Rf.next {g : Gf} {cls : Int → Nat} {C D : Nat} {F : List (Int → Prop)} {S : Int → Prop} {d : Nat} (h : Rf g cls C D F S d) (hg : ∀ x, isN g x → (g.nd x).args.length ≤ d) : Rf g cls C (D + 1) (F ++ [S]) (fun x => cls x = D) 0 := by
  refine ⟨h.lt, h.lab, h.al, fun P hP x y hx hy e k hk => ?_, fun _ _ _ _ _ k hk => absurd hk (Nat.not_lt_zero _), fun x y hal => by rw [h.al x y hal], fun x y hx hy e => ?_⟩
  · rcases List.mem_append.1 hP with hP | hP
    · exact h.old P hP x y hx hy e k hk
    · have e' : P = S := by simpa using hP
      subst e'
      exact h.now x y hx hy e k (by have := hg x hx; omega) hk
  · rcases h.sep x y hx hy e with ⟨P, hP, hn⟩ | hn | hd | hd
    · exact Or.inl ⟨P, by simp [hP], hn⟩
    · exact Or.inl ⟨S, by simp, hn⟩
    · by_cases e1 : cls x = D
      · refine Or.inr (Or.inl ?_)
        show ¬ (cls x = D ↔ cls y = D)
        intro hi
        exact e (e1.trans (hi.1 e1).symm)
      · exact Or.inr (Or.inr (Or.inl (by omega)))
    · by_cases e1 : cls y = D
      · refine Or.inr (Or.inl ?_)
        show ¬ (cls x = D ↔ cls y = D)
        intro hi
        exact e ((hi.2 e1).trans e1.symm)
      · exact Or.inr (Or.inr (Or.inr (by omega)))
theorem Rf.split {g : Gf} {cls cls' : Int → Nat} {C C' D : Nat} {F : List (Int → Prop)} {S : Int → Prop} {d : Nat} (h : Rf g cls C D F S d) (hC : D ≤ C) (hlt : ∀ x, isN g x → cls' x < C')
    (hnew : ∀ x, isN g x → cls' x = cls x ∨ C ≤ cls' x) (hfine : ∀ x y, isN g x → isN g y → cls' x = cls' y → cls x = cls y)
    (hsame : ∀ x y, isN g x → isN g y → cls x = cls y → (cls' x = cls' y ↔ ((d < (g.nd x).args.length ∧ S (g.arg x d)) ↔ (d < (g.nd y).args.length ∧ S (g.arg y d))))) : Rf g cls' C' D F S (d + 1) := by
  refine ⟨hlt, fun x y hx hy e => h.lab x y hx hy (hfine x y hx hy e), fun x y hal => ?_, fun P hP x y hx hy e => h.old P hP x y hx hy (hfine x y hx hy e), fun x y hx hy e k hk hkl => ?_, h.cl, fun x y hx hy e => ?_⟩
  · obtain ⟨hx, hy, hl, ha⟩ := al_sim g x y hal
    refine (hsame x y hx hy (h.al x y hal)).2 ?_
    constructor
    · rintro ⟨h1, h2⟩
      exact ⟨by rw [← hl.2.2.2.1]; exact h1, (h.cl _ _ (ha d h1)).1 h2⟩
    · rintro ⟨h1, h2⟩
      have h1' : d < (g.nd x).args.length := by rw [hl.2.2.2.1]; exact h1
      exact ⟨h1', (h.cl _ _ (ha d h1')).2 h2⟩
  · have e0 := hfine x y hx hy e
    rcases Nat.lt_or_eq_of_le (Nat.le_of_lt_succ hk) with hk' | hk'
    · exact h.now x y hx hy e0 k hk' hkl
    · subst hk'
      have hl := h.lab x y hx hy e0
      have hy' : k < (g.nd y).args.length := by rw [← hl.2.2.2.1]; exact hkl
      have := (hsame x y hx hy e0).1 e
      exact ⟨fun h2 => (this.1 ⟨hkl, h2⟩).2, fun h2 => (this.2 ⟨hy', h2⟩).2⟩
  · by_cases e0 : cls x = cls y
    · rcases hnew x hx with h1 | h1
      · rcases hnew y hy with h2 | h2
        · exact absurd (by rw [h1, h2, e0]) e
        · exact Or.inr (Or.inr (Or.inr (by omega)))
      · exact Or.inr (Or.inr (Or.inl (by omega)))
    · rcases h.sep x y hx hy e0 with hs | hs | hs | hs
      · exact Or.inl hs
      · exact Or.inr (Or.inl hs)
      · rcases hnew x hx with h1 | h1
        · exact Or.inr (Or.inr (Or.inl (by omega)))
        · exact Or.inr (Or.inr (Or.inl (by omega)))
      · rcases hnew y hy with h1 | h1
        · exact Or.inr (Or.inr (Or.inr (by omega)))
        · exact Or.inr (Or.inr (Or.inr (by omega)))
theorem Rf.last {g : Gf} (hg : Good g) {cls : Int → Nat} {C D : Nat} {F : List (Int → Prop)} {S : Int → Prop} {d : Nat} (h : Rf g cls C D F S d) (hD : C ≤ D) (hd : ∀ x, isN g x → (g.nd x).args.length ≤ d) : ∀ x y, isN g x → isN g y → (cls x = cls y ↔ Al g x y) := by
  intro x y hx hy
  refine ⟨fun e => ⟨fun a b => isN g a ∧ isN g b ∧ cls a = cls b, fun a b hab => ?_, hx, hy, e⟩, h.al x y⟩
  obtain ⟨ha, hb, e⟩ := hab
  have hl := h.lab a b ha hb e
  refine ⟨ha, hb, hl, fun k hk => ?_⟩
  have hk' : k < (g.nd b).args.length := by rw [← hl.2.2.2.1]; exact hk
  have na := arg_isN hg ha hk
  have nb := arg_isN hg hb hk'
  refine ⟨na, nb, Classical.byContradiction fun hne => ?_⟩
  rcases h.sep _ _ na nb hne with ⟨P, hP, hn⟩ | hn | hn | hn
  · exact hn (h.old P hP a b ha hb e k hk)
  · exact hn (h.now a b ha hb e k (by have := hd a ha; omega) hk)
  · have := h.lt _ na
    omega
  · have := h.lt _ nb
    omega
end Go.Proofs.YtgmldkojldlekaaGreatDoor

namespace Go.Proofs.YtgmldkojldlekaaGreatDoor
set_option maxRecDepth 100000
open Go.RowKit
def smallK (K : Nat) (g : Gf) : Bool := decide (g.nodes.length ≤ K) && decide (g.roots.length ≤ K) && g.nodes.all (fun n => decide (n.args.length ≤ 40))
theorem smallK_fits {K : Nat} {g : Gf} (h : smallK K g = true) : (∀ n ∈ g.nodes, n.args.length ≤ 40) ∧ g.nodes.length ≤ K ∧ g.roots.length ≤ K := by
  simp only [smallK, Bool.and_eq_true, decide_eq_true_eq, List.all_eq_true] at h
  obtain ⟨⟨h1, h2⟩, h3⟩ := h
  exact ⟨fun n hn => h3 n hn, h1, h2⟩
set_option maxHeartbeats 2000000 in
theorem smallK_any {K : Nat} (hK : K ≤ 5000) {W : World} {nv rv : Value} {g : Gf} (hG : Gr W nv rv g) :
    Calls Tryz.prog 27 #[.agg #[nv, rv], .int .i64 (K : Int)] W fun e w' => e = .returned (.bool (smallK K g)) ∧ Below W.heap.size W w' := by
  obtain ⟨l, lr⟩ := g
  obtain ⟨ua, uc, rfl, hu⟩ := hG.1
  obtain ⟨ra, rc, rfl, _⟩ := hG.2
  dsimp only at hu ⊢
  have hE := hid (show smallK K ⟨l, lr⟩ = (decide (l.length ≤ K) && decide (lr.length ≤ K) && l.all (fun n => decide (n.args.length ≤ 40))) from rfl)
  generalize smallK K ⟨l, lr⟩ = R at hE ⊢
  by_cases h1 : K < l.length
  · have h1' : (K : Int) < (l.length : Int) := by omega
    have hR := hid (show R = false by rw [hE.out, decide_eq_false (by omega : ¬ l.length ≤ K)]; rfl)
    clear hE hu hG
    go_enter Tryz.func27, Tryz.ntmps27
    go_wp2
    go_ret
    exact ⟨ret_bool hR.out.symm, below_alloc _ _⟩
  · by_cases h2 : K < lr.length
    · have h1' : ¬ (K : Int) < (l.length : Int) := by omega
      have h2' : (K : Int) < (lr.length : Int) := by omega
      have hR := hid (show R = false by rw [hE.out, decide_eq_false (by omega : ¬ lr.length ≤ K)]; simp)
      clear hE hu hG
      go_enter Tryz.func27, Tryz.ntmps27
      go_wp2
      go_ret
      exact ⟨ret_bool hR.out.symm, below_alloc _ _⟩
    · have h1' : ¬ (K : Int) < (l.length : Int) := by omega
      have h2' : ¬ (K : Int) < (lr.length : Int) := by omega
      go_enter Tryz.func27, Tryz.ntmps27
      go_wp2
      go_loopw [22] (fun i wr => ∃ k : Nat, k ≤ l.length ∧ i = .int .i64 k ∧ Hid (Below W.heap.size W wr) ∧ Hid (∀ j, j < k → (l.getD j nd0).args.length ≤ 40)) (fun i _ => l.length - (intOf i).toNat)
      case atStart => exact ⟨0, Nat.zero_le _, rfl, below_alloc _ _, fun j hj => absurd hj (Nat.not_lt_zero _)⟩
      case round =>
        obtain ⟨k, hk, rfl, hb, hp⟩ := hrel
        by_cases hlt : k < l.length
        · obtain ⟨ub, uo, uav, rfl, hcu⟩ := hu k hlt
          obtain ⟨p0, p1, p2, p3, hA⟩ := hcu.below hb.out
          obtain ⟨aa, ac, rfl, _⟩ := hA
          have hin : l.getD k nd0 ∈ l := by simp [List.getD, hlt]
          have hlp := lt_of_cell p0
          by_cases h40 : 40 < (l.getD k nd0).args.length
          · have hR := hid (show R = false by
              rw [hE.out]
              have : l.all (fun n => decide (n.args.length ≤ 40)) = false := List.all_eq_false.2 ⟨_, hin, by simpa using h40⟩
              rw [this]
              simp)
            clear hin hcu hu hp hE hG
            generalize l.getD k nd0 = x at p0 p1 p2 p3 h40
            obtain ⟨xk, xs, xn, xl⟩ := x
            dsimp only at p0 p1 p2 p3 h40
            have h40' : (40 : Int) < (xl.length : Int) := by omega
            go_wp2
            go_ret
            exact ⟨ret_bool hR.out.symm, hb.out.alloc hb.out.size _⟩
          · have hp' : Hid (∀ j, j < k + 1 → (l.getD j nd0).args.length ≤ 40) := fun j hj => by
              rcases Nat.lt_or_eq_of_le (Nat.le_of_lt_succ hj) with h | h
              · exact hp.out j h
              · subst h; omega
            clear hin hcu hu hp hE hG
            generalize l.getD k nd0 = x at p0 p1 p2 p3 h40
            obtain ⟨xk, xs, xn, xl⟩ := x
            dsimp only at p0 p1 p2 p3 h40
            have h40' : ¬ (40 : Int) < (xl.length : Int) := by omega
            go_wp2
            go_roundw
            case rel => exact ⟨k + 1, by omega, congrArg (Value.int .i64) (by omega), hb.out.alloc hb.out.size _, hp'⟩
            case measure => simp [intOf]; omega
        · have hR := hid (show R = true by
            rw [hE.out, decide_eq_true (by omega : l.length ≤ K), decide_eq_true (by omega : lr.length ≤ K)]
            simp only [Bool.true_and, List.all_eq_true, decide_eq_true_eq]
            intro n hn
            obtain ⟨i, hi, rfl⟩ := List.getElem_of_mem hn
            have := hp.out i (by omega)
            simpa [List.getD, hi] using this)
          clear hE hu hG hp
          go_wp2
          go_ret
          exact ⟨ret_bool hR.out.symm, hb.out⟩
end Go.Proofs.YtgmldkojldlekaaGreatDoor

namespace Go.Proofs.YtgmldkojldlekaaGreatDoor
set_option maxRecDepth 100000
open Go.ChangeShapes Go.WideShapes Go.ChangeAt Go.RowKit Go.Deep
theorem cellsOpC : Tryz.prog.cellsOf 32 = 5 := by kernel_rfl
theorem cop_of_cells {H : Type} {enc : TypeId × Value → H} {W : World} {fuel : Nat} {cs : List Value} {x : DataW H × List MemPlace} (h : DataW.trod enc Tryz.prog W 0 (fun _ => true) true fuel 32 cs = some x) :
    ∃ (kd : Int) (nv rv : Value) (g : Gf) (a b : Int), cs = [.int .i64 kd, nv, rv, .int .i64 a, .int .i64 b] ∧ Gr W nv rv g ∧ Sized g := by
  obtain ⟨xs, n, _, hx, hl, hlen, hF⟩ := DataW.trod_struct Tryz.underlying32 h
  rw [cellsOpC] at hl
  match cs, hl with
  | [c0, c1, c2, c3, c4], _ =>
    match xs, hlen with
    | [y0, y1, y2, y3], _ =>
      have h0 := hF 0 _ rfl
      have h1 := hF 1 _ rfl
      have h2 := hF 2 _ rfl
      have h3 := hF 3 _ rfl
      simp [cellsI] at h0
      simp [cellsG] at h1
      simp [cellsI] at h2
      simp [cellsI] at h3
      obtain ⟨a0, e0, _, w0⟩ := DataW.trod_int Tryz.underlying3 h0
      obtain ⟨nv, rv, g, e1, hg, hs⟩ := graph_of_cells h1
      obtain ⟨a2, e2, _, w2⟩ := DataW.trod_int Tryz.underlying3 h2
      obtain ⟨a3, e3, _, w3⟩ := DataW.trod_int Tryz.underlying3 h3
      simp at e0 e1 e2 e3
      obtain ⟨rfl, rfl⟩ := e1
      subst e0 e2 e3
      exact ⟨a0, _, _, g, a2, a3, rfl, hg, hs⟩
theorem cops_of_cells {H : Type} {enc : TypeId × Value → H} {W : World} {fuel : Nat} {u : Value} {x : DataW H × List MemPlace} (h : DataW.trod enc Tryz.prog W 0 (fun _ => true) true fuel 22 [u] = some x) :
    ∃ l : List Opd, Rop W u l := by
  rcases Go.Deep.open_slice Tryz.underlying22 h with ⟨hcs, _⟩ | ⟨ad, len, cap, m, n, D, Pl, hcs, _, hl, hm, hmm, _, hel⟩
  · simp at hcs
    subst hcs
    exact ⟨[], none, 0, rfl, fun _ h => absurd h (Nat.not_lt_zero _)⟩
  · simp at hcs
    subst hcs
    simp only [if_true] at hmm
    rw [cellsOpC] at hel
    have each : ∀ i, ∃ (x : Opd) (nv rv : Value), i < len → (Gr W nv rv x.g ∧ Sized x.g) ∧ W.cells? 0 (ad.add (i * 5)) 5 = some [.int .i64 x.kd, nv, rv, .int .i64 x.a, .int .i64 x.b] := fun i => by
      by_cases hi : i < len
      · obtain ⟨cs', hc, ht⟩ := hel i (by omega)
        obtain ⟨kd, nv, rv, g, a, b, rfl, h1, h2⟩ := cop_of_cells ht
        exact ⟨⟨kd, g, a, b⟩, nv, rv, fun _ => ⟨⟨h1, h2⟩, hc⟩⟩
      · exact ⟨od0, .nilIface, .nilIface, fun h => absurd h hi⟩
    obtain ⟨ns, hns⟩ : ∃ ns : Nat → Opd, ∀ i, ∃ nv rv : Value, i < len → (Gr W nv rv (ns i).g ∧ Sized (ns i).g) ∧ W.cells? 0 (ad.add (i * 5)) 5 = some [.int .i64 (ns i).kd, nv, rv, .int .i64 (ns i).a, .int .i64 (ns i).b] :=
      ⟨fun i => Classical.choose (each i), fun i => Classical.choose_spec (each i)⟩
    refine ⟨(List.range len).map ns, some ad, cap, by simp, fun j hj => ?_⟩
    have hj' : j < len := by simpa using hj
    obtain ⟨b, off, spot⟩ := ad
    obtain ⟨nv, rv, hav⟩ := hns j
    obtain ⟨⟨h1, h2⟩, h3⟩ := hav hj'
    have hcj := (World.cells?_some h3).2.2
    have hspot : spot = none := by
      obtain ⟨nv0, rv0, hav0⟩ := hns 0
      have := (World.cells?_some (hav0 (by omega)).2).2.2 0 (by omega)
      simp at this
      simpa [Addr.add] using World.cell?_spot this
    subst hspot
    have e : ∀ i, ((⟨b, off, none⟩ : Addr).add (j * 5)).add i = ⟨b, off + j * 5 + i, none⟩ := fun i => by rw [add_plain, add_plain]
    have hg : ((List.range len).map ns).getD j od0 = ns j := by simp [List.getD, hj']
    refine ⟨b, off, nv, rv, rfl, ?_⟩
    rw [hg]
    refine ⟨?_, ?_, ?_, ?_, ?_, h1, h2⟩
    · have := hcj 0 (by omega); rw [e] at this; simpa using this
    · have := hcj 1 (by omega); rw [e] at this; simpa using this
    · have := hcj 2 (by omega); rw [e] at this; simpa using this
    · have := hcj 3 (by omega); rw [e] at this; simpa using this
    · have := hcj 4 (by omega); rw [e] at this; simpa using this
theorem cops_of {H : Type} {enc : TypeId × Value → H} {W : World} {base : Nat} {u : Value} {d : DataW H} {p : List MemPlace} (hv : Value.okWide Tryz.prog W .any base 22 u) (h : DataW.Trod enc Tryz.prog W 0 (fun _ => true) true 22 u d p) :
    ∃ l : List Opd, Rop W u l := by
  obtain ⟨a, len, cap, rfl⟩ := okWide_slice Tryz.underlying22 hv
  obtain ⟨fuel, hf⟩ := h
  have hf' : DataW.trod enc Tryz.prog W 0 (fun _ => true) true fuel 22 [.slice a len cap] = some (d, p) := by simpa [Value.cells] using hf
  exact cops_of_cells hf'
end Go.Proofs.YtgmldkojldlekaaGreatDoor

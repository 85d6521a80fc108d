/- CellsBack: one graph put down, and read. -/
import Derived.Test.YtgmldkojldlekaaGreatDoorSR37Z
import Derived.Test.YtgmldkojldlekaaGreatDoorSR36Z
import Derived.Test.YtgmldkojldlekaaGreatDoorSR26Z
import Derived.Test.YtgmldkojldlekaaGreatDoorSR09Z
import Derived.Test.YtgmldkojldlekaaGreatDoorSR07Z
import Derived.Test.YtgmldkojldlekaaGreatDoorSR04Z
namespace Go.Proofs.YtgmldkojldlekaaGreatDoor
set_option maxRecDepth 100000
open Go.RowKit
theorem wthJ_ge (ns : List ByteArray) (g : Gf) (met : List Int) : ∀ j, ns.length ≤ (wthJ ns g met j).length
  | 0 => Nat.le_refl _
  | j + 1 => by
    have h1 := wthJ_ge ns g met j
    show _ ≤ (wth1 _ _).length
    unfold wth1
    split
    · exact h1
    · simp
      omega
end Go.Proofs.YtgmldkojldlekaaGreatDoor

namespace Go.Proofs.YtgmldkojldlekaaGreatDoor
set_option maxRecDepth 100000
open Go.RowKit
section
variable {w : World} {B hb ab tb : Nat} {m : Int} {av : Value} {l : List Int} {tv : Value} {tq : Nat} {ns : List ByteArray} {ta : Option Addr} {tc : Nat} {tr : List Te} {pa : Option Addr} {pc : Nat} {pt : List Pe} {n : Int} {T K pb : Nat}
theorem ud_cut {pre : List (Nat × Te)} {W w5 : World} {v5 : Value} (h : Ud w B hb ab tb m av l tv tq ns (.slice ta tr.length tc) tr (.slice pa pt.length pc) pt n T K pb pre W) (hpre : pre.length = (tr.drop T).length) (hpb : ∀ k ∈ a_foot ab av, k ≠ pb ∧ k ≠ w.heap.size)
    (hu : a_Upd 126 W w5 B ab m av ((undW l ((tr.drop T).drop ((tr.drop T).length - pre.length))).take K) v5) :
    Hq w5 B hb ab tb m v5 (atP l tr (T, K)) tv tq ns (.slice ta tr.length tc) tr (.slice pa pt.length pc) pt n ∧ a_Mod (qfoot hb ab av (.slice ta tr.length tc) (.slice pa pt.length pc)) w w5 ∧ w5.heap[w.heap.size]? = some (.cells #[.pointer (some ⟨hb, 0, none⟩)] 23) ∧ w5.heap[pb]? = some (.cells #[.int .i64 (T : Int), .int .i64 (K : Int), .slice none 0 0] 85) := by
  have e : (undW l ((tr.drop T).drop ((tr.drop T).length - pre.length))).take K = atP l tr (T, K) := by
    rw [hpre, Nat.sub_self, List.drop_zero, undW_take]
    rfl
  rw [e] at hu
  exact ⟨h.q.words hu, h.m.trans (hu.mod.ofMem (qfoot hb ab av (.slice ta tr.length tc) (.slice pa pt.length pc)) (fun z hz => Or.inl (mem_qfoot.2 (Or.inr (Or.inl hz))))) (fun z hz => Or.inl hz), (hu.mod.block _ (lt_of_block h.x) (fun hx => (hpb _ hx).2 rfl)).trans h.x, (hu.mod.block _ (lt_of_block h.p) (fun hx => (hpb _ hx).1 rfl)).trans h.p⟩
theorem ud_frz {w5 : World} {v5 : Value} {L : List Int} {trv ptv u : Value} (h : Hq w5 B hb ab tb m v5 L tv tq ns trv tr ptv pt n) : (w5.setCell ⟨hb, 2, none⟩ u).frozen? ⟨hb, 3, none⟩ = false := by
  have e := heap_setCell_same w5 hb 2 _ _ u h.hp.blk
  simp [World.frozen?, e]
theorem ud_c3 {w5 : World} {v5 : Value} {L : List Int} {trv ptv u : Value} (h : Hq w5 B hb ab tb m v5 L tv tq ns trv tr ptv pt n) : (w5.setCell ⟨hb, 2, none⟩ u).cell? ⟨hb, 3, none⟩ = some ptv := by
  have e := heap_setCell_same w5 hb 2 _ _ u h.hp.blk
  simp [World.cell?, e]
theorem ud_fin {w5 : World} {v5 : Value} {L : List Int} {D i : Nat} (h : Hq w5 B hb ab tb m v5 L tv tq ns (.slice ta tr.length tc) tr (.slice pa pt.length pc) pt n) (hm : a_Mod (qfoot hb ab av (.slice ta tr.length tc) (.slice pa pt.length pc)) w w5) (hT : T ≤ tr.length) (hi : i < pt.length) (hK : w5.heap[D]? = some (.deferred (some []))) (hD : w.heap.size ≤ D) (htq : tq < w.heap.size) :
    ((w5.setCell ⟨hb, 2, none⟩ (.slice ta T tc)).setCell ⟨hb, 3, none⟩ (.slice pa (i + 1) pc)).heap[D]? = some (.deferred (some [])) ∧
    Hq (((w5.setCell ⟨hb, 2, none⟩ (.slice ta T tc)).setCell ⟨hb, 3, none⟩ (.slice pa (i + 1) pc)).putObj D (.deferred none)) B hb ab tb m v5 L tv tq ns (.slice ta T tc) (tr.take T) (.slice pa (i + 1) pc) (pt.take (i + 1)) n ∧
    a_Mod (qfoot hb ab av (.slice ta tr.length tc) (.slice pa pt.length pc)) w (((w5.setCell ⟨hb, 2, none⟩ (.slice ta T tc)).setCell ⟨hb, 3, none⟩ (.slice pa (i + 1) pc)).putObj D (.deferred none)) ∧
    a_Nx w (.slice ta tr.length tc) (.slice ta T tc) ∧ a_Nx w (.slice pa pt.length pc) (.slice pa (i + 1) pc) := by
  have ht := own_cut h.tr (k := T) hT
  rw [svC_take] at ht
  have h6 := h.newtr (tr' := tr.take T) (by rw [List.length_take, Nat.min_eq_left hT]; exact ht)
  have hp := own_cut h6.pt (k := i + 1) hi
  rw [mkC_take] at hp
  have h7 := h6.newpt (pt' := pt.take (i + 1)) (by rw [List.length_take, Nat.min_eq_left (by omega)]; exact hp)
  have hm7 : a_Mod (qfoot hb ab av (.slice ta tr.length tc) (.slice pa pt.length pc)) w ((w5.setCell ⟨hb, 2, none⟩ (.slice ta T tc)).setCell ⟨hb, 3, none⟩ (.slice pa (i + 1) pc)) := (hm.setCell (p := ⟨hb, 2, none⟩) (Or.inl (mem_qfoot.2 (Or.inl rfl))) _).setCell (p := ⟨hb, 3, none⟩) (Or.inl (mem_qfoot.2 (Or.inl rfl))) _
  have hDh : D ≠ hb := fun e => by
    subst e
    rw [h.hp.blk] at hK
    cases hK
  have m9 : ((w5.setCell ⟨hb, 2, none⟩ (.slice ta T tc)).setCell ⟨hb, 3, none⟩ (.slice pa (i + 1) pc)).heap[D]? = some (.deferred (some [])) := by
    rw [Below.heap_setCell _ _ _ _ hDh, Below.heap_setCell _ _ _ _ hDh]
    exact hK
  generalize (w5.setCell ⟨hb, 2, none⟩ (.slice ta T tc)).setCell ⟨hb, 3, none⟩ (.slice pa (i + 1) pc) = X at *
  have n9 : Nb w.heap.size X (X.putObj D (.deferred none)) := Nb.put (.deferred none) hD m9 rfl
  obtain ⟨ks, hmk, hks⟩ := n9.mod
  refine ⟨m9, h7.nb n9 htq, hm7.trans (hmk.ofMem (qfoot hb ab av (.slice ta tr.length tc) (.slice pa pt.length pc) ++ ks) (fun y hy => Or.inl (by simp [hy]))) (fun y hy => ?_), fun q hq => Or.inl ?_, fun q hq => Or.inl ?_⟩
  · rcases List.mem_append.1 hy with hy | hy
    · exact Or.inl hy
    · exact Or.inr (hks y hy).1
  · cases ta with
    | none => cases hq
    | some a => exact hq
  · cases pa with
    | none => cases hq
    | some a => exact hq
end
end Go.Proofs.YtgmldkojldlekaaGreatDoor

namespace Go.Proofs.YtgmldkojldlekaaGreatDoor
set_option maxRecDepth 100000
open Go.RowKit
theorem gneN {N : Nat} {l : Array Bool} {i j : Nat} {b : Bool} (hl : l.size = N) (h : bitA (l.setIfInBounds i true) j = b) (hi : i < N := by decide) (hne : i ≠ j := by decide) : bitA l j = b := by
  rw [gsetN l i j hl hi, if_neg hne] at h
  exact h
theorem bff {a : Bool} {p : Prop} (h : a = false) (e : a = true) : p := by
  rw [h] at e
  cases e
theorem bny {a b : Bool} (hb : b = false) (h : a = true → b = true) : a = false := by
  cases a with
  | false => rfl
  | true => exact bff hb (h rfl)
end Go.Proofs.YtgmldkojldlekaaGreatDoor

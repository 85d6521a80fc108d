/- LexNames, walked at every text of at most 1048576 bytes. -/
import Derived.Test.YtanjgppdjdcnaaaLxLives
import Derived.Test.YtanjgppdjdcnaaaLxGood
import Derived.Test.YtanjgppdjdcnaaaLxLies
import Derived.Deep.RegionHeld3
import Derived.Deep.DrawnRows
namespace Go.Proofs.Ytanjgppdjdcnaaa
open Go.RowKit

theorem keep_cell {w w' : World} {b o : Nat} {v : Value} (hb : Below w.heap.size w w') (h : w.cell? ⟨b, o, none⟩ = some v) : w'.cell? ⟨b, o, none⟩ = some v := by
  rw [hb.cell (p := ⟨b, o, none⟩) (lt_of_cell h)]
  exact h
theorem quoteS_size (s : ByteArray) : (quoteS s).size ≤ 2 * s.size + 2 := by
  unfold quoteS
  split
  · omega
  · have h1 := escL_length s.data.toList
    have h2 : s.data.toList.length = s.size := by simp
    have h3 : (ByteArray.mk ([39] ++ escL s.data.toList ++ [39]).toArray).size = ([39] ++ escL s.data.toList ++ [39]).length := by simp [ByteArray.size]
    rw [h3]
    simp only [List.length_append, List.length_cons, List.length_nil]
    omega
set_option maxRecDepth 100000 in
set_option maxHeartbeats 2000000 in
theorem lexNames_bad (s : ByteArray) (hs : s.size ≤ 1048576) (hg : goodS s = false) {W : World} :
    Calls Try.prog 6 #[.string s] W fun e w' => e = .returned (.bool true) ∧ Below W.heap.size W w' := by
  have hq := fun W => quote_any s W hs
  have hr := fun W => rgood_any s W (by omega)
  have hc := name_bad hg
  have hz := quoteS_size s
  obtain ⟨e1, e2, e3⟩ := some_all (s := quoteS s) (by omega)
  have hsc := fun W => scan_no (s := quoteS s) W (by rw [e2]; exact hc)
  rw [hg] at hr
  generalize quoteS s = Q at *
  clear hc e1 e2 e3 hg
  go_enter Try.func6, Try.ntmps6
  go_wp2_with (first
      | (go_at_call 9; go_must (refine (lives_any _).mono ?_; rintro e w1 ⟨rfl, hb1⟩))
      | (go_at_call 16; go_must (refine (hq _).mono ?_; rintro e w2 ⟨rfl, hb2⟩))
      | (go_at_call 10; go_must (refine (hsc _).mono ?_; rintro e w3 ⟨fb, rfl, hF3, hb3⟩))
      | (go_at_call 20; go_must (refine (hr _).mono ?_; rintro e w4 ⟨rfl, rfl⟩)))
  go_ret
  exact ⟨rfl, Below.next (Below.next hb1 hb2) hb3⟩
set_option maxRecDepth 100000 in
set_option maxHeartbeats 4000000 in
theorem lexNames_good (s : ByteArray) (hs : s.size ≤ 1048576) (hg : goodS s = true) {W : World} :
    Calls Try.prog 6 #[.string s] W fun e w' => e = .returned (.bool true) ∧ Below W.heap.size W w' := by
  have hq := fun W => quote_any s W hs
  have hr := fun W => rgood_any s W (by omega)
  obtain ⟨hT, hc⟩ := name_good hg
  have hz := quoteS_size s
  obtain ⟨e1, e2, e3⟩ := some_all (s := quoteS s) (by omega)
  have hsc := fun W => scan_yes (s := quoteS s) W (by rw [e2]; exact hc)
  rw [e1, hT] at hsc
  rw [hg] at hr
  have hS : (s.toList == s.toList) = true := by simp
  generalize quoteS s = Q at *
  clear hc e1 e2 e3 hg hT
  go_enter Try.func6, Try.ntmps6
  go_wp2_with (first
      | (go_at_call 9; go_must (refine (lives_any _).mono ?_; rintro e w1 ⟨rfl, hb1⟩))
      | (go_at_call 16; go_must (refine (hq _).mono ?_; rintro e w2 ⟨rfl, hb2⟩))
      | (go_at_call 10; go_must (refine (hsc _).mono ?_; clear hsc; rintro e w3 ⟨v, rfl, hT, hb3⟩; have hR := hT.rt; obtain ⟨vb, vo, vc, rfl⟩ := hR.form (by simp); obtain ⟨y0, y1, y2, y3, y4⟩ := hR.cells (j := 0) (by simp); obtain ⟨z0, z1, z2, z3, z4⟩ := hR.cells (j := 1) (by simp)))
      | (go_at_call 20; go_must (refine (hr _).mono ?_; rintro e w4 ⟨rfl, rfl⟩)))
  have x0 : w4.cell? ⟨vb, vo, none⟩ = some (.int .i64 1) := by simpa using y0
  have x1 : w4.cell? ⟨vb, vo + 1, none⟩ = some (.string s) := by simpa using y1
  have x3 : w4.cell? ⟨vb, vo + 3, none⟩ = some (.int .i64 0) := by simpa using y3
  have x4 : w4.cell? ⟨vb, vo + 4, none⟩ = some (.int .i64 (Q.size : Int)) := by simpa using y4
  have x5 : w4.cell? ⟨vb, vo + 5, none⟩ = some (.int .i64 0) := by simpa [endT] using z0
  have hB3 := Below.next (Below.next hb1 hb2) hb3
  clear y0 y1 y2 y3 y4 z0 z1 z2 z3 z4 hT hb1 hb2 hb3 hR
  go_region_held3 (fun w' => w'.cell? ⟨vb, vo, none⟩ = some (.int .i64 1) ∧ w'.cell? ⟨vb, vo + 1, none⟩ = some (.string s) ∧ w'.cell? ⟨vb, vo + 3, none⟩ = some (.int .i64 0) ∧ w'.cell? ⟨vb, vo + 4, none⟩ = some (.int .i64 (Q.size : Int)) ∧ w'.cell? ⟨vb, vo + 5, none⟩ = some (.int .i64 0)) (first | exact ⟨x0, x1, x3, x4, x5⟩ | go_keep)
    (first | (go_at_call 16; refine (hq _).mono ?_; rintro e w5 ⟨rfl, hb5⟩; replace x0 := keep_cell hb5 x0; replace x1 := keep_cell hb5 x1; replace x3 := keep_cell hb5 x3; replace x4 := keep_cell hb5 x4; replace x5 := keep_cell hb5 x5))
  all_goals go_wp2
  go_ret
  exact ⟨rfl, Below.next (show Below W.heap.size W w4.drew from below_drewN hB3 1) hb5⟩
theorem lexNames_walk (s : ByteArray) (hs : s.size ≤ 1048576) {W : World} :
    Calls Try.prog 6 #[.string s] W fun e w' => e = .returned (.bool true) ∧ Below W.heap.size W w' := by
  cases hg : goodS s with
  | true => exact lexNames_good s hs hg
  | false => exact lexNames_bad s hs hg
end Go.Proofs.Ytanjgppdjdcnaaa

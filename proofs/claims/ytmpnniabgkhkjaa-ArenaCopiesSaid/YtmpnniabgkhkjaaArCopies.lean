/- ArenaCopies: an arena filled with another one's words holds the same; fresh words behind a cut are references to themselves, whatever the arguments. No conditions. -/
import Derived.Test.YtmpnniabgkhkjaaArLaw2
namespace Go.Proofs.Ytmpnniabgkhkjaa
open Go.ChangeShapes Go.WideShapes Go.ChangeAt Go.RowKit

/-- The way up to the first fill. -/
theorem copies_long {W : World} (v : Value) (l : List Int) (hrd : Rd W v l) (cut n : Int) (hlen : 600 < l.length) :
    Calls Try.prog 6 #[v, .int .i64 cut, .int .i64 n] W fun e w' => e = .returned (.bool true) ∧ Below W.heap.size W w' := by
  obtain ⟨ao, cv, rfl⟩ := hrd.shape
  have hB0 : W.heap.size ≤ W.heap.size := Nat.le_refl _
  have hlen' : (600 : Int) < (l.length : Int) := by omega
  go_enter Try.func6, Try.ntmps6
  go_wp2_with (first
    | (go_at_call 9; refine (lives_any _).mono ?_; rintro e w1 ⟨rfl, hb⟩)
    | (go_at_call 10; refine (new_ok 1000 w1 W.heap.size hb.size (by omega) (by omega)).mono ?_; rintro e w2 ⟨rfl, hA, hN⟩; replace hb := below_next hb hB0 hN; clear hN)
    | (go_at_call 10; refine (new_ok 1000 w2 W.heap.size hb.size (by omega) (by omega)).mono ?_; rintro e w3 ⟨rfl, hA2, hN⟩; replace hb := below_next hb hB0 hN; replace hA := hA.below hN; clear hN))
  go_ret
  exact ⟨rfl, hb⟩
set_option maxRecDepth 100000 in
set_option maxHeartbeats 3200000 in
theorem copies_bad {W : World} (v : Value) (l : List Int) (hrd : Rd W v l) (cut n : Int) (hlen : l.length ≤ 600) (i : Nat) (hbad : FirstBad l l.length i) :
    Calls Try.prog 6 #[v, .int .i64 cut, .int .i64 n] W fun e w' => e = .returned (.bool true) ∧ Below W.heap.size W w' := by
  obtain ⟨ao, cv, rfl⟩ := hrd.shape
  have hB0 : W.heap.size ≤ W.heap.size := Nat.le_refl _
  have hlen' : decide ((600 : Int) < (l.length : Int)) = false := by simp; omega
  have HB : Hid (FirstBad l l.length i) := hbad
  clear hbad
  go_enter Try.func6, Try.ntmps6
  go_wp2_with (first
    | (go_at_call 9; refine (lives_any _).mono ?_; rintro e w1 ⟨rfl, hb⟩; replace hrd := hrd.below hb)
    | (go_at_call 10; refine (new_ok 1000 w1 W.heap.size hb.size (by omega) (by omega)).mono ?_; rintro e w2 ⟨rfl, hA, hN⟩; replace hb := below_next hb hB0 hN; replace hrd := hrd.below hN; clear hN)
    | (go_at_call 10; refine (new_ok 1000 w2 W.heap.size hb.size (by omega) (by omega)).mono ?_; rintro e w3 ⟨rfl, hA2, hN⟩; replace hb := below_next hb hB0 hN; replace hA := hA.below hN; replace hrd := hrd.below hN; clear hN)
    | (at_builtin; refine wpList_copyRow (by rfl) _ _ (by rfl) (B := W.heap.size) (g := w3.heap.size) (by rfl) (by rfl) (hrd.alloc _) (heap_alloc_new w3 _) hb.size (by omega) ?_; intro v4 w4 ho4 hg4; have hN := below_lit hg4; have hrd4 := Rd.ofOwn ho4 hrd.1; replace hb := below_next hb hB0 hN; replace hA := hA.below hN; replace hrd := hrd.below hN; clear hN)
    | (go_at_call 21; refine (fill_bad hA hrd4 (by omega) HB.out).mono ?_; rintro e w5 ⟨rfl, hw5⟩; have hN := below_eq hw5; replace hb := below_next hb hB0 hN; clear hN hw5))
  go_ret
  exact ⟨rfl, hb⟩
set_option maxRecDepth 100000 in
set_option maxHeartbeats 3200000 in
theorem copies_out {W : World} (v : Value) (l : List Int) (hrd : Rd W v l) (hlen : l.length ≤ 600) (hall : AllMay l l.length) (cut n : Int) (hc : cut < 0 ∨ (0 ≤ cut ∧ (l.length : Int) < cut)) :
    Calls Try.prog 6 #[v, .int .i64 cut, .int .i64 n] W fun e w' => e = .returned (.bool true) ∧ Below W.heap.size W w' := by
  obtain ⟨ao, cv, rfl⟩ := hrd.shape
  have hB0 : W.heap.size ≤ W.heap.size := Nat.le_refl _
  have hlen' : decide ((600 : Int) < (l.length : Int)) = false := by simp; omega
  have HM : Hid (AllMay l l.length) := hall
  clear hall
  rcases hc with hc | ⟨hc0, hc⟩
  all_goals
    go_enter Try.func6, Try.ntmps6
    go_wp2_with (first
      | (go_at_call 9; refine (lives_any _).mono ?_; rintro e w1 ⟨rfl, hb⟩; replace hrd := hrd.below hb)
      | (go_at_call 10; refine (new_ok 1000 w1 W.heap.size hb.size (by omega) (by omega)).mono ?_; rintro e w2 ⟨rfl, hA, hN⟩; replace hb := below_next hb hB0 hN; replace hrd := hrd.below hN; have hpn := Nat.ne_of_lt hA.lt; clear hN)
      | (go_at_call 10; refine (new_ok 1000 w2 W.heap.size hb.size (by omega) (by omega)).mono ?_; rintro e w3 ⟨rfl, hA2, hN⟩; replace hb := below_next hb hB0 hN; replace hA := hA.below hN; replace hrd := hrd.below hN; clear hN)
      | (at_builtin; refine wpList_copyRow (by rfl) _ _ (by rfl) (B := W.heap.size) (g := w3.heap.size) (by rfl) (by rfl) (hrd.alloc _) (heap_alloc_new w3 _) hb.size (by omega) ?_; intro v4 w4 ho4 hg4; have hN := below_lit hg4; have hrd4 := Rd.ofOwn ho4 hrd.1; replace hb := below_next hb hB0 hN; replace hA := hA.below hN; replace hA2 := hA2.below hN; replace hrd := hrd.below hN; clear hN)
      | (go_at_call 21; refine (fill_ok hA hb.size hrd4 (by omega) HM.out).mono ?_; rintro e w5 ⟨va, rfl, hU⟩; replace hA2 := hA2.keep2 hA hU hpn.symm (fun k hk => by simp [Value.ownBlock] at hk); replace hb := hb.trans (hU.below hA hb.size); replace hA := hU.ar; have hg := hrd.1; clear hU hrd hrd4 ho4 hg4)
      | (go_at_call 18; refine (words_any (w := w5) hA).mono ?_; rintro e w6 ⟨rfl, ho6, hN⟩; have hx := Rd.ofOwn ho6 hg; replace hb := below_next hb hB0 hN; replace hA := hA.below hN; replace hA2 := hA2.below hN; clear hN ho6)
      | (go_at_call 21; refine (fill_ok hA2 hb.size hx (by omega) HM.out).mono ?_; rintro e w7 ⟨vb, rfl, hU⟩; replace hA := hA.keep2 hA2 hU hpn (fun k _ => by simp [Value.ownBlock]); replace hb := hb.trans (hU.below hA2 hb.size); replace hA2 := hU.ar; clear hU hx)
      | (go_at_call 18; refine (words_any (w := w7) hA).mono ?_; rintro e w8 ⟨rfl, ho8, hN⟩; have hx := Rd.ofOwn ho8 hg; replace hb := below_next hb hB0 hN; replace hA := hA.below hN; replace hA2 := hA2.below hN; clear hN ho8)
      | (go_at_call 18; refine (words_any (w := w8) hA2).mono ?_; rintro e w9 ⟨rfl, ho9, hN⟩; have hy := Rd.ofOwn ho9 hg; replace hx := hx.below hN; replace hb := below_next hb hB0 hN; replace hA := hA.below hN; clear hN ho9)
      | (go_at_call 17; refine (same_b hx hy (by omega)).mono ?_; rintro e w10 ⟨rfl, hN⟩; replace hb := below_next hb hB0 hN; replace hA := hA.below hN; clear hN hx hy hA2)
      | (go_at_call 24; refine (cut_out hA cut (by omega)).mono ?_; rintro e w11 ⟨rfl, hw⟩; replace hb := below_next hb hB0 (below_eq hw); clear hw))
    go_ret
    exact ⟨rfl, hb⟩
set_option maxRecDepth 100000 in
set_option maxHeartbeats 3200000 in
theorem copies_few {W : World} (v : Value) (l : List Int) (hrd : Rd W v l) (hlen : l.length ≤ 600) (hall : AllMay l l.length) (k : Nat) (hk : k ≤ l.length) (n : Int) (hn : n < 1) :
    Calls Try.prog 6 #[v, .int .i64 (k : Int), .int .i64 n] W fun e w' => e = .returned (.bool true) ∧ Below W.heap.size W w' := by
  obtain ⟨ao, cv, rfl⟩ := hrd.shape
  have hB0 : W.heap.size ≤ W.heap.size := Nat.le_refl _
  have hlen' : decide ((600 : Int) < (l.length : Int)) = false := by simp; omega
  have HM : Hid (AllMay l l.length) := hall
  clear hall
  obtain ⟨L, hL⟩ : ∃ L, L = l.take k := ⟨_, rfl⟩
  have hLk : L.length = k := by rw [hL]; simp; omega
  have HL : Hid (L = l.take k) := hL
  clear hL
  go_enter Try.func6, Try.ntmps6
  go_wp2_with (first
    | (go_at_call 9; refine (lives_any _).mono ?_; rintro e w1 ⟨rfl, hb⟩; replace hrd := hrd.below hb)
    | (go_at_call 10; refine (new_ok 1000 w1 W.heap.size hb.size (by omega) (by omega)).mono ?_; rintro e w2 ⟨rfl, hA, hN⟩; replace hb := below_next hb hB0 hN; replace hrd := hrd.below hN; have hpn := Nat.ne_of_lt hA.lt; clear hN)
    | (go_at_call 10; refine (new_ok 1000 w2 W.heap.size hb.size (by omega) (by omega)).mono ?_; rintro e w3 ⟨rfl, hA2, hN⟩; replace hb := below_next hb hB0 hN; replace hA := hA.below hN; replace hrd := hrd.below hN; clear hN)
    | (at_builtin; refine wpList_copyRow (by rfl) _ _ (by rfl) (B := W.heap.size) (g := w3.heap.size) (by rfl) (by rfl) (hrd.alloc _) (heap_alloc_new w3 _) hb.size (by omega) ?_; intro v4 w4 ho4 hg4; have hN := below_lit hg4; have hrd4 := Rd.ofOwn ho4 hrd.1; replace hb := below_next hb hB0 hN; replace hA := hA.below hN; replace hA2 := hA2.below hN; replace hrd := hrd.below hN; clear hN)
    | (go_at_call 21; refine (fill_ok hA hb.size hrd4 (by omega) HM.out).mono ?_; rintro e w5 ⟨va, rfl, hU⟩; replace hA2 := hA2.keep2 hA hU hpn.symm (fun k hk => by simp [Value.ownBlock] at hk); replace hb := hb.trans (hU.below hA hb.size); replace hA := hU.ar; have hg := hrd.1; clear hU hrd hrd4 ho4 hg4)
    | (go_at_call 18; refine (words_any (w := w5) hA).mono ?_; rintro e w6 ⟨rfl, ho6, hN⟩; have hx := Rd.ofOwn ho6 hg; replace hb := below_next hb hB0 hN; replace hA := hA.below hN; replace hA2 := hA2.below hN; clear hN ho6)
    | (go_at_call 21; refine (fill_ok hA2 hb.size hx (by omega) HM.out).mono ?_; rintro e w7 ⟨vb, rfl, hU⟩; replace hA := hA.keep2 hA2 hU hpn (fun k _ => by simp [Value.ownBlock]); replace hb := hb.trans (hU.below hA2 hb.size); replace hA2 := hU.ar; clear hU hx)
    | (go_at_call 18; refine (words_any (w := w7) hA).mono ?_; rintro e w8 ⟨rfl, ho8, hN⟩; have hx := Rd.ofOwn ho8 hg; replace hb := below_next hb hB0 hN; replace hA := hA.below hN; replace hA2 := hA2.below hN; clear hN ho8)
    | (go_at_call 18; refine (words_any (w := w8) hA2).mono ?_; rintro e w9 ⟨rfl, ho9, hN⟩; have hy := Rd.ofOwn ho9 hg; replace hx := hx.below hN; replace hb := below_next hb hB0 hN; replace hA := hA.below hN; clear hN ho9)
    | (go_at_call 17; refine (same_b hx hy (by omega)).mono ?_; rintro e w10 ⟨rfl, hN⟩; replace hb := below_next hb hB0 hN; replace hA := hA.below hN; clear hN hx hy hA2)
    | (go_at_call 24; refine (cut_ok hA k hk).mono ?_; rintro e w11 ⟨v11, rfl, hU⟩; replace hb := hb.trans (hU.below hA hb.size); replace hA := hU.ar; clear hU; rw [← HL.out] at hA)
    | (go_at_call 19; refine (alloc_few hA n hn).mono ?_; rintro e w12 ⟨rfl, hw⟩; replace hb := below_next hb hB0 (below_eq hw); clear hw))
  go_ret
  exact ⟨rfl, hb⟩
set_option maxRecDepth 100000 in
set_option maxHeartbeats 3200000 in
theorem copies_full {W : World} (v : Value) (l : List Int) (hrd : Rd W v l) (hlen : l.length ≤ 600) (hall : AllMay l l.length) (k : Nat) (hk : k ≤ l.length) (n : Int) (hn : 1 ≤ n) (hf : (1000 : Int) - k < n) :
    Calls Try.prog 6 #[v, .int .i64 (k : Int), .int .i64 n] W fun e w' => e = .returned (.bool true) ∧ Below W.heap.size W w' := by
  obtain ⟨ao, cv, rfl⟩ := hrd.shape
  have hB0 : W.heap.size ≤ W.heap.size := Nat.le_refl _
  have hlen' : decide ((600 : Int) < (l.length : Int)) = false := by simp; omega
  have HM : Hid (AllMay l l.length) := hall
  clear hall
  obtain ⟨L, hL⟩ : ∃ L, L = l.take k := ⟨_, rfl⟩
  have hLk : L.length = k := by rw [hL]; simp; omega
  have HL : Hid (L = l.take k) := hL
  clear hL
  go_enter Try.func6, Try.ntmps6
  go_wp2_with (first
    | (go_at_call 9; refine (lives_any _).mono ?_; rintro e w1 ⟨rfl, hb⟩; replace hrd := hrd.below hb)
    | (go_at_call 10; refine (new_ok 1000 w1 W.heap.size hb.size (by omega) (by omega)).mono ?_; rintro e w2 ⟨rfl, hA, hN⟩; replace hb := below_next hb hB0 hN; replace hrd := hrd.below hN; have hpn := Nat.ne_of_lt hA.lt; clear hN)
    | (go_at_call 10; refine (new_ok 1000 w2 W.heap.size hb.size (by omega) (by omega)).mono ?_; rintro e w3 ⟨rfl, hA2, hN⟩; replace hb := below_next hb hB0 hN; replace hA := hA.below hN; replace hrd := hrd.below hN; clear hN)
    | (at_builtin; refine wpList_copyRow (by rfl) _ _ (by rfl) (B := W.heap.size) (g := w3.heap.size) (by rfl) (by rfl) (hrd.alloc _) (heap_alloc_new w3 _) hb.size (by omega) ?_; intro v4 w4 ho4 hg4; have hN := below_lit hg4; have hrd4 := Rd.ofOwn ho4 hrd.1; replace hb := below_next hb hB0 hN; replace hA := hA.below hN; replace hA2 := hA2.below hN; replace hrd := hrd.below hN; clear hN)
    | (go_at_call 21; refine (fill_ok hA hb.size hrd4 (by omega) HM.out).mono ?_; rintro e w5 ⟨va, rfl, hU⟩; replace hA2 := hA2.keep2 hA hU hpn.symm (fun k hk => by simp [Value.ownBlock] at hk); replace hb := hb.trans (hU.below hA hb.size); replace hA := hU.ar; have hg := hrd.1; clear hU hrd hrd4 ho4 hg4)
    | (go_at_call 18; refine (words_any (w := w5) hA).mono ?_; rintro e w6 ⟨rfl, ho6, hN⟩; have hx := Rd.ofOwn ho6 hg; replace hb := below_next hb hB0 hN; replace hA := hA.below hN; replace hA2 := hA2.below hN; clear hN ho6)
    | (go_at_call 21; refine (fill_ok hA2 hb.size hx (by omega) HM.out).mono ?_; rintro e w7 ⟨vb, rfl, hU⟩; replace hA := hA.keep2 hA2 hU hpn (fun k _ => by simp [Value.ownBlock]); replace hb := hb.trans (hU.below hA2 hb.size); replace hA2 := hU.ar; clear hU hx)
    | (go_at_call 18; refine (words_any (w := w7) hA).mono ?_; rintro e w8 ⟨rfl, ho8, hN⟩; have hx := Rd.ofOwn ho8 hg; replace hb := below_next hb hB0 hN; replace hA := hA.below hN; replace hA2 := hA2.below hN; clear hN ho8)
    | (go_at_call 18; refine (words_any (w := w8) hA2).mono ?_; rintro e w9 ⟨rfl, ho9, hN⟩; have hy := Rd.ofOwn ho9 hg; replace hx := hx.below hN; replace hb := below_next hb hB0 hN; replace hA := hA.below hN; clear hN ho9)
    | (go_at_call 17; refine (same_b hx hy (by omega)).mono ?_; rintro e w10 ⟨rfl, hN⟩; replace hb := below_next hb hB0 hN; replace hA := hA.below hN; clear hN hx hy hA2)
    | (go_at_call 24; refine (cut_ok hA k hk).mono ?_; rintro e w11 ⟨v11, rfl, hU⟩; replace hb := hb.trans (hU.below hA hb.size); replace hA := hU.ar; clear hU; rw [← HL.out] at hA)
    | (go_at_call 19; refine (alloc_full hA n hn (by rw [hLk]; omega)).mono ?_; rintro e w12 ⟨rfl, hw⟩; replace hb := below_next hb hB0 (below_eq hw); clear hw))
  go_ret
  exact ⟨rfl, hb⟩
theorem frsh_at (L : List Int) (k N j : Nat) (hL : L.length = k) (h1 : k ≤ j) (h2 : j < k + N) : (L ++ frsh k N).getD j 0 = 8 * (j : Int) := by
  subst hL
  have h4 : j - L.length < N := by omega
  simp [List.getD, List.getElem?_append_right h1, frsh, h4]
  omega
set_option maxRecDepth 100000 in
set_option maxHeartbeats 3200000 in
theorem copies_ok {W : World} (v : Value) (l : List Int) (hrd : Rd W v l) (hlen : l.length ≤ 600) (hall : AllMay l l.length) (k : Nat) (hk : k ≤ l.length) (N : Nat) (hn : 1 ≤ N) (hf : k + N ≤ 1000) :
    Calls Try.prog 6 #[v, .int .i64 (k : Int), .int .i64 (N : Int)] W fun e w' => e = .returned (.bool true) ∧ Below W.heap.size W w' := by
  obtain ⟨ao, cv, rfl⟩ := hrd.shape
  have hB0 : W.heap.size ≤ W.heap.size := Nat.le_refl _
  have hlen' : decide ((600 : Int) < (l.length : Int)) = false := by simp; omega
  have HM : Hid (AllMay l l.length) := hall
  clear hall
  obtain ⟨L, hL⟩ : ∃ L, L = l.take k := ⟨_, rfl⟩
  have hLk : L.length = k := by rw [hL]; simp; omega
  have HL : Hid (L = l.take k) := hL
  clear hL
  obtain ⟨M, hM⟩ : ∃ M, M = L ++ frsh L.length N := ⟨_, rfl⟩
  have hMk : M.length = k + N := by rw [hM]; simp [frsh_len, hLk]
  have hMj : ∀ j, k ≤ j → j < k + N → M.getD j 0 = 8 * (j : Int) := fun j h1 h2 => by rw [hM, hLk]; exact frsh_at L k N j hLk h1 h2
  have HMJ : Hid (∀ j, k ≤ j → j < k + N → M.getD j 0 = 8 * (j : Int)) := hMj
  have HME : Hid (M = L ++ frsh L.length N) := hM
  clear hM hMj
  go_enter Try.func6, Try.ntmps6
  go_wp2_with (first
    | (go_at_call 9; refine (lives_any _).mono ?_; rintro e w1 ⟨rfl, hb⟩; replace hrd := hrd.below hb)
    | (go_at_call 10; refine (new_ok 1000 w1 W.heap.size hb.size (by omega) (by omega)).mono ?_; rintro e w2 ⟨rfl, hA, hN⟩; replace hb := below_next hb hB0 hN; replace hrd := hrd.below hN; have hpn := Nat.ne_of_lt hA.lt; clear hN)
    | (go_at_call 10; refine (new_ok 1000 w2 W.heap.size hb.size (by omega) (by omega)).mono ?_; rintro e w3 ⟨rfl, hA2, hN⟩; replace hb := below_next hb hB0 hN; replace hA := hA.below hN; replace hrd := hrd.below hN; clear hN)
    | (at_builtin; refine wpList_copyRow (by rfl) _ _ (by rfl) (B := W.heap.size) (g := w3.heap.size) (by rfl) (by rfl) (hrd.alloc _) (heap_alloc_new w3 _) hb.size (by omega) ?_; intro v4 w4 ho4 hg4; have hN := below_lit hg4; have hrd4 := Rd.ofOwn ho4 hrd.1; replace hb := below_next hb hB0 hN; replace hA := hA.below hN; replace hA2 := hA2.below hN; replace hrd := hrd.below hN; clear hN)
    | (go_at_call 21; refine (fill_ok hA hb.size hrd4 (by omega) HM.out).mono ?_; rintro e w5 ⟨va, rfl, hU⟩; replace hA2 := hA2.keep2 hA hU hpn.symm (fun k hk => by simp [Value.ownBlock] at hk); replace hb := hb.trans (hU.below hA hb.size); replace hA := hU.ar; have hg := hrd.1; clear hU hrd hrd4 ho4 hg4)
    | (go_at_call 18; refine (words_any (w := w5) hA).mono ?_; rintro e w6 ⟨rfl, ho6, hN⟩; have hx := Rd.ofOwn ho6 hg; replace hb := below_next hb hB0 hN; replace hA := hA.below hN; replace hA2 := hA2.below hN; clear hN ho6)
    | (go_at_call 21; refine (fill_ok hA2 hb.size hx (by omega) HM.out).mono ?_; rintro e w7 ⟨vb, rfl, hU⟩; replace hA := hA.keep2 hA2 hU hpn (fun k _ => by simp [Value.ownBlock]); replace hb := hb.trans (hU.below hA2 hb.size); replace hA2 := hU.ar; clear hU hx)
    | (go_at_call 18; refine (words_any (w := w7) hA).mono ?_; rintro e w8 ⟨rfl, ho8, hN⟩; have hx := Rd.ofOwn ho8 hg; replace hb := below_next hb hB0 hN; replace hA := hA.below hN; replace hA2 := hA2.below hN; clear hN ho8)
    | (go_at_call 18; refine (words_any (w := w8) hA2).mono ?_; rintro e w9 ⟨rfl, ho9, hN⟩; have hy := Rd.ofOwn ho9 hg; replace hx := hx.below hN; replace hb := below_next hb hB0 hN; replace hA := hA.below hN; clear hN ho9)
    | (go_at_call 17; refine (same_b hx hy (by omega)).mono ?_; rintro e w10 ⟨rfl, hN⟩; replace hb := below_next hb hB0 hN; replace hA := hA.below hN; clear hN hx hy hA2)
    | (go_at_call 24; refine (cut_ok hA k hk).mono ?_; rintro e w11 ⟨v11, rfl, hU⟩; replace hb := hb.trans (hU.below hA hb.size); replace hA := hU.ar; clear hU; rw [← HL.out] at hA)
    | (go_at_call 19; refine (alloc_ok hA hb.size N hn (by rw [hLk]; omega)).mono ?_; rintro e w12 ⟨v12, rfl, hU⟩; replace hb := hb.trans (hU.below hA hb.size); replace hA := hU.ar; clear hU; rw [← HME.out] at hA)
    | (go_at_call 15; refine (top_any hA).mono ?_; rintro e w12 ⟨rfl, rfl⟩))
  go_loop [12] (fun i => ∃ j : Nat, k ≤ j ∧ j ≤ k + N ∧ i = .int .i64 j) (fun i => k + N - (intOf i).toNat)
  case atStart => exact ⟨k, Nat.le_refl _, by omega, rfl⟩
  case round =>
    obtain ⟨j, hj1, hj2, rfl⟩ := hrel
    by_cases hlt : j < k + N
    · have HLd : Hid (Calls Try.prog 23 #[.pointer (some ⟨w1.heap.size, 0, none⟩), .int .i64 (j : Int)] w12 fun e w' => e = .returned (.tuple #[.int .u64 (8 * (j : Int)), .nilIface]) ∧ w' = w12) := by
        have h := load_ok hA j (by omega)
        rw [HMJ.out j hj1 hlt] at h
        exact h
      have hw1 : IntKind.u64.wrap (j : Int) = j := by rw [IntKind.wrap_u64]; omega
      have hw2 : IntKind.u64.wrap (8 * (j : Int)) = 8 * j := by rw [IntKind.wrap_u64]; omega
      have hlt' : (j : Int) < ((k + N : Nat) : Int) := by omega
      go_wp2_with (first
        | (go_at_call 15; refine (top_any hA).mono ?_; rintro e w12 ⟨rfl, rfl⟩)
        | (go_at_call 23; refine HLd.out.mono ?_; rintro e w12 ⟨rfl, rfl⟩))
      all_goals
        go_round
        case rel => exact ⟨j + 1, by omega, by omega, by go_num⟩
        case measure => simp [intOf]; omega
    · have hlt' : ¬ (j : Int) < ((k + N : Nat) : Int) := by omega
      go_wp2_with (go_at_call 15; refine (top_any hA).mono ?_; rintro e w12 ⟨rfl, rfl⟩)
      go_ret
      exact ⟨rfl, hb⟩
theorem arenaCopies_walk {W : World} (v : Value) (l : List Int) (hrd : Rd W v l) (_hz : l.length * 8 ≤ 140737488351232) (cut : Int) (_hc : -9223372036854775808 ≤ cut ∧ cut ≤ 9223372036854775807) (n : Int) (_hn : -9223372036854775808 ≤ n ∧ n ≤ 9223372036854775807) :
    Calls Try.prog 6 #[v, .int .i64 cut, .int .i64 n] W fun e w' => e = .returned (.bool true) ∧ Below W.heap.size W w' := by
  by_cases hlen : 600 < l.length
  · exact copies_long v l hrd cut n hlen
  rcases may_or l l.length with hall | ⟨i, hbad⟩
  · by_cases hc0 : cut < 0
    · exact copies_out v l hrd (by omega) hall cut n (Or.inl hc0)
    by_cases hc1 : (l.length : Int) < cut
    · exact copies_out v l hrd (by omega) hall cut n (Or.inr ⟨by omega, hc1⟩)
    obtain ⟨k, rfl⟩ : ∃ k : Nat, cut = k := ⟨cut.toNat, by omega⟩
    by_cases hn0 : n < 1
    · exact copies_few v l hrd (by omega) hall k (by omega) n hn0
    by_cases hn1 : (1000 : Int) - k < n
    · exact copies_full v l hrd (by omega) hall k (by omega) n (by omega) hn1
    obtain ⟨N, rfl⟩ : ∃ N : Nat, n = N := ⟨n.toNat, by omega⟩
    exact copies_ok v l hrd (by omega) hall k (by omega) N (by omega) (by omega)
  · exact copies_bad v l hrd cut n (by omega) i hbad
end Go.Proofs.Ytmpnniabgkhkjaa

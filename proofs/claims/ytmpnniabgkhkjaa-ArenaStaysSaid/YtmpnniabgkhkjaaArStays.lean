/- ArenaStays: a call that an arena refuses changes nothing, whatever the arguments. No conditions. -/
import Derived.Test.YtmpnniabgkhkjaaArRes
namespace Go.Proofs.Ytmpnniabgkhkjaa
open Go.ChangeShapes Go.WideShapes Go.ChangeAt Go.RowKit

set_option maxRecDepth 100000 in
set_option maxHeartbeats 3200000 in
theorem stays_long {W : World} (v : Value) (l : List Int) (hrd0 : Rd W v l) (k : Int) (n u : Int) (s : Value) (x : List Int) (hs0 : Rd W s x) (hl : 600 < l.length) :
    Calls Try.prog 5 #[v, .agg #[.int .i64 k, .int .i64 n, .int .u64 u, s]] W fun e w' => e = .returned (.bool true) ∧ Below W.heap.size W w' := by
  have hbW : Below W.heap.size W (W.alloc (.cells #[.int .i64 k, .int .i64 n, .int .u64 u, s] 40)) := below_alloc _ _
  have hbox := box4_new W (.int .i64 k) (.int .i64 n) (.int .u64 u) s 40
  have hrd := hrd0.below hbW
  have hlow := hrd.low
  have hs := hs0.below hbW
  have hslow := hs.low
  obtain ⟨W0, hW0⟩ : ∃ W0, W0 = W.alloc (.cells #[.int .i64 k, .int .i64 n, .int .u64 u, s] 40) := ⟨_, rfl⟩
  have hWs : W0.heap.size = W.heap.size + 1 := by rw [hW0]; simp
  rw [← hW0] at hbW hbox hrd hlow hs hslow
  have HW0 : Hid (W0 = W.alloc (.cells #[.int .i64 k, .int .i64 n, .int .u64 u, s] 40)) := hW0
  clear hW0
  have hbB : W.heap.size < W0.heap.size := by omega
  have hsh := hs.shape
  obtain ⟨ao, cv, rfl⟩ := hrd0.shape
  obtain ⟨sa, sc, rfl⟩ := hsh
  clear hrd0 hs0
  have hl' : (600 : Int) < (l.length : Int) := by omega
  go_enter Try.func5, Try.ntmps5
  go_wp2_with (first
    | (go_at_call 9; refine (lives_any _).mono ?_; rintro e w1 ⟨rfl, hb⟩; rw [← HW0.out] at hb; obtain ⟨kl, k0, k1, k2, k3⟩ := hbox.belowB hb hbB)
    | (go_at_call 10; refine (new_ok 600 w1 (W.heap.size + 1) (hWs ▸ hb.size) (by omega) (by omega)).mono ?_; rintro e w2 ⟨rfl, hA, hN⟩; replace hb := below_next hb (Nat.le_refl _) hN; obtain ⟨kl, k0, k1, k2, k3⟩ := hbox.belowB hb hbB; clear hN))
  all_goals
    go_ret
    exact ⟨rfl, hbW.trans (hb.mono (by omega))⟩
set_option maxRecDepth 100000 in
set_option maxHeartbeats 3200000 in
theorem stays_wide {W : World} (v : Value) (l : List Int) (hrd0 : Rd W v l) (k : Int) (n u : Int) (s : Value) (x : List Int) (hs0 : Rd W s x) (hl : l.length ≤ 600) (hx : 2000 < x.length) :
    Calls Try.prog 5 #[v, .agg #[.int .i64 k, .int .i64 n, .int .u64 u, s]] W fun e w' => e = .returned (.bool true) ∧ Below W.heap.size W w' := by
  have hbW : Below W.heap.size W (W.alloc (.cells #[.int .i64 k, .int .i64 n, .int .u64 u, s] 40)) := below_alloc _ _
  have hbox := box4_new W (.int .i64 k) (.int .i64 n) (.int .u64 u) s 40
  have hrd := hrd0.below hbW
  have hlow := hrd.low
  have hs := hs0.below hbW
  have hslow := hs.low
  obtain ⟨W0, hW0⟩ : ∃ W0, W0 = W.alloc (.cells #[.int .i64 k, .int .i64 n, .int .u64 u, s] 40) := ⟨_, rfl⟩
  have hWs : W0.heap.size = W.heap.size + 1 := by rw [hW0]; simp
  rw [← hW0] at hbW hbox hrd hlow hs hslow
  have HW0 : Hid (W0 = W.alloc (.cells #[.int .i64 k, .int .i64 n, .int .u64 u, s] 40)) := hW0
  clear hW0
  have hbB : W.heap.size < W0.heap.size := by omega
  have hsh := hs.shape
  obtain ⟨ao, cv, rfl⟩ := hrd0.shape
  obtain ⟨sa, sc, rfl⟩ := hsh
  clear hrd0 hs0
  have hl' : decide ((600 : Int) < (l.length : Int)) = false := by simp; omega
  have hx' : (2000 : Int) < (x.length : Int) := by omega
  go_enter Try.func5, Try.ntmps5
  go_wp2_with (first
    | (go_at_call 9; refine (lives_any _).mono ?_; rintro e w1 ⟨rfl, hb⟩; rw [← HW0.out] at hb; obtain ⟨kl, k0, k1, k2, k3⟩ := hbox.belowB hb hbB)
    | (go_at_call 10; refine (new_ok 600 w1 (W.heap.size + 1) (hWs ▸ hb.size) (by omega) (by omega)).mono ?_; rintro e w2 ⟨rfl, hA, hN⟩; replace hb := below_next hb (Nat.le_refl _) hN; obtain ⟨kl, k0, k1, k2, k3⟩ := hbox.belowB hb hbB; clear hN))
  all_goals
    go_ret
    exact ⟨rfl, hbW.trans (hb.mono (by omega))⟩
set_option maxRecDepth 100000 in
set_option maxHeartbeats 3200000 in
theorem stays_bad {W : World} (v : Value) (l : List Int) (hrd0 : Rd W v l) (k : Int) (n u : Int) (s : Value) (x : List Int) (hs0 : Rd W s x) (hl : l.length ≤ 600) (hx : x.length ≤ 2000) (i : Nat) (hbad : FirstBad l l.length i) :
    Calls Try.prog 5 #[v, .agg #[.int .i64 k, .int .i64 n, .int .u64 u, s]] W fun e w' => e = .returned (.bool true) ∧ Below W.heap.size W w' := by
  have hbW : Below W.heap.size W (W.alloc (.cells #[.int .i64 k, .int .i64 n, .int .u64 u, s] 40)) := below_alloc _ _
  have hbox := box4_new W (.int .i64 k) (.int .i64 n) (.int .u64 u) s 40
  have hrd := hrd0.below hbW
  have hlow := hrd.low
  have hs := hs0.below hbW
  have hslow := hs.low
  obtain ⟨W0, hW0⟩ : ∃ W0, W0 = W.alloc (.cells #[.int .i64 k, .int .i64 n, .int .u64 u, s] 40) := ⟨_, rfl⟩
  have hWs : W0.heap.size = W.heap.size + 1 := by rw [hW0]; simp
  rw [← hW0] at hbW hbox hrd hlow hs hslow
  have HW0 : Hid (W0 = W.alloc (.cells #[.int .i64 k, .int .i64 n, .int .u64 u, s] 40)) := hW0
  clear hW0
  have hbB : W.heap.size < W0.heap.size := by omega
  have hsh := hs.shape
  obtain ⟨ao, cv, rfl⟩ := hrd0.shape
  obtain ⟨sa, sc, rfl⟩ := hsh
  clear hrd0 hs0
  have hl' : decide ((600 : Int) < (l.length : Int)) = false := by simp; omega
  have hx' : decide ((2000 : Int) < (x.length : Int)) = false := by simp; omega
  have HM : Hid (FirstBad l l.length i) := hbad
  clear hbad
  go_enter Try.func5, Try.ntmps5
  go_wp2_with (first
    | (go_at_call 9; refine (lives_any _).mono ?_; rintro e w1 ⟨rfl, hb⟩; rw [← HW0.out] at hb; obtain ⟨kl, k0, k1, k2, k3⟩ := hbox.belowB hb hbB)
    | (go_at_call 10; refine (new_ok 600 w1 (W.heap.size + 1) (hWs ▸ hb.size) (by omega) (by omega)).mono ?_; rintro e w2 ⟨rfl, hA, hN⟩; replace hb := below_next hb (Nat.le_refl _) hN; obtain ⟨kl, k0, k1, k2, k3⟩ := hbox.belowB hb hbB; clear hN)
    | (at_builtin; refine wpList_copyRow (by rfl) _ _ (by rfl) (B := W.heap.size + 1) (g := w2.heap.size) (by rfl) (by rfl) ((hrd.old hb hlow).alloc _) (heap_alloc_new w2 _) (hWs ▸ hb.size) (by omega) ?_; intro v4 w4 ho4 hg4; have hN := below_lit hg4; have hrd4 := Rd.ofOwn ho4 hrd.1; replace hb := below_next hb (Nat.le_refl _) hN; replace hA := hA.below hN; obtain ⟨kl, k0, k1, k2, k3⟩ := hbox.belowB hb hbB; clear hN)
    | (go_at_call 21; refine (fill_bad (w := w4) hA hrd4 (by omega) HM.out).mono ?_; rintro e w5 ⟨rfl, hw⟩; replace hb := below_next hb (Nat.le_refl _) (below_eq hw); clear hw))
  all_goals
    go_ret
    exact ⟨rfl, hbW.trans (hb.mono (by omega))⟩
set_option maxRecDepth 100000 in
set_option maxHeartbeats 3200000 in
theorem stays_alloc {W : World} (v : Value) (l : List Int) (hrd0 : Rd W v l) (n u : Int) (s : Value) (x : List Int) (hs0 : Rd W s x) (hl : l.length ≤ 600) (hx : x.length ≤ 2000) (hall : AllMay l l.length) :
    Calls Try.prog 5 #[v, .agg #[.int .i64 0, .int .i64 n, .int .u64 u, s]] W fun e w' => e = .returned (.bool true) ∧ Below W.heap.size W w' := by
  have hbW : Below W.heap.size W (W.alloc (.cells #[.int .i64 0, .int .i64 n, .int .u64 u, s] 40)) := below_alloc _ _
  have hbox := box4_new W (.int .i64 0) (.int .i64 n) (.int .u64 u) s 40
  have hrd := hrd0.below hbW
  have hlow := hrd.low
  have hs := hs0.below hbW
  have hslow := hs.low
  obtain ⟨W0, hW0⟩ : ∃ W0, W0 = W.alloc (.cells #[.int .i64 0, .int .i64 n, .int .u64 u, s] 40) := ⟨_, rfl⟩
  have hWs : W0.heap.size = W.heap.size + 1 := by rw [hW0]; simp
  rw [← hW0] at hbW hbox hrd hlow hs hslow
  have HW0 : Hid (W0 = W.alloc (.cells #[.int .i64 0, .int .i64 n, .int .u64 u, s] 40)) := hW0
  clear hW0
  have hbB : W.heap.size < W0.heap.size := by omega
  have hsh := hs.shape
  obtain ⟨ao, cv, rfl⟩ := hrd0.shape
  obtain ⟨sa, sc, rfl⟩ := hsh
  clear hrd0 hs0
  have hl' : decide ((600 : Int) < (l.length : Int)) = false := by simp; omega
  have hx' : decide ((2000 : Int) < (x.length : Int)) = false := by simp; omega
  have HM : Hid (AllMay l l.length) := hall
  clear hall
  obtain ⟨c, a, r, l', hR⟩ := allocR_ex 600 l n
  have HR : Hid (AllocR 600 l n c a r l') := hR
  clear hR
  go_enter Try.func5, Try.ntmps5
  go_wp2_with (first
    | (go_at_call 9; refine (lives_any _).mono ?_; rintro e w1 ⟨rfl, hb⟩; rw [← HW0.out] at hb; obtain ⟨kl, k0, k1, k2, k3⟩ := hbox.belowB hb hbB)
    | (go_at_call 10; refine (new_ok 600 w1 (W.heap.size + 1) (hWs ▸ hb.size) (by omega) (by omega)).mono ?_; rintro e w2 ⟨rfl, hA, hN⟩; replace hb := below_next hb (Nat.le_refl _) hN; obtain ⟨kl, k0, k1, k2, k3⟩ := hbox.belowB hb hbB; clear hN)
    | (at_builtin; refine wpList_copyRow (by rfl) _ _ (by rfl) (B := W.heap.size + 1) (g := w2.heap.size) (by rfl) (by rfl) ((hrd.old hb hlow).alloc _) (heap_alloc_new w2 _) (hWs ▸ hb.size) (by omega) ?_; intro v4 w4 ho4 hg4; have hN := below_lit hg4; have hrd4 := Rd.ofOwn ho4 hrd.1; replace hb := below_next hb (Nat.le_refl _) hN; replace hA := hA.below hN; obtain ⟨kl, k0, k1, k2, k3⟩ := hbox.belowB hb hbB; clear hN)
    | (go_at_call 21; refine (fill_ok (w := w4) hA (hWs ▸ hb.size) hrd4 (by omega) HM.out).mono ?_; rintro e w5 ⟨va, rfl, hU⟩; replace hb := hb.trans (hWs ▸ hU.below hA (hWs ▸ hb.size)); replace hA := hU.ar; obtain ⟨kl, k0, k1, k2, k3⟩ := hbox.belowB hb hbB; clear hU hrd4 ho4 hg4)
    | (go_at_call 19; refine (alloc_r (w := w5) hA (hWs ▸ hb.size) HR.out).mono ?_; rintro e w6 ⟨er, v6, rfl, hE, hU⟩; replace hb := hb.trans (hWs ▸ hU.below hA (hWs ▸ hb.size)); rcases hE with ⟨_, rfl⟩ | ⟨hc, b, rfl, _⟩; rotate_left; (have hst := allocR_stays HR.out hc; have hA' := hU.ar; rw [hst] at hA'; clear hU hst hA; have hA := hA'; clear hA'))
    | (go_at_call 18; refine (words_any (w := w6) hA).mono ?_; rintro e w7 ⟨rfl, ho7, hN⟩; have hx := Rd.ofOwn ho7 hrd.1; replace hb := below_next hb (Nat.le_refl _) hN; replace hA := hA.below hN; clear hN ho7)
    | (go_at_call 17; refine (same_b hx (hrd.old hb hlow) (by omega)).mono ?_; rintro e w8 ⟨rfl, hN⟩; replace hb := below_next hb (Nat.le_refl _) hN; replace hA := hA.below hN; clear hN hx)
    | (go_at_call 15; refine (top_any hA).mono ?_; rintro e w8 ⟨rfl, rfl⟩))
  all_goals
    go_ret
    exact ⟨rfl, hbW.trans (hb.mono (by omega))⟩
set_option maxRecDepth 100000 in
set_option maxHeartbeats 3200000 in
theorem stays_load {W : World} (v : Value) (l : List Int) (hrd0 : Rd W v l) (n u : Int) (s : Value) (x : List Int) (hs0 : Rd W s x) (hl : l.length ≤ 600) (hx : x.length ≤ 2000) (hall : AllMay l l.length) :
    Calls Try.prog 5 #[v, .agg #[.int .i64 1, .int .i64 n, .int .u64 u, s]] W fun e w' => e = .returned (.bool true) ∧ Below W.heap.size W w' := by
  have hbW : Below W.heap.size W (W.alloc (.cells #[.int .i64 1, .int .i64 n, .int .u64 u, s] 40)) := below_alloc _ _
  have hbox := box4_new W (.int .i64 1) (.int .i64 n) (.int .u64 u) s 40
  have hrd := hrd0.below hbW
  have hlow := hrd.low
  have hs := hs0.below hbW
  have hslow := hs.low
  obtain ⟨W0, hW0⟩ : ∃ W0, W0 = W.alloc (.cells #[.int .i64 1, .int .i64 n, .int .u64 u, s] 40) := ⟨_, rfl⟩
  have hWs : W0.heap.size = W.heap.size + 1 := by rw [hW0]; simp
  rw [← hW0] at hbW hbox hrd hlow hs hslow
  have HW0 : Hid (W0 = W.alloc (.cells #[.int .i64 1, .int .i64 n, .int .u64 u, s] 40)) := hW0
  clear hW0
  have hbB : W.heap.size < W0.heap.size := by omega
  have hsh := hs.shape
  obtain ⟨ao, cv, rfl⟩ := hrd0.shape
  obtain ⟨sa, sc, rfl⟩ := hsh
  clear hrd0 hs0
  have hl' : decide ((600 : Int) < (l.length : Int)) = false := by simp; omega
  have hx' : decide ((2000 : Int) < (x.length : Int)) = false := by simp; omega
  have HM : Hid (AllMay l l.length) := hall
  clear hall
  obtain ⟨c, a, r, hR⟩ := loadR_ex l n
  have HR : Hid (LoadR l n c a r) := hR
  clear hR
  go_enter Try.func5, Try.ntmps5
  go_wp2_with (first
    | (go_at_call 9; refine (lives_any _).mono ?_; rintro e w1 ⟨rfl, hb⟩; rw [← HW0.out] at hb; obtain ⟨kl, k0, k1, k2, k3⟩ := hbox.belowB hb hbB)
    | (go_at_call 10; refine (new_ok 600 w1 (W.heap.size + 1) (hWs ▸ hb.size) (by omega) (by omega)).mono ?_; rintro e w2 ⟨rfl, hA, hN⟩; replace hb := below_next hb (Nat.le_refl _) hN; obtain ⟨kl, k0, k1, k2, k3⟩ := hbox.belowB hb hbB; clear hN)
    | (at_builtin; refine wpList_copyRow (by rfl) _ _ (by rfl) (B := W.heap.size + 1) (g := w2.heap.size) (by rfl) (by rfl) ((hrd.old hb hlow).alloc _) (heap_alloc_new w2 _) (hWs ▸ hb.size) (by omega) ?_; intro v4 w4 ho4 hg4; have hN := below_lit hg4; have hrd4 := Rd.ofOwn ho4 hrd.1; replace hb := below_next hb (Nat.le_refl _) hN; replace hA := hA.below hN; obtain ⟨kl, k0, k1, k2, k3⟩ := hbox.belowB hb hbB; clear hN)
    | (go_at_call 21; refine (fill_ok (w := w4) hA (hWs ▸ hb.size) hrd4 (by omega) HM.out).mono ?_; rintro e w5 ⟨va, rfl, hU⟩; replace hb := hb.trans (hWs ▸ hU.below hA (hWs ▸ hb.size)); replace hA := hU.ar; obtain ⟨kl, k0, k1, k2, k3⟩ := hbox.belowB hb hbB; clear hU hrd4 ho4 hg4)
    | (go_at_call 23; refine (load_r (w := w5) hA HR.out).mono ?_; rintro e w6 ⟨er, rfl, hE, hU⟩; replace hb := hb.trans (hWs ▸ hU.below hA (hWs ▸ hb.size)); replace hA := hU.ar; clear hU; rcases hE with ⟨_, rfl⟩ | ⟨hc, b, rfl, _⟩)
    | (go_at_call 18; refine (words_any (w := w6) hA).mono ?_; rintro e w7 ⟨rfl, ho7, hN⟩; have hx := Rd.ofOwn ho7 hrd.1; replace hb := below_next hb (Nat.le_refl _) hN; replace hA := hA.below hN; clear hN ho7)
    | (go_at_call 17; refine (same_b hx (hrd.old hb hlow) (by omega)).mono ?_; rintro e w8 ⟨rfl, hN⟩; replace hb := below_next hb (Nat.le_refl _) hN; replace hA := hA.below hN; clear hN hx)
    | (go_at_call 15; refine (top_any hA).mono ?_; rintro e w8 ⟨rfl, rfl⟩))
  all_goals
    go_ret
    exact ⟨rfl, hbW.trans (hb.mono (by omega))⟩
set_option maxRecDepth 100000 in
set_option maxHeartbeats 3200000 in
theorem stays_store {W : World} (v : Value) (l : List Int) (hrd0 : Rd W v l) (n u : Int) (s : Value) (x : List Int) (hs0 : Rd W s x) (hl : l.length ≤ 600) (hx : x.length ≤ 2000) (hall : AllMay l l.length) (hu : 0 ≤ u ∧ u ≤ 18446744073709551615) :
    Calls Try.prog 5 #[v, .agg #[.int .i64 2, .int .i64 n, .int .u64 u, s]] W fun e w' => e = .returned (.bool true) ∧ Below W.heap.size W w' := by
  have hbW : Below W.heap.size W (W.alloc (.cells #[.int .i64 2, .int .i64 n, .int .u64 u, s] 40)) := below_alloc _ _
  have hbox := box4_new W (.int .i64 2) (.int .i64 n) (.int .u64 u) s 40
  have hrd := hrd0.below hbW
  have hlow := hrd.low
  have hs := hs0.below hbW
  have hslow := hs.low
  obtain ⟨W0, hW0⟩ : ∃ W0, W0 = W.alloc (.cells #[.int .i64 2, .int .i64 n, .int .u64 u, s] 40) := ⟨_, rfl⟩
  have hWs : W0.heap.size = W.heap.size + 1 := by rw [hW0]; simp
  rw [← hW0] at hbW hbox hrd hlow hs hslow
  have HW0 : Hid (W0 = W.alloc (.cells #[.int .i64 2, .int .i64 n, .int .u64 u, s] 40)) := hW0
  clear hW0
  have hbB : W.heap.size < W0.heap.size := by omega
  have hsh := hs.shape
  obtain ⟨ao, cv, rfl⟩ := hrd0.shape
  obtain ⟨sa, sc, rfl⟩ := hsh
  clear hrd0 hs0
  have hl' : decide ((600 : Int) < (l.length : Int)) = false := by simp; omega
  have hx' : decide ((2000 : Int) < (x.length : Int)) = false := by simp; omega
  have HM : Hid (AllMay l l.length) := hall
  clear hall
  obtain ⟨c, a, l', hR⟩ := storeR_ex l n u
  have HR : Hid (StoreR l n u c a l') := hR
  clear hR
  go_enter Try.func5, Try.ntmps5
  go_wp2_with (first
    | (go_at_call 9; refine (lives_any _).mono ?_; rintro e w1 ⟨rfl, hb⟩; rw [← HW0.out] at hb; obtain ⟨kl, k0, k1, k2, k3⟩ := hbox.belowB hb hbB)
    | (go_at_call 10; refine (new_ok 600 w1 (W.heap.size + 1) (hWs ▸ hb.size) (by omega) (by omega)).mono ?_; rintro e w2 ⟨rfl, hA, hN⟩; replace hb := below_next hb (Nat.le_refl _) hN; obtain ⟨kl, k0, k1, k2, k3⟩ := hbox.belowB hb hbB; clear hN)
    | (at_builtin; refine wpList_copyRow (by rfl) _ _ (by rfl) (B := W.heap.size + 1) (g := w2.heap.size) (by rfl) (by rfl) ((hrd.old hb hlow).alloc _) (heap_alloc_new w2 _) (hWs ▸ hb.size) (by omega) ?_; intro v4 w4 ho4 hg4; have hN := below_lit hg4; have hrd4 := Rd.ofOwn ho4 hrd.1; replace hb := below_next hb (Nat.le_refl _) hN; replace hA := hA.below hN; obtain ⟨kl, k0, k1, k2, k3⟩ := hbox.belowB hb hbB; clear hN)
    | (go_at_call 21; refine (fill_ok (w := w4) hA (hWs ▸ hb.size) hrd4 (by omega) HM.out).mono ?_; rintro e w5 ⟨va, rfl, hU⟩; replace hb := hb.trans (hWs ▸ hU.below hA (hWs ▸ hb.size)); replace hA := hU.ar; obtain ⟨kl, k0, k1, k2, k3⟩ := hbox.belowB hb hbB; clear hU hrd4 ho4 hg4)
    | (go_at_call 20; refine (store_r (w := w5) hA hu.1 hu.2 HR.out).mono ?_; rintro e w6 ⟨er, v6, rfl, hE, hU⟩; replace hb := hb.trans (hWs ▸ hU.below hA (hWs ▸ hb.size)); rcases hE with ⟨_, rfl⟩ | ⟨hc, b, rfl, _⟩; rotate_left; (have hst := storeR_stays HR.out hc; have hA' := hU.ar; rw [hst] at hA'; clear hU hst hA; have hA := hA'; clear hA'))
    | (go_at_call 18; refine (words_any (w := w6) hA).mono ?_; rintro e w7 ⟨rfl, ho7, hN⟩; have hx := Rd.ofOwn ho7 hrd.1; replace hb := below_next hb (Nat.le_refl _) hN; replace hA := hA.below hN; clear hN ho7)
    | (go_at_call 17; refine (same_b hx (hrd.old hb hlow) (by omega)).mono ?_; rintro e w8 ⟨rfl, hN⟩; replace hb := below_next hb (Nat.le_refl _) hN; replace hA := hA.below hN; clear hN hx)
    | (go_at_call 15; refine (top_any hA).mono ?_; rintro e w8 ⟨rfl, rfl⟩))
  all_goals
    go_ret
    exact ⟨rfl, hbW.trans (hb.mono (by omega))⟩
set_option maxRecDepth 100000 in
set_option maxHeartbeats 3200000 in
theorem stays_cut {W : World} (v : Value) (l : List Int) (hrd0 : Rd W v l) (n u : Int) (s : Value) (x : List Int) (hs0 : Rd W s x) (hl : l.length ≤ 600) (hx : x.length ≤ 2000) (hall : AllMay l l.length) :
    Calls Try.prog 5 #[v, .agg #[.int .i64 3, .int .i64 n, .int .u64 u, s]] W fun e w' => e = .returned (.bool true) ∧ Below W.heap.size W w' := by
  have hbW : Below W.heap.size W (W.alloc (.cells #[.int .i64 3, .int .i64 n, .int .u64 u, s] 40)) := below_alloc _ _
  have hbox := box4_new W (.int .i64 3) (.int .i64 n) (.int .u64 u) s 40
  have hrd := hrd0.below hbW
  have hlow := hrd.low
  have hs := hs0.below hbW
  have hslow := hs.low
  obtain ⟨W0, hW0⟩ : ∃ W0, W0 = W.alloc (.cells #[.int .i64 3, .int .i64 n, .int .u64 u, s] 40) := ⟨_, rfl⟩
  have hWs : W0.heap.size = W.heap.size + 1 := by rw [hW0]; simp
  rw [← hW0] at hbW hbox hrd hlow hs hslow
  have HW0 : Hid (W0 = W.alloc (.cells #[.int .i64 3, .int .i64 n, .int .u64 u, s] 40)) := hW0
  clear hW0
  have hbB : W.heap.size < W0.heap.size := by omega
  have hsh := hs.shape
  obtain ⟨ao, cv, rfl⟩ := hrd0.shape
  obtain ⟨sa, sc, rfl⟩ := hsh
  clear hrd0 hs0
  have hl' : decide ((600 : Int) < (l.length : Int)) = false := by simp; omega
  have hx' : decide ((2000 : Int) < (x.length : Int)) = false := by simp; omega
  have HM : Hid (AllMay l l.length) := hall
  clear hall
  obtain ⟨c, a, l', hR⟩ := cutR_ex l n
  have HR : Hid (CutR l n c a l') := hR
  clear hR
  go_enter Try.func5, Try.ntmps5
  go_wp2_with (first
    | (go_at_call 9; refine (lives_any _).mono ?_; rintro e w1 ⟨rfl, hb⟩; rw [← HW0.out] at hb; obtain ⟨kl, k0, k1, k2, k3⟩ := hbox.belowB hb hbB)
    | (go_at_call 10; refine (new_ok 600 w1 (W.heap.size + 1) (hWs ▸ hb.size) (by omega) (by omega)).mono ?_; rintro e w2 ⟨rfl, hA, hN⟩; replace hb := below_next hb (Nat.le_refl _) hN; obtain ⟨kl, k0, k1, k2, k3⟩ := hbox.belowB hb hbB; clear hN)
    | (at_builtin; refine wpList_copyRow (by rfl) _ _ (by rfl) (B := W.heap.size + 1) (g := w2.heap.size) (by rfl) (by rfl) ((hrd.old hb hlow).alloc _) (heap_alloc_new w2 _) (hWs ▸ hb.size) (by omega) ?_; intro v4 w4 ho4 hg4; have hN := below_lit hg4; have hrd4 := Rd.ofOwn ho4 hrd.1; replace hb := below_next hb (Nat.le_refl _) hN; replace hA := hA.below hN; obtain ⟨kl, k0, k1, k2, k3⟩ := hbox.belowB hb hbB; clear hN)
    | (go_at_call 21; refine (fill_ok (w := w4) hA (hWs ▸ hb.size) hrd4 (by omega) HM.out).mono ?_; rintro e w5 ⟨va, rfl, hU⟩; replace hb := hb.trans (hWs ▸ hU.below hA (hWs ▸ hb.size)); replace hA := hU.ar; obtain ⟨kl, k0, k1, k2, k3⟩ := hbox.belowB hb hbB; clear hU hrd4 ho4 hg4)
    | (go_at_call 24; refine (cut_r (w := w5) hA HR.out).mono ?_; rintro e w6 ⟨er, v6, rfl, hE, hU⟩; replace hb := hb.trans (hWs ▸ hU.below hA (hWs ▸ hb.size)); rcases hE with ⟨_, rfl⟩ | ⟨hc, b, rfl, _⟩; rotate_left; (have hst := cutR_stays HR.out hc; have hA' := hU.ar; rw [hst] at hA'; clear hU hst hA; have hA := hA'; clear hA'))
    | (go_at_call 18; refine (words_any (w := w6) hA).mono ?_; rintro e w7 ⟨rfl, ho7, hN⟩; have hx := Rd.ofOwn ho7 hrd.1; replace hb := below_next hb (Nat.le_refl _) hN; replace hA := hA.below hN; clear hN ho7)
    | (go_at_call 17; refine (same_b hx (hrd.old hb hlow) (by omega)).mono ?_; rintro e w8 ⟨rfl, hN⟩; replace hb := below_next hb (Nat.le_refl _) hN; replace hA := hA.below hN; clear hN hx)
    | (go_at_call 15; refine (top_any hA).mono ?_; rintro e w8 ⟨rfl, rfl⟩))
  all_goals
    go_ret
    exact ⟨rfl, hbW.trans (hb.mono (by omega))⟩
set_option maxRecDepth 100000 in
set_option maxHeartbeats 3200000 in
theorem stays_fill {W : World} (v : Value) (l : List Int) (hrd0 : Rd W v l) (n u : Int) (s : Value) (x : List Int) (hs0 : Rd W s x) (hl : l.length ≤ 600) (hx : x.length ≤ 2000) (hall : AllMay l l.length) :
    Calls Try.prog 5 #[v, .agg #[.int .i64 5, .int .i64 n, .int .u64 u, s]] W fun e w' => e = .returned (.bool true) ∧ Below W.heap.size W w' := by
  have hbW : Below W.heap.size W (W.alloc (.cells #[.int .i64 5, .int .i64 n, .int .u64 u, s] 40)) := below_alloc _ _
  have hbox := box4_new W (.int .i64 5) (.int .i64 n) (.int .u64 u) s 40
  have hrd := hrd0.below hbW
  have hlow := hrd.low
  have hs := hs0.below hbW
  have hslow := hs.low
  obtain ⟨W0, hW0⟩ : ∃ W0, W0 = W.alloc (.cells #[.int .i64 5, .int .i64 n, .int .u64 u, s] 40) := ⟨_, rfl⟩
  have hWs : W0.heap.size = W.heap.size + 1 := by rw [hW0]; simp
  rw [← hW0] at hbW hbox hrd hlow hs hslow
  have HW0 : Hid (W0 = W.alloc (.cells #[.int .i64 5, .int .i64 n, .int .u64 u, s] 40)) := hW0
  clear hW0
  have hbB : W.heap.size < W0.heap.size := by omega
  have hsh := hs.shape
  obtain ⟨ao, cv, rfl⟩ := hrd0.shape
  obtain ⟨sa, sc, rfl⟩ := hsh
  clear hrd0 hs0
  have hl' : decide ((600 : Int) < (l.length : Int)) = false := by simp; omega
  have hx' : decide ((2000 : Int) < (x.length : Int)) = false := by simp; omega
  have HM : Hid (AllMay l l.length) := hall
  clear hall
  obtain ⟨c, a, l', hR⟩ := fillR_ex 600 l x
  have HR : Hid (FillR 600 l x c a l') := hR
  clear hR
  go_enter Try.func5, Try.ntmps5
  go_wp2_with (first
    | (go_at_call 9; refine (lives_any _).mono ?_; rintro e w1 ⟨rfl, hb⟩; rw [← HW0.out] at hb; obtain ⟨kl, k0, k1, k2, k3⟩ := hbox.belowB hb hbB)
    | (go_at_call 10; refine (new_ok 600 w1 (W.heap.size + 1) (hWs ▸ hb.size) (by omega) (by omega)).mono ?_; rintro e w2 ⟨rfl, hA, hN⟩; replace hb := below_next hb (Nat.le_refl _) hN; obtain ⟨kl, k0, k1, k2, k3⟩ := hbox.belowB hb hbB; clear hN)
    | (at_builtin; refine wpList_copyRow (by rfl) _ _ (by rfl) (B := W.heap.size + 1) (g := w2.heap.size) (by rfl) (by rfl) ((hrd.old hb hlow).alloc _) (heap_alloc_new w2 _) (hWs ▸ hb.size) (by omega) ?_; intro v4 w4 ho4 hg4; have hN := below_lit hg4; have hrd4 := Rd.ofOwn ho4 hrd.1; replace hb := below_next hb (Nat.le_refl _) hN; replace hA := hA.below hN; obtain ⟨kl, k0, k1, k2, k3⟩ := hbox.belowB hb hbB; clear hN)
    | (go_at_call 21; refine (fill_ok (w := w4) hA (hWs ▸ hb.size) hrd4 (by omega) HM.out).mono ?_; rintro e w5 ⟨va, rfl, hU⟩; replace hb := hb.trans (hWs ▸ hU.below hA (hWs ▸ hb.size)); replace hA := hU.ar; obtain ⟨kl, k0, k1, k2, k3⟩ := hbox.belowB hb hbB; clear hU hrd4 ho4 hg4)
    | (at_builtin; refine wpList_copyRow (by rfl) _ _ (by rfl) (B := W.heap.size + 1) (g := w5.heap.size) (by rfl) (by rfl) ((hs.old hb hslow).alloc _) (heap_alloc_new w5 _) (hWs ▸ hb.size) (by omega) ?_; intro v9 w9 ho9 hg9; have hN := below_lit hg9; have hrd9 := Rd.ofOwn ho9 hs.1; replace hb := below_next hb (Nat.le_refl _) hN; replace hA := hA.below hN; clear hN)
    | (go_at_call 21; refine (fill_r (w := w9) hA (hWs ▸ hb.size) hrd9 HR.out).mono ?_; rintro e w6 ⟨er, v6, rfl, hE, hU⟩; replace hb := hb.trans (hWs ▸ hU.below hA (hWs ▸ hb.size)); rcases hE with ⟨_, rfl⟩ | ⟨hc, b, rfl, _⟩; rotate_left; (have hst := fillR_stays HR.out hc; have hA' := hU.ar; rw [hst] at hA'; clear hU hst hA; have hA := hA'; clear hA'))
    | (go_at_call 18; refine (words_any (w := w6) hA).mono ?_; rintro e w7 ⟨rfl, ho7, hN⟩; have hx := Rd.ofOwn ho7 hrd.1; replace hb := below_next hb (Nat.le_refl _) hN; replace hA := hA.below hN; clear hN ho7)
    | (go_at_call 17; refine (same_b hx (hrd.old hb hlow) (by omega)).mono ?_; rintro e w8 ⟨rfl, hN⟩; replace hb := below_next hb (Nat.le_refl _) hN; replace hA := hA.below hN; clear hN hx)
    | (go_at_call 15; refine (top_any hA).mono ?_; rintro e w8 ⟨rfl, rfl⟩))
  all_goals
    go_ret
    exact ⟨rfl, hbW.trans (hb.mono (by omega))⟩
set_option maxRecDepth 100000 in
set_option maxHeartbeats 3200000 in
theorem stays_else {W : World} (v : Value) (l : List Int) (hrd0 : Rd W v l) (k : Int) (n u : Int) (s : Value) (x : List Int) (hs0 : Rd W s x) (hl : l.length ≤ 600) (hx : x.length ≤ 2000) (hall : AllMay l l.length) (hk : k ≠ 0 ∧ k ≠ 1 ∧ k ≠ 2 ∧ k ≠ 3 ∧ k ≠ 5) :
    Calls Try.prog 5 #[v, .agg #[.int .i64 k, .int .i64 n, .int .u64 u, s]] W fun e w' => e = .returned (.bool true) ∧ Below W.heap.size W w' := by
  have hbW : Below W.heap.size W (W.alloc (.cells #[.int .i64 k, .int .i64 n, .int .u64 u, s] 40)) := below_alloc _ _
  have hbox := box4_new W (.int .i64 k) (.int .i64 n) (.int .u64 u) s 40
  have hrd := hrd0.below hbW
  have hlow := hrd.low
  have hs := hs0.below hbW
  have hslow := hs.low
  obtain ⟨W0, hW0⟩ : ∃ W0, W0 = W.alloc (.cells #[.int .i64 k, .int .i64 n, .int .u64 u, s] 40) := ⟨_, rfl⟩
  have hWs : W0.heap.size = W.heap.size + 1 := by rw [hW0]; simp
  rw [← hW0] at hbW hbox hrd hlow hs hslow
  have HW0 : Hid (W0 = W.alloc (.cells #[.int .i64 k, .int .i64 n, .int .u64 u, s] 40)) := hW0
  clear hW0
  have hbB : W.heap.size < W0.heap.size := by omega
  have hsh := hs.shape
  obtain ⟨ao, cv, rfl⟩ := hrd0.shape
  obtain ⟨sa, sc, rfl⟩ := hsh
  clear hrd0 hs0
  have hl' : decide ((600 : Int) < (l.length : Int)) = false := by simp; omega
  have hx' : decide ((2000 : Int) < (x.length : Int)) = false := by simp; omega
  have HM : Hid (AllMay l l.length) := hall
  clear hall
  have b0 : (k == 0) = false := by simpa using hk.1
  have b1 : (k == 1) = false := by simpa using hk.2.1
  have b2 : (k == 2) = false := by simpa using hk.2.2.1
  have b3 : (k == 3) = false := by simpa using hk.2.2.2.1
  have b5 : (k == 5) = false := by simpa using hk.2.2.2.2
  clear hk
  go_enter Try.func5, Try.ntmps5
  go_wp2_with (first
    | (go_at_call 9; refine (lives_any _).mono ?_; rintro e w1 ⟨rfl, hb⟩; rw [← HW0.out] at hb; obtain ⟨kl, k0, k1, k2, k3⟩ := hbox.belowB hb hbB)
    | (go_at_call 10; refine (new_ok 600 w1 (W.heap.size + 1) (hWs ▸ hb.size) (by omega) (by omega)).mono ?_; rintro e w2 ⟨rfl, hA, hN⟩; replace hb := below_next hb (Nat.le_refl _) hN; obtain ⟨kl, k0, k1, k2, k3⟩ := hbox.belowB hb hbB; clear hN)
    | (at_builtin; refine wpList_copyRow (by rfl) _ _ (by rfl) (B := W.heap.size + 1) (g := w2.heap.size) (by rfl) (by rfl) ((hrd.old hb hlow).alloc _) (heap_alloc_new w2 _) (hWs ▸ hb.size) (by omega) ?_; intro v4 w4 ho4 hg4; have hN := below_lit hg4; have hrd4 := Rd.ofOwn ho4 hrd.1; replace hb := below_next hb (Nat.le_refl _) hN; replace hA := hA.below hN; obtain ⟨kl, k0, k1, k2, k3⟩ := hbox.belowB hb hbB; clear hN)
    | (go_at_call 21; refine (fill_ok (w := w4) hA (hWs ▸ hb.size) hrd4 (by omega) HM.out).mono ?_; rintro e w5 ⟨va, rfl, hU⟩; replace hb := hb.trans (hWs ▸ hU.below hA (hWs ▸ hb.size)); replace hA := hU.ar; obtain ⟨kl, k0, k1, k2, k3⟩ := hbox.belowB hb hbB; clear hU hrd4 ho4 hg4))
  all_goals
    go_ret
    exact ⟨rfl, hbW.trans (hb.mono (by omega))⟩
theorem arenaStays_walk {W : World} (v : Value) (l : List Int) (hrd : Rd W v l) (_hz : l.length * 8 ≤ 140737488351232) (k n u : Int) (s : Value) (x : List Int) (hs : Rd W s x) (_hk : -9223372036854775808 ≤ k ∧ k ≤ 9223372036854775807) (_hn : -9223372036854775808 ≤ n ∧ n ≤ 9223372036854775807) (hu : 0 ≤ u ∧ u ≤ 18446744073709551615) :
    Calls Try.prog 5 #[v, .agg #[.int .i64 k, .int .i64 n, .int .u64 u, s]] W fun e w' => e = .returned (.bool true) ∧ Below W.heap.size W w' := by
  by_cases hl : 600 < l.length
  · exact stays_long v l hrd k n u s x hs hl
  by_cases hx : 2000 < x.length
  · exact stays_wide v l hrd k n u s x hs (by omega) hx
  rcases may_or l l.length with hall | ⟨i, hbad⟩
  · by_cases k0 : k = 0
    · subst k0; exact stays_alloc v l hrd n u s x hs (by omega) (by omega) hall
    by_cases k1 : k = 1
    · subst k1; exact stays_load v l hrd n u s x hs (by omega) (by omega) hall
    by_cases k2 : k = 2
    · subst k2; exact stays_store v l hrd n u s x hs (by omega) (by omega) hall hu
    by_cases k3 : k = 3
    · subst k3; exact stays_cut v l hrd n u s x hs (by omega) (by omega) hall
    by_cases k5 : k = 5
    · subst k5; exact stays_fill v l hrd n u s x hs (by omega) (by omega) hall
    exact stays_else v l hrd k n u s x hs (by omega) (by omega) hall ⟨k0, k1, k2, k3, k5⟩
  · exact stays_bad v l hrd k n u s x hs (by omega) (by omega) i hbad
end Go.Proofs.Ytmpnniabgkhkjaa

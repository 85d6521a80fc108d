/- enter, mark and split of package bisim, over a partition as plain data. -/
import Derived.Test.YtlibjdilicfcdaaGreatDoornb15Z
namespace Go.Proofs.YtlibjdilicfcdaaGreatDoor
set_option maxRecDepth 100000
open Go.RowKit
theorem Pt.set3 {w : World} {B pb q c t m : Nat} {v0 v1 v2 v4 v5 : Value} {f : Nat → List Int} (h : Pt w B pb v0 v1 v2 (.slice (some ⟨q, 0, none⟩) m c) v4 v5 f) (hm : (f 3).length = m) (x : Int) : Pt (w.setCell ⟨q, t, none⟩ (.int .i64 x)) B pb v0 v1 v2 (.slice (some ⟨q, 0, none⟩) m c) v4 v5 (upd f 3 ((f 3).set t x)) := by
  subst hm
  have hne : pb ≠ q := fun e => h.fm.ty h.blk (by decide) (mem_blocks (i := 3) (by simp) (by rw [e]; rfl))
  refine ⟨by rw [Below.heap_setCell _ _ _ _ hne]; exact h.blk, ?_, h.ge⟩
  exact Fm.set (i := 3) (t := t) h.fm (by simp) rfl x
theorem Pt.set4 {w : World} {B pb q c t m : Nat} {v0 v1 v2 v3 v5 : Value} {f : Nat → List Int} (h : Pt w B pb v0 v1 v2 v3 (.slice (some ⟨q, 0, none⟩) m c) v5 f) (hm : (f 4).length = m) (x : Int) : Pt (w.setCell ⟨q, t, none⟩ (.int .i64 x)) B pb v0 v1 v2 v3 (.slice (some ⟨q, 0, none⟩) m c) v5 (upd f 4 ((f 4).set t x)) := by
  subst hm
  have hne : pb ≠ q := fun e => h.fm.ty h.blk (by decide) (mem_blocks (i := 4) (by simp) (by rw [e]; rfl))
  refine ⟨by rw [Below.heap_setCell _ _ _ _ hne]; exact h.blk, ?_, h.ge⟩
  exact Fm.set (i := 4) (t := t) h.fm (by simp) rfl x
theorem Pt.congr {w : World} {B pb : Nat} {v0 v1 v2 v3 v4 v5 : Value} {f f' : Nat → List Int} (h : Pt w B pb v0 v1 v2 v3 v4 v5 f) (e : ∀ i, i < 6 → f i = f' i) : Pt w B pb v0 v1 v2 v3 v4 v5 f' :=
  ⟨h.blk, ⟨fun i hi => by
    have hi' : i < 6 := by simpa using hi
    rw [← e i hi']
    exact h.fm.own i hi, h.fm.nd⟩, h.ge⟩
theorem six {P : Nat → Prop} (h0 : P 0) (h1 : P 1) (h2 : P 2) (h3 : P 3) (h4 : P 4) (h5 : P 5) : ∀ i, i < 6 → P i := fun i hi => by
  have : i = 0 ∨ i = 1 ∨ i = 2 ∨ i = 3 ∨ i = 4 ∨ i = 5 := by omega
  rcases this with rfl | rfl | rfl | rfl | rfl | rfl <;> assumption
theorem Ps.rows_len (S : Ps) (N i : Nat) (hN : N ≤ 4500) (hC : S.C ≤ 4500) : (S.rows N i).length ≤ 4500 := by
  unfold Ps.rows
  repeat (split; (rw [rowF_len]; assumption))
  rw [rowF_len]
  assumption
theorem setL_row (N v : Nat) : ∀ (xs : List Int) (g : Nat → Nat), (∀ x ∈ xs, 0 ≤ x) → setL (rowF N g) xs (v : Int) = rowF N (fun n => if (n : Int) ∈ xs then v else g n)
  | [], g, _ => by simp [setL]
  | x :: r, g, h => by
    show setL ((rowF N g).set x.toNat (v : Int)) r v = _
    rw [rowF_set, setL_row N v r _ (fun y hy => h y (by simp [hy]))]
    refine rowF_congr fun i _ => ?_
    have h0 := h x (by simp)
    unfold upd
    by_cases e1 : (i : Int) ∈ r
    · simp [e1]
    · by_cases e2 : i = x.toNat
      · have e3 : (i : Int) = x := by omega
        rw [if_neg e1, if_pos e2, if_pos (by simp [e3])]
      · have e3 : (i : Int) ≠ x := by omega
        simp [e1, e2, e3]
theorem mem_cutrow {N a b : Nat} {S : Ps} (hpn : ∀ n, n < N → S.pl n < N ∧ S.nd (S.pl n) = n) (hnp : ∀ i, i < N → S.nd i < N ∧ S.pl (S.nd i) = i) (hb : b ≤ N) {n : Nat} (hn : n < N) : (n : Int) ∈ ((rowF N S.nd).drop a).take (b - a) ↔ a ≤ S.pl n ∧ S.pl n < b := by
  rw [List.mem_iff_getElem]
  constructor
  · rintro ⟨j, hj, e⟩
    simp only [List.length_take, List.length_drop, rowF_len] at hj
    rw [List.getElem_take, List.getElem_drop] at e
    simp only [rowF, List.getElem_map, List.getElem_range] at e
    have e' : S.nd (a + j) = n := by omega
    have := (hnp (a + j) (by omega)).2
    rw [e'] at this
    omega
  · rintro ⟨h1, h2⟩
    refine ⟨S.pl n - a, by simp only [List.length_take, List.length_drop, rowF_len]; omega, ?_⟩
    rw [List.getElem_take, List.getElem_drop]
    simp only [rowF, List.getElem_map, List.getElem_range]
    have e : a + (S.pl n - a) = S.pl n := by omega
    rw [e, (hpn n hn).2]
theorem enter_rows {N a b : Nat} {S : Ps} (hpn : ∀ n, n < N → S.pl n < N ∧ S.nd (S.pl n) = n) (hnp : ∀ i, i < N → S.nd i < N ∧ S.pl (S.nd i) = i) (hb : b ≤ N) :
    ∀ i, i < 6 → upd (upd (upd (upd (S.rows N) 2 (setL (S.rows N 2) (((S.rows N 0).drop a).take (b - a)) (S.rows N 3).length)) 3 (S.rows N 3 ++ [(a : Int)])) 4 (S.rows N 4 ++ [(b : Int)])) 5 (S.rows N 5 ++ [0]) i = (S.enter a b).rows N i := by
  refine six rfl rfl ?_ ?_ ?_ ?_
  · show setL (rowF N S.cl) (((rowF N S.nd).drop a).take (b - a)) ((rowF S.C S.fi).length : Nat) = rowF N _
    rw [rowF_len, setL_row]
    · refine rowF_congr fun n hn => ?_
      by_cases h : a ≤ S.pl n ∧ S.pl n < b
      · rw [if_pos ((mem_cutrow hpn hnp hb hn).2 h)]
        exact (if_pos h).symm
      · rw [if_neg (fun h' => h ((mem_cutrow hpn hnp hb hn).1 h'))]
        exact (if_neg h).symm
    · intro x hx
      have hx' := List.mem_of_mem_drop (List.mem_of_mem_take hx)
      obtain ⟨i, _, rfl⟩ := List.mem_map.1 hx'
      omega
  · exact rowF_snoc _ _ _
  · exact rowF_snoc _ _ _
  · exact rowF_snoc _ 0 _
theorem enter_ps {w : World} {B pb a b N : Nat} {v0 v1 v2 v3 v4 v5 : Value} {S : Ps} (hP : Pt w B pb v0 v1 v2 v3 v4 v5 (S.rows N)) (hpn : ∀ n, n < N → S.pl n < N ∧ S.nd (S.pl n) = n) (hnp : ∀ i, i < N → S.nd i < N ∧ S.pl (S.nd i) = i) (hN : N ≤ 4500) (hC : S.C ≤ 4500) (hab : a < b) (hb : b ≤ N) (hB : B ≤ w.heap.size) {x y : Int} (hx : x = (a : Int)) (hy : y = (b : Int)) :
    Calls Tryz.prog 154 #[.pointer (some ⟨pb, 0, none⟩), .int .i64 x, .int .i64 y] w fun e w' => e = .returned (.tuple #[]) ∧ ∃ u3 u4 u5, Pt w' B pb v0 v1 v2 u3 u4 u5 ((S.enter a b).rows N) ∧ Ch (pb :: blocks [v0, v1, v2, v3, v4, v5]) w w' ∧ ∀ k ∈ blocks [u3, u4, u5], k ∈ blocks [v0, v1, v2, v3, v4, v5] ∨ w.heap.size ≤ k := by
  subst hx hy
  refine (enter_any hP hab (by show b ≤ (rowF N S.nd).length; rw [rowF_len]; exact hb) (fun i => S.rows_len N i hN hC) (fun x hx => ?_) hB).mono ?_
  · have hx' : x ∈ rowF N S.nd := hx
    obtain ⟨i, hi, rfl⟩ := List.mem_map.1 hx'
    have := (hnp i (List.mem_range.1 hi)).1
    show 0 ≤ _ ∧ _ < ((rowF N S.cl).length : Int)
    rw [rowF_len]
    omega
  · rintro e w' ⟨rfl, u3, u4, u5, h1, h2, h3⟩
    exact ⟨rfl, u3, u4, u5, h1.congr (enter_rows hpn hnp hb), h2, h3⟩
theorem mark_ps {w : World} {B pb n N : Nat} {v0 v1 v2 v3 v4 v5 : Value} {S : Ps} (hP : Pt w B pb v0 v1 v2 v3 v4 v5 (S.rows N)) (h : Iv N S) (hN : N ≤ 4500) (hn : n < N) (hm : ¬ S.mkd n) :
    Calls Tryz.prog 155 #[.pointer (some ⟨pb, 0, none⟩), .int .i64 n] w fun e w' => e = .returned (.tuple #[]) ∧ Pt w' B pb v0 v1 v2 v3 v4 v5 ((S.mark n).rows N) ∧ Ch (blocks [v0, v1, v2, v3, v4, v5]) w w' := by
  have hC := h.le
  have hc := h.cls n hn
  obtain ⟨hA, _, _⟩ := h.at hn hm
  have ho := (h.np _ hA).1
  have hp := (h.pn n hn).1
  refine (mark_any (c := S.cl n) (a := S.fi (S.cl n)) (m := S.mq (S.cl n)) (o := S.nd (S.fi (S.cl n) + S.mq (S.cl n))) (p := S.pl n) hP (fun i => S.rows_len N i hN (by omega)) ?_ ?_ ?_ (rowF_get _ hn) ?_ ?_ (rowF_get _ hc) (rowF_get _ hc) ?_ (rowF_get _ hA) ?_ (rowF_get _ hn) ?_).mono ?_
  · show (rowF N S.pl).length = (rowF N S.nd).length
    rw [rowF_len, rowF_len]
  · show (rowF N S.cl).length = (rowF N S.nd).length
    rw [rowF_len, rowF_len]
  · show n < (rowF N S.nd).length
    rw [rowF_len]
    exact hn
  · show S.cl n < (rowF S.C S.fi).length
    rw [rowF_len]
    exact hc
  · show S.cl n < (rowF S.C S.mq).length
    rw [rowF_len]
    exact hc
  · show S.fi (S.cl n) + S.mq (S.cl n) < (rowF N S.nd).length
    rw [rowF_len]
    exact hA
  · show S.nd (S.fi (S.cl n) + S.mq (S.cl n)) < (rowF N S.nd).length
    rw [rowF_len]
    exact ho
  · show S.pl n < (rowF N S.nd).length
    rw [rowF_len]
    exact hp
  · rintro e w' ⟨rfl, h1, h2⟩
    refine ⟨rfl, h1.congr (six ?_ ?_ rfl rfl rfl ?_), h2⟩
    · show ((rowF N S.nd).set _ _).set _ _ = rowF N (S.mark n).nd
      rw [rowF_set, rowF_set]
      rfl
    · show ((rowF N S.pl).set _ _).set _ ((S.fi (S.cl n) : Int) + (S.mq (S.cl n) : Int)) = rowF N (S.mark n).pl
      have e : (S.fi (S.cl n) : Int) + (S.mq (S.cl n) : Int) = ((S.fi (S.cl n) + S.mq (S.cl n) : Nat) : Int) := by omega
      rw [e, rowF_set, rowF_set]
      rfl
    · show (rowF S.C S.mq).set _ ((S.mq (S.cl n) : Int) + 1) = rowF S.C (S.mark n).mq
      have e : (S.mq (S.cl n) : Int) + 1 = ((S.mq (S.cl n) + 1 : Nat) : Int) := by omega
      rw [e, rowF_set]
      rfl
theorem radd (N t a b : Nat) (g : Nat → Nat) : (rowF N g).set t ((a : Int) + (b : Int)) = rowF N (upd g t (a + b)) := by rw [← rowF_set]; rfl
theorem mem_last {α : Type} {a0 a1 a2 a3 a4 a5 v : α} (h : v ∈ [a3, a4, a5]) : v ∈ [a0, a1, a2, a3, a4, a5] := List.mem_cons_of_mem _ (List.mem_cons_of_mem _ (List.mem_cons_of_mem _ h))
theorem blocks_last {v0 v1 v2 v3 v4 v5 : Value} {k : Nat} (h : k ∈ blocks [v3, v4, v5]) : k ∈ blocks [v0, v1, v2, v3, v4, v5] := by
  obtain ⟨v, hv, e⟩ := List.mem_filterMap.1 h
  exact List.mem_filterMap.2 ⟨v, mem_last hv, e⟩
set_option maxHeartbeats 4000000 in
theorem split_none {w : World} {B pb c N : Nat} {v0 v1 v2 v3 v4 v5 : Value} {S : Ps} (hP : Pt w B pb v0 v1 v2 v3 v4 v5 (S.rows N)) (h : Iv N S) (hN : N ≤ 4500) (hc : c < S.C) (_hm : 0 < S.mq c) (_hB : B ≤ w.heap.size) (he : S.fi c + S.mq c = S.be c) :
    Calls Tryz.prog 156 #[.pointer (some ⟨pb, 0, none⟩), .int .i64 c] w fun e w' => e = .returned (.tuple #[]) ∧ ∃ u3 u4 u5, Pt w' B pb v0 v1 v2 u3 u4 u5 ((S.split c).rows N) ∧ Ch (pb :: blocks [v0, v1, v2, v3, v4, v5]) w w' ∧ ∀ k ∈ blocks [u3, u4, u5], k ∈ blocks [v0, v1, v2, v3, v4, v5] ∨ w.heap.size ≤ k := by
  have e0 : (S.rows N 0).length = N := rowF_len _ _
  have e1 : (S.rows N 1).length = N := rowF_len _ _
  have e2 : (S.rows N 2).length = N := rowF_len _ _
  have e3 : (S.rows N 3).length = S.C := rowF_len _ _
  have e4 : (S.rows N 4).length = S.C := rowF_len _ _
  have e5 : (S.rows N 5).length = S.C := rowF_len _ _
  have hCN := h.le
  obtain ⟨hr1, hr2, hr3⟩ := h.rng c hc
  obtain ⟨q3, c3, rfl, _⟩ : ∃ q c, v3 = .slice (some ⟨q, 0, none⟩) S.C c ∧ v3.ownBlock = some q := by
    rw [← e3]
    exact (own_form (hP.fm.own 3 (by simp))).resolve_left (fun h => by omega)
  obtain ⟨q4, c4, rfl, _⟩ : ∃ q c, v4 = .slice (some ⟨q, 0, none⟩) S.C c ∧ v4.ownBlock = some q := by
    rw [← e4]
    exact (own_form (hP.fm.own 4 (by simp))).resolve_left (fun h => by omega)
  obtain ⟨q5, c5, rfl, _⟩ : ∃ q c, v5 = .slice (some ⟨q, 0, none⟩) S.C c ∧ v5.ownBlock = some q := by
    rw [← e5]
    exact (own_form (hP.fm.own 5 (by simp))).resolve_left (fun h => by omega)
  obtain ⟨⟨a0, c0, h0⟩, ⟨a1, c1, h1⟩, ⟨a2, c2, h2⟩, _⟩ := hP.sl
  rw [e0] at h0
  rw [e1] at h1
  rw [e2] at h2
  subst h0 h1 h2
  obtain ⟨⟨z0, z1, z2, z3, z4, z5⟩, _⟩ := blk6 hP.blk
  have k3 := (hP.fm.cellN (i := 3) (j := c) (by simp) rfl e3 hc).1
  have k4 := (hP.fm.cellN (i := 4) (j := c) (by simp) rfl e4 hc).1
  have k5 := (hP.fm.cellN (i := 5) (j := c) (by simp) rfl e5 hc).1
  have k5f := (hP.fm.cellN (i := 5) (j := c) (by simp) rfl e5 hc).2
  have g3 : (S.rows N 3).getD c 0 = (S.fi c : Int) := rowF_get _ hc
  have g4 : (S.rows N 4).getD c 0 = (S.be c : Int) := rowF_get _ hc
  have g5 : (S.rows N 5).getD c 0 = (S.mq c : Int) := rowF_get _ hc
  rw [g3] at k3
  rw [g4] at k4
  rw [g5] at k5
  clear g3 g4 g5
  have m3 : q3 ∈ blocks [.slice a0 N c0, .slice a1 N c1, .slice a2 N c2, .slice (some ⟨q3, 0, none⟩) S.C c3, .slice (some ⟨q4, 0, none⟩) S.C c4, .slice (some ⟨q5, 0, none⟩) S.C c5] := mem_blocks (i := 3) (by simp) rfl
  have m4 : q4 ∈ blocks [.slice a0 N c0, .slice a1 N c1, .slice a2 N c2, .slice (some ⟨q3, 0, none⟩) S.C c3, .slice (some ⟨q4, 0, none⟩) S.C c4, .slice (some ⟨q5, 0, none⟩) S.C c5] := mem_blocks (i := 4) (by simp) rfl
  have m5 : q5 ∈ blocks [.slice a0 N c0, .slice a1 N c1, .slice a2 N c2, .slice (some ⟨q3, 0, none⟩) S.C c3, .slice (some ⟨q4, 0, none⟩) S.C c4, .slice (some ⟨q5, 0, none⟩) S.C c5] := mem_blocks (i := 5) (by simp) rfl
  have hsp : Hid (S.split c = { S with mq := upd S.mq c 0 }) := by
    show _ = _
    unfold Ps.split
    rw [if_pos he]
  have hpn := hid h.pn
  have hnp := hid h.np
  have hP5 := hid (fun q => (((hP.drewN q).set5 (t := c) e5 0).congr (f' := ({ S with mq := upd S.mq c 0 } : Ps).rows N) (six rfl rfl rfl rfl rfl (rowF_set S.C c 0 S.mq))))
  have hC5 := hid (fun q => (show Ch (blocks [.slice a0 N c0, .slice a1 N c1, .slice a2 N c2, .slice (some ⟨q3, 0, none⟩) S.C c3, .slice (some ⟨q4, 0, none⟩) S.C c4, .slice (some ⟨q5, 0, none⟩) S.C c5]) w (w.drewN q) from ⟨rfl, rfl, rfl, Nat.le_refl _, fun _ _ _ => rfl⟩).put (i := c) (.int .i64 0) m5)
  have hm3 := hid m3
  have hm4 := hid m4
  have n53 : ¬ q3 = q5 := fun e => hP.fm.nd 3 5 q3 q5 (by simp) (by simp) (by omega) rfl rfl e
  have n54 : ¬ q4 = q5 := fun e => hP.fm.nd 4 5 q4 q5 (by simp) (by simp) (by omega) rfl rfl e
  have np3 : ¬ pb = q3 := fun e => hP.fm.ty hP.blk (by decide) (mem_blocks (i := 3) (by simp) (by rw [e]; rfl))
  have np4 : ¬ pb = q4 := fun e => hP.fm.ty hP.blk (by decide) (mem_blocks (i := 4) (by simp) (by rw [e]; rfl))
  have np5 : ¬ pb = q5 := fun e => hP.fm.ty hP.blk (by decide) (mem_blocks (i := 5) (by simp) (by rw [e]; rfl))
  clear e0 e1 e2 e3 e4 e5 m3 m4 m5 h
  generalize hF : S.fi c = F at *
  generalize hM : S.mq c = M at *
  generalize hE : S.be c = E at *
  go_enter Tryz.func156, Tryz.ntmps156
  go_wp2
  go_quiet (fail)
  go_wp2
  refine bodyPost_ret (results_none rfl _ _ _) rfl ?_
  exact ⟨rfl, _, _, _, by rw [hsp.out]; exact hP5.out nq, (hC5.out nq).mono (fun k hk => List.mem_cons_of_mem _ hk), fun k hk => Or.inl (blocks_last hk)⟩
end Go.Proofs.YtlibjdilicfcdaaGreatDoor

namespace Go.Proofs.YtlibjdilicfcdaaGreatDoor
set_option maxRecDepth 100000
open Go.RowKit
set_option maxHeartbeats 4000000 in
theorem split_low {w : World} {B pb c N : Nat} {v0 v1 v2 v3 v4 v5 : Value} {S : Ps} (hP : Pt w B pb v0 v1 v2 v3 v4 v5 (S.rows N)) (h : Iv N S) (hN : N ≤ 4500) (hc : c < S.C) (hm : 0 < S.mq c) (hB : B ≤ w.heap.size) (he : ¬ S.fi c + S.mq c = S.be c) (hle : S.mq c ≤ S.be c - (S.fi c + S.mq c)) :
    Calls Tryz.prog 156 #[.pointer (some ⟨pb, 0, none⟩), .int .i64 c] w fun e w' => e = .returned (.tuple #[]) ∧ ∃ u3 u4 u5, Pt w' B pb v0 v1 v2 u3 u4 u5 ((S.split c).rows N) ∧ Ch (pb :: blocks [v0, v1, v2, v3, v4, v5]) w w' ∧ ∀ k ∈ blocks [u3, u4, u5], k ∈ blocks [v0, v1, v2, v3, v4, v5] ∨ w.heap.size ≤ k := by
  have e0 : (S.rows N 0).length = N := rowF_len _ _
  have e1 : (S.rows N 1).length = N := rowF_len _ _
  have e2 : (S.rows N 2).length = N := rowF_len _ _
  have e3 : (S.rows N 3).length = S.C := rowF_len _ _
  have e4 : (S.rows N 4).length = S.C := rowF_len _ _
  have e5 : (S.rows N 5).length = S.C := rowF_len _ _
  have hCN := h.le
  obtain ⟨hr1, hr2, hr3⟩ := h.rng c hc
  obtain ⟨q3, c3, rfl, _⟩ : ∃ q c, v3 = .slice (some ⟨q, 0, none⟩) S.C c ∧ v3.ownBlock = some q := by
    rw [← e3]
    exact (own_form (hP.fm.own 3 (by simp))).resolve_left (fun h => by omega)
  obtain ⟨q4, c4, rfl, _⟩ : ∃ q c, v4 = .slice (some ⟨q, 0, none⟩) S.C c ∧ v4.ownBlock = some q := by
    rw [← e4]
    exact (own_form (hP.fm.own 4 (by simp))).resolve_left (fun h => by omega)
  obtain ⟨q5, c5, rfl, _⟩ : ∃ q c, v5 = .slice (some ⟨q, 0, none⟩) S.C c ∧ v5.ownBlock = some q := by
    rw [← e5]
    exact (own_form (hP.fm.own 5 (by simp))).resolve_left (fun h => by omega)
  obtain ⟨⟨a0, c0, h0⟩, ⟨a1, c1, h1⟩, ⟨a2, c2, h2⟩, _⟩ := hP.sl
  rw [e0] at h0
  rw [e1] at h1
  rw [e2] at h2
  subst h0 h1 h2
  obtain ⟨⟨z0, z1, z2, z3, z4, z5⟩, _⟩ := blk6 hP.blk
  have k3 := (hP.fm.cellN (i := 3) (j := c) (by simp) rfl e3 hc).1
  have k4 := (hP.fm.cellN (i := 4) (j := c) (by simp) rfl e4 hc).1
  have k5 := (hP.fm.cellN (i := 5) (j := c) (by simp) rfl e5 hc).1
  have k5f := (hP.fm.cellN (i := 5) (j := c) (by simp) rfl e5 hc).2
  have g3 : (S.rows N 3).getD c 0 = (S.fi c : Int) := rowF_get _ hc
  have g4 : (S.rows N 4).getD c 0 = (S.be c : Int) := rowF_get _ hc
  have g5 : (S.rows N 5).getD c 0 = (S.mq c : Int) := rowF_get _ hc
  rw [g3] at k3
  rw [g4] at k4
  rw [g5] at k5
  clear g3 g4 g5
  have m3 : q3 ∈ blocks [.slice a0 N c0, .slice a1 N c1, .slice a2 N c2, .slice (some ⟨q3, 0, none⟩) S.C c3, .slice (some ⟨q4, 0, none⟩) S.C c4, .slice (some ⟨q5, 0, none⟩) S.C c5] := mem_blocks (i := 3) (by simp) rfl
  have m4 : q4 ∈ blocks [.slice a0 N c0, .slice a1 N c1, .slice a2 N c2, .slice (some ⟨q3, 0, none⟩) S.C c3, .slice (some ⟨q4, 0, none⟩) S.C c4, .slice (some ⟨q5, 0, none⟩) S.C c5] := mem_blocks (i := 4) (by simp) rfl
  have m5 : q5 ∈ blocks [.slice a0 N c0, .slice a1 N c1, .slice a2 N c2, .slice (some ⟨q3, 0, none⟩) S.C c3, .slice (some ⟨q4, 0, none⟩) S.C c4, .slice (some ⟨q5, 0, none⟩) S.C c5] := mem_blocks (i := 5) (by simp) rfl
  have hsp : Hid (S.split c = ({ S with mq := upd S.mq c 0, fi := upd S.fi c (S.fi c + S.mq c) } : Ps).enter (S.fi c) (S.fi c + S.mq c)) := by
    show _ = _
    unfold Ps.split
    rw [if_neg he, if_pos hle]
  have hpn := hid h.pn
  have hnp := hid h.np
  have hP5 := hid (fun q => (((hP.drewN q).set5 (t := c) e5 0).congr (f' := ({ S with mq := upd S.mq c 0 } : Ps).rows N) (six rfl rfl rfl rfl rfl (rowF_set S.C c 0 S.mq))))
  have hC5 := hid (fun q => (show Ch (blocks [.slice a0 N c0, .slice a1 N c1, .slice a2 N c2, .slice (some ⟨q3, 0, none⟩) S.C c3, .slice (some ⟨q4, 0, none⟩) S.C c4, .slice (some ⟨q5, 0, none⟩) S.C c5]) w (w.drewN q) from ⟨rfl, rfl, rfl, Nat.le_refl _, fun _ _ _ => rfl⟩).put (i := c) (.int .i64 0) m5)
  have hm3 := hid m3
  have hm4 := hid m4
  have n53 : ¬ q3 = q5 := fun e => hP.fm.nd 3 5 q3 q5 (by simp) (by simp) (by omega) rfl rfl e
  have n54 : ¬ q4 = q5 := fun e => hP.fm.nd 4 5 q4 q5 (by simp) (by simp) (by omega) rfl rfl e
  have np3 : ¬ pb = q3 := fun e => hP.fm.ty hP.blk (by decide) (mem_blocks (i := 3) (by simp) (by rw [e]; rfl))
  have np4 : ¬ pb = q4 := fun e => hP.fm.ty hP.blk (by decide) (mem_blocks (i := 4) (by simp) (by rw [e]; rfl))
  have np5 : ¬ pb = q5 := fun e => hP.fm.ty hP.blk (by decide) (mem_blocks (i := 5) (by simp) (by rw [e]; rfl))
  clear e0 e1 e2 e3 e4 e5 m3 m4 m5 h
  generalize hF : S.fi c = F at *
  generalize hM : S.mq c = M at *
  generalize hE : S.be c = E at *
  go_enter Tryz.func156, Tryz.ntmps156
  go_wp2
  go_quiet (fail)
  have hP3 := hid (fun q => ((hP5.out q).set3 (t := c) (rowF_len _ _) ((F : Int) + (M : Int))).congr (f' := ({ S with mq := upd S.mq c 0, fi := upd S.fi c (F + M) } : Ps).rows N) (six rfl rfl rfl (radd _ _ _ _ _) rfl rfl))
  have hC3 := hid (fun q => (hC5.out q).put (i := c) (.int .i64 ((F : Int) + (M : Int))) hm3.out)
  have hsz : Hid (∀ q, ((((w.drewN q).setCell ⟨q5, c, none⟩ (.int .i64 0)).setCell ⟨q3, c, none⟩ (.int .i64 ((F : Int) + (M : Int)))).heap.size = w.heap.size)) := fun q => by simp
  have k3f := (hP.fm.cellN (i := 3) (j := c) (by simp) rfl (rowF_len _ _) hc).2
  have hI : ¬ ((F : Int) + (M : Int) = (E : Int)) := by omega
  have hJ : (F : Int) + (M : Int) - (F : Int) ≤ (E : Int) - ((F : Int) + (M : Int)) := by omega
  have hE1 : F + M < E := by omega
  have hE2 : E ≤ 4500 := by omega
  have hHP := hid hP
  clear hle he hP
  go_wp2_with (go_at_call 154; refine (enter_ps (a := F) (b := F + M) (hP3.out nq) hpn.out hnp.out hN (by show S.C ≤ 4500; omega) (by omega) (by omega) (by rw [hsz.out nq]; exact hB) (by omega) (by omega)).mono ?_; rintro e w1 ⟨rfl, u3, u4, u5, hE1', hE2', hE3'⟩)
  go_end0
  refine ⟨rfl, u3, u4, u5, by rw [hsp.out]; exact hE1', ((hC3.out nq).mono (fun k hk => List.mem_cons_of_mem _ hk)).trans hE2' (fun k hk => Or.inl hk), fun k hk => ?_⟩
  have := hE3' k hk
  rw [hsz.out nq] at this
  exact this
set_option maxHeartbeats 4000000 in
theorem split_high {w : World} {B pb c N : Nat} {v0 v1 v2 v3 v4 v5 : Value} {S : Ps} (hP : Pt w B pb v0 v1 v2 v3 v4 v5 (S.rows N)) (h : Iv N S) (hN : N ≤ 4500) (hc : c < S.C) (hm : 0 < S.mq c) (hB : B ≤ w.heap.size) (he : ¬ S.fi c + S.mq c = S.be c) (hle : ¬ S.mq c ≤ S.be c - (S.fi c + S.mq c)) :
    Calls Tryz.prog 156 #[.pointer (some ⟨pb, 0, none⟩), .int .i64 c] w fun e w' => e = .returned (.tuple #[]) ∧ ∃ u3 u4 u5, Pt w' B pb v0 v1 v2 u3 u4 u5 ((S.split c).rows N) ∧ Ch (pb :: blocks [v0, v1, v2, v3, v4, v5]) w w' ∧ ∀ k ∈ blocks [u3, u4, u5], k ∈ blocks [v0, v1, v2, v3, v4, v5] ∨ w.heap.size ≤ k := by
  have e0 : (S.rows N 0).length = N := rowF_len _ _
  have e1 : (S.rows N 1).length = N := rowF_len _ _
  have e2 : (S.rows N 2).length = N := rowF_len _ _
  have e3 : (S.rows N 3).length = S.C := rowF_len _ _
  have e4 : (S.rows N 4).length = S.C := rowF_len _ _
  have e5 : (S.rows N 5).length = S.C := rowF_len _ _
  have hCN := h.le
  obtain ⟨hr1, hr2, hr3⟩ := h.rng c hc
  obtain ⟨q3, c3, rfl, _⟩ : ∃ q c, v3 = .slice (some ⟨q, 0, none⟩) S.C c ∧ v3.ownBlock = some q := by
    rw [← e3]
    exact (own_form (hP.fm.own 3 (by simp))).resolve_left (fun h => by omega)
  obtain ⟨q4, c4, rfl, _⟩ : ∃ q c, v4 = .slice (some ⟨q, 0, none⟩) S.C c ∧ v4.ownBlock = some q := by
    rw [← e4]
    exact (own_form (hP.fm.own 4 (by simp))).resolve_left (fun h => by omega)
  obtain ⟨q5, c5, rfl, _⟩ : ∃ q c, v5 = .slice (some ⟨q, 0, none⟩) S.C c ∧ v5.ownBlock = some q := by
    rw [← e5]
    exact (own_form (hP.fm.own 5 (by simp))).resolve_left (fun h => by omega)
  obtain ⟨⟨a0, c0, h0⟩, ⟨a1, c1, h1⟩, ⟨a2, c2, h2⟩, _⟩ := hP.sl
  rw [e0] at h0
  rw [e1] at h1
  rw [e2] at h2
  subst h0 h1 h2
  obtain ⟨⟨z0, z1, z2, z3, z4, z5⟩, _⟩ := blk6 hP.blk
  have k3 := (hP.fm.cellN (i := 3) (j := c) (by simp) rfl e3 hc).1
  have k4 := (hP.fm.cellN (i := 4) (j := c) (by simp) rfl e4 hc).1
  have k5 := (hP.fm.cellN (i := 5) (j := c) (by simp) rfl e5 hc).1
  have k5f := (hP.fm.cellN (i := 5) (j := c) (by simp) rfl e5 hc).2
  have g3 : (S.rows N 3).getD c 0 = (S.fi c : Int) := rowF_get _ hc
  have g4 : (S.rows N 4).getD c 0 = (S.be c : Int) := rowF_get _ hc
  have g5 : (S.rows N 5).getD c 0 = (S.mq c : Int) := rowF_get _ hc
  rw [g3] at k3
  rw [g4] at k4
  rw [g5] at k5
  clear g3 g4 g5
  have m3 : q3 ∈ blocks [.slice a0 N c0, .slice a1 N c1, .slice a2 N c2, .slice (some ⟨q3, 0, none⟩) S.C c3, .slice (some ⟨q4, 0, none⟩) S.C c4, .slice (some ⟨q5, 0, none⟩) S.C c5] := mem_blocks (i := 3) (by simp) rfl
  have m4 : q4 ∈ blocks [.slice a0 N c0, .slice a1 N c1, .slice a2 N c2, .slice (some ⟨q3, 0, none⟩) S.C c3, .slice (some ⟨q4, 0, none⟩) S.C c4, .slice (some ⟨q5, 0, none⟩) S.C c5] := mem_blocks (i := 4) (by simp) rfl
  have m5 : q5 ∈ blocks [.slice a0 N c0, .slice a1 N c1, .slice a2 N c2, .slice (some ⟨q3, 0, none⟩) S.C c3, .slice (some ⟨q4, 0, none⟩) S.C c4, .slice (some ⟨q5, 0, none⟩) S.C c5] := mem_blocks (i := 5) (by simp) rfl
  have hsp : Hid (S.split c = ({ S with mq := upd S.mq c 0, be := upd S.be c (S.fi c + S.mq c) } : Ps).enter (S.fi c + S.mq c) (S.be c)) := by
    show _ = _
    unfold Ps.split
    rw [if_neg he, if_neg hle]
  have hpn := hid h.pn
  have hnp := hid h.np
  have hP5 := hid (fun q => (((hP.drewN q).set5 (t := c) e5 0).congr (f' := ({ S with mq := upd S.mq c 0 } : Ps).rows N) (six rfl rfl rfl rfl rfl (rowF_set S.C c 0 S.mq))))
  have hC5 := hid (fun q => (show Ch (blocks [.slice a0 N c0, .slice a1 N c1, .slice a2 N c2, .slice (some ⟨q3, 0, none⟩) S.C c3, .slice (some ⟨q4, 0, none⟩) S.C c4, .slice (some ⟨q5, 0, none⟩) S.C c5]) w (w.drewN q) from ⟨rfl, rfl, rfl, Nat.le_refl _, fun _ _ _ => rfl⟩).put (i := c) (.int .i64 0) m5)
  have hm3 := hid m3
  have hm4 := hid m4
  have n53 : ¬ q3 = q5 := fun e => hP.fm.nd 3 5 q3 q5 (by simp) (by simp) (by omega) rfl rfl e
  have n54 : ¬ q4 = q5 := fun e => hP.fm.nd 4 5 q4 q5 (by simp) (by simp) (by omega) rfl rfl e
  have np3 : ¬ pb = q3 := fun e => hP.fm.ty hP.blk (by decide) (mem_blocks (i := 3) (by simp) (by rw [e]; rfl))
  have np4 : ¬ pb = q4 := fun e => hP.fm.ty hP.blk (by decide) (mem_blocks (i := 4) (by simp) (by rw [e]; rfl))
  have np5 : ¬ pb = q5 := fun e => hP.fm.ty hP.blk (by decide) (mem_blocks (i := 5) (by simp) (by rw [e]; rfl))
  clear e0 e1 e2 e3 e4 e5 m3 m4 m5 h
  generalize hF : S.fi c = F at *
  generalize hM : S.mq c = M at *
  generalize hE : S.be c = E at *
  go_enter Tryz.func156, Tryz.ntmps156
  go_wp2
  go_quiet (fail)
  have hP3 := hid (fun q => ((hP5.out q).set4 (t := c) (rowF_len _ _) ((F : Int) + (M : Int))).congr (f' := ({ S with mq := upd S.mq c 0, be := upd S.be c (F + M) } : Ps).rows N) (six rfl rfl rfl rfl (radd _ _ _ _ _) rfl))
  have hC3 := hid (fun q => (hC5.out q).put (i := c) (.int .i64 ((F : Int) + (M : Int))) hm4.out)
  have hsz : Hid (∀ q, ((((w.drewN q).setCell ⟨q5, c, none⟩ (.int .i64 0)).setCell ⟨q4, c, none⟩ (.int .i64 ((F : Int) + (M : Int)))).heap.size = w.heap.size)) := fun q => by simp
  have k3f := (hP.fm.cellN (i := 4) (j := c) (by simp) rfl (rowF_len _ _) hc).2
  have hI : ¬ ((F : Int) + (M : Int) = (E : Int)) := by omega
  have hJ : ¬ ((F : Int) + (M : Int) - (F : Int) ≤ (E : Int) - ((F : Int) + (M : Int))) := by omega
  have hE1 : F + M < E := by omega
  have hE2 : E ≤ 4500 := by omega
  have hHP := hid hP
  clear hle he hP
  go_wp2_with (go_at_call 154; refine (enter_ps (a := F + M) (b := E) (hP3.out nq) hpn.out hnp.out hN (by show S.C ≤ 4500; omega) (by omega) (by omega) (by rw [hsz.out nq]; exact hB) (by omega) (by omega)).mono ?_; rintro e w1 ⟨rfl, u3, u4, u5, hE1', hE2', hE3'⟩)
  go_end0
  refine ⟨rfl, u3, u4, u5, by rw [hsp.out]; exact hE1', ((hC3.out nq).mono (fun k hk => List.mem_cons_of_mem _ hk)).trans hE2' (fun k hk => Or.inl hk), fun k hk => ?_⟩
  have := hE3' k hk
  rw [hsz.out nq] at this
  exact this
theorem split_any {w : World} {B pb c N : Nat} {v0 v1 v2 v3 v4 v5 : Value} {S : Ps} (hP : Pt w B pb v0 v1 v2 v3 v4 v5 (S.rows N)) (h : Iv N S) (hN : N ≤ 4500) (hc : c < S.C) (hm : 0 < S.mq c) (hB : B ≤ w.heap.size) :
    Calls Tryz.prog 156 #[.pointer (some ⟨pb, 0, none⟩), .int .i64 c] w fun e w' => e = .returned (.tuple #[]) ∧ ∃ u3 u4 u5, Pt w' B pb v0 v1 v2 u3 u4 u5 ((S.split c).rows N) ∧ Ch (pb :: blocks [v0, v1, v2, v3, v4, v5]) w w' ∧ ∀ k ∈ blocks [u3, u4, u5], k ∈ blocks [v0, v1, v2, v3, v4, v5] ∨ w.heap.size ≤ k := by
  by_cases he : S.fi c + S.mq c = S.be c
  · exact split_none hP h hN hc hm hB he
  · by_cases hle : S.mq c ≤ S.be c - (S.fi c + S.mq c)
    · exact split_low hP h hN hc hm hB he hle
    · exact split_high hP h hN hc hm hB he hle
end Go.Proofs.YtlibjdilicfcdaaGreatDoor

/- enter, mark and split of package bisim, over a partition as plain data. -/
import Derived.Test.Ytjkcffcedbcjmaata18Z
namespace Go.Proofs.Ytjkcffcedbcjmaa
set_option maxRecDepth 100000
open Go.RowKit
theorem Pt.set3 {w : World} {B pb q c t m : Nat} {v0 v1 v2 v4 v5 : Value} {f : Nat → List Int} (h : Pt w B pb v0 v1 v2 (.slice (some ⟨q, 0, none⟩) m c) v4 v5 f) (hm : (f 3).length = m) (x : Int) : Pt (w.setCell ⟨q, t, none⟩ (.int .i64 x)) B pb v0 v1 v2 (.slice (some ⟨q, 0, none⟩) m c) v4 v5 (upd f 3 ((f 3).set t x)) := by
  subst hm
  have hne : pb ≠ q := fun e => h.fm.ty h.blk (by decide) (mem_blocks (i := 3) (by simp) (by rw [e]; rfl))
  refine ⟨by rw [Below.heap_setCell _ _ _ _ hne]; exact h.blk, ?_, h.ge⟩
  exact Fm.set (i := 3) (t := t) h.fm (by simp) rfl x
theorem Pt.set4 {w : World} {B pb q c t m : Nat} {v0 v1 v2 v3 v5 : Value} {f : Nat → List Int} (h : Pt w B pb v0 v1 v2 v3 (.slice (some ⟨q, 0, none⟩) m c) v5 f) (hm : (f 4).length = m) (x : Int) : Pt (w.setCell ⟨q, t, none⟩ (.int .i64 x)) B pb v0 v1 v2 v3 (.slice (some ⟨q, 0, none⟩) m c) v5 (upd f 4 ((f 4).set t x)) := by
  subst hm
  have hne : pb ≠ q := fun e => h.fm.ty h.blk (by decide) (mem_blocks (i := 4) (by simp) (by rw [e]; rfl))
  refine ⟨by rw [Below.heap_setCell _ _ _ _ hne]; exact h.blk, ?_, h.ge⟩
  exact Fm.set (i := 4) (t := t) h.fm (by simp) rfl x
theorem Pt.congr {w : World} {B pb : Nat} {v0 v1 v2 v3 v4 v5 : Value} {f f' : Nat → List Int} (h : Pt w B pb v0 v1 v2 v3 v4 v5 f) (e : ∀ i, i < 6 → f i = f' i) : Pt w B pb v0 v1 v2 v3 v4 v5 f' :=
  ⟨h.blk, ⟨fun i hi => by
    have hi' : i < 6 := by simpa using hi
    rw [← e i hi']
    exact h.fm.own i hi, h.fm.nd⟩, h.ge⟩
theorem six {P : Nat → Prop} (h0 : P 0) (h1 : P 1) (h2 : P 2) (h3 : P 3) (h4 : P 4) (h5 : P 5) : ∀ i, i < 6 → P i := fun i hi => by
  have : i = 0 ∨ i = 1 ∨ i = 2 ∨ i = 3 ∨ i = 4 ∨ i = 5 := by omega
  rcases this with rfl | rfl | rfl | rfl | rfl | rfl <;> assumption
theorem Ps.rows_len (S : Ps) (N i : Nat) (hN : N ≤ 4500) (hC : S.C ≤ 4500) : (S.rows N i).length ≤ 4500 := by
  unfold Ps.rows
  repeat (split; (rw [rowF_len]; assumption))
  rw [rowF_len]
  assumption
theorem setL_row (N v : Nat) : ∀ (xs : List Int) (g : Nat → Nat), (∀ x ∈ xs, 0 ≤ x) → setL (rowF N g) xs (v : Int) = rowF N (fun n => if (n : Int) ∈ xs then v else g n)
  | [], g, _ => by simp [setL]
  | x :: r, g, h => by
    show setL ((rowF N g).set x.toNat (v : Int)) r v = _
    rw [rowF_set, setL_row N v r _ (fun y hy => h y (by simp [hy]))]
    refine rowF_congr fun i _ => ?_
    have h0 := h x (by simp)
    unfold upd
    by_cases e1 : (i : Int) ∈ r
    · simp [e1]
    · by_cases e2 : i = x.toNat
      · have e3 : (i : Int) = x := by omega
        rw [if_neg e1, if_pos e2, if_pos (by simp [e3])]
      · have e3 : (i : Int) ≠ x := by omega
        simp [e1, e2, e3]
theorem mem_cutrow {N a b : Nat} {S : Ps} (hpn : ∀ n, n < N → S.pl n < N ∧ S.nd (S.pl n) = n) (hnp : ∀ i, i < N → S.nd i < N ∧ S.pl (S.nd i) = i) (hb : b ≤ N) {n : Nat} (hn : n < N) : (n : Int) ∈ ((rowF N S.nd).drop a).take (b - a) ↔ a ≤ S.pl n ∧ S.pl n < b := by
  rw [List.mem_iff_getElem]
  constructor
  · rintro ⟨j, hj, e⟩
    simp only [List.length_take, List.length_drop, rowF_len] at hj
    rw [List.getElem_take, List.getElem_drop] at e
    simp only [rowF, List.getElem_map, List.getElem_range] at e
    have e' : S.nd (a + j) = n := by omega
    have := (hnp (a + j) (by omega)).2
    rw [e'] at this
    omega
  · rintro ⟨h1, h2⟩
    refine ⟨S.pl n - a, by simp only [List.length_take, List.length_drop, rowF_len]; omega, ?_⟩
    rw [List.getElem_take, List.getElem_drop]
    simp only [rowF, List.getElem_map, List.getElem_range]
    have e : a + (S.pl n - a) = S.pl n := by omega
    rw [e, (hpn n hn).2]
theorem enter_rows {N a b : Nat} {S : Ps} (hpn : ∀ n, n < N → S.pl n < N ∧ S.nd (S.pl n) = n) (hnp : ∀ i, i < N → S.nd i < N ∧ S.pl (S.nd i) = i) (hb : b ≤ N) :
    ∀ i, i < 6 → upd (upd (upd (upd (S.rows N) 2 (setL (S.rows N 2) (((S.rows N 0).drop a).take (b - a)) (S.rows N 3).length)) 3 (S.rows N 3 ++ [(a : Int)])) 4 (S.rows N 4 ++ [(b : Int)])) 5 (S.rows N 5 ++ [0]) i = (S.enter a b).rows N i := by
  refine six rfl rfl ?_ ?_ ?_ ?_
  · show setL (rowF N S.cl) (((rowF N S.nd).drop a).take (b - a)) ((rowF S.C S.fi).length : Nat) = rowF N _
    rw [rowF_len, setL_row]
    · refine rowF_congr fun n hn => ?_
      by_cases h : a ≤ S.pl n ∧ S.pl n < b
      · rw [if_pos ((mem_cutrow hpn hnp hb hn).2 h)]
        exact (if_pos h).symm
      · rw [if_neg (fun h' => h ((mem_cutrow hpn hnp hb hn).1 h'))]
        exact (if_neg h).symm
    · intro x hx
      have hx' := List.mem_of_mem_drop (List.mem_of_mem_take hx)
      obtain ⟨i, _, rfl⟩ := List.mem_map.1 hx'
      omega
  · exact rowF_snoc _ _ _
  · exact rowF_snoc _ _ _
  · exact rowF_snoc _ 0 _
theorem enter_ps {w : World} {B pb a b N : Nat} {v0 v1 v2 v3 v4 v5 : Value} {S : Ps} (hP : Pt w B pb v0 v1 v2 v3 v4 v5 (S.rows N)) (hpn : ∀ n, n < N → S.pl n < N ∧ S.nd (S.pl n) = n) (hnp : ∀ i, i < N → S.nd i < N ∧ S.pl (S.nd i) = i) (hN : N ≤ 4500) (hC : S.C ≤ 4500) (hab : a < b) (hb : b ≤ N) (hB : B ≤ w.heap.size) {x y : Int} (hx : x = (a : Int)) (hy : y = (b : Int)) :
    Calls Try.prog 102 #[.pointer (some ⟨pb, 0, none⟩), .int .i64 x, .int .i64 y] w fun e w' => e = .returned (.tuple #[]) ∧ ∃ u3 u4 u5, Pt w' B pb v0 v1 v2 u3 u4 u5 ((S.enter a b).rows N) ∧ Ch (pb :: blocks [v0, v1, v2, v3, v4, v5]) w w' ∧ ∀ k ∈ blocks [u3, u4, u5], k ∈ blocks [v0, v1, v2, v3, v4, v5] ∨ w.heap.size ≤ k := by
  subst hx hy
  refine (enter_any hP hab (by show b ≤ (rowF N S.nd).length; rw [rowF_len]; exact hb) (fun i => S.rows_len N i hN hC) (fun x hx => ?_) hB).mono ?_
  · have hx' : x ∈ rowF N S.nd := hx
    obtain ⟨i, hi, rfl⟩ := List.mem_map.1 hx'
    have := (hnp i (List.mem_range.1 hi)).1
    show 0 ≤ _ ∧ _ < ((rowF N S.cl).length : Int)
    rw [rowF_len]
    omega
  · rintro e w' ⟨rfl, u3, u4, u5, h1, h2, h3⟩
    exact ⟨rfl, u3, u4, u5, h1.congr (enter_rows hpn hnp hb), h2, h3⟩
theorem mark_ps {w : World} {B pb n N : Nat} {v0 v1 v2 v3 v4 v5 : Value} {S : Ps} (hP : Pt w B pb v0 v1 v2 v3 v4 v5 (S.rows N)) (h : Iv N S) (hN : N ≤ 4500) (hn : n < N) (hm : ¬ S.mkd n) :
    Calls Try.prog 103 #[.pointer (some ⟨pb, 0, none⟩), .int .i64 n] w fun e w' => e = .returned (.tuple #[]) ∧ Pt w' B pb v0 v1 v2 v3 v4 v5 ((S.mark n).rows N) ∧ Ch (blocks [v0, v1, v2, v3, v4, v5]) w w' := by
  have hC := h.le
  have hc := h.cls n hn
  obtain ⟨hA, _, _⟩ := h.at hn hm
  have ho := (h.np _ hA).1
  have hp := (h.pn n hn).1
  refine (mark_any (c := S.cl n) (a := S.fi (S.cl n)) (m := S.mq (S.cl n)) (o := S.nd (S.fi (S.cl n) + S.mq (S.cl n))) (p := S.pl n) hP (fun i => S.rows_len N i hN (by omega)) ?_ ?_ ?_ (rowF_get _ hn) ?_ ?_ (rowF_get _ hc) (rowF_get _ hc) ?_ (rowF_get _ hA) ?_ (rowF_get _ hn) ?_).mono ?_
  · show (rowF N S.pl).length = (rowF N S.nd).length
    rw [rowF_len, rowF_len]
  · show (rowF N S.cl).length = (rowF N S.nd).length
    rw [rowF_len, rowF_len]
  · show n < (rowF N S.nd).length
    rw [rowF_len]
    exact hn
  · show S.cl n < (rowF S.C S.fi).length
    rw [rowF_len]
    exact hc
  · show S.cl n < (rowF S.C S.mq).length
    rw [rowF_len]
    exact hc
  · show S.fi (S.cl n) + S.mq (S.cl n) < (rowF N S.nd).length
    rw [rowF_len]
    exact hA
  · show S.nd (S.fi (S.cl n) + S.mq (S.cl n)) < (rowF N S.nd).length
    rw [rowF_len]
    exact ho
  · show S.pl n < (rowF N S.nd).length
    rw [rowF_len]
    exact hp
  · rintro e w' ⟨rfl, h1, h2⟩
    refine ⟨rfl, h1.congr (six ?_ ?_ rfl rfl rfl ?_), h2⟩
    · show ((rowF N S.nd).set _ _).set _ _ = rowF N (S.mark n).nd
      rw [rowF_set, rowF_set]
      rfl
    · show ((rowF N S.pl).set _ _).set _ ((S.fi (S.cl n) : Int) + (S.mq (S.cl n) : Int)) = rowF N (S.mark n).pl
      have e : (S.fi (S.cl n) : Int) + (S.mq (S.cl n) : Int) = ((S.fi (S.cl n) + S.mq (S.cl n) : Nat) : Int) := by omega
      rw [e, rowF_set, rowF_set]
      rfl
    · show (rowF S.C S.mq).set _ ((S.mq (S.cl n) : Int) + 1) = rowF S.C (S.mark n).mq
      have e : (S.mq (S.cl n) : Int) + 1 = ((S.mq (S.cl n) + 1 : Nat) : Int) := by omega
      rw [e, rowF_set]
      rfl
theorem radd (N t a b : Nat) (g : Nat → Nat) : (rowF N g).set t ((a : Int) + (b : Int)) = rowF N (upd g t (a + b)) := by rw [← rowF_set]; rfl
theorem mem_last {α : Type} {a0 a1 a2 a3 a4 a5 v : α} (h : v ∈ [a3, a4, a5]) : v ∈ [a0, a1, a2, a3, a4, a5] := List.mem_cons_of_mem _ (List.mem_cons_of_mem _ (List.mem_cons_of_mem _ h))
theorem blocks_last {v0 v1 v2 v3 v4 v5 : Value} {k : Nat} (h : k ∈ blocks [v3, v4, v5]) : k ∈ blocks [v0, v1, v2, v3, v4, v5] := by
  obtain ⟨v, hv, e⟩ := List.mem_filterMap.1 h
  exact List.mem_filterMap.2 ⟨v, mem_last hv, e⟩
set_option maxHeartbeats 4000000 in
theorem split_none {w : World} {B pb c N : Nat} {v0 v1 v2 v3 v4 v5 : Value} {S : Ps} (hP : Pt w B pb v0 v1 v2 v3 v4 v5 (S.rows N)) (h : Iv N S) (hN : N ≤ 4500) (hc : c < S.C) (_hm : 0 < S.mq c) (_hB : B ≤ w.heap.size) (he : S.fi c + S.mq c = S.be c) :
    Calls Try.prog 104 #[.pointer (some ⟨pb, 0, none⟩), .int .i64 c] w fun e w' => e = .returned (.tuple #[]) ∧ ∃ u3 u4 u5, Pt w' B pb v0 v1 v2 u3 u4 u5 ((S.split c).rows N) ∧ Ch (pb :: blocks [v0, v1, v2, v3, v4, v5]) w w' ∧ ∀ k ∈ blocks [u3, u4, u5], k ∈ blocks [v0, v1, v2, v3, v4, v5] ∨ w.heap.size ≤ k := by
  have e0 : (S.rows N 0).length = N := rowF_len _ _
  have e1 : (S.rows N 1).length = N := rowF_len _ _
  have e2 : (S.rows N 2).length = N := rowF_len _ _
  have e3 : (S.rows N 3).length = S.C := rowF_len _ _
  have e4 : (S.rows N 4).length = S.C := rowF_len _ _
  have e5 : (S.rows N 5).length = S.C := rowF_len _ _
  have hCN := h.le
  obtain ⟨hr1, hr2, hr3⟩ := h.rng c hc
  obtain ⟨q3, c3, rfl, _⟩ : ∃ q c, v3 = .slice (some ⟨q, 0, none⟩) S.C c ∧ v3.ownBlock = some q := by
    rw [← e3]
    exact (own_form (hP.fm.own 3 (by simp))).resolve_left (fun h => by omega)
  obtain ⟨q4, c4, rfl, _⟩ : ∃ q c, v4 = .slice (some ⟨q, 0, none⟩) S.C c ∧ v4.ownBlock = some q := by
    rw [← e4]
    exact (own_form (hP.fm.own 4 (by simp))).resolve_left (fun h => by omega)
  obtain ⟨q5, c5, rfl, _⟩ : ∃ q c, v5 = .slice (some ⟨q, 0, none⟩) S.C c ∧ v5.ownBlock = some q := by
    rw [← e5]
    exact (own_form (hP.fm.own 5 (by simp))).resolve_left (fun h => by omega)
  obtain ⟨⟨a0, c0, h0⟩, ⟨a1, c1, h1⟩, ⟨a2, c2, h2⟩, _⟩ := hP.sl
  rw [e0] at h0
  rw [e1] at h1
  rw [e2] at h2
  subst h0 h1 h2
  obtain ⟨⟨z0, z1, z2, z3, z4, z5⟩, _⟩ := blk6 hP.blk
  have k3 := (hP.fm.cellN (i := 3) (j := c) (by simp) rfl e3 hc).1
  have k4 := (hP.fm.cellN (i := 4) (j := c) (by simp) rfl e4 hc).1
  have k5 := (hP.fm.cellN (i := 5) (j := c) (by simp) rfl e5 hc).1
  have k5f := (hP.fm.cellN (i := 5) (j := c) (by simp) rfl e5 hc).2
  have g3 : (S.rows N 3).getD c 0 = (S.fi c : Int) := rowF_get _ hc
  have g4 : (S.rows N 4).getD c 0 = (S.be c : Int) := rowF_get _ hc
  have g5 : (S.rows N 5).getD c 0 = (S.mq c : Int) := rowF_get _ hc
  rw [g3] at k3
  rw [g4] at k4
  rw [g5] at k5
  clear g3 g4 g5
  have m3 : q3 ∈ blocks [.slice a0 N c0, .slice a1 N c1, .slice a2 N c2, .slice (some ⟨q3, 0, none⟩) S.C c3, .slice (some ⟨q4, 0, none⟩) S.C c4, .slice (some ⟨q5, 0, none⟩) S.C c5] := mem_blocks (i := 3) (by simp) rfl
  have m4 : q4 ∈ blocks [.slice a0 N c0, .slice a1 N c1, .slice a2 N c2, .slice (some ⟨q3, 0, none⟩) S.C c3, .slice (some ⟨q4, 0, none⟩) S.C c4, .slice (some ⟨q5, 0, none⟩) S.C c5] := mem_blocks (i := 4) (by simp) rfl
  have m5 : q5 ∈ blocks [.slice a0 N c0, .slice a1 N c1, .slice a2 N c2, .slice (some ⟨q3, 0, none⟩) S.C c3, .slice (some ⟨q4, 0, none⟩) S.C c4, .slice (some ⟨q5, 0, none⟩) S.C c5] := mem_blocks (i := 5) (by simp) rfl
  have hsp : Hid (S.split c = { S with mq := upd S.mq c 0 }) := by
    show _ = _
    unfold Ps.split
    rw [if_pos he]
  have hpn := hid h.pn
  have hnp := hid h.np
  have hP5 := hid (fun q => (((hP.drewN q).set5 (t := c) e5 0).congr (f' := ({ S with mq := upd S.mq c 0 } : Ps).rows N) (six rfl rfl rfl rfl rfl (rowF_set S.C c 0 S.mq))))
  have hC5 := hid (fun q => (show Ch (blocks [.slice a0 N c0, .slice a1 N c1, .slice a2 N c2, .slice (some ⟨q3, 0, none⟩) S.C c3, .slice (some ⟨q4, 0, none⟩) S.C c4, .slice (some ⟨q5, 0, none⟩) S.C c5]) w (w.drewN q) from ⟨rfl, rfl, rfl, Nat.le_refl _, fun _ _ _ => rfl⟩).put (i := c) (.int .i64 0) m5)
  have hm3 := hid m3
  have hm4 := hid m4
  have n53 : ¬ q3 = q5 := fun e => hP.fm.nd 3 5 q3 q5 (by simp) (by simp) (by omega) rfl rfl e
  have n54 : ¬ q4 = q5 := fun e => hP.fm.nd 4 5 q4 q5 (by simp) (by simp) (by omega) rfl rfl e
  have np3 : ¬ pb = q3 := fun e => hP.fm.ty hP.blk (by decide) (mem_blocks (i := 3) (by simp) (by rw [e]; rfl))
  have np4 : ¬ pb = q4 := fun e => hP.fm.ty hP.blk (by decide) (mem_blocks (i := 4) (by simp) (by rw [e]; rfl))
  have np5 : ¬ pb = q5 := fun e => hP.fm.ty hP.blk (by decide) (mem_blocks (i := 5) (by simp) (by rw [e]; rfl))
  clear e0 e1 e2 e3 e4 e5 m3 m4 m5 h
  generalize hF : S.fi c = F at *
  generalize hM : S.mq c = M at *
  generalize hE : S.be c = E at *
  go_enter Try.func104, Try.ntmps104
  go_wp2
  go_quiet (fail)
  go_wp2
  refine bodyPost_ret (results_none rfl _ _ _) rfl ?_
  exact ⟨rfl, _, _, _, by rw [hsp.out]; exact hP5.out nq, (hC5.out nq).mono (fun k hk => List.mem_cons_of_mem _ hk), fun k hk => Or.inl (blocks_last hk)⟩
end Go.Proofs.Ytjkcffcedbcjmaa

namespace Go.Proofs.Ytjkcffcedbcjmaa
set_option maxRecDepth 100000
open Go.RowKit
set_option maxHeartbeats 4000000 in
theorem split_low {w : World} {B pb c N : Nat} {v0 v1 v2 v3 v4 v5 : Value} {S : Ps} (hP : Pt w B pb v0 v1 v2 v3 v4 v5 (S.rows N)) (h : Iv N S) (hN : N ≤ 4500) (hc : c < S.C) (hm : 0 < S.mq c) (hB : B ≤ w.heap.size) (he : ¬ S.fi c + S.mq c = S.be c) (hle : S.mq c ≤ S.be c - (S.fi c + S.mq c)) :
    Calls Try.prog 104 #[.pointer (some ⟨pb, 0, none⟩), .int .i64 c] w fun e w' => e = .returned (.tuple #[]) ∧ ∃ u3 u4 u5, Pt w' B pb v0 v1 v2 u3 u4 u5 ((S.split c).rows N) ∧ Ch (pb :: blocks [v0, v1, v2, v3, v4, v5]) w w' ∧ ∀ k ∈ blocks [u3, u4, u5], k ∈ blocks [v0, v1, v2, v3, v4, v5] ∨ w.heap.size ≤ k := by
  have e0 : (S.rows N 0).length = N := rowF_len _ _
  have e1 : (S.rows N 1).length = N := rowF_len _ _
  have e2 : (S.rows N 2).length = N := rowF_len _ _
  have e3 : (S.rows N 3).length = S.C := rowF_len _ _
  have e4 : (S.rows N 4).length = S.C := rowF_len _ _
  have e5 : (S.rows N 5).length = S.C := rowF_len _ _
  have hCN := h.le
  obtain ⟨hr1, hr2, hr3⟩ := h.rng c hc
  obtain ⟨q3, c3, rfl, _⟩ : ∃ q c, v3 = .slice (some ⟨q, 0, none⟩) S.C c ∧ v3.ownBlock = some q := by
    rw [← e3]
    exact (own_form (hP.fm.own 3 (by simp))).resolve_left (fun h => by omega)
  obtain ⟨q4, c4, rfl, _⟩ : ∃ q c, v4 = .slice (some ⟨q, 0, none⟩) S.C c ∧ v4.ownBlock = some q := by
    rw [← e4]
    exact (own_form (hP.fm.own 4 (by simp))).resolve_left (fun h => by omega)
  obtain ⟨q5, c5, rfl, _⟩ : ∃ q c, v5 = .slice (some ⟨q, 0, none⟩) S.C c ∧ v5.ownBlock = some q := by
    rw [← e5]
    exact (own_form (hP.fm.own 5 (by simp))).resolve_left (fun h => by omega)
  obtain ⟨⟨a0, c0, h0⟩, ⟨a1, c1, h1⟩, ⟨a2, c2, h2⟩, _⟩ := hP.sl
  rw [e0] at h0
  rw [e1] at h1
  rw [e2] at h2
  subst h0 h1 h2
  obtain ⟨⟨z0, z1, z2, z3, z4, z5⟩, _⟩ := blk6 hP.blk
  have k3 := (hP.fm.cellN (i := 3) (j := c) (by simp) rfl e3 hc).1
  have k4 := (hP.fm.cellN (i := 4) (j := c) (by simp) rfl e4 hc).1
  have k5 := (hP.fm.cellN (i := 5) (j := c) (by simp) rfl e5 hc).1
  have k5f := (hP.fm.cellN (i := 5) (j := c) (by simp) rfl e5 hc).2
  have g3 : (S.rows N 3).getD c 0 = (S.fi c : Int) := rowF_get _ hc
  have g4 : (S.rows N 4).getD c 0 = (S.be c : Int) := rowF_get _ hc
  have g5 : (S.rows N 5).getD c 0 = (S.mq c : Int) := rowF_get _ hc
  rw [g3] at k3
  rw [g4] at k4
  rw [g5] at k5
  clear g3 g4 g5
  have m3 : q3 ∈ blocks [.slice a0 N c0, .slice a1 N c1, .slice a2 N c2, .slice (some ⟨q3, 0, none⟩) S.C c3, .slice (some ⟨q4, 0, none⟩) S.C c4, .slice (some ⟨q5, 0, none⟩) S.C c5] := mem_blocks (i := 3) (by simp) rfl
  have m4 : q4 ∈ blocks [.slice a0 N c0, .slice a1 N c1, .slice a2 N c2, .slice (some ⟨q3, 0, none⟩) S.C c3, .slice (some ⟨q4, 0, none⟩) S.C c4, .slice (some ⟨q5, 0, none⟩) S.C c5] := mem_blocks (i := 4) (by simp) rfl
  have m5 : q5 ∈ blocks [.slice a0 N c0, .slice a1 N c1, .slice a2 N c2, .slice (some ⟨q3, 0, none⟩) S.C c3, .slice (some ⟨q4, 0, none⟩) S.C c4, .slice (some ⟨q5, 0, none⟩) S.C c5] := mem_blocks (i := 5) (by simp) rfl
  have hsp : Hid (S.split c = ({ S with mq := upd S.mq c 0, fi := upd S.fi c (S.fi c + S.mq c) } : Ps).enter (S.fi c) (S.fi c + S.mq c)) := by
    show _ = _
    unfold Ps.split
    rw [if_neg he, if_pos hle]
  have hpn := hid h.pn
  have hnp := hid h.np
  have hP5 := hid (fun q => (((hP.drewN q).set5 (t := c) e5 0).congr (f' := ({ S with mq := upd S.mq c 0 } : Ps).rows N) (six rfl rfl rfl rfl rfl (rowF_set S.C c 0 S.mq))))
  have hC5 := hid (fun q => (show Ch (blocks [.slice a0 N c0, .slice a1 N c1, .slice a2 N c2, .slice (some ⟨q3, 0, none⟩) S.C c3, .slice (some ⟨q4, 0, none⟩) S.C c4, .slice (some ⟨q5, 0, none⟩) S.C c5]) w (w.drewN q) from ⟨rfl, rfl, rfl, Nat.le_refl _, fun _ _ _ => rfl⟩).put (i := c) (.int .i64 0) m5)
  have hm3 := hid m3
  have hm4 := hid m4
  have n53 : ¬ q3 = q5 := fun e => hP.fm.nd 3 5 q3 q5 (by simp) (by simp) (by omega) rfl rfl e
  have n54 : ¬ q4 = q5 := fun e => hP.fm.nd 4 5 q4 q5 (by simp) (by simp) (by omega) rfl rfl e
  have np3 : ¬ pb = q3 := fun e => hP.fm.ty hP.blk (by decide) (mem_blocks (i := 3) (by simp) (by rw [e]; rfl))
  have np4 : ¬ pb = q4 := fun e => hP.fm.ty hP.blk (by decide) (mem_blocks (i := 4) (by simp) (by rw [e]; rfl))
  have np5 : ¬ pb = q5 := fun e => hP.fm.ty hP.blk (by decide) (mem_blocks (i := 5) (by simp) (by rw [e]; rfl))
  clear e0 e1 e2 e3 e4 e5 m3 m4 m5 h
  generalize hF : S.fi c = F at *
  generalize hM : S.mq c = M at *
  generalize hE : S.be c = E at *
  go_enter Try.func104, Try.ntmps104
  go_wp2
  go_quiet (fail)
  have hP3 := hid (fun q => ((hP5.out q).set3 (t := c) (rowF_len _ _) ((F : Int) + (M : Int))).congr (f' := ({ S with mq := upd S.mq c 0, fi := upd S.fi c (F + M) } : Ps).rows N) (six rfl rfl rfl (radd _ _ _ _ _) rfl rfl))
  have hC3 := hid (fun q => (hC5.out q).put (i := c) (.int .i64 ((F : Int) + (M : Int))) hm3.out)
  have hsz : Hid (∀ q, ((((w.drewN q).setCell ⟨q5, c, none⟩ (.int .i64 0)).setCell ⟨q3, c, none⟩ (.int .i64 ((F : Int) + (M : Int)))).heap.size = w.heap.size)) := fun q => by simp
  have k3f := (hP.fm.cellN (i := 3) (j := c) (by simp) rfl (rowF_len _ _) hc).2
  have hI : ¬ ((F : Int) + (M : Int) = (E : Int)) := by omega
  have hJ : (F : Int) + (M : Int) - (F : Int) ≤ (E : Int) - ((F : Int) + (M : Int)) := by omega
  have hE1 : F + M < E := by omega
  have hE2 : E ≤ 4500 := by omega
  have hHP := hid hP
  clear hle he hP
  go_wp2_with (go_at_call 102; refine (enter_ps (a := F) (b := F + M) (hP3.out nq) hpn.out hnp.out hN (by show S.C ≤ 4500; omega) (by omega) (by omega) (by rw [hsz.out nq]; exact hB) (by omega) (by omega)).mono ?_; rintro e w1 ⟨rfl, u3, u4, u5, hE1', hE2', hE3'⟩)
  go_end0
  refine ⟨rfl, u3, u4, u5, by rw [hsp.out]; exact hE1', ((hC3.out nq).mono (fun k hk => List.mem_cons_of_mem _ hk)).trans hE2' (fun k hk => Or.inl hk), fun k hk => ?_⟩
  have := hE3' k hk
  rw [hsz.out nq] at this
  exact this
set_option maxHeartbeats 4000000 in
theorem split_high {w : World} {B pb c N : Nat} {v0 v1 v2 v3 v4 v5 : Value} {S : Ps} (hP : Pt w B pb v0 v1 v2 v3 v4 v5 (S.rows N)) (h : Iv N S) (hN : N ≤ 4500) (hc : c < S.C) (hm : 0 < S.mq c) (hB : B ≤ w.heap.size) (he : ¬ S.fi c + S.mq c = S.be c) (hle : ¬ S.mq c ≤ S.be c - (S.fi c + S.mq c)) :
    Calls Try.prog 104 #[.pointer (some ⟨pb, 0, none⟩), .int .i64 c] w fun e w' => e = .returned (.tuple #[]) ∧ ∃ u3 u4 u5, Pt w' B pb v0 v1 v2 u3 u4 u5 ((S.split c).rows N) ∧ Ch (pb :: blocks [v0, v1, v2, v3, v4, v5]) w w' ∧ ∀ k ∈ blocks [u3, u4, u5], k ∈ blocks [v0, v1, v2, v3, v4, v5] ∨ w.heap.size ≤ k := by
  have e0 : (S.rows N 0).length = N := rowF_len _ _
  have e1 : (S.rows N 1).length = N := rowF_len _ _
  have e2 : (S.rows N 2).length = N := rowF_len _ _
  have e3 : (S.rows N 3).length = S.C := rowF_len _ _
  have e4 : (S.rows N 4).length = S.C := rowF_len _ _
  have e5 : (S.rows N 5).length = S.C := rowF_len _ _
  have hCN := h.le
  obtain ⟨hr1, hr2, hr3⟩ := h.rng c hc
  obtain ⟨q3, c3, rfl, _⟩ : ∃ q c, v3 = .slice (some ⟨q, 0, none⟩) S.C c ∧ v3.ownBlock = some q := by
    rw [← e3]
    exact (own_form (hP.fm.own 3 (by simp))).resolve_left (fun h => by omega)
  obtain ⟨q4, c4, rfl, _⟩ : ∃ q c, v4 = .slice (some ⟨q, 0, none⟩) S.C c ∧ v4.ownBlock = some q := by
    rw [← e4]
    exact (own_form (hP.fm.own 4 (by simp))).resolve_left (fun h => by omega)
  obtain ⟨q5, c5, rfl, _⟩ : ∃ q c, v5 = .slice (some ⟨q, 0, none⟩) S.C c ∧ v5.ownBlock = some q := by
    rw [← e5]
    exact (own_form (hP.fm.own 5 (by simp))).resolve_left (fun h => by omega)
  obtain ⟨⟨a0, c0, h0⟩, ⟨a1, c1, h1⟩, ⟨a2, c2, h2⟩, _⟩ := hP.sl
  rw [e0] at h0
  rw [e1] at h1
  rw [e2] at h2
  subst h0 h1 h2
  obtain ⟨⟨z0, z1, z2, z3, z4, z5⟩, _⟩ := blk6 hP.blk
  have k3 := (hP.fm.cellN (i := 3) (j := c) (by simp) rfl e3 hc).1
  have k4 := (hP.fm.cellN (i := 4) (j := c) (by simp) rfl e4 hc).1
  have k5 := (hP.fm.cellN (i := 5) (j := c) (by simp) rfl e5 hc).1
  have k5f := (hP.fm.cellN (i := 5) (j := c) (by simp) rfl e5 hc).2
  have g3 : (S.rows N 3).getD c 0 = (S.fi c : Int) := rowF_get _ hc
  have g4 : (S.rows N 4).getD c 0 = (S.be c : Int) := rowF_get _ hc
  have g5 : (S.rows N 5).getD c 0 = (S.mq c : Int) := rowF_get _ hc
  rw [g3] at k3
  rw [g4] at k4
  rw [g5] at k5
  clear g3 g4 g5
  have m3 : q3 ∈ blocks [.slice a0 N c0, .slice a1 N c1, .slice a2 N c2, .slice (some ⟨q3, 0, none⟩) S.C c3, .slice (some ⟨q4, 0, none⟩) S.C c4, .slice (some ⟨q5, 0, none⟩) S.C c5] := mem_blocks (i := 3) (by simp) rfl
  have m4 : q4 ∈ blocks [.slice a0 N c0, .slice a1 N c1, .slice a2 N c2, .slice (some ⟨q3, 0, none⟩) S.C c3, .slice (some ⟨q4, 0, none⟩) S.C c4, .slice (some ⟨q5, 0, none⟩) S.C c5] := mem_blocks (i := 4) (by simp) rfl
  have m5 : q5 ∈ blocks [.slice a0 N c0, .slice a1 N c1, .slice a2 N c2, .slice (some ⟨q3, 0, none⟩) S.C c3, .slice (some ⟨q4, 0, none⟩) S.C c4, .slice (some ⟨q5, 0, none⟩) S.C c5] := mem_blocks (i := 5) (by simp) rfl
  have hsp : Hid (S.split c = ({ S with mq := upd S.mq c 0, be := upd S.be c (S.fi c + S.mq c) } : Ps).enter (S.fi c + S.mq c) (S.be c)) := by
    show _ = _
    unfold Ps.split
    rw [if_neg he, if_neg hle]
  have hpn := hid h.pn
  have hnp := hid h.np
  have hP5 := hid (fun q => (((hP.drewN q).set5 (t := c) e5 0).congr (f' := ({ S with mq := upd S.mq c 0 } : Ps).rows N) (six rfl rfl rfl rfl rfl (rowF_set S.C c 0 S.mq))))
  have hC5 := hid (fun q => (show Ch (blocks [.slice a0 N c0, .slice a1 N c1, .slice a2 N c2, .slice (some ⟨q3, 0, none⟩) S.C c3, .slice (some ⟨q4, 0, none⟩) S.C c4, .slice (some ⟨q5, 0, none⟩) S.C c5]) w (w.drewN q) from ⟨rfl, rfl, rfl, Nat.le_refl _, fun _ _ _ => rfl⟩).put (i := c) (.int .i64 0) m5)
  have hm3 := hid m3
  have hm4 := hid m4
  have n53 : ¬ q3 = q5 := fun e => hP.fm.nd 3 5 q3 q5 (by simp) (by simp) (by omega) rfl rfl e
  have n54 : ¬ q4 = q5 := fun e => hP.fm.nd 4 5 q4 q5 (by simp) (by simp) (by omega) rfl rfl e
  have np3 : ¬ pb = q3 := fun e => hP.fm.ty hP.blk (by decide) (mem_blocks (i := 3) (by simp) (by rw [e]; rfl))
  have np4 : ¬ pb = q4 := fun e => hP.fm.ty hP.blk (by decide) (mem_blocks (i := 4) (by simp) (by rw [e]; rfl))
  have np5 : ¬ pb = q5 := fun e => hP.fm.ty hP.blk (by decide) (mem_blocks (i := 5) (by simp) (by rw [e]; rfl))
  clear e0 e1 e2 e3 e4 e5 m3 m4 m5 h
  generalize hF : S.fi c = F at *
  generalize hM : S.mq c = M at *
  generalize hE : S.be c = E at *
  go_enter Try.func104, Try.ntmps104
  go_wp2
  go_quiet (fail)
  have hP3 := hid (fun q => ((hP5.out q).set4 (t := c) (rowF_len _ _) ((F : Int) + (M : Int))).congr (f' := ({ S with mq := upd S.mq c 0, be := upd S.be c (F + M) } : Ps).rows N) (six rfl rfl rfl rfl (radd _ _ _ _ _) rfl))
  have hC3 := hid (fun q => (hC5.out q).put (i := c) (.int .i64 ((F : Int) + (M : Int))) hm4.out)
  have hsz : Hid (∀ q, ((((w.drewN q).setCell ⟨q5, c, none⟩ (.int .i64 0)).setCell ⟨q4, c, none⟩ (.int .i64 ((F : Int) + (M : Int)))).heap.size = w.heap.size)) := fun q => by simp
  have k3f := (hP.fm.cellN (i := 4) (j := c) (by simp) rfl (rowF_len _ _) hc).2
  have hI : ¬ ((F : Int) + (M : Int) = (E : Int)) := by omega
  have hJ : ¬ ((F : Int) + (M : Int) - (F : Int) ≤ (E : Int) - ((F : Int) + (M : Int))) := by omega
  have hE1 : F + M < E := by omega
  have hE2 : E ≤ 4500 := by omega
  have hHP := hid hP
  clear hle he hP
  go_wp2_with (go_at_call 102; refine (enter_ps (a := F + M) (b := E) (hP3.out nq) hpn.out hnp.out hN (by show S.C ≤ 4500; omega) (by omega) (by omega) (by rw [hsz.out nq]; exact hB) (by omega) (by omega)).mono ?_; rintro e w1 ⟨rfl, u3, u4, u5, hE1', hE2', hE3'⟩)
  go_end0
  refine ⟨rfl, u3, u4, u5, by rw [hsp.out]; exact hE1', ((hC3.out nq).mono (fun k hk => List.mem_cons_of_mem _ hk)).trans hE2' (fun k hk => Or.inl hk), fun k hk => ?_⟩
  have := hE3' k hk
  rw [hsz.out nq] at this
  exact this
theorem split_any {w : World} {B pb c N : Nat} {v0 v1 v2 v3 v4 v5 : Value} {S : Ps} (hP : Pt w B pb v0 v1 v2 v3 v4 v5 (S.rows N)) (h : Iv N S) (hN : N ≤ 4500) (hc : c < S.C) (hm : 0 < S.mq c) (hB : B ≤ w.heap.size) :
    Calls Try.prog 104 #[.pointer (some ⟨pb, 0, none⟩), .int .i64 c] w fun e w' => e = .returned (.tuple #[]) ∧ ∃ u3 u4 u5, Pt w' B pb v0 v1 v2 u3 u4 u5 ((S.split c).rows N) ∧ Ch (pb :: blocks [v0, v1, v2, v3, v4, v5]) w w' ∧ ∀ k ∈ blocks [u3, u4, u5], k ∈ blocks [v0, v1, v2, v3, v4, v5] ∨ w.heap.size ≤ k := by
  by_cases he : S.fi c + S.mq c = S.be c
  · exact split_none hP h hN hc hm hB he
  · by_cases hle : S.mq c ≤ S.be c - (S.fi c + S.mq c)
    · exact split_low hP h hN hc hm hB he hle
    · exact split_high hP h hN hc hm hB he hle
end Go.Proofs.Ytjkcffcedbcjmaa

namespace Go.Proofs.Ytjkcffcedbcjmaa
set_option maxRecDepth 100000
open Go.RowKit
def ints (l : List Nat) : List Int := l.map (fun n : Nat => (n : Int))
theorem ints_len (l : List Nat) : (ints l).length = l.length := by simp [ints]
theorem ints_get {l : List Nat} {k : Nat} (h : k < l.length) : (ints l).getD k 0 = ((l.getD k 0 : Nat) : Int) := by simp [ints, List.getD, h]
theorem ints_snoc (l : List Nat) (n : Nat) : ints (l ++ [n]) = ints l ++ [(n : Int)] := by simp [ints]
theorem ntake_snoc {l : List Nat} {k : Nat} (h : k < l.length) : l.take (k + 1) = l.take k ++ [l.getD k 0] := by
  rw [List.take_succ_eq_append_getElem h]
  simp [List.getD, h]
theorem nget_mem {l : List Nat} {k : Nat} (h : k < l.length) : l.getD k 0 ∈ l := by simp [List.getD, h]
theorem fewer {C : Nat} {T : List Nat} (h : T.Nodup) (hr : ∀ c ∈ T, c < C) : T.length ≤ C := by
  have := pigeon C (ints T) (by
    unfold ints
    rw [List.nodup_iff_pairwise_ne, List.pairwise_map]
    exact (List.nodup_iff_pairwise_ne.1 h).imp (fun h' e => h' (by omega))) (fun x hx => by
    obtain ⟨c, hc, rfl⟩ := List.mem_map.1 hx
    have := hr c hc
    omega)
  rwa [ints_len] at this
theorem Pt.lt {w : World} {B pb : Nat} {v0 v1 v2 v3 v4 v5 : Value} {f : Nat → List Int} (h : Pt w B pb v0 v1 v2 v3 v4 v5 f) : ∀ k ∈ pb :: blocks [v0, v1, v2, v3, v4, v5], k < w.heap.size := fun k hk => by
  rcases List.mem_cons.1 hk with h1 | h1
  · rw [h1]
    exact lt_of_block h.blk
  · exact (h.fm.lt k h1).2
theorem Pt.keep {w w' : World} {B pb : Nat} {v0 v1 v2 v3 v4 v5 : Value} {f : Nat → List Int} (h : Pt w B pb v0 v1 v2 v3 v4 v5 f) (hk : ∀ k ∈ pb :: blocks [v0, v1, v2, v3, v4, v5], w'.heap[k]? = w.heap[k]?) : Pt w' B pb v0 v1 v2 v3 v4 v5 f :=
  ⟨by rw [hk pb (by simp)]; exact h.blk, h.fm.keep (fun k hk' => hk k (List.mem_cons_of_mem _ hk')), h.ge⟩
theorem Ri.at {w : World} {a : Option Addr} {n c : Nat} {l : List Int} (h : Ri w (.slice a n c) l) {j : Nat} (hj : j < l.length) : ∃ b o, a = some ⟨b, o, none⟩ ∧ w.cell? ⟨b, o + j, none⟩ = some (.int .i64 (l.getD j 0)) := by
  obtain ⟨a', c', e, h⟩ := h
  injection e with e1 _ _
  subst e1
  exact h j hj
theorem own_read {w : World} {B n : Nat} {v : Value} {l : List Int} (hl : l.length = n) (h : w.ownsRow B 3 1 v n (l.map (Value.int .i64))) : Ri w v l := by
  subst hl
  obtain ⟨a, c, rfl⟩ := own_sl h
  exact Ri.ofOwn h
def Ru (w : World) (bu N : Nat) (V : Nat → Value) (F : Nat → List Nat) : Prop := ∀ a, a < N → w.cell? ⟨bu, a, none⟩ = some (V a) ∧ Ri w (V a) (ints (F a))
theorem flat_prefix {ms : List Nat} {F : Nat → List Nat} {k j : Nat} (hk : k < ms.length) (hj : j < (F (ms.getD k 0)).length) : (ms.take k).flatMap F ++ (F (ms.getD k 0)).take j ++ [(F (ms.getD k 0)).getD j 0] <+: ms.flatMap F := by
  have h1 : (ms.take k).flatMap F ++ (F (ms.getD k 0)).take j ++ [(F (ms.getD k 0)).getD j 0] = (ms.take k).flatMap F ++ (F (ms.getD k 0)).take (j + 1) := by
    rw [ntake_snoc hj, List.append_assoc]
  have h2 : (ms.take (k + 1)).flatMap F = (ms.take k).flatMap F ++ F (ms.getD k 0) := by
    rw [ntake_snoc hk, List.flatMap_append]
    simp
  have h3 : ms.flatMap F = (ms.take (k + 1)).flatMap F ++ (ms.drop (k + 1)).flatMap F := by rw [← List.flatMap_append, List.take_append_drop]
  rw [h1, h3, h2, List.append_assoc]
  exact (List.prefix_append_right_inj _).2 ((List.take_prefix _ _).trans (List.prefix_append _ _))
theorem flat_nodup {ms : List Nat} {F : Nat → List Nat} {k : Nat} (hk : k < ms.length) (h : (ms.flatMap F).Nodup) : (F (ms.getD k 0)).Nodup := by
  have h2 : (ms.take (k + 1)).flatMap F = (ms.take k).flatMap F ++ F (ms.getD k 0) := by
    rw [ntake_snoc hk, List.flatMap_append]
    simp
  have h3 : ms.flatMap F = (ms.take (k + 1)).flatMap F ++ (ms.drop (k + 1)).flatMap F := by rw [← List.flatMap_append, List.take_append_drop]
  rw [h3, h2] at h
  exact (List.nodup_append.1 (List.nodup_append.1 h).1).2.1
theorem flat_next {ms : List Nat} {F : Nat → List Nat} {k : Nat} (hk : k < ms.length) : (ms.take k).flatMap F ++ (F (ms.getD k 0)).take (F (ms.getD k 0)).length = (ms.take (k + 1)).flatMap F := by
  rw [ntake_snoc hk, List.flatMap_append, List.take_of_length_le (Nat.le_refl _)]
  simp
structure Pm (w wr : World) (B pb N : Nat) (v0 v1 v2 v3 v4 v5 : Value) (S S1 : Ps) (L : List Nat) (tv : Value) (T : List Nat) : Prop where
  pt : Pt wr B pb v0 v1 v2 v3 v4 v5 (S1.rows N)
  mks : Mk N S S1 L T
  own : wr.ownsRow w.heap.size 3 1 tv T.length ((ints T).map (Value.int .i64))
  ch : Ch (blocks [v0, v1, v2, v3, v4, v5]) w wr
theorem Pm.mark {w wr w1 : World} {B pb N n : Nat} {v0 v1 v2 v3 v4 v5 tv : Value} {S S1 : Ps} {L T : List Nat} (h : Pm w wr B pb N v0 v1 v2 v3 v4 v5 S S1 L tv T) (hw : ∀ k ∈ blocks [v0, v1, v2, v3, v4, v5], k < w.heap.size) (hn : n < N) (hL : n ∉ L) (h1 : S1.mq (S1.cl n) ≠ 0)
    (hP : Pt w1 B pb v0 v1 v2 v3 v4 v5 ((S1.mark n).rows N)) (hC : Ch (blocks [v0, v1, v2, v3, v4, v5]) wr w1) : Pm w w1 B pb N v0 v1 v2 v3 v4 v5 S (S1.mark n) (L ++ [n]) tv T := by
  have hm := h.mks.step hn hL
  rw [if_neg h1] at hm
  refine ⟨hP, hm, own_block h.own (fun k e => hC.far k (h.own.lt k e).2 (fun hm' => ?_)), h.ch.trans hC (fun k hk => Or.inl hk)⟩
  have := (h.own.lt k e).1
  have := hw k hm'
  omega
theorem Pm.touch {w wr w1 w2 : World} {B pb N n g cap : Nat} {o : Obj} {v0 v1 v2 v3 v4 v5 tv : Value} {S S1 : Ps} {L T : List Nat} (h : Pm w wr B pb N v0 v1 v2 v3 v4 v5 S S1 L tv T) (hw : ∀ k ∈ blocks [v0, v1, v2, v3, v4, v5], k < w.heap.size) (hn : n < N) (hL : n ∉ L) (h1 : S1.mq (S1.cl n) = 0)
    (hgr : (wr.alloc o).grownBy w1 tv.ownBlock) (hown : w1.ownsRow w.heap.size 3 1 (.slice (some ⟨g, 0, none⟩) (T.length + 1) cap) (T.length + 1) ((ints T).map (Value.int .i64) ++ [.int .i64 ((S1.cl n : Nat) : Int)]))
    (hP : Pt w2 B pb v0 v1 v2 v3 v4 v5 ((S1.mark n).rows N)) (hC : Ch (blocks [v0, v1, v2, v3, v4, v5]) w1 w2) : Pm w w2 B pb N v0 v1 v2 v3 v4 v5 S (S1.mark n) (L ++ [n]) (.slice (some ⟨g, 0, none⟩) (T.length + 1) cap) (T ++ [S1.cl n]) := by
  have hm := h.mks.step hn hL
  rw [if_pos h1] at hm
  refine ⟨hP, hm, ?_, ((h.ch.alloc o).grown hgr (fun r e => Or.inr (h.own.lt r e).1)).trans hC (fun k hk => Or.inl hk)⟩
  rw [ints_snoc, List.map_append, List.length_append, List.length_singleton]
  refine own_block hown (fun k e => hC.far k (hown.lt k e).2 (fun hm' => ?_))
  have := (hown.lt k e).1
  have := hw k hm'
  omega
theorem Pm.grown {w wr w1 : World} {B pb N : Nat} {o : Obj} {v0 v1 v2 v3 v4 v5 tv : Value} {S S1 : Ps} {L T : List Nat} (h : Pm w wr B pb N v0 v1 v2 v3 v4 v5 S S1 L tv T) (hw : ∀ k ∈ pb :: blocks [v0, v1, v2, v3, v4, v5], k < w.heap.size) (hgr : (wr.alloc o).grownBy w1 tv.ownBlock) : Pt w1 B pb v0 v1 v2 v3 v4 v5 (S1.rows N) :=
  h.pt.keep (fun k hk => by
    have h1 := hw k hk
    have h2 := h.ch.size
    rw [hgr.block k (by simp; omega) (fun e => by
      have := (h.own.lt k e.symm).1
      omega), Below.heap_alloc _ _ _ (by omega)])
def Pq (w1 wr : World) (B pb N : Nat) (v0 v1 v2 v3 v4 v5 : Value) (S1 : Ps) (T : List Nat) : Prop :=
  ∃ u3 u4 u5 S2, Pt wr B pb v0 v1 v2 u3 u4 u5 (S2.rows N) ∧ Sp N S1 S2 T ∧ Ch (pb :: blocks [v0, v1, v2, v3, v4, v5]) w1 wr ∧ ∀ k ∈ blocks [u3, u4, u5], k ∈ blocks [v0, v1, v2, v3, v4, v5] ∨ w1.heap.size ≤ k
theorem blocks_six {v0 v1 v2 v3 v4 v5 u3 u4 u5 : Value} {k : Nat} {P : Nat → Prop} (h : k ∈ blocks [v0, v1, v2, u3, u4, u5]) (h1 : ∀ k ∈ blocks [v0, v1, v2, v3, v4, v5], P k) (h2 : ∀ k ∈ blocks [u3, u4, u5], P k) : P k := by
  obtain ⟨v, hv, e⟩ := List.mem_filterMap.1 h
  have hv' : v ∈ [v0, v1, v2] ∨ v ∈ [u3, u4, u5] := List.mem_append.1 (show v ∈ [v0, v1, v2] ++ [u3, u4, u5] from hv)
  rcases hv' with h3 | h3
  · exact h1 k (List.mem_filterMap.2 ⟨v, List.mem_append_left [v3, v4, v5] h3, e⟩)
  · exact h2 k (List.mem_filterMap.2 ⟨v, h3, e⟩)
theorem Pq.step {w1 wr w2 : World} {B pb N c : Nat} {v0 v1 v2 v3 v4 v5 u3 u4 u5 t3 t4 t5 : Value} {S1 S2 : Ps} {T : List Nat} (hs : Sp N S1 S2 T) (hch : Ch (pb :: blocks [v0, v1, v2, v3, v4, v5]) w1 wr) (hk : ∀ k ∈ blocks [u3, u4, u5], k ∈ blocks [v0, v1, v2, v3, v4, v5] ∨ w1.heap.size ≤ k)
    (hc : c < S1.C) (hT : c ∉ T) (hm : 0 < S1.mq c) (hP : Pt w2 B pb v0 v1 v2 t3 t4 t5 ((S2.split c).rows N)) (hC : Ch (pb :: blocks [v0, v1, v2, u3, u4, u5]) wr w2) (hk2 : ∀ k ∈ blocks [t3, t4, t5], k ∈ blocks [v0, v1, v2, u3, u4, u5] ∨ wr.heap.size ≤ k) : Pq w1 w2 B pb N v0 v1 v2 v3 v4 v5 S1 (T ++ [c]) := by
  have hz := hch.size
  have h6 : ∀ k ∈ blocks [v0, v1, v2, u3, u4, u5], k ∈ blocks [v0, v1, v2, v3, v4, v5] ∨ w1.heap.size ≤ k := fun k h => blocks_six (v3 := v3) (v4 := v4) (v5 := v5) (P := fun k => k ∈ blocks [v0, v1, v2, v3, v4, v5] ∨ w1.heap.size ≤ k) h (fun k h => Or.inl h) hk
  refine ⟨t3, t4, t5, _, hP, hs.step hc hT hm, hch.trans hC (fun k hk' => ?_), fun k hk' => ?_⟩
  · rcases List.mem_cons.1 hk' with h1 | h1
    · exact Or.inl (by rw [h1]; simp)
    · exact (h6 k h1).imp (fun h => List.mem_cons_of_mem _ h) id
  · rcases hk2 k hk' with h1 | h1
    · exact h6 k h1
    · exact Or.inr (by omega)
set_option maxHeartbeats 4000000 in
theorem part_any {w : World} {B pb N bu cu : Nat} {v0 v1 v2 v3 v4 v5 mv : Value} {S : Ps} {ms : List Nat} {V : Nat → Value} {F : Nat → List Nat} (hP : Pt w B pb v0 v1 v2 v3 v4 v5 (S.rows N)) (hI : Iv N S) (h0 : ∀ c, c < S.C → S.mq c = 0) (hN : N ≤ 4500) (hB : B ≤ w.heap.size)
    (hms : ∀ w', Ch (pb :: blocks [v0, v1, v2, v3, v4, v5]) w w' → Ri w' mv (ints ms)) (hus : ∀ w', Ch (pb :: blocks [v0, v1, v2, v3, v4, v5]) w w' → Ru w' bu N V F)
    (hml : ms.length ≤ 4500) (hmr : ∀ m ∈ ms, m < N) (hnd : (ms.flatMap F).Nodup) (hr : ∀ n ∈ ms.flatMap F, n < N) :
    Calls Try.prog 91 #[.pointer (some ⟨pb, 0, none⟩), mv, .slice (some ⟨bu, 0, none⟩) N cu] w fun e w' => e = .returned (.tuple #[]) ∧ ∃ u3 u4 u5 S', Pt w' B pb v0 v1 v2 u3 u4 u5 (S'.rows N) ∧ Pd N S S' (ms.flatMap F) ∧ Ch (pb :: blocks [v0, v1, v2, v3, v4, v5]) w w' ∧ ∀ k ∈ blocks [u3, u4, u5], k ∈ blocks [v0, v1, v2, v3, v4, v5] ∨ w.heap.size ≤ k := by
  obtain ⟨i0, hi, hz0, hz1, hz2⟩ := info_parts infoI
  have hplt := hid hP.lt
  have hmv : ∃ ma mc, mv = .slice ma ms.length mc := by
    obtain ⟨ma, mc, h, _⟩ := hms w (Ch.refl _ _)
    rw [ints_len] at h
    exact ⟨ma, mc, h⟩
  obtain ⟨ma, mc, rfl⟩ := hmv
  have hst : Hid (Pm w w B pb N v0 v1 v2 v3 v4 v5 S S [] (.slice none 0 0) []) := ⟨hP, Mk.start hI h0, World.ownsRow_nil _ _ _ _, Ch.refl _ _⟩
  have hMs := hid hms
  have hUs := hid hus
  have hNd := hid hnd
  have hR := hid hr
  have hMr := hid hmr
  have hIv := hid hI
  clear hP hI h0 hms hus hnd hr hmr
  go_enter Try.func91, Try.ntmps91
  go_wp2
  go_loopw [6, 16] (fun t i wr => ∃ (k : Nat) (T : List Nat) (ta : Option Addr) (tc : Nat), k ≤ ms.length ∧ i = .int .i64 k ∧ t = .slice ta T.length tc ∧ Hid (∃ S1, Pm w wr B pb N v0 v1 v2 v3 v4 v5 S S1 ((ms.take k).flatMap F) (.slice ta T.length tc) T)) (fun _ i _ => ms.length - (intOf i).toNat)
  case atStart => exact ⟨0, [], none, 0, Nat.zero_le _, rfl, rfl, ⟨S, hst.out⟩⟩
  case round =>
    clear hst
    obtain ⟨k, T, ta, tc, hk, rfl, rfl, hS1⟩ := hrel
    obtain ⟨S1, hPm⟩ := hS1.out
    have hCh : Ch (pb :: blocks [v0, v1, v2, v3, v4, v5]) w wr := hPm.ch.mono (fun k hk => List.mem_cons_of_mem _ hk)
    by_cases hlt : k < ms.length
    · obtain ⟨mb, mo, rfl, d1⟩ := (hMs.out wr hCh).at (j := k) (by rw [ints_len]; exact hlt)
      rw [ints_get hlt] at d1
      have hm := hMr.out _ (nget_mem hlt)
      obtain ⟨d2, d3⟩ := hUs.out wr hCh _ hm
      have hpre := hid (fun j (hj : j < (F (ms.getD k 0)).length) => flat_prefix (F := F) hlt hj)
      have hnext := hid (flat_next (F := F) hlt)
      obtain ⟨va, vc, hva⟩ : ∃ va vc, V (ms.getD k 0) = .slice va (F (ms.getD k 0)).length vc := by
        obtain ⟨va, vc, h, _⟩ := d3
        rw [ints_len] at h
        exact ⟨va, vc, h⟩
      have hUm : Hid (∀ w', Ch (pb :: blocks [v0, v1, v2, v3, v4, v5]) w w' → Ri w' (.slice va (F (ms.getD k 0)).length vc) (ints (F (ms.getD k 0)))) := fun w' hc => by
        have := (hUs.out w' hc _ hm).2
        rw [hva] at this
        exact this
      rw [hva] at d2
      have hFl : Hid (∀ n ∈ F (ms.getD k 0), n < N) := fun n hn => hR.out n (List.mem_flatMap.2 ⟨_, nget_mem hlt, hn⟩)
      have hFn : (F (ms.getD k 0)).length ≤ 4500 := by
        have h1 := fewer (T := F (ms.getD k 0)) (C := N) (flat_nodup hlt hNd.out) hFl.out
        omega
      clear hva d3
      generalize ms.getD k 0 = m at d1 d2 hm hpre hnext hUm hFl hFn
      generalize hFm : F m = Fm at d2 hpre hnext hUm hFl hFn
      clear hFm
      have hin : Hid (∃ S1, Pm w wr B pb N v0 v1 v2 v3 v4 v5 S S1 ((ms.take k).flatMap F ++ Fm.take 0) (.slice ta T.length tc) T) := ⟨S1, by simpa using hPm⟩
      clear hPm hS1 hCh
      go_wp2
      go_loopw [6, 25] (fun t i wr => ∃ (j : Nat) (T : List Nat) (ta : Option Addr) (tc : Nat), j ≤ Fm.length ∧ i = .int .i64 j ∧ t = .slice ta T.length tc ∧ Hid (∃ S1, Pm w wr B pb N v0 v1 v2 v3 v4 v5 S S1 ((ms.take k).flatMap F ++ Fm.take j) (.slice ta T.length tc) T)) (fun _ i _ => Fm.length - (intOf i).toNat)
      case atStart => exact ⟨0, T, ta, tc, Nat.zero_le _, rfl, rfl, hin⟩
      case round =>
        clear hin d1 d2
        obtain ⟨j, T, ta, tc, hj, rfl, rfl, hS1⟩ := hrel
        by_cases hltj : j < Fm.length
        · obtain ⟨S1, hPm⟩ := hS1.out
          have hCh : Ch (pb :: blocks [v0, v1, v2, v3, v4, v5]) w wr := hPm.ch.mono (fun k hk => List.mem_cons_of_mem _ hk)
          obtain ⟨vb, vo, rfl, d1⟩ := (hUm.out wr hCh).at (j := j) (by rw [ints_len]; exact hltj)
          rw [ints_get hltj] at d1
          have hn := hFl.out _ (nget_mem hltj)
          have hpj := hpre.out j hltj
          have hts := hid (ntake_snoc hltj)
          generalize Fm.getD j 0 = n at d1 hn hpj hts
          have hL : n ∉ (ms.take k).flatMap F ++ Fm.take j := fun hm => by
            have h1 := List.Sublist.nodup hpj.sublist hNd.out
            exact (List.nodup_append.1 h1).2.2 n hm n (by simp) rfl
          clear hpj
          have hun : Hid (¬ S1.mkd n) := fun h => hL ((hPm.mks.mkd n hn).1 h)
          have hcl := hPm.mks.iv.cls n hn
          have e2 : (S1.rows N 2).length = N := rowF_len _ _
          have e5 : (S1.rows N 5).length = S1.C := rowF_len _ _
          have hTl : T.length ≤ 4500 := by
            have h1 := fewer hPm.mks.nodup hPm.mks.rng
            have h2 := hPm.mks.iv.le
            omega
          obtain ⟨q2, c2, hv2⟩ : ∃ q c, v2 = .slice (some ⟨q, 0, none⟩) N c := by
            rw [← e2]
            obtain ⟨q, c, h, _⟩ := (own_form (hPm.pt.fm.own 2 (by simp))).resolve_left (fun h => by omega)
            exact ⟨q, c, h⟩
          obtain ⟨q5, c5, hv5⟩ : ∃ q c, v5 = .slice (some ⟨q, 0, none⟩) S1.C c := by
            rw [← e5]
            obtain ⟨q, c, h, _⟩ := (own_form (hPm.pt.fm.own 5 (by simp))).resolve_left (fun h => by omega)
            exact ⟨q, c, h⟩
          obtain ⟨⟨_, _, z2, _, _, z5⟩, _⟩ := blk6 hPm.pt.blk
          have k2 := (hPm.pt.fm.cellN (i := 2) (j := n) (by simp) hv2 e2 hn).1
          have k5 := (hPm.pt.fm.cellN (i := 5) (j := S1.cl n) (by simp) hv5 e5 hcl).1
          have g2 : (S1.rows N 2).getD n 0 = (S1.cl n : Int) := rowF_get _ hn
          have g5 : (S1.rows N 5).getD (S1.cl n) 0 = (S1.mq (S1.cl n) : Int) := rowF_get _ hcl
          rw [g2] at k2
          rw [g5] at k5
          rw [hv2] at z2
          rw [hv5] at z5
          have hHC := hid hv2
          have hHD := hid hv5
          clear hv2 hv5 e2 e5 g2 g5
          have hCl : S1.C ≤ 4500 := Nat.le_trans hPm.mks.iv.le hN
          have hHP := hid hPm
          have hHL := hid hL
          clear hL hS1
          by_cases hq : S1.mq (S1.cl n) = 0
          · rw [hq] at k5
            have hoz := World.ownsRow.alloc hPm.own (.cells #[.int .i64 ((S1.cl n : Nat) : Int)] 3)
            have hnews := heap_alloc_new wr (.cells #[.int .i64 ((S1.cl n : Nat) : Int)] 3)
            have hsz := hPm.ch.size
            have hmkc := hid (fun w5 (h5 : Pt w5 B pb v0 v1 v2 v3 v4 v5 (S1.rows N)) => mark_ps h5 hPm.mks.iv hN hn hun.out)
            have hend := hid (fun o w5 w6 g cap => Pm.touch (o := o) (w1 := w5) (w2 := w6) (g := g) (cap := cap) hPm (fun k hk => hplt.out k (List.mem_cons_of_mem _ hk)) hn hHL.out hq)
            have hgrn := hid (fun o w5 => Pm.grown (o := o) (w1 := w5) hPm hplt.out)
            have hqq := hid hq
            clear hq hPm hCh hcl
            have hcl : ((S1.cl n : Nat) : Int) < (S1.C : Int) := by
              have := hHP.out.mks.iv.cls n hn
              omega
            generalize S1.cl n = cc at *
            go_wp2_with (first
              | (at_builtin; refine wpList_append_lies _ rfl _ _ _ rfl w.heap.size 3 i0 (.int .i64 0) 1 8 Try.underlying27 hi hz0 hz1 hz2 rfl (by decide) _ T.length ((ints T).map (Value.int .i64)) rfl hoz ⟨wr.heap.size, 0, none⟩ 1 1 [.int .i64 (cc : Int)] rfl rfl (World.news_of_block (cs := #[.int .i64 (cc : Int)]) (t := 3) (fr := (0, 0)) hnews) (by simp [Value.oneCell']) (by omega) (by unfold maxLen; omega) (by omega) (by simp; omega) (wr.heap.size + 1) (by simp) ?_; clear hoz; intro gg cap w5 hown5 hgr5 hat5 hlt5; have hP5 := hgrn.out _ _ hgr5)
              | (go_at_call 103; refine (hmkc.out w5 hP5).mono ?_; rintro e w6 ⟨rfl, hP6, hC6⟩))
            go_roundw
            case rel =>
              refine ⟨j + 1, T ++ [cc], some ⟨gg, 0, none⟩, cap, by omega, congrArg (Value.int .i64) (by omega), by rw [List.length_append]; rfl, ⟨S1.mark n, ?_⟩⟩
              have := hend.out _ w5 w6 gg cap hgr5 hown5 hP6 hC6
              rw [hts.out, ← List.append_assoc, List.length_append]
              exact this
            case measure => simp [intOf]; omega
          · have hqi : ¬ ((S1.mq (S1.cl n) : Nat) : Int) = 0 := by omega
            have hmkc := hid (mark_ps hPm.pt hPm.mks.iv hN hn hun.out)
            have hend := hid (fun w6 => Pm.mark (w1 := w6) hPm (fun k hk => hplt.out k (List.mem_cons_of_mem _ hk)) hn hHL.out hq)
            clear hq hPm hCh hcl
            have hcl : ((S1.cl n : Nat) : Int) < (S1.C : Int) := by
              have := hHP.out.mks.iv.cls n hn
              omega
            generalize hmm : S1.mq (S1.cl n) = mm at *
            clear hmm
            generalize S1.cl n = cc at *
            go_wp2_with (first
              | (go_at_call 103; refine hmkc.out.mono ?_; rintro e w6 ⟨rfl, hP6, hC6⟩))
            go_roundw
            case rel =>
              refine ⟨j + 1, T, ta, tc, by omega, congrArg (Value.int .i64) (by omega), rfl, ⟨S1.mark n, ?_⟩⟩
              have := hend.out w6 hP6 hC6
              rw [hts.out, ← List.append_assoc]
              exact this
            case measure => simp [intOf]; omega
        · have hjl : j = Fm.length := by omega
          subst hjl
          rw [hnext.out] at hS1
          go_wp2
          exact ⟨⟨k + 1, T, ta, tc, by omega, congrArg (Value.int .i64) (by omega), rfl, hS1⟩, by simp [intOf]; omega⟩
    · have hkl : k = ms.length := by omega
      subst hkl
      rw [List.take_of_length_le (Nat.le_refl _)] at hPm hS1
      have hHP := hid hPm
      have hTl : T.length ≤ 4500 := by
        have h1 := fewer hPm.mks.nodup hPm.mks.rng
        have h2 := hPm.mks.iv.le
        omega
      have hq0 : Hid (Pq wr wr B pb N v0 v1 v2 v3 v4 v5 S1 (T.take 0)) := ⟨v3, v4, v5, S1, hPm.pt, by simpa using Sp.start hPm.mks.iv, Ch.refl _ _, fun k hk => Or.inl (blocks_last hk)⟩
      have hrd : Hid (∀ w', Ch (pb :: blocks [v0, v1, v2, v3, v4, v5]) wr w' → Ri w' (.slice ta T.length tc) (ints T)) := fun w' hc => by
        refine own_read (B := w.heap.size) (ints_len T) (own_block hPm.own (fun q e => hc.far q (hPm.own.lt q e).2 (fun hm => ?_)))
        have := (hPm.own.lt q e).1
        have := hplt.out q hm
        omega
      have hBr : B ≤ wr.heap.size := Nat.le_trans hB hPm.ch.size
      clear hPm hS1 hMs hUs hR hMr hlt
      go_wp2
      go_loopw [55] (fun i w2 => ∃ (j : Nat), j ≤ T.length ∧ i = .int .i64 j ∧ Hid (Pq wr w2 B pb N v0 v1 v2 v3 v4 v5 S1 (T.take j))) (fun i _ => T.length - (intOf i).toNat)
      case atStart => exact ⟨0, Nat.zero_le _, rfl, hq0⟩
      case round =>
        obtain ⟨j, hj, rfl, hPq⟩ := hrel
        by_cases hltj : j < T.length
        · obtain ⟨u3, u4, u5, S2, hPt, hSp, hCh, hkb⟩ := hPq.out
          obtain ⟨tb, tfo, rfl, d1⟩ := (hrd.out _ hCh).at (j := j) (by rw [ints_len]; exact hltj)
          rw [ints_get hltj] at d1
          have hc := hHP.out.mks.rng _ (nget_mem hltj)
          have hmq := (hHP.out.mks.tch _ hc).1 (nget_mem hltj)
          have hts := hid (ntake_snoc hltj)
          have hnT : T.getD j 0 ∉ T.take j := fun hm => by
            have h1 := List.Sublist.nodup (List.take_sublist (j + 1) T) hHP.out.mks.nodup
            rw [hts.out] at h1
            exact (List.nodup_append.1 h1).2.2 _ hm _ (by simp) rfl
          generalize T.getD j 0 = c at d1 hc hmq hts hnT
          have hcall := hid (split_any hPt hSp.iv hN (Nat.lt_of_lt_of_le hc hSp.le) (by rw [hSp.mq c hc hnT]; exact hmq) (Nat.le_trans hBr hCh.size))
          have hend := hid (fun w3 t3 t4 t5 => Pq.step (B := B) (w2 := w3) (t3 := t3) (t4 := t4) (t5 := t5) hSp hCh hkb hc hnT hmq)
          clear hPq hPt hSp hCh hkb hnT hmq hc
          go_wp2_with (go_at_call 104; refine hcall.out.mono ?_; rintro e w3 ⟨rfl, t3, t4, t5, hP3, hC3, hk3⟩)
          go_roundw
          case rel => exact ⟨j + 1, by omega, congrArg (Value.int .i64) (by omega), by rw [hts.out]; exact hend.out w3 t3 t4 t5 hP3 hC3 hk3⟩
          case measure => simp [intOf]; omega
        · have hjl : j = T.length := by omega
          subst hjl
          rw [List.take_of_length_le (Nat.le_refl _)] at hPq
          obtain ⟨u3, u4, u5, S2, hPt, hSp, hCh, hkb⟩ := hPq.out
          go_wp2
          go_end0
          refine ⟨rfl, u3, u4, u5, S2, hPt, Sp.parted hHP.out.mks hSp, (hHP.out.ch.mono (fun k hk => List.mem_cons_of_mem _ hk)).trans hCh (fun k hk => Or.inl hk), fun k hk => ?_⟩
          have := hHP.out.ch.size
          rcases hkb k hk with h1 | h1
          · exact Or.inl h1
          · exact Or.inr (by omega)
end Go.Proofs.Ytjkcffcedbcjmaa

/- placed of package tie. -/
import Derived.Test.Ytjkcffcedbcjmaata34Z
namespace Go.Proofs.Ytjkcffcedbcjmaa
set_option maxRecDepth 100000
open Go.RowKit Go.Maps
def MapP (D : DataW Unit) (m : List Int) (n : Nat) : Prop := Maps.IsMap D ∧ (∀ x : Int, Maps.has D (.int .i64 x) = decide (x ∈ m.take n)) ∧ ∀ x : Int, x ∈ m.take n → D.atKey (.int .i64 x) (.lit (.int .i64 0)) = .lit (.int .i64 (posF m x))
theorem MapP.nil (m : List Int) : MapP (.map []) m 0 := ⟨⟨[], rfl⟩, fun x => by simp [Maps.has], fun x h => by simp at h⟩
theorem MapP.put {D : DataW Unit} {m : List Int} {n : Nat} (h : MapP D m n) (hn : n < m.length) (hd : m.Nodup) (hD : Maps.IsMap (D.put (.int .i64 (m.getD n 0)) (.lit (.int .i64 (n : Int))))) : MapP (D.put (.int .i64 (m.getD n 0)) (.lit (.int .i64 (n : Int)))) m (n + 1) := by
  have ht : ∀ x, x ∈ m.take (n + 1) ↔ x ∈ m.take n ∨ x = m.getD n 0 := fun x => by
    rw [List.take_add_one, List.mem_append]
    simp [List.getD, hn]
  have hk : WideAt.IsKeyLit (.int .i64 (m.getD n 0)) := trivial
  refine ⟨hD, fun x => ?_, fun x hx => ?_⟩
  · by_cases e : x = m.getD n 0
    · subst e
      rw [Maps.has_put_same h.1 hk, decide_eq_true ((ht _).2 (Or.inr rfl))]
    · have hne : Lit.int .i64 x ≠ Lit.int .i64 (m.getD n 0) := fun h2 => e (by injection h2)
      rw [Maps.has_put_other hne, h.2.1, decide_eq_decide, ht]
      exact ⟨Or.inl, fun h2 => h2.elim id (fun h3 => absurd h3 e)⟩
  · by_cases e : x = m.getD n 0
    · subst e
      rw [Maps.atKey_put_same h.1 hk, posF_getD hd hn]
    · have hne : Lit.int .i64 x ≠ Lit.int .i64 (m.getD n 0) := fun h2 => e (by injection h2)
      rw [Maps.atKey_put_other hne]
      exact h.2.2 x (((ht x).1 hx).elim id (fun h3 => absurd h3 e))
structure Pk (W w : World) (nv rv mv sv : Value) (N : Nat) (lk : List Nat) : Prop where
  b : Below W.heap.size W w
  gb : w.heap[W.heap.size]? = some (.cells #[nv, rv] 29)
  lb : w.heap[W.heap.size + 1]? = some (.cells #[mv, sv] 29)
  row : w.ownsRow W.heap.size 3 1 (.slice (some ⟨W.heap.size + 2, 0, none⟩) N N) N ((ints lk).map (Value.int .i64))
  len : lk.length = N
section
variable {W w w' : World} {nv rv mv sv : Value} {N : Nat} {lk : List Nat}
theorem Pk.next (h : Pk W w nv rv mv sv N lk) (hb : Below w.heap.size w w') : Pk W w' nv rv mv sv N lk :=
  ⟨Below.next h.b hb, (hb.block _ (lt_of_block h.gb)).trans h.gb, (hb.block _ (lt_of_block h.lb)).trans h.lb, row_keep h.row (fun k hk => hb.block k (h.row.lt k hk).2), h.len⟩
theorem Pk.far (h : Pk W w nv rv mv sv N lk) {q : Nat} (hq : W.heap.size + 2 < q) (hg : w.grownBy w' (some q)) : Pk W w' nv rv mv sv N lk :=
  ⟨h.b.grown hg h.b.size (fun k e => by cases e; omega), (hg.block _ (lt_of_block h.gb) (fun e => by injection e with e; omega)).trans h.gb, (hg.block _ (lt_of_block h.lb) (fun e => by injection e with e; omega)).trans h.lb, row_keep h.row (fun k hk => hg.block k (h.row.lt k hk).2 (fun e => by
    have e1 : W.heap.size + 2 = k := by simpa [Value.ownBlock] using hk
    injection e with e
    omega)), h.len⟩
theorem Pk.cells (h : Pk W w nv rv mv sv N lk) : (w.cell? ⟨W.heap.size, 0, none⟩ = some nv ∧ w.cell? ⟨W.heap.size, 1, none⟩ = some rv ∧ W.heap.size < w.heap.size) ∧ w.cell? ⟨W.heap.size + 1, 0, none⟩ = some mv ∧ w.cell? ⟨W.heap.size + 1, 1, none⟩ = some sv ∧ W.heap.size + 1 < w.heap.size := by
  have h1 := h.gb
  have h2 := h.lb
  exact ⟨⟨by simp [World.cell?, h1], by simp [World.cell?, h1], lt_of_block h1⟩, by simp [World.cell?, h2], by simp [World.cell?, h2], lt_of_block h2⟩
theorem Pk.at (h : Pk W w nv rv mv sv N lk) {i : Nat} (hi : i < N) : w.cell? ⟨W.heap.size + 2, i, none⟩ = some (.int .i64 ((lk.getD i 0 : Nat) : Int)) ∧ w.frozen? ⟨W.heap.size + 2, i, none⟩ = false ∧ W.heap.size + 2 < w.heap.size :=
  ⟨by rw [h.row.cellAt i (by omega)]; exact ints_at (by rw [h.len]; exact hi), h.row.frozenAt i, (h.row.lt _ rfl).2⟩
theorem Pk.set (h : Pk W w nv rv mv sv N lk) (i x : Nat) : Pk W (w.setCell ⟨W.heap.size + 2, i, none⟩ (.int .i64 (x : Int))) nv rv mv sv N (lk.set i x) := by
  refine ⟨h.b.setCell (p := ⟨W.heap.size + 2, i, none⟩) (by show W.heap.size ≤ W.heap.size + 2; omega) _, ?_, ?_, ?_, by simp [h.len]⟩
  · rw [Below.heap_setCell _ _ _ _ (by show W.heap.size ≠ W.heap.size + 2; omega)]; exact h.gb
  · rw [Below.heap_setCell _ _ _ _ (by show W.heap.size + 1 ≠ W.heap.size + 2; omega)]; exact h.lb
  · have h2 := (World.ownsRow.stored h.row i (.int .i64 (x : Int))).1
    rw [ints_set] at h2
    exact h2
theorem Pk.setD (h : Pk W w nv rv mv sv N lk) (i x : Nat) : Pk W (w.drew.setCell ⟨W.heap.size + 2, i, none⟩ (.int .i64 (x : Int))) nv rv mv sv N (lk.set i x) := (h.next (Below.refl _ w).drew).set i x
end
end Go.Proofs.Ytjkcffcedbcjmaa

namespace Go.Proofs.Ytjkcffcedbcjmaa
set_option maxRecDepth 100000
open Go.RowKit Go.Maps
theorem anew_ints (N : Nat) : (anewArr N []).toList = (ints (List.replicate N 0)).map (Value.int .i64) := by
  apply List.ext_getElem
  · simp [anewArr, ints]
  · intro i h1 h2
    simp [anewArr, ints, posF]
theorem Pk.start (W : World) (nv rv mv sv : Value) (N : Nat) (hN : N ≤ 5000) : Pk W (((W.alloc (.cells #[nv, rv] 29)).alloc (.cells #[mv, sv] 29)).alloc (.cells (anewArr N []) 3)) nv rv mv sv N (List.replicate N 0) := by
  have hb1 := below_alloc W (.cells #[nv, rv] 29)
  have e1 : (W.alloc (.cells #[nv, rv] 29)).heap.size = W.heap.size + 1 := by simp
  have e2 : ((W.alloc (.cells #[nv, rv] 29)).alloc (.cells #[mv, sv] 29)).heap.size = W.heap.size + 2 := by simp
  refine ⟨(hb1.alloc (by omega) _).alloc (by omega) _, ?_, ?_, ?_, by simp⟩
  · rw [Below.heap_alloc _ _ _ (by omega), Below.heap_alloc _ _ _ (by omega)]
    exact heap_alloc_new W _
  · rw [Below.heap_alloc _ _ _ (by omega)]
    have h := heap_alloc_new (W.alloc (.cells #[nv, rv] 29)) (.cells #[mv, sv] 29)
    rw [e1] at h
    exact h
  · have h := heap_alloc_new ((W.alloc (.cells #[nv, rv] 29)).alloc (.cells #[mv, sv] 29)) (.cells (anewArr N []) 3)
    rw [e2] at h
    refine ⟨by simp [ints], Or.inr ⟨W.heap.size + 2, N, anewArr N [], rfl, by omega, h, Nat.le_refl _, by unfold maxLen; omega, by simp [anewArr], ?_⟩⟩
    rw [← anew_ints, List.take_of_length_le (by simp [anewArr])]
theorem lk_set {e : Nat → Nat → Bool} {g : Gf} {lk : List Nat} {N : Nat} (hlk : lk.length = N) {P Q : Nat → Prop} (h : ∀ i, i < N → P i → Lke e g (lk.getD i 0) i) {r x : Nat} (hr : r < N) (hx : Lke e g x r) (hQ : ∀ i, Q i → P i ∨ i = r) : ∀ i, i < N → Q i → Lke e g ((lk.set r x).getD i 0) i := fun i hi hq => by
  rw [getD_setN (by rw [hlk]; exact hr)]
  by_cases er : i = r
  · rw [if_pos er, er]; exact hx
  · rw [if_neg er]
    exact h i hi ((hQ i hq).elim id (fun h2 => absurd h2 er))
set_option maxHeartbeats 8000000 in
theorem placed_any {W : World} {nv rv mv sv cv : Value} {g : Gf} (e : Nat → Nat → Bool) (hG : Gr W nv rv g) (hT : Gr W mv sv (trimF (quoF e g))) (hcv : Ri W cv (ints (csF e g.nodes.length))) (hg : Good g) (hd : ∀ x y : Nat, (e x y = true ↔ Al g (x : Int) (y : Int))) :
    Calls Try.prog 55 #[.agg #[nv, rv], .agg #[mv, sv], cv] W fun r w' => (∃ q D, r = .returned (.map (some q)) ∧ w'.ownsMap Try.prog 3 (plainElem Try.prog 3) q (metF (quoF e g)).length D ∧ MapP D (metF (quoF e g)) (metF (quoF e g)).length ∧ W.heap.size ≤ q) ∧ Below W.heap.size W w' := by
  have hq := quo_good hg (al_eqv hg hd)
  have htg := trim_good0 hq
  have htl : (trimF (quoF e g)).nodes.length = (metF (quoF e g)).length := trim_len hq
  have hN5 := htg.nodes
  have hR5 := htg.roots
  have hrl : (trimF (quoF e g)).roots.length = g.roots.length := by simp [trimF, quoF]
  have hroot := hid (fun k (hk : k < g.roots.length) => lke_root hg hd hk)
  have harg := hid (fun (x i : Nat) (hi : i < (metF (quoF e g)).length) (h : Lke e g x i) (k : Nat) hk => lke_arg hg hd hi h (k := k) hk)
  have hnd0 := hid (fun (x i : Nat) (hi : i < (metF (quoF e g)).length) (h : Lke e g x i) => lke_nd hg hd hi h)
  have hself := hid (fun n (hn : n < (metF (quoF e g)).length) => seen_self hg hd hn)
  have hmnd := hid (met_ok hq).nodup
  have hcs : Hid (∀ x i, Lke e g x i → x < g.nodes.length ∧ (ints (csF e g.nodes.length)).getD x 0 = (metF (quoF e g)).getD i 0) := fun x i h => by
    have h1 := h.1
    refine ⟨by have := h1.2; omega, ?_⟩
    rw [← h.2]
    unfold clsI
    rw [Int.toNat_natCast]
  have hwf : Hid (∀ i, i < (metF (quoF e g)).length → (Lit.int .i64 ((metF (quoF e g)).getD i 0)).wf = true) := fun i hi => by
    have h1 := (met_ok hq).rng _ (getD_mem hi)
    have h2 := hq.nodes
    obtain ⟨n, hn⟩ : ∃ n : Nat, (metF (quoF e g)).getD i 0 = (n : Int) := ⟨((metF (quoF e g)).getD i 0).toNat, by omega⟩
    rw [hn]
    exact wfNat (by omega)
  have hgaN : Hid (∀ n, n < (metF (quoF e g)).length → ((trimF (quoF e g)).nodes.getD n nd0).args.length ≤ 8) := fun n hn => (good_args (htg.node _ (by simp [List.getD, show n < (trimF (quoF e g)).nodes.length by rw [htl]; exact hn]))).2
  have hgl : g.nodes.length ≤ 4096 := hg.nodes
  have hrt : Hid (∀ k, k < g.roots.length → 0 ≤ g.roots.getD k 0) := fun k hk => (hg.root _ (getD_mem hk)).1
  have hrl2 : g.roots.length ≤ 4096 := hg.roots
  have hcl : (ints (csF e g.nodes.length)).length = g.nodes.length := (ints_len _).trans (csF_len _ _)
  obtain ⟨⟨na, nc, rfl, hNa⟩, ra, rc, rfl, hRa⟩ := hG
  obtain ⟨⟨ma, mc, rfl, hMa⟩, sa, sc, rfl, hSa⟩ := hT
  obtain ⟨ca, cc, rfl, hCa⟩ := hcv
  have HNa := hid hNa
  have HRa := hid hRa
  have HMa := hid hMa
  have HSa := hid hSa
  have HCa := hid hCa
  rw [htl] at hN5
  rw [hrl] at hR5
  generalize hNN : (metF (quoF e g)).length = N at *
  have hmk := make_ints N (by omega)
  have hPs := hid (Pk.start W (.slice na g.nodes.length nc) (.slice ra g.roots.length rc) (.slice ma N mc) (.slice sa g.roots.length sc) N (by omega))
  have HTL := hid htl
  have HRL := hid hrl
  have HCL := hid hcl
  rw [htl, hrl]
  rw [hcl]
  clear hNa hRa hMa hSa hCa hg hd hq htg htl hrl hcl
  go_enter Try.func55, Try.ntmps55
  go_wp2
  go_loopw [22] (fun i wr => ∃ (k : Nat), k ≤ g.roots.length ∧ i = .int .i64 (k : Int) ∧ Hid (∃ lk, Pk W wr (.slice na g.nodes.length nc) (.slice ra g.roots.length rc) (.slice ma N mc) (.slice sa g.roots.length sc) N lk ∧ ∀ i, i < N → (∃ k', k' < k ∧ ((trimF (quoF e g)).roots.getD k' 0).toNat = i) → Lke e g (lk.getD i 0) i)) (fun i _ => g.roots.length - (intOf i).toNat)
  case atStart => exact ⟨0, by omega, rfl, _, hPs.out, fun i _ ⟨k', hk', _⟩ => absurd hk' (Nat.not_lt_zero _)⟩
  case round =>
    clear hPs
    obtain ⟨k, hk, rfl, hP⟩ := hrel
    by_cases hlt : k < g.roots.length
    · obtain ⟨lk, hPk, hL⟩ := hP.out
      obtain ⟨b, o, rfl, d0⟩ := HSa.out k (by rw [HRL.out]; exact hlt)
      obtain ⟨b2, o2, rfl, d1⟩ := HRa.out k hlt
      have c0 := ((bcell hPk.b).1 b _ (lt_of_cell d0)).trans d0
      have c1 := ((bcell hPk.b).1 b2 _ (lt_of_cell d1)).trans d1
      have hz := lt_of_cell c0
      have hz2 := lt_of_cell c1
      obtain ⟨hlke, h0, hlN⟩ := hroot.out k hlt
      have hx0 := hrt.out k hlt
      have hQ : Hid (∀ i, (∃ k', k' < k + 1 ∧ ((trimF (quoF e g)).roots.getD k' 0).toNat = i) → (∃ k', k' < k ∧ ((trimF (quoF e g)).roots.getD k' 0).toNat = i) ∨ i = ((trimF (quoF e g)).roots.getD k 0).toNat) := fun i ⟨k', hk', hi⟩ => by
        by_cases ek : k' = k
        · subst ek; exact Or.inr hi.symm
        · exact Or.inl ⟨k', by omega, hi⟩
      generalize (trimF (quoF e g)).roots.getD k 0 = r at *
      generalize g.roots.getD k 0 = x at *
      obtain ⟨rn, rfl⟩ : ∃ rn : Nat, r = (rn : Int) := ⟨r.toNat, by omega⟩
      obtain ⟨xn, rfl⟩ : ∃ xn : Nat, x = (xn : Int) := ⟨x.toNat, by omega⟩
      rw [Int.toNat_natCast] at hlke hlN hQ
      rw [Int.toNat_natCast] at hlke
      obtain ⟨⟨q0', q1', q2'⟩, q3', q4', q5'⟩ := hPk.cells
      obtain ⟨t0, t1, t2⟩ := hPk.at hlN
      have hnew : Hid (∃ lk, Pk W (wr.setCell ⟨W.heap.size + 2, rn, none⟩ (.int .i64 (xn : Int))) (.slice na g.nodes.length nc) (.slice (some ⟨b2, o2, none⟩) g.roots.length rc) (.slice ma N mc) (.slice (some ⟨b, o, none⟩) g.roots.length sc) N lk ∧ ∀ i, i < N → (∃ k', k' < k + 1 ∧ ((trimF (quoF e g)).roots.getD k' 0).toNat = i) → Lke e g (lk.getD i 0) i) := ⟨_, hPk.set rn xn, lk_set hPk.len hL hlN hlke hQ.out⟩
      have hlNi : (rn : Int) < (N : Int) := by omega
      clear hP hPk hL d0 d1 hQ hlke
      go_wp2
      go_roundw
      case rel => exact ⟨k + 1, by omega, by go_num, hnew⟩
      case measure => simp [intOf]; omega
    · obtain rfl : k = g.roots.length := by omega
      obtain ⟨lk, hPk, hL⟩ := hP.out
      obtain ⟨⟨q0', q1', q2'⟩, q3', q4', q5'⟩ := hPk.cells
      have hmm := @run_makeMap Try.prog
      have hQ0 := (hPk.row.lt _ rfl).2
      have hS0 : Hid (∃ lk, Pk W (wr.alloc (.map #[] 0)) (.slice na g.nodes.length nc) (.slice ra g.roots.length rc) (.slice ma N mc) (.slice sa g.roots.length sc) N lk ∧ (∀ i, i < N → Seen e g 0 0 i → Lke e g (lk.getD i 0) i) ∧ ∃ D, (wr.alloc (.map #[] 0)).ownsMap Try.prog 3 (plainElem Try.prog 3) wr.heap.size 0 D ∧ MapP D (metF (quoF e g)) 0) := ⟨lk, hPk.next (below_alloc wr _), fun i hi hs => hL i hi (by
        rcases hs with h | ⟨j, _, hj, _⟩ | ⟨j, hj, _⟩
        · exact h
        · omega
        · omega), _, World.ownsMap_made (H := Unit) wr Try.prog 3 (plainElem Try.prog 3), MapP.nil _⟩
      obtain ⟨w5, hw5⟩ : ∃ w5, w5 = wr := ⟨wr, rfl⟩
      subst hw5
      clear hP hPk hL
      go_wp2
      clear hmm
      go_loopw [40] (fun i wr => ∃ (n : Nat), n ≤ N ∧ i = .int .i64 (n : Int) ∧ Hid (∃ lk, Pk W wr (.slice na g.nodes.length nc) (.slice ra g.roots.length rc) (.slice ma N mc) (.slice sa g.roots.length sc) N lk ∧ (∀ i, i < N → Seen e g n 0 i → Lke e g (lk.getD i 0) i) ∧ ∃ D, wr.ownsMap Try.prog 3 (plainElem Try.prog 3) w5.heap.size n D ∧ MapP D (metF (quoF e g)) n)) (fun i _ => N - (intOf i).toNat)
      case atStart => exact ⟨0, by omega, rfl, hS0⟩
      case round =>
        clear hS0 q0' q1' q2' q3' q4' q5'
        obtain ⟨n, hn, rfl, hP⟩ := hrel
        by_cases hlt : n < N
        · obtain ⟨lk, hPk, hL, D, hD, hM⟩ := hP.out
          obtain ⟨b, o, av, rfl, m0, m1, m2, m3, hA⟩ := HMa.out n (by rw [HTL.out]; exact hlt)
          have n0 := ((bcell hPk.b).1 b _ (lt_of_cell m0)).trans m0
          have n1 := ((bcell hPk.b).1 b _ (lt_of_cell m1)).trans m1
          have n2 := ((bcell hPk.b).1 b _ (lt_of_cell m2)).trans m2
          have n3 := ((bcell hPk.b).1 b _ (lt_of_cell m3)).trans m3
          have hzb := lt_of_cell n0
          obtain ⟨aa, ac, rfl, hac⟩ := hA
          have Hac := hid hac
          have hlke := hL n hlt (hself.out n hlt)
          have hLn := hid hL
          obtain ⟨hxg, hcx⟩ := hcs.out _ _ hlke
          obtain ⟨cb, co, rfl, d0⟩ := HCa.out (lk.getD n 0) (by rw [HCL.out]; exact hxg)
          have c0 := ((bcell hPk.b).1 cb _ (lt_of_cell d0)).trans d0
          rw [hcx] at c0
          have hzc := lt_of_cell c0
          obtain ⟨t0, t1, t2⟩ := hPk.at hlt
          have hkey := keyOf_int_mk (P := Try.prog) Try.underlying3 (hwf.out n hlt)
          have hwn : (Lit.int .i64 (n : Int)).wf = true := wfNat (by omega)
          have hLal : Hid (∀ x, Lke e g x n → (g.nodes.getD x nd0).args.length = ((trimF (quoF e g)).nodes.getD n nd0).args.length) := fun x hx => by
            rw [hnd0.out x n hlt hx]
            simp [renum]
          have hga := hgaN.out n hlt
          have hb1 := below_alloc wr (.cells #[.int .i64 ((trimF (quoF e g)).nodes.getD n nd0).kind, .string ((trimF (quoF e g)).nodes.getD n nd0).name, .int .i64 ((trimF (quoF e g)).nodes.getD n nd0).num, .slice aa ((trimF (quoF e g)).nodes.getD n nd0).args.length ac] 63)
          have hbx := heap_alloc_new wr (.cells #[.int .i64 ((trimF (quoF e g)).nodes.getD n nd0).kind, .string ((trimF (quoF e g)).nodes.getD n nd0).name, .int .i64 ((trimF (quoF e g)).nodes.getD n nd0).num, .slice aa ((trimF (quoF e g)).nodes.getD n nd0).args.length ac] 63)
          have hD1 := hD.alloc (.cells #[.int .i64 ((trimF (quoF e g)).nodes.getD n nd0).kind, .string ((trimF (quoF e g)).nodes.getD n nd0).name, .int .i64 ((trimF (quoF e g)).nodes.getD n nd0).num, .slice aa ((trimF (quoF e g)).nodes.getD n nd0).args.length ac] 63)
          have hql := hD.lt
          have hargn := hid (fun (x : Nat) (h : Lke e g x n) (k : Nat) hk => harg.out x n hlt h k hk)
          have hnx : Hid (∀ w6, (wr.alloc (.cells #[.int .i64 ((trimF (quoF e g)).nodes.getD n nd0).kind, .string ((trimF (quoF e g)).nodes.getD n nd0).name, .int .i64 ((trimF (quoF e g)).nodes.getD n nd0).num, .slice aa ((trimF (quoF e g)).nodes.getD n nd0).args.length ac] 63)).grownBy w6 (some w5.heap.size) → w6.heap[wr.heap.size]? = some (.cells #[.int .i64 ((trimF (quoF e g)).nodes.getD n nd0).kind, .string ((trimF (quoF e g)).nodes.getD n nd0).name, .int .i64 ((trimF (quoF e g)).nodes.getD n nd0).num, .slice aa ((trimF (quoF e g)).nodes.getD n nd0).args.length ac] 63) ∧ Pk W w6 (.slice na g.nodes.length nc) (.slice ra g.roots.length rc) (.slice (some ⟨b, o, none⟩) N mc) (.slice sa g.roots.length sc) N lk) := fun w6 hg6 => by
            refine ⟨?_, (hPk.next hb1).far hQ0 hg6⟩
            rw [hg6.block _ (by simp) (fun e => by injection e with e; omega)]
            exact hbx
          have hput : Hid (∀ w6 : World, w6.ownsMap Try.prog 3 (plainElem Try.prog 3) w5.heap.size (n + 1) (D.put (.int .i64 ((metF (quoF e g)).getD n 0)) (.lit (.int .i64 (n : Int)))) → MapP (D.put (.int .i64 ((metF (quoF e g)).getD n 0)) (.lit (.int .i64 (n : Int)))) (metF (quoF e g)) (n + 1)) := fun w6 h6 => hM.put (by rw [hNN]; exact hlt) hmnd.out (World.ownsMap.isMap h6)
          have hslf := hid (hself.out n hlt)
          have hnext := hid (fun i (h : Seen e g (n + 1) 0 i) => seen_next h)
          generalize (metF (quoF e g)).getD n 0 = mn at *
          generalize hTn : (trimF (quoF e g)).nodes.getD n nd0 = tn at *
          obtain ⟨tk, tnm, tnu, targs⟩ := tn
          dsimp only at *
          generalize hxx : lk.getD n 0 = xx at t0
          have hxg' : (xx : Int) < (g.nodes.length : Int) := by omega
          rw [hxx] at c0
          clear hP hPk hL hD hM hlke d0 hb1 m0 m1 m2 m3 hac hbx hcx
          go_wp2_with (at_mapUpdate; refine wpList_mapUpdate_own _ rfl _ _ _ 111 rfl 3 3 (int_keyed Try.underlying3) Try.underlying111 _ w5.heap.size n _ rfl hD1 (by unfold maxLen; omega) _ _ _ rfl rfl hkey _ [] (plainElem_int Try.underlying3 hwn) ?_; intro w6 hD6 hg6; obtain ⟨hbx6, hPk6⟩ := hnx.out w6 hg6; obtain ⟨⟨y0, y1, y2, y3⟩, _⟩ := xblk hbx6; have hzz := lt_of_block hbx6)
          have hI0 : Hid (∃ lk, Pk W w6 (.slice na g.nodes.length nc) (.slice ra g.roots.length rc) (.slice (some ⟨b, o, none⟩) N mc) (.slice sa g.roots.length sc) N lk ∧ (∀ i, i < N → Seen e g n 0 i → Lke e g (lk.getD i 0) i) ∧ ∃ D, w6.ownsMap Try.prog 3 (plainElem Try.prog 3) w5.heap.size (n + 1) D ∧ MapP D (metF (quoF e g)) (n + 1)) := ⟨lk, hPk6, hLn.out, _, hD6, hput.out w6 hD6⟩
          have hseen : Hid (∀ c i, Seen e g n (c + 1) i → Seen e g n c i ∨ i = (targs.getD c 0).toNat) := fun c i h => by
            rcases h with h | h | ⟨k, hk, h⟩
            · exact Or.inl (Or.inl h)
            · exact Or.inl (Or.inr (Or.inl h))
            · rw [hTn] at h
              by_cases ek : k = c
              · subst ek; exact Or.inr h.symm
              · exact Or.inl (Or.inr (Or.inr ⟨k, by omega, by rw [hTn]; exact h⟩))
          have hslc : Hid (∀ c, Seen e g n c n) := fun c => by
            rcases hslf.out with h | h | ⟨k, hk, _⟩
            · exact Or.inl h
            · exact Or.inr (Or.inl h)
            · omega
          have hnl : Hid (∀ i, Seen e g (n + 1) 0 i → Seen e g n targs.length i) := fun i h => by
            have h9 := seen_next h
            rw [hTn] at h9
            exact h9
          clear hg6 hbx6 hPk6 hLn hD6 hput hnx hD1 t0 t1 t2 c0 hzc n0 n1 n2 n3
          go_loopw [57] (fun i wr => ∃ (c : Nat), c ≤ targs.length ∧ i = .int .i64 (c : Int) ∧ Hid (∃ lk, Pk W wr (.slice na g.nodes.length nc) (.slice ra g.roots.length rc) (.slice (some ⟨b, o, none⟩) N mc) (.slice sa g.roots.length sc) N lk ∧ (∀ i, i < N → Seen e g n c i → Lke e g (lk.getD i 0) i) ∧ ∃ D, wr.ownsMap Try.prog 3 (plainElem Try.prog 3) w5.heap.size (n + 1) D ∧ MapP D (metF (quoF e g)) (n + 1))) (fun i _ => targs.length - (intOf i).toNat)
          case atStart => exact ⟨0, by omega, rfl, hI0⟩
          case round =>
            clear hI0
            obtain ⟨c, hc, rfl, hP⟩ := hrel
            obtain ⟨lk2, hPk, hL, D2, hD, hM⟩ := hP.out
            by_cases hltc : c < targs.length
            · obtain ⟨ub, uo, rfl, u0⟩ := Hac.out c hltc
              have u1 := ((bcell hPk.b).1 ub _ (lt_of_cell u0)).trans u0
              have hzu := lt_of_cell u1
              have hlke := hL n hlt (hslc.out c)
              have hal := hLal.out _ hlke
              obtain ⟨hxg2, _⟩ := hcs.out _ _ hlke
              obtain ⟨ha1, ha2, ha3, ha4⟩ := hargn.out _ hlke c (by rw [hal]; exact hltc)
              obtain ⟨gb, go, gav, rfl, _, _, _, g3, hgA⟩ := HNa.out (lk2.getD n 0) hxg2
              obtain ⟨ga, gc, rfl, hgac⟩ := hgA
              obtain ⟨vb, vo, rfl, v0⟩ := hgac c (by rw [hal]; exact hltc)
              have g3' := ((bcell hPk.b).1 gb _ (lt_of_cell g3)).trans g3
              have v0' := ((bcell hPk.b).1 vb _ (lt_of_cell v0)).trans v0
              have hzg := lt_of_cell g3'
              have hzv := lt_of_cell v0'
              obtain ⟨⟨q0', q1', q2'⟩, q3', q4', q5'⟩ := hPk.cells
              obtain ⟨t0, t1, t2⟩ := hPk.at hlt
              have hsc := hid (hseen.out c)
              rw [hal] at g3'
              generalize (g.nodes.getD (lk2.getD n 0) nd0).args.getD c 0 = y at *
              generalize targs.getD c 0 = ta at *
              obtain ⟨an, rfl⟩ : ∃ an : Nat, ta = (an : Int) := ⟨ta.toNat, by omega⟩
              obtain ⟨yn, rfl⟩ : ∃ yn : Nat, y = (yn : Int) := ⟨y.toNat, by omega⟩
              rw [Int.toNat_natCast] at ha1 ha4 hsc
              rw [Int.toNat_natCast] at ha1
              obtain ⟨s0, s1, s2⟩ := hPk.at ha4
              have hani : (an : Int) < (N : Int) := by omega
              have hni : (n : Int) < (N : Int) := by omega
              have hci : (c : Int) < (targs.length : Int) := by omega
              have hxi : ((lk2.getD n 0 : Nat) : Int) < (g.nodes.length : Int) := by omega
              have hnew : Hid (∃ lk, Pk W (wr.drew.setCell ⟨W.heap.size + 2, an, none⟩ (.int .i64 (yn : Int))) (.slice (some ⟨gb, go, none⟩) g.nodes.length nc) (.slice ra g.roots.length rc) (.slice (some ⟨b, o, none⟩) N mc) (.slice sa g.roots.length sc) N lk ∧ (∀ i, i < N → Seen e g n (c + 1) i → Lke e g (lk.getD i 0) i) ∧ ∃ D, (wr.drew.setCell ⟨W.heap.size + 2, an, none⟩ (.int .i64 (yn : Int))).ownsMap Try.prog 3 (plainElem Try.prog 3) w5.heap.size (n + 1) D ∧ MapP D (metF (quoF e g)) (n + 1)) := ⟨_, hPk.setD an yn, lk_set hPk.len hL ha4 ha1 hsc.out, D2, (World.ownsMap.drew hD).setCell (by show w5.heap.size ≠ W.heap.size + 2; omega) _, hM⟩
              clear hP hPk hL hD hM hlke hgac u0 g3 v0 hsc ha1
              generalize lk2.getD n 0 = xx2 at *
              go_wp2
              go_still_tail 15, (by kernel_rfl)
              change wpList _ _ _ _ _ wr.drew
              go_wp2
              go_roundw
              case rel => exact ⟨c + 1, by omega, by go_num, hnew⟩
              case measure => simp [intOf]; omega
            · obtain rfl : c = targs.length := by omega
              have hnew : Hid (∃ lk, Pk W wr (.slice na g.nodes.length nc) (.slice ra g.roots.length rc) (.slice (some ⟨b, o, none⟩) N mc) (.slice sa g.roots.length sc) N lk ∧ (∀ i, i < N → Seen e g (n + 1) 0 i → Lke e g (lk.getD i 0) i) ∧ ∃ D, wr.ownsMap Try.prog 3 (plainElem Try.prog 3) w5.heap.size (n + 1) D ∧ MapP D (metF (quoF e g)) (n + 1)) := ⟨lk2, hPk, fun i hi hs => hL i hi (hnl.out i hs), D2, hD, hM⟩
              clear hP hPk hL hD hM
              go_wp2
              go_roundw
              case rel => exact ⟨n + 1, by omega, by go_num, hnew⟩
              case measure => simp [intOf]; omega
        · obtain rfl : n = N := by omega
          obtain ⟨lk, hPk, hL, D, hD, hM⟩ := hP.out
          have hfin : Hid ((∃ q D, Value.map (some w5.heap.size) = .map (some q) ∧ wr.ownsMap Try.prog 3 (plainElem Try.prog 3) q n D ∧ MapP D (metF (quoF e g)) n ∧ W.heap.size ≤ q) ∧ Below W.heap.size W wr) := ⟨⟨_, D, rfl, hD, hM, by omega⟩, hPk.b⟩
          clear hP hPk hL hD hM
          go_wp2
          go_ret
          obtain ⟨⟨q, D, e1, h1, h2, h3⟩, h4⟩ := hfin.out
          exact ⟨⟨q, D, congrArg Ending.returned e1, h1, h2, h3⟩, h4⟩
end Go.Proofs.Ytjkcffcedbcjmaa

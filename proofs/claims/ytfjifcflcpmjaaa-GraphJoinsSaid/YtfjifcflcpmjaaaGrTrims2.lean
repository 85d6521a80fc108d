/- GraphTrims, walked. -/
import Derived.Test.YtfjifcflcpmjaaaGrTrims
namespace Go.Proofs.Ytfjifcflcpmjaaa
open Go.RowKit

theorem same_self {W : World} {nv rv mv sv : Value} {g : Gf} (hG : Gr W nv rv g) (hH : Gr W mv sv g) (hF : Fits g) :
    Calls Try.prog 28 #[.agg #[nv, rv], .agg #[mv, sv]] W fun e w' => e = .returned (.bool true) ∧ Below W.heap.size W w' := by
  refine (same_any hG hH hF).mono ?_
  rintro e w' ⟨rfl, hb⟩
  exact ⟨by rw [eqG_yes], hb⟩
theorem at_good {g : Gf} (hg : Good g) {x : Int} (h0 : 0 ≤ x) (h1 : x < g.nodes.length) (path : List Int) : atF g x path = goF g x path := by
  unfold atF
  rw [if_pos ⟨chk_of_good hg, h0, h1⟩]
set_option maxRecDepth 100000 in
set_option maxHeartbeats 8000000 in
theorem trims_main {W : World} {nv rv pv : Value} {g : Gf} {path : List Int} (hG : Gr W nv rv g) (hS : Sized g) (hP : Ri W pv path) (root : Int) (h5 : ¬ 5000 < path.length) (hsg : smallG g = true) (hgd : one (chk g) = []) :
    Calls Try.prog 7 #[.agg #[nv, rv], .int .i64 root, pv] W fun e w' => e = .returned (.bool true) ∧ Below W.heap.size W w' := by
  have hPs := hid hP
  obtain ⟨pa, pc, rfl, _⟩ := hP
  have hg := chk_good hgd
  have hb := below_alloc W (.cells #[nv, rv] 25)
  have b0 := heap_alloc_new W (.cells #[nv, rv] 25)
  have h5' : ¬ (5000 : Int) < (path.length : Int) := by omega
  have hlg : ∀ w : World, Below W.heap.size W w → _ := fun w hb => large_any (hG.below hb)
  rw [hsg] at hlg
  have htr : ∀ w : World, Below W.heap.size W w → _ := fun w hb => trim_call (hG.below hb) hS hg
  have htr2 := hid (fun (w : World) (nv rv : Value) (h : Gr w nv rv (trimF g)) => trim_call2 hg h)
  have hre2 := hid (fun (w : World) (nv rv : Value) (h : Gr w nv rv (trimF g)) => reach_call2 hg h)
  have hsa := hid (fun (w : World) (nv rv mv sv : Value) (h : Gr w nv rv (trimF g)) (k : Gr w mv sv (trimF g)) => same_self h k (trim_fits hg))
  obtain ⟨na, nc, rfl, hNc⟩ := hG.1
  obtain ⟨ra, rc, rfl, hRc⟩ := hG.2
  have hml := (met_ok hg).le
  have hgn := hg.nodes
  have hgr := hg.roots
  have hfacts := hid (And.intro hg hG)
  clear hsg hgd hG hNc hRc
  generalize hn : (metF g).length = n at htr htr2 hre2 hml
  generalize htd : trimF g = t at htr htr2 hre2 hsa
  go_enter Try.func7, Try.ntmps7
  go_wp2_with (first
    | (go_at_call 9; refine (lives_any _).mono ?_; rintro e w1 ⟨rfl, hb1⟩; replace hb := Below.next hb hb1; replace b0 := keepB b0 hb1; obtain ⟨⟨c0, c1⟩, _⟩ := blk2 b0; clear hb1)
    | (go_at_call 13; refine (hlg _ hb).mono ?_; clear hlg; rintro e w2 ⟨rfl, hb1⟩; replace hb := Below.next hb hb1; replace b0 := keepB b0 hb1; clear c0 c1; obtain ⟨⟨c0, c1⟩, _⟩ := blk2 b0; clear hb1)
    | (go_at_call 16; refine (htr _ hb).mono ?_; clear htr; rintro e w3 ⟨⟨ta, tc, tra, trc, rfl, hT⟩, hb1⟩; replace hb := (Below.next hb hb1).alloc (Below.next hb hb1).size (.cells #[.slice ta n tc, .slice tra g.roots.length trc] 25); have hbt := below_alloc w3 (.cells #[.slice ta n tc, .slice tra g.roots.length trc] 25); replace b0 := keepB (keepB b0 hb1) hbt; have b1 := heap_alloc_new w3 (.cells #[.slice ta n tc, .slice tra g.roots.length trc] 25); clear c0 c1; clear hb1)
    | (go_at_call 16; refine (htr2.out _ _ _ (hT.below hbt)).mono ?_; clear htr2; rintro e w4 ⟨⟨ua, uc, ura, urc, rfl, hU⟩, hb1⟩; have hbu := below_alloc w4 (.cells #[.slice ua n uc, .slice ura g.roots.length urc] 25); replace hb := Below.next (Below.next hb hb1) hbu; replace hbt := Below.next (Below.next hbt hb1) hbu; replace b0 := keepB (keepB b0 hb1) hbu; replace b1 := keepB (keepB b1 hb1) hbu; have b2 := heap_alloc_new w4 (.cells #[.slice ua n uc, .slice ura g.roots.length urc] 25); obtain ⟨⟨e0, e1⟩, _⟩ := blk2 b1; clear hb1)
    | (go_at_call 14; refine (hre2.out _ _ _ (hT.below hbt)).mono ?_; clear hre2; rintro e w5 ⟨⟨ma, mc, rfl, hM⟩, hb1⟩; replace hb := Below.next hb hb1; replace hbt := Below.next hbt hb1; replace hbu := Below.next hbu hb1; replace b0 := keepB b0 hb1; replace b1 := keepB b1 hb1; replace b2 := keepB b2 hb1; clear e0 e1; obtain ⟨⟨e0, e1⟩, _⟩ := blk2 b1; obtain ⟨⟨f0, f1⟩, _⟩ := blk2 b2; clear hb1)
    | (go_at_call 28; refine (hsa.out _ _ _ _ _ (hT.below hbt) (hU.below hbu)).mono ?_; clear hsa; rintro e w6 ⟨rfl, hb1⟩; replace hb := Below.next hb hb1; replace hbt := Below.next hbt hb1; replace b0 := keepB b0 hb1; replace b1 := keepB b1 hb1; replace hM := hM.below hb1; clear e0 e1 f0 f1; obtain ⟨⟨e0, e1⟩, _⟩ := blk2 b1; obtain ⟨⟨c0, c1⟩, _⟩ := blk2 b0; clear hb1))
  go_loop [81] (fun i => ∃ k : Nat, k ≤ n ∧ i = .int .i64 k) (fun i => n - (intOf i).toNat)
  case atStart => exact ⟨0, Nat.zero_le _, rfl⟩
  case round =>
    obtain ⟨k, hk, rfl⟩ := hrel
    by_cases hlt : k < n
    · obtain ⟨mb, mo, rfl, hmc⟩ : ∃ mb mo, ma = some ⟨mb, mo, none⟩ ∧ w6.cell? ⟨mb, mo + k, none⟩ = some (.int .i64 (k : Int)) := by
        obtain ⟨ao', c', h1, h2⟩ := hM
        obtain ⟨lb, lo, h3, h4⟩ := h2 k (by rw [iota_len]; exact hlt)
        injection h1 with h1 _ _
        exact ⟨lb, lo, h1.trans h3, by rw [h4, iota_getD hlt]⟩
      go_wp2
      go_round
      case rel => exact ⟨k + 1, by omega, congrArg (Value.int .i64) (by omega)⟩
      case measure => simp [intOf]; omega
    · by_cases r0 : root < 0
      · go_wp2
        go_ret
        exact ⟨rfl, hb⟩
      · by_cases r1 : (g.roots.length : Int) ≤ root
        · go_wp2
          go_ret
          exact ⟨rfl, hb⟩
        · obtain ⟨i, rfl⟩ : ∃ i : Nat, root = (i : Int) := ⟨root.toNat, by omega⟩
          have hi : i < g.roots.length := by omega
          have hi' : ¬ g.roots.length ≤ i := by omega
          obtain ⟨hg', hG⟩ := hfacts.out
          have hx := hg'.root _ (getD_mem hi)
          have hxm := met_root hg' _ (getD_mem hi)
          have htg : t = trimF g := htd.symm
          have htx : t.roots.getD i 0 = posF (metF g) (g.roots.getD i 0) := by rw [htg]; simp [trimF, List.getD, hi]
          have htl : t.roots.length = g.roots.length := by rw [htg]; simp [trimF]
          have htn : t.nodes.length = n := by rw [htg, trim_len hg', hn]
          obtain ⟨rb, ro, hra, hrc⟩ : ∃ rb ro, ra = some ⟨rb, ro, none⟩ ∧ w6.cell? ⟨rb, ro + i, none⟩ = some (.int .i64 (g.roots.getD i 0)) := by
            obtain ⟨ao', c', h1, h2⟩ := hG.2.below hb
            obtain ⟨lb, lo, h3, h4⟩ := h2 i hi
            injection h1 with h1 _ _
            exact ⟨lb, lo, h1.trans h3, h4⟩
          obtain ⟨sb, so, hsa', hsc⟩ : ∃ sb so, tra = some ⟨sb, so, none⟩ ∧ w6.cell? ⟨sb, so + i, none⟩ = some (.int .i64 (posF (metF g) (g.roots.getD i 0))) := by
            obtain ⟨ao', c', h1, h2⟩ := hT.2.below hbt
            obtain ⟨lb, lo, h3, h4⟩ := h2 i (by rw [htl]; exact hi)
            injection h1 with h1 _ _
            exact ⟨lb, lo, h1.trans h3, by rw [h4, htx]⟩
          have hpr := pos_rng hg' _ hxm
          have htp := trim_path hg' path _ hxm
          have hA1 : ∀ w : World, Below W.heap.size W w → _ := fun w hb => at_any (hG.below hb) hS (hPs.out.below hb) (by omega) (g.roots.getD i 0)
          have hA2 : ∀ w : World, Below W.heap.size W w → Below w3.heap.size w3 w → _ := fun w hb hb' => at_any (hT.below hb') (by rw [htg]; exact trim_sized hg') (hPs.out.below hb) (by omega) (posF (metF g) (g.roots.getD i 0))
          rw [at_good hg' hx.1 hx.2] at hA1
          rw [at_good (by rw [htg]; exact trim_good0 hg') hpr.1 (by rw [htn, ← hn]; exact hpr.2)] at hA2
          have hAL := hid (fun (y : Int) (hy : y ∈ metF g) => And.intro ((met_ok hg').rng y hy) (trim_node hg' y hy))
          have hpl := hid (fun (y : Int) (hy : y ∈ metF g) => pos_rng hg' y hy)
          rw [htd] at htp hAL
          have htp' := hid htp
          subst hra hsa'
          generalize goF g (g.roots.getD i 0) path = P1 at hA1 htp'
          generalize goF t (posF (metF g) (g.roots.getD i 0)) path = P2 at hA2 htp'
          obtain ⟨y1, o1⟩ := P1
          obtain ⟨y2, o2⟩ := P2
          obtain ⟨ho, hyy⟩ := htp'.out
          dsimp only at ho hyy hA1 hA2
          subst ho
          generalize posF (metF g) (g.roots.getD i 0) = x2 at hsc hA2
          generalize g.roots.getD i 0 = x1 at hrc hA1
          have hrb := lt_of_cell hrc
          clear htp htp' hpr hxm hx htx
          go_wp2
          go_region_held3 (fun w' => w'.cell? ⟨W.heap.size, 0, none⟩ = some (.slice na g.nodes.length nc) ∧ w'.cell? ⟨W.heap.size, 1, none⟩ = some (.slice (some ⟨rb, ro, none⟩) g.roots.length rc) ∧ w'.cell? ⟨rb, ro + i, none⟩ = some (.int .i64 x1)) (first | exact ⟨c0, c1, hrc⟩ | go_keep)
            (first | (go_at_call 29; refine Calls.mono (hA1 _ (by exact below_drewN hb _)) ?_; rintro e w7 ⟨rfl, hb1⟩; replace hb1 := undrN hb1; replace hb := Below.next hb hb1; replace hbt := Below.next hbt hb1; replace b0 := keepB b0 hb1; replace b1 := keepB b1 hb1; replace hrc := (hb1.cell (p := ⟨rb, ro + i, none⟩) (lt_of_cell hrc)).trans hrc; replace hsc := (hb1.cell (p := ⟨sb, so + i, none⟩) (lt_of_cell hsc)).trans hsc; clear c0 c1 e0 e1; obtain ⟨⟨c0, c1⟩, _⟩ := blk2 b0; obtain ⟨⟨e0, e1⟩, _⟩ := blk2 b1; clear hb1))
          all_goals go_wp2
          go_region_held3 (fun w' => w'.cell? ⟨w3.heap.size, 0, none⟩ = some (.slice ta n tc) ∧ w'.cell? ⟨w3.heap.size, 1, none⟩ = some (.slice (some ⟨sb, so, none⟩) g.roots.length trc) ∧ w'.cell? ⟨sb, so + i, none⟩ = some (.int .i64 x2)) (first | exact ⟨e0, e1, hsc⟩ | go_keep)
            (first | (go_at_call 29; refine Calls.mono (hA2 _ (by exact below_drewN hb _) (by exact below_drewN hbt _)) ?_; rintro e w8 ⟨rfl, hb1⟩; replace hb1 := undrN hb1; replace hb := Below.next hb hb1; replace hbt := Below.next hbt hb1; replace b0 := keepB b0 hb1; replace b1 := keepB b1 hb1; replace hsc := (hb1.cell (p := ⟨sb, so + i, none⟩) (lt_of_cell hsc)).trans hsc; clear c0 c1 e0 e1; obtain ⟨⟨c0, c1⟩, _⟩ := blk2 b0; obtain ⟨⟨e0, e1⟩, _⟩ := blk2 b1; clear hb1))
          all_goals go_wp2
          clear hA1 hA2 hrc hsc
          cases o1 with
          | false =>
            go_quiet (fail)
            go_wp2
            go_ret
            exact ⟨rfl, by first | exact hb | exact below_drewN hb _⟩
          | true =>
            obtain ⟨hy1, rfl⟩ := hyy rfl
            obtain ⟨hr1, hnode⟩ := hAL.out y1 hy1
            have hr2 := hpl.out y1 hy1
            rw [hn] at hr2
            obtain ⟨a, ha⟩ : ∃ a : Nat, y1 = (a : Int) := ⟨y1.toNat, by omega⟩
            obtain ⟨b, hb'⟩ : ∃ b : Nat, posF (metF g) y1 = (b : Int) := ⟨(posF (metF g) y1).toNat, by omega⟩
            rw [hb'] at hnode hr2 ⊢
            rw [ha] at hr1 ⊢
            rw [ha] at hnode
            rw [Int.toNat_natCast, Int.toNat_natCast] at hnode
            have haN : a < g.nodes.length := by omega
            have hbN : b < n := by omega
            obtain ⟨nb, no, av, hna, p0, p1, p2, p3, hAa⟩ : ∃ nb no av, na = some ⟨nb, no, none⟩ ∧ NdAt w8 nb (no + a * 4) av (g.nodes.getD a nd0) := by
              obtain ⟨ao', c', h1, h2⟩ := hG.1.below hb
              obtain ⟨lb, lo, av, h3, h4⟩ := h2 a haN
              injection h1 with h1 _ _
              exact ⟨lb, lo, av, h1.trans h3, h4⟩
            obtain ⟨tb, tt, bv, hta, q0, q1, q2, q3, hBa⟩ : ∃ nb no av, ta = some ⟨nb, no, none⟩ ∧ NdAt w8 nb (no + b * 4) av (t.nodes.getD b nd0) := by
              obtain ⟨ao', c', h1, h2⟩ := hT.1.below hbt
              obtain ⟨lb, lo, av, h3, h4⟩ := h2 b (by rw [htn]; exact hbN)
              injection h1 with h1 _ _
              exact ⟨lb, lo, av, h1.trans h3, h4⟩
            rw [hnode] at q0 q1 q2 hBa
            obtain ⟨aa, ac, rfl, _⟩ := hAa
            obtain ⟨ba, bc, rfl, _⟩ := hBa
            generalize g.nodes.getD a nd0 = X at p0 p1 p2 p3 q0 q1 q2 q3
            obtain ⟨xk, xs, xn, xl⟩ := X
            simp only [renum, List.length_map] at p0 p1 p2 p3 q0 q1 q2 q3
            subst hna hta
            clear hnode hAL hpl hy1 hyy hPs hT hG hfacts
            go_region_held3 (fun w' => w'.cell? ⟨W.heap.size, 0, none⟩ = some (.slice (some ⟨nb, no, none⟩) g.nodes.length nc) ∧ w'.cell? ⟨w3.heap.size, 0, none⟩ = some (.slice (some ⟨tb, tt, none⟩) n tc) ∧ (w'.cell? ⟨nb, no + a * 4, none⟩ = some (.int .i64 xk) ∧ w'.cell? ⟨nb, no + a * 4 + 1, none⟩ = some (.string xs) ∧ w'.cell? ⟨nb, no + a * 4 + 2, none⟩ = some (.int .i64 xn) ∧ w'.cell? ⟨nb, no + a * 4 + 3, none⟩ = some (.slice aa xl.length ac)) ∧ w'.cell? ⟨tb, tt + b * 4, none⟩ = some (.int .i64 xk) ∧ w'.cell? ⟨tb, tt + b * 4 + 1, none⟩ = some (.string xs) ∧ w'.cell? ⟨tb, tt + b * 4 + 2, none⟩ = some (.int .i64 xn) ∧ w'.cell? ⟨tb, tt + b * 4 + 3, none⟩ = some (.slice ba xl.length bc)) (first | exact ⟨c0, e0, ⟨p0, p1, p2, p3⟩, q0, q1, q2, q3⟩ | go_keep)
              (first | (go_at_call 30; refine Calls.mono alike_any ?_; rintro e w9 ⟨rfl, hb1⟩; (try replace hb1 := undrN hb1); replace hb := Below.next hb hb1; replace b0 := keepB b0 hb1; replace b1 := keepB b1 hb1; clear c0 e0; obtain ⟨⟨c0, _⟩, _⟩ := blk2 b0; obtain ⟨⟨e0, _⟩, _⟩ := blk2 b1; replace p3 := (hb1.cell (p := ⟨nb, no + a * 4 + 3, none⟩) (lt_of_cell p0)).trans p3; replace p2 := (hb1.cell (p := ⟨nb, no + a * 4 + 2, none⟩) (lt_of_cell p0)).trans p2; replace p1 := (hb1.cell (p := ⟨nb, no + a * 4 + 1, none⟩) (lt_of_cell p0)).trans p1; replace p0 := (hb1.cell (p := ⟨nb, no + a * 4, none⟩) (lt_of_cell p0)).trans p0; replace q3 := (hb1.cell (p := ⟨tb, tt + b * 4 + 3, none⟩) (lt_of_cell q0)).trans q3; replace q2 := (hb1.cell (p := ⟨tb, tt + b * 4 + 2, none⟩) (lt_of_cell q0)).trans q2; replace q1 := (hb1.cell (p := ⟨tb, tt + b * 4 + 1, none⟩) (lt_of_cell q0)).trans q1; replace q0 := (hb1.cell (p := ⟨tb, tt + b * 4, none⟩) (lt_of_cell q0)).trans q0))
            all_goals go_wp2
            all_goals go_ret
            all_goals exact ⟨rfl, by first | exact hb | exact below_drewN hb _⟩
theorem graphTrims_walk {W : World} (nv rv : Value) (g : Gf) (hG : Gr W nv rv g) (hS : Sized g) (root : Int) (_ : -9223372036854775808 ≤ root ∧ root ≤ 9223372036854775807) (pv : Value) (path : List Int) (hP : Ri W pv path) (_ : path.length ≤ 9223372036854775807) :
    Calls Try.prog 7 #[.agg #[nv, rv], .int .i64 root, pv] W fun e w' => e = .returned (.bool true) ∧ Below W.heap.size W w' := by
  by_cases h5 : 5000 < path.length
  · exact trims_short hG hS hP root (Or.inl h5)
  · cases hsg : smallG g with
    | false => exact trims_short hG hS hP root (Or.inr (Or.inl hsg))
    | true =>
      by_cases hgd : one (chk g) = []
      · exact trims_main hG hS hP root h5 hsg hgd
      · exact trims_short hG hS hP root (Or.inr (Or.inr hgd))
end Go.Proofs.Ytfjifcflcpmjaaa

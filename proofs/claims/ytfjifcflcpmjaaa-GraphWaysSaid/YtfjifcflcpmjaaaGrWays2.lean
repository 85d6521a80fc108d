/- GraphWays, walked. -/
import Derived.Test.YtfjifcflcpmjaaaGrWays
namespace Go.Proofs.Ytfjifcflcpmjaaa
open Go.RowKit

set_option maxRecDepth 100000 in
set_option maxHeartbeats 4000000 in
theorem paths_any {W : World} {nv rv mv sv pv : Value} {g h : Gf} {path : List Int} (hG : Gr W nv rv g) (hS : Sized g) (hH : Gr W mv sv h) (hP : Ri W pv path) (hl : path.length ≤ 9223372036854775807) (n : Int) :
    Calls Try.prog 25 #[.agg #[nv, rv], .agg #[mv, sv], .int .i64 n, pv] W fun e w' => e = .returned (.bool true) ∧ Below W.heap.size W w' := by
  have hx := Two.start W nv rv mv sv
  have hb := hx.b
  have hP' := hid hP
  obtain ⟨pa, pc, rfl, _⟩ := hP
  by_cases h5 : 5000 < path.length
  · have h5' : (5000 : Int) < (path.length : Int) := by omega
    go_enter Try.func25, Try.ntmps25
    go_wp2_with (go_at_call 9; refine (lives_any _).mono ?_; rintro e w1 ⟨rfl, hb1⟩; replace hb := Below.next hb hb1; clear hb1)
    go_ret
    exact ⟨rfl, hb⟩
  · have h5' : ¬ (5000 : Int) < (path.length : Int) := by omega
    have hlg : ∀ w : World, Below W.heap.size W w → _ := fun w hb => large_any (hG.below hb)
    have hlh : ∀ w : World, Below W.heap.size W w → _ := fun w hb => large_any (hH.below hb)
    cases hsg : smallG g with
    | false =>
      rw [hsg] at hlg
      clear hlh
      go_enter Try.func25, Try.ntmps25
      go_wp2_with (first
        | (go_at_call 9; refine (lives_any _).mono ?_; rintro e w1 ⟨rfl, hb1⟩; replace hx := hx.below hb1; have c0 := hx.n; have c1 := hx.r; clear hb1)
        | (go_at_call 13; refine (hlg w1 hx.b).mono ?_; rintro e w2 ⟨rfl, hb1⟩; replace hx := hx.below hb1; clear c0 c1 hb1))
      go_ret
      exact ⟨rfl, hx.b⟩
    | true =>
      cases hsh : smallG h with
      | false =>
        rw [hsg] at hlg
        rw [hsh] at hlh
        go_enter Try.func25, Try.ntmps25
        go_wp2_with (first
          | (go_at_call 9; refine (lives_any _).mono ?_; rintro e w1 ⟨rfl, hb1⟩; replace hx := hx.below hb1; have c0 := hx.n; have c1 := hx.r; clear hb1)
          | (go_at_call 13; refine (hlg w1 hx.b).mono ?_; clear hlg; rintro e w2 ⟨rfl, hb1⟩; replace hx := hx.below hb1; clear c0 c1; have c2 := hx.m; have c3 := hx.s; clear hb1)
          | (go_at_call 13; refine (hlh w2 hx.b).mono ?_; rintro e w3 ⟨rfl, hb1⟩; replace hx := hx.below hb1; clear c2 c3 hb1))
        go_ret
        exact ⟨rfl, hx.b⟩
      | true =>
        have hfg := (small_fits hsg).1
        have hfh := (small_fits hsh).1
        rw [hsg] at hlg
        rw [hsh] at hlh
        have hA1 : ∀ w : World, Below W.heap.size W w → _ := fun w hb => at_any (hG.below hb) hS (hP'.out.below hb) hl n
        have hA2 : ∀ w : World, Below W.heap.size W w → _ := fun w hb => ratp_any (hG.below hb) hS (hP'.out.below hb) hl n
        have hS1 : ∀ w : World, Below W.heap.size W w → _ := fun w hb => same_any (hG.below hb) (hH.below hb) hfg
        have hS2 : ∀ w : World, Below W.heap.size W w → _ := fun w hb => rsame_any (hG.below hb) (hH.below hb) hfg
        have hS3 : ∀ w : World, Below W.heap.size W w → _ := fun w hb => same_any (hG.below hb) (hG.below hb) hfg
        rw [eqG_yes g] at hS3
        generalize atF g n path = xo at hA1 hA2
        obtain ⟨xn, xb⟩ := xo
        dsimp only at hA1 hA2
        generalize eqG g h = r at hS1 hS2
        clear hsg hsh hfg hfh hG hH hS hP'
        go_enter Try.func25, Try.ntmps25
        go_wp2_with (first
          | (go_at_call 9; refine (lives_any _).mono ?_; rintro e w1 ⟨rfl, hb1⟩; replace hx := hx.below hb1; have c0 := hx.n; have c1 := hx.r; clear hb1)
          | (go_at_call 13; refine (hlg w1 hx.b).mono ?_; clear hlg; rintro e w2 ⟨rfl, hb1⟩; replace hx := hx.below hb1; clear c0 c1; have c2 := hx.m; have c3 := hx.s; clear hb1)
          | (go_at_call 13; refine (hlh w2 hx.b).mono ?_; clear hlh; rintro e w3 ⟨rfl, hb1⟩; replace hx := hx.below hb1; clear c2 c3; have c0 := hx.n; have c1 := hx.r; clear hb1)
          | (go_at_call 29; refine (hA1 w3 hx.b).mono ?_; clear hA1; rintro e w4 ⟨rfl, hb1⟩; replace hx := hx.below hb1; clear c0 c1; have c0 := hx.n; have c1 := hx.r; clear hb1)
          | (go_at_call 53; refine (hA2 w4 hx.b).mono ?_; clear hA2; rintro e w5 ⟨rfl, hb1⟩; replace hx := hx.below hb1; clear c0 c1; have c0 := hx.n; have c1 := hx.r; have c2 := hx.m; have c3 := hx.s; clear hb1))
        go_region_held3 (fun w' => w'.cell? ⟨W.heap.size, 0, none⟩ = some nv ∧ w'.cell? ⟨W.heap.size, 1, none⟩ = some rv ∧ w'.cell? ⟨W.heap.size + 1, 0, none⟩ = some mv ∧ w'.cell? ⟨W.heap.size + 1, 1, none⟩ = some sv) (first | exact ⟨c0, c1, c2, c3⟩ | go_keep)
          (first
            | (go_at_call 22; refine Calls.mono (hS2 _ (by first | exact below_drewN hx.b _ | exact hx.b)) ?_; clear hS2; rintro e w7 ⟨rfl, hb1⟩; (try replace hb1 := undrN hb1); replace hx := hx.below hb1; clear c0 c1 c2 c3; have c0 := hx.n; have c1 := hx.r; have c2 := hx.m; have c3 := hx.s; clear hb1)
            | (go_at_call 28; refine Calls.mono (hS1 _ (by first | exact below_drewN hx.b _ | exact hx.b)) ?_; clear hS1; rintro e w6 ⟨rfl, hb1⟩; (try replace hb1 := undrN hb1); replace hx := hx.below hb1; clear c0 c1 c2 c3; have c0 := hx.n; have c1 := hx.r; have c2 := hx.m; have c3 := hx.s; clear hb1)
            | (go_at_call 28; refine Calls.mono (hS3 _ (by first | exact below_drewN hx.b _ | exact hx.b)) ?_; rintro e w8 ⟨rfl, hb1⟩; (try replace hb1 := undrN hb1); replace hx := hx.below hb1; clear c0 c1 c2 c3; have c0 := hx.n; have c1 := hx.r; have c2 := hx.m; have c3 := hx.s; clear hb1))
        all_goals go_wp2
        all_goals go_ret
        all_goals exact ⟨rfl, by first | exact hx.b | exact below_drewN hx.b _⟩
set_option maxRecDepth 100000 in
set_option maxHeartbeats 2000000 in
theorem graphWays_walk {W : World} (nv rv : Value) (g : Gf) (mv sv : Value) (h : Gf) (n : Int) (pv : Value) (path : List Int) (hG : Gr W nv rv g) (hS : Sized g) (hH : Gr W mv sv h) (_ : Sized h) (hP : Ri W pv path) (hl : path.length ≤ 9223372036854775807) :
    Calls Try.prog 5 #[.agg #[nv, rv, mv, sv, .int .i64 n, pv]] W fun e w' => e = .returned (.bool true) ∧ Below W.heap.size W w' := by
  have hb := below_alloc W (.cells #[nv, rv, mv, sv, .int .i64 n, pv] 50)
  have hC := paths_any (hG.below hb) hS (hH.below hb) (hP.below hb) hl n
  clear hG hH hP
  go_enter Try.func5, Try.ntmps5
  go_wp2_with (go_at_call 25; refine hC.mono ?_; rintro e w1 ⟨rfl, hb1⟩)
  go_ret
  exact ⟨rfl, Below.next hb hb1⟩
end Go.Proofs.Ytfjifcflcpmjaaa

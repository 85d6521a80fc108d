/- GraphSides, walked: where it looks no further. -/
import Derived.Test.YtfjifcflcpmjaaaGrSides
namespace Go.Proofs.Ytfjifcflcpmjaaa
open Go.RowKit

set_option maxRecDepth 100000 in
set_option maxHeartbeats 4000000 in
theorem sides_short {W : World} {nv rv mv sv pv : Value} {g h : Gf} {path : List Int} (hG : Gr W nv rv g) (hH : Gr W mv sv h) (hP : Ri W pv path) (n : Int) (hs : 5000 < path.length ∨ smallG g = false ∨ smallG h = false) :
    Calls Try.prog 31 #[.agg #[nv, rv], .agg #[mv, sv], .int .i64 n, pv] W fun e w' => e = .returned (.bool true) ∧ Below W.heap.size W w' := by
  have hx := Two.start W nv rv mv sv
  have hb := hx.b
  obtain ⟨pa, pc, rfl, _⟩ := hP
  by_cases h5 : 5000 < path.length
  · have h5' : (5000 : Int) < (path.length : Int) := by omega
    go_enter Try.func31, Try.ntmps31
    go_wp2_with (go_at_call 9; refine (lives_any _).mono ?_; rintro e w1 ⟨rfl, hb1⟩; replace hb := Below.next hb hb1; clear hb1)
    go_ret
    exact ⟨rfl, hb⟩
  · have h5' : ¬ (5000 : Int) < (path.length : Int) := by omega
    have hlg : ∀ w : World, Below W.heap.size W w → _ := fun w hb => large_any (hG.below hb)
    have hlh : ∀ w : World, Below W.heap.size W w → _ := fun w hb => large_any (hH.below hb)
    cases hsg : smallG g with
    | false =>
      rw [hsg] at hlg
      clear hlh
      go_enter Try.func31, Try.ntmps31
      go_wp2_with (first
        | (go_at_call 9; refine (lives_any _).mono ?_; rintro e w1 ⟨rfl, hb1⟩; replace hx := hx.below hb1; have c0 := hx.n; have c1 := hx.r; clear hb1)
        | (go_at_call 13; refine (hlg w1 hx.b).mono ?_; rintro e w2 ⟨rfl, hb1⟩; replace hx := hx.below hb1; clear c0 c1 hb1))
      go_ret
      exact ⟨rfl, hx.b⟩
    | true =>
      have hsh : smallG h = false := by
        rcases hs with h1 | h1 | h1
        · exact absurd h1 h5
        · rw [hsg] at h1
          cases h1
        · exact h1
      rw [hsg] at hlg
      rw [hsh] at hlh
      go_enter Try.func31, Try.ntmps31
      go_wp2_with (first
        | (go_at_call 9; refine (lives_any _).mono ?_; rintro e w1 ⟨rfl, hb1⟩; replace hx := hx.below hb1; have c0 := hx.n; have c1 := hx.r; clear hb1)
        | (go_at_call 13; refine (hlg w1 hx.b).mono ?_; clear hlg; rintro e w2 ⟨rfl, hb1⟩; replace hx := hx.below hb1; clear c0 c1; have c2 := hx.m; have c3 := hx.s; clear hb1)
        | (go_at_call 13; refine (hlh w2 hx.b).mono ?_; rintro e w3 ⟨rfl, hb1⟩; replace hx := hx.below hb1; clear c2 c3 hb1))
      go_ret
      exact ⟨rfl, hx.b⟩
set_option maxRecDepth 100000 in
set_option maxHeartbeats 4000000 in
theorem sides_bad {W : World} {nv rv mv sv pv : Value} {g h : Gf} {path : List Int} (hG : Gr W nv rv g) (hS : Sized g) (hH : Gr W mv sv h) (hT : Sized h) (hP : Ri W pv path) (n : Int) (h5 : ¬ 5000 < path.length) (hsg : smallG g = true) (hsh : smallG h = true)
    (hc : joinC [g, h] ≠ []) (hd : one (chk g) ≠ [] ∨ (one (chk g) = [] ∧ one (chk h) ≠ [])) :
    Calls Try.prog 31 #[.agg #[nv, rv], .agg #[mv, sv], .int .i64 n, pv] W fun e w' => e = .returned (.bool true) ∧ Below W.heap.size W w' := by
  have hx := Two.start W nv rv mv sv
  obtain ⟨pa, pc, rfl, _⟩ := hP
  have h5' : ¬ (5000 : Int) < (path.length : Int) := by omega
  have hlg : ∀ w : World, Below W.heap.size W w → _ := fun w hb => large_any (hG.below hb)
  have hlh : ∀ w : World, Below W.heap.size W w → _ := fun w hb => large_any (hH.below hb)
  rw [hsg] at hlg
  rw [hsh] at hlh
  have hjn : ∀ w : World, Below W.heap.size W w → _ := fun w hb => join2_bad (hG.below hb) hS (hH.below hb) hT hc
  have hck : ∀ w : World, Below W.heap.size W w → _ := fun w hb => check_any (hG.below hb) hS
  have hck2 : ∀ w : World, Below W.heap.size W w → _ := fun w hb => check_any (hH.below hb) hT
  clear hG hH
  rcases hd with hbad | ⟨hok, hbad⟩
  · go_enter Try.func31, Try.ntmps31
    go_wp2_with (first
      | (go_at_call 9; refine (lives_any _).mono ?_; rintro e w1 ⟨rfl, hb1⟩; replace hx := hx.below hb1; have c0 := hx.n; have c1 := hx.r; clear hb1)
      | (go_at_call 13; refine (hlg w1 hx.b).mono ?_; clear hlg; rintro e w2 ⟨rfl, hb1⟩; replace hx := hx.below hb1; clear c0 c1; have c2 := hx.m; have c3 := hx.s; clear hb1)
      | (go_at_call 13; refine (hlh w2 hx.b).mono ?_; clear hlh; rintro e w3 ⟨rfl, hb1⟩; replace hx := hx.below hb1; clear c2 c3; have c0 := hx.n; have c1 := hx.r; have c2 := hx.m; have c3 := hx.s; clear hb1)
      | (go_at_call 26; refine (hjn w3 hx.b).mono ?_; clear hjn; rintro e w4 ⟨⟨bb, rfl⟩, hb1⟩; replace hx := (hx.below hb1).below (below_alloc w4 (.cells #[.slice none 0 0, .slice none 0 0] 25)); clear c0 c1 c2 c3; have c0 := hx.n; have c1 := hx.r; have c2 := hx.m; have c3 := hx.s; clear hb1)
      | (go_at_call 10; refine (hck _ hx.b).mono ?_; rintro e w5 ⟨⟨ev, rfl, hE⟩, hb1⟩; obtain ⟨b5, rfl⟩ : ∃ b, ev = .iface 70 (.pointer (some ⟨b, 0, none⟩)) := (hE.isNil.resolve_left (fun h => hbad h.1)).2; replace hx := hx.below hb1; clear hb1))
    go_ret
    exact ⟨rfl, hx.b⟩
  · go_enter Try.func31, Try.ntmps31
    go_wp2_with (first
      | (go_at_call 9; refine (lives_any _).mono ?_; rintro e w1 ⟨rfl, hb1⟩; replace hx := hx.below hb1; have c0 := hx.n; have c1 := hx.r; clear hb1)
      | (go_at_call 13; refine (hlg w1 hx.b).mono ?_; clear hlg; rintro e w2 ⟨rfl, hb1⟩; replace hx := hx.below hb1; clear c0 c1; have c2 := hx.m; have c3 := hx.s; clear hb1)
      | (go_at_call 13; refine (hlh w2 hx.b).mono ?_; clear hlh; rintro e w3 ⟨rfl, hb1⟩; replace hx := hx.below hb1; clear c2 c3; have c0 := hx.n; have c1 := hx.r; have c2 := hx.m; have c3 := hx.s; clear hb1)
      | (go_at_call 26; refine (hjn w3 hx.b).mono ?_; clear hjn; rintro e w4 ⟨⟨bb, rfl⟩, hb1⟩; replace hx := (hx.below hb1).below (below_alloc w4 (.cells #[.slice none 0 0, .slice none 0 0] 25)); clear c0 c1 c2 c3; have c0 := hx.n; have c1 := hx.r; have c2 := hx.m; have c3 := hx.s; clear hb1)
      | (go_at_call 10; refine (hck _ hx.b).mono ?_; clear hck; rintro e w5 ⟨⟨ev, rfl, hE⟩, hb1⟩; obtain rfl : ev = .nilIface := (hE.isNil.resolve_right (fun h => h.1 hok)).2; replace hx := hx.below hb1; clear c0 c1 c2 c3; have c2 := hx.m; have c3 := hx.s; clear hb1)
      | (go_at_call 10; refine (hck2 _ hx.b).mono ?_; rintro e w6 ⟨⟨ev, rfl, hE⟩, hb1⟩; obtain ⟨b5, rfl⟩ : ∃ b, ev = .iface 70 (.pointer (some ⟨b, 0, none⟩)) := (hE.isNil.resolve_left (fun h => hbad h.1)).2; replace hx := hx.below hb1; clear hb1))
    go_ret
    exact ⟨rfl, hx.b⟩
end Go.Proofs.Ytfjifcflcpmjaaa

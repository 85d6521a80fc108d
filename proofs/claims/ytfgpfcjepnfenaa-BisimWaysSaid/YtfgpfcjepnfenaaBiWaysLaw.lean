/- BisimWays: from two nodes of one class every path leads to nodes of one class, labelled alike, and to a variable only if to the same one: for every graph, two nodes and a path. No conditions. -/
import Derived.Test.YtfgpfcjepnfenaaBiLaw
import Derived.Test.YtfgpfcjepnfenaaBiWays3
namespace Go.Proofs.Ytfgpfcjepnfenaa
open Go.ChangeShapes Go.WideShapes Go.ChangeAt Go.RowKit
open Go.ChangeMaps (open_string shut_string)

theorem paths_all {W : World} {nv rv pv : Value} {g : Gf} {path : List Int} (hG : Gr W nv rv g) (hS : Sized g) (hP : Ri W pv path) (hl : path.length ≤ 9223372036854775807) (i j : Int) :
    Calls Try.prog 26 #[.agg #[nv, rv], .int .i64 i, .int .i64 j, pv] W fun e w' => e = .returned (.bool true) ∧ Below W.heap.size W w' := by
  by_cases hs : smallK 400 g = true
  · by_cases hp : 2000 < path.length
    · exact ways_short hG hP hl i j (Or.inr ⟨hs, hp⟩)
    · by_cases hb : one (chk g) = []
      · exact ways_good hG hS hP i j hs (by omega) hb
      · exact ways_bad hG hS hP i j hs (by omega) hb
  · exact ways_short hG hP hl i j (Or.inl (by simpa using hs))
set_option maxHeartbeats 1000000 in
theorem bisimWays_walk {W : World} (nv rv : Value) (g : Gf) (i j : Int) (pv : Value) (path : List Int) (hG : Gr W nv rv g) (hS : Sized g) (hP : Ri W pv path) (hl : path.length ≤ 9223372036854775807) :
    Calls Try.prog 6 #[.agg #[nv, rv, .int .i64 i, .int .i64 j, pv]] W fun e w' => e = .returned (.bool true) ∧ Below W.heap.size W w' := by
  have hb := below_alloc W (.cells #[nv, rv, .int .i64 i, .int .i64 j, pv] 51)
  have hC := paths_all (hG.below hb) hS (hP.below hb) hl i j
  clear hG hP
  go_enter Try.func6, Try.ntmps6
  go_wp2_with (go_at_call 26; refine hC.mono ?_; rintro e w1 ⟨rfl, hb1⟩)
  go_ret
  exact ⟨rfl, Below.next hb hb1⟩
set_option maxRecDepth 100000 in
theorem bisimWays_lifted (os : Os) (started : os.Started) (H : Type) (enc : TypeId × Value → H) :
    ReturnsInHanded {} Try.checked os 6 .any (Rows.bisimWaysSpec.pre6 enc Try.prog Try.f6 Rows.bisimWaysRow.domain false) (Rows.bisimWaysSpec.post enc Try.prog Try.f6 false true false false) := by
  refine returnsInHanded_of_change_sized (C := Try.checked) own started (by kernel_rfl) Try.func6
    (ChangeSpec.witness6 (enc := enc) (C := Try.checked) false ⟨#[], #[.agg #[.slice none 0 0, .slice none 0 0, .int .i64 0, .int .i64 0, .slice none 0 0]], []⟩ 8 (by kernel_rfl) (by kernel_rfl) (by kernel_rfl) (by kernel_rfl)) ?_
  intro W base args ds gs before hval0 hW _ hsz0 _
  have hsz : (DataW.weightsEach Try.prog (Try.f6.params.toList ++ Rows.bisimWaysSpec.plain.varTypes Try.prog) (ds ++ gs)).all (· ≤ reachBytes) = true := hsz0
  clear hsz0
  have hval : ∀ (j : Nat) t v, Try.f6.params[j]? = some t → args[j]? = some v → Value.okWide Try.prog W .any base t v := hval0
  have hW' := hW
  obtain ⟨p, q, hA0, hV, rfl, _, _⟩ := hW
  have hA : DataW.TrodAll enc Try.prog W 0 (fun _ => true) true Try.f6.params.toList args.toList ds p := hA0
  rw [Try.params6] at hA hval hsz
  obtain ⟨v0, vs0, d0, ds0, p0, q0, hargs, rfl, rfl, h0, r0⟩ := trodAll_cons hA
  obtain ⟨rfl, rfl, rfl⟩ := trodAll_nil r0
  obtain rfl : args = #[v0] := by cases args; simp_all
  obtain ⟨rfl, rfl⟩ := trodVars_none hV
  clear hA0 hval0
  simp only [List.append_nil] at hW'
  have hlt0 : ∀ x ∈ p0, x.block < W.heap.size := fun x hx => by simpa using hW'.lt x (by simp [hx])
  have hargs0 : ∀ (W' : World), Below W.heap.size W W' → DataW.Trod enc Try.prog W' 0 (fun b => decide (b < W.heap.size)) true 51 v0 d0 p0 :=
    fun W' hn => Below.trod laidOut (by kernel_rfl) (of_decide_eq_true (by kernel_rfl)) h0 hn hlt0
  obtain ⟨nv0, rv0, g0, n0, m0, pv0, l0, rfl, hG0, hS0, rd0, z0⟩ := way_of (hval 0 51 v0 rfl rfl) h0
  refine (bisimWays_walk nv0 rv0 g0 n0 m0 pv0 l0 hG0 hS0 rd0 z0).mono fun e W' ⟨he, hg⟩ => ?_
  subst he
  refine ⟨_, rfl, _, _, _, [], p0 ++ ([]), [], hW', ?_, ?_, rfl, hg.frame _, fun h => by cases h⟩
  · exact trodAll_cons_mk (shut_bool Try.underlying4 _) trodAll_mk0
  · exact (trodAll_cons_mk (hargs0 _ hg) trodAll_mk0)

theorem bisimWays_said : Rows.BisimWaysSaid :=
  OpenClaim.holds_of_wide 6 Try.f6 rfl rfl rfl rfl rfl rfl rfl ⟨rfl, rfl, rfl, rfl, rfl⟩ rfl rfl rfl rfl rfl (by kernel_rfl) Try.func6 (by kernel_rfl)
    (of_decide_eq_true (by kernel_rfl)) (by unfold Func.isWrapper; first | (rw [if_pos (by decide +kernel)]; kernel_rfl) | (rw [if_neg (by decide +kernel)]; exact ⟨rfl, rfl⟩))
    (fun os started H enc _ => bisimWays_lifted os started H enc)
#print axioms bisimWays_said
end Go.Proofs.Ytfgpfcjepnfenaa

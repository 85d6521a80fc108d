/- ArenaPlays: a new arena answers every script of calls as the document says, and holds behind each call what it says. No conditions. -/
import Derived.Test.YtmpnniabgkhkjaaArPlays
namespace Go.Proofs.Ytmpnniabgkhkjaa
open Go.ChangeShapes Go.WideShapes Go.ChangeAt Go.RowKit
attribute [local go_sem ↓] Go.wp_at_zero Go.wp_at_succ

set_option maxRecDepth 100000 in
set_option maxHeartbeats 1600000 in
theorem plays_none {W : World} (m : Int) (h1 : 1 ≤ m) (h2 : m ≤ 65536) (ao : Option Addr) (c : Nat) :
    Calls Try.prog 3 #[.int .i64 m, .slice ao 0 c] W fun e w' => e = .returned (.bool true) ∧ Below W.heap.size W w' := by
  have hB0 : W.heap.size ≤ W.heap.size := Nat.le_refl _
  go_enter Try.func3, Try.ntmps3
  go_wp2_with (first
    | (go_at_call 9; refine (lives_any _).mono ?_; rintro e w1 ⟨rfl, hb⟩)
    | (go_at_call 10; refine (new_ok m w1 W.heap.size hb.size h1 h2).mono ?_; rintro e w2 ⟨rfl, hA, hN⟩; replace hb := below_next hb hB0 hN; clear hN)
    | (go_at_call 11; refine (rnew_ok m w2 h1 h2).mono ?_; rintro e w3 ⟨rfl, hN⟩; replace hA := hA.below hN; replace hb := below_next hb hB0 hN; clear hN)
    | (go_at_call 12; refine (is_any (err_none _ _)).mono ?_; rintro e w4 ⟨rfl, hN⟩; have hF4 : w4.heap[w3.heap.size + 1]? = some (fltObj 0 0) := (by rw [hN.block (w3.heap.size + 1) (by simp)]; exact lit_at2 w3 _ _); obtain ⟨⟨q0, q1, q2, q3⟩, _⟩ := flt_facts hF4; have hz4 := lt_of_block hF4; have hT := (two_new hA hb.size (fltObj 0 0)).below hN; replace hb := below_next (below_next hb hB0 (below2 w3 _ _)) hB0 hN; clear hN hA)
    | (go_at_call 13; refine (bad_ex _ _ _).mono ?_; rintro e wq ⟨rfl, hq⟩; subst hq))
  refine wp_loop_rounds 1 ?_
  rw [rounds_succ]
  have hT5 := hT.below (below2 w4 (fltObj 0 0) (fltObj 0 0))
  have hb5 := below_next hb hB0 (below2 w4 (fltObj 0 0) (fltObj 0 0))
  obtain ⟨w5, hw5⟩ : ∃ w5, w5 = (w4.alloc (fltObj 0 0)).alloc (fltObj 0 0) := ⟨_, rfl⟩
  rw [← hw5] at hT5 hb5
  rw [← hw5]
  have hg := hT5.a.rng
  have d1 := hT5.b.c1
  clear hT hb hw5
  go_wp2
  go_region_law
    (first
      | (go_simp; go_at_call 18; refine (words_any hT5.a.drew).mono ?_; rintro e w6 ⟨rfl, ho6, hN⟩; replace hN := undr hN; have hT6 := hT5.below hN; have hx := Rd.ofOwn ho6 hg; have hy := hT6.b.rd; have d6 := hT6.b.c1; clear ho6)
      | (go_simp; go_at_call 17; refine (same_none _ _ _ _ _).mono ?_; rintro e w7 ⟨rfl, rfl⟩; have hB7 := below_next hb5 hB0 hN))
  all_goals go_wp2
  all_goals
    go_ret
    exact ⟨rfl, hB7⟩
theorem arenaPlays_walk {W : World} (m : Int) (_hm : -9223372036854775808 ≤ m ∧ m ≤ 9223372036854775807) (v : Value) (os : Nat → OpV) (len : Nat) (h : Ops W v os len) :
    Calls Try.prog 3 #[.int .i64 m, v] W fun e w' => e = .returned (.bool true) ∧ Below W.heap.size W w' := by
  have hv : ∃ ao c, v = .slice ao len c := by
    rcases h with ⟨ao, c, rfl, rfl⟩ | ⟨b, o, c, rfl, _⟩
    · exact ⟨ao, c, rfl⟩
    · exact ⟨_, c, rfl⟩
  by_cases h1 : m < 1
  · exact plays_no m v len hv (Or.inl h1)
  by_cases h2 : 65536 < m
  · exact plays_no m v len hv (Or.inr ⟨by omega, h2⟩)
  rcases h with ⟨ao, c, rfl, rfl⟩ | ⟨b, o, c, rfl, _, hos⟩
  · exact plays_none m (by omega) (by omega) ao c
  · exact plays_some m (by omega) (by omega) b o c len os hos
set_option maxRecDepth 100000 in
theorem arenaPlays_lifted (os : Os) (started : os.Started) (H : Type) (enc : TypeId × Value → H) :
    ReturnsInHanded {} Try.checked os 3 .any (Rows.arenaPlaysSpec.pre6 enc Try.prog Try.f3 Rows.arenaPlaysRow.domain false) (Rows.arenaPlaysSpec.post enc Try.prog Try.f3 false true false false) := by
  refine returnsInHanded_of_change_sized (C := Try.checked) own started (by kernel_rfl) Try.func3
    (ChangeSpec.witness6 (enc := enc) (C := Try.checked) false ⟨#[], #[.int .i64 0, .slice none 0 0], []⟩ 8 (by kernel_rfl) (by kernel_rfl) (by kernel_rfl) (by kernel_rfl)) ?_
  intro W base args ds gs before hval0 hW _ hsz0 _
  have hsz : (DataW.weightsEach Try.prog (Try.f3.params.toList ++ Rows.arenaPlaysSpec.plain.varTypes Try.prog) (ds ++ gs)).all (· ≤ reachBytes) = true := hsz0
  clear hsz0
  have hval : ∀ (j : Nat) t v, Try.f3.params[j]? = some t → args[j]? = some v → Value.okWide Try.prog W .any base t v := hval0
  have hW' := hW
  obtain ⟨p, q, hA0, hV, rfl, _, _⟩ := hW
  have hA : DataW.TrodAll enc Try.prog W 0 (fun _ => true) true Try.f3.params.toList args.toList ds p := hA0
  rw [Try.params3] at hA hval hsz
  obtain ⟨v0, vs0, d0, ds0, p0, q0, hargs, rfl, rfl, h0, r0⟩ := trodAll_cons hA
  obtain ⟨v1, vs1, d1, ds1, p1, q1, rfl, rfl, rfl, h1, r1⟩ := trodAll_cons r0
  obtain ⟨rfl, rfl, rfl⟩ := trodAll_nil r1
  obtain rfl : args = #[v0, v1] := by cases args; simp_all
  obtain ⟨rfl, rfl⟩ := trodVars_none hV
  clear hA0 hval0
  obtain ⟨a0, rfl, rfl, rfl, w0⟩ := open_int Try.underlying3 (hval 0 3 v0 rfl rfl) h0
  simp only [List.append_nil, List.nil_append] at hW'
  have hlt1 : ∀ x ∈ p1, x.block < W.heap.size := fun x hx => by simpa using hW'.lt x (by simp [hx])
  have hargs1 : ∀ (W' : World), Below W.heap.size W W' → DataW.Trod enc Try.prog W' 0 (fun b => decide (b < W.heap.size)) true 22 v1 d1 p1 :=
    fun W' hn => Below.trod laidOut (by kernel_rfl) (of_decide_eq_true (by kernel_rfl)) h1 hn hlt1
  obtain ⟨os1, n1, ro1⟩ := ops_of (hval 1 22 v1 rfl rfl) h1
  refine (arenaPlays_walk a0 (wf_i64 w0) v1 os1 n1 ro1).mono fun e W' ⟨he, hg⟩ => ?_
  subst he
  refine ⟨_, rfl, _, _, _, [], [] ++ (p1 ++ ([])), [], hW', ?_, ?_, rfl, hg.frame _, fun h => by cases h⟩
  · exact trodAll_cons_mk (shut_bool Try.underlying4 _) trodAll_mk0
  · exact (trodAll_cons_mk (shut_int Try.underlying3 w0) (trodAll_cons_mk (hargs1 _ hg) trodAll_mk0))

theorem arenaPlays_said : Rows.ArenaPlaysSaid :=
  OpenClaim.holds_of_wide 3 Try.f3 rfl rfl rfl rfl rfl rfl rfl ⟨rfl, rfl, rfl, rfl, rfl⟩ rfl rfl rfl rfl rfl (by kernel_rfl) Try.func3 (by kernel_rfl)
    (of_decide_eq_true (by kernel_rfl)) (by unfold Func.isWrapper; first | (rw [if_pos (by decide +kernel)]; kernel_rfl) | (rw [if_neg (by decide +kernel)]; exact ⟨rfl, rfl⟩))
    (fun os started H enc _ => arenaPlays_lifted os started H enc)
#print axioms arenaPlays_said
end Go.Proofs.Ytmpnniabgkhkjaa

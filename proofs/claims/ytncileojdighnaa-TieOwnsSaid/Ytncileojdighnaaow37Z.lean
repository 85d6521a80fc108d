/- What is not large is small; whether a variable of a name stands in a term: plain data. -/
import Derived.Laws.StructEq
import Derived.Test.Ytncileojdighnaaow35Z
namespace Go.Proofs.Ytncileojdighnaa
set_option maxRecDepth 100000
open Go.RowKit
theorem prt_len8 : ∀ xs : List Ex, xs.length ≤ prtXs xs
  | [] => by simp
  | x :: t => by
    have h1 := prt_len8 t
    have h2 := prtX_pos x
    rw [prtXs, List.length_cons]
    omega
theorem prt_mem8 : ∀ (xs : List Ex) (x : Ex), x ∈ xs → prtX x ≤ prtXs xs
  | y :: t, x, h => by
    rw [prtXs]
    rcases List.mem_cons.1 h with rfl | h
    · omega
    · have := prt_mem8 t x h
      omega
theorem prtQ_few : ∀ (qs : List (ByteArray × Ex)) (r : Int), 0 ≤ fewQs qs r → (prtQ qs : Int) + fewQs qs r ≤ r + qs.length
  | [], r, h => by rw [fewQs, prtQ]; simp
  | q :: t, r, h => by
    rw [fewQs] at h ⊢
    split at h
    · omega
    · rename_i hl
      rw [if_neg hl]
      have h2 := prtQ_few t _ h
      by_cases hf : fewX q.2 r < 0
      · rw [fewQs_neg hf] at h
        omega
      · have h1 := fewX_prt q.2 r (by omega)
        rw [prtQ, List.length_cons]
        omega
theorem large_small {xs : List Ex} {qs : List (ByteArray × Ex)} (h : largeT xs qs = false) : xs.length ≤ 100 ∧ qs.length ≤ 100 ∧ prtXs xs + prtQ qs ≤ 350 := by
  unfold largeT at h
  simp only [Bool.or_eq_false_iff, decide_eq_false_iff_not] at h
  obtain ⟨h1, h2, h3⟩ := h
  have h4 := prtQ_few qs (fewXs xs 250) (by omega)
  by_cases hf : fewXs xs 250 < 0
  · rw [fewQs_neg hf] at h3
    omega
  · have h5 := fewXs_prt xs 250 (by omega)
    exact ⟨by omega, by omega, by omega⟩
end Go.Proofs.Ytncileojdighnaa

namespace Go.Proofs.Ytncileojdighnaa
set_option maxRecDepth 100000
open Go.RowKit
theorem nm_neq (s : ByteArray) (i : Int) (w : World) : (binOp .neq 56 (.agg #[.string s, .int .i64 i]) (.agg #[.string s, .int .i64 i])).run Try.prog w = .ok (.bool false) w := by
  have u3 := Try.underlying3
  have a3 := Try.isAgg3
  have z3 := Try.sizeOf3
  have u9 := Try.underlying9
  have a9 := Try.isAgg9
  have z9 := Try.sizeOf9
  rw [run_neq_struct, show (10000 : Nat) = 9999 + 1 from rfl, run_equalIn_struct w 9999 56 _ _ (by kernel_rfl) (by kernel_rfl)]
  simp only [Program.fieldsOf, Try.underlying56]
  go_simp
abbrev nm0 : ByteArray × Int := (⟨#[]⟩, 0)
def Rnm (w : World) (v : Value) (l : List (ByteArray × Int)) : Prop :=
  ∃ ao c, v = .slice ao l.length c ∧ ∀ j, j < l.length → ∃ b o, ao = some ⟨b, o, none⟩ ∧ w.cell? ⟨b, o + j * 2, none⟩ = some (.string (l.getD j nm0).1) ∧ w.cell? ⟨b, o + j * 2 + 1, none⟩ = some (.int .i64 (l.getD j nm0).2)
set_option maxHeartbeats 2000000 in
theorem tsame_yes {W : World} {u v : Value} {l : List (ByteArray × Int)} (hu : Rnm W u l) (hv : Rnm W v l) (hl : l.length ≤ 100000) :
    Calls Try.prog 13 #[u, v] W fun e w' => e = .returned (.bool true) ∧ Below W.heap.size W w' := by
  obtain ⟨ua, uc, rfl, hu⟩ := hu
  obtain ⟨va, vc, rfl, hv⟩ := hv
  have HU := hid hu
  have HV := hid hv
  clear hu hv
  go_enter Try.func13, Try.ntmps13
  go_wp2
  go_loopw [13] (fun i wr => ∃ k : Nat, k ≤ l.length ∧ i = .int .i64 k ∧ Hid (Below W.heap.size W wr)) (fun i _ => l.length - (intOf i).toNat)
  case atStart => exact ⟨0, Nat.zero_le _, rfl, Below.refl _ _⟩
  case round =>
    obtain ⟨k, hk, rfl, hb⟩ := hrel
    by_cases hlt : k < l.length
    · obtain ⟨ub, uo, rfl, e0, e1⟩ := HU.out k hlt
      obtain ⟨vb, vo, rfl, g0, g1⟩ := HV.out k hlt
      have du0 := ((bcell hb.out).1 ub _ (lt_of_cell e0)).trans e0
      have du1 := ((bcell hb.out).1 ub _ (lt_of_cell e0)).trans e1
      have dv0 := ((bcell hb.out).1 vb _ (lt_of_cell g0)).trans g0
      have dv1 := ((bcell hb.out).1 vb _ (lt_of_cell g0)).trans g1
      have hne := nm_neq (l.getD k nm0).1 (l.getD k nm0).2
      clear e0 e1 g0 g1
      generalize (l.getD k nm0).1 = s at du0 dv0 hne
      generalize (l.getD k nm0).2 = i at du1 dv1 hne
      go_wp2
      go_quiet (fail)
      go_wp2
      go_roundw
      case rel => exact ⟨k + 1, by omega, congrArg (Value.int .i64) (by omega), below_drewN hb.out _⟩
      case measure => simp [intOf]; omega
    · go_wp2
      go_ret
      exact ⟨rfl, hb.out⟩
end Go.Proofs.Ytncileojdighnaa

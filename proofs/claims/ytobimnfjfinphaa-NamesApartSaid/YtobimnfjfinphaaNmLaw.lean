/- What the laws of layer 3 share: arguments that are texts and rows of texts. -/
import Derived.Test.YtobimnfjfinphaaRows
import Derived.Test.YtobimnfjfinphaaNmLives
import Derived.ProofKit
import Derived.SizedLaws
import Derived.OpenShut
import Derived.ShutString
import Derived.Deep.Strs
namespace Go.Proofs.Ytobimnfjfinphaa
open Go.ChangeShapes Go.WideShapes Go.ChangeAt Go.RowKit Go.Deep

theorem own : ownKnob Try.prog.godebug = none := by kernel_rfl
theorem laidOut : laidOutB Try.prog = true := by kernel_rfl
theorem cellsS : Try.prog.cellsOf 9 = 1 := by kernel_rfl
theorem wf_i64 {n : Int} (h : (Lit.int .i64 n).wf = true) : -9223372036854775808 ≤ n ∧ n ≤ 9223372036854775807 := by
  have h1 : IntKind.i64.min = -9223372036854775808 := rfl
  have h2 : IntKind.i64.max = 9223372036854775807 := rfl
  simp only [Lit.wf, Bool.and_eq_true, decide_eq_true_eq] at h
  omega
/-- A row of texts among what came in, read off its cells. -/
theorem strs_of {H : Type} {enc : TypeId × Value → H} {W : World} {base : Nat} {u : Value} {d : DataW H} {p : List MemPlace} (hv : Value.okWide Try.prog W .any base 22 u) (h : DataW.Trod enc Try.prog W 0 (fun _ => true) true 22 u d p) :
    ∃ l : List ByteArray, Rs W u l ∧ ((d = .nil ∧ l = []) ∨ ∃ sp, d = .slice (l.map fun s => .lit (.string s.data.toList)) sp) := by
  obtain ⟨a, len, cap, rfl⟩ := okWide_slice Try.underlying22 hv
  obtain ⟨fuel, hf⟩ := h
  have hf' : DataW.trod enc Try.prog W 0 (fun _ => true) true fuel 22 [.slice a len cap] = some (d, p) := by simpa [Value.cells] using hf
  rcases open_strs Try.underlying22 Try.underlying9 cellsS hf' with ⟨hcs, hx⟩ | ⟨ad, len', cap', m, Sx, hcs, _, hl, _, hm, hx, hc⟩
  · have e : d = .nil := by injection hx
    exact ⟨[], Or.inl ⟨by simpa using hcs, rfl⟩, Or.inl ⟨e, rfl⟩⟩
  · have hcs' : Value.slice a len cap = .slice (some ad) len' cap' := by simpa using hcs
    rw [hcs']
    injection hx with e _
    simp only [if_true] at hm
    refine ⟨(List.range len').map Sx, ?_, Or.inr ⟨_, by rw [e, List.map_map]; rfl⟩⟩
    by_cases h0 : len' = 0
    · subst h0
      exact Or.inr (Or.inl ⟨ad, cap', rfl, by simp⟩)
    · obtain ⟨b, off, spot⟩ := ad
      have hspot : spot = none := by simpa [Addr.add] using World.cell?_spot (hc 0 (by omega)).1
      subst hspot
      refine Or.inr (Or.inr ⟨b, off, cap', by simp, fun j hj => ?_⟩)
      have hj' : j < len' := by simpa using hj
      have := (hc j (by omega)).1
      rw [add_plain] at this
      rw [this]
      simp [List.getD, hj']
theorem weights_mem {H : Type} {P : Program} {e : TypeId} {d : DataW H} {n : Nat} (hn : n ∈ d.weights P e) : ∀ {ds : List (DataW H)}, d ∈ ds → n ∈ DataW.weightsAll P e ds
  | _ :: r, h => by
    simp only [DataW.weightsAll, List.mem_append]
    rcases List.mem_cons.1 h with rfl | h
    · exact Or.inl hn
    · exact Or.inr (weights_mem hn h)
theorem strs_sized {H : Type} {ts : List TypeId} {ds : List (DataW H)} (h : (DataW.weightsEach Try.prog ts ds).all (· ≤ reachBytes) = true) {j : Nat} {d : DataW H} {l : List ByteArray} (ht : ts[j]? = some 22) (hd : ds[j]? = some d)
    (hl : (d = .nil ∧ l = []) ∨ ∃ sp, d = .slice (l.map fun s => .lit (.string s.data.toList)) sp) : ∀ s ∈ l, s.size ≤ 281474976710656 := by
  rcases hl with ⟨_, rfl⟩ | ⟨sp, rfl⟩
  · simp
  · intro s hs
    have hm : s.data.toList.length ∈ DataW.weights Try.prog 22 (DataW.slice (l.map fun s => .lit (.string s.data.toList)) sp : DataW H) := by
      simp only [DataW.weights, Try.underlying22, List.mem_cons, List.mem_append]
      exact Or.inr (Or.inl (weights_mem (d := .lit (.string s.data.toList)) (by simp [DataW.weights]) (List.mem_map.2 ⟨s, hs, rfl⟩)))
    have h1 : s.data.toList.length ≤ reachBytes := by simpa using List.all_eq_true.1 h _ (DataW.weights_mem_each ht hd _ hm)
    have e : s.data.toList.length = s.size := by simp
    have r := reachBytes_lt
    omega
end Go.Proofs.Ytobimnfjfinphaa

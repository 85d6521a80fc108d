/- What the laws of layer 6 share: two rows of the same tokens; an error that is just a fault; the fixed fact. -/
import Derived.Test.YtanjgppdjdcnaaaLxScan
import Derived.Test.YtanjgppdjdcnaaaLxR7
import Derived.Laws.StructEq
namespace Go.Proofs.Ytanjgppdjdcnaaa
open Go.RowKit

/-- Are two tokens the same? -/
def tkE (t u : Tk) : Bool := (t.kind == u.kind) && (t.text.toList == u.text.toList) && (t.num == u.num) && ((t.at_ : Int) == (u.at_ : Int)) && ((t.end_ : Int) == (u.end_ : Int))
theorem tkE_self (t : Tk) : tkE t t = true := by simp [tkE]
theorem tok_eq (t u : Tk) (w : World) : (Op.equalIn 10000 40 (tokV t) (tokV u)).run Try.prog w = .ok (tkE t u) w := by
  have u3 := Try.underlying3
  have a3 := Try.isAgg3
  have z3 := Try.sizeOf3
  have u9 := Try.underlying9
  have a9 := Try.isAgg9
  have z9 := Try.sizeOf9
  rw [show (10000 : Nat) = 9999 + 1 from rfl, run_equalIn_struct w 9999 40 _ _ (by kernel_rfl) (by kernel_rfl)]
  simp only [Program.fieldsOf, Try.underlying40]
  unfold tkE
  go_simp
  by_cases h1 : t.kind = u.kind <;> by_cases h2 : t.text.toList = u.text.toList <;> by_cases h3 : t.num = u.num <;> by_cases h4 : (t.at_ : Int) = (u.at_ : Int) <;> by_cases h5 : (t.end_ : Int) = (u.end_ : Int) <;> simp [h1, h2, h3, h4, h5]
theorem tok_neq (t : Tk) (w : World) : (binOp .neq 40 (tokV t) (tokV t)).run Try.prog w = .ok (.bool false) w := by
  rw [run_neq_struct, tok_eq, tkE_self]
  rfl
/-- The cells of a token, by the slice's own words. -/
theorem Rt.cells {w : World} {b o n c : Nat} {l : List Tk} (h : Rt w (.slice (some ⟨b, o, none⟩) n c) l) {j : Nat} (hj : j < l.length) :
    w.cell? ⟨b, o + j * 5, none⟩ = some (.int .i64 (l.getD j tk0).kind) ∧ w.cell? ⟨b, o + j * 5 + 1, none⟩ = some (.string (l.getD j tk0).text) ∧ w.cell? ⟨b, o + j * 5 + 2, none⟩ = some (.int .i64 (l.getD j tk0).num) ∧
    w.cell? ⟨b, o + j * 5 + 3, none⟩ = some (.int .i64 ((l.getD j tk0).at_ : Int)) ∧ w.cell? ⟨b, o + j * 5 + 4, none⟩ = some (.int .i64 ((l.getD j tk0).end_ : Int)) := by
  obtain ⟨b', o', c', e, h0⟩ := h.at hj
  injection e with e _ _
  have e := Option.some.inj e
  injection e with e1 e2 _
  subst e1 e2
  exact h0
theorem Rt.form {w : World} {v : Value} {l : List Tk} (h : Rt w v l) (hl : 0 < l.length) : ∃ b o c, v = .slice (some ⟨b, o, none⟩) l.length c := by
  obtain ⟨b, o, c, e, _⟩ := h.at hl
  exact ⟨b, o, c, e⟩
set_option maxRecDepth 100000 in
set_option maxHeartbeats 2000000 in
theorem same_any {a b : Value} {l : List Tk} {w : World} (ha : Rt w a l) (hb : Rt w b l) (hl : l.length ≤ 4194305) :
    Calls Try.prog 14 #[a, b] w fun e w' => e = .returned (.bool true) ∧ ∃ n, w' = w.drewN n := by
  by_cases h0 : l = []
  · subst h0
    obtain ⟨ao, c, rfl, _⟩ := ha
    obtain ⟨bo, d, rfl, _⟩ := hb
    go_enter Try.func14, Try.ntmps14
    go_wp2
    go_loop [13] (fun i => i = .int .i64 0) (fun _ => 0)
    case atStart => rfl
    case round =>
      subst hrel
      go_wp2
      go_ret
      exact ⟨rfl, 0, rfl⟩
  · have hpos : 0 < l.length := List.length_pos_iff.2 h0
    obtain ⟨ab, ao, ac, rfl⟩ := ha.form hpos
    obtain ⟨bb, bo, bc, rfl⟩ := hb.form hpos
    have HA := hid ha
    have HB := hid hb
    clear ha hb h0
    go_enter Try.func14, Try.ntmps14
    go_wp2
    go_loopw [13] (fun i wr => ∃ k n : Nat, k ≤ l.length ∧ i = .int .i64 (k : Int) ∧ wr = w.drewN n) (fun i _ => l.length - (intOf i).toNat)
    case atStart => exact ⟨0, 0, by omega, rfl, rfl⟩
    case round =>
      obtain ⟨k, n, hk, rfl, rfl⟩ := hrel
      by_cases hlt : k < l.length
      · obtain ⟨a0, a1, a2, a3, a4⟩ := HA.out.cells hlt
        obtain ⟨b0, b1, b2, b3, b4⟩ := HB.out.cells hlt
        have hne := tok_neq (l.getD k tk0)
        generalize l.getD k tk0 = t at *
        go_wp2
        go_quiet (fail)
        go_wp2
        go_roundw
        case rel => exact ⟨k + 1, n + nq, by omega, by go_num, rfl⟩
        case measure => simp [intOf]; omega
      · go_wp2
        go_ret
        exact ⟨rfl, n, rfl⟩
/-- An error asked for the very pointer type that it has. -/
theorem assert_ptr {P : Program} (w : World) (t xT e : TypeId) (v : Value) (h : P.underlying t = some (.pointer e)) : (Instr.typeAssert (.iface t v) xT t true).run P w = .ok (.tuple #[v, .bool true]) w := by
  simp [Instr.typeAssert, run_underlying h, go_sem, Result.andThen]
set_option maxHeartbeats 400000 in
theorem is_no (a : Int) (w : World) :
    Calls Try.prog 13 #[.nilIface, flt 0 a] w fun e w' => e = .returned (.bool true) ∧ Below w.heap.size w w' := by
  go_enter Try.func13, Try.ntmps13
  go_wp2
  go_loop [0] (fun e => e = .nilIface) (fun _ => 0)
  case atStart => rfl
  case round =>
    subst hrel
    go_wp2
    go_ret
    exact ⟨rfl, (Below.refl _ _).alloc (Nat.le_refl _) _⟩
set_option maxRecDepth 100000 in
set_option maxHeartbeats 1000000 in
theorem is_yes (c a : Int) (b : Nat) (w : World) (hc : (c == 0) = false) (hb : w.heap[b]? = some (faultAtObj c a)) :
    Calls Try.prog 13 #[.iface 43 (.pointer (some ⟨b, 0, none⟩)), flt c a] w fun e w' => e = .returned (.bool true) ∧ Below w.heap.size w w' := by
  have hlt : b < w.heap.size := lt_of_block hb
  have h0 : w.cell? ⟨b, 0, none⟩ = some (.int .i64 c) := by simp [World.cell?, hb, faultAtObj]
  have h1 : w.cell? ⟨b, 1, none⟩ = some (.int .i64 a) := by simp [World.cell?, hb, faultAtObj]
  have h2 : w.cell? ⟨b, 2, none⟩ = some (.string ⟨#[]⟩) := by simp [World.cell?, hb, faultAtObj]
  have h3 : w.cell? ⟨b, 3, none⟩ = some .nilIface := by simp [World.cell?, hb, faultAtObj]
  clear hb
  have hta := fun (w : World) (v : Value) => assert_ptr (P := Try.prog) w 43 25 47 v Try.underlying43
  go_enter Try.func13, Try.ntmps13
  go_wp2
  go_loop [0] (fun e => e = .iface 43 (.pointer (some ⟨b, 0, none⟩))) (fun _ => 0)
  case atStart => rfl
  case round =>
    subst hrel
    go_wp2
    go_quiet (fail)
    go_wp2
    go_ret
    exact ⟨rfl, below_drewN ((Below.refl _ _).alloc (Nat.le_refl _) _) _⟩
theorem is_any {w : World} {e : Value} {c a : Int} (h : Err w e c a) :
    Calls Try.prog 13 #[e, flt c a] w fun e w' => e = .returned (.bool true) ∧ Below w.heap.size w w' := by
  rcases h with ⟨rfl, rfl⟩ | ⟨hc, b, rfl, hb⟩
  · exact is_no a w
  · exact is_yes c a b w (by simpa using hc) hb
/-- Some of the reference, at every source. -/
theorem rsome_any (s : ByteArray) (w : World) : Calls Try.prog 11 #[.string s] w (SAns w (someT s) (someC s) (someP s)) := by
  unfold someT someC someP
  by_cases hs : s.size ≤ 4194304
  · simp only [if_pos hs]
    exact rsome_all s w hs
  · simp only [if_neg hs]
    exact rsome_long s w (by omega)
/-- Scan where it answers tokens, and where it answers a fault. -/
theorem scan_yes {s : ByteArray} (w : World) (hc : someC s = 0) : Calls Try.prog 10 #[.string s] w fun e w' => ∃ v, e = .returned (.tuple #[v, .nilIface]) ∧ Tr w' w.heap.size v (someT s) ∧ Below w.heap.size w w' := by
  refine (scan_any s w).mono ?_
  rintro e w' ⟨v, ev, rfl, hE, h1, h2, hB⟩
  rw [hc] at hE
  obtain rfl := hE.none_eq
  exact ⟨v, rfl, h1 hc, hB⟩
theorem scan_no {s : ByteArray} (w : World) (hc : someC s ≠ 0) : Calls Try.prog 10 #[.string s] w fun e w' => ∃ b, e = .returned (.tuple #[.slice none 0 0, .iface 43 (.pointer (some ⟨b, 0, none⟩))]) ∧ w'.heap[b]? = some (faultAtObj (someC s) (someP s)) ∧ Below w.heap.size w w' := by
  refine (scan_any s w).mono ?_
  rintro e w' ⟨v, ev, rfl, hE, h1, h2, hB⟩
  rcases hE with ⟨h, _⟩ | ⟨_, b, rfl, hb⟩
  · exact absurd h hc
  · exact ⟨b, by rw [h2 hc], hb, hB⟩
end Go.Proofs.Ytanjgppdjdcnaaa

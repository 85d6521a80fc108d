/- The census of package tie: terms. -/
import Derived.Test.Ytncileojdighnaaow31Z
namespace Go.Proofs.Ytncileojdighnaa
set_option maxRecDepth 100000
open Go.RowKit Go.Maps
theorem name_any {w : World} {B cb q oth : Nat} {v : Value} {l : List ByteArray} (h : Cs w B cb v q l oth) (s : ByteArray) (hs : s.size ≤ 281474976710656) (hl : l.length ≤ 100000) (hB : B ≤ w.heap.size) :
    Calls Try.prog 48 #[.pointer (some ⟨cb, 0, none⟩), .string s] w fun e w' => e = .returned (.tuple #[]) ∧ CsU w w' B cb q v (putS l s) oth := by
  unfold putS
  cases hin : inN l s with
  | true =>
    rw [if_pos rfl]
    refine (name_old h s hs hin).mono ?_
    rintro e w' ⟨rfl, rfl⟩
    exact ⟨rfl, v, h, Mo.refl _ _, Nx.refl _ _⟩
  | false =>
    rw [if_neg (by decide)]
    exact name_new h s hs hin hl hB
mutual
def prtX : Ex → Nat
  | .mk _ _ _ xs => 1 + prtXs xs
def prtXs : List Ex → Nat
  | [] => 0
  | x :: r => prtX x + prtXs r
end
theorem putS_len (l : List ByteArray) (s : ByteArray) : (putS l s).length ≤ l.length + 1 := by
  unfold putS
  split <;> simp
mutual
theorem namX_len : ∀ (l : List ByteArray) (x : Ex), (namX l x).length ≤ l.length + prtX x
  | l, .mk k n m xs => by
    rw [namX, prtX]
    have h1 := namXs_len (if (decide (k = 1) && !isU n) = true then putS l n else l) xs
    have h2 := putS_len l n
    split at h1 <;> split <;> simp_all <;> omega
theorem namXs_len : ∀ (l : List ByteArray) (xs : List Ex), (namXs l xs).length ≤ l.length + prtXs xs
  | l, [] => by rw [namXs]; omega
  | l, x :: r => by
    rw [namXs, prtXs]
    have h1 := namX_len l x
    have h2 := namXs_len (namX l x) r
    omega
end
mutual
theorem othX_le : ∀ x : Ex, othX x ≤ prtX x
  | .mk k n m xs => by
    rw [othX, prtX]
    have := othXs_le xs
    split <;> omega
theorem othXs_le : ∀ xs : List Ex, othXs xs ≤ prtXs xs
  | [] => by rw [othXs]; omega
  | x :: r => by
    rw [othXs, prtXs]
    have h1 := othX_le x
    have h2 := othXs_le r
    omega
end
theorem take_x {xs : List Ex} {j : Nat} (h : j < xs.length) : xs.take (j + 1) = xs.take j ++ [xs.getD j x0] := by
  rw [List.take_add_one]
  simp [List.getD, h]
theorem namXs_app (l : List ByteArray) : ∀ (xs : List Ex) (y : Ex), namXs l (xs ++ [y]) = namX (namXs l xs) y := by
  intro xs
  induction xs generalizing l with
  | nil => intro y; rfl
  | cons x r ih => intro y; rw [List.cons_append, namXs, ih, namXs]
theorem othXs_app : ∀ (xs : List Ex) (y : Ex), othXs (xs ++ [y]) = othXs xs + othX y
  | [], y => by rw [List.nil_append, othXs, othXs, othXs]; omega
  | x :: r, y => by rw [List.cons_append, othXs, othXs, othXs_app r y]; omega
theorem prtXs_app : ∀ (xs : List Ex) (y : Ex), prtXs (xs ++ [y]) = prtXs xs + prtX y
  | [], y => by rw [List.nil_append, prtXs, prtXs, prtXs]; omega
  | x :: r, y => by rw [List.cons_append, prtXs, prtXs, prtXs_app r y]; omega
theorem prtXs_take (xs : List Ex) : ∀ j, prtXs (xs.take j) ≤ prtXs xs := by
  induction xs with
  | nil => intro j; simp
  | cons x r ih =>
    intro j
    cases j with
    | zero => rw [List.take_zero, prtXs]; omega
    | succ j => rw [List.take_succ_cons, prtXs, prtXs]; have := ih j; omega
theorem prtX_pos (x : Ex) : 1 ≤ prtX x := by
  cases x
  rw [prtX]
  omega
set_option maxHeartbeats 1000000 in
theorem isNamed_any {w : World} {x : Ex} {v : Value} (hx : Xv w x v) :
    Calls Try.prog 74 #[v] w fun e w' => e = .returned (.bool (nmX x)) ∧ Below w.heap.size w w' := by
  obtain ⟨k, n, m, xs⟩ := x
  obtain ⟨av, rfl, hr⟩ := hx.parts
  obtain ⟨ao, c, rfl, _⟩ := hr
  have hb0 := below_alloc w (.cells #[.int .i64 k, .string n, .int .i64 m, .slice ao xs.length c] 48)
  clear hx
  by_cases hk : k = 1
  · subst hk
    by_cases hu : n.toList = [95]
    · have hE : Hid (nmX (.mk 1 n m xs) = false) := show _ = _ by simp [nmX, isU, hu]
      go_enter Try.func74, Try.ntmps74
      go_wp2
      go_ret
      exact ⟨ret_bool hE.out.symm, hb0⟩
    · have hE : Hid (nmX (.mk 1 n m xs) = true) := show _ = _ by simp [nmX, isU, hu]
      have hu' : (n.toList == [95]) = false := beq_eq_false_iff_ne.2 hu
      go_enter Try.func74, Try.ntmps74
      go_wp2
      go_ret
      exact ⟨ret_bool hE.out.symm, hb0⟩
  · have hE : Hid (nmX (.mk k n m xs) = false) := show _ = _ by simp [nmX, hk]
    have hk' : (k == 1) = false := beq_eq_false_iff_ne.2 hk
    clear hk
    go_enter Try.func74, Try.ntmps74
    go_wp2
    go_ret
    exact ⟨ret_bool hE.out.symm, hb0⟩
def CTermC (W0 : World) (x : Ex) : Prop := ∀ (w : World) (ev : Value) (cb : Nat) (v : Value) (q : Nat) (l : List ByteArray) (oth : Nat), Xv W0 x ev → szX x → Below W0.heap.size W0 w → Cs w W0.heap.size cb v q l oth → l.length + prtX x ≤ 100000 → oth + prtX x ≤ 100000 →
    Calls Try.prog 47 #[.pointer (some ⟨cb, 0, none⟩), ev] w fun e w' => e = .returned (.tuple #[]) ∧ CsU w w' W0.heap.size cb q v (namX l x) (oth + othX x)
theorem CsU.below {w w' : World} {B cb q : Nat} {v : Value} {l l' : List ByteArray} {oth oth' : Nat} (h : Cs w B cb v q l oth) (hu : CsU w w' B cb q v l' oth') {W0 : World} (hB : W0.heap.size = B) (hb : Below B W0 w) : Below B W0 w' := by
  obtain ⟨v', _, hm, _⟩ := hu
  refine hb.trans (hm.below (fun k hk => (h.lt hk).1) ?_)
  rw [← hB] at hb ⊢
  exact hb.size
end Go.Proofs.Ytncileojdighnaa

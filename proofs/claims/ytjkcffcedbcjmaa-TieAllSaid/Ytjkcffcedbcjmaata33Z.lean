/- What is not large is small; whether a variable of a name stands in a term: plain data. -/
import Derived.BigQuiet
import Derived.Laws.StructEq
import Derived.Test.Ytjkcffcedbcjmaata31Z
import Derived.Test.Ytjkcffcedbcjmaata26Z
import Derived.Test.Ytjkcffcedbcjmaata06Z
import Derived.Test.Ytjkcffcedbcjmaata05Z
import Derived.Test.Ytjkcffcedbcjmaata00Z
namespace Go.Proofs.Ytjkcffcedbcjmaa
set_option maxRecDepth 100000
open Go.RowKit
theorem prt_len8 : ∀ xs : List Ex, xs.length ≤ prtXs xs
  | [] => by simp
  | x :: t => by
    have h1 := prt_len8 t
    have h2 := prtX_pos x
    rw [prtXs, List.length_cons]
    omega
theorem prt_mem8 : ∀ (xs : List Ex) (x : Ex), x ∈ xs → prtX x ≤ prtXs xs
  | y :: t, x, h => by
    rw [prtXs]
    rcases List.mem_cons.1 h with rfl | h
    · omega
    · have := prt_mem8 t x h
      omega
theorem prtQ_few : ∀ (qs : List (ByteArray × Ex)) (r : Int), 0 ≤ fewQs qs r → (prtQ qs : Int) + fewQs qs r ≤ r + qs.length
  | [], r, h => by rw [fewQs, prtQ]; simp
  | q :: t, r, h => by
    rw [fewQs] at h ⊢
    split at h
    · omega
    · rename_i hl
      rw [if_neg hl]
      have h2 := prtQ_few t _ h
      by_cases hf : fewX q.2 r < 0
      · rw [fewQs_neg hf] at h
        omega
      · have h1 := fewX_prt q.2 r (by omega)
        rw [prtQ, List.length_cons]
        omega
theorem large_small {xs : List Ex} {qs : List (ByteArray × Ex)} (h : largeT xs qs = false) : xs.length ≤ 100 ∧ qs.length ≤ 100 ∧ prtXs xs + prtQ qs ≤ 350 := by
  unfold largeT at h
  simp only [Bool.or_eq_false_iff, decide_eq_false_iff_not] at h
  obtain ⟨h1, h2, h3⟩ := h
  have h4 := prtQ_few qs (fewXs xs 250) (by omega)
  by_cases hf : fewXs xs 250 < 0
  · rw [fewQs_neg hf] at h3
    omega
  · have h5 := fewXs_prt xs 250 (by omega)
    exact ⟨by omega, by omega, by omega⟩
end Go.Proofs.Ytjkcffcedbcjmaa

namespace Go.Proofs.Ytjkcffcedbcjmaa
set_option maxRecDepth 100000
open Go.RowKit Go.Maps
def Rsn (w : World) (v : Value) (l : List ByteArray) : Prop := ∃ ao c, v = .slice ao l.length c ∧ ∀ j, j < l.length → ∃ b o, ao = some ⟨b, o, none⟩ ∧ w.cell? ⟨b, o + j, none⟩ = some (.string (l.getD j ⟨#[]⟩))
theorem Rsn.next {w w' : World} {v : Value} {l : List ByteArray} (h : Rsn w v l) (hb : Below w.heap.size w w') : Rsn w' v l := by
  obtain ⟨ao, c, rfl, h⟩ := h
  refine ⟨ao, c, rfl, fun j hj => ?_⟩
  obtain ⟨b, o, e, c0⟩ := h j hj
  exact ⟨b, o, e, ((bcell hb).1 b _ (lt_of_cell c0)).trans c0⟩
theorem Rsn.own {w : World} {B : Nat} {v : Value} {l : List ByteArray} (h : w.ownsRow B 9 1 v l.length (l.map Value.string)) : Rsn w v l := by
  rcases h.2 with ⟨e, h0⟩ | ⟨g, c, cur, e, _⟩
  · exact ⟨none, 0, by rw [e, h0], fun j hj => by omega⟩
  · subst e
    refine ⟨_, c, rfl, fun j hj => ⟨g, 0, rfl, ?_⟩⟩
    rw [Nat.zero_add, h.cellAt j (by omega)]
    simp [List.getD, hj]
def findI (l : List ByteArray) (s : ByteArray) : Int := if inN l s = true then (ixN l s : Int) else -1
theorem ixN_first : ∀ {l : List ByteArray} {s : ByteArray} {j : Nat}, j < l.length → (∀ i, i < j → l.getD i ⟨#[]⟩ ≠ s) → l.getD j ⟨#[]⟩ = s → ixN l s = j
  | x :: r, s, 0, _, _, h => by
    rw [ixN, if_pos (by simpa using h)]
  | x :: r, s, j + 1, hj, hn, h => by
    have h0 := hn 0 (by omega)
    rw [ixN, if_neg (by simpa using h0), ixN_first (l := r) (j := j) (by simpa using hj) (fun i hi => by have := hn (i + 1) (by omega); simpa using this) (by simpa using h)]
theorem findI_yes {l : List ByteArray} {s : ByteArray} {j : Nat} (hj : j < l.length) (hn : ∀ i, i < j → l.getD i ⟨#[]⟩ ≠ s) (h : l.getD j ⟨#[]⟩ = s) : findI l s = (j : Int) := by
  unfold findI
  rw [if_pos (inN_iff.2 (by rw [← h]; simp [List.getD, hj])), ixN_first hj hn h]
theorem findI_no {l : List ByteArray} {s : ByteArray} (hn : ∀ i, i < l.length → l.getD i ⟨#[]⟩ ≠ s) : findI l s = -1 := by
  unfold findI
  rw [if_neg (fun h => by
    obtain ⟨i, hi, e⟩ := List.getElem_of_mem (inN_iff.1 h)
    exact hn i hi (by simp [List.getD, hi, e]))]
theorem ne_list {a b : ByteArray} (h : ¬ a = b) : (a.toList == b.toList) = false := by
  have h1 : ¬ a.toList = b.toList := fun e => h (by
    rw [ByteArray.toList_eq, ByteArray.toList_eq] at e
    refine ByteArray.ext ?_
    have h2 := congrArg List.toArray e
    simpa using h2)
  simpa using h1
set_option maxHeartbeats 2000000 in
theorem rfind_any {W : World} {v : Value} {l : List ByteArray} (hv : Rsn W v l) (hl : l.length ≤ 100000) (s : ByteArray) :
    Calls Try.prog 35 #[v, .string s] W fun e w' => e = .returned (.int .i64 (findI l s)) ∧ Below W.heap.size W w' := by
  obtain ⟨ao, c, rfl, hc⟩ := hv
  have HC := hid hc
  clear hc
  go_enter Try.func35, Try.ntmps35
  go_wp2
  go_loopw [5] (fun i wr => ∃ j : Nat, j ≤ l.length ∧ i = .int .i64 (j : Int) ∧ Hid (∀ i, i < j → l.getD i ⟨#[]⟩ ≠ s) ∧ Hid (Below W.heap.size W wr)) (fun i _ => l.length - (intOf i).toNat)
  case atStart => exact ⟨0, Nat.zero_le _, rfl, fun i hi => absurd hi (Nat.not_lt_zero _), Below.refl _ _⟩
  case round =>
    obtain ⟨j, hj, rfl, hn, hB⟩ := hrel
    by_cases hlt : j < l.length
    · obtain ⟨b, o, rfl, c0⟩ := HC.out j hlt
      replace c0 := ((bcell hB.out).1 b _ (lt_of_cell c0)).trans c0
      by_cases hs : l.getD j ⟨#[]⟩ = s
      · have hf := hid (findI_yes hlt hn.out hs)
        rw [hs] at c0
        clear hs hn
        go_wp2
        go_ret
        exact ⟨ret_int hf.out.symm, hB.out⟩
      · have hn' : Hid (∀ i, i < j + 1 → l.getD i ⟨#[]⟩ ≠ s) := fun i hi => by
          by_cases e : i < j
          · exact hn.out i e
          · obtain rfl : i = j := by omega
            exact hs
        generalize l.getD j ⟨#[]⟩ = t at c0 hs
        have hs2 := ne_list hs
        go_wp2
        go_roundw
        case rel => exact ⟨j + 1, by omega, by go_num, hn', hB⟩
        case measure => simp [intOf]; omega
    · obtain rfl : j = l.length := by omega
      have hf := hid (findI_no hn.out)
      go_wp2
      go_ret
      exact ⟨ret_int hf.out.symm, hB.out⟩
def PaC (x : Ex) : Prop := ∀ (w : World) (v : Value), Xv w x v → prtX x ≤ 100000 → Calls Try.prog 60 #[v] w fun e w' => e = .returned (.int .i64 (othX x : Int)) ∧ Below w.heap.size w w'
theorem othXs_snoc : ∀ (xs : List Ex) (j : Nat), j < xs.length → othXs (xs.take (j + 1)) = othXs (xs.take j) + othX (xs.getD j x0)
  | x :: r, 0, _ => by simp [othXs]
  | x :: r, j + 1, h => by
    have := othXs_snoc r j (by simpa using h)
    simp only [List.take_succ_cons, othXs] at this ⊢
    rw [this]
    simp [List.getD]
    omega
theorem othXs_take : ∀ (xs : List Ex) (j : Nat), othXs (xs.take j) ≤ othXs xs
  | [], j => by simp
  | x :: r, 0 => by simp [othXs]
  | x :: r, j + 1 => by
    have := othXs_take r j
    simp only [List.take_succ_cons, othXs]
    omega
set_option maxHeartbeats 4000000 in
theorem rparts_a {k : Int} {n : ByteArray} {m : Int} {xs : List Ex} (ih : ∀ x ∈ xs, PaC x) (w : World) (ao : Option Addr) (c : Nat) (hAt0 : ∀ j, j < xs.length → XAt w ao (xs.getD j x0) j) (hp : prtXs xs ≤ 100000) (b0 : Nat) (hb0 : b0 = if (decide (k = 1) && !isU n) = true then 0 else 1) :
    Calls Try.prog 60 #[.agg #[.int .i64 k, .string n, .int .i64 m, .slice ao xs.length c]] w fun e w' => e = .returned (.int .i64 ((b0 + othXs xs : Nat) : Int)) ∧ Below w.heap.size w w' := by
  have hAt := hid hAt0
  have IH := hid ih
  have hln : xs.length ≤ 100000 := by have := prt_len8 xs; omega
  have hpc : Hid (∀ x ∈ xs, prtX x ≤ 100000) := fun x hx => by have := prt_mem8 xs x hx; omega
  have hS := hid (othXs_snoc xs)
  have hT := hid (othXs_take xs)
  have hle := othXs_le xs
  have hbx := heap_alloc_new w (.cells #[.int .i64 k, .string n, .int .i64 m, .slice ao xs.length c] 48)
  have HB := hid (below_alloc w (.cells #[.int .i64 k, .string n, .int .i64 m, .slice ao xs.length c] 48))
  have HX := hid hbx
  obtain ⟨⟨e0, e1, e2, e3⟩, _⟩ := blk4 hbx
  clear hAt0 ih hbx
  by_cases hk : k = 1
  · subst hk
    by_cases hu : n.toList = [95]
    · have hb : b0 = 1 := by rw [hb0, if_neg (by simp [isU, hu])]
      subst hb
      have hu2 : (n.toList == [95]) = true := by simp [hu]
      clear hb0
      go_enter Try.func60, Try.ntmps60
      go_wp2
      go_loopw [3, 4] (fun x i wr => ∃ j : Nat, j ≤ xs.length ∧ i = .int .i64 (j : Int) ∧ x = .int .i64 ((1 + othXs (xs.take j) : Nat) : Int) ∧ Hid (Below w.heap.size w wr ∧ wr.heap[w.heap.size]? = some (.cells #[.int .i64 1, .string n, .int .i64 m, .slice ao xs.length c] 48))) (fun _ i _ => xs.length - (intOf i).toNat)
      case atStart => exact ⟨0, Nat.zero_le _, rfl, by simp [othXs], HB.out, HX.out⟩
      case round =>
        clear HB HX
        obtain ⟨j, hj, rfl, rfl, hB⟩ := hrel
        obtain ⟨⟨e0, e1, e2, e3⟩, _⟩ := blk4 hB.out.2
        by_cases hlt : j < xs.length
        · obtain ⟨b, o, k', n', m', aa, al, ac, rfl, d0, d1, d2, d3, hx⟩ := hAt.out j hlt
          have hbr := hB.out.1
          have hz := lt_of_cell d0
          have c0 := ((bcell hbr).1 b _ hz).trans d0
          have c1 := ((bcell hbr).1 b _ hz).trans d1
          have c2 := ((bcell hbr).1 b _ hz).trans d2
          have c3 := ((bcell hbr).1 b _ hz).trans d3
          have hcall := IH.out _ (xs_at hlt) _ _ (hx.next hbr) (hpc.out _ (xs_at hlt))
          have hst := hS.out j hlt
          have ht1 := hT.out j
          have ht2 := hT.out (j + 1)
          generalize othX (xs.getD j x0) = q at hcall hst
          rw [hst] at ht2
          generalize othXs (xs.take j) = u at *
          have HST := hid hst
          clear hst
          have hnx : Hid (∀ w3, Below wr.heap.size wr w3 → Hid (Below w.heap.size w w3 ∧ w3.heap[w.heap.size]? = some (.cells #[.int .i64 1, .string n, .int .i64 m, .slice (some ⟨b, o, none⟩) xs.length c] 48))) := fun w3 hb3 => ⟨Below.next hbr hb3, (hb3.block _ (lt_of_block hB.out.2)).trans hB.out.2⟩
          clear hx d0 d1 d2 d3 hz hB hbr
          go_wp2_with (go_at_call 60; refine hcall.mono ?_; clear hcall; rintro e w3 ⟨rfl, hb3⟩; have hN := hnx.out w3 hb3)
          go_roundw
          case rel => exact ⟨j + 1, by omega, by go_num, by rw [HST.out]; go_num, hN⟩
          case measure => simp [intOf]; omega
        · obtain rfl : j = xs.length := by omega
          rw [List.take_length]
          have hbr := hB.out.1
          go_wp2
          go_ret
          exact ⟨rfl, hbr⟩
    · have hb : b0 = 0 := by rw [hb0, if_pos (by simp [isU, hu])]
      subst hb
      have hu2 : (n.toList == [95]) = false := by simp [hu]
      clear hb0
      go_enter Try.func60, Try.ntmps60
      go_wp2
      go_loopw [3, 4] (fun x i wr => ∃ j : Nat, j ≤ xs.length ∧ i = .int .i64 (j : Int) ∧ x = .int .i64 ((0 + othXs (xs.take j) : Nat) : Int) ∧ Hid (Below w.heap.size w wr ∧ wr.heap[w.heap.size]? = some (.cells #[.int .i64 1, .string n, .int .i64 m, .slice ao xs.length c] 48))) (fun _ i _ => xs.length - (intOf i).toNat)
      case atStart => exact ⟨0, Nat.zero_le _, rfl, by simp [othXs], HB.out, HX.out⟩
      case round =>
        clear HB HX
        obtain ⟨j, hj, rfl, rfl, hB⟩ := hrel
        obtain ⟨⟨e0, e1, e2, e3⟩, _⟩ := blk4 hB.out.2
        by_cases hlt : j < xs.length
        · obtain ⟨b, o, k', n', m', aa, al, ac, rfl, d0, d1, d2, d3, hx⟩ := hAt.out j hlt
          have hbr := hB.out.1
          have hz := lt_of_cell d0
          have c0 := ((bcell hbr).1 b _ hz).trans d0
          have c1 := ((bcell hbr).1 b _ hz).trans d1
          have c2 := ((bcell hbr).1 b _ hz).trans d2
          have c3 := ((bcell hbr).1 b _ hz).trans d3
          have hcall := IH.out _ (xs_at hlt) _ _ (hx.next hbr) (hpc.out _ (xs_at hlt))
          have hst := hS.out j hlt
          have ht1 := hT.out j
          have ht2 := hT.out (j + 1)
          generalize othX (xs.getD j x0) = q at hcall hst
          rw [hst] at ht2
          generalize othXs (xs.take j) = u at *
          have HST := hid hst
          clear hst
          have hnx : Hid (∀ w3, Below wr.heap.size wr w3 → Hid (Below w.heap.size w w3 ∧ w3.heap[w.heap.size]? = some (.cells #[.int .i64 1, .string n, .int .i64 m, .slice (some ⟨b, o, none⟩) xs.length c] 48))) := fun w3 hb3 => ⟨Below.next hbr hb3, (hb3.block _ (lt_of_block hB.out.2)).trans hB.out.2⟩
          clear hx d0 d1 d2 d3 hz hB hbr
          go_wp2_with (go_at_call 60; refine hcall.mono ?_; clear hcall; rintro e w3 ⟨rfl, hb3⟩; have hN := hnx.out w3 hb3)
          go_roundw
          case rel => exact ⟨j + 1, by omega, by go_num, by rw [HST.out]; go_num, hN⟩
          case measure => simp [intOf]; omega
        · obtain rfl : j = xs.length := by omega
          rw [List.take_length]
          have hbr := hB.out.1
          go_wp2
          go_ret
          exact ⟨rfl, hbr⟩
  · have hb : b0 = 1 := by rw [hb0, if_neg (by simp [hk])]
    subst hb
    clear hb0
    go_enter Try.func60, Try.ntmps60
    go_wp2
    go_loopw [3, 4] (fun x i wr => ∃ j : Nat, j ≤ xs.length ∧ i = .int .i64 (j : Int) ∧ x = .int .i64 ((1 + othXs (xs.take j) : Nat) : Int) ∧ Hid (Below w.heap.size w wr ∧ wr.heap[w.heap.size]? = some (.cells #[.int .i64 k, .string n, .int .i64 m, .slice ao xs.length c] 48))) (fun _ i _ => xs.length - (intOf i).toNat)
    case atStart => exact ⟨0, Nat.zero_le _, rfl, by simp [othXs], HB.out, HX.out⟩
    case round =>
      clear HB HX
      obtain ⟨j, hj, rfl, rfl, hB⟩ := hrel
      obtain ⟨⟨e0, e1, e2, e3⟩, _⟩ := blk4 hB.out.2
      by_cases hlt : j < xs.length
      · obtain ⟨b, o, k', n', m', aa, al, ac, rfl, d0, d1, d2, d3, hx⟩ := hAt.out j hlt
        have hbr := hB.out.1
        have hz := lt_of_cell d0
        have c0 := ((bcell hbr).1 b _ hz).trans d0
        have c1 := ((bcell hbr).1 b _ hz).trans d1
        have c2 := ((bcell hbr).1 b _ hz).trans d2
        have c3 := ((bcell hbr).1 b _ hz).trans d3
        have hcall := IH.out _ (xs_at hlt) _ _ (hx.next hbr) (hpc.out _ (xs_at hlt))
        have hst := hS.out j hlt
        have ht1 := hT.out j
        have ht2 := hT.out (j + 1)
        generalize othX (xs.getD j x0) = q at hcall hst
        rw [hst] at ht2
        generalize othXs (xs.take j) = u at *
        have HST := hid hst
        clear hst
        have hnx : Hid (∀ w3, Below wr.heap.size wr w3 → Hid (Below w.heap.size w w3 ∧ w3.heap[w.heap.size]? = some (.cells #[.int .i64 k, .string n, .int .i64 m, .slice (some ⟨b, o, none⟩) xs.length c] 48))) := fun w3 hb3 => ⟨Below.next hbr hb3, (hb3.block _ (lt_of_block hB.out.2)).trans hB.out.2⟩
        clear hx d0 d1 d2 d3 hz hB hbr
        go_wp2_with (go_at_call 60; refine hcall.mono ?_; clear hcall; rintro e w3 ⟨rfl, hb3⟩; have hN := hnx.out w3 hb3)
        go_roundw
        case rel => exact ⟨j + 1, by omega, by go_num, by rw [HST.out]; go_num, hN⟩
        case measure => simp [intOf]; omega
      · obtain rfl : j = xs.length := by omega
        rw [List.take_length]
        have hbr := hB.out.1
        go_wp2
        go_ret
        exact ⟨rfl, hbr⟩
theorem rparts_any : ∀ x : Ex, PaC x := by
  intro x
  induction x using Ex.ind with
  | h k n m xs ih =>
    intro w v hv hp
    obtain ⟨av, rfl, ao, c, rfl, hat⟩ := hv.parts
    rw [othX]
    exact rparts_a ih w ao c hat (by rw [prtX] at hp; omega) _ rfl
end Go.Proofs.Ytjkcffcedbcjmaa

namespace Go.Proofs.Ytjkcffcedbcjmaa
set_option maxRecDepth 100000
open Go.RowKit
theorem nm_neq (s : ByteArray) (i : Int) (w : World) : (binOp .neq 56 (.agg #[.string s, .int .i64 i]) (.agg #[.string s, .int .i64 i])).run Try.prog w = .ok (.bool false) w := by
  have u3 := Try.underlying3
  have a3 := Try.isAgg3
  have z3 := Try.sizeOf3
  have u9 := Try.underlying9
  have a9 := Try.isAgg9
  have z9 := Try.sizeOf9
  rw [run_neq_struct, show (10000 : Nat) = 9999 + 1 from rfl, run_equalIn_struct w 9999 56 _ _ (by kernel_rfl) (by kernel_rfl)]
  simp only [Program.fieldsOf, Try.underlying56]
  go_simp
abbrev nm0 : ByteArray × Int := (⟨#[]⟩, 0)
def Rnm (w : World) (v : Value) (l : List (ByteArray × Int)) : Prop :=
  ∃ ao c, v = .slice ao l.length c ∧ ∀ j, j < l.length → ∃ b o, ao = some ⟨b, o, none⟩ ∧ w.cell? ⟨b, o + j * 2, none⟩ = some (.string (l.getD j nm0).1) ∧ w.cell? ⟨b, o + j * 2 + 1, none⟩ = some (.int .i64 (l.getD j nm0).2)
set_option maxHeartbeats 2000000 in
theorem tsame_yes {W : World} {u v : Value} {l : List (ByteArray × Int)} (hu : Rnm W u l) (hv : Rnm W v l) (hl : l.length ≤ 100000) :
    Calls Try.prog 13 #[u, v] W fun e w' => e = .returned (.bool true) ∧ Below W.heap.size W w' := by
  obtain ⟨ua, uc, rfl, hu⟩ := hu
  obtain ⟨va, vc, rfl, hv⟩ := hv
  have HU := hid hu
  have HV := hid hv
  clear hu hv
  go_enter Try.func13, Try.ntmps13
  go_wp2
  go_loopw [13] (fun i wr => ∃ k : Nat, k ≤ l.length ∧ i = .int .i64 k ∧ Hid (Below W.heap.size W wr)) (fun i _ => l.length - (intOf i).toNat)
  case atStart => exact ⟨0, Nat.zero_le _, rfl, Below.refl _ _⟩
  case round =>
    obtain ⟨k, hk, rfl, hb⟩ := hrel
    by_cases hlt : k < l.length
    · obtain ⟨ub, uo, rfl, e0, e1⟩ := HU.out k hlt
      obtain ⟨vb, vo, rfl, g0, g1⟩ := HV.out k hlt
      have du0 := ((bcell hb.out).1 ub _ (lt_of_cell e0)).trans e0
      have du1 := ((bcell hb.out).1 ub _ (lt_of_cell e0)).trans e1
      have dv0 := ((bcell hb.out).1 vb _ (lt_of_cell g0)).trans g0
      have dv1 := ((bcell hb.out).1 vb _ (lt_of_cell g0)).trans g1
      have hne := nm_neq (l.getD k nm0).1 (l.getD k nm0).2
      clear e0 e1 g0 g1
      generalize (l.getD k nm0).1 = s at du0 dv0 hne
      generalize (l.getD k nm0).2 = i at du1 dv1 hne
      go_wp2
      go_quiet (fail)
      go_wp2
      go_roundw
      case rel => exact ⟨k + 1, by omega, congrArg (Value.int .i64) (by omega), below_drewN hb.out _⟩
      case measure => simp [intOf]; omega
    · go_wp2
      go_ret
      exact ⟨rfl, hb.out⟩
end Go.Proofs.Ytjkcffcedbcjmaa

namespace Go.Proofs.Ytjkcffcedbcjmaa
set_option maxRecDepth 100000
open Go.RowKit Go.Maps
theorem goodXs_snoc (nest : Nat) : ∀ (xs : List Ex) (j : Nat), j < xs.length → goodXs nest (xs.take (j + 1)) = (goodXs nest (xs.take j) && goodX nest (xs.getD j x0))
  | x :: r, 0, _ => by simp [goodXs]
  | x :: r, j + 1, h => by
    have := goodXs_snoc nest r j (by simpa using h)
    have e : (x :: r).getD (j + 1) x0 = r.getD j x0 := by simp [List.getD]
    rw [e]
    simp only [List.take_succ_cons, goodXs]
    rw [this, Bool.and_assoc]
theorem goodXs_not (nest : Nat) : ∀ (xs : List Ex) (j : Nat), j < xs.length → goodX nest (xs.getD j x0) = false → goodXs nest xs = false
  | x :: r, 0, _, h => by
    have h' : goodX nest x = false := by simpa using h
    rw [goodXs, h', Bool.false_and]
  | x :: r, j + 1, hj, h => by
    have e : (x :: r).getD (j + 1) x0 = r.getD j x0 := by simp [List.getD]
    rw [e] at h
    rw [goodXs, goodXs_not nest r j (by simpa using hj) h, Bool.and_false]
def RgC (x : Ex) : Prop := ∀ (w : World) (v : Value) (nest : Nat), Xv w x v → szX x → prtX x ≤ 100000 → nest ≤ 100000 → Calls Try.prog 76 #[v, .int .i64 (nest : Int)] w fun e w' => e = .returned (.bool (goodX nest x)) ∧ Below w.heap.size w w'
set_option maxHeartbeats 8000000 in
theorem rgoodX_a {k : Int} {n : ByteArray} {m : Int} {xs : List Ex} (ih : ∀ x ∈ xs, RgC x) (w : World) (nest : Nat) (ao : Option Addr) (c : Nat) (hAt0 : ∀ j, j < xs.length → XAt w ao (xs.getD j x0) j) (hns : n.size ≤ 281474976710656) (hzs : szXs xs) (hp : prtXs xs ≤ 100000) (hnest : nest ≤ 100000) :
    Calls Try.prog 76 #[.agg #[.int .i64 k, .string n, .int .i64 m, .slice ao xs.length c], .int .i64 (nest : Int)] w fun e w' => e = .returned (.bool (goodX nest (.mk k n m xs))) ∧ Below w.heap.size w w' := by
  have hAt := hid hAt0
  have IH := hid ih
  have hln : xs.length ≤ 100000 := by have := prt_len8 xs; omega
  have hpc : Hid (∀ x ∈ xs, prtX x ≤ 100000) := fun x hx => by have := prt_mem8 xs x hx; omega
  have hsz : Hid (∀ x ∈ xs, szX x) := szXs_mem hzs
  have hbx := heap_alloc_new w (.cells #[.int .i64 k, .string n, .int .i64 m, .slice ao xs.length c] 48)
  have HB := hid (below_alloc w (.cells #[.int .i64 k, .string n, .int .i64 m, .slice ao xs.length c] 48))
  have HX := hid hbx
  obtain ⟨⟨e0, e1, e2, e3⟩, _⟩ := blk4 hbx
  clear hAt0 ih hbx hzs hp
  by_cases hn : 4096 < nest
  · have hg : goodX nest (.mk k n m xs) = false := by
      rw [goodX, if_pos hn]
    have hn' : (4096 : Int) < (nest : Int) := by omega
    replace hg := hid hg
    try clear hG
    go_enter Try.func76, Try.ntmps76
    go_wp2
    go_ret
    exact ⟨ret_bool hg.out.symm, HB.out⟩
  have hn' : ¬ (4096 : Int) < (nest : Int) := by omega
  by_cases hk : k = 4
  · subst hk
    have hG : goodX nest (.mk 4 n m xs) = (goodS n && (decide (m = 0) && (decide (1 ≤ xs.length) && (decide (xs.length ≤ 8) && goodXs (nest + 1) xs)))) := by
      rw [goodX, if_neg hn]
      simp
    by_cases h1 : xs.length < 1
    · have hg : goodX nest (.mk 4 n m xs) = false := by rw [hG, decide_eq_false (show ¬ 1 ≤ xs.length by omega)]; simp
      have h1' : (xs.length : Int) < 1 := by omega
      replace hg := hid hg
      try clear hG
      go_enter Try.func76, Try.ntmps76
      go_wp2
      go_ret
      exact ⟨ret_bool hg.out.symm, HB.out⟩
    have h1' : ¬ (xs.length : Int) < 1 := by omega
    by_cases h2 : 8 < xs.length
    · have hg : goodX nest (.mk 4 n m xs) = false := by rw [hG, decide_eq_false (show ¬ xs.length ≤ 8 by omega)]; simp
      have h2' : (8 : Int) < (xs.length : Int) := by omega
      replace hg := hid hg
      try clear hG
      go_enter Try.func76, Try.ntmps76
      go_wp2
      go_ret
      exact ⟨ret_bool hg.out.symm, HB.out⟩
    have h2' : ¬ (8 : Int) < (xs.length : Int) := by omega
    by_cases hm : m = 0
    · subst hm
      cases hs : goodS n with
      | false =>
        have hg : goodX nest (.mk 4 n 0 xs) = false := by rw [hG, hs]; simp
        have hrg := fun w => rgood_any n w (by omega)
        rw [hs] at hrg
        replace hg := hid hg
        try clear hG
        go_enter Try.func76, Try.ntmps76
        go_wp2_with (go_at_call 97; refine (hrg _).mono ?_; rintro e w2 ⟨rfl, rfl⟩)
        go_ret
        exact ⟨ret_bool hg.out.symm, HB.out⟩
      | true =>
        have hg := hid (show goodX nest (.mk 4 n 0 xs) = goodXs (nest + 1) xs by rw [hG, hs, decide_eq_true (show 1 ≤ xs.length by omega), decide_eq_true (show xs.length ≤ 8 by omega)]; simp)
        have hrg := fun w => rgood_any n w (by omega)
        rw [hs] at hrg
        have hS := hid (goodXs_snoc (nest + 1) xs)
        have hF := hid (goodXs_not (nest + 1) xs)
        clear hG
        go_enter Try.func76, Try.ntmps76
        go_wp2_with (go_at_call 97; refine (hrg _).mono ?_; rintro e w2 ⟨rfl, rfl⟩)
        go_loopw [5] (fun i wr => ∃ j : Nat, j ≤ xs.length ∧ i = .int .i64 (j : Int) ∧ Hid (goodXs (nest + 1) (xs.take j) = true) ∧ Hid (Below w.heap.size w wr ∧ wr.heap[w.heap.size]? = some (.cells #[.int .i64 4, .string n, .int .i64 0, .slice ao xs.length c] 48))) (fun i _ => xs.length - (intOf i).toNat)
        case atStart => exact ⟨0, Nat.zero_le _, rfl, (by simp [goodXs] : goodXs (nest + 1) (xs.take 0) = true), HB.out, HX.out⟩
        case round =>
          clear HB HX
          obtain ⟨j, hj, rfl, hy, hB⟩ := hrel
          obtain ⟨⟨e0, e1, e2, e3⟩, _⟩ := blk4 hB.out.2
          by_cases hlt : j < xs.length
          · obtain ⟨b, o, k', n', m', aa, al, ac, rfl, d0, d1, d2, d3, hx⟩ := hAt.out j hlt
            have hbr := hB.out.1
            have hz := lt_of_cell d0
            have c0 := ((bcell hbr).1 b _ hz).trans d0
            have c1 := ((bcell hbr).1 b _ hz).trans d1
            have c2 := ((bcell hbr).1 b _ hz).trans d2
            have c3 := ((bcell hbr).1 b _ hz).trans d3
            have hcall := IH.out _ (xs_at hlt) _ _ (nest + 1) (hx.next hbr) (hsz.out _ (xs_at hlt)) (hpc.out _ (xs_at hlt)) (by omega)
            rw [show ((nest + 1 : Nat) : Int) = (nest : Int) + 1 by omega] at hcall
            have hbq := hid hbr
            cases hq : goodX (nest + 1) (xs.getD j x0) with
            | false =>
              rw [hq] at hcall
              have hg2 := hid (show goodX nest (.mk 4 n 0 xs) = false by rw [hg.out]; exact hF.out j hlt hq)
              clear hx d0 d1 d2 d3 hz hB hbr hq hy
              go_wp2_with (go_at_call 76; refine hcall.mono ?_; clear hcall; rintro e w3 ⟨rfl, hb3⟩)
              go_ret
              exact ⟨ret_bool hg2.out.symm, Below.next hbq.out hb3⟩
            | true =>
              rw [hq] at hcall
              have hy2 : Hid (goodXs (nest + 1) (xs.take (j + 1)) = true) := show _ = _ by rw [hS.out j hlt, hy.out, hq]; rfl
              have hnx : Hid (∀ w3, Below wr.heap.size wr w3 → Hid (Below w.heap.size w w3 ∧ w3.heap[w.heap.size]? = some (.cells #[.int .i64 4, .string n, .int .i64 0, .slice (some ⟨b, o, none⟩) xs.length c] 48))) := fun w3 hb3 => ⟨Below.next hbr hb3, (hb3.block _ (lt_of_block hB.out.2)).trans hB.out.2⟩
              clear hx d0 d1 d2 d3 hz hB hbr hq hy
              go_wp2_with (go_at_call 76; refine hcall.mono ?_; clear hcall; rintro e w3 ⟨rfl, hb3⟩; have hN := hnx.out w3 hb3)
              go_roundw
              case rel => exact ⟨j + 1, by omega, by go_num, hy2, hN⟩
              case measure => simp [intOf]; omega
          · obtain rfl : j = xs.length := by omega
            have hbr := hB.out.1
            have hg2 : goodX nest (.mk 4 n 0 xs) = true := by
              have := hy.out
              rw [List.take_length] at this
              rw [hg.out]
              exact this
            go_wp2
            go_ret
            exact ⟨ret_bool hg2.symm, hbr⟩
    · have hg : goodX nest (.mk 4 n m xs) = false := by rw [hG, decide_eq_false hm]; simp
      replace hg := hid hg
      try clear hG
      go_enter Try.func76, Try.ntmps76
      go_wp2
      go_ret
      exact ⟨ret_bool hg.out.symm, HB.out⟩
  by_cases hx0 : 0 < xs.length
  · have hg : goodX nest (.mk k n m xs) = false := by
      have h0 : ¬ xs.length = 0 := by omega
      rw [goodX, if_neg hn]
      simp only [decide_eq_false h0, Bool.and_false, if_neg hk]
      split
      · rfl
      · split
        · rfl
        · split <;> rfl
    have hx0' : (0 : Int) < (xs.length : Int) := by omega
    replace hg := hid hg
    try clear hG
    go_enter Try.func76, Try.ntmps76
    go_wp2
    go_ret
    exact ⟨ret_bool hg.out.symm, HB.out⟩
  obtain rfl : xs = [] := List.length_eq_zero_iff.1 (by omega)
  by_cases hk1 : k = 1
  · subst hk1
    have hG : goodX nest (.mk 1 n m []) = (isW n 4 && decide (m = 0)) := by rw [goodX, if_neg hn]; simp
    by_cases hm : m = 0
    · subst hm
      have hg : goodX nest (.mk 1 n 0 []) = isW n 4 := by rw [hG]; simp
      replace hg := hid hg
      try clear hG
      go_enter Try.func76, Try.ntmps76
      go_wp2_with (first
        | (go_at_call 61; refine (risVar_big n _ (by omega)).mono ?_; rintro e w2 ⟨rfl, rfl⟩)
        | (go_at_call 97; refine (rgood_any n _ (by omega)).mono ?_; rintro e w2 ⟨rfl, rfl⟩))
      go_ret
      exact ⟨ret_bool hg.out.symm, HB.out⟩
    · have hg : goodX nest (.mk 1 n m []) = false := by rw [hG, decide_eq_false hm]; simp
      replace hg := hid hg
      try clear hG
      go_enter Try.func76, Try.ntmps76
      go_wp2
      go_ret
      exact ⟨ret_bool hg.out.symm, HB.out⟩
  by_cases hk2 : k = 2
  · subst hk2
    have hG : goodX nest (.mk 2 n m []) = (goodS n && decide (m = 0)) := by rw [goodX, if_neg hn]; simp
    by_cases hm : m = 0
    · subst hm
      have hg : goodX nest (.mk 2 n 0 []) = goodS n := by rw [hG]; simp
      replace hg := hid hg
      try clear hG
      go_enter Try.func76, Try.ntmps76
      go_wp2_with (first
        | (go_at_call 61; refine (risVar_big n _ (by omega)).mono ?_; rintro e w2 ⟨rfl, rfl⟩)
        | (go_at_call 97; refine (rgood_any n _ (by omega)).mono ?_; rintro e w2 ⟨rfl, rfl⟩))
      go_ret
      exact ⟨ret_bool hg.out.symm, HB.out⟩
    · have hg : goodX nest (.mk 2 n m []) = false := by rw [hG, decide_eq_false hm]; simp
      replace hg := hid hg
      try clear hG
      go_enter Try.func76, Try.ntmps76
      go_wp2
      go_ret
      exact ⟨ret_bool hg.out.symm, HB.out⟩
  by_cases hk3 : k = 3
  · subst hk3
    have hG : goodX nest (.mk 3 n m []) = (decide (n.toList = []) && (decide (-1125899906842624 ≤ m) && decide (m ≤ 1125899906842624))) := by rw [goodX, if_neg hn]; simp
    by_cases h1 : n.toList = []
    · have h1' : (n.toList == []) = true := by simp [h1]
      by_cases h2 : m ≤ 1125899906842624
      · by_cases h3 : -1125899906842624 ≤ m
        · have hg : goodX nest (.mk 3 n m []) = true := by rw [hG]; simp [h1, h2, h3]
          replace hg := hid hg
          try clear hG
          go_enter Try.func76, Try.ntmps76
          go_wp2
          go_ret
          exact ⟨ret_bool hg.out.symm, HB.out⟩
        · have hg : goodX nest (.mk 3 n m []) = false := by rw [hG]; simp [h1, h2, h3]
          replace hg := hid hg
          try clear hG
          go_enter Try.func76, Try.ntmps76
          go_wp2
          go_ret
          exact ⟨ret_bool hg.out.symm, HB.out⟩
      · have hg : goodX nest (.mk 3 n m []) = false := by rw [hG]; simp [h1, h2]
        replace hg := hid hg
        try clear hG
        go_enter Try.func76, Try.ntmps76
        go_wp2
        go_ret
        exact ⟨ret_bool hg.out.symm, HB.out⟩
    · have h1' : (n.toList == []) = false := by simp [h1]
      have hg : goodX nest (.mk 3 n m []) = false := by rw [hG]; simp [h1]
      replace hg := hid hg
      try clear hG
      go_enter Try.func76, Try.ntmps76
      go_wp2
      go_ret
      exact ⟨ret_bool hg.out.symm, HB.out⟩
  have hg : goodX nest (.mk k n m []) = false := by rw [goodX, if_neg hn, if_neg hk1, if_neg hk2, if_neg hk3, if_neg hk]
  replace hg := hid hg
  try clear hG
  go_enter Try.func76, Try.ntmps76
  go_wp2
  go_ret
  exact ⟨ret_bool hg.out.symm, HB.out⟩
theorem rgoodX_any : ∀ x : Ex, RgC x := by
  intro x
  induction x using Ex.ind with
  | h k n m xs ih =>
    intro w v nest hv hz hp hn
    obtain ⟨av, rfl, ao, c, rfl, hat⟩ := hv.parts
    exact rgoodX_a ih w nest ao c hat hz.1 hz.2 (by rw [prtX] at hp; omega) hn
end Go.Proofs.Ytjkcffcedbcjmaa

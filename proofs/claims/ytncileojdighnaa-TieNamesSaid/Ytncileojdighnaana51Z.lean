/- turn of tendrillaw08: a term with each name (but _) made another one. -/
import Derived.Test.Ytncileojdighnaana13Z
import Derived.Test.Ytncileojdighnaana49Z
import Derived.Test.Ytncileojdighnaana48Z
import Derived.Test.Ytncileojdighnaana37Z
import Derived.Test.Ytncileojdighnaana08Z
namespace Go.Proofs.Ytncileojdighnaa
set_option maxRecDepth 100000
open Go.RowKit Go.Maps
def qN (s : ByteArray) : ByteArray := (⟨#[81, 95]⟩ : ByteArray) ++ s
theorem qN_toList (s : ByteArray) : (qN s).toList = 81 :: 95 :: s.toList := by
  have h : ∀ t : ByteArray, t.toList = t.data.toList := ByteArray.toList_eq
  rw [h, h]
  simp [qN]
theorem qN_inj (a b : ByteArray) (e : qN a = qN b) : a = b := by
  have h : ∀ t : ByteArray, t.toList = t.data.toList := ByteArray.toList_eq
  have h1 := congrArg ByteArray.toList e
  rw [qN_toList, qN_toList, h, h] at h1
  simp at h1
  exact ByteArray.ext h1
theorem qN_U (s : ByteArray) (_ : isU s = false) : isU (qN s) = false := by
  unfold isU
  rw [qN_toList]
  simp
theorem turnXs_snoc (tN : ByteArray → ByteArray) (xs : List Ex) (j : Nat) (hj : j < xs.length) : turnXs tN (xs.take (j + 1)) = turnXs tN (xs.take j) ++ [turnX tN (xs.getD j x0)] := by
  rw [turnXs_map, turnXs_map, List.take_succ_eq_append_getElem hj, List.map_append]
  simp [List.getD, hj]
theorem turnXs_take_len (tN : ByteArray → ByteArray) (xs : List Ex) (j : Nat) (hj : j ≤ xs.length) : (turnXs tN (xs.take j)).length = j := by
  rw [turnXs_map, List.length_map, List.length_take]
  omega
theorem xo_empty (w : World) (B : Nat) (hB : B ≤ w.heap.size) : Xo B (w.alloc (.cells #[] 48)) (.slice (some ⟨w.heap.size, 0, none⟩) 0 0) [] :=
  ⟨fun _ => [.nilIface, .nilIface, .nilIface, .nilIface], fun _ => rfl, fun _ h => absurd h (Nat.not_lt_zero _), ⟨rfl, Or.inr ⟨w.heap.size, 0, #[], rfl, hB, heap_alloc_new w _, Nat.le_refl _, Nat.zero_le _, rfl, rfl⟩⟩⟩
def TurC (x : Ex) : Prop := ∀ (w : World) (v : Value), Xv w x v → szX x → prtX x ≤ 100000 → Calls Try.prog 15 #[v] w fun e w' => ∃ v', e = .returned v' ∧ Xw (w.heap.size ≤ ·) w' (turnX qN x) v' ∧ Below w.heap.size w w'
set_option maxHeartbeats 4000000 in
theorem turn_a {k : Int} {n : ByteArray} {m : Int} {xs : List Ex} (ih : ∀ x ∈ xs, TurC x) (hk : (k == 1) = false) (w : World) (ao : Option Addr) (c : Nat) (hAt0 : ∀ j, j < xs.length → XAt w ao (xs.getD j x0) j) (hzs : szXs xs) (hp : prtXs xs ≤ 100000) :
    Calls Try.prog 15 #[.agg #[.int .i64 k, .string n, .int .i64 m, .slice ao xs.length c]] w fun e w' => ∃ v', e = .returned v' ∧ Xw (w.heap.size ≤ ·) w' (.mk k n m (turnXs qN xs)) v' ∧ Below w.heap.size w w' := by
  obtain ⟨i4, hi4, hw0, hw1, hw2⟩ := info_parts infoX
  have hAt := hid hAt0
  have IH := hid ih
  have hln : xs.length ≤ 100000 := by have := prt_len8 xs; omega
  have hpc : Hid (∀ x ∈ xs, prtX x ≤ 100000) := fun x hx => by have := prt_mem8 xs x hx; omega
  have hsz : Hid (∀ x ∈ xs, szX x) := szXs_mem hzs
  have hTL := hid (turnXs_take_len qN xs)
  have hTS := hid (turnXs_snoc qN xs)
  clear hAt0 ih hp hzs
  go_enter Try.func15, Try.ntmps15
  go_wp2
  go_loopw [3, 23] (fun x i wr => ∃ (j : Nat) (ro : Option Addr) (rc : Nat), j ≤ xs.length ∧ i = .int .i64 (j : Int) ∧ x = .slice ro j rc ∧ Hid (Xo (w.heap.size + 2) wr (.slice ro j rc) (turnXs qN (xs.take j))) ∧ Hid (Below w.heap.size w wr) ∧ Hid (wr.heap[w.heap.size]? = some (.cells #[.int .i64 k, .string n, .int .i64 m, .slice ao xs.length c] 48)) ∧ Hid (∃ u0 u1 u2 u3, wr.heap[w.heap.size + 1]? = some (.cells #[u0, u1, u2, u3] 48))) (fun _ i _ => xs.length - (intOf i).toNat)
  case atStart =>
    refine ⟨0, _, 0, by omega, rfl, rfl, ?_, ?_, ?_, ?_⟩
    · have e : turnXs qN (xs.take 0) = [] := by rw [List.take_zero, turnXs]
      have h2 := xo_empty ((w.alloc (.cells #[.int .i64 k, .string n, .int .i64 m, .slice ao xs.length c] 48)).alloc (.cells #[.int .i64 0, .string ⟨#[]⟩, .int .i64 0, .slice none 0 0] 48)) (w.heap.size + 2) (by simp)
      show Xo _ _ _ _
      rw [e]
      simpa [qN] using h2
    · exact ((below_alloc w _).alloc (by simp) _).alloc (by simp; omega) _
    · show _ = _
      rw [Below.heap_alloc _ _ _ (by simp; omega), Below.heap_alloc _ _ _ (by simp)]
      exact heap_alloc_new w _
    · refine ⟨.int .i64 0, .string ⟨#[]⟩, .int .i64 0, .slice none 0 0, ?_⟩
      rw [Below.heap_alloc _ _ _ (by simp)]
      have h2 := heap_alloc_new (w.alloc (.cells #[.int .i64 k, .string n, .int .i64 m, .slice ao xs.length c] 48)) (.cells #[.int .i64 0, .string ⟨#[]⟩, .int .i64 0, .slice none 0 0] 48)
      simpa [qN] using h2
  case round =>
    obtain ⟨j, ro, rc, hj, rfl, rfl, hX, hB, hb1, hb2⟩ := hrel
    by_cases hlt : j < xs.length
    · obtain ⟨b, o, k', n', m', aa, al, ac, rfl, d0, d1, d2, d3, hx⟩ := hAt.out j hlt
      have hbr := hB.out
      have hz := lt_of_cell d0
      have c0 := ((bcell hbr).1 b _ hz).trans d0
      have c1 := ((bcell hbr).1 b _ hz).trans d1
      have c2 := ((bcell hbr).1 b _ hz).trans d2
      have c3 := ((bcell hbr).1 b _ hz).trans d3
      have hzr : b < wr.heap.size := Nat.lt_of_lt_of_le hz hbr.size
      have hcall := IH.out _ (xs_at hlt) _ _ ((hx.next hbr).next (below_alloc wr (.cells #[.int .i64 k', .string n', .int .i64 m', .slice aa al ac] 48))) (hsz.out _ (xs_at hlt)) (hpc.out _ (xs_at hlt))
      have hl := hTL.out j hj
      have hts := hTS.out j hlt
      obtain ⟨f, hf, hxc, ho⟩ := hX.out
      rw [hl] at ho
      obtain ⟨u0, u1, u2, u3, hb2'⟩ := hb2.out
      have hs1 := lt_of_block hb2'
      have hnx : Hid (∀ (w3 : World) (k2 : Int) (n2 : ByteArray) (m2 : Int) (a2 : Option Addr) (l2 r2 : Nat), Below (wr.alloc (.cells #[.int .i64 k', .string n', .int .i64 m', .slice aa al ac] 48)).heap.size (wr.alloc (.cells #[.int .i64 k', .string n', .int .i64 m', .slice aa al ac] 48)) w3 → Xw ((wr.alloc (.cells #[.int .i64 k', .string n', .int .i64 m', .slice aa al ac] 48)).heap.size ≤ ·) w3 (turnX qN (xs.getD j x0)) (.agg #[.int .i64 k2, .string n2, .int .i64 m2, .slice a2 l2 r2]) →
          ((w3.alloc (.cells #[.int .i64 k2, .string n2, .int .i64 m2, .slice a2 l2 r2] 48)).alloc (.cells #[.int .i64 k2, .string n2, .int .i64 m2, .slice a2 l2 r2] 48)).ownsRow (w.heap.size + 2) 48 4 (.slice ro j rc) j (flatV f j) ∧ w.heap.size + 2 ≤ w3.heap.size ∧ ∀ w7 g7 c7, w7.ownsRow (w.heap.size + 2) 48 4 (.slice (some ⟨g7, 0, none⟩) (j + 1) c7) (j + 1) (flatV f j ++ [.int .i64 k2, .string n2, .int .i64 m2, .slice a2 l2 r2]) → ((w3.alloc (.cells #[.int .i64 k2, .string n2, .int .i64 m2, .slice a2 l2 r2] 48)).alloc (.cells #[.int .i64 k2, .string n2, .int .i64 m2, .slice a2 l2 r2] 48)).grownBy w7 (Value.slice ro j rc).ownBlock → ((Value.slice ro j rc).ownBlock = some g7 ∨ g7 = w3.heap.size + 1 + 1) →
            Hid (Xo (w.heap.size + 2) w7 (.slice (some ⟨g7, 0, none⟩) (j + 1) c7) (turnXs qN (xs.take (j + 1)))) ∧ Hid (Below w.heap.size w w7) ∧ Hid (w7.heap[w.heap.size]? = some (.cells #[.int .i64 k, .string n, .int .i64 m, .slice (some ⟨b, o, none⟩) xs.length c] 48)) ∧ Hid (∃ u0 u1 u2 u3, w7.heap[w.heap.size + 1]? = some (.cells #[u0, u1, u2, u3] 48))) := fun w3 k2 n2 m2 a2 l2 r2 hb3 hv => by
        have hb := Below.next (below_alloc wr (.cells #[.int .i64 k', .string n', .int .i64 m', .slice aa al ac] 48)) hb3
        have hb6 := Below.next hb (below_alloc w3 (.cells #[.int .i64 k2, .string n2, .int .i64 m2, .slice a2 l2 r2] 48))
        have hb7 := Below.next hb6 (below_alloc (w3.alloc (.cells #[.int .i64 k2, .string n2, .int .i64 m2, .slice a2 l2 r2] 48)) (.cells #[.int .i64 k2, .string n2, .int .i64 m2, .slice a2 l2 r2] 48))
        have hsz3 := hb.size
        have hsz7 := hb7.size
        refine ⟨row_keep ho (fun q hq => hb7.block q (ho.lt q hq).2), by omega, fun w7 g7 c7 hown hg hat => ⟨?_, ?_, ?_, ?_⟩⟩
        · have h := xo_app (B := w.heap.size + 2) (D := (wr.alloc (.cells #[.int .i64 k', .string n', .int .i64 m', .slice aa al ac] 48)).heap.size) (xs := turnXs qN (xs.take j)) hf (fun i hi => (hxc i hi).keep (fun b hp hl => ⟨hp, hb6.block b hl⟩)) (fun q hq => by have := (ho.lt q hq).2; simp; omega) (by simp; omega) (hv.next (below_alloc w3 _)) (by rw [hl]; exact hown) hg (hat.elim Or.inl (fun e => Or.inr (by simp; omega)))
          rw [hl, ← hts] at h
          exact h
        · exact (Below.next hbr hb7).grown hg (by omega) (fun q hq => by have := (ho.lt q hq).1; omega)
        · show _ = _
          rw [hg.block _ (by omega) (fun e => by have := (ho.lt _ e.symm).1; omega), hb7.block _ (by omega)]
          exact hb1.out
        · refine ⟨u0, u1, u2, u3, ?_⟩
          rw [hg.block _ (by omega) (fun e => by have := (ho.lt _ e.symm).1; omega), hb7.block _ (by omega)]
          exact hb2'
      clear hX hB hb1 hb2 hb2' hxc ho hf hl hts hx d0 d1 d2 d3 hz hbr
      obtain ⟨⟨t0, t1, t2, t3⟩, _⟩ := xblk (heap_alloc_new wr (.cells #[.int .i64 k', .string n', .int .i64 m', .slice aa al ac] 48))
      go_wp2_with (first
        | (go_at_call 15; go_must (refine hcall.mono ?_; clear hcall; rintro e w3 ⟨v', rfl, hv, hb3⟩; obtain ⟨k2, n2, m2, a2, l2, r2, rfl⟩ := hv.form; obtain ⟨y1, y2, y3⟩ := hnx.out w3 k2 n2 m2 a2 l2 r2 hb3 hv; obtain ⟨⟨s0, s1, s2, s3⟩, _⟩ := xblk (heap_alloc_new w3 (.cells #[.int .i64 k2, .string n2, .int .i64 m2, .slice a2 l2 r2] 48))))
        | (at_builtin; go_must (refine wpList_append_lies _ rfl _ _ 22 rfl (w.heap.size + 2) 48 i4 (.agg #[.int .i64 0, .string ⟨#[]⟩, .int .i64 0, .slice none 0 0]) 4 56 Try.underlying22 hi4 hw0 hw1 hw2 rfl (by decide) (.slice ro j rc) j (flatV f j) rfl y1 ⟨w3.heap.size + 1, 0, none⟩ 1 1 [.int .i64 k2, .string n2, .int .i64 m2, .slice a2 l2 r2] rfl (by rfl) (by have h9 := World.news_of_block (cs := #[.int .i64 k2, .string n2, .int .i64 m2, .slice a2 l2 r2]) (t := 48) (fr := (0, 0)) (heap_alloc_new (w3.alloc (.cells #[.int .i64 k2, .string n2, .int .i64 m2, .slice a2 l2 r2] 48)) _); simpa using h9) (by simp [Value.oneCell']) (by omega) (by unfold maxLen; omega) (by omega) (by simp; omega) (w3.heap.size + 1 + 1) (by simp) ?_; intro g7 c7 w7 hown7 hg7 hat7 hlt7; obtain ⟨r7, b7, p7, q7⟩ := y3 w7 g7 c7 hown7 hg7 hat7)))
      go_roundw
      case rel => exact ⟨j + 1, some ⟨g7, 0, none⟩, c7, by omega, by go_num, rfl, r7, b7, p7, q7⟩
      case measure => simp [intOf]; omega
    · obtain rfl : j = xs.length := by omega
      obtain ⟨w9, hw9⟩ : ∃ w9, w9 = wr := ⟨_, rfl⟩
      subst hw9
      have hR := hX.out.rxw
      rw [List.take_length] at hR
      obtain ⟨u0, u1, u2, u3, hb2'⟩ := hb2.out
      have hs1 := lt_of_block hb2'
      obtain ⟨⟨e0, e1, e2, e3⟩, f0, f1, f2, f3⟩ := blk4 hb1.out
      obtain ⟨⟨g0, g1, g2, g3⟩, h0, h1, h2, h3⟩ := blk4 hb2'
      have HR := hid hR
      have HB := hid hB.out
      have HB2 := hid hb2'
      clear hR hB hX hb1 hb2 hb2'
      go_wp2
      refine bodyPost_ret (ret_x1 Try.results15 (by rfl) (set4 (show (w9.setCell ⟨w.heap.size, 3, none⟩ (.slice ro xs.length rc)).heap[w.heap.size + 1]? = _ from (Below.heap_setCell _ _ _ _ (by show w.heap.size + 1 ≠ w.heap.size; omega)).trans HB2.out))) rfl ⟨_, rfl, Xw.of (HR.out.keep (fun b hb hl => ⟨by omega, ?_⟩)), ?_⟩
      · rw [Below.heap_setCell _ _ _ _ (by show b ≠ w.heap.size + 1; omega), Below.heap_setCell _ _ _ _ (by show b ≠ w.heap.size + 1; omega), Below.heap_setCell _ _ _ _ (by show b ≠ w.heap.size + 1; omega), Below.heap_setCell _ _ _ _ (by show b ≠ w.heap.size + 1; omega), Below.heap_setCell _ _ _ _ (by show b ≠ w.heap.size; omega)]
      · exact ((((HB.out.setCell (p := ⟨w.heap.size, 3, none⟩) (Nat.le_refl _) _).setCell (p := ⟨w.heap.size + 1, 0, none⟩) (Nat.le_succ _) _).setCell (p := ⟨w.heap.size + 1, 1, none⟩) (Nat.le_succ _) _).setCell (p := ⟨w.heap.size + 1, 2, none⟩) (Nat.le_succ _) _).setCell (p := ⟨w.heap.size + 1, 3, none⟩) (Nat.le_succ _) _
set_option maxHeartbeats 4000000 in
theorem turn_b {n : ByteArray} {m : Int} {xs : List Ex} (ih : ∀ x ∈ xs, TurC x) (hu : (n.toList == [95]) = true) (w : World) (ao : Option Addr) (c : Nat) (hAt0 : ∀ j, j < xs.length → XAt w ao (xs.getD j x0) j) (hzs : szXs xs) (hp : prtXs xs ≤ 100000) :
    Calls Try.prog 15 #[.agg #[.int .i64 1, .string n, .int .i64 m, .slice ao xs.length c]] w fun e w' => ∃ v', e = .returned v' ∧ Xw (w.heap.size ≤ ·) w' (.mk 1 n m (turnXs qN xs)) v' ∧ Below w.heap.size w w' := by
  obtain ⟨i4, hi4, hw0, hw1, hw2⟩ := info_parts infoX
  have hAt := hid hAt0
  have IH := hid ih
  have hln : xs.length ≤ 100000 := by have := prt_len8 xs; omega
  have hpc : Hid (∀ x ∈ xs, prtX x ≤ 100000) := fun x hx => by have := prt_mem8 xs x hx; omega
  have hsz : Hid (∀ x ∈ xs, szX x) := szXs_mem hzs
  have hTL := hid (turnXs_take_len qN xs)
  have hTS := hid (turnXs_snoc qN xs)
  clear hAt0 ih hp hzs
  go_enter Try.func15, Try.ntmps15
  go_wp2
  go_loopw [3, 23] (fun x i wr => ∃ (j : Nat) (ro : Option Addr) (rc : Nat), j ≤ xs.length ∧ i = .int .i64 (j : Int) ∧ x = .slice ro j rc ∧ Hid (Xo (w.heap.size + 2) wr (.slice ro j rc) (turnXs qN (xs.take j))) ∧ Hid (Below w.heap.size w wr) ∧ Hid (wr.heap[w.heap.size]? = some (.cells #[.int .i64 1, .string n, .int .i64 m, .slice ao xs.length c] 48)) ∧ Hid (∃ u0 u1 u2 u3, wr.heap[w.heap.size + 1]? = some (.cells #[u0, u1, u2, u3] 48))) (fun _ i _ => xs.length - (intOf i).toNat)
  case atStart =>
    refine ⟨0, _, 0, by omega, rfl, rfl, ?_, ?_, ?_, ?_⟩
    · have e : turnXs qN (xs.take 0) = [] := by rw [List.take_zero, turnXs]
      have h2 := xo_empty ((w.alloc (.cells #[.int .i64 1, .string n, .int .i64 m, .slice ao xs.length c] 48)).alloc (.cells #[.int .i64 0, .string ⟨#[]⟩, .int .i64 0, .slice none 0 0] 48)) (w.heap.size + 2) (by simp)
      show Xo _ _ _ _
      rw [e]
      simpa [qN] using h2
    · exact ((below_alloc w _).alloc (by simp) _).alloc (by simp; omega) _
    · show _ = _
      rw [Below.heap_alloc _ _ _ (by simp; omega), Below.heap_alloc _ _ _ (by simp)]
      exact heap_alloc_new w _
    · refine ⟨.int .i64 0, .string ⟨#[]⟩, .int .i64 0, .slice none 0 0, ?_⟩
      rw [Below.heap_alloc _ _ _ (by simp)]
      have h2 := heap_alloc_new (w.alloc (.cells #[.int .i64 1, .string n, .int .i64 m, .slice ao xs.length c] 48)) (.cells #[.int .i64 0, .string ⟨#[]⟩, .int .i64 0, .slice none 0 0] 48)
      simpa [qN] using h2
  case round =>
    obtain ⟨j, ro, rc, hj, rfl, rfl, hX, hB, hb1, hb2⟩ := hrel
    by_cases hlt : j < xs.length
    · obtain ⟨b, o, k', n', m', aa, al, ac, rfl, d0, d1, d2, d3, hx⟩ := hAt.out j hlt
      have hbr := hB.out
      have hz := lt_of_cell d0
      have c0 := ((bcell hbr).1 b _ hz).trans d0
      have c1 := ((bcell hbr).1 b _ hz).trans d1
      have c2 := ((bcell hbr).1 b _ hz).trans d2
      have c3 := ((bcell hbr).1 b _ hz).trans d3
      have hzr : b < wr.heap.size := Nat.lt_of_lt_of_le hz hbr.size
      have hcall := IH.out _ (xs_at hlt) _ _ ((hx.next hbr).next (below_alloc wr (.cells #[.int .i64 k', .string n', .int .i64 m', .slice aa al ac] 48))) (hsz.out _ (xs_at hlt)) (hpc.out _ (xs_at hlt))
      have hl := hTL.out j hj
      have hts := hTS.out j hlt
      obtain ⟨f, hf, hxc, ho⟩ := hX.out
      rw [hl] at ho
      obtain ⟨u0, u1, u2, u3, hb2'⟩ := hb2.out
      have hs1 := lt_of_block hb2'
      have hnx : Hid (∀ (w3 : World) (k2 : Int) (n2 : ByteArray) (m2 : Int) (a2 : Option Addr) (l2 r2 : Nat), Below (wr.alloc (.cells #[.int .i64 k', .string n', .int .i64 m', .slice aa al ac] 48)).heap.size (wr.alloc (.cells #[.int .i64 k', .string n', .int .i64 m', .slice aa al ac] 48)) w3 → Xw ((wr.alloc (.cells #[.int .i64 k', .string n', .int .i64 m', .slice aa al ac] 48)).heap.size ≤ ·) w3 (turnX qN (xs.getD j x0)) (.agg #[.int .i64 k2, .string n2, .int .i64 m2, .slice a2 l2 r2]) →
          ((w3.alloc (.cells #[.int .i64 k2, .string n2, .int .i64 m2, .slice a2 l2 r2] 48)).alloc (.cells #[.int .i64 k2, .string n2, .int .i64 m2, .slice a2 l2 r2] 48)).ownsRow (w.heap.size + 2) 48 4 (.slice ro j rc) j (flatV f j) ∧ w.heap.size + 2 ≤ w3.heap.size ∧ ∀ w7 g7 c7, w7.ownsRow (w.heap.size + 2) 48 4 (.slice (some ⟨g7, 0, none⟩) (j + 1) c7) (j + 1) (flatV f j ++ [.int .i64 k2, .string n2, .int .i64 m2, .slice a2 l2 r2]) → ((w3.alloc (.cells #[.int .i64 k2, .string n2, .int .i64 m2, .slice a2 l2 r2] 48)).alloc (.cells #[.int .i64 k2, .string n2, .int .i64 m2, .slice a2 l2 r2] 48)).grownBy w7 (Value.slice ro j rc).ownBlock → ((Value.slice ro j rc).ownBlock = some g7 ∨ g7 = w3.heap.size + 1 + 1) →
            Hid (Xo (w.heap.size + 2) w7 (.slice (some ⟨g7, 0, none⟩) (j + 1) c7) (turnXs qN (xs.take (j + 1)))) ∧ Hid (Below w.heap.size w w7) ∧ Hid (w7.heap[w.heap.size]? = some (.cells #[.int .i64 1, .string n, .int .i64 m, .slice (some ⟨b, o, none⟩) xs.length c] 48)) ∧ Hid (∃ u0 u1 u2 u3, w7.heap[w.heap.size + 1]? = some (.cells #[u0, u1, u2, u3] 48))) := fun w3 k2 n2 m2 a2 l2 r2 hb3 hv => by
        have hb := Below.next (below_alloc wr (.cells #[.int .i64 k', .string n', .int .i64 m', .slice aa al ac] 48)) hb3
        have hb6 := Below.next hb (below_alloc w3 (.cells #[.int .i64 k2, .string n2, .int .i64 m2, .slice a2 l2 r2] 48))
        have hb7 := Below.next hb6 (below_alloc (w3.alloc (.cells #[.int .i64 k2, .string n2, .int .i64 m2, .slice a2 l2 r2] 48)) (.cells #[.int .i64 k2, .string n2, .int .i64 m2, .slice a2 l2 r2] 48))
        have hsz3 := hb.size
        have hsz7 := hb7.size
        refine ⟨row_keep ho (fun q hq => hb7.block q (ho.lt q hq).2), by omega, fun w7 g7 c7 hown hg hat => ⟨?_, ?_, ?_, ?_⟩⟩
        · have h := xo_app (B := w.heap.size + 2) (D := (wr.alloc (.cells #[.int .i64 k', .string n', .int .i64 m', .slice aa al ac] 48)).heap.size) (xs := turnXs qN (xs.take j)) hf (fun i hi => (hxc i hi).keep (fun b hp hl => ⟨hp, hb6.block b hl⟩)) (fun q hq => by have := (ho.lt q hq).2; simp; omega) (by simp; omega) (hv.next (below_alloc w3 _)) (by rw [hl]; exact hown) hg (hat.elim Or.inl (fun e => Or.inr (by simp; omega)))
          rw [hl, ← hts] at h
          exact h
        · exact (Below.next hbr hb7).grown hg (by omega) (fun q hq => by have := (ho.lt q hq).1; omega)
        · show _ = _
          rw [hg.block _ (by omega) (fun e => by have := (ho.lt _ e.symm).1; omega), hb7.block _ (by omega)]
          exact hb1.out
        · refine ⟨u0, u1, u2, u3, ?_⟩
          rw [hg.block _ (by omega) (fun e => by have := (ho.lt _ e.symm).1; omega), hb7.block _ (by omega)]
          exact hb2'
      clear hX hB hb1 hb2 hb2' hxc ho hf hl hts hx d0 d1 d2 d3 hz hbr
      obtain ⟨⟨t0, t1, t2, t3⟩, _⟩ := xblk (heap_alloc_new wr (.cells #[.int .i64 k', .string n', .int .i64 m', .slice aa al ac] 48))
      go_wp2_with (first
        | (go_at_call 15; go_must (refine hcall.mono ?_; clear hcall; rintro e w3 ⟨v', rfl, hv, hb3⟩; obtain ⟨k2, n2, m2, a2, l2, r2, rfl⟩ := hv.form; obtain ⟨y1, y2, y3⟩ := hnx.out w3 k2 n2 m2 a2 l2 r2 hb3 hv; obtain ⟨⟨s0, s1, s2, s3⟩, _⟩ := xblk (heap_alloc_new w3 (.cells #[.int .i64 k2, .string n2, .int .i64 m2, .slice a2 l2 r2] 48))))
        | (at_builtin; go_must (refine wpList_append_lies _ rfl _ _ 22 rfl (w.heap.size + 2) 48 i4 (.agg #[.int .i64 0, .string ⟨#[]⟩, .int .i64 0, .slice none 0 0]) 4 56 Try.underlying22 hi4 hw0 hw1 hw2 rfl (by decide) (.slice ro j rc) j (flatV f j) rfl y1 ⟨w3.heap.size + 1, 0, none⟩ 1 1 [.int .i64 k2, .string n2, .int .i64 m2, .slice a2 l2 r2] rfl (by rfl) (by have h9 := World.news_of_block (cs := #[.int .i64 k2, .string n2, .int .i64 m2, .slice a2 l2 r2]) (t := 48) (fr := (0, 0)) (heap_alloc_new (w3.alloc (.cells #[.int .i64 k2, .string n2, .int .i64 m2, .slice a2 l2 r2] 48)) _); simpa using h9) (by simp [Value.oneCell']) (by omega) (by unfold maxLen; omega) (by omega) (by simp; omega) (w3.heap.size + 1 + 1) (by simp) ?_; intro g7 c7 w7 hown7 hg7 hat7 hlt7; obtain ⟨r7, b7, p7, q7⟩ := y3 w7 g7 c7 hown7 hg7 hat7)))
      go_roundw
      case rel => exact ⟨j + 1, some ⟨g7, 0, none⟩, c7, by omega, by go_num, rfl, r7, b7, p7, q7⟩
      case measure => simp [intOf]; omega
    · obtain rfl : j = xs.length := by omega
      obtain ⟨w9, hw9⟩ : ∃ w9, w9 = wr := ⟨_, rfl⟩
      subst hw9
      have hR := hX.out.rxw
      rw [List.take_length] at hR
      obtain ⟨u0, u1, u2, u3, hb2'⟩ := hb2.out
      have hs1 := lt_of_block hb2'
      obtain ⟨⟨e0, e1, e2, e3⟩, f0, f1, f2, f3⟩ := blk4 hb1.out
      obtain ⟨⟨g0, g1, g2, g3⟩, h0, h1, h2, h3⟩ := blk4 hb2'
      have HR := hid hR
      have HB := hid hB.out
      have HB2 := hid hb2'
      clear hR hB hX hb1 hb2 hb2'
      go_wp2
      refine bodyPost_ret (ret_x1 Try.results15 (by rfl) (set4 (show (w9.setCell ⟨w.heap.size, 3, none⟩ (.slice ro xs.length rc)).heap[w.heap.size + 1]? = _ from (Below.heap_setCell _ _ _ _ (by show w.heap.size + 1 ≠ w.heap.size; omega)).trans HB2.out))) rfl ⟨_, rfl, Xw.of (HR.out.keep (fun b hb hl => ⟨by omega, ?_⟩)), ?_⟩
      · rw [Below.heap_setCell _ _ _ _ (by show b ≠ w.heap.size + 1; omega), Below.heap_setCell _ _ _ _ (by show b ≠ w.heap.size + 1; omega), Below.heap_setCell _ _ _ _ (by show b ≠ w.heap.size + 1; omega), Below.heap_setCell _ _ _ _ (by show b ≠ w.heap.size + 1; omega), Below.heap_setCell _ _ _ _ (by show b ≠ w.heap.size; omega)]
      · exact ((((HB.out.setCell (p := ⟨w.heap.size, 3, none⟩) (Nat.le_refl _) _).setCell (p := ⟨w.heap.size + 1, 0, none⟩) (Nat.le_succ _) _).setCell (p := ⟨w.heap.size + 1, 1, none⟩) (Nat.le_succ _) _).setCell (p := ⟨w.heap.size + 1, 2, none⟩) (Nat.le_succ _) _).setCell (p := ⟨w.heap.size + 1, 3, none⟩) (Nat.le_succ _) _
set_option maxHeartbeats 4000000 in
theorem turn_c {n : ByteArray} {m : Int} {xs : List Ex} (ih : ∀ x ∈ xs, TurC x) (hu : (n.toList == [95]) = false) (w : World) (ao : Option Addr) (c : Nat) (hAt0 : ∀ j, j < xs.length → XAt w ao (xs.getD j x0) j) (hzn : n.size ≤ 281474976710656) (hzs : szXs xs) (hp : prtXs xs ≤ 100000) :
    Calls Try.prog 15 #[.agg #[.int .i64 1, .string n, .int .i64 m, .slice ao xs.length c]] w fun e w' => ∃ v', e = .returned v' ∧ Xw (w.heap.size ≤ ·) w' (.mk 1 (qN n) m (turnXs qN xs)) v' ∧ Below w.heap.size w w' := by
  obtain ⟨i4, hi4, hw0, hw1, hw2⟩ := info_parts infoX
  have hAt := hid hAt0
  have IH := hid ih
  have hln : xs.length ≤ 100000 := by have := prt_len8 xs; omega
  have hpc : Hid (∀ x ∈ xs, prtX x ≤ 100000) := fun x hx => by have := prt_mem8 xs x hx; omega
  have hsz : Hid (∀ x ∈ xs, szX x) := szXs_mem hzs
  have hTL := hid (turnXs_take_len qN xs)
  have hTS := hid (turnXs_snoc qN xs)
  clear hAt0 ih hp hzs
  go_enter Try.func15, Try.ntmps15
  go_wp2
  go_loopw [3, 23] (fun x i wr => ∃ (j : Nat) (ro : Option Addr) (rc : Nat), j ≤ xs.length ∧ i = .int .i64 (j : Int) ∧ x = .slice ro j rc ∧ Hid (Xo (w.heap.size + 2) wr (.slice ro j rc) (turnXs qN (xs.take j))) ∧ Hid (Below w.heap.size w wr) ∧ Hid (wr.heap[w.heap.size]? = some (.cells #[.int .i64 1, .string (qN n), .int .i64 m, .slice ao xs.length c] 48)) ∧ Hid (∃ u0 u1 u2 u3, wr.heap[w.heap.size + 1]? = some (.cells #[u0, u1, u2, u3] 48))) (fun _ i _ => xs.length - (intOf i).toNat)
  case atStart =>
    refine ⟨0, _, 0, by omega, rfl, rfl, ?_, ?_, ?_, ?_⟩
    · have e : turnXs qN (xs.take 0) = [] := by rw [List.take_zero, turnXs]
      have h2 := xo_empty ((w.alloc (.cells #[.int .i64 1, .string (qN n), .int .i64 m, .slice ao xs.length c] 48)).alloc (.cells #[.int .i64 0, .string ⟨#[]⟩, .int .i64 0, .slice none 0 0] 48)) (w.heap.size + 2) (by simp)
      show Xo _ _ _ _
      rw [e]
      simpa [qN] using h2
    · exact ((below_alloc w _).alloc (by simp) _).alloc (by simp; omega) _
    · show _ = _
      rw [Below.heap_alloc _ _ _ (by simp; omega), Below.heap_alloc _ _ _ (by simp)]
      exact heap_alloc_new w _
    · refine ⟨.int .i64 0, .string ⟨#[]⟩, .int .i64 0, .slice none 0 0, ?_⟩
      rw [Below.heap_alloc _ _ _ (by simp)]
      have h2 := heap_alloc_new (w.alloc (.cells #[.int .i64 1, .string (qN n), .int .i64 m, .slice ao xs.length c] 48)) (.cells #[.int .i64 0, .string ⟨#[]⟩, .int .i64 0, .slice none 0 0] 48)
      simpa [qN] using h2
  case round =>
    obtain ⟨j, ro, rc, hj, rfl, rfl, hX, hB, hb1, hb2⟩ := hrel
    by_cases hlt : j < xs.length
    · obtain ⟨b, o, k', n', m', aa, al, ac, rfl, d0, d1, d2, d3, hx⟩ := hAt.out j hlt
      have hbr := hB.out
      have hz := lt_of_cell d0
      have c0 := ((bcell hbr).1 b _ hz).trans d0
      have c1 := ((bcell hbr).1 b _ hz).trans d1
      have c2 := ((bcell hbr).1 b _ hz).trans d2
      have c3 := ((bcell hbr).1 b _ hz).trans d3
      have hzr : b < wr.heap.size := Nat.lt_of_lt_of_le hz hbr.size
      have hcall := IH.out _ (xs_at hlt) _ _ ((hx.next hbr).next (below_alloc wr (.cells #[.int .i64 k', .string n', .int .i64 m', .slice aa al ac] 48))) (hsz.out _ (xs_at hlt)) (hpc.out _ (xs_at hlt))
      have hl := hTL.out j hj
      have hts := hTS.out j hlt
      obtain ⟨f, hf, hxc, ho⟩ := hX.out
      rw [hl] at ho
      obtain ⟨u0, u1, u2, u3, hb2'⟩ := hb2.out
      have hs1 := lt_of_block hb2'
      have hnx : Hid (∀ (w3 : World) (k2 : Int) (n2 : ByteArray) (m2 : Int) (a2 : Option Addr) (l2 r2 : Nat), Below (wr.alloc (.cells #[.int .i64 k', .string n', .int .i64 m', .slice aa al ac] 48)).heap.size (wr.alloc (.cells #[.int .i64 k', .string n', .int .i64 m', .slice aa al ac] 48)) w3 → Xw ((wr.alloc (.cells #[.int .i64 k', .string n', .int .i64 m', .slice aa al ac] 48)).heap.size ≤ ·) w3 (turnX qN (xs.getD j x0)) (.agg #[.int .i64 k2, .string n2, .int .i64 m2, .slice a2 l2 r2]) →
          ((w3.alloc (.cells #[.int .i64 k2, .string n2, .int .i64 m2, .slice a2 l2 r2] 48)).alloc (.cells #[.int .i64 k2, .string n2, .int .i64 m2, .slice a2 l2 r2] 48)).ownsRow (w.heap.size + 2) 48 4 (.slice ro j rc) j (flatV f j) ∧ w.heap.size + 2 ≤ w3.heap.size ∧ ∀ w7 g7 c7, w7.ownsRow (w.heap.size + 2) 48 4 (.slice (some ⟨g7, 0, none⟩) (j + 1) c7) (j + 1) (flatV f j ++ [.int .i64 k2, .string n2, .int .i64 m2, .slice a2 l2 r2]) → ((w3.alloc (.cells #[.int .i64 k2, .string n2, .int .i64 m2, .slice a2 l2 r2] 48)).alloc (.cells #[.int .i64 k2, .string n2, .int .i64 m2, .slice a2 l2 r2] 48)).grownBy w7 (Value.slice ro j rc).ownBlock → ((Value.slice ro j rc).ownBlock = some g7 ∨ g7 = w3.heap.size + 1 + 1) →
            Hid (Xo (w.heap.size + 2) w7 (.slice (some ⟨g7, 0, none⟩) (j + 1) c7) (turnXs qN (xs.take (j + 1)))) ∧ Hid (Below w.heap.size w w7) ∧ Hid (w7.heap[w.heap.size]? = some (.cells #[.int .i64 1, .string (qN n), .int .i64 m, .slice (some ⟨b, o, none⟩) xs.length c] 48)) ∧ Hid (∃ u0 u1 u2 u3, w7.heap[w.heap.size + 1]? = some (.cells #[u0, u1, u2, u3] 48))) := fun w3 k2 n2 m2 a2 l2 r2 hb3 hv => by
        have hb := Below.next (below_alloc wr (.cells #[.int .i64 k', .string n', .int .i64 m', .slice aa al ac] 48)) hb3
        have hb6 := Below.next hb (below_alloc w3 (.cells #[.int .i64 k2, .string n2, .int .i64 m2, .slice a2 l2 r2] 48))
        have hb7 := Below.next hb6 (below_alloc (w3.alloc (.cells #[.int .i64 k2, .string n2, .int .i64 m2, .slice a2 l2 r2] 48)) (.cells #[.int .i64 k2, .string n2, .int .i64 m2, .slice a2 l2 r2] 48))
        have hsz3 := hb.size
        have hsz7 := hb7.size
        refine ⟨row_keep ho (fun q hq => hb7.block q (ho.lt q hq).2), by omega, fun w7 g7 c7 hown hg hat => ⟨?_, ?_, ?_, ?_⟩⟩
        · have h := xo_app (B := w.heap.size + 2) (D := (wr.alloc (.cells #[.int .i64 k', .string n', .int .i64 m', .slice aa al ac] 48)).heap.size) (xs := turnXs qN (xs.take j)) hf (fun i hi => (hxc i hi).keep (fun b hp hl => ⟨hp, hb6.block b hl⟩)) (fun q hq => by have := (ho.lt q hq).2; simp; omega) (by simp; omega) (hv.next (below_alloc w3 _)) (by rw [hl]; exact hown) hg (hat.elim Or.inl (fun e => Or.inr (by simp; omega)))
          rw [hl, ← hts] at h
          exact h
        · exact (Below.next hbr hb7).grown hg (by omega) (fun q hq => by have := (ho.lt q hq).1; omega)
        · show _ = _
          rw [hg.block _ (by omega) (fun e => by have := (ho.lt _ e.symm).1; omega), hb7.block _ (by omega)]
          exact hb1.out
        · refine ⟨u0, u1, u2, u3, ?_⟩
          rw [hg.block _ (by omega) (fun e => by have := (ho.lt _ e.symm).1; omega), hb7.block _ (by omega)]
          exact hb2'
      clear hX hB hb1 hb2 hb2' hxc ho hf hl hts hx d0 d1 d2 d3 hz hbr
      obtain ⟨⟨t0, t1, t2, t3⟩, _⟩ := xblk (heap_alloc_new wr (.cells #[.int .i64 k', .string n', .int .i64 m', .slice aa al ac] 48))
      go_wp2_with (first
        | (go_at_call 15; go_must (refine hcall.mono ?_; clear hcall; rintro e w3 ⟨v', rfl, hv, hb3⟩; obtain ⟨k2, n2, m2, a2, l2, r2, rfl⟩ := hv.form; obtain ⟨y1, y2, y3⟩ := hnx.out w3 k2 n2 m2 a2 l2 r2 hb3 hv; obtain ⟨⟨s0, s1, s2, s3⟩, _⟩ := xblk (heap_alloc_new w3 (.cells #[.int .i64 k2, .string n2, .int .i64 m2, .slice a2 l2 r2] 48))))
        | (at_builtin; go_must (refine wpList_append_lies _ rfl _ _ 22 rfl (w.heap.size + 2) 48 i4 (.agg #[.int .i64 0, .string ⟨#[]⟩, .int .i64 0, .slice none 0 0]) 4 56 Try.underlying22 hi4 hw0 hw1 hw2 rfl (by decide) (.slice ro j rc) j (flatV f j) rfl y1 ⟨w3.heap.size + 1, 0, none⟩ 1 1 [.int .i64 k2, .string n2, .int .i64 m2, .slice a2 l2 r2] rfl (by rfl) (by have h9 := World.news_of_block (cs := #[.int .i64 k2, .string n2, .int .i64 m2, .slice a2 l2 r2]) (t := 48) (fr := (0, 0)) (heap_alloc_new (w3.alloc (.cells #[.int .i64 k2, .string n2, .int .i64 m2, .slice a2 l2 r2] 48)) _); simpa using h9) (by simp [Value.oneCell']) (by omega) (by unfold maxLen; omega) (by omega) (by simp; omega) (w3.heap.size + 1 + 1) (by simp) ?_; intro g7 c7 w7 hown7 hg7 hat7 hlt7; obtain ⟨r7, b7, p7, q7⟩ := y3 w7 g7 c7 hown7 hg7 hat7)))
      go_roundw
      case rel => exact ⟨j + 1, some ⟨g7, 0, none⟩, c7, by omega, by go_num, rfl, r7, b7, p7, q7⟩
      case measure => simp [intOf]; omega
    · obtain rfl : j = xs.length := by omega
      obtain ⟨w9, hw9⟩ : ∃ w9, w9 = wr := ⟨_, rfl⟩
      subst hw9
      have hR := hX.out.rxw
      rw [List.take_length] at hR
      obtain ⟨u0, u1, u2, u3, hb2'⟩ := hb2.out
      have hs1 := lt_of_block hb2'
      obtain ⟨⟨e0, e1, e2, e3⟩, f0, f1, f2, f3⟩ := blk4 hb1.out
      obtain ⟨⟨g0, g1, g2, g3⟩, h0, h1, h2, h3⟩ := blk4 hb2'
      have HR := hid hR
      have HB := hid hB.out
      have HB2 := hid hb2'
      clear hR hB hX hb1 hb2 hb2'
      go_wp2
      refine bodyPost_ret (ret_x1 Try.results15 (by rfl) (set4 (show (w9.setCell ⟨w.heap.size, 3, none⟩ (.slice ro xs.length rc)).heap[w.heap.size + 1]? = _ from (Below.heap_setCell _ _ _ _ (by show w.heap.size + 1 ≠ w.heap.size; omega)).trans HB2.out))) rfl ⟨_, rfl, Xw.of (HR.out.keep (fun b hb hl => ⟨by omega, ?_⟩)), ?_⟩
      · rw [Below.heap_setCell _ _ _ _ (by show b ≠ w.heap.size + 1; omega), Below.heap_setCell _ _ _ _ (by show b ≠ w.heap.size + 1; omega), Below.heap_setCell _ _ _ _ (by show b ≠ w.heap.size + 1; omega), Below.heap_setCell _ _ _ _ (by show b ≠ w.heap.size + 1; omega), Below.heap_setCell _ _ _ _ (by show b ≠ w.heap.size; omega)]
      · exact ((((HB.out.setCell (p := ⟨w.heap.size, 3, none⟩) (Nat.le_refl _) _).setCell (p := ⟨w.heap.size + 1, 0, none⟩) (Nat.le_succ _) _).setCell (p := ⟨w.heap.size + 1, 1, none⟩) (Nat.le_succ _) _).setCell (p := ⟨w.heap.size + 1, 2, none⟩) (Nat.le_succ _) _).setCell (p := ⟨w.heap.size + 1, 3, none⟩) (Nat.le_succ _) _
theorem turn_any (x : Ex) : TurC x := by
  induction x using Ex.ind with
  | h k n m xs ih =>
    intro w v hx hz hp
    obtain ⟨av, rfl, ao, c, rfl, hAt⟩ := hx.parts
    rw [prtX] at hp
    rw [turnX]
    by_cases hk : k = 1
    · subst hk
      by_cases hu : (n.toList == [95]) = true
      · rw [if_neg (by unfold isU; simp at hu; simp [hu])]
        exact turn_b ih hu w ao c hAt hz.2 (by omega)
      · rw [if_pos (by unfold isU; simp at hu; simp [hu])]
        exact turn_c ih (by simpa using hu) w ao c hAt hz.1 hz.2 (by omega)
    · rw [if_neg (by simp [hk])]
      exact turn_a ih (beq_eq_false_iff_ne.2 hk) w ao c hAt hz.2 (by omega)
end Go.Proofs.Ytncileojdighnaa

namespace Go.Proofs.Ytncileojdighnaa
set_option maxRecDepth 100000
open Go.RowKit
theorem inN_nil (s : ByteArray) : inN [] s = false := rfl
theorem namX_iff (l : List ByteArray) (x : Ex) (s : ByteArray) : inN (namX l x) s = true ↔ inN l s = true ∨ inN (namX [] x) s = true :=
  ⟨namX_or [] l x s, fun h => h.elim (inN_namX l x s) (fun h => (namX_or l [] x s h).elim (fun h0 => by rw [inN_nil] at h0; cases h0) id)⟩
theorem namXs_iff (l : List ByteArray) (xs : List Ex) (s : ByteArray) : inN (namXs l xs) s = true ↔ inN l s = true ∨ inN (namXs [] xs) s = true :=
  ⟨namXs_or [] l xs s, fun h => h.elim (inN_namXs l xs s) (fun h => (namXs_or l [] xs s h).elim (fun h0 => by rw [inN_nil] at h0; cases h0) id)⟩
theorem namQ_iff (l : List ByteArray) (qs : List (ByteArray × Ex)) (s : ByteArray) : inN (namQ l qs) s = true ↔ inN l s = true ∨ inN (namQ [] qs) s = true :=
  ⟨namQ_or [] l qs s, fun h => h.elim (inN_namQ l qs s) (fun h => (namQ_or l [] qs s h).elim (fun h0 => by rw [inN_nil] at h0; cases h0) id)⟩
theorem inN_put1 (n s : ByteArray) : inN (putS [] n) s = true ↔ s = n := by
  unfold putS
  rw [if_neg (by rw [inN_nil]; simp)]
  simp [inN, eq_comm]
theorem oc_mk (k : Int) (n : ByteArray) (m : Int) (xs : List Ex) (s : ByteArray) : inN (namX [] (.mk k n m xs)) s = true ↔ ((decide (k = 1) && !isU n) = true ∧ s = n) ∨ inN (namXs [] xs) s = true := by
  rw [namX, namXs_iff]
  by_cases hk : (decide (k = 1) && !isU n) = true
  · rw [if_pos hk, inN_put1]
    exact ⟨fun h => h.elim (fun e => Or.inl ⟨hk, e⟩) Or.inr, fun h => h.elim (fun e => Or.inl e.2) Or.inr⟩
  · rw [if_neg hk, inN_nil]
    exact ⟨fun h => h.elim (fun e => by cases e) Or.inr, fun h => h.elim (fun e => absurd e.1 hk) Or.inr⟩
theorem oc_cons (x : Ex) (r : List Ex) (s : ByteArray) : inN (namXs [] (x :: r)) s = true ↔ inN (namX [] x) s = true ∨ inN (namXs [] r) s = true := by rw [namXs, namXs_iff]
theorem oc_nil (s : ByteArray) : inN (namXs [] []) s = false := by rw [namXs]; rfl
theorem oc_Q : ∀ (qs : List (ByteArray × Ex)) (s : ByteArray), inN (namQ [] qs) s = true ↔ ∃ q ∈ qs, s = q.1 ∨ inN (namX [] q.2) s = true
  | [], s => by rw [namQ, inN_nil]; simp
  | q :: r, s => by
    rw [namQ, namQ_iff, namX_iff, inN_put1, oc_Q r s]
    simp only [List.mem_cons]
    constructor
    · rintro ((h | h) | ⟨y, hy, h⟩)
      · exact ⟨q, Or.inl rfl, Or.inl h⟩
      · exact ⟨q, Or.inl rfl, Or.inr h⟩
      · exact ⟨y, Or.inr hy, h⟩
    · rintro ⟨y, (rfl | hy), h⟩
      · exact Or.inl h
      · exact Or.inr ⟨y, hy, h⟩
theorem oc_A (xs : List Ex) (qs : List (ByteArray × Ex)) (s : ByteArray) : inN (namA xs qs) s = true ↔ inN (namXs [] xs) s = true ∨ ∃ q ∈ qs, s = q.1 ∨ inN (namX [] q.2) s = true := by
  unfold namA
  rw [namQ_iff, oc_Q]
section
variable {tN : ByteArray → ByteArray}
mutual
theorem oc_turn (hU : ∀ s, isU s = false → isU (tN s) = false) : ∀ (x : Ex) (s' : ByteArray), inN (namX [] (turnX tN x)) s' = true ↔ ∃ s, inN (namX [] x) s = true ∧ s' = tN s
  | .mk k n m xs, s' => by
    have ih := ocs_turn hU xs s'
    rw [turnX, oc_mk, named_turn hU, ih]
    constructor
    · rintro (⟨h1, h2⟩ | ⟨s, h1, h2⟩)
      · rw [if_pos h1] at h2
        exact ⟨n, (oc_mk _ _ _ _ _).2 (Or.inl ⟨h1, rfl⟩), h2⟩
      · exact ⟨s, (oc_mk _ _ _ _ _).2 (Or.inr h1), h2⟩
    · rintro ⟨s, h1, h2⟩
      rcases (oc_mk _ _ _ _ _).1 h1 with ⟨h3, h4⟩ | h3
      · subst h4
        exact Or.inl ⟨h3, by rw [if_pos h3]; exact h2⟩
      · exact Or.inr ⟨s, h3, h2⟩
theorem ocs_turn (hU : ∀ s, isU s = false → isU (tN s) = false) : ∀ (xs : List Ex) (s' : ByteArray), inN (namXs [] (turnXs tN xs)) s' = true ↔ ∃ s, inN (namXs [] xs) s = true ∧ s' = tN s
  | [], s' => by rw [turnXs, oc_nil]; simp [oc_nil]
  | x :: r, s' => by
    rw [turnXs, oc_cons, oc_turn hU x s', ocs_turn hU r s']
    constructor
    · rintro (⟨s, h1, h2⟩ | ⟨s, h1, h2⟩)
      · exact ⟨s, (oc_cons _ _ _).2 (Or.inl h1), h2⟩
      · exact ⟨s, (oc_cons _ _ _).2 (Or.inr h1), h2⟩
    · rintro ⟨s, h1, h2⟩
      rcases (oc_cons _ _ _).1 h1 with h3 | h3
      · exact Or.inl ⟨s, h3, h2⟩
      · exact Or.inr ⟨s, h3, h2⟩
end
theorem names_turn (hU : ∀ s, isU s = false → isU (tN s) = false) (xs : List Ex) (qs : List (ByteArray × Ex)) (s' : ByteArray) : inN (namA (turnXs tN xs) (qs.map (turnQ tN)).reverse) s' = true ↔ ∃ s, inN (namA xs qs) s = true ∧ s' = tN s := by
  rw [oc_A, ocs_turn hU]
  constructor
  · rintro (⟨s, h1, h2⟩ | ⟨q, hq, h⟩)
    · exact ⟨s, (oc_A _ _ _).2 (Or.inl h1), h2⟩
    · obtain ⟨y, hy, rfl⟩ := List.mem_map.1 (List.mem_reverse.1 hq)
      rcases h with h | h
      · exact ⟨y.1, (oc_A _ _ _).2 (Or.inr ⟨y, hy, Or.inl rfl⟩), h⟩
      · obtain ⟨s, h1, h2⟩ := (oc_turn hU y.2 s').1 h
        exact ⟨s, (oc_A _ _ _).2 (Or.inr ⟨y, hy, Or.inr h1⟩), h2⟩
  · rintro ⟨s, h1, h2⟩
    rcases (oc_A _ _ _).1 h1 with h3 | ⟨y, hy, h3⟩
    · exact Or.inl ⟨s, h3, h2⟩
    · refine Or.inr ⟨turnQ tN y, List.mem_reverse.2 (List.mem_map.2 ⟨y, hy, rfl⟩), ?_⟩
      rcases h3 with h3 | h3
      · subst h3; exact Or.inl h2
      · exact Or.inr ((oc_turn hU y.2 s').2 ⟨s, h3, h2⟩)
end
theorem tri_a {m : Nat} {v : Nd} {A B : List Nd} {z : Nat} (h : z < m) : (List.replicate m v ++ A ++ B).getD z nd0 = v := by
  simp [List.getD, List.getElem?_append_left, h]
theorem tri_b {m : Nat} {v : Nd} {A B : List Nd} {t : Nat} (h : t < A.length) : (List.replicate m v ++ A ++ B).getD (m + t) nd0 = A.getD t nd0 := by
  rw [List.append_assoc]
  simp only [List.getD]
  rw [List.getElem?_append_right (by simp), List.length_replicate, Nat.add_sub_cancel_left, List.getElem?_append_left h]
theorem tri_c {m : Nat} {v : Nd} {A B : List Nd} {t : Nat} : (List.replicate m v ++ A ++ B).getD (m + A.length + t) nd0 = B.getD t nd0 := by
  simp only [List.getD]
  rw [List.getElem?_append_right (by simp), List.length_append, List.length_replicate, Nat.add_sub_cancel_left]
theorem map_inj_nodup {α β : Type} {f : α → β} (hf : ∀ a b, f a = f b → a = b) {l : List α} (h : l.Nodup) : (l.map f).Nodup := by
  unfold List.Nodup at h ⊢
  rw [List.pairwise_iff_getElem] at h ⊢
  intro i j hi hj hij e
  rw [List.getElem_map, List.getElem_map] at e
  exact h i j (by simpa using hi) (by simpa using hj) hij (hf _ _ e)
def nmsF (tN : ByteArray → ByteArray) (ns ns' : List ByteArray) (X : Nat) (qs : List (ByteArray × Ex)) (z : Nat) : Nat :=
  if z < ns.length then ixN ns' (tN (ns.getD z ⟨#[]⟩)) else if z < ns.length + X then z else if z < ns.length + X + plQ qs then ns.length + X + revF qs (z - (ns.length + X)) else z
theorem nms_inj {tN : ByteArray → ByteArray} (hI : ∀ a b, tN a = tN b → a = b) {ns ns' : List ByteArray} {X : Nat} {qs : List (ByteArray × Ex)} (hn : ns.Nodup) (hl : ns'.length = ns.length) (hin : ∀ s, inN ns s = true → inN ns' (tN s) = true) (x y : Nat) (e : nmsF tN ns ns' X qs x = nmsF tN ns ns' X qs y) : x = y := by
  have h1 : ∀ z, z < ns.length → nmsF tN ns ns' X qs z = ixN ns' (tN (ns.getD z ⟨#[]⟩)) ∧ ixN ns' (tN (ns.getD z ⟨#[]⟩)) < ns.length := fun z hz => ⟨by unfold nmsF; rw [if_pos hz], by rw [← hl]; exact ixN_lt (hin _ (sg_in hz))⟩
  have h2 : ∀ z, ns.length ≤ z → z < ns.length + X → nmsF tN ns ns' X qs z = z := fun z h h' => by unfold nmsF; rw [if_neg (by omega), if_pos h']
  have h3 : ∀ z, ns.length + X ≤ z → z < ns.length + X + plQ qs → nmsF tN ns ns' X qs z = ns.length + X + revF qs (z - (ns.length + X)) ∧ revF qs (z - (ns.length + X)) < plQ qs := fun z h h' => ⟨by unfold nmsF; rw [if_neg (by omega), if_neg (by omega), if_pos h'], revF_lt qs _ (by omega)⟩
  have h4 : ∀ z, ns.length + X + plQ qs ≤ z → nmsF tN ns ns' X qs z = z := fun z h => by unfold nmsF; rw [if_neg (by omega), if_neg (by omega), if_neg (by omega)]
  have hc : ∀ z, (z < ns.length ∧ nmsF tN ns ns' X qs z < ns.length) ∨ (ns.length ≤ z ∧ z < ns.length + X ∧ nmsF tN ns ns' X qs z = z) ∨ (ns.length + X ≤ z ∧ z < ns.length + X + plQ qs ∧ ns.length + X ≤ nmsF tN ns ns' X qs z ∧ nmsF tN ns ns' X qs z < ns.length + X + plQ qs) ∨ (ns.length + X + plQ qs ≤ z ∧ nmsF tN ns ns' X qs z = z) := fun z => by
    by_cases a1 : z < ns.length
    · have := h1 z a1; exact Or.inl ⟨a1, by omega⟩
    · by_cases a2 : z < ns.length + X
      · exact Or.inr (Or.inl ⟨by omega, a2, h2 z (by omega) a2⟩)
      · by_cases a3 : z < ns.length + X + plQ qs
        · have := h3 z (by omega) a3
          exact Or.inr (Or.inr (Or.inl ⟨by omega, a3, by omega, by omega⟩))
        · exact Or.inr (Or.inr (Or.inr ⟨by omega, h4 z (by omega)⟩))
  by_cases a1 : x < ns.length
  · have a2 : y < ns.length := by
      have := h1 x a1
      rcases hc y with k | k | k | k <;> omega
    have b1 := h1 x a1
    have b2 := h1 y a2
    have e2 := ixN_inj (hin _ (sg_in a1)) (hin _ (sg_in a2)) (by omega)
    have e3 := hI _ _ e2
    have e4 := ixN_getD hn a1
    rw [e3, ixN_getD hn a2] at e4
    exact e4.symm
  · by_cases a2 : ns.length + X ≤ x ∧ x < ns.length + X + plQ qs
    · have a3 : ns.length + X ≤ y ∧ y < ns.length + X + plQ qs := by
        have := h3 x a2.1 a2.2
        rcases hc y with k | k | k | k <;> omega
      have b1 := h3 x a2.1 a2.2
      have b2 := h3 y a3.1 a3.2
      have := revF_inj qs _ _ (by omega) (by omega) (show revF qs (x - (ns.length + X)) = revF qs (y - (ns.length + X)) by omega)
      omega
    · rcases hc x with k | k | k | k <;> rcases hc y with k' | k' | k' | k' <;> omega
theorem names_emb {tN : ByteArray → ByteArray} (hI : ∀ a b, tN a = tN b → a = b) (hU : ∀ s, isU s = false → isU (tN s) = false) {xs : List Ex} {qs : List (ByteArray × Ex)} (hg : GoodT xs qs) (hg2 : GoodT (turnXs tN xs) (qs.map (turnQ tN)).reverse) :
    ∃ F : Nat → Nat, Emb (tieN xs qs) (tieN (turnXs tN xs) (qs.map (turnQ tN)).reverse) (tieP xs qs) (tieP (turnXs tN xs) (qs.map (turnQ tN)).reverse) (namA xs qs).length (namA xs qs).length F ∧ tieR (turnXs tN xs) (qs.map (turnQ tN)).reverse = (tieR xs qs).map (EI F) ∧ (namA (turnXs tN xs) (qs.map (turnQ tN)).reverse).length = (namA xs qs).length ∧ ∀ j, j < (namA xs qs).length → ∃ i, i < (namA xs qs).length ∧ F i = j := by
  have hnt := names_turn hU xs qs
  have ht1 := tie_good hg
  have ht2 := tie_good hg2
  have hnd1 := nodup_namA xs qs
  have hnd2 := nodup_namA (turnXs tN xs) (qs.map (turnQ tN)).reverse
  obtain ⟨a1, a2, a3⟩ := tie_flat xs qs
  obtain ⟨b1, b2, b3⟩ := tie_flat (turnXs tN xs) (qs.map (turnQ tN)).reverse
  have hx := okA_x xs qs
  have hqq := okA_q xs qs
  have hq2 := okA_q (turnXs tN xs) (qs.map (turnQ tN)).reverse
  have n1 : (tieP xs qs).map (·.1) = qs.map (fun q => ixN (namA xs qs) q.1) := by rw [a3, flatQ_names]
  have n2 : (tieP (turnXs tN xs) (qs.map (turnQ tN)).reverse).map (·.1) = (qs.map (turnQ tN)).reverse.map (fun q => ixN (namA (turnXs tN xs) (qs.map (turnQ tN)).reverse) q.1) := by rw [b3, flatQ_names]
  have m1 := names_nodup hg.q (fun q hq => (hqq q hq).1)
  have m2 := names_nodup hg2.q (fun q hq => (hq2 q hq).1)
  have f1 : ∀ p ∈ tieP xs qs, p.1 < (namA xs qs).length := fun p hp => by
    have hm : p.1 ∈ qs.map (fun q => ixN (namA xs qs) q.1) := by
      rw [← n1]; exact List.mem_map.2 ⟨p, hp, rfl⟩
    obtain ⟨q, hq, e⟩ := List.mem_map.1 hm
    rw [← e]
    exact ixN_lt (hqq q hq).1
  have f2 : ∀ p ∈ tieP (turnXs tN xs) (qs.map (turnQ tN)).reverse, p.1 < (namA (turnXs tN xs) (qs.map (turnQ tN)).reverse).length := fun p hp => by
    have hm : p.1 ∈ (qs.map (turnQ tN)).reverse.map (fun q => ixN (namA (turnXs tN xs) (qs.map (turnQ tN)).reverse) q.1) := by
      rw [← n2]; exact List.mem_map.2 ⟨p, hp, rfl⟩
    obtain ⟨q, hq, e⟩ := List.mem_map.1 hm
    rw [← e]
    exact ixN_lt (hq2 q hq).1
  have e1 := ht1.er
  have e2 := ht2.er
  have ar := fun z (hz : z < (tieN xs qs).length) a (ha : a ∈ ((tieN xs qs).getD z nd0).args) => (good_args (ht1.nd _ (by simp [List.getD, hz]))).1 a ha
  unfold tieE at e1 e2
  generalize tieN xs qs = N1 at *
  generalize tieR xs qs = R1 at *
  generalize tieP xs qs = P1 at *
  generalize tieN (turnXs tN xs) (qs.map (turnQ tN)).reverse = N2 at *
  generalize tieR (turnXs tN xs) (qs.map (turnQ tN)).reverse = R2 at *
  generalize tieP (turnXs tN xs) (qs.map (turnQ tN)).reverse = P2 at *
  generalize namA (turnXs tN xs) (qs.map (turnQ tN)).reverse = ns' at *
  generalize namA xs qs = ns at *
  have hin : ∀ s, inN ns s = true → inN ns' (tN s) = true := fun s hs => (hnt _).2 ⟨s, hs, rfl⟩
  have hl : ns'.length = ns.length := by
    have := sg_len (ns := ns.map tN) (ns' := ns') ⟨map_inj_nodup hI hnd1, hnd2, fun s => by
      rw [hnt s, inN_iff, List.mem_map]
      exact ⟨fun ⟨a, h1, h2⟩ => ⟨a, inN_iff.2 h1, h2.symm⟩, fun ⟨a, h1, h2⟩ => ⟨a, inN_iff.1 h1, h2.symm⟩⟩⟩
    simpa using this
  refine ⟨nmsF tN ns ns' (plXs xs) qs, ?_, ?_, hl, ?_⟩
  all_goals have hFn : ∀ s, inN ns s = true → nmsF tN ns ns' (plXs xs) qs (ixN ns s) = ixN ns' (tN s) := fun s hs => by
                unfold nmsF
                rw [if_pos (ixN_lt hs), ixN_at hs]
  all_goals have hFx := flats_turn (F := nmsF tN ns ns' (plXs xs) qs) hU hFn ns.length ns.length xs hx (fun t ht => by
                unfold nmsF
                rw [if_neg (by omega), if_pos (by omega)])
  · have hlA : (flatXs ns ns.length xs).2.length = plXs xs := flats_pl ns _ xs
    have hlB := flatQ_pl ns (ns.length + plXs xs) qs
    have hFq := flatQ_rev (F := nmsF tN ns ns' (plXs xs) qs) (ns' := ns') hU hFn qs (ns.length + plXs xs) (ns.length + plXs xs) hqq (fun t ht => by
      unfold nmsF
      rw [if_neg (by omega), if_neg (by omega), if_pos (by omega), Nat.add_sub_cancel_left])
    rw [hlA] at a2 a3
    rw [hl, hFx] at b2 b3
    simp only [List.length_map, hlA] at b2 b3
    rw [← a3, ← b3] at hFq
    have hlN : N1.length = ns.length + plXs xs + plQ qs := by
      rw [a2, List.length_append, List.length_append, List.length_replicate, hlA, hlB]
    have hlB2 : (flatQ ns' (ns.length + plXs xs) (qs.map (turnQ tN)).reverse).2.length = plQ qs := by rw [flatQ_pl, plQ_rev hU]
    have hlN2 : N2.length = ns.length + plXs xs + plQ qs := by
      rw [b2, List.length_append, List.length_append, List.length_replicate, List.length_map, hlA, hlB2]
    refine ⟨nms_inj hI hnd1 hl hin, fun z hz => ?_, fun z h1 h2 => ?_, fun z hz => by rw [a2, tri_a hz], fun z hz => by rw [b2, tri_a hz], by omega, by omega, fun p hp => (hFq.1 _).2 ⟨p, hp, rfl⟩, fun q hq => Or.inl ((hFq.1 q).1 hq), by rw [n1]; exact m1, by rw [n2]; exact m2, f1, fun p hp => by have := f2 p hp; omega, e1, e2, ar⟩
    · unfold nmsF
      rw [if_pos hz, ← hl]
      exact ixN_lt (hin _ (sg_in hz))
    · by_cases hzx : z < ns.length + plXs xs
      · have e0 : nmsF tN ns ns' (plXs xs) qs z = z := by
          unfold nmsF
          rw [if_neg (by omega), if_pos hzx]
        rw [e0]
        obtain ⟨t, rfl⟩ : ∃ t, z = ns.length + t := ⟨z - ns.length, by omega⟩
        refine ⟨by omega, by omega, ?_⟩
        rw [b2, a2, tri_b (by simp [hlA]; omega), tri_b (by omega)]
        exact map_getD_nd (by omega)
      · obtain ⟨t, rfl⟩ : ∃ t, z = ns.length + plXs xs + t := ⟨z - (ns.length + plXs xs), by omega⟩
        have e0 : nmsF tN ns ns' (plXs xs) qs (ns.length + plXs xs + t) = ns.length + plXs xs + revF qs t := by
          unfold nmsF
          rw [if_neg (by omega), if_neg (by omega), if_pos (by omega), Nat.add_sub_cancel_left]
        have h3 := revF_lt qs t (by omega)
        have h4 := hFq.2 t (by omega)
        rw [e0]
        refine ⟨by omega, by omega, ?_⟩
        have c1 : N2.getD (ns.length + plXs xs + revF qs t) nd0 = (flatQ ns' (ns.length + plXs xs) (qs.map (turnQ tN)).reverse).2.getD (revF qs t) nd0 := by
          have h9 := tri_c (m := ns.length) (v := varN) (A := (flatXs ns ns.length xs).2.map (renum (EI (nmsF tN ns ns' (plXs xs) qs)))) (B := (flatQ ns' (ns.length + plXs xs) (qs.map (turnQ tN)).reverse).2) (t := revF qs t)
          rw [List.length_map, hlA] at h9
          rw [b2]
          exact h9
        have c2 : N1.getD (ns.length + plXs xs + t) nd0 = (flatQ ns (ns.length + plXs xs) qs).2.getD t nd0 := by
          have h9 := tri_c (m := ns.length) (v := varN) (A := (flatXs ns ns.length xs).2) (B := (flatQ ns (ns.length + plXs xs) qs).2) (t := t)
          rw [hlA] at h9
          rw [a2]
          exact h9
        rw [c1, c2]
        exact h4
  · rw [b1, a1, hl, hFx]
  · intro j hj
    obtain ⟨s, h1, h2⟩ := (hnt (ns'.getD j ⟨#[]⟩)).1 (sg_in (by omega))
    exact ⟨ixN ns s, ixN_lt h1, by rw [hFn s h1, ← h2]; exact ixN_getD hnd2 (by omega)⟩
theorem names_same {tN : ByteArray → ByteArray} (hI : ∀ a b, tN a = tN b → a = b) (hU : ∀ s, isU s = false → isU (tN s) = false) {xs : List Ex} {qs : List (ByteArray × Ex)} (hg : GoodT xs qs) (hb : (namA xs qs).length + othA xs qs ≤ 4096) (hg2 : GoodT (turnXs tN xs) (qs.map (turnQ tN)).reverse) (hb2 : (namA (turnXs tN xs) (qs.map (turnQ tN)).reverse).length + othA (turnXs tN xs) (qs.map (turnQ tN)).reverse ≤ 4096)
    {e e' : Nat → Nat → Bool} (hd : ∀ x y : Nat, (e x y = true ↔ Al (tieG xs qs) (x : Int) (y : Int))) (hd' : ∀ x y : Nat, (e' x y = true ↔ Al (tieG (turnXs tN xs) (qs.map (turnQ tN)).reverse) (x : Int) (y : Int))) :
    trimF (quoF e' (tieG (turnXs tN xs) (qs.map (turnQ tN)).reverse)) = trimF (quoF e (tieG xs qs)) ∧ (nmdF e' (tieG (turnXs tN xs) (qs.map (turnQ tN)).reverse) (tieE (turnXs tN xs) (qs.map (turnQ tN)).reverse) (namA (turnXs tN xs) (qs.map (turnQ tN)).reverse) (namA (turnXs tN xs) (qs.map (turnQ tN)).reverse).length).length = (nmdF e (tieG xs qs) (tieE xs qs) (namA xs qs) (namA xs qs).length).length := by
  obtain ⟨F, hE, hR, hl, hsur⟩ := names_emb hI hU hg hg2
  have hG := tie_goodG hg hb
  have hG2 := tie_goodG hg2 hb2
  have ht := tie_good hg
  have hpr := emb_pr hE ht.rt
  rw [← hR] at hpr
  change Pr (tieG xs qs) (tieG (turnXs tN xs) (qs.map (turnQ tN)).reverse) _ at hpr
  refine ⟨(hpr.least hG hG2 hd hd').symm, ?_⟩
  have p1 := hpr.place hG hG2 hd hd'
  have p2 := hpr.symm.place hG2 hG hd' hd
  rw [nmd_count, nmd_count, hl]
  have hiff : ∀ j, j < (namA xs qs).length → (clsI e (tieG xs qs).nodes.length ((tieE xs qs j : Nat) : Int) ∈ metF (quoF e (tieG xs qs)) ↔ clsI e' (tieG (turnXs tN xs) (qs.map (turnQ tN)).reverse).nodes.length ((tieE (turnXs tN xs) (qs.map (turnQ tN)).reverse (F j) : Nat) : Int) ∈ metF (quoF e' (tieG (turnXs tN xs) (qs.map (turnQ tN)).reverse))) := fun j hj => by
    have hjn : j < (tieN xs qs).length := by have := hE.l1; omega
    exact ⟨fun h => (p1 _ _ ⟨j, hjn, rfl, rfl⟩ h).1, fun h => (p2 _ _ ⟨j, hjn, rfl, rfl⟩ h).1⟩
  apply Nat.le_antisymm
  · have h1 := sub_len _ ((((List.range (namA xs qs).length).filter (fun j => decide (clsI e (tieG xs qs).nodes.length ((tieE xs qs j : Nat) : Int) ∈ metF (quoF e (tieG xs qs)))))).map F) (List.nodup_range.filter (fun j => decide (clsI e' (tieG (turnXs tN xs) (qs.map (turnQ tN)).reverse).nodes.length ((tieE (turnXs tN xs) (qs.map (turnQ tN)).reverse j : Nat) : Int) ∈ metF (quoF e' (tieG (turnXs tN xs) (qs.map (turnQ tN)).reverse)))) (α := Nat)) (fun x hx => by
      obtain ⟨h2, h3⟩ := List.mem_filter.1 hx
      obtain ⟨i, hi, rfl⟩ := hsur x (List.mem_range.1 h2)
      exact List.mem_map.2 ⟨i, List.mem_filter.2 ⟨List.mem_range.2 hi, decide_eq_true ((hiff i hi).2 (of_decide_eq_true h3))⟩, rfl⟩)
    rw [List.length_map] at h1
    exact h1
  · have h1 := sub_len ((((List.range (namA xs qs).length).filter (fun j => decide (clsI e (tieG xs qs).nodes.length ((tieE xs qs j : Nat) : Int) ∈ metF (quoF e (tieG xs qs)))))).map F) ((List.range (namA xs qs).length).filter (fun j => decide (clsI e' (tieG (turnXs tN xs) (qs.map (turnQ tN)).reverse).nodes.length ((tieE (turnXs tN xs) (qs.map (turnQ tN)).reverse j : Nat) : Int) ∈ metF (quoF e' (tieG (turnXs tN xs) (qs.map (turnQ tN)).reverse))))) (map_inj_nodup hE.inj (List.nodup_range.filter _)) (fun x hx => by
      obtain ⟨j, hj, rfl⟩ := List.mem_map.1 hx
      obtain ⟨h2, h3⟩ := List.mem_filter.1 hj
      have h4 := List.mem_range.1 h2
      exact List.mem_filter.2 ⟨List.mem_range.2 (hE.nm j h4), decide_eq_true ((hiff j h4).1 (of_decide_eq_true h3))⟩)
    rw [List.length_map] at h1
    exact h1
end Go.Proofs.Ytncileojdighnaa

namespace Go.Proofs.Ytncileojdighnaa
set_option maxRecDepth 100000
open Go.RowKit
theorem namQ_cat : ∀ (l : List ByteArray) (a b : List (ByteArray × Ex)), namQ l (a ++ b) = namQ (namQ l a) b
  | l, [], b => by rw [List.nil_append, namQ]
  | l, q :: r, b => by rw [List.cons_append, namQ, namQ, namQ_cat _ r b]
abbrev selfQ (s nf : ByteArray) : ByteArray × Ex := (s, .mk 4 nf 0 [vX s])
theorem namA_more {xs : List Ex} {qs : List (ByteArray × Ex)} {s nf : ByteArray} (hs : inN (namA xs qs) s = false) (hu : isU s = false) : namA xs (qs ++ [selfQ s nf]) = namA xs qs ++ [s] := by
  have h1 : putS (namA xs qs) s = namA xs qs ++ [s] := by
    unfold putS
    rw [if_neg (by rw [hs]; simp)]
  have h2 : putS (namA xs qs ++ [s]) s = namA xs qs ++ [s] := by
    unfold putS
    rw [if_pos (by rw [inN_snoc]; simp)]
  have h3 : namA xs (qs ++ [selfQ s nf]) = namX (putS (namA xs qs) s) (.mk 4 nf 0 [vX s]) := by
    unfold namA
    rw [namQ_cat, namQ, namQ]
  rw [h3, h1, namX, if_neg (by simp), namXs, namXs, vX, namX, if_pos (by rw [hu]; rfl), h2, namXs]
section
variable {F : Nat → Nat} {ns ns' : List ByteArray}
theorem flatQ_same (hF : ∀ s, inN ns s = true → F (ixN ns s) = ixN ns' s) : ∀ (p p' : Nat) (qs : List (ByteArray × Ex)), (∀ q ∈ qs, inN ns q.1 = true ∧ okX ns q.2) → (∀ t, t < plQ qs → F (p + t) = p' + t) → flatQ ns' p' qs = ((flatQ ns p qs).1.map (fun y => (F y.1, F y.2)), (flatQ ns p qs).2.map (renum (EI F)))
  | p, p', [], _, _ => by rw [flatQ, flatQ]; rfl
  | p, p', q :: r, hok, hp => by
    have h0 := hok q (by simp)
    rw [plQ] at hp
    have h1 := flat_turn (tN := id) (fun _ h => h) hF p p' q.2 h0.2 (fun t ht => hp t (by omega))
    rw [turn_id] at h1
    rw [flatQ, flatQ, h1]
    simp only [List.length_map, flat_pl]
    rw [flatQ_same hF (p + plX q.2) (p' + plX q.2) r (fun y hy => hok y (by simp [hy])) (fun t ht => by rw [Nat.add_assoc, hp (plX q.2 + t) (by omega)]; omega)]
    simp [hF q.1 h0.1]
end
def oneF (m N : Nat) (z : Nat) : Nat := if z < m then z else if z < N then z + 1 else z + 2
theorem oneF_inj {m N : Nat} (x y : Nat) (e : oneF m N x = oneF m N y) : x = y := by
  unfold oneF at e
  split at e <;> split at e <;> (try split at e) <;> (try split at e) <;> omega
theorem more_emb {xs : List Ex} {qs : List (ByteArray × Ex)} {s nf : ByteArray} (hs : inN (namA xs qs) s = false) (hu : isU s = false) (hg : GoodT xs qs) (hg2 : GoodT xs (qs ++ [selfQ s nf])) :
    Emb (tieN xs qs) (tieN xs (qs ++ [selfQ s nf])) (tieP xs qs) (tieP xs (qs ++ [selfQ s nf])) (namA xs qs).length ((namA xs qs).length + 1) (oneF (namA xs qs).length (tieN xs qs).length) ∧ tieR xs (qs ++ [selfQ s nf]) = (tieR xs qs).map (EI (oneF (namA xs qs).length (tieN xs qs).length)) := by
  have ht1 := tie_good hg
  have ht2 := tie_good hg2
  obtain ⟨a1, a2, a3⟩ := tie_flat xs qs
  obtain ⟨b1, b2, b3⟩ := tie_flat xs (qs ++ [selfQ s nf])
  have hx := okA_x xs qs
  have hqq := okA_q xs qs
  have hq2 := okA_q xs (qs ++ [selfQ s nf])
  have n1 : (tieP xs qs).map (·.1) = qs.map (fun q => ixN (namA xs qs) q.1) := by rw [a3, flatQ_names]
  have n2 : (tieP xs (qs ++ [selfQ s nf])).map (·.1) = (qs ++ [selfQ s nf]).map (fun q => ixN (namA xs (qs ++ [selfQ s nf])) q.1) := by rw [b3, flatQ_names]
  have m1 := names_nodup hg.q (fun q hq => (hqq q hq).1)
  have m2 := names_nodup hg2.q (fun q hq => (hq2 q hq).1)
  have f1 : ∀ p ∈ tieP xs qs, p.1 < (namA xs qs).length := fun p hp => by
    have hm : p.1 ∈ qs.map (fun q => ixN (namA xs qs) q.1) := by
      rw [← n1]; exact List.mem_map.2 ⟨p, hp, rfl⟩
    obtain ⟨q, hq, e⟩ := List.mem_map.1 hm
    rw [← e]
    exact ixN_lt (hqq q hq).1
  have f2 : ∀ p ∈ tieP xs (qs ++ [selfQ s nf]), p.1 < (namA xs (qs ++ [selfQ s nf])).length := fun p hp => by
    have hm : p.1 ∈ (qs ++ [selfQ s nf]).map (fun q => ixN (namA xs (qs ++ [selfQ s nf])) q.1) := by
      rw [← n2]; exact List.mem_map.2 ⟨p, hp, rfl⟩
    obtain ⟨q, hq, e⟩ := List.mem_map.1 hm
    rw [← e]
    exact ixN_lt (hq2 q hq).1
  have e1 := ht1.er
  have e2 := ht2.er
  have ar := fun z (hz : z < (tieN xs qs).length) a (ha : a ∈ ((tieN xs qs).getD z nd0).args) => (good_args (ht1.nd _ (by simp [List.getD, hz]))).1 a ha
  unfold tieE at e1 e2
  have hns := namA_more (nf := nf) hs hu
  rw [hns] at b1 b2 b3 n2 m2 f2
  clear hq2 hns
  generalize tieN xs qs = N1 at *
  generalize tieR xs qs = R1 at *
  generalize tieP xs qs = P1 at *
  generalize tieN xs (qs ++ [selfQ s nf]) = N2 at *
  generalize tieR xs (qs ++ [selfQ s nf]) = R2 at *
  generalize tieP xs (qs ++ [selfQ s nf]) = P2 at *
  generalize namA xs qs = ns at *
  have hlA : (flatXs ns ns.length xs).2.length = plXs xs := flats_pl ns _ xs
  have hlB := flatQ_pl ns (ns.length + plXs xs) qs
  rw [hlA] at a2 a3
  have hlN : N1.length = ns.length + plXs xs + plQ qs := by
    rw [a2, List.length_append, List.length_append, List.length_replicate, hlA, hlB]
  have hl1 : (ns ++ [s]).length = ns.length + 1 := by simp
  rw [hl1] at b1 b2 b3 f2
  have hFn : ∀ y, inN ns y = true → oneF ns.length N1.length (ixN ns y) = ixN (ns ++ [s]) y := fun y hy => by
    unfold oneF
    rw [if_pos (ixN_lt hy), ixN_old hy]
  have hFp : ∀ t, t < plXs xs + plQ qs → oneF ns.length N1.length (ns.length + t) = ns.length + 1 + t := fun t ht => by
    unfold oneF
    rw [if_neg (by omega), if_pos (by omega)]
    omega
  have hFx := flats_turn (tN := id) (fun _ h => h) hFn ns.length (ns.length + 1) xs hx (fun t ht => hFp t (by omega))
  rw [turns_id] at hFx
  have hFq := flatQ_same hFn (ns.length + plXs xs) (ns.length + 1 + plXs xs) qs hqq (fun t ht => by rw [Nat.add_assoc, hFp _ (by omega)]; omega)
  rw [hFx] at b1 b2 b3
  simp only [List.length_map, hlA] at b2 b3
  rw [flatQ_cat, hFq] at b2 b3
  have hlast : flatQ (ns ++ [s]) (ns.length + 1 + plXs xs + plQ qs) [selfQ s nf] = ([(ns.length, ns.length + 1 + plXs xs + plQ qs)], [⟨4, nf, 0, [((ns.length : Nat) : Int)]⟩]) := by
    have h0 : ixN (ns ++ [s]) s = ns.length := ixN_new hs
    rw [flatQ, flatQ, selfQ, flatX, if_neg (by simp), if_neg (by omega), flatXs, flatXs, vX, flatX, if_pos (by rw [hu]; rfl), h0]
    rfl
  rw [hlast] at b2 b3
  rw [← a3] at b3
  have hlN2 : N2.length = N1.length + 2 := by
    rw [b2]
    simp only [List.length_append, List.length_replicate, List.length_map, hlA, hlB, List.length_cons, List.length_nil]
    omega
  refine ⟨⟨oneF_inj, fun z hz => ?_, fun z h1 h2 => ?_, fun z hz => by rw [a2, tri_a hz], fun z hz => by rw [b2, tri_a hz], by omega, by omega, fun p hp => ?_, fun q hq => ?_, by rw [n1]; exact m1, by rw [n2]; exact m2, f1, f2, e1, e2, ar⟩, by rw [b1, ← a1]⟩
  · unfold oneF
    rw [if_pos hz]
    omega
  · have e0 : oneF ns.length N1.length z = z + 1 := by
      unfold oneF
      rw [if_neg (by omega), if_pos h2]
    rw [e0]
    refine ⟨by omega, by omega, ?_⟩
    by_cases hzx : z < ns.length + plXs xs
    · obtain ⟨t, rfl⟩ : ∃ t, z = ns.length + t := ⟨z - ns.length, by omega⟩
      rw [b2, a2, show ns.length + t + 1 = ns.length + 1 + t by omega, tri_b (by simp [hlA]; omega), tri_b (by omega)]
      exact map_getD_nd (by omega)
    · obtain ⟨t, rfl⟩ : ∃ t, z = ns.length + plXs xs + t := ⟨z - (ns.length + plXs xs), by omega⟩
      have c1 := tri_c (m := ns.length + 1) (v := varN) (A := (flatXs ns ns.length xs).2.map (renum (EI (oneF ns.length N1.length)))) (B := (flatQ ns (ns.length + plXs xs) qs).2.map (renum (EI (oneF ns.length N1.length))) ++ [⟨4, nf, 0, [((ns.length : Nat) : Int)]⟩]) (t := t)
      have c2 := tri_c (m := ns.length) (v := varN) (A := (flatXs ns ns.length xs).2) (B := (flatQ ns (ns.length + plXs xs) qs).2) (t := t)
      rw [List.length_map, hlA, ← b2] at c1
      rw [hlA, ← a2] at c2
      rw [show ns.length + plXs xs + t + 1 = ns.length + 1 + plXs xs + t by omega, c1, c2]
      have ht : t < ((flatQ ns (ns.length + plXs xs) qs).2.map (renum (EI (oneF ns.length N1.length)))).length := by
        rw [List.length_map, hlB]
        omega
      simp only [List.getD]
      rw [List.getElem?_append_left ht]
      have ht' : t < (flatQ ns (ns.length + plXs xs) qs).2.length := by simpa using ht
      simp [ht']
  · rw [b3]
    exact List.mem_append.2 (Or.inl (List.mem_map.2 ⟨p, hp, rfl⟩))
  · rw [b3] at hq
    rcases List.mem_append.1 hq with hq | hq
    · obtain ⟨p, hp, e⟩ := List.mem_map.1 hq
      exact Or.inl ⟨p, hp, e.symm⟩
    · simp at hq
      subst hq
      refine Or.inr ⟨fun a e => ?_, fun a e => ?_⟩
      · unfold oneF at e
        split at e
        · simp at e; omega
        · split at e <;> simp at e <;> omega
      · unfold oneF at e
        split at e
        · simp at e; omega
        · split at e <;> simp at e <;> omega
theorem more_same {xs : List Ex} {qs : List (ByteArray × Ex)} {s nf : ByteArray} (hs : inN (namA xs qs) s = false) (hu : isU s = false) (hg : GoodT xs qs) (hb : (namA xs qs).length + othA xs qs ≤ 4096) (hg2 : GoodT xs (qs ++ [selfQ s nf])) (hb2 : (namA xs (qs ++ [selfQ s nf])).length + othA xs (qs ++ [selfQ s nf]) ≤ 4096)
    {e e' : Nat → Nat → Bool} (hd : ∀ x y : Nat, (e x y = true ↔ Al (tieG xs qs) (x : Int) (y : Int))) (hd' : ∀ x y : Nat, (e' x y = true ↔ Al (tieG xs (qs ++ [selfQ s nf])) (x : Int) (y : Int))) : trimF (quoF e' (tieG xs (qs ++ [selfQ s nf]))) = trimF (quoF e (tieG xs qs)) := by
  obtain ⟨hE, hR⟩ := more_emb hs hu hg hg2
  have hpr := emb_pr hE (tie_good hg).rt
  rw [← hR] at hpr
  change Pr (tieG xs qs) (tieG xs (qs ++ [selfQ s nf])) _ at hpr
  exact (hpr.least (tie_goodG hg hb) (tie_goodG hg2 hb2) hd hd').symm
mutual
theorem oc_has (s : ByteArray) : ∀ x : Ex, inN (namX [] x) s = true → hasX s.toList x = true
  | .mk k n m xs, h => by
    rw [hasX]
    rcases (oc_mk _ _ _ _ _).1 h with ⟨h1, h2⟩ | h1
    · subst h2
      rw [Bool.and_eq_true] at h1
      simp [h1.1]
    · simp [ocs_has s xs h1]
theorem ocs_has (s : ByteArray) : ∀ xs : List Ex, inN (namXs [] xs) s = true → hasXs s.toList xs = true
  | [], h => by rw [oc_nil] at h; cases h
  | x :: r, h => by
    rw [hasXs]
    rcases (oc_cons _ _ _).1 h with h1 | h1
    · simp [oc_has s x h1]
    · simp [ocs_has s r h1]
end
theorem hasXs_any (l : List UInt8) : ∀ xs : List Ex, hasXs l xs = true → ∃ x ∈ xs, hasX l x = true
  | [], h => by rw [hasXs] at h; cases h
  | x :: r, h => by
    rw [hasXs, Bool.or_eq_true] at h
    rcases h with h | h
    · exact ⟨x, by simp, h⟩
    · obtain ⟨y, hy, h⟩ := hasXs_any l r h
      exact ⟨y, by simp [hy], h⟩
theorem not_oc {xs : List Ex} {qs : List (ByteArray × Ex)} {s : ByteArray} (h1 : ∀ x ∈ xs, hasX s.toList x = false) (h2 : ∀ q ∈ qs, q.1 ≠ s ∧ hasX s.toList q.2 = false) : inN (namA xs qs) s = false := by
  cases h : inN (namA xs qs) s with
  | false => rfl
  | true =>
    rcases (oc_A _ _ _).1 h with h3 | ⟨q, hq, h3 | h3⟩
    · obtain ⟨x, hx, h4⟩ := hasXs_any _ _ (ocs_has s xs h3)
      rw [h1 x hx] at h4; cases h4
    · exact absurd h3.symm (h2 q hq).1
    · have := oc_has s q.2 h3
      rw [(h2 q hq).2] at this; cases this
end Go.Proofs.Ytncileojdighnaa

/- isWord, IsVar and Quote of package lex; IsVar and Quote of the reference. -/
import Derived.Test.YtklfnphkepfmaaaGreatDoorLxQuo
import Derived.Test.YtklfnphkepfmaaaGreatDoorLxIsW
import Derived.Test.YtklfnphkepfmaaaGreatDoorLxTok
import Derived.Test.YtklfnphkepfmaaaGreatDoorLxQ2
namespace Go.Proofs.YtklfnphkepfmaaaGreatDoor
open Go.RowKit

/-- Bytes with a sign ahead of those that need it. -/
def escL (l : List UInt8) : List UInt8 := l.flatMap fun b => if esc b.toNat = true then [92, b] else [b]
theorem escL_snoc (l : List UInt8) (b : UInt8) : escL (l ++ [b]) = escL l ++ (if esc b.toNat = true then [92, b] else [b]) := by simp [escL]
theorem escL_length (l : List UInt8) : (escL l).length ≤ 2 * l.length := by
  induction l with
  | nil => simp [escL]
  | cons b r ih =>
    have e : escL (b :: r) = (if esc b.toNat = true then [92, b] else [b]) ++ escL r := by simp [escL]
    rw [e, List.length_append]
    simp only [List.length_cons]
    split <;> simp <;> omega
/-- A name as it is written. -/
def quoteS (s : ByteArray) : ByteArray := if isW s 3 = true then s else ⟨([39] ++ escL s.data.toList ++ [39]).toArray⟩
set_option maxHeartbeats 1000000 in
theorem isWord_any (s : ByteArray) (k : Int) (w : World) (hs : s.size ≤ 281474976710656) :
    Calls Tryz.prog 109 #[.string s, .int .i64 k] w fun e w' => e = .returned (.bool (isW s k)) ∧ w' = w := by
  have hk := kindAt_any s 0 w
  have hw := wordEnd_any s 0 w hs (Nat.zero_le _)
  by_cases h1 : kd s 0 = k
  · have n1 : (kd s 0 == k) = true := by simp [h1]
    by_cases h2 : wEnd s 0 = s.size
    · have n2 : ((wEnd s 0 : Int) == (s.size : Int)) = true := by simp [h2]
      have hE : Hid (isW s k = decide ((s.size : Int) ≤ 32)) := decide_eq_decide.2 ⟨fun h => by omega, fun h => ⟨h1, h2, by omega⟩⟩
      clear h1 h2
      go_enter Tryz.func109, Tryz.ntmps109
      go_wp2_with (first | (go_at_call 132; refine hk.mono ?_; rintro e w ⟨rfl, rfl⟩) | (go_at_call 133; refine hw.mono ?_; rintro e w ⟨rfl, rfl⟩))
      go_ret
      exact ⟨ret_bool hE.out.symm, rfl⟩
    · have n2 : ((wEnd s 0 : Int) == (s.size : Int)) = false := beq_eq_false_iff_ne.2 (by omega)
      have hE : Hid (isW s k = false) := decide_eq_false (fun h => h2 h.2.1)
      clear h1 h2
      go_enter Tryz.func109, Tryz.ntmps109
      go_wp2_with (first | (go_at_call 132; refine hk.mono ?_; rintro e w ⟨rfl, rfl⟩) | (go_at_call 133; refine hw.mono ?_; rintro e w ⟨rfl, rfl⟩))
      go_ret
      exact ⟨ret_bool hE.out.symm, rfl⟩
  · have n1 : (kd s 0 == k) = false := beq_eq_false_iff_ne.2 h1
    have hE : Hid (isW s k = false) := decide_eq_false (fun h => h1 h.1)
    clear h1
    go_enter Tryz.func109, Tryz.ntmps109
    go_wp2_with (go_at_call 132; refine hk.mono ?_; rintro e w ⟨rfl, rfl⟩)
    go_ret
    exact ⟨ret_bool hE.out.symm, rfl⟩
set_option maxHeartbeats 400000 in
theorem isVar_any (s : ByteArray) (w : World) (hs : s.size ≤ 281474976710656) :
    Calls Tryz.prog 80 #[.string s] w fun e w' => e = .returned (.bool (isW s 4)) ∧ w' = w := by
  go_enter Tryz.func80, Tryz.ntmps80
  go_wp2_with (go_at_call 109; refine (isWord_any s 4 _ hs).mono ?_; rintro e w ⟨rfl, rfl⟩)
  go_ret
  exact ⟨rfl, rfl⟩
set_option maxHeartbeats 2000000 in
theorem risVar_any (s : ByteArray) (w : World) (hs : s.size ≤ 281474976710656) :
    Calls Tryz.prog 79 #[.string s] w fun e w' => e = .returned (.bool (isW s 4)) ∧ w' = w := by
  have hro := rrow_any s 0 w hs (Nat.zero_le _)
  have e0 : (wEnd s 0 : Int) - ((0 : Nat) : Int) = (wEnd s 0 : Int) := by omega
  rw [e0] at hro
  clear e0
  rcases word_ways s 4 with h | ⟨h, h1 | h1 | ⟨h1, h2, h3⟩ | ⟨h1, h2, h3, h4⟩⟩
  · obtain ⟨g1, g2, g3, g4⟩ := isW_true (by decide) h
    have h0 : 0 < s.size := g1
    have hg := rgreat_any (s[0]'h0).toNat w
    rw [← kd_byte h0, decide_eq_true g3] at hg
    have n2 : ((wEnd s 0 : Int) == (s.size : Int)) = true := by simp [g4]
    have H := hid h
    clear g3 g4 h
    go_enter Tryz.func79, Tryz.ntmps79
    go_wp2_with (first | (go_at_call 112; refine hg.mono ?_; rintro e w ⟨rfl, rfl⟩) | (go_at_call 84; refine hro.mono ?_; rintro e w ⟨rfl, rfl⟩))
    go_ret
    exact ⟨ret_bool H.out.symm, rfl⟩
  · have hd : decide ((1 : Int) ≤ (s.size : Int)) = false := decide_eq_false (by omega)
    have H := hid h
    clear h
    go_enter Tryz.func79, Tryz.ntmps79
    go_wp2
    go_ret
    exact ⟨ret_bool H.out.symm, rfl⟩
  · have hd : decide ((s.size : Int) ≤ 32) = false := decide_eq_false (by omega)
    have H := hid h
    clear h
    go_enter Tryz.func79, Tryz.ntmps79
    go_wp2
    go_ret
    exact ⟨ret_bool H.out.symm, rfl⟩
  · have h0 : 0 < s.size := h1
    have hg := rgreat_any (s[0]'h0).toNat w
    rw [← kd_byte h0, decide_eq_false h3] at hg
    have H := hid h
    clear h3 h
    go_enter Tryz.func79, Tryz.ntmps79
    go_wp2_with (go_at_call 112; refine hg.mono ?_; rintro e w ⟨rfl, rfl⟩)
    go_ret
    exact ⟨ret_bool H.out.symm, rfl⟩
  · have h0 : 0 < s.size := h1
    have hg := rgreat_any (s[0]'h0).toNat w
    rw [← kd_byte h0, decide_eq_true h3] at hg
    have n2 : ((wEnd s 0 : Int) == (s.size : Int)) = false := beq_eq_false_iff_ne.2 (by omega)
    have H := hid h
    clear h3 h4 h
    go_enter Tryz.func79, Tryz.ntmps79
    go_wp2_with (first | (go_at_call 112; refine hg.mono ?_; rintro e w ⟨rfl, rfl⟩) | (go_at_call 84; refine hro.mono ?_; rintro e w ⟨rfl, rfl⟩))
    go_ret
    exact ⟨ret_bool H.out.symm, rfl⟩
theorem row_grown {w wr w1 : World} {o : Obj} {e : TypeId} {z : Nat} {v : Value} {n : Nat} {xs : List Value} (hrow : wr.ownsRow w.heap.size e z v n xs) (hB : Below w.heap.size w wr) (hg : (wr.alloc o).grownBy w1 v.ownBlock) : Below w.heap.size w w1 :=
  (hB.alloc hB.size o).grown hg (by have := hB.size; simp; omega) (fun k e => (hrow.lt k e).1)
theorem take_one (s : ByteArray) (k : Nat) (h : k < s.size) : s.data.toList.take (k + 1) = s.data.toList.take k ++ [s[k]] := by
  rw [List.take_succ_eq_append_getElem (by simpa using h)]
  rfl
theorem byte39 : ((39 : UInt8).toNat : Int) = 39 := rfl
theorem byte92 : ((92 : UInt8).toNat : Int) = 92 := rfl
set_option maxRecDepth 100000 in
set_option maxHeartbeats 2000000 in
theorem quote_any (s : ByteArray) (w : World) (hs : s.size ≤ 1048576) :
    Calls Tryz.prog 76 #[.string s] w fun e w' => e = .returned (.string (quoteS s)) ∧ Below w.heap.size w w' := by
  have hi := fun W => isWord_any s 3 W (by omega)
  cases hw : isW s 3 with
  | true =>
    rw [hw] at hi
    have hq : quoteS s = s := by rw [quoteS, if_pos hw]
    rw [hq]
    clear hq hw
    go_enter Tryz.func76, Tryz.ntmps76
    go_wp2_with (first | (go_at_call 109; refine (hi _).mono ?_; rintro e w ⟨rfl, rfl⟩) | (go_at_call 110; refine (clone_any s _ (by omega)).mono ?_; rintro e w2 ⟨rfl, hb⟩))
    go_ret
    exact ⟨rfl, hb⟩
  | false =>
    rw [hw] at hi
    have hq : quoteS s = ⟨([39] ++ escL s.data.toList ++ [39]).toArray⟩ := by rw [quoteS, if_neg (by rw [hw]; decide)]
    rw [hq]
    have hl := escL_length s.data.toList
    have hsl : s.data.toList.length = s.size := by simp
    clear hq hw
    have hfr : Bd (w.alloc (.cells #[.pointer none, .slice none 0 0] 91)) w.heap.size w.heap.size [] := Lib.fresh_isBuilder _ _ w
    have h39 := writeByte_any hfr 39 (by simp) (by simp)
    rw [byte39] at h39
    go_enter Tryz.func76, Tryz.ntmps76
    go_wp2_with (first | (go_at_call 109; refine (hi _).mono ?_; rintro e w ⟨rfl, rfl⟩) | (go_at_call 51; go_must (refine h39.mono ?_; clear h39; rintro e w2 ⟨rfl, hB2, hb2⟩)))
    have hb02 : Below w.heap.size w w2 := (below_alloc w _).trans hb2
    clear hb2 hfr
    go_loopw [12] (fun i wr => ∃ k : Nat, k ≤ s.size ∧ i = .int .i64 (k : Int) ∧ Bd wr w.heap.size w.heap.size ([39] ++ escL (s.data.toList.take k)) ∧ Below w.heap.size w wr) (fun i _ => s.size - (intOf i).toNat)
    case atStart => exact ⟨0, Nat.zero_le _, rfl, hB2, hb02⟩
    case round =>
      obtain ⟨k, hk, rfl, hB, hb⟩ := hrel
      have hz := hb.size
      have hlk := escL_length (s.data.toList.take k)
      have htk : (s.data.toList.take k).length ≤ k := List.length_take_le _ _
      by_cases hlt : k < s.size
      · have hst := escL_snoc (s.data.toList.take k) s[k]
        rw [← take_one s k hlt] at hst
        have hE := fun W => escaped_any s[k].toNat W
        cases he : esc s[k].toNat with
        | true =>
          rw [he] at hE
          have hst2 : Hid (escL (s.data.toList.take (k + 1)) = escL (s.data.toList.take k) ++ [92, s[k]]) := by show _ = _; rw [hst, if_pos he]
          have h92 := writeByte_any hB 92 (by simp; omega) hz
          rw [byte92] at h92
          clear hst he
          go_wp2_with (first
            | (go_at_call 111; refine (hE _).mono ?_; rintro e wr ⟨rfl, rfl⟩)
            | (go_at_call 51; refine h92.mono ?_; clear h92; rintro e w3 ⟨rfl, hB3, hb3⟩; have h2nd := writeByte_any hB3 s[k] (by simp; omega) (Nat.le_trans hz hb3.size))
            | (go_at_call 51; refine h2nd.mono ?_; rintro e w4 ⟨rfl, hB4, hb4⟩))
          exact ⟨⟨k + 1, by omega, congrArg (Value.int .i64) (by omega), by rw [hst2.out]; simpa using hB4, (hb.trans hb3).trans hb4⟩, by simp [intOf]; omega⟩
        | false =>
          rw [he] at hE
          have hst2 : Hid (escL (s.data.toList.take (k + 1)) = escL (s.data.toList.take k) ++ [s[k]]) := by show _ = _; rw [hst, if_neg (by rw [he]; decide)]
          have h1st := writeByte_any hB s[k] (by simp; omega) hz
          clear hst he
          go_wp2_with (first
            | (go_at_call 111; refine (hE _).mono ?_; rintro e wr ⟨rfl, rfl⟩)
            | (go_at_call 51; refine h1st.mono ?_; rintro e w4 ⟨rfl, hB4, hb4⟩))
          exact ⟨⟨k + 1, by omega, congrArg (Value.int .i64) (by omega), by rw [hst2.out]; simpa using hB4, hb.trans hb4⟩, by simp [intOf]; omega⟩
      · have hall : Hid (s.data.toList.take k = s.data.toList) := List.take_of_length_le (by omega)
        have h39 := writeByte_any hB 39 (by simp; omega) hz
        rw [byte39] at h39
        go_wp2_with (first
          | (go_at_call 51; refine h39.mono ?_; rintro e w4 ⟨rfl, hB4, hb4⟩; have hst := bstring_any hB4 (by simp))
          | (go_at_call 38; refine hst.mono ?_; rintro e w5 ⟨rfl, hb5⟩))
        go_ret
        exact ⟨by rw [hall.out]; simp, (hb.trans hb4).trans hb5⟩
set_option maxRecDepth 100000 in
set_option maxHeartbeats 2000000 in
theorem rquote_any (s : ByteArray) (w : World) (hs : s.size ≤ 1048576) :
    Calls Tryz.prog 44 #[.string s] w fun e w' => e = .returned (.string (quoteS s)) ∧ Below w.heap.size w w' := by
  have hro := fun W => rrow_any s 0 W (by omega) (Nat.zero_le _)
  have e0 : (wEnd s 0 : Int) - ((0 : Nat) : Int) = (wEnd s 0 : Int) := by omega
  rw [e0] at hro
  clear e0
  rcases word_ways s 3 with h | ⟨h, hno⟩
  · obtain ⟨g1, g2, g3, g4⟩ := isW_true (by decide) h
    have hq : quoteS s = s := by rw [quoteS, if_pos h]
    rw [hq]
    have h0 : 0 < s.size := g1
    have hg := fun W => rsmall_any (s[0]'h0).toNat W
    rw [← kd_byte h0, decide_eq_true g3] at hg
    have n2 : ((wEnd s 0 : Int) == (s.size : Int)) = true := by simp [g4]
    clear g3 g4 h hq
    go_enter Tryz.func44, Tryz.ntmps44
    go_wp2_with (first | (go_at_call 83; refine (hg _).mono ?_; rintro e w ⟨rfl, rfl⟩) | (go_at_call 84; refine (hro _).mono ?_; rintro e w ⟨rfl, rfl⟩))
    go_ret
    exact ⟨rfl, Below.refl _ _⟩
  · have hq : quoteS s = ⟨([39] ++ escL s.data.toList ++ [39]).toArray⟩ := by rw [quoteS, if_neg (by rw [h]; decide)]
    rw [hq]
    have hl := escL_length s.data.toList
    have hsl : s.data.toList.length = s.size := by simp
    obtain ⟨i0, hi, hz0, hz1, hz2⟩ := info_parts infoB
    clear hq h
    have hrow0 : (w.alloc (.cells #[.int .u8 39] 5)).ownsRow w.heap.size 5 1 (.slice (some ⟨w.heap.size, 0, none⟩) 1 1) 1 (bcells [39]) :=
      ⟨rfl, Or.inr ⟨w.heap.size, 1, #[.int .u8 39], rfl, Nat.le_refl _, heap_alloc_new w _, Nat.le_refl _, by unfold maxLen; omega, rfl, rfl⟩⟩
    rcases hno with h1 | h1 | ⟨h1, h2, h3⟩ | ⟨h1, h2, h3, h4⟩
    · have hd : decide ((1 : Int) ≤ (s.size : Int)) = false := decide_eq_false (by omega)
      go_enter Tryz.func44, Tryz.ntmps44
      go_wp2
      go_loopw [3, 4] (fun nm i wr => ∃ k : Nat, k ≤ s.size ∧ i = .int .i64 (k : Int) ∧ wr.ownsRow w.heap.size 5 1 nm ([39] ++ escL (s.data.toList.take k)).length (bcells ([39] ++ escL (s.data.toList.take k))) ∧ Below w.heap.size w wr) (fun _ i _ => s.size - (intOf i).toNat)
      case atStart => exact ⟨0, Nat.zero_le _, rfl, hrow0, below_alloc w _⟩
      case round =>
        obtain ⟨k, hk, rfl, hrow, hb⟩ := hrel
        have hz := hb.size
        have hlk := escL_length (s.data.toList.take k)
        have htk : (s.data.toList.take k).length ≤ k := List.length_take_le _ _
        have hLL : ([39] ++ escL (s.data.toList.take k)).length ≤ 2097153 := by simp; omega
        obtain ⟨L, hL⟩ : ∃ L, L = [39] ++ escL (s.data.toList.take k) := ⟨_, rfl⟩
        rw [← hL] at hrow hLL
        have HL := hid hL
        clear hL
        by_cases hlt : k < s.size
        · exact absurd hlt (by omega)
        · have hall : Hid (s.data.toList.take k = s.data.toList) := List.take_of_length_le (by omega)
          obtain ⟨ao, c, rfl⟩ := own_shape hrow
          go_wp2_with (at_builtin; go_must (refine wpList_append_own _ rfl _ _ 49 rfl w.heap.size 5 i0 (.int .u8 0) 1 1 Tryz.underlying49 hi hz0 hz1 hz2 rfl (by decide) _ _ _ rfl (hrow.alloc _) ⟨wr.heap.size, 0, none⟩ 1 1 [.int .u8 39] rfl rfl (cell_one_new _ _ _) (by simp [Value.oneCell']) (by unfold maxLen; omega) (by omega) (by simp; omega) ?_; intro v1 w1 hown1 hg1 _; have b1 := row_grown hrow hb hg1; have hown1' : w1.ownsRow w.heap.size 5 1 v1 (L ++ [39]).length (bcells (L ++ [39])) := (by rw [bcells_snoc, List.length_append]; exact hown1); have hcv := conv_row hown1' (by simp); obtain ⟨ao1, c1, rfl⟩ := own_shape hown1))
          go_ret
          exact ⟨by rw [HL.out, hall.out]; simp, b1⟩
    · have hd : decide ((s.size : Int) ≤ 32) = false := decide_eq_false (by omega)
      go_enter Tryz.func44, Tryz.ntmps44
      go_wp2
      go_loopw [3, 4] (fun nm i wr => ∃ k : Nat, k ≤ s.size ∧ i = .int .i64 (k : Int) ∧ wr.ownsRow w.heap.size 5 1 nm ([39] ++ escL (s.data.toList.take k)).length (bcells ([39] ++ escL (s.data.toList.take k))) ∧ Below w.heap.size w wr) (fun _ i _ => s.size - (intOf i).toNat)
      case atStart => exact ⟨0, Nat.zero_le _, rfl, hrow0, below_alloc w _⟩
      case round =>
        obtain ⟨k, hk, rfl, hrow, hb⟩ := hrel
        have hz := hb.size
        have hlk := escL_length (s.data.toList.take k)
        have htk : (s.data.toList.take k).length ≤ k := List.length_take_le _ _
        have hLL : ([39] ++ escL (s.data.toList.take k)).length ≤ 2097153 := by simp; omega
        obtain ⟨L, hL⟩ : ∃ L, L = [39] ++ escL (s.data.toList.take k) := ⟨_, rfl⟩
        rw [← hL] at hrow hLL
        have HL := hid hL
        clear hL
        by_cases hlt : k < s.size
        · have hst := escL_snoc (s.data.toList.take k) s[k]
          rw [← take_one s k hlt] at hst
          by_cases h39 : s[k].toNat = 39
          · have e39 : (((s[k].toNat : Nat) : Int) == 39) = true := by simp [h39]
            have he : esc s[k].toNat = true := by simp [esc, h39]
            have hst2 : Hid ([39] ++ escL (s.data.toList.take (k + 1)) = L ++ [92] ++ [s[k]]) := by show _ = _; rw [hst, if_pos he, HL.out]; simp
            clear hst he h39
            obtain ⟨ao, c, rfl⟩ := own_shape hrow
            go_wp2_with (first
              | (at_builtin; refine wpList_append_own _ rfl _ _ 49 rfl w.heap.size 5 i0 (.int .u8 0) 1 1 Tryz.underlying49 hi hz0 hz1 hz2 rfl (by decide) _ _ _ rfl (hrow.alloc _) ⟨wr.heap.size, 0, none⟩ 1 1 [.int .u8 92] rfl rfl (cell_one_new _ _ _) (by simp [Value.oneCell']) (by unfold maxLen; omega) (by omega) (by simp; omega) ?_; intro v1 w1 hown1 hg1 _; have b1 := row_grown hrow hb hg1; clear hrow; have hz1w := b1.size; obtain ⟨ao1, c1, rfl⟩ := own_shape hown1)
              | (at_builtin; refine wpList_append_own _ rfl _ _ 49 rfl w.heap.size 5 i0 (.int .u8 0) 1 1 Tryz.underlying49 hi hz0 hz1 hz2 rfl (by decide) _ _ _ rfl (hown1.alloc _) ⟨w1.heap.size, 0, none⟩ 1 1 [.int .u8 (s[k].toNat : Int)] rfl rfl (cell_one_new _ _ _) (by simp [Value.oneCell']) (by unfold maxLen; omega) (by omega) (by simp; omega) ?_; intro v2 w2 hown2 hg2 _; have b2 := row_grown hown1 b1 hg2))
            exact ⟨⟨k + 1, by omega, congrArg (Value.int .i64) (by omega), by rw [hst2.out, bcells_snoc, bcells_snoc, List.length_append, List.length_append]; exact hown2, b2⟩, by simp [intOf]; omega⟩
          · have e39 : (((s[k].toNat : Nat) : Int) == 39) = false := int_ne h39 rfl
            by_cases h92 : s[k].toNat = 92
            · have e92 : (((s[k].toNat : Nat) : Int) == 92) = true := by simp [h92]
              have he : esc s[k].toNat = true := by simp [esc, h92]
              have hst2 : Hid ([39] ++ escL (s.data.toList.take (k + 1)) = L ++ [92] ++ [s[k]]) := by show _ = _; rw [hst, if_pos he, HL.out]; simp
              clear hst he h39 h92
              obtain ⟨ao, c, rfl⟩ := own_shape hrow
              go_wp2_with (first
                | (at_builtin; refine wpList_append_own _ rfl _ _ 49 rfl w.heap.size 5 i0 (.int .u8 0) 1 1 Tryz.underlying49 hi hz0 hz1 hz2 rfl (by decide) _ _ _ rfl (hrow.alloc _) ⟨wr.heap.size, 0, none⟩ 1 1 [.int .u8 92] rfl rfl (cell_one_new _ _ _) (by simp [Value.oneCell']) (by unfold maxLen; omega) (by omega) (by simp; omega) ?_; intro v1 w1 hown1 hg1 _; have b1 := row_grown hrow hb hg1; clear hrow; have hz1w := b1.size; obtain ⟨ao1, c1, rfl⟩ := own_shape hown1)
                | (at_builtin; refine wpList_append_own _ rfl _ _ 49 rfl w.heap.size 5 i0 (.int .u8 0) 1 1 Tryz.underlying49 hi hz0 hz1 hz2 rfl (by decide) _ _ _ rfl (hown1.alloc _) ⟨w1.heap.size, 0, none⟩ 1 1 [.int .u8 (s[k].toNat : Int)] rfl rfl (cell_one_new _ _ _) (by simp [Value.oneCell']) (by unfold maxLen; omega) (by omega) (by simp; omega) ?_; intro v2 w2 hown2 hg2 _; have b2 := row_grown hown1 b1 hg2))
              exact ⟨⟨k + 1, by omega, congrArg (Value.int .i64) (by omega), by rw [hst2.out, bcells_snoc, bcells_snoc, List.length_append, List.length_append]; exact hown2, b2⟩, by simp [intOf]; omega⟩
            · have e92 : (((s[k].toNat : Nat) : Int) == 92) = false := int_ne h92 rfl
              have he : esc s[k].toNat = false := by simp [esc, h39, h92]
              have hst2 : Hid ([39] ++ escL (s.data.toList.take (k + 1)) = L ++ [s[k]]) := by show _ = _; rw [hst, if_neg (by rw [he]; decide), HL.out]; simp
              clear hst he h39 h92
              obtain ⟨ao, c, rfl⟩ := own_shape hrow
              go_wp2_with (at_builtin; go_must (refine wpList_append_own _ rfl _ _ 49 rfl w.heap.size 5 i0 (.int .u8 0) 1 1 Tryz.underlying49 hi hz0 hz1 hz2 rfl (by decide) _ _ _ rfl (hrow.alloc _) ⟨wr.heap.size, 0, none⟩ 1 1 [.int .u8 (s[k].toNat : Int)] rfl rfl (cell_one_new _ _ _) (by simp [Value.oneCell']) (by unfold maxLen; omega) (by omega) (by simp; omega) ?_; intro v1 w1 hown1 hg1 _; have b1 := row_grown hrow hb hg1))
              exact ⟨⟨k + 1, by omega, congrArg (Value.int .i64) (by omega), by rw [hst2.out, bcells_snoc, List.length_append]; exact hown1, b1⟩, by simp [intOf]; omega⟩
        · have hall : Hid (s.data.toList.take k = s.data.toList) := List.take_of_length_le (by omega)
          obtain ⟨ao, c, rfl⟩ := own_shape hrow
          go_wp2_with (at_builtin; go_must (refine wpList_append_own _ rfl _ _ 49 rfl w.heap.size 5 i0 (.int .u8 0) 1 1 Tryz.underlying49 hi hz0 hz1 hz2 rfl (by decide) _ _ _ rfl (hrow.alloc _) ⟨wr.heap.size, 0, none⟩ 1 1 [.int .u8 39] rfl rfl (cell_one_new _ _ _) (by simp [Value.oneCell']) (by unfold maxLen; omega) (by omega) (by simp; omega) ?_; intro v1 w1 hown1 hg1 _; have b1 := row_grown hrow hb hg1; have hown1' : w1.ownsRow w.heap.size 5 1 v1 (L ++ [39]).length (bcells (L ++ [39])) := (by rw [bcells_snoc, List.length_append]; exact hown1); have hcv := conv_row hown1' (by simp); obtain ⟨ao1, c1, rfl⟩ := own_shape hown1))
          go_ret
          exact ⟨by rw [HL.out, hall.out]; simp, b1⟩
    · have h0 : 0 < s.size := h1
      have hg := fun W => rsmall_any (s[0]'h0).toNat W
      rw [← kd_byte h0, decide_eq_false h3] at hg
      clear h3
      go_enter Tryz.func44, Tryz.ntmps44
      go_wp2_with (go_at_call 83; refine (hg _).mono ?_; rintro e w ⟨rfl, rfl⟩)
      go_loopw [3, 4] (fun nm i wr => ∃ k : Nat, k ≤ s.size ∧ i = .int .i64 (k : Int) ∧ wr.ownsRow w.heap.size 5 1 nm ([39] ++ escL (s.data.toList.take k)).length (bcells ([39] ++ escL (s.data.toList.take k))) ∧ Below w.heap.size w wr) (fun _ i _ => s.size - (intOf i).toNat)
      case atStart => exact ⟨0, Nat.zero_le _, rfl, hrow0, below_alloc w _⟩
      case round =>
        obtain ⟨k, hk, rfl, hrow, hb⟩ := hrel
        have hz := hb.size
        have hlk := escL_length (s.data.toList.take k)
        have htk : (s.data.toList.take k).length ≤ k := List.length_take_le _ _
        have hLL : ([39] ++ escL (s.data.toList.take k)).length ≤ 2097153 := by simp; omega
        obtain ⟨L, hL⟩ : ∃ L, L = [39] ++ escL (s.data.toList.take k) := ⟨_, rfl⟩
        rw [← hL] at hrow hLL
        have HL := hid hL
        clear hL
        by_cases hlt : k < s.size
        · have hst := escL_snoc (s.data.toList.take k) s[k]
          rw [← take_one s k hlt] at hst
          by_cases h39 : s[k].toNat = 39
          · have e39 : (((s[k].toNat : Nat) : Int) == 39) = true := by simp [h39]
            have he : esc s[k].toNat = true := by simp [esc, h39]
            have hst2 : Hid ([39] ++ escL (s.data.toList.take (k + 1)) = L ++ [92] ++ [s[k]]) := by show _ = _; rw [hst, if_pos he, HL.out]; simp
            clear hst he h39
            obtain ⟨ao, c, rfl⟩ := own_shape hrow
            go_wp2_with (first
              | (at_builtin; refine wpList_append_own _ rfl _ _ 49 rfl w.heap.size 5 i0 (.int .u8 0) 1 1 Tryz.underlying49 hi hz0 hz1 hz2 rfl (by decide) _ _ _ rfl (hrow.alloc _) ⟨wr.heap.size, 0, none⟩ 1 1 [.int .u8 92] rfl rfl (cell_one_new _ _ _) (by simp [Value.oneCell']) (by unfold maxLen; omega) (by omega) (by simp; omega) ?_; intro v1 w1 hown1 hg1 _; have b1 := row_grown hrow hb hg1; clear hrow; have hz1w := b1.size; obtain ⟨ao1, c1, rfl⟩ := own_shape hown1)
              | (at_builtin; refine wpList_append_own _ rfl _ _ 49 rfl w.heap.size 5 i0 (.int .u8 0) 1 1 Tryz.underlying49 hi hz0 hz1 hz2 rfl (by decide) _ _ _ rfl (hown1.alloc _) ⟨w1.heap.size, 0, none⟩ 1 1 [.int .u8 (s[k].toNat : Int)] rfl rfl (cell_one_new _ _ _) (by simp [Value.oneCell']) (by unfold maxLen; omega) (by omega) (by simp; omega) ?_; intro v2 w2 hown2 hg2 _; have b2 := row_grown hown1 b1 hg2))
            exact ⟨⟨k + 1, by omega, congrArg (Value.int .i64) (by omega), by rw [hst2.out, bcells_snoc, bcells_snoc, List.length_append, List.length_append]; exact hown2, b2⟩, by simp [intOf]; omega⟩
          · have e39 : (((s[k].toNat : Nat) : Int) == 39) = false := int_ne h39 rfl
            by_cases h92 : s[k].toNat = 92
            · have e92 : (((s[k].toNat : Nat) : Int) == 92) = true := by simp [h92]
              have he : esc s[k].toNat = true := by simp [esc, h92]
              have hst2 : Hid ([39] ++ escL (s.data.toList.take (k + 1)) = L ++ [92] ++ [s[k]]) := by show _ = _; rw [hst, if_pos he, HL.out]; simp
              clear hst he h39 h92
              obtain ⟨ao, c, rfl⟩ := own_shape hrow
              go_wp2_with (first
                | (at_builtin; refine wpList_append_own _ rfl _ _ 49 rfl w.heap.size 5 i0 (.int .u8 0) 1 1 Tryz.underlying49 hi hz0 hz1 hz2 rfl (by decide) _ _ _ rfl (hrow.alloc _) ⟨wr.heap.size, 0, none⟩ 1 1 [.int .u8 92] rfl rfl (cell_one_new _ _ _) (by simp [Value.oneCell']) (by unfold maxLen; omega) (by omega) (by simp; omega) ?_; intro v1 w1 hown1 hg1 _; have b1 := row_grown hrow hb hg1; clear hrow; have hz1w := b1.size; obtain ⟨ao1, c1, rfl⟩ := own_shape hown1)
                | (at_builtin; refine wpList_append_own _ rfl _ _ 49 rfl w.heap.size 5 i0 (.int .u8 0) 1 1 Tryz.underlying49 hi hz0 hz1 hz2 rfl (by decide) _ _ _ rfl (hown1.alloc _) ⟨w1.heap.size, 0, none⟩ 1 1 [.int .u8 (s[k].toNat : Int)] rfl rfl (cell_one_new _ _ _) (by simp [Value.oneCell']) (by unfold maxLen; omega) (by omega) (by simp; omega) ?_; intro v2 w2 hown2 hg2 _; have b2 := row_grown hown1 b1 hg2))
              exact ⟨⟨k + 1, by omega, congrArg (Value.int .i64) (by omega), by rw [hst2.out, bcells_snoc, bcells_snoc, List.length_append, List.length_append]; exact hown2, b2⟩, by simp [intOf]; omega⟩
            · have e92 : (((s[k].toNat : Nat) : Int) == 92) = false := int_ne h92 rfl
              have he : esc s[k].toNat = false := by simp [esc, h39, h92]
              have hst2 : Hid ([39] ++ escL (s.data.toList.take (k + 1)) = L ++ [s[k]]) := by show _ = _; rw [hst, if_neg (by rw [he]; decide), HL.out]; simp
              clear hst he h39 h92
              obtain ⟨ao, c, rfl⟩ := own_shape hrow
              go_wp2_with (at_builtin; go_must (refine wpList_append_own _ rfl _ _ 49 rfl w.heap.size 5 i0 (.int .u8 0) 1 1 Tryz.underlying49 hi hz0 hz1 hz2 rfl (by decide) _ _ _ rfl (hrow.alloc _) ⟨wr.heap.size, 0, none⟩ 1 1 [.int .u8 (s[k].toNat : Int)] rfl rfl (cell_one_new _ _ _) (by simp [Value.oneCell']) (by unfold maxLen; omega) (by omega) (by simp; omega) ?_; intro v1 w1 hown1 hg1 _; have b1 := row_grown hrow hb hg1))
              exact ⟨⟨k + 1, by omega, congrArg (Value.int .i64) (by omega), by rw [hst2.out, bcells_snoc, List.length_append]; exact hown1, b1⟩, by simp [intOf]; omega⟩
        · have hall : Hid (s.data.toList.take k = s.data.toList) := List.take_of_length_le (by omega)
          obtain ⟨ao, c, rfl⟩ := own_shape hrow
          go_wp2_with (at_builtin; go_must (refine wpList_append_own _ rfl _ _ 49 rfl w.heap.size 5 i0 (.int .u8 0) 1 1 Tryz.underlying49 hi hz0 hz1 hz2 rfl (by decide) _ _ _ rfl (hrow.alloc _) ⟨wr.heap.size, 0, none⟩ 1 1 [.int .u8 39] rfl rfl (cell_one_new _ _ _) (by simp [Value.oneCell']) (by unfold maxLen; omega) (by omega) (by simp; omega) ?_; intro v1 w1 hown1 hg1 _; have b1 := row_grown hrow hb hg1; have hown1' : w1.ownsRow w.heap.size 5 1 v1 (L ++ [39]).length (bcells (L ++ [39])) := (by rw [bcells_snoc, List.length_append]; exact hown1); have hcv := conv_row hown1' (by simp); obtain ⟨ao1, c1, rfl⟩ := own_shape hown1))
          go_ret
          exact ⟨by rw [HL.out, hall.out]; simp, b1⟩
    · have h0 : 0 < s.size := h1
      have hg := fun W => rsmall_any (s[0]'h0).toNat W
      rw [← kd_byte h0, decide_eq_true h3] at hg
      have n2 : ((wEnd s 0 : Int) == (s.size : Int)) = false := beq_eq_false_iff_ne.2 (by omega)
      clear h3 h4
      go_enter Tryz.func44, Tryz.ntmps44
      go_wp2_with (first | (go_at_call 83; refine (hg _).mono ?_; rintro e w ⟨rfl, rfl⟩) | (go_at_call 84; refine (hro _).mono ?_; rintro e w ⟨rfl, rfl⟩))
      go_loopw [3, 4] (fun nm i wr => ∃ k : Nat, k ≤ s.size ∧ i = .int .i64 (k : Int) ∧ wr.ownsRow w.heap.size 5 1 nm ([39] ++ escL (s.data.toList.take k)).length (bcells ([39] ++ escL (s.data.toList.take k))) ∧ Below w.heap.size w wr) (fun _ i _ => s.size - (intOf i).toNat)
      case atStart => exact ⟨0, Nat.zero_le _, rfl, hrow0, below_alloc w _⟩
      case round =>
        obtain ⟨k, hk, rfl, hrow, hb⟩ := hrel
        have hz := hb.size
        have hlk := escL_length (s.data.toList.take k)
        have htk : (s.data.toList.take k).length ≤ k := List.length_take_le _ _
        have hLL : ([39] ++ escL (s.data.toList.take k)).length ≤ 2097153 := by simp; omega
        obtain ⟨L, hL⟩ : ∃ L, L = [39] ++ escL (s.data.toList.take k) := ⟨_, rfl⟩
        rw [← hL] at hrow hLL
        have HL := hid hL
        clear hL
        by_cases hlt : k < s.size
        · have hst := escL_snoc (s.data.toList.take k) s[k]
          rw [← take_one s k hlt] at hst
          by_cases h39 : s[k].toNat = 39
          · have e39 : (((s[k].toNat : Nat) : Int) == 39) = true := by simp [h39]
            have he : esc s[k].toNat = true := by simp [esc, h39]
            have hst2 : Hid ([39] ++ escL (s.data.toList.take (k + 1)) = L ++ [92] ++ [s[k]]) := by show _ = _; rw [hst, if_pos he, HL.out]; simp
            clear hst he h39
            obtain ⟨ao, c, rfl⟩ := own_shape hrow
            go_wp2_with (first
              | (at_builtin; refine wpList_append_own _ rfl _ _ 49 rfl w.heap.size 5 i0 (.int .u8 0) 1 1 Tryz.underlying49 hi hz0 hz1 hz2 rfl (by decide) _ _ _ rfl (hrow.alloc _) ⟨wr.heap.size, 0, none⟩ 1 1 [.int .u8 92] rfl rfl (cell_one_new _ _ _) (by simp [Value.oneCell']) (by unfold maxLen; omega) (by omega) (by simp; omega) ?_; intro v1 w1 hown1 hg1 _; have b1 := row_grown hrow hb hg1; clear hrow; have hz1w := b1.size; obtain ⟨ao1, c1, rfl⟩ := own_shape hown1)
              | (at_builtin; refine wpList_append_own _ rfl _ _ 49 rfl w.heap.size 5 i0 (.int .u8 0) 1 1 Tryz.underlying49 hi hz0 hz1 hz2 rfl (by decide) _ _ _ rfl (hown1.alloc _) ⟨w1.heap.size, 0, none⟩ 1 1 [.int .u8 (s[k].toNat : Int)] rfl rfl (cell_one_new _ _ _) (by simp [Value.oneCell']) (by unfold maxLen; omega) (by omega) (by simp; omega) ?_; intro v2 w2 hown2 hg2 _; have b2 := row_grown hown1 b1 hg2))
            exact ⟨⟨k + 1, by omega, congrArg (Value.int .i64) (by omega), by rw [hst2.out, bcells_snoc, bcells_snoc, List.length_append, List.length_append]; exact hown2, b2⟩, by simp [intOf]; omega⟩
          · have e39 : (((s[k].toNat : Nat) : Int) == 39) = false := int_ne h39 rfl
            by_cases h92 : s[k].toNat = 92
            · have e92 : (((s[k].toNat : Nat) : Int) == 92) = true := by simp [h92]
              have he : esc s[k].toNat = true := by simp [esc, h92]
              have hst2 : Hid ([39] ++ escL (s.data.toList.take (k + 1)) = L ++ [92] ++ [s[k]]) := by show _ = _; rw [hst, if_pos he, HL.out]; simp
              clear hst he h39 h92
              obtain ⟨ao, c, rfl⟩ := own_shape hrow
              go_wp2_with (first
                | (at_builtin; refine wpList_append_own _ rfl _ _ 49 rfl w.heap.size 5 i0 (.int .u8 0) 1 1 Tryz.underlying49 hi hz0 hz1 hz2 rfl (by decide) _ _ _ rfl (hrow.alloc _) ⟨wr.heap.size, 0, none⟩ 1 1 [.int .u8 92] rfl rfl (cell_one_new _ _ _) (by simp [Value.oneCell']) (by unfold maxLen; omega) (by omega) (by simp; omega) ?_; intro v1 w1 hown1 hg1 _; have b1 := row_grown hrow hb hg1; clear hrow; have hz1w := b1.size; obtain ⟨ao1, c1, rfl⟩ := own_shape hown1)
                | (at_builtin; refine wpList_append_own _ rfl _ _ 49 rfl w.heap.size 5 i0 (.int .u8 0) 1 1 Tryz.underlying49 hi hz0 hz1 hz2 rfl (by decide) _ _ _ rfl (hown1.alloc _) ⟨w1.heap.size, 0, none⟩ 1 1 [.int .u8 (s[k].toNat : Int)] rfl rfl (cell_one_new _ _ _) (by simp [Value.oneCell']) (by unfold maxLen; omega) (by omega) (by simp; omega) ?_; intro v2 w2 hown2 hg2 _; have b2 := row_grown hown1 b1 hg2))
              exact ⟨⟨k + 1, by omega, congrArg (Value.int .i64) (by omega), by rw [hst2.out, bcells_snoc, bcells_snoc, List.length_append, List.length_append]; exact hown2, b2⟩, by simp [intOf]; omega⟩
            · have e92 : (((s[k].toNat : Nat) : Int) == 92) = false := int_ne h92 rfl
              have he : esc s[k].toNat = false := by simp [esc, h39, h92]
              have hst2 : Hid ([39] ++ escL (s.data.toList.take (k + 1)) = L ++ [s[k]]) := by show _ = _; rw [hst, if_neg (by rw [he]; decide), HL.out]; simp
              clear hst he h39 h92
              obtain ⟨ao, c, rfl⟩ := own_shape hrow
              go_wp2_with (at_builtin; go_must (refine wpList_append_own _ rfl _ _ 49 rfl w.heap.size 5 i0 (.int .u8 0) 1 1 Tryz.underlying49 hi hz0 hz1 hz2 rfl (by decide) _ _ _ rfl (hrow.alloc _) ⟨wr.heap.size, 0, none⟩ 1 1 [.int .u8 (s[k].toNat : Int)] rfl rfl (cell_one_new _ _ _) (by simp [Value.oneCell']) (by unfold maxLen; omega) (by omega) (by simp; omega) ?_; intro v1 w1 hown1 hg1 _; have b1 := row_grown hrow hb hg1))
              exact ⟨⟨k + 1, by omega, congrArg (Value.int .i64) (by omega), by rw [hst2.out, bcells_snoc, List.length_append]; exact hown1, b1⟩, by simp [intOf]; omega⟩
        · have hall : Hid (s.data.toList.take k = s.data.toList) := List.take_of_length_le (by omega)
          obtain ⟨ao, c, rfl⟩ := own_shape hrow
          go_wp2_with (at_builtin; go_must (refine wpList_append_own _ rfl _ _ 49 rfl w.heap.size 5 i0 (.int .u8 0) 1 1 Tryz.underlying49 hi hz0 hz1 hz2 rfl (by decide) _ _ _ rfl (hrow.alloc _) ⟨wr.heap.size, 0, none⟩ 1 1 [.int .u8 39] rfl rfl (cell_one_new _ _ _) (by simp [Value.oneCell']) (by unfold maxLen; omega) (by omega) (by simp; omega) ?_; intro v1 w1 hown1 hg1 _; have b1 := row_grown hrow hb hg1; have hown1' : w1.ownsRow w.heap.size 5 1 v1 (L ++ [39]).length (bcells (L ++ [39])) := (by rw [bcells_snoc, List.length_append]; exact hown1); have hcv := conv_row hown1' (by simp); obtain ⟨ao1, c1, rfl⟩ := own_shape hown1))
          go_ret
          exact ⟨by rw [HL.out, hall.out]; simp, b1⟩
end Go.Proofs.YtklfnphkepfmaaaGreatDoor

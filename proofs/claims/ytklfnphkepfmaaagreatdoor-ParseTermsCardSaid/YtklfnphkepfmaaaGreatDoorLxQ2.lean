/- quoted of package lex, at every source and place. -/
import Derived.Test.YtklfnphkepfmaaaGreatDoorLxQ
namespace Go.Proofs.YtklfnphkepfmaaaGreatDoor
open Go.RowKit

theorem keep_q {w w2 : World} {q : Nat} {o : Obj} (hq : w.heap[q]? = some o) (hb : Below w.heap.size w w2) : w2.heap[q]? = some o := by
  rw [hb.block q (lt_of_block hq)]
  exact hq
/-- The end, where the answer is told by another name. -/
theorem ans_end' {w w2 : World} {fn : Func} {t s : Tmp} (hfn : fn.results = #[.cell t 77, .tmp s]) {a : Act} (x : Lx) {y : Lx} (hxy : x = y) {ev : Value} (hq : w2.heap[w.heap.size]? = some (tokObj tk0)) (hb : Below w.heap.size w w2) (hE : Err w2 ev x.code x.pl)
    (h4 : a.tmps[t]?.getD undef = .pointer (some ⟨w.heap.size, 0, none⟩)) (hs : a.tmps[s]?.getD undef = ev) (hd : a.defers = []) : bodyPost Tryz.prog fn (Ans w y) .ret a (tokEnd w2 w.heap.size x.tok) := by
  subst hxy
  exact ans_end hfn x hq hb hE h4 hs hd
theorem int_ne {a b : Nat} {c : Int} (h : a ≠ b) (hc : (b : Int) = c) : ((a : Int) == c) = false := beq_eq_false_iff_ne.2 (by omega)
set_option maxRecDepth 100000 in
set_option maxHeartbeats 4000000 in
theorem quoted_any (s : ByteArray) (a : Nat) (w : World) (hs : s.size ≤ 4194304) (ha : a < s.size) :
    Calls Tryz.prog 154 #[.string s, .int .i64 (a : Int)] w (Ans w (quo s a (a + 1) [])) := by
  obtain ⟨i0, hi, hz0, hz1, hz2⟩ := info_parts infoB
  go_enter Tryz.func154, Tryz.ntmps154
  go_wp2
  go_loopw [6, 7] (fun nm i wr => ∃ (k : Nat) (acc : List UInt8), k ≤ s.size ∧ acc.length ≤ k ∧ i = .int .i64 (k : Int) ∧ wr.ownsRow (w.heap.size + 1) 5 1 nm acc.length (bcells acc) ∧ wr.heap[w.heap.size]? = some (tokObj tk0) ∧ Below w.heap.size w wr ∧ Hid (quo s a k acc = quo s a (a + 1) [])) (fun _ i _ => s.size - (intOf i).toNat)
  case atStart => exact ⟨a + 1, [], by omega, by simp, by go_num, World.ownsRow_nil _ _ _ _, heap_alloc_new w _, below_alloc w _, rfl⟩
  case round =>
    obtain ⟨k, acc, hk, hla, rfl, hrow, hq, hB, hQ⟩ := hrel
    have hzr := hB.size
    have hzq := lt_of_block hq
    by_cases hlt : k < s.size
    · have hQ2 := (quo_in (a := a) (acc := acc) hlt).symm.trans hQ.out
      have hbk := bt_in hlt
      rw [hbk] at hQ2
      by_cases h39 : s[k].toNat = 39
      · rw [if_pos h39] at hQ2
        have e39 : (((s[k].toNat : Nat) : Int) == 39) = true := by simp [h39]
        by_cases hl1 : acc.length < 1
        · have HX : Hid (badT 62 a = quo s a (a + 1) []) := by rw [if_pos (Or.inl hl1)] at hQ2; exact hQ2
          clear hQ2 hbk h39
          obtain ⟨ao, c, rfl⟩ := own_shape hrow
          go_wp2_with (go_at_call 138; refine (none_any _ _ _ (by decide)).mono ?_; rintro x w2 ⟨ev, rfl, hE, hb⟩; have hq2 := keep_q hq hb; obtain ⟨⟨u0, u1, u2, u3, u4, q0, q1, q2, q3, q4⟩, g0, g1, g2, g3, g4⟩ := tok_cells (t := tk0) hq2)
          exact ans_end' Tryz.results154 (badT 62 a) HX.out hq2 (Below.next hB hb) hE (by rfl) (by rfl) rfl
        · by_cases hl2 : 32 < acc.length
          · have HX : Hid (badT 62 a = quo s a (a + 1) []) := by rw [if_pos (Or.inr hl2)] at hQ2; exact hQ2
            clear hQ2 hbk h39
            obtain ⟨ao, c, rfl⟩ := own_shape hrow
            go_wp2_with (go_at_call 138; refine (none_any _ _ _ (by decide)).mono ?_; rintro x w2 ⟨ev, rfl, hE, hb⟩; have hq2 := keep_q hq hb; obtain ⟨⟨u0, u1, u2, u3, u4, q0, q1, q2, q3, q4⟩, g0, g1, g2, g3, g4⟩ := tok_cells (t := tk0) hq2)
            exact ans_end' Tryz.results154 (badT 62 a) HX.out hq2 (Below.next hB hb) hE (by rfl) (by rfl) rfl
          · have HX : Hid (okT ⟨1, ⟨acc.toArray⟩, 0, a, k + 1⟩ = quo s a (a + 1) []) := by rw [if_neg (by omega)] at hQ2; exact hQ2
            have hcv := conv_row hrow (by omega)
            obtain ⟨⟨u0, u1, u2, u3, u4, q0, q1, q2, q3, q4⟩, g0, g1, g2, g3, g4⟩ := tok_cells (t := tk0) hq
            clear hQ2 hbk h39
            obtain ⟨ao, c, rfl⟩ := own_shape hrow
            go_wp2
            exact ans_end' Tryz.results154 (okT ⟨1, ⟨acc.toArray⟩, 0, a, k + 1⟩) HX.out hq hB (err_none _ _) (by rfl) (by rfl) rfl
      · rw [if_neg h39] at hQ2
        have e39 : (((s[k].toNat : Nat) : Int) == 39) = false := int_ne h39 rfl
        by_cases h92 : s[k].toNat = 92
        · rw [if_pos h92] at hQ2
          have e92 : (((s[k].toNat : Nat) : Int) == 92) = true := by simp [h92]
          by_cases hl2 : k + 1 < s.size
          · rw [dif_pos hl2, bt_in hl2] at hQ2
            have ez : (((k : Int) + 1) == (s.size : Int)) = false := beq_eq_false_iff_ne.2 (by omega)
            by_cases he : esc s[k + 1].toNat = true
            · have HX : Hid (quo s a (k + 2) (acc ++ [s[k + 1]]) = quo s a (a + 1) []) := by rw [if_pos he] at hQ2; exact hQ2
              clear hQ2 hbk h39 h92
              obtain ⟨ao, c, rfl⟩ := own_shape hrow
              go_wp2_with (first | (go_at_call 111; refine (escaped_any _ _).mono ?_; rintro x wr ⟨rfl, rfl⟩) | (at_builtin; refine wpList_append_own _ rfl _ _ 49 rfl (w.heap.size + 1) 5 i0 (.int .u8 0) 1 1 Tryz.underlying49 hi hz0 hz1 hz2 rfl (by decide) _ _ _ rfl (hrow.alloc _) ⟨wr.heap.size, 0, none⟩ 1 1 [.int .u8 (s[k + 1].toNat : Int)] rfl rfl (cell_one_new _ _ _) (by simp [Value.oneCell']) (by unfold maxLen; omega) (by omega) (by simp; omega) ?_; intro v' w1 hown' hgrow _))
              obtain ⟨hB1, hq1⟩ := row_next hrow hB hq hgrow
              exact ⟨⟨k + 2, acc ++ [s[k + 1]], by omega, by simp; omega, congrArg (Value.int .i64) (by omega), by rw [bcells_snoc]; simpa using hown', hq1, hB1, HX⟩, by simp [intOf]; omega⟩
            · have he' : esc s[k + 1].toNat = false := by simpa using he
              have HX : Hid (badT 65 k = quo s a (a + 1) []) := by rw [if_neg he] at hQ2; exact hQ2
              clear hQ2 hbk h39 h92 he
              obtain ⟨ao, c, rfl⟩ := own_shape hrow
              go_wp2_with (first | (go_at_call 111; refine (escaped_any _ _).mono ?_; rintro x wr ⟨rfl, rfl⟩) | (go_at_call 138; refine (none_any _ _ _ (by decide)).mono ?_; rintro x w2 ⟨ev, rfl, hE, hb⟩; have hq2 := keep_q hq hb; obtain ⟨⟨u0, u1, u2, u3, u4, q0, q1, q2, q3, q4⟩, g0, g1, g2, g3, g4⟩ := tok_cells (t := tk0) hq2))
              exact ans_end' Tryz.results154 (badT 65 k) HX.out hq2 (Below.next hB hb) hE (by rfl) (by rfl) rfl
          · have ez : (((k : Int) + 1) == (s.size : Int)) = true := by rw [beq_iff_eq]; omega
            have HX : Hid (badT 65 k = quo s a (a + 1) []) := by rw [dif_neg hl2] at hQ2; exact hQ2
            clear hQ2 hbk h39 h92
            obtain ⟨ao, c, rfl⟩ := own_shape hrow
            go_wp2_with (go_at_call 138; refine (none_any _ _ _ (by decide)).mono ?_; rintro x w2 ⟨ev, rfl, hE, hb⟩; have hq2 := keep_q hq hb; obtain ⟨⟨u0, u1, u2, u3, u4, q0, q1, q2, q3, q4⟩, g0, g1, g2, g3, g4⟩ := tok_cells (t := tk0) hq2)
            exact ans_end' Tryz.results154 (badT 65 k) HX.out hq2 (Below.next hB hb) hE (by rfl) (by rfl) rfl
        · rw [if_neg h92] at hQ2
          have e92 : (((s[k].toNat : Nat) : Int) == 92) = false := int_ne h92 rfl
          by_cases hlo : s[k].toNat < 33
          · have HX : Hid (badT 61 k = quo s a (a + 1) []) := by rw [if_pos (Or.inl hlo)] at hQ2; exact hQ2
            clear hQ2 hbk h39 h92
            obtain ⟨ao, c, rfl⟩ := own_shape hrow
            go_wp2_with (go_at_call 138; refine (none_any _ _ _ (by decide)).mono ?_; rintro x w2 ⟨ev, rfl, hE, hb⟩; have hq2 := keep_q hq hb; obtain ⟨⟨u0, u1, u2, u3, u4, q0, q1, q2, q3, q4⟩, g0, g1, g2, g3, g4⟩ := tok_cells (t := tk0) hq2)
            exact ans_end' Tryz.results154 (badT 61 k) HX.out hq2 (Below.next hB hb) hE (by rfl) (by rfl) rfl
          · by_cases hhi : 126 < s[k].toNat
            · have HX : Hid (badT 61 k = quo s a (a + 1) []) := by rw [if_pos (Or.inr hhi)] at hQ2; exact hQ2
              clear hQ2 hbk h39 h92
              obtain ⟨ao, c, rfl⟩ := own_shape hrow
              go_wp2_with (go_at_call 138; refine (none_any _ _ _ (by decide)).mono ?_; rintro x w2 ⟨ev, rfl, hE, hb⟩; have hq2 := keep_q hq hb; obtain ⟨⟨u0, u1, u2, u3, u4, q0, q1, q2, q3, q4⟩, g0, g1, g2, g3, g4⟩ := tok_cells (t := tk0) hq2)
              exact ans_end' Tryz.results154 (badT 61 k) HX.out hq2 (Below.next hB hb) hE (by rfl) (by rfl) rfl
            · have HX : Hid (quo s a (k + 1) (acc ++ [s[k]]) = quo s a (a + 1) []) := by rw [if_neg (by omega)] at hQ2; exact hQ2
              clear hQ2 hbk h39 h92
              obtain ⟨ao, c, rfl⟩ := own_shape hrow
              go_wp2_with (at_builtin; refine wpList_append_own _ rfl _ _ 49 rfl (w.heap.size + 1) 5 i0 (.int .u8 0) 1 1 Tryz.underlying49 hi hz0 hz1 hz2 rfl (by decide) _ _ _ rfl (hrow.alloc _) ⟨wr.heap.size, 0, none⟩ 1 1 [.int .u8 (s[k].toNat : Int)] rfl rfl (cell_one_new _ _ _) (by simp [Value.oneCell']) (by unfold maxLen; omega) (by omega) (by simp; omega) ?_; intro v' w1 hown' hgrow _)
              obtain ⟨hB1, hq1⟩ := row_next hrow hB hq hgrow
              exact ⟨⟨k + 1, acc ++ [s[k]], by omega, by simp; omega, congrArg (Value.int .i64) (by omega), by rw [bcells_snoc]; simpa using hown', hq1, hB1, HX⟩, by simp [intOf]; omega⟩
    · have HX : Hid (badT 64 a = quo s a (a + 1) []) := (quo_end (a := a) (acc := acc) (by omega)).symm.trans hQ.out
      obtain ⟨ao, c, rfl⟩ := own_shape hrow
      go_wp2_with (go_at_call 138; refine (none_any _ _ _ (by decide)).mono ?_; rintro x w2 ⟨ev, rfl, hE, hb⟩; have hq2 := keep_q hq hb; obtain ⟨⟨u0, u1, u2, u3, u4, q0, q1, q2, q3, q4⟩, g0, g1, g2, g3, g4⟩ := tok_cells (t := tk0) hq2)
      exact ans_end' Tryz.results154 (badT 64 a) HX.out hq2 (Below.next hB hb) hE (by rfl) (by rfl) rfl
end Go.Proofs.YtklfnphkepfmaaaGreatDoor

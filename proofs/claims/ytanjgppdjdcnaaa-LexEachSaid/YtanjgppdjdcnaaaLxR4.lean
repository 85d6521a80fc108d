/- quoted of layer 6's reference, at every source and place. -/
import Derived.Test.YtanjgppdjdcnaaaLxR
import Derived.Test.YtanjgppdjdcnaaaLxQ2
import Derived.Deep.RegionLaw
import Derived.Deep.DrawnRows
namespace Go.Proofs.Ytanjgppdjdcnaaa
open Go.RowKit

/-- The block of a fault of the reference. -/
def fltObj (c a : Int) : Obj := .cells #[.int .i64 c, .int .i64 a, .string ⟨#[]⟩, .slice none 0 0] 30
theorem flt_facts {w : World} {q : Nat} {c a : Int} (h : w.heap[q]? = some (fltObj c a)) :
    (w.cell? ⟨q, 0, none⟩ = some (.int .i64 c) ∧ w.cell? ⟨q, 1, none⟩ = some (.int .i64 a) ∧ w.cell? ⟨q, 2, none⟩ = some (.string ⟨#[]⟩) ∧ w.cell? ⟨q, 3, none⟩ = some (.slice none 0 0)) ∧
    (w.frozen? ⟨q, 0, none⟩ = false ∧ w.frozen? ⟨q, 1, none⟩ = false ∧ w.frozen? ⟨q, 2, none⟩ = false ∧ w.frozen? ⟨q, 3, none⟩ = false) := by
  simp [World.cell?, World.frozen?, h, fltObj]
theorem flt_cells {w : World} {q : Nat} {c a : Int} (h : w.heap[q]? = some (fltObj c a)) :
    (∃ u0 u1 u2 u3, w.cell? ⟨q, 0, none⟩ = some u0 ∧ w.cell? ⟨q, 1, none⟩ = some u1 ∧ w.cell? ⟨q, 2, none⟩ = some u2 ∧ w.cell? ⟨q, 3, none⟩ = some u3) ∧
    (w.frozen? ⟨q, 0, none⟩ = false ∧ w.frozen? ⟨q, 1, none⟩ = false ∧ w.frozen? ⟨q, 2, none⟩ = false ∧ w.frozen? ⟨q, 3, none⟩ = false) := by
  obtain ⟨⟨h0, h1, h2, h3⟩, hf⟩ := flt_facts h
  exact ⟨⟨_, _, _, _, h0, h1, h2, h3⟩, hf⟩
abbrev fltEnd (w : World) (q : Nat) (c a : Int) : World :=
  (((w.setCell ⟨q, 0, none⟩ (.int .i64 c)).setCell ⟨q, 1, none⟩ (.int .i64 a)).setCell ⟨q, 2, none⟩ (.string ⟨#[]⟩)).setCell ⟨q, 3, none⟩ (.slice none 0 0)
theorem flt_end {w : World} {q : Nat} {c0 a0 : Int} (c a : Int) (h : w.heap[q]? = some (fltObj c0 a0)) : (fltEnd w q c a).heap[q]? = some (fltObj c a) := by
  have h0 := heap_setCell_same w q 0 _ _ (.int .i64 c) h
  have h1 := heap_setCell_same _ q 1 _ _ (.int .i64 a) h0
  have h2 := heap_setCell_same _ q 2 _ _ (.string ⟨#[]⟩) h1
  have h3 := heap_setCell_same _ q 3 _ _ (.slice none 0 0) h2
  rw [fltEnd, h3]
  rfl
theorem fltEnd_below {W w : World} {B q : Nat} {c a : Int} (h : Below B W w) (hq : B ≤ q) : Below B W (fltEnd w q c a) :=
  (((h.setCell (p := ⟨q, 0, none⟩) hq _).setCell (p := ⟨q, 1, none⟩) hq _).setCell (p := ⟨q, 2, none⟩) hq _).setCell (p := ⟨q, 3, none⟩) hq _
set_option maxHeartbeats 400000 in
theorem no_eq (w : World) :
    Calls Try.prog 24 #[] w fun e w' => e = .returned (flt 0 0) ∧ w' = w.alloc (fltObj 0 0) := by
  go_enter Try.func24, Try.ntmps24
  go_wp2
  exact bodyPost_ret (v := flt 0 0) (by simp [results, Try.results24, go_sem, flt]) rfl ⟨rfl, rfl⟩
set_option maxHeartbeats 400000 in
theorem at_ex (c a : Int) (w : World) :
    Calls Try.prog 21 #[.int .i64 c, .int .i64 a] w fun e w' => e = .returned (flt c a) ∧ Below w.heap.size w w' := by
  go_enter Try.func21, Try.ntmps21
  go_wp2
  exact bodyPost_ret (v := flt c a) (by simp [results, Try.results21, go_sem, flt]) rfl ⟨rfl, (Below.refl _ _).alloc (Nat.le_refl _) _⟩
/-- A name, its end and the fault, as the reference answers them. -/
def QAns (w : World) (x : Lx) (e : Ending) (w' : World) : Prop := e = .returned (.tuple #[.string x.tok.text, .int .i64 (x.tok.end_ : Int), flt x.code x.pl]) ∧ Below w.heap.size w w'
theorem ret_q {w : World} {fn : Func} {s t u : Tmp} (hfn : fn.results = #[.tmp s, .tmp t, .cell u 30]) {tmps : Array Value} {q : Nat} {c a : Int} {v1 v2 : Value} (h1 : tmps[s]?.getD undef = v1) (h2 : tmps[t]?.getD undef = v2) (h4 : tmps[u]?.getD undef = .pointer (some ⟨q, 0, none⟩)) (hq : w.heap[q]? = some (fltObj c a)) : (results fn tmps).run Try.prog w = .ok (.tuple #[v1, v2, flt c a]) w := by
  obtain ⟨⟨z0, z1, z2, z3⟩, _⟩ := flt_facts hq
  simp [results, hfn, go_sem, h1, h2, h4, z0, z1, z2, z3]
theorem q_end {w w2 : World} {a : Act} (x : Lx) {y : Lx} (hxy : x = y) {c0 a0 : Int} (hq : w2.heap[w.heap.size]? = some (fltObj c0 a0)) (hb : Below w.heap.size w w2)
    (h1 : a.tmps[4]?.getD undef = .string x.tok.text) (h2 : a.tmps[5]?.getD undef = .int .i64 (x.tok.end_ : Int)) (h4 : a.tmps[6]?.getD undef = .pointer (some ⟨w.heap.size, 0, none⟩)) (hd : a.defers = []) :
    bodyPost Try.prog Try.f36 (QAns w y) .ret a (fltEnd w2 w.heap.size x.code x.pl) := by
  subst hxy
  exact bodyPost_ret (ret_q Try.results36 h1 h2 h4 (flt_end _ _ hq)) hd ⟨rfl, fltEnd_below hb (Nat.le_refl _)⟩
theorem q_end2 {w w2 : World} {a : Act} (x : Lx) {y : Lx} (hxy : x = y) {c0 a0 : Int} {o : Obj} (hq : w2.heap[w.heap.size]? = some (fltObj c0 a0)) (hb : Below w.heap.size w w2)
    (h1 : a.tmps[4]?.getD undef = .string x.tok.text) (h2 : a.tmps[5]?.getD undef = .int .i64 (x.tok.end_ : Int)) (h4 : a.tmps[6]?.getD undef = .pointer (some ⟨w.heap.size, 0, none⟩)) (hd : a.defers = []) :
    bodyPost Try.prog Try.f36 (QAns w y) .ret a ((fltEnd w2 w.heap.size x.code x.pl).alloc o).drew := by
  subst hxy
  have h := flt_end x.code x.pl hq
  have h' : ((fltEnd w2 w.heap.size x.code x.pl).alloc o).drew.heap[w.heap.size]? = some (fltObj x.code x.pl) := (Below.heap_alloc _ _ _ (lt_of_block h)).trans h
  have hB : Below w.heap.size w (fltEnd w2 w.heap.size x.code x.pl) := fltEnd_below hb (Nat.le_refl _)
  exact bodyPost_ret (ret_q Try.results36 h1 h2 h4 h') hd ⟨rfl, (hB.alloc hB.size _).drew⟩
set_option maxRecDepth 100000 in
set_option maxHeartbeats 4000000 in
theorem rquoted_any (s : ByteArray) (a : Nat) (w : World) (hs : s.size ≤ 4194304) (ha : a < s.size) :
    Calls Try.prog 36 #[.string s, .int .i64 (a : Int)] w (QAns w (quo s a (a + 1) [])) := by
  obtain ⟨i0, hi, hz0, hz1, hz2⟩ := info_parts infoB
  go_enter Try.func36, Try.ntmps36
  go_wp2
  go_loopw [7, 8] (fun nm i wr => ∃ (k : Nat) (acc : List UInt8), k ≤ s.size ∧ acc.length ≤ k ∧ i = .int .i64 (k : Int) ∧ wr.ownsRow (w.heap.size + 1) 5 1 nm acc.length (bcells acc) ∧ wr.heap[w.heap.size]? = some (fltObj 0 0) ∧ Below w.heap.size w wr ∧ Hid (quo s a k acc = quo s a (a + 1) [])) (fun _ i _ => s.size - (intOf i).toNat)
  case atStart =>
    have h1 : ((w.alloc (fltObj 0 0)).alloc (.cells #[] 5)).heap[w.heap.size + 1]? = some (.cells #[] 5) := by
      have := heap_alloc_new (w.alloc (fltObj 0 0)) (.cells #[] 5)
      simpa using this
    have h0 : ((w.alloc (fltObj 0 0)).alloc (.cells #[] 5)).heap[w.heap.size]? = some (fltObj 0 0) := by
      rw [Below.heap_alloc _ _ _ (by simp)]
      exact heap_alloc_new w _
    exact ⟨a + 1, [], by omega, by simp, by go_num, ⟨rfl, Or.inr ⟨w.heap.size + 1, 0, #[], rfl, Nat.le_refl _, h1, Nat.le_refl _, Nat.zero_le _, rfl, rfl⟩⟩, h0, ((Below.refl _ w).alloc (Nat.le_refl _) _).alloc (by simp) _, rfl⟩
  case round =>
    obtain ⟨k, acc, hk, hla, rfl, hrow, hq, hB, hQ⟩ := hrel
    have hzr := hB.size
    have hzq := lt_of_block hq
    by_cases hlt : k < s.size
    · have hQ2 := (quo_in (a := a) (acc := acc) hlt).symm.trans hQ.out
      have hbk := bt_in hlt
      rw [hbk] at hQ2
      by_cases h39 : s[k].toNat = 39
      · rw [if_pos h39] at hQ2
        have e39 : (((s[k].toNat : Nat) : Int) == 39) = true := by simp [h39]
        by_cases hl1 : acc.length < 1
        · have HX : Hid (badT 62 a = quo s a (a + 1) []) := by rw [if_pos (Or.inl hl1)] at hQ2; exact hQ2
          clear hQ2 hbk h39
          obtain ⟨ao, c, rfl⟩ := own_shape hrow
          go_wp2_with (go_at_call 21; refine (at_ex _ _ _).mono ?_; rintro x w2 ⟨rfl, hb⟩; have hq2 := keep_q hq hb; obtain ⟨⟨u0, u1, u2, u3, q0, q1, q2, q3⟩, g0, g1, g2, g3⟩ := flt_cells hq2)
          exact q_end (badT 62 a) HX.out hq2 (Below.next hB hb) (by rfl) (by rfl) (by rfl) rfl
        · by_cases hl2 : 32 < acc.length
          · have HX : Hid (badT 62 a = quo s a (a + 1) []) := by rw [if_pos (Or.inr hl2)] at hQ2; exact hQ2
            clear hQ2 hbk h39
            obtain ⟨ao, c, rfl⟩ := own_shape hrow
            go_wp2_with (go_at_call 21; refine (at_ex _ _ _).mono ?_; rintro x w2 ⟨rfl, hb⟩; have hq2 := keep_q hq hb; obtain ⟨⟨u0, u1, u2, u3, q0, q1, q2, q3⟩, g0, g1, g2, g3⟩ := flt_cells hq2)
            exact q_end (badT 62 a) HX.out hq2 (Below.next hB hb) (by rfl) (by rfl) (by rfl) rfl
          · have HX : Hid (okT ⟨1, ⟨acc.toArray⟩, 0, a, k + 1⟩ = quo s a (a + 1) []) := by rw [if_neg (by omega)] at hQ2; exact hQ2
            have hcv0 := conv_row (w := wr.drew) hrow.drew (by omega)
            have hcv1 := fun o => conv_row (w := (wr.alloc o).drew) (hrow.alloc o).drew (by omega)
            have hwr : IntKind.i64.wrap ((k : Int) + 1) = (k : Int) + 1 := by rw [IntKind.wrap_i64]; omega
            obtain ⟨⟨u0, u1, u2, u3, q0, q1, q2, q3⟩, g0, g1, g2, g3⟩ := flt_cells hq
            clear hQ2 hbk h39
            obtain ⟨ao, c, rfl⟩ := own_shape hrow
            go_wp2
            go_region_law (go_simp; go_at_call 24; refine (no_eq _).mono ?_; rintro e wq ⟨rfl, hwq⟩; subst hwq)
            all_goals go_wp2
            all_goals exact q_end2 (okT ⟨1, ⟨acc.toArray⟩, 0, a, k + 1⟩) HX.out hq hB (by rfl) (by rfl) (by rfl) rfl
      · rw [if_neg h39] at hQ2
        have e39 : (((s[k].toNat : Nat) : Int) == 39) = false := int_ne h39 rfl
        by_cases h92 : s[k].toNat = 92
        · rw [if_pos h92] at hQ2
          have e92 : (((s[k].toNat : Nat) : Int) == 92) = true := by simp [h92]
          by_cases hl2 : k + 1 < s.size
          · rw [dif_pos hl2, bt_in hl2] at hQ2
            have ez : decide ((s.size : Int) ≤ (k : Int) + 1) = false := decide_eq_false (by omega)
            by_cases he : esc s[k + 1].toNat = true
            · have HX : Hid (quo s a (k + 2) (acc ++ [s[k + 1]]) = quo s a (a + 1) []) := by rw [if_pos he] at hQ2; exact hQ2
              have he2 : s[k + 1].toNat = 39 ∨ s[k + 1].toNat = 92 := by simpa [esc] using he
              clear hQ2 hbk h39 h92 he
              obtain ⟨ao, c, rfl⟩ := own_shape hrow
              rcases he2 with he2 | he2
              · have x39 : (((s[k + 1].toNat : Nat) : Int) != 39) = false := by simp [he2]
                clear he2
                go_wp2_with (at_builtin; refine wpList_append_own _ rfl _ _ 59 rfl (w.heap.size + 1) 5 i0 (.int .u8 0) 1 1 Try.underlying59 hi hz0 hz1 hz2 rfl (by decide) _ _ _ rfl (hrow.alloc _) ⟨wr.heap.size, 0, none⟩ 1 1 [.int .u8 (s[k + 1].toNat : Int)] rfl rfl (cell_one_new _ _ _) (by simp [Value.oneCell']) (by unfold maxLen; omega) (by omega) (by simp; omega) ?_; intro v' w1 hown' hgrow _)
                obtain ⟨hB1, hq1⟩ := row_next hrow hB hq hgrow
                exact ⟨⟨k + 2, acc ++ [s[k + 1]], by omega, by simp; omega, congrArg (Value.int .i64) (by omega), by rw [bcells_snoc]; simpa using hown', hq1, hB1, HX⟩, by simp [intOf]; omega⟩
              · have x39 : (((s[k + 1].toNat : Nat) : Int) != 39) = true := by simp [he2]
                have x92 : (((s[k + 1].toNat : Nat) : Int) != 92) = false := by simp [he2]
                clear he2
                go_wp2_with (at_builtin; refine wpList_append_own _ rfl _ _ 59 rfl (w.heap.size + 1) 5 i0 (.int .u8 0) 1 1 Try.underlying59 hi hz0 hz1 hz2 rfl (by decide) _ _ _ rfl (hrow.alloc _) ⟨wr.heap.size, 0, none⟩ 1 1 [.int .u8 (s[k + 1].toNat : Int)] rfl rfl (cell_one_new _ _ _) (by simp [Value.oneCell']) (by unfold maxLen; omega) (by omega) (by simp; omega) ?_; intro v' w1 hown' hgrow _)
                obtain ⟨hB1, hq1⟩ := row_next hrow hB hq hgrow
                exact ⟨⟨k + 2, acc ++ [s[k + 1]], by omega, by simp; omega, congrArg (Value.int .i64) (by omega), by rw [bcells_snoc]; simpa using hown', hq1, hB1, HX⟩, by simp [intOf]; omega⟩
            · have he' : ¬ (s[k + 1].toNat = 39 ∨ s[k + 1].toNat = 92) := fun h => he (by simpa [esc] using h)
              have x39 : (((s[k + 1].toNat : Nat) : Int) != 39) = true := bne_iff_ne.2 (by omega)
              have x92 : (((s[k + 1].toNat : Nat) : Int) != 92) = true := bne_iff_ne.2 (by omega)
              have HX : Hid (badT 65 k = quo s a (a + 1) []) := by rw [if_neg he] at hQ2; exact hQ2
              clear hQ2 hbk h39 h92 he he'
              obtain ⟨ao, c, rfl⟩ := own_shape hrow
              go_wp2_with (go_at_call 21; refine (at_ex _ _ _).mono ?_; rintro x w2 ⟨rfl, hb⟩; have hq2 := keep_q hq hb; obtain ⟨⟨u0, u1, u2, u3, q0, q1, q2, q3⟩, g0, g1, g2, g3⟩ := flt_cells hq2)
              exact q_end (badT 65 k) HX.out hq2 (Below.next hB hb) (by rfl) (by rfl) (by rfl) rfl
          · have ez : decide ((s.size : Int) ≤ (k : Int) + 1) = true := decide_eq_true (by omega)
            have HX : Hid (badT 65 k = quo s a (a + 1) []) := by rw [dif_neg hl2] at hQ2; exact hQ2
            clear hQ2 hbk h39 h92
            obtain ⟨ao, c, rfl⟩ := own_shape hrow
            go_wp2_with (go_at_call 21; refine (at_ex _ _ _).mono ?_; rintro x w2 ⟨rfl, hb⟩; have hq2 := keep_q hq hb; obtain ⟨⟨u0, u1, u2, u3, q0, q1, q2, q3⟩, g0, g1, g2, g3⟩ := flt_cells hq2)
            exact q_end (badT 65 k) HX.out hq2 (Below.next hB hb) (by rfl) (by rfl) (by rfl) rfl
        · rw [if_neg h92] at hQ2
          have e92 : (((s[k].toNat : Nat) : Int) == 92) = false := int_ne h92 rfl
          by_cases hlo : s[k].toNat < 33
          · have HX : Hid (badT 61 k = quo s a (a + 1) []) := by rw [if_pos (Or.inl hlo)] at hQ2; exact hQ2
            clear hQ2 hbk h39 h92
            obtain ⟨ao, c, rfl⟩ := own_shape hrow
            go_wp2_with (go_at_call 21; refine (at_ex _ _ _).mono ?_; rintro x w2 ⟨rfl, hb⟩; have hq2 := keep_q hq hb; obtain ⟨⟨u0, u1, u2, u3, q0, q1, q2, q3⟩, g0, g1, g2, g3⟩ := flt_cells hq2)
            exact q_end (badT 61 k) HX.out hq2 (Below.next hB hb) (by rfl) (by rfl) (by rfl) rfl
          · by_cases hhi : 126 < s[k].toNat
            · have HX : Hid (badT 61 k = quo s a (a + 1) []) := by rw [if_pos (Or.inr hhi)] at hQ2; exact hQ2
              clear hQ2 hbk h39 h92
              obtain ⟨ao, c, rfl⟩ := own_shape hrow
              go_wp2_with (go_at_call 21; refine (at_ex _ _ _).mono ?_; rintro x w2 ⟨rfl, hb⟩; have hq2 := keep_q hq hb; obtain ⟨⟨u0, u1, u2, u3, q0, q1, q2, q3⟩, g0, g1, g2, g3⟩ := flt_cells hq2)
              exact q_end (badT 61 k) HX.out hq2 (Below.next hB hb) (by rfl) (by rfl) (by rfl) rfl
            · have HX : Hid (quo s a (k + 1) (acc ++ [s[k]]) = quo s a (a + 1) []) := by rw [if_neg (by omega)] at hQ2; exact hQ2
              clear hQ2 hbk h39 h92
              obtain ⟨ao, c, rfl⟩ := own_shape hrow
              go_wp2_with (at_builtin; refine wpList_append_own _ rfl _ _ 59 rfl (w.heap.size + 1) 5 i0 (.int .u8 0) 1 1 Try.underlying59 hi hz0 hz1 hz2 rfl (by decide) _ _ _ rfl (hrow.alloc _) ⟨wr.heap.size, 0, none⟩ 1 1 [.int .u8 (s[k].toNat : Int)] rfl rfl (cell_one_new _ _ _) (by simp [Value.oneCell']) (by unfold maxLen; omega) (by omega) (by simp; omega) ?_; intro v' w1 hown' hgrow _)
              obtain ⟨hB1, hq1⟩ := row_next hrow hB hq hgrow
              exact ⟨⟨k + 1, acc ++ [s[k]], by omega, by simp; omega, congrArg (Value.int .i64) (by omega), by rw [bcells_snoc]; simpa using hown', hq1, hB1, HX⟩, by simp [intOf]; omega⟩
    · have HX : Hid (badT 64 a = quo s a (a + 1) []) := (quo_end (a := a) (acc := acc) (by omega)).symm.trans hQ.out
      obtain ⟨ao, c, rfl⟩ := own_shape hrow
      go_wp2_with (go_at_call 21; refine (at_ex _ _ _).mono ?_; rintro x w2 ⟨rfl, hb⟩; have hq2 := keep_q hq hb; obtain ⟨⟨u0, u1, u2, u3, q0, q1, q2, q3⟩, g0, g1, g2, g3⟩ := flt_cells hq2)
      exact q_end (badT 64 a) HX.out hq2 (Below.next hB hb) (by rfl) (by rfl) (by rfl) rfl
end Go.Proofs.Ytanjgppdjdcnaaa

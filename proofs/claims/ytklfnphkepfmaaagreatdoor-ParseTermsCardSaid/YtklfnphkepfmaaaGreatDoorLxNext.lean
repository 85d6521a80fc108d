/- next of package lex: the first token from a place on. -/
import Derived.Test.YtklfnphkepfmaaaGreatDoorLxInt
import Derived.Test.YtklfnphkepfmaaaGreatDoorLxQ2
namespace Go.Proofs.YtklfnphkepfmaaaGreatDoor
open Go.RowKit

/-- The arms' own words. -/
theorem kept_any {w w2 : World} {x : Lx} {e : Ending} (h : Ans (w.alloc (tokObj tk0)) x e w2) : ∃ ev, e = .returned (.tuple #[tokV x.tok, ev]) ∧ Err w2 ev x.code x.pl ∧ Below w.heap.size w w2 ∧ w2.heap[w.heap.size]? = some (tokObj tk0) := by
  obtain ⟨ev, rfl, hE, hb⟩ := h
  exact ⟨ev, rfl, hE, below_first hb, kept_first hb⟩
set_option maxRecDepth 100000 in
set_option maxHeartbeats 1000000 in
theorem next_end {s : ByteArray} {a : Nat} {w : World} (hsk : ∀ W, Calls Tryz.prog 151 #[.string s, .int .i64 (a : Int)] W fun x w' => x = .returned (.int .i64 (s.size : Int)) ∧ w' = W) :
    Calls Tryz.prog 139 #[.string s, .int .i64 (a : Int)] w (Ans w (okT (endT s))) := by
  go_enter Tryz.func139, Tryz.ntmps139
  go_wp2_with (go_at_call 151; refine (hsk _).mono ?_; rintro x w2 ⟨rfl, rfl⟩)
  exact ans_here Tryz.results139 (okT (endT s)) rfl (by rfl) (by rfl) rfl
set_option maxRecDepth 100000 in
set_option maxHeartbeats 1000000 in
theorem next_small {s : ByteArray} {a p : Nat} {w : World} (hs : s.size ≤ 4194304) (hp : p < s.size) (hsk : ∀ W, Calls Tryz.prog 151 #[.string s, .int .i64 (a : Int)] W fun x w' => x = .returned (.int .i64 (p : Int)) ∧ w' = W) (hk : kd s p = 3) :
    Calls Tryz.prog 139 #[.string s, .int .i64 (a : Int)] w (Ans w (wordF s p 1)) := by
  have hz : ((p : Int) == (s.size : Int)) = false := beq_eq_false_iff_ne.2 (by omega)
  have hkd := fun W => kindAt_any s p W
  rw [hk] at hkd
  have hw := fun W => word_any s p 1 W (by omega) (by omega)
  clear hk
  go_enter Tryz.func139, Tryz.ntmps139
  go_wp2_with (first
    | (go_at_call 151; refine (hsk _).mono ?_; rintro x w2 ⟨rfl, rfl⟩)
    | (go_at_call 132; refine (hkd _).mono ?_; clear hkd; rintro x w2 ⟨rfl, rfl⟩)
    | (go_at_call 153; refine (hw _).mono ?_; rintro x w2 h2; obtain ⟨ev, rfl, hE, hb, hq⟩ := kept_any h2; obtain ⟨⟨u0, u1, u2, u3, u4, q0, q1, q2, q3, q4⟩, g0, g1, g2, g3, g4⟩ := tok_cells (t := tk0) hq))
  exact ans_end Tryz.results139 (wordF s p 1) hq hb hE (by rfl) (by rfl) rfl
set_option maxRecDepth 100000 in
set_option maxHeartbeats 1000000 in
theorem next_great {s : ByteArray} {a p : Nat} {w : World} (hs : s.size ≤ 4194304) (hp : p < s.size) (hsk : ∀ W, Calls Tryz.prog 151 #[.string s, .int .i64 (a : Int)] W fun x w' => x = .returned (.int .i64 (p : Int)) ∧ w' = W) (hk : kd s p = 4) :
    Calls Tryz.prog 139 #[.string s, .int .i64 (a : Int)] w (Ans w (wordF s p 2)) := by
  have hz : ((p : Int) == (s.size : Int)) = false := beq_eq_false_iff_ne.2 (by omega)
  have hkd := fun W => kindAt_any s p W
  rw [hk] at hkd
  have hw := fun W => word_any s p 2 W (by omega) (by omega)
  clear hk
  go_enter Tryz.func139, Tryz.ntmps139
  go_wp2_with (first
    | (go_at_call 151; refine (hsk _).mono ?_; rintro x w2 ⟨rfl, rfl⟩)
    | (go_at_call 132; refine (hkd _).mono ?_; clear hkd; rintro x w2 ⟨rfl, rfl⟩)
    | (go_at_call 153; refine (hw _).mono ?_; rintro x w2 h2; obtain ⟨ev, rfl, hE, hb, hq⟩ := kept_any h2; obtain ⟨⟨u0, u1, u2, u3, u4, q0, q1, q2, q3, q4⟩, g0, g1, g2, g3, g4⟩ := tok_cells (t := tk0) hq))
  exact ans_end Tryz.results139 (wordF s p 2) hq hb hE (by rfl) (by rfl) rfl
set_option maxRecDepth 100000 in
set_option maxHeartbeats 1000000 in
theorem next_digit {s : ByteArray} {a p : Nat} {w : World} (hs : s.size ≤ 4194304) (hp : p < s.size) (hsk : ∀ W, Calls Tryz.prog 151 #[.string s, .int .i64 (a : Int)] W fun x w' => x = .returned (.int .i64 (p : Int)) ∧ w' = W) (hk : kd s p = 5) :
    Calls Tryz.prog 139 #[.string s, .int .i64 (a : Int)] w (Ans w (intF s p p)) := by
  have hz : ((p : Int) == (s.size : Int)) = false := beq_eq_false_iff_ne.2 (by omega)
  have hkd := fun W => kindAt_any s p W
  rw [hk] at hkd
  have hi := fun W => integer_any s p p W (by omega) (Or.inl rfl) hk
  clear hk
  go_enter Tryz.func139, Tryz.ntmps139
  go_wp2_with (first
    | (go_at_call 151; refine (hsk _).mono ?_; rintro x w2 ⟨rfl, rfl⟩)
    | (go_at_call 132; refine (hkd _).mono ?_; clear hkd; rintro x w2 ⟨rfl, rfl⟩)
    | (go_at_call 152; refine (hi _).mono ?_; rintro x w2 h2; obtain ⟨ev, rfl, hE, hb, hq⟩ := kept_any h2; obtain ⟨⟨u0, u1, u2, u3, u4, q0, q1, q2, q3, q4⟩, g0, g1, g2, g3, g4⟩ := tok_cells (t := tk0) hq))
  exact ans_end Tryz.results139 (intF s p p) hq hb hE (by rfl) (by rfl) rfl
set_option maxRecDepth 100000 in
set_option maxHeartbeats 1000000 in
theorem next_sign {s : ByteArray} {a p : Nat} {w : World} (hs : s.size ≤ 4194304) (hp : p < s.size) (hsk : ∀ W, Calls Tryz.prog 151 #[.string s, .int .i64 (a : Int)] W fun x w' => x = .returned (.int .i64 (p : Int)) ∧ w' = W) (hk : kd s p = 6) (h5 : kd s (p + 1) = 5) :
    Calls Tryz.prog 139 #[.string s, .int .i64 (a : Int)] w (Ans w (intF s p (p + 1))) := by
  have hz : ((p : Int) == (s.size : Int)) = false := beq_eq_false_iff_ne.2 (by omega)
  have hkd := fun W => kindAt_any s p W
  rw [hk] at hkd
  have hi := fun W => integer_any s p (p + 1) W (by omega) (Or.inr rfl) h5
  have hkd2 := fun W => kindAt_any s (p + 1) W
  rw [h5] at hkd2
  rw [Int.natCast_add, Int.natCast_one] at hi hkd2
  clear h5
  clear hk
  go_enter Tryz.func139, Tryz.ntmps139
  go_wp2_with (first
    | (go_at_call 151; refine (hsk _).mono ?_; rintro x w2 ⟨rfl, rfl⟩)
    | (go_at_call 132; refine (hkd _).mono ?_; clear hkd; rintro x w2 ⟨rfl, rfl⟩)
    | (go_at_call 132; refine (hkd2 _).mono ?_; rintro x w2 ⟨rfl, rfl⟩)
    | (go_at_call 152; refine (hi _).mono ?_; rintro x w2 h2; obtain ⟨ev, rfl, hE, hb, hq⟩ := kept_any h2; obtain ⟨⟨u0, u1, u2, u3, u4, q0, q1, q2, q3, q4⟩, g0, g1, g2, g3, g4⟩ := tok_cells (t := tk0) hq))
  exact ans_end Tryz.results139 (intF s p (p + 1)) hq hb hE (by rfl) (by rfl) rfl
set_option maxRecDepth 100000 in
set_option maxHeartbeats 1000000 in
theorem next_sign_no {s : ByteArray} {a p : Nat} {w : World} (hs : s.size ≤ 4194304) (hp : p < s.size) (hsk : ∀ W, Calls Tryz.prog 151 #[.string s, .int .i64 (a : Int)] W fun x w' => x = .returned (.int .i64 (p : Int)) ∧ w' = W) (hk : kd s p = 6) (h5 : kd s (p + 1) ≠ 5) :
    Calls Tryz.prog 139 #[.string s, .int .i64 (a : Int)] w (Ans w (badT 61 p)) := by
  have hz : ((p : Int) == (s.size : Int)) = false := beq_eq_false_iff_ne.2 (by omega)
  have hkd := fun W => kindAt_any s p W
  rw [hk] at hkd
  have hkd2 := fun W => kindAt_any s (p + 1) W
  have n5 : (kd s (p + 1) != 5) = true := by simpa using h5
  rw [Int.natCast_add, Int.natCast_one] at hkd2
  clear h5
  clear hk
  go_enter Tryz.func139, Tryz.ntmps139
  go_wp2_with (first
    | (go_at_call 151; refine (hsk _).mono ?_; rintro x w2 ⟨rfl, rfl⟩)
    | (go_at_call 132; refine (hkd _).mono ?_; clear hkd; rintro x w2 ⟨rfl, rfl⟩)
    | (go_at_call 132; refine (hkd2 _).mono ?_; rintro x w2 ⟨rfl, rfl⟩)
    | (go_at_call 138; refine (none_any _ _ _ (by decide)).mono ?_; rintro x w2 h2; obtain ⟨ev, rfl, hE, hb, hq⟩ := kept_any h2; obtain ⟨⟨u0, u1, u2, u3, u4, q0, q1, q2, q3, q4⟩, g0, g1, g2, g3, g4⟩ := tok_cells (t := tk0) hq))
  exact ans_end Tryz.results139 (badT 61 p) hq hb hE (by rfl) (by rfl) rfl
set_option maxRecDepth 100000 in
set_option maxHeartbeats 1000000 in
theorem next_quote {s : ByteArray} {a p : Nat} {w : World} (hs : s.size ≤ 4194304) (hp : p < s.size) (hsk : ∀ W, Calls Tryz.prog 151 #[.string s, .int .i64 (a : Int)] W fun x w' => x = .returned (.int .i64 (p : Int)) ∧ w' = W) (hk : kd s p = 7) :
    Calls Tryz.prog 139 #[.string s, .int .i64 (a : Int)] w (Ans w (quo s p (p + 1) [])) := by
  have hz : ((p : Int) == (s.size : Int)) = false := beq_eq_false_iff_ne.2 (by omega)
  have hkd := fun W => kindAt_any s p W
  rw [hk] at hkd
  have hqu := fun W => quoted_any s p W hs hp
  clear hk
  go_enter Tryz.func139, Tryz.ntmps139
  go_wp2_with (first
    | (go_at_call 151; refine (hsk _).mono ?_; rintro x w2 ⟨rfl, rfl⟩)
    | (go_at_call 132; refine (hkd _).mono ?_; clear hkd; rintro x w2 ⟨rfl, rfl⟩)
    | (go_at_call 154; refine (hqu _).mono ?_; rintro x w2 h2; obtain ⟨ev, rfl, hE, hb, hq⟩ := kept_any h2; obtain ⟨⟨u0, u1, u2, u3, u4, q0, q1, q2, q3, q4⟩, g0, g1, g2, g3, g4⟩ := tok_cells (t := tk0) hq))
  exact ans_end Tryz.results139 (quo s p (p + 1) []) hq hb hE (by rfl) (by rfl) rfl
set_option maxRecDepth 100000 in
set_option maxHeartbeats 1000000 in
theorem next_colon {s : ByteArray} {a p : Nat} {w : World} (hs : s.size ≤ 4194304) (hp : p < s.size) (hsk : ∀ W, Calls Tryz.prog 151 #[.string s, .int .i64 (a : Int)] W fun x w' => x = .returned (.int .i64 (p : Int)) ∧ w' = W) (hk : kd s p = 8) (h6 : kd s (p + 1) = 6) :
    Calls Tryz.prog 139 #[.string s, .int .i64 (a : Int)] w (Ans w (okT ⟨4, cutB s p (p + 2), 0, p, p + 2⟩)) := by
  have hz : ((p : Int) == (s.size : Int)) = false := beq_eq_false_iff_ne.2 (by omega)
  have hkd := fun W => kindAt_any s p W
  rw [hk] at hkd
  have h1 : p + 1 < s.size := kd_lt (by omega)
  have hkd2 := fun W => kindAt_any s (p + 1) W
  have hpi := fun W => piece_any s p (p + 2) 4 W (by omega) (by omega) (by omega)
  rw [h6] at hkd2
  rw [Int.natCast_add, Int.natCast_one] at hkd2
  have e2 : ((p + 2 : Nat) : Int) = (p : Int) + 1 + 1 := by omega
  rw [e2] at hpi
  clear h6 e2
  clear hk
  go_enter Tryz.func139, Tryz.ntmps139
  go_wp2_with (first
    | (go_at_call 151; refine (hsk _).mono ?_; rintro x w2 ⟨rfl, rfl⟩)
    | (go_at_call 132; refine (hkd _).mono ?_; clear hkd; rintro x w2 ⟨rfl, rfl⟩)
    | (go_at_call 132; refine (hkd2 _).mono ?_; rintro x w2 ⟨rfl, rfl⟩)
    | (go_at_call 155; refine (hpi _).mono ?_; rintro x w2 ⟨rfl, hb0⟩; have hq := kept_first hb0; have hb := below_first hb0; obtain ⟨⟨u0, u1, u2, u3, u4, q0, q1, q2, q3, q4⟩, g0, g1, g2, g3, g4⟩ := tok_cells (t := tk0) hq))
  exact ans_end Tryz.results139 (okT ⟨4, cutB s p (p + 2), 0, p, p + 2⟩) hq hb (err_none _ _) (by rfl) (by rfl) rfl
set_option maxRecDepth 100000 in
set_option maxHeartbeats 1000000 in
theorem next_colon_no {s : ByteArray} {a p : Nat} {w : World} (hs : s.size ≤ 4194304) (hp : p < s.size) (hsk : ∀ W, Calls Tryz.prog 151 #[.string s, .int .i64 (a : Int)] W fun x w' => x = .returned (.int .i64 (p : Int)) ∧ w' = W) (hk : kd s p = 8) (h6 : kd s (p + 1) ≠ 6) :
    Calls Tryz.prog 139 #[.string s, .int .i64 (a : Int)] w (Ans w (badT 61 p)) := by
  have hz : ((p : Int) == (s.size : Int)) = false := beq_eq_false_iff_ne.2 (by omega)
  have hkd := fun W => kindAt_any s p W
  rw [hk] at hkd
  have hkd2 := fun W => kindAt_any s (p + 1) W
  have n6 : (kd s (p + 1) != 6) = true := by simpa using h6
  rw [Int.natCast_add, Int.natCast_one] at hkd2
  clear h6
  clear hk
  go_enter Tryz.func139, Tryz.ntmps139
  go_wp2_with (first
    | (go_at_call 151; refine (hsk _).mono ?_; rintro x w2 ⟨rfl, rfl⟩)
    | (go_at_call 132; refine (hkd _).mono ?_; clear hkd; rintro x w2 ⟨rfl, rfl⟩)
    | (go_at_call 132; refine (hkd2 _).mono ?_; rintro x w2 ⟨rfl, rfl⟩)
    | (go_at_call 138; refine (none_any _ _ _ (by decide)).mono ?_; rintro x w2 h2; obtain ⟨ev, rfl, hE, hb, hq⟩ := kept_any h2; obtain ⟨⟨u0, u1, u2, u3, u4, q0, q1, q2, q3, q4⟩, g0, g1, g2, g3, g4⟩ := tok_cells (t := tk0) hq))
  exact ans_end Tryz.results139 (badT 61 p) hq hb hE (by rfl) (by rfl) rfl
set_option maxRecDepth 100000 in
set_option maxHeartbeats 1000000 in
theorem next_mark {s : ByteArray} {a p : Nat} {w : World} (hs : s.size ≤ 4194304) (hp : p < s.size) (hsk : ∀ W, Calls Tryz.prog 151 #[.string s, .int .i64 (a : Int)] W fun x w' => x = .returned (.int .i64 (p : Int)) ∧ w' = W) (hk : kd s p = 9) :
    Calls Tryz.prog 139 #[.string s, .int .i64 (a : Int)] w (Ans w (okT ⟨4, cutB s p (p + 1), 0, p, p + 1⟩)) := by
  have hz : ((p : Int) == (s.size : Int)) = false := beq_eq_false_iff_ne.2 (by omega)
  have hkd := fun W => kindAt_any s p W
  rw [hk] at hkd
  have hpi := fun W => piece_any s p (p + 1) 4 W (by omega) (by omega) (by omega)
  have e2 : ((p + 1 : Nat) : Int) = (p : Int) + 1 := by omega
  rw [e2] at hpi
  clear e2
  clear hk
  go_enter Tryz.func139, Tryz.ntmps139
  go_wp2_with (first
    | (go_at_call 151; refine (hsk _).mono ?_; rintro x w2 ⟨rfl, rfl⟩)
    | (go_at_call 132; refine (hkd _).mono ?_; clear hkd; rintro x w2 ⟨rfl, rfl⟩)
    | (go_at_call 155; refine (hpi _).mono ?_; rintro x w2 ⟨rfl, hb0⟩; have hq := kept_first hb0; have hb := below_first hb0; obtain ⟨⟨u0, u1, u2, u3, u4, q0, q1, q2, q3, q4⟩, g0, g1, g2, g3, g4⟩ := tok_cells (t := tk0) hq))
  exact ans_end Tryz.results139 (okT ⟨4, cutB s p (p + 1), 0, p, p + 1⟩) hq hb (err_none _ _) (by rfl) (by rfl) rfl
set_option maxRecDepth 100000 in
set_option maxHeartbeats 1000000 in
theorem next_no {s : ByteArray} {a p : Nat} {w : World} (hs : s.size ≤ 4194304) (hp : p < s.size) (hsk : ∀ W, Calls Tryz.prog 151 #[.string s, .int .i64 (a : Int)] W fun x w' => x = .returned (.int .i64 (p : Int)) ∧ w' = W) (hk : kd s p = 0) :
    Calls Tryz.prog 139 #[.string s, .int .i64 (a : Int)] w (Ans w (badT 61 p)) := by
  have hz : ((p : Int) == (s.size : Int)) = false := beq_eq_false_iff_ne.2 (by omega)
  have hkd := fun W => kindAt_any s p W
  rw [hk] at hkd
  clear hk
  go_enter Tryz.func139, Tryz.ntmps139
  go_wp2_with (first
    | (go_at_call 151; refine (hsk _).mono ?_; rintro x w2 ⟨rfl, rfl⟩)
    | (go_at_call 132; refine (hkd _).mono ?_; clear hkd; rintro x w2 ⟨rfl, rfl⟩)
    | (go_at_call 138; refine (none_any _ _ _ (by decide)).mono ?_; rintro x w2 h2; obtain ⟨ev, rfl, hE, hb, hq⟩ := kept_any h2; obtain ⟨⟨u0, u1, u2, u3, u4, q0, q1, q2, q3, q4⟩, g0, g1, g2, g3, g4⟩ := tok_cells (t := tk0) hq))
  exact ans_end Tryz.results139 (badT 61 p) hq hb hE (by rfl) (by rfl) rfl
/-- next of package lex, at every source and place. -/
theorem next_any (s : ByteArray) (a : Nat) (w : World) (hs : s.size ≤ 4194304) (ha : a ≤ s.size) :
    Calls Tryz.prog 139 #[.string s, .int .i64 (a : Int)] w (Ans w (nxt s a)) := by
  have hsk := fun W => skip_any s a W (by omega) ha
  have hst := skp_stop ha
  have hle := skp_le ha
  unfold nxt
  by_cases he : skp s a = s.size
  · rw [if_pos he]
    rw [he] at hsk
    exact next_end hsk
  · rw [if_neg he]
    have hp : skp s a < s.size := by omega
    have hr := kd_range s (skp s a)
    unfold tokF
    split
    · exact next_small hs hp hsk (by assumption)
    · split
      · exact next_great hs hp hsk (by assumption)
      · split
        · exact next_digit hs hp hsk (by assumption)
        · split
          · split
            · exact next_sign hs hp hsk (by assumption) (by assumption)
            · exact next_sign_no hs hp hsk (by assumption) (by assumption)
          · split
            · exact next_quote hs hp hsk (by assumption)
            · split
              · split
                · exact next_colon hs hp hsk (by assumption) (by assumption)
                · exact next_colon_no hs hp hsk (by assumption) (by assumption)
              · split
                · exact next_mark hs hp hsk (by assumption)
                · exact next_no hs hp hsk (by rcases hst with h | h <;> omega)
end Go.Proofs.YtklfnphkepfmaaaGreatDoor

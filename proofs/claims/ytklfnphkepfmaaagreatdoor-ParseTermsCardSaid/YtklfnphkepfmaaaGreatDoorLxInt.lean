/- integer of package lex. -/
import Derived.Test.YtklfnphkepfmaaaGreatDoorLxTok2
namespace Go.Proofs.YtklfnphkepfmaaaGreatDoor
open Go.RowKit

section
variable {s : ByteArray} {a f e V : Nat} {w : World}
set_option maxHeartbeats 1000000 in
theorem integer_no (hae : a = f) (_hs : s.size ≤ 281474976710656) (hfe : f ≤ e) (he : e ≤ s.size) (hwe : ∀ W, Calls Tryz.prog 133 #[.string s, .int .i64 (f : Int)] W fun x w' => x = .returned (.int .i64 (e : Nat)) ∧ w' = W)
    (hn : ∀ W, Calls Tryz.prog 164 #[.string (s.extract f e)] W fun x w' => x = .returned (.tuple #[.int .i64 (0 : Nat), .bool false]) ∧ w' = W) :
    Calls Tryz.prog 152 #[.string s, .int .i64 (a : Int), .int .i64 (f : Int)] w (Ans w (badT 63 a)) := by
  subst hae
  go_enter Tryz.func152, Tryz.ntmps152
  go_wp2_with (first
    | (go_at_call 133; refine (hwe _).mono ?_; rintro x w2 ⟨rfl, rfl⟩)
    | (go_at_call 164; refine (hn _).mono ?_; rintro x w2 ⟨rfl, rfl⟩)
    | (go_at_call 138; refine (none_any _ _ _ (by decide)).mono ?_; rintro x w2 ⟨ev, rfl, hE, hb⟩; have hq := kept_first hb; obtain ⟨⟨u0, u1, u2, u3, u4, q0, q1, q2, q3, q4⟩, g0, g1, g2, g3, g4⟩ := tok_cells (t := tk0) hq))
  exact ans_end Tryz.results152 (badT 63 a) hq (below_first hb) hE (by rfl) (by rfl) rfl
set_option maxHeartbeats 1000000 in
theorem integer_neg_no (hae : f = a + 1) (_hs : s.size ≤ 281474976710656) (hfe : f ≤ e) (he : e ≤ s.size) (hwe : ∀ W, Calls Tryz.prog 133 #[.string s, .int .i64 (f : Int)] W fun x w' => x = .returned (.int .i64 (e : Nat)) ∧ w' = W) (z : Bool)
    (hn : ∀ W, Calls Tryz.prog 164 #[.string (s.extract f e)] W fun x w' => x = .returned (.tuple #[.int .i64 (0 : Nat), .bool z]) ∧ w' = W) :
    Calls Tryz.prog 152 #[.string s, .int .i64 (a : Int), .int .i64 (f : Int)] w (Ans w (badT 63 a)) := by
  have h1 : (a : Int) < (f : Int) := by omega
  clear hae
  cases z
  all_goals
    go_enter Tryz.func152, Tryz.ntmps152
    go_wp2_with (first
      | (go_at_call 133; refine (hwe _).mono ?_; rintro x w2 ⟨rfl, rfl⟩)
      | (go_at_call 164; refine (hn _).mono ?_; rintro x w2 ⟨rfl, rfl⟩)
      | (go_at_call 138; refine (none_any _ _ _ (by decide)).mono ?_; rintro x w2 ⟨ev, rfl, hE, hb⟩; have hq := kept_first hb; obtain ⟨⟨u0, u1, u2, u3, u4, q0, q1, q2, q3, q4⟩, g0, g1, g2, g3, g4⟩ := tok_cells (t := tk0) hq))
    exact ans_end Tryz.results152 (badT 63 a) hq (below_first hb) hE (by rfl) (by rfl) rfl
end
/-- The end where the token is laid at once. -/
theorem ans_here {w : World} {fn : Func} {t u : Tmp} (hfn : fn.results = #[.cell t 77, .tmp u]) {a : Act} (x : Lx) (hc : x.code = 0)
    (h4 : a.tmps[t]?.getD undef = .pointer (some ⟨w.heap.size, 0, none⟩)) (hs : a.tmps[u]?.getD undef = .nilIface) (hd : a.defers = []) : bodyPost Tryz.prog fn (Ans w x) .ret a (w.alloc (tokObj x.tok)) :=
  bodyPost_ret (ret_tok hfn h4 hs (heap_alloc_new w _)) hd ⟨_, rfl, Or.inl ⟨hc, rfl⟩, below_alloc w _⟩
section
variable {s : ByteArray} {a f e V : Nat} {w : World}
set_option maxHeartbeats 1000000 in
theorem integer_yes (hae : a = f) (_hs : s.size ≤ 281474976710656) (hfe : f ≤ e) (he : e ≤ s.size) (_hV : V ≤ 1125899906842624) (hwe : ∀ W, Calls Tryz.prog 133 #[.string s, .int .i64 (f : Int)] W fun x w' => x = .returned (.int .i64 (e : Nat)) ∧ w' = W)
    (hn : ∀ W, Calls Tryz.prog 164 #[.string (s.extract f e)] W fun x w' => x = .returned (.tuple #[.int .i64 (V : Nat), .bool true]) ∧ w' = W) :
    Calls Tryz.prog 152 #[.string s, .int .i64 (a : Int), .int .i64 (f : Int)] w (Ans w (okT ⟨3, ⟨#[]⟩, (V : Int), a, e⟩)) := by
  subst hae
  go_enter Tryz.func152, Tryz.ntmps152
  go_wp2_with (first
    | (go_at_call 133; refine (hwe _).mono ?_; rintro x w2 ⟨rfl, rfl⟩)
    | (go_at_call 164; refine (hn _).mono ?_; rintro x w2 ⟨rfl, rfl⟩))
  exact ans_here Tryz.results152 (okT ⟨3, ⟨#[]⟩, (V : Int), a, e⟩) rfl (by rfl) (by rfl) rfl
set_option maxHeartbeats 1000000 in
theorem integer_neg_yes (hae : f = a + 1) (_hs : s.size ≤ 281474976710656) (hfe : f ≤ e) (he : e ≤ s.size) (_hV : V ≤ 1125899906842624) (hV0 : V ≠ 0) (hwe : ∀ W, Calls Tryz.prog 133 #[.string s, .int .i64 (f : Int)] W fun x w' => x = .returned (.int .i64 (e : Nat)) ∧ w' = W)
    (hn : ∀ W, Calls Tryz.prog 164 #[.string (s.extract f e)] W fun x w' => x = .returned (.tuple #[.int .i64 (V : Nat), .bool true]) ∧ w' = W) :
    Calls Tryz.prog 152 #[.string s, .int .i64 (a : Int), .int .i64 (f : Int)] w (Ans w (okT ⟨3, ⟨#[]⟩, -(V : Int), a, e⟩)) := by
  have h1 : (a : Int) < (f : Int) := by omega
  have h0 : ((V : Int) != 0) = true := by simpa using hV0
  clear hae hV0
  go_enter Tryz.func152, Tryz.ntmps152
  go_wp2_with (first
    | (go_at_call 133; refine (hwe _).mono ?_; rintro x w2 ⟨rfl, rfl⟩)
    | (go_at_call 164; refine (hn _).mono ?_; rintro x w2 ⟨rfl, rfl⟩))
  exact ans_here Tryz.results152 (okT ⟨3, ⟨#[]⟩, -(V : Int), a, e⟩) rfl (by rfl) (by rfl) rfl
end
theorem cut_size_eq {s : ByteArray} {f e : Nat} (_h : f ≤ e) (he : e ≤ s.size) : (s.extract f e).size = e - f := by
  rw [ByteArray.size_extract]
  omega
theorem numN_le (l : List UInt8) : numN l ≤ 1125899906842624 := by
  unfold numN
  split
  · rename_i h
    simp only [numOk, Bool.and_eq_true, maxI] at h
    exact of_decide_eq_true h.1.1.2
  · omega
/-- integer of package lex. -/
theorem integer_any (s : ByteArray) (a f : Nat) (w : World) (hs : s.size ≤ 281474976710656) (haf : f = a ∨ f = a + 1) (h5 : kd s f = 5) :
    Calls Tryz.prog 152 #[.string s, .int .i64 (a : Int), .int .i64 (f : Int)] w (Ans w (intF s a f)) := by
  have hl : f < s.size := kd_lt (by omega)
  have hgt : f < wEnd s f := wEnd_gt (by omega)
  have hle : wEnd s f ≤ s.size := wEnd_le (by omega)
  have hwe := fun W => wordEnd_any s f W hs (by omega)
  have hsz := cut_size_eq (s := s) (f := f) (e := wEnd s f) (by omega) hle
  have hn := fun W => number_any (s.extract f (wEnd s f)) W (by omega) (by omega)
  have hM := numN_le (s.extract f (wEnd s f)).data.toList
  obtain ⟨d, hd⟩ : ∃ d, d = (s.extract f (wEnd s f)).data.toList := ⟨_, rfl⟩
  rw [← hd] at hn hM
  have hI : intF s a f = if numOk d = true ∧ (a < f → valD d ≠ 0) then okT ⟨3, ⟨#[]⟩, if a < f then -(valD d : Int) else (valD d : Int), a, wEnd s f⟩ else badT 63 a := by rw [hd]; rfl
  rw [hI]
  cases hk : numOk d with
  | false =>
    have e0 : numN d = 0 := by simp [numN, hk]
    rw [hk, e0] at hn
    rw [if_neg (by simp)]
    rcases haf with h | h
    · exact integer_no h.symm hs (Nat.le_of_lt hgt) hle hwe hn
    · exact integer_neg_no h hs (Nat.le_of_lt hgt) hle hwe false hn
  | true =>
    have e0 : numN d = valD d := by simp [numN, hk]
    rw [hk] at hn
    rw [e0] at hn hM
    rcases haf with h | h
    · rw [if_pos ⟨rfl, fun h' => by omega⟩, if_neg (by omega)]
      exact integer_yes h.symm hs (Nat.le_of_lt hgt) hle hM hwe hn
    · by_cases h0 : valD d = 0
      · rw [if_neg (fun h' => h'.2 (by omega) h0)]
        rw [h0] at hn
        exact integer_neg_no h hs (Nat.le_of_lt hgt) hle hwe true hn
      · rw [if_pos ⟨rfl, fun _ => h0⟩, if_pos (by omega)]
        exact integer_neg_yes h hs (Nat.le_of_lt hgt) hle hM h0 hwe hn
end Go.Proofs.YtklfnphkepfmaaaGreatDoor

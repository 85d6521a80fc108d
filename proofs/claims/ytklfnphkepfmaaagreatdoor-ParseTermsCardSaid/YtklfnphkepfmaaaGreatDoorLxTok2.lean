/- word, number and integer of package lex. -/
import Derived.Test.YtklfnphkepfmaaaGreatDoorLxTok
namespace Go.Proofs.YtklfnphkepfmaaaGreatDoor
open Go.RowKit

/-- A token's cells, whatever they hold. -/
theorem tok_cells {w : World} {q : Nat} {t : Tk} (h : w.heap[q]? = some (tokObj t)) :
    (∃ u0 u1 u2 u3 u4, w.cell? ⟨q, 0, none⟩ = some u0 ∧ w.cell? ⟨q, 1, none⟩ = some u1 ∧ w.cell? ⟨q, 2, none⟩ = some u2 ∧ w.cell? ⟨q, 3, none⟩ = some u3 ∧ w.cell? ⟨q, 4, none⟩ = some u4) ∧
    (w.frozen? ⟨q, 0, none⟩ = false ∧ w.frozen? ⟨q, 1, none⟩ = false ∧ w.frozen? ⟨q, 2, none⟩ = false ∧ w.frozen? ⟨q, 3, none⟩ = false ∧ w.frozen? ⟨q, 4, none⟩ = false) := by
  obtain ⟨⟨h0, h1, h2, h3, h4⟩, hf⟩ := tok_facts h
  exact ⟨⟨_, _, _, _, _, h0, h1, h2, h3, h4⟩, hf⟩
/-- The end of a function that answers a token and an error. -/
theorem ans_end {w w2 : World} {fn : Func} {t s : Tmp} (hfn : fn.results = #[.cell t 77, .tmp s]) {a : Act} (x : Lx) {ev : Value} (hq : w2.heap[w.heap.size]? = some (tokObj tk0)) (hb : Below w.heap.size w w2) (hE : Err w2 ev x.code x.pl)
    (h4 : a.tmps[t]?.getD undef = .pointer (some ⟨w.heap.size, 0, none⟩)) (hs : a.tmps[s]?.getD undef = ev) (hd : a.defers = []) : bodyPost Tryz.prog fn (Ans w x) .ret a (tokEnd w2 w.heap.size x.tok) :=
  bodyPost_ret (ret_tok hfn h4 hs (tok_end x.tok hq)) hd ⟨ev, rfl, hE.tokEnd hq, tokEnd_below hb (Nat.le_refl _)⟩
set_option maxHeartbeats 1000000 in
theorem word_any (s : ByteArray) (a : Nat) (k : Int) (w : World) (hs : s.size ≤ 281474976710656) (ha : a ≤ s.size) :
    Calls Tryz.prog 153 #[.string s, .int .i64 (a : Int), .int .i64 k] w (Ans w (wordF s a k)) := by
  have hwe := fun W => wordEnd_any s a W hs ha
  have h1 := wEnd_ge s a
  have h2 := wEnd_le ha
  obtain ⟨e, he⟩ : ∃ e, e = wEnd s a := ⟨_, rfl⟩
  rw [← he] at h1 h2 hwe
  by_cases h : 32 < e - a
  · have hx : wordF s a k = badT 62 a := by rw [wordF, ← he, if_pos h]
    rw [hx]
    have hd : (32 : Int) < (e : Int) - (a : Int) := by omega
    clear hx h he
    go_enter Tryz.func153, Tryz.ntmps153
    go_wp2_with (first
      | (go_at_call 133; refine (hwe _).mono ?_; rintro x w2 ⟨rfl, rfl⟩)
      | (go_at_call 138; refine (none_any _ _ _ (by decide)).mono ?_; rintro x w2 ⟨ev, rfl, hE, hb⟩; have hq := kept_first hb; obtain ⟨⟨u0, u1, u2, u3, u4, q0, q1, q2, q3, q4⟩, g0, g1, g2, g3, g4⟩ := tok_cells (t := tk0) hq))
    exact ans_end Tryz.results153 (badT 62 a) hq (below_first hb) hE (by rfl) (by rfl) rfl
  · have hx : wordF s a k = okT ⟨k, cutB s a e, 0, a, e⟩ := by rw [wordF, ← he, if_neg h]
    rw [hx]
    have hd : ¬ (32 : Int) < (e : Int) - (a : Int) := by omega
    clear hx h he
    go_enter Tryz.func153, Tryz.ntmps153
    go_wp2_with (first
      | (go_at_call 133; refine (hwe _).mono ?_; rintro x w2 ⟨rfl, rfl⟩)
      | (go_at_call 155; refine (piece_any _ _ _ _ _ hs h1 h2).mono ?_; rintro x w2 ⟨rfl, hb⟩; have hq := kept_first hb; obtain ⟨⟨u0, u1, u2, u3, u4, q0, q1, q2, q3, q4⟩, g0, g1, g2, g3, g4⟩ := tok_cells (t := tk0) hq))
    exact ans_end Tryz.results153 (okT ⟨k, cutB s a e, 0, a, e⟩) hq (below_first hb) (err_none _ _) (by rfl) (by rfl) rfl

theorem ret_nb {a b : Nat} {x y : Bool} (h : a = b) (k : x = y) : Ending.returned (.tuple #[.int .i64 (a : Int), .bool x]) = .returned (.tuple #[.int .i64 (b : Int), .bool y]) := by rw [h, k]
theorem take_snoc (s : ByteArray) (k : Nat) (h : k < s.size) : s.data.toList.take (k + 1) = s.data.toList.take k ++ [s[k]] := by
  rw [List.take_succ_eq_append_getElem (by simpa using h)]
  rfl
theorem digs_snoc (l : List UInt8) (b : UInt8) : digs (l ++ [b]) = (digs l && decide (48 ≤ b.toNat ∧ b.toNat ≤ 57)) := by simp [digs]
/-- The number that digits say, 0 if they say none. -/
def numN (l : List UInt8) : Nat := if numOk l = true then valD l else 0
theorem digs_no {d : ByteArray} {k : Nat} (h : k < d.size) (hk : kd d k ≠ 5) : numOk d.data.toList = false := by
  have : digs d.data.toList = false := by
    cases hd : digs d.data.toList with
    | false => rfl
    | true =>
      exfalso
      simp only [digs, List.all_eq_true, decide_eq_true_eq] at hd
      have := hd d[k] (List.mem_of_getElem? (by rw [List.getElem?_eq_getElem (by simpa using h)]; rfl))
      apply hk
      rw [kd, bt_in h]
      exact (kb_5 _).2 this
  simp [numOk, this]
theorem big_no {d : ByteArray} {k : Nat} (hk : maxI < valD (d.data.toList.take k)) : numOk d.data.toList = false := by
  have h := val_append (d.data.toList.take k) (d.data.toList.drop k)
  rw [List.take_append_drop] at h
  have h2 : ¬ valD d.data.toList ≤ maxI := by omega
  simp [numOk, h2]
set_option maxHeartbeats 1000000 in
theorem number_any (d : ByteArray) (w : World) (hs : d.size ≤ 281474976710656) (h0 : 1 ≤ d.size) :
    Calls Tryz.prog 164 #[.string d] w fun e w' => e = .returned (.tuple #[.int .i64 (numN d.data.toList : Nat), .bool (numOk d.data.toList)]) ∧ w' = w := by
  have hhead : d.data.toList.head? = some d[0] := by
    rw [List.head?_eq_getElem?, List.getElem?_eq_getElem (by simp; omega)]
    rfl
  by_cases hz : d[0].toNat = 48 ∧ 1 < d.size
  · have hno : numOk d.data.toList = false := by
      have e0 : d[0] = 48 := UInt8.toNat_inj.1 hz.1
      have e1 : 1 < d.data.toList.length := by simpa using hz.2
      simp [numOk, hhead, e0]
      intros
      simpa using hz.2
    have hN : numN d.data.toList = 0 := by simp [numN, hno]
    rw [hN, hno]
    obtain ⟨z1, z2⟩ := hz
    have z1' : (((d[0].toNat : Nat) : Int) == 48) = true := by simp [z1]
    clear hhead hno hN
    go_enter Tryz.func164, Tryz.ntmps164
    go_wp2
    go_ret2
    exact ⟨rfl, rfl⟩
  · have hend : ∀ k, d.size ≤ k → digs (d.data.toList.take k) = true → valD (d.data.toList.take k) ≤ maxI → numOk d.data.toList = true ∧ valD (d.data.toList.take k) = numN d.data.toList := fun k hk h1 h2 => by
      rw [List.take_of_length_le (by simpa using hk)] at h1 h2 ⊢
      have h3 : ¬ (d.data.toList.head? = some 48 ∧ 1 < d.data.toList.length) := fun h => by
        apply hz
        rw [hhead] at h
        have e := Option.some.inj h.1
        exact ⟨by rw [e]; rfl, by simpa using h.2⟩
      have h4 : numOk d.data.toList = true := by
        simp only [numOk, h1, h2, decide_true, Bool.and_true, Bool.true_and, Bool.and_eq_true, decide_eq_true_eq, Bool.not_eq_true', Bool.and_eq_false_iff, decide_eq_false_iff_not]
        refine ⟨by simpa using h0, ?_⟩
        by_cases hh : d.data.toList.head? = some 48
        · exact Or.inr (fun h => h3 ⟨hh, h⟩)
        · exact Or.inl hh
      exact ⟨h4, by rw [numN, if_pos h4]⟩
    have hE := hid hend
    clear hend hhead
    have hgo : ∀ (z : Bool), (((d[0].toNat : Nat) : Int) == 48) = z → (z = true → d.size ≤ 1) →
        Calls Tryz.prog 164 #[.string d] w fun e w' => e = .returned (.tuple #[.int .i64 (numN d.data.toList : Nat), .bool (numOk d.data.toList)]) ∧ w' = w := by
      intro z hz1 hz2
      cases z with
      | true =>
        have hz3 := hz2 rfl
        clear hz2
        go_enter Tryz.func164, Tryz.ntmps164
        go_wp2
        go_loop [4, 16] (fun n i => ∃ k V : Nat, k ≤ d.size ∧ i = .int .i64 k ∧ n = .int .i64 V ∧ Hid (V = valD (d.data.toList.take k)) ∧ Hid (digs (d.data.toList.take k) = true) ∧ V ≤ 1125899906842624) (fun _ i => d.size - (intOf i).toNat)
        case atStart => exact ⟨0, 0, by omega, rfl, rfl, rfl, rfl, by omega⟩
        case round =>
          obtain ⟨k, V, hk, rfl, rfl, hV, hD, hM⟩ := hrel
          by_cases hlt : k < d.size
          · have hc := kindAt_any d k w
            by_cases h5 : kd d k = 5
            · have hb := (kb_5 (bt d k)).1 h5
              rw [bt_in hlt] at hb
              have hb1 : 48 ≤ (d[k].toNat : Int) := by omega
              have hb2 : (d[k].toNat : Int) ≤ 57 := by omega
              have hV' : Hid (10 * V + (d[k].toNat - 48) = valD (d.data.toList.take (k + 1))) := by
                have e := val_snoc (d.data.toList.take k) d[k]
                rw [← take_snoc d k hlt, ← hV.out] at e
                exact e.symm
              by_cases hm : 10 * V + (d[k].toNat - 48) ≤ 1125899906842624
              · have hD' : Hid (digs (d.data.toList.take (k + 1)) = true) := by
                  show _ = _
                  rw [take_snoc d k hlt, digs_snoc, hD.out]
                  simpa using hb
                have hm' : 10 * (V : Int) + ((d[k].toNat : Int) - 48) ≤ 1125899906842624 := by omega
                go_wp2_with (go_at_call 132; refine hc.mono ?_; rintro e w ⟨rfl, rfl⟩)
                exact ⟨⟨k + 1, _, by omega, congrArg (Value.int .i64) (by omega), congrArg (Value.int .i64) (by omega), hV', hD', hm⟩, by simp [intOf]; omega⟩
              · have hm' : ¬ 10 * (V : Int) + ((d[k].toNat : Int) - 48) ≤ 1125899906842624 := by omega
                have hno := big_no (d := d) (k := k + 1) (by rw [← hV'.out]; unfold maxI; omega)
                have hN : Hid (0 = numN d.data.toList ∧ false = numOk d.data.toList) := ⟨by simp [numN, hno], hno.symm⟩
                clear hno
                go_wp2_with (go_at_call 132; refine hc.mono ?_; rintro e w ⟨rfl, rfl⟩)
                go_ret2
                exact ⟨ret_nb hN.out.1 hN.out.2, rfl⟩
            · have hno := digs_no hlt h5
              have hN : Hid (0 = numN d.data.toList ∧ false = numOk d.data.toList) := ⟨by simp [numN, hno], hno.symm⟩
              have n5 : (kd d k == 5) = false := beq_eq_false_iff_ne.2 h5
              clear hno
              go_wp2_with (go_at_call 132; refine hc.mono ?_; rintro e w ⟨rfl, rfl⟩)
              go_ret2
              exact ⟨ret_nb hN.out.1 hN.out.2, rfl⟩
          · obtain ⟨e1, e2⟩ := hE.out k (by omega) hD.out (by rw [← hV.out]; exact hM)
            have hN : Hid (V = numN d.data.toList ∧ true = numOk d.data.toList) := ⟨hV.out.trans e2, e1.symm⟩
            clear e1 e2
            go_wp2
            go_ret2
            exact ⟨ret_nb hN.out.1 hN.out.2, rfl⟩
      | false =>
        clear hz2
        go_enter Tryz.func164, Tryz.ntmps164
        go_wp2
        go_loop [4, 16] (fun n i => ∃ k V : Nat, k ≤ d.size ∧ i = .int .i64 k ∧ n = .int .i64 V ∧ Hid (V = valD (d.data.toList.take k)) ∧ Hid (digs (d.data.toList.take k) = true) ∧ V ≤ 1125899906842624) (fun _ i => d.size - (intOf i).toNat)
        case atStart => exact ⟨0, 0, by omega, rfl, rfl, rfl, rfl, by omega⟩
        case round =>
          obtain ⟨k, V, hk, rfl, rfl, hV, hD, hM⟩ := hrel
          by_cases hlt : k < d.size
          · have hc := kindAt_any d k w
            by_cases h5 : kd d k = 5
            · have hb := (kb_5 (bt d k)).1 h5
              rw [bt_in hlt] at hb
              have hb1 : 48 ≤ (d[k].toNat : Int) := by omega
              have hb2 : (d[k].toNat : Int) ≤ 57 := by omega
              have hV' : Hid (10 * V + (d[k].toNat - 48) = valD (d.data.toList.take (k + 1))) := by
                have e := val_snoc (d.data.toList.take k) d[k]
                rw [← take_snoc d k hlt, ← hV.out] at e
                exact e.symm
              by_cases hm : 10 * V + (d[k].toNat - 48) ≤ 1125899906842624
              · have hD' : Hid (digs (d.data.toList.take (k + 1)) = true) := by
                  show _ = _
                  rw [take_snoc d k hlt, digs_snoc, hD.out]
                  simpa using hb
                have hm' : 10 * (V : Int) + ((d[k].toNat : Int) - 48) ≤ 1125899906842624 := by omega
                go_wp2_with (go_at_call 132; refine hc.mono ?_; rintro e w ⟨rfl, rfl⟩)
                exact ⟨⟨k + 1, _, by omega, congrArg (Value.int .i64) (by omega), congrArg (Value.int .i64) (by omega), hV', hD', hm⟩, by simp [intOf]; omega⟩
              · have hm' : ¬ 10 * (V : Int) + ((d[k].toNat : Int) - 48) ≤ 1125899906842624 := by omega
                have hno := big_no (d := d) (k := k + 1) (by rw [← hV'.out]; unfold maxI; omega)
                have hN : Hid (0 = numN d.data.toList ∧ false = numOk d.data.toList) := ⟨by simp [numN, hno], hno.symm⟩
                clear hno
                go_wp2_with (go_at_call 132; refine hc.mono ?_; rintro e w ⟨rfl, rfl⟩)
                go_ret2
                exact ⟨ret_nb hN.out.1 hN.out.2, rfl⟩
            · have hno := digs_no hlt h5
              have hN : Hid (0 = numN d.data.toList ∧ false = numOk d.data.toList) := ⟨by simp [numN, hno], hno.symm⟩
              have n5 : (kd d k == 5) = false := beq_eq_false_iff_ne.2 h5
              clear hno
              go_wp2_with (go_at_call 132; refine hc.mono ?_; rintro e w ⟨rfl, rfl⟩)
              go_ret2
              exact ⟨ret_nb hN.out.1 hN.out.2, rfl⟩
          · obtain ⟨e1, e2⟩ := hE.out k (by omega) hD.out (by rw [← hV.out]; exact hM)
            have hN : Hid (V = numN d.data.toList ∧ true = numOk d.data.toList) := ⟨hV.out.trans e2, e1.symm⟩
            clear e1 e2
            go_wp2
            go_ret2
            exact ⟨ret_nb hN.out.1 hN.out.2, rfl⟩
    exact hgo _ rfl (fun h => by
      have : d[0].toNat = 48 := by
        have := beq_iff_eq.1 h
        omega
      by_cases h1 : 1 < d.size
      · exact absurd ⟨this, h1⟩ hz
      · omega)
end Go.Proofs.YtklfnphkepfmaaaGreatDoor

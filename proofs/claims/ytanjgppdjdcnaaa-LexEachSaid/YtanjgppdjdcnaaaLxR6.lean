/- Token of layer 6's reference where a quoted name begins. -/
import Derived.Test.YtanjgppdjdcnaaaLxR5
import Derived.Test.YtanjgppdjdcnaaaLxM3
import Derived.Test.YtanjgppdjdcnaaaLxInt
namespace Go.Proofs.Ytanjgppdjdcnaaa
open Go.RowKit

set_option maxHeartbeats 400000 in
theorem bad_eq (c a : Int) (w : World) :
    Calls Try.prog 12 #[flt c a] w fun e w' => e = .returned (.bool (c != 0)) ∧ w' = w.alloc (fltObj c a) := by
  go_enter Try.func12, Try.ntmps12
  go_wp2
  go_ret
  exact ⟨rfl, rfl⟩
theorem two_kept {w w2 : World} (h : Below ((w.alloc (tokObj tk0)).alloc (fltObj 0 0)).heap.size ((w.alloc (tokObj tk0)).alloc (fltObj 0 0)) w2) :
    w2.heap[w.heap.size]? = some (tokObj tk0) ∧ w2.heap[w.heap.size + 1]? = some (fltObj 0 0) ∧ Below w.heap.size w w2 ∧ w.heap.size + 1 < w2.heap.size := by
  have h0 : ((w.alloc (tokObj tk0)).alloc (fltObj 0 0)).heap[w.heap.size]? = some (tokObj tk0) := by
    rw [Below.heap_alloc _ _ _ (by simp)]
    exact heap_alloc_new w _
  have h1 : ((w.alloc (tokObj tk0)).alloc (fltObj 0 0)).heap[w.heap.size + 1]? = some (fltObj 0 0) := by
    have := heap_alloc_new (w.alloc (tokObj tk0)) (fltObj 0 0)
    simpa using this
  refine ⟨keep_q h0 h, keep_q h1 h, (((Below.refl _ w).alloc (Nat.le_refl _) _).alloc (by simp) _).trans (h.mono (by simp; omega)), ?_⟩
  have := h.size
  simp at this
  omega
theorem three_kept {w w2 w3 : World} {c p : Int} (hq : w2.heap[w.heap.size]? = some (tokObj tk0)) (hf : w2.heap[w.heap.size + 1]? = some (fltObj 0 0)) (hB : Below w.heap.size w w2) (h : Below (w2.alloc (fltObj c p)).heap.size (w2.alloc (fltObj c p)) w3) :
    w3.heap[w.heap.size]? = some (tokObj tk0) ∧ w3.heap[w.heap.size + 1]? = some (fltObj 0 0) ∧ w3.heap[w2.heap.size]? = some (fltObj c p) ∧ Below w.heap.size w w3 :=
  ⟨keep_q ((Below.heap_alloc w2 _ _ (lt_of_block hq)).trans hq) h, keep_q ((Below.heap_alloc w2 _ _ (lt_of_block hf)).trans hf) h, kept_first h, Below.next hB (below_first h)⟩
theorem bad_ex (c a : Int) (w : World) :
    Calls Try.prog 12 #[flt c a] w fun e w' => e = .returned (.bool (c != 0)) ∧ Below w.heap.size w w' :=
  (bad_eq c a w).mono fun _ _ h => ⟨h.1, by rw [h.2]; exact below_alloc w _⟩
/-- The end where both lie in cells of their own. -/
theorem t_end {w w3 : World} {a : Act} (x : Lx) (hq : w3.heap[w.heap.size]? = some (tokObj tk0)) (hf : w3.heap[w.heap.size + 1]? = some (fltObj 0 0)) (hB : Below w.heap.size w w3)
    (h1 : a.tmps[4]?.getD undef = .pointer (some ⟨w.heap.size, 0, none⟩)) (h2 : a.tmps[5]?.getD undef = .pointer (some ⟨w.heap.size + 1, 0, none⟩)) (hd : a.defers = []) :
    bodyPost Try.prog Try.f23 (TAns w x) .ret a (fltEnd (tokEnd w3 w.heap.size x.tok) (w.heap.size + 1) x.code x.pl).drew := by
  have k0 := tok_end x.tok hq
  have k1 : (tokEnd w3 w.heap.size x.tok).heap[w.heap.size + 1]? = some (fltObj 0 0) := by
    rw [Below.heap_setCell _ ⟨w.heap.size, 4, none⟩ _ _ (by simp), Below.heap_setCell _ ⟨w.heap.size, 3, none⟩ _ _ (by simp), Below.heap_setCell _ ⟨w.heap.size, 2, none⟩ _ _ (by simp), Below.heap_setCell _ ⟨w.heap.size, 1, none⟩ _ _ (by simp), Below.heap_setCell _ ⟨w.heap.size, 0, none⟩ _ _ (by simp)]
    exact hf
  have k2 := flt_end x.code x.pl k1
  have k3 : (fltEnd (tokEnd w3 w.heap.size x.tok) (w.heap.size + 1) x.code x.pl).heap[w.heap.size]? = some (tokObj x.tok) := by
    rw [Below.heap_setCell _ ⟨w.heap.size + 1, 3, none⟩ _ _ (by simp), Below.heap_setCell _ ⟨w.heap.size + 1, 2, none⟩ _ _ (by simp), Below.heap_setCell _ ⟨w.heap.size + 1, 1, none⟩ _ _ (by simp), Below.heap_setCell _ ⟨w.heap.size + 1, 0, none⟩ _ _ (by simp)]
    exact k0
  obtain ⟨⟨z0, z1, z2, z3⟩, _⟩ := flt_facts k2
  obtain ⟨⟨y0, y1, y2, y3, y4⟩, _⟩ := tok_facts k3
  have hB2 : Below w.heap.size w (fltEnd (tokEnd w3 w.heap.size x.tok) (w.heap.size + 1) x.code x.pl) := fltEnd_below (tokEnd_below hB (Nat.le_refl _)) (by omega)
  generalize fltEnd (tokEnd w3 w.heap.size x.tok) (w.heap.size + 1) x.code x.pl = W at *
  refine bodyPost_ret (v := .tuple #[tokV x.tok, flt x.code x.pl]) ?_ hd ⟨rfl, hB2.drew⟩
  simp [results, Try.results23, go_sem, h1, h2, y0, y1, y2, y3, y4, z0, z1, z2, z3]
set_option maxRecDepth 100000 in
set_option maxHeartbeats 2000000 in
theorem rtok_quote_bad {s : ByteArray} {a : Nat} {w : World} (hs : s.size ≤ 4194304) (ha : a < s.size) (hk : kd s a = 7) (c p : Int) (hX : quo s a (a + 1) [] = badT c p) (hc : c ≠ 0) :
    Calls Try.prog 23 #[.string s, .int .i64 (a : Int)] w (TAns w (badT c p)) := by
  have hkb := kd_byte ha
  have hsm := fun W => rsmall_any s[a].toNat W
  have hgr := fun W => rgreat_any s[a].toNat W
  rw [← hkb] at hsm hgr
  rw [decide_eq_false (show ¬ kd s a = 3 by omega)] at hsm
  rw [decide_eq_false (show ¬ kd s a = 4 by omega)] at hgr
  have x39 : (((s[a].toNat : Nat) : Int) == 39) = true := by
    rw [hkb] at hk
    rw [(kb_7 _).1 hk]
    rfl
  have hqu := fun W => rquoted_any s a W hs ha
  rw [hX] at hqu
  have hz : ((badT c p).code != 0) = true := bne_iff_ne.2 hc
  clear hc
  clear hk hkb hX
  go_enter Try.func23, Try.ntmps23
  go_wp2_with (first
    | (go_at_call 33; refine (hsm _).mono ?_; rintro x w2 ⟨rfl, rfl⟩)
    | (go_at_call 35; refine (hgr _).mono ?_; rintro x w2 ⟨rfl, rfl⟩)
    | (go_at_call 36; go_must (refine (hqu _).mono ?_; rintro x w2 ⟨rfl, hb⟩; obtain ⟨hq, hf, hB, _⟩ := two_kept hb))
    | (go_at_call 12; go_must (refine (bad_ex _ _ _).mono ?_; rintro x w3 ⟨rfl, hb3⟩; obtain ⟨hq3, hf3, hs3, hB3⟩ := three_kept hq hf hB hb3; obtain ⟨⟨u0, u1, u2, u3, u4, q0, q1, q2, q3, q4⟩, g0, g1, g2, g3, g4⟩ := tok_cells (t := tk0) hq3; obtain ⟨⟨v0, v1, v2, v3, r0, r1, r2, r3⟩, s0, s1, s2, s3⟩ := flt_cells hf3; obtain ⟨⟨t0, t1, t2, t3⟩, _⟩ := flt_facts hs3)))
  go_region_law (fail)
  all_goals go_wp2
  all_goals exact t_end (badT c p) hq3 hf3 hB3 (by rfl) (by rfl) rfl
set_option maxRecDepth 100000 in
set_option maxHeartbeats 2000000 in
theorem rtok_quote_yes {s : ByteArray} {a : Nat} {w : World} (hs : s.size ≤ 4194304) (ha : a < s.size) (hk : kd s a = 7) (t : ByteArray) (e : Nat) (hX : quo s a (a + 1) [] = okT ⟨1, t, 0, a, e⟩) :
    Calls Try.prog 23 #[.string s, .int .i64 (a : Int)] w (TAns w (okT ⟨1, t, 0, a, e⟩)) := by
  have hkb := kd_byte ha
  have hsm := fun W => rsmall_any s[a].toNat W
  have hgr := fun W => rgreat_any s[a].toNat W
  rw [← hkb] at hsm hgr
  rw [decide_eq_false (show ¬ kd s a = 3 by omega)] at hsm
  rw [decide_eq_false (show ¬ kd s a = 4 by omega)] at hgr
  have x39 : (((s[a].toNat : Nat) : Int) == 39) = true := by
    rw [hkb] at hk
    rw [(kb_7 _).1 hk]
    rfl
  have hqu := fun W => rquoted_any s a W hs ha
  rw [hX] at hqu
  have hz : ((okT ⟨1, t, 0, a, e⟩).code != 0) = false := rfl
  clear hk hkb hX
  go_enter Try.func23, Try.ntmps23
  go_wp2_with (first
    | (go_at_call 33; refine (hsm _).mono ?_; rintro x w2 ⟨rfl, rfl⟩)
    | (go_at_call 35; refine (hgr _).mono ?_; rintro x w2 ⟨rfl, rfl⟩)
    | (go_at_call 36; go_must (refine (hqu _).mono ?_; rintro x w2 ⟨rfl, hb⟩; obtain ⟨hq, hf, hB, _⟩ := two_kept hb))
    | (go_at_call 12; go_must (refine (bad_ex _ _ _).mono ?_; rintro x w3 ⟨rfl, hb3⟩; obtain ⟨hq3, hf3, hs3, hB3⟩ := three_kept hq hf hB hb3; obtain ⟨⟨u0, u1, u2, u3, u4, q0, q1, q2, q3, q4⟩, g0, g1, g2, g3, g4⟩ := tok_cells (t := tk0) hq3; obtain ⟨⟨v0, v1, v2, v3, r0, r1, r2, r3⟩, s0, s1, s2, s3⟩ := flt_cells hf3; obtain ⟨⟨t0, t1, t2, t3⟩, _⟩ := flt_facts hs3)))
  go_region_law (fail)
  all_goals go_wp2
  all_goals exact t_end (okT ⟨1, t, 0, a, e⟩) hq3 hf3 hB3 (by rfl) (by rfl) rfl

theorem quo_cases (s : ByteArray) (a i : Nat) (acc : List UInt8) : (∃ c p, c ≠ 0 ∧ quo s a i acc = badT c p) ∨ ∃ t e, quo s a i acc = okT ⟨1, t, 0, a, e⟩ := by
  have h1 := qF_shape s a (s.size - i) i acc
  have h2 := qF_bad s a (s.size - i) i acc
  rw [← quo] at h1 h2
  generalize quo s a i acc = X at *
  obtain ⟨t, c, p⟩ := X
  by_cases hc : c = 0
  · right
    obtain ⟨e1, e2⟩ := h1 hc
    simp only at hc e1 e2
    subst hc e2
    exact ⟨t.text, t.end_, by rw [okT, ← e1]⟩
  · left
    have e := h2 hc
    simp only at e
    subst e
    exact ⟨c, p, hc, rfl⟩
theorem cut_head {s : ByteArray} {a e : Nat} (hae : a < e) (he : e ≤ s.size) : ∃ h : 0 < (s.extract a e).size, (s.extract a e)[0] = s[a]'(by omega) := by
  have hz := cut_size_eq (s := s) (f := a) (e := e) (by omega) he
  refine ⟨by omega, ?_⟩
  rw [ByteArray.getElem_extract]
  simp
theorem cut_tail {s : ByteArray} {a e : Nat} (hae : a < e) (he : e ≤ s.size) : (s.extract a e).extract 1 (s.extract a e).size = s.extract (a + 1) e := by
  have hz := cut_size_eq (s := s) (f := a) (e := e) (by omega) he
  rw [hz, ByteArray.extract_extract]
  congr 1
  omega
/-- Token of layer 6's reference, at every source and place. -/
theorem rtok_any (s : ByteArray) (a : Nat) (w : World) (hs : s.size ≤ 4194304) (ha : a < s.size) :
    Calls Try.prog 23 #[.string s, .int .i64 (a : Int)] w (TAns w (tokF s a)) := by
  have hr := kd_range s a
  unfold tokF
  split
  · rename_i hk
    unfold wordF
    split
    · exact rtok_small_no hs ha hk (by assumption)
    · exact rtok_small_yes hs ha hk (by assumption) _ rfl
  · split
    · rename_i hk
      unfold wordF
      split
      · exact rtok_great_no hs ha hk (by assumption)
      · exact rtok_great_yes hs ha hk (by assumption) _ rfl
    · split
      · rename_i hk
        have hwe : wEnd s a = wEnd s (a + 1) := wEnd_in (by omega)
        have hgt : a < wEnd s a := wEnd_gt (by omega)
        have hle : wEnd s a ≤ s.size := wEnd_le (by omega)
        obtain ⟨hz, hh⟩ := cut_head hgt hle
        have hw := fun W => whole_pos (s.extract a (wEnd s a)) W (by have := cut_size s a (wEnd s a); omega) hz (by
          rw [hh]
          intro e
          rw [kd_byte ha, e] at hk
          exact absurd hk (by decide))
        have hI : intF s a a = if numOk (s.extract a (wEnd s a)).data.toList = true then okT ⟨3, ⟨#[]⟩, (val (s.extract a (wEnd s a)).data.toList : Int), a, wEnd s a⟩ else badT 63 a := by
          unfold intF cutB
          by_cases h : numOk (s.extract a (wEnd s a)).data.toList = true
          · rw [if_pos ⟨h, fun h' => by omega⟩, if_neg (by omega), if_pos h]
          · rw [if_neg (fun h' => h h'.1), if_neg h]
        rw [hI]
        cases hn : numOk (s.extract a (wEnd s a)).data.toList with
        | true =>
          rw [if_pos rfl]
          exact rtok_digit_yes hs ha hk _ hwe _ (fun W => (hw W).mono fun x w' h => by
            obtain ⟨⟨n, rfl, h2⟩, rfl⟩ := h
            rw [hn, h2 hn]
            exact ⟨rfl, rfl⟩)
        | false =>
          rw [if_neg (by simp)]
          exact rtok_digit_no hs ha hk _ hwe (fun W => (hw W).mono fun x w' h => by
            obtain ⟨⟨n, rfl, h2⟩, rfl⟩ := h
            rw [hn]
            exact ⟨⟨n, rfl⟩, rfl⟩)
      · split
        · rename_i hk
          split
          · rename_i h5
            have ha1 : a + 1 < s.size := kd_lt (by omega)
            have hgt : a + 1 < wEnd s (a + 1) := wEnd_gt (by omega)
            have hle : wEnd s (a + 1) ≤ s.size := wEnd_le (by omega)
            obtain ⟨hz, hh⟩ := cut_head (s := s) (a := a) (e := wEnd s (a + 1)) (by omega) hle
            have hd := cut_tail (s := s) (a := a) (e := wEnd s (a + 1)) (by omega) hle
            have hzd := cut_size_eq (s := s) (f := a + 1) (e := wEnd s (a + 1)) (by omega) hle
            have hw := fun W => whole_neg (s.extract a (wEnd s (a + 1))) (s.extract (a + 1) (wEnd s (a + 1))) W (by have := cut_size s a (wEnd s (a + 1)); omega) hz (by
              rw [hh]
              rw [kd_byte ha] at hk
              exact (kb_6 _).1 hk) hd (by omega) (by omega)
            have hI : intF s a (a + 1) = if negOk (s.extract (a + 1) (wEnd s (a + 1))).data.toList = true then okT ⟨3, ⟨#[]⟩, -(val (s.extract (a + 1) (wEnd s (a + 1))).data.toList : Int), a, wEnd s (a + 1)⟩ else badT 63 a := by
              unfold intF cutB negOk
              by_cases h : numOk (s.extract (a + 1) (wEnd s (a + 1))).data.toList = true ∧ val (s.extract (a + 1) (wEnd s (a + 1))).data.toList ≠ 0
              · rw [if_pos ⟨h.1, fun _ => h.2⟩, if_pos (by omega), if_pos (by simpa using h)]
              · rw [if_neg (fun h' => h ⟨h'.1, h'.2 (by omega)⟩), if_neg (by simpa using h)]
            rw [hI]
            cases hn : negOk (s.extract (a + 1) (wEnd s (a + 1))).data.toList with
            | true =>
              rw [if_pos rfl]
              exact rtok_sign_yes hs ha hk h5 _ rfl _ (fun W => (hw W).mono fun x w' h => by
                obtain ⟨⟨n, rfl, h2⟩, rfl⟩ := h
                rw [hn, h2 hn]
                exact ⟨rfl, rfl⟩)
            | false =>
              rw [if_neg (by simp)]
              exact rtok_sign_no hs ha hk h5 _ rfl (fun W => (hw W).mono fun x w' h => by
                obtain ⟨⟨n, rfl, h2⟩, rfl⟩ := h
                rw [hn]
                exact ⟨⟨n, rfl⟩, rfl⟩)
          · rename_i h5
            by_cases ha1 : a + 1 < s.size
            · exact rtok_sign_bad hs ha hk h5 ha1
            · exact rtok_sign_last hs ha hk ha1
        · split
          · rename_i hk
            rcases quo_cases s a (a + 1) [] with ⟨c, p, hc, hX⟩ | ⟨t, e, hX⟩
            · rw [hX]
              exact rtok_quote_bad hs ha hk c p hX hc
            · rw [hX]
              exact rtok_quote_yes hs ha hk t e hX
          · split
            · rename_i hk
              split
              · exact rtok_colon_yes hs ha hk (by assumption)
              · rename_i h6
                by_cases ha1 : a + 1 < s.size
                · exact rtok_colon_bad hs ha hk h6 ha1
                · exact rtok_colon_last hs ha hk ha1
            · split
              · exact rtok_mark hs ha (by assumption)
              · exact rtok_none hs ha ⟨by assumption, by assumption, by assumption, by assumption, by assumption, by assumption, by assumption⟩
end Go.Proofs.Ytanjgppdjdcnaaa

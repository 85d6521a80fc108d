/- The document's Sound: sound words are found sound. -/
import Derived.Test.YtipacdagaalccaaGreatDoorSD18Z
import Derived.Test.YtipacdagaalccaaGreatDoorSD02Z
namespace Go.Proofs.YtipacdagaalccaaGreatDoor
set_option maxRecDepth 100000
open Go.RowKit
theorem sd_tdm (m : Int) : (0 ≤ m ∧ m.tdiv 8 = m / 8 ∧ m.tmod 8 = m % 8) ∨ (m < 0 ∧ m.tdiv 8 = -((-m) / 8) ∧ m.tmod 8 = -((-m) % 8)) := by
  by_cases h : 0 ≤ m
  · exact Or.inl ⟨h, Int.tdiv_eq_ediv_of_nonneg h, Int.tmod_eq_emod_of_nonneg h⟩
  · refine Or.inr ⟨by omega, ?_, ?_⟩
    · have := Int.neg_tdiv (-m) 8
      rw [Int.neg_neg] at this
      rw [this, Int.tdiv_eq_ediv_of_nonneg (by omega)]
    · have := Int.neg_tmod (-m) 8
      rw [Int.neg_neg] at this
      rw [this, Int.tmod_eq_emod_of_nonneg (by omega)]
theorem sd_w64_bd (n : Int) : -9223372036854775808 ≤ wrap64 n ∧ wrap64 n ≤ 9223372036854775807 := by unfold wrap64; omega
theorem sd_w64_in (n : Int) (h : -9223372036854775808 ≤ n ∧ n ≤ 9223372036854775807) : wrap64 n = n := by unfold wrap64; omega
theorem sd_rval_neg (n : Int) (h : (wrap64 n).tmod 8 < 0) : wrap64 (wrap64 ((wrap64 n).tdiv 8) - 1) = valOf n := by
  have hb := sd_w64_bd n
  unfold valOf
  generalize wrap64 n = m at *
  have := sd_tdm m
  rw [sd_w64_in (m.tdiv 8) (by omega), sd_w64_in _ (by omega)]; omega
theorem sd_rval_pos (n : Int) (h : 0 ≤ (wrap64 n).tmod 8) : wrap64 ((wrap64 n).tdiv 8) = valOf n := by
  have hb := sd_w64_bd n
  unfold valOf
  generalize wrap64 n = m at *
  have := sd_tdm m
  rw [sd_w64_in (m.tdiv 8) (by omega)]; omega
set_option maxHeartbeats 2000000 in
theorem rcell_any (x : Int) (w : World) (h0 : 0 ≤ x) (h1 : x ≤ 18446744073709551615) (hc : x % 8 ≤ 3) :
    Calls Tryz.prog 31 #[.int .u64 x] w fun e w' => e = .returned (.bool true) ∧ w' = w := by
  have hcs : x % 8 = 0 ∨ x % 8 = 1 ∨ x % 8 = 2 ∨ x % 8 = 3 := by omega
  clear hc
  rcases hcs with h | h | h | h
  all_goals
    go_enter Tryz.func31, Tryz.ntmps31
    go_wp2
    go_ret
    exact ⟨rfl, rfl⟩
def Dsd (W : World) (wa : Option Addr) (l : List Int) : Prop := ∀ j, j < l.length → ∃ b o, wa = some ⟨b, o, none⟩ ∧ W.cell? ⟨b, o + j, none⟩ = some (.int .u64 (l.getD j 0))
theorem Dsd.two {W : World} {b o : Nat} {l : List Int} (h : Dsd W (some ⟨b, o, none⟩) l) {j : Nat} (hj : j < l.length) : W.cell? ⟨b, o + j, none⟩ = some (.int .u64 (l.getD j 0)) := by
  obtain ⟨b', o', e, hc⟩ := h j hj
  injection e with e
  injection e with e1 e2
  subst e1 e2
  exact hc
abbrev dmpS (a b c d e : Value) : Obj := .cells #[a, b, c, d, e] 40
set_option maxHeartbeats 16000000 in
theorem sound_any {W : World} {wa xa2 xa3 xa4 xa5 : Option Addr} {wc xn2 xc2 xn3 xc3 N xc4 xn5 xc5 : Nat} {l : List Int} {V : Nat → Bool} (hD : Dsd W wa l) (hs : Snd l V) (hn : NsB l N) (hl : l.length ≤ 5000) :
    Calls Tryz.prog 11 #[.agg #[.slice wa l.length wc, .slice xa2 xn2 xc2, .slice xa3 xn3 xc3, .slice xa4 N xc4, .slice xa5 xn5 xc5]] W fun e w' => e = .returned (.bool true) ∧ Below W.heap.size W w' := by
  have HD := hid hD
  have HS := hid hs
  have HN := hid hn
  clear hD hs hn
  have hb1 := hid (below_alloc W (dmpS (.slice wa l.length wc) (.slice xa2 xn2 xc2) (.slice xa3 xn3 xc3) (.slice xa4 N xc4) (.slice xa5 xn5 xc5)))
  have hx1 := heap_alloc_new W (dmpS (.slice wa l.length wc) (.slice xa2 xn2 xc2) (.slice xa3 xn3 xc3) (.slice xa4 N xc4) (.slice xa5 xn5 xc5))
  go_enter Tryz.func11, Tryz.ntmps11
  go_wp2
  generalize W.alloc (dmpS (.slice wa l.length wc) (.slice xa2 xn2 xc2) (.slice xa3 xn3 xc3) (.slice xa4 N xc4) (.slice xa5 xn5 xc5)) = w1 at *
  have x0 : w1.cell? ⟨W.heap.size, 0, none⟩ = some (.slice wa l.length wc) := by simp [World.cell?, hx1]
  have x3 : w1.cell? ⟨W.heap.size, 3, none⟩ = some (.slice xa4 N xc4) := by simp [World.cell?, hx1]
  have xz := lt_of_block hx1
  clear hx1
  have HW := hid (fun (b o : Nat) (h : wa = some ⟨b, o, none⟩) (j : Nat) (hj : j < l.length) => show w1.cell? ⟨b, o + j, none⟩ = some (.int .u64 (l.getD j 0)) from by
    subst h
    have h9 := HD.out.two hj
    exact (hb1.out.cell (p := ⟨b, o + j, none⟩) (lt_of_cell h9)).trans h9)
  have Hrg := hid (fun (j : Nat) (hj : j < l.length) => HS.out.rng (l.getD j 0) (by simp [List.getD, hj]))
  go_loopw [4] (fun i wr => ∃ p : Nat, p ≤ l.length ∧ i = .int .i64 (p : Int) ∧ Hid (wr = w1)) (fun i _ => l.length - (intOf i).toNat)
  case atStart => exact ⟨0, Nat.zero_le _, rfl, rfl⟩
  case round =>
    obtain ⟨p, hp, rfl, hw⟩ := hrel
    replace hw := hw.out
    subst hw
    by_cases hlt : p < l.length
    · have hpi : (p : Int) < (l.length : Int) := by omega
      obtain ⟨b, o, hwa, _⟩ := HD.out p hlt
      have hx := HW.out b o hwa p hlt
      have hr := Hrg.out p hlt
      have hsd := sd_word HS.out HN.out hlt
      subst hwa
      generalize hX : l.getD p 0 = X at *
      replace hX := hid hX
      obtain ⟨hr0, hr1⟩ := hr
      cases hsd with
      | ref v t d h c =>
        have hy := HW.out b o rfl v h
        have hry := Hrg.out v h
        have hrc := hid (fun w => rcell_any (l.getD v 0) w hry.1 hry.2 c)
        generalize l.getD v 0 = Y at *
        have hvi : (v : Int) < (l.length : Int) := by omega
        clear hry c
        go_wp2_with (go_at_call 31; refine (hrc.out _).mono ?_; rintro e w2 ⟨rfl, hw2⟩; replace hw2 := hw2.symm; subst hw2)
        go_roundw
        case rel => exact ⟨p + 1, by omega, by go_num, by first | exact trivial | rfl⟩
        case measure => simp [intOf]; omega
      | atm v t d h =>
        have hvi : (v : Int) < (N : Int) := by omega
        go_wp2
        go_roundw
        case rel => exact ⟨p + 1, by omega, by go_num, by first | exact trivial | rfl⟩
        case measure => simp [intOf]; omega
      | int t h =>
        by_cases hm : (wrap64 X).tmod 8 < 0
        · have e1 := sd_rval_neg X hm
          rw [← e1] at h
          obtain ⟨h1, h2⟩ := h
          clear e1
          go_wp2
          go_roundw
          case rel => exact ⟨p + 1, by omega, by go_num, by first | exact trivial | rfl⟩
          case measure => simp [intOf]; omega
        · have e1 := sd_rval_pos X (by omega)
          rw [← e1] at h
          obtain ⟨h1, h2⟩ := h
          clear e1
          go_wp2
          go_roundw
          case rel => exact ⟨p + 1, by omega, by go_num, by first | exact trivial | rfl⟩
          case measure => simp [intOf]; omega
      | str v t d h c =>
        have hy := HW.out b o rfl v h
        obtain ⟨hy0, hy1⟩ := Hrg.out v h
        generalize l.getD v 0 = Y at *
        have hvi : (v : Int) < (l.length : Int) := by omega
        rcases t with t | t
        · rcases c with c | c
          · go_wp2
            go_roundw
            case rel => exact ⟨p + 1, by omega, by go_num, by first | exact trivial | rfl⟩
            case measure => simp [intOf]; omega
          · go_wp2
            go_roundw
            case rel => exact ⟨p + 1, by omega, by go_num, by first | exact trivial | rfl⟩
            case measure => simp [intOf]; omega
        · rcases c with c | c
          · go_wp2
            go_roundw
            case rel => exact ⟨p + 1, by omega, by go_num, by first | exact trivial | rfl⟩
            case measure => simp [intOf]; omega
          · go_wp2
            go_roundw
            case rel => exact ⟨p + 1, by omega, by go_num, by first | exact trivial | rfl⟩
            case measure => simp [intOf]; omega
      | fn f a t d h a1 a2 top c =>
        have hq : X / 8 % 16 = (a : Int) := by omega
        have hq2 : X / 8 / 16 = (f : Int) := by omega
        have hfi : (f : Int) < (N : Int) := by omega
        have hti : (p : Int) + (a : Int) < (l.length : Int) := by omega
        have hc := hid c
        have hc2 := hid (fun (i : Nat) (i1 : 1 ≤ i) (i2 : i ≤ a) => HW.out b o rfl (p + i) (by omega))
        have hc3 := hid (fun (i : Nat) (i1 : 1 ≤ i) (i2 : i ≤ a) => Hrg.out (p + i) (by omega))
        have ha16 : (a : Int) % 16 = (a : Int) := by omega
        clear c
        go_wp2
        try simp only [ha16]
        clear d hq hq2 ha16 hx
        go_loopw [10] (fun i w2 => ∃ k : Nat, 1 ≤ k ∧ k ≤ a + 1 ∧ i = .int .i64 (k : Int) ∧ Hid (w2 = wr)) (fun i _ => a + 1 - (intOf i).toNat)
        case atStart => exact ⟨1, Nat.le_refl _, by omega, rfl, rfl⟩
        case round =>
          obtain ⟨k, hk1, hk2, rfl, hw⟩ := hrel
          replace hw := hw.out
          subst hw
          by_cases hka : k ≤ a
          · have hkai : (k : Int) ≤ (a : Int) := by omega
            have hy := hc2.out k hk1 hka
            obtain ⟨hy0, hy1⟩ := hc3.out k hk1 hka
            have hrc := hid (fun w => rcell_any (l.getD (p + k) 0) w hy0 hy1 (hc.out k hk1 hka))
            generalize l.getD (p + k) 0 = Y at *
            clear hy0 hy1
            go_wp2_with (go_at_call 31; refine (hrc.out _).mono ?_; rintro e w2 ⟨rfl, hw2⟩; replace hw2 := hw2.symm; subst hw2)
            go_roundw
            case rel => exact ⟨k + 1, by omega, by omega, by go_num, by first | exact trivial | rfl⟩
            case measure => simp [intOf]; omega
          · obtain rfl : k = a + 1 := by omega
            have hnk : ¬ (((a + 1 : Nat) : Int) ≤ (a : Int)) := by omega
            go_wp2
            go_roundw
            case rel => exact ⟨p + 1, by omega, by go_num, by first | exact trivial | rfl⟩
            case measure => simp [intOf]; omega
    · obtain rfl : p = l.length := by omega
      go_wp2
      go_loopw [11] (fun i w2 => ∃ p : Nat, p ≤ l.length ∧ i = .int .i64 (p : Int) ∧ Hid (w2 = wr)) (fun i _ => l.length - (intOf i).toNat)
      case atStart => exact ⟨0, Nat.zero_le _, rfl, rfl⟩
      case round =>
        obtain ⟨p, hp, rfl, hw⟩ := hrel
        replace hw := hw.out
        subst hw
        by_cases hlt : p < l.length
        · have hpi : (p : Int) < (l.length : Int) := by omega
          obtain ⟨b, o, hwa, _⟩ := HD.out p hlt
          subst hwa
          go_wp2
          go_loopw [12, 13] (fun t n w2 => ∃ k m : Nat, t = .int .i64 (k : Int) ∧ n = .int .i64 (m : Int) ∧ SdS l V m k ∧ Hid (w2 = wr)) (fun _ n _ => l.length + 1 - (intOf n).toNat)
          case atStart => exact ⟨p, 0, rfl, rfl, ⟨hlt, by omega, Or.inl rfl⟩, rfl⟩
          case round =>
            obtain ⟨k, m, rfl, rfl, hsd, hw⟩ := hrel
            replace hw := hw.out
            subst hw
            have hk := hsd.lt
            have hkm := hsd.le
            have hki : (k : Int) < (l.length : Int) := by omega
            have hmi : ¬ ((l.length : Int) < (m : Int)) := by omega
            have hx := HW.out b o rfl k hk
            obtain ⟨hr0, hr1⟩ := Hrg.out k hk
            by_cases hg : goB l k
            · obtain ⟨v, hv, hsd2⟩ := SdS.step HS.out hsd hg
              replace hsd2 := hid hsd2
              have hvl := hsd2.out.lt
              unfold goB at hg
              generalize l.getD k 0 = X at *
              clear hsd
              rcases hg with ⟨t, hne⟩ | t
              · have hne' : (v : Int) ≠ (k : Int) := by omega
                clear hne
                go_wp2
                go_roundw
                case rel => exact ⟨v, m + 1, by go_num, by go_num, hsd2.out, by first | exact trivial | rfl⟩
                case measure => simp [intOf]; omega
              · go_wp2
                go_roundw
                case rel => exact ⟨v, m + 1, by go_num, by go_num, hsd2.out, by first | exact trivial | rfl⟩
                case measure => simp [intOf]; omega
            · unfold goB at hg
              generalize l.getD k 0 = X at *
              clear hsd
              by_cases t : X % 8 = 0
              · have hv : X / 8 = (k : Int) := by
                  by_cases h9 : X / 8 = (k : Int)
                  · exact h9
                  · exact absurd (Or.inl ⟨t, h9⟩) hg
                clear hg
                go_wp2
                go_roundw
                case rel => exact ⟨p + 1, by omega, by go_num, by first | exact trivial | rfl⟩
                case measure => simp [intOf]; omega
              · have t5 : X % 8 ≠ 5 := fun h9 => hg (Or.inr h9)
                clear hg
                have t0' : (X % 8 == 0) = false := beq_eq_false_iff_ne.2 t
                have t5' : (X % 8 == 5) = false := beq_eq_false_iff_ne.2 t5
                go_wp2
                go_roundw
                case rel => exact ⟨p + 1, by omega, by go_num, by first | exact trivial | rfl⟩
                case measure => simp [intOf]; omega
        · obtain rfl : p = l.length := by omega
          go_wp2
          go_ret
          exact ⟨rfl, hb1.out⟩
end Go.Proofs.YtipacdagaalccaaGreatDoor

/- NamesPlays walked: Put of every name in turn, and all that can be asked behind it. -/
import Derived.Test.YtobimnfjfinphaaNmTold
import Derived.Test.YtobimnfjfinphaaNmTwo
namespace Go.Proofs.Ytobimnfjfinphaa
open Go.RowKit Go.Maps

theorem cut_no (l : List ByteArray) : cutL (-1) l = l := cut_all l (Or.inl (by omega))
theorem rs_cell {w : World} {ao : Option Addr} {c k : Nat} {l : List ByteArray} (h : Rs w (.slice ao l.length c) l) (hk : k < l.length) : ∃ b o, ao = some ⟨b, o, none⟩ ∧ w.cell? ⟨b, o + k, none⟩ = some (.string (l.getD k ⟨#[]⟩)) := by
  rcases h with ⟨_, h0⟩ | ⟨_, _, _, h0⟩ | ⟨b, o, rc, h0, hc⟩
  · rw [h0] at hk
    simp at hk
  · rw [h0] at hk
    simp at hk
  · exact ⟨b, o, by injection h0, hc k hk⟩
set_option maxRecDepth 100000 in
set_option maxHeartbeats 1000000 in
theorem plays_long {W : World} (v : Value) (l : List ByteArray) (rs : Rs W v l) (a : ByteArray) (za : a.size ≤ 281474976710656) (n : Int) (hl : 1500 < l.length) :
    Calls Try.prog 3 #[v, .string a, .int .i64 n] W fun e w' => e = .returned (.bool true) ∧ Below W.heap.size W w' := by
  obtain ⟨ao, c, rfl⟩ := rs.shape
  have hl' : (1500 : Int) < (l.length : Int) := by omega
  go_enter Try.func3, Try.ntmps3
  go_wp2_with (first
    | (go_at_call 8; refine (lives_any W).mono ?_; rintro e w0 ⟨rfl, hb0⟩)
    | (go_at_call 9; refine (good_any a w0 za).mono ?_; rintro e w0 ⟨rfl, rfl⟩)
    | (go_at_call 10; refine (rgood_any a w0 za).mono ?_; rintro e w0 ⟨rfl, rfl⟩))
  go_ret
  exact ⟨rfl, hb0⟩
set_option maxRecDepth 100000 in
set_option maxHeartbeats 8000000 in
theorem plays_short {W : World} (v : Value) (l : List ByteArray) (rs : Rs W v l) (zl : ∀ s ∈ l, s.size ≤ 281474976710656) (a : ByteArray) (za : a.size ≤ 281474976710656) (n : Int) (hn : -9223372036854775808 ≤ n ∧ n ≤ 9223372036854775807) (hl : l.length ≤ 1500) :
    Calls Try.prog 3 #[v, .string a, .int .i64 n] W fun e w' => e = .returned (.bool true) ∧ Below W.heap.size W w' := by
  obtain ⟨ao, c, rfl⟩ := rs.shape
  have hl' : decide ((1500 : Int) < (l.length : Int)) = false := by simp; omega
  go_enter Try.func3, Try.ntmps3
  go_wp2_with (first
    | (go_at_call 8; refine (lives_any W).mono ?_; rintro e w0 ⟨rfl, hb0⟩; have z0 := hb0.size)
    | (go_at_call 9; refine (good_any a w0 za).mono ?_; rintro e w0 ⟨rfl, rfl⟩)
    | (go_at_call 10; refine (rgood_any a w0 za).mono ?_; rintro e w0 ⟨rfl, rfl⟩)
    | (go_at_call 11; refine (new_any w0 W.heap.size z0).mono ?_; rintro e w1 ⟨rfl, ht1, hb1⟩; have z1 := hb1.size; replace hb1 := hb0.trans (hb1.mono z0)))
  go_loopw [8, 38] (fun u i wr => ∃ (k : Nat) (v : Value) (m : List ByteArray), k ≤ l.length ∧ i = .int .i64 k ∧ Two wr W.heap.size (w0.heap.size + 1) v w0.heap.size m u m ∧ Below W.heap.size W wr) (fun _ i _ => l.length - (intOf i).toNat)
  case atStart =>
    refine ⟨0, _, [], by omega, rfl, ⟨ht1.alloc _, ?_, ?_⟩, hb1.alloc (by omega) _⟩
    · exact ⟨rfl, Or.inr ⟨w1.heap.size, 0, #[], rfl, by omega, heap_alloc_new w1 _, Nat.le_refl _, Nat.zero_le _, rfl, rfl⟩⟩
    · intro k hk hf
      have e : k = w1.heap.size := by simpa [Value.ownBlock] using hk.symm
      have := ht1.foot_lt k hf
      omega
  case round =>
    obtain ⟨k, v, m, hk, rfl, hT, hbr⟩ := hrel
    have zr := hbr.size
    have hm := hT.tb.len
    by_cases hlt : k < l.length
    · obtain ⟨rb, ro, rfl, hcell⟩ := rs_cell (rs.below hbr) hlt
      obtain ⟨s, hs⟩ : ∃ s, s = l.getD k ⟨#[]⟩ := ⟨_, rfl⟩
      have zs : s.size ≤ 281474976710656 := zl s (by rw [hs]; simp [List.getD, hlt])
      rw [← hs] at hcell
      clear hs
      go_wp2_with (first
        | (go_at_call 12; refine (put_any (w := wr) hT.tb zr s zs).mono ?_; rintro e w5 ⟨ev, v5, rfl, hE, hu5, _⟩; have hb5 := hu5.below hT.tb zr; have hT5 := hT.put hu5; clear hu5; have z5 := hb5.size; replace hb5 := hbr.trans hb5)
        | (go_at_call 13; refine (rput_any (w := w5) hT5.own (by omega) hm s zs).mono ?_; rintro e w6 ⟨u6, rfl, hU6⟩; have hE6 := hE.row hT5.own hU6.mod; have hb6 := hU6.below hT5.own (by omega); have hT6 := hT5.rput hU6; clear hU6 hE; have z6 := hb6.size; replace hb6 := hb5.trans hb6; obtain ⟨uo, uc, rfl⟩ := own_shape hT6.own)
        | (go_at_call 14; refine (is_any (hE6.below (below_alloc _ _))).mono ?_; rintro e w7 ⟨rfl, hb7⟩; have hT7 := (hT6.alloc _).below hb7; have z7 := hb7.size; replace hb7 := (hb6.alloc (by omega) _).trans (hb7.mono (by simp; omega)))
        | (go_at_call 15; refine (len_any (w := w7) hT7.tb).mono ?_; rintro e w7 ⟨rfl, rfl⟩)
        | (go_at_call 9; refine (good_any s w7 zs).mono ?_; rintro e w7 ⟨rfl, rfl⟩)
        | (go_at_call 10; refine (rgood_any s w7 zs).mono ?_; rintro e w7 ⟨rfl, rfl⟩))
      go_roundw
      case rel => exact ⟨k + 1, _, _, by omega, congrArg (Value.int .i64) (by omega), hT7, hb7⟩
      case measure => simp [intOf]; omega
    · have hR := Rs.ofOwn hT.own
      obtain ⟨uo, uc, hu⟩ := own_shape hT.own
      subst hu
      have hcm := cut_no m
      by_cases hin : 0 ≤ n ∧ n < (m.length : Int)
      · obtain ⟨i, rfl⟩ : ∃ i : Nat, n = (i : Int) := ⟨n.toNat, by omega⟩
        have him : i < m.length := by omega
        obtain ⟨rb, ro, rfl, hcell⟩ := rs_cell hR him
        obtain ⟨x, hx⟩ : ∃ x, x = m.getD i ⟨#[]⟩ := ⟨_, rfl⟩
        have hname := name_yes hT.tb i him
        rw [← hx] at hcell hname
        clear hx
        have hi0 : decide ((0 : Int) ≤ (i : Int)) = true := by simp
        have hi1 : decide ((i : Int) < (m.length : Int)) = true := by simp; omega
        go_wp2_with (first
          | (go_at_call 16; refine (find_any (w := wr) hT.tb a za).mono ?_; rintro e wr ⟨rfl, rfl⟩)
          | (go_at_call 17; refine (rfind_any (w := wr) hR a (by omega)).mono ?_; rintro e wr ⟨rfl, rfl⟩)
          | (go_at_call 18; refine hname.mono ?_; rintro e wr ⟨rfl, rfl⟩)
          | (go_at_call 19; refine (told_any (w := wr) hT.tb (-1)).mono ?_; rintro e w5 ⟨u5, rfl, ho5, hb5⟩; rw [hcm] at ho5)
          | (go_at_call 20; refine (same_any (Rs.ofOwn ho5) (hR.below hb5) (by omega)).mono ?_; rintro e w6 ⟨rfl, hb6⟩))
        go_ret
        exact ⟨rfl, (hbr.trans (hb5.mono zr)).trans (hb6.mono (Nat.le_trans zr hb5.size))⟩
      · have hout : n < 0 ∨ (m.length : Int) ≤ n := by omega
        have hname := name_no hT.tb n hn.1 hn.2 hout
        rcases hout with h0 | h1
        · have hi0 : decide ((0 : Int) ≤ n) = false := by simp; omega
          go_wp2_with (first
            | (go_at_call 16; refine (find_any (w := wr) hT.tb a za).mono ?_; rintro e wr ⟨rfl, rfl⟩)
            | (go_at_call 17; refine (rfind_any (w := wr) hR a (by omega)).mono ?_; rintro e wr ⟨rfl, rfl⟩)
            | (go_at_call 18; refine hname.mono ?_; rintro e wr ⟨rfl, rfl⟩)
            | (go_at_call 19; refine (told_any (w := wr) hT.tb (-1)).mono ?_; rintro e w5 ⟨u5, rfl, ho5, hb5⟩; rw [hcm] at ho5)
            | (go_at_call 20; refine (same_any (Rs.ofOwn ho5) (hR.below hb5) (by omega)).mono ?_; rintro e w6 ⟨rfl, hb6⟩))
          go_ret
          exact ⟨rfl, (hbr.trans (hb5.mono zr)).trans (hb6.mono (Nat.le_trans zr hb5.size))⟩
        · have hi0 : decide ((0 : Int) ≤ n) = true := by simp; omega
          have hi1 : decide (n < (m.length : Int)) = false := by simp; omega
          go_wp2_with (first
            | (go_at_call 16; refine (find_any (w := wr) hT.tb a za).mono ?_; rintro e wr ⟨rfl, rfl⟩)
            | (go_at_call 17; refine (rfind_any (w := wr) hR a (by omega)).mono ?_; rintro e wr ⟨rfl, rfl⟩)
            | (go_at_call 18; refine hname.mono ?_; rintro e wr ⟨rfl, rfl⟩)
            | (go_at_call 19; refine (told_any (w := wr) hT.tb (-1)).mono ?_; rintro e w5 ⟨u5, rfl, ho5, hb5⟩; rw [hcm] at ho5)
            | (go_at_call 20; refine (same_any (Rs.ofOwn ho5) (hR.below hb5) (by omega)).mono ?_; rintro e w6 ⟨rfl, hb6⟩))
          go_ret
          exact ⟨rfl, (hbr.trans (hb5.mono zr)).trans (hb6.mono (Nat.le_trans zr hb5.size))⟩
theorem namesPlays_walk {W : World} (v : Value) (l : List ByteArray) (rs : Rs W v l) (zl : ∀ s ∈ l, s.size ≤ 281474976710656) (a : ByteArray) (za : a.size ≤ 281474976710656) (n : Int) (hn : -9223372036854775808 ≤ n ∧ n ≤ 9223372036854775807) :
    Calls Try.prog 3 #[v, .string a, .int .i64 n] W fun e w' => e = .returned (.bool true) ∧ Below W.heap.size W w' := by
  by_cases hl : l.length ≤ 1500
  · exact plays_short v l rs zl a za n hn hl
  · exact plays_long v l rs a za n (by omega)
end Go.Proofs.Ytobimnfjfinphaa

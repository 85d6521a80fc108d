/- Package cells: the word by which the term of a cell is told. -/
import Derived.Test.YtnoggmeffindbabGreatDoorCeM
import Derived.Test.YtnoggmeffindbabGreatDoorCeBlk
namespace Go.Proofs.YtnoggmeffindbabGreatDoor
open Go.RowKit

theorem tag_cases {x : Int} (h : goodB x = true) : x % 8 = 0 ∨ x % 8 = 1 ∨ x % 8 = 2 ∨ x % 8 = 3 ∨ x % 8 = 4 ∨ x % 8 = 5 := by
  have := fits_tag _ _ h
  omega
/-- The value of a word that tells a place. -/
theorem val_place {x : Int} (h : goodB x = true) (ht : x % 8 = 0 ∨ x % 8 = 3 ∨ x % 8 = 5) : 0 ≤ valOf x := by
  unfold goodB at h
  rcases ht with e | e | e <;> rw [e] at h <;> simp [fitsB] at h <;> omega
theorem fits_str {k : Nat} (h : k < 65536) : fitsB 3 (k : Int) = true := by
  simp [fitsB]
  omega
section
variable {w : World} {B p : Nat} {m : Int} {v : Value} {l : List Int} {V : Nat → Bool}
set_option maxRecDepth 100000 in
set_option maxHeartbeats 4000000 in
theorem term_any (h : Ar 150 w B p m v l) (hs : Snd l V) (k : Nat) (hk : k < l.length) :
    Calls Tryz.prog 52 #[blkV p, .int .i64 (k : Int)] w fun e w' => e = .returned (.int .u64 (trmW l k)) ∧ Below w.heap.size w w' := by
  have hb0 := hid (below_alloc w (.cells #[.pointer (some ⟨p, 0, none⟩)] 98))
  have hx0 := hid (heap_alloc_new w (.cells #[.pointer (some ⟨p, 0, none⟩)] 98))
  have hlen : Hid (l.length ≤ 65536) := show _ ≤ _ by
    have h1 := h.len
    have h2 := h.m2
    omega
  have HA := hid h
  have HS := hid hs
  have HR : Hid (∀ R, R = trmW l k → True) := fun _ _ => trivial
  obtain ⟨R, hR⟩ : ∃ R, R = trmW l k := ⟨_, rfl⟩
  rw [← hR]
  replace hR := hid hR
  clear h hs HR
  go_enter Tryz.func52, Tryz.ntmps52
  go_wp2
  go_loopw [1] (fun a wr => ∃ j : Nat, j < l.length ∧ a = .int .i64 (j : Int) ∧ Hid (R = trmW l j) ∧ Hid (Below w.heap.size w wr) ∧ Hid (wr.heap[w.heap.size]? = some (.cells #[.pointer (some ⟨p, 0, none⟩)] 98))) (fun a _ => rkN l V (intOf a).toNat)
  case atStart => exact ⟨k, hk, rfl, hR, hb0, hx0⟩
  case round =>
    clear hb0 hx0 hR hk
    obtain ⟨j, hj, rfl, hR, hb, hx⟩ := hrel
    have hbx := hx.out
    have z0 := lt_of_block hbx
    have c0 : wr.cell? ⟨w.heap.size, 0, none⟩ = some (.pointer (some ⟨p, 0, none⟩)) := by simp [World.cell?, hbx]
    have hwd := hid (bword_ok (HA.out.below hb.out) j hj)
    have hg := HS.out.good j hj
    have hr := HS.out.rng (l.getD j 0) (by simp [List.getD, hj])
    have hnx : Hid (∀ i, nxN l j = some i → i < l.length ∧ rkN l V i < rkN l V j ∧ R = trmW l i) := fun i e => by
      obtain ⟨h1, h2⟩ := nx_rk HS.out hj e
      exact ⟨h1, h2, hR.out.trans (trm_next HS.out hj e)⟩
    have hen : Hid (nxN l j = none → R = endW l j) := fun e => hR.out.trans (trm_end e)
    have ew : Hid (wdN l j = l.getD j 0) := rfl
    have hdef : Hid (tgN l j = l.getD j 0 % 8 ∧ vlN l j = (valOf (l.getD j 0)).toNat) := ⟨rfl, rfl⟩
    rw [show wdN l j = l.getD j 0 from rfl] at hg
    have htc := tag_cases hg
    have hvp := hid (fun h => val_place hg h)
    generalize l.getD j 0 = x at *
    have htg := hid (fun w => tag_any x w hr.1 hr.2)
    have hva := hid (fun w => value_any x w)
    have hpk := hid (fun w => packed_ok 3 (j : Int) w (fits_str (by have := hlen.out; omega)))
    rcases htc with ht | ht | ht | ht | ht | ht
    · -- a reference
      have hj2 : Hid (tgN l j = 0) := show _ = _ by rw [hdef.out.1]; exact ht
      rw [ht] at htg
      by_cases hself : valOf x = (j : Int)
      · have hRx : Hid (R = x) := show _ = _ by
          have h1 : vlN l j = j := by rw [hdef.out.2, hself, Int.toNat_natCast]
          have h2 : nxN l j = none := by unfold nxN; rw [if_pos hj2.out, if_pos h1]
          rw [hen.out h2]
          unfold endW
          rw [if_neg (by rw [hj2.out]; decide), ew.out]
        rw [hself] at hva
        clear hnx hen hdef hvp hpk ht
        go_wp2_with (first
        | (go_at_call 98; refine hwd.out.mono ?_; rintro e w1 ⟨rfl, hb1⟩; have hb2 := hid (Below.next hb.out hb1); have hx2 := hid ((hb1.block _ z0).trans hx.out); clear hb1)
        | (go_at_call 68; refine (htg.out _).mono ?_; rintro e w2 ⟨rfl, rfl⟩)
        | (go_at_call 69; refine (hva.out _).mono ?_; rintro e w2 ⟨rfl, rfl⟩)
        | (go_at_call 72; refine (hpk.out _).mono ?_; rintro e w2 ⟨rfl, rfl⟩))
        go_ret
        exact ⟨ret_int hRx.out.symm, hb2.out⟩
      · have hv0 := hvp.out (Or.inl ht)
        obtain ⟨i, hvi⟩ : ∃ i : Nat, valOf x = (i : Int) := ⟨(valOf x).toNat, by omega⟩
        obtain ⟨hi, hrk, hRi⟩ := hnx.out i (by
          have h1 : vlN l j = i := by rw [hdef.out.2, hvi, Int.toNat_natCast]
          unfold nxN
          rw [if_pos hj2.out, if_neg (by omega), h1])
        have d0 : ((i : Int) == (j : Int)) = false := by simp; omega
        have Hrk := hid hrk
        have HRi := hid hRi
        rw [hvi] at hva
        clear hnx hen hdef hvp hpk ht hrk hRi hself hv0 hvi
        go_wp2_with (first
        | (go_at_call 98; refine hwd.out.mono ?_; rintro e w1 ⟨rfl, hb1⟩; have hb2 := hid (Below.next hb.out hb1); have hx2 := hid ((hb1.block _ z0).trans hx.out); clear hb1)
        | (go_at_call 68; refine (htg.out _).mono ?_; rintro e w2 ⟨rfl, rfl⟩)
        | (go_at_call 69; refine (hva.out _).mono ?_; rintro e w2 ⟨rfl, rfl⟩)
        | (go_at_call 72; refine (hpk.out _).mono ?_; rintro e w2 ⟨rfl, rfl⟩))
        go_roundw
        case rel => exact ⟨i, hi, rfl, HRi, hb2, hx2⟩
        case measure => simp only [intOf, Int.toNat_natCast]; exact Hrk.out
    · have hRx : Hid (R = x) := show _ = _ by
        have h2 : nxN l j = none := by unfold nxN; rw [hdef.out.1, if_neg (by omega), if_neg (by omega)]
        rw [hen.out h2]
        unfold endW
        rw [if_neg (by rw [hdef.out.1]; omega), ew.out]
      rw [ht] at htg
      clear hnx hen hdef hvp hpk ht
      go_wp2_with (first
        | (go_at_call 98; refine hwd.out.mono ?_; rintro e w1 ⟨rfl, hb1⟩; have hb2 := hid (Below.next hb.out hb1); have hx2 := hid ((hb1.block _ z0).trans hx.out); clear hb1)
        | (go_at_call 68; refine (htg.out _).mono ?_; rintro e w2 ⟨rfl, rfl⟩)
        | (go_at_call 69; refine (hva.out _).mono ?_; rintro e w2 ⟨rfl, rfl⟩)
        | (go_at_call 72; refine (hpk.out _).mono ?_; rintro e w2 ⟨rfl, rfl⟩))
      go_ret
      exact ⟨ret_int hRx.out.symm, hb2.out⟩
    · have hRx : Hid (R = x) := show _ = _ by
        have h2 : nxN l j = none := by unfold nxN; rw [hdef.out.1, if_neg (by omega), if_neg (by omega)]
        rw [hen.out h2]
        unfold endW
        rw [if_neg (by rw [hdef.out.1]; omega), ew.out]
      rw [ht] at htg
      clear hnx hen hdef hvp hpk ht
      go_wp2_with (first
        | (go_at_call 98; refine hwd.out.mono ?_; rintro e w1 ⟨rfl, hb1⟩; have hb2 := hid (Below.next hb.out hb1); have hx2 := hid ((hb1.block _ z0).trans hx.out); clear hb1)
        | (go_at_call 68; refine (htg.out _).mono ?_; rintro e w2 ⟨rfl, rfl⟩)
        | (go_at_call 69; refine (hva.out _).mono ?_; rintro e w2 ⟨rfl, rfl⟩)
        | (go_at_call 72; refine (hpk.out _).mono ?_; rintro e w2 ⟨rfl, rfl⟩))
      go_ret
      exact ⟨ret_int hRx.out.symm, hb2.out⟩
    · have hv0 := hvp.out (Or.inr (Or.inl ht))
      obtain ⟨i, hvi⟩ : ∃ i : Nat, valOf x = (i : Int) := ⟨(valOf x).toNat, by omega⟩
      obtain ⟨hi, hrk, hRi⟩ := hnx.out i (by
        have h1 : vlN l j = i := by rw [hdef.out.2, hvi, Int.toNat_natCast]
        unfold nxN
        rw [hdef.out.1, if_neg (by omega), if_pos (Or.inl ht), h1])
      have Hrk := hid hrk
      have HRi := hid hRi
      rw [hvi] at hva
      rw [ht] at htg
      clear hnx hen hdef hvp hpk ht hrk hRi hv0 hvi
      go_wp2_with (first
        | (go_at_call 98; refine hwd.out.mono ?_; rintro e w1 ⟨rfl, hb1⟩; have hb2 := hid (Below.next hb.out hb1); have hx2 := hid ((hb1.block _ z0).trans hx.out); clear hb1)
        | (go_at_call 68; refine (htg.out _).mono ?_; rintro e w2 ⟨rfl, rfl⟩)
        | (go_at_call 69; refine (hva.out _).mono ?_; rintro e w2 ⟨rfl, rfl⟩)
        | (go_at_call 72; refine (hpk.out _).mono ?_; rintro e w2 ⟨rfl, rfl⟩))
      go_roundw
      case rel => exact ⟨i, hi, rfl, HRi, hb2, hx2⟩
      case measure => simp only [intOf, Int.toNat_natCast]; exact Hrk.out
    · have hRx : Hid (R = wordOf 3 (j : Int)) := show _ = _ by
        have h2 : nxN l j = none := by unfold nxN; rw [hdef.out.1, if_neg (by omega), if_neg (by omega)]
        rw [hen.out h2]
        unfold endW
        rw [if_pos (by rw [hdef.out.1]; omega)]
      rw [ht] at htg
      clear hnx hen hdef hvp ht
      generalize wordOf 3 (j : Int) = y at *
      go_wp2_with (first
        | (go_at_call 98; refine hwd.out.mono ?_; rintro e w1 ⟨rfl, hb1⟩; have hb2 := hid (Below.next hb.out hb1); have hx2 := hid ((hb1.block _ z0).trans hx.out); clear hb1)
        | (go_at_call 68; refine (htg.out _).mono ?_; rintro e w2 ⟨rfl, rfl⟩)
        | (go_at_call 69; refine (hva.out _).mono ?_; rintro e w2 ⟨rfl, rfl⟩)
        | (go_at_call 72; refine (hpk.out _).mono ?_; rintro e w2 ⟨rfl, rfl⟩))
      go_ret
      exact ⟨ret_int hRx.out.symm, hb2.out⟩
    · have hv0 := hvp.out (Or.inr (Or.inr ht))
      obtain ⟨i, hvi⟩ : ∃ i : Nat, valOf x = (i : Int) := ⟨(valOf x).toNat, by omega⟩
      obtain ⟨hi, hrk, hRi⟩ := hnx.out i (by
        have h1 : vlN l j = i := by rw [hdef.out.2, hvi, Int.toNat_natCast]
        unfold nxN
        rw [hdef.out.1, if_neg (by omega), if_pos (Or.inr ht), h1])
      have Hrk := hid hrk
      have HRi := hid hRi
      rw [hvi] at hva
      rw [ht] at htg
      clear hnx hen hdef hvp hpk ht hrk hRi hv0 hvi
      go_wp2_with (first
        | (go_at_call 98; refine hwd.out.mono ?_; rintro e w1 ⟨rfl, hb1⟩; have hb2 := hid (Below.next hb.out hb1); have hx2 := hid ((hb1.block _ z0).trans hx.out); clear hb1)
        | (go_at_call 68; refine (htg.out _).mono ?_; rintro e w2 ⟨rfl, rfl⟩)
        | (go_at_call 69; refine (hva.out _).mono ?_; rintro e w2 ⟨rfl, rfl⟩)
        | (go_at_call 72; refine (hpk.out _).mono ?_; rintro e w2 ⟨rfl, rfl⟩))
      go_roundw
      case rel => exact ⟨i, hi, rfl, HRi, hb2, hx2⟩
      case measure => simp only [intOf, Int.toNat_natCast]; exact Hrk.out
end
end Go.Proofs.YtnoggmeffindbabGreatDoor

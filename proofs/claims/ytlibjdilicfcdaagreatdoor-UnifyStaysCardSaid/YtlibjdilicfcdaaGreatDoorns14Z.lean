/- Package cells: the words of a heap, read. -/
import Derived.Deep.RegionLaw
import Derived.Deep.DrawnRows
import Derived.Test.YtlibjdilicfcdaaGreatDoorns12Z
import Derived.Test.YtlibjdilicfcdaaGreatDoorns01Z
namespace Go.Proofs.YtlibjdilicfcdaaGreatDoor
set_option maxRecDepth 100000
open Go.RowKit
abbrev blkV (p : Nat) : Value := .agg #[.pointer (some ⟨p, 0, none⟩)]
def cellB (l : List Int) (n : Int) : Bool := inB n l.length && decide (l.getD n.toNat 0 % 8 ≠ 4) && decide (l.getD n.toNat 0 % 8 ≠ 5)
section
variable {w : World} {B p : Nat} {m : Int} {v : Value} {l : List Int}
set_option maxHeartbeats 800000 in
theorem bword_ok (h : Ar 159 w B p m v l) (k : Nat) (hk : k < l.length) :
    Calls Tryz.prog 66 #[blkV p, .int .i64 (k : Int)] w fun e w' => e = .returned (.int .u64 (l.getD k 0)) ∧ Below w.heap.size w w' := by
  have hb := hid (below_alloc w (.cells #[.pointer (some ⟨p, 0, none⟩)] 73))
  have hld := hid (load_ok (h.below hb.out) k hk)
  generalize l.getD k 0 = x at *
  clear h hk
  go_enter Tryz.func66, Tryz.ntmps66
  go_wp2_with (go_at_call 97; refine hld.out.mono ?_; rintro e w1 ⟨rfl, rfl⟩)
  go_ret
  exact ⟨rfl, hb.out⟩
set_option maxHeartbeats 800000 in
theorem iscell_any (h : Ar 159 w B p m v l) (n : Int) :
    Calls Tryz.prog 62 #[blkV p, .int .i64 n] w fun e w' => e = .returned (.bool (cellB l n)) ∧ Below w.heap.size w w' := by
  have hb := hid (below_alloc w (.cells #[.pointer (some ⟨p, 0, none⟩)] 73))
  by_cases hi : inB n l.length = true
  · have hn : 0 ≤ n ∧ n < (l.length : Int) := by simpa [inB] using hi
    obtain ⟨k, rfl⟩ : ∃ k : Nat, n = (k : Int) := ⟨n.toNat, by omega⟩
    have hk : k < l.length := by omega
    have hld := hid (load_ok (h.below hb.out) k hk)
    have hr := h.rng (l.getD k 0) (by simp [List.getD, hk])
    have hc : Hid (cellB l (k : Int) = (decide (l.getD k 0 % 8 ≠ 4) && decide (l.getD k 0 % 8 ≠ 5))) := show _ = _ by
      unfold cellB
      rw [hi, Bool.true_and, Int.toNat_natCast]
    generalize cellB l (k : Int) = C at *
    generalize l.getD k 0 = x at *
    have htg := hid (fun w => tag_any x w hr.1 hr.2)
    clear hi hn hk h
    by_cases h4 : x % 8 = 4
    · have hC : Hid (C = false) := show _ = _ by rw [hc.out]; simp [h4]
      have d0 : (x % 8 != 4) = false := by simp [h4]
      clear hc
      generalize x % 8 = y at *
      go_enter Tryz.func62, Tryz.ntmps62
      go_wp2_with (first
        | (go_at_call 97; refine hld.out.mono ?_; rintro e w1 ⟨rfl, rfl⟩)
        | (go_at_call 98; refine (htg.out _).mono ?_; rintro e w1 ⟨rfl, rfl⟩))
      go_ret
      exact ⟨ret_bool hC.out.symm, hb.out⟩
    · by_cases h5 : x % 8 = 5
      · have hC : Hid (C = false) := show _ = _ by rw [hc.out]; simp [h5]
        have d0 : (x % 8 != 4) = true := by simp [h4]
        have d1 : (x % 8 != 5) = false := by simp [h5]
        clear hc
        generalize x % 8 = y at *
        go_enter Tryz.func62, Tryz.ntmps62
        go_wp2_with (first
          | (go_at_call 97; refine hld.out.mono ?_; rintro e w1 ⟨rfl, rfl⟩)
          | (go_at_call 98; refine (htg.out _).mono ?_; rintro e w1 ⟨rfl, rfl⟩))
        go_ret
        exact ⟨ret_bool hC.out.symm, hb.out⟩
      · have hC : Hid (C = true) := show _ = _ by rw [hc.out]; simp [h4, h5]
        have d0 : (x % 8 != 4) = true := by simp [h4]
        have d1 : (x % 8 != 5) = true := by simp [h5]
        clear hc
        generalize x % 8 = y at *
        go_enter Tryz.func62, Tryz.ntmps62
        go_wp2_with (first
          | (go_at_call 97; refine hld.out.mono ?_; rintro e w1 ⟨rfl, rfl⟩)
          | (go_at_call 98; refine (htg.out _).mono ?_; rintro e w1 ⟨rfl, rfl⟩))
        go_ret
        exact ⟨ret_bool hC.out.symm, hb.out⟩
  · have hi' : inB n l.length = false := by simpa using hi
    have hld := hid (load_no (h.below hb.out) n hi')
    have hC : Hid (cellB l n = false) := show _ = _ by unfold cellB; rw [hi', Bool.false_and, Bool.false_and]
    have hb2 := hid (hb.out.alloc (by simp) (faultAtObj 23 n))
    clear h hi hi'
    go_enter Tryz.func62, Tryz.ntmps62
    go_wp2_with (go_at_call 97; refine hld.out.mono ?_; rintro e w1 ⟨rfl, rfl⟩)
    go_ret
    exact ⟨ret_bool hC.out.symm, hb2.out⟩
end
set_option maxHeartbeats 400000 in
theorem packed_ok (a b : Int) (w : World) (hf : fitsB a b = true) :
    Calls Tryz.prog 127 #[.int .i64 a, .int .i64 b] w fun e w' => e = .returned (.int .u64 (wordOf a b)) ∧ w' = w := by
  go_enter Tryz.func127, Tryz.ntmps127
  go_wp2_with (go_at_call 125; refine (pack_ok a b _ hf).mono ?_; rintro e w' ⟨rfl, rfl⟩)
  go_ret
  exact ⟨rfl, rfl⟩
set_option maxHeartbeats 400000 in
theorem cfault_any (c a : Int) (w : World) :
    Calls Tryz.prog 35 #[.int .i64 c, .int .i64 a] w fun e w' => e = .returned (.iface 84 (.pointer (some ⟨w.heap.size, 0, none⟩))) ∧ w' = w.alloc (faultAtObj c a) := by
  go_enter Tryz.func35, Tryz.ntmps35
  go_wp2
  go_ret
  exact ⟨rfl, rfl⟩
end Go.Proofs.YtlibjdilicfcdaaGreatDoor

namespace Go.Proofs.YtlibjdilicfcdaaGreatDoor
set_option maxRecDepth 100000
open Go.RowKit
theorem tag_cases {x : Int} (h : goodB x = true) : x % 8 = 0 ∨ x % 8 = 1 ∨ x % 8 = 2 ∨ x % 8 = 3 ∨ x % 8 = 4 ∨ x % 8 = 5 := by
  have := fits_tag _ _ h
  omega
theorem val_place {x : Int} (h : goodB x = true) (ht : x % 8 = 0 ∨ x % 8 = 3 ∨ x % 8 = 5) : 0 ≤ valOf x := by
  unfold goodB at h
  rcases ht with e | e | e <;> rw [e] at h <;> simp [fitsB] at h <;> omega
theorem fits_str {k : Nat} (h : k < 65536) : fitsB 3 (k : Int) = true := by
  simp [fitsB]
  omega
section
variable {w : World} {B p : Nat} {m : Int} {v : Value} {l : List Int} {V : Nat → Bool}
set_option maxHeartbeats 4000000 in
theorem term_any (h : Ar 159 w B p m v l) (hs : Snd l V) (k : Nat) (hk : k < l.length) :
    Calls Tryz.prog 110 #[blkV p, .int .i64 (k : Int)] w fun e w' => e = .returned (.int .u64 (trmW l k)) ∧ Below w.heap.size w w' := by
  have hb0 := hid (below_alloc w (.cells #[.pointer (some ⟨p, 0, none⟩)] 73))
  have hx0 := hid (heap_alloc_new w (.cells #[.pointer (some ⟨p, 0, none⟩)] 73))
  have hlen : Hid (l.length ≤ 65536) := show _ ≤ _ by
    have h1 := h.len
    have h2 := h.m2
    omega
  have HA := hid h
  have HS := hid hs
  have HR : Hid (∀ R, R = trmW l k → True) := fun _ _ => trivial
  obtain ⟨R, hR⟩ : ∃ R, R = trmW l k := ⟨_, rfl⟩
  rw [← hR]
  replace hR := hid hR
  clear h hs HR
  go_enter Tryz.func110, Tryz.ntmps110
  go_wp2
  go_loopw [1] (fun a wr => ∃ j : Nat, j < l.length ∧ a = .int .i64 (j : Int) ∧ Hid (R = trmW l j) ∧ Hid (Below w.heap.size w wr) ∧ Hid (wr.heap[w.heap.size]? = some (.cells #[.pointer (some ⟨p, 0, none⟩)] 73))) (fun a _ => rkN l V (intOf a).toNat)
  case atStart => exact ⟨k, hk, rfl, hR, hb0, hx0⟩
  case round =>
    clear hb0 hx0 hR hk
    obtain ⟨j, hj, rfl, hR, hb, hx⟩ := hrel
    have hbx := hx.out
    have z0 := lt_of_block hbx
    have c0 : wr.cell? ⟨w.heap.size, 0, none⟩ = some (.pointer (some ⟨p, 0, none⟩)) := by simp [World.cell?, hbx]
    have hwd := hid (bword_ok (HA.out.below hb.out) j hj)
    have hg := HS.out.good j hj
    have hr := HS.out.rng (l.getD j 0) (by simp [List.getD, hj])
    have hnx : Hid (∀ i, nxN l j = some i → i < l.length ∧ rkN l V i < rkN l V j ∧ R = trmW l i) := fun i e => by
      obtain ⟨h1, h2⟩ := nx_rk HS.out hj e
      exact ⟨h1, h2, hR.out.trans (trm_next HS.out hj e)⟩
    have hen : Hid (nxN l j = none → R = endW l j) := fun e => hR.out.trans (trm_end e)
    have ew : Hid (wdN l j = l.getD j 0) := rfl
    have hdef : Hid (tgN l j = l.getD j 0 % 8 ∧ vlN l j = (valOf (l.getD j 0)).toNat) := ⟨rfl, rfl⟩
    rw [show wdN l j = l.getD j 0 from rfl] at hg
    have htc := tag_cases hg
    have hvp := hid (fun h => val_place hg h)
    generalize l.getD j 0 = x at *
    have htg := hid (fun w => tag_any x w hr.1 hr.2)
    have hva := hid (fun w => value_any x w)
    have hpk := hid (fun w => packed_ok 3 (j : Int) w (fits_str (by have := hlen.out; omega)))
    rcases htc with ht | ht | ht | ht | ht | ht
    · -- a reference
      have hj2 : Hid (tgN l j = 0) := show _ = _ by rw [hdef.out.1]; exact ht
      rw [ht] at htg
      by_cases hself : valOf x = (j : Int)
      · have hRx : Hid (R = x) := show _ = _ by
          have h1 : vlN l j = j := by rw [hdef.out.2, hself, Int.toNat_natCast]
          have h2 : nxN l j = none := by unfold nxN; rw [if_pos hj2.out, if_pos h1]
          rw [hen.out h2]
          unfold endW
          rw [if_neg (by rw [hj2.out]; decide), ew.out]
        rw [hself] at hva
        clear hnx hen hdef hvp hpk ht
        go_wp2_with (first
        | (go_at_call 66; refine hwd.out.mono ?_; rintro e w1 ⟨rfl, hb1⟩; have hb2 := hid (Below.next hb.out hb1); have hx2 := hid ((hb1.block _ z0).trans hx.out); clear hb1)
        | (go_at_call 98; refine (htg.out _).mono ?_; rintro e w2 ⟨rfl, rfl⟩)
        | (go_at_call 111; refine (hva.out _).mono ?_; rintro e w2 ⟨rfl, rfl⟩)
        | (go_at_call 127; refine (hpk.out _).mono ?_; rintro e w2 ⟨rfl, rfl⟩))
        go_ret
        exact ⟨ret_int hRx.out.symm, hb2.out⟩
      · have hv0 := hvp.out (Or.inl ht)
        obtain ⟨i, hvi⟩ : ∃ i : Nat, valOf x = (i : Int) := ⟨(valOf x).toNat, by omega⟩
        obtain ⟨hi, hrk, hRi⟩ := hnx.out i (by
          have h1 : vlN l j = i := by rw [hdef.out.2, hvi, Int.toNat_natCast]
          unfold nxN
          rw [if_pos hj2.out, if_neg (by omega), h1])
        have d0 : ((i : Int) == (j : Int)) = false := by simp; omega
        have Hrk := hid hrk
        have HRi := hid hRi
        rw [hvi] at hva
        clear hnx hen hdef hvp hpk ht hrk hRi hself hv0 hvi
        go_wp2_with (first
        | (go_at_call 66; refine hwd.out.mono ?_; rintro e w1 ⟨rfl, hb1⟩; have hb2 := hid (Below.next hb.out hb1); have hx2 := hid ((hb1.block _ z0).trans hx.out); clear hb1)
        | (go_at_call 98; refine (htg.out _).mono ?_; rintro e w2 ⟨rfl, rfl⟩)
        | (go_at_call 111; refine (hva.out _).mono ?_; rintro e w2 ⟨rfl, rfl⟩)
        | (go_at_call 127; refine (hpk.out _).mono ?_; rintro e w2 ⟨rfl, rfl⟩))
        go_roundw
        case rel => exact ⟨i, hi, rfl, HRi, hb2, hx2⟩
        case measure => simp only [intOf, Int.toNat_natCast]; exact Hrk.out
    · have hRx : Hid (R = x) := show _ = _ by
        have h2 : nxN l j = none := by unfold nxN; rw [hdef.out.1, if_neg (by omega), if_neg (by omega)]
        rw [hen.out h2]
        unfold endW
        rw [if_neg (by rw [hdef.out.1]; omega), ew.out]
      rw [ht] at htg
      clear hnx hen hdef hvp hpk ht
      go_wp2_with (first
        | (go_at_call 66; refine hwd.out.mono ?_; rintro e w1 ⟨rfl, hb1⟩; have hb2 := hid (Below.next hb.out hb1); have hx2 := hid ((hb1.block _ z0).trans hx.out); clear hb1)
        | (go_at_call 98; refine (htg.out _).mono ?_; rintro e w2 ⟨rfl, rfl⟩)
        | (go_at_call 111; refine (hva.out _).mono ?_; rintro e w2 ⟨rfl, rfl⟩)
        | (go_at_call 127; refine (hpk.out _).mono ?_; rintro e w2 ⟨rfl, rfl⟩))
      go_ret
      exact ⟨ret_int hRx.out.symm, hb2.out⟩
    · have hRx : Hid (R = x) := show _ = _ by
        have h2 : nxN l j = none := by unfold nxN; rw [hdef.out.1, if_neg (by omega), if_neg (by omega)]
        rw [hen.out h2]
        unfold endW
        rw [if_neg (by rw [hdef.out.1]; omega), ew.out]
      rw [ht] at htg
      clear hnx hen hdef hvp hpk ht
      go_wp2_with (first
        | (go_at_call 66; refine hwd.out.mono ?_; rintro e w1 ⟨rfl, hb1⟩; have hb2 := hid (Below.next hb.out hb1); have hx2 := hid ((hb1.block _ z0).trans hx.out); clear hb1)
        | (go_at_call 98; refine (htg.out _).mono ?_; rintro e w2 ⟨rfl, rfl⟩)
        | (go_at_call 111; refine (hva.out _).mono ?_; rintro e w2 ⟨rfl, rfl⟩)
        | (go_at_call 127; refine (hpk.out _).mono ?_; rintro e w2 ⟨rfl, rfl⟩))
      go_ret
      exact ⟨ret_int hRx.out.symm, hb2.out⟩
    · have hv0 := hvp.out (Or.inr (Or.inl ht))
      obtain ⟨i, hvi⟩ : ∃ i : Nat, valOf x = (i : Int) := ⟨(valOf x).toNat, by omega⟩
      obtain ⟨hi, hrk, hRi⟩ := hnx.out i (by
        have h1 : vlN l j = i := by rw [hdef.out.2, hvi, Int.toNat_natCast]
        unfold nxN
        rw [hdef.out.1, if_neg (by omega), if_pos (Or.inl ht), h1])
      have Hrk := hid hrk
      have HRi := hid hRi
      rw [hvi] at hva
      rw [ht] at htg
      clear hnx hen hdef hvp hpk ht hrk hRi hv0 hvi
      go_wp2_with (first
        | (go_at_call 66; refine hwd.out.mono ?_; rintro e w1 ⟨rfl, hb1⟩; have hb2 := hid (Below.next hb.out hb1); have hx2 := hid ((hb1.block _ z0).trans hx.out); clear hb1)
        | (go_at_call 98; refine (htg.out _).mono ?_; rintro e w2 ⟨rfl, rfl⟩)
        | (go_at_call 111; refine (hva.out _).mono ?_; rintro e w2 ⟨rfl, rfl⟩)
        | (go_at_call 127; refine (hpk.out _).mono ?_; rintro e w2 ⟨rfl, rfl⟩))
      go_roundw
      case rel => exact ⟨i, hi, rfl, HRi, hb2, hx2⟩
      case measure => simp only [intOf, Int.toNat_natCast]; exact Hrk.out
    · have hRx : Hid (R = wordOf 3 (j : Int)) := show _ = _ by
        have h2 : nxN l j = none := by unfold nxN; rw [hdef.out.1, if_neg (by omega), if_neg (by omega)]
        rw [hen.out h2]
        unfold endW
        rw [if_pos (by rw [hdef.out.1]; omega)]
      rw [ht] at htg
      clear hnx hen hdef hvp ht
      generalize wordOf 3 (j : Int) = y at *
      go_wp2_with (first
        | (go_at_call 66; refine hwd.out.mono ?_; rintro e w1 ⟨rfl, hb1⟩; have hb2 := hid (Below.next hb.out hb1); have hx2 := hid ((hb1.block _ z0).trans hx.out); clear hb1)
        | (go_at_call 98; refine (htg.out _).mono ?_; rintro e w2 ⟨rfl, rfl⟩)
        | (go_at_call 111; refine (hva.out _).mono ?_; rintro e w2 ⟨rfl, rfl⟩)
        | (go_at_call 127; refine (hpk.out _).mono ?_; rintro e w2 ⟨rfl, rfl⟩))
      go_ret
      exact ⟨ret_int hRx.out.symm, hb2.out⟩
    · have hv0 := hvp.out (Or.inr (Or.inr ht))
      obtain ⟨i, hvi⟩ : ∃ i : Nat, valOf x = (i : Int) := ⟨(valOf x).toNat, by omega⟩
      obtain ⟨hi, hrk, hRi⟩ := hnx.out i (by
        have h1 : vlN l j = i := by rw [hdef.out.2, hvi, Int.toNat_natCast]
        unfold nxN
        rw [hdef.out.1, if_neg (by omega), if_pos (Or.inr ht), h1])
      have Hrk := hid hrk
      have HRi := hid hRi
      rw [hvi] at hva
      rw [ht] at htg
      clear hnx hen hdef hvp hpk ht hrk hRi hv0 hvi
      go_wp2_with (first
        | (go_at_call 66; refine hwd.out.mono ?_; rintro e w1 ⟨rfl, hb1⟩; have hb2 := hid (Below.next hb.out hb1); have hx2 := hid ((hb1.block _ z0).trans hx.out); clear hb1)
        | (go_at_call 98; refine (htg.out _).mono ?_; rintro e w2 ⟨rfl, rfl⟩)
        | (go_at_call 111; refine (hva.out _).mono ?_; rintro e w2 ⟨rfl, rfl⟩)
        | (go_at_call 127; refine (hpk.out _).mono ?_; rintro e w2 ⟨rfl, rfl⟩))
      go_roundw
      case rel => exact ⟨i, hi, rfl, HRi, hb2, hx2⟩
      case measure => simp only [intOf, Int.toNat_natCast]; exact Hrk.out
end
end Go.Proofs.YtlibjdilicfcdaaGreatDoor

namespace Go.Proofs.YtlibjdilicfcdaaGreatDoor
set_option maxRecDepth 100000
open Go.RowKit
theorem Tryz.infoU : (Tryz.prog.info? 123).map (fun i => (i.zero, i.size, i.bytes)) = some (some (.int .u64 0), 1, 8) := by kernel_rfl
theorem words_one (l : List Int) : ∀ u ∈ l.map (Value.int .u64), u.oneCell' = true := ints_oneCell .u64 l
theorem a_own_row {w : World} {B g n : Nat} {l : List Int} (h : w.heap[g]? = some (.cells (l.map (Value.int .u64)).toArray 123 (0, 0))) (hB : B ≤ g) (hn : l.length = n) (hm : n ≤ maxLen) :
    w.ownsRow B 123 1 (.slice (some ⟨g, 0, none⟩) n n) n (l.map (Value.int .u64)) :=
  ⟨by simp [hn], Or.inr ⟨g, n, _, rfl, hB, h, Nat.le_refl _, hm, by simp [hn], by rw [List.take_of_length_le (by simp; omega)]⟩⟩
theorem Tryz.sizeU : (Tryz.prog.info? 123).map (·.size) = some 1 := by kernel_rfl
theorem own_at {w : World} {B g n : Nat} {e : TypeId} {xs : List Value} (h : w.ownsRow B e 1 (.slice (some ⟨g, 0, none⟩) n n) n xs) : Hid (w.heap[g]? = some (.cells xs.toArray e (0, 0))) := by
  rcases h.2 with ⟨h', _⟩ | ⟨g', cap', cur, h', hb, hg, hnc, hcm, hcs, htake⟩
  · simp at h'
  · simp only [Value.slice.injEq, Option.some.injEq, Addr.mk.injEq, and_true, true_and] at h'
    obtain ⟨rfl, rfl⟩ := h'
    show _ = _
    rw [hg, ← htake, List.take_of_length_le (by simp; omega)]
theorem rd_copy {w : World} {ao : Option Addr} {n cap g : Nat} {l : List Int} (h : Rd w (.slice ao n cap) l) : 0 < (l.map (Value.int .u64)).length → (some (⟨g, 0, none⟩ : Addr) = some ⟨g, 0, none⟩) ∧ ∃ ad, ao = some ad ∧ ∀ j v, (l.map (Value.int .u64))[j]? = some v → w.cell? (ad.add j) = some v := by
  intro h0
  refine ⟨rfl, ?_⟩
  rcases h.src with ⟨e, rfl⟩ | ⟨a, c, e, hc⟩
  · simp at h0
  · simp at e
    exact ⟨a, e.1, hc⟩
theorem len_min (l : List Int) : (l.map (Value.int .u64)).length = Nat.min l.length l.length := by show _ = min _ _; simp
theorem made_len (l : List Int) : 0 + (l.map (Value.int .u64)).length ≤ ((madeCells (Value.int .u64 0).cells (l.length * 1)).toList).length := by simp [Value.cells, toList_madeCells_one]
set_option maxHeartbeats 1000000 in
theorem words_any {w : World} {B p : Nat} {m : Int} {v : Value} {l : List Int} (h : Ar 159 w B p m v l) :
    Calls Tryz.prog 76 #[.pointer (some ⟨p, 0, none⟩)] w fun e w' => e = .returned (.slice (some ⟨w.heap.size, 0, none⟩) l.length l.length) ∧
      w'.ownsRow w.heap.size 123 1 (.slice (some ⟨w.heap.size, 0, none⟩) l.length l.length) l.length (l.map (Value.int .u64)) ∧ Below w.heap.size w w' := by
  obtain ⟨i0, hi, hz0, hz1, hz2⟩ := info_parts Tryz.infoU
  have hrd := h.rd
  have hp := h.lt
  have hl : l.length ≤ 65536 := by have := h.len; have := h.m2; omega
  obtain ⟨ao, cap, rfl, _⟩ := h.val
  have c1 := h.c1
  have HL : Hid (∀ (g : Nat) (w1 : World), w.heap.size ≤ g → w1.heap[g]? = some (.cells (splice (madeCells (Value.int .u64 0).cells (l.length * 1)).toList 0 (l.map (Value.int .u64))).toArray 123 (0, 0)) → w1.ownsRow w.heap.size 123 1 (.slice (some ⟨g, 0, none⟩) l.length l.length) l.length (l.map (Value.int .u64))) := by
    intro g w1 hg h1
    refine a_own_row ?_ hg rfl (by unfold maxLen; omega)
    rw [h1]
    simp [splice, Value.cells, toList_madeCells_one]
  go_enter Tryz.func76, Tryz.ntmps76
  go_wp2_with (first
    | (refine wpList_copy_splice rfl (.tmp 12) (.tmp 16) 93 93 rfl 123 Tryz.underlying93 Tryz.sizeU (some ⟨w.heap.size, 0, none⟩) ao l.length l.length l.length cap rfl rfl w.heap.size 0 ((madeCells (Value.int .u64 0).cells (l.length * 1)).toList) 123 hg1.out (l.map (Value.int .u64)) (len_min l) (rd_copy hr1) (made_len l) (words_one l) w.heap.size w hb1 (Nat.le_refl _) ?_; intro w2 hh2 hb2)
    | (at_make; refine wpList_make_full _ rfl _ _ 93 rfl w.heap.size 123 i0 (.int .u64 0) 1 Tryz.underlying93 hi hz0 hz1 .i64 .i64 _ _ l.length rfl rfl rfl rfl (by rw [hz2]; omega) (by unfold maxLen; omega) (Nat.le_refl _) ?_; intro w1 hown1 hgrow1; have hb1 : Below w.heap.size w w1 := (Below.refl _ _).grown hgrow1 (Nat.le_refl _) (fun _ e => by cases e); have c1' := (hb1.cell (p := ⟨p, 1, none⟩) hp).trans c1; have hr1 := hrd.below hb1; have hg1 := own_at hown1))
  go_ret
  exact ⟨rfl, HL.out _ _ (Nat.le_refl _) hh2.out, hb2⟩
end Go.Proofs.YtlibjdilicfcdaaGreatDoor

namespace Go.Proofs.YtlibjdilicfcdaaGreatDoor
set_option maxRecDepth 100000
open Go.RowKit
attribute [local go_sem ↓] Go.wp_at_zero Go.wp_at_succ
def frsh (s k : Nat) : List Int := (List.range k).map (fun i => 8 * ((s + i : Nat) : Int))
theorem frsh_len (s k : Nat) : (frsh s k).length = k := by simp [frsh]
theorem frsh_succ (s k : Nat) : frsh s (k + 1) = frsh s k ++ [8 * ((s + k : Nat) : Int)] := by simp [frsh, List.range_succ]
section
variable {w : World} {B p : Nat} {m : Int} {v : Value} {l : List Int}
theorem a_Upd.push {T : TypeId} {w1 : World} {l' : List Int} {v' : Value} (h : Ar T w B p m v l) (hg : a_Mod (a_foot p v) w w1) (hp : w1.heap[p]? = w.heap[p]?) (ho : w1.ownsRow B 123 1 v' l'.length (l'.map (Value.int .u64)))
    (hn : a_Nx w v v') (hl : (l'.length : Int) ≤ m) (hr : ∀ x ∈ l', 0 ≤ x ∧ x ≤ 18446744073709551615) : a_Upd T w (w1.setCell ⟨p, 1, none⟩ v') B p m v l' v' := by
  have hb : w1.heap[p]? = some (.cells #[.int .i64 m, v] T (0, 0)) := by rw [hp]; exact h.blk
  have hne : v'.ownBlock ≠ some p := fun e => by
    rcases hn p e with h1 | h1
    · exact (h.row h1).2.2 rfl
    · have := h.lt; omega
  refine ⟨⟨h.ty, ?_, h.base, ownsRow_setCell_other ho (by simpa using hne) _, h.m1, h.m2, hl, hr⟩, hg.setCell (p := ⟨p, 1, none⟩) (Or.inl (a_mem_foot.2 (Or.inl rfl))) v', hn⟩
  rw [heap_setCell_same w1 p 1 _ T v' hb]
  rfl
theorem push_one {T : TypeId} {w1 : World} {x : Int} {g cap : Nat} (h : Ar T w B p m v l) (o : Obj) (hg : (w.alloc o).grownBy w1 v.ownBlock) (ho : w1.ownsRow B 123 1 (.slice (some ⟨g, 0, none⟩) (l.length + 1) cap) (l.length + 1) (l.map (Value.int .u64) ++ [.int .u64 x]))
    (hat : v.ownBlock = some g ∨ g = w.heap.size + 1) (hl : (l.length : Int) < m) (hx : 0 ≤ x ∧ x ≤ 18446744073709551615) :
    a_Upd T w (w1.setCell ⟨p, 1, none⟩ (.slice (some ⟨g, 0, none⟩) (l.length + 1) cap)) B p m v (l ++ [x]) (.slice (some ⟨g, 0, none⟩) (l.length + 1) cap) := by
  have hm : a_Mod (a_foot p v) w w1 := ((a_Mod.refl (a_foot p v) w).alloc o).grown hg (fun k e => Or.inl (a_mem_foot.2 (Or.inr e)))
  have hlt := h.lt
  refine a_Upd.push h hm ?_ (by simpa using ho) (fun k e => ?_) (by simp; omega) (fun y hy => ?_)
  · rw [hg.block p (by simp; omega) (fun e => (h.row e.symm).2.2 rfl)]
    exact Below.heap_alloc w o p hlt
  · simp [Value.ownBlock] at e
    subst e
    rcases hat with h1 | h1
    · exact Or.inl h1
    · exact Or.inr (by omega)
  · rcases List.mem_append.1 hy with h1 | h1
    · exact h.rng y h1
    · simp at h1; subst h1; exact hx
theorem undrew {w w' : World} {r : Option Nat} (h : w.drew.grownBy w' r) : w.grownBy w' r := ⟨h.os, h.tape, h.output, h.size, h.block⟩
theorem far_field {w w1 : World} {o : Obj} {r : Option Nat} {p : Nat} {v : Value} (h : (w.alloc o).drew.grownBy w1 r) (hp : p < w.heap.size) (hne : r ≠ some p) (hc : w.cell? ⟨p, 1, none⟩ = some v) (hf : w.frozen? ⟨p, 1, none⟩ = false) :
    w1.cell? ⟨p, 1, none⟩ = some v ∧ w1.frozen? ⟨p, 1, none⟩ = false := by
  have h' := undrew h
  have hb := h'.block p (by simp; omega) (Ne.symm hne)
  have hb2 := hb.trans (Below.heap_alloc w o p hp)
  exact ⟨(World.cell?_of_block (w := w) (a := ⟨p, 1, none⟩) hb2).trans hc, (World.frozen?_of_block (w := w) (a := ⟨p, 1, none⟩) hb2).trans hf⟩
set_option maxHeartbeats 400000 in
theorem alloc_few (h : Ar 159 w B p m v l) (n : Int) (hn : n < 1) :
    Calls Tryz.prog 59 #[.pointer (some ⟨p, 0, none⟩), .int .i64 n] w fun e w' => e = .returned (.tuple #[.int .i64 0, .iface 84 (.pointer (some ⟨w.heap.size, 0, none⟩))]) ∧ w' = w.alloc (faultAtObj 21 n) := by
  have hx := h.c0
  go_enter Tryz.func59, Tryz.ntmps59
  go_wp2_with (go_at_call 87; refine (afault_any _ _ _).mono ?_; rintro e w' ⟨rfl, rfl⟩)
  go_ret2
  exact ⟨rfl, rfl⟩
set_option maxHeartbeats 400000 in
theorem alloc_full (h : Ar 159 w B p m v l) (n : Int) (hn : 1 ≤ n) (hf : m - l.length < n) :
    Calls Tryz.prog 59 #[.pointer (some ⟨p, 0, none⟩), .int .i64 n] w fun e w' => e = .returned (.tuple #[.int .i64 0, .iface 84 (.pointer (some ⟨w.heap.size, 0, none⟩))]) ∧ w' = w.alloc (faultAtObj 22 n) := by
  have c0 := h.c0
  have h1 := h.m1
  have h2 := h.m2
  have h3 := h.len
  go_enter Tryz.func59, Tryz.ntmps59
  go_wp2_with (first | (go_at_call 63; refine (top_any h).mono ?_; rintro e w' ⟨rfl, rfl⟩) | (go_at_call 87; refine (afault_any _ _ _).mono ?_; rintro e w' ⟨rfl, rfl⟩))
  go_ret2
  exact ⟨rfl, rfl⟩
set_option maxHeartbeats 3200000 in
theorem alloc_ok (h : Ar 159 w B p m v l) (hB : B ≤ w.heap.size) (n : Nat) (hn : 1 ≤ n) (hf : (l.length : Int) + n ≤ m) :
    Calls Tryz.prog 59 #[.pointer (some ⟨p, 0, none⟩), .int .i64 (n : Int)] w fun e w' => ∃ v', e = .returned (.tuple #[.int .i64 (l.length : Int), .nilIface]) ∧ a_Upd 159 w w' B p m v (l ++ frsh l.length n) v' := by
  obtain ⟨i0, hi, hz0, hz1, hz2⟩ := info_parts Tryz.infoU
  have c0 := h.c0
  have h1 := h.m1
  have h2 := h.m2
  have h3 := h.len
  have hn' : (1 : Int) ≤ (n : Int) := by omega
  go_enter Tryz.func59, Tryz.ntmps59
  go_wp2_with (go_at_call 63; refine (top_any h).mono ?_; rintro e w ⟨rfl, rfl⟩)
  go_loopw [7, 28] (fun _ i wr => ∃ k : Nat, k ≤ n ∧ i = .int .i64 k ∧ ∃ v1, a_Upd 159 w wr B p m v (l ++ frsh l.length k) v1) (fun _ i _ => n - (intOf i).toNat)
  case atStart => exact ⟨0, Nat.zero_le _, rfl, v, by simpa [frsh] using a_Upd.refl h⟩
  case round =>
    obtain ⟨k, hk, rfl, v1, hU⟩ := hrel
    by_cases hlt : k < n
    · have hA := hU.ar
      have hlen : (l ++ frsh l.length k).length = l.length + k := by simp [frsh_len]
      obtain ⟨L, hL⟩ : ∃ L, L = l ++ frsh l.length k := ⟨_, rfl⟩
      rw [← hL] at hA hlen
      have hsz : w.heap.size ≤ wr.heap.size := hU.mod.size
      have HL : Hid (L = l ++ frsh l.length k) := hL
      have HU : Hid (a_Upd 159 w wr B p m v L v1) := by rw [hL]; exact hU
      clear hL hU
      have hown := hA.own
      rw [hlen] at hown
      have hp := hA.lt
      have hrow : v1.ownBlock ≠ some p := fun e => (hA.row e).2.2 rfl
      have a1 := hA.c1
      have af := hA.f1
      have hlt' : (k : Int) < (n : Int) := by omega
      obtain ⟨ao, cap0, hv1, _⟩ := hA.val
      rw [hlen] at hv1
      have HA : Hid (Ar 159 wr B p m v1 L) := hA
      clear hA hlen
      subst hv1
      have hwr : IntKind.i64.wrap ((l.length : Int) + k) = (l.length : Int) + k := by rw [IntKind.wrap_i64]; omega
      go_wp2
      go_region_law
        (first
          | (go_simp; go_at_call 93; refine (fresh_any _ _ (by omega) (by omega)).mono ?_; rintro e wq ⟨rfl, hwq⟩; subst hwq)
          | (refine step_append_lies _ (by rfl) _ _ _ (by rfl) B 123 i0 (.int .u64 0) 1 8 Tryz.underlying93 hi hz0 hz1 hz2 rfl (by omega) _ (l.length + k) (L.map (Value.int .u64)) (by rfl) ((hown.alloc _).drew) ⟨wr.heap.size, 0, none⟩ 1 1 [.int .u64 (8 * ((l.length : Int) + k))] (by rfl) (by rfl) (World.news_of_block (cs := #[.int .u64 (8 * ((l.length : Int) + k))]) (t := 123) (fr := (0, 0)) (heap_alloc_new wr _)) (by simp [Value.oneCell']) (by omega) (by unfold maxLen; omega) (by omega) (by simp; omega) (wr.heap.size + 1) (by simp) ?_; intro g cap w1 hown1 hgrow hat hlt1; obtain ⟨hc1, hf1⟩ := far_field hgrow hp hrow a1 af))
      all_goals go_wp2
      all_goals
        go_roundw
        case rel =>
          have hA := HA.out
          have hLl : L.length = l.length + k := by rw [HL.out]; simp [frsh_len]
          have R := push_one (w1 := w1) (x := 8 * ((l.length : Int) + k)) (g := g) (cap := cap) hA _ (undrew hgrow) (by rw [hLl]; exact hown1) hat (by rw [hLl]; omega) (by omega)
          rw [hLl] at R
          have HU' := HU.out.trans R
          rw [HL.out, List.append_assoc, ← Int.natCast_add, ← frsh_succ] at HU'
          exact ⟨k + 1, by omega, by go_num, _, HU'⟩
        case measure => simp [intOf]; omega
    · have hlt' : ¬ (k : Int) < (n : Int) := by omega
      obtain rfl : k = n := by omega
      have HU : Hid (a_Upd 159 w wr B p m v (l ++ frsh l.length k) v1) := hU
      clear hU
      go_wp2
      go_ret2
      exact ⟨rfl, v1, HU.out⟩
end
end Go.Proofs.YtlibjdilicfcdaaGreatDoor

/- Package cells: the word by which the term of a cell is told. -/
import Derived.Maps.OwnSet
import Derived.Maps.OwnOps
import Derived.DeepKeys4
import Derived.Test.YtipacdagaalccaaGreatDoorSD06Z
import Derived.Test.YtipacdagaalccaaGreatDoorSD11Z
import Derived.Test.YtipacdagaalccaaGreatDoorSD05Z
import Derived.Test.YtipacdagaalccaaGreatDoorSD12Z
import Derived.Test.YtipacdagaalccaaGreatDoorSD08Z
namespace Go.Proofs.YtipacdagaalccaaGreatDoor
set_option maxRecDepth 100000
open Go.RowKit
theorem tag_cases {x : Int} (h : goodB x = true) : x % 8 = 0 ∨ x % 8 = 1 ∨ x % 8 = 2 ∨ x % 8 = 3 ∨ x % 8 = 4 ∨ x % 8 = 5 := by
  have := fits_tag _ _ h
  omega
theorem val_place {x : Int} (h : goodB x = true) (ht : x % 8 = 0 ∨ x % 8 = 3 ∨ x % 8 = 5) : 0 ≤ valOf x := by
  unfold goodB at h
  rcases ht with e | e | e <;> rw [e] at h <;> simp [fitsB] at h <;> omega
theorem fits_str {k : Nat} (h : k < 65536) : fitsB 3 (k : Int) = true := by
  simp [fitsB]
  omega
section
variable {w : World} {B p : Nat} {m : Int} {v : Value} {l : List Int} {V : Nat → Bool}
set_option maxHeartbeats 4000000 in
theorem term_any (h : Ar 111 w B p m v l) (hs : Snd l V) (k : Nat) (hk : k < l.length) :
    Calls Tryz.prog 42 #[blkV p, .int .i64 (k : Int)] w fun e w' => e = .returned (.int .u64 (trmW l k)) ∧ Below w.heap.size w w' := by
  have hb0 := hid (below_alloc w (.cells #[.pointer (some ⟨p, 0, none⟩)] 65))
  have hx0 := hid (heap_alloc_new w (.cells #[.pointer (some ⟨p, 0, none⟩)] 65))
  have hlen : Hid (l.length ≤ 65536) := show _ ≤ _ by
    have h1 := h.len
    have h2 := h.m2
    omega
  have HA := hid h
  have HS := hid hs
  have HR : Hid (∀ R, R = trmW l k → True) := fun _ _ => trivial
  obtain ⟨R, hR⟩ : ∃ R, R = trmW l k := ⟨_, rfl⟩
  rw [← hR]
  replace hR := hid hR
  clear h hs HR
  go_enter Tryz.func42, Tryz.ntmps42
  go_wp2
  go_loopw [1] (fun a wr => ∃ j : Nat, j < l.length ∧ a = .int .i64 (j : Int) ∧ Hid (R = trmW l j) ∧ Hid (Below w.heap.size w wr) ∧ Hid (wr.heap[w.heap.size]? = some (.cells #[.pointer (some ⟨p, 0, none⟩)] 65))) (fun a _ => rkN l V (intOf a).toNat)
  case atStart => exact ⟨k, hk, rfl, hR, hb0, hx0⟩
  case round =>
    clear hb0 hx0 hR hk
    obtain ⟨j, hj, rfl, hR, hb, hx⟩ := hrel
    have hbx := hx.out
    have z0 := lt_of_block hbx
    have c0 : wr.cell? ⟨w.heap.size, 0, none⟩ = some (.pointer (some ⟨p, 0, none⟩)) := by simp [World.cell?, hbx]
    have hwd := hid (bword_ok (HA.out.below hb.out) j hj)
    have hg := HS.out.good j hj
    have hr := HS.out.rng (l.getD j 0) (by simp [List.getD, hj])
    have hnx : Hid (∀ i, nxN l j = some i → i < l.length ∧ rkN l V i < rkN l V j ∧ R = trmW l i) := fun i e => by
      obtain ⟨h1, h2⟩ := nx_rk HS.out hj e
      exact ⟨h1, h2, hR.out.trans (trm_next HS.out hj e)⟩
    have hen : Hid (nxN l j = none → R = endW l j) := fun e => hR.out.trans (trm_end e)
    have ew : Hid (wdN l j = l.getD j 0) := rfl
    have hdef : Hid (tgN l j = l.getD j 0 % 8 ∧ vlN l j = (valOf (l.getD j 0)).toNat) := ⟨rfl, rfl⟩
    rw [show wdN l j = l.getD j 0 from rfl] at hg
    have htc := tag_cases hg
    have hvp := hid (fun h => val_place hg h)
    generalize l.getD j 0 = x at *
    have htg := hid (fun w => tag_any x w hr.1 hr.2)
    have hva := hid (fun w => value_any x w)
    have hpk := hid (fun w => packed_ok 3 (j : Int) w (fits_str (by have := hlen.out; omega)))
    rcases htc with ht | ht | ht | ht | ht | ht
    · -- a reference
      have hj2 : Hid (tgN l j = 0) := show _ = _ by rw [hdef.out.1]; exact ht
      rw [ht] at htg
      by_cases hself : valOf x = (j : Int)
      · have hRx : Hid (R = x) := show _ = _ by
          have h1 : vlN l j = j := by rw [hdef.out.2, hself, Int.toNat_natCast]
          have h2 : nxN l j = none := by unfold nxN; rw [if_pos hj2.out, if_pos h1]
          rw [hen.out h2]
          unfold endW
          rw [if_neg (by rw [hj2.out]; decide), ew.out]
        rw [hself] at hva
        clear hnx hen hdef hvp hpk ht
        go_wp2_with (first
        | (go_at_call 72; refine hwd.out.mono ?_; rintro e w1 ⟨rfl, hb1⟩; have hb2 := hid (Below.next hb.out hb1); have hx2 := hid ((hb1.block _ z0).trans hx.out); clear hb1)
        | (go_at_call 43; refine (htg.out _).mono ?_; rintro e w2 ⟨rfl, rfl⟩)
        | (go_at_call 44; refine (hva.out _).mono ?_; rintro e w2 ⟨rfl, rfl⟩)
        | (go_at_call 50; refine (hpk.out _).mono ?_; rintro e w2 ⟨rfl, rfl⟩))
        go_ret
        exact ⟨ret_int hRx.out.symm, hb2.out⟩
      · have hv0 := hvp.out (Or.inl ht)
        obtain ⟨i, hvi⟩ : ∃ i : Nat, valOf x = (i : Int) := ⟨(valOf x).toNat, by omega⟩
        obtain ⟨hi, hrk, hRi⟩ := hnx.out i (by
          have h1 : vlN l j = i := by rw [hdef.out.2, hvi, Int.toNat_natCast]
          unfold nxN
          rw [if_pos hj2.out, if_neg (by omega), h1])
        have d0 : ((i : Int) == (j : Int)) = false := by simp; omega
        have Hrk := hid hrk
        have HRi := hid hRi
        rw [hvi] at hva
        clear hnx hen hdef hvp hpk ht hrk hRi hself hv0 hvi
        go_wp2_with (first
        | (go_at_call 72; refine hwd.out.mono ?_; rintro e w1 ⟨rfl, hb1⟩; have hb2 := hid (Below.next hb.out hb1); have hx2 := hid ((hb1.block _ z0).trans hx.out); clear hb1)
        | (go_at_call 43; refine (htg.out _).mono ?_; rintro e w2 ⟨rfl, rfl⟩)
        | (go_at_call 44; refine (hva.out _).mono ?_; rintro e w2 ⟨rfl, rfl⟩)
        | (go_at_call 50; refine (hpk.out _).mono ?_; rintro e w2 ⟨rfl, rfl⟩))
        go_roundw
        case rel => exact ⟨i, hi, rfl, HRi, hb2, hx2⟩
        case measure => simp only [intOf, Int.toNat_natCast]; exact Hrk.out
    · have hRx : Hid (R = x) := show _ = _ by
        have h2 : nxN l j = none := by unfold nxN; rw [hdef.out.1, if_neg (by omega), if_neg (by omega)]
        rw [hen.out h2]
        unfold endW
        rw [if_neg (by rw [hdef.out.1]; omega), ew.out]
      rw [ht] at htg
      clear hnx hen hdef hvp hpk ht
      go_wp2_with (first
        | (go_at_call 72; refine hwd.out.mono ?_; rintro e w1 ⟨rfl, hb1⟩; have hb2 := hid (Below.next hb.out hb1); have hx2 := hid ((hb1.block _ z0).trans hx.out); clear hb1)
        | (go_at_call 43; refine (htg.out _).mono ?_; rintro e w2 ⟨rfl, rfl⟩)
        | (go_at_call 44; refine (hva.out _).mono ?_; rintro e w2 ⟨rfl, rfl⟩)
        | (go_at_call 50; refine (hpk.out _).mono ?_; rintro e w2 ⟨rfl, rfl⟩))
      go_ret
      exact ⟨ret_int hRx.out.symm, hb2.out⟩
    · have hRx : Hid (R = x) := show _ = _ by
        have h2 : nxN l j = none := by unfold nxN; rw [hdef.out.1, if_neg (by omega), if_neg (by omega)]
        rw [hen.out h2]
        unfold endW
        rw [if_neg (by rw [hdef.out.1]; omega), ew.out]
      rw [ht] at htg
      clear hnx hen hdef hvp hpk ht
      go_wp2_with (first
        | (go_at_call 72; refine hwd.out.mono ?_; rintro e w1 ⟨rfl, hb1⟩; have hb2 := hid (Below.next hb.out hb1); have hx2 := hid ((hb1.block _ z0).trans hx.out); clear hb1)
        | (go_at_call 43; refine (htg.out _).mono ?_; rintro e w2 ⟨rfl, rfl⟩)
        | (go_at_call 44; refine (hva.out _).mono ?_; rintro e w2 ⟨rfl, rfl⟩)
        | (go_at_call 50; refine (hpk.out _).mono ?_; rintro e w2 ⟨rfl, rfl⟩))
      go_ret
      exact ⟨ret_int hRx.out.symm, hb2.out⟩
    · have hv0 := hvp.out (Or.inr (Or.inl ht))
      obtain ⟨i, hvi⟩ : ∃ i : Nat, valOf x = (i : Int) := ⟨(valOf x).toNat, by omega⟩
      obtain ⟨hi, hrk, hRi⟩ := hnx.out i (by
        have h1 : vlN l j = i := by rw [hdef.out.2, hvi, Int.toNat_natCast]
        unfold nxN
        rw [hdef.out.1, if_neg (by omega), if_pos (Or.inl ht), h1])
      have Hrk := hid hrk
      have HRi := hid hRi
      rw [hvi] at hva
      rw [ht] at htg
      clear hnx hen hdef hvp hpk ht hrk hRi hv0 hvi
      go_wp2_with (first
        | (go_at_call 72; refine hwd.out.mono ?_; rintro e w1 ⟨rfl, hb1⟩; have hb2 := hid (Below.next hb.out hb1); have hx2 := hid ((hb1.block _ z0).trans hx.out); clear hb1)
        | (go_at_call 43; refine (htg.out _).mono ?_; rintro e w2 ⟨rfl, rfl⟩)
        | (go_at_call 44; refine (hva.out _).mono ?_; rintro e w2 ⟨rfl, rfl⟩)
        | (go_at_call 50; refine (hpk.out _).mono ?_; rintro e w2 ⟨rfl, rfl⟩))
      go_roundw
      case rel => exact ⟨i, hi, rfl, HRi, hb2, hx2⟩
      case measure => simp only [intOf, Int.toNat_natCast]; exact Hrk.out
    · have hRx : Hid (R = wordOf 3 (j : Int)) := show _ = _ by
        have h2 : nxN l j = none := by unfold nxN; rw [hdef.out.1, if_neg (by omega), if_neg (by omega)]
        rw [hen.out h2]
        unfold endW
        rw [if_pos (by rw [hdef.out.1]; omega)]
      rw [ht] at htg
      clear hnx hen hdef hvp ht
      generalize wordOf 3 (j : Int) = y at *
      go_wp2_with (first
        | (go_at_call 72; refine hwd.out.mono ?_; rintro e w1 ⟨rfl, hb1⟩; have hb2 := hid (Below.next hb.out hb1); have hx2 := hid ((hb1.block _ z0).trans hx.out); clear hb1)
        | (go_at_call 43; refine (htg.out _).mono ?_; rintro e w2 ⟨rfl, rfl⟩)
        | (go_at_call 44; refine (hva.out _).mono ?_; rintro e w2 ⟨rfl, rfl⟩)
        | (go_at_call 50; refine (hpk.out _).mono ?_; rintro e w2 ⟨rfl, rfl⟩))
      go_ret
      exact ⟨ret_int hRx.out.symm, hb2.out⟩
    · have hv0 := hvp.out (Or.inr (Or.inr ht))
      obtain ⟨i, hvi⟩ : ∃ i : Nat, valOf x = (i : Int) := ⟨(valOf x).toNat, by omega⟩
      obtain ⟨hi, hrk, hRi⟩ := hnx.out i (by
        have h1 : vlN l j = i := by rw [hdef.out.2, hvi, Int.toNat_natCast]
        unfold nxN
        rw [hdef.out.1, if_neg (by omega), if_pos (Or.inr ht), h1])
      have Hrk := hid hrk
      have HRi := hid hRi
      rw [hvi] at hva
      rw [ht] at htg
      clear hnx hen hdef hvp hpk ht hrk hRi hv0 hvi
      go_wp2_with (first
        | (go_at_call 72; refine hwd.out.mono ?_; rintro e w1 ⟨rfl, hb1⟩; have hb2 := hid (Below.next hb.out hb1); have hx2 := hid ((hb1.block _ z0).trans hx.out); clear hb1)
        | (go_at_call 43; refine (htg.out _).mono ?_; rintro e w2 ⟨rfl, rfl⟩)
        | (go_at_call 44; refine (hva.out _).mono ?_; rintro e w2 ⟨rfl, rfl⟩)
        | (go_at_call 50; refine (hpk.out _).mono ?_; rintro e w2 ⟨rfl, rfl⟩))
      go_roundw
      case rel => exact ⟨i, hi, rfl, HRi, hb2, hx2⟩
      case measure => simp only [intOf, Int.toNat_natCast]; exact Hrk.out
end
end Go.Proofs.YtipacdagaalccaaGreatDoor

namespace Go.Proofs.YtipacdagaalccaaGreatDoor
set_option maxRecDepth 100000
open Go.RowKit
structure Hp (w : World) (B hb ab tb : Nat) (m : Int) (av : Value) (l : List Int) (tv : Value) (tq : Nat) (ns : List ByteArray) (trv ptv : Value) (n : Int) : Prop where
  blk : w.heap[hb]? = some (.cells #[.pointer (some ⟨ab, 0, none⟩), .pointer (some ⟨tb, 0, none⟩), trv, ptv, .int .i64 n] 70)
  base : B ≤ hb
  ar : Ar 111 w B ab m av l
  tb : Tb w B tb tv tq ns
section
variable {w w' : World} {B hb ab tb : Nat} {m : Int} {av : Value} {l : List Int} {tv : Value} {tq : Nat} {ns : List ByteArray} {trv ptv : Value} {n : Int}
theorem Hp.below (h : Hp w B hb ab tb m av l tv tq ns trv ptv n) (hm : Below w.heap.size w w') : Hp w' B hb ab tb m av l tv tq ns trv ptv n :=
  ⟨(hm.block _ (lt_of_block h.blk)).trans h.blk, h.base, h.ar.below hm, h.tb.below hm⟩
theorem Hp.cells (h : Hp w B hb ab tb m av l tv tq ns trv ptv n) : (w.cell? ⟨hb, 0, none⟩ = some (.pointer (some ⟨ab, 0, none⟩)) ∧ w.cell? ⟨hb, 1, none⟩ = some (.pointer (some ⟨tb, 0, none⟩)) ∧ w.cell? ⟨hb, 2, none⟩ = some trv ∧ w.cell? ⟨hb, 3, none⟩ = some ptv ∧ w.cell? ⟨hb, 4, none⟩ = some (.int .i64 n)) ∧ hb < w.heap.size := by
  have e := h.blk
  refine ⟨⟨?_, ?_, ?_, ?_, ?_⟩, lt_of_block e⟩ <;> simp [World.cell?, e]
end
set_option maxHeartbeats 400000 in
theorem self_some (hb : Nat) (w : World) :
    Calls Tryz.prog 24 #[.pointer (some ⟨hb, 0, none⟩)] w fun e w' => e = .returned (.pointer (some ⟨hb, 0, none⟩)) ∧ w' = w := by
  go_enter Tryz.func24, Tryz.ntmps24
  go_wp2
  go_ret
  exact ⟨rfl, rfl⟩
theorem cstr_eg : ∀ args w, (callFunc 69 args).run Tryz.prog w = .ok (.enter 69 args) w := enters_of Tryz.func69 (by kernel_rfl) rfl
section
variable {w : World} {B p : Nat} {m : Int} {v : Value} {l : List Int}
set_option maxHeartbeats 800000 in
theorem cstr_any (h : Ar 111 w B p m v l) {b : Nat} (hx : w.heap[b]? = some (.cells #[.pointer (some ⟨p, 0, none⟩)] 65)) (x : Int) :
    Calls Tryz.prog 69 #[.int .i64 x, .pointer (some ⟨b, 0, none⟩)] w fun e w' => e = .returned (.bool (!cellB l x)) ∧ Below w.heap.size w w' := by
  have c0 : w.cell? ⟨b, 0, none⟩ = some (.pointer (some ⟨p, 0, none⟩)) := by simp [World.cell?, hx]
  have z0 := lt_of_block hx
  have hc := hid (iscell_any h x)
  clear h hx
  go_enter Tryz.func69, Tryz.ntmps69
  go_wp2_with (go_at_call 70; refine hc.out.mono ?_; rintro e w1 ⟨rfl, hb1⟩)
  go_ret
  exact ⟨rfl, hb1⟩
def badC (l : List Int) (cs : List Int) : Int := ixOf (fun x => !cellB l x) cs
def badF (l : List Int) (cs : List Int) : Fs := if 0 ≤ badC l cs then [(113, badC l cs)] else []
set_option maxHeartbeats 2000000 in
theorem checkedC_any (h : Ar 111 w B p m v l) {cv : Value} {cs : List Int} (hc : Ri w cv cs) (hl : cs.length ≤ 5000) :
    Calls Tryz.prog 41 #[blkV p, cv] w fun e w' => (∃ ev, e = .returned ev ∧ Er w' ev (badF l cs)) ∧ Below w.heap.size w w' := by
  have hb0 := below_alloc w (.cells #[.pointer (some ⟨p, 0, none⟩)] 65)
  have hx0 := heap_alloc_new w (.cells #[.pointer (some ⟨p, 0, none⟩)] 65)
  have hmf : ∀ (fn : Fn) (first cap : Array Value) (w : World), (Instr.makeFunc fn first cap).run Tryz.prog w = .ok (.func fn first cap) w := fun _ _ _ _ => rfl
  have hix := hid (index_ints 69 #[.pointer (some ⟨w.heap.size, 0, none⟩)] cstr_eg cv cs (fun k => !cellB l (cs.getD k 0)) (fun _ w1 => Below w.heap.size w w1 ∧ w1.heap[w.heap.size]? = some (.cells #[.pointer (some ⟨p, 0, none⟩)] 65)) (fun _ w1 => Below w.heap.size w w1) (w.alloc (.cells #[.pointer (some ⟨p, 0, none⟩)] 65)) hl (fun k w1 h1 => hc.below h1.1) (fun k w1 hk h1 => by
    refine (cstr_any (h.below h1.1) h1.2 (cs.getD k 0)).mono ?_
    rintro e w2 ⟨rfl, hb2⟩
    exact ⟨rfl, fun _ => Below.next h1.1 hb2, fun _ => ⟨Below.next h1.1 hb2, (hb2.block _ (lt_of_block h1.2)).trans h1.2⟩⟩) ⟨hb0, hx0⟩)
  have hhit : Hid (∀ k, k < cs.length → (∀ j, j < k → (!cellB l (cs.getD j 0)) = false) → (!cellB l (cs.getD k 0)) = true → badC l cs = (k : Int)) := fun k hk h1 h2 => ixOf_hit 0 (fun x => !cellB l x) cs k hk h1 h2
  have hmis : Hid ((∀ j, j < cs.length → (!cellB l (cs.getD j 0)) = false) → badC l cs = -1) := fun h1 => ixOf_miss 0 (fun x => !cellB l x) cs h1
  have hFS : Hid (badF l cs = if 0 ≤ badC l cs then [(113, badC l cs)] else []) := rfl
  generalize badF l cs = FS at *
  generalize badC l cs = R at *
  obtain ⟨ao, cc, rfl, _⟩ := hc
  clear h hb0 hx0
  go_enter Tryz.func41, Tryz.ntmps41
  go_wp2_with (first
    | (go_at_call 71; refine hix.out.mono ?_; clear hix; rintro e w1 (⟨k, hk, h1, h2, rfl, hT⟩ | ⟨h1, rfl, hI, _⟩))
    | (go_at_call 35; refine (cfault_any _ _ _).mono ?_; rintro e w2 ⟨rfl, rfl⟩))
  · have e0 := hhit.out k hk h1 h2
    have e1 : FS = [(113, (k : Int))] := by rw [hFS.out, e0, if_pos (by omega)]
    go_ret
    refine ⟨⟨_, rfl, ?_⟩, hT.alloc hT.size _⟩
    rw [e1]
    exact ⟨show (113 : Int) ≠ 0 by decide, w1.heap.size, .nilIface, rfl, heap_alloc_new w1 _, rfl⟩
  · have e0 := hmis.out h1
    have e1 : FS = [] := by rw [hFS.out, e0, if_neg (by omega)]
    go_ret
    refine ⟨⟨_, rfl, ?_⟩, hI⟩
    rw [e1]
    rfl
end
end Go.Proofs.YtipacdagaalccaaGreatDoor

namespace Go.Proofs.YtipacdagaalccaaGreatDoor
set_option maxRecDepth 100000
open Go.RowKit
theorem len_le_of_subset : ∀ (S l : List Int), l.Nodup → (∀ x ∈ l, x ∈ S) → l.length ≤ S.length
  | [], l, _, h => by
    cases l with
    | nil => simp
    | cons a r => exact absurd (h a (by simp)) (by simp)
  | a :: S, l, hn, h => by
    by_cases hm : a ∈ l
    · have h1 := len_le_of_subset S (l.erase a) (hn.erase _) (fun x hx => by
        have h2 := (hn.mem_erase_iff).1 hx
        rcases List.mem_cons.1 (h x h2.2) with e | e
        · exact absurd e h2.1
        · exact e)
      rw [List.length_erase_of_mem hm] at h1
      simp only [List.length_cons]
      omega
    · have := len_le_of_subset S l hn (fun x hx => by
        rcases List.mem_cons.1 (h x hx) with e | e
        · exact absurd (by rw [← e]; exact hx) hm
        · exact e)
      simp only [List.length_cons]
      omega
theorem pos_of_getD : ∀ {m : List Int} {i : Nat}, m.Nodup → i < m.length → pos m (m.getD i 0) = i
  | [], i, _, h => absurd h (Nat.not_lt_zero _)
  | y :: r, 0, _, _ => by simp [pos]
  | y :: r, i + 1, hn, h => by
    have hr := List.nodup_cons.1 hn
    have hi : i < r.length := by simpa using h
    have h1 := pos_of_getD hr.2 hi
    have hne : ¬ y = r.getD i 0 := fun e => hr.1 (by rw [e]; exact getD_mem hi)
    simp only [List.getD_cons_succ, pos, if_neg hne, h1]
theorem list_ext0 {l m : List Int} (h : l.length = m.length) (he : ∀ j, j < l.length → l.getD j 0 = m.getD j 0) : l = m := by
  apply List.ext_getElem h
  intro i h1 h2
  have := he i h1
  simpa [List.getD, h1, h2] using this
theorem trim_len {g : Gf} (_ : Good g) : (trimF g).nodes.length = (metF g).length := by simp [trimF]
end Go.Proofs.YtipacdagaalccaaGreatDoor

namespace Go.Proofs.YtipacdagaalccaaGreatDoor
set_option maxRecDepth 100000
open Go.RowKit
def labV (x : Int) (n : Nd) : Value := .agg #[.int .i64 n.kind, .int .i64 n.num, .int .i64 n.args.length, .int .i64 (if n.kind = 1 then x else 0), .string n.name]
theorem ret_lab {w : World} {fn : Func} {t : Tmp} (hfn : fn.results = #[.cell t 210]) {tmps : Array Value} {q : Nat} {u0 u1 u2 u3 u4 : Value} (h4 : tmps[t]?.getD undef = .pointer (some ⟨q, 0, none⟩)) (hq : w.heap[q]? = some (.cells #[u0, u1, u2, u3, u4] 210)) : (results fn tmps).run Tryz.prog w = .ok (.agg #[u0, u1, u2, u3, u4]) w := by
  have z0 : w.cell? ⟨q, 0, none⟩ = some u0 := by simp [World.cell?, hq]
  have z1 : w.cell? ⟨q, 1, none⟩ = some u1 := by simp [World.cell?, hq]
  have z2 : w.cell? ⟨q, 2, none⟩ = some u2 := by simp [World.cell?, hq]
  have z3 : w.cell? ⟨q, 3, none⟩ = some u3 := by simp [World.cell?, hq]
  have z4 : w.cell? ⟨q, 4, none⟩ = some u4 := by simp [World.cell?, hq]
  simp [results, hfn, go_sem, h4, z0, z1, z2, z3, z4]
set_option maxHeartbeats 1000000 in
theorem label_any (x : Int) (n : Nd) (aa : Option Addr) (ac : Nat) (w : World) (hl : n.args.length ≤ 5000) :
    Calls Tryz.prog 126 #[.int .i64 x, .agg #[.int .i64 n.kind, .string n.name, .int .i64 n.num, .slice aa n.args.length ac]] w fun e w' => e = .returned (labV x n) ∧ Below w.heap.size w w' := by
  obtain ⟨kind, name, num, args⟩ := n
  dsimp only at hl ⊢
  unfold labV
  dsimp only
  by_cases hk : kind = 1
  · subst hk
    go_enter Tryz.func126, Tryz.ntmps126
    go_wp2
    refine bodyPost_ret (ret_lab Tryz.results126 (by rfl) ?_) rfl ⟨rfl, ((below_alloc w _).alloc (by simp) _).alloc (by simp <;> omega) _⟩
    rw [Below.heap_alloc _ _ _ (by simp)]
    exact (by simpa using heap_alloc_new (w.alloc _) _)
  · go_enter Tryz.func126, Tryz.ntmps126
    go_wp2
    refine bodyPost_ret (ret_lab Tryz.results126 (by rfl) ?_) rfl ⟨rfl, ((below_alloc w _).alloc (by simp) _).alloc (by simp <;> omega) _⟩
    rw [Below.heap_alloc _ _ _ (by simp)]
    exact (by simpa using heap_alloc_new (w.alloc _) _)
set_option maxHeartbeats 2000000 in
theorem classesOf_any {W : World} {lv cv : Value} {l cl : List Int} (hl : Ri W lv l) (hc : Ri W cv cl) (hlr : ∀ x ∈ l, 0 ≤ x ∧ x < (cl.length : Int)) (hlen : l.length ≤ 5000) :
    Calls Tryz.prog 78 #[lv, cv] W fun e w' => (∃ ao c, e = .returned (.slice ao l.length c) ∧ w'.ownsRow W.heap.size 3 1 (.slice ao l.length c) l.length ((l.map (fun x => cl.getD x.toNat 0)).map (Value.int .i64))) ∧ Below W.heap.size W w' := by
  obtain ⟨i0, hi, hz0, hz1, hz2⟩ := info_parts infoI
  obtain ⟨la, lc, rfl, hlc⟩ := hl
  obtain ⟨ca, cc, rfl, hcc⟩ := hc
  go_enter Tryz.func78, Tryz.ntmps78
  go_wp2
  go_loopw [5, 10] (fun x i wr => ∃ (k : Nat) (ao : Option Addr) (c : Nat), k ≤ l.length ∧ i = .int .i64 k ∧ x = .slice ao k c ∧ Hid (Below W.heap.size W wr) ∧ Hid (wr.ownsRow W.heap.size 3 1 (.slice ao k c) k (((l.take k).map (fun x => cl.getD x.toNat 0)).map (Value.int .i64)))) (fun _ i _ => l.length - (intOf i).toNat)
  case atStart => exact ⟨0, none, 0, Nat.zero_le _, rfl, rfl, Below.refl _ _, World.ownsRow_nil _ _ _ _⟩
  case round =>
    obtain ⟨k, ao, c, hk, rfl, rfl, hb, ho⟩ := hrel
    by_cases hlt : k < l.length
    · obtain ⟨lb, lo, rfl, hc⟩ := hlc k hlt
      have hx := hlr _ (getD_mem hlt)
      obtain ⟨n, hn⟩ : ∃ n : Nat, l.getD k 0 = (n : Int) := ⟨(l.getD k 0).toNat, by omega⟩
      have hts := take_snoc hlt
      rw [hn] at hx hc hts
      have hnN : n < cl.length := by omega
      obtain ⟨cb, co, rfl, hcn⟩ := hcc n hnN
      have dl : wr.cell? ⟨lb, lo + k, none⟩ = some (.int .i64 (n : Int)) := by rw [hb.out.cell (p := ⟨lb, lo + k, none⟩) (lt_of_cell hc)]; exact hc
      have dr : wr.cell? ⟨cb, co + n, none⟩ = some (.int .i64 (cl.getD n 0)) := by rw [hb.out.cell (p := ⟨cb, co + n, none⟩) (lt_of_cell hcn)]; exact hcn
      have hst : Hid (((l.take k).map (fun x => cl.getD x.toNat 0)).map (Value.int .i64) ++ [.int .i64 (cl.getD n 0)] = ((l.take (k + 1)).map (fun x => cl.getD x.toNat 0)).map (Value.int .i64)) := by
        show _ = _
        rw [hts]
        simp
      generalize cl.getD n 0 = y at dr hst
      have hbd : Below W.heap.size W wr := hb.out
      have hod := ho.out
      generalize ((l.take k).map (fun x => cl.getD x.toNat 0)).map (Value.int .i64) = XS at hod hst
      have hbs := hbd.size
      have ho1 := World.ownsRow.alloc hod (.cells #[.int .i64 y] 3)
      clear hc hcn hn hts hb ho
      go_wp2_with (at_builtin; refine wpList_append_lies _ rfl _ _ _ rfl W.heap.size 3 i0 (.int .i64 0) 1 8 Tryz.underlying28 hi hz0 hz1 hz2 rfl (by decide) _ k XS rfl ho1 ⟨wr.heap.size, 0, none⟩ 1 1 [.int .i64 y] rfl rfl (World.news_of_block (cs := #[.int .i64 y]) (t := 3) (fr := (0, 0)) (heap_alloc_new wr _)) (by simp [Value.oneCell']) (by omega) (by unfold maxLen; omega) (by omega) (by simp; omega) (wr.heap.size + 1) (by simp) ?_; intro gg cap w2 hown2 hgr hat hltg)
      go_roundw
      case rel =>
        refine ⟨k + 1, some ⟨gg, 0, none⟩, cap, by omega, congrArg (Value.int .i64) (by omega), rfl, ?_, ?_⟩
        · have h1 : Below W.heap.size W (wr.alloc (.cells #[.int .i64 y] 3)) := hbd.alloc (by omega) _
          exact h1.grown hgr (by simp; omega) (fun j e => (hod.lt j e).1)
        · show World.ownsRow _ _ _ _ _ _ _
          rw [← hst.out]
          exact hown2
      case measure => simp [intOf]; omega
    · have hkl : k = l.length := by omega
      have ho' := ho.out
      rw [hkl, List.take_of_length_le (Nat.le_refl _)] at ho'
      have hb' := hb.out
      clear hb ho
      subst hkl
      go_wp2
      go_ret
      exact ⟨⟨ao, c, rfl, ho'⟩, hb'⟩
end Go.Proofs.YtipacdagaalccaaGreatDoor

namespace Go.Proofs.YtipacdagaalccaaGreatDoor
set_option maxRecDepth 100000
open Go.RowKit Go.Maps
theorem labRow : (210 : TypeId) < Tryz.prog.types.size := of_decide_eq_true (by kernel_rfl)
theorem labWide : (match Tryz.prog.underlying 210 with | some (.array _ _) | some (.struct _) => true | _ => false) = true := by kernel_rfl
theorem labLaid : laidOutB Tryz.prog = true := by kernel_rfl
theorem labLaw : Keyed Tryz.prog 210 := Keyed.of_law (deep_law_laid labLaid (m := 3) (by omega) labRow (by kernel_rfl) labWide)
theorem labKt : Tryz.prog.keyType 210 = true := by kernel_rfl
theorem labCells : Tryz.prog.cellsOf 210 = 5 := by kernel_rfl
theorem intCells : Tryz.prog.cellsOf 3 = 1 := by kernel_rfl
theorem strCells : Tryz.prog.cellsOf 9 = 1 := by kernel_rfl
theorem label_lits (d : Nat) (a b c e : Int) (s : ByteArray) (ha : (Lit.int .i64 a).wf = true) (hb : (Lit.int .i64 b).wf = true) (hc : (Lit.int .i64 c).wf = true) (he : (Lit.int .i64 e).wf = true) (hs : s.size ≤ maxLen) :
    Tryz.prog.keyLits (d + 1 + 1) 210 [.int .i64 a, .int .i64 b, .int .i64 c, .int .i64 e, .string s] = some [.int .i64 a, .int .i64 b, .int .i64 c, .int .i64 e, .string s.data.toList] := by
  simp [Program.keyLits, Tryz.underlying210, Tryz.underlying3, Tryz.underlying9, labCells, intCells, strCells, ha, hb, hc, he, hs]
theorem label_key (a b c e : Int) (s : ByteArray) (ha : (Lit.int .i64 a).wf = true) (hb : (Lit.int .i64 b).wf = true) (hc : (Lit.int .i64 c).wf = true) (he : (Lit.int .i64 e).wf = true) (hs : s.size ≤ maxLen) :
    ∃ kl, keyOf Tryz.prog 210 (.agg #[.int .i64 a, .int .i64 b, .int .i64 c, .int .i64 e, .string s]) = some kl := by
  obtain ⟨d, hd⟩ : ∃ d, Tryz.prog.types.size = d + 1 := Nat.exists_eq_add_one.2 (Nat.lt_of_le_of_lt (Nat.zero_le _) labRow)
  unfold keyOf
  simp only [Tryz.underlying210]
  have hf : (Value.agg #[.int .i64 a, .int .i64 b, .int .i64 c, .int .i64 e, .string s]).formed Tryz.prog 210 = true := by
    simp [Value.formed, Tryz.underlying210, labCells]
  rw [labKt, hf, hd]
  have := label_lits d a b c e s ha hb hc he hs
  exact ⟨.string (keyBytes [.int .i64 a, .int .i64 b, .int .i64 c, .int .i64 e, .string s.data.toList]), by simp [Value.cells, this]⟩
end Go.Proofs.YtipacdagaalccaaGreatDoor

namespace Go.Proofs.YtipacdagaalccaaGreatDoor
set_option maxRecDepth 100000
open Go.RowKit
theorem islice_nil_in {P : Program} (w : World) (d : Nat) (t : TypeId) {e : TypeId} (h : P.underlying t = some (.slice e)) (ao : Option Addr) (n c : Nat) : (Op.equalIn (d + 1) t (.slice ao n c) (.slice none 0 0)).run P w = .ok ao.isNone w := by
  cases ao <;> simp [Op.equalIn, run_underlying h]
theorem islice_nil (w : World) (ao : Option Addr) (n c : Nat) : (binOp .eql 28 (.slice ao n c) (.slice none 0 0)).run Tryz.prog w = .ok (.bool ao.isNone) w := by
  simp only [binOp]
  simp [show Op.equal 28 (.slice ao n c) (.slice none 0 0) = Op.equalIn (9999 + 1) 28 (.slice ao n c) (.slice none 0 0) from rfl, islice_nil_in w 9999 28 Tryz.underlying28]
theorem ints_one (l : List Int) : ∀ u ∈ l.map (Value.int .i64), u.oneCell' = true := fun u hu => by
  obtain ⟨s, _, rfl⟩ := List.mem_map.1 hu
  simp [Value.oneCell']
set_option maxHeartbeats 1000000 in
theorem iclone_any {w : World} {b o c : Nat} {l : List Int} (h : ∀ j, j < l.length → w.cell? ⟨b, o + j, none⟩ = some (.int .i64 (l.getD j 0))) (hl : l.length ≤ 5000) :
    Calls Tryz.prog 122 #[.slice (some ⟨b, o, none⟩) l.length c] w fun e w' => ∃ v', e = .returned v' ∧ w'.ownsRow w.heap.size 3 1 v' l.length (l.map (Value.int .i64)) ∧ Below w.heap.size w w' := by
  obtain ⟨i0, hi, hz0, hz1, hz2⟩ := info_parts infoI
  have hnews : ∀ j u, (l.map (Value.int .i64))[j]? = some u → (w.alloc (.cells #[] 3)).cell? ((⟨b, o, none⟩ : Addr).add j) = some u := fun j u hj => by
    have hjl : j < l.length := by
      by_cases e : j < l.length
      · exact e
      · have : (l.map (Value.int .i64))[j]? = none := by simp; omega
        rw [this] at hj
        cases hj
    have h1 := h j hjl
    have h2 : u = .int .i64 (l.getD j 0) := by
      simp [hjl] at hj
      simp [List.getD, hjl, hj]
    rw [h2, Addr.add_lit, (below_alloc w _).cell (p := ⟨b, o + j, none⟩) (lt_of_cell h1)]
    exact h1
  have hown : (w.alloc (.cells #[] 3)).ownsRow w.heap.size 3 1 (.slice (some ⟨w.heap.size, 0, none⟩) 0 0) 0 [] := ⟨rfl, Or.inr ⟨w.heap.size, 0, #[], rfl, Nat.le_refl _, heap_alloc_new w _, Nat.le_refl _, Nat.zero_le _, rfl, rfl⟩⟩
  have hsn := fun w : World => islice_nil w (some ⟨b, o, none⟩) l.length c
  clear h
  go_enter Tryz.func122, Tryz.ntmps122
  go_wp2_with (at_builtin; refine wpList_append_own _ rfl _ _ 28 rfl w.heap.size 3 i0 (.int .i64 0) 1 8 Tryz.underlying28 hi hz0 hz1 hz2 rfl (by decide) (.slice (some ⟨w.heap.size, 0, none⟩) 0 0) 0 [] rfl hown ⟨b, o, none⟩ l.length c (l.map (Value.int .i64)) rfl (by simp) hnews (ints_one l) (by unfold maxLen; omega) (by omega) (by simp) ?_; intro v' w1 hown' hgrow _)
  go_ret
  refine ⟨v', rfl, by simpa using hown', ?_⟩
  exact (below_alloc w _).grown hgrow (by simp) (fun k e => by
    have e' : k = w.heap.size := by simpa [Value.ownBlock] using e.symm
    omega)
end Go.Proofs.YtipacdagaalccaaGreatDoor

namespace Go.Proofs.YtipacdagaalccaaGreatDoor
set_option maxRecDepth 100000
open Go.RowKit
def smallK (K : Nat) (g : Gf) : Bool := decide (g.nodes.length ≤ K) && decide (g.roots.length ≤ K) && g.nodes.all (fun n => decide (n.args.length ≤ 40))
theorem smallK_fits {K : Nat} {g : Gf} (h : smallK K g = true) : (∀ n ∈ g.nodes, n.args.length ≤ 40) ∧ g.nodes.length ≤ K ∧ g.roots.length ≤ K := by
  simp only [smallK, Bool.and_eq_true, decide_eq_true_eq, List.all_eq_true] at h
  obtain ⟨⟨h1, h2⟩, h3⟩ := h
  exact ⟨fun n hn => h3 n hn, h1, h2⟩
set_option maxHeartbeats 2000000 in
theorem smallK_any {K : Nat} (hK : K ≤ 5000) {W : World} {nv rv : Value} {g : Gf} (hG : Gr W nv rv g) :
    Calls Tryz.prog 18 #[.agg #[nv, rv], .int .i64 (K : Int)] W fun e w' => e = .returned (.bool (smallK K g)) ∧ Below W.heap.size W w' := by
  obtain ⟨l, lr⟩ := g
  obtain ⟨ua, uc, rfl, hu⟩ := hG.1
  obtain ⟨ra, rc, rfl, _⟩ := hG.2
  dsimp only at hu ⊢
  have hE := hid (show smallK K ⟨l, lr⟩ = (decide (l.length ≤ K) && decide (lr.length ≤ K) && l.all (fun n => decide (n.args.length ≤ 40))) from rfl)
  generalize smallK K ⟨l, lr⟩ = R at hE ⊢
  by_cases h1 : K < l.length
  · have h1' : (K : Int) < (l.length : Int) := by omega
    have hR := hid (show R = false by rw [hE.out, decide_eq_false (by omega : ¬ l.length ≤ K)]; rfl)
    clear hE hu hG
    go_enter Tryz.func18, Tryz.ntmps18
    go_wp2
    go_ret
    exact ⟨ret_bool hR.out.symm, below_alloc _ _⟩
  · by_cases h2 : K < lr.length
    · have h1' : ¬ (K : Int) < (l.length : Int) := by omega
      have h2' : (K : Int) < (lr.length : Int) := by omega
      have hR := hid (show R = false by rw [hE.out, decide_eq_false (by omega : ¬ lr.length ≤ K)]; simp)
      clear hE hu hG
      go_enter Tryz.func18, Tryz.ntmps18
      go_wp2
      go_ret
      exact ⟨ret_bool hR.out.symm, below_alloc _ _⟩
    · have h1' : ¬ (K : Int) < (l.length : Int) := by omega
      have h2' : ¬ (K : Int) < (lr.length : Int) := by omega
      go_enter Tryz.func18, Tryz.ntmps18
      go_wp2
      go_loopw [22] (fun i wr => ∃ k : Nat, k ≤ l.length ∧ i = .int .i64 k ∧ Hid (Below W.heap.size W wr) ∧ Hid (∀ j, j < k → (l.getD j nd0).args.length ≤ 40)) (fun i _ => l.length - (intOf i).toNat)
      case atStart => exact ⟨0, Nat.zero_le _, rfl, below_alloc _ _, fun j hj => absurd hj (Nat.not_lt_zero _)⟩
      case round =>
        obtain ⟨k, hk, rfl, hb, hp⟩ := hrel
        by_cases hlt : k < l.length
        · obtain ⟨ub, uo, uav, rfl, hcu⟩ := hu k hlt
          obtain ⟨p0, p1, p2, p3, hA⟩ := hcu.below hb.out
          obtain ⟨aa, ac, rfl, _⟩ := hA
          have hin : l.getD k nd0 ∈ l := by simp [List.getD, hlt]
          have hlp := lt_of_cell p0
          by_cases h40 : 40 < (l.getD k nd0).args.length
          · have hR := hid (show R = false by
              rw [hE.out]
              have : l.all (fun n => decide (n.args.length ≤ 40)) = false := List.all_eq_false.2 ⟨_, hin, by simpa using h40⟩
              rw [this]
              simp)
            clear hin hcu hu hp hE hG
            generalize l.getD k nd0 = x at p0 p1 p2 p3 h40
            obtain ⟨xk, xs, xn, xl⟩ := x
            dsimp only at p0 p1 p2 p3 h40
            have h40' : (40 : Int) < (xl.length : Int) := by omega
            go_wp2
            go_ret
            exact ⟨ret_bool hR.out.symm, hb.out.alloc hb.out.size _⟩
          · have hp' : Hid (∀ j, j < k + 1 → (l.getD j nd0).args.length ≤ 40) := fun j hj => by
              rcases Nat.lt_or_eq_of_le (Nat.le_of_lt_succ hj) with h | h
              · exact hp.out j h
              · subst h; omega
            clear hin hcu hu hp hE hG
            generalize l.getD k nd0 = x at p0 p1 p2 p3 h40
            obtain ⟨xk, xs, xn, xl⟩ := x
            dsimp only at p0 p1 p2 p3 h40
            have h40' : ¬ (40 : Int) < (xl.length : Int) := by omega
            go_wp2
            go_roundw
            case rel => exact ⟨k + 1, by omega, congrArg (Value.int .i64) (by omega), hb.out.alloc hb.out.size _, hp'⟩
            case measure => simp [intOf]; omega
        · have hR := hid (show R = true by
            rw [hE.out, decide_eq_true (by omega : l.length ≤ K), decide_eq_true (by omega : lr.length ≤ K)]
            simp only [Bool.true_and, List.all_eq_true, decide_eq_true_eq]
            intro n hn
            obtain ⟨i, hi, rfl⟩ := List.getElem_of_mem hn
            have := hp.out i (by omega)
            simpa [List.getD, hi] using this)
          clear hE hu hG hp
          go_wp2
          go_ret
          exact ⟨ret_bool hR.out.symm, hb.out⟩
end Go.Proofs.YtipacdagaalccaaGreatDoor

namespace Go.Proofs.YtipacdagaalccaaGreatDoor
set_option maxRecDepth 100000
open Go.ChangeShapes Go.WideShapes Go.ChangeAt Go.RowKit Go.Deep
theorem cellsOpC : Tryz.prog.cellsOf 32 = 5 := by kernel_rfl
theorem cop_of_cells {H : Type} {enc : TypeId × Value → H} {W : World} {fuel : Nat} {cs : List Value} {x : DataW H × List MemPlace} (h : DataW.trod enc Tryz.prog W 0 (fun _ => true) true fuel 32 cs = some x) :
    ∃ (kd : Int) (nv rv : Value) (g : Gf) (a b : Int), cs = [.int .i64 kd, nv, rv, .int .i64 a, .int .i64 b] ∧ Gr W nv rv g ∧ Sized g := by
  obtain ⟨xs, n, _, hx, hl, hlen, hF⟩ := DataW.trod_struct Tryz.underlying32 h
  rw [cellsOpC] at hl
  match cs, hl with
  | [c0, c1, c2, c3, c4], _ =>
    match xs, hlen with
    | [y0, y1, y2, y3], _ =>
      have h0 := hF 0 _ rfl
      have h1 := hF 1 _ rfl
      have h2 := hF 2 _ rfl
      have h3 := hF 3 _ rfl
      simp [cellsI] at h0
      simp [cellsG] at h1
      simp [cellsI] at h2
      simp [cellsI] at h3
      obtain ⟨a0, e0, _, w0⟩ := DataW.trod_int Tryz.underlying3 h0
      obtain ⟨nv, rv, g, e1, hg, hs⟩ := graph_of_cells h1
      obtain ⟨a2, e2, _, w2⟩ := DataW.trod_int Tryz.underlying3 h2
      obtain ⟨a3, e3, _, w3⟩ := DataW.trod_int Tryz.underlying3 h3
      simp at e0 e1 e2 e3
      obtain ⟨rfl, rfl⟩ := e1
      subst e0 e2 e3
      exact ⟨a0, _, _, g, a2, a3, rfl, hg, hs⟩
theorem cops_of_cells {H : Type} {enc : TypeId × Value → H} {W : World} {fuel : Nat} {u : Value} {x : DataW H × List MemPlace} (h : DataW.trod enc Tryz.prog W 0 (fun _ => true) true fuel 22 [u] = some x) :
    ∃ l : List Opd, Rop W u l := by
  rcases Go.Deep.open_slice Tryz.underlying22 h with ⟨hcs, _⟩ | ⟨ad, len, cap, m, n, D, Pl, hcs, _, hl, hm, hmm, _, hel⟩
  · simp at hcs
    subst hcs
    exact ⟨[], none, 0, rfl, fun _ h => absurd h (Nat.not_lt_zero _)⟩
  · simp at hcs
    subst hcs
    simp only [if_true] at hmm
    rw [cellsOpC] at hel
    have each : ∀ i, ∃ (x : Opd) (nv rv : Value), i < len → (Gr W nv rv x.g ∧ Sized x.g) ∧ W.cells? 0 (ad.add (i * 5)) 5 = some [.int .i64 x.kd, nv, rv, .int .i64 x.a, .int .i64 x.b] := fun i => by
      by_cases hi : i < len
      · obtain ⟨cs', hc, ht⟩ := hel i (by omega)
        obtain ⟨kd, nv, rv, g, a, b, rfl, h1, h2⟩ := cop_of_cells ht
        exact ⟨⟨kd, g, a, b⟩, nv, rv, fun _ => ⟨⟨h1, h2⟩, hc⟩⟩
      · exact ⟨od0, .nilIface, .nilIface, fun h => absurd h hi⟩
    obtain ⟨ns, hns⟩ : ∃ ns : Nat → Opd, ∀ i, ∃ nv rv : Value, i < len → (Gr W nv rv (ns i).g ∧ Sized (ns i).g) ∧ W.cells? 0 (ad.add (i * 5)) 5 = some [.int .i64 (ns i).kd, nv, rv, .int .i64 (ns i).a, .int .i64 (ns i).b] :=
      ⟨fun i => Classical.choose (each i), fun i => Classical.choose_spec (each i)⟩
    refine ⟨(List.range len).map ns, some ad, cap, by simp, fun j hj => ?_⟩
    have hj' : j < len := by simpa using hj
    obtain ⟨b, off, spot⟩ := ad
    obtain ⟨nv, rv, hav⟩ := hns j
    obtain ⟨⟨h1, h2⟩, h3⟩ := hav hj'
    have hcj := (World.cells?_some h3).2.2
    have hspot : spot = none := by
      obtain ⟨nv0, rv0, hav0⟩ := hns 0
      have := (World.cells?_some (hav0 (by omega)).2).2.2 0 (by omega)
      simp at this
      simpa [Addr.add] using World.cell?_spot this
    subst hspot
    have e : ∀ i, ((⟨b, off, none⟩ : Addr).add (j * 5)).add i = ⟨b, off + j * 5 + i, none⟩ := fun i => by rw [add_plain, add_plain]
    have hg : ((List.range len).map ns).getD j od0 = ns j := by simp [List.getD, hj']
    refine ⟨b, off, nv, rv, rfl, ?_⟩
    rw [hg]
    refine ⟨?_, ?_, ?_, ?_, ?_, h1, h2⟩
    · have := hcj 0 (by omega); rw [e] at this; simpa using this
    · have := hcj 1 (by omega); rw [e] at this; simpa using this
    · have := hcj 2 (by omega); rw [e] at this; simpa using this
    · have := hcj 3 (by omega); rw [e] at this; simpa using this
    · have := hcj 4 (by omega); rw [e] at this; simpa using this
theorem cops_of {H : Type} {enc : TypeId × Value → H} {W : World} {base : Nat} {u : Value} {d : DataW H} {p : List MemPlace} (hv : Value.okWide Tryz.prog W .any base 22 u) (h : DataW.Trod enc Tryz.prog W 0 (fun _ => true) true 22 u d p) :
    ∃ l : List Opd, Rop W u l := by
  obtain ⟨a, len, cap, rfl⟩ := okWide_slice Tryz.underlying22 hv
  obtain ⟨fuel, hf⟩ := h
  have hf' : DataW.trod enc Tryz.prog W 0 (fun _ => true) true fuel 22 [.slice a len cap] = some (d, p) := by simpa [Value.cells] using hf
  exact cops_of_cells hf'
end Go.Proofs.YtipacdagaalccaaGreatDoor

/- Package cells: the words of a heap, read. -/
import Derived.Deep.RegionLaw
import Derived.Deep.DrawnRows
import Derived.Test.YtipacdagaalccaaGreatDoorRows
import Derived.ProofKit
import Derived.SizedLaws
import Derived.OpenShut
import Derived.ShutString
import Derived.Deep.Strs
import Derived.RangeFuncNested
import Derived.RangeFuncBound
import Derived.Maps.AppendAt
import Derived.Shelf.SlMaps.Clone
import Derived.Deep.RegionHeld3
import Derived.Test.YtipacdagaalccaaGreatDoorSD06Z
import Derived.Test.YtipacdagaalccaaGreatDoorSD02Z
import Derived.Test.YtipacdagaalccaaGreatDoorSD08Z
import Derived.Test.YtipacdagaalccaaGreatDoorSD05Z
import Derived.Test.YtipacdagaalccaaGreatDoorSD03Z
import Derived.Test.YtipacdagaalccaaGreatDoorSD00Z
namespace Go.Proofs.YtipacdagaalccaaGreatDoor
set_option maxRecDepth 100000
open Go.RowKit
abbrev blkV (p : Nat) : Value := .agg #[.pointer (some ⟨p, 0, none⟩)]
def cellB (l : List Int) (n : Int) : Bool := inB n l.length && decide (l.getD n.toNat 0 % 8 ≠ 4) && decide (l.getD n.toNat 0 % 8 ≠ 5)
section
variable {w : World} {B p : Nat} {m : Int} {v : Value} {l : List Int}
set_option maxHeartbeats 800000 in
theorem bword_ok (h : Ar 111 w B p m v l) (k : Nat) (hk : k < l.length) :
    Calls Tryz.prog 72 #[blkV p, .int .i64 (k : Int)] w fun e w' => e = .returned (.int .u64 (l.getD k 0)) ∧ Below w.heap.size w w' := by
  have hb := hid (below_alloc w (.cells #[.pointer (some ⟨p, 0, none⟩)] 65))
  have hld := hid (load_ok (h.below hb.out) k hk)
  generalize l.getD k 0 = x at *
  clear h hk
  go_enter Tryz.func72, Tryz.ntmps72
  go_wp2_with (go_at_call 101; refine hld.out.mono ?_; rintro e w1 ⟨rfl, rfl⟩)
  go_ret
  exact ⟨rfl, hb.out⟩
set_option maxHeartbeats 800000 in
theorem iscell_any (h : Ar 111 w B p m v l) (n : Int) :
    Calls Tryz.prog 70 #[blkV p, .int .i64 n] w fun e w' => e = .returned (.bool (cellB l n)) ∧ Below w.heap.size w w' := by
  have hb := hid (below_alloc w (.cells #[.pointer (some ⟨p, 0, none⟩)] 65))
  by_cases hi : inB n l.length = true
  · have hn : 0 ≤ n ∧ n < (l.length : Int) := by simpa [inB] using hi
    obtain ⟨k, rfl⟩ : ∃ k : Nat, n = (k : Int) := ⟨n.toNat, by omega⟩
    have hk : k < l.length := by omega
    have hld := hid (load_ok (h.below hb.out) k hk)
    have hr := h.rng (l.getD k 0) (by simp [List.getD, hk])
    have hc : Hid (cellB l (k : Int) = (decide (l.getD k 0 % 8 ≠ 4) && decide (l.getD k 0 % 8 ≠ 5))) := show _ = _ by
      unfold cellB
      rw [hi, Bool.true_and, Int.toNat_natCast]
    generalize cellB l (k : Int) = C at *
    generalize l.getD k 0 = x at *
    have htg := hid (fun w => tag_any x w hr.1 hr.2)
    clear hi hn hk h
    by_cases h4 : x % 8 = 4
    · have hC : Hid (C = false) := show _ = _ by rw [hc.out]; simp [h4]
      have d0 : (x % 8 != 4) = false := by simp [h4]
      clear hc
      generalize x % 8 = y at *
      go_enter Tryz.func70, Tryz.ntmps70
      go_wp2_with (first
        | (go_at_call 101; refine hld.out.mono ?_; rintro e w1 ⟨rfl, rfl⟩)
        | (go_at_call 43; refine (htg.out _).mono ?_; rintro e w1 ⟨rfl, rfl⟩))
      go_ret
      exact ⟨ret_bool hC.out.symm, hb.out⟩
    · by_cases h5 : x % 8 = 5
      · have hC : Hid (C = false) := show _ = _ by rw [hc.out]; simp [h5]
        have d0 : (x % 8 != 4) = true := by simp [h4]
        have d1 : (x % 8 != 5) = false := by simp [h5]
        clear hc
        generalize x % 8 = y at *
        go_enter Tryz.func70, Tryz.ntmps70
        go_wp2_with (first
          | (go_at_call 101; refine hld.out.mono ?_; rintro e w1 ⟨rfl, rfl⟩)
          | (go_at_call 43; refine (htg.out _).mono ?_; rintro e w1 ⟨rfl, rfl⟩))
        go_ret
        exact ⟨ret_bool hC.out.symm, hb.out⟩
      · have hC : Hid (C = true) := show _ = _ by rw [hc.out]; simp [h4, h5]
        have d0 : (x % 8 != 4) = true := by simp [h4]
        have d1 : (x % 8 != 5) = true := by simp [h5]
        clear hc
        generalize x % 8 = y at *
        go_enter Tryz.func70, Tryz.ntmps70
        go_wp2_with (first
          | (go_at_call 101; refine hld.out.mono ?_; rintro e w1 ⟨rfl, rfl⟩)
          | (go_at_call 43; refine (htg.out _).mono ?_; rintro e w1 ⟨rfl, rfl⟩))
        go_ret
        exact ⟨ret_bool hC.out.symm, hb.out⟩
  · have hi' : inB n l.length = false := by simpa using hi
    have hld := hid (load_no (h.below hb.out) n hi')
    have hC : Hid (cellB l n = false) := show _ = _ by unfold cellB; rw [hi', Bool.false_and, Bool.false_and]
    have hb2 := hid (hb.out.alloc (by simp) (faultAtObj 23 n))
    clear h hi hi'
    go_enter Tryz.func70, Tryz.ntmps70
    go_wp2_with (go_at_call 101; refine hld.out.mono ?_; rintro e w1 ⟨rfl, rfl⟩)
    go_ret
    exact ⟨ret_bool hC.out.symm, hb2.out⟩
end
set_option maxHeartbeats 400000 in
theorem packed_ok (a b : Int) (w : World) (hf : fitsB a b = true) :
    Calls Tryz.prog 50 #[.int .i64 a, .int .i64 b] w fun e w' => e = .returned (.int .u64 (wordOf a b)) ∧ w' = w := by
  go_enter Tryz.func50, Tryz.ntmps50
  go_wp2_with (go_at_call 80; refine (pack_ok a b _ hf).mono ?_; rintro e w' ⟨rfl, rfl⟩)
  go_ret
  exact ⟨rfl, rfl⟩
set_option maxHeartbeats 400000 in
theorem cfault_any (c a : Int) (w : World) :
    Calls Tryz.prog 35 #[.int .i64 c, .int .i64 a] w fun e w' => e = .returned (.iface 116 (.pointer (some ⟨w.heap.size, 0, none⟩))) ∧ w' = w.alloc (faultAtObj c a) := by
  go_enter Tryz.func35, Tryz.ntmps35
  go_wp2
  go_ret
  exact ⟨rfl, rfl⟩
end Go.Proofs.YtipacdagaalccaaGreatDoor

namespace Go.Proofs.YtipacdagaalccaaGreatDoor
set_option maxRecDepth 100000
open Go.RowKit
attribute [local go_sem ↓] Go.wp_at_zero Go.wp_at_succ
def frsh (s k : Nat) : List Int := (List.range k).map (fun i => 8 * ((s + i : Nat) : Int))
theorem frsh_len (s k : Nat) : (frsh s k).length = k := by simp [frsh]
theorem frsh_succ (s k : Nat) : frsh s (k + 1) = frsh s k ++ [8 * ((s + k : Nat) : Int)] := by simp [frsh, List.range_succ]
section
variable {w : World} {B p : Nat} {m : Int} {v : Value} {l : List Int}
theorem a_Upd.push {T : TypeId} {w1 : World} {l' : List Int} {v' : Value} (h : Ar T w B p m v l) (hg : a_Mod (a_foot p v) w w1) (hp : w1.heap[p]? = w.heap[p]?) (ho : w1.ownsRow B 73 1 v' l'.length (l'.map (Value.int .u64)))
    (hn : a_Nx w v v') (hl : (l'.length : Int) ≤ m) (hr : ∀ x ∈ l', 0 ≤ x ∧ x ≤ 18446744073709551615) : a_Upd T w (w1.setCell ⟨p, 1, none⟩ v') B p m v l' v' := by
  have hb : w1.heap[p]? = some (.cells #[.int .i64 m, v] T (0, 0)) := by rw [hp]; exact h.blk
  have hne : v'.ownBlock ≠ some p := fun e => by
    rcases hn p e with h1 | h1
    · exact (h.row h1).2.2 rfl
    · have := h.lt; omega
  refine ⟨⟨h.ty, ?_, h.base, ownsRow_setCell_other ho (by simpa using hne) _, h.m1, h.m2, hl, hr⟩, hg.setCell (p := ⟨p, 1, none⟩) (Or.inl (a_mem_foot.2 (Or.inl rfl))) v', hn⟩
  rw [heap_setCell_same w1 p 1 _ T v' hb]
  rfl
theorem push_one {T : TypeId} {w1 : World} {x : Int} {g cap : Nat} (h : Ar T w B p m v l) (o : Obj) (hg : (w.alloc o).grownBy w1 v.ownBlock) (ho : w1.ownsRow B 73 1 (.slice (some ⟨g, 0, none⟩) (l.length + 1) cap) (l.length + 1) (l.map (Value.int .u64) ++ [.int .u64 x]))
    (hat : v.ownBlock = some g ∨ g = w.heap.size + 1) (hl : (l.length : Int) < m) (hx : 0 ≤ x ∧ x ≤ 18446744073709551615) :
    a_Upd T w (w1.setCell ⟨p, 1, none⟩ (.slice (some ⟨g, 0, none⟩) (l.length + 1) cap)) B p m v (l ++ [x]) (.slice (some ⟨g, 0, none⟩) (l.length + 1) cap) := by
  have hm : a_Mod (a_foot p v) w w1 := ((a_Mod.refl (a_foot p v) w).alloc o).grown hg (fun k e => Or.inl (a_mem_foot.2 (Or.inr e)))
  have hlt := h.lt
  refine a_Upd.push h hm ?_ (by simpa using ho) (fun k e => ?_) (by simp; omega) (fun y hy => ?_)
  · rw [hg.block p (by simp; omega) (fun e => (h.row e.symm).2.2 rfl)]
    exact Below.heap_alloc w o p hlt
  · simp [Value.ownBlock] at e
    subst e
    rcases hat with h1 | h1
    · exact Or.inl h1
    · exact Or.inr (by omega)
  · rcases List.mem_append.1 hy with h1 | h1
    · exact h.rng y h1
    · simp at h1; subst h1; exact hx
theorem undrew {w w' : World} {r : Option Nat} (h : w.drew.grownBy w' r) : w.grownBy w' r := ⟨h.os, h.tape, h.output, h.size, h.block⟩
theorem far_field {w w1 : World} {o : Obj} {r : Option Nat} {p : Nat} {v : Value} (h : (w.alloc o).drew.grownBy w1 r) (hp : p < w.heap.size) (hne : r ≠ some p) (hc : w.cell? ⟨p, 1, none⟩ = some v) (hf : w.frozen? ⟨p, 1, none⟩ = false) :
    w1.cell? ⟨p, 1, none⟩ = some v ∧ w1.frozen? ⟨p, 1, none⟩ = false := by
  have h' := undrew h
  have hb := h'.block p (by simp; omega) (Ne.symm hne)
  have hb2 := hb.trans (Below.heap_alloc w o p hp)
  exact ⟨(World.cell?_of_block (w := w) (a := ⟨p, 1, none⟩) hb2).trans hc, (World.frozen?_of_block (w := w) (a := ⟨p, 1, none⟩) hb2).trans hf⟩
set_option maxHeartbeats 400000 in
theorem alloc_few (h : Ar 111 w B p m v l) (n : Int) (hn : n < 1) :
    Calls Tryz.prog 39 #[.pointer (some ⟨p, 0, none⟩), .int .i64 n] w fun e w' => e = .returned (.tuple #[.int .i64 0, .iface 116 (.pointer (some ⟨w.heap.size, 0, none⟩))]) ∧ w' = w.alloc (faultAtObj 21 n) := by
  have hx := h.c0
  go_enter Tryz.func39, Tryz.ntmps39
  go_wp2_with (go_at_call 58; refine (afault_any _ _ _).mono ?_; rintro e w' ⟨rfl, rfl⟩)
  go_ret2
  exact ⟨rfl, rfl⟩
set_option maxHeartbeats 400000 in
theorem alloc_full (h : Ar 111 w B p m v l) (n : Int) (hn : 1 ≤ n) (hf : m - l.length < n) :
    Calls Tryz.prog 39 #[.pointer (some ⟨p, 0, none⟩), .int .i64 n] w fun e w' => e = .returned (.tuple #[.int .i64 0, .iface 116 (.pointer (some ⟨w.heap.size, 0, none⟩))]) ∧ w' = w.alloc (faultAtObj 22 n) := by
  have c0 := h.c0
  have h1 := h.m1
  have h2 := h.m2
  have h3 := h.len
  go_enter Tryz.func39, Tryz.ntmps39
  go_wp2_with (first | (go_at_call 30; refine (top_any h).mono ?_; rintro e w' ⟨rfl, rfl⟩) | (go_at_call 58; refine (afault_any _ _ _).mono ?_; rintro e w' ⟨rfl, rfl⟩))
  go_ret2
  exact ⟨rfl, rfl⟩
set_option maxHeartbeats 3200000 in
theorem alloc_ok (h : Ar 111 w B p m v l) (hB : B ≤ w.heap.size) (n : Nat) (hn : 1 ≤ n) (hf : (l.length : Int) + n ≤ m) :
    Calls Tryz.prog 39 #[.pointer (some ⟨p, 0, none⟩), .int .i64 (n : Int)] w fun e w' => ∃ v', e = .returned (.tuple #[.int .i64 (l.length : Int), .nilIface]) ∧ a_Upd 111 w w' B p m v (l ++ frsh l.length n) v' := by
  obtain ⟨i0, hi, hz0, hz1, hz2⟩ := info_parts Tryz.infoU
  have c0 := h.c0
  have h1 := h.m1
  have h2 := h.m2
  have h3 := h.len
  have hn' : (1 : Int) ≤ (n : Int) := by omega
  go_enter Tryz.func39, Tryz.ntmps39
  go_wp2_with (go_at_call 30; refine (top_any h).mono ?_; rintro e w ⟨rfl, rfl⟩)
  go_loopw [7, 28] (fun _ i wr => ∃ k : Nat, k ≤ n ∧ i = .int .i64 k ∧ ∃ v1, a_Upd 111 w wr B p m v (l ++ frsh l.length k) v1) (fun _ i _ => n - (intOf i).toNat)
  case atStart => exact ⟨0, Nat.zero_le _, rfl, v, by simpa [frsh] using a_Upd.refl h⟩
  case round =>
    obtain ⟨k, hk, rfl, v1, hU⟩ := hrel
    by_cases hlt : k < n
    · have hA := hU.ar
      have hlen : (l ++ frsh l.length k).length = l.length + k := by simp [frsh_len]
      obtain ⟨L, hL⟩ : ∃ L, L = l ++ frsh l.length k := ⟨_, rfl⟩
      rw [← hL] at hA hlen
      have hsz : w.heap.size ≤ wr.heap.size := hU.mod.size
      have HL : Hid (L = l ++ frsh l.length k) := hL
      have HU : Hid (a_Upd 111 w wr B p m v L v1) := by rw [hL]; exact hU
      clear hL hU
      have hown := hA.own
      rw [hlen] at hown
      have hp := hA.lt
      have hrow : v1.ownBlock ≠ some p := fun e => (hA.row e).2.2 rfl
      have a1 := hA.c1
      have af := hA.f1
      have hlt' : (k : Int) < (n : Int) := by omega
      obtain ⟨ao, cap0, hv1, _⟩ := hA.val
      rw [hlen] at hv1
      have HA : Hid (Ar 111 wr B p m v1 L) := hA
      clear hA hlen
      subst hv1
      have hwr : IntKind.i64.wrap ((l.length : Int) + k) = (l.length : Int) + k := by rw [IntKind.wrap_i64]; omega
      go_wp2
      go_region_law
        (first
          | (go_simp; go_at_call 66; refine (fresh_any _ _ (by omega) (by omega)).mono ?_; rintro e wq ⟨rfl, hwq⟩; subst hwq)
          | (refine step_append_lies _ (by rfl) _ _ _ (by rfl) B 73 i0 (.int .u64 0) 1 8 Tryz.underlying34 hi hz0 hz1 hz2 rfl (by omega) _ (l.length + k) (L.map (Value.int .u64)) (by rfl) ((hown.alloc _).drew) ⟨wr.heap.size, 0, none⟩ 1 1 [.int .u64 (8 * ((l.length : Int) + k))] (by rfl) (by rfl) (World.news_of_block (cs := #[.int .u64 (8 * ((l.length : Int) + k))]) (t := 73) (fr := (0, 0)) (heap_alloc_new wr _)) (by simp [Value.oneCell']) (by omega) (by unfold maxLen; omega) (by omega) (by simp; omega) (wr.heap.size + 1) (by simp) ?_; intro g cap w1 hown1 hgrow hat hlt1; obtain ⟨hc1, hf1⟩ := far_field hgrow hp hrow a1 af))
      all_goals go_wp2
      all_goals
        go_roundw
        case rel =>
          have hA := HA.out
          have hLl : L.length = l.length + k := by rw [HL.out]; simp [frsh_len]
          have R := push_one (w1 := w1) (x := 8 * ((l.length : Int) + k)) (g := g) (cap := cap) hA _ (undrew hgrow) (by rw [hLl]; exact hown1) hat (by rw [hLl]; omega) (by omega)
          rw [hLl] at R
          have HU' := HU.out.trans R
          rw [HL.out, List.append_assoc, ← Int.natCast_add, ← frsh_succ] at HU'
          exact ⟨k + 1, by omega, by go_num, _, HU'⟩
        case measure => simp [intOf]; omega
    · have hlt' : ¬ (k : Int) < (n : Int) := by omega
      obtain rfl : k = n := by omega
      have HU : Hid (a_Upd 111 w wr B p m v (l ++ frsh l.length k) v1) := hU
      clear hU
      go_wp2
      go_ret2
      exact ⟨rfl, v1, HU.out⟩
end
end Go.Proofs.YtipacdagaalccaaGreatDoor

namespace Go.Proofs.YtipacdagaalccaaGreatDoor
set_option maxRecDepth 100000
open Go.RowKit
theorem wd_set {l : List Int} {j : Nat} {x : Int} (hj : j < l.length) (k : Nat) : wdN (l.set j x) k = if k = j then x else wdN l k := by
  unfold wdN
  by_cases e : k = j
  · subst e
    rw [if_pos rfl]
    simp [List.getD, hj]
  · rw [if_neg e]
    simp [List.getD, List.getElem?_set_ne (fun h => e h.symm)]
section
variable {l : List Int} {V : Nat → Bool} {j : Nat} {x : Int}
theorem tg_set (hj : j < l.length) {k : Nat} (e : k ≠ j) : tgN (l.set j x) k = tgN l k ∧ vlN (l.set j x) k = vlN l k := by
  unfold tgN vlN
  rw [wd_set hj, if_neg e]
  exact ⟨rfl, rfl⟩
theorem tg_new (hj : j < l.length) : tgN (l.set j x) j = x % 8 ∧ vlN (l.set j x) j = (valOf x).toNat := by
  unfold tgN vlN
  rw [wd_set hj, if_pos rfl]
  exact ⟨rfl, rfl⟩
theorem snd_set (h : Snd l V) (hj : j < l.length) (hx : 0 ≤ x ∧ x ≤ 18446744073709551615) (hg : goodB x = true)
    (hhd : (x % 8 = 4 ∨ x % 8 = 5) ↔ hdN l j)
    (h0 : x % 8 = 0 → (valOf x).toNat < l.length ∧ V (valOf x).toNat = true ∧ (V j = true → (valOf x).toNat ≤ j))
    (h3 : x % 8 = 3 → (valOf x).toNat < l.length ∧ hdN l (valOf x).toNat)
    (h5 : x % 8 = 5 → (valOf x).toNat < j ∧ hdN l (valOf x).toNat)
    (h4 : x % 8 ≠ 4) : Snd (l.set j x) V := by
  have hd : ∀ k, hdN (l.set j x) k ↔ hdN l k := fun k => by
    by_cases e : k = j
    · subst e
      rw [← hhd]
      unfold hdN
      rw [(tg_new hj).1]
    · unfold hdN
      rw [(tg_set hj e).1]
  have hl : (l.set j x).length = l.length := by simp
  refine ⟨fun k hk => ?_, fun y hy => ?_, fun k hk ht => ?_, fun k hk hv => ?_, fun k hk ht => ?_, fun k hk ht => ?_, fun k hk ht => ?_⟩
  · rw [hl] at hk
    rw [wd_set hj]
    split
    · exact hg
    · exact h.good k hk
  · rcases List.mem_or_eq_of_mem_set hy with h1 | rfl
    · exact h.rng y h1
    · exact hx
  · rw [hl] at hk ⊢
    by_cases e : k = j
    · subst e
      rw [(tg_new hj).1] at ht
      rw [(tg_new hj).2]
      exact h0 ht
    · rw [(tg_set hj e).1] at ht
      rw [(tg_set hj e).2]
      exact h.ref k hk ht
  · rw [hl] at hk
    rw [hd]
    exact h.own k hk hv
  · rw [hl] at hk ⊢
    rw [hd]
    by_cases e : k = j
    · subst e
      rw [(tg_new hj).1] at ht
      rw [(tg_new hj).2]
      exact h3 ht
    · rw [(tg_set hj e).1] at ht
      rw [(tg_set hj e).2]
      exact h.str k hk ht
  · rw [hl] at hk
    rw [hd]
    by_cases e : k = j
    · subst e
      rw [(tg_new hj).1] at ht
      rw [(tg_new hj).2]
      exact h5 ht
    · rw [(tg_set hj e).1] at ht
      rw [(tg_set hj e).2]
      exact h.fwd k hk ht
  · rw [hl] at hk ⊢
    have e : k ≠ j := fun e => by
      subst e
      rw [(tg_new hj).1] at ht
      exact h4 ht
    rw [(tg_set hj e).1] at ht
    have e2 : arN' (l.set j x) k = arN' l k := by
      unfold arN'
      rw [(tg_set hj e).2]
    rw [e2]
    obtain ⟨a1, a2⟩ := h.args k hk ht
    exact ⟨a1, fun i hi1 hi2 hh => a2 i hi1 hi2 ((hd _).1 hh)⟩
theorem snd_bind (h : Snd l V) (hj : j < l.length) (hV : V j = true) (hx : 0 ≤ x ∧ x ≤ 18446744073709551615) (hg : goodB x = true) (h45 : x % 8 ≠ 4 ∧ x % 8 ≠ 5) (h0 : x % 8 = 0 → (valOf x).toNat ≤ j ∧ V (valOf x).toNat = true) (h3 : x % 8 = 3 → (valOf x).toNat < l.length ∧ hdN l (valOf x).toNat) : Snd (l.set j x) V :=
  snd_set h hj hx hg (iff_of_false (by omega) (h.own j hj hV)) (fun e => ⟨by have := (h0 e).1; omega, (h0 e).2, fun _ => (h0 e).1⟩) h3 (fun e => absurd e h45.2) h45.1
theorem snd_fwd (h : Snd l V) (hj : j < l.length) (hh : hdN l j) {i : Nat} (hi : i < j) (hi2 : hdN l i) (hx : 0 ≤ x ∧ x ≤ 18446744073709551615) (hg : goodB x = true) (ht : x % 8 = 5) (hv : valOf x = (i : Int)) : Snd (l.set j x) V :=
  snd_set h hj hx hg (iff_of_true (Or.inr ht) hh) (fun e => by omega) (fun e => by omega) (fun _ => by rw [hv, Int.toNat_natCast]; exact ⟨hi, hi2⟩) (by omega)
end
end Go.Proofs.YtipacdagaalccaaGreatDoor

namespace Go.Proofs.YtipacdagaalccaaGreatDoor
set_option maxRecDepth 100000
open Go.ChangeShapes Go.WideShapes Go.ChangeAt Go.RowKit Go.Deep
theorem own : ownKnob Tryz.prog.godebug = none := by kernel_rfl
theorem laidOut : laidOutB Tryz.prog = true := by kernel_rfl
theorem cellsI : Tryz.prog.cellsOf 3 = 1 := by kernel_rfl
theorem cellsS : Tryz.prog.cellsOf 9 = 1 := by kernel_rfl
theorem cellsIs : Tryz.prog.cellsOf 28 = 1 := by kernel_rfl
theorem cellsNs : Tryz.prog.cellsOf 27 = 1 := by kernel_rfl
theorem cellsN : Tryz.prog.cellsOf 96 = 4 := by kernel_rfl
theorem cellsG : Tryz.prog.cellsOf 30 = 2 := by kernel_rfl
theorem ints_of_cells {H : Type} {enc : TypeId × Value → H} {W : World} {fuel : Nat} {u : Value} {x : DataW H × List MemPlace} (h : DataW.trod enc Tryz.prog W 0 (fun _ => true) true fuel 28 [u] = some x) :
    ∃ l : List Int, Ri W u l ∧ l.length ≤ 9223372036854775807 := by
  rcases open_ints Tryz.underlying28 Tryz.underlying3 cellsI h with ⟨hcs, hx⟩ | ⟨a, len, cap, zs, hcs, _, hl, hm, hz, hx, hcell, hwz⟩
  · simp at hcs
    subst hcs
    exact ⟨[], Ri.nil _, by simp⟩
  · simp at hcs
    subst hcs
    simp only [if_true] at hz
    have hlen : (zs.take len).length = len := by simp; omega
    refine ⟨zs.take len, ⟨some a, cap, by rw [hlen], fun j hj => ?_⟩, by rw [hlen]; unfold maxLen at hm; omega⟩
    rw [hlen] at hj
    obtain ⟨b, off, spot⟩ := a
    have hspot : spot = none := by simpa [Addr.add] using World.cell?_spot (hcell 0 (by omega))
    subst hspot
    refine ⟨b, off, rfl, ?_⟩
    have := hcell j (by omega)
    rw [add_plain] at this
    rw [this]
    simp [List.getD, hj]
theorem node_of_cells {H : Type} {enc : TypeId × Value → H} {W : World} {fuel : Nat} {cs : List Value} {x : DataW H × List MemPlace} (h : DataW.trod enc Tryz.prog W 0 (fun _ => true) true fuel 96 cs = some x) :
    ∃ (n : Nd) (av : Value), cs = [.int .i64 n.kind, .string n.name, .int .i64 n.num, av] ∧ Ri W av n.args ∧ n.name.size ≤ 9223372036854775807 := by
  obtain ⟨xs, n, _, hx, hl, hlen, hf⟩ := DataW.trod_struct Tryz.underlying96 h
  rw [cellsN] at hl
  match cs, hl with
  | [c0, c1, c2, c3], _ =>
    match xs, hlen with
    | [y0, y1, y2, y3], _ =>
      have h0 := hf 0 _ rfl
      have h1 := hf 1 _ rfl
      have h2 := hf 2 _ rfl
      have h3 := hf 3 _ rfl
      simp [cellsI] at h0 h2
      simp [cellsS] at h1
      simp [cellsIs] at h3
      obtain ⟨a0, e0, _, w0⟩ := DataW.trod_int Tryz.underlying3 h0
      obtain ⟨a1, e1, _, w1⟩ := DataW.trod_string Tryz.underlying9 h1
      obtain ⟨a2, e2, _, w2⟩ := DataW.trod_int Tryz.underlying3 h2
      obtain ⟨l, hr, _⟩ := ints_of_cells h3
      simp at e0 e1 e2
      subst e0 e1 e2
      exact ⟨⟨a0, a1, a2, l⟩, c3, rfl, hr, by unfold maxLen at w1; exact w1⟩
theorem nodes_of_cells {H : Type} {enc : TypeId × Value → H} {W : World} {fuel : Nat} {u : Value} {x : DataW H × List MemPlace} (h : DataW.trod enc Tryz.prog W 0 (fun _ => true) true fuel 27 [u] = some x) :
    ∃ l : List Nd, Rn W u l ∧ (∀ n ∈ l, n.name.size ≤ 9223372036854775807) ∧ l.length ≤ 9223372036854775807 := by
  rcases Go.Deep.open_slice Tryz.underlying27 h with ⟨hcs, _⟩ | ⟨ad, len, cap, m, n, D, Pl, hcs, _, hl, hm, hmm, _, hel⟩
  · simp at hcs
    subst hcs
    exact ⟨[], Rn.nil _, by simp, by simp⟩
  · simp at hcs
    subst hcs
    simp only [if_true] at hmm
    rw [cellsN] at hel
    have each : ∀ i, ∃ (n : Nd) (av : Value), i < len → (Ri W av n.args ∧ n.name.size ≤ 9223372036854775807) ∧ W.cells? 0 (ad.add (i * 4)) 4 = some [.int .i64 n.kind, .string n.name, .int .i64 n.num, av] := fun i => by
      by_cases hi : i < len
      · obtain ⟨cs', hc, ht⟩ := hel i (by omega)
        obtain ⟨n, av, rfl, h1, h2⟩ := node_of_cells ht
        exact ⟨n, av, fun _ => ⟨⟨h1, h2⟩, hc⟩⟩
      · exact ⟨nd0, .nilIface, fun h => absurd h hi⟩
    obtain ⟨ns, hns⟩ : ∃ ns : Nat → Nd, ∀ i, ∃ av : Value, i < len → (Ri W av (ns i).args ∧ (ns i).name.size ≤ 9223372036854775807) ∧ W.cells? 0 (ad.add (i * 4)) 4 = some [.int .i64 (ns i).kind, .string (ns i).name, .int .i64 (ns i).num, av] :=
      ⟨fun i => Classical.choose (each i), fun i => Classical.choose_spec (each i)⟩
    refine ⟨(List.range len).map ns, ⟨some ad, cap, by simp, fun j hj => ?_⟩, fun n hn => ?_, by simp; unfold maxLen at hm; omega⟩
    · have hj' : j < len := by simpa using hj
      obtain ⟨b, off, spot⟩ := ad
      obtain ⟨av, hav⟩ := hns j
      obtain ⟨⟨h1, h2⟩, h3⟩ := hav hj'
      have hcj := (World.cells?_some h3).2.2
      have hspot : spot = none := by
        obtain ⟨av0, hav0⟩ := hns 0
        have := (World.cells?_some (hav0 (by omega)).2).2.2 0 (by omega)
        simp at this
        simpa [Addr.add] using World.cell?_spot this
      subst hspot
      have e : ∀ i, ((⟨b, off, none⟩ : Addr).add (j * 4)).add i = ⟨b, off + j * 4 + i, none⟩ := fun i => by rw [add_plain, add_plain]
      have hg : ((List.range len).map ns).getD j nd0 = ns j := by simp [List.getD, hj']
      refine ⟨b, off, av, rfl, ?_⟩
      rw [hg]
      refine ⟨?_, ?_, ?_, ?_, h1⟩
      · have := hcj 0 (by omega); rw [e] at this; simpa using this
      · have := hcj 1 (by omega); rw [e] at this; simpa using this
      · have := hcj 2 (by omega); rw [e] at this; simpa using this
      · have := hcj 3 (by omega); rw [e] at this; simpa using this
    · obtain ⟨i, hi, rfl⟩ := List.mem_map.1 hn
      obtain ⟨av, hav⟩ := hns i
      exact (hav (List.mem_range.1 hi)).1.2
theorem graph_of_cells {H : Type} {enc : TypeId × Value → H} {W : World} {fuel : Nat} {cs : List Value} {x : DataW H × List MemPlace} (h : DataW.trod enc Tryz.prog W 0 (fun _ => true) true fuel 30 cs = some x) :
    ∃ (nv rv : Value) (g : Gf), cs = [nv, rv] ∧ Gr W nv rv g ∧ Sized g := by
  obtain ⟨xs, n, _, hx, hl, hlen, hf⟩ := DataW.trod_struct Tryz.underlying30 h
  rw [cellsG] at hl
  match cs, hl with
  | [c0, c1], _ =>
    match xs, hlen with
    | [y0, y1], _ =>
      have h0 := hf 0 _ rfl
      have h1 := hf 1 _ rfl
      simp [cellsNs] at h0
      simp [cellsIs] at h1
      obtain ⟨ns, hr, hs, _⟩ := nodes_of_cells h0
      obtain ⟨l, hr', _⟩ := ints_of_cells h1
      exact ⟨c0, c1, ⟨ns, l⟩, rfl, ⟨hr, hr'⟩, hs⟩
end Go.Proofs.YtipacdagaalccaaGreatDoor

namespace Go.Proofs.YtipacdagaalccaaGreatDoor
set_option maxRecDepth 100000
open Go.RowKit Go.Shelf
attribute [local go_sem] Oper.semAt_some
theorem own_shape {W : World} {n₀ : Nat} {e : TypeId} {u : Value} {k : Nat} {xs : List Value} (h : W.ownsRow n₀ e 1 u k xs) : ∃ ao c, u = .slice ao k c := by
  rcases h.2 with ⟨rfl, rfl⟩ | ⟨g, cap, cur, rfl, _⟩
  · exact ⟨none, 0, rfl⟩
  · exact ⟨_, cap, rfl⟩
theorem upto_rows (l : List ByteArray) {k : Nat} (hk : k ≤ l.length) : ((upto l k).map fun x => Value.string x.2) = (l.take k).map Value.string := by
  rw [← upto_texts l hk, List.map_map]
  rfl
end Go.Proofs.YtipacdagaalccaaGreatDoor

namespace Go.Proofs.YtipacdagaalccaaGreatDoor
set_option maxRecDepth 100000
open Go.RowKit Go.Maps
def mcRen : Go.Shelf.Ren := ⟨fun n => if n = 5 then 95 else 118, fun n => if n = 23 then 112 else if n = 25 then 9 else n, fun n => n⟩
theorem mcLays : SlLaysW.n5 Tryz.prog mcRen :=
  ⟨(by kernel_rfl), ⟨Tryz.f95.name, (by kernel_rfl), (by kernel_rfl)⟩, (by kernel_rfl), (by kernel_rfl), (fun _ => by kernel_rfl), (fun _ => by kernel_rfl), (fun _ => by kernel_rfl), (by kernel_rfl), (fun _ => by kernel_rfl), (fun _ => by kernel_rfl),
    (fun _ => by kernel_rfl), (by kernel_rfl), (fun _ => by kernel_rfl), (fun _ => by kernel_rfl), (fun _ => by kernel_rfl)⟩
theorem mclone_any {w : World} {q n : Nat} {D : DataW Unit} (h : w.ownsMap Tryz.prog 9 (plainElem Tryz.prog 3) q n D) :
    Calls Tryz.prog 95 #[.map (some q)] w fun e w' => e = .returned (.map (some w.heap.size)) ∧ w'.ownsMap Tryz.prog 9 (plainElem Tryz.prog 3) w.heap.size n D ∧ Below w.heap.size w w' :=
  (AnyW.maps_Clone_owns mcLays 9 (plainElem Tryz.prog 3) q n D w h).mono fun _ _ ⟨h1, h2, _, h4⟩ => ⟨h1, h2, h4⟩
theorem strs_one (l : List ByteArray) : ∀ u ∈ l.map Value.string, u.oneCell' = true := fun u hu => by
  obtain ⟨s, _, rfl⟩ := List.mem_map.1 hu
  simp [Value.oneCell']
theorem slice_nil_in {P : Program} (w : World) (d : Nat) (t : TypeId) {e : TypeId} (h : P.underlying t = some (.slice e)) (ao : Option Addr) (n c : Nat) : (Op.equalIn (d + 1) t (.slice ao n c) (.slice none 0 0)).run P w = .ok ao.isNone w := by
  cases ao <;> simp [Op.equalIn, run_underlying h]
theorem slice_nil (w : World) (ao : Option Addr) (n c : Nat) : (binOp .eql 37 (.slice ao n c) (.slice none 0 0)).run Tryz.prog w = .ok (.bool ao.isNone) w := by
  simp only [binOp]
  simp [show Op.equal 37 (.slice ao n c) (.slice none 0 0) = Op.equalIn (9999 + 1) 37 (.slice ao n c) (.slice none 0 0) from rfl, slice_nil_in w 9999 37 Tryz.underlying37]
set_option maxHeartbeats 1000000 in
theorem slclone_any {w : World} {B : Nat} {v : Value} {l : List ByteArray} (h : w.ownsRow B 9 1 v l.length (l.map Value.string)) (hl : l.length ≤ 1024) :
    Calls Tryz.prog 94 #[v] w fun e w' => ∃ v', e = .returned v' ∧ w'.ownsRow w.heap.size 9 1 v' l.length (l.map Value.string) ∧ Below w.heap.size w w' := by
  obtain ⟨i0, hi, hz0, hz1, hz2⟩ := info_parts infoS
  have h0 := h
  rcases h.2 with ⟨rfl, hn⟩ | ⟨g, cap, cur, rfl, _⟩
  · have hl0 : l = [] := List.eq_nil_of_length_eq_zero hn
    subst hl0
    have hsn := fun w : World => slice_nil w none 0 0
    go_enter Tryz.func94, Tryz.ntmps94
    go_wp2
    go_ret
    exact ⟨_, rfl, World.ownsRow_nil _ _ _ _, Below.refl _ _⟩
  · have hnews : ∀ j u, (l.map Value.string)[j]? = some u → (w.alloc (.cells #[] 9)).cell? ((⟨g, 0, none⟩ : Addr).add j) = some u := fun j u hj => by
      exact ((h0.alloc (.cells #[] 9)).cells (g := g) rfl) j u hj
    have hown : (w.alloc (.cells #[] 9)).ownsRow w.heap.size 9 1 (.slice (some ⟨w.heap.size, 0, none⟩) 0 0) 0 [] := ⟨rfl, Or.inr ⟨w.heap.size, 0, #[], rfl, Nat.le_refl _, heap_alloc_new w _, Nat.le_refl _, Nat.zero_le _, rfl, rfl⟩⟩
    have hsn := fun w : World => slice_nil w (some ⟨g, 0, none⟩) l.length cap
    clear h h0
    go_enter Tryz.func94, Tryz.ntmps94
    go_wp2_with (at_builtin; refine wpList_append_own _ rfl _ _ 37 rfl w.heap.size 9 i0 (.string ⟨#[]⟩) 1 16 Tryz.underlying37 hi hz0 hz1 hz2 rfl (by decide) (.slice (some ⟨w.heap.size, 0, none⟩) 0 0) 0 [] rfl hown ⟨g, 0, none⟩ l.length cap (l.map Value.string) rfl (by simp) hnews (strs_one l) (by unfold maxLen; omega) (by omega) (by simp) ?_; intro v' w1 hown' hgrow _)
    go_ret
    refine ⟨v', rfl, by simpa using hown', ?_⟩
    exact (n_below_alloc w _).grown hgrow (by simp) (fun k e => by
      have e' : k = w.heap.size := by simpa [Value.ownBlock] using e.symm
      omega)
theorem map_below {w w' : World} {q n : Nat} {D : DataW Unit} (h : w.ownsMap Tryz.prog 9 (plainElem Tryz.prog 3) q n D) (hm : Below w.heap.size w w') : w'.ownsMap Tryz.prog 9 (plainElem Tryz.prog 3) q n D := map_keep (ks := []) h (n_Mod.ofBelow hm) (by simp)
theorem n_undr {w w' : World} (h : Below w.drew.heap.size w.drew w') : Below w.heap.size w w' := ⟨h.os, h.tape, h.output, h.size, h.block⟩
theorem copy_tb {w w3 : World} {B B1 B2 p q q' : Nat} {v v' : Value} {l : List ByteArray} {D : DataW Unit} (h : Tb w B p v q l) (ho : w3.ownsRow B1 9 1 v' l.length (l.map Value.string)) (hm : w3.ownsMap Tryz.prog 9 (plainElem Tryz.prog 3) q' l.length D) (hO : MapOf l D) (h1 : B2 ≤ B1) (h2 : B2 ≤ q') (h3 : B2 ≤ w3.heap.size) :
    Tb (w3.alloc (.cells #[v', .map (some q')] 114)) B2 w3.heap.size v' q' l :=
  ⟨heap_alloc_new w3 _, h3, n_own_base (n_own_below ho (n_below_alloc _ _)) h1, h2, ⟨D, hm.alloc _, hO⟩, h.len, h.good, h.nodup⟩
set_option maxHeartbeats 2000000 in
theorem copy_any {w : World} {B p q : Nat} {v : Value} {l : List ByteArray} (h : Tb w B p v q l) :
    Calls Tryz.prog 63 #[.pointer (some ⟨p, 0, none⟩)] w fun e w' => ∃ p' v' q', e = .returned (.pointer (some ⟨p', 0, none⟩)) ∧ Tb w' w.heap.size p' v' q' l ∧ Below w.heap.size w w' := by
  have c0 := h.c0
  have c1 := h.c1
  have hlen := h.len
  obtain ⟨D, hD, hO⟩ := h.map
  have hown := h.own
  obtain ⟨ao, c, rfl⟩ := own_shape hown
  have hp := h.lt
  have hb : Below w.heap.size w w := Below.refl _ _
  go_enter Tryz.func63, Tryz.ntmps63
  go_wp2
  go_region_held3 (fun w' => w'.cell? ⟨p, 0, none⟩ = some (.slice ao l.length c) ∧ w'.cell? ⟨p, 1, none⟩ = some (.map (some q))) (first | exact ⟨c0, c1⟩ | go_keep)
    (first
      | (go_at_call 94; refine Calls.mono (slclone_any (B := B) (by exact hown) hlen) ?_; rintro e w4 ⟨v', rfl, ho, hN⟩; (try replace hN := n_undr hN); replace c0 := (hN.cell (p := ⟨p, 0, none⟩) (Nat.lt_of_lt_of_le hp hb.size)).trans c0; replace c1 := (hN.cell (p := ⟨p, 1, none⟩) (Nat.lt_of_lt_of_le hp hb.size)).trans c1; have z4 := hb.size; replace hb := hb.trans (hN.mono z4); (try replace hD := map_below hD hN); (try replace hm := map_below hm hN); obtain ⟨ao', c', rfl⟩ := own_shape ho)
      | (go_at_call 95; refine Calls.mono (mclone_any (n := l.length) (D := D) (by exact hD)) ?_; rintro e w5 ⟨rfl, hm, hN⟩; (try replace hN := n_undr hN); replace c0 := (hN.cell (p := ⟨p, 0, none⟩) (Nat.lt_of_lt_of_le hp hb.size)).trans c0; replace c1 := (hN.cell (p := ⟨p, 1, none⟩) (Nat.lt_of_lt_of_le hp hb.size)).trans c1; have z5 := hb.size; replace hb := hb.trans (hN.mono z5); (try replace hown := n_own_below hown hN); (try replace ho := n_own_below ho hN)))
  all_goals go_wp2
  all_goals go_ret
  all_goals exact ⟨_, _, _, rfl, copy_tb h ho hm hO (by first | omega | (simp; done) | (simp; omega)) (by first | omega | (simp; done) | (simp; omega)) hb.size, hb.alloc hb.size _⟩
end Go.Proofs.YtipacdagaalccaaGreatDoor

namespace Go.Proofs.YtipacdagaalccaaGreatDoor
set_option maxRecDepth 100000
open Go.RowKit
structure Opd where
  kd : Int
  g : Gf
  a : Int
  b : Int
def od0 : Opd := ⟨0, gf0, 0, 0⟩
def OpAt (w : World) (b o : Nat) (nv rv : Value) (x : Opd) : Prop :=
  w.cell? ⟨b, o, none⟩ = some (.int .i64 x.kd) ∧ w.cell? ⟨b, o + 1, none⟩ = some nv ∧ w.cell? ⟨b, o + 2, none⟩ = some rv ∧ w.cell? ⟨b, o + 3, none⟩ = some (.int .i64 x.a) ∧ w.cell? ⟨b, o + 4, none⟩ = some (.int .i64 x.b) ∧ Gr w nv rv x.g ∧ Sized x.g
def Rop (w : World) (v : Value) (os : List Opd) : Prop :=
  ∃ ao c, v = .slice ao os.length c ∧ ∀ j, j < os.length → ∃ b o nv rv, ao = some ⟨b, o, none⟩ ∧ OpAt w b (o + j * 5) nv rv (os.getD j od0)
theorem OpAt.below {w w' : World} {b o : Nat} {nv rv : Value} {x : Opd} (h : OpAt w b o nv rv x) (hb : Below w.heap.size w w') : OpAt w' b o nv rv x := by
  obtain ⟨h0, h1, h2, h3, h4, h5, h6⟩ := h
  have k : ∀ {i : Nat} {u : Value}, w.cell? ⟨b, i, none⟩ = some u → w'.cell? ⟨b, i, none⟩ = some u := fun {i u} h => (hb.cell (p := ⟨b, i, none⟩) (lt_of_cell h)).trans h
  exact ⟨k h0, k h1, k h2, k h3, k h4, h5.below hb, h6⟩
theorem Rop.below {w w' : World} {v : Value} {os : List Opd} (h : Rop w v os) (hb : Below w.heap.size w w') : Rop w' v os := by
  obtain ⟨ao, c, e, h⟩ := h
  refine ⟨ao, c, e, fun j hj => ?_⟩
  obtain ⟨b, o, nv, rv, e, h⟩ := h j hj
  exact ⟨b, o, nv, rv, e, h.below hb⟩
abbrev opV (kd : Int) (nv rv : Value) (a b : Int) : Value := .agg #[.int .i64 kd, nv, rv, .int .i64 a, .int .i64 b]
end Go.Proofs.YtipacdagaalccaaGreatDoor

namespace Go.Proofs.YtipacdagaalccaaGreatDoor
set_option maxRecDepth 100000
open Go.RowKit Go.Shelf
attribute [local go_sem] Oper.semAt_some
def encA (x : Nat × ByteArray) : Array Value := #[.int .i64 (x.1 : Int), .string x.2]
def nextA (l : List ByteArray) (pre : List (Nat × ByteArray)) (x : Nat × ByteArray) (_ : World) : Prop := pre = upto l pre.length ∧ pre.length < l.length ∧ x = (pre.length, l.getD pre.length ⟨#[]⟩)
set_option maxHeartbeats 4000000 in
theorem sall_tells0 (ao : Option Addr) (c N B Bs : Nat) (w : World) (hBs : w.heap[Bs]? = some (.cells #[.slice ao 0 c] 37)) :
    TellsP N Tryz.prog 84 #[.pointer (some ⟨Bs, 0, none⟩)] encA B (fun k => k = Bs) (nextA []) (fun xs => xs = []) w := by
  intro lp J Jx W hW hBW hJ hJx hY h0
  have hbx : W.heap[Bs]? = some (.cells #[.slice ao 0 c] 37) := (hW.block _ (lt_of_block hBs)).trans hBs
  have hcb : W.cell? ⟨Bs, 0, none⟩ = some (.slice ao 0 c) := by simp [World.cell?, hbx]
  refine callsIn_of_wp Tryz.func84 rfl trivial ?_ rfl
  simp only [Tryz.ntmps84, List.size_toArray, List.length_cons, List.length_nil, Nat.reduceAdd, Nat.reduceSub, Array.replicate_succ, Array.replicate_zero, List.push_toArray, List.append_toArray, List.nil_append, List.cons_append]
  gi_wp2
  gi_loopw [7] (fun i wr => i = .int .i64 0 ∧ J [] wr) (fun _ _ => 0)
  case atStart => exact ⟨rfl, h0⟩
  case round =>
    obtain ⟨rfl, hJs⟩ := hrel
    gi_wp2
    go_end0
    exact ⟨⟨_, rfl⟩, .inl ⟨_, rfl, hJs⟩⟩
end Go.Proofs.YtipacdagaalccaaGreatDoor

namespace Go.Proofs.YtipacdagaalccaaGreatDoor
set_option maxRecDepth 100000
open Go.RowKit Go.Shelf
attribute [local go_sem] Oper.semAt_some
structure EAK (l : List ByteArray) (b o c Bs : Nat) (J : List (Nat × ByteArray) → World → Prop) (k : Nat) (wr : World) : Prop where
  j : J (upto l k) wr
  box : wr.heap[Bs]? = some (.cells #[.slice (some ⟨b, o, none⟩) l.length c] 37)
  row : ∀ j, j < l.length → wr.cell? ⟨b, o + j, none⟩ = some (.string (l.getD j ⟨#[]⟩))
set_option maxHeartbeats 4000000 in
theorem sallK_tells (l : List ByteArray) (b o c N Bs : Nat) (w : World) (hN : 2 ≤ N) (hl : l.length ≤ 5000) (hBs : w.heap[Bs]? = some (.cells #[.slice (some ⟨b, o, none⟩) l.length c] 37)) (hrow : ∀ j, j < l.length → w.cell? ⟨b, o + j, none⟩ = some (.string (l.getD j ⟨#[]⟩))) :
    TellsK N Tryz.prog 84 #[.pointer (some ⟨Bs, 0, none⟩)] encA (fun k => k = Bs ∨ (l ≠ [] ∧ k = b)) (nextA l) (fun xs => xs = upto l l.length) w := by
  intro lp J Jx W hW hJ hJx hY h0
  have hbx : W.heap[Bs]? = some (.cells #[.slice (some ⟨b, o, none⟩) l.length c] 37) := (hW.block _ (lt_of_block hBs)).trans hBs
  have hrw : ∀ j, j < l.length → W.cell? ⟨b, o + j, none⟩ = some (.string (l.getD j ⟨#[]⟩)) := fun j hj => (hW.cell (p := ⟨b, o + j, none⟩) (lt_of_cell (hrow j hj))).trans (hrow j hj)
  have hcb : W.cell? ⟨Bs, 0, none⟩ = some (.slice (some ⟨b, o, none⟩) l.length c) := by simp [World.cell?, hbx]
  have h1n : 1 ≤ N := by omega
  refine callsIn_of_wp Tryz.func84 rfl trivial ?_ rfl
  simp only [Tryz.ntmps84, List.size_toArray, List.length_cons, List.length_nil, Nat.reduceAdd, Nat.reduceSub, Array.replicate_succ, Array.replicate_zero, List.push_toArray, List.append_toArray, List.nil_append, List.cons_append]
  gi_wp2
  gi_loopw [7] (fun i wr => ∃ k : Nat, k ≤ l.length ∧ i = .int .i64 (k : Int) ∧ EAK l b o c Bs J k wr) (fun i _ => l.length - (intOf i).toNat)
  case atStart => exact ⟨0, Nat.zero_le _, rfl, ⟨h0, hbx, hrw⟩⟩
  case round =>
    obtain ⟨k, hk, rfl, hi⟩ := hrel
    by_cases hlt : k < l.length
    · have hcx' := hi.row k hlt
      have hup := upto_succ l k
      have hT : nextA l (upto l k) (k, l.getD k ⟨#[]⟩) wr := ⟨by rw [upto_length], by rw [upto_length]; exact hlt, by rw [upto_length]⟩
      obtain ⟨fn, tmps, assign, body, hy, hR⟩ := hY _ _ wr hi.j hT
      simp only [encA] at hy
      have hlt' : (k : Int) < (l.length : Int) := by omega
      have HI := hid hi
      have HR := hid hR
      clear hT hi hR
      obtain ⟨x, hx⟩ : ∃ x, x = l.getD k ⟨#[]⟩ := ⟨_, rfl⟩
      rw [← hx] at hcx' hup hy HR
      clear hx
      gi_wp2
      refine HR.out.mono ?_
      rintro e W3 (⟨rfl, hJ3, hk3⟩ | ⟨rfl, hJx3⟩)
      · have hb3 : W3.heap[Bs]? = some (.cells #[.slice (some ⟨b, o, none⟩) l.length c] 37) := (hk3.2 _ (Or.inl rfl) (lt_of_block HI.out.box)).trans HI.out.box
        have hr3 : ∀ j, j < l.length → W3.cell? ⟨b, o + j, none⟩ = some (.string (l.getD j ⟨#[]⟩)) := fun j hj => by
          have h1 := HI.out.row j hj
          rw [World.cell?_of_block (w := wr) (a := ⟨b, o + j, none⟩) (hk3.2 b (Or.inr ⟨fun e => by rw [e] at hj; simp at hj, rfl⟩) (lt_of_cell h1))]
          exact h1
        have hI3 : EAK l b o c Bs J (k + 1) W3 := ⟨by rw [hup]; exact hJ3, hb3, hr3⟩
        gi_wp2
        go_roundw
        case rel => exact ⟨k + 1, by omega, by simp, hI3⟩
        case measure => simp [intOf]; omega
      · gi_wp2
        refine bodyPost_ret (results_none rfl _ _ _) rfl ?_
        exact ⟨⟨_, rfl⟩, .inr ⟨_, hJx3⟩⟩
    · obtain rfl : k = l.length := by omega
      have hJ := hi.j
      gi_wp2
      go_end0
      exact ⟨⟨_, rfl⟩, .inl ⟨_, rfl, hJ⟩⟩
end Go.Proofs.YtipacdagaalccaaGreatDoor

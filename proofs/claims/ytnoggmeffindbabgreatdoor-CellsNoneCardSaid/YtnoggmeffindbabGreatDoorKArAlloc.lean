/- What Alloc of package arena does at every argument. -/
import Derived.Test.YtnoggmeffindbabGreatDoorKArRead
import Derived.Deep.RegionLaw
import Derived.Deep.DrawnRows
namespace Go.Proofs.YtnoggmeffindbabGreatDoor
open Go.RowKit
attribute [local go_sem ↓] Go.wp_at_zero Go.wp_at_succ

/-- Fresh words: references to themselves. -/
def frsh (s k : Nat) : List Int := (List.range k).map (fun i => 8 * ((s + i : Nat) : Int))
theorem frsh_len (s k : Nat) : (frsh s k).length = k := by simp [frsh]
theorem frsh_succ (s k : Nat) : frsh s (k + 1) = frsh s k ++ [8 * ((s + k : Nat) : Int)] := by simp [frsh, List.range_succ]
theorem frsh_rng (s k : Nat) (h : s + k ≤ 65536) : ∀ x ∈ frsh s k, 0 ≤ x ∧ x ≤ 18446744073709551615 := fun x hx => by
  simp [frsh] at hx
  obtain ⟨i, hi, rfl⟩ := hx
  omega
section
variable {w : World} {B p : Nat} {m : Int} {v : Value} {l : List Int}
/-- A new row behind an append, stored into the arena's field. -/
theorem a_Upd.push {T : TypeId} {w1 : World} {l' : List Int} {v' : Value} (h : Ar T w B p m v l) (hg : a_Mod (a_foot p v) w w1) (hp : w1.heap[p]? = w.heap[p]?) (ho : w1.ownsRow B 57 1 v' l'.length (l'.map (Value.int .u64)))
    (hn : a_Nx w v v') (hl : (l'.length : Int) ≤ m) (hr : ∀ x ∈ l', 0 ≤ x ∧ x ≤ 18446744073709551615) : a_Upd T w (w1.setCell ⟨p, 1, none⟩ v') B p m v l' v' := by
  have hb : w1.heap[p]? = some (.cells #[.int .i64 m, v] T (0, 0)) := by rw [hp]; exact h.blk
  have hne : v'.ownBlock ≠ some p := fun e => by
    rcases hn p e with h1 | h1
    · exact (h.row h1).2.2 rfl
    · have := h.lt; omega
  refine ⟨⟨h.ty, ?_, h.base, ownsRow_setCell_other ho (by simpa using hne) _, h.m1, h.m2, hl, hr⟩, hg.setCell (p := ⟨p, 1, none⟩) (Or.inl (a_mem_foot.2 (Or.inl rfl))) v', hn⟩
  rw [heap_setCell_same w1 p 1 _ T v' hb]
  rfl
/-- One word more, behind 'append(a.words, x)'. -/
theorem push_one {T : TypeId} {w1 : World} {x : Int} {g cap : Nat} (h : Ar T w B p m v l) (o : Obj) (hg : (w.alloc o).grownBy w1 v.ownBlock) (ho : w1.ownsRow B 57 1 (.slice (some ⟨g, 0, none⟩) (l.length + 1) cap) (l.length + 1) (l.map (Value.int .u64) ++ [.int .u64 x]))
    (hat : v.ownBlock = some g ∨ g = w.heap.size + 1) (hl : (l.length : Int) < m) (hx : 0 ≤ x ∧ x ≤ 18446744073709551615) :
    a_Upd T w (w1.setCell ⟨p, 1, none⟩ (.slice (some ⟨g, 0, none⟩) (l.length + 1) cap)) B p m v (l ++ [x]) (.slice (some ⟨g, 0, none⟩) (l.length + 1) cap) := by
  have hm : a_Mod (a_foot p v) w w1 := ((a_Mod.refl (a_foot p v) w).alloc o).grown hg (fun k e => Or.inl (a_mem_foot.2 (Or.inr e)))
  have hlt := h.lt
  refine a_Upd.push h hm ?_ (by simpa using ho) (fun k e => ?_) (by simp; omega) (fun y hy => ?_)
  · rw [hg.block p (by simp; omega) (fun e => (h.row e.symm).2.2 rfl)]
    exact Below.heap_alloc w o p hlt
  · simp [Value.ownBlock] at e
    subst e
    rcases hat with h1 | h1
    · exact Or.inl h1
    · exact Or.inr (by omega)
  · rcases List.mem_append.1 hy with h1 | h1
    · exact h.rng y h1
    · simp at h1; subst h1; exact hx
theorem undrew {w w' : World} {r : Option Nat} (h : w.drew.grownBy w' r) : w.grownBy w' r := ⟨h.os, h.tape, h.output, h.size, h.block⟩
theorem far_field {w w1 : World} {o : Obj} {r : Option Nat} {p : Nat} {v : Value} (h : (w.alloc o).drew.grownBy w1 r) (hp : p < w.heap.size) (hne : r ≠ some p) (hc : w.cell? ⟨p, 1, none⟩ = some v) (hf : w.frozen? ⟨p, 1, none⟩ = false) :
    w1.cell? ⟨p, 1, none⟩ = some v ∧ w1.frozen? ⟨p, 1, none⟩ = false := by
  have h' := undrew h
  have hb := h'.block p (by simp; omega) (Ne.symm hne)
  have hb2 := hb.trans (Below.heap_alloc w o p hp)
  exact ⟨(World.cell?_of_block (w := w) (a := ⟨p, 1, none⟩) hb2).trans hc, (World.frozen?_of_block (w := w) (a := ⟨p, 1, none⟩) hb2).trans hf⟩
set_option maxRecDepth 100000 in
set_option maxHeartbeats 400000 in
theorem alloc_few (h : Ar 150 w B p m v l) (n : Int) (hn : n < 1) :
    Calls Tryz.prog 45 #[.pointer (some ⟨p, 0, none⟩), .int .i64 n] w fun e w' => e = .returned (.tuple #[.int .i64 0, .iface 126 (.pointer (some ⟨w.heap.size, 0, none⟩))]) ∧ w' = w.alloc (faultAtObj 21 n) := by
  have hx := h.c0
  go_enter Tryz.func45, Tryz.ntmps45
  go_wp2_with (go_at_call 90; refine (afault_any _ _ _).mono ?_; rintro e w' ⟨rfl, rfl⟩)
  go_ret2
  exact ⟨rfl, rfl⟩
set_option maxRecDepth 100000 in
set_option maxHeartbeats 400000 in
theorem alloc_full (h : Ar 150 w B p m v l) (n : Int) (hn : 1 ≤ n) (hf : m - l.length < n) :
    Calls Tryz.prog 45 #[.pointer (some ⟨p, 0, none⟩), .int .i64 n] w fun e w' => e = .returned (.tuple #[.int .i64 0, .iface 126 (.pointer (some ⟨w.heap.size, 0, none⟩))]) ∧ w' = w.alloc (faultAtObj 22 n) := by
  have c0 := h.c0
  have h1 := h.m1
  have h2 := h.m2
  have h3 := h.len
  go_enter Tryz.func45, Tryz.ntmps45
  go_wp2_with (first | (go_at_call 79; refine (top_any h).mono ?_; rintro e w' ⟨rfl, rfl⟩) | (go_at_call 90; refine (afault_any _ _ _).mono ?_; rintro e w' ⟨rfl, rfl⟩))
  go_ret2
  exact ⟨rfl, rfl⟩
set_option maxRecDepth 100000 in
set_option maxRecDepth 100000 in
set_option maxHeartbeats 3200000 in
theorem alloc_ok (h : Ar 150 w B p m v l) (hB : B ≤ w.heap.size) (n : Nat) (hn : 1 ≤ n) (hf : (l.length : Int) + n ≤ m) :
    Calls Tryz.prog 45 #[.pointer (some ⟨p, 0, none⟩), .int .i64 (n : Int)] w fun e w' => ∃ v', e = .returned (.tuple #[.int .i64 (l.length : Int), .nilIface]) ∧ a_Upd 150 w w' B p m v (l ++ frsh l.length n) v' := by
  obtain ⟨i0, hi, hz0, hz1, hz2⟩ := info_parts Tryz.infoU
  have c0 := h.c0
  have h1 := h.m1
  have h2 := h.m2
  have h3 := h.len
  have hn' : (1 : Int) ≤ (n : Int) := by omega
  go_enter Tryz.func45, Tryz.ntmps45
  go_wp2_with (go_at_call 79; refine (top_any h).mono ?_; rintro e w ⟨rfl, rfl⟩)
  go_loopw [7, 28] (fun _ i wr => ∃ k : Nat, k ≤ n ∧ i = .int .i64 k ∧ ∃ v1, a_Upd 150 w wr B p m v (l ++ frsh l.length k) v1) (fun _ i _ => n - (intOf i).toNat)
  case atStart => exact ⟨0, Nat.zero_le _, rfl, v, by simpa [frsh] using a_Upd.refl h⟩
  case round =>
    obtain ⟨k, hk, rfl, v1, hU⟩ := hrel
    by_cases hlt : k < n
    · have hA := hU.ar
      have hlen : (l ++ frsh l.length k).length = l.length + k := by simp [frsh_len]
      obtain ⟨L, hL⟩ : ∃ L, L = l ++ frsh l.length k := ⟨_, rfl⟩
      rw [← hL] at hA hlen
      have hsz : w.heap.size ≤ wr.heap.size := hU.mod.size
      have HL : Hid (L = l ++ frsh l.length k) := hL
      have HU : Hid (a_Upd 150 w wr B p m v L v1) := by rw [hL]; exact hU
      clear hL hU
      have hown := hA.own
      rw [hlen] at hown
      have hp := hA.lt
      have hrow : v1.ownBlock ≠ some p := fun e => (hA.row e).2.2 rfl
      have a1 := hA.c1
      have af := hA.f1
      have hlt' : (k : Int) < (n : Int) := by omega
      obtain ⟨ao, cap0, hv1, _⟩ := hA.val
      rw [hlen] at hv1
      have HA : Hid (Ar 150 wr B p m v1 L) := hA
      clear hA hlen
      subst hv1
      have hwr : IntKind.i64.wrap ((l.length : Int) + k) = (l.length : Int) + k := by rw [IntKind.wrap_i64]; omega
      go_wp2
      go_region_law
        (first
          | (go_simp; go_at_call 91; refine (fresh_any _ _ (by omega) (by omega)).mono ?_; rintro e wq ⟨rfl, hwq⟩; subst hwq)
          | (refine step_append_lies _ (by rfl) _ _ _ (by rfl) B 57 i0 (.int .u64 0) 1 8 Tryz.underlying48 hi hz0 hz1 hz2 rfl (by omega) _ (l.length + k) (L.map (Value.int .u64)) (by rfl) ((hown.alloc _).drew) ⟨wr.heap.size, 0, none⟩ 1 1 [.int .u64 (8 * ((l.length : Int) + k))] (by rfl) (by rfl) (World.news_of_block (cs := #[.int .u64 (8 * ((l.length : Int) + k))]) (t := 57) (fr := (0, 0)) (heap_alloc_new wr _)) (by simp [Value.oneCell']) (by omega) (by unfold maxLen; omega) (by omega) (by simp; omega) (wr.heap.size + 1) (by simp) ?_; intro g cap w1 hown1 hgrow hat hlt1; obtain ⟨hc1, hf1⟩ := far_field hgrow hp hrow a1 af))
      all_goals go_wp2
      all_goals
        go_roundw
        case rel =>
          have hA := HA.out
          have hLl : L.length = l.length + k := by rw [HL.out]; simp [frsh_len]
          have R := push_one (w1 := w1) (x := 8 * ((l.length : Int) + k)) (g := g) (cap := cap) hA _ (undrew hgrow) (by rw [hLl]; exact hown1) hat (by rw [hLl]; omega) (by omega)
          rw [hLl] at R
          have HU' := HU.out.trans R
          rw [HL.out, List.append_assoc, ← Int.natCast_add, ← frsh_succ] at HU'
          exact ⟨k + 1, by omega, by go_num, _, HU'⟩
        case measure => simp [intOf]; omega
    · have hlt' : ¬ (k : Int) < (n : Int) := by omega
      obtain rfl : k = n := by omega
      have HU : Hid (a_Upd 150 w wr B p m v (l ++ frsh l.length k) v1) := hU
      clear hU
      go_wp2
      go_ret2
      exact ⟨rfl, v1, HU.out⟩
end
end Go.Proofs.YtnoggmeffindbabGreatDoor

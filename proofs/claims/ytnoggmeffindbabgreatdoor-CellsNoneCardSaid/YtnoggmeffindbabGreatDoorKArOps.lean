/- What Load, Store, Cut and Words of package arena do, each at every argument. -/
import Derived.Test.YtnoggmeffindbabGreatDoorKArFn
namespace Go.Proofs.YtnoggmeffindbabGreatDoor
open Go.RowKit

section
variable {w : World} {B p : Nat} {m : Int} {v : Value} {l : List Int}
theorem Ar.form {T : TypeId} (h : Ar T w B p m v l) {k : Nat} (hk : k < l.length) : ∃ g cap, v = .slice (some ⟨g, 0, none⟩) l.length cap ∧ l.length ≤ cap ∧ g < w.heap.size ∧ g ≠ p ∧ B ≤ g ∧ w.cell? ⟨g, k, none⟩ = some (.int .u64 (l.getD k 0)) ∧ w.frozen? ⟨g, k, none⟩ = false := by
  obtain ⟨g, cap, rfl, hb, hg⟩ := h.own.form (by omega)
  have hr := h.row (k := g) rfl
  obtain ⟨ao, cap', he, hc, _⟩ := h.val
  simp at he
  refine ⟨g, cap, rfl, by rw [he.2]; exact hc, hg, hr.2.2, hb, ?_, h.own.frozenAt k⟩
  rw [h.own.cellAt k (by omega)]
  simp [List.getD, List.getElem?_eq_getElem hk]
set_option maxRecDepth 100000 in
set_option maxHeartbeats 400000 in
theorem load_ok (h : Ar 150 w B p m v l) (k : Nat) (hk : k < l.length) :
    Calls Tryz.prog 116 #[.pointer (some ⟨p, 0, none⟩), .int .i64 (k : Int)] w fun e w' => e = .returned (.tuple #[.int .u64 (l.getD k 0), .nilIface]) ∧ w' = w := by
  obtain ⟨g, cap, rfl, hcap, hg, hne, _, hc, _⟩ := h.form hk
  have c1 := h.c1
  have hi : inB (k : Int) l.length = true := by simp [inB]; omega
  have hk' : (k : Int) < (l.length : Int) := by omega
  go_enter Tryz.func116, Tryz.ntmps116
  go_wp2_with (go_at_call 145; refine (holds_any h _).mono ?_; rintro e w' ⟨rfl, rfl⟩)
  go_ret2
  exact ⟨ret_pair (by simp [List.getD, hk]), rfl⟩
set_option maxRecDepth 100000 in
set_option maxHeartbeats 400000 in
theorem load_no (h : Ar 150 w B p m v l) (n : Int) (hi : inB n l.length = false) :
    Calls Tryz.prog 116 #[.pointer (some ⟨p, 0, none⟩), .int .i64 n] w fun e w' => e = .returned (.tuple #[.int .u64 0, .iface 126 (.pointer (some ⟨w.heap.size, 0, none⟩))]) ∧ w' = w.alloc (faultAtObj 23 n) := by
  go_enter Tryz.func116, Tryz.ntmps116
  go_wp2_with (first | (go_at_call 145; refine (holds_any h _).mono ?_; rintro e w' ⟨rfl, rfl⟩) | (go_at_call 90; refine (afault_any _ _ _).mono ?_; rintro e w' ⟨rfl, rfl⟩))
  go_ret2
  exact ⟨rfl, rfl⟩
theorem set_rng {l : List Int} (h : ∀ x ∈ l, 0 ≤ x ∧ x ≤ 18446744073709551615) (k : Nat) (u : Int) (hu : 0 ≤ u ∧ u ≤ 18446744073709551615) : ∀ x ∈ l.set k u, 0 ≤ x ∧ x ≤ 18446744073709551615 := fun x hx => by
  rcases List.mem_or_eq_of_mem_set hx with h1 | rfl
  · exact h x h1
  · exact hu
theorem Ar.stored {T : TypeId} {g cap : Nat} (h : Ar T w B p m (.slice (some ⟨g, 0, none⟩) l.length cap) l) (k : Nat) (u : Int) (hu : 0 ≤ u ∧ u ≤ 18446744073709551615) :
    a_Upd T w (w.setCell ⟨g, k, none⟩ (.int .u64 u)) B p m (.slice (some ⟨g, 0, none⟩) l.length cap) (l.set k u) (.slice (some ⟨g, 0, none⟩) l.length cap) := by
  have hr := h.row (k := g) rfl
  obtain ⟨h1, _⟩ := h.own.stored k (.int .u64 u)
  refine ⟨⟨h.ty, ?_, h.base, ?_, h.m1, h.m2, by simpa using h.len, set_rng h.rng k u hu⟩, (a_Mod.refl _ w).setCell (p := ⟨g, k, none⟩) (Or.inl (a_mem_foot.2 (Or.inr rfl))) _, a_Nx.refl _ _⟩
  · rw [Below.heap_setCell w ⟨g, k, none⟩ _ p (by simpa using hr.2.2.symm)]; exact h.blk
  · rw [List.map_set, List.length_set]; exact h1
set_option maxRecDepth 100000 in
set_option maxHeartbeats 400000 in
theorem store_ok (h : Ar 150 w B p m v l) (k : Nat) (u : Int) (hk : k < l.length) (u0 : 0 ≤ u) (u1 : u ≤ 18446744073709551615) (hm : mayB u l.length = true) :
    Calls Tryz.prog 114 #[.pointer (some ⟨p, 0, none⟩), .int .i64 (k : Int), .int .u64 u] w fun e w' => e = .returned .nilIface ∧ a_Upd 150 w w' B p m v (l.set k u) v := by
  obtain ⟨g, cap, rfl, hcap, hg, hne, _, hc, hf⟩ := h.form hk
  have c1 := h.c1
  have hi : inB (k : Int) l.length = true := by simp [inB]; omega
  have hk' : (k : Int) < (l.length : Int) := by omega
  go_enter Tryz.func114, Tryz.ntmps114
  go_wp2_with (first | (go_at_call 145; refine (holds_any h _).mono ?_; rintro e w' ⟨rfl, rfl⟩) | (go_at_call 79; refine (top_any h).mono ?_; rintro e w' ⟨rfl, rfl⟩) | (go_at_call 146; refine (may_any _ _ _ u0 u1).mono ?_; rintro e w' ⟨rfl, rfl⟩))
  go_ret
  exact ⟨rfl, h.stored k u ⟨u0, u1⟩⟩
set_option maxRecDepth 100000 in
set_option maxHeartbeats 400000 in
theorem store_out (h : Ar 150 w B p m v l) (n u : Int) (hi : inB n l.length = false) :
    Calls Tryz.prog 114 #[.pointer (some ⟨p, 0, none⟩), .int .i64 n, .int .u64 u] w fun e w' => e = .returned (.iface 126 (.pointer (some ⟨w.heap.size, 0, none⟩))) ∧ w' = w.alloc (faultAtObj 23 n) := by
  go_enter Tryz.func114, Tryz.ntmps114
  go_wp2_with (first | (go_at_call 145; refine (holds_any h _).mono ?_; rintro e w' ⟨rfl, rfl⟩) | (go_at_call 90; refine (afault_any _ _ _).mono ?_; rintro e w' ⟨rfl, rfl⟩))
  go_ret
  exact ⟨rfl, rfl⟩
set_option maxRecDepth 100000 in
set_option maxHeartbeats 400000 in
theorem store_not (h : Ar 150 w B p m v l) (n u : Int) (hi : inB n l.length = true) (u0 : 0 ≤ u) (u1 : u ≤ 18446744073709551615) (hm : mayB u l.length = false) :
    Calls Tryz.prog 114 #[.pointer (some ⟨p, 0, none⟩), .int .i64 n, .int .u64 u] w fun e w' => e = .returned (.iface 126 (.pointer (some ⟨w.heap.size, 0, none⟩))) ∧ w' = w.alloc (faultAtObj 24 n) := by
  go_enter Tryz.func114, Tryz.ntmps114
  go_wp2_with (first | (go_at_call 145; refine (holds_any h _).mono ?_; rintro e w' ⟨rfl, rfl⟩) | (go_at_call 79; refine (top_any h).mono ?_; rintro e w' ⟨rfl, rfl⟩) | (go_at_call 146; refine (may_any _ _ _ u0 u1).mono ?_; rintro e w' ⟨rfl, rfl⟩) | (go_at_call 90; refine (afault_any _ _ _).mono ?_; rintro e w' ⟨rfl, rfl⟩))
  go_ret
  exact ⟨rfl, rfl⟩
theorem Ar.setVal {T : TypeId} {v' : Value} {l' : List Int} (h : Ar T w B p m v l) (ho : w.ownsRow B 57 1 v' l'.length (l'.map (Value.int .u64))) (hl : (l'.length : Int) ≤ m) (hr : ∀ x ∈ l', 0 ≤ x ∧ x ≤ 18446744073709551615) (hp : v'.ownBlock ≠ some p) :
    Ar T (w.setCell ⟨p, 1, none⟩ v') B p m v' l' := by
  refine ⟨h.ty, ?_, h.base, ownsRow_setCell_other ho (by simpa using hp) _, h.m1, h.m2, hl, hr⟩
  have := heap_setCell_same w p 1 _ T v' h.blk
  rw [this]
  rfl
theorem mod_field (w : World) (p : Nat) (v v' : Value) : a_Mod (a_foot p v) w (w.setCell ⟨p, 1, none⟩ v') := (a_Mod.refl (a_foot p v) w).setCell (p := ⟨p, 1, none⟩) (Or.inl (a_mem_foot.2 (Or.inl rfl))) v'
set_option maxRecDepth 100000 in
set_option maxHeartbeats 400000 in
theorem cut_out (h : Ar 150 w B p m v l) (n : Int) (hi : n < 0 ∨ (l.length : Int) < n) :
    Calls Tryz.prog 76 #[.pointer (some ⟨p, 0, none⟩), .int .i64 n] w fun e w' => e = .returned (.iface 126 (.pointer (some ⟨w.heap.size, 0, none⟩))) ∧ w' = w.alloc (faultAtObj 23 n) := by
  rcases hi with hi | hi
  · go_enter Tryz.func76, Tryz.ntmps76
    go_wp2_with (first | (go_at_call 79; refine (top_any h).mono ?_; rintro e w' ⟨rfl, rfl⟩) | (go_at_call 90; refine (afault_any _ _ _).mono ?_; rintro e w' ⟨rfl, rfl⟩))
    go_ret
    exact ⟨rfl, rfl⟩
  · have h' : ¬ n < 0 := by omega
    go_enter Tryz.func76, Tryz.ntmps76
    go_wp2_with (first | (go_at_call 79; refine (top_any h).mono ?_; rintro e w' ⟨rfl, rfl⟩) | (go_at_call 90; refine (afault_any _ _ _).mono ?_; rintro e w' ⟨rfl, rfl⟩))
    go_ret
    exact ⟨rfl, rfl⟩
theorem own_take {e : TypeId} {g n cap k : Nat} {xs : List Value} (h : w.ownsRow B e 1 (.slice (some ⟨g, 0, none⟩) n cap) n xs) (hk : k ≤ n) : w.ownsRow B e 1 (.slice (some ⟨g, 0, none⟩) k cap) k (xs.take k) := by
  rcases h.2 with ⟨h', _⟩ | ⟨g', cap', cur, h', hb, hg, hnc, hcm, hcs, htake⟩
  · simp at h'
  · simp only [Value.slice.injEq, Option.some.injEq, Addr.mk.injEq, and_true, true_and] at h'
    obtain ⟨rfl, rfl⟩ := h'
    have h1 := h.1
    refine ⟨by simp; omega, Or.inr ⟨g, cap, cur, rfl, hb, hg, by omega, hcm, hcs, ?_⟩⟩
    rw [← htake, List.take_take]
    congr 1
    omega
set_option maxRecDepth 100000 in
set_option maxHeartbeats 400000 in
theorem cut_ok (h : Ar 150 w B p m v l) (k : Nat) (hk : k ≤ l.length) :
    Calls Tryz.prog 76 #[.pointer (some ⟨p, 0, none⟩), .int .i64 (k : Int)] w fun e w' => ∃ v', e = .returned .nilIface ∧ a_Upd 150 w w' B p m v (l.take k) v' := by
  have c1 := h.c1
  have f1 := h.f1
  have hk' : (k : Int) ≤ (l.length : Int) := by omega
  have hk0 : (0 : Int) ≤ (k : Int) := by omega
  have hlen := h.len
  have hm2 := h.m2
  rcases h.own.2 with ⟨rfl, hn⟩ | ⟨g, cap, cur, rfl, hb, hg, hc, hm, _⟩
  · obtain rfl : l = [] := List.eq_nil_of_length_eq_zero hn
    obtain rfl : k = 0 := by simpa using hk
    go_enter Tryz.func76, Tryz.ntmps76
    go_wp2_with (first | (go_at_call 79; refine (top_any h).mono ?_; rintro e w' ⟨rfl, rfl⟩))
    go_ret
    exact ⟨_, rfl, h.setVal (World.ownsRow_nil _ _ _ _) h.len h.rng (by simp [Value.ownBlock]), mod_field _ _ _ _, a_Nx.refl _ _⟩
  · have hr := h.row (k := g) rfl
    have HO := own_take h.own hk
    have HO' : Hid (w.ownsRow B 57 1 (.slice (some ⟨g, 0, none⟩) k cap) k ((l.map (Value.int .u64)).take k)) := HO
    clear HO
    have hkc : (k : Int) ≤ (cap : Int) := by omega
    have hcm : cap ≤ 9223372036854775807 := by simpa [maxLen] using hm
    go_enter Tryz.func76, Tryz.ntmps76
    go_wp2_with (first | (go_at_call 79; refine (top_any h).mono ?_; rintro e w' ⟨rfl, rfl⟩))
    go_ret
    have ht : (l.take k).length = k := by simp; omega
    refine ⟨_, rfl, h.setVal (v' := .slice (some ⟨g, 0, none⟩) k cap) (l' := l.take k) ?_ (by rw [ht]; omega) (fun x hx => h.rng x (List.mem_of_mem_take hx)) (by simpa [Value.ownBlock] using hr.2.2), mod_field _ _ _ _, fun _ e => Or.inl e⟩
    rw [ht, List.map_take]
    exact HO'.out
end
end Go.Proofs.YtnoggmeffindbabGreatDoor

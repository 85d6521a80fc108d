/- Package cells: New. -/
import Derived.BigQuiet
import Derived.Deep.RegionWith
import Derived.Test.YtlibjdilicfcdaaGreatDoornu23Z
import Derived.Test.YtlibjdilicfcdaaGreatDoornu07Z
namespace Go.Proofs.YtlibjdilicfcdaaGreatDoor
set_option maxRecDepth 100000
open Go.RowKit
set_option maxHeartbeats 2000000 in
theorem hnew_ok (m : Int) (w : World) (B : Nat) (hB : B ≤ w.heap.size) (h1 : 1 ≤ m) (h2 : m ≤ 65536) :
    Calls Tryz.prog 26 #[.int .i64 m] w fun e w' => (∃ hb ab tb tq, e = .returned (.tuple #[.pointer (some ⟨hb, 0, none⟩), .nilIface]) ∧ Hp w' B hb ab tb m (.slice none 0 0) [] (.slice none 0 0) tq [] (.slice none 0 0) (.slice none 0 0) 0 ∧ w.heap.size ≤ hb ∧ w.heap.size ≤ ab ∧ w.heap.size ≤ tb ∧ w.heap.size ≤ tq) ∧ Below w.heap.size w w' := by
  have hnw := hid (new_ok m w B hB h1 h2)
  go_enter Tryz.func26, Tryz.ntmps26
  go_wp2_with (first
    | (go_at_call 53; refine hnw.out.mono ?_; rintro e w1 ⟨rfl, hA1, hb1⟩; have HA1 := hid hA1; have Hb1 := hid hb1; clear hA1 hb1)
    | (go_at_call 55; refine (new_any w1 B (Nat.le_trans hB Hb1.out.size)).mono ?_; rintro e w2 ⟨rfl, hT2, hb2⟩; have HT2 := hid hT2; have Hb2 := hid hb2; clear hT2 hb2))
  go_ret2
  have hz1 := Hb1.out.size
  have hz2 := Hb2.out.size
  have hb3 := below_alloc w2 (.cells #[.pointer (some ⟨w.heap.size, 0, none⟩), .pointer (some ⟨w1.heap.size + 1, 0, none⟩), .slice none 0 0, .slice none 0 0, .int .i64 0] 80)
  refine ⟨⟨w2.heap.size, w.heap.size, w1.heap.size + 1, w1.heap.size, rfl, ⟨heap_alloc_new w2 _, by omega, (HA1.out.below Hb2.out).below hb3, HT2.out.below hb3⟩, by omega, Nat.le_refl _, by omega, by omega⟩, Below.next (Below.next Hb1.out Hb2.out) hb3⟩
end Go.Proofs.YtlibjdilicfcdaaGreatDoor

namespace Go.Proofs.YtlibjdilicfcdaaGreatDoor
set_option maxRecDepth 100000
open Go.RowKit
section
variable {w : World} {B p q : Nat} {v : Value} {ns : List ByteArray}
set_option maxHeartbeats 800000 in
theorem number_tab (h : Tb w B p v q ns) (s : ByteArray) (hs : s.size ≤ 281474976710656) :
    Calls Tryz.prog 128 #[.agg #[.pointer (some ⟨p, 0, none⟩)], .string s] w fun e w' => e = .returned (.int .i64 (num ns s : Int)) ∧ Below w.heap.size w w' := by
  have hb := hid (below_alloc w (.cells #[.pointer (some ⟨p, 0, none⟩)] 76))
  have hf := hid (find_any (h.below hb.out) s hs)
  generalize num ns s = k at *
  clear h
  go_enter Tryz.func128, Tryz.ntmps128
  go_wp2_with (go_at_call 89; refine hf.out.mono ?_; rintro e w1 ⟨rfl, hw⟩; replace hw := hw.symm; subst hw)
  go_ret
  exact ⟨rfl, hb.out⟩
end
def szN (nd : Nd) : Nat := if nd.kind = 1 then 1 else if nd.kind = 4 then 1 + nd.args.length else 0
set_option maxHeartbeats 800000 in
theorem size_any (w : World) (nd : Nd) (ao : Option Addr) (c : Nat) (hl : nd.args.length ≤ 5000) :
    Calls Tryz.prog 92 #[.agg #[.int .i64 nd.kind, .string nd.name, .int .i64 nd.num, .slice ao nd.args.length c]] w fun e w' => e = .returned (.int .i64 (szN nd : Int)) ∧ Below w.heap.size w w' := by
  obtain ⟨kd, nm, nu, args⟩ := nd
  dsimp only at hl ⊢
  have hR : Hid (szN ⟨kd, nm, nu, args⟩ = if kd = 1 then 1 else if kd = 4 then 1 + args.length else 0) := rfl
  generalize szN ⟨kd, nm, nu, args⟩ = R at *
  by_cases h1 : kd = 1
  · have hR1 : Hid (R = 1) := show _ = _ by rw [hR.out, if_pos h1]
    subst h1
    clear hR
    go_enter Tryz.func92, Tryz.ntmps92
    go_wp2
    go_ret
    exact ⟨ret_int (by rw [hR1.out]; rfl), below_alloc _ _⟩
  · by_cases h4 : kd = 4
    · have hR1 : Hid (R = 1 + args.length) := show _ = _ by rw [hR.out, if_neg h1, if_pos h4]
      subst h4
      clear hR h1
      go_enter Tryz.func92, Tryz.ntmps92
      go_wp2
      go_ret
      exact ⟨ret_int (by rw [hR1.out]; omega), below_alloc _ _⟩
    · have hR1 : Hid (R = 0) := show _ = _ by rw [hR.out, if_neg h1, if_neg h4]
      have d1 : (kd == 1) = false := by simpa using h1
      have d4 : (kd == 4) = false := by simpa using h4
      clear hR h1 h4
      go_enter Tryz.func92, Tryz.ntmps92
      go_wp2
      go_ret
      exact ⟨ret_int (by rw [hR1.out]; rfl), below_alloc _ _⟩
end Go.Proofs.YtlibjdilicfcdaaGreatDoor

/- Package cells: New. -/
import Derived.Test.YtnoggmeffindbabGreatDoorQACZ
import Derived.Test.YtnoggmeffindbabGreatDoorGrGood
import Derived.Test.YtnoggmeffindbabGreatDoorGrMeet
import Derived.BigQuiet
import Derived.Deep.RegionWith
import Derived.Deep.RegionHeld3
import Derived.Test.YtnoggmeffindbabGreatDoorQAAZ
import Derived.Test.YtnoggmeffindbabGreatDoorCeM
import Derived.Test.YtnoggmeffindbabGreatDoorGrMem
import Derived.Orders
namespace Go.Proofs.YtnoggmeffindbabGreatDoor
open Go.RowKit

set_option maxRecDepth 100000 in
set_option maxHeartbeats 2000000 in
theorem hnew_ok (m : Int) (w : World) (B : Nat) (hB : B ≤ w.heap.size) (h1 : 1 ≤ m) (h2 : m ≤ 65536) :
    Calls Tryz.prog 37 #[.int .i64 m] w fun e w' => (∃ hb ab tb tq, e = .returned (.tuple #[.pointer (some ⟨hb, 0, none⟩), .nilIface]) ∧ Hp w' B hb ab tb m (.slice none 0 0) [] (.slice none 0 0) tq [] (.slice none 0 0) (.slice none 0 0) 0 ∧ w.heap.size ≤ hb ∧ w.heap.size ≤ ab ∧ w.heap.size ≤ tb ∧ w.heap.size ≤ tq) ∧ Below w.heap.size w w' := by
  have hnw := hid (new_ok m w B hB h1 h2)
  go_enter Tryz.func37, Tryz.ntmps37
  go_wp2_with (first
    | (go_at_call 81; refine hnw.out.mono ?_; rintro e w1 ⟨rfl, hA1, hb1⟩; have HA1 := hid hA1; have Hb1 := hid hb1; clear hA1 hb1)
    | (go_at_call 82; refine (new_any w1 B (Nat.le_trans hB Hb1.out.size)).mono ?_; rintro e w2 ⟨rfl, hT2, hb2⟩; have HT2 := hid hT2; have Hb2 := hid hb2; clear hT2 hb2))
  go_ret2
  have hz1 := Hb1.out.size
  have hz2 := Hb2.out.size
  have hb3 := below_alloc w2 (.cells #[.pointer (some ⟨w.heap.size, 0, none⟩), .pointer (some ⟨w1.heap.size + 1, 0, none⟩), .slice none 0 0, .slice none 0 0, .int .i64 0] 100)
  refine ⟨⟨w2.heap.size, w.heap.size, w1.heap.size + 1, w1.heap.size, rfl, ⟨heap_alloc_new w2 _, by omega, (HA1.out.below Hb2.out).below hb3, HT2.out.below hb3⟩, by omega, Nat.le_refl _, by omega, by omega⟩, Below.next (Below.next Hb1.out Hb2.out) hb3⟩
end Go.Proofs.YtnoggmeffindbabGreatDoor

/- Package cells: Put's small functions. -/
namespace Go.Proofs.YtnoggmeffindbabGreatDoor
open Go.RowKit

section
variable {w : World} {B p q : Nat} {v : Value} {ns : List ByteArray}
set_option maxHeartbeats 800000 in
theorem number_tab (h : Tb w B p v q ns) (s : ByteArray) (hs : s.size ≤ 281474976710656) :
    Calls Tryz.prog 131 #[.agg #[.pointer (some ⟨p, 0, none⟩)], .string s] w fun e w' => e = .returned (.int .i64 (num ns s : Int)) ∧ Below w.heap.size w w' := by
  have hb := hid (below_alloc w (.cells #[.pointer (some ⟨p, 0, none⟩)] 94))
  have hf := hid (find_any (h.below hb.out) s hs)
  generalize num ns s = k at *
  clear h
  go_enter Tryz.func131, Tryz.ntmps131
  go_wp2_with (go_at_call 86; refine hf.out.mono ?_; rintro e w1 ⟨rfl, hw⟩; replace hw := hw.symm; subst hw)
  go_ret
  exact ⟨rfl, hb.out⟩
end
/-- How many words a node has of its own. -/
def szN (nd : Nd) : Nat := if nd.kind = 1 then 1 else if nd.kind = 4 then 1 + nd.args.length else 0
set_option maxHeartbeats 800000 in
theorem size_any (w : World) (nd : Nd) (ao : Option Addr) (c : Nat) (hl : nd.args.length ≤ 5000) :
    Calls Tryz.prog 89 #[.agg #[.int .i64 nd.kind, .string nd.name, .int .i64 nd.num, .slice ao nd.args.length c]] w fun e w' => e = .returned (.int .i64 (szN nd : Int)) ∧ Below w.heap.size w w' := by
  obtain ⟨kd, nm, nu, args⟩ := nd
  dsimp only at hl ⊢
  have hR : Hid (szN ⟨kd, nm, nu, args⟩ = if kd = 1 then 1 else if kd = 4 then 1 + args.length else 0) := rfl
  generalize szN ⟨kd, nm, nu, args⟩ = R at *
  by_cases h1 : kd = 1
  · have hR1 : Hid (R = 1) := show _ = _ by rw [hR.out, if_pos h1]
    subst h1
    clear hR
    go_enter Tryz.func89, Tryz.ntmps89
    go_wp2
    go_ret
    exact ⟨ret_int (by rw [hR1.out]; rfl), below_alloc _ _⟩
  · by_cases h4 : kd = 4
    · have hR1 : Hid (R = 1 + args.length) := show _ = _ by rw [hR.out, if_neg h1, if_pos h4]
      subst h4
      clear hR h1
      go_enter Tryz.func89, Tryz.ntmps89
      go_wp2
      go_ret
      exact ⟨ret_int (by rw [hR1.out]; omega), below_alloc _ _⟩
    · have hR1 : Hid (R = 0) := show _ = _ by rw [hR.out, if_neg h1, if_neg h4]
      have d1 : (kd == 1) = false := by simpa using h1
      have d4 : (kd == 4) = false := by simpa using h4
      clear hR h1 h4
      go_enter Tryz.func89, Tryz.ntmps89
      go_wp2
      go_ret
      exact ⟨ret_int (by rw [hR1.out]; rfl), below_alloc _ _⟩
end Go.Proofs.YtnoggmeffindbabGreatDoor

/- Package cells: the words of a node. -/
namespace Go.Proofs.YtnoggmeffindbabGreatDoor
open Go.RowKit

theorem fun_fitsC (a k : Int) (h : funB a k = true) : fitsB 4 (a * 16 + k) = true ∧ 0 ≤ a ∧ a < 1024 ∧ 1 ≤ k ∧ k ≤ 8 := by
  simp [funB] at h
  refine ⟨?_, h⟩
  simp [fitsB]; omega
set_option maxHeartbeats 400000 in
theorem fun_okC (a k : Int) (w : World) (h : funB a k = true) :
    Calls Tryz.prog 132 #[.int .i64 a, .int .i64 k] w fun e w' => e = .returned (.tuple #[.int .u64 (wordOf 4 (a * 16 + k)), .nilIface]) ∧ w' = w := by
  obtain ⟨hf, hb⟩ := fun_fitsC a k h
  go_enter Tryz.func132, Tryz.ntmps132
  go_wp2_with (first | (go_at_call 152; refine (isFunctor_any _ _ _).mono ?_; rintro e w' ⟨rfl, rfl⟩) | (go_at_call 112; refine (pack_ok _ _ _ hf).mono ?_; rintro e w' ⟨rfl, rfl⟩))
  go_ret2
  exact ⟨rfl, rfl⟩
/-- The word of a cell that holds a node. -/
def cwF (ns : List ByteArray) (nd : Nd) (pl : Nat) : Int := if nd.kind = 2 then wordOf 1 (num ns nd.name : Int) else if nd.kind = 3 then wordOf 2 nd.num else if nd.kind = 4 then wordOf 3 pl else wordOf 0 pl
theorem num_1024 {ns : List ByteArray} {s : ByteArray} (h : ns.length ≤ 1024) : num ns s < 1024 := by
  by_cases hi : inL ns s = true
  · have := num_lt hi
    omega
  · unfold num
    rw [if_neg hi]
    omega
section
variable {w : World} {B hb ab tb : Nat} {m : Int} {av : Value} {l : List Int} {tv : Value} {tq : Nat} {ns : List ByteArray} {trv ptv : Value} {n : Int}
set_option maxRecDepth 100000 in
set_option maxHeartbeats 4000000 in
theorem ccell_any (h : Hp w B hb ab tb m av l tv tq ns trv ptv n) (nd : Nd) (ao : Option Addr) (k c : Nat) (hs : nd.name.size ≤ 281474976710656) (h3 : nd.kind = 3 → fitsB 2 nd.num = true) (pl : Nat) (hp : nd.kind ≠ 2 → nd.kind ≠ 3 → pl < 65536) :
    Calls Tryz.prog 92 #[.pointer (some ⟨hb, 0, none⟩), .agg #[.int .i64 nd.kind, .string nd.name, .int .i64 nd.num, .slice ao k c], .int .i64 (pl : Int)] w fun e w' => e = .returned (.int .u64 (cwF ns nd pl)) ∧ Below w.heap.size w w' := by
  obtain ⟨kd, nm, nu, args⟩ := nd
  dsimp only at hs h3 hp ⊢
  have hR : Hid (cwF ns ⟨kd, nm, nu, args⟩ pl = if kd = 2 then wordOf 1 (num ns nm : Int) else if kd = 3 then wordOf 2 nu else if kd = 4 then wordOf 3 pl else wordOf 0 pl) := rfl
  generalize cwF ns ⟨kd, nm, nu, args⟩ pl = R at *
  have hb0 := hid (below_alloc w (.cells #[.int .i64 kd, .string nm, .int .i64 nu, .slice ao k c] 88))
  by_cases k2 : kd = 2
  · have hR1 : Hid (R = wordOf 1 (num ns nm : Int)) := show _ = _ by rw [hR.out, if_pos k2]
    have h1 := h.below hb0.out
    obtain ⟨⟨c0, c1, _⟩, c5⟩ := h1.cells
    have hnu := hid (fun w1 (hbb : Below (w.alloc (.cells #[.int .i64 kd, .string nm, .int .i64 nu, .slice ao k c] 88)).heap.size (w.alloc (.cells #[.int .i64 kd, .string nm, .int .i64 nu, .slice ao k c] 88)) w1) => number_tab (h1.below hbb).tb nm hs)
    have hpk := hid (fun w1 => packed_ok 1 (num ns nm : Int) w1 (by have := num_1024 (s := nm) h.tb.len; simp [fitsB]; omega))
    subst k2
    generalize num ns nm = N at *
    clear hR h h1 h3
    generalize wordOf 1 (N : Int) = X at *
    go_enter Tryz.func92, Tryz.ntmps92
    go_wp2
    go_region_with (first
      | (go_at_call 131; refine (hnu.out _ ?_).mono ?_; exact (Below.refl _ _).drew; rintro e w3 ⟨rfl, hb3⟩; have Hb3 := hid (Below.next hb0.out (Below.next (Below.refl _ _).drew hb3)); clear hb3)
      | (go_at_call 72; refine (hpk.out _).mono ?_; rintro e w2 ⟨rfl, hw⟩; replace hw := hw.symm; subst hw))
    all_goals go_wp2
    all_goals go_ret
    all_goals exact ⟨ret_int hR1.out.symm, Hb3.out⟩
  · have d2 : (kd == 2) = false := by simpa using k2
    by_cases k3 : kd = 3
    · have hR1 : Hid (R = wordOf 2 nu) := show _ = _ by rw [hR.out, if_neg k2, if_pos k3]
      have hpk := hid (fun w1 => packed_ok 2 nu w1 (h3 k3))
      subst k3
      clear hR h h3 k2
      generalize wordOf 2 nu = X at *
      go_enter Tryz.func92, Tryz.ntmps92
      go_wp2_with (go_at_call 72; refine (hpk.out _).mono ?_; rintro e w2 ⟨rfl, hw⟩; replace hw := hw.symm; subst hw)
      go_ret
      exact ⟨ret_int hR1.out.symm, hb0.out⟩
    · have d3 : (kd == 3) = false := by simpa using k3
      by_cases k4 : kd = 4
      · have hR1 : Hid (R = wordOf 3 pl) := show _ = _ by rw [hR.out, if_neg k2, if_neg k3, if_pos k4]
        have hpk := hid (fun w1 => packed_ok 3 (pl : Int) w1 (fits_str (hp k2 k3)))
        subst k4
        clear hR h h3 k2 k3
        generalize wordOf 3 (pl : Int) = X at *
        go_enter Tryz.func92, Tryz.ntmps92
        go_wp2_with (go_at_call 72; refine (hpk.out _).mono ?_; rintro e w2 ⟨rfl, hw⟩; replace hw := hw.symm; subst hw)
        go_ret
        exact ⟨ret_int hR1.out.symm, hb0.out⟩
      · have hR1 : Hid (R = wordOf 0 pl) := show _ = _ by rw [hR.out, if_neg k2, if_neg k3, if_neg k4]
        have d4 : (kd == 4) = false := by simpa using k4
        have hpk := hid (fun w1 => packed_ok 0 (pl : Int) w1 (by have := hp k2 k3; simp [fitsB]; omega))
        clear hR h h3 k2 k3 k4
        generalize wordOf 0 (pl : Int) = X at *
        go_enter Tryz.func92, Tryz.ntmps92
        go_wp2_with (go_at_call 72; refine (hpk.out _).mono ?_; rintro e w2 ⟨rfl, hw⟩; replace hw := hw.symm; subst hw)
        go_ret
        exact ⟨ret_int hR1.out.symm, hb0.out⟩
theorem nblk4 {w : World} {b : Nat} {u0 u1 u2 u3 : Value} {T : TypeId} (h : w.heap[b]? = some (.cells #[u0, u1, u2, u3] T)) : (w.cell? ⟨b, 0, none⟩ = some u0 ∧ w.cell? ⟨b, 1, none⟩ = some u1 ∧ w.cell? ⟨b, 2, none⟩ = some u2 ∧ w.cell? ⟨b, 3, none⟩ = some u3) ∧ b < w.heap.size := by
  refine ⟨⟨?_, ?_, ?_, ?_⟩, lt_of_block h⟩ <;> simp [World.cell?, h]
/-- The word of a compound's functor. -/
def fwF (ns : List ByteArray) (nd : Nd) : Int := wordOf 4 ((num ns nd.name : Int) * 16 + (nd.args.length : Int))
set_option maxRecDepth 100000 in
set_option maxHeartbeats 4000000 in
theorem functor_any (h : Hp w B hb ab tb m av l tv tq ns trv ptv n) (nd : Nd) (ao : Option Addr) (c : Nat) (hs : nd.name.size ≤ 281474976710656) (h1 : 1 ≤ nd.args.length) (h8 : nd.args.length ≤ 8) :
    Calls Tryz.prog 93 #[.pointer (some ⟨hb, 0, none⟩), .agg #[.int .i64 nd.kind, .string nd.name, .int .i64 nd.num, .slice ao nd.args.length c]] w fun e w' => e = .returned (.int .u64 (fwF ns nd)) ∧ Below w.heap.size w w' := by
  obtain ⟨kd, nm, nu, args⟩ := nd
  dsimp only at hs h1 h8 ⊢
  have hb0 := hid (below_alloc w (.cells #[.int .i64 kd, .string nm, .int .i64 nu, .slice ao args.length c] 88))
  have hh1 := h.below hb0.out
  obtain ⟨⟨c0, c1, _⟩, c5⟩ := hh1.cells
  have hnu := hid (fun w1 (hbb : Below (w.alloc (.cells #[.int .i64 kd, .string nm, .int .i64 nu, .slice ao args.length c] 88)).heap.size (w.alloc (.cells #[.int .i64 kd, .string nm, .int .i64 nu, .slice ao args.length c] 88)) w1) => number_tab (hh1.below hbb).tb nm hs)
  have hfn := hid (fun w1 => fun_okC (num ns nm : Int) (args.length : Int) w1 (by have := num_1024 (s := nm) h.tb.len; simp [funB]; omega))
  have hR : Hid (fwF ns ⟨kd, nm, nu, args⟩ = wordOf 4 ((num ns nm : Int) * 16 + (args.length : Int))) := rfl
  generalize fwF ns ⟨kd, nm, nu, args⟩ = R at *
  generalize num ns nm = N at *
  generalize wordOf 4 ((N : Int) * 16 + (args.length : Int)) = X at *
  have z0 : w.heap.size < (w.alloc (.cells #[.int .i64 kd, .string nm, .int .i64 nu, .slice ao args.length c] 88)).heap.size := by simp
  clear h hh1
  go_enter Tryz.func93, Tryz.ntmps93
  go_wp2
  have bx := heap_alloc_new w (.cells #[.int .i64 kd, .string nm, .int .i64 nu, .slice ao args.length c] 88)
  obtain ⟨⟨n0, n1, n2, n3⟩, _⟩ := nblk4 bx
  have HX := hid bx
  clear bx n0 n2
  go_region_held3 (fun w' => w'.cell? ⟨hb, 1, none⟩ = some (.pointer (some ⟨tb, 0, none⟩)) ∧ w'.cell? ⟨w.heap.size, 1, none⟩ = some (.string nm) ∧ w'.cell? ⟨w.heap.size, 3, none⟩ = some (.slice ao args.length c)) (first | exact ⟨c1, n1, n3⟩ | go_keep)
    (first
      | (go_at_call 131; refine (hnu.out _ ?_).mono ?_; exact (Below.refl _ _).drew; rintro e w3 ⟨rfl, hb3⟩; have hb4 := Below.next (Below.refl _ _).drew hb3; have Hb3 := hid (Below.next hb0.out hb4); replace c1 := (hb4.cell (p := ⟨hb, 1, none⟩) c5).trans c1; replace n1 := (hb4.cell (p := ⟨w.heap.size, 1, none⟩) z0).trans n1; replace n3 := (hb4.cell (p := ⟨w.heap.size, 3, none⟩) z0).trans n3; clear hb3 hb4)
      | (go_at_call 132; refine (hfn.out _).mono ?_; rintro e w2 ⟨rfl, hw⟩; replace hw := hw.symm; subst hw))
  all_goals go_wp2
  all_goals go_ret
  all_goals exact ⟨ret_int hR.out.symm, Hb3.out⟩
end
end Go.Proofs.YtnoggmeffindbabGreatDoor

/- Package cells: a heap whose words change. -/
namespace Go.Proofs.YtnoggmeffindbabGreatDoor
open Go.RowKit

theorem mod_an {ks : List Nat} {w w' : World} (h : a_Mod ks w w') : n_Mod ks w w' := ⟨h.os, h.tape, h.output, h.size, h.block⟩
theorem mod_na {ks : List Nat} {w w' : World} (h : n_Mod ks w w') : a_Mod ks w w' := ⟨h.os, h.tape, h.output, h.size, h.block⟩
section
variable {w w' : World} {B hb ab tb : Nat} {m : Int} {av : Value} {l : List Int} {tv : Value} {tq : Nat} {ns : List ByteArray} {trv ptv : Value} {n : Int}
/-- A block of the arena is none of the table, and not the heap's own. -/
theorem Hp.apart (h : Hp w B hb ab tb m av l tv tq ns trv ptv n) {k : Nat} (hk : k ∈ a_foot ab av) : k ≠ hb ∧ k ∉ n_foot tb tv tq := by
  have hT : ∃ cs T, w.heap[k]? = some (.cells cs T (0, 0)) ∧ (T = 150 ∨ T = 57) := by
    rcases a_mem_foot.1 hk with rfl | hk
    · exact ⟨_, _, h.ar.blk, Or.inl rfl⟩
    · obtain ⟨cur, hc, _⟩ := own_block_obj h.ar.own hk
      exact ⟨cur, _, hc, Or.inr rfl⟩
  obtain ⟨cs, T, hw, hTT⟩ := hT
  refine ⟨fun e => ?_, fun hf => ?_⟩
  · subst e
    have hq := h.blk
    rw [hw] at hq
    injection hq with hq
    injection hq with _ hq
    rcases hTT with rfl | rfl <;> exact absurd hq (by decide)
  · rcases n_mem_foot.1 hf with e | e | e
    · subst e
      have hq := h.tb.blk
      rw [hw] at hq
      injection hq with hq
      injection hq with _ hq
      rcases hTT with rfl | rfl <;> exact absurd hq (by decide)
    · subst e
      obtain ⟨D, ⟨es, clock, hq, _⟩, _⟩ := h.tb.map
      rw [hw] at hq
      simp at hq
    · obtain ⟨cur, hc, _⟩ := own_block_obj h.tb.own e
      rw [hw] at hc
      injection hc with hc
      injection hc with _ hc
      rcases hTT with rfl | rfl <;> exact absurd hc (by decide)
theorem Hp.words {av' : Value} {l' : List Int} (h : Hp w B hb ab tb m av l tv tq ns trv ptv n) (u : a_Upd 150 w w' B ab m av l' av') : Hp w' B hb ab tb m av' l' tv tq ns trv ptv n :=
  ⟨(u.mod.block hb (lt_of_block h.blk) (fun hk => (h.apart hk).1 rfl)).trans h.blk, h.base, u.ar, h.tb.keep (mod_an u.mod) (fun _ hk => (h.apart hk).2)⟩
end
section
variable {w : World} {B p : Nat} {m : Int} {v : Value} {l : List Int}
set_option maxRecDepth 100000 in
set_option maxHeartbeats 1000000 in
theorem blay_ok (h : Ar 150 w B p m v l) (k : Nat) (x : Int) (hk : k < l.length) (x0 : 0 ≤ x) (x1 : x ≤ 18446744073709551615) (hm : mayB x l.length = true) :
    Calls Tryz.prog 75 #[blkV p, .int .i64 (k : Int), .int .u64 x] w fun e w' => e = .returned (.tuple #[]) ∧ a_Upd 150 w w' B p m v (l.set k x) v := by
  have hb := hid (below_alloc w (.cells #[.pointer (some ⟨p, 0, none⟩)] 98))
  have hst := hid (store_ok (h.below hb.out) k x hk x0 x1 hm)
  have hu0 := hid (a_Upd.same h hb.out)
  clear h
  go_enter Tryz.func75, Tryz.ntmps75
  go_wp2_with (go_at_call 114; refine hst.out.mono ?_; rintro e w1 ⟨rfl, hu⟩; have Hu := hid hu; clear hu)
  go_end0
  exact ⟨rfl, hu0.out.trans Hu.out⟩
end
end Go.Proofs.YtnoggmeffindbabGreatDoor

/- Package cells: how many words a graph wants. -/
namespace Go.Proofs.YtnoggmeffindbabGreatDoor
open Go.RowKit

theorem cblk2 {w : World} {q : Nat} {u0 u1 : Value} {T : TypeId} (h : w.heap[q]? = some (.cells #[u0, u1] T)) : (w.cell? ⟨q, 0, none⟩ = some u0 ∧ w.cell? ⟨q, 1, none⟩ = some u1) ∧ w.frozen? ⟨q, 0, none⟩ = false ∧ w.frozen? ⟨q, 1, none⟩ = false := by
  refine ⟨⟨?_, ?_⟩, ?_, ?_⟩ <;> simp [World.cell?, World.frozen?, h]
/-- A node, where it lies. -/
theorem gr_nd {W w : World} {na : Option Addr} {nc : Nat} {rv : Value} {g : Gf} (hG : Gr W (.slice na g.nodes.length nc) rv g) (hb : Below W.heap.size W w) {x : Nat} (hx : x < g.nodes.length) : ∃ b o aa ac, na = some ⟨b, o, none⟩ ∧ w.cell? ⟨b, o + x * 4, none⟩ = some (.int .i64 (g.nodes.getD x nd0).kind) ∧ w.cell? ⟨b, o + x * 4 + 1, none⟩ = some (.string (g.nodes.getD x nd0).name) ∧ w.cell? ⟨b, o + x * 4 + 2, none⟩ = some (.int .i64 (g.nodes.getD x nd0).num) ∧ w.cell? ⟨b, o + x * 4 + 3, none⟩ = some (.slice aa (g.nodes.getD x nd0).args.length ac) := by
  obtain ⟨na', nc', e, hc⟩ := hG.1
  injection e with e1 _ _
  subst e1
  obtain ⟨b, o, av, rfl, h0⟩ := hc x hx
  obtain ⟨p0, p1, p2, p3, _⟩ := h0.below hb
  obtain ⟨aa, ac, rfl, _⟩ := h0.2.2.2.2
  exact ⟨b, o, aa, ac, rfl, p0, p1, p2, p3⟩
/-- The words of the first so many nodes that are met. -/
def wantJ (g : Gf) (met : List Int) : Nat → Nat
  | 0 => g.roots.length
  | j + 1 => wantJ g met j + szN (g.nodes.getD (met.getD j 0).toNat nd0)
theorem sz_le {nd : Nd} (h : nd.args.length ≤ 8) : szN nd ≤ 9 := by
  unfold szN
  split
  · omega
  · split <;> omega
theorem want_le {g : Gf} (hg : Good g) {met : List Int} : ∀ j, wantJ g met j ≤ g.roots.length + 9 * j
  | 0 => Nat.le_refl _
  | j + 1 => by
    have ih := want_le hg (met := met) j
    have h8 : (g.nodes.getD (met.getD j 0).toNat nd0).args.length ≤ 8 := by
      generalize met.getD j 0 = y
      by_cases hx : y.toNat < g.nodes.length
      · exact (good_args (hg.node _ (by simp [List.getD, hx]))).2
      · rw [List.getD, List.getElem?_eq_none (by omega)]
        exact Nat.zero_le _
    have := sz_le h8
    show wantJ g met j + _ ≤ _
    omega
set_option maxRecDepth 100000 in
set_option maxHeartbeats 4000000 in
theorem wanted_any {W : World} {nv rv mv : Value} {g : Gf} {met : List Int} (hG : Gr W nv rv g) (hg : Good g) (hM : Ri W mv met) (hm : ∀ x ∈ met, 0 ≤ x ∧ x < (g.nodes.length : Int)) (hl : met.length ≤ 5000) :
    Calls Tryz.prog 44 #[.agg #[nv, rv], mv] W fun e w' => e = .returned (.int .i64 (wantJ g met met.length : Int)) ∧ Below W.heap.size W w' := by
  have hb0 := hid (below_alloc W (.cells #[nv, rv] 25))
  have hx0 := hid (heap_alloc_new W (.cells #[nv, rv] 25))
  have HG := hid hG
  have HM := hid hM
  have Hg := hid hg
  have Hm := hid hm
  have hR : g.roots.length ≤ 4096 := hg.roots
  obtain ⟨na, nc, rfl, _⟩ := hG.1
  obtain ⟨ra, rc, rfl, _⟩ := hG.2
  obtain ⟨ma, mc, rfl, _⟩ := hM
  clear hG hg hm
  go_enter Tryz.func44, Tryz.ntmps44
  go_wp2
  go_loopw [5, 7, 13] (fun s _ i wr => ∃ j : Nat, j ≤ met.length ∧ i = .int .i64 (j : Int) ∧ s = .int .i64 (wantJ g met j : Int) ∧ Hid (Below W.heap.size W wr) ∧ Hid (wr.heap[W.heap.size]? = some (.cells #[.slice na g.nodes.length nc, .slice ra g.roots.length rc] 25))) (fun _ _ i _ => met.length - (intOf i).toNat)
  case atStart => exact ⟨0, Nat.zero_le _, rfl, rfl, hb0, hx0⟩
  case round =>
    clear hb0 hx0
    obtain ⟨j, hj, rfl, rfl, hb, hx⟩ := hrel
    by_cases hlt : j < met.length
    · have hji : (j : Int) < (met.length : Int) := by omega
      obtain ⟨mb, mo, hma, m0⟩ := (HM.out.below hb.out).at hlt
      subst hma
      have zm := lt_of_cell m0
      have hmr := Hm.out _ (getD_mem hlt)
      have hst : Hid (wantJ g met (j + 1) = wantJ g met j + szN (g.nodes.getD (met.getD j 0).toNat nd0)) := rfl
      have hwl := want_le Hg.out (met := met) j
      generalize met.getD j 0 = y at *
      obtain ⟨yn, rfl⟩ : ∃ yn : Nat, y = (yn : Int) := ⟨y.toNat, by omega⟩
      rw [Int.toNat_natCast] at hst
      have hyn : yn < g.nodes.length := by omega
      have hyi : (yn : Int) < (g.nodes.length : Int) := by omega
      obtain ⟨⟨b0, b1⟩, _⟩ := cblk2 hx.out
      have zb := lt_of_block hx.out
      obtain ⟨nb, no, aa, ac, hna, p0, p1, p2, p3⟩ := gr_nd HG.out hb.out hyn
      subst hna
      have zn := lt_of_cell p0
      have h8 := (good_args (Hg.out.node (g.nodes.getD yn nd0) (by simp [List.getD, hyn]))).2
      have hsz := hid (fun w => size_any w (g.nodes.getD yn nd0) aa ac (by omega))
      have hs9 := sz_le h8
      generalize szN (g.nodes.getD yn nd0) = sz at *
      generalize wantJ g met j = wj at *
      generalize g.nodes.getD yn nd0 = nd at *
      obtain ⟨kd, nm, nu, args⟩ := nd
      dsimp only at p0 p1 p2 p3 hsz
      clear hmr
      go_wp2_with (go_at_call 89; refine (hsz.out _).mono ?_; rintro e w3 ⟨rfl, hb3⟩; have Hb3 := hid (Below.next hb.out hb3); have Hx3 := hid ((hb3.block _ zb).trans hx.out); clear hb3)
      go_roundw
      case rel => exact ⟨j + 1, by omega, by go_num, congrArg (Value.int .i64) (by rw [hst.out]; omega), Hb3, Hx3⟩
      case measure => simp [intOf]; omega
    · obtain rfl : j = met.length := by omega
      go_wp2
      go_ret
      exact ⟨rfl, hb.out⟩
end Go.Proofs.YtnoggmeffindbabGreatDoor

/- Package cells: a write, where no point sees it. -/
namespace Go.Proofs.YtnoggmeffindbabGreatDoor
open Go.RowKit

section
variable {w w' : World} {B hb ab tb : Nat} {m : Int} {av : Value} {l : List Int} {tv : Value} {tq : Nat} {ns : List ByteArray} {trv ptv : Value} {n : Int}
/-- The heap's own block is none of the arena and none of the table. -/
theorem Hp.self (h : Hp w B hb ab tb m av l tv tq ns trv ptv n) : hb ∉ a_foot ab av ∧ hb ∉ n_foot tb tv tq := by
  refine ⟨fun hk => (h.apart hk).1 rfl, fun hf => ?_⟩
  have hq := h.blk
  rcases n_mem_foot.1 hf with e | e | e
  · subst e
    rw [h.tb.blk] at hq
    injection hq with hq
    injection hq with _ hq
    exact absurd hq (by decide)
  · subst e
    obtain ⟨D, ⟨es, clock, hq2, _⟩, _⟩ := h.tb.map
    rw [hq2] at hq
    simp at hq
  · obtain ⟨cur, hc, _⟩ := own_block_obj h.tb.own e
    rw [hc] at hq
    injection hq with hq
    injection hq with _ hq
    exact absurd hq (by decide)
theorem Hp.wrote (h : Hp w B hb ab tb m av l tv tq ns trv ptv n) (n' : Int) : Hp (w.setCell ⟨hb, 4, none⟩ (.int .i64 n')) B hb ab tb m av l tv tq ns trv ptv n' := by
  obtain ⟨h1, h2⟩ := h.self
  have hm : a_Mod [hb] w (w.setCell ⟨hb, 4, none⟩ (.int .i64 n')) := (a_Mod.refl [hb] w).setCell (p := ⟨hb, 4, none⟩) (Or.inl (by simp)) _
  refine ⟨heap_setCell_same w hb 4 _ _ (.int .i64 n') h.blk, h.base, h.ar.keep hm (fun k hk => by
    have e : k = hb := by simpa using hk
    rw [e]; exact h1), h.tb.keep (mod_an hm) (fun k hk => by
    have e : k = hb := by simpa using hk
    rw [e]; exact h2)⟩
/-- What a call that changes a heap leaves: its own blocks alone have changed. -/
def hfoot (hb ab tb tq : Nat) (av tv : Value) : List Nat := hb :: (a_foot ab av ++ n_foot tb tv tq)
set_option maxRecDepth 100000 in
set_option maxHeartbeats 2000000 in
theorem write0_ok (h : Hp w B hb ab tb m av l tv tq ns trv (.slice none 0 0) n) (k : Nat) (x : Int) (hk : k < l.length) (x0 : 0 ≤ x) (x1 : x ≤ 18446744073709551615) (hm : mayB x l.length = true) (n0 : 0 ≤ n) (n1 : n ≤ 4611686018427387904) :
    Calls Tryz.prog 70 #[.pointer (some ⟨hb, 0, none⟩), .int .i64 (k : Int), .int .u64 x] w fun e w' => e = .returned (.tuple #[]) ∧ Hp w' B hb ab tb m av (l.set k x) tv tq ns trv (.slice none 0 0) (n + 1) ∧ a_Mod (hb :: a_foot ab av) w w' := by
  obtain ⟨⟨c0, c1, c2, c3, c4⟩, c5⟩ := h.cells
  have hl := hid (blay_ok h.ar k x hk x0 x1 hm)
  have HH := hid h
  clear h hk hm
  go_enter Tryz.func70, Tryz.ntmps70
  go_wp2_with (go_at_call 75; refine hl.out.mono ?_; rintro e w1 ⟨rfl, hu⟩; have Hh := hid (HH.out.words hu); have Hu := hid hu; obtain ⟨⟨d0, d1, d2, d3, d4⟩, d5⟩ := Hh.out.cells; have d6 : w1.frozen? ⟨hb, 4, none⟩ = false := (by simp [World.frozen?, Hh.out.blk]); clear hu)
  go_end0
  refine ⟨rfl, Hh.out.wrote (n + 1), ?_⟩
  exact (Hu.out.mod.ofMem (hb :: a_foot ab av) (fun y hy => Or.inl (by simp [hy]))).setCell (p := ⟨hb, 4, none⟩) (Or.inl (by simp)) _
end
end Go.Proofs.YtnoggmeffindbabGreatDoor

/- Package cells: words stay sound when a variable is bound, or a compound is forwarded. -/
namespace Go.Proofs.YtnoggmeffindbabGreatDoor
open Go.RowKit

theorem wd_set {l : List Int} {j : Nat} {x : Int} (hj : j < l.length) (k : Nat) : wdN (l.set j x) k = if k = j then x else wdN l k := by
  unfold wdN
  by_cases e : k = j
  · subst e
    rw [if_pos rfl]
    simp [List.getD, hj]
  · rw [if_neg e]
    simp [List.getD, List.getElem?_set_ne (fun h => e h.symm)]
section
variable {l : List Int} {V : Nat → Bool} {j : Nat} {x : Int}
theorem tg_set (hj : j < l.length) {k : Nat} (e : k ≠ j) : tgN (l.set j x) k = tgN l k ∧ vlN (l.set j x) k = vlN l k := by
  unfold tgN vlN
  rw [wd_set hj, if_neg e]
  exact ⟨rfl, rfl⟩
theorem tg_new (hj : j < l.length) : tgN (l.set j x) j = x % 8 ∧ vlN (l.set j x) j = (valOf x).toNat := by
  unfold tgN vlN
  rw [wd_set hj, if_pos rfl]
  exact ⟨rfl, rfl⟩
/-- One word is laid anew; the places of compounds stay such. -/
theorem snd_set (h : Snd l V) (hj : j < l.length) (hx : 0 ≤ x ∧ x ≤ 18446744073709551615) (hg : goodB x = true)
    (hhd : (x % 8 = 4 ∨ x % 8 = 5) ↔ hdN l j)
    (h0 : x % 8 = 0 → (valOf x).toNat < l.length ∧ V (valOf x).toNat = true ∧ (V j = true → (valOf x).toNat ≤ j))
    (h3 : x % 8 = 3 → (valOf x).toNat < l.length ∧ hdN l (valOf x).toNat)
    (h5 : x % 8 = 5 → (valOf x).toNat < j ∧ hdN l (valOf x).toNat)
    (h4 : x % 8 ≠ 4) : Snd (l.set j x) V := by
  have hd : ∀ k, hdN (l.set j x) k ↔ hdN l k := fun k => by
    by_cases e : k = j
    · subst e
      rw [← hhd]
      unfold hdN
      rw [(tg_new hj).1]
    · unfold hdN
      rw [(tg_set hj e).1]
  have hl : (l.set j x).length = l.length := by simp
  refine ⟨fun k hk => ?_, fun y hy => ?_, fun k hk ht => ?_, fun k hk hv => ?_, fun k hk ht => ?_, fun k hk ht => ?_, fun k hk ht => ?_⟩
  · rw [hl] at hk
    rw [wd_set hj]
    split
    · exact hg
    · exact h.good k hk
  · rcases List.mem_or_eq_of_mem_set hy with h1 | rfl
    · exact h.rng y h1
    · exact hx
  · rw [hl] at hk ⊢
    by_cases e : k = j
    · subst e
      rw [(tg_new hj).1] at ht
      rw [(tg_new hj).2]
      exact h0 ht
    · rw [(tg_set hj e).1] at ht
      rw [(tg_set hj e).2]
      exact h.ref k hk ht
  · rw [hl] at hk
    rw [hd]
    exact h.own k hk hv
  · rw [hl] at hk ⊢
    rw [hd]
    by_cases e : k = j
    · subst e
      rw [(tg_new hj).1] at ht
      rw [(tg_new hj).2]
      exact h3 ht
    · rw [(tg_set hj e).1] at ht
      rw [(tg_set hj e).2]
      exact h.str k hk ht
  · rw [hl] at hk
    rw [hd]
    by_cases e : k = j
    · subst e
      rw [(tg_new hj).1] at ht
      rw [(tg_new hj).2]
      exact h5 ht
    · rw [(tg_set hj e).1] at ht
      rw [(tg_set hj e).2]
      exact h.fwd k hk ht
  · rw [hl] at hk ⊢
    have e : k ≠ j := fun e => by
      subst e
      rw [(tg_new hj).1] at ht
      exact h4 ht
    rw [(tg_set hj e).1] at ht
    have e2 : arN' (l.set j x) k = arN' l k := by
      unfold arN'
      rw [(tg_set hj e).2]
    rw [e2]
    obtain ⟨a1, a2⟩ := h.args k hk ht
    exact ⟨a1, fun i hi1 hi2 hh => a2 i hi1 hi2 ((hd _).1 hh)⟩
/-- A variable is bound. -/
theorem snd_bind (h : Snd l V) (hj : j < l.length) (hV : V j = true) (hx : 0 ≤ x ∧ x ≤ 18446744073709551615) (hg : goodB x = true) (h45 : x % 8 ≠ 4 ∧ x % 8 ≠ 5) (h0 : x % 8 = 0 → (valOf x).toNat ≤ j ∧ V (valOf x).toNat = true) (h3 : x % 8 = 3 → (valOf x).toNat < l.length ∧ hdN l (valOf x).toNat) : Snd (l.set j x) V :=
  snd_set h hj hx hg (iff_of_false (by omega) (h.own j hj hV)) (fun e => ⟨by have := (h0 e).1; omega, (h0 e).2, fun _ => (h0 e).1⟩) h3 (fun e => absurd e h45.2) h45.1
/-- A compound is forwarded. -/
theorem snd_fwd (h : Snd l V) (hj : j < l.length) (hh : hdN l j) {i : Nat} (hi : i < j) (hi2 : hdN l i) (hx : 0 ≤ x ∧ x ≤ 18446744073709551615) (hg : goodB x = true) (ht : x % 8 = 5) (hv : valOf x = (i : Int)) : Snd (l.set j x) V :=
  snd_set h hj hx hg (iff_of_true (Or.inr ht) hh) (fun e => by omega) (fun e => by omega) (fun _ => by rw [hv, Int.toNat_natCast]; exact ⟨hi, hi2⟩) (by omega)
end
end Go.Proofs.YtnoggmeffindbabGreatDoor

/- Package cells: what Put lays down, as plain data. -/
namespace Go.Proofs.YtnoggmeffindbabGreatDoor
open Go.RowKit

/-- One name more, if it is one and none that is there. -/
def wth1 (ns : List ByteArray) (s : ByteArray) : List ByteArray := if inL ns s = true ∨ s.size = 0 then ns else ns ++ [s]
/-- The names behind the first so many nodes that are met. -/
def wthJ (ns : List ByteArray) (g : Gf) (met : List Int) : Nat → List ByteArray
  | 0 => ns
  | j + 1 => wth1 (wthJ ns g met j) (g.nodes.getD (met.getD j 0).toNat nd0).name
theorem wth1_len (ns : List ByteArray) (s : ByteArray) : (wth1 ns s).length ≤ ns.length + 1 := by
  unfold wth1
  split
  · omega
  · simp
theorem wthJ_len (ns : List ByteArray) (g : Gf) (met : List Int) : ∀ j, (wthJ ns g met j).length ≤ ns.length + j
  | 0 => Nat.le_refl _
  | j + 1 => by
    have h1 := wthJ_len ns g met j
    have h2 := wth1_len (wthJ ns g met j) (g.nodes.getD (met.getD j 0).toNat nd0).name
    show (wth1 _ _).length ≤ _
    omega
theorem wth1_pre (ns : List ByteArray) (s : ByteArray) : ns <+: wth1 ns s := by
  unfold wth1
  split
  · exact List.prefix_refl _
  · exact List.prefix_append _ _
theorem wthJ_pre (ns : List ByteArray) (g : Gf) (met : List Int) (i : Nat) : ∀ d, wthJ ns g met i <+: wthJ ns g met (i + d)
  | 0 => List.prefix_refl _
  | d + 1 => (wthJ_pre ns g met i d).trans (wth1_pre _ _)
theorem idx_pre : ∀ {l t : List ByteArray} {s : ByteArray}, inL l s = true → idx (l ++ t) s = idx l s
  | [], _, _, h => by simp [inL] at h
  | y :: r, t, s, h => by
    by_cases e : y = s
    · simp [idx, e]
    · have h' : inL r s = true := by
        rw [inL_iff] at h ⊢
        rcases List.mem_cons.1 h with h | h
        · exact absurd h.symm e
        · exact h
      have := idx_pre (t := t) h'
      simp only [List.cons_append, idx, if_neg e, this]
theorem pre_in {l m : List ByteArray} {s : ByteArray} (h : l <+: m) (hs : inL l s = true) : inL m s = true ∧ num m s = num l s := by
  obtain ⟨t, rfl⟩ := h
  have h1 : inL (l ++ t) s = true := by
    rw [inL_iff] at hs ⊢
    exact List.mem_append_left _ hs
  refine ⟨h1, ?_⟩
  unfold num
  rw [if_pos h1, if_pos hs, idx_pre hs]
theorem pre_getD {l m : List ByteArray} {k : Nat} (h : l <+: m) (hk : k < l.length) : m.getD k ⟨#[]⟩ = l.getD k ⟨#[]⟩ := by
  obtain ⟨t, rfl⟩ := h
  simp [List.getD, List.getElem?_append_left hk]
theorem wthJ_in (ns : List ByteArray) (g : Gf) (met : List Int) {i j : Nat} (h : i < j) (hs : (g.nodes.getD (met.getD i 0).toNat nd0).name.size ≠ 0) : inL (wthJ ns g met j) (g.nodes.getD (met.getD i 0).toNat nd0).name = true := by
  have h1 : inL (wthJ ns g met (i + 1)) (g.nodes.getD (met.getD i 0).toNat nd0).name = true := by
    show inL (wth1 _ _) _ = true
    unfold wth1
    split
    · rename_i h2
      rcases h2 with h2 | h2
      · exact h2
      · exact absurd h2 hs
    · rw [inL_iff]
      simp
  have h2 := wthJ_pre ns g met (i + 1) (j - (i + 1))
  rw [show i + 1 + (j - (i + 1)) = j by omega] at h2
  exact (pre_in h2 h1).1

/-- Where a node's own words begin. -/
def plN (g : Gf) (met : List Int) (b : Nat) (x : Int) : Nat := b + wantJ g met (pos met x)
/-- The word of a cell that holds a node. -/
def cwX (ns : List ByteArray) (g : Gf) (met : List Int) (b : Nat) (x : Int) : Int := cwF ns (g.nodes.getD x.toNat nd0) (plN g met b x)
/-- A node's own words. -/
def nwX (ns : List ByteArray) (g : Gf) (met : List Int) (b : Nat) (x : Int) : List Int :=
  if (g.nodes.getD x.toNat nd0).kind = 1 then [8 * (plN g met b x : Int)]
  else if (g.nodes.getD x.toNat nd0).kind = 4 then fwF ns (g.nodes.getD x.toNat nd0) :: (g.nodes.getD x.toNat nd0).args.map (cwX ns g met b) else []
/-- All words that Put lays down. -/
def putW (ns : List ByteArray) (g : Gf) (met : List Int) (b : Nat) : List Int := g.roots.map (cwX ns g met b) ++ met.flatMap (nwX ns g met b)
section
variable {ns : List ByteArray} {g : Gf} {met : List Int} {b : Nat}
theorem nwX_len (x : Int) : (nwX ns g met b x).length = szN (g.nodes.getD x.toNat nd0) := by
  unfold nwX szN
  split
  · rfl
  · split
    · simp
      omega
    · rfl
theorem take_snocD {j : Nat} (h : j < met.length) : met.take (j + 1) = met.take j ++ [met.getD j 0] := by
  rw [List.take_add_one]
  simp [List.getD, h]
theorem want_flat : ∀ j, j ≤ met.length → wantJ g met j = g.roots.length + ((met.take j).flatMap (nwX ns g met b)).length
  | 0, _ => by simp [wantJ]
  | j + 1, h => by
    have ih := want_flat j (by omega)
    show wantJ g met j + _ = _
    rw [take_snocD (by omega), List.flatMap_append, List.length_append, ih]
    simp [nwX_len]
    omega
theorem putW_len : (putW ns g met b).length = wantJ g met met.length := by
  rw [want_flat (ns := ns) (b := b) _ (Nat.le_refl _), List.take_length]
  simp [putW]
theorem putW_root {i : Nat} (h : i < g.roots.length) : (putW ns g met b).getD i 0 = cwX ns g met b (g.roots.getD i 0) := by
  simp [putW, List.getD, h, List.getElem?_append_left]
theorem want_mono : ∀ (i d : Nat), wantJ g met i ≤ wantJ g met (i + d)
  | _, 0 => Nat.le_refl _
  | i, d + 1 => Nat.le_trans (want_mono i d) (Nat.le_add_right _ _)
theorem want_next {i j : Nat} (h : i < j) : wantJ g met i + szN (g.nodes.getD (met.getD i 0).toNat nd0) ≤ wantJ g met j := by
  have := want_mono (g := g) (met := met) (i + 1) (j - (i + 1))
  rw [show i + 1 + (j - (i + 1)) = j by omega] at this
  exact this
theorem want_root (j : Nat) : g.roots.length ≤ wantJ g met j := by
  have := want_mono (g := g) (met := met) 0 j
  rw [Nat.zero_add] at this
  exact this
theorem putW_node {j r : Nat} (hj : j < met.length) (hr : r < szN (g.nodes.getD (met.getD j 0).toNat nd0)) : (putW ns g met b).getD (wantJ g met j + r) 0 = (nwX ns g met b (met.getD j 0)).getD r 0 := by
  have h1 : met.flatMap (nwX ns g met b) = (met.take j).flatMap (nwX ns g met b) ++ (nwX ns g met b (met.getD j 0) ++ (met.drop (j + 1)).flatMap (nwX ns g met b)) := by
    have e : met.flatMap (nwX ns g met b) = (met.take j ++ met.drop j).flatMap (nwX ns g met b) := by rw [List.take_append_drop]
    rw [e, drop_step hj]
    simp
  have h2 := want_flat (ns := ns) (b := b) (g := g) (met := met) j (by omega)
  unfold putW
  rw [h1, h2]
  have h3 : r < (nwX ns g met b (met.getD j 0)).length := by rw [nwX_len]; exact hr
  generalize (met.take j).flatMap (nwX ns g met b) = F
  generalize (met.drop (j + 1)).flatMap (nwX ns g met b) = H
  generalize nwX ns g met b (met.getD j 0) = M at *
  have h4 : (g.roots.map (cwX ns g met b)).length = g.roots.length := by simp
  generalize g.roots.map (cwX ns g met b) = K at *
  simp only [List.getD]
  rw [List.getElem?_append_right (by omega), List.getElem?_append_right (by omega), List.getElem?_append_left (by omega)]
  congr 2
  omega
/-- Each place is a root's cell, or lies in a node's own words. -/
theorem want_cover : ∀ (j c : Nat), c < wantJ g met j → c < g.roots.length ∨ ∃ i r, i < j ∧ r < szN (g.nodes.getD (met.getD i 0).toNat nd0) ∧ c = wantJ g met i + r
  | 0, c, h => Or.inl h
  | j + 1, c, h => by
    by_cases h1 : c < wantJ g met j
    · rcases want_cover j c h1 with h2 | ⟨i, r, h2, h3, h4⟩
      · exact Or.inl h2
      · exact Or.inr ⟨i, r, by omega, h3, h4⟩
    · have h2 : c < wantJ g met j + szN (g.nodes.getD (met.getD j 0).toNat nd0) := h
      exact Or.inr ⟨j, c - wantJ g met j, by omega, by omega, by omega⟩
end
/-- Words that are laid down one behind the other: the first so many are what they will be, the others are fresh. -/
def mixW (T : List Int) (b c : Nat) : List Int := T.take c ++ frsh (b + c) (T.length - c)
theorem mix_len {T : List Int} {b c : Nat} (h : c ≤ T.length) : (mixW T b c).length = T.length := by
  simp [mixW, frsh_len]
  omega
theorem mix_zero (T : List Int) (b : Nat) : mixW T b 0 = frsh b T.length := by simp [mixW]
theorem mix_full (T : List Int) (b : Nat) : mixW T b T.length = T := by simp [mixW, frsh]
theorem frsh_cons (s k : Nat) : frsh s (k + 1) = 8 * (s : Int) :: frsh (s + 1) k := by
  unfold frsh
  rw [List.range_succ_eq_map, List.map_cons, List.map_map]
  congr 1
  apply List.map_congr_left
  intro i _
  simp
  omega
theorem mix_split {T : List Int} {b c : Nat} (h : c < T.length) : mixW T b c = T.take c ++ 8 * ((b + c : Nat) : Int) :: frsh (b + (c + 1)) (T.length - (c + 1)) := by
  unfold mixW
  rw [show T.length - c = (T.length - (c + 1)) + 1 by omega, frsh_cons, show b + c + 1 = b + (c + 1) by omega]
theorem mix_next {T : List Int} {b c : Nat} (h : c < T.length) : mixW T b (c + 1) = T.take c ++ T.getD c 0 :: frsh (b + (c + 1)) (T.length - (c + 1)) := by
  unfold mixW
  rw [take_snocD h, List.append_assoc]
  rfl
theorem mix_set {l T : List Int} {c : Nat} (h : c < T.length) : (l ++ mixW T l.length c).set (l.length + c) (T.getD c 0) = l ++ mixW T l.length (c + 1) := by
  rw [mix_split h, mix_next h, List.set_append_right _ _ (by omega), show l.length + c - l.length = c by omega, List.set_append_right _ _ (by simp; omega)]
  have e : c - (T.take c).length = 0 := by simp; omega
  rw [e, List.set_cons_zero]
theorem mix_skip {T : List Int} {b c : Nat} (h : c < T.length) (e : T.getD c 0 = 8 * ((b + c : Nat) : Int)) : mixW T b c = mixW T b (c + 1) := by
  rw [mix_split h, mix_next h, e]
end Go.Proofs.YtnoggmeffindbabGreatDoor

/- Package cells: what 'lay' has in memory. -/
namespace Go.Proofs.YtnoggmeffindbabGreatDoor
open Go.RowKit

/-- The graph's box and the places behind it; the words of an arena may have changed. -/
structure Ly (W w : World) (ab : Nat) (av nv rv : Value) (N : Nat) (PL : List Int) : Prop where
  m : a_Mod (a_foot ab av) W w
  f : ∀ k ∈ a_foot ab av, k < W.heap.size
  g : w.heap[W.heap.size]? = some (.cells #[nv, rv] 25)
  p : w.ownsRow (W.heap.size + 1) 3 1 (.slice (some ⟨W.heap.size + 1, 0, none⟩) N N) N (PL.map (Value.int .i64))
  l : PL.length = N
section
variable {W w w' : World} {ab : Nat} {av nv rv : Value} {N : Nat} {PL : List Int}
theorem Ly.next (h : Ly W w ab av nv rv N PL) (hb : Below w.heap.size w w') : Ly W w' ab av nv rv N PL :=
  ⟨h.m.trans (a_Mod.ofBelow (ks := []) hb) (fun _ hx => by cases hx), h.f, (hb.block _ (lt_of_block h.g)).trans h.g, row_keep h.p (fun k hk => hb.block k (h.p.lt k hk).2), h.l⟩
theorem Ly.upd (h : Ly W w ab av nv rv N PL) (hm : a_Mod (a_foot ab av) w w') : Ly W w' ab av nv rv N PL :=
  ⟨h.m.trans hm (fun _ hx => Or.inl hx), h.f, (hm.block _ (lt_of_block h.g) (fun hx => by have := h.f _ hx; omega)).trans h.g, row_keep h.p (fun k hk => hm.block k (h.p.lt k hk).2 (fun hx => by have := h.f _ hx; have := (h.p.lt k hk).1; omega)), h.l⟩
theorem Ly.cell (h : Ly W w ab av nv rv N PL) {i : Nat} (hi : i < N) : w.cell? ⟨W.heap.size + 1, i, none⟩ = some (.int .i64 (PL.getD i 0)) ∧ w.frozen? ⟨W.heap.size + 1, i, none⟩ = false :=
  ⟨by rw [h.p.cellAt i (by omega)]; have := h.l; simp [List.getD, show i < PL.length by omega], h.p.frozenAt i⟩
theorem Ly.set (h : Ly W w ab av nv rv N PL) (n : Nat) (v : Int) : Ly W (w.setCell ⟨W.heap.size + 1, n, none⟩ (.int .i64 v)) ab av nv rv N (PL.set n v) := by
  refine ⟨h.m.setCell (p := ⟨W.heap.size + 1, n, none⟩) (Or.inr (by show W.heap.size ≤ W.heap.size + 1; omega)) _, h.f, (Below.heap_setCell _ _ _ _ (by show W.heap.size ≠ W.heap.size + 1; omega)).trans h.g, ?_, by simp [h.l]⟩
  have h3 := (World.ownsRow.stored h.p n (.int .i64 v)).1
  rw [List.map_set]
  exact h3
theorem Ly.box (h : Ly W w ab av nv rv N PL) : (w.cell? ⟨W.heap.size, 0, none⟩ = some nv ∧ w.cell? ⟨W.heap.size, 1, none⟩ = some rv) ∧ W.heap.size < w.heap.size ∧ W.heap.size + 1 < w.heap.size := by
  obtain ⟨a, _⟩ := cblk2 h.g
  exact ⟨a, lt_of_block h.g, (h.p.lt _ rfl).2⟩
theorem ly_start {w1 : World} (hf : ∀ k ∈ a_foot ab av, k < W.heap.size) (hown : w1.ownsRow (W.heap.size + 1) 3 1 (.slice (some ⟨(W.alloc (.cells #[nv, rv] 25)).heap.size, 0, none⟩) N N) N (madeCells (Value.int .i64 0).cells (N * 1)).toList) (hgrow : (W.alloc (.cells #[nv, rv] 25)).grownBy w1 none) : Ly W w1 ab av nv rv N (List.replicate N 0) ∧ Below W.heap.size W w1 := by
  have hsz : (W.alloc (.cells #[nv, rv] 25)).heap.size = W.heap.size + 1 := by simp
  rw [hsz] at hown
  have hb : Below W.heap.size W w1 := (below_alloc W _).grown hgrow (by omega) (fun _ e => by cases e)
  refine ⟨⟨a_Mod.ofBelow hb, hf, ?_, ?_, by simp⟩, hb⟩
  · rw [hgrow.block _ (by simp) (fun e => by cases e)]
    exact heap_alloc_new W _
  · rw [show (madeCells (Value.int .i64 0).cells (N * 1)).toList = List.replicate N (.int .i64 0) by rw [Nat.mul_one]; simp [Value.cells, toList_madeCells_one]] at hown
    simpa using hown
end
/-- The places of the first so many nodes that are met stand in the row. -/
def PlJ (g : Gf) (met : List Int) (b j : Nat) (PL : List Int) : Prop := ∀ i, i < j → PL.getD (met.getD i 0).toNat 0 = ((b + wantJ g met i : Nat) : Int)
theorem plJ_set {g : Gf} {met PL : List Int} {b j : Nat} (h : PlJ g met b j PL) (hn : met.Nodup) (hr : ∀ x ∈ met, 0 ≤ x ∧ x < (PL.length : Int)) (hj : j < met.length) : PlJ g met b (j + 1) (PL.set (met.getD j 0).toNat ((b + wantJ g met j : Nat) : Int)) := fun i hi => by
  have hrj := hr _ (getD_mem hj)
  by_cases e : i = j
  · subst e
    have hz : (met.getD i 0).toNat < PL.length := by omega
    generalize (met.getD i 0).toNat = z at *
    simp [List.getD, hz]
  · have hij : i < j := by omega
    have hri := hr _ (getD_mem (show i < met.length by omega))
    have hne : (met.getD j 0).toNat ≠ (met.getD i 0).toNat := fun e2 => by
      have e3 : met.getD j 0 = met.getD i 0 := by omega
      have h4 := pos_of_getD hn hj
      rw [e3, pos_of_getD hn (show i < met.length by omega)] at h4
      exact e h4
    have h5 := h i hij
    simp only [List.getD] at h5 hne ⊢
    rw [List.getElem?_set_ne hne]
    exact h5
theorem plJ_all {g : Gf} {met PL : List Int} {b : Nat} (h : PlJ g met b met.length PL) {x : Int} (hx : x ∈ met) : PL.getD x.toNat 0 = (plN g met b x : Int) := by
  have h1 := h (pos met x) (pos_lt hx)
  rw [pos_at hx] at h1
  exact h1
/-- A graph in memory, with the slices of its nodes' arguments. -/
def Gra (w : World) (nv rv : Value) (g : Gf) (avs : Nat → Value) : Prop := (∃ na nc, nv = .slice na g.nodes.length nc ∧ ∀ x, x < g.nodes.length → ∃ b o, na = some ⟨b, o, none⟩ ∧ NdAt w b (o + x * 4) (avs x) (g.nodes.getD x nd0)) ∧ Ri w rv g.roots
theorem gra_of {w : World} {nv rv : Value} {g : Gf} (h : Gr w nv rv g) : ∃ avs, Gra w nv rv g avs := by
  obtain ⟨na, nc, e, hc⟩ := h.1
  have hf : ∀ x, ∃ av, x < g.nodes.length → ∃ b o, na = some ⟨b, o, none⟩ ∧ NdAt w b (o + x * 4) av (g.nodes.getD x nd0) := fun x => by
    by_cases hx : x < g.nodes.length
    · obtain ⟨b, o, av, e, h0⟩ := hc x hx
      exact ⟨av, fun _ => ⟨b, o, e, h0⟩⟩
    · exact ⟨undef, fun h => absurd h hx⟩
  exact ⟨fun x => (hf x).choose, ⟨na, nc, e, fun x hx => (hf x).choose_spec hx⟩, h.2⟩
theorem Gra.below {w w' : World} {nv rv : Value} {g : Gf} {avs : Nat → Value} (h : Gra w nv rv g avs) (hb : Below w.heap.size w w') : Gra w' nv rv g avs := by
  obtain ⟨⟨na, nc, e, hc⟩, hr⟩ := h
  exact ⟨⟨na, nc, e, fun x hx => by
    obtain ⟨b, o, e, h0⟩ := hc x hx
    exact ⟨b, o, e, h0.below hb⟩⟩, hr.below hb⟩
theorem Gra.gr {w : World} {nv rv : Value} {g : Gf} {avs : Nat → Value} (h : Gra w nv rv g avs) : Gr w nv rv g := by
  obtain ⟨⟨na, nc, e, hc⟩, hr⟩ := h
  exact ⟨⟨na, nc, e, fun x hx => by
    obtain ⟨b, o, e, h0⟩ := hc x hx
    exact ⟨b, o, avs x, e, h0⟩⟩, hr⟩
theorem ri_own {w : World} {B : Nat} {ao : Option Addr} {c : Nat} {L : List Int} (h : w.ownsRow B 3 1 (.slice ao L.length c) L.length (L.map (Value.int .i64))) : Ri w (.slice ao L.length c) L := by
  refine ⟨ao, c, rfl, fun j hj => ?_⟩
  rcases h.2 with ⟨e, hn⟩ | ⟨gb, cap, cur, e, _⟩
  · omega
  · injection e with e _ _
    subst e
    refine ⟨gb, 0, rfl, ?_⟩
    rw [Nat.zero_add, h.cellAt j (by omega)]
    simp [List.getD, hj]
theorem Gra.nd {w : World} {na : Option Addr} {nc : Nat} {rv : Value} {g : Gf} {avs : Nat → Value} (hG : Gra w (.slice na g.nodes.length nc) rv g avs) {x : Nat} (hx : x < g.nodes.length) : ∃ b o aa ac, na = some ⟨b, o, none⟩ ∧ avs x = .slice aa (g.nodes.getD x nd0).args.length ac ∧ w.cell? ⟨b, o + x * 4, none⟩ = some (.int .i64 (g.nodes.getD x nd0).kind) ∧ w.cell? ⟨b, o + x * 4 + 1, none⟩ = some (.string (g.nodes.getD x nd0).name) ∧ w.cell? ⟨b, o + x * 4 + 2, none⟩ = some (.int .i64 (g.nodes.getD x nd0).num) ∧ w.cell? ⟨b, o + x * 4 + 3, none⟩ = some (.slice aa (g.nodes.getD x nd0).args.length ac) ∧ Ri w (.slice aa (g.nodes.getD x nd0).args.length ac) (g.nodes.getD x nd0).args := by
  obtain ⟨⟨na', nc', e, hc⟩, _⟩ := hG
  injection e with e1 _ _
  subst e1
  obtain ⟨b, o, rfl, h0⟩ := hc x hx
  obtain ⟨p0, p1, p2, p3, p4⟩ := h0
  obtain ⟨aa, ac, e, h5⟩ := p4
  rw [e] at p3
  exact ⟨b, o, aa, ac, rfl, e, p0, p1, p2, p3, aa, ac, rfl, h5⟩
theorem Gra.nd2 {w : World} {nb no : Nat} {nc : Nat} {rv : Value} {g : Gf} {avs : Nat → Value} (hG : Gra w (.slice (some ⟨nb, no, none⟩) g.nodes.length nc) rv g avs) {x : Nat} (hx : x < g.nodes.length) {aa : Option Addr} {ac : Nat} (ha : avs x = .slice aa (g.nodes.getD x nd0).args.length ac) : w.cell? ⟨nb, no + x * 4, none⟩ = some (.int .i64 (g.nodes.getD x nd0).kind) ∧ w.cell? ⟨nb, no + x * 4 + 1, none⟩ = some (.string (g.nodes.getD x nd0).name) ∧ w.cell? ⟨nb, no + x * 4 + 2, none⟩ = some (.int .i64 (g.nodes.getD x nd0).num) ∧ w.cell? ⟨nb, no + x * 4 + 3, none⟩ = some (.slice aa (g.nodes.getD x nd0).args.length ac) ∧ Ri w (.slice aa (g.nodes.getD x nd0).args.length ac) (g.nodes.getD x nd0).args := by
  obtain ⟨b, o, aa', ac', e, e2, p0, p1, p2, p3, p4⟩ := hG.nd hx
  injection e with e
  injection e with e1 e3 _
  subst e1 e3
  rw [ha] at e2
  injection e2 with e4 _ e5
  subst e4 e5
  exact ⟨p0, p1, p2, p3, p4⟩
section
variable {w w' : World} {B hb ab tb : Nat} {m : Int} {av : Value} {l : List Int} {tv : Value} {tq : Nat} {ns : List ByteArray} {trv ptv : Value} {n : Int}
theorem Hp.keep {ks : List Nat} (h : Hp w B hb ab tb m av l tv tq ns trv ptv n) (hm : a_Mod ks w w') (hk : ∀ k ∈ ks, k ≠ hb ∧ k ∉ a_foot ab av ∧ k ∉ n_foot tb tv tq) : Hp w' B hb ab tb m av l tv tq ns trv ptv n :=
  ⟨(hm.block hb (lt_of_block h.blk) (fun hx => (hk _ hx).1 rfl)).trans h.blk, h.base, h.ar.keep hm (fun k hx => (hk k hx).2.1), h.tb.keep (mod_an hm) (fun k hx => (hk k hx).2.2)⟩
/-- All blocks of a heap lie below the memory's end. -/
theorem Hp.ltz (h : Hp w B hb ab tb m av l tv tq ns trv ptv n) : hb < w.heap.size ∧ (∀ k ∈ a_foot ab av, k < w.heap.size) ∧ (∀ k ∈ n_foot tb tv tq, k < w.heap.size) := by
  refine ⟨lt_of_block h.blk, fun k hk => ?_, fun k hk => ?_⟩
  · rcases a_mem_foot.1 hk with rfl | hk
    · exact h.ar.lt
    · exact (h.ar.row hk).2.1
  · rcases n_mem_foot.1 hk with rfl | rfl | hk
    · exact h.tb.lt
    · exact h.tb.mlt
    · exact (h.tb.row hk).2.1
end
theorem Ly.far {W w w' : World} {ab : Nat} {av nv rv : Value} {N : Nat} {PL : List Int} {ks : List Nat} (h : Ly W w ab av nv rv N PL) (hm : a_Mod ks w w') (hk : ∀ k ∈ ks, W.heap.size + 2 ≤ k) : Ly W w' ab av nv rv N PL :=
  ⟨h.m.trans hm (fun k hx => Or.inr (by have := hk k hx; omega)), h.f, (hm.block _ (lt_of_block h.g) (fun hx => by have := hk _ hx; omega)).trans h.g, row_keep h.p (fun k hk2 => hm.block k (h.p.lt k hk2).2 (fun hx => by
    have e : k = W.heap.size + 1 := by simpa [Value.ownBlock] using hk2.symm
    have := hk _ hx
    omega)), h.l⟩
/-- The number of a good node fits. -/
theorem good_int {N : Nat} {n : Nd} (h : goodNd N n = true) (h3 : n.kind = 3) : fitsB 2 n.num = true := by
  unfold goodNd at h
  rw [if_neg (by omega), if_neg (by omega), if_pos h3] at h
  simp at h
  simp [fitsB]
  omega
theorem sz_pos {N : Nat} {n : Nd} (h : goodNd N n = true) (h2 : n.kind ≠ 2) (h3 : n.kind ≠ 3) : 1 ≤ szN n := by
  unfold goodNd at h
  unfold szN
  rw [if_neg h2, if_neg h3] at h
  split
  · omega
  · rename_i h1
    rw [if_neg h1] at h
    split
    · omega
    · rename_i h4
      rw [if_neg h4] at h
      cases h
theorem good_comp {N : Nat} {n : Nd} (h : goodNd N n = true) (h4 : n.kind = 4) : 1 ≤ n.args.length ∧ n.args.length ≤ 8 := by
  refine ⟨?_, (good_args h).2⟩
  unfold goodNd at h
  rw [if_neg (by omega), if_neg (by omega), if_neg (by omega), if_pos h4] at h
  simp only [Bool.and_eq_true, decide_eq_true_eq] at h
  exact h.1.1.2
theorem getD_map1 (f : Int → Int) (a : Int) {L : List Int} {r : Nat} (h : r < L.length) : (a :: L.map f).getD (r + 1) 0 = f (L.getD r 0) := by
  simp [List.getD, h]
/-- A row that grows: what lies elsewhere stays. -/
theorem grown_mod {w w' : World} {o : Obj} {v : Value} (h : (w.alloc o).grownBy w' v.ownBlock) : a_Mod v.ownBlock.toList w w' :=
  ((a_Mod.refl _ w).alloc o).grown h (fun k e => Or.inl (by rw [e]; simp))
end Go.Proofs.YtnoggmeffindbabGreatDoor

/- A region that draws its order, by one property that every operation keeps: as many steps as operations, not as many as orders. -/
namespace Go.Proofs.YtnoggmeffindbabGreatDoor
open Go.RowKit

theorem count_set : ∀ (l : List Bool) (i : Nat), l[i]? = some false → (l.set i true).count false + 1 = l.count false
  | [], _, h => by simp at h
  | b :: l, 0, h => by
    have : b = false := by simpa using h
    subst this
    simp
  | b :: l, i + 1, h => by
    have h1 := count_set l i (by simpa using h)
    cases b <;> simp <;> omega
theorem ready_spec {md : Region.Mode} {ops : Array Oper} {l : Array Bool} {i : Nat} (h : i ∈ Region.ready md ops l) : i < ops.size ∧ l.getD i true = false ∧ ((ops[i]?).map (·.after.all fun e => !Region.binds md e || l.getD e.on false)).getD false = true := by
  unfold Region.ready at h
  obtain ⟨h1, h2⟩ := List.mem_filter.1 h
  rw [Bool.and_eq_true] at h2
  exact ⟨List.mem_range.1 h1, by simpa using h2.1, h2.2⟩
theorem getD_false {l : Array Bool} {i : Nat} (h : l.getD i true = false) : l.toList[i]? = some false := by
  simp only [Array.getD_eq_getD_getElem?] at h
  cases e : l[i]? with
  | none => rw [e] at h; simp at h
  | some b =>
    rw [e] at h
    have : b = false := by simpa using h
    subst this
    simpa using e
theorem wpAny_inv {P : Program} {md : Region.Mode} {ops : Array Oper} {Q : Exit → Act → World → Prop} (I : Array Bool → Act → World → Prop)
    (hstep : ∀ l a w, I l a w → ∀ i, i ∈ Region.ready md ops l → wpOp P ops Q i (I (l.setIfInBounds i true)) a w)
    (hdone : ∀ l a w, I l a w → Region.ready md ops l = [] → Q .normal a w) :
    ∀ (fuel : Nat) (l : Array Bool) (a : Act) (w : World), l.toList.count false ≤ fuel → I l a w → wpAny P md ops Q fuel l a w
  | 0, l, a, w, hf, hI => by
    have h0 : Region.ready md ops l = [] := by
      cases e : Region.ready md ops l with
      | nil => rfl
      | cons i r =>
        have h1 := getD_false (ready_spec (i := i) (by rw [e]; simp)).2.1
        have h2 := count_set _ _ h1
        omega
    exact ⟨h0, hdone l a w hI h0⟩
  | fuel + 1, l, a, w, hf, hI => by
    refine ⟨fun h0 => hdone l a w hI h0, fun i hi => ?_⟩
    have h1 := getD_false (ready_spec hi).2.1
    have h2 := count_set _ _ h1
    refine wpOp_mono (fun a' w' h => wpAny_inv I hstep hdone fuel _ a' w' ?_ h) (hstep l a w hI i hi)
    rw [Array.toList_setIfInBounds]
    omega
end Go.Proofs.YtnoggmeffindbabGreatDoor

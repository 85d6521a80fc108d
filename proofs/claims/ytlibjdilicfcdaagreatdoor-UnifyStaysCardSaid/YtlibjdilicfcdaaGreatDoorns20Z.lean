/- Package cells: the words of a node. -/
import Derived.Deep.RegionHeld3
import Derived.Test.YtlibjdilicfcdaaGreatDoorns19Z
import Derived.Test.YtlibjdilicfcdaaGreatDoorns16Z
namespace Go.Proofs.YtlibjdilicfcdaaGreatDoor
set_option maxRecDepth 100000
open Go.RowKit
theorem fun_fitsC (a k : Int) (h : funB a k = true) : fitsB 4 (a * 16 + k) = true ∧ 0 ≤ a ∧ a < 1024 ∧ 1 ≤ k ∧ k ≤ 8 := by
  simp [funB] at h
  refine ⟨?_, h⟩
  simp [fitsB]; omega
set_option maxHeartbeats 400000 in
theorem fun_okC (a k : Int) (w : World) (h : funB a k = true) :
    Calls Tryz.prog 129 #[.int .i64 a, .int .i64 k] w fun e w' => e = .returned (.tuple #[.int .u64 (wordOf 4 (a * 16 + k)), .nilIface]) ∧ w' = w := by
  obtain ⟨hf, hb⟩ := fun_fitsC a k h
  go_enter Tryz.func129, Tryz.ntmps129
  go_wp2_with (first | (go_at_call 152; refine (isFunctor_any _ _ _).mono ?_; rintro e w' ⟨rfl, rfl⟩) | (go_at_call 125; refine (pack_ok _ _ _ hf).mono ?_; rintro e w' ⟨rfl, rfl⟩))
  go_ret2
  exact ⟨rfl, rfl⟩
def cwF (ns : List ByteArray) (nd : Nd) (pl : Nat) : Int := if nd.kind = 2 then wordOf 1 (num ns nd.name : Int) else if nd.kind = 3 then wordOf 2 nd.num else if nd.kind = 4 then wordOf 3 pl else wordOf 0 pl
theorem num_1024 {ns : List ByteArray} {s : ByteArray} (h : ns.length ≤ 1024) : num ns s < 1024 := by
  by_cases hi : inL ns s = true
  · have := num_lt hi
    omega
  · unfold num
    rw [if_neg hi]
    omega
section
variable {w : World} {B hb ab tb : Nat} {m : Int} {av : Value} {l : List Int} {tv : Value} {tq : Nat} {ns : List ByteArray} {trv ptv : Value} {n : Int}
set_option maxHeartbeats 4000000 in
theorem ccell_any (h : Hp w B hb ab tb m av l tv tq ns trv ptv n) (nd : Nd) (ao : Option Addr) (k c : Nat) (hs : nd.name.size ≤ 281474976710656) (h3 : nd.kind = 3 → fitsB 2 nd.num = true) (pl : Nat) (hp : nd.kind ≠ 2 → nd.kind ≠ 3 → pl < 65536) :
    Calls Tryz.prog 95 #[.pointer (some ⟨hb, 0, none⟩), .agg #[.int .i64 nd.kind, .string nd.name, .int .i64 nd.num, .slice ao k c], .int .i64 (pl : Int)] w fun e w' => e = .returned (.int .u64 (cwF ns nd pl)) ∧ Below w.heap.size w w' := by
  obtain ⟨kd, nm, nu, args⟩ := nd
  dsimp only at hs h3 hp ⊢
  have hR : Hid (cwF ns ⟨kd, nm, nu, args⟩ pl = if kd = 2 then wordOf 1 (num ns nm : Int) else if kd = 3 then wordOf 2 nu else if kd = 4 then wordOf 3 pl else wordOf 0 pl) := rfl
  generalize cwF ns ⟨kd, nm, nu, args⟩ pl = R at *
  have hb0 := hid (below_alloc w (.cells #[.int .i64 kd, .string nm, .int .i64 nu, .slice ao k c] 58))
  by_cases k2 : kd = 2
  · have hR1 : Hid (R = wordOf 1 (num ns nm : Int)) := show _ = _ by rw [hR.out, if_pos k2]
    have h1 := h.below hb0.out
    obtain ⟨⟨c0, c1, _⟩, c5⟩ := h1.cells
    have hnu := hid (fun w1 (hbb : Below (w.alloc (.cells #[.int .i64 kd, .string nm, .int .i64 nu, .slice ao k c] 58)).heap.size (w.alloc (.cells #[.int .i64 kd, .string nm, .int .i64 nu, .slice ao k c] 58)) w1) => number_tab (h1.below hbb).tb nm hs)
    have hpk := hid (fun w1 => packed_ok 1 (num ns nm : Int) w1 (by have := num_1024 (s := nm) h.tb.len; simp [fitsB]; omega))
    subst k2
    generalize num ns nm = N at *
    clear hR h h1 h3
    generalize wordOf 1 (N : Int) = X at *
    go_enter Tryz.func95, Tryz.ntmps95
    go_wp2
    go_region_with (first
      | (go_at_call 128; refine (hnu.out _ ?_).mono ?_; exact (Below.refl _ _).drew; rintro e w3 ⟨rfl, hb3⟩; have Hb3 := hid (Below.next hb0.out (Below.next (Below.refl _ _).drew hb3)); clear hb3)
      | (go_at_call 127; refine (hpk.out _).mono ?_; rintro e w2 ⟨rfl, hw⟩; replace hw := hw.symm; subst hw))
    all_goals go_wp2
    all_goals go_ret
    all_goals exact ⟨ret_int hR1.out.symm, Hb3.out⟩
  · have d2 : (kd == 2) = false := by simpa using k2
    by_cases k3 : kd = 3
    · have hR1 : Hid (R = wordOf 2 nu) := show _ = _ by rw [hR.out, if_neg k2, if_pos k3]
      have hpk := hid (fun w1 => packed_ok 2 nu w1 (h3 k3))
      subst k3
      clear hR h h3 k2
      generalize wordOf 2 nu = X at *
      go_enter Tryz.func95, Tryz.ntmps95
      go_wp2_with (go_at_call 127; refine (hpk.out _).mono ?_; rintro e w2 ⟨rfl, hw⟩; replace hw := hw.symm; subst hw)
      go_ret
      exact ⟨ret_int hR1.out.symm, hb0.out⟩
    · have d3 : (kd == 3) = false := by simpa using k3
      by_cases k4 : kd = 4
      · have hR1 : Hid (R = wordOf 3 pl) := show _ = _ by rw [hR.out, if_neg k2, if_neg k3, if_pos k4]
        have hpk := hid (fun w1 => packed_ok 3 (pl : Int) w1 (fits_str (hp k2 k3)))
        subst k4
        clear hR h h3 k2 k3
        generalize wordOf 3 (pl : Int) = X at *
        go_enter Tryz.func95, Tryz.ntmps95
        go_wp2_with (go_at_call 127; refine (hpk.out _).mono ?_; rintro e w2 ⟨rfl, hw⟩; replace hw := hw.symm; subst hw)
        go_ret
        exact ⟨ret_int hR1.out.symm, hb0.out⟩
      · have hR1 : Hid (R = wordOf 0 pl) := show _ = _ by rw [hR.out, if_neg k2, if_neg k3, if_neg k4]
        have d4 : (kd == 4) = false := by simpa using k4
        have hpk := hid (fun w1 => packed_ok 0 (pl : Int) w1 (by have := hp k2 k3; simp [fitsB]; omega))
        clear hR h h3 k2 k3 k4
        generalize wordOf 0 (pl : Int) = X at *
        go_enter Tryz.func95, Tryz.ntmps95
        go_wp2_with (go_at_call 127; refine (hpk.out _).mono ?_; rintro e w2 ⟨rfl, hw⟩; replace hw := hw.symm; subst hw)
        go_ret
        exact ⟨ret_int hR1.out.symm, hb0.out⟩
theorem nblk4 {w : World} {b : Nat} {u0 u1 u2 u3 : Value} {T : TypeId} (h : w.heap[b]? = some (.cells #[u0, u1, u2, u3] T)) : (w.cell? ⟨b, 0, none⟩ = some u0 ∧ w.cell? ⟨b, 1, none⟩ = some u1 ∧ w.cell? ⟨b, 2, none⟩ = some u2 ∧ w.cell? ⟨b, 3, none⟩ = some u3) ∧ b < w.heap.size := by
  refine ⟨⟨?_, ?_, ?_, ?_⟩, lt_of_block h⟩ <;> simp [World.cell?, h]
def fwF (ns : List ByteArray) (nd : Nd) : Int := wordOf 4 ((num ns nd.name : Int) * 16 + (nd.args.length : Int))
set_option maxHeartbeats 4000000 in
theorem functor_any (h : Hp w B hb ab tb m av l tv tq ns trv ptv n) (nd : Nd) (ao : Option Addr) (c : Nat) (hs : nd.name.size ≤ 281474976710656) (h1 : 1 ≤ nd.args.length) (h8 : nd.args.length ≤ 8) :
    Calls Tryz.prog 96 #[.pointer (some ⟨hb, 0, none⟩), .agg #[.int .i64 nd.kind, .string nd.name, .int .i64 nd.num, .slice ao nd.args.length c]] w fun e w' => e = .returned (.int .u64 (fwF ns nd)) ∧ Below w.heap.size w w' := by
  obtain ⟨kd, nm, nu, args⟩ := nd
  dsimp only at hs h1 h8 ⊢
  have hb0 := hid (below_alloc w (.cells #[.int .i64 kd, .string nm, .int .i64 nu, .slice ao args.length c] 58))
  have hh1 := h.below hb0.out
  obtain ⟨⟨c0, c1, _⟩, c5⟩ := hh1.cells
  have hnu := hid (fun w1 (hbb : Below (w.alloc (.cells #[.int .i64 kd, .string nm, .int .i64 nu, .slice ao args.length c] 58)).heap.size (w.alloc (.cells #[.int .i64 kd, .string nm, .int .i64 nu, .slice ao args.length c] 58)) w1) => number_tab (hh1.below hbb).tb nm hs)
  have hfn := hid (fun w1 => fun_okC (num ns nm : Int) (args.length : Int) w1 (by have := num_1024 (s := nm) h.tb.len; simp [funB]; omega))
  have hR : Hid (fwF ns ⟨kd, nm, nu, args⟩ = wordOf 4 ((num ns nm : Int) * 16 + (args.length : Int))) := rfl
  generalize fwF ns ⟨kd, nm, nu, args⟩ = R at *
  generalize num ns nm = N at *
  generalize wordOf 4 ((N : Int) * 16 + (args.length : Int)) = X at *
  have z0 : w.heap.size < (w.alloc (.cells #[.int .i64 kd, .string nm, .int .i64 nu, .slice ao args.length c] 58)).heap.size := by simp
  clear h hh1
  go_enter Tryz.func96, Tryz.ntmps96
  go_wp2
  have bx := heap_alloc_new w (.cells #[.int .i64 kd, .string nm, .int .i64 nu, .slice ao args.length c] 58)
  obtain ⟨⟨n0, n1, n2, n3⟩, _⟩ := nblk4 bx
  have HX := hid bx
  clear bx n0 n2
  go_region_held3 (fun w' => w'.cell? ⟨hb, 1, none⟩ = some (.pointer (some ⟨tb, 0, none⟩)) ∧ w'.cell? ⟨w.heap.size, 1, none⟩ = some (.string nm) ∧ w'.cell? ⟨w.heap.size, 3, none⟩ = some (.slice ao args.length c)) (first | exact ⟨c1, n1, n3⟩ | go_keep)
    (first
      | (go_at_call 128; refine (hnu.out _ ?_).mono ?_; exact (Below.refl _ _).drew; rintro e w3 ⟨rfl, hb3⟩; have hb4 := Below.next (Below.refl _ _).drew hb3; have Hb3 := hid (Below.next hb0.out hb4); replace c1 := (hb4.cell (p := ⟨hb, 1, none⟩) c5).trans c1; replace n1 := (hb4.cell (p := ⟨w.heap.size, 1, none⟩) z0).trans n1; replace n3 := (hb4.cell (p := ⟨w.heap.size, 3, none⟩) z0).trans n3; clear hb3 hb4)
      | (go_at_call 129; refine (hfn.out _).mono ?_; rintro e w2 ⟨rfl, hw⟩; replace hw := hw.symm; subst hw))
  all_goals go_wp2
  all_goals go_ret
  all_goals exact ⟨ret_int hR.out.symm, Hb3.out⟩
end
end Go.Proofs.YtlibjdilicfcdaaGreatDoor

namespace Go.Proofs.YtlibjdilicfcdaaGreatDoor
set_option maxRecDepth 100000
open Go.RowKit
theorem mod_an {ks : List Nat} {w w' : World} (h : a_Mod ks w w') : n_Mod ks w w' := ⟨h.os, h.tape, h.output, h.size, h.block⟩
section
variable {w w' : World} {B hb ab tb : Nat} {m : Int} {av : Value} {l : List Int} {tv : Value} {tq : Nat} {ns : List ByteArray} {trv ptv : Value} {n : Int}
theorem Hp.apart (h : Hp w B hb ab tb m av l tv tq ns trv ptv n) {k : Nat} (hk : k ∈ a_foot ab av) : k ≠ hb ∧ k ∉ n_foot tb tv tq := by
  have hT : ∃ cs T, w.heap[k]? = some (.cells cs T (0, 0)) ∧ (T = 159 ∨ T = 123) := by
    rcases a_mem_foot.1 hk with rfl | hk
    · exact ⟨_, _, h.ar.blk, Or.inl rfl⟩
    · obtain ⟨cur, hc, _⟩ := own_block_obj h.ar.own hk
      exact ⟨cur, _, hc, Or.inr rfl⟩
  obtain ⟨cs, T, hw, hTT⟩ := hT
  refine ⟨fun e => ?_, fun hf => ?_⟩
  · subst e
    have hq := h.blk
    rw [hw] at hq
    injection hq with hq
    injection hq with _ hq
    rcases hTT with rfl | rfl <;> exact absurd hq (by decide)
  · rcases n_mem_foot.1 hf with e | e | e
    · subst e
      have hq := h.tb.blk
      rw [hw] at hq
      injection hq with hq
      injection hq with _ hq
      rcases hTT with rfl | rfl <;> exact absurd hq (by decide)
    · subst e
      obtain ⟨D, ⟨es, clock, hq, _⟩, _⟩ := h.tb.map
      rw [hw] at hq
      simp at hq
    · obtain ⟨cur, hc, _⟩ := own_block_obj h.tb.own e
      rw [hw] at hc
      injection hc with hc
      injection hc with _ hc
      rcases hTT with rfl | rfl <;> exact absurd hc (by decide)
theorem Hp.words {av' : Value} {l' : List Int} (h : Hp w B hb ab tb m av l tv tq ns trv ptv n) (u : a_Upd 159 w w' B ab m av l' av') : Hp w' B hb ab tb m av' l' tv tq ns trv ptv n :=
  ⟨(u.mod.block hb (lt_of_block h.blk) (fun hk => (h.apart hk).1 rfl)).trans h.blk, h.base, u.ar, h.tb.keep (mod_an u.mod) (fun _ hk => (h.apart hk).2)⟩
end
section
variable {w : World} {B p : Nat} {m : Int} {v : Value} {l : List Int}
set_option maxHeartbeats 1000000 in
theorem blay_ok (h : Ar 159 w B p m v l) (k : Nat) (x : Int) (hk : k < l.length) (x0 : 0 ≤ x) (x1 : x ≤ 18446744073709551615) (hm : mayB x l.length = true) :
    Calls Tryz.prog 94 #[blkV p, .int .i64 (k : Int), .int .u64 x] w fun e w' => e = .returned (.tuple #[]) ∧ a_Upd 159 w w' B p m v (l.set k x) v := by
  have hb := hid (below_alloc w (.cells #[.pointer (some ⟨p, 0, none⟩)] 73))
  have hst := hid (store_ok (h.below hb.out) k x hk x0 x1 hm)
  have hu0 := hid (a_Upd.same h hb.out)
  clear h
  go_enter Tryz.func94, Tryz.ntmps94
  go_wp2_with (go_at_call 126; refine hst.out.mono ?_; rintro e w1 ⟨rfl, hu⟩; have Hu := hid hu; clear hu)
  go_end0
  exact ⟨rfl, hu0.out.trans Hu.out⟩
end
end Go.Proofs.YtlibjdilicfcdaaGreatDoor

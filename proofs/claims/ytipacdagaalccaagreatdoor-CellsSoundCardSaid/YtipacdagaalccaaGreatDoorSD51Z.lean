/- CellsUndo: what lies in memory between its calls. -/
import Derived.Test.YtipacdagaalccaaGreatDoorSD49Z
import Derived.Test.YtipacdagaalccaaGreatDoorSD50Z
import Derived.Test.YtipacdagaalccaaGreatDoorSD40Z
import Derived.Test.YtipacdagaalccaaGreatDoorSD11Z
import Derived.Test.YtipacdagaalccaaGreatDoorSD23Z
namespace Go.Proofs.YtipacdagaalccaaGreatDoor
set_option maxRecDepth 100000
open Go.RowKit
set_option maxHeartbeats 800000 in
theorem hpoints_any {w : World} {B hb : Nat} {m : Int} {F : Nat → Prop} {s : Hst} (h : Hs w B hb m F s) :
    Calls Tryz.prog 10 #[.pointer (some ⟨hb, 0, none⟩)] w fun e w' => e = .returned (.int .i64 (s.pt.length : Int)) ∧ w' = w := by
  obtain ⟨ab, tb, av, tv, tq, trv, ptv, hq, hf⟩ := h
  obtain ⟨⟨c0, c1, c2, c3, c4⟩, c5⟩ := hq.hp.cells
  obtain ⟨po, pc, rfl, _⟩ := own_slq hq.pt
  clear hq hf
  go_enter Tryz.func10, Tryz.ntmps10
  go_wp2_with (go_at_call 24; refine (self_some _ _).mono ?_; rintro e w2 ⟨rfl, hw⟩; replace hw := hw.symm; subst hw)
  go_ret
  exact ⟨rfl, rfl⟩
structure Ua1 (W w : World) (hb : Nat) (s : Hst) (k : Nat) : Prop where
  b : Below W.heap.size W w
  h : Hs w W.heap.size hb 400 (fun q => W.heap.size ≤ q) s
  j : Sj s k
theorem Ua1.next {W w w' : World} {hb : Nat} {s : Hst} {k : Nat} (h : Ua1 W w hb s k) (hb' : Below w.heap.size w w') : Ua1 W w' hb s k := ⟨Below.next h.b hb', h.h.below hb', h.j⟩
theorem Ua1.play {W w : World} {hb : Nat} {s : Hst} {k : Nat} (hE : ErrC W) (h : Ua1 W w hb s k) (hk : k ≤ 1000) {nv rv : Value} {g : Gf} (hG : Gr W nv rv g) (hS : Sized g) (kd a b : Int) :
    Calls Tryz.prog 7 #[.pointer (some ⟨hb, 0, none⟩), opV kd nv rv a b] w fun e w' => e = .returned (.tuple #[]) ∧ ∃ s', Ua1 W w' hb s' (k + 1) := by
  refine (play_any ⟨hE.below h.b, h.h, h.b.size, fun _ hq => hq, h.j, hk, h.b, Nat.le_refl _, hG, hS⟩ kd a b).mono ?_
  rintro e w' ⟨rfl, s', h1, h2, h3⟩
  refine ⟨rfl, s', Below.trans h.b (h3.below (fun _ hq => hq) h.b.size), h2.weak (fun q hq => ?_), h1.sj h.j⟩
  rcases hq with hq | hq
  · exact hq
  · have := h.b.size
    omega
theorem dump_hs {w : World} {B hb : Nat} {m : Int} {F : Nat → Prop} {s : Hst} {k : Nat} (h : Hs w B hb m F s) (hj : Sj s k) (hk : k ≤ 1000) :
    Calls Tryz.prog 8 #[.pointer (some ⟨hb, 0, none⟩)] w fun e w' => (∃ a1 c1 a2 c2 a3 c3 ua uc, e = .returned (.agg #[.slice a1 s.l.length c1, .slice a2 s.tr.length c2, .slice a3 s.pt.length c3, .slice ua s.ns.length uc, .slice none 0 0]) ∧ Dr w.heap.size (.slice a1 s.l.length c1) s.l.length (s.l.map (Value.int .u64)) (.slice a2 s.tr.length c2) s.tr.length (svC s.tr) (.slice a3 s.pt.length c3) s.pt.length (mkC s.pt) w' ∧ w'.ownsRow w.heap.size 9 1 (.slice ua s.ns.length uc) s.ns.length (s.ns.map Value.string)) ∧ Below w.heap.size w w' := by
  obtain ⟨ab, tb, av, tv, tq, trv, ptv, hq, hf⟩ := h
  have h1 := hj.t1
  have h2 := hj.p1
  exact dump_hq hq (by omega) (by omega)
end Go.Proofs.YtipacdagaalccaaGreatDoor

namespace Go.Proofs.YtipacdagaalccaaGreatDoor
set_option maxRecDepth 100000
open Go.RowKit
theorem htop_hs {w : World} {B hb : Nat} {m : Int} {F : Nat → Prop} {s : Hst} (h : Hs w B hb m F s) :
    Calls Tryz.prog 9 #[.pointer (some ⟨hb, 0, none⟩)] w fun e w' => e = .returned (.int .i64 (s.l.length : Int)) ∧ w' = w := by
  obtain ⟨ab, tb, av, tv, tq, trv, ptv, hq, hf⟩ := h
  exact htop_any hq.hp
theorem sd_len {w : World} {B hb : Nat} {m : Int} {F : Nat → Prop} {s : Hst} (h : Hs w B hb m F s) : (s.l.length : Int) ≤ m := by
  obtain ⟨ab, tb, av, tv, tq, trv, ptv, hq, hf⟩ := h
  exact hq.hp.ar.len
theorem dsd_of {w : World} {n : Nat} {ao : Option Addr} {c : Nat} {l : List Int} (h : w.ownsRow n 73 1 (.slice ao l.length c) l.length (l.map (Value.int .u64))) : Dsd w ao l := by
  intro k hk
  obtain ⟨ao', c', e, _, _, h0, ha⟩ := own_slq h
  injection e with e _ _
  subst e
  cases ao with
  | none => have := (h0 rfl).1; omega
  | some a =>
    have e := ha a rfl
    refine ⟨a.block, 0, by rw [← e], ?_⟩
    rw [e] at h
    rw [Nat.zero_add, h.cellAt k (by simpa using hk)]
    simp [hk, List.getD]
theorem Dsd.below {w w' : World} {ao : Option Addr} {l : List Int} (h : Dsd w ao l) (hb : Below w.heap.size w w') : Dsd w' ao l := fun j hj => by
  obtain ⟨b, o, e, hc⟩ := h j hj
  exact ⟨b, o, e, (hb.cell (p := ⟨b, o + j, none⟩) (lt_of_cell hc)).trans hc⟩
structure SdU (W w : World) (hb : Nat) (s : Hst) (k : Nat) (a1 : Option Addr) (db : Nat) (u0 u1 u2 u3 : Value) : Prop where
  u : Ua1 W w hb s k
  d : Dsd w a1 s.l
  c : w.heap[db]? = some (dmpO u0 u1 u2 u3 (.slice none 0 0))
section
variable {W w : World} {hb : Nat} {s : Hst} {k : Nat} {a1 : Option Addr} {db : Nat} {u0 u1 u2 u3 : Value}
theorem SdU.next {w' : World} (h : SdU W w hb s k a1 db u0 u1 u2 u3) (hb' : Below w.heap.size w w') : SdU W w' hb s k a1 db u0 u1 u2 u3 := ⟨h.u.next hb', h.d.below hb', (hb'.block _ (lt_of_block h.c)).trans h.c⟩
theorem SdU.drew (h : SdU W w hb s k a1 db u0 u1 u2 u3) : SdU W w.drew hb s k a1 db u0 u1 u2 u3 := h.next ⟨rfl, rfl, rfl, Nat.le_refl _, fun _ _ => rfl⟩
theorem SdU.cells (h : SdU W w hb s k a1 db u0 u1 u2 u3) : w.cell? ⟨db, 0, none⟩ = some u0 ∧ w.cell? ⟨db, 1, none⟩ = some u1 ∧ w.cell? ⟨db, 2, none⟩ = some u2 ∧ w.cell? ⟨db, 3, none⟩ = some u3 ∧ w.cell? ⟨db, 4, none⟩ = some (.slice none 0 0) := by
  have hx := h.c
  refine ⟨?_, ?_, ?_, ?_, ?_⟩ <;> simp [World.cell?, hx]
theorem sdc_dr (h : w.cell? ⟨db, 0, none⟩ = some u0 ∧ w.cell? ⟨db, 1, none⟩ = some u1 ∧ w.cell? ⟨db, 2, none⟩ = some u2 ∧ w.cell? ⟨db, 3, none⟩ = some u3 ∧ w.cell? ⟨db, 4, none⟩ = some (.slice none 0 0)) : w.drew.cell? ⟨db, 0, none⟩ = some u0 ∧ w.drew.cell? ⟨db, 1, none⟩ = some u1 ∧ w.drew.cell? ⟨db, 2, none⟩ = some u2 ∧ w.drew.cell? ⟨db, 3, none⟩ = some u3 ∧ w.drew.cell? ⟨db, 4, none⟩ = some (.slice none 0 0) := h
theorem SdU.top (h : SdU W w hb s k a1 db u0 u1 u2 u3) :
    Calls Tryz.prog 9 #[.pointer (some ⟨hb, 0, none⟩)] w fun e w' => e = .returned (.int .i64 (s.l.length : Int)) ∧ SdU W w' hb s k a1 db u0 u1 u2 u3 :=
  (htop_hs h.u.h).mono fun _ _ ⟨e1, e2⟩ => ⟨e1, e2 ▸ h⟩
theorem SdU.points (h : SdU W w hb s k a1 db u0 u1 u2 u3) :
    Calls Tryz.prog 10 #[.pointer (some ⟨hb, 0, none⟩)] w fun e w' => e = .returned (.int .i64 (s.pt.length : Int)) ∧ SdU W w' hb s k a1 db u0 u1 u2 u3 :=
  (hpoints_any h.u.h).mono fun _ _ ⟨e1, e2⟩ => ⟨e1, e2 ▸ h⟩
theorem SdU.sound (h : SdU W w hb s k a1 db u0 u1 u2 u3) (wc : Nat) (xa2 : Option Addr) (xn2 xc2 : Nat) (xa3 : Option Addr) (xn3 xc3 : Nat) (xa4 : Option Addr) (xc4 : Nat) (xa5 : Option Addr) (xn5 xc5 : Nat) :
    Calls Tryz.prog 11 #[.agg #[.slice a1 s.l.length wc, .slice xa2 xn2 xc2, .slice xa3 xn3 xc3, .slice xa4 s.ns.length xc4, .slice xa5 xn5 xc5]] w fun e w' => e = .returned (.bool true) ∧ SdU W w' hb s k a1 db u0 u1 u2 u3 := by
  obtain ⟨⟨V, hV⟩, hN⟩ := h.u.j.si.now
  have hl := sd_len h.u.h
  exact (sound_any h.d hV hN (by omega)).mono fun _ _ ⟨e1, e2⟩ => ⟨e1, h.next e2⟩
end
set_option maxHeartbeats 16000000 in
theorem sound_l1 {W : World} (hE : ErrC W) {v0 : Value} {os0 : List Opd} (hR0 : Rop W v0 os0) (h0 : longB os0 = true) :
    Calls Tryz.prog 3 #[v0] W fun e w' => e = .returned (.bool true) ∧ Below W.heap.size W w' := by
  have hfr := hid (freshH_any W)
  have hlo0 := hid (fun w (hb : Below W.heap.size W w) => long_any (hR0.below hb))
  rw [h0] at hlo0
  obtain ⟨ao0, c0, rfl, _⟩ := hR0
  have _u := hE
  clear h0 hE _u
  go_enter Tryz.func3, Tryz.ntmps3
  go_wp2_with (first
    | (go_at_call 4; refine hfr.out.mono ?_; rintro e w1 ⟨⟨hb, rfl, hH⟩, hb1⟩; have HU : Hid (Ua1 W w1 hb hs0 0) := ⟨hb1, hH, sj0⟩; clear hH hb1)
    | (go_at_call 5; refine (clives_any _).mono ?_; rintro e w2 ⟨rfl, hb2⟩; replace HU := hid (HU.out.next hb2); clear hb2)
    | (go_at_call 6; refine (hlo0.out _ HU.out.b).mono ?_; rintro e w3 ⟨rfl, hb3⟩; replace HU := hid (HU.out.next hb3); clear hb3))
  go_ret
  exact ⟨rfl, HU.out.b⟩
set_option maxHeartbeats 16000000 in
theorem sound_go {W : World} (hE : ErrC W) {v0 : Value} {os0 : List Opd} (hR0 : Rop W v0 os0) (h0 : longB os0 = false) :
    Calls Tryz.prog 3 #[v0] W fun e w' => e = .returned (.bool true) ∧ Below W.heap.size W w' := by
  have hfr := hid (freshH_any W)
  have hlo0 := hid (fun w (hb : Below W.heap.size W w) => long_any (hR0.below hb))
  rw [h0] at hlo0
  obtain ⟨l0, _⟩ := longB_no h0
  have HE := hid hE
  obtain ⟨ao0, c0, rfl, hc0⟩ := hR0
  have Hc0 := hid hc0
  clear h0 hE hc0
  go_enter Tryz.func3, Tryz.ntmps3
  go_wp2_with (first
    | (go_at_call 4; refine hfr.out.mono ?_; rintro e w1 ⟨⟨hb, rfl, hH⟩, hb1⟩; have HU : Hid (Ua1 W w1 hb hs0 0) := ⟨hb1, hH, sj0⟩; clear hH hb1)
    | (go_at_call 5; refine (clives_any _).mono ?_; rintro e w2 ⟨rfl, hb2⟩; replace HU := hid (HU.out.next hb2); clear hb2)
    | (go_at_call 6; refine (hlo0.out _ HU.out.b).mono ?_; rintro e w3 ⟨rfl, hb3⟩; replace HU := hid (HU.out.next hb3); clear hb3))
  clear hfr hlo0
  go_loopw [18] (fun i wr => ∃ (k : Nat) (s : Hst), k ≤ os0.length ∧ i = .int .i64 (k : Int) ∧ Hid (Ua1 W wr hb s k)) (fun i _ => os0.length - (intOf i).toNat)
  case atStart => exact ⟨0, hs0, Nat.zero_le _, rfl, HU⟩
  case round =>
    obtain ⟨k, s0, hk, rfl, hS⟩ := hrel
    clear HU
    by_cases hlt : k < os0.length
    · have hki : (k : Int) < (os0.length : Int) := by omega
      obtain ⟨b, o, nv, rv, hao, hat⟩ := Hc0.out k hlt
      subst hao
      obtain ⟨x0, x1, x2, x3, x4, _, _⟩ := hat.below hS.out.b
      have hG := hat.2.2.2.2.2.1
      have hZ := hat.2.2.2.2.2.2
      clear hat
      generalize os0.getD k od0 = od at *
      obtain ⟨kd, g, a, bb⟩ := od
      dsimp only at *
      have hpl := hid (fun w1 (hb1 : Below wr.heap.size wr w1) => (hS.out.next hb1).play HE.out (by omega) hG hZ kd a bb)
      obtain ⟨na, nc, rfl, _⟩ := hG.1
      obtain ⟨ra, rc, rfl, _⟩ := hG.2
      have hb0 := hid (below_alloc wr (.cells #[.int .i64 kd, .slice na g.nodes.length nc, .slice ra g.roots.length rc, .int .i64 a, .int .i64 bb] 32))
      clear hG hZ hS
      go_wp2_with (first
        | (go_at_call 7; refine (hpl.out _ hb0.out).mono ?_; rintro e w2 ⟨rfl, s, hU⟩; have HU2 := hid hU; clear hU)
        | (go_at_call 8; refine (dump_hs HU2.out.h HU2.out.j (by omega)).mono ?_; rintro e w7 ⟨⟨a1, e1, a2, e2, a3, e3, ua, uc, rfl, hr, _⟩, hb7⟩; have hbx := below_alloc w7 (dmpO (.slice a1 s.l.length e1) (.slice a2 s.tr.length e2) (.slice a3 s.pt.length e3) (.slice ua s.ns.length uc) (.slice none 0 0)); have HU7 : Hid (SdU W (w7.alloc (dmpO (.slice a1 s.l.length e1) (.slice a2 s.tr.length e2) (.slice a3 s.pt.length e3) (.slice ua s.ns.length uc) (.slice none 0 0))) hb s (k + 1) a1 w7.heap.size (.slice a1 s.l.length e1) (.slice a2 s.tr.length e2) (.slice a3 s.pt.length e3) (.slice ua s.ns.length uc)) := ⟨(HU2.out.next hb7).next hbx, dsd_of (row_below hr.r1 hbx), heap_alloc_new w7 (dmpO (.slice a1 s.l.length e1) (.slice a2 s.tr.length e2) (.slice a3 s.pt.length e3) (.slice ua s.ns.length uc) (.slice none 0 0))⟩; clear hr hb7 hbx HU2))
      clear hpl hb0
      generalize w7.alloc (dmpO (.slice a1 s.l.length e1) (.slice a2 s.tr.length e2) (.slice a3 s.pt.length e3) (.slice ua s.ns.length uc) (.slice none 0 0)) = w8 at *
      obtain ⟨k0, k1, k2, k3, k4⟩ := HU7.out.cells
      have htp := hid (fun (w : World) (h : SdU W w hb s (k + 1) a1 w7.heap.size (.slice a1 s.l.length e1) (.slice a2 s.tr.length e2) (.slice a3 s.pt.length e3) (.slice ua s.ns.length uc)) => h.top)
      have hpn := hid (fun (w : World) (h : SdU W w hb s (k + 1) a1 w7.heap.size (.slice a1 s.l.length e1) (.slice a2 s.tr.length e2) (.slice a3 s.pt.length e3) (.slice ua s.ns.length uc)) => h.points)
      have hsn := hid (fun (w : World) (h : SdU W w hb s (k + 1) a1 w7.heap.size (.slice a1 s.l.length e1) (.slice a2 s.tr.length e2) (.slice a3 s.pt.length e3) (.slice ua s.ns.length uc)) => h.sound e1 a2 s.tr.length e2 a3 s.pt.length e3 ua uc none 0 0)
      generalize w7.heap.size = db at *
      go_region_held3 (fun w' => w'.cell? ⟨db, 0, none⟩ = some (.slice a1 s.l.length e1) ∧ w'.cell? ⟨db, 1, none⟩ = some (.slice a2 s.tr.length e2) ∧ w'.cell? ⟨db, 2, none⟩ = some (.slice a3 s.pt.length e3) ∧ w'.cell? ⟨db, 3, none⟩ = some (.slice ua s.ns.length uc) ∧ w'.cell? ⟨db, 4, none⟩ = some (.slice none 0 0)) (first | (with_reducible exact ⟨k0, k1, k2, k3, k4⟩) | (with_reducible exact sdc_dr ⟨k0, k1, k2, k3, k4⟩))
        (first
          | (go_at_call 9; refine (htp.out _ (by first | (with_reducible exact HU7.out) | (with_reducible exact HU7.out.drew))).mono ?_; rintro e w9 ⟨rfl, hF⟩; replace HU7 := hid hF; clear hF k0 k1 k2 k3 k4; obtain ⟨k0, k1, k2, k3, k4⟩ := HU7.out.cells)
          | (go_at_call 10; refine (hpn.out _ (by first | (with_reducible exact HU7.out) | (with_reducible exact HU7.out.drew))).mono ?_; rintro e w9 ⟨rfl, hF⟩; replace HU7 := hid hF; clear hF k0 k1 k2 k3 k4; obtain ⟨k0, k1, k2, k3, k4⟩ := HU7.out.cells)
          | (go_at_call 11; refine (hsn.out _ (by first | (with_reducible exact HU7.out) | (with_reducible exact HU7.out.drew))).mono ?_; rintro e w9 ⟨rfl, hF⟩; replace HU7 := hid hF; clear hF k0 k1 k2 k3 k4; obtain ⟨k0, k1, k2, k3, k4⟩ := HU7.out.cells))
      clear htp hpn hsn
      go_wp2
      go_roundw
      case rel => exact ⟨k + 1, s, by omega, congrArg (Value.int .i64) (by omega), hid HU7.out.u⟩
      case measure => simp [intOf]; omega
    · obtain rfl : k = os0.length := by omega
      clear Hc0
      go_wp2
      go_ret
      exact ⟨rfl, hS.out.b⟩
theorem cellsSound_walk {W : World} (hE : ErrC W) {v0 : Value} {os0 : List Opd} (hR0 : Rop W v0 os0) :
    Calls Tryz.prog 3 #[v0] W fun e w' => e = .returned (.bool true) ∧ Below W.heap.size W w' := by
  cases h0 : longB os0 with
  | true => exact sound_l1 hE hR0 h0
  | false => exact sound_go hE hR0 h0
end Go.Proofs.YtipacdagaalccaaGreatDoor

/- UnifyNone of layer 12 holds at every two numbers: Unify and All of a nil heap answer as the document says. -/
import Derived.Deep.RegionHeld3
import Derived.Test.YtlibjdilicfcdaaGreatDoornu52Z
import Derived.Test.YtlibjdilicfcdaaGreatDoornu46Z
import Derived.Test.YtlibjdilicfcdaaGreatDoornu38Z
import Derived.Test.YtlibjdilicfcdaaGreatDoornu05Z
import Derived.Test.YtlibjdilicfcdaaGreatDoornu33Z
import Derived.Test.YtlibjdilicfcdaaGreatDoornu37Z
namespace Go.Proofs.YtlibjdilicfcdaaGreatDoor
set_option maxRecDepth 100000
open Go.RowKit
theorem nosol_var {ns : List Nd} {x y : Nat} (hx : (ndN ns x).kind = 1) (h : NoSol ns [(x, y)]) : False := by
  refine h (fun u v => u = v ∨ ((u = x ∨ u = y) ∧ (v = x ∨ v = y))) ⟨⟨fun _ => Or.inl rfl, fun u v h => ?_, fun u v z h k => ?_⟩, fun u v _ _ h hu hv => ?_⟩ (fun p hp => ?_)
  · rcases h with h | ⟨h, k⟩
    · exact Or.inl h.symm
    · exact Or.inr ⟨k, h⟩
  · rcases h with rfl | ⟨h1, h2⟩
    · exact k
    · rcases k with rfl | ⟨k1, k2⟩
      · exact Or.inr ⟨h1, h2⟩
      · exact Or.inr ⟨h1, k2⟩
  · have e : u = v := by
      rcases h with h | ⟨h1, h2⟩
      · exact h
      · have n1 : u ≠ x := fun e => hu (by rw [e]; exact hx)
        have n2 : v ≠ x := fun e => hv (by rw [e]; exact hx)
        rw [h1.resolve_left n1, h2.resolve_left n2]
    subst e
    exact ⟨labS.refl _, fun _ _ => Or.inl rfl⟩
  · have e : p = (x, y) := by simpa using hp
    subst e
    exact Or.inr ⟨Or.inl rfl, Or.inr rfl⟩
theorem UnR.lab {s s' : Hst} {x y n : Nat} {E : Nat → Nat} (h : UnR s [(x, y)] E n s') (hx : x < (utN s.l s.ns).length) (hy : y < (utN s.l s.ns).length) (kx : (ndN (utN s.l s.ns) x).kind ≠ 1) (ky : (ndN (utN s.l s.ns) y).kind ≠ 1) : labS (ndN (utN s.l s.ns) x) (ndN (utN s.l s.ns) y) :=
  (h.un.done.1.lab x y hx hy (h.un.done.2.1 (x, y) (by simp)) kx ky).1
abbrev aSC : ByteArray := ⟨#[97]⟩
abbrev bSC : ByteArray := ⟨#[98]⟩
def gV : Gf := ⟨[⟨1, ⟨#[]⟩, 0, []⟩, ⟨4, fSC, 0, [0]⟩, ⟨2, aSC, 0, []⟩, ⟨2, bSC, 0, []⟩], []⟩
theorem gV_all : gAll gV = ⟨gV.nodes, [0, 1, 2, 3]⟩ := rfl
theorem gV_met : metF (gAll gV) = [0, 1, 2, 3] := by
  rw [gV_all]
  simp [metF, gV, meetF, Gf.argsOf]
abbrev nV : List ByteArray := [fSC, aSC, bSC]
abbrev lV : List Int := [32, 43, 9, 17, 32, 12, 32]
theorem gV_ns : nsP [] (gAll gV) = nV := by
  unfold nsP
  rw [gV_met]
  decide
theorem gV_want : wantJ (gAll gV) (metF (gAll gV)) (metF (gAll gV)).length = 7 := by
  rw [gV_met]
  decide
theorem gV_w : wdP [] [] (gAll gV) = lV := by
  unfold wdP
  rw [gV_ns, gV_met]
  decide
theorem gV_good : Good (gAll gV) := by
  have hf : goodS fSC = true := by decide
  have ha : goodS aSC = true := by decide
  have hb : goodS bSC = true := by decide
  rw [gV_all]
  refine ⟨by decide, by decide, fun n hn => ?_, fun x hx => ?_⟩
  · have h : n = ⟨1, ⟨#[]⟩, 0, []⟩ ∨ n = ⟨4, fSC, 0, [0]⟩ ∨ n = ⟨2, aSC, 0, []⟩ ∨ n = ⟨2, bSC, 0, []⟩ := by simpa [gV] using hn
    rcases h with rfl | rfl | rfl | rfl
    · simp [goodNd, ByteArray.toList_eq]
    · simp [goodNd, hf, strange, gV]
    · simp [goodNd, ha]
    · simp [goodNd, hb]
  · have h : x = 0 ∨ x = 1 ∨ x = 2 ∨ x = 3 := by simpa using hx
    rcases h with rfl | rfl | rfl | rfl <;> decide
theorem gV_hs : putHs hs0 (gAll gV) = ⟨lV, nV, [], [], 0⟩ := by
  unfold putHs hs0
  rw [gV_w, gV_ns]
theorem gV_put : PutC hs0 (gAll gV) 50 := by
  refine ⟨chk_of_good gV_good, ?_, ?_⟩
  · show (nsP [] (gAll gV)).length ≤ 1024
    rw [gV_ns]
    decide
  · show (([] : List Int).length + wantJ (gAll gV) (metF (gAll gV)) (metF (gAll gV)).length : Int) ≤ 50
    rw [gV_want]
    decide
theorem trV0 : trmW lV 0 = 32 := by decide +kernel
theorem trV2 : trmW lV 2 = 9 := by decide +kernel
theorem trV3 : trmW lV 3 = 17 := by decide +kernel
theorem cbV : cellB lV 0 = true ∧ cellB lV 1 = true ∧ cellB lV 2 = true ∧ cellB lV 3 = true := by decide +kernel
theorem noV {s' : Hst} {n : Nat} {E : Nat → Nat} (h : UnR ⟨lV, nV, [], [], 0⟩ [(utI lV 2, utI lV 3)] E n s') : False := by
  have l2 : utI lV 2 < (utN lV nV).length := by rw [utN_len]; exact utI_lt (by decide)
  have l3 : utI lV 3 < (utN lV nV).length := by rw [utN_len]; exact utI_lt (by decide)
  have k2 := utN_of (l := lV) (nm := nV) (k := 2) (by decide)
  have k3 := utN_of (l := lV) (nm := nV) (k := 3) (by decide)
  rw [trV2] at k2
  rw [trV3] at k3
  have h9 := (h.lab l2 l3 (by rw [k2]; show tdK 9 ≠ 1; decide) (by rw [k3]; show tdK 17 ≠ 1; decide)).2.1
  rw [k2, k3] at h9
  have h8 : tdS lV nV 9 = tdS lV nV 17 := h9
  exact absurd h8 (by decide +kernel)
theorem yesV (h : NoSol (utN lV nV) [(utI lV 0, utI lV 1)]) : False := by
  refine nosol_var ?_ h
  rw [utN_of (l := lV) (nm := nV) (k := 0) (by decide), trV0]
  show tdK 32 = 1
  decide
end Go.Proofs.YtlibjdilicfcdaaGreatDoor

namespace Go.Proofs.YtlibjdilicfcdaaGreatDoor
set_option maxRecDepth 100000
open Go.RowKit
abbrev oVa : Obj := .cells #[.int .i64 0] 3
abbrev oVb (q : Nat) : Obj := .cells #[.int .i64 1, .string ⟨#[]⟩, .int .i64 0, .slice none 0 0, .int .i64 4, .string fSC, .int .i64 0, .slice (some ⟨q, 0, none⟩) 1 1, .int .i64 2, .string aSC, .int .i64 0, .slice none 0 0, .int .i64 2, .string bSC, .int .i64 0, .slice none 0 0] 58
theorem gV_gr {w : World} {a b : Nat} (fa : w.heap[a]? = some oVa) (fb : w.heap[b]? = some (oVb a)) : Gr w (.slice (some ⟨b, 0, none⟩) 4 4) (.slice none 0 0) gV := by
  refine ⟨⟨some ⟨b, 0, none⟩, 4, rfl, fun j hj => ?_⟩, Ri.nil _⟩
  have hj2 : j = 0 ∨ j = 1 ∨ j = 2 ∨ j = 3 := by
    have : j < 4 := hj
    omega
  rcases hj2 with rfl | rfl | rfl | rfl
  · exact ⟨b, 0, .slice none 0 0, rfl, by simp [World.cell?, fb, gV], by simp [World.cell?, fb, gV], by simp [World.cell?, fb, gV], by simp [World.cell?, fb], Ri.nil _⟩
  · exact ⟨b, 0, .slice (some ⟨a, 0, none⟩) 1 1, rfl, by simp [World.cell?, fb, gV], by simp [World.cell?, fb, gV], by simp [World.cell?, fb, gV], by simp [World.cell?, fb], ri_lit1 fa⟩
  · exact ⟨b, 0, .slice none 0 0, rfl, by simp [World.cell?, fb, gV], by simp [World.cell?, fb, gV], by simp [World.cell?, fb, gV], by simp [World.cell?, fb], Ri.nil _⟩
  · exact ⟨b, 0, .slice none 0 0, rfl, by simp [World.cell?, fb, gV], by simp [World.cell?, fb, gV], by simp [World.cell?, fb, gV], by simp [World.cell?, fb], Ri.nil _⟩
theorem gV_sized : Sized gV := by
  intro n hn
  have h : n = ⟨1, ⟨#[]⟩, 0, []⟩ ∨ n = ⟨4, fSC, 0, [0]⟩ ∨ n = ⟨2, aSC, 0, []⟩ ∨ n = ⟨2, bSC, 0, []⟩ := by simpa [gV] using hn
  rcases h with rfl | rfl | rfl | rfl <;> decide
abbrev Skv (g i j : Nat) (x y : Int) (w : World) : Prop := w.cell? ⟨g, i, none⟩ = some (.int .i64 x) ∧ w.cell? ⟨g, j, none⟩ = some (.int .i64 y)
theorem skv_dr {g i j : Nat} {x y : Int} {w : World} (h : Skv g i j x y w) : Skv g i j x y w.drew := h
theorem few0 : Few ⟨lV, nV, [], [], 0⟩ := ⟨by decide, by decide, by decide, by decide⟩
theorem ndV : nV.Nodup := by decide
set_option maxHeartbeats 8000000 in
theorem ulives_any (w : World) :
    Calls Tryz.prog 7 #[] w fun e w' => e = .returned (.bool true) ∧ Below w.heap.size w w' := by
  have hb2 : Below w.heap.size w ((w.alloc oVa).alloc (oVb w.heap.size)) := (below_alloc w _).alloc (by simp) _
  have hG : Gr ((w.alloc oVa).alloc (oVb w.heap.size)) (.slice (some ⟨w.heap.size + 1, 0, none⟩) 4 4) (.slice none 0 0) gV := by
    refine gV_gr (a := w.heap.size) ((Below.heap_alloc _ _ _ (by simp)).trans (heap_alloc_new w _)) ?_
    have h9 := heap_alloc_new (w.alloc oVa) (oVb w.heap.size)
    rw [show (w.alloc oVa).heap.size = w.heap.size + 1 by simp] at h9
    exact h9
  have hld := hid (laid_ok hG gV_sized (by decide) 50 (by decide) (by decide) gV_put)
  rw [gV_hs, show gV.nodes.length = 4 from rfl] at hld
  have Hb2 := hid hb2
  clear hG hb2
  go_enter Tryz.func7, Tryz.ntmps7
  go_wp2_with (go_at_call 10; refine hld.out.mono ?_; rintro e w1 ⟨⟨hb, F, ao, c, rfl, ho, hH, hF, hj, _⟩, hb1⟩; have HO := hid ho; have HH := hid hH; have HF := hid hF; have HJ := hid hj; have Hb1 := hid (Below.next Hb2.out hb1); have hBz := hid hb1.size; clear ho hH hF hj hb1)
  obtain ⟨g, rfl⟩ : ∃ g, ao = some ⟨g, 0, none⟩ := by
    rcases HO.out.2 with ⟨h1, h2⟩ | ⟨g, cap, cur, h1, _⟩
    · exact absurd h2 (by decide)
    · injection h1 with h1 _ _
      exact ⟨g, h1⟩
  have zg := (HO.out.lt g rfl).2
  have e0 : w1.cell? ⟨g, 0, none⟩ = some (.int .i64 0) := (HO.out.cellAt 0 (by decide)).trans rfl
  have e1 : w1.cell? ⟨g, 1, none⟩ = some (.int .i64 1) := (HO.out.cellAt 1 (by decide)).trans rfl
  have e2 : w1.cell? ⟨g, 2, none⟩ = some (.int .i64 2) := (HO.out.cellAt 2 (by decide)).trans rfl
  have e3 : w1.cell? ⟨g, 3, none⟩ = some (.int .i64 3) := (HO.out.cellAt 3 (by decide)).trans rfl
  have hc4 : 4 ≤ c := by
    obtain ⟨ao9, c9, e9, h9, _⟩ := own_slq HO.out
    injection e9 with _ _ e9
    omega
  have hu1 : Hid (∀ wx, Below w1.heap.size w1 wx → Calls Tryz.prog 12 #[.pointer (some ⟨hb, 0, none⟩), .int .i64 2, .int .i64 3] wx fun e w' => e = .returned (.tuple #[.bool false, .nilIface]) ∧ Below wx.heap.size wx w') := fun wx hbx => (unify_any (HH.out.below hbx) HJ.out.si.now (by decide) ndV few0 (Nat.le_trans hBz.out hbx.size) cbV.2.2.1 cbV.2.2.2).mono fun e w' ⟨ok, h1, hy, hn⟩ => by
    cases ok with
    | true =>
      obtain ⟨E, n, s', h2, _⟩ := hy rfl
      exact (noV h2).elim
    | false => exact ⟨h1, (hn rfl).2⟩
  have hu2 : Hid (∀ wx, Below w1.heap.size w1 wx → Calls Tryz.prog 12 #[.pointer (some ⟨hb, 0, none⟩), .int .i64 0, .int .i64 1] wx fun e w' => e = .returned (.tuple #[.bool true, .nilIface]) ∧ Below w.heap.size wx w' ∧ ∀ i, w'.cell? ⟨g, i, none⟩ = wx.cell? ⟨g, i, none⟩) := fun wx hbx => (unify_any (HH.out.below hbx) HJ.out.si.now (by decide) ndV few0 (Nat.le_trans hBz.out hbx.size) cbV.1 cbV.2.1).mono fun e w' ⟨ok, h1, hy, hn⟩ => by
    cases ok with
    | true =>
      obtain ⟨E, n, s', _, _, hm⟩ := hy rfl
      exact ⟨h1, hm.below (fun k hk => by have := (HF.out k hk).1; simp at this; omega) (by have := Hb1.out.size; have := hbx.size; omega), fun i => by
        have h9 := hm.block g (Nat.lt_of_lt_of_le zg hbx.size) (fun h8 => (HF.out g h8).2 rfl)
        simp [World.cell?, h9]⟩
    | false => exact (yesV (hn rfl).1).elim
  clear hld HO HH HF HJ hBz
  go_cut [3, 4] from 20 to 30 (fun s3 s4 wc => s3 = .bool false ∧ s4 = .nilIface ∧ Hid (Below w1.heap.size w1 wc))
  case first =>
    go_region_held3 (fun w' => Skv g 2 3 2 3 w') (first | (with_reducible exact ⟨e2, e3⟩) | (with_reducible exact skv_dr ⟨e2, e3⟩))
      (first | (go_at_call 12; refine (hu1.out _ (by first | (with_reducible exact Below.refl _ _) | (with_reducible exact (Below.refl _ _).drew) | (with_reducible exact below_drewN (Below.refl _ _) _))).mono ?_; rintro e w2 ⟨rfl, hb2⟩; have Hb3 := hid hb2; clear hb2; have e2 := (Hb3.out.cell (p := ⟨g, 2, none⟩) zg).trans e2; have e3 := (Hb3.out.cell (p := ⟨g, 3, none⟩) zg).trans e3))
    all_goals go_wp2_with fail
    all_goals go_meet
    all_goals exact ⟨rfl, rfl, hid (Below.next (Below.refl _ w1).drew Hb3.out)⟩
  case rest =>
    obtain ⟨rfl, rfl, hW⟩ := hcut
    have d0 := (hW.out.cell (p := ⟨g, 0, none⟩) zg).trans e0
    have d1 := (hW.out.cell (p := ⟨g, 1, none⟩) zg).trans e1
    have zw : g < wc.heap.size := Nat.lt_of_lt_of_le zg hW.out.size
    have hx1 := hid (hu2.out wc.drew hW.out.drew)
    clear e0 e1 e2 e3 hu1 hu2 zg
    go_wp2_with fail
    go_cut [5, 6] from 31 to 41 (fun s5 s6 wx => s5 = .bool true ∧ s6 = .nilIface ∧ Hid (Below w.heap.size wc.drew wx))
    case first =>
      go_region_held3 (fun w' => Skv g 0 1 0 1 w') (first | (with_reducible exact ⟨d0, d1⟩) | (with_reducible exact skv_dr ⟨d0, d1⟩))
        (first | (go_at_call 12; refine hx1.out.mono ?_; rintro e w2 ⟨rfl, hb2, hcl⟩; have Hb3 := hid hb2; have f0 := (hcl 0).trans d0; have f1 := (hcl 1).trans d1; clear d0 d1; have d0 := f0; have d1 := f1; clear hb2 hcl f0 f1))
      all_goals go_wp2_with fail
      all_goals go_meet
      all_goals exact ⟨rfl, rfl, Hb3⟩
    case rest =>
      obtain ⟨rfl, rfl, hX⟩ := hcut
      have hfin := hid (Below.trans (Below.trans Hb1.out (hW.out.drew.mono (Nat.le_trans (by have := Hb1.out.size; omega) (Nat.le_refl _)))) hX.out)
      go_wp2
      go_ret
      exact ⟨rfl, hfin.out⟩
end Go.Proofs.YtlibjdilicfcdaaGreatDoor
namespace Go.Proofs.YtlibjdilicfcdaaGreatDoor
set_option maxRecDepth 100000
open Go.RowKit
theorem unis_nil (w : World) (q : Nat) (h : Er w (fltP q) [(1, -1)]) : Calls Tryz.prog 19 #[fltP q, .agg #[.int .i64 1, .int .i64 (-1), .string ⟨#[]⟩, .slice none 0 0]] w fun e w' => e = .returned (.bool true) ∧ Below w.heap.size w w' := is_any h ⟨rfl, rfl, by decide, rfl⟩
abbrev fNil : Obj := .cells #[.int .i64 1, .int .i64 (-1), .string ⟨#[]⟩, .slice none 0 0] 53
set_option maxHeartbeats 4000000 in
theorem unifyNone_walk {W : World} (_ : ErrC W) (a b : Int) :
    Calls Tryz.prog 6 #[.int .i64 a, .int .i64 b] W fun e w' => e = .returned (.bool true) ∧ Below W.heap.size W w' := by
  have t1 : True := trivial
  go_enter Tryz.func6, Tryz.ntmps6
  go_wp2_with (first
    | (go_at_call 7; refine (ulives_any _).mono ?_; rintro e w1 ⟨rfl, hb1⟩; have Hb1 := hid (Below.next hb1 (below_alloc w1 fNil)); have HX1 := hid (heap_alloc_new w1 fNil); clear hb1)
    | (go_at_call 12; refine (uunify_nilE _ _ _).mono ?_; rintro e w2 ⟨q2, rfl, hE2, hb2⟩; have HE2 := hid hE2; have Hb2 := hid (Below.next Hb1.out hb2); have HX2 := hid ((hb2.block _ (lt_of_block HX1.out)).trans HX1.out); clear hE2 hb2)
    | (go_at_call 18; refine (uall_nilE _ _).mono ?_; rintro e w3 ⟨q3, rfl, hE3, hb3⟩; have hb4 := Below.next (below_alloc w2 (.cells #[.int .i64 a, .int .i64 b] 42)) hb3; have HE3 := hid hE3; have HF2 := hid (HE2.out.below hb4); have Hb3 := hid (Below.next Hb2.out hb4); have HX3 := hid ((hb4.block _ (lt_of_block HX2.out)).trans HX2.out); clear hE3 hb3 hb4 HE2; obtain ⟨⟨d0, d1, d2, d3⟩, _⟩ := blk4 HX3.out)
    | (go_at_call 19; have _m := t1; clear t1 _m; refine (unis_nil _ _ HF2.out).mono ?_; rintro e w4 ⟨rfl, hb4⟩; have HE4 := hid (HE3.out.below hb4); have Hb4 := hid (Below.next Hb3.out hb4); have HX4 := hid ((hb4.block _ (lt_of_block HX3.out)).trans HX3.out); clear hb4 d0 d1 d2 d3; obtain ⟨⟨d0, d1, d2, d3⟩, _⟩ := blk4 HX4.out)
    | (go_at_call 19; refine (unis_nil _ _ HE4.out).mono ?_; rintro e w5 ⟨rfl, hb5⟩; have Hb5 := hid (Below.next Hb4.out hb5); clear hb5))
  go_ret
  exact ⟨rfl, Hb5.out⟩
end Go.Proofs.YtlibjdilicfcdaaGreatDoor
namespace Go.Proofs.YtlibjdilicfcdaaGreatDoor
set_option maxRecDepth 100000
open Go.ChangeShapes Go.WideShapes Go.ChangeAt Go.RowKit
theorem unifyNone_lifted (os : Os) (started : os.Started) (H : Type) (enc : TypeId × Value → H) :
    ReturnsInHanded {} Tryz.checked os 6 .any (fun w args => (Rows.unifyNoneSpec.pre enc Tryz.prog Tryz.f6 [] false w args ∧ laidMetH Tryz.prog Rows.unifyNoneRow.laid w) ∧ sizedMet enc Tryz.prog Tryz.f6 (OpenSpec.ofChange Rows.unifyNoneSpec) false w args)
      (Rows.unifyNoneSpec.post enc Tryz.prog Tryz.f6 false true false false) := by
  refine returnsInHanded_of_change_and (C := Tryz.checked) (X := fun w _ => laidMetH Tryz.prog Rows.unifyNoneRow.laid w) (fun _ _ _ hh h => h.of_heap hh) own started (by kernel_rfl) Tryz.func6
    (ChangeSpec.witness_shaped (enc := enc) (C := Tryz.checked) (os := os) (X := fun w _ => laidMetH Tryz.prog Rows.unifyNoneRow.laid w) false (World.doorLaid Tryz.prog 16 os) #[.int .i64 0, .int .i64 0] 8 rfl (World.shaped_of_RefB (by kernel_rfl) (by kernel_rfl)) (by kernel_rfl) (by kernel_rfl) (by kernel_rfl) (door_met os _)) ?_
  intro W base args ds gs before hval0 hW _ _ hL _
  have hval : ∀ (j : Nat) t v, Tryz.f6.params[j]? = some t → args[j]? = some v → Value.okWide Tryz.prog W .any base t v := hval0
  have hW' := hW
  obtain ⟨p, q, hA0, hV, rfl, hfz, hnd⟩ := hW
  have hA : DataW.TrodAll enc Tryz.prog W 0 (fun _ => true) true Tryz.f6.params.toList args.toList ds p := hA0
  rw [Tryz.params6] at hA hval
  obtain ⟨v0, vs0, d0, ds0, p0, q0, hargs, rfl, rfl, h0, r0⟩ := trodAll_cons hA
  obtain ⟨v1, vs1, d1, ds1, p1, q1, rfl, rfl, rfl, h1, r1⟩ := trodAll_cons r0
  obtain ⟨rfl, rfl, rfl⟩ := trodAll_nil r1
  obtain rfl : args = #[v0, v1] := by cases args; simp_all
  obtain ⟨rfl, rfl⟩ := trodVars_none hV
  clear hA0 hval0
  obtain ⟨a0, rfl, rfl, rfl, w0⟩ := open_int Tryz.underlying3 (hval 0 3 v0 rfl rfl) h0
  obtain ⟨a1, rfl, rfl, rfl, w1⟩ := open_int Tryz.underlying3 (hval 1 3 v1 rfl rfl) h1
  simp only [List.append_nil] at hW'
  refine (unifyNone_walk (ready_of_laid hL) a0 a1).mono fun e W' ⟨he, hg⟩ => ?_
  subst he
  refine ⟨_, rfl, _, _, _, [], [] ++ ([] ++ ([])), [], hW', ?_, ?_, rfl, hg.frame _, fun h => by cases h⟩
  · exact trodAll_cons_mk (shut_bool Tryz.underlying4 _) trodAll_mk0
  · exact (trodAll_cons_mk (shut_int Tryz.underlying3 w0) (trodAll_cons_mk (shut_int Tryz.underlying3 w1) trodAll_mk0))
theorem unifyNone_said : Rows.UnifyNoneSaid :=
  OpenClaim.holds_of_wide 6 Tryz.f6 rfl rfl rfl rfl rfl rfl rfl ⟨rfl, rfl, rfl, rfl, rfl⟩ rfl rfl rfl rfl rfl (by kernel_rfl) Tryz.func6 (by kernel_rfl)
    (of_decide_eq_true (by kernel_rfl)) (by unfold Func.isWrapper; first | (rw [if_pos (by decide +kernel)]; kernel_rfl) | (rw [if_neg (by decide +kernel)]; exact ⟨rfl, rfl⟩))
    (fun os started H enc _ => unifyNone_lifted os started H enc)
theorem unifyNone_card : Rows.UnifyNoneCardSaid :=
  Claim7.holds_tied_plain_at .later [] [.handle] true (true, "9d57827f5008c9f85a58ca4bfe14ea9bfd47622b783724e1a63bf3c28aee11d7") true
    unifyNone_said (fun _ h => by cases h) (by kernel_rfl) (fun _ h => by cases h) unifyNone_row_tie rfl ⟨rfl, rfl⟩ (by kernel_rfl) rfl
    (fun f fn hf hfn => by
      obtain rfl : f = 6 := Option.some.inj ((show Tryz.prog.funcNamed Rows.unifyNoneRow.func = some 6 by kernel_rfl).symm.trans hf) |>.symm
      obtain rfl : fn = Tryz.f6 := (Option.some.inj (Tryz.func6.symm.trans hfn)).symm
      exact ⟨by kernel_rfl, fun j t ht => by
        rw [Tryz.params6] at ht
        have hm : t ∈ [3, 3] := by simpa using Array.mem_of_getElem? ht
        have hall : ([3, 3].all fun u => !Tryz.prog.wantsStandIn u) = true := by kernel_rfl
        exact (show Tryz.prog.wantsStandIn t = false by simpa using List.all_eq_true.1 hall t hm)⟩)
    (by kernel_rfl)
#print axioms unifyNone_card
end Go.Proofs.YtlibjdilicfcdaaGreatDoor

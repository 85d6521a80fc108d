/- UnifyStays where it asks: walked. -/
import Derived.Deep.RegionHeld3
import Derived.Deep.DeepCutAuto
import Derived.Test.YtlibjdilicfcdaaGreatDoorns53Z
import Derived.Test.YtlibjdilicfcdaaGreatDoorns52Z
import Derived.Test.YtlibjdilicfcdaaGreatDoorns08Z
import Derived.Test.YtlibjdilicfcdaaGreatDoorns39Z
namespace Go.Proofs.YtlibjdilicfcdaaGreatDoor
set_option maxRecDepth 100000
open Go.RowKit Go.Maps
abbrev grO2 (nv rv : Value) : Obj := .cells #[nv, rv] 25
abbrev prO (a b : Int) : Obj := .cells #[.int .i64 a, .int .i64 b] 42
abbrev pr2O (a b c d : Int) : Obj := .cells #[.int .i64 a, .int .i64 b, .int .i64 c, .int .i64 d] 42
abbrev duO (a b c d e : Value) : Obj := .cells #[a, b, c, d, e] 96
structure Bx3 (W : World) (nv rv : Value) (x0 x1 y0 y1 : Int) (w : World) : Prop where
  b : Below W.heap.size W w
  g : w.heap[W.heap.size]? = some (grO2 nv rv)
  f : w.heap[W.heap.size + 1]? = some (prO x0 x1)
  t : w.heap[W.heap.size + 1 + 1]? = some (prO y0 y1)
theorem Bx3.next {W w w' : World} {nv rv : Value} {x0 x1 y0 y1 : Int} (h : Bx3 W nv rv x0 x1 y0 y1 w) (hb : Below w.heap.size w w') : Bx3 W nv rv x0 x1 y0 y1 w' :=
  ⟨Below.next h.b hb, (hb.block _ (lt_of_block h.g)).trans h.g, (hb.block _ (lt_of_block h.f)).trans h.f, (hb.block _ (lt_of_block h.t)).trans h.t⟩
theorem Bx3.keep {W w w' : World} {nv rv : Value} {x0 x1 y0 y1 : Int} {z : Nat} (h : Bx3 W nv rv x0 x1 y0 y1 w) (hz : W.heap.size + 1 + 1 < z) (hb : Below W.heap.size W w') (hk : ∀ k, k < z → w'.heap[k]? = w.heap[k]?) : Bx3 W nv rv x0 x1 y0 y1 w' :=
  ⟨hb, (hk _ (by omega)).trans h.g, (hk _ (by omega)).trans h.f, (hk _ hz).trans h.t⟩
theorem bx3_start (W : World) (nv rv : Value) (x0 x1 y0 y1 : Int) : Bx3 W nv rv x0 x1 y0 y1 (((W.alloc (grO2 nv rv)).alloc (prO x0 x1)).alloc (prO y0 y1)) := by
  have h1 := heap_alloc_new (W.alloc (grO2 nv rv)) (prO x0 x1)
  have h2 := heap_alloc_new ((W.alloc (grO2 nv rv)).alloc (prO x0 x1)) (prO y0 y1)
  rw [show (W.alloc (grO2 nv rv)).heap.size = W.heap.size + 1 by simp] at h1
  rw [show ((W.alloc (grO2 nv rv)).alloc (prO x0 x1)).heap.size = W.heap.size + 1 + 1 by simp] at h2
  exact ⟨((below_alloc W _).alloc (by simp) _).alloc (by simp; omega) _, (Below.heap_alloc _ _ _ (by simp; omega)).trans ((Below.heap_alloc _ _ _ (by simp)).trans (heap_alloc_new W _)), (Below.heap_alloc _ _ _ (by simp)).trans h1, h2⟩
theorem du_cells {w : World} {b : Nat} {u0 u1 u2 u3 u4 : Value} (h : w.heap[b]? = some (duO u0 u1 u2 u3 u4)) : (w.cell? ⟨b, 0, none⟩ = some u0 ∧ w.cell? ⟨b, 1, none⟩ = some u1) ∧ b < w.heap.size := by
  refine ⟨⟨?_, ?_⟩, lt_of_block h⟩ <;> simp [World.cell?, h]
section
variable {W w : World} {B hb q n : Nat} {m : Int} {s : Hst} {X : Nat → Prop} {k : Nat}
theorem Bz.topE (h : Bz W B hb q n m s X w) (hl : s.l.length = k) :
    Calls Tryz.prog 40 #[.pointer (some ⟨hb, 0, none⟩)] w fun e w' => e = .returned (.int .i64 (k : Int)) ∧ w' = w := by
  have h9 := h.top
  rw [hl] at h9
  exact h9
theorem Bz.pointsE (h : Bz W B hb q n m s X w) (hl : s.pt.length = k) :
    Calls Tryz.prog 41 #[.pointer (some ⟨hb, 0, none⟩)] w fun e w' => e = .returned (.int .i64 (k : Int)) ∧ w' = w := by
  have h9 := h.points
  rw [hl] at h9
  exact h9
end
structure Smz (s : Hst) (j : Nat) : Prop where
  n0 : 0 ≤ s.n
  n1 : s.n ≤ 4000 * j
  t : s.tr.length ≤ 4000 * j
  p : s.pt.length ≤ 1
theorem pr2_at {w : World} {b j : Nat} {x0 x1 y0 y1 : Int} (h : w.heap[b]? = some (pr2O x0 x1 y0 y1)) (hj : j < 2) : ∃ px py : Int, w.cell? ⟨b, j * 2, none⟩ = some (.int .i64 px) ∧ w.cell? ⟨b, j * 2 + 1, none⟩ = some (.int .i64 py) ∧ b < w.heap.size := by
  have hj2 : j = 0 ∨ j = 1 := by omega
  rcases hj2 with rfl | rfl
  · exact ⟨x0, x1, by simp [World.cell?, h], by simp [World.cell?, h], lt_of_block h⟩
  · exact ⟨y0, y1, by simp [World.cell?, h], by simp [World.cell?, h], lt_of_block h⟩
set_option maxHeartbeats 16000000 in
theorem stays_main {W : World} (hE : ErrC W) {nv rv : Value} {g : Gf} (hG : Gr W nv rv g) (hS : Sized g) (hs : smallK 200 g = true) (hc : one (chk g) = []) (x0 x1 y0 y1 : Int) (pt : Bool) :
    Calls Tryz.prog 15 #[.agg #[nv, rv], .agg #[.int .i64 x0, .int .i64 x1], .agg #[.int .i64 y0, .int .i64 y1], .bool pt] W fun e w' => e = .returned (.bool true) ∧ Below W.heap.size W w' := by
  have hsz := smallK_fits hs
  have HX0 := hid (bx3_start W nv rv x0 x1 y0 y1)
  have hsm := hid (fun w1 (h : Below W.heap.size W w1) => smallK_any (K := 200) (by decide) (hG.below h))
  rw [hs] at hsm
  have hck := hid (fun w1 (h : Below W.heap.size W w1) => check_any (hG.below h) hS)
  rw [hc] at hck
  obtain ⟨hp1, hp2⟩ := putc_small (z := 10000) hc (by omega) (by decide)
  have hld := hid (fun w1 (h : Below W.heap.size W w1) => laid_ok (hG.below h) hS (by omega) 10000 (by decide) (by decide) hp1)
  have Hp2 := hid hp2
  have HE := hid hE
  obtain ⟨na, nc, rfl, _⟩ := hG.1
  obtain ⟨ra, rc, rfl, _⟩ := hG.2
  clear hG hs hc hp1 hp2 hsz hE
  go_enter Tryz.func15, Tryz.ntmps15
  go_wp2_with (first
    | (go_at_call 7; refine (ulives_any _).mono ?_; rintro e w1 ⟨rfl, hb1⟩; have HX1 := hid (HX0.out.next hb1); clear hb1; obtain ⟨⟨p0, p1⟩, _⟩ := cblk2 HX1.out.g; have p2 := lt_of_block HX1.out.g)
    | (go_at_call 8; refine (hsm.out _ HX1.out.b).mono ?_; rintro e w2 ⟨rfl, hb2⟩; have HX2 := hid (HX1.out.next hb2); clear hb2 p0 p1 p2; obtain ⟨⟨p0, p1⟩, _⟩ := cblk2 HX2.out.g; have p2 := lt_of_block HX2.out.g)
    | (go_at_call 9; refine (hck.out _ HX2.out.b).mono ?_; rintro e w3 ⟨⟨ev, rfl, hE⟩, hb3⟩; obtain rfl : ev = .nilIface := hE; have HX3 := hid (HX2.out.next hb3); clear hb3 p0 p1 p2; obtain ⟨⟨p0, p1⟩, _⟩ := cblk2 HX3.out.g; have p2 := lt_of_block HX3.out.g)
    | (go_at_call 10; refine (hld.out _ HX3.out.b).mono ?_; rintro e w4 ⟨⟨hb, F, ao, c, rfl, ho, hH, hF, hjj, hpm⟩, hb4⟩; obtain ⟨q, hq, hB⟩ := bz_of HX3.out.b hb4 Hp2.out ho hH hF hjj; have S4 := hid hB; have HQ := hid hq; have HJ := hid hjj; have HX4 := hid (HX3.out.next hb4); clear ho hH hF hjj hpm hb4 hB hq p0 p1 p2; obtain ⟨⟨p0, p1⟩, _⟩ := blk2y HX4.out.f; obtain ⟨⟨r0, r1⟩, _⟩ := blk2y HX4.out.t; have p2 := lt_of_block HX4.out.f; have r2 := lt_of_block HX4.out.t)
    | (go_at_call 38; refine (S4.out.point HJ.out).mono ?_; rintro e w5 ⟨⟨ev, rfl⟩, hB5, hk5⟩; have S5 := hid hB5; have HX5 := hid (HX4.out.keep (lt_of_block HX3.out.t) hB5.b hk5); clear hB5 hk5 p0 p1 p2 r0 r1 r2; obtain ⟨⟨p0, p1⟩, _⟩ := blk2y HX5.out.f; obtain ⟨⟨r0, r1⟩, _⟩ := blk2y HX5.out.t; have p2 := lt_of_block HX5.out.f; have r2 := lt_of_block HX5.out.t))
  · have hpt : pt = true := by assumption
    subst hpt
    obtain ⟨s1, hs1⟩ : ∃ s1 : Hst, s1 = ⟨(putHs hs0 (gAll g)).l, (putHs hs0 (gAll g)).ns, (putHs hs0 (gAll g)).tr, (putHs hs0 (gAll g)).pt ++ [((putHs hs0 (gAll g)).tr.length, (putHs hs0 (gAll g)).l.length)], (putHs hs0 (gAll g)).n⟩ := ⟨_, rfl⟩
    have hm1 : Hid (Smz s1 0) := by rw [hs1]; exact ⟨by show (0 : Int) ≤ 0; decide, by show (0 : Int) ≤ _; decide, by show 0 ≤ _; omega, by show _ ≤ 1; simp [putHs, hs0]⟩
    have T0 : Hid (Bz W w3.heap.size hb q g.nodes.length 10000 s1 (fun k => k < w3.heap.size) w5) := by rw [hs1]; exact S5.out
    have S6 : Hid (Bz W w3.heap.size hb q g.nodes.length 10000 s1 (fun k => k = w5.heap.size) (w5.alloc (pr2O x0 x1 y0 y1))) := (T0.out.more (below_alloc w5 (pr2O x0 x1 y0 y1))).less (fun k hk => Or.inr ⟨by omega, by simp; omega⟩)
    have hx6 := hid (heap_alloc_new w5 (pr2O x0 x1 y0 y1))
    clear hs1
    go_loopw [12, 13, 14, 15, 16, 17, 18, 46] (fun _ _ _ _ _ _ _ s46 wr => ∃ (j : Nat) (s2 : Hst), s46 = .int .i64 (j : Int) ∧ j ≤ 2 ∧ Hid (Bz W w3.heap.size hb q g.nodes.length 10000 s2 (fun k => k = w5.heap.size) wr) ∧ Hid (Smz s2 j) ∧ Hid (wr.heap[w5.heap.size]? = some (pr2O x0 x1 y0 y1))) (fun _ _ _ _ _ _ _ s46 _ => 2 - (intOf s46).toNat)
    case atStart => exact ⟨0, s1, rfl, by omega, S6, hm1, hx6⟩
    case round =>
      obtain ⟨j, s2, rfl, hj, hB, hm, hx⟩ := hrel
      clear S6 hx6 hm1 T0
      by_cases hlt : j < 2
      · obtain ⟨px, py, q0, q1, qz⟩ : ∃ px py : Int, wr.cell? ⟨w5.heap.size, j * 2, none⟩ = some (.int .i64 px) ∧ wr.cell? ⟨w5.heap.size, j * 2 + 1, none⟩ = some (.int .i64 py) ∧ w5.heap.size < wr.heap.size := pr2_at hx.out hlt
        have hjz : (j : Int) < 2 := by omega
        have hd1 := hid ((hB.out.next (below_alloc wr (prO px py))).dump (Nat.le_trans hm.out.t (by omega)) (Nat.le_trans hm.out.p (by decide)))
        have hxp := hid (heap_alloc_new wr (prO px py))
        go_wp2_with (first
          | (go_at_call 39; refine hd1.out.mono ?_; rintro e w7 ⟨⟨a1, c1, a2, c2, a3, c3, ua, uc, rfl, ho1⟩, hb7⟩; have hb8 := Below.next (Below.next (below_alloc wr (prO px py)) hb7) (below_alloc w7 (duO (.slice a1 s2.l.length c1) (.slice a2 s2.tr.length c2) (.slice a3 s2.pt.length c3) (.slice ua s2.ns.length uc) (.slice none 0 0))); have S8 := hid (hB.out.more hb8); have HP8 := hid (((Below.next hb7 (below_alloc w7 (duO (.slice a1 s2.l.length c1) (.slice a2 s2.tr.length c2) (.slice a3 s2.pt.length c3) (.slice ua s2.ns.length uc) (.slice none 0 0)))).block _ (lt_of_block hxp.out)).trans hxp.out); have HD8 := hid (heap_alloc_new w7 (duO (.slice a1 s2.l.length c1) (.slice a2 s2.tr.length c2) (.slice a3 s2.pt.length c3) (.slice ua s2.ns.length uc) (.slice none 0 0))); have HO8 := hid (row_keep ho1 (fun k hk => (below_alloc w7 (duO (.slice a1 s2.l.length c1) (.slice a2 s2.tr.length c2) (.slice a3 s2.pt.length c3) (.slice ua s2.ns.length uc) (.slice none 0 0))).block k (ho1.lt k hk).2)); have HZ8 := hid (And.intro hb7.size hb8.size); have HB78 := hid (Below.next hb7 (below_alloc w7 (duO (.slice a1 s2.l.length c1) (.slice a2 s2.tr.length c2) (.slice a3 s2.pt.length c3) (.slice ua s2.ns.length uc) (.slice none 0 0)))); have HB88 := hid hb8; clear ho1 hb7 hb8 q0 q1 qz)
          | (go_at_call 40; refine (S8.out.top).mono ?_; rintro e w9 ⟨rfl, rfl⟩)
          | (go_at_call 41; refine (S8.out.points).mono ?_; rintro e w9 ⟨rfl, rfl⟩))
        obtain ⟨⟨d0, d1⟩, dz⟩ := blk2y HP8.out
        have hf2 : Few s2 := ⟨hm.out.n0, by have := hm.out.n1; omega, by have := hm.out.p; omega, by have := hm.out.t; omega⟩
        have hplace : Hid (∀ x : Int, Calls Tryz.prog 42 #[.slice ao g.nodes.length c, .int .i64 x] (w7.alloc (duO (.slice a1 s2.l.length c1) (.slice a2 s2.tr.length c2) (.slice a3 s2.pt.length c3) (.slice ua s2.ns.length uc) (.slice none 0 0))).drew fun e w' => e = .returned (.int .i64 x) ∧ w' = (w7.alloc (duO (.slice a1 s2.l.length c1) (.slice a2 s2.tr.length c2) (.slice a3 s2.pt.length c3) (.slice ua s2.ns.length uc) (.slice none 0 0))).drew) := fun x => place_any x HQ.out (S8.out.next (Below.refl _ _).drew).r
        have hun := hid ((S8.out.next (Below.refl _ _).drew).unify HE.out hf2 px py)
        go_cut [16, 17] from 56 to 68 (fun s16 s17 wc => ∃ (ok : Bool) (ev : Value) (s3 : Hst), s16 = .bool ok ∧ s17 = ev ∧ (ev = .nilIface ∨ (ok = false ∧ ∃ p, ev = .iface 84 (.pointer (some ⟨p, 0, none⟩)))) ∧ Hid (Stq s2 s3 ok) ∧ Hid (Bz W w3.heap.size hb q g.nodes.length 10000 s3 (fun k => k = w5.heap.size ∨ (wr.heap.size ≤ k ∧ k < (w7.alloc (duO (.slice a1 s2.l.length c1) (.slice a2 s2.tr.length c2) (.slice a3 s2.pt.length c3) (.slice ua s2.ns.length uc) (.slice none 0 0))).heap.size)) wc) ∧ Hid (∀ k, (fun k => k = w5.heap.size ∨ (wr.heap.size ≤ k ∧ k < (w7.alloc (duO (.slice a1 s2.l.length c1) (.slice a2 s2.tr.length c2) (.slice a3 s2.pt.length c3) (.slice ua s2.ns.length uc) (.slice none 0 0))).heap.size)) k → wc.heap[k]? = (w7.alloc (duO (.slice a1 s2.l.length c1) (.slice a2 s2.tr.length c2) (.slice a3 s2.pt.length c3) (.slice ua s2.ns.length uc) (.slice none 0 0))).heap[k]?))
        case first =>
          go_region_held3 (fun w' => Skv wr.heap.size 0 1 px py w') (first | (with_reducible exact ⟨d0, d1⟩) | (with_reducible exact skv_dr ⟨d0, d1⟩))
            (first
              | (go_at_call 42; refine (hplace.out _).mono ?_; rintro e w9 ⟨rfl, rfl⟩)
              | (go_at_call 12; refine hun.out.mono ?_; rintro e w9 ⟨ok, ev, s3, rfl, hev, hst, hB9, hk9⟩; have S9 := hid hB9; have K9 := hid hk9; have T9 := hid hst; have hp9 := (hk9 wr.heap.size (Or.inr ⟨Nat.le_refl _, lt_of_block HP8.out⟩)).trans HP8.out; clear d0 d1 hB9 hk9 hst; obtain ⟨⟨d0, d1⟩, _⟩ := blk2y hp9; clear hp9))
          all_goals go_wp2_with fail
          all_goals go_meet
          all_goals exact ⟨ok, ev, s3, rfl, rfl, hev, T9, S9, K9⟩
        case rest =>
          obtain ⟨ok, ev, s3, rfl, rfl, hev, T9, S9, K9⟩ := hcut
          have HD9 := hid ((K9.out w7.heap.size (Or.inr ⟨by have := HZ8.out.1; simp at this; omega, lt_of_block HD8.out⟩)).trans HD8.out)
          have HO9 := hid (row_keep HO8.out (fun k hk => K9.out k (Or.inr ⟨by have := (HO8.out.lt k hk).1; simp at this; omega, (HO8.out.lt k hk).2⟩)))
          have HX9 := hid ((K9.out w5.heap.size (Or.inl rfl)).trans ((HB88.out.block _ (lt_of_block hx.out)).trans hx.out))
          have hM9 : Hid (Smz s3 (j + 1)) := ⟨by have := T9.out.n0; have := hm.out.n0; omega, by have := T9.out.n1; have := hm.out.n1; omega, by have := T9.out.t1; have := hm.out.t; omega, by rw [T9.out.pt]; exact hm.out.p⟩
          have hd2 := hid (S9.out.dump (Nat.le_trans hM9.out.t (by omega)) (Nat.le_trans hM9.out.p (by decide)))
          clear HB78 HB88 d0 d1 dz hplace hun hd1 hxp HP8 HD8 HO8 S8 hf2 hB hx K9 HZ8
          rcases hev with rfl | ⟨rfl, p9, rfl⟩
          · cases ok with
            | false =>
              obtain rfl := T9.out.no rfl
              go_wp2_with (first
                | (go_at_call 39; refine hd2.out.mono ?_; rintro e w10 ⟨⟨b1, e1, b2, e2, b3, e3, ub, ue, rfl, ho2⟩, hb10⟩; have hb11 := Below.next hb10 (below_alloc w10 (duO (.slice b1 s3.l.length e1) (.slice b2 s3.tr.length e2) (.slice b3 s3.pt.length e3) (.slice ub s3.ns.length ue) (.slice none 0 0))); have S11 := hid (S9.out.next hb11); have HA := hid ((hb11.block _ (lt_of_block HD9.out)).trans HD9.out); have HB := hid (heap_alloc_new w10 (duO (.slice b1 s3.l.length e1) (.slice b2 s3.tr.length e2) (.slice b3 s3.pt.length e3) (.slice ub s3.ns.length ue) (.slice none 0 0))); have OA := hid (row_keep HO9.out (fun k hk => hb11.block k (HO9.out.lt k hk).2)); have OB := hid (row_keep ho2 (fun k hk => (below_alloc w10 (duO (.slice b1 s3.l.length e1) (.slice b2 s3.tr.length e2) (.slice b3 s3.pt.length e3) (.slice ub s3.ns.length ue) (.slice none 0 0))).block k (ho2.lt k hk).2)); have HX11 := hid ((hb11.block _ (lt_of_block HX9.out)).trans HX9.out); obtain ⟨⟨m0, m1⟩, mz⟩ := du_cells HA.out; obtain ⟨⟨n0, n1⟩, nz⟩ := du_cells HB.out; clear ho2 hb10 hb11)
                | (go_at_call 40; refine (S11.out.topE T9.out.l).mono ?_; rintro e w12 ⟨rfl, rfl⟩)
                | (go_at_call 41; refine (S11.out.pointsE (congrArg List.length T9.out.pt)).mono ?_; rintro e w12 ⟨rfl, rfl⟩)
                | (go_at_call 43; refine (usame_any (Nat.le_trans S11.out.l4 (by decide)) OA.out OB.out).mono ?_; rintro e w13 ⟨rfl, hb13⟩; have S13 := hid (S11.out.next hb13); have HX13 := hid ((hb13.block _ (lt_of_block HX11.out)).trans HX11.out); have m1' := (hb13.cell (p := ⟨w7.heap.size, 1, none⟩) mz).trans m1; have n1' := (hb13.cell (p := ⟨w10.heap.size, 1, none⟩) nz).trans n1; clear m0 m1 n0 n1; have m1 := m1'; have n1 := n1'; clear m1' n1'))
              go_roundw
              case rel => first | exact ⟨j + 1, _, congrArg (Value.int .i64) (by omega), by omega, hid (S13.out.less (fun k hk => Or.inl hk)), hM9, HX13⟩ | ((repeat apply Exists.intro); refine ⟨?_, rfl⟩; exact ⟨j + 1, _, congrArg (Value.int .i64) (by omega), by omega, hid (S13.out.less (fun k hk => Or.inl hk)), hM9, HX13⟩)
              case measure => simp [intOf]; omega
            | true =>
              go_wp2_with (first
                | (go_at_call 39; refine hd2.out.mono ?_; rintro e w10 ⟨⟨b1, e1, b2, e2, b3, e3, ub, ue, rfl, ho2⟩, hb10⟩; have hb11 := Below.next hb10 (below_alloc w10 (duO (.slice b1 s3.l.length e1) (.slice b2 s3.tr.length e2) (.slice b3 s3.pt.length e3) (.slice ub s3.ns.length ue) (.slice none 0 0))); have S11 := hid (S9.out.next hb11); have HA := hid ((hb11.block _ (lt_of_block HD9.out)).trans HD9.out); have HB := hid (heap_alloc_new w10 (duO (.slice b1 s3.l.length e1) (.slice b2 s3.tr.length e2) (.slice b3 s3.pt.length e3) (.slice ub s3.ns.length ue) (.slice none 0 0))); have OA := hid (row_keep HO9.out (fun k hk => hb11.block k (HO9.out.lt k hk).2)); have OB := hid (row_keep ho2 (fun k hk => (below_alloc w10 (duO (.slice b1 s3.l.length e1) (.slice b2 s3.tr.length e2) (.slice b3 s3.pt.length e3) (.slice ub s3.ns.length ue) (.slice none 0 0))).block k (ho2.lt k hk).2)); have HX11 := hid ((hb11.block _ (lt_of_block HX9.out)).trans HX9.out); obtain ⟨⟨m0, m1⟩, mz⟩ := du_cells HA.out; obtain ⟨⟨n0, n1⟩, nz⟩ := du_cells HB.out; clear ho2 hb10 hb11)
                | (go_at_call 40; refine (S11.out.topE T9.out.l).mono ?_; rintro e w12 ⟨rfl, rfl⟩)
                | (go_at_call 41; refine (S11.out.pointsE (congrArg List.length T9.out.pt)).mono ?_; rintro e w12 ⟨rfl, rfl⟩))
              go_roundw
              case rel => first | exact ⟨j + 1, _, congrArg (Value.int .i64) (by omega), by omega, hid (S11.out.less (fun k hk => Or.inl hk)), hM9, HX11⟩ | ((repeat apply Exists.intro); refine ⟨?_, rfl⟩; exact ⟨j + 1, _, congrArg (Value.int .i64) (by omega), by omega, hid (S11.out.less (fun k hk => Or.inl hk)), hM9, HX11⟩)
              case measure => simp [intOf]; omega
          · obtain rfl := T9.out.no rfl
            go_wp2_with (first
              | (go_at_call 39; refine hd2.out.mono ?_; rintro e w10 ⟨⟨b1, e1, b2, e2, b3, e3, ub, ue, rfl, ho2⟩, hb10⟩; have hb11 := Below.next hb10 (below_alloc w10 (duO (.slice b1 s3.l.length e1) (.slice b2 s3.tr.length e2) (.slice b3 s3.pt.length e3) (.slice ub s3.ns.length ue) (.slice none 0 0))); have S11 := hid (S9.out.next hb11); have HA := hid ((hb11.block _ (lt_of_block HD9.out)).trans HD9.out); have HB := hid (heap_alloc_new w10 (duO (.slice b1 s3.l.length e1) (.slice b2 s3.tr.length e2) (.slice b3 s3.pt.length e3) (.slice ub s3.ns.length ue) (.slice none 0 0))); have OA := hid (row_keep HO9.out (fun k hk => hb11.block k (HO9.out.lt k hk).2)); have OB := hid (row_keep ho2 (fun k hk => (below_alloc w10 (duO (.slice b1 s3.l.length e1) (.slice b2 s3.tr.length e2) (.slice b3 s3.pt.length e3) (.slice ub s3.ns.length ue) (.slice none 0 0))).block k (ho2.lt k hk).2)); have HX11 := hid ((hb11.block _ (lt_of_block HX9.out)).trans HX9.out); obtain ⟨⟨m0, m1⟩, mz⟩ := du_cells HA.out; obtain ⟨⟨n0, n1⟩, nz⟩ := du_cells HB.out; clear ho2 hb10 hb11)
              | (go_at_call 40; refine (S11.out.topE T9.out.l).mono ?_; rintro e w12 ⟨rfl, rfl⟩)
              | (go_at_call 41; refine (S11.out.pointsE (congrArg List.length T9.out.pt)).mono ?_; rintro e w12 ⟨rfl, rfl⟩)
              | (go_at_call 43; refine (usame_any (Nat.le_trans S11.out.l4 (by decide)) OA.out OB.out).mono ?_; rintro e w13 ⟨rfl, hb13⟩; have S13 := hid (S11.out.next hb13); have HX13 := hid ((hb13.block _ (lt_of_block HX11.out)).trans HX11.out); have m1' := (hb13.cell (p := ⟨w7.heap.size, 1, none⟩) mz).trans m1; have n1' := (hb13.cell (p := ⟨w10.heap.size, 1, none⟩) nz).trans n1; clear m0 m1 n0 n1; have m1 := m1'; have n1 := n1'; clear m1' n1'))
            go_roundw
            case rel => first | exact ⟨j + 1, _, congrArg (Value.int .i64) (by omega), by omega, hid (S13.out.less (fun k hk => Or.inl hk)), hM9, HX13⟩ | ((repeat apply Exists.intro); refine ⟨?_, rfl⟩; exact ⟨j + 1, _, congrArg (Value.int .i64) (by omega), by omega, hid (S13.out.less (fun k hk => Or.inl hk)), hM9, HX13⟩)
            case measure => simp [intOf]; omega
      · obtain rfl : j = 2 := by omega
        go_wp2
        go_ret
        exact ⟨rfl, hB.out.b⟩
  · have hpt : pt = false := by assumption
    subst hpt
    obtain ⟨s1, hs1⟩ : ∃ s1 : Hst, s1 = putHs hs0 (gAll g) := ⟨_, rfl⟩
    have hm1 : Hid (Smz s1 0) := by rw [hs1]; exact ⟨by show (0 : Int) ≤ 0; decide, by show (0 : Int) ≤ _; decide, by show 0 ≤ _; omega, by show _ ≤ 1; simp [putHs, hs0]⟩
    have T0 : Hid (Bz W w3.heap.size hb q g.nodes.length 10000 s1 (fun k => k < w3.heap.size) w4) := by rw [hs1]; exact S4.out
    have S6 : Hid (Bz W w3.heap.size hb q g.nodes.length 10000 s1 (fun k => k = w4.heap.size) (w4.alloc (pr2O x0 x1 y0 y1))) := (T0.out.more (below_alloc w4 (pr2O x0 x1 y0 y1))).less (fun k hk => Or.inr ⟨by omega, by simp; omega⟩)
    have hx6 := hid (heap_alloc_new w4 (pr2O x0 x1 y0 y1))
    clear hs1
    go_loopw [12, 13, 14, 15, 16, 17, 18, 46] (fun _ _ _ _ _ _ _ s46 wr => ∃ (j : Nat) (s2 : Hst), s46 = .int .i64 (j : Int) ∧ j ≤ 2 ∧ Hid (Bz W w3.heap.size hb q g.nodes.length 10000 s2 (fun k => k = w4.heap.size) wr) ∧ Hid (Smz s2 j) ∧ Hid (wr.heap[w4.heap.size]? = some (pr2O x0 x1 y0 y1))) (fun _ _ _ _ _ _ _ s46 _ => 2 - (intOf s46).toNat)
    case atStart => exact ⟨0, s1, rfl, by omega, S6, hm1, hx6⟩
    case round =>
      obtain ⟨j, s2, rfl, hj, hB, hm, hx⟩ := hrel
      clear S6 hx6 hm1 T0
      by_cases hlt : j < 2
      · obtain ⟨px, py, q0, q1, qz⟩ : ∃ px py : Int, wr.cell? ⟨w4.heap.size, j * 2, none⟩ = some (.int .i64 px) ∧ wr.cell? ⟨w4.heap.size, j * 2 + 1, none⟩ = some (.int .i64 py) ∧ w4.heap.size < wr.heap.size := pr2_at hx.out hlt
        have hjz : (j : Int) < 2 := by omega
        have hd1 := hid ((hB.out.next (below_alloc wr (prO px py))).dump (Nat.le_trans hm.out.t (by omega)) (Nat.le_trans hm.out.p (by decide)))
        have hxp := hid (heap_alloc_new wr (prO px py))
        go_wp2_with (first
          | (go_at_call 39; refine hd1.out.mono ?_; rintro e w7 ⟨⟨a1, c1, a2, c2, a3, c3, ua, uc, rfl, ho1⟩, hb7⟩; have hb8 := Below.next (Below.next (below_alloc wr (prO px py)) hb7) (below_alloc w7 (duO (.slice a1 s2.l.length c1) (.slice a2 s2.tr.length c2) (.slice a3 s2.pt.length c3) (.slice ua s2.ns.length uc) (.slice none 0 0))); have S8 := hid (hB.out.more hb8); have HP8 := hid (((Below.next hb7 (below_alloc w7 (duO (.slice a1 s2.l.length c1) (.slice a2 s2.tr.length c2) (.slice a3 s2.pt.length c3) (.slice ua s2.ns.length uc) (.slice none 0 0)))).block _ (lt_of_block hxp.out)).trans hxp.out); have HD8 := hid (heap_alloc_new w7 (duO (.slice a1 s2.l.length c1) (.slice a2 s2.tr.length c2) (.slice a3 s2.pt.length c3) (.slice ua s2.ns.length uc) (.slice none 0 0))); have HO8 := hid (row_keep ho1 (fun k hk => (below_alloc w7 (duO (.slice a1 s2.l.length c1) (.slice a2 s2.tr.length c2) (.slice a3 s2.pt.length c3) (.slice ua s2.ns.length uc) (.slice none 0 0))).block k (ho1.lt k hk).2)); have HZ8 := hid (And.intro hb7.size hb8.size); have HB78 := hid (Below.next hb7 (below_alloc w7 (duO (.slice a1 s2.l.length c1) (.slice a2 s2.tr.length c2) (.slice a3 s2.pt.length c3) (.slice ua s2.ns.length uc) (.slice none 0 0)))); have HB88 := hid hb8; clear ho1 hb7 hb8 q0 q1 qz)
          | (go_at_call 40; refine (S8.out.top).mono ?_; rintro e w9 ⟨rfl, rfl⟩)
          | (go_at_call 41; refine (S8.out.points).mono ?_; rintro e w9 ⟨rfl, rfl⟩))
        obtain ⟨⟨d0, d1⟩, dz⟩ := blk2y HP8.out
        have hf2 : Few s2 := ⟨hm.out.n0, by have := hm.out.n1; omega, by have := hm.out.p; omega, by have := hm.out.t; omega⟩
        have hplace : Hid (∀ x : Int, Calls Tryz.prog 42 #[.slice ao g.nodes.length c, .int .i64 x] (w7.alloc (duO (.slice a1 s2.l.length c1) (.slice a2 s2.tr.length c2) (.slice a3 s2.pt.length c3) (.slice ua s2.ns.length uc) (.slice none 0 0))).drew fun e w' => e = .returned (.int .i64 x) ∧ w' = (w7.alloc (duO (.slice a1 s2.l.length c1) (.slice a2 s2.tr.length c2) (.slice a3 s2.pt.length c3) (.slice ua s2.ns.length uc) (.slice none 0 0))).drew) := fun x => place_any x HQ.out (S8.out.next (Below.refl _ _).drew).r
        have hun := hid ((S8.out.next (Below.refl _ _).drew).unify HE.out hf2 px py)
        go_cut [16, 17] from 56 to 68 (fun s16 s17 wc => ∃ (ok : Bool) (ev : Value) (s3 : Hst), s16 = .bool ok ∧ s17 = ev ∧ (ev = .nilIface ∨ (ok = false ∧ ∃ p, ev = .iface 84 (.pointer (some ⟨p, 0, none⟩)))) ∧ Hid (Stq s2 s3 ok) ∧ Hid (Bz W w3.heap.size hb q g.nodes.length 10000 s3 (fun k => k = w4.heap.size ∨ (wr.heap.size ≤ k ∧ k < (w7.alloc (duO (.slice a1 s2.l.length c1) (.slice a2 s2.tr.length c2) (.slice a3 s2.pt.length c3) (.slice ua s2.ns.length uc) (.slice none 0 0))).heap.size)) wc) ∧ Hid (∀ k, (fun k => k = w4.heap.size ∨ (wr.heap.size ≤ k ∧ k < (w7.alloc (duO (.slice a1 s2.l.length c1) (.slice a2 s2.tr.length c2) (.slice a3 s2.pt.length c3) (.slice ua s2.ns.length uc) (.slice none 0 0))).heap.size)) k → wc.heap[k]? = (w7.alloc (duO (.slice a1 s2.l.length c1) (.slice a2 s2.tr.length c2) (.slice a3 s2.pt.length c3) (.slice ua s2.ns.length uc) (.slice none 0 0))).heap[k]?))
        case first =>
          go_region_held3 (fun w' => Skv wr.heap.size 0 1 px py w') (first | (with_reducible exact ⟨d0, d1⟩) | (with_reducible exact skv_dr ⟨d0, d1⟩))
            (first
              | (go_at_call 42; refine (hplace.out _).mono ?_; rintro e w9 ⟨rfl, rfl⟩)
              | (go_at_call 12; refine hun.out.mono ?_; rintro e w9 ⟨ok, ev, s3, rfl, hev, hst, hB9, hk9⟩; have S9 := hid hB9; have K9 := hid hk9; have T9 := hid hst; have hp9 := (hk9 wr.heap.size (Or.inr ⟨Nat.le_refl _, lt_of_block HP8.out⟩)).trans HP8.out; clear d0 d1 hB9 hk9 hst; obtain ⟨⟨d0, d1⟩, _⟩ := blk2y hp9; clear hp9))
          all_goals go_wp2_with fail
          all_goals go_meet
          all_goals exact ⟨ok, ev, s3, rfl, rfl, hev, T9, S9, K9⟩
        case rest =>
          obtain ⟨ok, ev, s3, rfl, rfl, hev, T9, S9, K9⟩ := hcut
          have HD9 := hid ((K9.out w7.heap.size (Or.inr ⟨by have := HZ8.out.1; simp at this; omega, lt_of_block HD8.out⟩)).trans HD8.out)
          have HO9 := hid (row_keep HO8.out (fun k hk => K9.out k (Or.inr ⟨by have := (HO8.out.lt k hk).1; simp at this; omega, (HO8.out.lt k hk).2⟩)))
          have HX9 := hid ((K9.out w4.heap.size (Or.inl rfl)).trans ((HB88.out.block _ (lt_of_block hx.out)).trans hx.out))
          have hM9 : Hid (Smz s3 (j + 1)) := ⟨by have := T9.out.n0; have := hm.out.n0; omega, by have := T9.out.n1; have := hm.out.n1; omega, by have := T9.out.t1; have := hm.out.t; omega, by rw [T9.out.pt]; exact hm.out.p⟩
          have hd2 := hid (S9.out.dump (Nat.le_trans hM9.out.t (by omega)) (Nat.le_trans hM9.out.p (by decide)))
          clear HB78 HB88 d0 d1 dz hplace hun hd1 hxp HP8 HD8 HO8 S8 hf2 hB hx K9 HZ8
          rcases hev with rfl | ⟨rfl, p9, rfl⟩
          · cases ok with
            | false =>
              obtain rfl := T9.out.no rfl
              go_wp2_with (first
                | (go_at_call 39; refine hd2.out.mono ?_; rintro e w10 ⟨⟨b1, e1, b2, e2, b3, e3, ub, ue, rfl, ho2⟩, hb10⟩; have hb11 := Below.next hb10 (below_alloc w10 (duO (.slice b1 s3.l.length e1) (.slice b2 s3.tr.length e2) (.slice b3 s3.pt.length e3) (.slice ub s3.ns.length ue) (.slice none 0 0))); have S11 := hid (S9.out.next hb11); have HA := hid ((hb11.block _ (lt_of_block HD9.out)).trans HD9.out); have HB := hid (heap_alloc_new w10 (duO (.slice b1 s3.l.length e1) (.slice b2 s3.tr.length e2) (.slice b3 s3.pt.length e3) (.slice ub s3.ns.length ue) (.slice none 0 0))); have OA := hid (row_keep HO9.out (fun k hk => hb11.block k (HO9.out.lt k hk).2)); have OB := hid (row_keep ho2 (fun k hk => (below_alloc w10 (duO (.slice b1 s3.l.length e1) (.slice b2 s3.tr.length e2) (.slice b3 s3.pt.length e3) (.slice ub s3.ns.length ue) (.slice none 0 0))).block k (ho2.lt k hk).2)); have HX11 := hid ((hb11.block _ (lt_of_block HX9.out)).trans HX9.out); obtain ⟨⟨m0, m1⟩, mz⟩ := du_cells HA.out; obtain ⟨⟨n0, n1⟩, nz⟩ := du_cells HB.out; clear ho2 hb10 hb11)
                | (go_at_call 40; refine (S11.out.topE T9.out.l).mono ?_; rintro e w12 ⟨rfl, rfl⟩)
                | (go_at_call 41; refine (S11.out.pointsE (congrArg List.length T9.out.pt)).mono ?_; rintro e w12 ⟨rfl, rfl⟩)
                | (go_at_call 43; refine (usame_any (Nat.le_trans S11.out.l4 (by decide)) OA.out OB.out).mono ?_; rintro e w13 ⟨rfl, hb13⟩; have S13 := hid (S11.out.next hb13); have HX13 := hid ((hb13.block _ (lt_of_block HX11.out)).trans HX11.out); have m1' := (hb13.cell (p := ⟨w7.heap.size, 1, none⟩) mz).trans m1; have n1' := (hb13.cell (p := ⟨w10.heap.size, 1, none⟩) nz).trans n1; clear m0 m1 n0 n1; have m1 := m1'; have n1 := n1'; clear m1' n1'))
              go_roundw
              case rel => first | exact ⟨j + 1, _, congrArg (Value.int .i64) (by omega), by omega, hid (S13.out.less (fun k hk => Or.inl hk)), hM9, HX13⟩ | ((repeat apply Exists.intro); refine ⟨?_, rfl⟩; exact ⟨j + 1, _, congrArg (Value.int .i64) (by omega), by omega, hid (S13.out.less (fun k hk => Or.inl hk)), hM9, HX13⟩)
              case measure => simp [intOf]; omega
            | true =>
              go_wp2_with (first
                | (go_at_call 39; refine hd2.out.mono ?_; rintro e w10 ⟨⟨b1, e1, b2, e2, b3, e3, ub, ue, rfl, ho2⟩, hb10⟩; have hb11 := Below.next hb10 (below_alloc w10 (duO (.slice b1 s3.l.length e1) (.slice b2 s3.tr.length e2) (.slice b3 s3.pt.length e3) (.slice ub s3.ns.length ue) (.slice none 0 0))); have S11 := hid (S9.out.next hb11); have HA := hid ((hb11.block _ (lt_of_block HD9.out)).trans HD9.out); have HB := hid (heap_alloc_new w10 (duO (.slice b1 s3.l.length e1) (.slice b2 s3.tr.length e2) (.slice b3 s3.pt.length e3) (.slice ub s3.ns.length ue) (.slice none 0 0))); have OA := hid (row_keep HO9.out (fun k hk => hb11.block k (HO9.out.lt k hk).2)); have OB := hid (row_keep ho2 (fun k hk => (below_alloc w10 (duO (.slice b1 s3.l.length e1) (.slice b2 s3.tr.length e2) (.slice b3 s3.pt.length e3) (.slice ub s3.ns.length ue) (.slice none 0 0))).block k (ho2.lt k hk).2)); have HX11 := hid ((hb11.block _ (lt_of_block HX9.out)).trans HX9.out); obtain ⟨⟨m0, m1⟩, mz⟩ := du_cells HA.out; obtain ⟨⟨n0, n1⟩, nz⟩ := du_cells HB.out; clear ho2 hb10 hb11)
                | (go_at_call 40; refine (S11.out.topE T9.out.l).mono ?_; rintro e w12 ⟨rfl, rfl⟩)
                | (go_at_call 41; refine (S11.out.pointsE (congrArg List.length T9.out.pt)).mono ?_; rintro e w12 ⟨rfl, rfl⟩))
              go_roundw
              case rel => first | exact ⟨j + 1, _, congrArg (Value.int .i64) (by omega), by omega, hid (S11.out.less (fun k hk => Or.inl hk)), hM9, HX11⟩ | ((repeat apply Exists.intro); refine ⟨?_, rfl⟩; exact ⟨j + 1, _, congrArg (Value.int .i64) (by omega), by omega, hid (S11.out.less (fun k hk => Or.inl hk)), hM9, HX11⟩)
              case measure => simp [intOf]; omega
          · obtain rfl := T9.out.no rfl
            go_wp2_with (first
              | (go_at_call 39; refine hd2.out.mono ?_; rintro e w10 ⟨⟨b1, e1, b2, e2, b3, e3, ub, ue, rfl, ho2⟩, hb10⟩; have hb11 := Below.next hb10 (below_alloc w10 (duO (.slice b1 s3.l.length e1) (.slice b2 s3.tr.length e2) (.slice b3 s3.pt.length e3) (.slice ub s3.ns.length ue) (.slice none 0 0))); have S11 := hid (S9.out.next hb11); have HA := hid ((hb11.block _ (lt_of_block HD9.out)).trans HD9.out); have HB := hid (heap_alloc_new w10 (duO (.slice b1 s3.l.length e1) (.slice b2 s3.tr.length e2) (.slice b3 s3.pt.length e3) (.slice ub s3.ns.length ue) (.slice none 0 0))); have OA := hid (row_keep HO9.out (fun k hk => hb11.block k (HO9.out.lt k hk).2)); have OB := hid (row_keep ho2 (fun k hk => (below_alloc w10 (duO (.slice b1 s3.l.length e1) (.slice b2 s3.tr.length e2) (.slice b3 s3.pt.length e3) (.slice ub s3.ns.length ue) (.slice none 0 0))).block k (ho2.lt k hk).2)); have HX11 := hid ((hb11.block _ (lt_of_block HX9.out)).trans HX9.out); obtain ⟨⟨m0, m1⟩, mz⟩ := du_cells HA.out; obtain ⟨⟨n0, n1⟩, nz⟩ := du_cells HB.out; clear ho2 hb10 hb11)
              | (go_at_call 40; refine (S11.out.topE T9.out.l).mono ?_; rintro e w12 ⟨rfl, rfl⟩)
              | (go_at_call 41; refine (S11.out.pointsE (congrArg List.length T9.out.pt)).mono ?_; rintro e w12 ⟨rfl, rfl⟩)
              | (go_at_call 43; refine (usame_any (Nat.le_trans S11.out.l4 (by decide)) OA.out OB.out).mono ?_; rintro e w13 ⟨rfl, hb13⟩; have S13 := hid (S11.out.next hb13); have HX13 := hid ((hb13.block _ (lt_of_block HX11.out)).trans HX11.out); have m1' := (hb13.cell (p := ⟨w7.heap.size, 1, none⟩) mz).trans m1; have n1' := (hb13.cell (p := ⟨w10.heap.size, 1, none⟩) nz).trans n1; clear m0 m1 n0 n1; have m1 := m1'; have n1 := n1'; clear m1' n1'))
            go_roundw
            case rel => first | exact ⟨j + 1, _, congrArg (Value.int .i64) (by omega), by omega, hid (S13.out.less (fun k hk => Or.inl hk)), hM9, HX13⟩ | ((repeat apply Exists.intro); refine ⟨?_, rfl⟩; exact ⟨j + 1, _, congrArg (Value.int .i64) (by omega), by omega, hid (S13.out.less (fun k hk => Or.inl hk)), hM9, HX13⟩)
            case measure => simp [intOf]; omega
      · obtain rfl : j = 2 := by omega
        go_wp2
        go_ret
        exact ⟨rfl, hB.out.b⟩
end Go.Proofs.YtlibjdilicfcdaaGreatDoor

namespace Go.Proofs.YtlibjdilicfcdaaGreatDoor
set_option maxRecDepth 100000
open Go.RowKit Go.Maps
section
variable {W : World} {nv rv : Value} {g : Gf}
set_option maxHeartbeats 8000000 in
theorem stays_small (hG : Gr W nv rv g) (hs : smallK 200 g = false) (x0 x1 y0 y1 : Int) (pt : Bool) :
    Calls Tryz.prog 15 #[.agg #[nv, rv], .agg #[.int .i64 x0, .int .i64 x1], .agg #[.int .i64 y0, .int .i64 y1], .bool pt] W fun e w' => e = .returned (.bool true) ∧ Below W.heap.size W w' := by
  have HX0 := hid (bx3_start W nv rv x0 x1 y0 y1)
  have hsm := hid (fun w1 (h : Below W.heap.size W w1) => smallK_any (K := 200) (by decide) (hG.below h))
  rw [hs] at hsm
  obtain ⟨na, nc, rfl, _⟩ := hG.1
  obtain ⟨ra, rc, rfl, _⟩ := hG.2
  have t1 : True := trivial
  clear hG hs
  go_enter Tryz.func15, Tryz.ntmps15
  go_wp2_with (first
    | (go_at_call 7; have _m := t1; clear t1 _m; refine (ulives_any _).mono ?_; rintro e w1 ⟨rfl, hb1⟩; have HX1 := hid (HX0.out.next hb1); clear hb1; obtain ⟨⟨p0, p1⟩, _⟩ := cblk2 HX1.out.g; have p2 := lt_of_block HX1.out.g)
    | (go_at_call 8; refine (hsm.out _ HX1.out.b).mono ?_; rintro e w2 ⟨rfl, hb2⟩; have HX2 := hid (HX1.out.next hb2); clear hb2 p0 p1 p2; obtain ⟨⟨p0, p1⟩, _⟩ := cblk2 HX2.out.g; have p2 := lt_of_block HX2.out.g)
    | (go_at_call 7; refine (ulives_any _).mono ?_; rintro e w5 ⟨rfl, hb5⟩; have Hb5 := hid (Below.next HX2.out.b hb5); clear hb5))
  go_ret
  exact ⟨rfl, Hb5.out⟩
set_option maxHeartbeats 8000000 in
theorem stays_check (hG : Gr W nv rv g) (hS : Sized g) (hs : smallK 200 g = true) (hc : one (chk g) ≠ []) (x0 x1 y0 y1 : Int) (pt : Bool) :
    Calls Tryz.prog 15 #[.agg #[nv, rv], .agg #[.int .i64 x0, .int .i64 x1], .agg #[.int .i64 y0, .int .i64 y1], .bool pt] W fun e w' => e = .returned (.bool true) ∧ Below W.heap.size W w' := by
  have HX0 := hid (bx3_start W nv rv x0 x1 y0 y1)
  have hsm := hid (fun w1 (h : Below W.heap.size W w1) => smallK_any (K := 200) (by decide) (hG.below h))
  rw [hs] at hsm
  have hck : Hid (∀ w1, Below W.heap.size W w1 → Calls Tryz.prog 9 #[.agg #[nv, rv]] w1 fun e w' => (∃ b, e = .returned (.iface 84 (.pointer (some ⟨b, 0, none⟩)))) ∧ Below w1.heap.size w1 w') := fun w1 h => (check_any (hG.below h) hS).mono fun e w' ⟨⟨ev, e1, hE⟩, hb⟩ => ⟨by
    match h9 : one (chk g), hc, hE with
    | [], hc, _ => exact absurd rfl hc
    | x :: r, _, hE =>
      obtain ⟨_, b, ev', e2, _⟩ := hE
      exact ⟨b, by rw [e1, e2]⟩, hb⟩
  obtain ⟨na, nc, rfl, _⟩ := hG.1
  obtain ⟨ra, rc, rfl, _⟩ := hG.2
  have t1 : True := trivial
  clear hG hs hc
  go_enter Tryz.func15, Tryz.ntmps15
  go_wp2_with (first
    | (go_at_call 7; have _m := t1; clear t1 _m; refine (ulives_any _).mono ?_; rintro e w1 ⟨rfl, hb1⟩; have HX1 := hid (HX0.out.next hb1); clear hb1; obtain ⟨⟨p0, p1⟩, _⟩ := cblk2 HX1.out.g; have p2 := lt_of_block HX1.out.g)
    | (go_at_call 8; refine (hsm.out _ HX1.out.b).mono ?_; rintro e w2 ⟨rfl, hb2⟩; have HX2 := hid (HX1.out.next hb2); clear hb2 p0 p1 p2; obtain ⟨⟨p0, p1⟩, _⟩ := cblk2 HX2.out.g; have p2 := lt_of_block HX2.out.g)
    | (go_at_call 9; refine (hck.out _ HX2.out.b).mono ?_; rintro e w3 ⟨⟨b, rfl⟩, hb3⟩; have HX3 := hid (HX2.out.next hb3); clear hb3 p0 p1 p2; obtain ⟨⟨p0, p1⟩, _⟩ := cblk2 HX3.out.g; have p2 := lt_of_block HX3.out.g)
    | (go_at_call 7; refine (ulives_any _).mono ?_; rintro e w5 ⟨rfl, hb5⟩; have Hb5 := hid (Below.next HX3.out.b hb5); clear hb5))
  go_ret
  exact ⟨rfl, Hb5.out⟩
theorem stays_any (hE : ErrC W) (hG : Gr W nv rv g) (hS : Sized g) (x0 x1 y0 y1 : Int) (pt : Bool) :
    Calls Tryz.prog 15 #[.agg #[nv, rv], .agg #[.int .i64 x0, .int .i64 x1], .agg #[.int .i64 y0, .int .i64 y1], .bool pt] W fun e w' => e = .returned (.bool true) ∧ Below W.heap.size W w' := by
  cases hs : smallK 200 g with
  | false => exact stays_small hG hs x0 x1 y0 y1 pt
  | true =>
    by_cases hc : one (chk g) = []
    · exact stays_main hE hG hS hs hc x0 x1 y0 y1 pt
    · exact stays_check hG hS hs hc x0 x1 y0 y1 pt
set_option maxHeartbeats 2000000 in
theorem unifyStays_walk (hE : ErrC W) (hG : Gr W nv rv g) (hS : Sized g) (x0 x1 y0 y1 : Int) (pt : Bool) :
    Calls Tryz.prog 4 #[.agg #[nv, rv, .int .i64 x0, .int .i64 x1, .int .i64 y0, .int .i64 y1, .bool pt]] W fun e w' => e = .returned (.bool true) ∧ Below W.heap.size W w' := by
  have hb0 := hid (below_alloc W (.cells #[nv, rv, .int .i64 x0, .int .i64 x1, .int .i64 y0, .int .i64 y1, .bool pt] 44))
  have hst := hid (stays_any (hE.below hb0.out) (hG.below hb0.out) hS x0 x1 y0 y1 pt)
  obtain ⟨na, nc, rfl, _⟩ := hG.1
  obtain ⟨ra, rc, rfl, _⟩ := hG.2
  clear hG hE
  go_enter Tryz.func4, Tryz.ntmps4
  go_wp2_with (go_at_call 15; refine hst.out.mono ?_; rintro e w1 ⟨rfl, hb1⟩)
  go_ret
  exact ⟨rfl, Below.next hb0.out hb1⟩
end
end Go.Proofs.YtlibjdilicfcdaaGreatDoor

namespace Go.Proofs.YtlibjdilicfcdaaGreatDoor
set_option maxRecDepth 100000
open Go.ChangeShapes Go.WideShapes Go.ChangeAt Go.RowKit Go.Deep
theorem cellsP : Tryz.prog.cellsOf 42 = 2 := by kernel_rfl
theorem undP : Tryz.prog.underlying 42 = some (.array 2 3) := by kernel_rfl
theorem pair_of_cells {H : Type} {enc : TypeId × Value → H} {W : World} {fuel : Nat} {c0 c1 : Value} {x : DataW H × List MemPlace} (h : DataW.trod enc Tryz.prog W 0 (fun _ => true) true fuel 42 [c0, c1] = some x) :
    ∃ a b : Int, c0 = .int .i64 a ∧ c1 = .int .i64 b := by
  cases fuel with
  | zero => simp [DataW.trod] at h
  | succ n =>
    unfold DataW.trod at h
    rw [undP] at h
    have r2 : List.range 2 = [0, 1] := rfl
    simp only [r2, cellsI] at h
    cases h0 : DataW.trod enc Tryz.prog W 0 (fun _ => true) true n 3 [c0] with
    | none => simp [h0] at h
    | some y0 =>
      cases h1 : DataW.trod enc Tryz.prog W 0 (fun _ => true) true n 3 [c1] with
      | none => simp [h0, h1] at h
      | some y1 =>
        obtain ⟨a, e0, _, _⟩ := DataW.trod_int Tryz.underlying3 h0
        obtain ⟨b, e1, _, _⟩ := DataW.trod_int Tryz.underlying3 h1
        simp at e0 e1
        exact ⟨a, b, e0, e1⟩
theorem cellsTwo : Tryz.prog.cellsOf 44 = 7 := by kernel_rfl
theorem cellsBo : Tryz.prog.cellsOf 4 = 1 := by kernel_rfl
theorem two_of {H : Type} {enc : TypeId × Value → H} {W : World} {base : Nat} {u : Value} {d : DataW H} {p : List MemPlace} (hv : Value.okWide Tryz.prog W .any base 44 u) (h : DataW.Trod enc Tryz.prog W 0 (fun _ => true) true 44 u d p) :
    ∃ (nv rv : Value) (g : Gf) (x0 x1 y0 y1 : Int) (pt : Bool), u = .agg #[nv, rv, .int .i64 x0, .int .i64 x1, .int .i64 y0, .int .i64 y1, .bool pt] ∧ Gr W nv rv g ∧ Sized g := by
  obtain ⟨cs, rfl, hsz⟩ := okWide_struct Tryz.underlying44 hv
  obtain ⟨fuel, hf⟩ := h
  have hf' : DataW.trod enc Tryz.prog W 0 (fun _ => true) true fuel 44 cs.toList = some (d, p) := by simpa [Value.cells] using hf
  obtain ⟨xs, n, _, hx, hl, hlen, hF⟩ := DataW.trod_struct Tryz.underlying44 hf'
  rw [cellsTwo] at hl
  generalize hcs : cs.toList = cl at hl hF
  match cl, hl with
  | [c0, c1, c2, c3, c4, c5, c6], _ =>
    match xs, hlen with
    | [y0, y1, y2, y3], _ =>
      have h0 := hF 0 _ rfl
      have h1 := hF 1 _ rfl
      have h2 := hF 2 _ rfl
      have h3 := hF 3 _ rfl
      simp [cellsG] at h0
      simp [cellsP] at h1 h2
      simp [cellsBo] at h3
      obtain ⟨nv, rv, g, e0, hg, hs⟩ := graph_of_cells h0
      obtain ⟨x0, x1, f0, f1⟩ := pair_of_cells h1
      obtain ⟨z0, z1, f2, f3⟩ := pair_of_cells h2
      obtain ⟨pt, e3, _⟩ := DataW.trod_bool Tryz.underlying4 h3
      simp at e0 e3
      obtain ⟨rfl, rfl⟩ := e0
      subst f0 f1 f2 f3 e3
      refine ⟨_, _, g, x0, x1, z0, z1, pt, ?_, hg, hs⟩
      congr 1
      exact Array.toList_inj.1 (by simpa using hcs)
end Go.Proofs.YtlibjdilicfcdaaGreatDoor

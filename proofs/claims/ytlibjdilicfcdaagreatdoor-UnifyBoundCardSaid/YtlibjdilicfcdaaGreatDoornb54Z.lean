/- UnifyBound where it asks: walked. -/
import Derived.Deep.RegionHeld3
import Derived.Deep.DeepCutAuto
import Derived.Test.YtlibjdilicfcdaaGreatDoornb53Z
import Derived.Test.YtlibjdilicfcdaaGreatDoornb52Z
import Derived.Test.YtlibjdilicfcdaaGreatDoornb08Z
namespace Go.Proofs.YtlibjdilicfcdaaGreatDoor
set_option maxRecDepth 100000
open Go.RowKit Go.Maps
theorem skv_al {g i j : Nat} {x y : Int} {w : World} {o : Obj} (h : Skv g i j x y w) : Skv g i j x y (w.alloc o) :=
  ⟨((below_alloc w o).cell (p := ⟨g, i, none⟩) (lt_of_cell h.1)).trans h.1, ((below_alloc w o).cell (p := ⟨g, j, none⟩) (lt_of_cell h.2)).trans h.2⟩
theorem fewS0 (g : Gf) : Few (putHs hs0 (gAll g)) := ⟨by show (0 : Int) ≤ 0; decide, by show (0 : Int) ≤ _; decide, by show 0 ≤ _; omega, by show 0 ≤ _; omega⟩
theorem few_wrs {s s' : Hst} {k : Nat} (h : Wrs s k s') (hn : 0 ≤ s.n) (hn2 : s.n + k ≤ 4611686018427000000) (hp : s.pt.length ≤ 900000) (ht : s.tr.length + k ≤ 900000) : Few s' := by
  obtain ⟨k1, k2, k3, k4, k5, k6⟩ := h.keeps
  exact ⟨by omega, by omega, by rw [k2]; exact hp, by omega⟩
abbrev grO (nv rv : Value) : Obj := .cells #[nv, rv] 25
theorem al2_at (w : World) (o o2 : Obj) : ((w.alloc o).alloc o2).heap[w.heap.size + 1]? = some o2 := by
  have h9 := heap_alloc_new (w.alloc o) o2
  rw [show (w.alloc o).heap.size = w.heap.size + 1 by simp] at h9
  exact h9
theorem fr0 {w : World} {b : Nat} {u v : Value} {T : TypeId} (h : w.heap[b]? = some (.cells #[u, v] T)) : w.frozen? ⟨b, 0, none⟩ = false := by simp [World.frozen?, h]
theorem fr1 {w : World} {b : Nat} {u v : Value} {T : TypeId} (h : w.heap[b]? = some (.cells #[u, v] T)) : w.frozen? ⟨b, 1, none⟩ = false := by simp [World.frozen?, h]
theorem skv_set {g i j b k : Nat} {x y : Int} {w : World} {v : Value} (hne : g ≠ b) (h : Skv g i j x y w) : Skv g i j x y (w.setCell ⟨b, k, none⟩ v) := by
  have h9 : (w.setCell ⟨b, k, none⟩ v).heap[g]? = w.heap[g]? := Below.heap_setCell _ _ _ _ hne
  exact ⟨(World.cell?_of_block (w := w) (a := ⟨g, i, none⟩) h9).trans h.1, (World.cell?_of_block (w := w) (a := ⟨g, j, none⟩) h9).trans h.2⟩
abbrev Skg (xb rq rc : Nat) (x : Int) (w : World) : Prop := w.cell? ⟨xb, 1, none⟩ = some (.slice (some ⟨rq, 0, none⟩) 2 rc) ∧ w.cell? ⟨rq, 0, none⟩ = some (.int .i64 x) ∧ w.cell? ⟨rq, 1, none⟩ = some (.int .i64 x)
theorem skg_dr {xb rq rc : Nat} {x : Int} {w : World} (h : Skg xb rq rc x w) : Skg xb rq rc x w.drew := h
structure Gx (z xb : Nat) (nv : Value) (rq rc : Nat) (x : Int) (w : World) : Prop where
  xb0 : z ≤ xb
  rq0 : z ≤ rq
  rz : rq < w.heap.size
  hx : w.heap[xb]? = some (grO nv (.slice (some ⟨rq, 0, none⟩) 2 rc))
  r0 : w.cell? ⟨rq, 0, none⟩ = some (.int .i64 x)
  r1 : w.cell? ⟨rq, 1, none⟩ = some (.int .i64 x)
theorem Gx.keep {z xb : Nat} {nv : Value} {rq rc : Nat} {x : Int} {w w' : World} (h : Gx z xb nv rq rc x w) (hs : w.heap.size ≤ w'.heap.size) (hk : ∀ k, z ≤ k → k < w.heap.size → w'.heap[k]? = w.heap[k]?) : Gx z xb nv rq rc x w' := by
  have h1 := hk xb h.xb0 (lt_of_block h.hx)
  have h2 := hk rq h.rq0 h.rz
  have h3 := h.r0
  have h4 := h.r1
  exact ⟨h.xb0, h.rq0, Nat.lt_of_lt_of_le h.rz hs, h1.trans h.hx, by simpa [World.cell?, h2] using h3, by simpa [World.cell?, h2] using h4⟩
theorem gx_late {z rq rc : Nat} {nv : Value} {x : Int} {w : World} (hz : z ≤ w.heap.size) (hq : z ≤ rq) (hq2 : rq < w.heap.size) (r0 : w.cell? ⟨rq, 0, none⟩ = some (.int .i64 x)) (r1 : w.cell? ⟨rq, 1, none⟩ = some (.int .i64 x)) : Gx z w.heap.size nv rq rc x (w.alloc (grO nv (.slice (some ⟨rq, 0, none⟩) 2 rc))) :=
  ⟨hz, hq, Nat.lt_of_lt_of_le hq2 (below_alloc w _).size, heap_alloc_new w _, ((below_alloc w _).cell (p := ⟨rq, 0, none⟩) hq2).trans r0, ((below_alloc w _).cell (p := ⟨rq, 1, none⟩) hq2).trans r1⟩
theorem gx_early {z xb rq rc : Nat} {nv : Value} {x : Int} {w : World} (hz : z ≤ xb) (hq : z ≤ rq) (hq2 : rq < w.heap.size) (hne : rq ≠ xb) (hx : w.heap[xb]? = some (grO (.slice none 0 0) (.slice none 0 0))) (r0 : w.cell? ⟨rq, 0, none⟩ = some (.int .i64 x)) (r1 : w.cell? ⟨rq, 1, none⟩ = some (.int .i64 x)) : Gx z xb nv rq rc x ((w.setCell ⟨xb, 0, none⟩ nv).setCell ⟨xb, 1, none⟩ (.slice (some ⟨rq, 0, none⟩) 2 rc)) := by
  have h1 := heap_setCell_same w xb 0 _ _ nv hx
  have h2 := heap_setCell_same (w.setCell ⟨xb, 0, none⟩ nv) xb 1 _ _ (.slice (some ⟨rq, 0, none⟩) 2 rc) h1
  have h3 : ((w.setCell ⟨xb, 0, none⟩ nv).setCell ⟨xb, 1, none⟩ (.slice (some ⟨rq, 0, none⟩) 2 rc)).heap[rq]? = w.heap[rq]? := (Below.heap_setCell _ _ _ _ hne).trans (Below.heap_setCell _ _ _ _ hne)
  exact ⟨hz, hq, by simpa using hq2, h2, by simpa [World.cell?, h3] using r0, by simpa [World.cell?, h3] using r1⟩
set_option maxHeartbeats 16000000 in
theorem bound_main {W : World} {nv rv : Value} {g : Gf} (hG : Gr W nv rv g) (hS : Sized g) (hs : smallK 400 g = true) (hc : one (chk g) = []) (i j : Nat) (hi : i < g.nodes.length) (hj : j < g.nodes.length) :
    Calls Tryz.prog 3 #[.agg #[nv, rv], .int .i64 (i : Int), .int .i64 (j : Int)] W fun e w' => e = .returned (.bool true) ∧ Below W.heap.size W w' := by
  have hsz := smallK_fits hs
  have hb0 := hid (below_alloc W (grO nv rv))
  have hx0 := hid (heap_alloc_new W (grO nv rv))
  have hsm := hid (fun w1 (h : Below W.heap.size W w1) => smallK_any (K := 400) (by decide) (hG.below h))
  rw [hs] at hsm
  have hck := hid (fun w1 (h : Below W.heap.size W w1) => check_any (hG.below h) hS)
  rw [hc] at hck
  obtain ⟨hp1, hp2⟩ := putc_small (z := 20000) hc hsz.2.1 (by decide)
  have hld := hid (fun w1 (h : Below W.heap.size W w1) => laid_ok (hG.below h) hS (by omega) 20000 (by decide) (by decide) hp1)
  have Hp2 := hid hp2
  obtain ⟨na, nc, rfl, _⟩ := hG.1
  obtain ⟨ra, rc, rfl, _⟩ := hG.2
  have hnz : g.nodes.length ≤ 400 := hsz.2.1
  have hi0 : ¬ ((i : Int) < 0) := by omega
  have hj0 : ¬ ((j : Int) < 0) := by omega
  have hi1 : ¬ ((g.nodes.length : Int) ≤ (i : Int)) := by omega
  have hj1 : ¬ ((g.nodes.length : Int) ≤ (j : Int)) := by omega
  have hi2 : (i : Int) < (g.nodes.length : Int) := by omega
  have hj2 : (j : Int) < (g.nodes.length : Int) := by omega
  clear hG hs hc hp1 hp2 hsz
  go_enter Tryz.func3, Tryz.ntmps3
  go_wp2_with (first
    | (go_at_call 7; refine (ulives_any _).mono ?_; rintro e w1 ⟨rfl, hb1⟩; have HX1 := hid ((hb1.block _ (by simp)).trans hx0.out); have Hb1 := hid (Below.next hb0.out hb1); obtain ⟨⟨x0, x1⟩, _⟩ := cblk2 HX1.out; have x2 := lt_of_block HX1.out; clear hb1)
    | (go_at_call 8; refine (hsm.out _ Hb1.out).mono ?_; rintro e w2 ⟨rfl, hb2⟩; have HX2 := hid ((hb2.block _ (lt_of_block HX1.out)).trans HX1.out); have Hb2 := hid (Below.next Hb1.out hb2); clear hb2 x0 x1 x2; obtain ⟨⟨x0, x1⟩, _⟩ := cblk2 HX2.out; have x2 := lt_of_block HX2.out)
    | (go_at_call 9; refine (hck.out _ Hb2.out).mono ?_; rintro e w3 ⟨⟨ev, rfl, hE⟩, hb3⟩; obtain rfl : ev = .nilIface := hE; have HX3 := hid ((hb3.block _ (lt_of_block HX2.out)).trans HX2.out); have Hb3 := hid (Below.next Hb2.out hb3); clear hb3 x0 x1 x2; obtain ⟨⟨x0, x1⟩, _⟩ := cblk2 HX3.out; have x2 := lt_of_block HX3.out)
    | (go_at_call 10; refine (hld.out _ Hb3.out).mono ?_; rintro e w4 ⟨⟨hb, F, ao, c, rfl, ho, hH, hF, hjj, hpm⟩, hb4⟩; obtain ⟨q, rfl, hqc, hqz, hB⟩ := bs_of Hb3.out hb4 Hp2.out (by omega) ho hH hF hjj hpm; have S4 := hid hB; clear ho hH hF hjj hpm hb4 hB x0 x1 x2))
  obtain ⟨s0, hs0⟩ : ∃ s0, s0 = putHs hs0 (gAll g) := ⟨_, rfl⟩
  have hs0n : s0.n = 0 := by rw [hs0]; rfl
  have Hf0 : Hid (Few s0) := by rw [hs0]; exact fewS0 g
  have Ht0 : Hid (s0.pt.length = 0 ∧ s0.tr.length = 0) := by rw [hs0]; exact ⟨rfl, rfl⟩
  rw [← hs0] at S4
  have Hs0n := hid hs0n
  clear hs0 hs0n hld hck hsm hx0 hb0 HX1 HX2 HX3 Hb1 Hb2 Hb3 Hp2 hi0 hj0 hi1 hj1
  have d0 := S4.out.r i hi
  have d1 := S4.out.r j hj
  have hreach : Hid (∀ wx b, Below w4.heap.size w4 wx → wx.heap[b]? = some (.cells #[.int .i64 (i : Int), .int .i64 (j : Int)] 3) → Calls Tryz.prog 11 #[.pointer (some ⟨hb, 0, none⟩), .slice (some ⟨b, 0, none⟩) 2 2] wx fun e w' => ∃ M, e = .returned (.tuple #[.int .i64 (M.length : Int), .nilIface]) ∧ RcS s0.l [(i : Int), (j : Int)] M ∧ Bs W w3.heap.size hb q g.nodes.length 20000 s0 w') := fun wx b hbx hx => (S4.out.next hbx).reach hi hj (ri_lit2 hx)
  go_cut [9, 10] from 58 to 71 (fun s9 s10 wc => ∃ M : List Int, s9 = .int .i64 (M.length : Int) ∧ s10 = .nilIface ∧ Hid (RcS s0.l [(i : Int), (j : Int)] M) ∧ Hid (Bs W w3.heap.size hb q g.nodes.length 20000 s0 wc))
  case first =>
    go_region_held3 (fun w' => Skv q i j (i : Int) (j : Int) w') (first | (with_reducible exact ⟨d0, d1⟩) | (with_reducible exact skv_dr ⟨d0, d1⟩) | (with_reducible exact skv_al ⟨d0, d1⟩) | (with_reducible exact skv_al (skv_dr ⟨d0, d1⟩)) | (with_reducible exact skv_dr (skv_al ⟨d0, d1⟩)))
      (first | (go_at_call 11; refine (hreach.out _ w4.heap.size (((Below.refl _ w4).alloc (Nat.le_refl _) _).drew) (heap_alloc_new w4 _)).mono ?_; rintro e w5 ⟨M, rfl, hM, hB5⟩; have HM := hid hM; have S5 := hid hB5; clear hM hB5 d0 d1; have d0 := S5.out.r i hi; have d1 := S5.out.r j hj))
    all_goals go_wp2_with fail
    all_goals go_meet
    all_goals exact ⟨M, rfl, rfl, HM, S5⟩
  case rest =>
    obtain ⟨M, rfl, rfl, HM, S5⟩ := hcut
    clear d0 d1 hreach S4
    go_wp2_with fail
    have d0 := S5.out.r i hi
    have d1 := S5.out.r j hj
    have hun := hid (S5.out.unify (Below.refl _ wc).drew Hf0.out (S5.out.c i hi) (S5.out.c j hj))
    go_cut [11, 12] from 72 to 84 (fun s11 s12 wx => ∃ ok : Bool, s11 = .bool ok ∧ s12 = .nilIface ∧ Hid ((ok = true → ∃ E k s', UnR s0 [(utI s0.l i, utI s0.l j)] E k s' ∧ Bs W w3.heap.size hb q g.nodes.length 20000 s' wx) ∧ (ok = false → Bs W w3.heap.size hb q g.nodes.length 20000 s0 wx)))
    case first =>
      go_region_held3 (fun w' => Skv q i j (i : Int) (j : Int) w') (first | (with_reducible exact ⟨d0, d1⟩) | (with_reducible exact skv_dr ⟨d0, d1⟩))
        (first | (go_at_call 12; refine hun.out.mono ?_; rintro e w6 ⟨ok, rfl, hy, hn, _⟩; have HY : Hid ((ok = true → ∃ E k s', UnR s0 [(utI s0.l i, utI s0.l j)] E k s' ∧ Bs W w3.heap.size hb q g.nodes.length 20000 s' w6) ∧ (ok = false → Bs W w3.heap.size hb q g.nodes.length 20000 s0 w6)) := ⟨hy, fun h => (hn h).2.1⟩; have hx6 : ∃ s', Bs W w3.heap.size hb q g.nodes.length 20000 s' w6 := (match ok, HY.out with | true, h9 => let ⟨_, _, s', _, h8⟩ := h9.1 rfl; ⟨s', h8⟩ | false, h9 => ⟨s0, h9.2 rfl⟩); clear hy hn d0 d1; obtain ⟨s9, hx9⟩ := hx6; have d0 := hx9.r i hi; have d1 := hx9.r j hj; clear hx9))
      all_goals go_wp2_with fail
      all_goals go_meet
      all_goals exact ⟨ok, rfl, rfl, HY⟩
    case rest =>
      obtain ⟨ok, rfl, rfl, HY⟩ := hcut
      clear d0 d1 hun
      cases ok with
      | false =>
        have S6 := hid (HY.out.2 rfl)
        have hM0 : ¬ ((M.length : Int) < 0) := by omega
        have hwr := hid (S6.out.writes)
        rw [Hs0n.out] at hwr
        clear HY HM
        go_wp2_with (go_at_call 13; refine hwr.out.mono ?_; rintro e w7 ⟨rfl, hB7, _⟩; have S7 := hid hB7; clear hB7)
        go_ret
        exact ⟨rfl, S7.out.b⟩
      | true =>
        obtain ⟨E, k, s1, hR, hB6⟩ := HY.out.1 rfl
        obtain ⟨⟨V, hV⟩, hN⟩ := S5.out.sn
        have hl4 := S5.out.l4
        have hbd := hR.bound hV hN S5.out.nd (by omega) (Nat.lt_of_lt_of_le hi S5.out.n0) (Nat.lt_of_lt_of_le hj S5.out.n0) HM.out
        obtain ⟨k1, k2, k3, k4, k5, k6⟩ := hR.wr.keeps
        have hsn : s1.n = (k : Int) := by rw [k3, Hs0n.out]; simp
        have hkl : k ≤ 4000 := by
          obtain ⟨xs, g1, g2, g3⟩ := hR.nd
          have h9 := nodup_valsG (fun x => x) (utT s0.l).length xs g2 (fun x hx => ⟨x, (g3 x hx).1, rfl⟩)
          have h8 := ut_len (l := s0.l)
          omega
        have hf1 : Hid (Few s1) := few_wrs hR.wr Hf0.out.n0 (by rw [Hs0n.out]; omega) (by have := Ht0.out.1; omega) (by have := Ht0.out.2; omega)
        have hone := hid (hR.one (Nat.lt_of_lt_of_le hi S5.out.n0) (Nat.lt_of_lt_of_le hj S5.out.n0))
        have hM0 : ¬ ((M.length : Int) < (k : Int)) := by omega
        have S6 := hid hB6
        have hwr := hid (S6.out.writes)
        rw [hsn] at hwr
        have Hsn := hid hsn
        clear HY HM hR hB6 hV hN hl4 k1 k2 k3 k4 k5 k6 hsn hbd
        go_wp2_with (go_at_call 13; refine hwr.out.mono ?_; rintro e w7 ⟨rfl, hB7, _⟩; have S7 := hid hB7; clear hB7)
        have d0 := S7.out.r i hi
        have d1 := S7.out.r j hj
        have hget : Hid (∀ wx b, Below w7.heap.size w7 wx → wx.heap[b]? = some (.cells #[.int .i64 (i : Int), .int .i64 (j : Int)] 3) → Calls Tryz.prog 14 #[.pointer (some ⟨hb, 0, none⟩), .slice (some ⟨b, 0, none⟩) 2 2] wx fun e w' => ∃ nv rq rc x, e = .returned (.tuple #[.agg #[nv, .slice (some ⟨rq, 0, none⟩) 2 rc], .nilIface]) ∧ (∃ na nl nc, nv = .slice na nl nc) ∧ 2 ≤ rc ∧ w'.cell? ⟨rq, 0, none⟩ = some (.int .i64 x) ∧ w'.cell? ⟨rq, 1, none⟩ = some (.int .i64 x) ∧ Bs W w3.heap.size hb q g.nodes.length 20000 s1 w' ∧ Below wx.heap.size wx w' ∧ wx.heap.size ≤ rq ∧ rq < w'.heap.size) := fun wx b hbx hx => (S7.out.next hbx).get2 hi hj hone.out (ri_lit2 hx)
        have hbA := hid ((((Below.refl w7.heap.size w7).alloc (Nat.le_refl _) (.cells #[.int .i64 (i : Int), .int .i64 (j : Int)] 3)).drew))
        have hbB := hid (((((Below.refl w7.heap.size w7).alloc (Nat.le_refl _) (.cells #[.int .i64 (i : Int), .int .i64 (j : Int)] 3)).alloc (by simp) (grO (.slice none 0 0) (.slice none 0 0))).drew))
        have hbC := hid (((((Below.refl w7.heap.size w7).alloc (Nat.le_refl _) (grO (.slice none 0 0) (.slice none 0 0))).alloc (by simp) (.cells #[.int .i64 (i : Int), .int .i64 (j : Int)] 3)).drew))
        have hgA := hid (hget.out (w7.alloc (.cells #[.int .i64 (i : Int), .int .i64 (j : Int)] 3)).drew w7.heap.size hbA.out (heap_alloc_new w7 (.cells #[.int .i64 (i : Int), .int .i64 (j : Int)] 3)))
        have hgB := hid (hget.out ((w7.alloc (.cells #[.int .i64 (i : Int), .int .i64 (j : Int)] 3)).alloc (grO (.slice none 0 0) (.slice none 0 0))).drew w7.heap.size hbB.out ((Below.heap_alloc _ _ _ (by simp)).trans (heap_alloc_new w7 (.cells #[.int .i64 (i : Int), .int .i64 (j : Int)] 3))))
        have hgC := hid (hget.out ((w7.alloc (grO (.slice none 0 0) (.slice none 0 0))).alloc (.cells #[.int .i64 (i : Int), .int .i64 (j : Int)] 3)).drew (w7.heap.size + 1) hbC.out (al2_at w7 (grO (.slice none 0 0) (.slice none 0 0)) (.cells #[.int .i64 (i : Int), .int .i64 (j : Int)] 3)))
        have hxB : Hid (w7.heap.size + 1 < ((w7.alloc (.cells #[.int .i64 (i : Int), .int .i64 (j : Int)] 3)).alloc (grO (.slice none 0 0) (.slice none 0 0))).drew.heap.size ∧ ((w7.alloc (.cells #[.int .i64 (i : Int), .int .i64 (j : Int)] 3)).alloc (grO (.slice none 0 0) (.slice none 0 0))).drew.heap[w7.heap.size + 1]? = some (grO (.slice none 0 0) (.slice none 0 0))) := ⟨lt_of_block (al2_at w7 (.cells #[.int .i64 (i : Int), .int .i64 (j : Int)] 3) (grO (.slice none 0 0) (.slice none 0 0))), al2_at w7 (.cells #[.int .i64 (i : Int), .int .i64 (j : Int)] 3) (grO (.slice none 0 0) (.slice none 0 0))⟩
        have hxC : Hid (w7.heap.size < ((w7.alloc (grO (.slice none 0 0) (.slice none 0 0))).alloc (.cells #[.int .i64 (i : Int), .int .i64 (j : Int)] 3)).drew.heap.size ∧ ((w7.alloc (grO (.slice none 0 0) (.slice none 0 0))).alloc (.cells #[.int .i64 (i : Int), .int .i64 (j : Int)] 3)).drew.heap[w7.heap.size]? = some (grO (.slice none 0 0) (.slice none 0 0))) := ⟨Nat.lt_of_succ_lt (lt_of_block (al2_at w7 (grO (.slice none 0 0) (.slice none 0 0)) (.cells #[.int .i64 (i : Int), .int .i64 (j : Int)] 3))), (Below.heap_alloc _ _ _ (by simp)).trans (heap_alloc_new w7 (grO (.slice none 0 0) (.slice none 0 0)))⟩
        have hqA : Hid (∀ rq, (w7.alloc (.cells #[.int .i64 (i : Int), .int .i64 (j : Int)] 3)).drew.heap.size ≤ rq → w7.heap.size ≤ rq) := fun rq h => Nat.le_trans hbA.out.size h
        have hqB : Hid (∀ rq, ((w7.alloc (.cells #[.int .i64 (i : Int), .int .i64 (j : Int)] 3)).alloc (grO (.slice none 0 0) (.slice none 0 0))).drew.heap.size ≤ rq → w7.heap.size ≤ rq ∧ rq ≠ w7.heap.size + 1) := fun rq h => ⟨Nat.le_trans hbB.out.size h, fun e => by have := hxB.out.1; omega⟩
        have hqC : Hid (∀ rq, ((w7.alloc (grO (.slice none 0 0) (.slice none 0 0))).alloc (.cells #[.int .i64 (i : Int), .int .i64 (j : Int)] 3)).drew.heap.size ≤ rq → w7.heap.size ≤ rq ∧ rq ≠ w7.heap.size) := fun rq h => ⟨Nat.le_trans hbC.out.size h, fun e => by have := hxC.out.1; omega⟩
        have hQB : Hid (q ≠ w7.heap.size + 1) := fun e => by have := S7.out.z (by omega); omega
        have hQC : Hid (q ≠ w7.heap.size) := fun e => by have := S7.out.z (by omega); omega
        clear hget hM0
        go_cut [14, 10] from 85 to 113 (fun s14 s10 wg => ∃ (xb : Nat) (nv : Value) (rq rc : Nat) (x : Int), s14 = .pointer (some ⟨xb, 0, none⟩) ∧ s10 = .nilIface ∧ 2 ≤ rc ∧ Hid (Gx w7.heap.size xb nv rq rc x wg) ∧ Hid (Below w7.heap.size w7 wg))
        case first =>
          go_region_held3 (fun w' => Skv q i j (i : Int) (j : Int) w') (first | (with_reducible exact ⟨d0, d1⟩) | (with_reducible exact skv_dr ⟨d0, d1⟩) | (with_reducible exact skv_al ⟨d0, d1⟩) | (with_reducible exact skv_al (skv_dr ⟨d0, d1⟩)) | (with_reducible exact skv_dr (skv_al ⟨d0, d1⟩)) | (with_reducible exact skv_dr (skv_al (skv_al ⟨d0, d1⟩))) | (with_reducible exact skv_al (skv_al (skv_dr ⟨d0, d1⟩))) | (with_reducible exact skv_al (skv_al ⟨d0, d1⟩)) | (with_reducible exact skv_set hq7 (skv_set hq7 ⟨d0, d1⟩)) | (with_reducible exact skv_dr (skv_set hq7 (skv_set hq7 ⟨d0, d1⟩))) | (with_reducible exact skv_set hq7 (skv_set hq7 (skv_dr ⟨d0, d1⟩))))
            (first
              | (go_at_call 14; (with_reducible refine hgA.out.mono ?_); rintro e w8 ⟨nv, rq, rc, x, rfl, ⟨na8, nl8, nc8, rfl⟩, hrc, hz0, hz1, hB8, hb8, hq8, hq9⟩; have S8 := hid hB8; have Q8 := hid (And.intro hq9 (And.intro hz0 hz1)); clear d0 d1; have d0 := S8.out.r i hi; have d1 := S8.out.r j hj; have B8 := hid (Below.next hbA.out hb8); have T8 := hid (hqA.out rq hq8); clear hB8 hb8 hq8 hq9 hz0 hz1)
              | (go_at_call 14; (with_reducible refine hgB.out.mono ?_); rintro e w8 ⟨nv, rq, rc, x, rfl, ⟨na8, nl8, nc8, rfl⟩, hrc, hz0, hz1, hB8, hb8, hq8, hq9⟩; have S8 := hid hB8; have Q8 := hid (And.intro hq9 (And.intro hz0 hz1)); clear d0 d1; have d0 := S8.out.r i hi; have d1 := S8.out.r j hj; have hx8 := (hb8.block _ hxB.out.1).trans hxB.out.2; have B8 := hid (Below.next hbB.out hb8); have T8 := hid (hqB.out rq hq8); have hq7 := hQB.out; have hx9 := hid hx8; obtain ⟨⟨f0, f1⟩, f2⟩ := cblk2 hx8; have f3 := lt_of_block hx8; have f4 := fr0 hx8; have f5 := fr1 hx8; clear hx8; clear hB8 hb8 hq8 hq9 hz0 hz1)
              | (go_at_call 14; (with_reducible refine hgC.out.mono ?_); rintro e w8 ⟨nv, rq, rc, x, rfl, ⟨na8, nl8, nc8, rfl⟩, hrc, hz0, hz1, hB8, hb8, hq8, hq9⟩; have S8 := hid hB8; have Q8 := hid (And.intro hq9 (And.intro hz0 hz1)); clear d0 d1; have d0 := S8.out.r i hi; have d1 := S8.out.r j hj; have hx8 := (hb8.block _ hxC.out.1).trans hxC.out.2; have B8 := hid (Below.next hbC.out hb8); have T8 := hid (hqC.out rq hq8); have hq7 := hQC.out; have hx9 := hid hx8; obtain ⟨⟨f0, f1⟩, f2⟩ := cblk2 hx8; have f3 := lt_of_block hx8; have f4 := fr0 hx8; have f5 := fr1 hx8; clear hx8; clear hB8 hb8 hq8 hq9 hz0 hz1))
          all_goals go_wp2_with fail
          all_goals go_meet
          all_goals first
            | exact ⟨_, _, rq, rc, x, rfl, rfl, hrc, hid (gx_late B8.out.size T8.out Q8.out.1 Q8.out.2.1 Q8.out.2.2), hid (B8.out.alloc B8.out.size _)⟩
            | exact ⟨_, _, rq, rc, x, rfl, rfl, hrc, hid (gx_early (by omega) T8.out.1 Q8.out.1 T8.out.2 hx9.out Q8.out.2.1 Q8.out.2.2), hid ((B8.out.setCell (by first | exact Nat.le_refl _ | exact Nat.le_succ _) _).setCell (by first | exact Nat.le_refl _ | exact Nat.le_succ _) _)⟩
        case rest =>
          obtain ⟨xb, nv, rq, rc, x, rfl, rfl, hrc, hX, hB⟩ := hcut
          clear d0 d1 hbA hbB hbC hgA hgB hgC hxB hxC hqA hqB hqC hQB hQC
          go_wp2_with fail
          have hSx := S7.out.next hB.out
          have d0 := hSx.r i hi
          have d1 := hSx.r j hj
          have hij : utI s1.l j = utI s1.l i := (utI_eq (Nat.lt_of_lt_of_le hj S7.out.n0) (Nat.lt_of_lt_of_le hi S7.out.n0)).2 hone.out.symm
          have hun2 : Hid (Calls Tryz.prog 12 #[.pointer (some ⟨hb, 0, none⟩), .int .i64 (j : Int), .int .i64 (i : Int)] wc.drew fun e w' => e = .returned (.tuple #[.bool true, .nilIface]) ∧ ∃ s2 : Hst, s2.n = (k : Int) ∧ Bs W w3.heap.size hb q g.nodes.length 20000 s2 w' ∧ Gx w7.heap.size xb nv rq rc x w') := (S7.out.unify (hB.out.drew) hf1.out (S7.out.c j hj) (S7.out.c i hi)).mono fun e w' ⟨ok, e1, hy, hn, hkp, hkz⟩ => by
            cases ok with
            | true =>
              obtain ⟨E, k2, s2, hR2, hB2⟩ := hy rfl
              have h9 : k2 = 0 := by
                have hR3 : UnR s1 [(utI s1.l j, utI s1.l i)] E k2 s2 := hR2
                rw [hij] at hR3
                exact hR3.none
              refine ⟨e1, s2, ?_, hB2, hX.out.keep hkz hkp⟩
              rw [hR2.wr.keeps.2.2.1, h9, Hsn.out]
              simp
            | false =>
              have h8 : NoSol (utN s1.l s1.ns) [(utI s1.l j, utI s1.l i)] := (hn rfl).1
              rw [hij] at h8
              exact (nosol_same h8).elim
          clear hSx hij
          go_cut [12, 15] from 114 to 126 (fun s12 s15 wy => s15 = .bool true ∧ s12 = .nilIface ∧ ∃ s2 : Hst, Hid (s2.n = (k : Int)) ∧ Hid (Bs W w3.heap.size hb q g.nodes.length 20000 s2 wy) ∧ Hid (Gx w7.heap.size xb nv rq rc x wy))
          case first =>
            go_region_held3 (fun w' => Skv q i j (i : Int) (j : Int) w') (first | (with_reducible exact ⟨d0, d1⟩) | (with_reducible exact skv_dr ⟨d0, d1⟩))
              (first | (go_at_call 12; (with_reducible refine hun2.out.mono ?_); rintro e w9 ⟨rfl, s2, g1, g2, g3⟩; have S9 := hid g2; have X9 := hid g3; have N9 := hid g1; clear g1 g2 g3 d0 d1; have d0 := S9.out.r i hi; have d1 := S9.out.r j hj))
            all_goals go_wp2_with fail
            all_goals go_meet
            all_goals exact ⟨rfl, rfl, s2, N9, S9, X9⟩
          case rest =>
            obtain ⟨rfl, rfl, s2, N9, S9, X9⟩ := hcut
            clear d0 d1 hun2 hX hB
            go_wp2_with fail
            have b0 := (cblk2 X9.out.hx).1.2
            have b1 := X9.out.r0
            have b2 := X9.out.r1
            have hwr2 : Hid (∀ wz, Below wc.heap.size wc wz → Calls Tryz.prog 13 #[.pointer (some ⟨hb, 0, none⟩)] wz fun e w' => e = .returned (.int .i64 (k : Int)) ∧ Below W.heap.size W w' ∧ Below wz.heap.size wz w') := fun wz hz => by
              have h9 := (S9.out.next hz).writes
              rw [N9.out] at h9
              exact h9.mono fun e w' ⟨e1, e2, e3⟩ => ⟨e1, e2.b, e3⟩
            have zx := lt_of_block X9.out.hx
            have zq := X9.out.rz
            have hr2 : (2 : Nat) ≤ rc := hrc
            clear S9 N9 X9 hrc
            go_cut [6] from 127 to 158 (fun s6 wz => s6 = .bool true ∧ Hid (Below W.heap.size W wz))
            case first =>
              go_region_held3 (fun w' => Skg xb rq rc x w') (first | (with_reducible exact ⟨b0, b1, b2⟩) | (with_reducible exact skg_dr ⟨b0, b1, b2⟩))
                (first | (go_at_call 13; refine (hwr2.out _ (by first | (with_reducible exact Below.refl _ _) | (with_reducible exact (Below.refl _ _).drew) | (with_reducible exact below_drewN (Below.refl _ _) _))).mono ?_; rintro e wk ⟨rfl, hbk, hbk2⟩; have BK := hid hbk; have f0 := (hbk2.cell (p := ⟨xb, 1, none⟩) zx).trans b0; have f1 := (hbk2.cell (p := ⟨rq, 0, none⟩) zq).trans b1; have f2 := (hbk2.cell (p := ⟨rq, 1, none⟩) zq).trans b2; clear b0 b1 b2 hbk hbk2; have b0 := f0; have b1 := f1; have b2 := f2))
              all_goals go_wp2_with fail
              all_goals go_meet
              all_goals exact ⟨rfl, BK⟩
            case rest =>
              obtain ⟨rfl, hZ⟩ := hcut
              go_wp2
              go_ret
              exact ⟨rfl, hZ.out⟩
end Go.Proofs.YtlibjdilicfcdaaGreatDoor

namespace Go.Proofs.YtlibjdilicfcdaaGreatDoor
set_option maxRecDepth 100000
open Go.RowKit Go.Maps
set_option maxHeartbeats 8000000 in
theorem bound_small {W : World} {nv rv : Value} {g : Gf} (hG : Gr W nv rv g) (hs : smallK 400 g = false) (i j : Int) :
    Calls Tryz.prog 3 #[.agg #[nv, rv], .int .i64 i, .int .i64 j] W fun e w' => e = .returned (.bool true) ∧ Below W.heap.size W w' := by
  have hb0 := hid (below_alloc W (grO nv rv))
  have hx0 := hid (heap_alloc_new W (grO nv rv))
  have hsm := hid (fun w1 (h : Below W.heap.size W w1) => smallK_any (K := 400) (by decide) (hG.below h))
  rw [hs] at hsm
  obtain ⟨na, nc, rfl, _⟩ := hG.1
  obtain ⟨ra, rc, rfl, _⟩ := hG.2
  have t1 : True := trivial
  clear hG hs
  go_enter Tryz.func3, Tryz.ntmps3
  go_wp2_with (first
    | (go_at_call 7; have _m := t1; clear t1 _m; refine (ulives_any _).mono ?_; rintro e w1 ⟨rfl, hb1⟩; have HX1 := hid ((hb1.block _ (by simp)).trans hx0.out); have Hb1 := hid (Below.next hb0.out hb1); obtain ⟨⟨x0, x1⟩, _⟩ := cblk2 HX1.out; have x2 := lt_of_block HX1.out; clear hb1)
    | (go_at_call 8; refine (hsm.out _ Hb1.out).mono ?_; rintro e w2 ⟨rfl, hb2⟩; have HX2 := hid ((hb2.block _ (lt_of_block HX1.out)).trans HX1.out); have Hb2 := hid (Below.next Hb1.out hb2); clear hb2 x0 x1 x2; obtain ⟨⟨x0, x1⟩, _⟩ := cblk2 HX2.out; have x2 := lt_of_block HX2.out)
    | (go_at_call 7; refine (ulives_any _).mono ?_; rintro e w5 ⟨rfl, hb5⟩; have Hb5 := hid (Below.next Hb2.out hb5); clear hb5))
  go_ret
  exact ⟨rfl, Hb5.out⟩
set_option maxHeartbeats 8000000 in
theorem bound_check {W : World} {nv rv : Value} {g : Gf} (hG : Gr W nv rv g) (hS : Sized g) (hs : smallK 400 g = true) (hc : one (chk g) ≠ []) (i j : Int) :
    Calls Tryz.prog 3 #[.agg #[nv, rv], .int .i64 i, .int .i64 j] W fun e w' => e = .returned (.bool true) ∧ Below W.heap.size W w' := by
  have hb0 := hid (below_alloc W (grO nv rv))
  have hx0 := hid (heap_alloc_new W (grO nv rv))
  have hsm := hid (fun w1 (h : Below W.heap.size W w1) => smallK_any (K := 400) (by decide) (hG.below h))
  rw [hs] at hsm
  have hck : Hid (∀ w1, Below W.heap.size W w1 → Calls Tryz.prog 9 #[.agg #[nv, rv]] w1 fun e w' => (∃ b, e = .returned (.iface 84 (.pointer (some ⟨b, 0, none⟩)))) ∧ Below w1.heap.size w1 w') := fun w1 h => (check_any (hG.below h) hS).mono fun e w' ⟨⟨ev, e1, hE⟩, hb⟩ => ⟨by
    match h9 : one (chk g), hc, hE with
    | [], hc, _ => exact absurd rfl hc
    | x :: r, _, hE =>
      obtain ⟨_, b, ev', e2, _⟩ := hE
      exact ⟨b, by rw [e1, e2]⟩, hb⟩
  obtain ⟨na, nc, rfl, _⟩ := hG.1
  obtain ⟨ra, rc, rfl, _⟩ := hG.2
  have t1 : True := trivial
  clear hG hs hc
  go_enter Tryz.func3, Tryz.ntmps3
  go_wp2_with (first
    | (go_at_call 7; have _m := t1; clear t1 _m; refine (ulives_any _).mono ?_; rintro e w1 ⟨rfl, hb1⟩; have HX1 := hid ((hb1.block _ (by simp)).trans hx0.out); have Hb1 := hid (Below.next hb0.out hb1); obtain ⟨⟨x0, x1⟩, _⟩ := cblk2 HX1.out; have x2 := lt_of_block HX1.out; clear hb1)
    | (go_at_call 8; refine (hsm.out _ Hb1.out).mono ?_; rintro e w2 ⟨rfl, hb2⟩; have HX2 := hid ((hb2.block _ (lt_of_block HX1.out)).trans HX1.out); have Hb2 := hid (Below.next Hb1.out hb2); clear hb2 x0 x1 x2; obtain ⟨⟨x0, x1⟩, _⟩ := cblk2 HX2.out; have x2 := lt_of_block HX2.out)
    | (go_at_call 9; refine (hck.out _ Hb2.out).mono ?_; rintro e w3 ⟨⟨b, rfl⟩, hb3⟩; have HX3 := hid ((hb3.block _ (lt_of_block HX2.out)).trans HX2.out); have Hb3 := hid (Below.next Hb2.out hb3); clear hb3 x0 x1 x2; obtain ⟨⟨x0, x1⟩, _⟩ := cblk2 HX3.out; have x2 := lt_of_block HX3.out)
    | (go_at_call 7; refine (ulives_any _).mono ?_; rintro e w5 ⟨rfl, hb5⟩; have Hb5 := hid (Below.next Hb3.out hb5); clear hb5))
  go_ret
  exact ⟨rfl, Hb5.out⟩
set_option maxHeartbeats 8000000 in
theorem bound_out {W : World} {nv rv : Value} {g : Gf} (hG : Gr W nv rv g) (hS : Sized g) (hs : smallK 400 g = true) (hc : one (chk g) = []) (i j : Int) (ho : ¬ (0 ≤ i ∧ 0 ≤ j ∧ i < (g.nodes.length : Int) ∧ j < (g.nodes.length : Int))) :
    Calls Tryz.prog 3 #[.agg #[nv, rv], .int .i64 i, .int .i64 j] W fun e w' => e = .returned (.bool true) ∧ Below W.heap.size W w' := by
  have hsz := (smallK_fits hs).2.1
  have hb0 := hid (below_alloc W (grO nv rv))
  have hx0 := hid (heap_alloc_new W (grO nv rv))
  have hsm := hid (fun w1 (h : Below W.heap.size W w1) => smallK_any (K := 400) (by decide) (hG.below h))
  rw [hs] at hsm
  have hck := hid (fun w1 (h : Below W.heap.size W w1) => check_any (hG.below h) hS)
  rw [hc] at hck
  obtain ⟨na, nc, rfl, _⟩ := hG.1
  obtain ⟨ra, rc, rfl, _⟩ := hG.2
  clear hG hs hc
  have hway : i < 0 ∨ (¬ i < 0 ∧ j < 0) ∨ (¬ i < 0 ∧ ¬ j < 0 ∧ (g.nodes.length : Int) ≤ i) ∨ (¬ i < 0 ∧ ¬ j < 0 ∧ ¬ (g.nodes.length : Int) ≤ i ∧ (g.nodes.length : Int) ≤ j) := by omega
  clear ho
  rcases hway with k1 | ⟨k1, k2⟩ | ⟨k1, k2, k3⟩ | ⟨k1, k2, k3, k4⟩
  all_goals
    have t1 : True := trivial
    go_enter Tryz.func3, Tryz.ntmps3
    go_wp2_with (first
      | (go_at_call 7; have _m := t1; clear t1 _m; refine (ulives_any _).mono ?_; rintro e w1 ⟨rfl, hb1⟩; have HX1 := hid ((hb1.block _ (by simp)).trans hx0.out); have Hb1 := hid (Below.next hb0.out hb1); obtain ⟨⟨x0, x1⟩, _⟩ := cblk2 HX1.out; have x2 := lt_of_block HX1.out; clear hb1)
      | (go_at_call 8; refine (hsm.out _ Hb1.out).mono ?_; rintro e w2 ⟨rfl, hb2⟩; have HX2 := hid ((hb2.block _ (lt_of_block HX1.out)).trans HX1.out); have Hb2 := hid (Below.next Hb1.out hb2); clear hb2 x0 x1 x2; obtain ⟨⟨x0, x1⟩, _⟩ := cblk2 HX2.out; have x2 := lt_of_block HX2.out)
      | (go_at_call 9; refine (hck.out _ Hb2.out).mono ?_; rintro e w3 ⟨⟨ev, rfl, hE⟩, hb3⟩; obtain rfl : ev = .nilIface := hE; have HX3 := hid ((hb3.block _ (lt_of_block HX2.out)).trans HX2.out); have Hb3 := hid (Below.next Hb2.out hb3); clear hb3 x0 x1 x2; obtain ⟨⟨x0, x1⟩, _⟩ := cblk2 HX3.out; have x2 := lt_of_block HX3.out)
      | (go_at_call 7; refine (ulives_any _).mono ?_; rintro e w5 ⟨rfl, hb5⟩; have Hb5 := hid (Below.next Hb3.out hb5); clear hb5))
    go_ret
    exact ⟨rfl, Hb5.out⟩
theorem unifyBound_walk {W : World} (_ : ErrC W) {nv rv : Value} {g : Gf} (hG : Gr W nv rv g) (hS : Sized g) (i j : Int) :
    Calls Tryz.prog 3 #[.agg #[nv, rv], .int .i64 i, .int .i64 j] W fun e w' => e = .returned (.bool true) ∧ Below W.heap.size W w' := by
  cases hs : smallK 400 g with
  | false => exact bound_small hG hs i j
  | true =>
    by_cases hc : one (chk g) = []
    · by_cases ho : 0 ≤ i ∧ 0 ≤ j ∧ i < (g.nodes.length : Int) ∧ j < (g.nodes.length : Int)
      · obtain ⟨a, rfl⟩ : ∃ a : Nat, i = (a : Int) := ⟨i.toNat, by omega⟩
        obtain ⟨b, rfl⟩ : ∃ b : Nat, j = (b : Int) := ⟨j.toNat, by omega⟩
        exact bound_main hG hS hs hc a b (by omega) (by omega)
      · exact bound_out hG hS hs hc i j ho
    · exact bound_check hG hS hs hc i j
end Go.Proofs.YtlibjdilicfcdaaGreatDoor

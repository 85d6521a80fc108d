/- The fixed fact of layer 11, as plain data. -/
import Derived.Test.YtnoggmeffindbabGreatDoorQRDZ
import Derived.Test.YtnoggmeffindbabGreatDoorQRFZ
import Derived.Test.YtnoggmeffindbabGreatDoorQRGZ
import Derived.Test.YtnoggmeffindbabGreatDoorGrRef3
namespace Go.Proofs.YtnoggmeffindbabGreatDoor
open Go.RowKit

abbrev fSC : ByteArray := ⟨#[102]⟩
/-- f of itself and a variable. -/
def gL : Gf := ⟨[⟨4, fSC, 0, [0, 1]⟩, ⟨1, ⟨#[]⟩, 0, []⟩], [0]⟩
theorem gL_good : Good gL := by
  have hf : goodS fSC = true := by decide
  refine ⟨by decide, by decide, fun n hn => ?_, fun x hx => ?_⟩
  · have h : n = ⟨4, fSC, 0, [0, 1]⟩ ∨ n = ⟨1, ⟨#[]⟩, 0, []⟩ := by simpa [gL] using hn
    rcases h with rfl | rfl
    · simp [goodNd, hf, strange, gL]
    · simp [goodNd, ByteArray.toList_eq]
  · have h : x = 0 := by simpa [gL] using hx
    subst h
    decide
theorem gL_met : metF gL = [0, 1] := by simp [metF, gL, meetF, Gf.argsOf]
theorem gL_ns : wthJ [] gL (metF gL) (metF gL).length = [fSC] := by
  rw [gL_met]
  decide
theorem gL_want : wantJ gL (metF gL) (metF gL).length = 5 := by
  rw [gL_met]
  decide
abbrev lL1 : List Int := [11, 20, 11, 32, 32]
abbrev lL2 : List Int := [11, 20, 11, 32, 11]
theorem gL_w : putW [fSC] gL (metF gL) 0 = lL1 := by
  rw [gL_met]
  decide
theorem gL_pm : PmC (wthJ [] gL (metF gL) (metF gL).length) gL (metF gL) 0 := pmc_of gL_good (by rw [gL_met]; decide) (by rw [gL_want]; decide)
theorem sndL0 : Snd [] (fun _ => false) := ⟨fun _ h => absurd h (Nat.not_lt_zero _), (fun _ h => by cases h), fun _ h => absurd h (Nat.not_lt_zero _), fun _ h => absurd h (Nat.not_lt_zero _), fun _ h => absurd h (Nat.not_lt_zero _), fun _ h => absurd h (Nat.not_lt_zero _), fun _ h => absurd h (Nat.not_lt_zero _)⟩
abbrev vL : Nat → Bool := vrP gL (metF gL) 0 (fun _ => false)
theorem sndL1 : Snd lL1 vL := by
  have h := put_snd (l := []) sndL0 gL_pm
  rw [gL_ns] at h
  rw [show ([] : List Int).length = 0 from rfl, gL_w] at h
  exact h
theorem nsL1 : NsB lL1 ([fSC] : List ByteArray).length := by
  have h := put_nsb (l := []) (N := 0) ⟨fun _ h => absurd h (Nat.not_lt_zero _), fun _ h => absurd h (Nat.not_lt_zero _)⟩ (Nat.zero_le _) gL_pm
  rw [gL_ns] at h
  rw [show ([] : List Int).length = 0 from rfl, gL_w] at h
  exact h
theorem vL4 : vL 4 = true := by
  show vrP gL (metF gL) 0 (fun _ => false) 4 = true
  rw [gL_met]
  decide
theorem trL14 : trmW lL1 4 = 32 := by decide +kernel
theorem trL10 : trmW lL1 0 = 11 := by decide +kernel
theorem trL23 : trmW lL2 3 = 11 := by decide +kernel
theorem trL22 : trmW lL2 2 = 11 := by decide +kernel
theorem trL20 : trmW lL2 0 = 11 := by decide +kernel
theorem sndL2 : Snd lL2 vL := snd_bind (l := lL1) (j := 4) (x := 11) sndL1 (by decide) vL4 (by decide) (by decide +kernel) (by decide +kernel) (fun e => absurd e (by decide +kernel)) (fun _ => ⟨by decide +kernel, Or.inl (by decide +kernel)⟩)
theorem five {P : Nat → Prop} (h0 : P 0) (h1 : P 1) (h2 : P 2) (h3 : P 3) (h4 : P 4) : ∀ k, k < 5 → P k := fun k hk => by
  have : k = 0 ∨ k = 1 ∨ k = 2 ∨ k = 3 ∨ k = 4 := by omega
  rcases this with rfl | rfl | rfl | rfl | rfl <;> assumption
theorem nsL2 : NsB lL2 ([fSC] : List ByteArray).length := ⟨five (by decide +kernel) (by decide +kernel) (by decide +kernel) (by decide +kernel) (by decide +kernel), five (by decide +kernel) (by decide +kernel) (by decide +kernel) (by decide +kernel) (by decide +kernel)⟩
theorem tdL2 : tdL lL2 11 = [2, 3] := by decide +kernel
/-- One term is met. -/
theorem oneL {TS : List Int} (h : Rfi lL2 [0] TS) : TS = [11] := by
  have h1 : ∀ t ∈ TS, t = 11 := h.mn (fun t => t = 11) (fun c hc => by
    have e : c = 0 := by simpa using hc
    subst e
    exact trL20) (fun t ht c hc => by
    subst ht
    rw [tdL2] at hc
    have e : c = 2 ∨ c = 3 := by simpa using hc
    rcases e with rfl | rfl
    · exact trL22
    · exact trL23)
  have h2 := h.root 0 (by simp)
  have h3 := h.nodup
  match TS, h1, h2, h3 with
  | [], _, h2, _ => cases h2
  | [x], h1, _, _ => rw [h1 x (by simp)]
  | x :: y :: r, h1, _, h3 =>
    have ex := h1 x (by simp)
    have ey := h1 y (by simp)
    subst ex
    rw [List.nodup_cons] at h3
    exact absurd (by rw [ey]; simp) h3.1
theorem lenL {TS : List Int} (h : Rfi lL2 [0] TS) {ns : List ByteArray} (hg : Good (rdG lL2 ns [0] TS)) {ee : Nat → Nat → Bool} (he : ∀ x y : Nat, (ee x y = true ↔ Al (rdG lL2 ns [0] TS) (x : Int) (y : Int))) : (trimF (quoF ee (rdG lL2 ns [0] TS))).nodes.length = 1 := by
  have hev := al_eqv hg he
  have hq := quo_good hg hev
  have hl := trim_len hq
  have h1 := (met_ok hq).le
  rw [quo_len] at h1
  have h2 := lsF_le ee (rdG lL2 ns [0] TS).nodes.length
  rw [rd_nodes h, oneL h] at h2
  rw [rd_nodes h, oneL h] at h1
  have h3 : 1 ≤ (metF (quoF ee (rdG lL2 ns [0] TS))).length := by
    have hr : (quoF ee (rdG lL2 ns [0] TS)).roots.length = 1 := by simp [quoF, rdG]
    have := met_root hq _ (getD_mem (l := (quoF ee (rdG lL2 ns [0] TS)).roots) (k := 0) (by omega))
    exact List.length_pos_of_mem this
  have h4 : ([11] : List Int).length = 1 := rfl
  rw [oneL h] at *
  omega
end Go.Proofs.YtnoggmeffindbabGreatDoor

/- The fixed fact of layer 11. -/
namespace Go.Proofs.YtnoggmeffindbabGreatDoor
open Go.RowKit

abbrev oLa : Obj := .cells #[.int .i64 0, .int .i64 1] 3
abbrev oLb (q : Nat) : Obj := .cells #[.int .i64 4, .string fSC, .int .i64 0, .slice (some ⟨q, 0, none⟩) 2 2, .int .i64 1, .string ⟨#[]⟩, .int .i64 0, .slice none 0 0] 88
abbrev oLc : Obj := .cells #[.int .i64 0] 3
/-- The loop, where it lies. -/
structure Lp (w : World) (a b c : Nat) : Prop where
  fa : w.heap[a]? = some oLa
  fb : w.heap[b]? = some (oLb a)
  fc : w.heap[c]? = some oLc
theorem lp_gra {w : World} {a b c : Nat} (h : Lp w a b c) : Gra w (.slice (some ⟨b, 0, none⟩) 2 2) (.slice (some ⟨c, 0, none⟩) 1 1) gL (fun x => if x = 0 then .slice (some ⟨a, 0, none⟩) 2 2 else .slice none 0 0) := by
  refine ⟨⟨some ⟨b, 0, none⟩, 2, rfl, fun j hj => ?_⟩, ri_lit1 h.fc⟩
  have hj2 : j = 0 ∨ j = 1 := by
    have : j < 2 := hj
    omega
  have hb := h.fb
  rcases hj2 with rfl | rfl
  · exact ⟨b, 0, rfl, by simp [World.cell?, hb, gL], by simp [World.cell?, hb, gL], by simp [World.cell?, hb, gL], by simp [World.cell?, hb], ri_lit2 h.fa⟩
  · exact ⟨b, 0, rfl, by simp [World.cell?, hb, gL], by simp [World.cell?, hb, gL], by simp [World.cell?, hb, gL], by simp [World.cell?, hb], Ri.nil _⟩
set_option maxHeartbeats 800000 in
theorem loop_any (w : World) :
    Calls Tryz.prog 38 #[] w fun e w' => (∃ a b c, e = .returned (.agg #[.slice (some ⟨b, 0, none⟩) 2 2, .slice (some ⟨c, 0, none⟩) 1 1]) ∧ Lp w' a b c ∧ w.heap.size ≤ a ∧ w.heap.size ≤ b ∧ w.heap.size ≤ c) ∧ Below w.heap.size w w' := by
  go_enter Tryz.func38, Tryz.ntmps38
  go_wp2
  obtain ⟨x0, x1, x2, x3⟩ := alloc4 w (.cells #[.slice (some ⟨w.heap.size + 1 + 1, 0, none⟩) 2 2, .slice (some ⟨w.heap.size + 1 + 1 + 1, 0, none⟩) 1 1] 25) oLa (oLb (w.heap.size + 1)) oLc
  exact bodyPost_ret (ret_gr1 Tryz.results38 (by rfl) x0) rfl ⟨⟨w.heap.size + 1, w.heap.size + 2, w.heap.size + 3, rfl, ⟨x1, x2, x3⟩, by omega, by omega, by omega⟩, Below.next (Below.next (Below.next (below_alloc _ _) (below_alloc _ _)) (below_alloc _ _)) (below_alloc _ _)⟩
section
variable {w : World} {B hb ab tb : Nat} {m : Int} {av : Value} {l : List Int} {tv : Value} {tq : Nat} {ns : List ByteArray} {trv ptv : Value} {n : Int}
set_option maxHeartbeats 800000 in
theorem htop_any (h : Hp w B hb ab tb m av l tv tq ns trv ptv n) :
    Calls Tryz.prog 33 #[.pointer (some ⟨hb, 0, none⟩)] w fun e w' => e = .returned (.int .i64 (l.length : Int)) ∧ w' = w := by
  obtain ⟨⟨c0, _⟩, c5⟩ := h.cells
  have ht := hid (top_any h.ar)
  clear h
  go_enter Tryz.func33, Tryz.ntmps33
  go_wp2_with (first
    | (go_at_call 48; refine (self_some _ _).mono ?_; rintro e w' ⟨rfl, rfl⟩)
    | (go_at_call 79; refine ht.out.mono ?_; rintro e w' ⟨rfl, rfl⟩))
  go_ret
  exact ⟨rfl, rfl⟩
end
section
variable {w : World} {B hb ab tb : Nat} {m : Int} {av : Value} {tv : Value} {tq : Nat} {ns : List ByteArray}
/-- The loop is put down. -/
theorem lput_any {a b c : Nat} (hH : Hp w B hb ab tb 20 (.slice none 0 0) [] tv tq [] (.slice none 0 0) (.slice none 0 0) 0) (hB : B ≤ w.heap.size) (hL : Lp w a b c) (ha : a ≠ hb ∧ a ≠ ab) (hb' : b ≠ hb ∧ b ≠ ab) (hc : c ≠ hb ∧ c ≠ ab) :
    Calls Tryz.prog 11 #[.pointer (some ⟨hb, 0, none⟩), .agg #[.slice (some ⟨b, 0, none⟩) 2 2, .slice (some ⟨c, 0, none⟩) 1 1]] w fun e w' => (∃ rb c' av' tb' tv' tq', e = .returned (.tuple #[.slice (some ⟨rb, 0, none⟩) 1 c', .nilIface]) ∧ w'.cell? ⟨rb, 0, none⟩ = some (.int .i64 0) ∧ Hp w' B hb ab tb' 20 av' lL1 tv' tq' [fSC] (.slice none 0 0) (.slice none 0 0) 0) ∧ Below B w w' := by
  have hGk : ∀ w', a_Mod (hb :: a_foot ab (.slice none 0 0)) w w' → Gra w' (.slice (some ⟨b, 0, none⟩) 2 2) (.slice (some ⟨c, 0, none⟩) 1 1) gL (fun x => if x = 0 then .slice (some ⟨a, 0, none⟩) 2 2 else .slice none 0 0) := fun w' h => by
    have hn : ∀ k, k ≠ hb ∧ k ≠ ab → k ∉ hb :: a_foot ab (.slice none 0 0) := fun k hk hx => by
      rcases List.mem_cons.1 hx with e | hx
      · exact hk.1 e
      · rcases a_mem_foot.1 hx with e | e
        · exact hk.2 e
        · cases e
    exact lp_gra ⟨(h.block _ (lt_of_block hL.fa) (hn _ ha)).trans hL.fa, (h.block _ (lt_of_block hL.fb) (hn _ hb')).trans hL.fb, (h.block _ (lt_of_block hL.fc) (hn _ hc)).trans hL.fc⟩
  have hmay := fun c hc => gL_pm.may (c := c) hc
  refine (put_ok hH hB hGk (good_sized gL_good) (chk_of_good gL_good) (by rw [gL_want]; decide) (by rw [gL_met]; decide) (by simpa using hmay)).mono ?_
  rintro e w' ⟨ao, c', av', tb', tv', tq', rfl, ho, hp, hm, _, _⟩
  rw [gL_ns] at hp
  have hw : ([] : List Int) ++ putW [fSC] gL (metF gL) ([] : List Int).length = lL1 := gL_w
  rw [hw] at hp
  obtain ⟨rb, rfl⟩ : ∃ rb, ao = some ⟨rb, 0, none⟩ := by
    rcases ho.2 with ⟨_, hn0⟩ | ⟨g, cap, cur, e, _⟩
    · exact absurd hn0 (by decide)
    · injection e with e _ _
      exact ⟨g, e⟩
  refine ⟨⟨rb, c', av', tb', tv', tq', rfl, ?_, hp⟩, hm.below (fun k hk => ?_) hB⟩
  · rw [ho.cellAt 0 (by decide)]
    rfl
  · rcases List.mem_cons.1 hk with rfl | hk
    · exact hH.base
    · rcases a_mem_foot.1 hk with rfl | hk
      · exact hH.ar.base
      · cases hk
theorem lbind_any {n : Int} (hH : Hp w B hb ab tb m av lL1 tv tq ns (.slice none 0 0) (.slice none 0 0) n) (hB : B ≤ w.heap.size) (n0 : 0 ≤ n) (n1 : n ≤ 1000) :
    Calls Tryz.prog 26 #[.pointer (some ⟨hb, 0, none⟩), .int .i64 4, .int .i64 0] w fun e w' => e = .returned .nilIface ∧ Hp w' B hb ab tb m av lL2 tv tq ns (.slice none 0 0) (.slice none 0 0) (n + 1) ∧ Below B w w' := by
  refine (bind0_left hH sndL1 4 0 (by decide +kernel) (by decide +kernel) (by decide) (by decide) n0 (by omega) (by rw [trL14]; decide) (by rw [trL14, trL10]; decide) (by rw [trL14, trL10]; decide +kernel)).mono ?_
  rintro e w' ⟨rfl, hp, hm⟩
  rw [trL14, trL10, show lL1.set (valOf 32).toNat 11 = lL2 by decide +kernel] at hp
  refine ⟨rfl, hp, hm.below (fun k hk => ?_) hB⟩
  rcases List.mem_cons.1 hk with rfl | hk
  · exact hH.base
  · rcases a_mem_foot.1 hk with rfl | hk
    · exact hH.ar.base
    · exact (hH.ar.row hk).1
end
end Go.Proofs.YtnoggmeffindbabGreatDoor

/- The fixed fact of layer 11: its walk. -/
namespace Go.Proofs.YtnoggmeffindbabGreatDoor
open Go.RowKit

section
variable {w : World} {B hb ab tb : Nat} {m : Int} {av : Value} {tv : Value} {tq : Nat} {trv ptv : Value} {n : Int}
theorem llook_any (hH : Hp w B hb ab tb m av lL2 tv tq [fSC] trv ptv n) :
    Calls Tryz.prog 15 #[.pointer (some ⟨hb, 0, none⟩), .int .i64 3] w fun e w' => (∃ s ao k c, e = .returned (.tuple #[.agg #[.int .i64 4, .int .i64 1, .string s, .int .i64 0, .slice ao k c], .nilIface])) ∧ Below w.heap.size w w' := by
  refine (look_ok hH sndL2 nsL2 3 (by decide +kernel) (by decide)).mono ?_
  rintro e w' ⟨⟨ao, c, rfl, _⟩, hb'⟩
  rw [trL23, show tdK 11 = 4 by decide +kernel, show tdA 11 = 1 by decide +kernel, show tdN 11 = 0 by decide +kernel]
  exact ⟨⟨_, _, _, _, rfl⟩, hb'⟩
theorem lget_any (hH : Hp w B hb ab tb m av lL2 tv tq [fSC] trv ptv n) {cv : Value} (hC : Ri w cv [0]) :
    Calls Tryz.prog 14 #[.pointer (some ⟨hb, 0, none⟩), cv] w fun e w' => (∃ na nc ra rl rc, e = .returned (.tuple #[.agg #[.slice na 1 nc, .slice ra rl rc], .nilIface])) ∧ Below w.heap.size w w' := by
  refine (get_ok hH sndL2 nsL2 hC (fun x hx => ?_) (by decide) (fun TS h => by rw [oneL h]; decide)).mono ?_
  · have e : x = 0 := by simpa using hx
    subst e
    decide +kernel
  · rintro e w' ⟨⟨nv, rv, avs, TS, ee, rfl, hF, hg, he, hO⟩, hb'⟩
    obtain ⟨na, nc, rfl⟩ := hO.nsl
    obtain ⟨ra, rc, rfl, _⟩ := hO.r
    rw [lenL hF hg he]
    exact ⟨⟨_, _, _, _, _, rfl⟩, hb'⟩
end
set_option maxRecDepth 100000 in
set_option maxHeartbeats 8000000 in
theorem clives_any (w : World) : Calls Tryz.prog 6 #[] w fun e w' => e = .returned (.bool true) ∧ Below w.heap.size w w' := by
  have hnw := hid (hnew_ok 20 w w.heap.size (Nat.le_refl _) (by decide) (by decide))
  go_enter Tryz.func6, Tryz.ntmps6
  go_wp2_with (first
    | (go_at_call 37; refine hnw.out.mono ?_; rintro e w1 ⟨⟨hb, ab, tb, tq, rfl, hH1, z1, z2, z3, z4⟩, hb1⟩; have HH1 := hid hH1; have Hb1 := hid hb1; have zb := lt_of_block hH1.blk; have za := hH1.ar.lt; clear hH1 hb1)
    | (go_at_call 38; refine (loop_any _).mono ?_; rintro e w2 ⟨⟨a, b, c, rfl, hL2, ya, yb, yc⟩, hb2⟩; have HL2 := hid hL2; have HH2 := hid (HH1.out.below hb2); have Hb2 := hid (Below.next Hb1.out hb2); have hpt := hid (lput_any HH2.out Hb2.out.size hL2 ⟨by omega, by omega⟩ ⟨by omega, by omega⟩ ⟨by omega, by omega⟩); clear hL2 hb2)
    | (go_at_call 11; refine hpt.out.mono ?_; rintro e w3 ⟨⟨rb, rc, av3, tb3, tv3, tq3, rfl, r0, hH3⟩, hb3⟩; have HH3 := hid hH3; have Hb3 := hid (Hb2.out.trans hb3); have zr := lt_of_cell r0; clear hH3 hb3)
    | (go_at_call 33; refine (htop_any HH3.out).mono ?_; rintro e w4 ⟨rfl, hw⟩; replace hw := hw.symm; subst hw)
    | (go_at_call 26; refine (lbind_any HH3.out Hb3.out.size (by decide) (by decide)).mono ?_; rintro e w5 ⟨rfl, hH5, hb5⟩; have HH5 := hid hH5; have Hb5 := hid (Hb3.out.trans hb5); clear hH5 hb5)
    | (go_at_call 15; refine (llook_any HH5.out).mono ?_; rintro e w6 ⟨⟨ls, la, lk, lc, rfl⟩, hb6⟩; have HH6 := hid (HH5.out.below hb6); have Hb6 := hid (Below.next Hb5.out hb6); clear hb6))
  have hbc := below_alloc w6 (.cells #[.int .i64 4, .int .i64 1, .string ls, .int .i64 0, .slice la lk lc] 45)
  have hbg := Below.next hbc (below_alloc _ oLc)
  have hri : Ri ((w6.alloc (.cells #[.int .i64 4, .int .i64 1, .string ls, .int .i64 0, .slice la lk lc] 45)).alloc oLc) (.slice (some ⟨w6.heap.size + 1, 0, none⟩) 1 1) [0] := ri_lit1 (by
    have h9 := heap_alloc_new (w6.alloc (.cells #[.int .i64 4, .int .i64 1, .string ls, .int .i64 0, .slice la lk lc] 45)) oLc
    rw [show (w6.alloc (.cells #[.int .i64 4, .int .i64 1, .string ls, .int .i64 0, .slice la lk lc] 45)).heap.size = w6.heap.size + 1 by simp] at h9
    exact h9)
  have hcb : ((w6.alloc (.cells #[.int .i64 4, .int .i64 1, .string ls, .int .i64 0, .slice la lk lc] 45)).alloc oLc).heap[w6.heap.size]? = some (.cells #[.int .i64 4, .int .i64 1, .string ls, .int .i64 0, .slice la lk lc] 45) := (Below.heap_alloc _ _ _ (by simp)).trans (heap_alloc_new w6 _)
  refine (lget_any (HH6.out.below hbg) hri).mono ?_
  rintro e w7 ⟨⟨na, nc, ra, rl, rc7, rfl⟩, hb7⟩
  have hc7 := (hb7.block _ (lt_of_block hcb)).trans hcb
  obtain ⟨⟨c0, c1, c2, c3, c4⟩, _, cz⟩ := cel_cells hc7
  have Hb7 := hid (Below.next Hb6.out (Below.next hbg hb7))
  have Hb8 := hid (Below.next Hb7.out (below_alloc w7 (.cells #[.slice na 1 nc, .slice ra rl rc7] 25)))
  clear hb7 hcb hri hbg hbc hc7
  go_wp2
  go_ret
  exact ⟨rfl, Hb8.out⟩
end Go.Proofs.YtnoggmeffindbabGreatDoor

/- The size of graphs: Small of package tendrilhand. -/
namespace Go.Proofs.YtnoggmeffindbabGreatDoor
open Go.RowKit

/-- Is a graph small? -/
def smallK (K : Nat) (g : Gf) : Bool := decide (g.nodes.length ≤ K) && decide (g.roots.length ≤ K) && g.nodes.all (fun n => decide (n.args.length ≤ 40))
theorem smallK_fits {K : Nat} {g : Gf} (h : smallK K g = true) : (∀ n ∈ g.nodes, n.args.length ≤ 40) ∧ g.nodes.length ≤ K ∧ g.roots.length ≤ K := by
  simp only [smallK, Bool.and_eq_true, decide_eq_true_eq, List.all_eq_true] at h
  obtain ⟨⟨h1, h2⟩, h3⟩ := h
  exact ⟨fun n hn => h3 n hn, h1, h2⟩
set_option maxRecDepth 100000 in
set_option maxHeartbeats 2000000 in
theorem smallK_any {K : Nat} (hK : K ≤ 5000) {W : World} {nv rv : Value} {g : Gf} (hG : Gr W nv rv g) :
    Calls Tryz.prog 8 #[.agg #[nv, rv], .int .i64 (K : Int)] W fun e w' => e = .returned (.bool (smallK K g)) ∧ Below W.heap.size W w' := by
  obtain ⟨l, lr⟩ := g
  obtain ⟨ua, uc, rfl, hu⟩ := hG.1
  obtain ⟨ra, rc, rfl, _⟩ := hG.2
  dsimp only at hu ⊢
  have hE := hid (show smallK K ⟨l, lr⟩ = (decide (l.length ≤ K) && decide (lr.length ≤ K) && l.all (fun n => decide (n.args.length ≤ 40))) from rfl)
  generalize smallK K ⟨l, lr⟩ = R at hE ⊢
  by_cases h1 : K < l.length
  · have h1' : (K : Int) < (l.length : Int) := by omega
    have hR := hid (show R = false by rw [hE.out, decide_eq_false (by omega : ¬ l.length ≤ K)]; rfl)
    clear hE hu hG
    go_enter Tryz.func8, Tryz.ntmps8
    go_wp2
    go_ret
    exact ⟨ret_bool hR.out.symm, below_alloc _ _⟩
  · by_cases h2 : K < lr.length
    · have h1' : ¬ (K : Int) < (l.length : Int) := by omega
      have h2' : (K : Int) < (lr.length : Int) := by omega
      have hR := hid (show R = false by rw [hE.out, decide_eq_false (by omega : ¬ lr.length ≤ K)]; simp)
      clear hE hu hG
      go_enter Tryz.func8, Tryz.ntmps8
      go_wp2
      go_ret
      exact ⟨ret_bool hR.out.symm, below_alloc _ _⟩
    · have h1' : ¬ (K : Int) < (l.length : Int) := by omega
      have h2' : ¬ (K : Int) < (lr.length : Int) := by omega
      go_enter Tryz.func8, Tryz.ntmps8
      go_wp2
      go_loopw [22] (fun i wr => ∃ k : Nat, k ≤ l.length ∧ i = .int .i64 k ∧ Hid (Below W.heap.size W wr) ∧ Hid (∀ j, j < k → (l.getD j nd0).args.length ≤ 40)) (fun i _ => l.length - (intOf i).toNat)
      case atStart => exact ⟨0, Nat.zero_le _, rfl, below_alloc _ _, fun j hj => absurd hj (Nat.not_lt_zero _)⟩
      case round =>
        obtain ⟨k, hk, rfl, hb, hp⟩ := hrel
        by_cases hlt : k < l.length
        · obtain ⟨ub, uo, uav, rfl, hcu⟩ := hu k hlt
          obtain ⟨p0, p1, p2, p3, hA⟩ := hcu.below hb.out
          obtain ⟨aa, ac, rfl, _⟩ := hA
          have hin : l.getD k nd0 ∈ l := by simp [List.getD, hlt]
          have hlp := lt_of_cell p0
          by_cases h40 : 40 < (l.getD k nd0).args.length
          · have hR := hid (show R = false by
              rw [hE.out]
              have : l.all (fun n => decide (n.args.length ≤ 40)) = false := List.all_eq_false.2 ⟨_, hin, by simpa using h40⟩
              rw [this]
              simp)
            clear hin hcu hu hp hE hG
            generalize l.getD k nd0 = x at p0 p1 p2 p3 h40
            obtain ⟨xk, xs, xn, xl⟩ := x
            dsimp only at p0 p1 p2 p3 h40
            have h40' : (40 : Int) < (xl.length : Int) := by omega
            go_wp2
            go_ret
            exact ⟨ret_bool hR.out.symm, hb.out.alloc hb.out.size _⟩
          · have hp' : Hid (∀ j, j < k + 1 → (l.getD j nd0).args.length ≤ 40) := fun j hj => by
              rcases Nat.lt_or_eq_of_le (Nat.le_of_lt_succ hj) with h | h
              · exact hp.out j h
              · subst h; omega
            clear hin hcu hu hp hE hG
            generalize l.getD k nd0 = x at p0 p1 p2 p3 h40
            obtain ⟨xk, xs, xn, xl⟩ := x
            dsimp only at p0 p1 p2 p3 h40
            have h40' : ¬ (40 : Int) < (xl.length : Int) := by omega
            go_wp2
            go_roundw
            case rel => exact ⟨k + 1, by omega, congrArg (Value.int .i64) (by omega), hb.out.alloc hb.out.size _, hp'⟩
            case measure => simp [intOf]; omega
        · have hR := hid (show R = true by
            rw [hE.out, decide_eq_true (by omega : l.length ≤ K), decide_eq_true (by omega : lr.length ≤ K)]
            simp only [Bool.true_and, List.all_eq_true, decide_eq_true_eq]
            intro n hn
            obtain ⟨i, hi, rfl⟩ := List.getElem_of_mem hn
            have := hp.out i (by omega)
            simpa [List.getD, hi] using this)
          clear hE hu hG hp
          go_wp2
          go_ret
          exact ⟨ret_bool hR.out.symm, hb.out⟩
end Go.Proofs.YtnoggmeffindbabGreatDoor

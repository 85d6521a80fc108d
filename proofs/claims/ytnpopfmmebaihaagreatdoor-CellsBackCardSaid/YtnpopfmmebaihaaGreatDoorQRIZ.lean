/- Package cells: Need, and Put of what is no graph. -/
import Derived.Test.YtnpopfmmebaihaaGreatDoorQRHZ
import Derived.Test.YtnpopfmmebaihaaGreatDoorQRGZ
import Derived.Test.YtnpopfmmebaihaaGreatDoorQRDZ
import Derived.Test.YtnpopfmmebaihaaGreatDoorQRFZ
namespace Go.Proofs.YtnpopfmmebaihaaGreatDoor
open Go.RowKit

/-- A fault's block, off a chain of faults. -/
theorem er_block {w : World} {b : Nat} {fs : Fs} (h : Er w (.iface 109 (.pointer (some ⟨b, 0, none⟩))) fs) : ∃ c a ev, w.heap[b]? = some (.cells #[.int .i64 c, .int .i64 a, .string ⟨#[]⟩, ev] 112) := by
  cases fs with
  | nil => simp [Er] at h
  | cons x r =>
    obtain ⟨_, b', ev, he, hb, _⟩ := h
    injection he with _ he
    injection he with he
    injection he with he
    injection he with he
    subst he
    exact ⟨x.1, x.2, ev, hb⟩
set_option maxRecDepth 100000 in
set_option maxHeartbeats 4000000 in
theorem need_ok (hv : Value) {W : World} {nv rv : Value} {g : Gf} (hG : Gr W nv rv g) (hS : Sized g) (hck : one (chk g) = []) :
    Calls Tryz.prog 9 #[hv, .agg #[nv, rv]] W fun e w' => e = .returned (.tuple #[.int .i64 (wantJ g (metF g) (metF g).length : Int), .nilIface]) ∧ Below W.heap.size W w' := by
  have hg := chk_good hck
  have hok := met_ok hg
  have hml := hok.le
  have hN : g.nodes.length ≤ 4096 := hg.nodes
  have hb0 := below_alloc W (.cells #[nv, rv] 25)
  have hre := hid (reach_good (hG.below hb0) hS hck)
  have hwa := hid (fun w1 (hb : Below W.heap.size W w1) mv (hm : Ri w1 mv (metF g)) => wanted_any (hG.below hb) hg hm hok.rng (by omega))
  have hx0 := hid (heap_alloc_new W (.cells #[nv, rv] 25))
  have Hb0 := hid hb0
  clear hg hok hb0 hS hck hG
  go_enter Tryz.func9, Tryz.ntmps9
  go_wp2_with (go_at_call 36; refine hre.out.mono ?_; rintro e w1 ⟨⟨mo, mc, rfl, ho1⟩, hb1⟩; have Hb1 := hid (Below.next Hb0.out hb1); have Hx1 := hid ((hb1.block _ (by simp)).trans hx0.out); have hri := hid (ri_own ho1); obtain ⟨⟨x0, x1⟩, _⟩ := cblk2 Hx1.out; clear ho1 hb1)
  go_wp2_with (go_at_call 37; refine (hwa.out _ Hb1.out _ hri.out).mono ?_; rintro e w2 ⟨rfl, hb2⟩; have Hb2 := hid (Below.next Hb1.out hb2); clear hb2)
  go_ret2
  exact ⟨rfl, Hb2.out⟩
set_option maxRecDepth 100000 in
set_option maxHeartbeats 4000000 in
theorem need_bad (hv : Value) {W : World} (hE : ErrC W) {nv rv : Value} {g : Gf} (hG : Gr W nv rv g) (hS : Sized g) (hck : one (chk g) ≠ []) :
    Calls Tryz.prog 9 #[hv, .agg #[nv, rv]] W fun e w' => (∃ b, e = .returned (.tuple #[.int .i64 0, .iface 109 (.pointer (some ⟨b, 0, none⟩))])) ∧ Below W.heap.size W w' := by
  have hb0 := below_alloc W (.cells #[nv, rv] 25)
  have hre := hid (reach_bad (hG.below hb0) hS hck)
  have hwr := hid (fun w1 (hb : Below W.heap.size W w1) (c : Int) (fb : Nat) (c1 a1 : Int) (s1 ev : Value) h => wrapped_any w1 (hE.below hb) c fb (c1 := c1) (a1 := a1) (s1 := s1) (ev := ev) h)
  have Hb0 := hid hb0
  clear hb0 hS hck hG hE
  go_enter Tryz.func9, Tryz.ntmps9
  go_wp2_with (go_at_call 36; refine hre.out.mono ?_; rintro e w1 ⟨⟨b, rfl, he⟩, hb1⟩; have Hb1 := hid (Below.next Hb0.out hb1); have He := hid (er_block he); clear he hb1)
  obtain ⟨c1, a1, ev, hf⟩ := He.out
  have Hf := hid hf
  clear hf He
  go_wp2_with (go_at_call 31; refine (hwr.out _ Hb1.out _ _ _ _ _ _ Hf.out).mono ?_; rintro e w2 ⟨⟨b2, rfl, _⟩, hb2⟩; have Hb2 := hid (Below.next Hb1.out hb2); clear hb2)
  go_ret2
  exact ⟨⟨b2, rfl⟩, Hb2.out⟩
set_option maxRecDepth 100000 in
set_option maxHeartbeats 4000000 in
theorem hput_bad (hb : Nat) {W : World} (hE : ErrC W) {nv rv : Value} {g : Gf} (hG : Gr W nv rv g) (hS : Sized g) (hck : one (chk g) ≠ []) :
    Calls Tryz.prog 10 #[.pointer (some ⟨hb, 0, none⟩), .agg #[nv, rv]] W fun e w' => (∃ b, e = .returned (.tuple #[.slice none 0 0, .iface 109 (.pointer (some ⟨b, 0, none⟩))])) ∧ Below W.heap.size W w' := by
  have hb0 := below_alloc W (.cells #[nv, rv] 25)
  have hre := hid (reach_bad (hG.below hb0) hS hck)
  have hwr := hid (fun w1 (hb : Below W.heap.size W w1) (c : Int) (fb : Nat) (c1 a1 : Int) (s1 ev : Value) h => wrapped_any w1 (hE.below hb) c fb (c1 := c1) (a1 := a1) (s1 := s1) (ev := ev) h)
  have Hb0 := hid hb0
  clear hb0 hS hck hG hE
  go_enter Tryz.func10, Tryz.ntmps10
  go_wp2_with (go_at_call 36; refine hre.out.mono ?_; rintro e w1 ⟨⟨b, rfl, he⟩, hb1⟩; have Hb1 := hid (Below.next Hb0.out hb1); have He := hid (er_block he); clear he hb1)
  obtain ⟨c1, a1, ev, hf⟩ := He.out
  have Hf := hid hf
  clear hf He
  go_wp2_with (go_at_call 31; refine (hwr.out _ Hb1.out _ _ _ _ _ _ Hf.out).mono ?_; rintro e w2 ⟨⟨b2, rfl, _⟩, hb2⟩; have Hb2 := hid (Below.next Hb1.out hb2); clear hb2)
  go_ret2
  exact ⟨⟨b2, rfl⟩, Hb2.out⟩
end Go.Proofs.YtnpopfmmebaihaaGreatDoor

/- The fixed fact of layer 11, as plain data. -/
namespace Go.Proofs.YtnpopfmmebaihaaGreatDoor
open Go.RowKit

abbrev fSC : ByteArray := ⟨#[102]⟩
/-- f of itself and a variable. -/
def gL : Gf := ⟨[⟨4, fSC, 0, [0, 1]⟩, ⟨1, ⟨#[]⟩, 0, []⟩], [0]⟩
theorem gL_good : Good gL := by
  have hf : goodS fSC = true := by decide
  refine ⟨by decide, by decide, fun n hn => ?_, fun x hx => ?_⟩
  · have h : n = ⟨4, fSC, 0, [0, 1]⟩ ∨ n = ⟨1, ⟨#[]⟩, 0, []⟩ := by simpa [gL] using hn
    rcases h with rfl | rfl
    · simp [goodNd, hf, strange, gL]
    · simp [goodNd, ByteArray.toList_eq]
  · have h : x = 0 := by simpa [gL] using hx
    subst h
    decide
theorem gL_met : metF gL = [0, 1] := by simp [metF, gL, meetF, Gf.argsOf]
theorem gL_ns : wthJ [] gL (metF gL) (metF gL).length = [fSC] := by
  rw [gL_met]
  decide
theorem gL_want : wantJ gL (metF gL) (metF gL).length = 5 := by
  rw [gL_met]
  decide
abbrev lL1 : List Int := [11, 20, 11, 32, 32]
abbrev lL2 : List Int := [11, 20, 11, 32, 11]
theorem gL_w : putW [fSC] gL (metF gL) 0 = lL1 := by
  rw [gL_met]
  decide
theorem gL_pm : PmC (wthJ [] gL (metF gL) (metF gL).length) gL (metF gL) 0 := pmc_of gL_good (by rw [gL_met]; decide) (by rw [gL_want]; decide)
theorem sndL0 : Snd [] (fun _ => false) := ⟨fun _ h => absurd h (Nat.not_lt_zero _), (fun _ h => by cases h), fun _ h => absurd h (Nat.not_lt_zero _), fun _ h => absurd h (Nat.not_lt_zero _), fun _ h => absurd h (Nat.not_lt_zero _), fun _ h => absurd h (Nat.not_lt_zero _), fun _ h => absurd h (Nat.not_lt_zero _)⟩
abbrev vL : Nat → Bool := vrP gL (metF gL) 0 (fun _ => false)
theorem sndL1 : Snd lL1 vL := by
  have h := put_snd (l := []) sndL0 gL_pm
  rw [gL_ns] at h
  rw [show ([] : List Int).length = 0 from rfl, gL_w] at h
  exact h
theorem nsL1 : NsB lL1 ([fSC] : List ByteArray).length := by
  have h := put_nsb (l := []) (N := 0) ⟨fun _ h => absurd h (Nat.not_lt_zero _), fun _ h => absurd h (Nat.not_lt_zero _)⟩ (Nat.zero_le _) gL_pm
  rw [gL_ns] at h
  rw [show ([] : List Int).length = 0 from rfl, gL_w] at h
  exact h
theorem vL4 : vL 4 = true := by
  show vrP gL (metF gL) 0 (fun _ => false) 4 = true
  rw [gL_met]
  decide
theorem trL14 : trmW lL1 4 = 32 := by decide +kernel
theorem trL10 : trmW lL1 0 = 11 := by decide +kernel
theorem trL23 : trmW lL2 3 = 11 := by decide +kernel
theorem trL22 : trmW lL2 2 = 11 := by decide +kernel
theorem trL20 : trmW lL2 0 = 11 := by decide +kernel
theorem sndL2 : Snd lL2 vL := snd_bind (l := lL1) (j := 4) (x := 11) sndL1 (by decide) vL4 (by decide) (by decide +kernel) (by decide +kernel) (fun e => absurd e (by decide +kernel)) (fun _ => ⟨by decide +kernel, Or.inl (by decide +kernel)⟩)
theorem five {P : Nat → Prop} (h0 : P 0) (h1 : P 1) (h2 : P 2) (h3 : P 3) (h4 : P 4) : ∀ k, k < 5 → P k := fun k hk => by
  have : k = 0 ∨ k = 1 ∨ k = 2 ∨ k = 3 ∨ k = 4 := by omega
  rcases this with rfl | rfl | rfl | rfl | rfl <;> assumption
theorem nsL2 : NsB lL2 ([fSC] : List ByteArray).length := ⟨five (by decide +kernel) (by decide +kernel) (by decide +kernel) (by decide +kernel) (by decide +kernel), five (by decide +kernel) (by decide +kernel) (by decide +kernel) (by decide +kernel) (by decide +kernel)⟩
theorem tdL2 : tdL lL2 11 = [2, 3] := by decide +kernel
/-- One term is met. -/
theorem oneL {TS : List Int} (h : Rfi lL2 [0] TS) : TS = [11] := by
  have h1 : ∀ t ∈ TS, t = 11 := h.mn (fun t => t = 11) (fun c hc => by
    have e : c = 0 := by simpa using hc
    subst e
    exact trL20) (fun t ht c hc => by
    subst ht
    rw [tdL2] at hc
    have e : c = 2 ∨ c = 3 := by simpa using hc
    rcases e with rfl | rfl
    · exact trL22
    · exact trL23)
  have h2 := h.root 0 (by simp)
  have h3 := h.nodup
  match TS, h1, h2, h3 with
  | [], _, h2, _ => cases h2
  | [x], h1, _, _ => rw [h1 x (by simp)]
  | x :: y :: r, h1, _, h3 =>
    have ex := h1 x (by simp)
    have ey := h1 y (by simp)
    subst ex
    rw [List.nodup_cons] at h3
    exact absurd (by rw [ey]; simp) h3.1
theorem lenL {TS : List Int} (h : Rfi lL2 [0] TS) {ns : List ByteArray} (hg : Good (rdG lL2 ns [0] TS)) {ee : Nat → Nat → Bool} (he : ∀ x y : Nat, (ee x y = true ↔ Al (rdG lL2 ns [0] TS) (x : Int) (y : Int))) : (trimF (quoF ee (rdG lL2 ns [0] TS))).nodes.length = 1 := by
  have hev := al_eqv hg he
  have hq := quo_good hg hev
  have hl := trim_len hq
  have h1 := (met_ok hq).le
  rw [quo_len] at h1
  have h2 := lsF_le ee (rdG lL2 ns [0] TS).nodes.length
  rw [rd_nodes h, oneL h] at h2
  rw [rd_nodes h, oneL h] at h1
  have h3 : 1 ≤ (metF (quoF ee (rdG lL2 ns [0] TS))).length := by
    have hr : (quoF ee (rdG lL2 ns [0] TS)).roots.length = 1 := by simp [quoF, rdG]
    have := met_root hq _ (getD_mem (l := (quoF ee (rdG lL2 ns [0] TS)).roots) (k := 0) (by omega))
    exact List.length_pos_of_mem this
  have h4 : ([11] : List Int).length = 1 := rfl
  rw [oneL h] at *
  omega
end Go.Proofs.YtnpopfmmebaihaaGreatDoor

/- The fixed fact of layer 11. -/
namespace Go.Proofs.YtnpopfmmebaihaaGreatDoor
open Go.RowKit

abbrev oLa : Obj := .cells #[.int .i64 0, .int .i64 1] 3
abbrev oLb (q : Nat) : Obj := .cells #[.int .i64 4, .string fSC, .int .i64 0, .slice (some ⟨q, 0, none⟩) 2 2, .int .i64 1, .string ⟨#[]⟩, .int .i64 0, .slice none 0 0] 84
abbrev oLc : Obj := .cells #[.int .i64 0] 3
/-- The loop, where it lies. -/
structure Lp (w : World) (a b c : Nat) : Prop where
  fa : w.heap[a]? = some oLa
  fb : w.heap[b]? = some (oLb a)
  fc : w.heap[c]? = some oLc
theorem lp_gra {w : World} {a b c : Nat} (h : Lp w a b c) : Gra w (.slice (some ⟨b, 0, none⟩) 2 2) (.slice (some ⟨c, 0, none⟩) 1 1) gL (fun x => if x = 0 then .slice (some ⟨a, 0, none⟩) 2 2 else .slice none 0 0) := by
  refine ⟨⟨some ⟨b, 0, none⟩, 2, rfl, fun j hj => ?_⟩, ri_lit1 h.fc⟩
  have hj2 : j = 0 ∨ j = 1 := by
    have : j < 2 := hj
    omega
  have hb := h.fb
  rcases hj2 with rfl | rfl
  · exact ⟨b, 0, rfl, by simp [World.cell?, hb, gL], by simp [World.cell?, hb, gL], by simp [World.cell?, hb, gL], by simp [World.cell?, hb], ri_lit2 h.fa⟩
  · exact ⟨b, 0, rfl, by simp [World.cell?, hb, gL], by simp [World.cell?, hb, gL], by simp [World.cell?, hb, gL], by simp [World.cell?, hb], Ri.nil _⟩
set_option maxHeartbeats 800000 in
theorem loop_any (w : World) :
    Calls Tryz.prog 33 #[] w fun e w' => (∃ a b c, e = .returned (.agg #[.slice (some ⟨b, 0, none⟩) 2 2, .slice (some ⟨c, 0, none⟩) 1 1]) ∧ Lp w' a b c ∧ w.heap.size ≤ a ∧ w.heap.size ≤ b ∧ w.heap.size ≤ c) ∧ Below w.heap.size w w' := by
  go_enter Tryz.func33, Tryz.ntmps33
  go_wp2
  obtain ⟨x0, x1, x2, x3⟩ := alloc4 w (.cells #[.slice (some ⟨w.heap.size + 1 + 1, 0, none⟩) 2 2, .slice (some ⟨w.heap.size + 1 + 1 + 1, 0, none⟩) 1 1] 25) oLa (oLb (w.heap.size + 1)) oLc
  exact bodyPost_ret (ret_gr1 Tryz.results33 (by rfl) x0) rfl ⟨⟨w.heap.size + 1, w.heap.size + 2, w.heap.size + 3, rfl, ⟨x1, x2, x3⟩, by omega, by omega, by omega⟩, Below.next (Below.next (Below.next (below_alloc _ _) (below_alloc _ _)) (below_alloc _ _)) (below_alloc _ _)⟩
section
variable {w : World} {B hb ab tb : Nat} {m : Int} {av : Value} {l : List Int} {tv : Value} {tq : Nat} {ns : List ByteArray} {trv ptv : Value} {n : Int}
set_option maxHeartbeats 800000 in
theorem htop_any (h : Hp w B hb ab tb m av l tv tq ns trv ptv n) :
    Calls Tryz.prog 8 #[.pointer (some ⟨hb, 0, none⟩)] w fun e w' => e = .returned (.int .i64 (l.length : Int)) ∧ w' = w := by
  obtain ⟨⟨c0, _⟩, c5⟩ := h.cells
  have ht := hid (top_any h.ar)
  clear h
  go_enter Tryz.func8, Tryz.ntmps8
  go_wp2_with (first
    | (go_at_call 34; refine (self_some _ _).mono ?_; rintro e w' ⟨rfl, rfl⟩)
    | (go_at_call 35; refine ht.out.mono ?_; rintro e w' ⟨rfl, rfl⟩))
  go_ret
  exact ⟨rfl, rfl⟩
end
section
variable {w : World} {B hb ab tb : Nat} {m : Int} {av : Value} {tv : Value} {tq : Nat} {ns : List ByteArray}
/-- The loop is put down. -/
theorem lput_any {a b c : Nat} (hH : Hp w B hb ab tb 20 (.slice none 0 0) [] tv tq [] (.slice none 0 0) (.slice none 0 0) 0) (hB : B ≤ w.heap.size) (hL : Lp w a b c) (ha : a ≠ hb ∧ a ≠ ab) (hb' : b ≠ hb ∧ b ≠ ab) (hc : c ≠ hb ∧ c ≠ ab) :
    Calls Tryz.prog 10 #[.pointer (some ⟨hb, 0, none⟩), .agg #[.slice (some ⟨b, 0, none⟩) 2 2, .slice (some ⟨c, 0, none⟩) 1 1]] w fun e w' => (∃ rb c' av' tb' tv' tq', e = .returned (.tuple #[.slice (some ⟨rb, 0, none⟩) 1 c', .nilIface]) ∧ w'.cell? ⟨rb, 0, none⟩ = some (.int .i64 0) ∧ Hp w' B hb ab tb' 20 av' lL1 tv' tq' [fSC] (.slice none 0 0) (.slice none 0 0) 0) ∧ Below B w w' := by
  have hGk : ∀ w', a_Mod (hb :: a_foot ab (.slice none 0 0)) w w' → Gra w' (.slice (some ⟨b, 0, none⟩) 2 2) (.slice (some ⟨c, 0, none⟩) 1 1) gL (fun x => if x = 0 then .slice (some ⟨a, 0, none⟩) 2 2 else .slice none 0 0) := fun w' h => by
    have hn : ∀ k, k ≠ hb ∧ k ≠ ab → k ∉ hb :: a_foot ab (.slice none 0 0) := fun k hk hx => by
      rcases List.mem_cons.1 hx with e | hx
      · exact hk.1 e
      · rcases a_mem_foot.1 hx with e | e
        · exact hk.2 e
        · cases e
    exact lp_gra ⟨(h.block _ (lt_of_block hL.fa) (hn _ ha)).trans hL.fa, (h.block _ (lt_of_block hL.fb) (hn _ hb')).trans hL.fb, (h.block _ (lt_of_block hL.fc) (hn _ hc)).trans hL.fc⟩
  have hmay := fun c hc => gL_pm.may (c := c) hc
  refine (put_ok hH hB hGk (good_sized gL_good) (chk_of_good gL_good) (by rw [gL_want]; decide) (by rw [gL_met]; decide) (by simpa using hmay)).mono ?_
  rintro e w' ⟨ao, c', av', tb', tv', tq', rfl, ho, hp, hm, _, _⟩
  rw [gL_ns] at hp
  have hw : ([] : List Int) ++ putW [fSC] gL (metF gL) ([] : List Int).length = lL1 := gL_w
  rw [hw] at hp
  obtain ⟨rb, rfl⟩ : ∃ rb, ao = some ⟨rb, 0, none⟩ := by
    rcases ho.2 with ⟨_, hn0⟩ | ⟨g, cap, cur, e, _⟩
    · exact absurd hn0 (by decide)
    · injection e with e _ _
      exact ⟨g, e⟩
  refine ⟨⟨rb, c', av', tb', tv', tq', rfl, ?_, hp⟩, hm.below (fun k hk => ?_) hB⟩
  · rw [ho.cellAt 0 (by decide)]
    rfl
  · rcases List.mem_cons.1 hk with rfl | hk
    · exact hH.base
    · rcases a_mem_foot.1 hk with rfl | hk
      · exact hH.ar.base
      · cases hk
theorem lbind_any {n : Int} (hH : Hp w B hb ab tb m av lL1 tv tq ns (.slice none 0 0) (.slice none 0 0) n) (hB : B ≤ w.heap.size) (n0 : 0 ≤ n) (n1 : n ≤ 1000) :
    Calls Tryz.prog 18 #[.pointer (some ⟨hb, 0, none⟩), .int .i64 4, .int .i64 0] w fun e w' => e = .returned .nilIface ∧ Hp w' B hb ab tb m av lL2 tv tq ns (.slice none 0 0) (.slice none 0 0) (n + 1) ∧ Below B w w' := by
  refine (bind0_left hH sndL1 4 0 (by decide +kernel) (by decide +kernel) (by decide) (by decide) n0 (by omega) (by rw [trL14]; decide) (by rw [trL14, trL10]; decide) (by rw [trL14, trL10]; decide +kernel)).mono ?_
  rintro e w' ⟨rfl, hp, hm⟩
  rw [trL14, trL10, show lL1.set (valOf 32).toNat 11 = lL2 by decide +kernel] at hp
  refine ⟨rfl, hp, hm.below (fun k hk => ?_) hB⟩
  rcases List.mem_cons.1 hk with rfl | hk
  · exact hH.base
  · rcases a_mem_foot.1 hk with rfl | hk
    · exact hH.ar.base
    · exact (hH.ar.row hk).1
end
end Go.Proofs.YtnpopfmmebaihaaGreatDoor

/- The fixed fact of layer 11: its walk. -/
namespace Go.Proofs.YtnpopfmmebaihaaGreatDoor
open Go.RowKit

section
variable {w : World} {B hb ab tb : Nat} {m : Int} {av : Value} {tv : Value} {tq : Nat} {trv ptv : Value} {n : Int}
theorem llook_any (hH : Hp w B hb ab tb m av lL2 tv tq [fSC] trv ptv n) :
    Calls Tryz.prog 22 #[.pointer (some ⟨hb, 0, none⟩), .int .i64 3] w fun e w' => (∃ s ao k c, e = .returned (.tuple #[.agg #[.int .i64 4, .int .i64 1, .string s, .int .i64 0, .slice ao k c], .nilIface])) ∧ Below w.heap.size w w' := by
  refine (look_ok hH sndL2 nsL2 3 (by decide +kernel) (by decide)).mono ?_
  rintro e w' ⟨⟨ao, c, rfl, _⟩, hb'⟩
  rw [trL23, show tdK 11 = 4 by decide +kernel, show tdA 11 = 1 by decide +kernel, show tdN 11 = 0 by decide +kernel]
  exact ⟨⟨_, _, _, _, rfl⟩, hb'⟩
theorem lget_any (hH : Hp w B hb ab tb m av lL2 tv tq [fSC] trv ptv n) {cv : Value} (hC : Ri w cv [0]) :
    Calls Tryz.prog 12 #[.pointer (some ⟨hb, 0, none⟩), cv] w fun e w' => (∃ na nc ra rl rc, e = .returned (.tuple #[.agg #[.slice na 1 nc, .slice ra rl rc], .nilIface])) ∧ Below w.heap.size w w' := by
  refine (get_ok hH sndL2 nsL2 hC (fun x hx => ?_) (by decide) (fun TS h => by rw [oneL h]; decide)).mono ?_
  · have e : x = 0 := by simpa using hx
    subst e
    decide +kernel
  · rintro e w' ⟨⟨nv, rv, avs, TS, ee, rfl, hF, hg, he, hO⟩, hb'⟩
    obtain ⟨na, nc, rfl⟩ := hO.nsl
    obtain ⟨ra, rc, rfl, _⟩ := hO.r
    rw [lenL hF hg he]
    exact ⟨⟨_, _, _, _, _, rfl⟩, hb'⟩
end
set_option maxRecDepth 100000 in
set_option maxHeartbeats 8000000 in
theorem clives_any (w : World) : Calls Tryz.prog 6 #[] w fun e w' => e = .returned (.bool true) ∧ Below w.heap.size w w' := by
  have hnw := hid (hnew_ok 20 w w.heap.size (Nat.le_refl _) (by decide) (by decide))
  go_enter Tryz.func6, Tryz.ntmps6
  go_wp2_with (first
    | (go_at_call 5; refine hnw.out.mono ?_; rintro e w1 ⟨⟨hb, ab, tb, tq, rfl, hH1, z1, z2, z3, z4⟩, hb1⟩; have HH1 := hid hH1; have Hb1 := hid hb1; have zb := lt_of_block hH1.blk; have za := hH1.ar.lt; clear hH1 hb1)
    | (go_at_call 33; refine (loop_any _).mono ?_; rintro e w2 ⟨⟨a, b, c, rfl, hL2, ya, yb, yc⟩, hb2⟩; have HL2 := hid hL2; have HH2 := hid (HH1.out.below hb2); have Hb2 := hid (Below.next Hb1.out hb2); have hpt := hid (lput_any HH2.out Hb2.out.size hL2 ⟨by omega, by omega⟩ ⟨by omega, by omega⟩ ⟨by omega, by omega⟩); clear hL2 hb2)
    | (go_at_call 10; refine hpt.out.mono ?_; rintro e w3 ⟨⟨rb, rc, av3, tb3, tv3, tq3, rfl, r0, hH3⟩, hb3⟩; have HH3 := hid hH3; have Hb3 := hid (Hb2.out.trans hb3); have zr := lt_of_cell r0; clear hH3 hb3)
    | (go_at_call 8; refine (htop_any HH3.out).mono ?_; rintro e w4 ⟨rfl, hw⟩; replace hw := hw.symm; subst hw)
    | (go_at_call 18; refine (lbind_any HH3.out Hb3.out.size (by decide) (by decide)).mono ?_; rintro e w5 ⟨rfl, hH5, hb5⟩; have HH5 := hid hH5; have Hb5 := hid (Hb3.out.trans hb5); clear hH5 hb5)
    | (go_at_call 22; refine (llook_any HH5.out).mono ?_; rintro e w6 ⟨⟨ls, la, lk, lc, rfl⟩, hb6⟩; have HH6 := hid (HH5.out.below hb6); have Hb6 := hid (Below.next Hb5.out hb6); clear hb6))
  have hbc := below_alloc w6 (.cells #[.int .i64 4, .int .i64 1, .string ls, .int .i64 0, .slice la lk lc] 54)
  have hbg := Below.next hbc (below_alloc _ oLc)
  have hri : Ri ((w6.alloc (.cells #[.int .i64 4, .int .i64 1, .string ls, .int .i64 0, .slice la lk lc] 54)).alloc oLc) (.slice (some ⟨w6.heap.size + 1, 0, none⟩) 1 1) [0] := ri_lit1 (by
    have h9 := heap_alloc_new (w6.alloc (.cells #[.int .i64 4, .int .i64 1, .string ls, .int .i64 0, .slice la lk lc] 54)) oLc
    rw [show (w6.alloc (.cells #[.int .i64 4, .int .i64 1, .string ls, .int .i64 0, .slice la lk lc] 54)).heap.size = w6.heap.size + 1 by simp] at h9
    exact h9)
  have hcb : ((w6.alloc (.cells #[.int .i64 4, .int .i64 1, .string ls, .int .i64 0, .slice la lk lc] 54)).alloc oLc).heap[w6.heap.size]? = some (.cells #[.int .i64 4, .int .i64 1, .string ls, .int .i64 0, .slice la lk lc] 54) := (Below.heap_alloc _ _ _ (by simp)).trans (heap_alloc_new w6 _)
  refine (lget_any (HH6.out.below hbg) hri).mono ?_
  rintro e w7 ⟨⟨na, nc, ra, rl, rc7, rfl⟩, hb7⟩
  have hc7 := (hb7.block _ (lt_of_block hcb)).trans hcb
  obtain ⟨⟨c0, c1, c2, c3, c4⟩, _, cz⟩ := cel_cells hc7
  have Hb7 := hid (Below.next Hb6.out (Below.next hbg hb7))
  have Hb8 := hid (Below.next Hb7.out (below_alloc w7 (.cells #[.slice na 1 nc, .slice ra rl rc7] 25)))
  clear hb7 hcb hri hbg hbc hc7
  go_wp2
  go_ret
  exact ⟨rfl, Hb8.out⟩
end Go.Proofs.YtnpopfmmebaihaaGreatDoor

/- Package cells: what is put down is read as it was. -/
namespace Go.Proofs.YtnpopfmmebaihaaGreatDoor
open Go.RowKit

theorem getD_mapI (f : Int → Int) {L : List Int} {i : Nat} (h : i < L.length) : (L.map f).getD i 0 = f (L.getD i 0) := by simp [List.getD, h]
theorem getD_mapR {n i : Nat} (f : Nat → Int) (h : i < n) : ((List.range n).map f).getD i 0 = f i := by simp [List.getD, h]
section
variable {NS : List ByteArray} {g : Gf} {met : List Int} {l : List Int} {V : Nat → Bool}
theorem PmC.inj (h : PmC NS g met l.length) {x y : Int} (hx : x ∈ met) (hy : y ∈ met) (kx : 1 ≤ szN (g.nodes.getD x.toNat nd0)) (ky : 1 ≤ szN (g.nodes.getD y.toNat nd0)) (e : plN g met l.length x = plN g met l.length y) : x = y := by
  have _ := h.len
  have h1 : pos met x = pos met y := by
    rcases Nat.lt_trichotomy (pos met x) (pos met y) with h1 | h1 | h1
    · have := want_next (g := g) (met := met) h1
      rw [pos_at hx] at this
      unfold plN at e
      omega
    · exact h1
    · have := want_next (g := g) (met := met) h1
      rw [pos_at hy] at this
      unfold plN at e
      omega
  rw [← pos_at hx, h1, pos_at hy]
/-- The term of a cell that holds a node. -/
theorem PmC.trm (hs : Snd l V) (h : PmC NS g met l.length) {x : Int} (hx : x ∈ met) {k : Nat} (hk : k < (l ++ putW NS g met l.length).length) (e : wdN (l ++ putW NS g met l.length) k = cwX NS g met l.length x) : trmW (l ++ putW NS g met l.length) k = cwX NS g met l.length x := by
  have hsn := put_snd hs h
  have hcw := h.cw hx
  have hpl := h.pl hx
  have hrm := h.room
  have hlen : (l ++ putW NS g met l.length).length = l.length + (putW NS g met l.length).length := by simp
  have ht : tgN (l ++ putW NS g met l.length) k = cwX NS g met l.length x % 8 := by unfold tgN; rw [e]
  rcases hcw.tag with t | t | t | t
  · obtain ⟨kk, hv⟩ := hcw.ref t
    have hvl : vlN (l ++ putW NS g met l.length) k = plN g met l.length x := by unfold vlN; rw [e, hv, Int.toNat_natCast]
    have hw := h.var hx kk
    have hwe : (8 * (plN g met l.length x : Int)) = cwX NS g met l.length x := by
      have := wordOf_back (cwX NS g met l.length x) hcw.rng.1 hcw.rng.2
      rw [t, hv] at this
      rw [← this]
      rw [sz_var kk] at hpl
      unfold wordOf
      omega
    by_cases hself : vlN (l ++ putW NS g met l.length) k = k
    · have hn : nxN (l ++ putW NS g met l.length) k = none := by unfold nxN; rw [if_pos (by omega), if_pos hself]
      rw [trm_end hn]
      unfold endW
      rw [if_neg (by omega), e]
    · have hn : nxN (l ++ putW NS g met l.length) k = some (plN g met l.length x) := by unfold nxN; rw [if_pos (by omega), if_neg hself, hvl]
      rw [trm_next hsn hk hn]
      have ht2 : tgN (l ++ putW NS g met l.length) (plN g met l.length x) = 0 := by unfold tgN; rw [hw, hwe]; exact t
      have hv2 : vlN (l ++ putW NS g met l.length) (plN g met l.length x) = plN g met l.length x := by unfold vlN; rw [hw, hwe, hv, Int.toNat_natCast]
      have hn2 : nxN (l ++ putW NS g met l.length) (plN g met l.length x) = none := by unfold nxN; rw [if_pos ht2, if_pos hv2]
      rw [trm_end hn2]
      unfold endW
      rw [if_neg (by omega), hw, hwe]
  · have hn : nxN (l ++ putW NS g met l.length) k = none := by unfold nxN; rw [if_neg (by omega), if_neg (by omega)]
    rw [trm_end hn]
    unfold endW
    rw [if_neg (by omega), e]
  · have hn : nxN (l ++ putW NS g met l.length) k = none := by unfold nxN; rw [if_neg (by omega), if_neg (by omega)]
    rw [trm_end hn]
    unfold endW
    rw [if_neg (by omega), e]
  · obtain ⟨kk, hv⟩ := hcw.str t
    have hvl : vlN (l ++ putW NS g met l.length) k = plN g met l.length x := by unfold vlN; rw [e, hv, Int.toNat_natCast]
    have hn : nxN (l ++ putW NS g met l.length) k = some (plN g met l.length x) := by unfold nxN; rw [if_neg (by omega), if_pos (Or.inl (by omega)), hvl]
    rw [trm_next hsn hk hn]
    have ht2 : tgN (l ++ putW NS g met l.length) (plN g met l.length x) = 4 := by unfold tgN; rw [h.fun hx kk]; exact (h.fw hx kk).2.2.1
    have hn2 : nxN (l ++ putW NS g met l.length) (plN g met l.length x) = none := by unfold nxN; rw [if_neg (by omega), if_neg (by omega)]
    rw [trm_end hn2]
    unfold endW
    rw [if_pos ht2]
    have := wordOf_back (cwX NS g met l.length x) hcw.rng.1 hcw.rng.2
    rw [t, hv] at this
    exact this
/-- The arguments of a node, read. -/
theorem PmC.tdL (hs : Snd l V) (h : PmC NS g met l.length) {x : Int} (hx : x ∈ met) : (tdL (l ++ putW NS g met l.length) (cwX NS g met l.length x)).map (tmC (l ++ putW NS g met l.length)) = (g.nodes.getD x.toNat nd0).args.map (cwX NS g met l.length) := by
  have hcw := h.cw hx
  have hn := h.nd hx
  have hlen : (l ++ putW NS g met l.length).length = l.length + (putW NS g met l.length).length := by simp
  by_cases t : cwX NS g met l.length x % 8 = 3
  · obtain ⟨kk, hv⟩ := hcw.str t
    obtain ⟨f1, _, f3, f4⟩ := h.fw hx kk
    have h18 := good_comp hn kk
    have hpl := h.pl hx
    rw [sz_comp kk] at hpl
    unfold Go.Proofs.YtnpopfmmebaihaaGreatDoor.tdL rchL
    rw [if_pos t, hv, Int.toNat_natCast, h.fun hx kk, if_neg (by omega), if_pos f3, f4]
    have ha : (((num NS (g.nodes.getD x.toNat nd0).name : Int) * 16 + ((g.nodes.getD x.toNat nd0).args.length : Int)) % 16).toNat = (g.nodes.getD x.toNat nd0).args.length := by omega
    rw [ha]
    refine list_ext0 (by simp) (fun i hi => ?_)
    have hi' : i < (g.nodes.getD x.toNat nd0).args.length := by simpa using hi
    obtain ⟨ea, hm⟩ := h.args hx kk hi'
    have hk : plN g met l.length x + 1 + i < (l ++ putW NS g met l.length).length := by rw [hlen]; omega
    have htm := h.trm hs hm hk ea
    rw [getD_mapI _ (by simpa using hi'), getD_mapR _ hi', getD_mapI _ hi']
    show trmW _ ((plN g met l.length x + 1 + i : Nat) : Int).toNat = _
    rw [Int.toNat_natCast]
    exact htm
  · have hne : (g.nodes.getD x.toNat nd0).kind ≠ 4 := fun k4 => t (by
      unfold cwX cwF
      rw [if_neg (by omega), if_neg (by omega), if_pos k4]
      exact wordOf_tag _ _ (by omega) (by omega))
    have ha : (g.nodes.getD x.toNat nd0).args = [] := by
      have : (g.nodes.getD x.toNat nd0).args.length = 0 := by
        unfold goodNd at hn
        rcases good_kind (h.nd hx) with k | k | k | k
        · rw [if_pos k] at hn
          simp only [Bool.and_eq_true, decide_eq_true_eq] at hn
          exact hn.2
        · rw [if_neg (by omega), if_pos k] at hn
          simp only [Bool.and_eq_true, decide_eq_true_eq] at hn
          exact hn.2
        · rw [if_neg (by omega), if_neg (by omega), if_pos k] at hn
          simp only [Bool.and_eq_true, decide_eq_true_eq] at hn
          exact hn.2
        · exact absurd k hne
      exact List.eq_nil_of_length_eq_zero this
    rw [ha]
    unfold Go.Proofs.YtnpopfmmebaihaaGreatDoor.tdL
    rw [if_neg t]
    rfl
theorem bytes_nil {s : ByteArray} (h : s.toList = []) : s = ⟨#[]⟩ := by
  rw [ByteArray.toList_eq] at h
  apply ByteArray.ext
  exact Array.toList_inj.1 h
/-- The label of a node, read. -/
theorem PmC.lab (h : PmC NS g met l.length) (hin : ∀ x ∈ met, (g.nodes.getD x.toNat nd0).kind = 2 ∨ (g.nodes.getD x.toNat nd0).kind = 4 → inL NS (g.nodes.getD x.toNat nd0).name = true) {x : Int} (hx : x ∈ met) : tdK (cwX NS g met l.length x) = (g.nodes.getD x.toNat nd0).kind ∧ tdS (l ++ putW NS g met l.length) NS (cwX NS g met l.length x) = (g.nodes.getD x.toNat nd0).name ∧ tdN (cwX NS g met l.length x) = (g.nodes.getD x.toNat nd0).num := by
  have hcw := h.cw hx
  have hn := h.nd hx
  have hl := h.len
  unfold goodNd at hn
  rcases good_kind (h.nd hx) with k | k | k | k
  · rw [if_pos k] at hn
    simp only [Bool.and_eq_true, decide_eq_true_eq] at hn
    have t : cwX NS g met l.length x % 8 = 0 := by
      unfold cwX cwF
      rw [if_neg (by omega), if_neg (by omega), if_neg (by omega)]
      exact wordOf_tag _ _ (by omega) (by omega)
    refine ⟨by rw [k]; simp [tdK, t], ?_, by rw [hn.1.2]; simp [tdN, t]⟩
    rw [bytes_nil hn.1.1]
    simp [tdS, t]
  · rw [if_neg (by omega), if_pos k] at hn
    simp only [Bool.and_eq_true, decide_eq_true_eq] at hn
    have hnm := h.nm x hx (Or.inl k)
    have hwe : cwX NS g met l.length x = wordOf 1 (num NS (g.nodes.getD x.toNat nd0).name : Int) := by
      unfold cwX cwF
      rw [if_pos k]
    have hf : fitsB 1 (num NS (g.nodes.getD x.toNat nd0).name : Int) = true := by generalize num NS (g.nodes.getD x.toNat nd0).name = v at *; simp [fitsB]; omega
    have t : cwX NS g met l.length x % 8 = 1 := by
      rw [hwe]
      exact wordOf_tag _ _ (by omega) (by omega)
    have hv : valOf (cwX NS g met l.length x) = (num NS (g.nodes.getD x.toNat nd0).name : Int) := by rw [hwe]; exact wordOf_val _ _ hf
    refine ⟨by rw [k]; simp [tdK, t], ?_, by rw [hn.1.2]; simp [tdN, t]⟩
    unfold tdS
    rw [if_pos t, hv, Int.toNat_natCast]
    exact num_at (hin x hx (Or.inl k))
  · rw [if_neg (by omega), if_neg (by omega), if_pos k] at hn
    simp only [Bool.and_eq_true, decide_eq_true_eq] at hn
    have hwe : cwX NS g met l.length x = wordOf 2 (g.nodes.getD x.toNat nd0).num := by
      unfold cwX cwF
      rw [if_neg (by omega), if_pos k]
    have t : cwX NS g met l.length x % 8 = 2 := by
      rw [hwe]
      exact wordOf_tag _ _ (by omega) (by omega)
    have hv : valOf (cwX NS g met l.length x) = (g.nodes.getD x.toNat nd0).num := by rw [hwe]; exact wordOf_val _ _ (good_int (h.nd hx) k)
    refine ⟨by rw [k]; simp [tdK, t], ?_, ?_⟩
    · rw [bytes_nil hn.1.1.1]
      simp [tdS, t]
    · unfold tdN
      rw [if_pos t, hv]
  · rw [if_neg (by omega), if_neg (by omega), if_neg (by omega), if_pos k] at hn
    simp only [Bool.and_eq_true, decide_eq_true_eq] at hn
    have t : cwX NS g met l.length x % 8 = 3 := by
      unfold cwX cwF
      rw [if_neg (by omega), if_neg (by omega), if_pos k]
      exact wordOf_tag _ _ (by omega) (by omega)
    obtain ⟨_, hv⟩ := hcw.str t
    have h18 := good_comp (h.nd hx) k
    refine ⟨by rw [k]; simp [tdK, t], ?_, by rw [hn.1.1.1.2]; simp [tdN, t]⟩
    unfold tdS
    rw [if_neg (by omega), if_pos t, hv, Int.toNat_natCast, h.fun hx k, (h.fw hx k).2.2.2]
    have : (((num NS (g.nodes.getD x.toNat nd0).name : Int) * 16 + ((g.nodes.getD x.toNat nd0).args.length : Int)) / 16).toNat = num NS (g.nodes.getD x.toNat nd0).name := by omega
    rw [this]
    exact num_at (hin x hx (Or.inr k))
/-- What is read of the roots' cells is the graph that was put down, but for which nodes are one. -/
theorem put_pr (hs : Snd l V) (h : PmC NS g met l.length) (hin : ∀ x ∈ met, (g.nodes.getD x.toNat nd0).kind = 2 ∨ (g.nodes.getD x.toNat nd0).kind = 4 → inL NS (g.nodes.getD x.toNat nd0).name = true) {cs TS : List Int} (hcs : cs = (List.range g.roots.length).map (fun i => ((l.length + i : Nat) : Int))) (hF : Rfi (l ++ putW NS g met l.length) cs TS) :
    Pr (rdG (l ++ putW NS g met l.length) NS cs TS) g (fun i x => x ∈ met ∧ isN (rdG (l ++ putW NS g met l.length) NS cs TS) i ∧ TS.getD i.toNat 0 = cwX NS g met l.length x) ∧ TS.length ≤ met.length := by
  have hlen : (l ++ putW NS g met l.length).length = l.length + (putW NS g met l.length).length := by simp
  have hnn := rd_nodes (ns := NS) hF
  have hcl : cs.length = g.roots.length := by rw [hcs]; simp
  have hroot : ∀ i, i < g.roots.length → tmC (l ++ putW NS g met l.length) (cs.getD i 0) = cwX NS g met l.length (g.roots.getD i 0) ∧ g.roots.getD i 0 ∈ met := fun i hi => by
    have hm := h.root _ (getD_mem hi)
    refine ⟨?_, hm⟩
    rw [hcs, getD_mapR _ hi]
    show trmW _ ((l.length + i : Nat) : Int).toNat = _
    rw [Int.toNat_natCast]
    have hr := want_root (g := g) (met := met) met.length
    have hpl := putW_len (ns := NS) (g := g) (met := met) (b := l.length)
    refine h.trm hs hm (by rw [hlen]; omega) ?_
    rw [wd_nw (by omega), show l.length + i - l.length = i by omega]
    exact putW_root hi
  have hall : ∀ t ∈ TS, ∃ x ∈ met, t = cwX NS g met l.length x := hF.mn (fun t => ∃ x ∈ met, t = cwX NS g met l.length x) (fun c hc => by
    obtain ⟨i, hi, rfl⟩ := list_mem_getD hc
    obtain ⟨e, hm⟩ := hroot i (by omega)
    exact ⟨_, hm, e⟩) (fun t ht c hc => by
    obtain ⟨x, hx, rfl⟩ := ht
    have e := h.tdL hs hx
    have hmem : tmC (l ++ putW NS g met l.length) c ∈ (g.nodes.getD x.toNat nd0).args.map (cwX NS g met l.length) := by
      rw [← e]
      exact List.mem_map.2 ⟨c, hc, rfl⟩
    obtain ⟨y, hy, hye⟩ := List.mem_map.1 hmem
    exact ⟨y, h.arg x hx y hy, hye.symm⟩)
  have hndx : ∀ i x, x ∈ met → isN (rdG (l ++ putW NS g met l.length) NS cs TS) i → TS.getD i.toNat 0 = cwX NS g met l.length x → (rdG (l ++ putW NS g met l.length) NS cs TS).nd i = ⟨(g.nd x).kind, (g.nd x).name, (g.nd x).num, (g.nd x).args.map (fun a => posF TS (cwX NS g met l.length a))⟩ := fun i x hx hi e => by
    have hi2 : i.toNat < TS.length := by
      unfold isN at hi
      rw [hnn] at hi
      omega
    have h1 : (rdG (l ++ putW NS g met l.length) NS cs TS).nd i = ndT (l ++ putW NS g met l.length) NS TS (TS.getD i.toNat 0) := by
      show ((TS.take TS.length).map (ndT (l ++ putW NS g met l.length) NS TS)).getD i.toNat nd0 = _
      rw [List.take_length]
      simp [List.getD, hi2]
    rw [h1, e]
    obtain ⟨k1, k2, k3⟩ := h.lab hin hx
    unfold ndT
    rw [k1, k2, k3]
    have e2 := h.tdL hs hx
    have e3 : (Go.Proofs.YtnpopfmmebaihaaGreatDoor.tdL (l ++ putW NS g met l.length) (cwX NS g met l.length x)).map (fun c => posF TS (tmC (l ++ putW NS g met l.length) c)) = (g.nd x).args.map (fun a => posF TS (cwX NS g met l.length a)) := by
      have := congrArg (List.map (posF TS)) e2
      rw [List.map_map, List.map_map] at this
      exact this
    rw [e3]
    rfl
  have hposN : ∀ t, t ∈ TS → isN (rdG (l ++ putW NS g met l.length) NS cs TS) (posF TS t) ∧ TS.getD (posF TS t).toNat 0 = t := fun t ht => by
    have hp := posF_in ht
    refine ⟨by unfold isN; rw [hnn]; exact hp, ?_⟩
    unfold posF
    rw [if_pos ht, Int.toNat_natCast]
    exact pos_at ht
  refine ⟨⟨fun i x r => ⟨r.2.1, ?_⟩, fun i x r => ?_, fun i x r k hk => ?_, fun i y y' r r' hk => ?_, fun i i' y r r' hk => ?_, ?_, fun i hi => ?_⟩, ?_⟩
  · exact h.ok.rng x r.1
  · rw [hndx i x r.1 r.2.1 r.2.2]
    exact ⟨rfl, rfl, rfl, by simp⟩
  · have hn := hndx i x r.1 r.2.1 r.2.2
    have hk' : k < (g.nd x).args.length := by rw [hn] at hk; simpa using hk
    have harg : (g.nd x).args.getD k 0 ∈ met := h.arg x r.1 _ (getD_mem hk')
    have e1 : (rdG (l ++ putW NS g met l.length) NS cs TS).arg i k = posF TS (cwX NS g met l.length ((g.nd x).args.getD k 0)) := by
      unfold Gf.arg
      rw [hn]
      exact getD_mapI _ hk'
    have hmem : cwX NS g met l.length ((g.nd x).args.getD k 0) ∈ TS := by
      have hi2 : i.toNat < TS.length := by
        have := r.2.1
        unfold isN at this
        rw [hnn] at this
        omega
      have e2 := h.tdL hs r.1
      have hm2 : cwX NS g met l.length ((g.nd x).args.getD k 0) ∈ (Go.Proofs.YtnpopfmmebaihaaGreatDoor.tdL (l ++ putW NS g met l.length) (cwX NS g met l.length x)).map (tmC (l ++ putW NS g met l.length)) := by
        rw [e2]
        exact List.mem_map.2 ⟨_, getD_mem hk', rfl⟩
      obtain ⟨c, hc, hce⟩ := List.mem_map.1 hm2
      rw [← hce]
      exact hF.cl i.toNat hi2 c (by rw [r.2.2]; exact hc)
    rw [e1]
    obtain ⟨p1, p2⟩ := hposN _ hmem
    exact ⟨harg, p1, p2⟩
  · have k1 : (g.nd y).kind = 1 := by rw [hndx i y r.1 r.2.1 r.2.2] at hk; exact hk
    have k2 : (g.nd y').kind = 1 := by rw [hndx i y' r'.1 r'.2.1 r'.2.2] at hk; exact hk
    have e : cwX NS g met l.length y = cwX NS g met l.length y' := by rw [← r.2.2, r'.2.2]
    have w1 : ∀ z, z ∈ met → (g.nd z).kind = 1 → valOf (cwX NS g met l.length z) = (plN g met l.length z : Int) := fun z hz kz => by
      have t : cwX NS g met l.length z % 8 = 0 := by
        have kz' : (g.nodes.getD z.toNat nd0).kind = 1 := kz
        unfold cwX cwF
        rw [if_neg (by omega), if_neg (by omega), if_neg (by omega)]
        exact wordOf_tag _ _ (by omega) (by omega)
      exact ((h.cw hz).ref t).2
    have e2 := w1 y r.1 k1
    rw [e, w1 y' r'.1 k2] at e2
    exact h.inj r.1 r'.1 (by rw [sz_var (n := g.nodes.getD y.toNat nd0) k1]; omega) (by rw [sz_var (n := g.nodes.getD y'.toNat nd0) k2]; omega) (by omega)
  · have e : TS.getD i.toNat 0 = TS.getD i'.toNat 0 := by rw [r.2.2, r'.2.2]
    have h1 := r.2.1
    have h2 := r'.2.1
    unfold isN at h1 h2
    rw [hnn] at h1 h2
    have p1 := pos_of_getD hF.nodup (show i.toNat < TS.length by omega)
    have p2 := pos_of_getD hF.nodup (show i'.toNat < TS.length by omega)
    rw [e, p2] at p1
    omega
  · show (cs.map (fun c => posF TS (tmC (l ++ putW NS g met l.length) c))).length = _
    rw [List.length_map]
    exact hcl
  · have hi' : i < cs.length := by
      have : (rdG (l ++ putW NS g met l.length) NS cs TS).roots.length = cs.length := by simp [rdG]
      omega
    obtain ⟨e, hm⟩ := hroot i (by omega)
    have hmem := hF.root _ (getD_mem hi')
    have e1 : (rdG (l ++ putW NS g met l.length) NS cs TS).roots.getD i 0 = posF TS (tmC (l ++ putW NS g met l.length) (cs.getD i 0)) := getD_mapI _ hi'
    rw [e1]
    obtain ⟨p1, p2⟩ := hposN _ hmem
    exact ⟨hm, p1, by rw [p2]; exact e⟩
  · have := len_le_of_subset (met.map (cwX NS g met l.length)) TS hF.nodup (fun t ht => by
      obtain ⟨x, hx, rfl⟩ := hall t ht
      exact List.mem_map.2 ⟨x, hx, rfl⟩)
    simpa using this
end
end Go.Proofs.YtnpopfmmebaihaaGreatDoor

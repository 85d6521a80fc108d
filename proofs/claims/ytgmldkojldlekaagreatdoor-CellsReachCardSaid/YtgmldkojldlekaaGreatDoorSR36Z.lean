/- The fixed fact of layer 11: its walk. -/
import Derived.Deep.DeepCutAuto
import Derived.Test.YtgmldkojldlekaaGreatDoorTie
import Derived.Test.YtgmldkojldlekaaGreatDoorCards
import Derived.ProofKit
import Derived.LaidMore
import Derived.LaidHandle
import Derived.OpenShut
import Derived.Stop.Joined
import Derived.Stop.LaidErr
import Derived.Test.YtgmldkojldlekaaGreatDoorSR33Z
import Derived.Test.YtgmldkojldlekaaGreatDoorSR20Z
import Derived.Test.YtgmldkojldlekaaGreatDoorSR32Z
import Derived.Test.YtgmldkojldlekaaGreatDoorSR34Z
import Derived.Test.YtgmldkojldlekaaGreatDoorSR07Z
namespace Go.Proofs.YtgmldkojldlekaaGreatDoor
set_option maxRecDepth 100000
open Go.RowKit
section
variable {w : World} {B hb ab tb : Nat} {m : Int} {av : Value} {tv : Value} {tq : Nat} {trv ptv : Value} {n : Int}
theorem llook_any (hH : Hp w B hb ab tb m av lL2 tv tq [fSC] trv ptv n) :
    Calls Tryz.prog 25 #[.pointer (some ⟨hb, 0, none⟩), .int .i64 3] w fun e w' => (∃ s ao k c, e = .returned (.tuple #[.agg #[.int .i64 4, .int .i64 1, .string s, .int .i64 0, .slice ao k c], .nilIface])) ∧ Below w.heap.size w w' := by
  refine (look_ok hH sndL2 nsL2 3 (by decide +kernel) (by decide)).mono ?_
  rintro e w' ⟨⟨ao, c, rfl, _⟩, hb'⟩
  rw [trL23, show tdK 11 = 4 by decide +kernel, show tdA 11 = 1 by decide +kernel, show tdN 11 = 0 by decide +kernel]
  exact ⟨⟨_, _, _, _, rfl⟩, hb'⟩
theorem lget_any (hH : Hp w B hb ab tb m av lL2 tv tq [fSC] trv ptv n) {cv : Value} (hC : Ri w cv [0]) :
    Calls Tryz.prog 26 #[.pointer (some ⟨hb, 0, none⟩), cv] w fun e w' => (∃ na nc ra rl rc, e = .returned (.tuple #[.agg #[.slice na 1 nc, .slice ra rl rc], .nilIface])) ∧ Below w.heap.size w w' := by
  refine (get_ok hH sndL2 nsL2 hC (fun x hx => ?_) (by decide) (fun TS h => by rw [oneL h]; decide)).mono ?_
  · have e : x = 0 := by simpa using hx
    subst e
    decide +kernel
  · rintro e w' ⟨⟨nv, rv, avs, TS, ee, rfl, hF, hg, he, hO⟩, hb'⟩
    obtain ⟨na, nc, rfl⟩ := hO.nsl
    obtain ⟨ra, rc, rfl, _⟩ := hO.r
    rw [lenL hF hg he]
    exact ⟨⟨_, _, _, _, _, rfl⟩, hb'⟩
end
set_option maxHeartbeats 8000000 in
theorem clives_any (w : World) : Calls Tryz.prog 6 #[] w fun e w' => e = .returned (.bool true) ∧ Below w.heap.size w w' := by
  have hnw := hid (hnew_ok 20 w w.heap.size (Nat.le_refl _) (by decide) (by decide))
  go_enter Tryz.func6, Tryz.ntmps6
  go_wp2_with (first
    | (go_at_call 20; refine hnw.out.mono ?_; rintro e w1 ⟨⟨hb, ab, tb, tq, rfl, hH1, z1, z2, z3, z4⟩, hb1⟩; have HH1 := hid hH1; have Hb1 := hid hb1; have zb := lt_of_block hH1.blk; have za := hH1.ar.lt; clear hH1 hb1)
    | (go_at_call 22; refine (loop_any _).mono ?_; rintro e w2 ⟨⟨a, b, c, rfl, hL2, ya, yb, yc⟩, hb2⟩; have HL2 := hid hL2; have HH2 := hid (HH1.out.below hb2); have Hb2 := hid (Below.next Hb1.out hb2); have hpt := hid (lput_any HH2.out Hb2.out.size hL2 ⟨by omega, by omega⟩ ⟨by omega, by omega⟩ ⟨by omega, by omega⟩); clear hL2 hb2)
    | (go_at_call 21; refine hpt.out.mono ?_; rintro e w3 ⟨⟨rb, rc, av3, tb3, tv3, tq3, rfl, r0, hH3⟩, hb3⟩; have HH3 := hid hH3; have Hb3 := hid (Hb2.out.trans hb3); have zr := lt_of_cell r0; clear hH3 hb3)
    | (go_at_call 23; refine (htop_any HH3.out).mono ?_; rintro e w4 ⟨rfl, hw⟩; replace hw := hw.symm; subst hw)
    | (go_at_call 24; refine (lbind_any HH3.out Hb3.out.size (by decide) (by decide)).mono ?_; rintro e w5 ⟨rfl, hH5, hb5⟩; have HH5 := hid hH5; have Hb5 := hid (Hb3.out.trans hb5); clear hH5 hb5)
    | (go_at_call 25; refine (llook_any HH5.out).mono ?_; rintro e w6 ⟨⟨ls, la, lk, lc, rfl⟩, hb6⟩; have HH6 := hid (HH5.out.below hb6); have Hb6 := hid (Below.next Hb5.out hb6); clear hb6))
  have hbc := below_alloc w6 (.cells #[.int .i64 4, .int .i64 1, .string ls, .int .i64 0, .slice la lk lc] 69)
  have hbg := Below.next hbc (below_alloc _ oLc)
  have hri : Ri ((w6.alloc (.cells #[.int .i64 4, .int .i64 1, .string ls, .int .i64 0, .slice la lk lc] 69)).alloc oLc) (.slice (some ⟨w6.heap.size + 1, 0, none⟩) 1 1) [0] := ri_lit1 (by
    have h9 := heap_alloc_new (w6.alloc (.cells #[.int .i64 4, .int .i64 1, .string ls, .int .i64 0, .slice la lk lc] 69)) oLc
    rw [show (w6.alloc (.cells #[.int .i64 4, .int .i64 1, .string ls, .int .i64 0, .slice la lk lc] 69)).heap.size = w6.heap.size + 1 by simp] at h9
    exact h9)
  have hcb : ((w6.alloc (.cells #[.int .i64 4, .int .i64 1, .string ls, .int .i64 0, .slice la lk lc] 69)).alloc oLc).heap[w6.heap.size]? = some (.cells #[.int .i64 4, .int .i64 1, .string ls, .int .i64 0, .slice la lk lc] 69) := (Below.heap_alloc _ _ _ (by simp)).trans (heap_alloc_new w6 _)
  refine (lget_any (HH6.out.below hbg) hri).mono ?_
  rintro e w7 ⟨⟨na, nc, ra, rl, rc7, rfl⟩, hb7⟩
  have hc7 := (hb7.block _ (lt_of_block hcb)).trans hcb
  obtain ⟨⟨c0, c1, c2, c3, c4⟩, _, cz⟩ := cel_cells hc7
  have Hb7 := hid (Below.next Hb6.out (Below.next hbg hb7))
  have Hb8 := hid (Below.next Hb7.out (below_alloc w7 (.cells #[.slice na 1 nc, .slice ra rl rc7] 30)))
  clear hb7 hcb hri hbg hbc hc7
  go_wp2
  go_ret
  exact ⟨rfl, Hb8.out⟩
end Go.Proofs.YtgmldkojldlekaaGreatDoor

namespace Go.Proofs.YtgmldkojldlekaaGreatDoor
set_option maxRecDepth 100000
open Go.RowKit
section
variable {W : World} {Bh hb ab tb : Nat} {m : Int} {av : Value} {l : List Int} {htv : Value} {tq : Nat} {ns : List ByteArray} {trv ptv : Value} {n : Int} {V : Nat → Bool}
set_option maxHeartbeats 2000000 in
theorem hreach_no (hH : Hp W Bh hb ab tb m av l htv tq ns trv ptv n) {cv : Value} {cs : List Int} (hC : Ri W cv cs) (hl : cs.length ≤ 5000) (hbd : badF l cs ≠ []) :
    Calls Tryz.prog 14 #[.pointer (some ⟨hb, 0, none⟩), cv] W fun e w' => (∃ q, e = .returned (.tuple #[.int .i64 0, .iface 102 (.pointer (some ⟨q, 0, none⟩))]) ∧ Er w' (.iface 102 (.pointer (some ⟨q, 0, none⟩))) (badF l cs)) ∧ Below W.heap.size W w' := by
  have hck := hid (checkedC_any hH.ar hC hl)
  obtain ⟨⟨c0, _⟩, c5⟩ := hH.cells
  obtain ⟨ca, cc, rfl, _⟩ := hC
  generalize badF l cs = fs at *
  generalize cs.length = len at *
  clear hH
  go_enter Tryz.func14, Tryz.ntmps14
  go_wp2_with (first
    | (go_at_call 31; refine (self_some _ _).mono ?_; rintro e w2 ⟨rfl, hw⟩; replace hw := hw.symm; subst hw)
    | (go_at_call 41; refine hck.out.mono ?_; rintro e w1 ⟨⟨ev, rfl, hev⟩, hb1⟩; obtain ⟨q, hq⟩ := er_ptr hev hbd; subst hq; have Hb1 := hid hb1; have HE := hid hev; clear hev hb1))
  go_ret2
  exact ⟨⟨q, rfl, HE.out⟩, Hb1.out⟩
set_option maxHeartbeats 2000000 in
theorem hreach_ok (hH : Hp W Bh hb ab tb m av l htv tq ns trv ptv n) (hs : Snd l V) (hll : l.length ≤ 5000) {cv : Value} {cs : List Int} (hC : Ri W cv cs) (hl : cs.length ≤ 5000) (hbd : badF l cs = []) :
    Calls Tryz.prog 14 #[.pointer (some ⟨hb, 0, none⟩), cv] W fun e w' => (∃ M, e = .returned (.tuple #[.int .i64 (M.length : Int), .nilIface]) ∧ RcS l cs M) ∧ Below W.heap.size W w' := by
  have hck := hid (checkedC_any hH.ar hC hl)
  rw [hbd] at hck
  have hrg : ∀ x ∈ cs, 0 ≤ x ∧ x < (l.length : Int) := fun x hx => by
    obtain ⟨k, rfl, hk⟩ := cell_nat (bad_all hbd x hx)
    omega
  obtain ⟨⟨c0, _⟩, c5⟩ := hH.cells
  have HH := hid hH
  obtain ⟨ca, cc, rfl, hc9⟩ := hC
  have hC' : Ri W (.slice ca cs.length cc) cs := ⟨ca, cc, rfl, hc9⟩
  have hrc := hid (fun w1 (hb1 : Below W.heap.size W w1) => reachable_any (hH.below hb1).ar hs hll (hC'.below hb1) hrg hl)
  clear hH hs hc9 hC' hrg hbd
  go_enter Tryz.func14, Tryz.ntmps14
  go_wp2_with (first
    | (go_at_call 31; refine (self_some _ _).mono ?_; rintro e w2 ⟨rfl, hw⟩; replace hw := hw.symm; subst hw)
    | (go_at_call 41; refine hck.out.mono ?_; rintro e w1 ⟨⟨ev, rfl, hev⟩, hb1⟩; have hev1 : ev = .nilIface := hev; subst hev1; have Hb1 := hid hb1; clear c0 c5 hev; obtain ⟨⟨c0, _⟩, c5⟩ := (HH.out.below hb1).cells; clear hb1)
    | (go_at_call 42; refine (hrc.out _ Hb1.out).mono ?_; rintro e w3 ⟨⟨M, rfl, hM⟩, hb3⟩; have HM := hid hM; have Hb3 := hid (Below.next Hb1.out hb3); clear hM hb3))
  go_ret2
  exact ⟨⟨M, rfl, HM.out⟩, Hb3.out⟩
theorem hreach_any (hH : Hp W Bh hb ab tb m av l htv tq ns trv ptv n) (hs : Snd l V) (hll : l.length ≤ 5000) {cv : Value} {cs : List Int} (hC : Ri W cv cs) (hl : cs.length ≤ 5000) :
    Calls Tryz.prog 14 #[.pointer (some ⟨hb, 0, none⟩), cv] W fun e w' => (∃ ev, e = .returned ev) ∧ Below W.heap.size W w' := by
  by_cases hbd : badF l cs = []
  · exact (hreach_ok hH hs hll hC hl hbd).mono fun e w' ⟨⟨_, e1, _⟩, e2⟩ => ⟨⟨_, e1⟩, e2⟩
  · exact (hreach_no hH hC hl hbd).mono fun e w' ⟨⟨_, e1, _⟩, e2⟩ => ⟨⟨_, e1⟩, e2⟩
end
end Go.Proofs.YtgmldkojldlekaaGreatDoor

namespace Go.Proofs.YtgmldkojldlekaaGreatDoor
set_option maxRecDepth 100000
open Go.RowKit Go.Shelf
attribute [local go_sem] Oper.semAt_some
abbrev Sk (hb : Nat) (v0 v2 v3 : Value) (w : World) : Prop := w.cell? ⟨hb, 0, none⟩ = some v0 ∧ w.cell? ⟨hb, 2, none⟩ = some v2 ∧ w.cell? ⟨hb, 3, none⟩ = some v3
theorem sk_dr {hb : Nat} {v0 v2 v3 : Value} {w : World} (h : Sk hb v0 v2 v3 w) : Sk hb v0 v2 v3 w.drew := h
theorem sk_al {hb : Nat} {v0 v2 v3 : Value} {w : World} {o : Obj} (h : Sk hb v0 v2 v3 w) : Sk hb v0 v2 v3 (w.alloc o) :=
  ⟨((below_alloc w o).cell (p := ⟨hb, 0, none⟩) (lt_of_cell h.1)).trans h.1, ((below_alloc w o).cell (p := ⟨hb, 2, none⟩) (lt_of_cell h.1)).trans h.2.1, ((below_alloc w o).cell (p := ⟨hb, 3, none⟩) (lt_of_cell h.1)).trans h.2.2⟩
theorem sk_set {hb t3 : Nat} {v0 v2 v3 : Value} {w : World} {a b c d e : Value} (hne : hb ≠ t3) (h : Sk hb v0 v2 v3 w) : Sk hb v0 v2 v3 (setD w t3 a b c d e) := by
  have hf : ∀ o, (setD w t3 a b c d e).cell? ⟨hb, o, none⟩ = w.cell? ⟨hb, o, none⟩ := fun o => World.cell?_of_block (w := w) (a := ⟨hb, o, none⟩) (setD_far w _ _ _ _ _ hne)
  exact ⟨(hf 0).trans h.1, (hf 2).trans h.2.1, (hf 3).trans h.2.2⟩
theorem Dk.ne {w W : World} {hb t3 : Nat} {ap tp : Option Addr} {trv ptv : Value} {n : Int} {cs : Array Value} (h : Dk w hb (hpO ap tp trv ptv n) W) (ht : W.heap[t3]? = some (.cells cs 44)) : hb ≠ t3 := obj_ne h.n ht (by decide)
theorem dump_fin {w W : World} {k1 k2 k3 t3 D kn : Nat} {xs1 xs2 xs3 : List Value} {pre : List (Nat × ByteArray)} {a1 a2 a3 ua : Option Addr} {c1 c2 c3 uc : Nat} {xn : List Value} (h : Dl w k1 xs1 k2 xs2 k3 xs3 t3 pre W) (_ : W.heap[t3]? = some (dmpO (.slice a1 k1 c1) (.slice a2 k2 c2) (.slice a3 k3 c3) (.slice ua kn uc) (.slice none 0 0))) (h2 : Dr w.heap.size (.slice a1 k1 c1) k1 xs1 (.slice a2 k2 c2) k2 xs2 (.slice a3 k3 c3) k3 xs3 W) (h3 : W.ownsRow w.heap.size 9 1 (.slice ua kn uc) kn xn) (hK : W.heap[D]? = some (.deferred (some []))) (hD : w.heap.size < D) :
    (setD W w.heap.size (.slice a1 k1 c1) (.slice a2 k2 c2) (.slice a3 k3 c3) (.slice ua kn uc) (.slice none 0 0)).heap[D]? = some (.deferred (some [])) ∧
    ((setD W w.heap.size (.slice a1 k1 c1) (.slice a2 k2 c2) (.slice a3 k3 c3) (.slice ua kn uc) (.slice none 0 0)).putObj D (.deferred none)).heap[w.heap.size]? = some (dmpO (.slice a1 k1 c1) (.slice a2 k2 c2) (.slice a3 k3 c3) (.slice ua kn uc) (.slice none 0 0)) ∧
    (Dr w.heap.size (.slice a1 k1 c1) k1 xs1 (.slice a2 k2 c2) k2 xs2 (.slice a3 k3 c3) k3 xs3 ((setD W w.heap.size (.slice a1 k1 c1) (.slice a2 k2 c2) (.slice a3 k3 c3) (.slice ua kn uc) (.slice none 0 0)).putObj D (.deferred none)) ∧ ((setD W w.heap.size (.slice a1 k1 c1) (.slice a2 k2 c2) (.slice a3 k3 c3) (.slice ua kn uc) (.slice none 0 0)).putObj D (.deferred none)).ownsRow w.heap.size 9 1 (.slice ua kn uc) kn xn) ∧
    Below w.heap.size w ((setD W w.heap.size (.slice a1 k1 c1) (.slice a2 k2 c2) (.slice a3 k3 c3) (.slice ua kn uc) (.slice none 0 0)).putObj D (.deferred none)) := by
  have hfar : ∀ k, k ≠ w.heap.size → (setD W w.heap.size (.slice a1 k1 c1) (.slice a2 k2 c2) (.slice a3 k3 c3) (.slice ua kn uc) (.slice none 0 0)).heap[k]? = W.heap[k]? := fun k hk => setD_far W _ _ _ _ _ hk
  have hat := setD_at h.x (.slice a1 k1 c1) (.slice a2 k2 c2) (.slice a3 k3 c3) (.slice ua kn uc) (.slice none 0 0)
  have hbb := setD_below h.b (Nat.le_refl _) (.slice a1 k1 c1) (.slice a2 k2 c2) (.slice a3 k3 c3) (.slice ua kn uc) (.slice none 0 0)
  have hd2 : Dr w.heap.size (.slice a1 k1 c1) k1 xs1 (.slice a2 k2 c2) k2 xs2 (.slice a3 k3 c3) k3 xs3 (setD W w.heap.size (.slice a1 k1 c1) (.slice a2 k2 c2) (.slice a3 k3 c3) (.slice ua kn uc) (.slice none 0 0)) := h2.keep (fun k o hk hno _ => (hfar k (fun e => by subst e; rw [h.x] at hk; exact hno _ _ (Option.some.inj hk).symm)).trans hk)
  have hd3 : (setD W w.heap.size (.slice a1 k1 c1) (.slice a2 k2 c2) (.slice a3 k3 c3) (.slice ua kn uc) (.slice none 0 0)).ownsRow w.heap.size 9 1 (.slice ua kn uc) kn xn := row_keep h3 (fun k hk => hfar k (fun e => by
    subst e
    obtain ⟨cur, hc⟩ := row_obj h3 hk
    exact obj_ne h.x hc (by decide) rfl))
  generalize setD W w.heap.size (.slice a1 k1 c1) (.slice a2 k2 c2) (.slice a3 k3 c3) (.slice ua kn uc) (.slice none 0 0) = X at *
  have m9 : X.heap[D]? = some (.deferred (some [])) := (hfar D (by omega)).trans hK
  have n9 : Nb w.heap.size X (X.putObj D (.deferred none)) := Nb.put (.deferred none) (by omega) m9 rfl
  refine ⟨m9, n9.block _ _ hat (Or.inr rfl), ⟨hd2.keep (fun k o hk _ ho => n9.block k o hk (Or.inr ho)), row_keep hd3 (fun k hk => ?_)⟩, n9.below hbb (Nat.le_refl _) (Nat.le_refl _)⟩
  obtain ⟨cur, hc⟩ := row_obj hd3 hk
  rw [hc]
  exact n9.block k _ hc (Or.inr rfl)
set_option maxHeartbeats 8000000 in
theorem dump_none (hv : Value) (ap tp va : Option Addr) (vc : Nat) (ta : Option Addr) (tn tc : Nat) (pa : Option Addr) (pn pc : Nat) (n : Int) (k1 : Nat) (xs1 : List Value) (k2 : Nat) (xs2 : List Value) (k3 : Nat) (xs3 : List Value) (w : World)
    (hself : ∀ w1, Below w.heap.size w w1 → Calls Tryz.prog 31 #[hv] w1 fun e w' => ∃ hb, e = .returned (.pointer (some ⟨hb, 0, none⟩)) ∧ w'.heap[hb]? = some (hpO ap tp (.slice ta tn tc) (.slice pa pn pc) n) ∧ Below w1.heap.size w1 w')
    (hwd : ∀ w1, Below w.heap.size w w1 → Calls Tryz.prog 32 #[.pointer ap] w1 fun e w' => ∃ ao c, e = .returned (.slice ao k1 c) ∧ w'.ownsRow w.heap.size 88 1 (.slice ao k1 c) k1 xs1 ∧ Below w1.heap.size w1 w')
    (hc2 : ∀ w1, Below w.heap.size w w1 → Calls Tryz.prog 33 #[.slice ta tn tc] w1 fun e w' => ∃ ao c, e = .returned (.slice ao k2 c) ∧ w'.ownsRow w.heap.size 90 2 (.slice ao k2 c) k2 xs2 ∧ Below w1.heap.size w1 w')
    (hc3 : ∀ w1, Below w.heap.size w w1 → Calls Tryz.prog 34 #[.slice pa pn pc] w1 fun e w' => ∃ ao c, e = .returned (.slice ao k3 c) ∧ w'.ownsRow w.heap.size 85 3 (.slice ao k3 c) k3 xs3 ∧ Below w1.heap.size w1 w')
    (hall : ∀ w1, Below w.heap.size w w1 → Calls Tryz.prog 35 #[.pointer tp] w1 fun e w' => e = .returned (.func (.func 91) #[] #[.pointer (some ⟨w1.heap.size, 0, none⟩)]) ∧ w' = w1.alloc (.cells #[.slice va 0 vc] 41)) :
    Calls Tryz.prog 10 #[hv] w fun e w' => (∃ a1 c1 a2 c2 a3 c3 ua uc, e = .returned (.agg #[.slice a1 k1 c1, .slice a2 k2 c2, .slice a3 k3 c3, .slice ua 0 uc, .slice none 0 0]) ∧ Dr w.heap.size (.slice a1 k1 c1) k1 xs1 (.slice a2 k2 c2) k2 xs2 (.slice a3 k3 c3) k3 xs3 w' ∧ w'.ownsRow w.heap.size 9 1 (.slice ua 0 uc) 0 []) ∧ Below w.heap.size w w' := by
  have hb0 := hid (below_alloc w dmp0)
  have hx0 := hid (heap_alloc_new w dmp0)
  have Hself := hid hself
  have Hwd := hid hwd
  have Hc2 := hid hc2
  have Hc3 := hid hc3
  have Hall := hid hall
  clear hself hwd hc2 hc3 hall
  refine (callsIn_wide (n := 4)).1 ?_
  refine callsIn_of_wp_marks Tryz.func10 rfl trivial ?_ rfl
  simp only [Tryz.ntmps10, List.size_toArray, List.length_cons, List.length_nil, Nat.reduceAdd, Nat.reduceSub, Array.replicate_succ, Array.replicate_zero, List.push_toArray, List.append_toArray, List.nil_append, List.cons_append]
  refine wpIn_wide.2 ?_
  go_wp2_with (go_at_call 31; refine (Hself.out _ hb0.out).mono ?_; rintro e w1 ⟨hb, rfl, hx, hb1⟩; have HD : Hid (Dk w hb (hpO ap tp (.slice ta tn tc) (.slice pa pn pc) n) w1) := ⟨Below.next hb0.out hb1, (hb1.block _ (by simp)).trans hx0.out, hx⟩; obtain ⟨c0, c1, c2, c3, c5⟩ := HD.out.cells; have z1 := lt_of_block HD.out.x; clear hx hb1)
  go_cut [3] from 8 to 24 (fun s3 wc => ∃ t3, s3 = .pointer (some ⟨t3, 0, none⟩) ∧ Hid (Dc w hb (hpO ap tp (.slice ta tn tc) (.slice pa pn pc) n) k1 xs1 k2 xs2 k3 xs3 t3 wc))
  case first =>
    have hO : Hid (∀ (cs : Array Value) (x : Nat × Nat), hpO ap tp (.slice ta tn tc) (.slice pa pn pc) n ≠ .cells cs 44 x) := fun cs x e => by injection e with _ e; exact absurd e (by decide)
    go_region_held3 (fun w' => w'.cell? ⟨hb, 0, none⟩ = some (.pointer ap) ∧ w'.cell? ⟨hb, 2, none⟩ = some (.slice ta tn tc) ∧ w'.cell? ⟨hb, 3, none⟩ = some (.slice pa pn pc)) (first | (with_reducible exact ⟨c0, c2, c3⟩) | (with_reducible exact sk_al ⟨c0, c2, c3⟩) | (with_reducible exact sk_dr ⟨c0, c2, c3⟩) | (with_reducible exact sk_dr (sk_al ⟨c0, c2, c3⟩)) | (with_reducible exact sk_set hne ⟨c0, c2, c3⟩))
      (first
        | (go_at_call 32; refine (Hwd.out _ (by first | (with_reducible exact HD.out.drew.b) | (with_reducible exact (HD.out.next (below_alloc w1 dmp0)).drew.b))).mono ?_; rintro e w2 ⟨ao1, cc1, rfl, hr1, hb2⟩; have hb3 : Below w1.heap.size w1 w2 := (by first | (with_reducible exact Below.next (Below.refl _ w1).drew hb2) | (with_reducible exact Below.next (Below.next (below_alloc w1 dmp0) (Below.refl _ (w1.alloc dmp0)).drew) hb2)); have zb2 := hb3.size; have HR1 := hid hr1; (try (have hbT : Below (World.alloc w1 dmp0).drew.heap.size (World.alloc w1 dmp0).drew w2 := (by with_reducible exact hb2); have HT := hid ((hbT.block _ (by show w1.heap.size < (w1.alloc dmp0).heap.size; simp)).trans (heap_alloc_new w1 dmp0)); clear hbT; obtain ⟨⟨y0, y1, y2, y3, y4⟩, ⟨f0, f1, f2, f3, f4⟩, yz⟩ := cel_cells HT.out)); replace HD := hid (HD.out.next hb3); (try (have hne := HD.out.ne HT.out)); clear hb2 hr1 hb3 c0 c1 c2 c3 c5; obtain ⟨c0, c1, c2, c3, c5⟩ := HD.out.cells)
        | (go_at_call 33; refine (Hc2.out _ (by first | (with_reducible exact HD.out.b) | (with_reducible exact (HD.out.next (below_alloc w2 dmp0)).b))).mono ?_; rintro e w3 ⟨ao2, cc2, rfl, hr1, hb2⟩; have hb3 : Below w2.heap.size w2 w3 := (by first | (with_reducible exact hb2) | (with_reducible exact Below.next (below_alloc w2 dmp0) hb2)); have zb3 := hb3.size; have HR2 := hid hr1; replace HR1 := hid (row_below HR1.out hb3); (try (replace HT := hid ((hb3.block _ (lt_of_block HT.out)).trans HT.out); clear y0 y1 y2 y3 y4 f0 f1 f2 f3 f4 yz; obtain ⟨⟨y0, y1, y2, y3, y4⟩, ⟨f0, f1, f2, f3, f4⟩, yz⟩ := cel_cells HT.out)); (try (have hbT : Below (World.alloc w2 dmp0).heap.size (World.alloc w2 dmp0) w3 := (by with_reducible exact hb2); have HT := hid ((hbT.block _ (by simp)).trans (heap_alloc_new w2 dmp0)); clear hbT; obtain ⟨⟨y0, y1, y2, y3, y4⟩, ⟨f0, f1, f2, f3, f4⟩, yz⟩ := cel_cells HT.out)); replace HD := hid (HD.out.next hb3); (try (have hne := HD.out.ne HT.out)); clear hb2 hr1 hb3 c0 c1 c2 c3 c5; obtain ⟨c0, c1, c2, c3, c5⟩ := HD.out.cells)
        | (go_at_call 34; refine (Hc3.out _ (by first | (with_reducible exact HD.out.b) | (with_reducible exact (HD.out.next (below_alloc w3 dmp0)).b))).mono ?_; rintro e w4 ⟨ao3, cc3, rfl, hr1, hb2⟩; have hb3 : Below w3.heap.size w3 w4 := (by first | (with_reducible exact hb2) | (with_reducible exact Below.next (below_alloc w3 dmp0) hb2)); have zb4 := hb3.size; have HR3 := hid hr1; replace HR1 := hid (row_below HR1.out hb3); replace HR2 := hid (row_below HR2.out hb3); (try (replace HT := hid ((hb3.block _ (lt_of_block HT.out)).trans HT.out); clear y0 y1 y2 y3 y4 f0 f1 f2 f3 f4 yz; obtain ⟨⟨y0, y1, y2, y3, y4⟩, ⟨f0, f1, f2, f3, f4⟩, yz⟩ := cel_cells HT.out)); (try (have hbT : Below (World.alloc w3 dmp0).heap.size (World.alloc w3 dmp0) w4 := (by with_reducible exact hb2); have HT := hid ((hbT.block _ (by simp)).trans (heap_alloc_new w3 dmp0)); clear hbT; obtain ⟨⟨y0, y1, y2, y3, y4⟩, ⟨f0, f1, f2, f3, f4⟩, yz⟩ := cel_cells HT.out)); replace HD := hid (HD.out.next hb3); (try (have hne := HD.out.ne HT.out)); clear hb2 hr1 hb3 c0 c1 c2 c3 c5; obtain ⟨c0, c1, c2, c3, c5⟩ := HD.out.cells))
    all_goals go_wp2_with fail
    all_goals go_meet
    all_goals first
      | exact ⟨_, rfl, Dc.late HD.out (by have := lt_of_block HD.out.x; omega) HR1.out HR2.out HR3.out⟩
      | exact ⟨_, rfl, Dc.early HD.out hO.out (by omega) HT.out HR1.out HR2.out HR3.out⟩
  case rest =>
    obtain ⟨t3, rfl, hW⟩ := hcut
    obtain ⟨c0', c1', c2', c3', c5'⟩ := hW.out.d.cells
    go_wp2_with (go_at_call 35; refine (Hall.out _ hW.out.d.b).mono ?_; rintro e w6 ⟨rfl, hw⟩; subst hw)
    refine (wpIn_wide (n := 4)).1 ?_
    obtain ⟨W0, hW0⟩ : ∃ W0, wc.alloc (.cells #[.slice va 0 vc] 41) = W0 := ⟨_, rfl⟩
    have hbx : W0.heap[wc.heap.size]? = some (.cells #[.slice va 0 vc] 41) := by rw [← hW0]; exact heap_alloc_new wc _
    have hb6 : Below wc.heap.size wc W0 := by rw [← hW0]; exact below_alloc wc _
    have hz0 : W0.heap.size = wc.heap.size + 1 := by rw [← hW0]; simp
    have hI0 : Hid (Dl w k1 xs1 k2 xs2 k3 xs3 t3 [] W0) := by
      obtain ⟨a1, e1, a2, e2, a3, e3, h1, h2⟩ := hW.out.r
      refine ⟨Below.next hW.out.d.b hb6, (hb6.block _ (lt_of_block hW.out.d.x)).trans hW.out.d.x, hW.out.lt, a1, e1, a2, e2, a3, e3, none, 0, (hb6.block _ (lt_of_block h1)).trans h1, ⟨row_below h2.r1 hb6, row_below h2.r2 hb6, row_below h2.r3 hb6⟩, World.ownsRow_nil _ _ _ _⟩
    have hzx : w.heap.size < W0.heap.size := lt_of_block hI0.out.x
    have hzw : w.heap.size ≤ W0.heap.size := hI0.out.b.size
    rw [hW0]
    clear hW0 hW c0' c1' c2' c3' c5' c0 c1 c2 c3 c5
    refine range_toldP (Ks := fun k => k = wc.heap.size) (encs := encA) rfl (enters_of Tryz.func91 (by kernel_rfl) rfl) (fun _ => rfl) (by omega) (fun k hk => by subst hk; omega) (sall_tells0 va vc 3 _ wc.heap.size W0 hbx)
      (I := Dl w k1 xs1 k2 xs2 k3 xs3 t3) (Ix := fun _ _ _ => False) (fun pre A A' h hn => h.nb hn hzw) (fun c pre A A' h hn => h) (fun pre x A A' h hn => h) hI0.out
      (Ax := fun _ _ _ => True) (fun _ _ _ _ h _ => h) ?assign ?body ?done ?stop
    case assign =>
      intro l x W' K hzl hK
      simp only [encA]
      gi_wp2
      exact hK _ _ (Below.refl _ _) trivial
    case body =>
      rintro l pre x a' W' hi ht _
      exact absurd ht.2.1 (by simp)
    case done =>
      rintro D2 xs W' hD hS hi hK
      subst hS
      obtain ⟨a1, e1, a2, e2, a3, e3, ua, uc, h1, h2, h3⟩ := hi.r
      simp only [List.length_nil, List.map_nil] at h1 h3
      obtain ⟨⟨q0, q1, q2, q3, q4⟩, _, qz⟩ := cel_cells h1
      obtain ⟨⟨x0, x1, x2, x3, x4⟩, ⟨y0, y1, y2, y3, y4⟩, xz⟩ := cel_cells hi.x
      have HF := hid (dump_fin hi h1 h2 h3 hK (by omega))
      clear hi h1 h2 h3 hK
      go_wp2
      obtain ⟨m9, q9, r9, b9⟩ := HF.out
      exact ⟨by simp, .inl ⟨_, _, rfl, run_takeDeferred m9, _, ret_dmp Tryz.results10 (by rfl) q9, ⟨_, _, _, _, _, _, _, _, rfl, r9⟩, b9⟩⟩
    case stop =>
      rintro D2 c pre W' _ h _
      exact h.elim
end Go.Proofs.YtgmldkojldlekaaGreatDoor

namespace Go.Proofs.YtgmldkojldlekaaGreatDoor
set_option maxRecDepth 100000
open Go.ChangeShapes Go.WideShapes Go.ChangeAt Go.RowKit
theorem globEt : Tryz.prog.globalNamed "errors.errorType" = some 0 := by kernel_rfl
theorem rtEt : (Tryz.prog.cutTypes.find? (·.1 == "internal/reflectlite.rtype")).map (·.2) = some 200 := by kernel_rfl
theorem oneEt : ((List.range 254).filter fun t => Tryz.prog.rowNamed t [101, 114, 114, 111, 114]) = [35] := by kernel_rfl
theorem sizeEt : Tryz.prog.types.size = 254 := by kernel_rfl
theorem ready_of_laid {W : World} (h : laidMetH Tryz.prog Rows.cellsUndoRow.laid W) : ErrC W := by
  have h' : laidMet Tryz.prog [] W ∧ handlesMet Tryz.prog [("errors.errorType", Rows.laid_errors_errorType)] W := h
  obtain ⟨name, u, ty, e1, e2, e3, e4, e5⟩ := h'.2 _ (List.mem_singleton.2 rfl)
  have en : name = [101, 114, 114, 111, 114] := (Option.some.inj e1).symm
  subst en
  obtain rfl := Option.some.inj (rtEt.symm.trans e2)
  have hm : ty ∈ (List.range 254).filter fun t => Tryz.prog.rowNamed t [101, 114, 114, 111, 114] := List.mem_filter.2 ⟨List.mem_range.2 (by rw [← sizeEt]; exact e3), e4⟩
  rw [oneEt] at hm
  obtain rfl := List.mem_singleton.1 hm
  have hh : typeHandle Tryz.prog 35 = .pointer (some ⟨1, 35, none⟩) := by kernel_rfl
  rw [hh] at e5
  have := World.var?_cell globEt e5 0
  show W.cell? _ = _
  simpa using this
theorem door_met (os : Os) (args : Array Value) : laidMetH Tryz.prog Rows.cellsUndoRow.laid ((World.doorLaid Tryz.prog 16 os).forCall (fun _ _ => 0) ⟨#[], args, []⟩).memory :=
  laidMetH_of_parts3 (fuel := 8) (laidMet_of_run' 8 (by kernel_rfl) (by kernel_rfl)) (by kernel_rfl) (by kernel_rfl)
end Go.Proofs.YtgmldkojldlekaaGreatDoor

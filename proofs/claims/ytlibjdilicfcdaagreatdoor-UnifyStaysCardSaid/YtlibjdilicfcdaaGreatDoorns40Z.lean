/- Package cells: a heap between calls, and what a call makes of it. -/
import Derived.Deep.RegionHeld3
import Derived.BigRegion
import Derived.Shelf.Abstract
import Derived.OwnWalkIn
import Derived.TacticsInMore
import Derived.LoopNIn
import Derived.LoopIn
import Derived.Deep.DeepCutAuto
import Derived.Test.YtlibjdilicfcdaaGreatDoorns36Z
import Derived.Test.YtlibjdilicfcdaaGreatDoorns38Z
import Derived.Test.YtlibjdilicfcdaaGreatDoorns04Z
import Derived.Test.YtlibjdilicfcdaaGreatDoorns31Z
import Derived.Test.YtlibjdilicfcdaaGreatDoorns09Z
import Derived.Test.YtlibjdilicfcdaaGreatDoorns00Z
import Derived.Test.YtlibjdilicfcdaaGreatDoorns26Z
import Derived.Test.YtlibjdilicfcdaaGreatDoorns35Z
import Derived.Test.YtlibjdilicfcdaaGreatDoorns32Z
import Derived.Test.YtlibjdilicfcdaaGreatDoorns28Z
import Derived.Test.YtlibjdilicfcdaaGreatDoorns25Z
import Derived.Test.YtlibjdilicfcdaaGreatDoorns39Z
namespace Go.Proofs.YtlibjdilicfcdaaGreatDoor
set_option maxRecDepth 100000
open Go.RowKit
structure Hst where
  l : List Int
  ns : List ByteArray
  tr : List Te
  pt : List Pe
  n : Int
def Hs (w : World) (B hb : Nat) (m : Int) (F : Nat → Prop) (s : Hst) : Prop :=
  ∃ ab tb av tv tq trv ptv, Hq w B hb ab tb m av s.l tv tq s.ns trv s.tr ptv s.pt s.n ∧ ∀ k, k ∈ qfoot hb ab av trv ptv → F k
theorem Hs.below {w w' : World} {B hb : Nat} {m : Int} {F : Nat → Prop} {s : Hst} (h : Hs w B hb m F s) (hb' : Below w.heap.size w w') : Hs w' B hb m F s := by
  obtain ⟨ab, tb, av, tv, tq, trv, ptv, h, hf⟩ := h
  exact ⟨ab, tb, av, tv, tq, trv, ptv, h.below hb', hf⟩
theorem Hs.weak {w : World} {B hb : Nat} {m : Int} {F F' : Nat → Prop} {s : Hst} (h : Hs w B hb m F s) (hF : ∀ k, F k → F' k) : Hs w B hb m F' s := by
  obtain ⟨ab, tb, av, tv, tq, trv, ptv, h, hf⟩ := h
  exact ⟨ab, tb, av, tv, tq, trv, ptv, h, fun k hk => hF k (hf k hk)⟩
structure Sj (s : Hst) (j : Nat) : Prop where
  si : SI s.l s.ns.length s.tr s.pt
  n0 : 0 ≤ s.n
  n1 : s.n ≤ j
  t1 : s.tr.length ≤ j
  p1 : s.pt.length ≤ j
theorem Sj.more {s : Hst} {j k : Nat} (h : Sj s j) (hk : j ≤ k) : Sj s k := ⟨h.si, h.n0, Int.le_trans h.n1 (by omega), Nat.le_trans h.t1 hk, Nat.le_trans h.p1 hk⟩
inductive Stp (kd a : Int) (s : Hst) : Hst → Prop
  | same : Stp kd a s s
  | write (k : Nat) (x : Int) (hk : k < s.l.length) (h : SndN (s.l.set k x) s.ns.length) : Stp kd a s ⟨s.l.set k x, s.ns, trW s.l s.tr s.pt k, s.pt, s.n + 1⟩
  | put (m : List Int) (ns' : List ByteArray) (h1 : s.ns.length ≤ ns'.length) (h : SndN (s.l ++ m) ns'.length) : Stp kd a s ⟨s.l ++ m, ns', s.tr, s.pt, s.n⟩
  | point : Stp kd a s ⟨s.l, s.ns, s.tr, s.pt ++ [(s.tr.length, s.l.length)], s.n⟩
  | release (j : Nat) (hj : j < s.pt.length) (hk : kd = 7) (ha : a = (j : Int)) : Stp kd a s ⟨s.l, s.ns, s.tr, s.pt.take j, s.n⟩
  | undo (j : Nat) (hj : j < s.pt.length) (hk : kd = 6) (ha : a = (j : Int)) : Stp kd a s ⟨atP s.l s.tr s.pt[j], s.ns, s.tr.take s.pt[j].1, s.pt.take (j + 1), s.n⟩
theorem trW_len (l : List Int) (tr : List Te) (pt : List Pe) (k : Nat) : (trW l tr pt k).length ≤ tr.length + 1 := by
  unfold trW
  split <;> simp
theorem Stp.sj {kd a : Int} {s s' : Hst} {j : Nat} (h : Stp kd a s s') (hs : Sj s j) : Sj s' (j + 1) := by
  have hn := hs.n1
  have h0 := hs.n0
  have ht := hs.t1
  have hp := hs.p1
  cases h with
  | same => exact hs.more (by omega)
  | write k x hk h =>
    have := trW_len s.l s.tr s.pt k
    exact ⟨hs.si.write hk h, by show 0 ≤ s.n + 1; omega, by show s.n + 1 ≤ _; omega, by show (trW s.l s.tr s.pt k).length ≤ _; omega, by show s.pt.length ≤ _; omega⟩
  | put m ns' h1 h => exact ⟨hs.si.put h1 h, h0, by show s.n ≤ _; omega, by show s.tr.length ≤ _; omega, by show s.pt.length ≤ _; omega⟩
  | point => exact ⟨hs.si.point, h0, by show s.n ≤ _; omega, by show s.tr.length ≤ _; omega, by show (s.pt ++ [_]).length ≤ _; simp; omega⟩
  | release i hj hk ha => exact ⟨hs.si.release i, h0, by show s.n ≤ _; omega, by show s.tr.length ≤ _; omega, by show (s.pt.take i).length ≤ _; simp; omega⟩
  | undo i hj hk ha => exact ⟨hs.si.undo i hj, h0, by show s.n ≤ _; omega, by show (s.tr.take _).length ≤ _; simp; omega, by show (s.pt.take _).length ≤ _; simp; omega⟩
section
variable {w w' : World} {B hb ab tb : Nat} {m : Int} {av : Value} {l : List Int} {tv : Value} {tq : Nat} {ns : List ByteArray} {trv : Value} {tr : List Te} {ptv : Value} {pt : List Pe} {n : Int} {F : Nat → Prop}
theorem mo_of {ks : List Nat} (h : a_Mod ks w w') (hk : ∀ k ∈ ks, F k) : Mo F w w' := ⟨h.os, h.tape, h.output, h.size, fun k hk' hn => h.block k hk' (fun hx => hn (hk k hx))⟩
theorem foot_new {av' trv' ptv' : Value} (hf : ∀ k, k ∈ qfoot hb ab av trv ptv → F k) (h1 : a_Nx w av av') (h2 : a_Nx w trv trv') (h3 : a_Nx w ptv ptv') : ∀ k, k ∈ qfoot hb ab av' trv' ptv' → F k ∨ w.heap.size ≤ k := fun k hk => by
  rcases mem_qfoot.1 hk with rfl | hk | hk | hk
  · exact Or.inl (hf _ (mem_qfoot.2 (Or.inl rfl)))
  · rcases a_mem_foot.1 hk with rfl | hk
    · exact Or.inl (hf _ (mem_qfoot.2 (Or.inr (Or.inl (a_mem_foot.2 (Or.inl rfl))))))
    · rcases h1 k hk with h | h
      · exact Or.inl (hf _ (mem_qfoot.2 (Or.inr (Or.inl (a_mem_foot.2 (Or.inr h))))))
      · exact Or.inr h
  · rcases h2 k hk with h | h
    · exact Or.inl (hf _ (mem_qfoot.2 (Or.inr (Or.inr (Or.inl h)))))
    · exact Or.inr h
  · rcases h3 k hk with h | h
    · exact Or.inl (hf _ (mem_qfoot.2 (Or.inr (Or.inr (Or.inr h)))))
    · exact Or.inr h
end
def Lv (w w' : World) (B hb : Nat) (m : Int) (F : Nat → Prop) (kd a : Int) (s : Hst) : Prop := ∃ s', Stp kd a s s' ∧ Hs w' B hb m (fun k => F k ∨ w.heap.size ≤ k) s' ∧ Mo F w w'
section
variable {w : World} {B hb : Nat} {m : Int} {F : Nat → Prop} {s : Hst}
theorem Lv.same {w' : World} {kd a : Int} (h : Hs w B hb m F s) (hb' : Below w.heap.size w w') : Lv w w' B hb m F kd a s := ⟨s, .same, (h.below hb').weak (fun _ => Or.inl), Mo.ofBelow hb'⟩
theorem act_lv {w' : World} {ab tb : Nat} {av tv : Value} {tq : Nat} {trv ptv : Value} {kd a : Int} (h : Hs w B hb m F s) (hf : ∀ k, k ∈ qfoot hb ab av trv ptv → F k) (ha : Act1 w w' B hb ab tb m av s.l tv tq s.ns trv s.tr ptv s.pt s.n) : Lv w w' B hb m F kd a s := by
  rcases ha with ha | ⟨k, x, hk, hs, trv', hq, hm, hx⟩
  · exact Lv.same h ha
  · exact ⟨_, .write k x hk hs, ⟨ab, tb, av, tv, tq, trv', ptv, hq, foot_new hf (a_Nx.refl _ _) hx (a_Nx.refl _ _)⟩, mo_of hm hf⟩
theorem bind_lv (h : Hs w B hb m F s) (hB : B ≤ w.heap.size) {j : Nat} (hs : Sj s j) (hj : j ≤ 1000) (kd a x y : Int) :
    Calls Tryz.prog 108 #[.pointer (some ⟨hb, 0, none⟩), .int .i64 x, .int .i64 y] w fun e w' => (∃ ev, e = .returned ev) ∧ Lv w w' B hb m F kd a s := by
  obtain ⟨ab, tb, av, tv, tq, trv, ptv, hq, hf⟩ := h
  have h1 := hs.n1
  have h2 := hs.t1
  have h3 := hs.p1
  exact (bind_act hq hB hs.si.now hs.n0 (by omega) (by omega) (by omega) x y).mono fun e w' ⟨e1, e2⟩ => ⟨e1, act_lv ⟨ab, tb, av, tv, tq, trv, ptv, hq, hf⟩ hf e2⟩
theorem point_lv (h : Hs w B hb m F s) (hB : B ≤ w.heap.size) {j : Nat} (hs : Sj s j) (hj : j ≤ 1000) :
    Calls Tryz.prog 38 #[.pointer (some ⟨hb, 0, none⟩)] w fun e w' => e = .returned (.tuple #[.int .i64 (s.pt.length : Int), .nilIface]) ∧ Hs w' B hb m (fun k => F k ∨ w.heap.size ≤ k) ⟨s.l, s.ns, s.tr, s.pt ++ [(s.tr.length, s.l.length)], s.n⟩ ∧ Mo F w w' := by
  obtain ⟨ab, tb, av, tv, tq, trv, ptv, hq, hf⟩ := h
  have h3 := hs.p1
  exact (point_any hq hB (by omega)).mono fun e w' ⟨e1, ptv', e2, e3, e4⟩ => ⟨e1, ⟨ab, tb, av, tv, tq, trv, ptv', e2, foot_new hf (a_Nx.refl _ _) (a_Nx.refl _ _) e4⟩, mo_of e3 hf⟩
end
end Go.Proofs.YtlibjdilicfcdaaGreatDoor

namespace Go.Proofs.YtlibjdilicfcdaaGreatDoor
set_option maxRecDepth 100000
open Go.RowKit Go.Shelf
attribute [local go_sem] Oper.semAt_some
abbrev Sk (hb : Nat) (v0 v2 v3 : Value) (w : World) : Prop := w.cell? ⟨hb, 0, none⟩ = some v0 ∧ w.cell? ⟨hb, 2, none⟩ = some v2 ∧ w.cell? ⟨hb, 3, none⟩ = some v3
theorem sk_dr {hb : Nat} {v0 v2 v3 : Value} {w : World} (h : Sk hb v0 v2 v3 w) : Sk hb v0 v2 v3 w.drew := h
theorem sk_al {hb : Nat} {v0 v2 v3 : Value} {w : World} {o : Obj} (h : Sk hb v0 v2 v3 w) : Sk hb v0 v2 v3 (w.alloc o) :=
  ⟨((below_alloc w o).cell (p := ⟨hb, 0, none⟩) (lt_of_cell h.1)).trans h.1, ((below_alloc w o).cell (p := ⟨hb, 2, none⟩) (lt_of_cell h.1)).trans h.2.1, ((below_alloc w o).cell (p := ⟨hb, 3, none⟩) (lt_of_cell h.1)).trans h.2.2⟩
theorem sk_set {hb t3 : Nat} {v0 v2 v3 : Value} {w : World} {a b c d e : Value} (hne : hb ≠ t3) (h : Sk hb v0 v2 v3 w) : Sk hb v0 v2 v3 (setD w t3 a b c d e) := by
  have hf : ∀ o, (setD w t3 a b c d e).cell? ⟨hb, o, none⟩ = w.cell? ⟨hb, o, none⟩ := fun o => World.cell?_of_block (w := w) (a := ⟨hb, o, none⟩) (setD_far w _ _ _ _ _ hne)
  exact ⟨(hf 0).trans h.1, (hf 2).trans h.2.1, (hf 3).trans h.2.2⟩
theorem Dk.ne {w W : World} {hb t3 : Nat} {ap tp : Option Addr} {trv ptv : Value} {n : Int} {cs : Array Value} (h : Dk w hb (hpO ap tp trv ptv n) W) (ht : W.heap[t3]? = some (.cells cs 96)) : hb ≠ t3 := obj_ne h.n ht (by decide)
theorem dump_fin {w W : World} {k1 k2 k3 t3 D kn : Nat} {xs1 xs2 xs3 : List Value} {pre : List (Nat × ByteArray)} {a1 a2 a3 ua : Option Addr} {c1 c2 c3 uc : Nat} {xn : List Value} (h : Dl w k1 xs1 k2 xs2 k3 xs3 t3 pre W) (_ : W.heap[t3]? = some (dmpO (.slice a1 k1 c1) (.slice a2 k2 c2) (.slice a3 k3 c3) (.slice ua kn uc) (.slice none 0 0))) (h2 : Dr w.heap.size (.slice a1 k1 c1) k1 xs1 (.slice a2 k2 c2) k2 xs2 (.slice a3 k3 c3) k3 xs3 W) (h3 : W.ownsRow w.heap.size 9 1 (.slice ua kn uc) kn xn) (hK : W.heap[D]? = some (.deferred (some []))) (hD : w.heap.size < D) :
    (setD W w.heap.size (.slice a1 k1 c1) (.slice a2 k2 c2) (.slice a3 k3 c3) (.slice ua kn uc) (.slice none 0 0)).heap[D]? = some (.deferred (some [])) ∧
    ((setD W w.heap.size (.slice a1 k1 c1) (.slice a2 k2 c2) (.slice a3 k3 c3) (.slice ua kn uc) (.slice none 0 0)).putObj D (.deferred none)).heap[w.heap.size]? = some (dmpO (.slice a1 k1 c1) (.slice a2 k2 c2) (.slice a3 k3 c3) (.slice ua kn uc) (.slice none 0 0)) ∧
    (Dr w.heap.size (.slice a1 k1 c1) k1 xs1 (.slice a2 k2 c2) k2 xs2 (.slice a3 k3 c3) k3 xs3 ((setD W w.heap.size (.slice a1 k1 c1) (.slice a2 k2 c2) (.slice a3 k3 c3) (.slice ua kn uc) (.slice none 0 0)).putObj D (.deferred none)) ∧ ((setD W w.heap.size (.slice a1 k1 c1) (.slice a2 k2 c2) (.slice a3 k3 c3) (.slice ua kn uc) (.slice none 0 0)).putObj D (.deferred none)).ownsRow w.heap.size 9 1 (.slice ua kn uc) kn xn) ∧
    Below w.heap.size w ((setD W w.heap.size (.slice a1 k1 c1) (.slice a2 k2 c2) (.slice a3 k3 c3) (.slice ua kn uc) (.slice none 0 0)).putObj D (.deferred none)) := by
  have hfar : ∀ k, k ≠ w.heap.size → (setD W w.heap.size (.slice a1 k1 c1) (.slice a2 k2 c2) (.slice a3 k3 c3) (.slice ua kn uc) (.slice none 0 0)).heap[k]? = W.heap[k]? := fun k hk => setD_far W _ _ _ _ _ hk
  have hat := setD_at h.x (.slice a1 k1 c1) (.slice a2 k2 c2) (.slice a3 k3 c3) (.slice ua kn uc) (.slice none 0 0)
  have hbb := setD_below h.b (Nat.le_refl _) (.slice a1 k1 c1) (.slice a2 k2 c2) (.slice a3 k3 c3) (.slice ua kn uc) (.slice none 0 0)
  have hd2 : Dr w.heap.size (.slice a1 k1 c1) k1 xs1 (.slice a2 k2 c2) k2 xs2 (.slice a3 k3 c3) k3 xs3 (setD W w.heap.size (.slice a1 k1 c1) (.slice a2 k2 c2) (.slice a3 k3 c3) (.slice ua kn uc) (.slice none 0 0)) := h2.keep (fun k o hk hno _ => (hfar k (fun e => by subst e; rw [h.x] at hk; exact hno _ _ (Option.some.inj hk).symm)).trans hk)
  have hd3 : (setD W w.heap.size (.slice a1 k1 c1) (.slice a2 k2 c2) (.slice a3 k3 c3) (.slice ua kn uc) (.slice none 0 0)).ownsRow w.heap.size 9 1 (.slice ua kn uc) kn xn := row_keep h3 (fun k hk => hfar k (fun e => by
    subst e
    obtain ⟨cur, hc⟩ := row_obj h3 hk
    exact obj_ne h.x hc (by decide) rfl))
  generalize setD W w.heap.size (.slice a1 k1 c1) (.slice a2 k2 c2) (.slice a3 k3 c3) (.slice ua kn uc) (.slice none 0 0) = X at *
  have m9 : X.heap[D]? = some (.deferred (some [])) := (hfar D (by omega)).trans hK
  have n9 : Nb w.heap.size X (X.putObj D (.deferred none)) := Nb.put (.deferred none) (by omega) m9 rfl
  refine ⟨m9, n9.block _ _ hat (Or.inr rfl), ⟨hd2.keep (fun k o hk _ ho => n9.block k o hk (Or.inr ho)), row_keep hd3 (fun k hk => ?_)⟩, n9.below hbb (Nat.le_refl _) (Nat.le_refl _)⟩
  obtain ⟨cur, hc⟩ := row_obj hd3 hk
  rw [hc]
  exact n9.block k _ hc (Or.inr rfl)
set_option maxHeartbeats 8000000 in
theorem dump_none (hv : Value) (ap tp va : Option Addr) (vc : Nat) (ta : Option Addr) (tn tc : Nat) (pa : Option Addr) (pn pc : Nat) (n : Int) (k1 : Nat) (xs1 : List Value) (k2 : Nat) (xs2 : List Value) (k3 : Nat) (xs3 : List Value) (w : World)
    (hself : ∀ w1, Below w.heap.size w w1 → Calls Tryz.prog 28 #[hv] w1 fun e w' => ∃ hb, e = .returned (.pointer (some ⟨hb, 0, none⟩)) ∧ w'.heap[hb]? = some (hpO ap tp (.slice ta tn tc) (.slice pa pn pc) n) ∧ Below w1.heap.size w1 w')
    (hwd : ∀ w1, Below w.heap.size w w1 → Calls Tryz.prog 76 #[.pointer ap] w1 fun e w' => ∃ ao c, e = .returned (.slice ao k1 c) ∧ w'.ownsRow w.heap.size 123 1 (.slice ao k1 c) k1 xs1 ∧ Below w1.heap.size w1 w')
    (hc2 : ∀ w1, Below w.heap.size w w1 → Calls Tryz.prog 77 #[.slice ta tn tc] w1 fun e w' => ∃ ao c, e = .returned (.slice ao k2 c) ∧ w'.ownsRow w.heap.size 149 2 (.slice ao k2 c) k2 xs2 ∧ Below w1.heap.size w1 w')
    (hc3 : ∀ w1, Below w.heap.size w w1 → Calls Tryz.prog 78 #[.slice pa pn pc] w1 fun e w' => ∃ ao c, e = .returned (.slice ao k3 c) ∧ w'.ownsRow w.heap.size 145 3 (.slice ao k3 c) k3 xs3 ∧ Below w1.heap.size w1 w')
    (hall : ∀ w1, Below w.heap.size w w1 → Calls Tryz.prog 79 #[.pointer tp] w1 fun e w' => e = .returned (.func (.func 147) #[] #[.pointer (some ⟨w1.heap.size, 0, none⟩)]) ∧ w' = w1.alloc (.cells #[.slice va 0 vc] 94)) :
    Calls Tryz.prog 39 #[hv] w fun e w' => (∃ a1 c1 a2 c2 a3 c3 ua uc, e = .returned (.agg #[.slice a1 k1 c1, .slice a2 k2 c2, .slice a3 k3 c3, .slice ua 0 uc, .slice none 0 0]) ∧ Dr w.heap.size (.slice a1 k1 c1) k1 xs1 (.slice a2 k2 c2) k2 xs2 (.slice a3 k3 c3) k3 xs3 w' ∧ w'.ownsRow w.heap.size 9 1 (.slice ua 0 uc) 0 []) ∧ Below w.heap.size w w' := by
  have hb0 := hid (below_alloc w dmp0)
  have hx0 := hid (heap_alloc_new w dmp0)
  have Hself := hid hself
  have Hwd := hid hwd
  have Hc2 := hid hc2
  have Hc3 := hid hc3
  have Hall := hid hall
  clear hself hwd hc2 hc3 hall
  refine (callsIn_wide (n := 4)).1 ?_
  refine callsIn_of_wp_marks Tryz.func39 rfl trivial ?_ rfl
  simp only [Tryz.ntmps39, List.size_toArray, List.length_cons, List.length_nil, Nat.reduceAdd, Nat.reduceSub, Array.replicate_succ, Array.replicate_zero, List.push_toArray, List.append_toArray, List.nil_append, List.cons_append]
  refine wpIn_wide.2 ?_
  go_wp2_with (go_at_call 28; refine (Hself.out _ hb0.out).mono ?_; rintro e w1 ⟨hb, rfl, hx, hb1⟩; have HD : Hid (Dk w hb (hpO ap tp (.slice ta tn tc) (.slice pa pn pc) n) w1) := ⟨Below.next hb0.out hb1, (hb1.block _ (by simp)).trans hx0.out, hx⟩; obtain ⟨c0, c1, c2, c3, c5⟩ := HD.out.cells; have z1 := lt_of_block HD.out.x; clear hx hb1)
  go_cut [3] from 8 to 24 (fun s3 wc => ∃ t3, s3 = .pointer (some ⟨t3, 0, none⟩) ∧ Hid (Dc w hb (hpO ap tp (.slice ta tn tc) (.slice pa pn pc) n) k1 xs1 k2 xs2 k3 xs3 t3 wc))
  case first =>
    have hO : Hid (∀ (cs : Array Value) (x : Nat × Nat), hpO ap tp (.slice ta tn tc) (.slice pa pn pc) n ≠ .cells cs 96 x) := fun cs x e => by injection e with _ e; exact absurd e (by decide)
    go_region_held3 (fun w' => w'.cell? ⟨hb, 0, none⟩ = some (.pointer ap) ∧ w'.cell? ⟨hb, 2, none⟩ = some (.slice ta tn tc) ∧ w'.cell? ⟨hb, 3, none⟩ = some (.slice pa pn pc)) (first | (with_reducible exact ⟨c0, c2, c3⟩) | (with_reducible exact sk_al ⟨c0, c2, c3⟩) | (with_reducible exact sk_dr ⟨c0, c2, c3⟩) | (with_reducible exact sk_dr (sk_al ⟨c0, c2, c3⟩)) | (with_reducible exact sk_set hne ⟨c0, c2, c3⟩))
      (first
        | (go_at_call 76; refine (Hwd.out _ (by first | (with_reducible exact HD.out.drew.b) | (with_reducible exact (HD.out.next (below_alloc w1 dmp0)).drew.b))).mono ?_; rintro e w2 ⟨ao1, cc1, rfl, hr1, hb2⟩; have hb3 : Below w1.heap.size w1 w2 := (by first | (with_reducible exact Below.next (Below.refl _ w1).drew hb2) | (with_reducible exact Below.next (Below.next (below_alloc w1 dmp0) (Below.refl _ (w1.alloc dmp0)).drew) hb2)); have zb2 := hb3.size; have HR1 := hid hr1; (try (have hbT : Below (World.alloc w1 dmp0).drew.heap.size (World.alloc w1 dmp0).drew w2 := (by with_reducible exact hb2); have HT := hid ((hbT.block _ (by show w1.heap.size < (w1.alloc dmp0).heap.size; simp)).trans (heap_alloc_new w1 dmp0)); clear hbT; obtain ⟨⟨y0, y1, y2, y3, y4⟩, ⟨f0, f1, f2, f3, f4⟩, yz⟩ := cel_cells HT.out)); replace HD := hid (HD.out.next hb3); (try (have hne := HD.out.ne HT.out)); clear hb2 hr1 hb3 c0 c1 c2 c3 c5; obtain ⟨c0, c1, c2, c3, c5⟩ := HD.out.cells)
        | (go_at_call 77; refine (Hc2.out _ (by first | (with_reducible exact HD.out.b) | (with_reducible exact (HD.out.next (below_alloc w2 dmp0)).b))).mono ?_; rintro e w3 ⟨ao2, cc2, rfl, hr1, hb2⟩; have hb3 : Below w2.heap.size w2 w3 := (by first | (with_reducible exact hb2) | (with_reducible exact Below.next (below_alloc w2 dmp0) hb2)); have zb3 := hb3.size; have HR2 := hid hr1; replace HR1 := hid (row_below HR1.out hb3); (try (replace HT := hid ((hb3.block _ (lt_of_block HT.out)).trans HT.out); clear y0 y1 y2 y3 y4 f0 f1 f2 f3 f4 yz; obtain ⟨⟨y0, y1, y2, y3, y4⟩, ⟨f0, f1, f2, f3, f4⟩, yz⟩ := cel_cells HT.out)); (try (have hbT : Below (World.alloc w2 dmp0).heap.size (World.alloc w2 dmp0) w3 := (by with_reducible exact hb2); have HT := hid ((hbT.block _ (by simp)).trans (heap_alloc_new w2 dmp0)); clear hbT; obtain ⟨⟨y0, y1, y2, y3, y4⟩, ⟨f0, f1, f2, f3, f4⟩, yz⟩ := cel_cells HT.out)); replace HD := hid (HD.out.next hb3); (try (have hne := HD.out.ne HT.out)); clear hb2 hr1 hb3 c0 c1 c2 c3 c5; obtain ⟨c0, c1, c2, c3, c5⟩ := HD.out.cells)
        | (go_at_call 78; refine (Hc3.out _ (by first | (with_reducible exact HD.out.b) | (with_reducible exact (HD.out.next (below_alloc w3 dmp0)).b))).mono ?_; rintro e w4 ⟨ao3, cc3, rfl, hr1, hb2⟩; have hb3 : Below w3.heap.size w3 w4 := (by first | (with_reducible exact hb2) | (with_reducible exact Below.next (below_alloc w3 dmp0) hb2)); have zb4 := hb3.size; have HR3 := hid hr1; replace HR1 := hid (row_below HR1.out hb3); replace HR2 := hid (row_below HR2.out hb3); (try (replace HT := hid ((hb3.block _ (lt_of_block HT.out)).trans HT.out); clear y0 y1 y2 y3 y4 f0 f1 f2 f3 f4 yz; obtain ⟨⟨y0, y1, y2, y3, y4⟩, ⟨f0, f1, f2, f3, f4⟩, yz⟩ := cel_cells HT.out)); (try (have hbT : Below (World.alloc w3 dmp0).heap.size (World.alloc w3 dmp0) w4 := (by with_reducible exact hb2); have HT := hid ((hbT.block _ (by simp)).trans (heap_alloc_new w3 dmp0)); clear hbT; obtain ⟨⟨y0, y1, y2, y3, y4⟩, ⟨f0, f1, f2, f3, f4⟩, yz⟩ := cel_cells HT.out)); replace HD := hid (HD.out.next hb3); (try (have hne := HD.out.ne HT.out)); clear hb2 hr1 hb3 c0 c1 c2 c3 c5; obtain ⟨c0, c1, c2, c3, c5⟩ := HD.out.cells))
    all_goals go_wp2_with fail
    all_goals go_meet
    all_goals first
      | exact ⟨_, rfl, Dc.late HD.out (by have := lt_of_block HD.out.x; omega) HR1.out HR2.out HR3.out⟩
      | exact ⟨_, rfl, Dc.early HD.out hO.out (by omega) HT.out HR1.out HR2.out HR3.out⟩
  case rest =>
    obtain ⟨t3, rfl, hW⟩ := hcut
    obtain ⟨c0', c1', c2', c3', c5'⟩ := hW.out.d.cells
    go_wp2_with (go_at_call 79; refine (Hall.out _ hW.out.d.b).mono ?_; rintro e w6 ⟨rfl, hw⟩; subst hw)
    refine (wpIn_wide (n := 4)).1 ?_
    obtain ⟨W0, hW0⟩ : ∃ W0, wc.alloc (.cells #[.slice va 0 vc] 94) = W0 := ⟨_, rfl⟩
    have hbx : W0.heap[wc.heap.size]? = some (.cells #[.slice va 0 vc] 94) := by rw [← hW0]; exact heap_alloc_new wc _
    have hb6 : Below wc.heap.size wc W0 := by rw [← hW0]; exact below_alloc wc _
    have hz0 : W0.heap.size = wc.heap.size + 1 := by rw [← hW0]; simp
    have hI0 : Hid (Dl w k1 xs1 k2 xs2 k3 xs3 t3 [] W0) := by
      obtain ⟨a1, e1, a2, e2, a3, e3, h1, h2⟩ := hW.out.r
      refine ⟨Below.next hW.out.d.b hb6, (hb6.block _ (lt_of_block hW.out.d.x)).trans hW.out.d.x, hW.out.lt, a1, e1, a2, e2, a3, e3, none, 0, (hb6.block _ (lt_of_block h1)).trans h1, ⟨row_below h2.r1 hb6, row_below h2.r2 hb6, row_below h2.r3 hb6⟩, World.ownsRow_nil _ _ _ _⟩
    have hzx : w.heap.size < W0.heap.size := lt_of_block hI0.out.x
    have hzw : w.heap.size ≤ W0.heap.size := hI0.out.b.size
    rw [hW0]
    clear hW0 hW c0' c1' c2' c3' c5' c0 c1 c2 c3 c5
    refine range_toldP (Ks := fun k => k = wc.heap.size) (encs := encA) rfl (enters_of Tryz.func147 (by kernel_rfl) rfl) (fun _ => rfl) (by omega) (fun k hk => by subst hk; omega) (sall_tells0 va vc 3 _ wc.heap.size W0 hbx)
      (I := Dl w k1 xs1 k2 xs2 k3 xs3 t3) (Ix := fun _ _ _ => False) (fun pre A A' h hn => h.nb hn hzw) (fun c pre A A' h hn => h) (fun pre x A A' h hn => h) hI0.out
      (Ax := fun _ _ _ => True) (fun _ _ _ _ h _ => h) ?assign ?body ?done ?stop
    case assign =>
      intro l x W' K hzl hK
      simp only [encA]
      gi_wp2
      exact hK _ _ (Below.refl _ _) trivial
    case body =>
      rintro l pre x a' W' hi ht _
      exact absurd ht.2.1 (by simp)
    case done =>
      rintro D2 xs W' hD hS hi hK
      subst hS
      obtain ⟨a1, e1, a2, e2, a3, e3, ua, uc, h1, h2, h3⟩ := hi.r
      simp only [List.length_nil, List.map_nil] at h1 h3
      obtain ⟨⟨q0, q1, q2, q3, q4⟩, _, qz⟩ := cel_cells h1
      obtain ⟨⟨x0, x1, x2, x3, x4⟩, ⟨y0, y1, y2, y3, y4⟩, xz⟩ := cel_cells hi.x
      have HF := hid (dump_fin hi h1 h2 h3 hK (by omega))
      clear hi h1 h2 h3 hK
      go_wp2
      obtain ⟨m9, q9, r9, b9⟩ := HF.out
      exact ⟨by simp, .inl ⟨_, _, rfl, run_takeDeferred m9, _, ret_dmp Tryz.results39 (by rfl) q9, ⟨_, _, _, _, _, _, _, _, rfl, r9⟩, b9⟩⟩
    case stop =>
      rintro D2 c pre W' _ h _
      exact h.elim
end Go.Proofs.YtlibjdilicfcdaaGreatDoor

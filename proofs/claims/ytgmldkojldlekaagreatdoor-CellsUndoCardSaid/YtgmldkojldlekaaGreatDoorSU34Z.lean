/- Package cells: Dump where there are no names; Dump of a nil heap. -/
import Derived.Deep.DeepCutAuto
import Derived.Test.YtgmldkojldlekaaGreatDoorTie
import Derived.Test.YtgmldkojldlekaaGreatDoorCards
import Derived.ProofKit
import Derived.LaidMore
import Derived.LaidHandle
import Derived.OpenShut
import Derived.Stop.Joined
import Derived.Stop.LaidErr
import Derived.Test.YtgmldkojldlekaaGreatDoorSU33Z
import Derived.Test.YtgmldkojldlekaaGreatDoorSU07Z
import Derived.Test.YtgmldkojldlekaaGreatDoorSU30Z
import Derived.Test.YtgmldkojldlekaaGreatDoorSU28Z
namespace Go.Proofs.YtgmldkojldlekaaGreatDoor
open Go.RowKit Go.Shelf
attribute [local go_sem] Oper.semAt_some
abbrev Sk (hb : Nat) (v0 v2 v3 : Value) (w : World) : Prop := w.cell? ⟨hb, 0, none⟩ = some v0 ∧ w.cell? ⟨hb, 2, none⟩ = some v2 ∧ w.cell? ⟨hb, 3, none⟩ = some v3
theorem sk_dr {hb : Nat} {v0 v2 v3 : Value} {w : World} (h : Sk hb v0 v2 v3 w) : Sk hb v0 v2 v3 w.drew := h
theorem sk_al {hb : Nat} {v0 v2 v3 : Value} {w : World} {o : Obj} (h : Sk hb v0 v2 v3 w) : Sk hb v0 v2 v3 (w.alloc o) :=
  ⟨((below_alloc w o).cell (p := ⟨hb, 0, none⟩) (lt_of_cell h.1)).trans h.1, ((below_alloc w o).cell (p := ⟨hb, 2, none⟩) (lt_of_cell h.1)).trans h.2.1, ((below_alloc w o).cell (p := ⟨hb, 3, none⟩) (lt_of_cell h.1)).trans h.2.2⟩
theorem sk_set {hb t3 : Nat} {v0 v2 v3 : Value} {w : World} {a b c d e : Value} (hne : hb ≠ t3) (h : Sk hb v0 v2 v3 w) : Sk hb v0 v2 v3 (setD w t3 a b c d e) := by
  have hf : ∀ o, (setD w t3 a b c d e).cell? ⟨hb, o, none⟩ = w.cell? ⟨hb, o, none⟩ := fun o => World.cell?_of_block (w := w) (a := ⟨hb, o, none⟩) (setD_far w _ _ _ _ _ hne)
  exact ⟨(hf 0).trans h.1, (hf 2).trans h.2.1, (hf 3).trans h.2.2⟩
theorem Dk.ne {w W : World} {hb t3 : Nat} {ap tp : Option Addr} {trv ptv : Value} {n : Int} {cs : Array Value} (h : Dk w hb (hpO ap tp trv ptv n) W) (ht : W.heap[t3]? = some (.cells cs 44)) : hb ≠ t3 := obj_ne h.n ht (by decide)
theorem dump_fin {w W : World} {k1 k2 k3 t3 D kn : Nat} {xs1 xs2 xs3 : List Value} {pre : List (Nat × ByteArray)} {a1 a2 a3 ua : Option Addr} {c1 c2 c3 uc : Nat} {xn : List Value} (h : Dl w k1 xs1 k2 xs2 k3 xs3 t3 pre W) (_ : W.heap[t3]? = some (dmpO (.slice a1 k1 c1) (.slice a2 k2 c2) (.slice a3 k3 c3) (.slice ua kn uc) (.slice none 0 0))) (h2 : Dr w.heap.size (.slice a1 k1 c1) k1 xs1 (.slice a2 k2 c2) k2 xs2 (.slice a3 k3 c3) k3 xs3 W) (h3 : W.ownsRow w.heap.size 9 1 (.slice ua kn uc) kn xn) (hK : W.heap[D]? = some (.deferred (some []))) (hD : w.heap.size < D) :
    (setD W w.heap.size (.slice a1 k1 c1) (.slice a2 k2 c2) (.slice a3 k3 c3) (.slice ua kn uc) (.slice none 0 0)).heap[D]? = some (.deferred (some [])) ∧
    ((setD W w.heap.size (.slice a1 k1 c1) (.slice a2 k2 c2) (.slice a3 k3 c3) (.slice ua kn uc) (.slice none 0 0)).putObj D (.deferred none)).heap[w.heap.size]? = some (dmpO (.slice a1 k1 c1) (.slice a2 k2 c2) (.slice a3 k3 c3) (.slice ua kn uc) (.slice none 0 0)) ∧
    (Dr w.heap.size (.slice a1 k1 c1) k1 xs1 (.slice a2 k2 c2) k2 xs2 (.slice a3 k3 c3) k3 xs3 ((setD W w.heap.size (.slice a1 k1 c1) (.slice a2 k2 c2) (.slice a3 k3 c3) (.slice ua kn uc) (.slice none 0 0)).putObj D (.deferred none)) ∧ ((setD W w.heap.size (.slice a1 k1 c1) (.slice a2 k2 c2) (.slice a3 k3 c3) (.slice ua kn uc) (.slice none 0 0)).putObj D (.deferred none)).ownsRow w.heap.size 9 1 (.slice ua kn uc) kn xn) ∧
    Below w.heap.size w ((setD W w.heap.size (.slice a1 k1 c1) (.slice a2 k2 c2) (.slice a3 k3 c3) (.slice ua kn uc) (.slice none 0 0)).putObj D (.deferred none)) := by
  have hfar : ∀ k, k ≠ w.heap.size → (setD W w.heap.size (.slice a1 k1 c1) (.slice a2 k2 c2) (.slice a3 k3 c3) (.slice ua kn uc) (.slice none 0 0)).heap[k]? = W.heap[k]? := fun k hk => setD_far W _ _ _ _ _ hk
  have hat := setD_at h.x (.slice a1 k1 c1) (.slice a2 k2 c2) (.slice a3 k3 c3) (.slice ua kn uc) (.slice none 0 0)
  have hbb := setD_below h.b (Nat.le_refl _) (.slice a1 k1 c1) (.slice a2 k2 c2) (.slice a3 k3 c3) (.slice ua kn uc) (.slice none 0 0)
  have hd2 : Dr w.heap.size (.slice a1 k1 c1) k1 xs1 (.slice a2 k2 c2) k2 xs2 (.slice a3 k3 c3) k3 xs3 (setD W w.heap.size (.slice a1 k1 c1) (.slice a2 k2 c2) (.slice a3 k3 c3) (.slice ua kn uc) (.slice none 0 0)) := h2.keep (fun k o hk hno _ => (hfar k (fun e => by subst e; rw [h.x] at hk; exact hno _ _ (Option.some.inj hk).symm)).trans hk)
  have hd3 : (setD W w.heap.size (.slice a1 k1 c1) (.slice a2 k2 c2) (.slice a3 k3 c3) (.slice ua kn uc) (.slice none 0 0)).ownsRow w.heap.size 9 1 (.slice ua kn uc) kn xn := row_keep h3 (fun k hk => hfar k (fun e => by
    subst e
    obtain ⟨cur, hc⟩ := row_obj h3 hk
    exact obj_ne h.x hc (by decide) rfl))
  generalize setD W w.heap.size (.slice a1 k1 c1) (.slice a2 k2 c2) (.slice a3 k3 c3) (.slice ua kn uc) (.slice none 0 0) = X at *
  have m9 : X.heap[D]? = some (.deferred (some [])) := (hfar D (by omega)).trans hK
  have n9 : Nb w.heap.size X (X.putObj D (.deferred none)) := Nb.put (.deferred none) (by omega) m9 rfl
  refine ⟨m9, n9.block _ _ hat (Or.inr rfl), ⟨hd2.keep (fun k o hk _ ho => n9.block k o hk (Or.inr ho)), row_keep hd3 (fun k hk => ?_)⟩, n9.below hbb (Nat.le_refl _) (Nat.le_refl _)⟩
  obtain ⟨cur, hc⟩ := row_obj hd3 hk
  rw [hc]
  exact n9.block k _ hc (Or.inr rfl)
set_option maxRecDepth 100000 in
set_option maxHeartbeats 8000000 in
theorem dump_none (hv : Value) (ap tp va : Option Addr) (vc : Nat) (ta : Option Addr) (tn tc : Nat) (pa : Option Addr) (pn pc : Nat) (n : Int) (k1 : Nat) (xs1 : List Value) (k2 : Nat) (xs2 : List Value) (k3 : Nat) (xs3 : List Value) (w : World)
    (hself : ∀ w1, Below w.heap.size w w1 → Calls Tryz.prog 31 #[hv] w1 fun e w' => ∃ hb, e = .returned (.pointer (some ⟨hb, 0, none⟩)) ∧ w'.heap[hb]? = some (hpO ap tp (.slice ta tn tc) (.slice pa pn pc) n) ∧ Below w1.heap.size w1 w')
    (hwd : ∀ w1, Below w.heap.size w w1 → Calls Tryz.prog 32 #[.pointer ap] w1 fun e w' => ∃ ao c, e = .returned (.slice ao k1 c) ∧ w'.ownsRow w.heap.size 88 1 (.slice ao k1 c) k1 xs1 ∧ Below w1.heap.size w1 w')
    (hc2 : ∀ w1, Below w.heap.size w w1 → Calls Tryz.prog 33 #[.slice ta tn tc] w1 fun e w' => ∃ ao c, e = .returned (.slice ao k2 c) ∧ w'.ownsRow w.heap.size 90 2 (.slice ao k2 c) k2 xs2 ∧ Below w1.heap.size w1 w')
    (hc3 : ∀ w1, Below w.heap.size w w1 → Calls Tryz.prog 34 #[.slice pa pn pc] w1 fun e w' => ∃ ao c, e = .returned (.slice ao k3 c) ∧ w'.ownsRow w.heap.size 85 3 (.slice ao k3 c) k3 xs3 ∧ Below w1.heap.size w1 w')
    (hall : ∀ w1, Below w.heap.size w w1 → Calls Tryz.prog 35 #[.pointer tp] w1 fun e w' => e = .returned (.func (.func 91) #[] #[.pointer (some ⟨w1.heap.size, 0, none⟩)]) ∧ w' = w1.alloc (.cells #[.slice va 0 vc] 41)) :
    Calls Tryz.prog 10 #[hv] w fun e w' => (∃ a1 c1 a2 c2 a3 c3 ua uc, e = .returned (.agg #[.slice a1 k1 c1, .slice a2 k2 c2, .slice a3 k3 c3, .slice ua 0 uc, .slice none 0 0]) ∧ Dr w.heap.size (.slice a1 k1 c1) k1 xs1 (.slice a2 k2 c2) k2 xs2 (.slice a3 k3 c3) k3 xs3 w' ∧ w'.ownsRow w.heap.size 9 1 (.slice ua 0 uc) 0 []) ∧ Below w.heap.size w w' := by
  have hb0 := hid (below_alloc w dmp0)
  have hx0 := hid (heap_alloc_new w dmp0)
  have Hself := hid hself
  have Hwd := hid hwd
  have Hc2 := hid hc2
  have Hc3 := hid hc3
  have Hall := hid hall
  clear hself hwd hc2 hc3 hall
  refine (callsIn_wide (n := 4)).1 ?_
  refine callsIn_of_wp_marks Tryz.func10 rfl trivial ?_ rfl
  simp only [Tryz.ntmps10, List.size_toArray, List.length_cons, List.length_nil, Nat.reduceAdd, Nat.reduceSub, Array.replicate_succ, Array.replicate_zero, List.push_toArray, List.append_toArray, List.nil_append, List.cons_append]
  refine wpIn_wide.2 ?_
  go_wp2_with (go_at_call 31; refine (Hself.out _ hb0.out).mono ?_; rintro e w1 ⟨hb, rfl, hx, hb1⟩; have HD : Hid (Dk w hb (hpO ap tp (.slice ta tn tc) (.slice pa pn pc) n) w1) := ⟨Below.next hb0.out hb1, (hb1.block _ (by simp)).trans hx0.out, hx⟩; obtain ⟨c0, c1, c2, c3, c5⟩ := HD.out.cells; have z1 := lt_of_block HD.out.x; clear hx hb1)
  go_cut [3] from 8 to 24 (fun s3 wc => ∃ t3, s3 = .pointer (some ⟨t3, 0, none⟩) ∧ Hid (Dc w hb (hpO ap tp (.slice ta tn tc) (.slice pa pn pc) n) k1 xs1 k2 xs2 k3 xs3 t3 wc))
  case first =>
    have hO : Hid (∀ (cs : Array Value) (x : Nat × Nat), hpO ap tp (.slice ta tn tc) (.slice pa pn pc) n ≠ .cells cs 44 x) := fun cs x e => by injection e with _ e; exact absurd e (by decide)
    go_region_held3 (fun w' => w'.cell? ⟨hb, 0, none⟩ = some (.pointer ap) ∧ w'.cell? ⟨hb, 2, none⟩ = some (.slice ta tn tc) ∧ w'.cell? ⟨hb, 3, none⟩ = some (.slice pa pn pc)) (first | (with_reducible exact ⟨c0, c2, c3⟩) | (with_reducible exact sk_al ⟨c0, c2, c3⟩) | (with_reducible exact sk_dr ⟨c0, c2, c3⟩) | (with_reducible exact sk_dr (sk_al ⟨c0, c2, c3⟩)) | (with_reducible exact sk_set hne ⟨c0, c2, c3⟩))
      (first
        | (go_at_call 32; refine (Hwd.out _ (by first | (with_reducible exact HD.out.drew.b) | (with_reducible exact (HD.out.next (below_alloc w1 dmp0)).drew.b))).mono ?_; rintro e w2 ⟨ao1, cc1, rfl, hr1, hb2⟩; have hb3 : Below w1.heap.size w1 w2 := (by first | (with_reducible exact Below.next (Below.refl _ w1).drew hb2) | (with_reducible exact Below.next (Below.next (below_alloc w1 dmp0) (Below.refl _ (w1.alloc dmp0)).drew) hb2)); have zb2 := hb3.size; have HR1 := hid hr1; (try (have hbT : Below (World.alloc w1 dmp0).drew.heap.size (World.alloc w1 dmp0).drew w2 := (by with_reducible exact hb2); have HT := hid ((hbT.block _ (by show w1.heap.size < (w1.alloc dmp0).heap.size; simp)).trans (heap_alloc_new w1 dmp0)); clear hbT; obtain ⟨⟨y0, y1, y2, y3, y4⟩, ⟨f0, f1, f2, f3, f4⟩, yz⟩ := cel_cells HT.out)); replace HD := hid (HD.out.next hb3); (try (have hne := HD.out.ne HT.out)); clear hb2 hr1 hb3 c0 c1 c2 c3 c5; obtain ⟨c0, c1, c2, c3, c5⟩ := HD.out.cells)
        | (go_at_call 33; refine (Hc2.out _ (by first | (with_reducible exact HD.out.b) | (with_reducible exact (HD.out.next (below_alloc w2 dmp0)).b))).mono ?_; rintro e w3 ⟨ao2, cc2, rfl, hr1, hb2⟩; have hb3 : Below w2.heap.size w2 w3 := (by first | (with_reducible exact hb2) | (with_reducible exact Below.next (below_alloc w2 dmp0) hb2)); have zb3 := hb3.size; have HR2 := hid hr1; replace HR1 := hid (row_below HR1.out hb3); (try (replace HT := hid ((hb3.block _ (lt_of_block HT.out)).trans HT.out); clear y0 y1 y2 y3 y4 f0 f1 f2 f3 f4 yz; obtain ⟨⟨y0, y1, y2, y3, y4⟩, ⟨f0, f1, f2, f3, f4⟩, yz⟩ := cel_cells HT.out)); (try (have hbT : Below (World.alloc w2 dmp0).heap.size (World.alloc w2 dmp0) w3 := (by with_reducible exact hb2); have HT := hid ((hbT.block _ (by simp)).trans (heap_alloc_new w2 dmp0)); clear hbT; obtain ⟨⟨y0, y1, y2, y3, y4⟩, ⟨f0, f1, f2, f3, f4⟩, yz⟩ := cel_cells HT.out)); replace HD := hid (HD.out.next hb3); (try (have hne := HD.out.ne HT.out)); clear hb2 hr1 hb3 c0 c1 c2 c3 c5; obtain ⟨c0, c1, c2, c3, c5⟩ := HD.out.cells)
        | (go_at_call 34; refine (Hc3.out _ (by first | (with_reducible exact HD.out.b) | (with_reducible exact (HD.out.next (below_alloc w3 dmp0)).b))).mono ?_; rintro e w4 ⟨ao3, cc3, rfl, hr1, hb2⟩; have hb3 : Below w3.heap.size w3 w4 := (by first | (with_reducible exact hb2) | (with_reducible exact Below.next (below_alloc w3 dmp0) hb2)); have zb4 := hb3.size; have HR3 := hid hr1; replace HR1 := hid (row_below HR1.out hb3); replace HR2 := hid (row_below HR2.out hb3); (try (replace HT := hid ((hb3.block _ (lt_of_block HT.out)).trans HT.out); clear y0 y1 y2 y3 y4 f0 f1 f2 f3 f4 yz; obtain ⟨⟨y0, y1, y2, y3, y4⟩, ⟨f0, f1, f2, f3, f4⟩, yz⟩ := cel_cells HT.out)); (try (have hbT : Below (World.alloc w3 dmp0).heap.size (World.alloc w3 dmp0) w4 := (by with_reducible exact hb2); have HT := hid ((hbT.block _ (by simp)).trans (heap_alloc_new w3 dmp0)); clear hbT; obtain ⟨⟨y0, y1, y2, y3, y4⟩, ⟨f0, f1, f2, f3, f4⟩, yz⟩ := cel_cells HT.out)); replace HD := hid (HD.out.next hb3); (try (have hne := HD.out.ne HT.out)); clear hb2 hr1 hb3 c0 c1 c2 c3 c5; obtain ⟨c0, c1, c2, c3, c5⟩ := HD.out.cells))
    all_goals go_wp2_with fail
    all_goals go_meet
    all_goals first
      | exact ⟨_, rfl, Dc.late HD.out (by have := lt_of_block HD.out.x; omega) HR1.out HR2.out HR3.out⟩
      | exact ⟨_, rfl, Dc.early HD.out hO.out (by omega) HT.out HR1.out HR2.out HR3.out⟩
  case rest =>
    obtain ⟨t3, rfl, hW⟩ := hcut
    obtain ⟨c0', c1', c2', c3', c5'⟩ := hW.out.d.cells
    go_wp2_with (go_at_call 35; refine (Hall.out _ hW.out.d.b).mono ?_; rintro e w6 ⟨rfl, hw⟩; subst hw)
    refine (wpIn_wide (n := 4)).1 ?_
    obtain ⟨W0, hW0⟩ : ∃ W0, wc.alloc (.cells #[.slice va 0 vc] 41) = W0 := ⟨_, rfl⟩
    have hbx : W0.heap[wc.heap.size]? = some (.cells #[.slice va 0 vc] 41) := by rw [← hW0]; exact heap_alloc_new wc _
    have hb6 : Below wc.heap.size wc W0 := by rw [← hW0]; exact below_alloc wc _
    have hz0 : W0.heap.size = wc.heap.size + 1 := by rw [← hW0]; simp
    have hI0 : Hid (Dl w k1 xs1 k2 xs2 k3 xs3 t3 [] W0) := by
      obtain ⟨a1, e1, a2, e2, a3, e3, h1, h2⟩ := hW.out.r
      refine ⟨Below.next hW.out.d.b hb6, (hb6.block _ (lt_of_block hW.out.d.x)).trans hW.out.d.x, hW.out.lt, a1, e1, a2, e2, a3, e3, none, 0, (hb6.block _ (lt_of_block h1)).trans h1, ⟨row_below h2.r1 hb6, row_below h2.r2 hb6, row_below h2.r3 hb6⟩, World.ownsRow_nil _ _ _ _⟩
    have hzx : w.heap.size < W0.heap.size := lt_of_block hI0.out.x
    have hzw : w.heap.size ≤ W0.heap.size := hI0.out.b.size
    rw [hW0]
    clear hW0 hW c0' c1' c2' c3' c5' c0 c1 c2 c3 c5
    refine range_toldP (Ks := fun k => k = wc.heap.size) (encs := encA) rfl (enters_of Tryz.func91 (by kernel_rfl) rfl) (fun _ => rfl) (by omega) (fun k hk => by subst hk; omega) (sall_tells0 va vc 3 _ wc.heap.size W0 hbx)
      (I := Dl w k1 xs1 k2 xs2 k3 xs3 t3) (Ix := fun _ _ _ => False) (fun pre A A' h hn => h.nb hn hzw) (fun c pre A A' h hn => h) (fun pre x A A' h hn => h) hI0.out
      (Ax := fun _ _ _ => True) (fun _ _ _ _ h _ => h) ?assign ?body ?done ?stop
    case assign =>
      intro l x W' K hzl hK
      simp only [encA]
      gi_wp2
      exact hK _ _ (Below.refl _ _) trivial
    case body =>
      rintro l pre x a' W' hi ht _
      exact absurd ht.2.1 (by simp)
    case done =>
      rintro D2 xs W' hD hS hi hK
      subst hS
      obtain ⟨a1, e1, a2, e2, a3, e3, ua, uc, h1, h2, h3⟩ := hi.r
      simp only [List.length_nil, List.map_nil] at h1 h3
      obtain ⟨⟨q0, q1, q2, q3, q4⟩, _, qz⟩ := cel_cells h1
      obtain ⟨⟨x0, x1, x2, x3, x4⟩, ⟨y0, y1, y2, y3, y4⟩, xz⟩ := cel_cells hi.x
      have HF := hid (dump_fin hi h1 h2 h3 hK (by omega))
      clear hi h1 h2 h3 hK
      go_wp2
      obtain ⟨m9, q9, r9, b9⟩ := HF.out
      exact ⟨by simp, .inl ⟨_, _, rfl, run_takeDeferred m9, _, ret_dmp Tryz.results10 (by rfl) q9, ⟨_, _, _, _, _, _, _, _, rfl, r9⟩, b9⟩⟩
    case stop =>
      rintro D2 c pre W' _ h _
      exact h.elim
end Go.Proofs.YtgmldkojldlekaaGreatDoor

namespace Go.Proofs.YtgmldkojldlekaaGreatDoor
open Go.ChangeShapes Go.WideShapes Go.ChangeAt Go.RowKit
theorem globEt : Tryz.prog.globalNamed "errors.errorType" = some 0 := by kernel_rfl
theorem rtEt : (Tryz.prog.cutTypes.find? (·.1 == "internal/reflectlite.rtype")).map (·.2) = some 200 := by kernel_rfl
theorem oneEt : ((List.range 254).filter fun t => Tryz.prog.rowNamed t [101, 114, 114, 111, 114]) = [35] := by kernel_rfl
theorem sizeEt : Tryz.prog.types.size = 254 := by kernel_rfl
set_option maxRecDepth 100000 in
theorem ready_of_laid {W : World} (h : laidMetH Tryz.prog Rows.cellsUndoRow.laid W) : ErrC W := by
  have h' : laidMet Tryz.prog [] W ∧ handlesMet Tryz.prog [("errors.errorType", Rows.laid_errors_errorType)] W := h
  obtain ⟨name, u, ty, e1, e2, e3, e4, e5⟩ := h'.2 _ (List.mem_singleton.2 rfl)
  have en : name = [101, 114, 114, 111, 114] := (Option.some.inj e1).symm
  subst en
  obtain rfl := Option.some.inj (rtEt.symm.trans e2)
  have hm : ty ∈ (List.range 254).filter fun t => Tryz.prog.rowNamed t [101, 114, 114, 111, 114] := List.mem_filter.2 ⟨List.mem_range.2 (by rw [← sizeEt]; exact e3), e4⟩
  rw [oneEt] at hm
  obtain rfl := List.mem_singleton.1 hm
  have hh : typeHandle Tryz.prog 35 = .pointer (some ⟨1, 35, none⟩) := by kernel_rfl
  rw [hh] at e5
  have := World.var?_cell globEt e5 0
  show W.cell? _ = _
  simpa using this
theorem door_met (os : Os) (args : Array Value) : laidMetH Tryz.prog Rows.cellsUndoRow.laid ((World.doorLaid Tryz.prog 16 os).forCall (fun _ _ => 0) ⟨#[], args, []⟩).memory :=
  laidMetH_of_parts3 (fuel := 8) (laidMet_of_run' 8 (by kernel_rfl) (by kernel_rfl)) (by kernel_rfl) (by kernel_rfl)
end Go.Proofs.YtgmldkojldlekaaGreatDoor

namespace Go.Proofs.YtgmldkojldlekaaGreatDoor
open Go.RowKit
section
variable {w w' : World} {B hb ab tb : Nat} {m : Int} {av : Value} {l : List Int} {tv : Value} {tq : Nat} {ns : List ByteArray} {trv : Value} {tr : List Te} {ptv : Value} {pt : List Pe} {n : Int}
set_option maxRecDepth 100000 in
set_option maxHeartbeats 2000000 in
theorem haspoint_no (h : Hq w B hb ab tb m av l tv tq ns trv tr ptv pt n) (i : Int) (hi : i < 0 ∨ (pt.length : Int) ≤ i) :
    Calls Tryz.prog 37 #[.pointer (some ⟨hb, 0, none⟩), .int .i64 i] w fun e w' => (∃ ev, e = .returned (.iface 102 (.pointer (some ⟨ev, 0, none⟩))) ∧ Er w' (.iface 102 (.pointer (some ⟨ev, 0, none⟩))) [(116, i)]) ∧ Below w.heap.size w w' := by
  obtain ⟨⟨c0, c1, c2, c3, c4⟩, c5⟩ := h.hp.cells
  obtain ⟨po, pc, rfl, _⟩ := own_slq h.pt
  clear h
  by_cases h0 : i < 0
  · clear hi
    go_enter Tryz.func37, Tryz.ntmps37
    go_wp2_with (go_at_call 30; refine (cfault_any _ _ _).mono ?_; rintro e w1 ⟨rfl, rfl⟩)
    go_ret
    exact ⟨⟨_, rfl, show (116 : Int) ≠ 0 by decide, _, .nilIface, rfl, heap_alloc_new w _, rfl⟩, below_alloc w _⟩
  · have h1 : (pt.length : Int) ≤ i := by omega
    have h2 : ¬ i < (pt.length : Int) := by omega
    clear hi
    go_enter Tryz.func37, Tryz.ntmps37
    go_wp2_with (go_at_call 30; refine (cfault_any _ _ _).mono ?_; rintro e w1 ⟨rfl, rfl⟩)
    go_ret
    exact ⟨⟨_, rfl, show (116 : Int) ≠ 0 by decide, _, .nilIface, rfl, heap_alloc_new w _, rfl⟩, below_alloc w _⟩
set_option maxRecDepth 100000 in
set_option maxHeartbeats 2000000 in
theorem haspoint_yes (h : Hq w B hb ab tb m av l tv tq ns trv tr ptv pt n) (i : Nat) (hi : i < pt.length) :
    Calls Tryz.prog 37 #[.pointer (some ⟨hb, 0, none⟩), .int .i64 (i : Int)] w fun e w' => e = .returned .nilIface ∧ w' = w := by
  obtain ⟨⟨c0, c1, c2, c3, c4⟩, c5⟩ := h.hp.cells
  obtain ⟨po, pc, rfl, _⟩ := own_slq h.pt
  have h0 : ¬ (i : Int) < 0 := by omega
  have h1 : ¬ (pt.length : Int) ≤ (i : Int) := by omega
  have h2 : (i : Int) < (pt.length : Int) := by omega
  clear h
  go_enter Tryz.func37, Tryz.ntmps37
  go_wp2
  go_ret
  exact ⟨rfl, rfl⟩
set_option maxRecDepth 100000 in
set_option maxHeartbeats 2000000 in
theorem release_yes (h : Hq w B hb ab tb m av l tv tq ns trv tr ptv pt n) (i : Nat) (hi : i < pt.length) :
    Calls Tryz.prog 29 #[.pointer (some ⟨hb, 0, none⟩), .int .i64 (i : Int)] w fun e w' => e = .returned .nilIface ∧ ∃ ptv', Hq w' B hb ab tb m av l tv tq ns trv tr ptv' (pt.take i) n ∧ a_Mod (qfoot hb ab av trv ptv) w w' ∧ a_Nx w ptv ptv' := by
  obtain ⟨⟨c0, c1, c2, c3, c4⟩, c5⟩ := h.hp.cells
  have c6 : w.frozen? ⟨hb, 3, none⟩ = false := by simp [World.frozen?, h.hp.blk]
  have hhp := hid (haspoint_yes h i hi)
  obtain ⟨po, pc, rfl, hpc, hpm, _, hpa⟩ := own_slq h.pt
  obtain ⟨g, rfl⟩ : ∃ g, po = some ⟨g, 0, none⟩ := by
    cases po with
    | none => exact absurd (own_slq h.pt) (fun ⟨a, c, e, _, _, h0, _⟩ => by injection e with e1 _ _; have := (h0 e1.symm).1; omega)
    | some a => exact ⟨a.block, by rw [← hpa a rfl]⟩
  have hct := own_cut h.pt (k := i) (by omega)
  rw [mkC_take] at hct
  have hfin := hid (h.newpt (pt' := pt.take i) (by rw [List.length_take, Nat.min_eq_left (by omega)]; exact hct))
  have hb1 : (i : Int) ≤ (pc : Int) := by omega
  have hb2 : (0 : Int) ≤ (i : Int) := by omega
  clear hct hpa
  go_enter Tryz.func29, Tryz.ntmps29
  go_wp2_with (go_at_call 37; refine hhp.out.mono ?_; rintro e w1 ⟨rfl, hw⟩; replace hw := hw.symm; subst hw)
  go_ret
  exact ⟨rfl, _, hfin.out, (a_Mod.refl _ w).setCell (p := ⟨hb, 3, none⟩) (Or.inl (mem_qfoot.2 (Or.inl rfl))) _, fun q hq => Or.inl hq⟩
set_option maxHeartbeats 800000 in
theorem release_no (h : Hq w B hb ab tb m av l tv tq ns trv tr ptv pt n) (i : Int) (hi : i < 0 ∨ (pt.length : Int) ≤ i) :
    Calls Tryz.prog 29 #[.pointer (some ⟨hb, 0, none⟩), .int .i64 i] w fun e w' => (∃ ev, e = .returned ev ∧ Er w' ev [(116, i)]) ∧ Below w.heap.size w w' := by
  have hhp := hid (haspoint_no h i hi)
  clear h hi
  go_enter Tryz.func29, Tryz.ntmps29
  go_wp2_with (go_at_call 37; refine hhp.out.mono ?_; rintro e w1 ⟨⟨ev, rfl, hE⟩, hb1⟩)
  go_ret
  exact ⟨⟨_, rfl, hE⟩, hb1⟩
theorem pt_more {w6 : World} {o : Obj} {g6 cap6 : Nat} {p : Pe} (h : Hq w B hb ab tb m av l tv tq ns trv tr ptv pt n) (hown : w6.ownsRow B 85 3 (.slice (some ⟨g6, 0, none⟩) (pt.length + 1) cap6) (pt.length + 1) (mkC pt ++ [.int .i64 (p.1 : Int), .int .i64 (p.2 : Int), .slice none 0 0])) (hg : (w.alloc o).grownBy w6 ptv.ownBlock) (hat : ptv.ownBlock = some g6 ∨ g6 = (w.alloc o).heap.size) :
    Hq (w6.setCell ⟨hb, 3, none⟩ (.slice (some ⟨g6, 0, none⟩) (pt.length + 1) cap6)) B hb ab tb m av l tv tq ns trv tr (.slice (some ⟨g6, 0, none⟩) (pt.length + 1) cap6) (pt ++ [p]) n ∧ a_Mod (qfoot hb ab av trv ptv) w (w6.setCell ⟨hb, 3, none⟩ (.slice (some ⟨g6, 0, none⟩) (pt.length + 1) cap6)) ∧ a_Nx w ptv (.slice (some ⟨g6, 0, none⟩) (pt.length + 1) cap6) := by
  have ha := h.below (below_alloc w o)
  obtain ⟨hp6, hm6, hb6⟩ := ha.grown (Or.inr rfl) hg
  have htr : w6.ownsRow B 90 2 trv tr.length (svC tr) := row_keep ha.tr (fun q hq => hb6 q (ha.tr.lt q hq).2 (fun e => (ha.apart (Or.inr e)).2.2.2 ⟨hq, e⟩))
  have hr : w6.ownsRow B 85 3 (.slice (some ⟨g6, 0, none⟩) (pt.length + 1) cap6) (pt ++ [p]).length (mkC (pt ++ [p])) := by
    rw [mkC_app, List.length_append]
    exact hown
  have hz := h.hp.self
  refine ⟨⟨⟨heap_setCell_same w6 hb 3 _ _ _ hp6.blk, hp6.base, ?_, ?_⟩, row_keep htr (fun q hq => Below.heap_setCell _ _ _ _ (fun e => ?_)), row_keep hr (fun q hq => Below.heap_setCell _ _ _ _ (fun e => ?_))⟩, ?_, fun q hq => ?_⟩
  · refine hp6.ar.keep (ks := [hb]) ((a_Mod.refl [hb] w6).setCell (p := ⟨hb, 3, none⟩) (Or.inl (by simp)) _) (fun q hq => ?_)
    have e : q = hb := by simpa using hq
    rw [e]
    exact hz.1
  · refine hp6.tb.keep (mod_an ((a_Mod.refl [hb] w6).setCell (p := ⟨hb, 3, none⟩) (Or.inl (by simp)) _)) (fun q hq => ?_)
    have e : q = hb := by simpa using hq
    rw [e]
    exact hz.2
  · obtain ⟨c, e1, _⟩ := own_block_obj htr hq
    exact obj_ne e1 hp6.blk (by decide) e
  · obtain ⟨c, e1, _⟩ := own_block_obj hr hq
    exact obj_ne e1 hp6.blk (by decide) e
  · have hm : a_Mod (qfoot hb ab av trv ptv) w w6 := (a_Mod.ofBelow (below_alloc w o)).trans (hm6.ofMem (qfoot hb ab av trv ptv) (fun y hy => Or.inl (mem_qfoot.2 (Or.inr (Or.inr (Or.inr (by simpa using hy))))))) (fun y hy => Or.inl hy)
    exact hm.setCell (p := ⟨hb, 3, none⟩) (Or.inl (mem_qfoot.2 (Or.inl rfl))) _
  · have e : g6 = q := by simpa [Value.ownBlock] using hq
    subst e
    rcases hat with e | e
    · exact Or.inl e
    · exact Or.inr (by rw [e]; simp)
theorem pt_cells {w6 : World} {o : Obj} (h : Hq w B hb ab tb m av l tv tq ns trv tr ptv pt n) (hg : (w.alloc o).grownBy w6 ptv.ownBlock) : (w6.cell? ⟨hb, 3, none⟩ = some ptv ∧ w6.frozen? ⟨hb, 3, none⟩ = false) ∧ hb < w6.heap.size := by
  obtain ⟨hp6, _⟩ := (h.below (below_alloc w o)).grown (Or.inr rfl) hg
  refine ⟨⟨hp6.cells.1.2.2.2.1, ?_⟩, hp6.cells.2⟩
  simp [World.frozen?, hp6.blk]
theorem Hq.drew (h : Hq w B hb ab tb m av l tv tq ns trv tr ptv pt n) : Hq w.drew B hb ab tb m av l tv tq ns trv tr ptv pt n := h.below (Below.refl _ w).drew
set_option maxRecDepth 100000 in
set_option maxHeartbeats 4000000 in
theorem point_any (h : Hq w B hb ab tb m av l tv tq ns trv tr ptv pt n) (hB : B ≤ w.heap.size) (hp : pt.length ≤ 1000000) :
    Calls Tryz.prog 9 #[.pointer (some ⟨hb, 0, none⟩)] w fun e w' => e = .returned (.tuple #[.int .i64 (pt.length : Int), .nilIface]) ∧ ∃ ptv', Hq w' B hb ab tb m av l tv tq ns trv tr ptv' (pt ++ [(tr.length, l.length)]) n ∧ a_Mod (qfoot hb ab av trv ptv) w w' ∧ a_Nx w ptv ptv' := by
  obtain ⟨i0, hi, hz0, hz1, hz2⟩ := info_parts infoMk
  obtain ⟨⟨c0, c1, c2, c3, c4⟩, c5⟩ := h.hp.cells
  have HH := hid h
  obtain ⟨po, pc, rfl, hpc, hpm, _, hpa⟩ := own_slq h.pt
  obtain ⟨ta, tc, rfl, htc, _, _, _⟩ := own_slq h.tr
  have htp := hid (fun w1 (h1 : Hq w1 B hb ab tb m av l tv tq ns (.slice ta tr.length tc) tr (.slice po pt.length pc) pt n) => htop_any h1.hp)
  have hown := h.drew.pt.alloc (.cells #[.int .i64 (tr.length : Int), .int .i64 (l.length : Int), .slice none 0 0] 85)
  clear h hpa
  go_enter Tryz.func9, Tryz.ntmps9
  go_wp2
  go_region_law
    (first
      | (refine step_append_lies _ (by rfl) _ _ _ (by rfl) B 85 i0 (.agg #[.int .i64 0, .int .i64 0, .slice none 0 0]) 3 40 Tryz.underlying40 hi hz0 hz1 hz2 rfl (by omega) _ pt.length (mkC pt) (by rfl) hown ⟨w.heap.size, 0, none⟩ 1 1 [.int .i64 (tr.length : Int), .int .i64 (l.length : Int), .slice none 0 0] (by rfl) (by rfl) (World.news_of_block (cs := #[.int .i64 (tr.length : Int), .int .i64 (l.length : Int), .slice none 0 0]) (t := 85) (fr := (0, 0)) (heap_alloc_new w _)) (by simp [Value.oneCell']) (by omega) (by unfold maxLen; omega) (by omega) (by simp; omega) _ (by rfl) ?_; intro g6 cap6 w6 hown6 hg6 hat6 hlt6; have HW6 := hid (pt_more (p := (tr.length, l.length)) HH.out.drew hown6 hg6 hat6); obtain ⟨⟨k2, k2f⟩, k5⟩ := pt_cells HH.out.drew hg6; clear hown hown6 hg6 hat6 hlt6)
      | (go_simp; go_at_call 23; refine (htp.out _ HH.out.drew).mono ?_; rintro e w1 ⟨rfl, hw⟩; subst hw))
  all_goals
    clear k2 k2f
    go_wp2
    go_ret2
    exact ⟨rfl, _, HW6.out.1, (a_Mod.ofBelow (Below.refl _ w).drew).trans HW6.out.2.1 (fun y hy => Or.inl hy), HW6.out.2.2⟩
end
end Go.Proofs.YtgmldkojldlekaaGreatDoor

namespace Go.Proofs.YtgmldkojldlekaaGreatDoor
open Go.RowKit
theorem er_block {w : World} {b : Nat} {fs : Fs} (h : Er w (.iface 102 (.pointer (some ⟨b, 0, none⟩))) fs) : ∃ c a ev, w.heap[b]? = some (.cells #[.int .i64 c, .int .i64 a, .string ⟨#[]⟩, ev] 105) := by
  cases fs with
  | nil => simp [Er] at h
  | cons x r =>
    obtain ⟨_, b', ev, he, hb, _⟩ := h
    injection he with _ he
    injection he with he
    injection he with he
    injection he with he
    subst he
    exact ⟨x.1, x.2, ev, hb⟩
set_option maxRecDepth 100000 in
set_option maxHeartbeats 4000000 in
theorem hput_bad (hb : Nat) {W : World} (hE : ErrC W) {nv rv : Value} {g : Gf} (hG : Gr W nv rv g) (hS : Sized g) (hck : one (chk g) ≠ []) :
    Calls Tryz.prog 21 #[.pointer (some ⟨hb, 0, none⟩), .agg #[nv, rv]] W fun e w' => (∃ b, e = .returned (.tuple #[.slice none 0 0, .iface 102 (.pointer (some ⟨b, 0, none⟩))])) ∧ Below W.heap.size W w' := by
  have hb0 := below_alloc W (.cells #[nv, rv] 30)
  have hre := hid (reach_bad (hG.below hb0) hS hck)
  have hwr := hid (fun w1 (hb : Below W.heap.size W w1) (c : Int) (fb : Nat) (c1 a1 : Int) (s1 ev : Value) h => wrapped_any w1 (hE.below hb) c fb (c1 := c1) (a1 := a1) (s1 := s1) (ev := ev) h)
  have Hb0 := hid hb0
  clear hb0 hS hck hG hE
  go_enter Tryz.func21, Tryz.ntmps21
  go_wp2_with (go_at_call 48; refine hre.out.mono ?_; rintro e w1 ⟨⟨b, rfl, he⟩, hb1⟩; have Hb1 := hid (Below.next Hb0.out hb1); have He := hid (er_block he); clear he hb1)
  obtain ⟨c1, a1, ev, hf⟩ := He.out
  have Hf := hid hf
  clear hf He
  go_wp2_with (go_at_call 46; refine (hwr.out _ Hb1.out _ _ _ _ _ _ Hf.out).mono ?_; rintro e w2 ⟨⟨b2, rfl, _⟩, hb2⟩; have Hb2 := hid (Below.next Hb1.out hb2); clear hb2)
  go_ret2
  exact ⟨⟨b2, rfl⟩, Hb2.out⟩
end Go.Proofs.YtgmldkojldlekaaGreatDoor

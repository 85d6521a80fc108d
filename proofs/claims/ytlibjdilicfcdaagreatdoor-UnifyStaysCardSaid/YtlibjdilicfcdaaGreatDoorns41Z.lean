/- Package cells: Dump where there are names; Dump of any heap. -/
import Derived.Test.YtlibjdilicfcdaaGreatDoorns40Z
import Derived.Test.YtlibjdilicfcdaaGreatDoorns13Z
import Derived.Test.YtlibjdilicfcdaaGreatDoorns09Z
import Derived.Test.YtlibjdilicfcdaaGreatDoorns10Z
import Derived.Test.YtlibjdilicfcdaaGreatDoorns14Z
import Derived.Test.YtlibjdilicfcdaaGreatDoorns03Z
import Derived.Test.YtlibjdilicfcdaaGreatDoorns08Z
import Derived.Test.YtlibjdilicfcdaaGreatDoorns19Z
namespace Go.Proofs.YtlibjdilicfcdaaGreatDoor
set_option maxRecDepth 100000
open Go.RowKit Go.Shelf
attribute [local go_sem] Oper.semAt_some
theorem wanted_if {o : Oper} {ys : Nat → Option Bool} {A E : Prop} (h : Region.wanted o ys = true) (ha : A) : if Region.wanted o ys = true then A else E := by
  rw [if_pos h]
  exact ha
structure DF (w W' : World) (k1 : Nat) (xs1 : List Value) (k2 : Nat) (xs2 : List Value) (k3 : Nat) (xs3 : List Value) (t3 : Nat) (pre : List (Nat × ByteArray)) (bx : Nat) (bv : Value) (Ks : Nat → Prop) (W : World) : Prop where
  k : KeptK Ks W' W
  d : Dl w k1 xs1 k2 xs2 k3 xs3 t3 pre W
  b : W.heap[bx]? = some (.cells #[bv] 94)
section
variable {w W' : World} {k1 k2 k3 t3 : Nat} {xs1 xs2 xs3 : List Value} {pre : List (Nat × ByteArray)} {a1 a2 a3 ua : Option Addr} {c1 c2 c3 uc xi : Nat} {xt : ByteArray}
theorem dl_far {wd wy wx : World} {o : Obj} {gg cp : Nat} (hd : wd.heap = W'.heap) (hby : Below wd.heap.size wd wy) (hg : (wy.alloc o).grownBy wx (Value.ownBlock (.slice ua pre.length uc))) {k : Nat} (hk : k < W'.heap.size) (h1 : k ≠ t3) (h2 : Value.ownBlock (.slice ua pre.length uc) ≠ some k) : (wx.setCell ⟨t3, 3, none⟩ (.slice (some ⟨gg, 0, none⟩) (pre.length + 1) cp)).heap[k]? = W'.heap[k]? := by
  have hk' : k < wd.heap.size := by rw [hd]; exact hk
  have hz := hby.size
  rw [Below.heap_setCell _ _ _ _ h1, hg.block k (by simp; omega) (fun e => h2 e.symm), Below.heap_alloc _ _ _ (by omega), hby.block k hk', hd]
theorem dl_cell (h1 : W'.heap[t3]? = some (dmpO (.slice a1 k1 c1) (.slice a2 k2 c2) (.slice a3 k3 c3) (.slice ua pre.length uc) (.slice none 0 0))) (h3 : W'.ownsRow w.heap.size 9 1 (.slice ua pre.length uc) pre.length (pre.map fun x => Value.string x.2)) (wy wx : World) (hby : Below W'.drew.heap.size W'.drew wy) (hg : (wy.alloc (.cells #[.string xt] 9)).grownBy wx (Value.ownBlock (.slice ua pre.length uc))) : wx.cell? ⟨t3, 3, none⟩ = some (.slice ua pre.length uc) ∧ wx.frozen? ⟨t3, 3, none⟩ = false ∧ t3 < wx.heap.size := by
  have hlt := lt_of_block h1
  have hz := hby.size
  have hzd : W'.drew.heap.size = W'.heap.size := rfl
  have hne : Value.ownBlock (.slice ua pre.length uc) ≠ some t3 := fun e => by
    obtain ⟨cur, hc⟩ := row_obj h3 e
    exact obj_ne hc h1 (by decide) rfl
  have hx : wx.heap[t3]? = some (dmpO (.slice a1 k1 c1) (.slice a2 k2 c2) (.slice a3 k3 c3) (.slice ua pre.length uc) (.slice none 0 0)) := by
    rw [hg.block t3 (by simp; omega) (fun e => hne e.symm), Below.heap_alloc _ _ _ (by omega), hby.block t3 hlt]
    exact h1
  obtain ⟨⟨_, _, _, c, _⟩, ⟨_, _, _, f, _⟩, z⟩ := cel_cells hx
  exact ⟨c, f, z⟩
theorem dl_step {bx nb B0 : Nat} {bv : Value} {L : List ByteArray} (hi : Dl w k1 xs1 k2 xs2 k3 xs3 t3 pre W') (h1 : W'.heap[t3]? = some (dmpO (.slice a1 k1 c1) (.slice a2 k2 c2) (.slice a3 k3 c3) (.slice ua pre.length uc) (.slice none 0 0))) (h2 : Dr w.heap.size (.slice a1 k1 c1) k1 xs1 (.slice a2 k2 c2) k2 xs2 (.slice a3 k3 c3) k3 xs3 W') (h3 : W'.ownsRow w.heap.size 9 1 (.slice ua pre.length uc) pre.length (pre.map fun x => Value.string x.2))
    (hix : W'.heap[bx]? = some (.cells #[bv] 94)) (hlp : LpB B0 W') (hnb : nb < w.heap.size) (_ : w.heap.size < B0) (_ : bx < W'.heap.size) (wy wx : World) (gg cp : Nat) (hby : Below W'.drew.heap.size W'.drew wy)
    (hown : wx.ownsRow w.heap.size 9 1 (.slice (some ⟨gg, 0, none⟩) (pre.length + 1) cp) (pre.length + 1) ((pre.map fun x => Value.string x.2) ++ [.string xt])) (hg : (wy.alloc (.cells #[.string xt] 9)).grownBy wx (Value.ownBlock (.slice ua pre.length uc))) (_ : Value.ownBlock (.slice ua pre.length uc) = some gg ∨ gg = wy.heap.size + 1) :
    DF w W' k1 xs1 k2 xs2 k3 xs3 t3 (pre ++ [(xi, xt)]) bx bv (fun k => (k = bx ∨ (L ≠ [] ∧ k = nb)) ∨ k = B0 ∨ k = B0 + 1) (wx.setCell ⟨t3, 3, none⟩ (.slice (some ⟨gg, 0, none⟩) (pre.length + 1) cp)) := by
  have hzd : W'.drew.heap.size = W'.heap.size := rfl
  have hz := hby.size
  have hgz := hg.size
  have hza : (wy.alloc (.cells #[.string xt] 9)).heap.size = wy.heap.size + 1 := by simp
  have hrw : ∀ k, Value.ownBlock (.slice ua pre.length uc) = some k → w.heap.size ≤ k ∧ ∃ cur, W'.heap[k]? = some (.cells cur 9) := fun k e => by
    obtain ⟨cur, hc⟩ := row_obj h3 e
    exact ⟨(h3.lt k e).1, cur, hc⟩
  have far : ∀ {k : Nat} {o : Obj}, W'.heap[k]? = some o → (∀ (cs : Array Value) (x : Nat × Nat), o ≠ .cells cs 96 x) → (∀ (cs : Array Value) (x : Nat × Nat), o ≠ .cells cs 9 x) → (wx.setCell ⟨t3, 3, none⟩ (.slice (some ⟨gg, 0, none⟩) (pre.length + 1) cp)).heap[k]? = some o := fun {k o} hk n1 n2 =>
    (dl_far (W' := W') (wd := W'.drew) (t3 := t3) (gg := gg) (cp := cp) rfl hby hg (lt_of_block hk) (fun e => by subst e; rw [h1] at hk; exact n1 _ _ (Option.some.inj hk).symm) (fun e => by
      obtain ⟨_, cur, hc⟩ := hrw k e
      rw [hc] at hk
      exact n2 _ _ (Option.some.inj hk).symm)).trans hk
  have hx3 : wx.heap[t3]? = some (dmpO (.slice a1 k1 c1) (.slice a2 k2 c2) (.slice a3 k3 c3) (.slice ua pre.length uc) (.slice none 0 0)) := by
    have hlt := lt_of_block h1
    rw [hg.block t3 (by omega) (fun e => by
      obtain ⟨_, cur, hc⟩ := hrw t3 e.symm
      exact obj_ne hc h1 (by decide) rfl), Below.heap_alloc _ _ _ (by omega), hby.block t3 hlt]
    exact h1
  have hbw : Below w.heap.size w wx := (((Below.next hi.b (Below.next (Below.refl _ W').drew hby)).alloc (by have := hi.b.size; omega) (.cells #[.string xt] 9))).grown hg (by have := hi.b.size; omega) (fun k e => (hrw k e).1)
  have hne : ∀ {o : Obj}, o = dmp0 → (∀ (cs : Array Value) (x : Nat × Nat), o ≠ .cells cs 9 x) := fun {o} e cs x e' => by
    rw [e] at e'
    injection e' with _ e'
    exact absurd e' (by decide)
  refine ⟨⟨by simp; omega, fun k hk hkl => ?_⟩, ⟨hbw.setCell (p := ⟨t3, 3, none⟩) (Nat.le_of_lt hi.lt) _, ?_, hi.lt, a1, c1, a2, c2, a3, c3, some ⟨gg, 0, none⟩, cp, ?_, ?_, ?_⟩, ?_⟩
  · rcases hk with (rfl | ⟨_, rfl⟩) | hk
    · rw [hix]
      exact far hix (fun cs x e => by injection e with _ e; exact absurd e (by decide)) (fun cs x e => by injection e with _ e; exact absurd e (by decide))
    · refine dl_far (W' := W') (wd := W'.drew) rfl hby hg hkl (by have := hi.lt; omega) (fun e => ?_)
      have := (hrw _ e).1
      omega
    · obtain ⟨o, ho, hc⟩ := hlp k hk
      rw [ho]
      exact far ho (fun cs x e => by rw [e] at hc; cases hc) (fun cs x e => by rw [e] at hc; cases hc)
  · refine (dl_far (W' := W') (wd := W'.drew) rfl hby hg (lt_of_block hi.x) (by have := hi.lt; omega) (fun e => ?_)).trans hi.x
    obtain ⟨_, cur, hc⟩ := hrw _ e
    exact obj_ne hc hi.x (by decide) rfl
  · have h9 := heap_setCell_same wx t3 3 _ _ (.slice (some ⟨gg, 0, none⟩) (pre.length + 1) cp) hx3
    simpa using h9
  · have key : ∀ {z : Nat} {e : TypeId} {v : Value} {n : Nat} {xs : List Value}, W'.ownsRow w.heap.size e z v n xs → e ≠ 96 → e ≠ 9 → (wx.setCell ⟨t3, 3, none⟩ (.slice (some ⟨gg, 0, none⟩) (pre.length + 1) cp)).ownsRow w.heap.size e z v n xs := fun {z e v n xs} hr n1 n2 => row_keep hr (fun k hk' => by
      obtain ⟨cur, hc⟩ := row_obj hr hk'
      rw [hc]
      exact far hc (fun cs x e' => by injection e' with _ e'; exact n1 e') (fun cs x e' => by injection e' with _ e'; exact n2 e'))
    exact ⟨key h2.r1 (by decide) (by decide), key h2.r2 (by decide) (by decide), key h2.r3 (by decide) (by decide)⟩
  · have h9 : (wx.setCell ⟨t3, 3, none⟩ (.slice (some ⟨gg, 0, none⟩) (pre.length + 1) cp)).ownsRow w.heap.size 9 1 (.slice (some ⟨gg, 0, none⟩) (pre.length + 1) cp) (pre.length + 1) ((pre.map fun x => Value.string x.2) ++ [.string xt]) := row_keep hown (fun k hk => Below.heap_setCell _ _ _ _ (fun e => by
      obtain ⟨cur, hc⟩ := row_obj hown hk
      exact obj_ne hc hx3 (by decide) e))
    simpa using h9
  · exact far hix (fun cs x e => by injection e with _ e; exact absurd e (by decide)) (fun cs x e => by injection e with _ e; exact absurd e (by decide))
end
set_option maxHeartbeats 8000000 in
theorem dump_some (hv : Value) (ap tp : Option Addr) (nb no vc : Nat) (L : List ByteArray) (_ : L ≠ []) (hL1 : L.length ≤ 1024) (hLs : ∀ s ∈ L, s.size ≤ 281474976710656) (ta : Option Addr) (tn tc : Nat) (pa : Option Addr) (pn pc : Nat) (n : Int) (k1 : Nat) (xs1 : List Value) (k2 : Nat) (xs2 : List Value) (k3 : Nat) (xs3 : List Value) (w : World) (hnb : nb < w.heap.size) (hrow : ∀ j, j < L.length → w.cell? ⟨nb, no + j, none⟩ = some (.string (L.getD j ⟨#[]⟩)))
    (hself : ∀ w1, Below w.heap.size w w1 → Calls Tryz.prog 28 #[hv] w1 fun e w' => ∃ hb, e = .returned (.pointer (some ⟨hb, 0, none⟩)) ∧ w'.heap[hb]? = some (hpO ap tp (.slice ta tn tc) (.slice pa pn pc) n) ∧ Below w1.heap.size w1 w')
    (hwd : ∀ w1, Below w.heap.size w w1 → Calls Tryz.prog 76 #[.pointer ap] w1 fun e w' => ∃ ao c, e = .returned (.slice ao k1 c) ∧ w'.ownsRow w.heap.size 123 1 (.slice ao k1 c) k1 xs1 ∧ Below w1.heap.size w1 w')
    (hc2 : ∀ w1, Below w.heap.size w w1 → Calls Tryz.prog 77 #[.slice ta tn tc] w1 fun e w' => ∃ ao c, e = .returned (.slice ao k2 c) ∧ w'.ownsRow w.heap.size 149 2 (.slice ao k2 c) k2 xs2 ∧ Below w1.heap.size w1 w')
    (hc3 : ∀ w1, Below w.heap.size w w1 → Calls Tryz.prog 78 #[.slice pa pn pc] w1 fun e w' => ∃ ao c, e = .returned (.slice ao k3 c) ∧ w'.ownsRow w.heap.size 145 3 (.slice ao k3 c) k3 xs3 ∧ Below w1.heap.size w1 w')
    (hall : ∀ w1, Below w.heap.size w w1 → Calls Tryz.prog 79 #[.pointer tp] w1 fun e w' => e = .returned (.func (.func 147) #[] #[.pointer (some ⟨w1.heap.size, 0, none⟩)]) ∧ w' = w1.alloc (.cells #[.slice (some ⟨nb, no, none⟩) L.length vc] 94)) :
    Calls Tryz.prog 39 #[hv] w fun e w' => (∃ a1 c1 a2 c2 a3 c3 ua uc, e = .returned (.agg #[.slice a1 k1 c1, .slice a2 k2 c2, .slice a3 k3 c3, .slice ua L.length uc, .slice none 0 0]) ∧ Dr w.heap.size (.slice a1 k1 c1) k1 xs1 (.slice a2 k2 c2) k2 xs2 (.slice a3 k3 c3) k3 xs3 w' ∧ w'.ownsRow w.heap.size 9 1 (.slice ua L.length uc) L.length (L.map Value.string)) ∧ Below w.heap.size w w' := by
  have hb0 := hid (below_alloc w dmp0)
  have hx0 := hid (heap_alloc_new w dmp0)
  have Hself := hid hself
  have Hwd := hid hwd
  have Hc2 := hid hc2
  have Hc3 := hid hc3
  have Hall := hid hall
  have Hrow := hid hrow
  have HLs := hid hLs
  obtain ⟨i0, hi0, hy0, hy1, hy2⟩ := info_parts infoS
  clear hself hwd hc2 hc3 hall hrow hLs
  refine (callsIn_wide (n := 4)).1 ?_
  refine callsIn_of_wp_marks Tryz.func39 rfl trivial ?_ rfl
  simp only [Tryz.ntmps39, List.size_toArray, List.length_cons, List.length_nil, Nat.reduceAdd, Nat.reduceSub, Array.replicate_succ, Array.replicate_zero, List.push_toArray, List.append_toArray, List.nil_append, List.cons_append]
  refine wpIn_wide.2 ?_
  go_wp2_with (go_at_call 28; refine (Hself.out _ hb0.out).mono ?_; rintro e w1 ⟨hb, rfl, hx, hb1⟩; have HD : Hid (Dk w hb (hpO ap tp (.slice ta tn tc) (.slice pa pn pc) n) w1) := ⟨Below.next hb0.out hb1, (hb1.block _ (by simp)).trans hx0.out, hx⟩; obtain ⟨c0, c1, c2, c3, c5⟩ := HD.out.cells; have z1 := lt_of_block HD.out.x; clear hx hb1)
  go_cut [3] from 8 to 24 (fun s3 wc => ∃ t3, s3 = .pointer (some ⟨t3, 0, none⟩) ∧ Hid (Dc w hb (hpO ap tp (.slice ta tn tc) (.slice pa pn pc) n) k1 xs1 k2 xs2 k3 xs3 t3 wc))
  case first =>
    have hO : Hid (∀ (cs : Array Value) (x : Nat × Nat), hpO ap tp (.slice ta tn tc) (.slice pa pn pc) n ≠ .cells cs 96 x) := fun cs x e => by injection e with _ e; exact absurd e (by decide)
    go_region_held3 (fun w' => w'.cell? ⟨hb, 0, none⟩ = some (.pointer ap) ∧ w'.cell? ⟨hb, 2, none⟩ = some (.slice ta tn tc) ∧ w'.cell? ⟨hb, 3, none⟩ = some (.slice pa pn pc)) (first | (with_reducible exact ⟨c0, c2, c3⟩) | (with_reducible exact sk_al ⟨c0, c2, c3⟩) | (with_reducible exact sk_dr ⟨c0, c2, c3⟩) | (with_reducible exact sk_dr (sk_al ⟨c0, c2, c3⟩)) | (with_reducible exact sk_set hne ⟨c0, c2, c3⟩))
      (first
        | (go_at_call 76; refine (Hwd.out _ (by first | (with_reducible exact HD.out.drew.b) | (with_reducible exact (HD.out.next (below_alloc w1 dmp0)).drew.b))).mono ?_; rintro e w2 ⟨ao1, cc1, rfl, hr1, hb2⟩; have hb3 : Below w1.heap.size w1 w2 := (by first | (with_reducible exact Below.next (Below.refl _ w1).drew hb2) | (with_reducible exact Below.next (Below.next (below_alloc w1 dmp0) (Below.refl _ (w1.alloc dmp0)).drew) hb2)); have zb2 := hb3.size; have HR1 := hid hr1; (try (have hbT : Below (World.alloc w1 dmp0).drew.heap.size (World.alloc w1 dmp0).drew w2 := (by with_reducible exact hb2); have HT := hid ((hbT.block _ (by show w1.heap.size < (w1.alloc dmp0).heap.size; simp)).trans (heap_alloc_new w1 dmp0)); clear hbT; obtain ⟨⟨y0, y1, y2, y3, y4⟩, ⟨f0, f1, f2, f3, f4⟩, yz⟩ := cel_cells HT.out)); replace HD := hid (HD.out.next hb3); (try (have hne := HD.out.ne HT.out)); clear hb2 hr1 hb3 c0 c1 c2 c3 c5; obtain ⟨c0, c1, c2, c3, c5⟩ := HD.out.cells)
        | (go_at_call 77; refine (Hc2.out _ (by first | (with_reducible exact HD.out.b) | (with_reducible exact (HD.out.next (below_alloc w2 dmp0)).b))).mono ?_; rintro e w3 ⟨ao2, cc2, rfl, hr1, hb2⟩; have hb3 : Below w2.heap.size w2 w3 := (by first | (with_reducible exact hb2) | (with_reducible exact Below.next (below_alloc w2 dmp0) hb2)); have zb3 := hb3.size; have HR2 := hid hr1; replace HR1 := hid (row_below HR1.out hb3); (try (replace HT := hid ((hb3.block _ (lt_of_block HT.out)).trans HT.out); clear y0 y1 y2 y3 y4 f0 f1 f2 f3 f4 yz; obtain ⟨⟨y0, y1, y2, y3, y4⟩, ⟨f0, f1, f2, f3, f4⟩, yz⟩ := cel_cells HT.out)); (try (have hbT : Below (World.alloc w2 dmp0).heap.size (World.alloc w2 dmp0) w3 := (by with_reducible exact hb2); have HT := hid ((hbT.block _ (by simp)).trans (heap_alloc_new w2 dmp0)); clear hbT; obtain ⟨⟨y0, y1, y2, y3, y4⟩, ⟨f0, f1, f2, f3, f4⟩, yz⟩ := cel_cells HT.out)); replace HD := hid (HD.out.next hb3); (try (have hne := HD.out.ne HT.out)); clear hb2 hr1 hb3 c0 c1 c2 c3 c5; obtain ⟨c0, c1, c2, c3, c5⟩ := HD.out.cells)
        | (go_at_call 78; refine (Hc3.out _ (by first | (with_reducible exact HD.out.b) | (with_reducible exact (HD.out.next (below_alloc w3 dmp0)).b))).mono ?_; rintro e w4 ⟨ao3, cc3, rfl, hr1, hb2⟩; have hb3 : Below w3.heap.size w3 w4 := (by first | (with_reducible exact hb2) | (with_reducible exact Below.next (below_alloc w3 dmp0) hb2)); have zb4 := hb3.size; have HR3 := hid hr1; replace HR1 := hid (row_below HR1.out hb3); replace HR2 := hid (row_below HR2.out hb3); (try (replace HT := hid ((hb3.block _ (lt_of_block HT.out)).trans HT.out); clear y0 y1 y2 y3 y4 f0 f1 f2 f3 f4 yz; obtain ⟨⟨y0, y1, y2, y3, y4⟩, ⟨f0, f1, f2, f3, f4⟩, yz⟩ := cel_cells HT.out)); (try (have hbT : Below (World.alloc w3 dmp0).heap.size (World.alloc w3 dmp0) w4 := (by with_reducible exact hb2); have HT := hid ((hbT.block _ (by simp)).trans (heap_alloc_new w3 dmp0)); clear hbT; obtain ⟨⟨y0, y1, y2, y3, y4⟩, ⟨f0, f1, f2, f3, f4⟩, yz⟩ := cel_cells HT.out)); replace HD := hid (HD.out.next hb3); (try (have hne := HD.out.ne HT.out)); clear hb2 hr1 hb3 c0 c1 c2 c3 c5; obtain ⟨c0, c1, c2, c3, c5⟩ := HD.out.cells))
    all_goals go_wp2_with fail
    all_goals go_meet
    all_goals first
      | exact ⟨_, rfl, Dc.late HD.out (by have := lt_of_block HD.out.x; omega) HR1.out HR2.out HR3.out⟩
      | exact ⟨_, rfl, Dc.early HD.out hO.out (by omega) HT.out HR1.out HR2.out HR3.out⟩
  case rest =>
    obtain ⟨t3, rfl, hW⟩ := hcut
    obtain ⟨c0', c1', c2', c3', c5'⟩ := hW.out.d.cells
    go_wp2_with (go_at_call 79; refine (Hall.out _ hW.out.d.b).mono ?_; rintro e w6 ⟨rfl, hw⟩; subst hw)
    refine (wpIn_wide (n := 4)).1 ?_
    obtain ⟨W0, hW0⟩ : ∃ W0, wc.alloc (.cells #[.slice (some ⟨nb, no, none⟩) L.length vc] 94) = W0 := ⟨_, rfl⟩
    have hbx : W0.heap[wc.heap.size]? = some (.cells #[.slice (some ⟨nb, no, none⟩) L.length vc] 94) := by rw [← hW0]; exact heap_alloc_new wc _
    have hb6 : Below wc.heap.size wc W0 := by rw [← hW0]; exact below_alloc wc _
    have hz0 : W0.heap.size = wc.heap.size + 1 := by rw [← hW0]; simp
    have hI0 : Hid (Dl w k1 xs1 k2 xs2 k3 xs3 t3 [] W0) := by
      obtain ⟨a1, e1, a2, e2, a3, e3, h1, h2⟩ := hW.out.r
      refine ⟨Below.next hW.out.d.b hb6, (hb6.block _ (lt_of_block hW.out.d.x)).trans hW.out.d.x, hW.out.lt, a1, e1, a2, e2, a3, e3, none, 0, (hb6.block _ (lt_of_block h1)).trans h1, ⟨row_below h2.r1 hb6, row_below h2.r2 hb6, row_below h2.r3 hb6⟩, World.ownsRow_nil _ _ _ _⟩
    have hzx : w.heap.size < W0.heap.size := lt_of_block hI0.out.x
    have hzw : w.heap.size ≤ W0.heap.size := hI0.out.b.size
    have hrow0 : ∀ j, j < L.length → W0.cell? ⟨nb, no + j, none⟩ = some (.string (L.getD j ⟨#[]⟩)) := fun j hj => (hI0.out.b.cell (p := ⟨nb, no + j, none⟩) hnb).trans (Hrow.out j hj)
    rw [hW0]
    clear hW0 hW c0' c1' c2' c3' c5' c0 c1 c2 c3 c5
    refine range_toldK (Ks := fun k => k = wc.heap.size ∨ (L ≠ [] ∧ k = nb)) (encs := encA) rfl (enters_of Tryz.func147 (by kernel_rfl) rfl) (fun _ => rfl) (by omega) (fun k hk => by rcases hk with rfl | ⟨_, rfl⟩ <;> omega) (sallK_tells L nb no vc 3 wc.heap.size W0 (by omega) (by omega) hbx hrow0)
      (I := fun pre W => Dl w k1 xs1 k2 xs2 k3 xs3 t3 pre W ∧ W.heap[wc.heap.size]? = some (.cells #[.slice (some ⟨nb, no, none⟩) L.length vc] 94)) (Ix := fun _ _ _ => False) (fun pre A A' h hn => ⟨h.1.nb hn hzw, hn.block _ _ h.2 (Or.inr rfl)⟩) (fun c pre A A' h hn => h) (fun pre x A A' h hn => h) ⟨hI0.out, hbx⟩
      (Ax := fun x a' _ => a' = { tmps := #[.pointer (some ⟨hb, 0, none⟩), undef, .pointer (some ⟨w.heap.size, 0, none⟩), .pointer (some ⟨t3, 0, none⟩), undef, .string x.2, hv, .pointer (some ⟨hb, 0, none⟩), u8, u9, u10, u11, u12, u13, u14, u15, u16, u17, u18, u19, u20, u21, u22, u23, u24, .pointer (some ⟨hb, 0, none⟩), .pointer (some ⟨hb, 0, none⟩), .pointer (some ⟨hb, 1, none⟩), .pointer (some ⟨hb, 1, none⟩), .pointer tp, .func (.func 147) #[] #[.pointer (some ⟨wc.heap.size, 0, none⟩)], .int .i64 (x.1 : Int), .string x.2, undef, undef, undef, undef, undef, undef, undef, undef], defers := [] }) (fun _ _ _ _ h _ => h) ?assign ?body ?done ?stop
    case assign =>
      intro l x W' K hzl hK
      simp only [encA]
      gi_wp2
      exact hK _ _ (Below.refl _ _) rfl
    case body =>
      rintro l pre x a' W' ⟨hi, hix⟩ ⟨hp1, hp2, hp3⟩ rfl hlp
      obtain ⟨a1, e1, a2, e2, a3, e3, ua, uc, h1, h2, h3⟩ := hi.r
      have hxs : x.2.size ≤ 281474976710656 := by
        rw [hp3]
        exact HLs.out _ (by simp [List.getD, hp2])
      obtain ⟨xi, xt⟩ := x
      dsimp only at *
      have hClo := hid (fun w => n_clone_any xt w hxs)
      have Hst := hid (dl_step (L := L) (xi := xi) (xt := xt) hi h1 h2 h3 hix hlp hnb hzx (by have := lt_of_block hix; omega))
      have Hc3 := hid (dl_cell (xt := xt) (w := w) h1 h3)
      have D3 : Hid (W'.drew.cell? ⟨t3, 3, none⟩ = some (.slice ua pre.length uc)) := (cel_cells h1).1.2.2.2.1
      have zt : t3 < W'.drew.heap.size := lt_of_block h1
      have H3 : Hid (W'.drew.ownsRow w.heap.size 9 1 (.slice ua pre.length uc) pre.length (pre.map fun x => Value.string x.2)) := row_below h3 (Below.refl _ W').drew
      have hzd : w.heap.size ≤ W'.drew.heap.size := hi.b.size
      have hpl : pre.length < 1024 := by omega
      clear hi h1 h2 h3 hix hlp hp1 hp3 hxs
      gi_wp2
      refine wpIn_region_any (by kernel_rfl) ?_
      change wpAnyIn _ _ _ _ _ _ _ _ _ W'.drew
      generalize W'.drew = wd at *
      refine wpAnyIn_inv (fun i o hi => noDefer_at (by kernel_rfl) hi) (fun la a wx => la.size = 8 ∧ Clo (fun k => match k with | 1 => [0] | 3 => [2] | 4 => [3] | 5 => [1, 4, 3] | 6 => [0, 1, 2, 3, 4, 5] | 7 => [6, 5, 0, 1, 2, 3, 4] | _ => []) la ∧ ∃ qq : Nat, ∃ gg : Nat, ∃ cp : Nat, a = (⟨#[.pointer (some ⟨hb, 0, none⟩), undef, .pointer (some ⟨w.heap.size, 0, none⟩), .pointer (some ⟨t3, 0, none⟩), undef, .string xt, hv, .pointer (some ⟨hb, 0, none⟩), u8, u9, u10, u11, u12, u13, u14, u15, u16, u17, u18, u19, u20, u21, u22, u23, u24, .pointer (some ⟨hb, 0, none⟩), .pointer (some ⟨hb, 0, none⟩), .pointer (some ⟨hb, 1, none⟩), .pointer (some ⟨hb, 1, none⟩), .pointer tp, .func (.func 147) #[] #[.pointer (some ⟨wc.heap.size, 0, none⟩)], .int .i64 (xi : Int), .string xt, (selV (bitA la 0) (.pointer (some ⟨t3, 3, none⟩)) undef), (selV (bitA la 1) (.slice ua pre.length uc) undef), (selV (bitA la 2) (.string xt) undef), (selV (bitA la 3) (.string xt) undef), (selV (bitA la 4) (.slice (some ⟨qq, 0, none⟩) 1 1) undef), (selV (bitA la 5) (.slice (some ⟨gg, 0, none⟩) (pre.length + 1) cp) undef), (selV (bitA la 6) (.pointer (some ⟨t3, 3, none⟩)) undef), undef], []⟩ : Act) ∧ (bitA la 3 = false → wx = wd) ∧ (bitA la 3 = true → bitA la 4 = false → Below wd.heap.size wd wx) ∧ (bitA la 4 = true → bitA la 5 = false → ∃ wy, Below wd.heap.size wd wy ∧ qq = wy.heap.size ∧ wx = wy.alloc (.cells #[.string xt] 9)) ∧ (bitA la 5 = true → bitA la 7 = false → ∃ wy, Below wd.heap.size wd wy ∧ wx.ownsRow w.heap.size 9 1 (.slice (some ⟨gg, 0, none⟩) (pre.length + 1) cp) (pre.length + 1) ((pre.map fun x => Value.string x.2) ++ [.string xt]) ∧ (wy.alloc (.cells #[.string xt] 9)).grownBy wx (Value.ownBlock (.slice ua pre.length uc)) ∧ (Value.ownBlock (.slice ua pre.length uc) = some gg ∨ gg = wy.heap.size + 1)) ∧ (bitA la 7 = true → DF w W' k1 xs1 k2 xs2 k3 xs3 t3 (pre ++ [(xi, xt)]) wc.heap.size (.slice (some ⟨nb, no, none⟩) L.length vc) (fun k => (k = wc.heap.size ∨ (L ≠ [] ∧ k = nb)) ∨ k = W0.heap.size ∨ k = W0.heap.size + 1) wx)) ?_ ?_ _ _ _ _ (by decide) ?_
      case refine_3 =>
        exact ⟨by simp, Clo.start _ _, 0, 0, 0, rfl, fun _ => rfl, fun e => absurd e (by decide), fun e => absurd e (by decide), fun e => absurd e (by decide), fun e => absurd e (by decide)⟩
      case refine_1 =>
        rintro la a wx ⟨hl, hcl, qq, gg, cp, rfl, hs0, hs1, hs2, hs3, hs4⟩ i hi
        obtain ⟨i1, i2, i3⟩ := ready_spec hi
        have hiN : i < 8 := i1
        rw [← goppN hl hiN] at i2
        clear hi i1
        have hcs : i = 0 ∨ i = 1 ∨ i = 2 ∨ i = 3 ∨ i = 4 ∨ i = 5 ∨ i = 6 ∨ i = 7 := by omega
        rcases hcs with rfl | rfl | rfl | rfl | rfl | rfl | rfl | rfl
        · have b5 : bitA la 5 = false := by cases e : bitA la 5 with | false => rfl | true => exact absurd (hcl 1 (hcl 5 e 1 (by decide)) 0 (by decide)) (by rw [i2]; simp)
          have b7 : bitA la 7 = false := by cases e : bitA la 7 with | false => rfl | true => exact absurd (hcl 7 e 0 (by decide)) (by rw [i2]; simp)
          clear b5 b7
          have HL := hid hl; clear hl
          refine wpOpS_step rfl (fun K hK => ?_)
          go_simp
          refine hK _ _ ⟨by simpa using HL.out, hcl.step HL.out (by decide) ?_, qq, gg, cp, ?_, ?_, ?_, ?_, ?_, ?_⟩
          · intro d hd; cases hd
          · simp only [gsetN la 0 _ HL.out (by decide)]; rfl
          · intro e3; rw [gsetN la 0 3 HL.out (by decide), if_neg (by decide)] at e3; exact hs0 e3
          · intro e3 e4; rw [gsetN la 0 3 HL.out (by decide), if_neg (by decide)] at e3; rw [gsetN la 0 4 HL.out (by decide), if_neg (by decide)] at e4; exact hs1 e3 e4
          · intro e4 e5; rw [gsetN la 0 4 HL.out (by decide), if_neg (by decide)] at e4; rw [gsetN la 0 5 HL.out (by decide), if_neg (by decide)] at e5; exact hs2 e4 e5
          · intro e5 e7; rw [gsetN la 0 5 HL.out (by decide), if_neg (by decide)] at e5; rw [gsetN la 0 7 HL.out (by decide), if_neg (by decide)] at e7; exact hs3 e5 e7
          · intro e7; rw [gsetN la 0 7 HL.out (by decide), if_neg (by decide)] at e7; exact hs4 e7
        · have i4 : bitA la 0 = true := by simpa [Region.binds, bitA] using i3
          have b5 : bitA la 5 = false := by cases e : bitA la 5 with | false => rfl | true => exact absurd (hcl 5 e 1 (by decide)) (by rw [i2]; simp)
          have b7 : bitA la 7 = false := by cases e : bitA la 7 with | false => rfl | true => exact absurd (hcl 7 e 1 (by decide)) (by rw [i2]; simp)
          have c3 : wx.cell? ⟨t3, 3, none⟩ = some (.slice ua pre.length uc) := by cases e3 : bitA la 3 with | false => rw [hs0 e3]; exact D3.out | true => cases e4 : bitA la 4 with | false => exact ((hs1 e3 e4).cell (p := ⟨t3, 3, none⟩) zt).trans D3.out | true => obtain ⟨wy, hby, _, hwx⟩ := hs2 e4 b5; rw [hwx]; exact ((Below.next hby (below_alloc wy _)).cell (p := ⟨t3, 3, none⟩) zt).trans D3.out
          clear b5 b7
          have HL := hid hl; clear hl
          refine wpOpS_step rfl (fun K hK => ?_)
          simp only [i4, selV_t]
          go_simp
          refine hK _ _ ⟨by simpa using HL.out, hcl.step HL.out (by decide) ?_, qq, gg, cp, ?_, ?_, ?_, ?_, ?_, ?_⟩
          · show ∀ d ∈ [0], _; simp only [List.mem_singleton]; rintro d rfl; exact i4
          · simp only [gsetN la 1 _ HL.out (by decide), i4]; rfl
          · intro e3; rw [gsetN la 1 3 HL.out (by decide), if_neg (by decide)] at e3; exact hs0 e3
          · intro e3 e4; rw [gsetN la 1 3 HL.out (by decide), if_neg (by decide)] at e3; rw [gsetN la 1 4 HL.out (by decide), if_neg (by decide)] at e4; exact hs1 e3 e4
          · intro e4 e5; rw [gsetN la 1 4 HL.out (by decide), if_neg (by decide)] at e4; rw [gsetN la 1 5 HL.out (by decide), if_neg (by decide)] at e5; exact hs2 e4 e5
          · intro e5 e7; rw [gsetN la 1 5 HL.out (by decide), if_neg (by decide)] at e5; rw [gsetN la 1 7 HL.out (by decide), if_neg (by decide)] at e7; exact hs3 e5 e7
          · intro e7; rw [gsetN la 1 7 HL.out (by decide), if_neg (by decide)] at e7; exact hs4 e7
        · have b3 : bitA la 3 = false := by cases e : bitA la 3 with | false => rfl | true => exact absurd (hcl 3 e 2 (by decide)) (by rw [i2]; simp)
          have b4 : bitA la 4 = false := by cases e : bitA la 4 with | false => rfl | true => exact absurd (hcl 3 (hcl 4 e 3 (by decide)) 2 (by decide)) (by rw [i2]; simp)
          have b5 : bitA la 5 = false := by cases e : bitA la 5 with | false => rfl | true => exact absurd (hcl 3 (hcl 5 e 3 (by decide)) 2 (by decide)) (by rw [i2]; simp)
          have b7 : bitA la 7 = false := by cases e : bitA la 7 with | false => rfl | true => exact absurd (hcl 7 e 2 (by decide)) (by rw [i2]; simp)
          have e0 := hs0 b3
          subst e0
          have HL := hid hl; clear hl
          have Hb3 := hid b3; clear b3
          have Hb4 := hid b4; clear b4
          have Hb5 := hid b5; clear b5
          have Hb7 := hid b7; clear b7
          refine wpOpS_step rfl (fun K hK => ?_)
          go_simp
          refine hK _ _ ⟨by simpa using HL.out, hcl.step HL.out (by decide) ?_, qq, gg, cp, ?_, ?_, ?_, ?_, ?_, ?_⟩
          · intro d hd; cases hd
          · simp only [gsetN la 2 _ HL.out (by decide)]; rfl
          · intro _; rfl
          · intro e; rw [gsetN la 2 3 HL.out (by decide), if_neg (by decide), Hb3.out] at e; cases e
          · intro e; rw [gsetN la 2 4 HL.out (by decide), if_neg (by decide), Hb4.out] at e; cases e
          · intro e; rw [gsetN la 2 5 HL.out (by decide), if_neg (by decide), Hb5.out] at e; cases e
          · intro e; rw [gsetN la 2 7 HL.out (by decide), if_neg (by decide), Hb7.out] at e; cases e
        · have i4 : bitA la 2 = true := by simpa [Region.binds, bitA] using i3
          have b3 : bitA la 3 = false := i2
          have b4 : bitA la 4 = false := by cases e : bitA la 4 with | false => rfl | true => exact absurd (hcl 4 e 3 (by decide)) (by rw [i2]; simp)
          have b5 : bitA la 5 = false := by cases e : bitA la 5 with | false => rfl | true => exact absurd (hcl 5 e 3 (by decide)) (by rw [i2]; simp)
          have b7 : bitA la 7 = false := by cases e : bitA la 7 with | false => rfl | true => exact absurd (hcl 7 e 3 (by decide)) (by rw [i2]; simp)
          have e0 := hs0 b3
          subst e0
          have HL := hid hl; clear hl
          have Hb3 := hid b3; clear b3
          have Hb4 := hid b4; clear b4
          have Hb5 := hid b5; clear b5
          have Hb7 := hid b7; clear b7
          refine wpOpS_step rfl (fun K hK => ?_)
          simp only [i4, selV_t]
          go_simp
          go_at_call 80
          refine (hClo.out _).mono ?_
          rintro e wy ⟨rfl, hby⟩
          refine hK _ _ ⟨by simpa using HL.out, hcl.step HL.out (by decide) ?_, qq, gg, cp, ?_, ?_, ?_, ?_, ?_, ?_⟩
          · show ∀ d ∈ [2], _; simp only [List.mem_singleton]; rintro d rfl; exact i4
          · simp only [gsetN la 3 _ HL.out (by decide), i4]; rfl
          · intro e3; rw [gsetN la 3 3 HL.out (by decide), if_pos rfl] at e3; cases e3
          · intro _ _; exact hby
          · intro e; rw [gsetN la 3 4 HL.out (by decide), if_neg (by decide), Hb4.out] at e; cases e
          · intro e; rw [gsetN la 3 5 HL.out (by decide), if_neg (by decide), Hb5.out] at e; cases e
          · intro e; rw [gsetN la 3 7 HL.out (by decide), if_neg (by decide), Hb7.out] at e; cases e
        · have i4 : bitA la 3 = true := by simpa [Region.binds, bitA] using i3
          have b4 : bitA la 4 = false := i2
          have b5 : bitA la 5 = false := by cases e : bitA la 5 with | false => rfl | true => exact absurd (hcl 5 e 4 (by decide)) (by rw [i2]; simp)
          have b7 : bitA la 7 = false := by cases e : bitA la 7 with | false => rfl | true => exact absurd (hcl 7 e 4 (by decide)) (by rw [i2]; simp)
          have e0 := hs1 i4 b4
          have HL := hid hl; clear hl
          have Hb4 := hid b4; clear b4
          have Hb5 := hid b5; clear b5
          have Hb7 := hid b7; clear b7
          refine wpOpS_step rfl (fun K hK => ?_)
          simp only [i4, selV_t]
          go_simp
          refine hK _ _ ⟨by simpa using HL.out, hcl.step HL.out (by decide) ?_, wx.heap.size, gg, cp, ?_, ?_, ?_, ?_, ?_, ?_⟩
          · show ∀ d ∈ [3], _; simp only [List.mem_singleton]; rintro d rfl; exact i4
          · simp only [gsetN la 4 _ HL.out (by decide), i4, Hb4.out]; rfl
          · intro e3; rw [gsetN la 4 3 HL.out (by decide), if_neg (by decide), i4] at e3; cases e3
          · intro e3 e4; rw [gsetN la 4 4 HL.out (by decide), if_pos rfl] at e4; cases e4
          · intro _ _; exact ⟨wx, e0, rfl, rfl⟩
          · intro e; rw [gsetN la 4 5 HL.out (by decide), if_neg (by decide), Hb5.out] at e; cases e
          · intro e; rw [gsetN la 4 7 HL.out (by decide), if_neg (by decide), Hb7.out] at e; cases e
        · have j1 : bitA la 1 = true := dep_at i3 rfl (j := 0) rfl rfl
          have j4 : bitA la 4 = true := dep_at i3 rfl (j := 1) rfl rfl
          have j3 : bitA la 3 = true := dep_at i3 rfl (j := 2) rfl rfl
          have b5 : bitA la 5 = false := i2
          have b7 : bitA la 7 = false := by cases e : bitA la 7 with | false => rfl | true => exact absurd (hcl 7 e 5 (by decide)) (by rw [i2]; simp)
          have e0 := hs2 j4 b5
          obtain ⟨wy, hby, rfl, rfl⟩ := e0
          have hown5 := (row_below H3.out (Below.next hby (below_alloc wy (.cells #[.string xt] 9))))
          have hzy : w.heap.size ≤ wy.heap.size := by have := hby.size; omega
          have HL := hid hl; clear hl
          have Hb5 := hid b5; clear b5
          have Hb7 := hid b7; clear b7
          refine wpOpS_step rfl (fun K hK => ?_)
          simp only [j1, j4, selV_t]
          refine wanted_if rfl ?_
          refine wp_append_lies _ _ _ _ (by rfl) w.heap.size 9 i0 (.string ⟨#[]⟩) 1 16 Tryz.underlying94 hi0 hy0 hy1 hy2 rfl (by omega) _ pre.length (pre.map fun x => Value.string x.2) (by rfl) hown5 ⟨wy.heap.size, 0, none⟩ 1 1 [.string xt] (by rfl) (by rfl) (World.news_of_block (cs := #[.string xt]) (t := 9) (fr := (0, 0)) (heap_alloc_new wy _)) (by simp [Value.oneCell']) (by omega) (by unfold maxLen; omega) (by omega) (by simp; omega) (wy.heap.size + 1) (by simp) ?_
          intro g' cp' wv hown' hg' hat' hlt'
          refine hK _ _ ⟨by simpa using HL.out, hcl.step HL.out (by decide) ?_, wy.heap.size, g', cp', ?_, ?_, ?_, ?_, ?_, ?_⟩
          · show ∀ d ∈ [1, 4, 3], _; simp only [List.mem_cons, List.not_mem_nil, or_false]; rintro d (rfl | rfl | rfl) <;> first | exact j1 | exact j4 | exact j3
          · simp only [gsetN la 5 _ HL.out (by decide), j1, j4, j3, Hb5.out]; rfl
          · intro e3; rw [gsetN la 5 3 HL.out (by decide), if_neg (by decide), j3] at e3; cases e3
          · intro e3 e4; rw [gsetN la 5 4 HL.out (by decide), if_neg (by decide), j4] at e4; cases e4
          · intro e4 e5; rw [gsetN la 5 5 HL.out (by decide), if_pos rfl] at e5; cases e5
          · intro _ _; exact ⟨wy, hby, hown', hg', hat'⟩
          · intro e; rw [gsetN la 5 7 HL.out (by decide), if_neg (by decide), Hb7.out] at e; cases e
        · have j0 : bitA la 0 = true := dep_at i3 rfl (j := 0) rfl rfl
          have j1 : bitA la 1 = true := dep_at i3 rfl (j := 1) rfl rfl
          have j2 : bitA la 2 = true := dep_at i3 rfl (j := 2) rfl rfl
          have j3 : bitA la 3 = true := dep_at i3 rfl (j := 3) rfl rfl
          have j4 : bitA la 4 = true := dep_at i3 rfl (j := 4) rfl rfl
          have j5 : bitA la 5 = true := dep_at i3 rfl (j := 5) rfl rfl
          have b7 : bitA la 7 = false := by cases e : bitA la 7 with | false => rfl | true => exact absurd (hcl 7 e 6 (by decide)) (by rw [i2]; simp)
          clear b7
          have HL := hid hl; clear hl
          refine wpOpS_step rfl (fun K hK => ?_)
          go_simp
          refine hK _ _ ⟨by simpa using HL.out, hcl.step HL.out (by decide) ?_, qq, gg, cp, ?_, ?_, ?_, ?_, ?_, ?_⟩
          · show ∀ d ∈ [0, 1, 2, 3, 4, 5], _; simp only [List.mem_cons, List.not_mem_nil, or_false]; rintro d (rfl | rfl | rfl | rfl | rfl | rfl) <;> first | exact j0 | exact j1 | exact j2 | exact j3 | exact j4 | exact j5
          · simp only [gsetN la 6 _ HL.out (by decide), j0, j1, j2, j3, j4, j5]; rfl
          · intro e3; rw [gsetN la 6 3 HL.out (by decide), if_neg (by decide)] at e3; exact hs0 e3
          · intro e3 e4; rw [gsetN la 6 3 HL.out (by decide), if_neg (by decide)] at e3; rw [gsetN la 6 4 HL.out (by decide), if_neg (by decide)] at e4; exact hs1 e3 e4
          · intro e4 e5; rw [gsetN la 6 4 HL.out (by decide), if_neg (by decide)] at e4; rw [gsetN la 6 5 HL.out (by decide), if_neg (by decide)] at e5; exact hs2 e4 e5
          · intro e5 e7; rw [gsetN la 6 5 HL.out (by decide), if_neg (by decide)] at e5; rw [gsetN la 6 7 HL.out (by decide), if_neg (by decide)] at e7; exact hs3 e5 e7
          · intro e7; rw [gsetN la 6 7 HL.out (by decide), if_neg (by decide)] at e7; exact hs4 e7
        · have j6 : bitA la 6 = true := dep_at i3 rfl (j := 0) rfl rfl
          have j5 : bitA la 5 = true := dep_at i3 rfl (j := 1) rfl rfl
          have j0 : bitA la 0 = true := dep_at i3 rfl (j := 3) rfl rfl
          have j1 : bitA la 1 = true := dep_at i3 rfl (j := 4) rfl rfl
          have j2 : bitA la 2 = true := dep_at i3 rfl (j := 5) rfl rfl
          have j3 : bitA la 3 = true := dep_at i3 rfl (j := 6) rfl rfl
          have j4 : bitA la 4 = true := dep_at i3 rfl (j := 7) rfl rfl
          have b7 : bitA la 7 = false := i2
          have e0 := hs3 j5 b7
          obtain ⟨wy, hby, hown, hg, hat⟩ := e0
          have hfi := hid (Hst.out wy wx gg cp hby hown hg hat)
          obtain ⟨c3, f3, z3⟩ := Hc3.out wy wx hby hg
          clear hby hown hg hat
          have HL := hid hl; clear hl
          have Hb7 := hid b7; clear b7
          refine wpOpS_step rfl (fun K hK => ?_)
          simp only [j6, j5, selV_t]
          go_simp
          refine hK _ _ ⟨by simpa using HL.out, hcl.step HL.out (by decide) ?_, qq, gg, cp, ?_, ?_, ?_, ?_, ?_, ?_⟩
          · show ∀ d ∈ [6, 5, 0, 1, 2, 3, 4], _; simp only [List.mem_cons, List.not_mem_nil, or_false]; rintro d (rfl | rfl | rfl | rfl | rfl | rfl | rfl) <;> first | exact j6 | exact j5 | exact j0 | exact j1 | exact j2 | exact j3 | exact j4
          · simp only [gsetN la 7 _ HL.out (by decide), j6, j5, j0, j1, j2, j3, j4]; rfl
          · intro e3; rw [gsetN la 7 3 HL.out (by decide), if_neg (by decide), j3] at e3; cases e3
          · intro e3 e4; rw [gsetN la 7 4 HL.out (by decide), if_neg (by decide), j4] at e4; cases e4
          · intro e4 e5; rw [gsetN la 7 5 HL.out (by decide), if_neg (by decide), j5] at e5; cases e5
          · intro e5 e7; rw [gsetN la 7 7 HL.out (by decide), if_pos rfl] at e7; cases e7
          · intro _; exact hfi.out
      case refine_2 =>
        rintro la a wx ⟨hl, hcl, qq, gg, cp, rfl, hs0, hs1, hs2, hs3, hs4⟩ hr
        have n0 : bitA la 0 = true := by
          rw [goppN hl (by omega)]
          exact noneN hr (i := 0) (by decide) (by simp [Region.binds])
        have m0 : la[0]?.getD false = true := by simpa [bitA] using n0
        have n1 : bitA la 1 = true := by
          rw [goppN hl (by omega)]
          exact noneN hr (i := 1) (by decide) (by simp [Region.binds, m0])
        have m1 : la[1]?.getD false = true := by simpa [bitA] using n1
        have n2 : bitA la 2 = true := by
          rw [goppN hl (by omega)]
          exact noneN hr (i := 2) (by decide) (by simp [Region.binds])
        have m2 : la[2]?.getD false = true := by simpa [bitA] using n2
        have n3 : bitA la 3 = true := by
          rw [goppN hl (by omega)]
          exact noneN hr (i := 3) (by decide) (by simp [Region.binds, m2])
        have m3 : la[3]?.getD false = true := by simpa [bitA] using n3
        have n4 : bitA la 4 = true := by
          rw [goppN hl (by omega)]
          exact noneN hr (i := 4) (by decide) (by simp [Region.binds, m3])
        have m4 : la[4]?.getD false = true := by simpa [bitA] using n4
        have n5 : bitA la 5 = true := by
          rw [goppN hl (by omega)]
          exact noneN hr (i := 5) (by decide) (by simp [Region.binds, m1, m4, m3])
        have m5 : la[5]?.getD false = true := by simpa [bitA] using n5
        have n6 : bitA la 6 = true := by
          rw [goppN hl (by omega)]
          exact noneN hr (i := 6) (by decide) (by simp [Region.binds, m0, m1, m2, m3, m4, m5])
        have m6 : la[6]?.getD false = true := by simpa [bitA] using n6
        have n7 : bitA la 7 = true := by
          rw [goppN hl (by omega)]
          exact noneN hr (i := 7) (by decide) (by simp [Region.binds, m6, m5, m0, m1, m2, m3, m4])
        have m7 : la[7]?.getD false = true := by simpa [bitA] using n7
        have hfin := hs4 n7
        simp only [n0, n1, n2, n3, n4, n5, n6, selV_t]
        clear n0 m0 n1 m1 n2 m2 n3 m3 n4 m4 n5 m5 n6 m6 n7 m7 hr hcl hs0 hs1 hs2 hs3 hs4
        exact ⟨hfin.k, hfin.d, hfin.b⟩
    case done =>
      rintro D2 xs W' hD hS ⟨hi, _⟩ hK
      subst hS
      obtain ⟨a1, e1, a2, e2, a3, e3, ua, uc, h1, h2, h3⟩ := hi.r
      rw [upto_rows L (Nat.le_refl _), List.take_length] at h3
      rw [upto_length] at h1 h3
      obtain ⟨⟨q0, q1, q2, q3, q4⟩, _, qz⟩ := cel_cells h1
      obtain ⟨⟨x0, x1, x2, x3, x4⟩, ⟨y0, y1, y2, y3, y4⟩, xz⟩ := cel_cells hi.x
      have HF := hid (dump_fin hi h1 h2 h3 hK (by omega))
      clear hi h1 h2 h3 hK
      go_wp2
      obtain ⟨m9, q9, r9, b9⟩ := HF.out
      exact ⟨by simp, .inl ⟨_, _, rfl, run_takeDeferred m9, _, ret_dmp Tryz.results39 (by rfl) q9, ⟨_, _, _, _, _, _, _, _, rfl, r9⟩, b9⟩⟩
    case stop =>
      rintro D2 c pre W' _ h _
      exact h.elim
section
variable {w : World} {B hb ab tb : Nat} {m : Int} {av : Value} {l : List Int} {tv : Value} {tq : Nat} {ns : List ByteArray} {trv : Value} {tr : List Te} {ptv : Value} {pt : List Pe} {n : Int}
theorem dump_hq (h : Hq w B hb ab tb m av l tv tq ns trv tr ptv pt n) (ht : tr.length ≤ 100000) (hp : pt.length ≤ 100000) :
    Calls Tryz.prog 39 #[.pointer (some ⟨hb, 0, none⟩)] w fun e w' => (∃ a1 c1 a2 c2 a3 c3 ua uc, e = .returned (.agg #[.slice a1 l.length c1, .slice a2 tr.length c2, .slice a3 pt.length c3, .slice ua ns.length uc, .slice none 0 0]) ∧ Dr w.heap.size (.slice a1 l.length c1) l.length (l.map (Value.int .u64)) (.slice a2 tr.length c2) tr.length (svC tr) (.slice a3 pt.length c3) pt.length (mkC pt) w' ∧ w'.ownsRow w.heap.size 9 1 (.slice ua ns.length uc) ns.length (ns.map Value.string)) ∧ Below w.heap.size w w' := by
  have hself : ∀ (trv' ptv' : Value), trv = trv' → ptv = ptv' → ∀ w1, Below w.heap.size w w1 → Calls Tryz.prog 28 #[.pointer (some ⟨hb, 0, none⟩)] w1 fun e w' => ∃ hb', e = .returned (.pointer (some ⟨hb', 0, none⟩)) ∧ w'.heap[hb']? = some (hpO (some ⟨ab, 0, none⟩) (some ⟨tb, 0, none⟩) trv' ptv' n) ∧ Below w1.heap.size w1 w' := fun trv' ptv' e1 e2 w1 hb1 => (self_some hb w1).mono fun e w' ⟨e3, e4⟩ => ⟨hb, e3, by rw [e4, ← e1, ← e2]; exact (h.below hb1).hp.blk, by rw [e4]; exact Below.refl _ _⟩
  have hwd : ∀ w1, Below w.heap.size w w1 → Calls Tryz.prog 76 #[.pointer (some ⟨ab, 0, none⟩)] w1 fun e w' => ∃ ao c, e = .returned (.slice ao l.length c) ∧ w'.ownsRow w.heap.size 123 1 (.slice ao l.length c) l.length (l.map (Value.int .u64)) ∧ Below w1.heap.size w1 w' := fun w1 hb1 => (words_any (h.below hb1).hp.ar).mono fun e w' ⟨e3, e4, e5⟩ => ⟨_, _, e3, own_base e4 hb1.size, e5⟩
  obtain ⟨ta, tc, e1, _⟩ := own_slq h.tr
  obtain ⟨pa, pc, e2, _⟩ := own_slq h.pt
  have hc2 : ∀ w1, Below w.heap.size w w1 → Calls Tryz.prog 77 #[.slice ta tr.length tc] w1 fun e w' => ∃ ao c, e = .returned (.slice ao tr.length c) ∧ w'.ownsRow w.heap.size 149 2 (.slice ao tr.length c) tr.length (svC tr) ∧ Below w1.heap.size w1 w' := fun w1 hb1 => by
    rw [← e1]
    exact (svclone_any (h.below hb1).tr (svC_one tr) ht).mono fun e w' ⟨ao, c, e3, e4, e5⟩ => ⟨ao, c, e3, own_base e4 hb1.size, e5⟩
  have hc3 : ∀ w1, Below w.heap.size w w1 → Calls Tryz.prog 78 #[.slice pa pt.length pc] w1 fun e w' => ∃ ao c, e = .returned (.slice ao pt.length c) ∧ w'.ownsRow w.heap.size 145 3 (.slice ao pt.length c) pt.length (mkC pt) ∧ Below w1.heap.size w1 w' := fun w1 hb1 => by
    rw [← e2]
    exact (mkclone_any (h.below hb1).pt (mkC_one pt) hp).mono fun e w' ⟨ao, c, e3, e4, e5⟩ => ⟨ao, c, e3, own_base e4 hb1.size, e5⟩
  have hrs := h.hp.tb.own
  rcases hrs.2 with ⟨e3, e4⟩ | ⟨g, cap, cur, e3, _⟩
  · have e5 : ns = [] := List.eq_nil_of_length_eq_zero e4
    subst e5
    exact dump_none _ _ _ none 0 ta tr.length tc pa pt.length pc n _ _ _ _ _ _ w (hself _ _ e1 e2) hwd hc2 hc3 (fun w1 hb1 => by
      have := n_all_any (h.below hb1).hp.tb
      rw [e3] at this
      exact this)
  · by_cases e5 : ns = []
    · subst e5
      exact dump_none _ _ _ _ _ ta tr.length tc pa pt.length pc n _ _ _ _ _ _ w (hself _ _ e1 e2) hwd hc2 hc3 (fun w1 hb1 => by
        have := n_all_any (h.below hb1).hp.tb
        rw [e3] at this
        exact this)
    · rw [e3] at hrs
      refine dump_some _ _ _ g 0 cap ns e5 h.hp.tb.len (fun s hs => ?_) ta tr.length tc pa pt.length pc n _ _ _ _ _ _ w (hrs.lt g rfl).2 (fun j hj => ?_) (hself _ _ e1 e2) hwd hc2 hc3 (fun w1 hb1 => by
        have := n_all_any (h.below hb1).hp.tb
        rw [e3] at this
        exact this)
      · have := n_goodS_size (h.hp.tb.good s hs)
        omega
      · rw [Nat.zero_add, hrs.cellAt j (by simpa using hj)]
        simp [hj, List.getD]
end
end Go.Proofs.YtlibjdilicfcdaaGreatDoor

namespace Go.Proofs.YtlibjdilicfcdaaGreatDoor
set_option maxRecDepth 100000
open Go.RowKit
def hs0 : Hst := ⟨[], [], [], [], 0⟩
theorem sndN_nil (N : Nat) : SndN [] N := ⟨⟨fun _ => false, ⟨fun k hk => absurd hk (Nat.not_lt_zero _), fun x hx => (by cases hx), fun k hk => absurd hk (Nat.not_lt_zero _), fun k hk => absurd hk (Nat.not_lt_zero _), fun k hk => absurd hk (Nat.not_lt_zero _), fun k hk => absurd hk (Nat.not_lt_zero _), fun k hk => absurd hk (Nat.not_lt_zero _)⟩⟩, ⟨fun k hk => absurd hk (Nat.not_lt_zero _), fun k hk => absurd hk (Nat.not_lt_zero _)⟩⟩
theorem sj0 : Sj hs0 0 := ⟨⟨sndN_nil _, fun e he => (by cases he), fun p hp => (by cases hp), fun p hp => (by cases hp), fun p hp => (by cases hp), List.Pairwise.nil⟩, Int.le_refl _, Int.le_refl _, Nat.le_refl _, Nat.le_refl _⟩
end Go.Proofs.YtlibjdilicfcdaaGreatDoor

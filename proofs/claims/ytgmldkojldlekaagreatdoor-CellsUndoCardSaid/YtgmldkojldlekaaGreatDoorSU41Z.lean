/- The law's long: is a script too long to be asked? Its fresh: a heap of 400 words. -/
import Derived.Test.YtgmldkojldlekaaGreatDoorSU06Z
import Derived.Test.YtgmldkojldlekaaGreatDoorSU09Z
import Derived.Test.YtgmldkojldlekaaGreatDoorSU19Z
import Derived.Test.YtgmldkojldlekaaGreatDoorSU39Z
import Derived.Test.YtgmldkojldlekaaGreatDoorSU40Z
import Derived.Test.YtgmldkojldlekaaGreatDoorSU33Z
import Derived.Test.YtgmldkojldlekaaGreatDoorSU12Z
namespace Go.Proofs.YtgmldkojldlekaaGreatDoor
open Go.RowKit
def longB (os : List Opd) : Bool := decide (60 < os.length) || os.any (fun o => !smallK 40 o.g)
theorem longB_no {os : List Opd} (h : longB os = false) : os.length ≤ 60 ∧ ∀ j, j < os.length → smallK 40 (os.getD j od0).g = true := by
  unfold longB at h
  rw [Bool.or_eq_false_iff] at h
  refine ⟨by have := of_decide_eq_false h.1; omega, fun j hj => ?_⟩
  have h2 := List.any_eq_false.1 h.2 (os.getD j od0) (by simp [List.getD, hj])
  simpa using h2
theorem longB_yes {os : List Opd} {j : Nat} (hj : j < os.length) (h : smallK 40 (os.getD j od0).g = false) : longB os = true := by
  unfold longB
  rw [Bool.or_eq_true]
  exact Or.inr (List.any_eq_true.2 ⟨os.getD j od0, by simp [List.getD, hj], by show (!smallK 40 (os.getD j od0).g) = true; rw [h]; rfl⟩)
theorem longB_end {os : List Opd} (hl : os.length ≤ 60) (h : ∀ j, j < os.length → smallK 40 (os.getD j od0).g = true) : longB os = false := by
  unfold longB
  rw [Bool.or_eq_false_iff]
  refine ⟨decide_eq_false (by omega), List.any_eq_false.2 (fun o ho => ?_)⟩
  obtain ⟨j, hj, e⟩ := List.getElem_of_mem ho
  have := h j hj
  rw [show os.getD j od0 = o by simp [List.getD, hj, e]] at this
  simp [this]
set_option maxRecDepth 100000 in
set_option maxHeartbeats 4000000 in
theorem long_any {w : World} {v : Value} {os : List Opd} (hR : Rop w v os) :
    Calls Tryz.prog 7 #[v] w fun e w' => e = .returned (.bool (longB os)) ∧ Below w.heap.size w w' := by
  obtain ⟨ao, c, rfl, hc⟩ := hR
  by_cases hl : 60 < os.length
  · have hb : longB os = true := by unfold longB; rw [decide_eq_true hl]; rfl
    rw [hb]
    have hli : (60 : Int) < (os.length : Int) := by omega
    go_enter Tryz.func7, Tryz.ntmps7
    go_wp2
    go_ret
    exact ⟨rfl, Below.refl _ _⟩
  · have hli : ¬ (60 : Int) < (os.length : Int) := by omega
    obtain ⟨bl, hbl⟩ : ∃ bl, bl = longB os := ⟨_, rfl⟩
    rw [← hbl]
    replace hbl := hid hbl
    go_enter Tryz.func7, Tryz.ntmps7
    go_wp2
    go_loopw [10] (fun i wr => ∃ k : Nat, k ≤ os.length ∧ i = .int .i64 (k : Int) ∧ Hid (Below w.heap.size w wr ∧ ∀ j, j < k → smallK 40 (os.getD j od0).g = true)) (fun i _ => os.length - (intOf i).toNat)
    case atStart => exact ⟨0, Nat.zero_le _, rfl, Below.refl _ _, fun j hj => absurd hj (Nat.not_lt_zero _)⟩
    case round =>
      obtain ⟨k, hk, rfl, hS⟩ := hrel
      by_cases hlt : k < os.length
      · have hki : (k : Int) < (os.length : Int) := by omega
        obtain ⟨b, o, nv, rv, rfl, hat⟩ := hc k hlt
        obtain ⟨c0, c1, c2, c3, c4, hG, hZ⟩ := hat.below hS.out.1
        have hsm := hid (fun w1 (hb1 : Below wr.heap.size wr w1) => smallK_any (K := 40) (by decide) (hG.below hb1))
        obtain ⟨na, nc, rfl, _⟩ := hG.1
        obtain ⟨ra, rc, rfl, _⟩ := hG.2
        have hb0 := hid (below_alloc wr (.cells #[.int .i64 (os.getD k od0).kd, .slice na (os.getD k od0).g.nodes.length nc, .slice ra (os.getD k od0).g.roots.length rc, .int .i64 (os.getD k od0).a, .int .i64 (os.getD k od0).b] 32))
        have Hy := hid (longB_yes hlt)
        generalize hod : os.getD k od0 = od at *
        have hod' := hid hod
        clear hod hc hG hat
        cases hsk : smallK 40 od.g with
        | true =>
          rw [hsk] at hsm
          go_wp2_with (go_at_call 27; refine (hsm.out _ hb0.out).mono ?_; rintro e w2 ⟨rfl, hb2⟩; have Hb2 := hid (Below.next hb0.out hb2); clear hb2)
          go_roundw
          case rel => exact ⟨k + 1, by omega, congrArg (Value.int .i64) (by omega), Below.next hS.out.1 Hb2.out, fun j hj => by
            rcases Nat.lt_or_ge j k with h1 | h1
            · exact hS.out.2 j h1
            · have e : j = k := by omega
              rw [e, hod'.out]
              exact hsk⟩
          case measure => simp [intOf]; omega
        | false =>
          rw [hsk] at hsm
          have hy := hid (Hy.out (by exact hsk))
          go_wp2_with (go_at_call 27; refine (hsm.out _ hb0.out).mono ?_; rintro e w2 ⟨rfl, hb2⟩; have Hb2 := hid (Below.next hb0.out hb2); clear hb2)
          go_ret
          exact ⟨congrArg (fun b => Ending.returned (.bool b)) (hy.out.symm.trans hbl.out.symm), Below.next hS.out.1 Hb2.out⟩
      · obtain rfl : k = os.length := by omega
        have hend := hid (longB_end (by omega) hS.out.2)
        go_wp2
        go_ret
        exact ⟨congrArg (fun b => Ending.returned (.bool b)) (hend.out.symm.trans hbl.out.symm), hS.out.1⟩
def hs0 : Hst := ⟨[], [], [], [], 0⟩
theorem sndN_nil (N : Nat) : SndN [] N := ⟨⟨fun _ => false, ⟨fun k hk => absurd hk (Nat.not_lt_zero _), fun x hx => (by cases hx), fun k hk => absurd hk (Nat.not_lt_zero _), fun k hk => absurd hk (Nat.not_lt_zero _), fun k hk => absurd hk (Nat.not_lt_zero _), fun k hk => absurd hk (Nat.not_lt_zero _), fun k hk => absurd hk (Nat.not_lt_zero _)⟩⟩, ⟨fun k hk => absurd hk (Nat.not_lt_zero _), fun k hk => absurd hk (Nat.not_lt_zero _)⟩⟩
theorem sj0 : Sj hs0 0 := ⟨⟨sndN_nil _, fun e he => (by cases he), fun p hp => (by cases hp), fun p hp => (by cases hp), fun p hp => (by cases hp), List.Pairwise.nil⟩, Int.le_refl _, Int.le_refl _, Nat.le_refl _, Nat.le_refl _⟩
set_option maxRecDepth 100000 in
set_option maxHeartbeats 1000000 in
theorem freshH_any (w : World) :
    Calls Tryz.prog 5 #[] w fun e w' => (∃ hb, e = .returned (.pointer (some ⟨hb, 0, none⟩)) ∧ Hs w' w.heap.size hb 400 (fun k => w.heap.size ≤ k) hs0) ∧ Below w.heap.size w w' := by
  have hnw := hid (hnew_ok 400 w w.heap.size (Nat.le_refl _) (by decide) (by decide))
  go_enter Tryz.func5, Tryz.ntmps5
  go_wp2_with (go_at_call 20; refine hnw.out.mono ?_; rintro e w1 ⟨⟨hb, ab, tb, tq, rfl, hH, z1, z2, z3, z4⟩, hb1⟩; have HH := hid hH; have Hb1 := hid hb1; clear hH hb1)
  go_ret
  refine ⟨⟨hb, rfl, ab, tb, .slice none 0 0, .slice none 0 0, tq, .slice none 0 0, .slice none 0 0, ⟨HH.out, World.ownsRow_nil _ _ _ _, World.ownsRow_nil _ _ _ _⟩, fun k hk => ?_⟩, Hb1.out⟩
  rcases mem_qfoot.1 hk with rfl | hk | hk | hk
  · exact z1
  · rcases a_mem_foot.1 hk with rfl | hk
    · exact z2
    · simp [Value.ownBlock] at hk
  · simp [Value.ownBlock] at hk
  · simp [Value.ownBlock] at hk
end Go.Proofs.YtgmldkojldlekaaGreatDoor

namespace Go.Proofs.YtgmldkojldlekaaGreatDoor
open Go.RowKit
theorem Hs.tight {w : World} {B hb : Nat} {m : Int} {F : Nat → Prop} {s : Hst} (h : Hs w B hb m F s) : Hs w B hb m (fun k => F k ∧ k < w.heap.size) s := by
  obtain ⟨ab, tb, av, tv, tq, trv, ptv, hq, hf⟩ := h
  refine ⟨ab, tb, av, tv, tq, trv, ptv, hq, fun k hk => ⟨hf k hk, ?_⟩⟩
  rcases mem_qfoot.1 hk with rfl | hk | hk | hk
  · exact lt_of_block hq.hp.blk
  · rcases a_mem_foot.1 hk with rfl | hk
    · exact hq.hp.ar.lt
    · exact (hq.hp.ar.row hk).2.1
  · exact (hq.tr.lt k hk).2
  · exact (hq.pt.lt k hk).2
set_option maxRecDepth 100000 in
set_option maxHeartbeats 800000 in
theorem hpoints_any {w : World} {B hb : Nat} {m : Int} {F : Nat → Prop} {s : Hst} (h : Hs w B hb m F s) :
    Calls Tryz.prog 12 #[.pointer (some ⟨hb, 0, none⟩)] w fun e w' => e = .returned (.int .i64 (s.pt.length : Int)) ∧ w' = w := by
  obtain ⟨ab, tb, av, tv, tq, trv, ptv, hq, hf⟩ := h
  obtain ⟨⟨c0, c1, c2, c3, c4⟩, c5⟩ := hq.hp.cells
  obtain ⟨po, pc, rfl, _⟩ := own_slq hq.pt
  clear hq hf
  go_enter Tryz.func12, Tryz.ntmps12
  go_wp2_with (go_at_call 31; refine (self_some _ _).mono ?_; rintro e w2 ⟨rfl, hw⟩; replace hw := hw.symm; subst hw)
  go_ret
  exact ⟨rfl, rfl⟩
structure Ua1 (W w : World) (hb : Nat) (s : Hst) (k : Nat) : Prop where
  b : Below W.heap.size W w
  h : Hs w W.heap.size hb 400 (fun q => W.heap.size ≤ q) s
  j : Sj s k
theorem Ua1.next {W w w' : World} {hb : Nat} {s : Hst} {k : Nat} (h : Ua1 W w hb s k) (hb' : Below w.heap.size w w') : Ua1 W w' hb s k := ⟨Below.next h.b hb', h.h.below hb', h.j⟩
theorem Ua1.play {W w : World} {hb : Nat} {s : Hst} {k : Nat} (hE : ErrC W) (h : Ua1 W w hb s k) (hk : k ≤ 1000) {nv rv : Value} {g : Gf} (hG : Gr W nv rv g) (hS : Sized g) (kd a b : Int) :
    Calls Tryz.prog 8 #[.pointer (some ⟨hb, 0, none⟩), opV kd nv rv a b] w fun e w' => e = .returned (.tuple #[]) ∧ ∃ s', Ua1 W w' hb s' (k + 1) := by
  refine (play_any ⟨hE.below h.b, h.h, h.b.size, fun _ hq => hq, h.j, hk, h.b, Nat.le_refl _, hG, hS⟩ kd a b).mono ?_
  rintro e w' ⟨rfl, s', h1, h2, h3⟩
  refine ⟨rfl, s', Below.trans h.b (h3.below (fun _ hq => hq) h.b.size), h2.weak (fun q hq => ?_), h1.sj h.j⟩
  rcases hq with hq | hq
  · exact hq
  · have := h.b.size
    omega
def F2 (n0 n5 n7 q : Nat) : Prop := (n0 ≤ q ∧ q < n5) ∨ n7 ≤ q
structure Ua2 (W w7 w : World) (n5 hb : Nat) (s : Hst) (k i : Nat) (p : Pe) (A : List Int) (T : List Te) : Prop where
  b : Below W.heap.size W w
  h : Hs w W.heap.size hb 400 (F2 W.heap.size n5 w7.heap.size) s
  j : Sj s k
  m : Mo (F2 W.heap.size n5 w7.heap.size) w7 w
  v : Sees i p A T s
  z : W.heap.size ≤ w7.heap.size
section
variable {W w7 w w' : World} {n5 hb : Nat} {s : Hst} {k i : Nat} {p : Pe} {A : List Int} {T : List Te}
theorem Ua2.next (h : Ua2 W w7 w n5 hb s k i p A T) (hb' : Below w.heap.size w w') : Ua2 W w7 w' n5 hb s k i p A T := ⟨Below.next h.b hb', h.h.below hb', h.j, h.m.trans (Mo.ofBelow (S := fun _ => False) hb') (fun _ hx => hx.elim), h.v, h.z⟩
theorem Ua2.more {k' : Nat} (h : Ua2 W w7 w n5 hb s k i p A T) (hk : k ≤ k') : Ua2 W w7 w n5 hb s k' i p A T := ⟨h.b, h.h, h.j.more hk, h.m, h.v, h.z⟩
theorem f2_lo {n0 n5 n7 : Nat} (hz : n0 ≤ n7) : ∀ q, F2 n0 n5 n7 q → n0 ≤ q := fun q hq => by
  rcases hq with hq | hq
  · exact hq.1
  · omega
theorem f2_more {n0 n5 n7 x : Nat} (hx : n7 ≤ x) : ∀ q, F2 n0 n5 n7 q ∨ x ≤ q → F2 n0 n5 n7 q := fun q hq => by
  rcases hq with hq | hq
  · exact hq
  · exact Or.inr (by omega)
theorem Ua2.play (hE : ErrC W) (h : Ua2 W w7 w n5 hb s k i p A T) (hk : k ≤ 1000) {nv rv : Value} {g : Gf} (hG : Gr W nv rv g) (hS : Sized g) (kd a b : Int) (hn : ¬ ((kd = 6 ∨ kd = 7) ∧ a ≤ (i : Int))) :
    Calls Tryz.prog 8 #[.pointer (some ⟨hb, 0, none⟩), opV kd nv rv a b] w fun e w' => e = .returned (.tuple #[]) ∧ ∃ s', Ua2 W w7 w' n5 hb s' (k + 1) i p A T := by
  refine (play_any ⟨hE.below h.b, h.h, h.b.size, f2_lo h.z, h.j, hk, h.b, Nat.le_refl _, hG, hS⟩ kd a b).mono ?_
  rintro e w' ⟨rfl, s', h1, h2, h3⟩
  exact ⟨rfl, s', Below.trans h.b (h3.below (f2_lo h.z) h.b.size), h2.weak (f2_more h.m.size), h1.sj h.j, h.m.trans h3 (fun x hx => Or.inl hx), h.v.step h1 h.j hn, h.z⟩
end
structure Was (n5 n7 wb : Nat) (v1 v2 v3 v4 v5 : Value) (A : List Int) (w : World) : Prop where
  box : w.heap[wb]? = some (dmpO v1 v2 v3 v4 v5)
  lo : n5 ≤ wb
  hi : wb < n7
  row : w.ownsRow n5 88 1 v1 A.length (A.map (Value.int .u64))
  rhi : ∀ k, v1.ownBlock = some k → k < n7
  rng : ∀ x ∈ A, 0 ≤ x ∧ x ≤ 18446744073709551615
section
variable {n5 n7 wb : Nat} {v1 v2 v3 v4 v5 : Value} {A : List Int} {w w' : World}
theorem Was.mo {F : Nat → Prop} (h : Was n5 n7 wb v1 v2 v3 v4 v5 A w) (hm : Mo F w w') (hF : ∀ k, n5 ≤ k → k < n7 → ¬ F k) : Was n5 n7 wb v1 v2 v3 v4 v5 A w' :=
  ⟨(hm.block _ (lt_of_block h.box) (hF _ h.lo h.hi)).trans h.box, h.lo, h.hi, row_keep h.row (fun k hk => hm.block k (h.row.lt k hk).2 (hF k (h.row.lt k hk).1 (h.rhi k hk))), h.rhi, h.rng⟩
theorem Was.next (h : Was n5 n7 wb v1 v2 v3 v4 v5 A w) (hb : Below w.heap.size w w') : Was n5 n7 wb v1 v2 v3 v4 v5 A w' := h.mo (Mo.ofBelow (S := fun _ => False) hb) (fun _ _ _ hx => hx)
theorem Was.rd (h : Was n5 n7 wb v1 v2 v3 v4 v5 A w) : Rd w v1 A := Rd.ofOwn h.row h.rng
theorem was_new {n : Nat} {k2 k3 : Nat} {xs2 xs3 : List Value} (hn : n ≤ w.heap.size) (hr : Dr n v1 A.length (A.map (Value.int .u64)) v2 k2 xs2 v3 k3 xs3 w) (hA : ∀ x ∈ A, 0 ≤ x ∧ x ≤ 18446744073709551615) : Was n (w.heap.size + 1) w.heap.size v1 v2 v3 v4 v5 A (w.alloc (dmpO v1 v2 v3 v4 v5)) :=
  ⟨heap_alloc_new w _, hn, Nat.lt_succ_self _, row_below hr.r1 (below_alloc w _), fun k hk => Nat.lt_succ_of_lt (hr.r1.lt k hk).2, hA⟩
end
theorem si_rng {s : Hst} {k : Nat} (h : Sj s k) : ∀ x ∈ s.l, 0 ≤ x ∧ x ≤ 18446744073709551615 := by
  obtain ⟨V, hV⟩ := h.si.now.1
  exact hV.rng
theorem dump_hs {w : World} {B hb : Nat} {m : Int} {F : Nat → Prop} {s : Hst} {k : Nat} (h : Hs w B hb m F s) (hj : Sj s k) (hk : k ≤ 1000) :
    Calls Tryz.prog 10 #[.pointer (some ⟨hb, 0, none⟩)] w fun e w' => (∃ a1 c1 a2 c2 a3 c3 ua uc, e = .returned (.agg #[.slice a1 s.l.length c1, .slice a2 s.tr.length c2, .slice a3 s.pt.length c3, .slice ua s.ns.length uc, .slice none 0 0]) ∧ Dr w.heap.size (.slice a1 s.l.length c1) s.l.length (s.l.map (Value.int .u64)) (.slice a2 s.tr.length c2) s.tr.length (svC s.tr) (.slice a3 s.pt.length c3) s.pt.length (mkC s.pt) w' ∧ w'.ownsRow w.heap.size 9 1 (.slice ua s.ns.length uc) s.ns.length (s.ns.map Value.string)) ∧ Below w.heap.size w w' := by
  obtain ⟨ab, tb, av, tv, tq, trv, ptv, hq, hf⟩ := h
  have h1 := hj.t1
  have h2 := hj.p1
  exact dump_hq hq (by omega) (by omega)
end Go.Proofs.YtgmldkojldlekaaGreatDoor

namespace Go.Proofs.YtgmldkojldlekaaGreatDoor
open Go.RowKit
structure Ua3 (W w7 w : World) (n5 hb : Nat) (s : Hst) (k i : Nat) (A : List Int) (T : List Te) : Prop where
  b : Below W.heap.size W w
  h : Hs w W.heap.size hb 400 (F2 W.heap.size n5 w7.heap.size) s
  j : Sj s k
  m : Mo (F2 W.heap.size n5 w7.heap.size) w7 w
  z : W.heap.size ≤ w7.heap.size
  l : s.l = A
  t : s.tr = T
  pl : s.pt.length = i + 1
  at' : s.pt[i]? = some (T.length, A.length)
section
variable {W w7 w w' : World} {n5 hb : Nat} {s : Hst} {k i : Nat} {A : List Int} {T : List Te}
theorem Ua2.undo (h : Ua2 W w7 w n5 hb s k i (T.length, A.length) A T) (hk : k ≤ 1000) :
    Calls Tryz.prog 11 #[.pointer (some ⟨hb, 0, none⟩), .int .i64 (i : Int)] w fun e w' => e = .returned .nilIface ∧ ∃ s', Ua3 W w7 w' n5 hb s' (k + 1) i A T := by
  have hlt := h.v.lt
  have hp : s.pt[i] = (T.length, A.length) := (List.getElem?_eq_some_iff.1 h.v.at').2
  refine (undo_lv h.h h.j hk i hlt).mono ?_
  rintro e w' ⟨rfl, h1, h2⟩
  have hj := (Stp.undo (kd := 6) (a := (i : Int)) i hlt rfl rfl).sj h.j
  rw [hp] at h1 hj
  refine ⟨rfl, _, Below.trans h.b (h2.below (f2_lo h.z) h.b.size), h1.weak (f2_more h.m.size), hj, h.m.trans h2 (fun x hx => Or.inl hx), h.z, h.v.w, h.v.t, ?_, ?_⟩
  · show (s.pt.take (i + 1)).length = _
    rw [List.length_take]
    omega
  · show (s.pt.take (i + 1))[i]? = _
    rw [List.getElem?_take, if_pos (by omega)]
    exact h.v.at'
end
def F3 (n0 n5 n7 n9 n11 q : Nat) : Prop := ((n0 ≤ q ∧ q < n5) ∨ (n7 ≤ q ∧ q < n9)) ∨ n11 ≤ q
structure Fi (W : World) (n5 n7 n9 n11 hb wb db i : Nat) (x1 x2 x3 x4 x5 y1 y2 y3 y4 y5 : Value) (A : List Int) (T : List Te) (K : Nat) (w : World) : Prop where
  b : Below W.heap.size W w
  h : ∃ s, Hs w W.heap.size hb 400 (F3 W.heap.size n5 n7 n9 n11) s ∧ Sj s K ∧ s.l = A ∧ s.tr = T ∧ s.pt[i]? = some (T.length, A.length)
  x : Was n5 n7 wb x1 x2 x3 x4 x5 A w
  y : Was n9 n11 db y1 y2 y3 y4 y5 A w
  z0 : W.heap.size ≤ n7
  z1 : n7 ≤ n9
  z2 : n9 ≤ n11
  z3 : n11 ≤ w.heap.size
section
variable {W w w' : World} {n5 n7 n9 n11 hb wb db i : Nat} {x1 x2 x3 x4 x5 y1 y2 y3 y4 y5 : Value} {A : List Int} {T : List Te} {K : Nat}
theorem Fi.next (h : Fi W n5 n7 n9 n11 hb wb db i x1 x2 x3 x4 x5 y1 y2 y3 y4 y5 A T K w) (hb' : Below w.heap.size w w') : Fi W n5 n7 n9 n11 hb wb db i x1 x2 x3 x4 x5 y1 y2 y3 y4 y5 A T K w' := by
  obtain ⟨s, h1, h2⟩ := h.h
  exact ⟨Below.next h.b hb', ⟨s, h1.below hb', h2⟩, h.x.next hb', h.y.next hb', h.z0, h.z1, h.z2, Nat.le_trans h.z3 hb'.size⟩
theorem Fi.drew (h : Fi W n5 n7 n9 n11 hb wb db i x1 x2 x3 x4 x5 y1 y2 y3 y4 y5 A T K w) : Fi W n5 n7 n9 n11 hb wb db i x1 x2 x3 x4 x5 y1 y2 y3 y4 y5 A T K w.drew := h.next (Below.refl _ w).drew
theorem Fi.cells (h : Fi W n5 n7 n9 n11 hb wb db i x1 x2 x3 x4 x5 y1 y2 y3 y4 y5 A T K w) : w.cell? ⟨db, 0, none⟩ = some y1 ∧ w.cell? ⟨db, 1, none⟩ = some y2 ∧ w.cell? ⟨wb, 0, none⟩ = some x1 ∧ w.cell? ⟨wb, 1, none⟩ = some x2 := by
  have a := (cel_cells h.x.box).1
  have b := (cel_cells h.y.box).1
  exact ⟨b.1, b.2.1, a.1, a.2.1⟩
theorem Fi.undo (h : Fi W n5 n7 n9 n11 hb wb db i x1 x2 x3 x4 x5 y1 y2 y3 y4 y5 A T K w) (hK : K ≤ 1000) :
    Calls Tryz.prog 11 #[.pointer (some ⟨hb, 0, none⟩), .int .i64 (i : Int)] w fun e w' => e = .returned .nilIface ∧ Fi W n5 n7 n9 n11 hb wb db i x1 x2 x3 x4 x5 y1 y2 y3 y4 y5 A T (K + 1) w' := by
  obtain ⟨s, h1, h2, h3, h4, h5⟩ := h.h
  have z1 := h.z0
  have z2 := h.z1
  have z3 := h.z2
  have z4 := h.z3
  have hlt := (List.getElem?_eq_some_iff.1 h5).1
  have hp : s.pt[i] = (T.length, A.length) := (List.getElem?_eq_some_iff.1 h5).2
  refine (undo_lv h1 h2 hK i hlt).mono ?_
  rintro e w' ⟨rfl, g1, g2⟩
  have hj := (Stp.undo (kd := 6) (a := (i : Int)) i hlt rfl rfl).sj h2
  rw [hp, h3, h4] at g1 hj
  have ea : atP A T (T.length, A.length) = A := by
    show undW (A.take A.length) (T.drop T.length) = A
    rw [List.take_length, List.drop_length]
    rfl
  have et : T.take T.length = T := List.take_length
  have hlo : ∀ q, F3 W.heap.size n5 n7 n9 n11 q → W.heap.size ≤ q := fun q hq => by
    rcases hq with (hq | hq) | hq
    · exact hq.1
    · omega
    · omega
  have hs := g2.size
  refine ⟨rfl, Below.trans h.b (g2.below hlo h.b.size), ⟨_, g1.weak (fun q hq => ?_), hj, ea, et, ?_⟩, h.x.mo g2 (fun k k1 k2 hq => ?_), h.y.mo g2 (fun k k1 k2 hq => ?_), z1, z2, z3, by omega⟩
  · rcases hq with hq | hq
    · exact hq
    · exact Or.inr (by omega)
  · show (s.pt.take (i + 1))[i]? = _
    rw [List.getElem?_take, if_pos (by omega)]
    exact h5
  · rcases hq with (hq | hq) | hq
    · omega
    · omega
    · omega
  · rcases hq with (hq | hq) | hq
    · have := h.x.lo
      have := h.x.hi
      omega
    · omega
    · omega
theorem Fi.same (h : Fi W n5 n7 n9 n11 hb wb db i x1 x2 x3 x4 x5 y1 y2 y3 y4 y5 A T K w) {u : Value} (hu : Rd w u A) :
    Calls Tryz.prog 13 #[u, x1] w fun e w' => e = .returned (.bool true) ∧ Fi W n5 n7 n9 n11 hb wb db i x1 x2 x3 x4 x5 y1 y2 y3 y4 y5 A T K w' := by
  obtain ⟨s, h1, h2, h3, h4, h5⟩ := h.h
  obtain ⟨ab, tb, av, tv, tq, trv, ptv, hq, hf⟩ := h1
  have hl := hq.hp.ar.len
  rw [h3] at hl
  refine (a_same_any hu h.x.rd (by omega)).mono ?_
  rintro e w' ⟨rfl, d, rfl⟩
  exact ⟨rfl, h.next (below_drewN (Below.refl _ w) d)⟩
theorem Fi.dump (h : Fi W n5 n7 n9 n11 hb wb db i x1 x2 x3 x4 x5 y1 y2 y3 y4 y5 A T K w) (hK : K ≤ 1000) :
    Calls Tryz.prog 10 #[.pointer (some ⟨hb, 0, none⟩)] w fun e w' => ∃ a1 c1 u2 u3 u4, e = .returned (.agg #[.slice a1 A.length c1, u2, u3, u4, .slice none 0 0]) ∧ Rd w' (.slice a1 A.length c1) A ∧ Fi W n5 n7 n9 n11 hb wb db i x1 x2 x3 x4 x5 y1 y2 y3 y4 y5 A T K w' := by
  obtain ⟨s, h1, h2, h3, h4, h5⟩ := h.h
  refine (dump_hs h1 h2 hK).mono ?_
  rintro e w' ⟨⟨a1, c1, a2, c2, a3, c3, ua, uc, rfl, hr, _⟩, hb'⟩
  rw [h3] at hr
  refine ⟨a1, c1, _, _, _, by rw [h3], Rd.ofOwn hr.r1 h.x.rng, h.next hb'⟩
theorem fi_start {w7 w9 w10 : World} {s : Hst} {k k2 k3 : Nat} {xs2 xs3 : List Value} (h : Ua3 W w7 w9 n5 hb s k i A T) (hx : Was n5 w7.heap.size wb x1 x2 x3 x4 x5 A w9) (hb10 : Below w9.heap.size w9 w10) (hr : Dr w9.heap.size y1 A.length (A.map (Value.int .u64)) y2 k2 xs2 y3 k3 xs3 w10) :
    Fi W n5 w7.heap.size w9.heap.size (w10.heap.size + 1) hb wb w10.heap.size i x1 x2 x3 x4 x5 y1 y2 y3 y4 y5 A T k (w10.alloc (dmpO y1 y2 y3 y4 y5)) := by
  have z9 := h.m.size
  have z10 := hb10.size
  have hbx := Below.next hb10 (below_alloc w10 (dmpO y1 y2 y3 y4 y5))
  refine ⟨Below.next h.b hbx, ⟨s, (h.h.tight.weak (fun q hq => ?_)).below hbx, h.j, h.l, h.t, h.at'⟩, hx.next hbx, was_new z10 hr hx.rng, h.z, z9, by omega, by simp⟩
  obtain ⟨hq, hlt⟩ := hq
  rcases hq with hq | hq
  · exact Or.inl (Or.inl hq)
  · exact Or.inl (Or.inr ⟨hq, hlt⟩)
end
theorem ua2_start {W w5 w6 : World} {hb : Nat} {s : Hst} {k k2 k3 : Nat} {y1 y2 y3 y4 y5 : Value} {xs2 xs3 : List Value} (h : Ua1 W w5 hb ⟨s.l, s.ns, s.tr, s.pt ++ [(s.tr.length, s.l.length)], s.n⟩ k) (hb6 : Below w5.heap.size w5 w6) (hr : Dr w5.heap.size y1 s.l.length (s.l.map (Value.int .u64)) y2 k2 xs2 y3 k3 xs3 w6) :
    Ua2 W (w6.alloc (dmpO y1 y2 y3 y4 y5)) (w6.alloc (dmpO y1 y2 y3 y4 y5)) w5.heap.size hb ⟨s.l, s.ns, s.tr, s.pt ++ [(s.tr.length, s.l.length)], s.n⟩ k s.pt.length (s.tr.length, s.l.length) s.l s.tr ∧ Was w5.heap.size (w6.alloc (dmpO y1 y2 y3 y4 y5)).heap.size w6.heap.size y1 y2 y3 y4 y5 s.l (w6.alloc (dmpO y1 y2 y3 y4 y5)) := by
  have hbx := Below.next hb6 (below_alloc w6 (dmpO y1 y2 y3 y4 y5))
  have z6 := hb6.size
  have zb := (Below.next h.b hbx).size
  refine ⟨⟨Below.next h.b hbx, (h.h.tight.weak (fun q hq => Or.inl hq)).below hbx, h.j, Mo.refl _ _, Sees.new s, zb⟩, ?_⟩
  rw [World.size_alloc]
  have hrg := si_rng h.j
  exact was_new z6 hr hrg
end Go.Proofs.YtgmldkojldlekaaGreatDoor

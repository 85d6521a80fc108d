/- The law's long: is a script too long to be asked? Its fresh: a heap of 400 words. -/
import Derived.Test.YtgmldkojldlekaaGreatDoorSR06Z
import Derived.Test.YtgmldkojldlekaaGreatDoorSR09Z
import Derived.Test.YtgmldkojldlekaaGreatDoorSR19Z
import Derived.Test.YtgmldkojldlekaaGreatDoorSR42Z
import Derived.Test.YtgmldkojldlekaaGreatDoorSR43Z
import Derived.Test.YtgmldkojldlekaaGreatDoorSR36Z
import Derived.Test.YtgmldkojldlekaaGreatDoorSR11Z
import Derived.Test.YtgmldkojldlekaaGreatDoorSR35Z
namespace Go.Proofs.YtgmldkojldlekaaGreatDoor
set_option maxRecDepth 100000
open Go.RowKit
def longB (os : List Opd) : Bool := decide (60 < os.length) || os.any (fun o => !smallK 40 o.g)
theorem longB_no {os : List Opd} (h : longB os = false) : os.length ≤ 60 ∧ ∀ j, j < os.length → smallK 40 (os.getD j od0).g = true := by
  unfold longB at h
  rw [Bool.or_eq_false_iff] at h
  refine ⟨by have := of_decide_eq_false h.1; omega, fun j hj => ?_⟩
  have h2 := List.any_eq_false.1 h.2 (os.getD j od0) (by simp [List.getD, hj])
  simpa using h2
theorem longB_yes {os : List Opd} {j : Nat} (hj : j < os.length) (h : smallK 40 (os.getD j od0).g = false) : longB os = true := by
  unfold longB
  rw [Bool.or_eq_true]
  exact Or.inr (List.any_eq_true.2 ⟨os.getD j od0, by simp [List.getD, hj], by show (!smallK 40 (os.getD j od0).g) = true; rw [h]; rfl⟩)
theorem longB_end {os : List Opd} (hl : os.length ≤ 60) (h : ∀ j, j < os.length → smallK 40 (os.getD j od0).g = true) : longB os = false := by
  unfold longB
  rw [Bool.or_eq_false_iff]
  refine ⟨decide_eq_false (by omega), List.any_eq_false.2 (fun o ho => ?_)⟩
  obtain ⟨j, hj, e⟩ := List.getElem_of_mem ho
  have := h j hj
  rw [show os.getD j od0 = o by simp [List.getD, hj, e]] at this
  simp [this]
set_option maxHeartbeats 4000000 in
theorem long_any {w : World} {v : Value} {os : List Opd} (hR : Rop w v os) :
    Calls Tryz.prog 7 #[v] w fun e w' => e = .returned (.bool (longB os)) ∧ Below w.heap.size w w' := by
  obtain ⟨ao, c, rfl, hc⟩ := hR
  by_cases hl : 60 < os.length
  · have hb : longB os = true := by unfold longB; rw [decide_eq_true hl]; rfl
    rw [hb]
    have hli : (60 : Int) < (os.length : Int) := by omega
    go_enter Tryz.func7, Tryz.ntmps7
    go_wp2
    go_ret
    exact ⟨rfl, Below.refl _ _⟩
  · have hli : ¬ (60 : Int) < (os.length : Int) := by omega
    obtain ⟨bl, hbl⟩ : ∃ bl, bl = longB os := ⟨_, rfl⟩
    rw [← hbl]
    replace hbl := hid hbl
    go_enter Tryz.func7, Tryz.ntmps7
    go_wp2
    go_loopw [10] (fun i wr => ∃ k : Nat, k ≤ os.length ∧ i = .int .i64 (k : Int) ∧ Hid (Below w.heap.size w wr ∧ ∀ j, j < k → smallK 40 (os.getD j od0).g = true)) (fun i _ => os.length - (intOf i).toNat)
    case atStart => exact ⟨0, Nat.zero_le _, rfl, Below.refl _ _, fun j hj => absurd hj (Nat.not_lt_zero _)⟩
    case round =>
      obtain ⟨k, hk, rfl, hS⟩ := hrel
      by_cases hlt : k < os.length
      · have hki : (k : Int) < (os.length : Int) := by omega
        obtain ⟨b, o, nv, rv, rfl, hat⟩ := hc k hlt
        obtain ⟨c0, c1, c2, c3, c4, hG, hZ⟩ := hat.below hS.out.1
        have hsm := hid (fun w1 (hb1 : Below wr.heap.size wr w1) => smallK_any (K := 40) (by decide) (hG.below hb1))
        obtain ⟨na, nc, rfl, _⟩ := hG.1
        obtain ⟨ra, rc, rfl, _⟩ := hG.2
        have hb0 := hid (below_alloc wr (.cells #[.int .i64 (os.getD k od0).kd, .slice na (os.getD k od0).g.nodes.length nc, .slice ra (os.getD k od0).g.roots.length rc, .int .i64 (os.getD k od0).a, .int .i64 (os.getD k od0).b] 32))
        have Hy := hid (longB_yes hlt)
        generalize hod : os.getD k od0 = od at *
        have hod' := hid hod
        clear hod hc hG hat
        cases hsk : smallK 40 od.g with
        | true =>
          rw [hsk] at hsm
          go_wp2_with (go_at_call 27; refine (hsm.out _ hb0.out).mono ?_; rintro e w2 ⟨rfl, hb2⟩; have Hb2 := hid (Below.next hb0.out hb2); clear hb2)
          go_roundw
          case rel => exact ⟨k + 1, by omega, congrArg (Value.int .i64) (by omega), Below.next hS.out.1 Hb2.out, fun j hj => by
            rcases Nat.lt_or_ge j k with h1 | h1
            · exact hS.out.2 j h1
            · have e : j = k := by omega
              rw [e, hod'.out]
              exact hsk⟩
          case measure => simp [intOf]; omega
        | false =>
          rw [hsk] at hsm
          have hy := hid (Hy.out (by exact hsk))
          go_wp2_with (go_at_call 27; refine (hsm.out _ hb0.out).mono ?_; rintro e w2 ⟨rfl, hb2⟩; have Hb2 := hid (Below.next hb0.out hb2); clear hb2)
          go_ret
          exact ⟨congrArg (fun b => Ending.returned (.bool b)) (hy.out.symm.trans hbl.out.symm), Below.next hS.out.1 Hb2.out⟩
      · obtain rfl : k = os.length := by omega
        have hend := hid (longB_end (by omega) hS.out.2)
        go_wp2
        go_ret
        exact ⟨congrArg (fun b => Ending.returned (.bool b)) (hend.out.symm.trans hbl.out.symm), hS.out.1⟩
def hs0 : Hst := ⟨[], [], [], [], 0⟩
theorem sndN_nil (N : Nat) : SndN [] N := ⟨⟨fun _ => false, ⟨fun k hk => absurd hk (Nat.not_lt_zero _), fun x hx => (by cases hx), fun k hk => absurd hk (Nat.not_lt_zero _), fun k hk => absurd hk (Nat.not_lt_zero _), fun k hk => absurd hk (Nat.not_lt_zero _), fun k hk => absurd hk (Nat.not_lt_zero _), fun k hk => absurd hk (Nat.not_lt_zero _)⟩⟩, ⟨fun k hk => absurd hk (Nat.not_lt_zero _), fun k hk => absurd hk (Nat.not_lt_zero _)⟩⟩
theorem sj0 : Sj hs0 0 := ⟨⟨sndN_nil _, fun e he => (by cases he), fun p hp => (by cases hp), fun p hp => (by cases hp), fun p hp => (by cases hp), List.Pairwise.nil⟩, Int.le_refl _, Int.le_refl _, Nat.le_refl _, Nat.le_refl _⟩
set_option maxHeartbeats 1000000 in
theorem freshH_any (w : World) :
    Calls Tryz.prog 5 #[] w fun e w' => (∃ hb, e = .returned (.pointer (some ⟨hb, 0, none⟩)) ∧ Hs w' w.heap.size hb 400 (fun k => w.heap.size ≤ k) hs0) ∧ Below w.heap.size w w' := by
  have hnw := hid (hnew_ok 400 w w.heap.size (Nat.le_refl _) (by decide) (by decide))
  go_enter Tryz.func5, Tryz.ntmps5
  go_wp2_with (go_at_call 20; refine hnw.out.mono ?_; rintro e w1 ⟨⟨hb, ab, tb, tq, rfl, hH, z1, z2, z3, z4⟩, hb1⟩; have HH := hid hH; have Hb1 := hid hb1; clear hH hb1)
  go_ret
  refine ⟨⟨hb, rfl, ab, tb, .slice none 0 0, .slice none 0 0, tq, .slice none 0 0, .slice none 0 0, ⟨HH.out, World.ownsRow_nil _ _ _ _, World.ownsRow_nil _ _ _ _⟩, fun k hk => ?_⟩, Hb1.out⟩
  rcases mem_qfoot.1 hk with rfl | hk | hk | hk
  · exact z1
  · rcases a_mem_foot.1 hk with rfl | hk
    · exact z2
    · simp [Value.ownBlock] at hk
  · simp [Value.ownBlock] at hk
  · simp [Value.ownBlock] at hk
end Go.Proofs.YtgmldkojldlekaaGreatDoor

namespace Go.Proofs.YtgmldkojldlekaaGreatDoor
set_option maxRecDepth 100000
open Go.RowKit
structure Ua1 (W w : World) (hb : Nat) (s : Hst) (k : Nat) : Prop where
  b : Below W.heap.size W w
  h : Hs w W.heap.size hb 400 (fun q => W.heap.size ≤ q) s
  j : Sj s k
theorem Ua1.next {W w w' : World} {hb : Nat} {s : Hst} {k : Nat} (h : Ua1 W w hb s k) (hb' : Below w.heap.size w w') : Ua1 W w' hb s k := ⟨Below.next h.b hb', h.h.below hb', h.j⟩
theorem Ua1.play {W w : World} {hb : Nat} {s : Hst} {k : Nat} (hE : ErrC W) (h : Ua1 W w hb s k) (hk : k ≤ 1000) {nv rv : Value} {g : Gf} (hG : Gr W nv rv g) (hS : Sized g) (kd a b : Int) :
    Calls Tryz.prog 8 #[.pointer (some ⟨hb, 0, none⟩), opV kd nv rv a b] w fun e w' => e = .returned (.tuple #[]) ∧ ∃ s', Ua1 W w' hb s' (k + 1) := by
  refine (play_any ⟨hE.below h.b, h.h, h.b.size, fun _ hq => hq, h.j, hk, h.b, Nat.le_refl _, hG, hS⟩ kd a b).mono ?_
  rintro e w' ⟨rfl, s', h1, h2, h3⟩
  refine ⟨rfl, s', Below.trans h.b (h3.below (fun _ hq => hq) h.b.size), h2.weak (fun q hq => ?_), h1.sj h.j⟩
  rcases hq with hq | hq
  · exact hq
  · have := h.b.size
    omega
theorem dump_hs {w : World} {B hb : Nat} {m : Int} {F : Nat → Prop} {s : Hst} {k : Nat} (h : Hs w B hb m F s) (hj : Sj s k) (hk : k ≤ 1000) :
    Calls Tryz.prog 10 #[.pointer (some ⟨hb, 0, none⟩)] w fun e w' => (∃ a1 c1 a2 c2 a3 c3 ua uc, e = .returned (.agg #[.slice a1 s.l.length c1, .slice a2 s.tr.length c2, .slice a3 s.pt.length c3, .slice ua s.ns.length uc, .slice none 0 0]) ∧ Dr w.heap.size (.slice a1 s.l.length c1) s.l.length (s.l.map (Value.int .u64)) (.slice a2 s.tr.length c2) s.tr.length (svC s.tr) (.slice a3 s.pt.length c3) s.pt.length (mkC s.pt) w' ∧ w'.ownsRow w.heap.size 9 1 (.slice ua s.ns.length uc) s.ns.length (s.ns.map Value.string)) ∧ Below w.heap.size w w' := by
  obtain ⟨ab, tb, av, tv, tq, trv, ptv, hq, hf⟩ := h
  have h1 := hj.t1
  have h2 := hj.p1
  exact dump_hq hq (by omega) (by omega)
end Go.Proofs.YtgmldkojldlekaaGreatDoor

namespace Go.Proofs.YtgmldkojldlekaaGreatDoor
set_option maxRecDepth 100000
open Go.RowKit
def cntB (K : List Int) (i : Nat) : Nat := (List.range i).countP (fun (k : Nat) => decide ((k : Int) ∈ K))
theorem cntB_succ (K : List Int) (i : Nat) : cntB K (i + 1) = cntB K i + (if (i : Int) ∈ K then 1 else 0) := by
  unfold cntB
  rw [List.range_succ, List.countP_append]
  congr 1
  by_cases h : (i : Int) ∈ K
  · simp [h]
  · simp [h]
theorem cntB_le (K : List Int) (i : Nat) : cntB K i ≤ i := by
  unfold cntB
  have := List.countP_le_length (p := fun k : Nat => decide ((k : Int) ∈ K)) (l := List.range i)
  simpa using this
theorem cntB_all {K : List Int} {N : Nat} (h : Ok N K) : cntB K N = K.length := by
  unfold cntB
  rw [List.countP_eq_length_filter]
  have e : ((List.range N).filter (fun (k : Nat) => decide ((k : Int) ∈ K))).length = (((List.range N).filter (fun (k : Nat) => decide ((k : Int) ∈ K))).map (fun (k : Nat) => (k : Int))).length := by simp
  rw [e]
  refine same_len ?_ h.nodup (fun x => ⟨fun hx => ?_, fun hx => ?_⟩)
  · rw [List.nodup_iff_pairwise_ne, List.pairwise_map]
    exact (List.nodup_range.filter _).imp (fun hne e => hne (by omega))
  · obtain ⟨k, hk, rfl⟩ := List.mem_map.1 hx
    have := (List.mem_filter.1 hk).2
    simpa using this
  · have hr := h.rng x hx
    refine List.mem_map.2 ⟨x.toNat, List.mem_filter.2 ⟨List.mem_range.2 (by omega), ?_⟩, by omega⟩
    rw [decide_eq_true_eq, show ((x.toNat : Nat) : Int) = x by omega]
    exact hx
set_option maxHeartbeats 2000000 in
theorem count_any {w : World} {N kb : Nat} {K : List Int} (hr : w.heap[kb]? = some (.cells (seenArr N K) 4 (0, 0))) (hN : N ≤ 5000) (hK : Ok N K) :
    Calls Tryz.prog 18 #[.slice (some ⟨kb, 0, none⟩) N N] w fun e w' => e = .returned (.int .i64 (K.length : Int)) ∧ w' = w := by
  have hall := hid (cntB_all hK)
  obtain ⟨W, hWw⟩ : ∃ W : World, W = w := ⟨_, rfl⟩
  subst hWw
  go_enter Tryz.func18, Tryz.ntmps18
  go_wp2
  go_loopw [3, 4] (fun n i wr => ∃ k : Nat, k ≤ N ∧ n = .int .i64 (cntB K k : Int) ∧ i = .int .i64 (k : Int) ∧ Hid (wr = W)) (fun _ i _ => N - (intOf i).toNat)
  case atStart => exact ⟨0, Nat.zero_le _, by simp [cntB], rfl, rfl⟩
  case round =>
    obtain ⟨k, hk, rfl, rfl, hw⟩ := hrel
    have hww := hw.out
    subst hww
    by_cases hlt : k < N
    · have hki : (k : Int) < (N : Int) := by omega
      have s1 : wr.cell? ⟨kb, k, none⟩ = some (.bool (decide ((k : Int) ∈ K))) := by
        rw [cell_of_row wr kb k _ _ _ hr]
        exact seen_at hlt
      have hcs := cntB_succ K k
      have hle := cntB_le K k
      generalize cntB K k = m at *
      by_cases hin : (k : Int) ∈ K
      · rw [decide_eq_true hin] at s1
        rw [if_pos hin] at hcs
        have hcs' := hid hcs
        clear hcs hin
        go_wp2
        go_roundw
        case rel => exact ⟨k + 1, by omega, by rw [hcs'.out]; go_num, by go_num, by first | exact trivial | rfl⟩
        case measure => simp [intOf]; omega
      · rw [decide_eq_false hin] at s1
        rw [if_neg hin] at hcs
        have hcs' := hid hcs
        clear hcs hin
        go_wp2
        go_roundw
        case rel => exact ⟨k + 1, by omega, by rw [hcs'.out]; go_num, by go_num, by first | exact trivial | rfl⟩
        case measure => simp [intOf]; omega
    · obtain rfl : k = N := by omega
      go_wp2
      go_ret
      exact ⟨congrArg (fun n : Nat => Ending.returned (.int .i64 (n : Int))) hall.out, by first | exact trivial | rfl⟩
section
variable {w : World} {B hb : Nat} {m : Int} {F : Nat → Prop} {s : Hst} {j : Nat}
theorem reach_ok_hs (h : Hs w B hb m F s) (hs : Sj s j) (hm : m ≤ 4096) {cv : Value} {cs : List Int} (hC : Ri w cv cs) (hl : cs.length ≤ 5000) (hbd : badF s.l cs = []) :
    Calls Tryz.prog 14 #[.pointer (some ⟨hb, 0, none⟩), cv] w fun e w' => (∃ M, e = .returned (.tuple #[.int .i64 (M.length : Int), .nilIface]) ∧ RcS s.l cs M) ∧ Below w.heap.size w w' := by
  obtain ⟨ab, tb, av, tv, tq, trv, ptv, hq, hf⟩ := h
  obtain ⟨V, hV⟩ := hs.si.now.1
  have := hq.hp.ar.len
  exact hreach_ok hq.hp hV (by omega) hC hl hbd
theorem reach_no_hs (h : Hs w B hb m F s) {cv : Value} {cs : List Int} (hC : Ri w cv cs) (hl : cs.length ≤ 5000) (hbd : badF s.l cs ≠ []) :
    Calls Tryz.prog 14 #[.pointer (some ⟨hb, 0, none⟩), cv] w fun e w' => (∃ q, e = .returned (.tuple #[.int .i64 0, .iface 102 (.pointer (some ⟨q, 0, none⟩))]) ∧ Er w' (.iface 102 (.pointer (some ⟨q, 0, none⟩))) (badF s.l cs)) ∧ Below w.heap.size w w' := by
  obtain ⟨ab, tb, av, tv, tq, trv, ptv, hq, hf⟩ := h
  exact hreach_no hq.hp hC hl hbd
theorem cell_hs (h : Hs w B hb m F s) (x : Int) :
    Calls Tryz.prog 15 #[.pointer (some ⟨hb, 0, none⟩), .int .i64 x] w fun e w' => e = .returned (.bool (cellB s.l x)) ∧ Below w.heap.size w w' := by
  obtain ⟨ab, tb, av, tv, tq, trv, ptv, hq, hf⟩ := h
  exact hcell_any hq.hp x
theorem hs_len (h : Hs w B hb m F s) : (s.l.length : Int) ≤ m := by
  obtain ⟨ab, tb, av, tv, tq, trv, ptv, hq, hf⟩ := h
  exact hq.hp.ar.len
end
theorem bad_first {l cs : List Int} (h : badF l cs ≠ []) : ∃ i : Nat, i < cs.length ∧ badF l cs = [(113, (i : Int))] ∧ (∀ j, j < i → cellB l (cs.getD j 0) = true) ∧ cellB l (cs.getD i 0) = false := by
  unfold badF at h ⊢
  by_cases h0 : 0 ≤ badC l cs
  · rw [if_pos h0]
    have h1 := ixOf_lt (fun x => !cellB l x) cs
    have h1' : badC l cs < (cs.length : Int) := h1
    refine ⟨(badC l cs).toNat, by omega, by rw [show ((badC l cs).toNat : Int) = badC l cs by omega], ?_⟩
    have key : ∀ n : Nat, n ≤ cs.length → (∀ j, j < n → cellB l (cs.getD j 0) = true) ∨ ∃ k, k < n ∧ (∀ j, j < k → cellB l (cs.getD j 0) = true) ∧ cellB l (cs.getD k 0) = false := fun n => by
      induction n with
      | zero => exact fun _ => Or.inl (fun j hj => absurd hj (Nat.not_lt_zero _))
      | succ n ih =>
        intro hn
        rcases ih (by omega) with h | ⟨k, hk, h2⟩
        · cases hc : cellB l (cs.getD n 0) with
          | true => exact Or.inl (fun j hj => by
              rcases Nat.lt_or_ge j n with h3 | h3
              · exact h j h3
              · have e : j = n := by omega
                rw [e]
                exact hc)
          | false => exact Or.inr ⟨n, by omega, h, hc⟩
        · exact Or.inr ⟨k, by omega, h2⟩
    rcases key cs.length (Nat.le_refl _) with h2 | ⟨k, hk, h2, h3⟩
    · exfalso
      have := ixOf_miss 0 (fun x => !cellB l x) cs (fun j hj => by show (!cellB l (cs.getD j 0)) = false; rw [h2 j hj]; rfl)
      have h0' : 0 ≤ ixOf (fun x => !cellB l x) cs := h0
      omega
    · have := ixOf_hit 0 (fun x => !cellB l x) cs k hk (fun j hj => by show (!cellB l (cs.getD j 0)) = false; rw [h2 j hj]; rfl) (by show (!cellB l (cs.getD k 0)) = true; rw [h3]; rfl)
      have e : (badC l cs).toNat = k := by
        unfold badC
        rw [this]
        rfl
      rw [e]
      exact ⟨h2, h3⟩
  · rw [if_neg h0] at h
    exact absurd rfl h
theorem dkp_of {w : World} {n : Nat} {v1 : Value} {s : Hst} {j : Nat} (h : w.ownsRow n 88 1 v1 s.l.length (s.l.map (Value.int .u64))) (hs : Sj s j) : Dkp w v1 (.slice none 0 0) s.l [] := by
  obtain ⟨V, hV⟩ := hs.si.now.1
  refine ⟨?_, ⟨none, 0, rfl, fun j hj => absurd hj (Nat.not_lt_zero _)⟩, fun k hk => ⟨hV.good k hk, hV.rng _ (by simp [List.getD, hk])⟩, fun j hj => absurd hj (Nat.not_lt_zero _)⟩
  obtain ⟨ao, c, rfl, _, _, h0, ha⟩ := own_slq h
  refine ⟨ao, c, rfl, fun k hk => ?_⟩
  cases ao with
  | none => have := (h0 rfl).1; omega
  | some a =>
    have e := ha a rfl
    refine ⟨a.block, 0, by rw [← e], ?_⟩
    rw [e] at h
    rw [Nat.zero_add, h.cellAt k (by simpa using hk)]
    simp [hk, List.getD]
end Go.Proofs.YtgmldkojldlekaaGreatDoor

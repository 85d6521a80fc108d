/- Package cells: the words of a heap, read. -/
import Derived.Deep.RegionHeld3
import Derived.Test.YtgmldkojldlekaaGreatDoorSR08Z
import Derived.Test.YtgmldkojldlekaaGreatDoorSR01Z
import Derived.Test.YtgmldkojldlekaaGreatDoorSR09Z
namespace Go.Proofs.YtgmldkojldlekaaGreatDoor
set_option maxRecDepth 100000
open Go.RowKit
abbrev blkV (p : Nat) : Value := .agg #[.pointer (some ⟨p, 0, none⟩)]
def cellB (l : List Int) (n : Int) : Bool := inB n l.length && decide (l.getD n.toNat 0 % 8 ≠ 4) && decide (l.getD n.toNat 0 % 8 ≠ 5)
section
variable {w : World} {B p : Nat} {m : Int} {v : Value} {l : List Int}
set_option maxHeartbeats 800000 in
theorem bword_ok (h : Ar 126 w B p m v l) (k : Nat) (hk : k < l.length) :
    Calls Tryz.prog 72 #[blkV p, .int .i64 (k : Int)] w fun e w' => e = .returned (.int .u64 (l.getD k 0)) ∧ Below w.heap.size w w' := by
  have hb := hid (below_alloc w (.cells #[.pointer (some ⟨p, 0, none⟩)] 78))
  have hld := hid (load_ok (h.below hb.out) k hk)
  generalize l.getD k 0 = x at *
  clear h hk
  go_enter Tryz.func72, Tryz.ntmps72
  go_wp2_with (go_at_call 73; refine hld.out.mono ?_; rintro e w1 ⟨rfl, rfl⟩)
  go_ret
  exact ⟨rfl, hb.out⟩
set_option maxHeartbeats 800000 in
theorem iscell_any (h : Ar 126 w B p m v l) (n : Int) :
    Calls Tryz.prog 43 #[blkV p, .int .i64 n] w fun e w' => e = .returned (.bool (cellB l n)) ∧ Below w.heap.size w w' := by
  have hb := hid (below_alloc w (.cells #[.pointer (some ⟨p, 0, none⟩)] 78))
  by_cases hi : inB n l.length = true
  · have hn : 0 ≤ n ∧ n < (l.length : Int) := by simpa [inB] using hi
    obtain ⟨k, rfl⟩ : ∃ k : Nat, n = (k : Int) := ⟨n.toNat, by omega⟩
    have hk : k < l.length := by omega
    have hld := hid (load_ok (h.below hb.out) k hk)
    have hr := h.rng (l.getD k 0) (by simp [List.getD, hk])
    have hc : Hid (cellB l (k : Int) = (decide (l.getD k 0 % 8 ≠ 4) && decide (l.getD k 0 % 8 ≠ 5))) := show _ = _ by
      unfold cellB
      rw [hi, Bool.true_and, Int.toNat_natCast]
    generalize cellB l (k : Int) = C at *
    generalize l.getD k 0 = x at *
    have htg := hid (fun w => tag_any x w hr.1 hr.2)
    clear hi hn hk h
    by_cases h4 : x % 8 = 4
    · have hC : Hid (C = false) := show _ = _ by rw [hc.out]; simp [h4]
      have d0 : (x % 8 != 4) = false := by simp [h4]
      clear hc
      generalize x % 8 = y at *
      go_enter Tryz.func43, Tryz.ntmps43
      go_wp2_with (first
        | (go_at_call 73; refine hld.out.mono ?_; rintro e w1 ⟨rfl, rfl⟩)
        | (go_at_call 55; refine (htg.out _).mono ?_; rintro e w1 ⟨rfl, rfl⟩))
      go_ret
      exact ⟨ret_bool hC.out.symm, hb.out⟩
    · by_cases h5 : x % 8 = 5
      · have hC : Hid (C = false) := show _ = _ by rw [hc.out]; simp [h5]
        have d0 : (x % 8 != 4) = true := by simp [h4]
        have d1 : (x % 8 != 5) = false := by simp [h5]
        clear hc
        generalize x % 8 = y at *
        go_enter Tryz.func43, Tryz.ntmps43
        go_wp2_with (first
          | (go_at_call 73; refine hld.out.mono ?_; rintro e w1 ⟨rfl, rfl⟩)
          | (go_at_call 55; refine (htg.out _).mono ?_; rintro e w1 ⟨rfl, rfl⟩))
        go_ret
        exact ⟨ret_bool hC.out.symm, hb.out⟩
      · have hC : Hid (C = true) := show _ = _ by rw [hc.out]; simp [h4, h5]
        have d0 : (x % 8 != 4) = true := by simp [h4]
        have d1 : (x % 8 != 5) = true := by simp [h5]
        clear hc
        generalize x % 8 = y at *
        go_enter Tryz.func43, Tryz.ntmps43
        go_wp2_with (first
          | (go_at_call 73; refine hld.out.mono ?_; rintro e w1 ⟨rfl, rfl⟩)
          | (go_at_call 55; refine (htg.out _).mono ?_; rintro e w1 ⟨rfl, rfl⟩))
        go_ret
        exact ⟨ret_bool hC.out.symm, hb.out⟩
  · have hi' : inB n l.length = false := by simpa using hi
    have hld := hid (load_no (h.below hb.out) n hi')
    have hC : Hid (cellB l n = false) := show _ = _ by unfold cellB; rw [hi', Bool.false_and, Bool.false_and]
    have hb2 := hid (hb.out.alloc (by simp) (faultAtObj 23 n))
    clear h hi hi'
    go_enter Tryz.func43, Tryz.ntmps43
    go_wp2_with (go_at_call 73; refine hld.out.mono ?_; rintro e w1 ⟨rfl, rfl⟩)
    go_ret
    exact ⟨ret_bool hC.out.symm, hb2.out⟩
end
set_option maxHeartbeats 400000 in
theorem packed_ok (a b : Int) (w : World) (hf : fitsB a b = true) :
    Calls Tryz.prog 62 #[.int .i64 a, .int .i64 b] w fun e w' => e = .returned (.int .u64 (wordOf a b)) ∧ w' = w := by
  go_enter Tryz.func62, Tryz.ntmps62
  go_wp2_with (go_at_call 90; refine (pack_ok a b _ hf).mono ?_; rintro e w' ⟨rfl, rfl⟩)
  go_ret
  exact ⟨rfl, rfl⟩
set_option maxHeartbeats 400000 in
theorem cfault_any (c a : Int) (w : World) :
    Calls Tryz.prog 30 #[.int .i64 c, .int .i64 a] w fun e w' => e = .returned (.iface 102 (.pointer (some ⟨w.heap.size, 0, none⟩))) ∧ w' = w.alloc (faultAtObj c a) := by
  go_enter Tryz.func30, Tryz.ntmps30
  go_wp2
  go_ret
  exact ⟨rfl, rfl⟩
end Go.Proofs.YtgmldkojldlekaaGreatDoor

namespace Go.Proofs.YtgmldkojldlekaaGreatDoor
set_option maxRecDepth 100000
open Go.RowKit
theorem Tryz.infoU : (Tryz.prog.info? 88).map (fun i => (i.zero, i.size, i.bytes)) = some (some (.int .u64 0), 1, 8) := by kernel_rfl
theorem words_one (l : List Int) : ∀ u ∈ l.map (Value.int .u64), u.oneCell' = true := ints_oneCell .u64 l
theorem a_own_row {w : World} {B g n : Nat} {l : List Int} (h : w.heap[g]? = some (.cells (l.map (Value.int .u64)).toArray 88 (0, 0))) (hB : B ≤ g) (hn : l.length = n) (hm : n ≤ maxLen) :
    w.ownsRow B 88 1 (.slice (some ⟨g, 0, none⟩) n n) n (l.map (Value.int .u64)) :=
  ⟨by simp [hn], Or.inr ⟨g, n, _, rfl, hB, h, Nat.le_refl _, hm, by simp [hn], by rw [List.take_of_length_le (by simp; omega)]⟩⟩
theorem Tryz.sizeU : (Tryz.prog.info? 88).map (·.size) = some 1 := by kernel_rfl
theorem own_at {w : World} {B g n : Nat} {e : TypeId} {xs : List Value} (h : w.ownsRow B e 1 (.slice (some ⟨g, 0, none⟩) n n) n xs) : Hid (w.heap[g]? = some (.cells xs.toArray e (0, 0))) := by
  rcases h.2 with ⟨h', _⟩ | ⟨g', cap', cur, h', hb, hg, hnc, hcm, hcs, htake⟩
  · simp at h'
  · simp only [Value.slice.injEq, Option.some.injEq, Addr.mk.injEq, and_true, true_and] at h'
    obtain ⟨rfl, rfl⟩ := h'
    show _ = _
    rw [hg, ← htake, List.take_of_length_le (by simp; omega)]
theorem rd_copy {w : World} {ao : Option Addr} {n cap g : Nat} {l : List Int} (h : Rd w (.slice ao n cap) l) : 0 < (l.map (Value.int .u64)).length → (some (⟨g, 0, none⟩ : Addr) = some ⟨g, 0, none⟩) ∧ ∃ ad, ao = some ad ∧ ∀ j v, (l.map (Value.int .u64))[j]? = some v → w.cell? (ad.add j) = some v := by
  intro h0
  refine ⟨rfl, ?_⟩
  rcases h.src with ⟨e, rfl⟩ | ⟨a, c, e, hc⟩
  · simp at h0
  · simp at e
    exact ⟨a, e.1, hc⟩
theorem len_min (l : List Int) : (l.map (Value.int .u64)).length = Nat.min l.length l.length := by show _ = min _ _; simp
theorem made_len (l : List Int) : 0 + (l.map (Value.int .u64)).length ≤ ((madeCells (Value.int .u64 0).cells (l.length * 1)).toList).length := by simp [Value.cells, toList_madeCells_one]
set_option maxHeartbeats 1000000 in
theorem words_any {w : World} {B p : Nat} {m : Int} {v : Value} {l : List Int} (h : Ar 126 w B p m v l) :
    Calls Tryz.prog 32 #[.pointer (some ⟨p, 0, none⟩)] w fun e w' => e = .returned (.slice (some ⟨w.heap.size, 0, none⟩) l.length l.length) ∧
      w'.ownsRow w.heap.size 88 1 (.slice (some ⟨w.heap.size, 0, none⟩) l.length l.length) l.length (l.map (Value.int .u64)) ∧ Below w.heap.size w w' := by
  obtain ⟨i0, hi, hz0, hz1, hz2⟩ := info_parts Tryz.infoU
  have hrd := h.rd
  have hp := h.lt
  have hl : l.length ≤ 65536 := by have := h.len; have := h.m2; omega
  obtain ⟨ao, cap, rfl, _⟩ := h.val
  have c1 := h.c1
  have HL : Hid (∀ (g : Nat) (w1 : World), w.heap.size ≤ g → w1.heap[g]? = some (.cells (splice (madeCells (Value.int .u64 0).cells (l.length * 1)).toList 0 (l.map (Value.int .u64))).toArray 88 (0, 0)) → w1.ownsRow w.heap.size 88 1 (.slice (some ⟨g, 0, none⟩) l.length l.length) l.length (l.map (Value.int .u64))) := by
    intro g w1 hg h1
    refine a_own_row ?_ hg rfl (by unfold maxLen; omega)
    rw [h1]
    simp [splice, Value.cells, toList_madeCells_one]
  go_enter Tryz.func32, Tryz.ntmps32
  go_wp2_with (first
    | (refine wpList_copy_splice rfl (.tmp 12) (.tmp 16) 38 38 rfl 88 Tryz.underlying38 Tryz.sizeU (some ⟨w.heap.size, 0, none⟩) ao l.length l.length l.length cap rfl rfl w.heap.size 0 ((madeCells (Value.int .u64 0).cells (l.length * 1)).toList) 88 hg1.out (l.map (Value.int .u64)) (len_min l) (rd_copy hr1) (made_len l) (words_one l) w.heap.size w hb1 (Nat.le_refl _) ?_; intro w2 hh2 hb2)
    | (at_make; refine wpList_make_full _ rfl _ _ 38 rfl w.heap.size 88 i0 (.int .u64 0) 1 Tryz.underlying38 hi hz0 hz1 .i64 .i64 _ _ l.length rfl rfl rfl rfl (by rw [hz2]; omega) (by unfold maxLen; omega) (Nat.le_refl _) ?_; intro w1 hown1 hgrow1; have hb1 : Below w.heap.size w w1 := (Below.refl _ _).grown hgrow1 (Nat.le_refl _) (fun _ e => by cases e); have c1' := (hb1.cell (p := ⟨p, 1, none⟩) hp).trans c1; have hr1 := hrd.below hb1; have hg1 := own_at hown1))
  go_ret
  exact ⟨rfl, HL.out _ _ (Nat.le_refl _) hh2.out, hb2⟩
end Go.Proofs.YtgmldkojldlekaaGreatDoor

namespace Go.Proofs.YtgmldkojldlekaaGreatDoor
set_option maxRecDepth 100000
open Go.RowKit
theorem info_parts {P : Program} {t : TypeId} {z : Value} {s b : Nat} (h : (P.info? t).map (fun i => (i.zero, i.size, i.bytes)) = some (some z, s, b)) : ∃ i, P.info? t = some i ∧ i.zero = some z ∧ i.size = s ∧ i.bytes = b := by
  cases hi : P.info? t with
  | none => rw [hi] at h; simp at h
  | some i =>
    rw [hi] at h
    simp at h
    exact ⟨i, rfl, h.1, h.2.1, h.2.2⟩
theorem meet_eg : ∀ args w, (callFunc 76 args).run Tryz.prog w = .ok (.enter 76 args) w := enters_of Tryz.func76 (by kernel_rfl) rfl
theorem St.drewN {W w : World} {nv : Value} {N sr sv mv fv gv : Nat} {m : List Int} (h : St W w nv N sr sv mv fv gv m) (q : Nat) : St W (w.drewN q) nv N sr sv mv fv gv m :=
  ⟨below_drewN h.b q, h.sc, h.fc, h.gc, h.row, h.met⟩
def MeetC (W : World) (nv : Value) (g : Gf) (sr sv mv fv gv f : Nat) : Prop :=
  ∀ (l m : List Int) (v : Value) (w : World), Ri W v l → (∀ x ∈ l, 0 ≤ x ∧ x < (g.nodes.length : Int)) → l.length ≤ 5000 → Ok g.nodes.length m → g.nodes.length ≤ m.length + f → St W w nv g.nodes.length sr sv mv fv gv m →
    Calls Tryz.prog 76 #[v, .pointer (some ⟨sv, 0, none⟩), .pointer (some ⟨mv, 0, none⟩), .pointer (some ⟨fv, 0, none⟩), .pointer (some ⟨gv, 0, none⟩)] w fun e w' => e = .returned (.tuple #[]) ∧ St W w' nv g.nodes.length sr sv mv fv gv (meetF g f l m)
theorem St.mark {W w : World} {sr sv mv fv gv : Nat} {m : List Int} {n : Nat} {ao : Option Addr} {c : Nat} (hB : Bks W sr sv mv fv gv) (hm : w.heap[mv]? = some (.cells #[.slice ao m.length c] 28 (0, 0)))
    (hown : w.ownsRow W.heap.size 3 1 (.slice ao m.length c) m.length (m.map (Value.int .i64))) (hk : ∀ k, Value.ownBlock (.slice ao m.length c) = some k → k ∉ [sr, sv, mv, fv, gv]) (o : Obj) :
    (w.setCell ⟨sr, n, none⟩ (.bool true)).cell? ⟨mv, 0, none⟩ = some (.slice ao m.length c) ∧ ((w.setCell ⟨sr, n, none⟩ (.bool true)).alloc o).ownsRow W.heap.size 3 1 (.slice ao m.length c) m.length (m.map (Value.int .i64)) := by
  have hnd := hB.nd
  simp only [List.nodup_cons, List.mem_cons, List.not_mem_nil, or_false, not_or, List.nodup_nil, and_true, not_false_eq_true] at hnd
  refine ⟨?_, own_block hown (fun k e => ?_)⟩
  · rw [World.cell?_of_block (a := ⟨mv, 0, none⟩) (Below.heap_setCell w ⟨sr, n, none⟩ _ mv (fun e => hnd.1.2.1 e.symm))]
    exact cell_of_one hm
  · have hlt := (hown.lt k e).2
    rw [Below.heap_alloc _ _ _ (by simpa using hlt), Below.heap_setCell _ _ _ _ (fun e' => hk k e (by rw [e']; simp))]
theorem far_one {w w2 : World} {row : Option Nat} {mv sr n : Nat} {v : Value} {o : Obj} {T : TypeId} (hm : w.heap[mv]? = some (.cells #[v] T (0, 0))) (hs : mv ≠ sr) (hg : ((w.setCell ⟨sr, n, none⟩ (.bool true)).alloc o).grownBy w2 row) (hr : some mv ≠ row) :
    w2.cell? ⟨mv, 0, none⟩ = some v ∧ w2.frozen? ⟨mv, 0, none⟩ = false := by
  have hlt := lt_of_block hm
  have h2 : w2.heap[mv]? = some (.cells #[v] T (0, 0)) := by
    rw [hg.block mv (by simp; omega) hr, Below.heap_alloc _ _ _ (by simpa using hlt), Below.heap_setCell _ _ _ _ hs]
    exact hm
  exact ⟨cell_of_one h2, free_of_one h2⟩
set_option maxHeartbeats 4000000 in
theorem meet_round {W : World} {nv : Value} {g : Gf} {sr sv mv fv gv : Nat} (hg : Good g) (hN : Rn W nv g.nodes) (hB : Bks W sr sv mv fv gv) (f : Nat) (l m : List Int) (v : Value) (w : World) (ih : g.nodes.length ≤ m.length ∨ MeetC W nv g sr sv mv fv gv f)
    (hv : Ri W v l) (hl : ∀ x ∈ l, 0 ≤ x ∧ x < (g.nodes.length : Int)) (hlen : l.length ≤ 5000) (hok : Ok g.nodes.length m) (hfu : g.nodes.length ≤ m.length + (f + 1)) (hst : St W w nv g.nodes.length sr sv mv fv gv m) :
    Calls Tryz.prog 76 #[v, .pointer (some ⟨sv, 0, none⟩), .pointer (some ⟨mv, 0, none⟩), .pointer (some ⟨fv, 0, none⟩), .pointer (some ⟨gv, 0, none⟩)] w fun e w' => e = .returned (.tuple #[]) ∧ St W w' nv g.nodes.length sr sv mv fv gv (meetF g (f + 1) l m) := by
  obtain ⟨i0, hi, hz0, hz1, hz2⟩ := info_parts infoI
  obtain ⟨ao, c, rfl, hv⟩ := hv
  have eg := meet_eg
  obtain ⟨na, nc, rfl, hNc⟩ := hN
  have hgn := hg.nodes
  go_enter Tryz.func76, Tryz.ntmps76
  go_wp2
  go_loopw [10] (fun i wr => ∃ k : Nat, k ≤ l.length ∧ i = .int .i64 k ∧ Hid (St W wr (.slice na g.nodes.length nc) g.nodes.length sr sv mv fv gv (meetF g (f + 1) (l.take k) m))) (fun i _ => l.length - (intOf i).toNat)
  case atStart => exact ⟨0, Nat.zero_le _, rfl, by simpa [Hid, meetF_succ] using hst⟩
  case round =>
    obtain ⟨k, hk, rfl, hS⟩ := hrel
    by_cases hlt : k < l.length
    · obtain ⟨lb, lo, rfl, hlc⟩ := hv k hlt
      have hx := hl _ (getD_mem hlt)
      obtain ⟨n, hn⟩ : ∃ n : Nat, l.getD k 0 = (n : Int) := ⟨(l.getD k 0).toNat, by omega⟩
      have hM := meet_ok hg (f + 1) (l.take k) m (fun x hx => hl x (List.mem_of_mem_take hx)) hok
      have hMo : Hid ((n : Int) ∈ meetF g (f + 1) (l.take k) m → meetF g (f + 1) (l.take (k + 1)) m = meetF g (f + 1) (l.take k) m) := fun h => by rw [take_snoc hlt, hn, meetF_old h]
      have hMn : Hid ((n : Int) ∉ meetF g (f + 1) (l.take k) m → meetF g (f + 1) (l.take (k + 1)) m = meetF g f (g.argsOf n) (meetF g (f + 1) (l.take k) m ++ [(n : Int)])) := fun h => by rw [take_snoc hlt, hn, meetF_new h]
      have hlc' : wr.cell? ⟨lb, lo + k, none⟩ = some (.int .i64 (n : Int)) := by rw [hS.out.b.cell (p := ⟨lb, lo + k, none⟩) (lt_of_cell hlc), hlc, hn]
      rw [hn] at hx
      have hnN : n < g.nodes.length := by omega
      generalize meetF g (f + 1) (l.take k) m = M at hS hM hMo hMn
      have s0 := hS.out.sc
      have s1 : wr.cell? ⟨sr, n, none⟩ = some (.bool (decide ((n : Int) ∈ M))) := by
        rw [cell_of_row wr sr n _ _ _ hS.out.row]
        exact seen_at hnN
      by_cases hin : (n : Int) ∈ M
      · rw [decide_eq_true hin] at s1
        have hS' : Hid (St W wr (.slice na g.nodes.length nc) g.nodes.length sr sv mv fv gv (meetF g (f + 1) (l.take (k + 1)) m)) := by rw [hMo.out hin]; exact hS
        clear hin hMo hMn hM hS hlc hv hl hn hst hNc ih
        go_wp2
        go_roundw
        case rel => exact ⟨k + 1, by omega, congrArg (Value.int .i64) (by omega), hS'⟩
        case measure => simp [intOf]; omega
      · rw [decide_eq_false hin] at s1
        have hMk := ok_snoc hM.1 hin hx.1 hx.2
        have hpre := hM.2.length_le
        have hML := hMk.le
        simp at hML
        have hC : MeetC W (.slice na g.nodes.length nc) g sr sv mv fv gv f := ih.resolve_left (fun h => by omega)
        have hS' := hid (fun (w' : World) (h : St W w' (.slice na g.nodes.length nc) g.nodes.length sr sv mv fv gv (meetF g f (g.argsOf n) (M ++ [(n : Int)]))) => (show St W w' (.slice na g.nodes.length nc) g.nodes.length sr sv mv fv gv (meetF g (f + 1) (l.take (k + 1)) m) by rw [hMn.out hin]; exact h))
        obtain ⟨mo, mc, hm0, hm1, hm2⟩ := hS.out.met
        have hmk := St.mark (n := n) hB hm0 hm1 hm2 (.cells #[.int .i64 (n : Int)] 3)
        obtain ⟨hm3, hm4⟩ := hmk
        have z1 : wr.frozen? ⟨sr, n, none⟩ = false := by simp [World.frozen?, hS.out.row]
        obtain ⟨nb, no, av, rfl, hnd⟩ := hNc n hnN
        have hargs : (g.nodes.getD n nd0).args = g.argsOf (n : Int) := by simp [Gf.argsOf]
        obtain ⟨_, _, _, n3, hA⟩ := hnd
        rw [hargs] at hA
        have hga := hg.args hx.1 hx.2
        have hcall : ∀ w' : World, St W w' (.slice (some ⟨nb, no, none⟩) g.nodes.length nc) g.nodes.length sr sv mv fv gv (M ++ [(n : Int)]) → _ := fun w' h => hC (g.argsOf n) (M ++ [(n : Int)]) av w' hA hga.1 (by omega) hMk (by simp; omega) h
        have hms : mv ≠ sr := fun e => by
          have := hB.nd
          simp [e] at this
        have hsz := hS.out.b.size
        have hbl : ∀ k, Value.ownBlock (.slice mo M.length mc) = some k → W.heap.size ≤ k := fun k e => (hm1.lt k e).1
        have hrm : some mv ≠ Value.ownBlock (.slice mo M.length mc) := fun e => hm2 mv e.symm (by simp)
        have hn3 := lt_of_cell n3
        clear hMo hMn hM hlc hv hl hn hst hNc ih hC hargs hA hga
        go_wp2_with (at_builtin; refine wpList_append_lies _ rfl _ _ _ rfl W.heap.size 3 i0 (.int .i64 0) 1 8 Tryz.underlying28 hi hz0 hz1 hz2 rfl (by decide) _ M.length (M.map (Value.int .i64)) rfl hm4 ⟨wr.heap.size, 0, none⟩ 1 1 [.int .i64 (n : Int)] rfl rfl (World.news_of_block (cs := #[.int .i64 (n : Int)]) (t := 3) (fr := (0, 0)) (by simpa using heap_alloc_new (wr.setCell ⟨sr, n, none⟩ (.bool true)) (.cells #[.int .i64 (n : Int)] 3))) (by simp [Value.oneCell']) (by omega) (by unfold maxLen; omega) (by omega) (by simp; omega) (wr.heap.size + 1) (by simp) ?_; intro gg cap w2 hown2 hgr hat hltg; obtain ⟨d0, d1⟩ := far_one hm0 hms hgr hrm)
        have hS3 := St.push hB hS.out hm0 hm2 hgr hown2 hat hbl
        have hp3 : ∀ w' : World, Below W.heap.size W w' → w'.cell? ⟨nb, no + n * 4 + 3, none⟩ = some av := fun w' h => by rw [h.cell (p := ⟨nb, no + n * 4 + 3, none⟩) hn3]; exact n3
        clear hgr hown2 hat d0 d1 hm0 hm1 hm2 hm3 hm4 hbl hrm hltg hS s0 s1 z1
        go_wp2
        generalize (w2.setCell ⟨mv, 0, none⟩ (.slice (some ⟨gg, 0, none⟩) (M.length + 1) cap)) = w3 at hS3 ⊢
        have c0 := hS3.fc
        have c1 := hS3.gc
        have c2 := hp3 _ hS3.b
        go_region_held3 (fun w' => w'.cell? ⟨fv, 0, none⟩ = some (.func (.func 76) #[] #[.pointer (some ⟨sv, 0, none⟩), .pointer (some ⟨mv, 0, none⟩), .pointer (some ⟨fv, 0, none⟩), .pointer (some ⟨gv, 0, none⟩)]) ∧ w'.cell? ⟨gv, 0, none⟩ = some (.slice (some ⟨nb, no, none⟩) g.nodes.length nc) ∧ w'.cell? ⟨nb, no + n * 4 + 3, none⟩ = some av) (first | exact ⟨c0, c1, c2⟩ | go_keep)
          (first | (go_at_call 76; refine Calls.mono (hcall _ (by exact hS3.drewN _)) ?_; rintro e w4 ⟨rfl, hS4⟩; clear c0 c1 c2; have c0 := hS4.fc; have c1 := hS4.gc; have c2 := hp3 _ hS4.b))
        all_goals go_wp2
        all_goals
          go_roundw
          case rel => exact ⟨k + 1, by omega, congrArg (Value.int .i64) (by omega), hS'.out _ hS4⟩
          case measure => simp [intOf]; omega
    · have hS' : Hid (St W wr (.slice na g.nodes.length nc) g.nodes.length sr sv mv fv gv (meetF g (f + 1) l m)) := by
        have := hS
        rw [List.take_of_length_le (by omega)] at this
        exact this
      clear hv hl hst hNc ih
      go_wp2
      go_end0
      exact ⟨rfl, hS'.out⟩
theorem meet_any {W : World} {nv : Value} {g : Gf} {sr sv mv fv gv : Nat} (hg : Good g) (hN : Rn W nv g.nodes) (hB : Bks W sr sv mv fv gv) : ∀ f : Nat, MeetC W nv g sr sv mv fv gv f
  | 0 => fun l m v w hv hl hlen hok hfu hst => by
    have h := meet_round hg hN hB 0 l m v w (Or.inl (by omega)) hv hl hlen hok (by omega) hst
    rw [meet_full hg 1 l m hl hok (by omega)] at h
    exact h
  | f + 1 => fun l m v w hv hl hlen hok hfu hst => meet_round hg hN hB f l m v w (Or.inr (meet_any hg hN hB f)) hv hl hlen hok hfu hst
end Go.Proofs.YtgmldkojldlekaaGreatDoor

namespace Go.Proofs.YtgmldkojldlekaaGreatDoor
set_option maxRecDepth 100000
open Go.RowKit
theorem wd_set {l : List Int} {j : Nat} {x : Int} (hj : j < l.length) (k : Nat) : wdN (l.set j x) k = if k = j then x else wdN l k := by
  unfold wdN
  by_cases e : k = j
  · subst e
    rw [if_pos rfl]
    simp [List.getD, hj]
  · rw [if_neg e]
    simp [List.getD, List.getElem?_set_ne (fun h => e h.symm)]
section
variable {l : List Int} {V : Nat → Bool} {j : Nat} {x : Int}
theorem tg_set (hj : j < l.length) {k : Nat} (e : k ≠ j) : tgN (l.set j x) k = tgN l k ∧ vlN (l.set j x) k = vlN l k := by
  unfold tgN vlN
  rw [wd_set hj, if_neg e]
  exact ⟨rfl, rfl⟩
theorem tg_new (hj : j < l.length) : tgN (l.set j x) j = x % 8 ∧ vlN (l.set j x) j = (valOf x).toNat := by
  unfold tgN vlN
  rw [wd_set hj, if_pos rfl]
  exact ⟨rfl, rfl⟩
theorem snd_set (h : Snd l V) (hj : j < l.length) (hx : 0 ≤ x ∧ x ≤ 18446744073709551615) (hg : goodB x = true)
    (hhd : (x % 8 = 4 ∨ x % 8 = 5) ↔ hdN l j)
    (h0 : x % 8 = 0 → (valOf x).toNat < l.length ∧ V (valOf x).toNat = true ∧ (V j = true → (valOf x).toNat ≤ j))
    (h3 : x % 8 = 3 → (valOf x).toNat < l.length ∧ hdN l (valOf x).toNat)
    (h5 : x % 8 = 5 → (valOf x).toNat < j ∧ hdN l (valOf x).toNat)
    (h4 : x % 8 ≠ 4) : Snd (l.set j x) V := by
  have hd : ∀ k, hdN (l.set j x) k ↔ hdN l k := fun k => by
    by_cases e : k = j
    · subst e
      rw [← hhd]
      unfold hdN
      rw [(tg_new hj).1]
    · unfold hdN
      rw [(tg_set hj e).1]
  have hl : (l.set j x).length = l.length := by simp
  refine ⟨fun k hk => ?_, fun y hy => ?_, fun k hk ht => ?_, fun k hk hv => ?_, fun k hk ht => ?_, fun k hk ht => ?_, fun k hk ht => ?_⟩
  · rw [hl] at hk
    rw [wd_set hj]
    split
    · exact hg
    · exact h.good k hk
  · rcases List.mem_or_eq_of_mem_set hy with h1 | rfl
    · exact h.rng y h1
    · exact hx
  · rw [hl] at hk ⊢
    by_cases e : k = j
    · subst e
      rw [(tg_new hj).1] at ht
      rw [(tg_new hj).2]
      exact h0 ht
    · rw [(tg_set hj e).1] at ht
      rw [(tg_set hj e).2]
      exact h.ref k hk ht
  · rw [hl] at hk
    rw [hd]
    exact h.own k hk hv
  · rw [hl] at hk ⊢
    rw [hd]
    by_cases e : k = j
    · subst e
      rw [(tg_new hj).1] at ht
      rw [(tg_new hj).2]
      exact h3 ht
    · rw [(tg_set hj e).1] at ht
      rw [(tg_set hj e).2]
      exact h.str k hk ht
  · rw [hl] at hk
    rw [hd]
    by_cases e : k = j
    · subst e
      rw [(tg_new hj).1] at ht
      rw [(tg_new hj).2]
      exact h5 ht
    · rw [(tg_set hj e).1] at ht
      rw [(tg_set hj e).2]
      exact h.fwd k hk ht
  · rw [hl] at hk ⊢
    have e : k ≠ j := fun e => by
      subst e
      rw [(tg_new hj).1] at ht
      exact h4 ht
    rw [(tg_set hj e).1] at ht
    have e2 : arN' (l.set j x) k = arN' l k := by
      unfold arN'
      rw [(tg_set hj e).2]
    rw [e2]
    obtain ⟨a1, a2⟩ := h.args k hk ht
    exact ⟨a1, fun i hi1 hi2 hh => a2 i hi1 hi2 ((hd _).1 hh)⟩
theorem snd_bind (h : Snd l V) (hj : j < l.length) (hV : V j = true) (hx : 0 ≤ x ∧ x ≤ 18446744073709551615) (hg : goodB x = true) (h45 : x % 8 ≠ 4 ∧ x % 8 ≠ 5) (h0 : x % 8 = 0 → (valOf x).toNat ≤ j ∧ V (valOf x).toNat = true) (h3 : x % 8 = 3 → (valOf x).toNat < l.length ∧ hdN l (valOf x).toNat) : Snd (l.set j x) V :=
  snd_set h hj hx hg (iff_of_false (by omega) (h.own j hj hV)) (fun e => ⟨by have := (h0 e).1; omega, (h0 e).2, fun _ => (h0 e).1⟩) h3 (fun e => absurd e h45.2) h45.1
theorem snd_fwd (h : Snd l V) (hj : j < l.length) (hh : hdN l j) {i : Nat} (hi : i < j) (hi2 : hdN l i) (hx : 0 ≤ x ∧ x ≤ 18446744073709551615) (hg : goodB x = true) (ht : x % 8 = 5) (hv : valOf x = (i : Int)) : Snd (l.set j x) V :=
  snd_set h hj hx hg (iff_of_true (Or.inr ht) hh) (fun e => by omega) (fun e => by omega) (fun _ => by rw [hv, Int.toNat_natCast]; exact ⟨hi, hi2⟩) (by omega)
end
end Go.Proofs.YtgmldkojldlekaaGreatDoor

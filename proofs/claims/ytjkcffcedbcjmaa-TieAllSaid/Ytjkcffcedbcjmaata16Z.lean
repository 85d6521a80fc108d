/- A square of answers in memory: a row of rows, each in a block of its own. -/
import Derived.Deep.RegionHeld3
import Derived.Deep.QuietTactic
import Derived.BigQuiet
import Derived.Deep.DrawnRows
import Derived.Test.Ytjkcffcedbcjmaata08Z
import Derived.Test.Ytjkcffcedbcjmaata15Z
import Derived.Test.Ytjkcffcedbcjmaata06Z
import Derived.Test.Ytjkcffcedbcjmaata12Z
import Derived.Test.Ytjkcffcedbcjmaata11Z
namespace Go.Proofs.Ytjkcffcedbcjmaa
set_option maxRecDepth 100000
open Go.RowKit
def sqV (N : Nat) (f : Nat → Value) : Array Value := (Array.range N).map f
theorem sqV_at {N a : Nat} (f : Nat → Value) (h : a < N) : (sqV N f)[a]? = some (f a) := by simp [sqV, h]
theorem sqV_set (N a : Nat) (f : Nat → Value) (x : Value) : (sqV N f).setIfInBounds a x = sqV N (fun i => if i = a then x else f i) := by
  unfold sqV
  apply Array.ext
  · simp
  · intro i h1 h2
    rw [Array.getElem_setIfInBounds (by simpa using h1)]
    simp only [Array.getElem_map, Array.getElem_range]
    by_cases e : a = i
    · rw [if_pos e, if_pos e.symm]
    · rw [if_neg e, if_neg (fun e' => e e'.symm)]
theorem sqV_congr {N : Nat} {f g : Nat → Value} (h : ∀ i, i < N → f i = g i) : sqV N f = sqV N g := by
  unfold sqV
  apply Array.ext
  · simp
  · intro i h1 h2
    simp only [Array.getElem_map, Array.getElem_range]
    exact h i (by simpa using h1)
theorem infoBS : (Try.prog.info? 135).map (fun i => (i.zero, i.size, i.bytes)) = some (some (.slice none 0 0), 1, 24) := by kernel_rfl
theorem infoBo : (Try.prog.info? 4).map (fun i => (i.zero, i.size, i.bytes)) = some (some (.bool false), 1, 1) := by kernel_rfl
theorem made_sq (N : Nat) (z : Value) : madeCells #[z] N = sqV N (fun _ => z) := by
  apply Array.ext
  · simp [size_madeCells, sqV]
  · intro i h1 h2
    simp [madeCells, sqV, Nat.mod_one]
theorem make_top (N : Nat) (hN : N ≤ 5000) (w : World) :
    (Instr.makeSlice 133 (.int .i64 (N : Int)) (.int .i64 (N : Int))).run Try.prog w = .ok (.slice (some ⟨w.heap.size, 0, none⟩) N N) (w.alloc (.cells (sqV N (fun _ => .slice none 0 0)) 135)) := by
  obtain ⟨i0, hi, hz0, hz1, hz2⟩ := info_parts infoBS
  have := run_make (P := Try.prog) w 133 135 i0 (.slice none 0 0) Try.underlying133 hi hz0 .i64 .i64 (N : Int) (N : Int) (by omega) (by omega) (by rw [hz2]; omega) (by omega)
  rw [this, hz1]
  simp only [Int.toNat_natCast, Nat.mul_one]
  rw [← made_sq]
  rfl
theorem make_row (N : Nat) (hN : N ≤ 5000) (w : World) :
    (Instr.makeSlice 135 (.int .i64 (N : Int)) (.int .i64 (N : Int))).run Try.prog w = .ok (.slice (some ⟨w.heap.size, 0, none⟩) N N) (w.alloc (.cells (sqV N (fun _ => .bool false)) 4)) := by
  obtain ⟨i0, hi, hz0, hz1, hz2⟩ := info_parts infoBo
  have := run_make (P := Try.prog) w 135 4 i0 (.bool false) Try.underlying135 hi hz0 .i64 .i64 (N : Int) (N : Int) (by omega) (by omega) (by rw [hz2]; omega) (by omega)
  rw [this, hz1]
  simp only [Int.toNat_natCast, Nat.mul_one]
  rw [← made_sq]
  rfl
structure Sq (W : World) (N m : Nat) (rb : Nat → Nat) (nv rv : Value) (s : Sqr) (w : World) : Prop where
  box : w.heap[W.heap.size]? = some (.cells #[nv, rv] 29)
  top : w.heap[W.heap.size + 1]? = some (.cells (sqV N fun i => if i < m then .slice (some ⟨rb i, 0, none⟩) N N else .slice none 0 0) 135)
  row : ∀ i, i < m → w.heap[rb i]? = some (.cells (sqV N fun j => .bool (s i j)) 4)
  low : ∀ i, i < m → W.heap.size + 2 ≤ rb i
  inj : ∀ i j, i < m → j < m → rb i = rb j → i = j
  le : m ≤ N
  below : Below W.heap.size W w
section
variable {W w w' : World} {N m : Nat} {rb : Nat → Nat} {nv rv : Value} {s : Sqr}
theorem sq_keep {k : Nat} {o : Obj} (h : w.heap[k]? = some o) (hb : Below w.heap.size w w') : w'.heap[k]? = some o := by
  rw [hb.block k (lt_of_block h)]
  exact h
theorem Sq.next (h : Sq W N m rb nv rv s w) (hb : Below w.heap.size w w') : Sq W N m rb nv rv s w' :=
  ⟨sq_keep h.box hb, sq_keep h.top hb, fun i hi => sq_keep (h.row i hi) hb, h.low, h.inj, h.le, Below.next h.below hb⟩
theorem Sq.cellB (h : Sq W N m rb nv rv s w) : w.cell? ⟨W.heap.size, 0, none⟩ = some nv ∧ w.cell? ⟨W.heap.size, 1, none⟩ = some rv := by
  have := h.box
  constructor <;> simp [World.cell?, this]
theorem Sq.cellT (h : Sq W N m rb nv rv s w) {i : Nat} (hi : i < m) : w.cell? ⟨W.heap.size + 1, i, none⟩ = some (.slice (some ⟨rb i, 0, none⟩) N N) := by
  have h1 := h.top
  have h2 := sqV_at (N := N) (fun i => if i < m then Value.slice (some ⟨rb i, 0, none⟩) N N else .slice none 0 0) (a := i) (by have := h.le; omega)
  simp only [if_pos hi] at h2
  simp [World.cell?, h1, h2]
theorem Sq.cell (h : Sq W N m rb nv rv s w) {i j : Nat} (hi : i < m) (hj : j < N) : w.cell? ⟨rb i, j, none⟩ = some (.bool (s i j)) ∧ w.frozen? ⟨rb i, j, none⟩ = false := by
  have h1 := h.row i hi
  have h2 := sqV_at (N := N) (fun j => Value.bool (s i j)) hj
  constructor <;> simp [World.cell?, World.frozen?, h1, h2]
theorem Sq.set (h : Sq W N m rb nv rv s w) {i j : Nat} (hi : i < m) (x : Bool) : Sq W N m rb nv rv (fun a b => if a = i ∧ b = j then x else s a b) (w.setCell ⟨rb i, j, none⟩ (.bool x)) := by
  have hl := h.low i hi
  have far : ∀ k, k ≠ rb i → (w.setCell ⟨rb i, j, none⟩ (.bool x)).heap[k]? = w.heap[k]? := fun k hk => Below.heap_setCell w ⟨rb i, j, none⟩ _ k hk
  refine ⟨by rw [far _ (by omega)]; exact h.box, by rw [far _ (by omega)]; exact h.top, fun a ha => ?_, h.low, h.inj, h.le, h.below.setCell (p := ⟨rb i, j, none⟩) (by show W.heap.size ≤ rb i; omega) _⟩
  by_cases e : a = i
  · subst e
    have h1 := heap_setCell_same w (rb a) j _ _ (.bool x) (h.row a ha)
    rw [sqV_set] at h1
    rw [h1]
    congr 2
    apply sqV_congr
    intro b _
    by_cases e2 : b = j <;> simp [e2]
  · rw [far _ (fun e2 => e (h.inj a i ha hi e2))]
    simp only [e, false_and, if_false]
    exact h.row a ha
theorem Sq.more (h : Sq W N m rb nv rv s w) (hm : m < N) :
    Sq W N (m + 1) (fun i => if i = m then w.heap.size else rb i) nv rv (fun a b => if a = m then false else s a b) ((w.setCell ⟨W.heap.size + 1, m, none⟩ (.slice (some ⟨w.heap.size, 0, none⟩) N N)).alloc (.cells (sqV N (fun _ => .bool false)) 4)) := by
  have hz := lt_of_block h.top
  have hzs : (w.setCell ⟨W.heap.size + 1, m, none⟩ (.slice (some ⟨w.heap.size, 0, none⟩) N N)).heap.size = w.heap.size := by simp
  have far : ∀ k, k ≠ W.heap.size + 1 → k < w.heap.size → ((w.setCell ⟨W.heap.size + 1, m, none⟩ (.slice (some ⟨w.heap.size, 0, none⟩) N N)).alloc (.cells (sqV N (fun _ => .bool false)) 4)).heap[k]? = w.heap[k]? := fun k hk hl => by
    rw [Below.heap_alloc _ _ _ (by rw [hzs]; exact hl), Below.heap_setCell w ⟨W.heap.size + 1, m, none⟩ _ k hk]
  refine ⟨by rw [far _ (by omega) (by omega)]; exact h.box, ?_, fun a ha => ?_, fun a ha => ?_, fun a b ha hb e => ?_, by omega, ?_⟩
  · rw [Below.heap_alloc _ _ _ (by rw [hzs]; exact hz), heap_setCell_same w (W.heap.size + 1) m _ _ (.slice (some ⟨w.heap.size, 0, none⟩) N N) h.top, sqV_set]
    congr 2
    apply sqV_congr
    intro i _
    by_cases e : i = m
    · simp [e]
    · by_cases e2 : i < m
      · simp [e, e2, Nat.lt_succ_of_lt e2]
      · simp [e, e2, show ¬ i < m + 1 by omega]
  · by_cases e : a = m
    · subst e
      simp only [if_true]
      have := heap_alloc_new (w.setCell ⟨W.heap.size + 1, a, none⟩ (.slice (some ⟨w.heap.size, 0, none⟩) N N)) (.cells (sqV N (fun _ => .bool false)) 4)
      rw [hzs] at this
      exact this
    · have ha' : a < m := by omega
      have h1 := h.row a ha'
      have h2 := h.low a ha'
      simp only [e, if_false]
      rw [far _ (by omega) (lt_of_block h1)]
      exact h1
  · by_cases e : a = m
    · simp only [e, if_true]
      omega
    · simp only [e, if_false]
      exact h.low a (by omega)
  · by_cases e1 : a = m <;> by_cases e2 : b = m
    · omega
    · have := lt_of_block (h.row b (by omega))
      simp only [e1, e2, if_true, if_false] at e
      omega
    · have := lt_of_block (h.row a (by omega))
      simp only [e1, e2, if_true, if_false] at e
      omega
    · simp only [e1, e2, if_false] at e
      exact h.inj a b (by omega) (by omega) e
  · have hw := h.below.size
    exact (h.below.setCell (p := ⟨W.heap.size + 1, m, none⟩) (by show W.heap.size ≤ W.heap.size + 1; omega) _).alloc (by rw [hzs]; omega) _
end
end Go.Proofs.Ytjkcffcedbcjmaa

namespace Go.Proofs.Ytjkcffcedbcjmaa
set_option maxRecDepth 100000
open Go.RowKit
theorem Sq.start {W : World} {N : Nat} {nv rv : Value} (rb : Nat → Nat) (s : Sqr) : Sq W N 0 rb nv rv s ((W.alloc (.cells #[nv, rv] 29)).alloc (.cells (sqV N (fun _ => .slice none 0 0)) 135)) := by
  refine ⟨?_, ?_, fun i hi => by omega, fun i hi => by omega, fun i j hi => by omega, Nat.zero_le _, ((Below.refl _ W).alloc (Nat.le_refl _) _).alloc (by simp) _⟩
  · rw [Below.heap_alloc _ _ _ (by simp)]
    exact heap_alloc_new W _
  · have := heap_alloc_new (W.alloc (.cells #[nv, rv] 29)) (.cells (sqV N (fun _ => .slice none 0 0)) 135)
    simpa using this
def Lso (g : Gf) (s : Sqr) (k m : Nat) : Prop := (∀ a b, a < k → b < g.nodes.length → s a b = rlab g a b) ∧ ∀ b, b < m → s k b = rlab g k b
theorem Lso.put {g : Gf} {s : Sqr} {k m : Nat} (h : Lso g s k m) : Lso g (fun a b => if a = k ∧ b = m then rlab g k m else s a b) k (m + 1) :=
  ⟨fun a b ha hb => (if_neg (by omega)).trans (h.1 a b ha hb), fun b hb => by
    by_cases e : b = m
    · subst e
      simp
    · exact (if_neg (by omega)).trans (h.2 b (by omega))⟩
theorem Lso.row {g : Gf} {s : Sqr} {k : Nat} (h : Lso g s k g.nodes.length) : Lso g s (k + 1) 0 :=
  ⟨fun a b ha hb => by
    by_cases e : a = k
    · subst e
      exact h.2 b hb
    · exact h.1 a b (by omega) hb, fun b hb => by omega⟩
theorem Lso.fresh {g : Gf} {s : Sqr} {k : Nat} (h : Lso g s k 0) : Lso g (fun a b => if a = k then false else s a b) k 0 :=
  ⟨fun a b ha hb => (if_neg (by omega)).trans (h.1 a b ha hb), fun b hb => by omega⟩
theorem cntS_congr {s t : Sqr} {N : Nat} : ∀ {n : Nat}, (∀ i j, i < n → j < N → s i j = t i j) → cntS s N n = cntS t N n
  | 0, _ => rfl
  | n + 1, h => by rw [cntS, cntS, cntS_congr (fun i j hi hj => h i j (by omega) hj), cntR_congr (fun x hx => h n x (by omega) hx)]
def sqOf (rb : Nat → Nat) (w : World) : Sqr := fun i j => match w.cell? ⟨rb i, j, none⟩ with | some (.bool b) => b | _ => false
theorem Sq.of {W w : World} {N : Nat} {rb : Nat → Nat} {nv rv : Value} {s : Sqr} (h : Sq W N N rb nv rv s w) : cntS (sqOf rb w) N N = cntS s N N :=
  cntS_congr fun i j hi hj => by simp only [sqOf, (h.cell hi hj).1]
def moN : Value → Nat
  | .bool true => 1
  | _ => 0
theorem Rn.argAt {w : World} {na : Option Addr} {nc N : Nat} {g : Gf} (h : Rn w (.slice na N nc) g.nodes) (hN : N = g.nodes.length) {a : Nat} (ha : a < N) :
    ∃ b o aa ac, na = some ⟨b, o, none⟩ ∧ w.cell? ⟨b, o + a * 4 + 3, none⟩ = some (.slice aa (arN g a) ac) ∧ ∀ k, k < arN g a → ∃ b' o', aa = some ⟨b', o', none⟩ ∧ w.cell? ⟨b', o' + k, none⟩ = some (.int .i64 (g.arg (a : Int) k)) := by
  obtain ⟨ao, c, e, hc⟩ := h
  injection e with e1 _ _
  subst e1
  obtain ⟨b, o, av, rfl, n0, n1, n2, n3, n4⟩ := hc a (by omega)
  obtain ⟨aa, ac, rfl, n5⟩ := n4
  exact ⟨b, o, aa, ac, rfl, n3, n5⟩
set_option maxHeartbeats 8000000 in
theorem pairs_any {W : World} {na : Option Addr} {nc : Nat} {rv : Value} {g : Gf} (hR : Rn W (.slice na g.nodes.length nc) g.nodes) (hg : Good g) :
    Calls Try.prog 80 #[.agg #[.slice na g.nodes.length nc, rv]] W fun e w' => ∃ rb s, e = .returned (.slice (some ⟨W.heap.size + 1, 0, none⟩) g.nodes.length g.nodes.length) ∧ Sq W g.nodes.length g.nodes.length rb (.slice na g.nodes.length nc) rv s w' ∧ (∀ i j, i < g.nodes.length → j < g.nodes.length → (s i j = true ↔ Al g (i : Int) (j : Int))) := by
  have hN5 := hg.nodes
  have hl : ∀ n ∈ g.nodes, n.args.length ≤ 5000 := fun n hn => by have := (good_args (hg.node n hn)).2; omega
  obtain ⟨N, hN⟩ : ∃ N, N = g.nodes.length := ⟨_, rfl⟩
  rw [← hN] at hR hN5 ⊢
  have hmt := make_top N (by omega)
  have hmr := make_row N (by omega)
  have hlb := fun (w : World) (hb : Below W.heap.size W w) (i j : Nat) (hi : i < N) (hj : j < N) => rlab_any (rv := rv) (g := g) (W := w) (na := na) (nc := nc) (by rw [← hN]; exact hR.below hb) hl (i := i) (j := j) (by omega) (by omega)
  rw [← hN] at hlb
  have HN := hid hN
  clear hN
  go_enter Try.func80, Try.ntmps80
  go_wp2
  go_loopw [5] (fun i wr => ∃ (k : Nat) (rb : Nat → Nat) (s : Sqr), k ≤ N ∧ i = .int .i64 (k : Int) ∧ Sq W N k rb (.slice na N nc) rv s wr ∧ Hid (Lso g s k 0)) (fun i _ => N - (intOf i).toNat)
  case atStart => exact ⟨0, fun _ => 0, fun _ _ => false, by omega, rfl, Sq.start _ _, ⟨fun a b ha => by omega, fun b hb => by omega⟩⟩
  case round =>
    obtain ⟨k, rb, s, hk, rfl, hS, hLs⟩ := hrel
    by_cases hlt : k < N
    · have hS2 := hS.more hlt
      have hL2 := hid hLs.out.fresh
      obtain ⟨rb2, hrb⟩ : ∃ r, r = (fun i => if i = k then wr.heap.size else rb i) := ⟨_, rfl⟩
      rw [← hrb] at hS2
      have hz := lt_of_block hS.top
      have hfz : wr.frozen? ⟨W.heap.size + 1, k, none⟩ = false := by have := hS.top; simp [World.frozen?, this]
      have hct : ∃ u, wr.cell? ⟨W.heap.size + 1, k, none⟩ = some u := by have := hS.top; exact ⟨_, by simp [World.cell?, this, sqV_at _ hlt]; rfl⟩
      obtain ⟨u, hct⟩ := hct
      go_wp2
      go_loopw [6] (fun j w2 => ∃ (m : Nat) (s2 : Sqr), m ≤ N ∧ j = .int .i64 (m : Int) ∧ Sq W N (k + 1) rb2 (.slice na N nc) rv s2 w2 ∧ Hid (Lso g s2 k m)) (fun j _ => N - (intOf j).toNat)
      case atStart => exact ⟨0, _, by omega, rfl, hS2, hL2⟩
      case round =>
        obtain ⟨m, s2, hm, rfl, hS3, hL3⟩ := hrel
        clear hS2 hL2 hrb hct hfz hz
        by_cases hlt2 : m < N
        · obtain ⟨cb0, cb1⟩ := hS3.cellB
          have ct := hS3.cellT (i := k) (by omega)
          obtain ⟨cc, cf⟩ := hS3.cell (i := k) (j := m) (by omega) hlt2
          have hcall := fun w (hb : Below wr.heap.size wr w) => hlb w (Below.next hS3.below hb) k m hlt hlt2
          go_wp2
          go_region_held3 (fun w' => w'.cell? ⟨W.heap.size, 0, none⟩ = some (.slice na N nc) ∧ w'.cell? ⟨W.heap.size, 1, none⟩ = some rv ∧ w'.cell? ⟨W.heap.size + 1, k, none⟩ = some (.slice (some ⟨rb2 k, 0, none⟩) N N)) (first | exact ⟨cb0, cb1, ct⟩ | exact ⟨cb0', cb1', ct'⟩ | exact ⟨(hS4.set (by omega) _).cellB.1, (hS4.set (by omega) _).cellB.2, (hS4.set (by omega) _).cellT (by omega)⟩ | go_keep)
            (first | (go_at_call 99; go_must (refine (hcall _ (by first | exact Below.refl _ _ | exact (Below.refl _ _).drew)).mono ?_; rintro e w4 ⟨rfl, hb4⟩; have hS4 := hS3.next (show Below wr.heap.size wr w4 from (by first | exact hb4 | exact ((Below.refl _ wr).drew).trans hb4)); obtain ⟨cb0', cb1'⟩ := hS4.cellB; have ct' := hS4.cellT (i := k) (by omega); obtain ⟨cc', cf'⟩ := hS4.cell (i := k) (j := m) (by omega) hlt2)))
          all_goals go_wp2
          go_roundw
          case rel => exact ⟨m + 1, _, by omega, by go_num, hS4.set (i := k) (j := m) (by omega) (rlab g k m), hL3.out.put⟩
          case measure => simp [intOf]; omega
        · have hmN : m = g.nodes.length := by have := HN.out; omega
          have hL4 := hL3.out
          rw [hmN] at hL4
          have hL5 := hid hL4.row
          clear hL3 hL4 hmN
          go_wp2
          go_roundw
          case rel => exact ⟨k + 1, rb2, s2, by omega, by go_num, hS3, hL5⟩
          case measure => simp [intOf]; omega
    · have hkN : N = k := by omega
      subst hkN
      have HP : Hid (Pin g s) := Pin.start (fun i j hi hj => by rw [hLs.out.1 i j (by rw [HN.out]; exact hi) hj]; exact rlab_iff)
      clear hLs hmt hmr hlb hlt hk
      go_wp2
      go_loopw [7] (fun v w3 => ∃ (s : Sqr) (mo : Bool), v = .bool mo ∧ Sq W N N rb (.slice na N nc) rv s w3 ∧ Hid (Pin g s) ∧ Hid (mo = false → ∀ i j, i < N → j < N → (s i j = true ↔ Al g (i : Int) (j : Int)))) (fun v w3 => 2 * cntS (sqOf rb w3) N N + moN v)
      case atStart => exact ⟨s, true, rfl, hS, HP, fun e => by cases e⟩
      case round =>
        clear hS HP s
        obtain ⟨s, mo, rfl, hS, hP, hF⟩ := hrel
        have hmeas := hS.of
        cases mo with
        | false =>
          have hF2 := hid (hF.out rfl)
          clear hF
          go_wp2
          go_ret
          first | exact ⟨rb, s, rfl, hS, hF2.out⟩ | exact ⟨rfl, rb, s, hS, hF2.out⟩ | exact ⟨rb, rfl, s, hS, hF2.out⟩
        | true =>
          have hRo := hid (Rod.start hP.out)
          clear hF hP
          go_wp2
          go_loopw [7, 8] (fun mo i w4 => ∃ (s2 : Sqr) (more : Bool) (a : Nat), mo = .bool more ∧ i = .int .i64 (a : Int) ∧ a ≤ N ∧ Sq W N N rb (.slice na N nc) rv s2 w4 ∧ Hid (Rod g s s2 more a 0)) (fun _ i _ => N - (intOf i).toNat)
          case atStart => exact ⟨s, false, 0, rfl, rfl, by omega, hS, hRo⟩
          case round =>
            obtain ⟨s2, more, a, rfl, rfl, ha, hS2, hR2⟩ := hrel
            by_cases hlta : a < N
            · go_wp2
              go_loopw [7, 9] (fun mo j w5 => ∃ (s3 : Sqr) (more3 : Bool) (b : Nat), mo = .bool more3 ∧ j = .int .i64 (b : Int) ∧ b ≤ N ∧ Sq W N N rb (.slice na N nc) rv s3 w5 ∧ Hid (Rod g s s3 more3 a b)) (fun _ j _ => N - (intOf j).toNat)
              case atStart => exact ⟨s2, more, 0, rfl, rfl, by omega, hS2, hR2⟩
              case round =>
                obtain ⟨s3, more3, b, rfl, rfl, hb, hS3, hR3⟩ := hrel
                by_cases hltb : b < N
                · have ct := hS3.cellT (i := a) hlta
                  obtain ⟨cc, _⟩ := hS3.cell (i := a) (j := b) hlta hltb
                  cases hsab : s3 a b with
                  | true =>
                    rw [hsab] at cc
                    have hR4 := hid (hR3.out.enter (by rw [← HN.out]; exact hlta) (by rw [← HN.out]; exact hltb) hsab)
                    go_wp2
                    go_loopw [7, 10] (fun mo k w6 => ∃ (s4 : Sqr) (more4 : Bool) (c : Nat), mo = .bool more4 ∧ k = .int .i64 (c : Int) ∧ c ≤ arN g a ∧ Sq W N N rb (.slice na N nc) rv s4 w6 ∧ Hid (Rok g s s4 more4 a b c)) (fun _ k _ => arN g a - (intOf k).toNat)
                    case atStart => exact ⟨s3, more3, 0, rfl, rfl, by omega, hS3, hR4⟩
                    case round =>
                      clear ct cc
                      obtain ⟨s4, more4, c, rfl, rfl, hc, hS4, hR5⟩ := hrel
                      have hRw : Rn wr (.slice na N nc) g.nodes := hR.below hS4.below
                      obtain ⟨nb, no, aa, ac, hna, na3, naC⟩ := hRw.argAt HN.out hlta
                      obtain ⟨nb', no', ba, bc, hnb, nb3, nbC⟩ := hRw.argAt HN.out hltb
                      subst hna
                      injection hnb with hnb
                      injection hnb with e1 e2 _
                      subst e1 e2
                      obtain ⟨cb0, cb1⟩ := hS4.cellB
                      have hsame := hR5.out.same
                      have hla : arN g a ≤ 5000 := hl _ (by show g.nodes.getD a nd0 ∈ g.nodes; have := HN.out; simp [List.getD, show a < g.nodes.length by omega])
                      have haG : a < g.nodes.length := by have := HN.out; omega
                      have hbG : b < g.nodes.length := by have := HN.out; omega
                      clear hRw
                      by_cases hltc : c < arN g a
                      · obtain ⟨xb, xo, hxa, xc⟩ := naC c hltc
                        obtain ⟨yb, yo, hya, yc⟩ := nbC c (by omega)
                        subst hxa hya
                        obtain ⟨l1, l2⟩ := argPN_lt hg haG hltc
                        obtain ⟨r1, r2⟩ := argPN_lt hg hbG (k := c) (by omega)
                        rw [← l2] at xc
                        rw [← r2] at yc
                        rw [← HN.out] at l1 r1
                        have hcb : c < arN g b := by omega
                        clear naC nbC l2 r2 haG hbG
                        obtain ⟨p, hp⟩ : ∃ p, p = argPN g a c := ⟨_, rfl⟩
                        obtain ⟨q, hq⟩ : ∃ q, q = argPN g b c := ⟨_, rfl⟩
                        rw [← hp] at xc l1
                        rw [← hq] at yc r1
                        have ctp := hS4.cellT (i := p) l1
                        have ccp := (hS4.cell (i := p) (j := q) l1 r1).1
                        cases hst : s4 p q with
                        | true =>
                          rw [hst] at ccp
                          have hR6 := hid (hR5.out.ok (by rw [← hp, ← hq]; exact hst))
                          clear hp hq hsame
                          go_wp2
                          go_quiet (fail)
                          go_wp2
                          go_roundw
                          case rel => exact ⟨s4, more4, c + 1, rfl, by go_num, by omega, hS4.next (below_drewN (Below.refl _ _) _), hR6⟩
                          case measure => simp [intOf]; omega
                        | false =>
                          rw [hst] at ccp
                          have hR6 := hid (hR5.out.strike hg (by rw [← HN.out]; exact hlta) (by rw [← HN.out]; exact hltb) hltc (by rw [← hp, ← hq]; exact hst))
                          have cta := hS4.cellT (i := a) hlta
                          obtain ⟨cca, cfa⟩ := hS4.cell (i := a) (j := b) hlta hltb
                          clear hp hq hsame
                          go_wp2
                          go_quiet (fail)
                          go_wp2
                          go_roundw
                          case rel => exact ⟨strike s4 a b, true, c + 1, rfl, by go_num, by omega, (hS4.next (below_drewN (Below.refl _ _) _)).set hlta false, hR6⟩
                          case measure => simp [intOf]; omega
                      · have hcN : c = arN g a := by omega
                        have hR6 := hR5.out
                        rw [hcN] at hR6
                        have hR7 := hid hR6.leave
                        clear hR5 hR6 hcN naC nbC hsame haG hbG
                        go_wp2
                        go_roundw
                        case rel => exact ⟨s4, more4, b + 1, rfl, by go_num, by omega, hS4, hR7⟩
                        case measure => simp [intOf]; omega
                  | false =>
                    rw [hsab] at cc
                    have hR4 := hid (hR3.out.skip hsab)
                    go_wp2
                    go_roundw
                    case rel => exact ⟨s3, more3, b + 1, rfl, by go_num, by omega, hS3, hR4⟩
                    case measure => simp [intOf]; omega
                · have hbN : b = g.nodes.length := by have := HN.out; omega
                  have hR4 := hR3.out
                  rw [hbN] at hR4
                  have hR5 := hid hR4.row
                  clear hR3 hR4 hbN
                  go_wp2
                  go_roundw
                  case rel => exact ⟨s3, more3, a + 1, rfl, by go_num, by omega, hS3, hR5⟩
                  case measure => simp [intOf]; omega
            · have haN : a = g.nodes.length := by have := HN.out; omega
              have hR4 := hR2.out
              rw [haN] at hR4
              have hlt4 := hR4.lt
              have hle4 := hR4.le
              rw [← HN.out, ← hS2.of, ← hmeas] at hlt4 hle4
              have hF2 : Hid (more = false → ∀ i j, i < N → j < N → (s2 i j = true ↔ Al g (i : Int) (j : Int))) := fun hm i j hi hj => by
                subst hm
                exact hR4.last hg (by rw [← HN.out]; exact hi) (by rw [← HN.out]; exact hj)
              have hP2 := hid hR4.pin
              clear hR2 hR4 haN
              go_wp2
              go_roundw
              case rel => exact ⟨s2, more, rfl, hS2, hP2, hF2⟩
              case measure =>
                cases more with
                | false =>
                  simp only [moN]
                  omega
                | true =>
                  have := hlt4 rfl
                  simp only [moN]
                  omega
end Go.Proofs.Ytjkcffcedbcjmaa

namespace Go.Proofs.Ytjkcffcedbcjmaa
set_option maxRecDepth 100000
open Go.RowKit
set_option maxHeartbeats 4000000 in
theorem rmet_any {W : World} {nv rv fv : Value} {g : Gf} {l : List Int} (hg : Good g) (hG : Gr W nv rv g) (hF : Ri W fv l) (hl : ∀ x ∈ l, 0 ≤ x ∧ x < (g.nodes.length : Int)) (hlen : l.length ≤ 5000) :
    Calls Try.prog 65 #[.agg #[nv, rv], fv] W fun e w' => (∃ ao c, e = .returned (.slice ao (meetF g (g.nodes.length + 1) l []).length c) ∧ w'.ownsRow W.heap.size 3 1 (.slice ao (meetF g (g.nodes.length + 1) l []).length c) (meetF g (g.nodes.length + 1) l []).length ((meetF g (g.nodes.length + 1) l []).map (Value.int .i64))) ∧ Below W.heap.size W w' := by
  have hgn := hg.nodes
  have hmk := make_bools g.nodes.length (by omega)
  have hN := hG.1
  obtain ⟨na, nc, rfl, _⟩ := hG.1
  obtain ⟨ra, rc, rfl, _⟩ := hG.2
  obtain ⟨fa, fc, rfl, hFc⟩ := hF
  go_enter Try.func65, Try.ntmps65
  have cA : (W.alloc (.cells #[.slice na g.nodes.length nc, .slice ra g.roots.length rc] 29)).heap[W.heap.size]? = _ := heap_alloc_new W _
  obtain ⟨⟨c0, c1⟩, _⟩ := blk2 cA
  go_wp2
  have hB : Rb W (W.heap.size + 1) (W.heap.size + 1 + 1) := ⟨by omega, by omega, by omega⟩
  have hC := rmeet_any (rv := .slice ra g.roots.length rc) hg hN hB g.nodes.length
  have hS0 : Hid (Rm W (((W.alloc (.cells #[.slice na g.nodes.length nc, .slice ra g.roots.length rc] 29)).alloc (.cells (seenArr g.nodes.length []) 4)).alloc (.cells #[.slice na g.nodes.length nc, .slice ra g.roots.length rc, .slice (some ⟨W.heap.size + 1, 0, none⟩) g.nodes.length g.nodes.length, .slice none 0 0] 138)).drew (.slice na g.nodes.length nc) (.slice ra g.roots.length rc) g.nodes.length (W.heap.size + 1) (W.heap.size + 1 + 1) []) := by
    refine ⟨(((below_alloc W _).alloc (by simp) _).alloc (by simp <;> omega) _).drew, ?_, ⟨none, 0, ?_, World.ownsRow_nil _ _ _ _, fun k e => by simp [Value.ownBlock] at e⟩⟩
    · show (((W.alloc _).alloc _).alloc _).heap[_]? = _
      rw [Below.heap_alloc _ _ _ (by simp)]
      simpa using heap_alloc_new (W.alloc (.cells #[.slice na g.nodes.length nc, .slice ra g.roots.length rc] 29)) (.cells (seenArr g.nodes.length []) 4)
    · show (((W.alloc _).alloc _).alloc _).heap[_]? = _
      simpa using heap_alloc_new ((W.alloc (.cells #[.slice na g.nodes.length nc, .slice ra g.roots.length rc] 29)).alloc (.cells (seenArr g.nodes.length []) 4)) (.cells #[.slice na g.nodes.length nc, .slice ra g.roots.length rc, .slice (some ⟨W.heap.size + 1, 0, none⟩) g.nodes.length g.nodes.length, .slice none 0 0] 138)
  go_region_law (fail)
  all_goals go_wp2
  all_goals
    generalize (((W.alloc (.cells #[.slice na g.nodes.length nc, .slice ra g.roots.length rc] 29)).alloc (.cells (seenArr g.nodes.length []) 4)).alloc (.cells #[.slice na g.nodes.length nc, .slice ra g.roots.length rc, .slice (some ⟨W.heap.size + 1, 0, none⟩) g.nodes.length g.nodes.length, .slice none 0 0] 138)).drew = w3 at hS0 ⊢
    go_loopw [6] (fun i wr => ∃ k : Nat, k ≤ l.length ∧ i = .int .i64 k ∧ Hid (Rm W wr (.slice na g.nodes.length nc) (.slice ra g.roots.length rc) g.nodes.length (W.heap.size + 1) (W.heap.size + 1 + 1) (meetF g (g.nodes.length + 1) (l.take k) []))) (fun i _ => l.length - (intOf i).toNat)
    case atStart => exact ⟨0, Nat.zero_le _, rfl, by simpa [Hid, meetF_succ] using hS0⟩
    case round =>
      obtain ⟨k, hk, rfl, hS⟩ := hrel
      by_cases hlt : k < l.length
      · obtain ⟨lb, lo, rfl, hlc⟩ := hFc k hlt
        have hx := hl _ (getD_mem hlt)
        have hlc' : wr.cell? ⟨lb, lo + k, none⟩ = some (.int .i64 (l.getD k 0)) := by rw [hS.out.b.cell (p := ⟨lb, lo + k, none⟩) (lt_of_cell hlc)]; exact hlc
        have hMo := meet_ok hg (g.nodes.length + 1) (l.take k) [] (fun x hx => hl x (List.mem_of_mem_take hx)) (ok_nil _)
        have hnext : meetF g (g.nodes.length + 1) (l.take (k + 1)) [] = stepF g g.nodes.length (meetF g (g.nodes.length + 1) (l.take k) []) (l.getD k 0) := by
          rw [take_snoc hlt, meetF_succ, meetF_succ, List.foldl_append]
          rfl
        have hcall := hC (l.getD k 0) _ wr hx.1 hx.2 hMo.1 (by omega) hS.out
        rw [← hnext] at hcall
        generalize l.getD k 0 = y at hlc' hcall
        clear hnext hMo hlc hx hS0
        go_wp2_with (go_at_call 81; refine hcall.mono ?_; rintro e w4 ⟨rfl, hS4⟩)
        go_roundw
        case rel => exact ⟨k + 1, by omega, congrArg (Value.int .i64) (by omega), hS4⟩
        case measure => simp [intOf]; omega
      · have hS' := hS.out
        rw [List.take_of_length_le (by omega)] at hS'
        obtain ⟨ao, c, hm0, hm1, _⟩ := hS'.met
        obtain ⟨⟨_, _, _, q3⟩, _⟩ := blk4 hm0
        have hbw := hS'.b
        clear hS hS0 hS' hm0
        go_wp2
        go_ret
        exact ⟨⟨ao, c, rfl, hm1⟩, hbw⟩
end Go.Proofs.Ytjkcffcedbcjmaa

/- What the small functions of package arena do, each at every argument; faults and the question whether an error is just a fault. -/
import Derived.Deep.QuietTactic
import Derived.BigQuiet
import Derived.Deep.RegionHeld3
import Derived.Deep.LoopGhost
import Derived.Test.YtgmldkojldlekaaGreatDoorRows
import Derived.ProofKit
import Derived.SizedLaws
import Derived.OpenShut
import Derived.ShutString
import Derived.Deep.Strs
import Derived.Test.YtgmldkojldlekaaGreatDoorSR05Z
import Derived.Test.YtgmldkojldlekaaGreatDoorSR06Z
import Derived.Test.YtgmldkojldlekaaGreatDoorSR02Z
namespace Go.Proofs.YtgmldkojldlekaaGreatDoor
set_option maxRecDepth 100000
open Go.RowKit
def tellsB (n : Int) : Bool := decide (n % 8 = 0 ∨ n % 8 = 3 ∨ n % 8 = 5)
def mayB (n t : Int) : Bool := goodB n && (!tellsB n || decide (valOf n < t))
set_option maxHeartbeats 400000 in
theorem afault_any (c a : Int) (w : World) :
    Calls Tryz.prog 67 #[.int .i64 c, .int .i64 a] w fun e w' => e = .returned (.iface 102 (.pointer (some ⟨w.heap.size, 0, none⟩))) ∧ w' = w.alloc (faultAtObj c a) := by
  go_enter Tryz.func67, Tryz.ntmps67
  go_wp2
  go_ret
  exact ⟨rfl, rfl⟩
set_option maxHeartbeats 400000 in
theorem at_any (c a : Int) (w : World) :
    Calls Tryz.prog 17 #[.int .i64 c, .int .i64 a] w fun e w' => e = .returned (a_flt c a) ∧ Below w.heap.size w w' := by
  go_enter Tryz.func17, Tryz.ntmps17
  go_wp2
  exact bodyPost_ret (v := a_flt c a) (by simp [results, Tryz.results17, go_sem, a_flt]) rfl ⟨rfl, (Below.refl _ _).alloc (Nat.le_refl _) _⟩
set_option maxHeartbeats 1000000 in
theorem may_any (n t : Int) (w : World) (h0 : 0 ≤ n) (h1 : n ≤ 18446744073709551615) :
    Calls Tryz.prog 93 #[.int .u64 n, .int .i64 t] w fun e w' => e = .returned (.bool (mayB n t)) ∧ w' = w := by
  by_cases hg : goodB n = true
  · by_cases ht : n % 8 = 0 ∨ n % 8 = 3 ∨ n % 8 = 5
    · have hB : Hid (mayB n t = decide (valOf n < t)) := by simp [Hid, mayB, hg, tellsB, ht]
      go_enter Tryz.func93, Tryz.ntmps93
      go_wp2_with (first | (go_at_call 94; refine (place_yes _ _ h0 h1 hg ht).mono ?_; rintro e w' ⟨rfl, rfl⟩) | (go_at_call 112; refine (w_good_any _ _ h0 h1).mono ?_; rintro e w' ⟨rfl, rfl⟩))
      go_ret
      exact ⟨w_ret_bool hB.out.symm, rfl⟩
    · have hB : Hid (mayB n t = true) := by simp [Hid, mayB, hg, tellsB, ht]
      have ht' : goodB n = false ∨ (n % 8 ≠ 0 ∧ n % 8 ≠ 3 ∧ n % 8 ≠ 5) := Or.inr (by omega)
      have HT : Hid (goodB n = false ∨ (n % 8 ≠ 0 ∧ n % 8 ≠ 3 ∧ n % 8 ≠ 5)) := ht'
      clear ht ht'
      go_enter Tryz.func93, Tryz.ntmps93
      go_wp2_with (first | (go_at_call 94; refine (place_no _ _ h0 h1 HT.out).mono ?_; rintro e w' ⟨rfl, rfl⟩) | (go_at_call 112; refine (w_good_any _ _ h0 h1).mono ?_; rintro e w' ⟨rfl, rfl⟩))
      go_ret
      exact ⟨w_ret_bool hB.out.symm, rfl⟩
  · have hg' : goodB n = false := by simpa using hg
    have hB : Hid (mayB n t = false) := by simp [Hid, mayB, hg']
    clear hg
    go_enter Tryz.func93, Tryz.ntmps93
    go_wp2_with (first | (go_at_call 94; refine (place_no _ _ h0 h1 (Or.inl hg')).mono ?_; rintro e w' ⟨rfl, rfl⟩) | (go_at_call 112; refine (w_good_any _ _ h0 h1).mono ?_; rintro e w' ⟨rfl, rfl⟩))
    go_ret
    exact ⟨w_ret_bool hB.out.symm, rfl⟩
set_option maxHeartbeats 400000 in
theorem fresh_any (n : Int) (w : World) (h0 : 0 ≤ n) (h1 : n < 65536) :
    Calls Tryz.prog 81 #[.int .i64 n] w fun e w' => e = .returned (.int .u64 (8 * n)) ∧ w' = w := by
  have hf : fitsB 0 n = true := by simp [fitsB]; omega
  have HW : Hid (wordOf 0 n = 8 * n) := by show _ = _; unfold wordOf; omega
  go_enter Tryz.func81, Tryz.ntmps81
  go_wp2_with (go_at_call 90; refine (pack_ok _ _ _ hf).mono ?_; rintro e w' ⟨rfl, rfl⟩)
  go_ret
  exact ⟨w_ret_int HW.out, rfl⟩
set_option maxHeartbeats 400000 in
theorem new_ok (m : Int) (w : World) (B : Nat) (hB : B ≤ w.heap.size) (h1 : 1 ≤ m) (h2 : m ≤ 65536) :
    Calls Tryz.prog 45 #[.int .i64 m] w fun e w' => e = .returned (.tuple #[.pointer (some ⟨w.heap.size, 0, none⟩), .nilIface]) ∧ Ar 126 w' B w.heap.size m (.slice none 0 0) [] ∧ Below w.heap.size w w' := by
  go_enter Tryz.func45, Tryz.ntmps45
  go_wp2
  go_ret2
  exact ⟨rfl, ⟨by decide, heap_alloc_new w _, hB, World.ownsRow_nil _ _ _ _, h1, h2, by simp; omega, by simp⟩, a_below_alloc _ _⟩
set_option maxHeartbeats 400000 in
theorem top_any {w : World} {B p : Nat} {m : Int} {v : Value} {l : List Int} (h : Ar 126 w B p m v l) :
    Calls Tryz.prog 53 #[.pointer (some ⟨p, 0, none⟩)] w fun e w' => e = .returned (.int .i64 (l.length : Int)) ∧ w' = w := by
  obtain ⟨ao, cap, rfl, _⟩ := h.val
  have c1 := h.c1
  go_enter Tryz.func53, Tryz.ntmps53
  go_wp2
  go_ret
  exact ⟨rfl, rfl⟩
def inB (n k : Int) : Bool := decide (0 ≤ n ∧ n < k)
set_option maxHeartbeats 400000 in
theorem holds_any {w : World} {B p : Nat} {m : Int} {v : Value} {l : List Int} (h : Ar 126 w B p m v l) (n : Int) :
    Calls Tryz.prog 92 #[.pointer (some ⟨p, 0, none⟩), .int .i64 n] w fun e w' => e = .returned (.bool (inB n l.length)) ∧ w' = w := by
  by_cases hn : 0 ≤ n
  · go_enter Tryz.func92, Tryz.ntmps92
    go_wp2_with (go_at_call 53; refine (top_any h).mono ?_; rintro e w' ⟨rfl, rfl⟩)
    go_ret
    exact ⟨w_ret_bool (by simp [inB, hn]), rfl⟩
  · have hB : Hid (inB n l.length = false) := by show _ = _; simp [inB]; omega
    go_enter Tryz.func92, Tryz.ntmps92
    go_wp2_with (go_at_call 53; refine (top_any h).mono ?_; rintro e w' ⟨rfl, rfl⟩)
    go_ret
    exact ⟨w_ret_bool hB.out.symm, rfl⟩
end Go.Proofs.YtgmldkojldlekaaGreatDoor

namespace Go.Proofs.YtgmldkojldlekaaGreatDoor
set_option maxRecDepth 100000
open Go.RowKit
def meetF (g : Gf) : Nat → List Int → List Int → List Int
  | 0, _, m => m
  | f + 1, l, m => l.foldl (fun m n => if n ∈ m then m else meetF g f (g.argsOf n) (m ++ [n])) m
def stepF (g : Gf) (f : Nat) (m : List Int) (n : Int) : List Int := if n ∈ m then m else meetF g f (g.argsOf n) (m ++ [n])
theorem meetF_succ (g : Gf) (f : Nat) (l m : List Int) : meetF g (f + 1) l m = l.foldl (stepF g f) m := rfl
structure Ok (N : Nat) (m : List Int) : Prop where
  nodup : m.Nodup
  rng : ∀ x ∈ m, 0 ≤ x ∧ x < (N : Int)
theorem ok_nil (N : Nat) : Ok N [] := ⟨List.nodup_nil, by simp⟩
theorem ok_snoc {N : Nat} {m : List Int} {n : Int} (h : Ok N m) (hn : n ∉ m) (h0 : 0 ≤ n) (h1 : n < N) : Ok N (m ++ [n]) := by
  refine ⟨List.nodup_append.2 ⟨h.nodup, by simp, ?_⟩, fun x hx => ?_⟩
  · intro a ha b hb e
    simp at hb
    subst e hb
    exact hn ha
  · rcases List.mem_append.1 hx with hx | hx
    · exact h.rng x hx
    · simp at hx
      subst hx
      exact ⟨h0, h1⟩
theorem pigeon : ∀ (N : Nat) (l : List Int), l.Nodup → (∀ x ∈ l, 0 ≤ x ∧ x < (N : Int)) → l.length ≤ N
  | 0, l, _, h => by
    cases l with
    | nil => simp
    | cons a r =>
      have := h a (by simp)
      omega
  | N + 1, l, hn, h => by
    by_cases hm : (N : Int) ∈ l
    · have h1 := pigeon N (l.erase (N : Int)) (hn.erase _) (fun x hx => by
        have h2 := (hn.mem_erase_iff).1 hx
        have := h x h2.2
        have := h2.1
        omega)
      rw [List.length_erase_of_mem hm] at h1
      omega
    · have := pigeon N l hn (fun x hx => by
        have := h x hx
        have : x ≠ (N : Int) := fun e => hm (by rw [← e]; exact hx)
        omega)
      omega
theorem Ok.le {N : Nat} {m : List Int} (h : Ok N m) : m.length ≤ N := pigeon N m h.nodup h.rng
theorem Ok.full {N : Nat} {m : List Int} (h : Ok N m) (hl : N ≤ m.length) {x : Int} (h0 : 0 ≤ x) (h1 : x < N) : x ∈ m := by
  by_cases hx : x ∈ m
  · exact hx
  · have := (ok_snoc h hx h0 h1).le
    simp at this
    omega
theorem meet_ok {g : Gf} (hg : Good g) : ∀ (f : Nat) (l m : List Int), (∀ x ∈ l, 0 ≤ x ∧ x < (g.nodes.length : Int)) → Ok g.nodes.length m → Ok g.nodes.length (meetF g f l m) ∧ m <+: meetF g f l m
  | 0, _, m, _, h => ⟨h, List.prefix_refl _⟩
  | f + 1, l, m, hl, h => by
    rw [meetF_succ]
    induction l generalizing m with
    | nil => exact ⟨h, List.prefix_refl _⟩
    | cons n r ih =>
      rw [List.foldl_cons]
      have hn := hl n (by simp)
      have hs : Ok g.nodes.length (stepF g f m n) ∧ m <+: stepF g f m n := by
        unfold stepF
        split
        · exact ⟨h, List.prefix_refl _⟩
        · rename_i hm
          have h1 := meet_ok hg f (g.argsOf n) (m ++ [n]) (hg.args hn.1 hn.2).1 (ok_snoc h hm hn.1 hn.2)
          exact ⟨h1.1, (List.prefix_append m [n]).trans h1.2⟩
      have h2 := ih (stepF g f m n) (fun x hx => hl x (by simp [hx])) hs.1
      exact ⟨h2.1, hs.2.trans h2.2⟩
theorem meet_full {g : Gf} (hg : Good g) (f : Nat) (l m : List Int) (hl : ∀ x ∈ l, 0 ≤ x ∧ x < (g.nodes.length : Int)) (h : Ok g.nodes.length m) (hN : g.nodes.length ≤ m.length) : meetF g f l m = m := by
  have h1 := meet_ok hg f l m hl h
  have h2 := h1.1.le
  exact (h1.2.eq_of_length_le (by omega)).symm
theorem step_ok {g : Gf} (hg : Good g) (f : Nat) {m : List Int} {n : Int} (h : Ok g.nodes.length m) (h0 : 0 ≤ n) (h1 : n < g.nodes.length) : Ok g.nodes.length (stepF g f m n) ∧ m <+: stepF g f m n := by
  have := meet_ok hg (f + 1) [n] m (by simpa using ⟨h0, h1⟩) h
  exact this
theorem meet_has {g : Gf} (hg : Good g) : ∀ (f : Nat) (l m : List Int), (∀ x ∈ l, 0 ≤ x ∧ x < (g.nodes.length : Int)) → Ok g.nodes.length m → g.nodes.length ≤ m.length + f →
    (∀ x ∈ l, x ∈ meetF g f l m) ∧ ∀ x ∈ meetF g f l m, x ∉ m → ∀ y ∈ g.argsOf x, y ∈ meetF g f l m
  | 0, l, m, hl, h, hN => by
    refine ⟨fun x hx => ?_, fun x hx hn => absurd hx hn⟩
    have := hl x hx
    exact h.full (by simpa using hN) this.1 this.2
  | f + 1, l, m, hl, h, hN => by
    rw [meetF_succ]
    induction l generalizing m with
    | nil => exact ⟨by simp, fun x hx hn => absurd hx hn⟩
    | cons n r ih =>
      rw [List.foldl_cons]
      have hn := hl n (by simp)
      have hs := step_ok hg f h hn.1 hn.2
      have hlen : m.length ≤ (stepF g f m n).length := hs.2.length_le
      have h2 := ih (stepF g f m n) (fun x hx => hl x (by simp [hx])) hs.1 (by omega)
      have hpre : stepF g f m n <+: r.foldl (stepF g f) (stepF g f m n) := by
        have := meet_ok hg (f + 1) r (stepF g f m n) (fun x hx => hl x (by simp [hx])) hs.1
        exact this.2
      have hin : n ∈ stepF g f m n ∧ ∀ x ∈ stepF g f m n, x ∉ m → ∀ y ∈ g.argsOf x, y ∈ stepF g f m n := by
        unfold stepF
        split
        · rename_i hm
          exact ⟨hm, fun x hx hn => absurd hx hn⟩
        · rename_i hm
          have h3 := meet_has hg f (g.argsOf n) (m ++ [n]) (hg.args hn.1 hn.2).1 (ok_snoc h hm hn.1 hn.2) (by simp; omega)
          have h4 := (meet_ok hg f (g.argsOf n) (m ++ [n]) (hg.args hn.1 hn.2).1 (ok_snoc h hm hn.1 hn.2)).2
          refine ⟨h4.subset (by simp), fun x hx hxm y hy => ?_⟩
          by_cases e : x = n
          · subst e
            exact h3.1 y hy
          · exact h3.2 x hx (by simp [hxm, e]) y hy
      refine ⟨fun x hx => ?_, fun x hx hxm y hy => ?_⟩
      · rcases List.mem_cons.1 hx with rfl | hx
        · exact hpre.subset hin.1
        · exact h2.1 x hx
      · by_cases e : x ∈ stepF g f m n
        · exact hpre.subset (hin.2 x e hxm y hy)
        · exact h2.2 x hx e y hy
def metF (g : Gf) : List Int := meetF g g.nodes.length g.roots []
theorem met_ok {g : Gf} (hg : Good g) : Ok g.nodes.length (metF g) := (meet_ok hg _ _ _ hg.root (ok_nil _)).1
theorem met_root {g : Gf} (hg : Good g) : ∀ x ∈ g.roots, x ∈ metF g := (meet_has hg _ _ _ hg.root (ok_nil _) (by simp)).1
theorem met_arg {g : Gf} (hg : Good g) : ∀ x ∈ metF g, ∀ y ∈ g.argsOf x, y ∈ metF g := fun x hx => (meet_has hg _ _ _ hg.root (ok_nil _) (by simp)).2 x hx (by simp)
end Go.Proofs.YtgmldkojldlekaaGreatDoor

namespace Go.Proofs.YtgmldkojldlekaaGreatDoor
set_option maxRecDepth 100000
open Go.RowKit
theorem box_set0 {w : World} {q : Nat} {u0 u1 u2 u3 v0 v1 v2 v3 : Value} {T : TypeId} (h : w.heap[q]? = some (.cells #[u0, u1, u2, u3] T)) :
    ((((w.setCell ⟨q, 0, none⟩ v0).setCell ⟨q, 1, none⟩ v1).setCell ⟨q, 2, none⟩ v2).setCell ⟨q, 3, none⟩ v3).heap[q]? = some (.cells #[v0, v1, v2, v3] T) := by
  have h0 := heap_setCell_same w q 0 _ _ v0 h
  have h1 := heap_setCell_same _ q 1 _ _ v1 h0
  have h2 := heap_setCell_same _ q 2 _ _ v2 h1
  exact heap_setCell_same _ q 3 _ _ v3 h2
theorem set4_below {W w : World} {q : Nat} {v0 v1 v2 v3 : Value} (h : Below W.heap.size W w) (hq : W.heap.size ≤ q) :
    Below W.heap.size W ((((w.setCell ⟨q, 0, none⟩ v0).setCell ⟨q, 1, none⟩ v1).setCell ⟨q, 2, none⟩ v2).setCell ⟨q, 3, none⟩ v3) :=
  (((h.setCell hq _).setCell hq _).setCell hq _).setCell hq _
structure Bx (W w : World) (nv rv : Value) : Prop where
  n : w.cell? ⟨W.heap.size, 0, none⟩ = some nv
  r : w.cell? ⟨W.heap.size, 1, none⟩ = some rv
  f : w.heap[W.heap.size + 1]? = some (.cells #[.int .i64 0, .int .i64 0, .string ⟨#[]⟩, .slice none 0 0] 55)
  b : Below W.heap.size W w
end Go.Proofs.YtgmldkojldlekaaGreatDoor

namespace Go.Proofs.YtgmldkojldlekaaGreatDoor
set_option maxRecDepth 100000
open Go.ChangeShapes Go.WideShapes Go.ChangeAt Go.RowKit Go.Deep
theorem own : ownKnob Tryz.prog.godebug = none := by kernel_rfl
theorem laidOut : laidOutB Tryz.prog = true := by kernel_rfl
theorem cellsI : Tryz.prog.cellsOf 3 = 1 := by kernel_rfl
theorem cellsS : Tryz.prog.cellsOf 9 = 1 := by kernel_rfl
theorem cellsIs : Tryz.prog.cellsOf 28 = 1 := by kernel_rfl
theorem cellsNs : Tryz.prog.cellsOf 27 = 1 := by kernel_rfl
theorem cellsN : Tryz.prog.cellsOf 117 = 4 := by kernel_rfl
theorem cellsG : Tryz.prog.cellsOf 30 = 2 := by kernel_rfl
theorem ints_of_cells {H : Type} {enc : TypeId × Value → H} {W : World} {fuel : Nat} {u : Value} {x : DataW H × List MemPlace} (h : DataW.trod enc Tryz.prog W 0 (fun _ => true) true fuel 28 [u] = some x) :
    ∃ l : List Int, Ri W u l ∧ l.length ≤ 9223372036854775807 := by
  rcases open_ints Tryz.underlying28 Tryz.underlying3 cellsI h with ⟨hcs, hx⟩ | ⟨a, len, cap, zs, hcs, _, hl, hm, hz, hx, hcell, hwz⟩
  · simp at hcs
    subst hcs
    exact ⟨[], Ri.nil _, by simp⟩
  · simp at hcs
    subst hcs
    simp only [if_true] at hz
    have hlen : (zs.take len).length = len := by simp; omega
    refine ⟨zs.take len, ⟨some a, cap, by rw [hlen], fun j hj => ?_⟩, by rw [hlen]; unfold maxLen at hm; omega⟩
    rw [hlen] at hj
    obtain ⟨b, off, spot⟩ := a
    have hspot : spot = none := by simpa [Addr.add] using World.cell?_spot (hcell 0 (by omega))
    subst hspot
    refine ⟨b, off, rfl, ?_⟩
    have := hcell j (by omega)
    rw [add_plain] at this
    rw [this]
    simp [List.getD, hj]
theorem ints_of {H : Type} {enc : TypeId × Value → H} {W : World} {base : Nat} {u : Value} {d : DataW H} {p : List MemPlace} (hv : Value.okWide Tryz.prog W .any base 28 u) (h : DataW.Trod enc Tryz.prog W 0 (fun _ => true) true 28 u d p) :
    ∃ l : List Int, Ri W u l ∧ l.length ≤ 9223372036854775807 := by
  obtain ⟨a, len, cap, rfl⟩ := okWide_slice Tryz.underlying28 hv
  obtain ⟨fuel, hf⟩ := h
  have hf' : DataW.trod enc Tryz.prog W 0 (fun _ => true) true fuel 28 [.slice a len cap] = some (d, p) := by simpa [Value.cells] using hf
  exact ints_of_cells hf'
theorem node_of_cells {H : Type} {enc : TypeId × Value → H} {W : World} {fuel : Nat} {cs : List Value} {x : DataW H × List MemPlace} (h : DataW.trod enc Tryz.prog W 0 (fun _ => true) true fuel 117 cs = some x) :
    ∃ (n : Nd) (av : Value), cs = [.int .i64 n.kind, .string n.name, .int .i64 n.num, av] ∧ Ri W av n.args ∧ n.name.size ≤ 9223372036854775807 := by
  obtain ⟨xs, n, _, hx, hl, hlen, hf⟩ := DataW.trod_struct Tryz.underlying117 h
  rw [cellsN] at hl
  match cs, hl with
  | [c0, c1, c2, c3], _ =>
    match xs, hlen with
    | [y0, y1, y2, y3], _ =>
      have h0 := hf 0 _ rfl
      have h1 := hf 1 _ rfl
      have h2 := hf 2 _ rfl
      have h3 := hf 3 _ rfl
      simp [cellsI] at h0 h2
      simp [cellsS] at h1
      simp [cellsIs] at h3
      obtain ⟨a0, e0, _, w0⟩ := DataW.trod_int Tryz.underlying3 h0
      obtain ⟨a1, e1, _, w1⟩ := DataW.trod_string Tryz.underlying9 h1
      obtain ⟨a2, e2, _, w2⟩ := DataW.trod_int Tryz.underlying3 h2
      obtain ⟨l, hr, _⟩ := ints_of_cells h3
      simp at e0 e1 e2
      subst e0 e1 e2
      exact ⟨⟨a0, a1, a2, l⟩, c3, rfl, hr, by unfold maxLen at w1; exact w1⟩
theorem nodes_of_cells {H : Type} {enc : TypeId × Value → H} {W : World} {fuel : Nat} {u : Value} {x : DataW H × List MemPlace} (h : DataW.trod enc Tryz.prog W 0 (fun _ => true) true fuel 27 [u] = some x) :
    ∃ l : List Nd, Rn W u l ∧ (∀ n ∈ l, n.name.size ≤ 9223372036854775807) ∧ l.length ≤ 9223372036854775807 := by
  rcases Go.Deep.open_slice Tryz.underlying27 h with ⟨hcs, _⟩ | ⟨ad, len, cap, m, n, D, Pl, hcs, _, hl, hm, hmm, _, hel⟩
  · simp at hcs
    subst hcs
    exact ⟨[], Rn.nil _, by simp, by simp⟩
  · simp at hcs
    subst hcs
    simp only [if_true] at hmm
    rw [cellsN] at hel
    have each : ∀ i, ∃ (n : Nd) (av : Value), i < len → (Ri W av n.args ∧ n.name.size ≤ 9223372036854775807) ∧ W.cells? 0 (ad.add (i * 4)) 4 = some [.int .i64 n.kind, .string n.name, .int .i64 n.num, av] := fun i => by
      by_cases hi : i < len
      · obtain ⟨cs', hc, ht⟩ := hel i (by omega)
        obtain ⟨n, av, rfl, h1, h2⟩ := node_of_cells ht
        exact ⟨n, av, fun _ => ⟨⟨h1, h2⟩, hc⟩⟩
      · exact ⟨nd0, .nilIface, fun h => absurd h hi⟩
    obtain ⟨ns, hns⟩ : ∃ ns : Nat → Nd, ∀ i, ∃ av : Value, i < len → (Ri W av (ns i).args ∧ (ns i).name.size ≤ 9223372036854775807) ∧ W.cells? 0 (ad.add (i * 4)) 4 = some [.int .i64 (ns i).kind, .string (ns i).name, .int .i64 (ns i).num, av] :=
      ⟨fun i => Classical.choose (each i), fun i => Classical.choose_spec (each i)⟩
    refine ⟨(List.range len).map ns, ⟨some ad, cap, by simp, fun j hj => ?_⟩, fun n hn => ?_, by simp; unfold maxLen at hm; omega⟩
    · have hj' : j < len := by simpa using hj
      obtain ⟨b, off, spot⟩ := ad
      obtain ⟨av, hav⟩ := hns j
      obtain ⟨⟨h1, h2⟩, h3⟩ := hav hj'
      have hcj := (World.cells?_some h3).2.2
      have hspot : spot = none := by
        obtain ⟨av0, hav0⟩ := hns 0
        have := (World.cells?_some (hav0 (by omega)).2).2.2 0 (by omega)
        simp at this
        simpa [Addr.add] using World.cell?_spot this
      subst hspot
      have e : ∀ i, ((⟨b, off, none⟩ : Addr).add (j * 4)).add i = ⟨b, off + j * 4 + i, none⟩ := fun i => by rw [add_plain, add_plain]
      have hg : ((List.range len).map ns).getD j nd0 = ns j := by simp [List.getD, hj']
      refine ⟨b, off, av, rfl, ?_⟩
      rw [hg]
      refine ⟨?_, ?_, ?_, ?_, h1⟩
      · have := hcj 0 (by omega); rw [e] at this; simpa using this
      · have := hcj 1 (by omega); rw [e] at this; simpa using this
      · have := hcj 2 (by omega); rw [e] at this; simpa using this
      · have := hcj 3 (by omega); rw [e] at this; simpa using this
    · obtain ⟨i, hi, rfl⟩ := List.mem_map.1 hn
      obtain ⟨av, hav⟩ := hns i
      exact (hav (List.mem_range.1 hi)).1.2
theorem graph_of_cells {H : Type} {enc : TypeId × Value → H} {W : World} {fuel : Nat} {cs : List Value} {x : DataW H × List MemPlace} (h : DataW.trod enc Tryz.prog W 0 (fun _ => true) true fuel 30 cs = some x) :
    ∃ (nv rv : Value) (g : Gf), cs = [nv, rv] ∧ Gr W nv rv g ∧ Sized g := by
  obtain ⟨xs, n, _, hx, hl, hlen, hf⟩ := DataW.trod_struct Tryz.underlying30 h
  rw [cellsG] at hl
  match cs, hl with
  | [c0, c1], _ =>
    match xs, hlen with
    | [y0, y1], _ =>
      have h0 := hf 0 _ rfl
      have h1 := hf 1 _ rfl
      simp [cellsNs] at h0
      simp [cellsIs] at h1
      obtain ⟨ns, hr, hs, _⟩ := nodes_of_cells h0
      obtain ⟨l, hr', _⟩ := ints_of_cells h1
      exact ⟨c0, c1, ⟨ns, l⟩, rfl, ⟨hr, hr'⟩, hs⟩
end Go.Proofs.YtgmldkojldlekaaGreatDoor

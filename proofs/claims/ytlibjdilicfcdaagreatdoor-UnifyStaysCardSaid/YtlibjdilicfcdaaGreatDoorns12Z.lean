/- What the small functions of package arena do, each at every argument; faults and the question whether an error is just a fault. -/
import Derived.Deep.QuietTactic
import Derived.BigQuiet
import Derived.Shelf.SlMaps.Clone
import Derived.Deep.RegionHeld3
import Derived.Deep.DrawnRows
import Derived.Test.YtlibjdilicfcdaaGreatDoorns10Z
import Derived.Test.YtlibjdilicfcdaaGreatDoorns08Z
namespace Go.Proofs.YtlibjdilicfcdaaGreatDoor
set_option maxRecDepth 100000
open Go.RowKit
def tellsB (n : Int) : Bool := decide (n % 8 = 0 ∨ n % 8 = 3 ∨ n % 8 = 5)
def mayB (n t : Int) : Bool := goodB n && (!tellsB n || decide (valOf n < t))
set_option maxHeartbeats 400000 in
theorem afault_any (c a : Int) (w : World) :
    Calls Tryz.prog 87 #[.int .i64 c, .int .i64 a] w fun e w' => e = .returned (.iface 84 (.pointer (some ⟨w.heap.size, 0, none⟩))) ∧ w' = w.alloc (faultAtObj c a) := by
  go_enter Tryz.func87, Tryz.ntmps87
  go_wp2
  go_ret
  exact ⟨rfl, rfl⟩
set_option maxHeartbeats 1000000 in
theorem may_any (n t : Int) (w : World) (h0 : 0 ≤ n) (h1 : n ≤ 18446744073709551615) :
    Calls Tryz.prog 151 #[.int .u64 n, .int .i64 t] w fun e w' => e = .returned (.bool (mayB n t)) ∧ w' = w := by
  by_cases hg : goodB n = true
  · by_cases ht : n % 8 = 0 ∨ n % 8 = 3 ∨ n % 8 = 5
    · have hB : Hid (mayB n t = decide (valOf n < t)) := by simp [Hid, mayB, hg, tellsB, ht]
      go_enter Tryz.func151, Tryz.ntmps151
      go_wp2_with (first | (go_at_call 99; refine (place_yes _ _ h0 h1 hg ht).mono ?_; rintro e w' ⟨rfl, rfl⟩) | (go_at_call 131; refine (w_good_any _ _ h0 h1).mono ?_; rintro e w' ⟨rfl, rfl⟩))
      go_ret
      exact ⟨w_ret_bool hB.out.symm, rfl⟩
    · have hB : Hid (mayB n t = true) := by simp [Hid, mayB, hg, tellsB, ht]
      have ht' : goodB n = false ∨ (n % 8 ≠ 0 ∧ n % 8 ≠ 3 ∧ n % 8 ≠ 5) := Or.inr (by omega)
      have HT : Hid (goodB n = false ∨ (n % 8 ≠ 0 ∧ n % 8 ≠ 3 ∧ n % 8 ≠ 5)) := ht'
      clear ht ht'
      go_enter Tryz.func151, Tryz.ntmps151
      go_wp2_with (first | (go_at_call 99; refine (place_no _ _ h0 h1 HT.out).mono ?_; rintro e w' ⟨rfl, rfl⟩) | (go_at_call 131; refine (w_good_any _ _ h0 h1).mono ?_; rintro e w' ⟨rfl, rfl⟩))
      go_ret
      exact ⟨w_ret_bool hB.out.symm, rfl⟩
  · have hg' : goodB n = false := by simpa using hg
    have hB : Hid (mayB n t = false) := by simp [Hid, mayB, hg']
    clear hg
    go_enter Tryz.func151, Tryz.ntmps151
    go_wp2_with (first | (go_at_call 99; refine (place_no _ _ h0 h1 (Or.inl hg')).mono ?_; rintro e w' ⟨rfl, rfl⟩) | (go_at_call 131; refine (w_good_any _ _ h0 h1).mono ?_; rintro e w' ⟨rfl, rfl⟩))
    go_ret
    exact ⟨w_ret_bool hB.out.symm, rfl⟩
set_option maxHeartbeats 400000 in
theorem fresh_any (n : Int) (w : World) (h0 : 0 ≤ n) (h1 : n < 65536) :
    Calls Tryz.prog 93 #[.int .i64 n] w fun e w' => e = .returned (.int .u64 (8 * n)) ∧ w' = w := by
  have hf : fitsB 0 n = true := by simp [fitsB]; omega
  have HW : Hid (wordOf 0 n = 8 * n) := by show _ = _; unfold wordOf; omega
  go_enter Tryz.func93, Tryz.ntmps93
  go_wp2_with (go_at_call 125; refine (pack_ok _ _ _ hf).mono ?_; rintro e w' ⟨rfl, rfl⟩)
  go_ret
  exact ⟨w_ret_int HW.out, rfl⟩
set_option maxHeartbeats 400000 in
theorem new_ok (m : Int) (w : World) (B : Nat) (hB : B ≤ w.heap.size) (h1 : 1 ≤ m) (h2 : m ≤ 65536) :
    Calls Tryz.prog 53 #[.int .i64 m] w fun e w' => e = .returned (.tuple #[.pointer (some ⟨w.heap.size, 0, none⟩), .nilIface]) ∧ Ar 159 w' B w.heap.size m (.slice none 0 0) [] ∧ Below w.heap.size w w' := by
  go_enter Tryz.func53, Tryz.ntmps53
  go_wp2
  go_ret2
  exact ⟨rfl, ⟨by decide, heap_alloc_new w _, hB, World.ownsRow_nil _ _ _ _, h1, h2, by simp; omega, by simp⟩, a_below_alloc _ _⟩
set_option maxHeartbeats 400000 in
theorem top_any {w : World} {B p : Nat} {m : Int} {v : Value} {l : List Int} (h : Ar 159 w B p m v l) :
    Calls Tryz.prog 63 #[.pointer (some ⟨p, 0, none⟩)] w fun e w' => e = .returned (.int .i64 (l.length : Int)) ∧ w' = w := by
  obtain ⟨ao, cap, rfl, _⟩ := h.val
  have c1 := h.c1
  go_enter Tryz.func63, Tryz.ntmps63
  go_wp2
  go_ret
  exact ⟨rfl, rfl⟩
def inB (n k : Int) : Bool := decide (0 ≤ n ∧ n < k)
set_option maxHeartbeats 400000 in
theorem holds_any {w : World} {B p : Nat} {m : Int} {v : Value} {l : List Int} (h : Ar 159 w B p m v l) (n : Int) :
    Calls Tryz.prog 130 #[.pointer (some ⟨p, 0, none⟩), .int .i64 n] w fun e w' => e = .returned (.bool (inB n l.length)) ∧ w' = w := by
  by_cases hn : 0 ≤ n
  · go_enter Tryz.func130, Tryz.ntmps130
    go_wp2_with (go_at_call 63; refine (top_any h).mono ?_; rintro e w' ⟨rfl, rfl⟩)
    go_ret
    exact ⟨w_ret_bool (by simp [inB, hn]), rfl⟩
  · have hB : Hid (inB n l.length = false) := by show _ = _; simp [inB]; omega
    go_enter Tryz.func130, Tryz.ntmps130
    go_wp2_with (go_at_call 63; refine (top_any h).mono ?_; rintro e w' ⟨rfl, rfl⟩)
    go_ret
    exact ⟨w_ret_bool hB.out.symm, rfl⟩
end Go.Proofs.YtlibjdilicfcdaaGreatDoor

namespace Go.Proofs.YtlibjdilicfcdaaGreatDoor
set_option maxRecDepth 100000
open Go.RowKit
def wdN (l : List Int) (k : Nat) : Int := l.getD k 0
def tgN (l : List Int) (k : Nat) : Int := wdN l k % 8
def vlN (l : List Int) (k : Nat) : Nat := (valOf (wdN l k)).toNat
def hdN (l : List Int) (k : Nat) : Prop := tgN l k = 4 ∨ tgN l k = 5
def arN' (l : List Int) (k : Nat) : Nat := vlN l k % 16
structure Snd (l : List Int) (V : Nat → Bool) : Prop where
  good : ∀ k, k < l.length → goodB (wdN l k) = true
  rng : ∀ x ∈ l, 0 ≤ x ∧ x ≤ 18446744073709551615
  ref : ∀ k, k < l.length → tgN l k = 0 → vlN l k < l.length ∧ V (vlN l k) = true ∧ (V k = true → vlN l k ≤ k)
  own : ∀ k, k < l.length → V k = true → ¬ hdN l k
  str : ∀ k, k < l.length → tgN l k = 3 → vlN l k < l.length ∧ hdN l (vlN l k)
  fwd : ∀ k, k < l.length → tgN l k = 5 → vlN l k < k ∧ hdN l (vlN l k)
  args : ∀ k, k < l.length → tgN l k = 4 → k + arN' l k < l.length ∧ ∀ i, 1 ≤ i → i ≤ arN' l k → ¬ hdN l (k + i)
def rkN (l : List Int) (V : Nat → Bool) (k : Nat) : Nat := if tgN l k = 4 ∨ tgN l k = 5 then k else if V k = true then l.length + k else 2 * l.length
def nxN (l : List Int) (k : Nat) : Option Nat :=
  if tgN l k = 0 then (if vlN l k = k then none else some (vlN l k)) else if tgN l k = 3 ∨ tgN l k = 5 then some (vlN l k) else none
def endW (l : List Int) (k : Nat) : Int := if tgN l k = 4 then wordOf 3 k else wdN l k
def trmF (l : List Int) : Nat → Nat → Int
  | 0, k => endW l k
  | f + 1, k => match nxN l k with
    | none => endW l k
    | some j => trmF l f j
theorem nx_rk {l : List Int} {V : Nat → Bool} (h : Snd l V) {k j : Nat} (hk : k < l.length) (e : nxN l k = some j) : j < l.length ∧ rkN l V j < rkN l V k := by
  unfold nxN at e
  by_cases h0 : tgN l k = 0
  · rw [if_pos h0] at e
    by_cases h1 : vlN l k = k
    · rw [if_pos h1] at e
      cases e
    · rw [if_neg h1] at e
      injection e with e
      obtain ⟨r1, r2, r3⟩ := h.ref k hk h0
      rw [e] at r1 r2 r3 h1
      refine ⟨r1, ?_⟩
      have nj : ¬ (tgN l j = 4 ∨ tgN l j = 5) := h.own j r1 r2
      have nk : ¬ (tgN l k = 4 ∨ tgN l k = 5) := by omega
      unfold rkN
      rw [if_neg nj, if_neg nk, if_pos r2]
      by_cases hV : V k = true
      · rw [if_pos hV]
        have := r3 hV
        omega
      · rw [if_neg hV]
        omega
  · rw [if_neg h0] at e
    by_cases h1 : tgN l k = 3 ∨ tgN l k = 5
    · rw [if_pos h1] at e
      injection e with e
      rcases h1 with h1 | h1
      · obtain ⟨r1, r2⟩ := h.str k hk h1
        rw [e] at r1 r2
        refine ⟨r1, ?_⟩
        have nk : ¬ (tgN l k = 4 ∨ tgN l k = 5) := by omega
        unfold rkN
        rw [if_pos (show tgN l j = 4 ∨ tgN l j = 5 from r2), if_neg nk]
        split <;> omega
      · obtain ⟨r1, r2⟩ := h.fwd k hk h1
        rw [e] at r1 r2
        refine ⟨by omega, ?_⟩
        unfold rkN
        rw [if_pos (show tgN l j = 4 ∨ tgN l j = 5 from r2), if_pos (Or.inr h1)]
        exact r1
    · rw [if_neg h1] at e
      cases e
theorem trm_more {l : List Int} {V : Nat → Bool} (h : Snd l V) : ∀ (f k : Nat), k < l.length → rkN l V k < f → ∀ g, f ≤ g → trmF l g k = trmF l f k
  | 0, _, _, hf, _, _ => absurd hf (Nat.not_lt_zero _)
  | f + 1, k, hk, hf, g, hg => by
    obtain ⟨g, rfl⟩ : ∃ g', g = g' + 1 := ⟨g - 1, by omega⟩
    show (match nxN l k with | none => endW l k | some j => trmF l g j) = (match nxN l k with | none => endW l k | some j => trmF l f j)
    cases e : nxN l k with
    | none => rfl
    | some j =>
      obtain ⟨h1, h2⟩ := nx_rk h hk e
      exact trm_more h f j h1 (by omega) g (by omega)
def trmW (l : List Int) (k : Nat) : Int := trmF l (2 * l.length + 1) k
theorem rk_le {l : List Int} {V : Nat → Bool} {k : Nat} (hk : k < l.length) : rkN l V k ≤ 2 * l.length := by
  unfold rkN
  split
  · omega
  · split <;> omega
theorem trm_next {l : List Int} {V : Nat → Bool} (h : Snd l V) {k j : Nat} (hk : k < l.length) (e : nxN l k = some j) : trmW l k = trmW l j := by
  obtain ⟨h1, h2⟩ := nx_rk h hk e
  have h3 := rk_le (V := V) hk
  have h4 : trmW l k = trmF l (2 * l.length) j := by
    unfold trmW
    show (match nxN l k with | none => endW l k | some j => trmF l (2 * l.length) j) = _
    rw [e]
  rw [h4]
  exact ((trm_more h (2 * l.length) j h1 (by omega) (2 * l.length + 1) (by omega))).symm
theorem trm_end {l : List Int} {k : Nat} (e : nxN l k = none) : trmW l k = endW l k := by
  unfold trmW
  show (match nxN l k with | none => endW l k | some j => trmF l (2 * l.length) j) = _
  rw [e]
end Go.Proofs.YtlibjdilicfcdaaGreatDoor

namespace Go.Proofs.YtlibjdilicfcdaaGreatDoor
set_option maxRecDepth 100000
open Go.RowKit
section
variable {w : World} {B p : Nat} {m : Int} {v : Value} {l : List Int}
theorem Ar.form {T : TypeId} (h : Ar T w B p m v l) {k : Nat} (hk : k < l.length) : ∃ g cap, v = .slice (some ⟨g, 0, none⟩) l.length cap ∧ l.length ≤ cap ∧ g < w.heap.size ∧ g ≠ p ∧ B ≤ g ∧ w.cell? ⟨g, k, none⟩ = some (.int .u64 (l.getD k 0)) ∧ w.frozen? ⟨g, k, none⟩ = false := by
  obtain ⟨g, cap, rfl, hb, hg⟩ := h.own.form (by omega)
  have hr := h.row (k := g) rfl
  obtain ⟨ao, cap', he, hc, _⟩ := h.val
  simp at he
  refine ⟨g, cap, rfl, by rw [he.2]; exact hc, hg, hr.2.2, hb, ?_, h.own.frozenAt k⟩
  rw [h.own.cellAt k (by omega)]
  simp [List.getD, List.getElem?_eq_getElem hk]
set_option maxHeartbeats 400000 in
theorem load_ok (h : Ar 159 w B p m v l) (k : Nat) (hk : k < l.length) :
    Calls Tryz.prog 97 #[.pointer (some ⟨p, 0, none⟩), .int .i64 (k : Int)] w fun e w' => e = .returned (.tuple #[.int .u64 (l.getD k 0), .nilIface]) ∧ w' = w := by
  obtain ⟨g, cap, rfl, hcap, hg, hne, _, hc, _⟩ := h.form hk
  have c1 := h.c1
  have hi : inB (k : Int) l.length = true := by simp [inB]; omega
  have hk' : (k : Int) < (l.length : Int) := by omega
  go_enter Tryz.func97, Tryz.ntmps97
  go_wp2_with (go_at_call 130; refine (holds_any h _).mono ?_; rintro e w' ⟨rfl, rfl⟩)
  go_ret2
  exact ⟨ret_pair (by simp [List.getD, hk]), rfl⟩
set_option maxHeartbeats 400000 in
theorem load_no (h : Ar 159 w B p m v l) (n : Int) (hi : inB n l.length = false) :
    Calls Tryz.prog 97 #[.pointer (some ⟨p, 0, none⟩), .int .i64 n] w fun e w' => e = .returned (.tuple #[.int .u64 0, .iface 84 (.pointer (some ⟨w.heap.size, 0, none⟩))]) ∧ w' = w.alloc (faultAtObj 23 n) := by
  go_enter Tryz.func97, Tryz.ntmps97
  go_wp2_with (first | (go_at_call 130; refine (holds_any h _).mono ?_; rintro e w' ⟨rfl, rfl⟩) | (go_at_call 87; refine (afault_any _ _ _).mono ?_; rintro e w' ⟨rfl, rfl⟩))
  go_ret2
  exact ⟨rfl, rfl⟩
theorem set_rng {l : List Int} (h : ∀ x ∈ l, 0 ≤ x ∧ x ≤ 18446744073709551615) (k : Nat) (u : Int) (hu : 0 ≤ u ∧ u ≤ 18446744073709551615) : ∀ x ∈ l.set k u, 0 ≤ x ∧ x ≤ 18446744073709551615 := fun x hx => by
  rcases List.mem_or_eq_of_mem_set hx with h1 | rfl
  · exact h x h1
  · exact hu
theorem Ar.stored {T : TypeId} {g cap : Nat} (h : Ar T w B p m (.slice (some ⟨g, 0, none⟩) l.length cap) l) (k : Nat) (u : Int) (hu : 0 ≤ u ∧ u ≤ 18446744073709551615) :
    a_Upd T w (w.setCell ⟨g, k, none⟩ (.int .u64 u)) B p m (.slice (some ⟨g, 0, none⟩) l.length cap) (l.set k u) (.slice (some ⟨g, 0, none⟩) l.length cap) := by
  have hr := h.row (k := g) rfl
  obtain ⟨h1, _⟩ := h.own.stored k (.int .u64 u)
  refine ⟨⟨h.ty, ?_, h.base, ?_, h.m1, h.m2, by simpa using h.len, set_rng h.rng k u hu⟩, (a_Mod.refl _ w).setCell (p := ⟨g, k, none⟩) (Or.inl (a_mem_foot.2 (Or.inr rfl))) _, a_Nx.refl _ _⟩
  · rw [Below.heap_setCell w ⟨g, k, none⟩ _ p (by simpa using hr.2.2.symm)]; exact h.blk
  · rw [List.map_set, List.length_set]; exact h1
set_option maxHeartbeats 400000 in
theorem store_ok (h : Ar 159 w B p m v l) (k : Nat) (u : Int) (hk : k < l.length) (u0 : 0 ≤ u) (u1 : u ≤ 18446744073709551615) (hm : mayB u l.length = true) :
    Calls Tryz.prog 126 #[.pointer (some ⟨p, 0, none⟩), .int .i64 (k : Int), .int .u64 u] w fun e w' => e = .returned .nilIface ∧ a_Upd 159 w w' B p m v (l.set k u) v := by
  obtain ⟨g, cap, rfl, hcap, hg, hne, _, hc, hf⟩ := h.form hk
  have c1 := h.c1
  have hi : inB (k : Int) l.length = true := by simp [inB]; omega
  have hk' : (k : Int) < (l.length : Int) := by omega
  go_enter Tryz.func126, Tryz.ntmps126
  go_wp2_with (first | (go_at_call 130; refine (holds_any h _).mono ?_; rintro e w' ⟨rfl, rfl⟩) | (go_at_call 63; refine (top_any h).mono ?_; rintro e w' ⟨rfl, rfl⟩) | (go_at_call 151; refine (may_any _ _ _ u0 u1).mono ?_; rintro e w' ⟨rfl, rfl⟩))
  go_ret
  exact ⟨rfl, h.stored k u ⟨u0, u1⟩⟩
end
end Go.Proofs.YtlibjdilicfcdaaGreatDoor

namespace Go.Proofs.YtlibjdilicfcdaaGreatDoor
set_option maxRecDepth 100000
open Go.RowKit Go.Maps
def mcRen : Go.Shelf.Ren := ⟨fun n => if n = 5 then 122 else 148, fun n => if n = 23 then 160 else if n = 25 then 9 else n, fun n => n⟩
theorem mcLays : SlLaysW.n5 Tryz.prog mcRen :=
  ⟨(by kernel_rfl), ⟨Tryz.f122.name, (by kernel_rfl), (by kernel_rfl)⟩, (by kernel_rfl), (by kernel_rfl), (fun _ => by kernel_rfl), (fun _ => by kernel_rfl), (fun _ => by kernel_rfl), (by kernel_rfl), (fun _ => by kernel_rfl), (fun _ => by kernel_rfl),
    (fun _ => by kernel_rfl), (by kernel_rfl), (fun _ => by kernel_rfl), (fun _ => by kernel_rfl), (fun _ => by kernel_rfl)⟩
theorem mclone_any {w : World} {q n : Nat} {D : DataW Unit} (h : w.ownsMap Tryz.prog 9 (plainElem Tryz.prog 3) q n D) :
    Calls Tryz.prog 122 #[.map (some q)] w fun e w' => e = .returned (.map (some w.heap.size)) ∧ w'.ownsMap Tryz.prog 9 (plainElem Tryz.prog 3) w.heap.size n D ∧ Below w.heap.size w w' :=
  (AnyW.maps_Clone_owns mcLays 9 (plainElem Tryz.prog 3) q n D w h).mono fun _ _ ⟨h1, h2, _, h4⟩ => ⟨h1, h2, h4⟩
theorem strs_one (l : List ByteArray) : ∀ u ∈ l.map Value.string, u.oneCell' = true := fun u hu => by
  obtain ⟨s, _, rfl⟩ := List.mem_map.1 hu
  simp [Value.oneCell']
theorem slice_nil_in {P : Program} (w : World) (d : Nat) (t : TypeId) {e : TypeId} (h : P.underlying t = some (.slice e)) (ao : Option Addr) (n c : Nat) : (Op.equalIn (d + 1) t (.slice ao n c) (.slice none 0 0)).run P w = .ok ao.isNone w := by
  cases ao <;> simp [Op.equalIn, run_underlying h]
theorem slice_nil (w : World) (ao : Option Addr) (n c : Nat) : (binOp .eql 94 (.slice ao n c) (.slice none 0 0)).run Tryz.prog w = .ok (.bool ao.isNone) w := by
  simp only [binOp]
  simp [show Op.equal 94 (.slice ao n c) (.slice none 0 0) = Op.equalIn (9999 + 1) 94 (.slice ao n c) (.slice none 0 0) from rfl, slice_nil_in w 9999 94 Tryz.underlying94]
set_option maxHeartbeats 1000000 in
theorem slclone_any {w : World} {B : Nat} {v : Value} {l : List ByteArray} (h : w.ownsRow B 9 1 v l.length (l.map Value.string)) (hl : l.length ≤ 1024) :
    Calls Tryz.prog 121 #[v] w fun e w' => ∃ v', e = .returned v' ∧ w'.ownsRow w.heap.size 9 1 v' l.length (l.map Value.string) ∧ Below w.heap.size w w' := by
  obtain ⟨i0, hi, hz0, hz1, hz2⟩ := info_parts infoS
  have h0 := h
  rcases h.2 with ⟨rfl, hn⟩ | ⟨g, cap, cur, rfl, _⟩
  · have hl0 : l = [] := List.eq_nil_of_length_eq_zero hn
    subst hl0
    have hsn := fun w : World => slice_nil w none 0 0
    go_enter Tryz.func121, Tryz.ntmps121
    go_wp2
    go_ret
    exact ⟨_, rfl, World.ownsRow_nil _ _ _ _, Below.refl _ _⟩
  · have hnews : ∀ j u, (l.map Value.string)[j]? = some u → (w.alloc (.cells #[] 9)).cell? ((⟨g, 0, none⟩ : Addr).add j) = some u := fun j u hj => by
      exact ((h0.alloc (.cells #[] 9)).cells (g := g) rfl) j u hj
    have hown : (w.alloc (.cells #[] 9)).ownsRow w.heap.size 9 1 (.slice (some ⟨w.heap.size, 0, none⟩) 0 0) 0 [] := ⟨rfl, Or.inr ⟨w.heap.size, 0, #[], rfl, Nat.le_refl _, heap_alloc_new w _, Nat.le_refl _, Nat.zero_le _, rfl, rfl⟩⟩
    have hsn := fun w : World => slice_nil w (some ⟨g, 0, none⟩) l.length cap
    clear h h0
    go_enter Tryz.func121, Tryz.ntmps121
    go_wp2_with (at_builtin; refine wpList_append_own _ rfl _ _ 94 rfl w.heap.size 9 i0 (.string ⟨#[]⟩) 1 16 Tryz.underlying94 hi hz0 hz1 hz2 rfl (by decide) (.slice (some ⟨w.heap.size, 0, none⟩) 0 0) 0 [] rfl hown ⟨g, 0, none⟩ l.length cap (l.map Value.string) rfl (by simp) hnews (strs_one l) (by unfold maxLen; omega) (by omega) (by simp) ?_; intro v' w1 hown' hgrow _)
    go_ret
    refine ⟨v', rfl, by simpa using hown', ?_⟩
    exact (n_below_alloc w _).grown hgrow (by simp) (fun k e => by
      have e' : k = w.heap.size := by simpa [Value.ownBlock] using e.symm
      omega)
theorem map_below {w w' : World} {q n : Nat} {D : DataW Unit} (h : w.ownsMap Tryz.prog 9 (plainElem Tryz.prog 3) q n D) (hm : Below w.heap.size w w') : w'.ownsMap Tryz.prog 9 (plainElem Tryz.prog 3) q n D := map_keep (ks := []) h (n_Mod.ofBelow hm) (by simp)
theorem n_undr {w w' : World} (h : Below w.drew.heap.size w.drew w') : Below w.heap.size w w' := ⟨h.os, h.tape, h.output, h.size, h.block⟩
theorem copy_tb {w w3 : World} {B B1 B2 p q q' : Nat} {v v' : Value} {l : List ByteArray} {D : DataW Unit} (h : Tb w B p v q l) (ho : w3.ownsRow B1 9 1 v' l.length (l.map Value.string)) (hm : w3.ownsMap Tryz.prog 9 (plainElem Tryz.prog 3) q' l.length D) (hO : MapOf l D) (h1 : B2 ≤ B1) (h2 : B2 ≤ q') (h3 : B2 ≤ w3.heap.size) :
    Tb (w3.alloc (.cells #[v', .map (some q')] 162)) B2 w3.heap.size v' q' l :=
  ⟨heap_alloc_new w3 _, h3, n_own_base (n_own_below ho (n_below_alloc _ _)) h1, h2, ⟨D, hm.alloc _, hO⟩, h.len, h.good, h.nodup⟩
set_option maxHeartbeats 2000000 in
theorem copy_any {w : World} {B p q : Nat} {v : Value} {l : List ByteArray} (h : Tb w B p v q l) :
    Calls Tryz.prog 90 #[.pointer (some ⟨p, 0, none⟩)] w fun e w' => ∃ p' v' q', e = .returned (.pointer (some ⟨p', 0, none⟩)) ∧ Tb w' w.heap.size p' v' q' l ∧ Below w.heap.size w w' := by
  have c0 := h.c0
  have c1 := h.c1
  have hlen := h.len
  obtain ⟨D, hD, hO⟩ := h.map
  have hown := h.own
  obtain ⟨ao, c, rfl⟩ := own_shape hown
  have hp := h.lt
  have hb : Below w.heap.size w w := Below.refl _ _
  go_enter Tryz.func90, Tryz.ntmps90
  go_wp2
  go_region_held3 (fun w' => w'.cell? ⟨p, 0, none⟩ = some (.slice ao l.length c) ∧ w'.cell? ⟨p, 1, none⟩ = some (.map (some q))) (first | exact ⟨c0, c1⟩ | go_keep)
    (first
      | (go_at_call 121; refine Calls.mono (slclone_any (B := B) (by exact hown) hlen) ?_; rintro e w4 ⟨v', rfl, ho, hN⟩; (try replace hN := n_undr hN); replace c0 := (hN.cell (p := ⟨p, 0, none⟩) (Nat.lt_of_lt_of_le hp hb.size)).trans c0; replace c1 := (hN.cell (p := ⟨p, 1, none⟩) (Nat.lt_of_lt_of_le hp hb.size)).trans c1; have z4 := hb.size; replace hb := hb.trans (hN.mono z4); (try replace hD := map_below hD hN); (try replace hm := map_below hm hN); obtain ⟨ao', c', rfl⟩ := own_shape ho)
      | (go_at_call 122; refine Calls.mono (mclone_any (n := l.length) (D := D) (by exact hD)) ?_; rintro e w5 ⟨rfl, hm, hN⟩; (try replace hN := n_undr hN); replace c0 := (hN.cell (p := ⟨p, 0, none⟩) (Nat.lt_of_lt_of_le hp hb.size)).trans c0; replace c1 := (hN.cell (p := ⟨p, 1, none⟩) (Nat.lt_of_lt_of_le hp hb.size)).trans c1; have z5 := hb.size; replace hb := hb.trans (hN.mono z5); (try replace hown := n_own_below hown hN); (try replace ho := n_own_below ho hN)))
  all_goals go_wp2
  all_goals go_ret
  all_goals exact ⟨_, _, _, rfl, copy_tb h ho hm hO (by first | omega | (simp; done) | (simp; omega)) (by first | omega | (simp; done) | (simp; omega)) hb.size, hb.alloc hb.size _⟩
end Go.Proofs.YtlibjdilicfcdaaGreatDoor

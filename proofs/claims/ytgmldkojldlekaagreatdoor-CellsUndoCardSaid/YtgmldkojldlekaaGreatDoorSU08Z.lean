/- slices.All over a row of texts: what its iterator tells a body that may write what is new. -/
import Derived.Deep.AppendLies
import Derived.Laws.MakeOwn
import Derived.Test.YtgmldkojldlekaaGreatDoorSU04Z
import Derived.Test.YtgmldkojldlekaaGreatDoorSU06Z
import Derived.Test.YtgmldkojldlekaaGreatDoorSU07Z
namespace Go.Proofs.YtgmldkojldlekaaGreatDoor
open Go.RowKit Go.Shelf
attribute [local go_sem] Oper.semAt_some
structure EAK (l : List ByteArray) (b o c Bs : Nat) (J : List (Nat × ByteArray) → World → Prop) (k : Nat) (wr : World) : Prop where
  j : J (upto l k) wr
  box : wr.heap[Bs]? = some (.cells #[.slice (some ⟨b, o, none⟩) l.length c] 41)
  row : ∀ j, j < l.length → wr.cell? ⟨b, o + j, none⟩ = some (.string (l.getD j ⟨#[]⟩))
set_option maxRecDepth 100000 in
set_option maxHeartbeats 4000000 in
theorem sallK_tells (l : List ByteArray) (b o c N Bs : Nat) (w : World) (hN : 2 ≤ N) (hl : l.length ≤ 5000) (hBs : w.heap[Bs]? = some (.cells #[.slice (some ⟨b, o, none⟩) l.length c] 41)) (hrow : ∀ j, j < l.length → w.cell? ⟨b, o + j, none⟩ = some (.string (l.getD j ⟨#[]⟩))) :
    TellsK N Tryz.prog 91 #[.pointer (some ⟨Bs, 0, none⟩)] encA (fun k => k = Bs ∨ (l ≠ [] ∧ k = b)) (nextA l) (fun xs => xs = upto l l.length) w := by
  intro lp J Jx W hW hJ hJx hY h0
  have hbx : W.heap[Bs]? = some (.cells #[.slice (some ⟨b, o, none⟩) l.length c] 41) := (hW.block _ (lt_of_block hBs)).trans hBs
  have hrw : ∀ j, j < l.length → W.cell? ⟨b, o + j, none⟩ = some (.string (l.getD j ⟨#[]⟩)) := fun j hj => (hW.cell (p := ⟨b, o + j, none⟩) (lt_of_cell (hrow j hj))).trans (hrow j hj)
  have hcb : W.cell? ⟨Bs, 0, none⟩ = some (.slice (some ⟨b, o, none⟩) l.length c) := by simp [World.cell?, hbx]
  have h1n : 1 ≤ N := by omega
  refine callsIn_of_wp Tryz.func91 rfl trivial ?_ rfl
  simp only [Tryz.ntmps91, List.size_toArray, List.length_cons, List.length_nil, Nat.reduceAdd, Nat.reduceSub, Array.replicate_succ, Array.replicate_zero, List.push_toArray, List.append_toArray, List.nil_append, List.cons_append]
  gi_wp2
  gi_loopw [7] (fun i wr => ∃ k : Nat, k ≤ l.length ∧ i = .int .i64 (k : Int) ∧ EAK l b o c Bs J k wr) (fun i _ => l.length - (intOf i).toNat)
  case atStart => exact ⟨0, Nat.zero_le _, rfl, ⟨h0, hbx, hrw⟩⟩
  case round =>
    obtain ⟨k, hk, rfl, hi⟩ := hrel
    by_cases hlt : k < l.length
    · have hcx' := hi.row k hlt
      have hup := upto_succ l k
      have hT : nextA l (upto l k) (k, l.getD k ⟨#[]⟩) wr := ⟨by rw [upto_length], by rw [upto_length]; exact hlt, by rw [upto_length]⟩
      obtain ⟨fn, tmps, assign, body, hy, hR⟩ := hY _ _ wr hi.j hT
      simp only [encA] at hy
      have hlt' : (k : Int) < (l.length : Int) := by omega
      have HI := hid hi
      have HR := hid hR
      clear hT hi hR
      obtain ⟨x, hx⟩ : ∃ x, x = l.getD k ⟨#[]⟩ := ⟨_, rfl⟩
      rw [← hx] at hcx' hup hy HR
      clear hx
      gi_wp2
      refine HR.out.mono ?_
      rintro e W3 (⟨rfl, hJ3, hk3⟩ | ⟨rfl, hJx3⟩)
      · have hb3 : W3.heap[Bs]? = some (.cells #[.slice (some ⟨b, o, none⟩) l.length c] 41) := (hk3.2 _ (Or.inl rfl) (lt_of_block HI.out.box)).trans HI.out.box
        have hr3 : ∀ j, j < l.length → W3.cell? ⟨b, o + j, none⟩ = some (.string (l.getD j ⟨#[]⟩)) := fun j hj => by
          have h1 := HI.out.row j hj
          rw [World.cell?_of_block (w := wr) (a := ⟨b, o + j, none⟩) (hk3.2 b (Or.inr ⟨fun e => by rw [e] at hj; simp at hj, rfl⟩) (lt_of_cell h1))]
          exact h1
        have hI3 : EAK l b o c Bs J (k + 1) W3 := ⟨by rw [hup]; exact hJ3, hb3, hr3⟩
        gi_wp2
        go_roundw
        case rel => exact ⟨k + 1, by omega, by simp, hI3⟩
        case measure => simp [intOf]; omega
      · gi_wp2
        refine bodyPost_ret (results_none rfl _ _ _) rfl ?_
        exact ⟨⟨_, rfl⟩, .inr ⟨_, hJx3⟩⟩
    · obtain rfl : k = l.length := by omega
      have hJ := hi.j
      gi_wp2
      go_end0
      exact ⟨⟨_, rfl⟩, .inl ⟨_, rfl, hJ⟩⟩
end Go.Proofs.YtgmldkojldlekaaGreatDoor

namespace Go.Proofs.YtgmldkojldlekaaGreatDoor
open Go.RowKit
def wdN (l : List Int) (k : Nat) : Int := l.getD k 0
def tgN (l : List Int) (k : Nat) : Int := wdN l k % 8
def vlN (l : List Int) (k : Nat) : Nat := (valOf (wdN l k)).toNat
def hdN (l : List Int) (k : Nat) : Prop := tgN l k = 4 ∨ tgN l k = 5
def arN' (l : List Int) (k : Nat) : Nat := vlN l k % 16
structure Snd (l : List Int) (V : Nat → Bool) : Prop where
  good : ∀ k, k < l.length → goodB (wdN l k) = true
  rng : ∀ x ∈ l, 0 ≤ x ∧ x ≤ 18446744073709551615
  ref : ∀ k, k < l.length → tgN l k = 0 → vlN l k < l.length ∧ V (vlN l k) = true ∧ (V k = true → vlN l k ≤ k)
  own : ∀ k, k < l.length → V k = true → ¬ hdN l k
  str : ∀ k, k < l.length → tgN l k = 3 → vlN l k < l.length ∧ hdN l (vlN l k)
  fwd : ∀ k, k < l.length → tgN l k = 5 → vlN l k < k ∧ hdN l (vlN l k)
  args : ∀ k, k < l.length → tgN l k = 4 → k + arN' l k < l.length ∧ ∀ i, 1 ≤ i → i ≤ arN' l k → ¬ hdN l (k + i)
def rkN (l : List Int) (V : Nat → Bool) (k : Nat) : Nat := if tgN l k = 4 ∨ tgN l k = 5 then k else if V k = true then l.length + k else 2 * l.length
def nxN (l : List Int) (k : Nat) : Option Nat :=
  if tgN l k = 0 then (if vlN l k = k then none else some (vlN l k)) else if tgN l k = 3 ∨ tgN l k = 5 then some (vlN l k) else none
def endW (l : List Int) (k : Nat) : Int := if tgN l k = 4 then wordOf 3 k else wdN l k
def trmF (l : List Int) : Nat → Nat → Int
  | 0, k => endW l k
  | f + 1, k => match nxN l k with
    | none => endW l k
    | some j => trmF l f j
theorem nx_rk {l : List Int} {V : Nat → Bool} (h : Snd l V) {k j : Nat} (hk : k < l.length) (e : nxN l k = some j) : j < l.length ∧ rkN l V j < rkN l V k := by
  unfold nxN at e
  by_cases h0 : tgN l k = 0
  · rw [if_pos h0] at e
    by_cases h1 : vlN l k = k
    · rw [if_pos h1] at e
      cases e
    · rw [if_neg h1] at e
      injection e with e
      obtain ⟨r1, r2, r3⟩ := h.ref k hk h0
      rw [e] at r1 r2 r3 h1
      refine ⟨r1, ?_⟩
      have nj : ¬ (tgN l j = 4 ∨ tgN l j = 5) := h.own j r1 r2
      have nk : ¬ (tgN l k = 4 ∨ tgN l k = 5) := by omega
      unfold rkN
      rw [if_neg nj, if_neg nk, if_pos r2]
      by_cases hV : V k = true
      · rw [if_pos hV]
        have := r3 hV
        omega
      · rw [if_neg hV]
        omega
  · rw [if_neg h0] at e
    by_cases h1 : tgN l k = 3 ∨ tgN l k = 5
    · rw [if_pos h1] at e
      injection e with e
      rcases h1 with h1 | h1
      · obtain ⟨r1, r2⟩ := h.str k hk h1
        rw [e] at r1 r2
        refine ⟨r1, ?_⟩
        have nk : ¬ (tgN l k = 4 ∨ tgN l k = 5) := by omega
        unfold rkN
        rw [if_pos (show tgN l j = 4 ∨ tgN l j = 5 from r2), if_neg nk]
        split <;> omega
      · obtain ⟨r1, r2⟩ := h.fwd k hk h1
        rw [e] at r1 r2
        refine ⟨by omega, ?_⟩
        unfold rkN
        rw [if_pos (show tgN l j = 4 ∨ tgN l j = 5 from r2), if_pos (Or.inr h1)]
        exact r1
    · rw [if_neg h1] at e
      cases e
theorem trm_more {l : List Int} {V : Nat → Bool} (h : Snd l V) : ∀ (f k : Nat), k < l.length → rkN l V k < f → ∀ g, f ≤ g → trmF l g k = trmF l f k
  | 0, _, _, hf, _, _ => absurd hf (Nat.not_lt_zero _)
  | f + 1, k, hk, hf, g, hg => by
    obtain ⟨g, rfl⟩ : ∃ g', g = g' + 1 := ⟨g - 1, by omega⟩
    show (match nxN l k with | none => endW l k | some j => trmF l g j) = (match nxN l k with | none => endW l k | some j => trmF l f j)
    cases e : nxN l k with
    | none => rfl
    | some j =>
      obtain ⟨h1, h2⟩ := nx_rk h hk e
      exact trm_more h f j h1 (by omega) g (by omega)
def trmW (l : List Int) (k : Nat) : Int := trmF l (2 * l.length + 1) k
theorem rk_le {l : List Int} {V : Nat → Bool} {k : Nat} (hk : k < l.length) : rkN l V k ≤ 2 * l.length := by
  unfold rkN
  split
  · omega
  · split <;> omega
theorem trm_next {l : List Int} {V : Nat → Bool} (h : Snd l V) {k j : Nat} (hk : k < l.length) (e : nxN l k = some j) : trmW l k = trmW l j := by
  obtain ⟨h1, h2⟩ := nx_rk h hk e
  have h3 := rk_le (V := V) hk
  have h4 : trmW l k = trmF l (2 * l.length) j := by
    unfold trmW
    show (match nxN l k with | none => endW l k | some j => trmF l (2 * l.length) j) = _
    rw [e]
  rw [h4]
  exact ((trm_more h (2 * l.length) j h1 (by omega) (2 * l.length + 1) (by omega))).symm
theorem trm_end {l : List Int} {k : Nat} (e : nxN l k = none) : trmW l k = endW l k := by
  unfold trmW
  show (match nxN l k with | none => endW l k | some j => trmF l (2 * l.length) j) = _
  rw [e]
end Go.Proofs.YtgmldkojldlekaaGreatDoor

namespace Go.Proofs.YtgmldkojldlekaaGreatDoor
open Go.RowKit
section
variable {w : World} {B p : Nat} {m : Int} {v : Value} {l : List Int}
theorem Ar.form {T : TypeId} (h : Ar T w B p m v l) {k : Nat} (hk : k < l.length) : ∃ g cap, v = .slice (some ⟨g, 0, none⟩) l.length cap ∧ l.length ≤ cap ∧ g < w.heap.size ∧ g ≠ p ∧ B ≤ g ∧ w.cell? ⟨g, k, none⟩ = some (.int .u64 (l.getD k 0)) ∧ w.frozen? ⟨g, k, none⟩ = false := by
  obtain ⟨g, cap, rfl, hb, hg⟩ := h.own.form (by omega)
  have hr := h.row (k := g) rfl
  obtain ⟨ao, cap', he, hc, _⟩ := h.val
  simp at he
  refine ⟨g, cap, rfl, by rw [he.2]; exact hc, hg, hr.2.2, hb, ?_, h.own.frozenAt k⟩
  rw [h.own.cellAt k (by omega)]
  simp [List.getD, List.getElem?_eq_getElem hk]
set_option maxRecDepth 100000 in
set_option maxHeartbeats 400000 in
theorem load_ok (h : Ar 126 w B p m v l) (k : Nat) (hk : k < l.length) :
    Calls Tryz.prog 73 #[.pointer (some ⟨p, 0, none⟩), .int .i64 (k : Int)] w fun e w' => e = .returned (.tuple #[.int .u64 (l.getD k 0), .nilIface]) ∧ w' = w := by
  obtain ⟨g, cap, rfl, hcap, hg, hne, _, hc, _⟩ := h.form hk
  have c1 := h.c1
  have hi : inB (k : Int) l.length = true := by simp [inB]; omega
  have hk' : (k : Int) < (l.length : Int) := by omega
  go_enter Tryz.func73, Tryz.ntmps73
  go_wp2_with (go_at_call 92; refine (holds_any h _).mono ?_; rintro e w' ⟨rfl, rfl⟩)
  go_ret2
  exact ⟨ret_pair (by simp [List.getD, hk]), rfl⟩
set_option maxRecDepth 100000 in
set_option maxHeartbeats 400000 in
theorem load_no (h : Ar 126 w B p m v l) (n : Int) (hi : inB n l.length = false) :
    Calls Tryz.prog 73 #[.pointer (some ⟨p, 0, none⟩), .int .i64 n] w fun e w' => e = .returned (.tuple #[.int .u64 0, .iface 102 (.pointer (some ⟨w.heap.size, 0, none⟩))]) ∧ w' = w.alloc (faultAtObj 23 n) := by
  go_enter Tryz.func73, Tryz.ntmps73
  go_wp2_with (first | (go_at_call 92; refine (holds_any h _).mono ?_; rintro e w' ⟨rfl, rfl⟩) | (go_at_call 67; refine (afault_any _ _ _).mono ?_; rintro e w' ⟨rfl, rfl⟩))
  go_ret2
  exact ⟨rfl, rfl⟩
theorem set_rng {l : List Int} (h : ∀ x ∈ l, 0 ≤ x ∧ x ≤ 18446744073709551615) (k : Nat) (u : Int) (hu : 0 ≤ u ∧ u ≤ 18446744073709551615) : ∀ x ∈ l.set k u, 0 ≤ x ∧ x ≤ 18446744073709551615 := fun x hx => by
  rcases List.mem_or_eq_of_mem_set hx with h1 | rfl
  · exact h x h1
  · exact hu
theorem Ar.stored {T : TypeId} {g cap : Nat} (h : Ar T w B p m (.slice (some ⟨g, 0, none⟩) l.length cap) l) (k : Nat) (u : Int) (hu : 0 ≤ u ∧ u ≤ 18446744073709551615) :
    a_Upd T w (w.setCell ⟨g, k, none⟩ (.int .u64 u)) B p m (.slice (some ⟨g, 0, none⟩) l.length cap) (l.set k u) (.slice (some ⟨g, 0, none⟩) l.length cap) := by
  have hr := h.row (k := g) rfl
  obtain ⟨h1, _⟩ := h.own.stored k (.int .u64 u)
  refine ⟨⟨h.ty, ?_, h.base, ?_, h.m1, h.m2, by simpa using h.len, set_rng h.rng k u hu⟩, (a_Mod.refl _ w).setCell (p := ⟨g, k, none⟩) (Or.inl (a_mem_foot.2 (Or.inr rfl))) _, a_Nx.refl _ _⟩
  · rw [Below.heap_setCell w ⟨g, k, none⟩ _ p (by simpa using hr.2.2.symm)]; exact h.blk
  · rw [List.map_set, List.length_set]; exact h1
set_option maxRecDepth 100000 in
set_option maxHeartbeats 400000 in
theorem store_ok (h : Ar 126 w B p m v l) (k : Nat) (u : Int) (hk : k < l.length) (u0 : 0 ≤ u) (u1 : u ≤ 18446744073709551615) (hm : mayB u l.length = true) :
    Calls Tryz.prog 66 #[.pointer (some ⟨p, 0, none⟩), .int .i64 (k : Int), .int .u64 u] w fun e w' => e = .returned .nilIface ∧ a_Upd 126 w w' B p m v (l.set k u) v := by
  obtain ⟨g, cap, rfl, hcap, hg, hne, _, hc, hf⟩ := h.form hk
  have c1 := h.c1
  have hi : inB (k : Int) l.length = true := by simp [inB]; omega
  have hk' : (k : Int) < (l.length : Int) := by omega
  go_enter Tryz.func66, Tryz.ntmps66
  go_wp2_with (first | (go_at_call 92; refine (holds_any h _).mono ?_; rintro e w' ⟨rfl, rfl⟩) | (go_at_call 53; refine (top_any h).mono ?_; rintro e w' ⟨rfl, rfl⟩) | (go_at_call 93; refine (may_any _ _ _ u0 u1).mono ?_; rintro e w' ⟨rfl, rfl⟩))
  go_ret
  exact ⟨rfl, h.stored k u ⟨u0, u1⟩⟩
theorem Ar.setVal {T : TypeId} {v' : Value} {l' : List Int} (h : Ar T w B p m v l) (ho : w.ownsRow B 88 1 v' l'.length (l'.map (Value.int .u64))) (hl : (l'.length : Int) ≤ m) (hr : ∀ x ∈ l', 0 ≤ x ∧ x ≤ 18446744073709551615) (hp : v'.ownBlock ≠ some p) :
    Ar T (w.setCell ⟨p, 1, none⟩ v') B p m v' l' := by
  refine ⟨h.ty, ?_, h.base, ownsRow_setCell_other ho (by simpa using hp) _, h.m1, h.m2, hl, hr⟩
  have := heap_setCell_same w p 1 _ T v' h.blk
  rw [this]
  rfl
theorem mod_field (w : World) (p : Nat) (v v' : Value) : a_Mod (a_foot p v) w (w.setCell ⟨p, 1, none⟩ v') := (a_Mod.refl (a_foot p v) w).setCell (p := ⟨p, 1, none⟩) (Or.inl (a_mem_foot.2 (Or.inl rfl))) v'
theorem own_take {e : TypeId} {g n cap k : Nat} {xs : List Value} (h : w.ownsRow B e 1 (.slice (some ⟨g, 0, none⟩) n cap) n xs) (hk : k ≤ n) : w.ownsRow B e 1 (.slice (some ⟨g, 0, none⟩) k cap) k (xs.take k) := by
  rcases h.2 with ⟨h', _⟩ | ⟨g', cap', cur, h', hb, hg, hnc, hcm, hcs, htake⟩
  · simp at h'
  · simp only [Value.slice.injEq, Option.some.injEq, Addr.mk.injEq, and_true, true_and] at h'
    obtain ⟨rfl, rfl⟩ := h'
    have h1 := h.1
    refine ⟨by simp; omega, Or.inr ⟨g, cap, cur, rfl, hb, hg, by omega, hcm, hcs, ?_⟩⟩
    rw [← htake, List.take_take]
    congr 1
    omega
set_option maxRecDepth 100000 in
set_option maxHeartbeats 400000 in
theorem cut_ok (h : Ar 126 w B p m v l) (k : Nat) (hk : k ≤ l.length) :
    Calls Tryz.prog 40 #[.pointer (some ⟨p, 0, none⟩), .int .i64 (k : Int)] w fun e w' => ∃ v', e = .returned .nilIface ∧ a_Upd 126 w w' B p m v (l.take k) v' := by
  have c1 := h.c1
  have f1 := h.f1
  have hk' : (k : Int) ≤ (l.length : Int) := by omega
  have hk0 : (0 : Int) ≤ (k : Int) := by omega
  have hlen := h.len
  have hm2 := h.m2
  rcases h.own.2 with ⟨rfl, hn⟩ | ⟨g, cap, cur, rfl, hb, hg, hc, hm, _⟩
  · obtain rfl : l = [] := List.eq_nil_of_length_eq_zero hn
    obtain rfl : k = 0 := by simpa using hk
    go_enter Tryz.func40, Tryz.ntmps40
    go_wp2_with (first | (go_at_call 53; refine (top_any h).mono ?_; rintro e w' ⟨rfl, rfl⟩))
    go_ret
    exact ⟨_, rfl, h.setVal (World.ownsRow_nil _ _ _ _) h.len h.rng (by simp [Value.ownBlock]), mod_field _ _ _ _, a_Nx.refl _ _⟩
  · have hr := h.row (k := g) rfl
    have HO := own_take h.own hk
    have HO' : Hid (w.ownsRow B 88 1 (.slice (some ⟨g, 0, none⟩) k cap) k ((l.map (Value.int .u64)).take k)) := HO
    clear HO
    have hkc : (k : Int) ≤ (cap : Int) := by omega
    have hcm : cap ≤ 9223372036854775807 := by simpa [maxLen] using hm
    go_enter Tryz.func40, Tryz.ntmps40
    go_wp2_with (first | (go_at_call 53; refine (top_any h).mono ?_; rintro e w' ⟨rfl, rfl⟩))
    go_ret
    have ht : (l.take k).length = k := by simp; omega
    refine ⟨_, rfl, h.setVal (v' := .slice (some ⟨g, 0, none⟩) k cap) (l' := l.take k) ?_ (by rw [ht]; omega) (fun x hx => h.rng x (List.mem_of_mem_take hx)) (by simpa [Value.ownBlock] using hr.2.2), mod_field _ _ _ _, fun _ e => Or.inl e⟩
    rw [ht, List.map_take]
    exact HO'.out
end
end Go.Proofs.YtgmldkojldlekaaGreatDoor

namespace Go.Proofs.YtgmldkojldlekaaGreatDoor
open Go.RowKit
theorem infoI : (Tryz.prog.info? 3).map (fun i => (i.zero, i.size, i.bytes)) = some (some (.int .i64 0), 1, 8) := by kernel_rfl
def seenArr (N : Nat) (m : List Int) : Array Value := ((List.range N).map fun (i : Nat) => Value.bool (decide ((i : Int) ∈ m))).toArray
theorem seen_size (N : Nat) (m : List Int) : (seenArr N m).size = N := by simp [seenArr]
theorem seen_at {N : Nat} {m : List Int} {i : Nat} (h : i < N) : (seenArr N m)[i]? = some (.bool (decide ((i : Int) ∈ m))) := by simp [seenArr, h]
theorem seen_set {N : Nat} {m : List Int} {n : Nat} : (seenArr N m).setIfInBounds n (.bool true) = seenArr N (m ++ [(n : Int)]) := by
  apply Array.ext
  · simp [seen_size]
  · intro i h1 h2
    have hi : i < N := by simpa [seen_size] using h2
    have e1 : (seenArr N (m ++ [(n : Int)]))[i] = .bool (decide ((i : Int) ∈ m ++ [(n : Int)])) := by
      have := seen_at (N := N) (m := m ++ [(n : Int)]) hi
      rw [Array.getElem?_eq_getElem (by simpa [seen_size] using hi)] at this
      exact Option.some.inj this
    have e2 : (seenArr N m)[i]'(by simpa [seen_size] using hi) = .bool (decide ((i : Int) ∈ m)) := by
      have := seen_at (N := N) (m := m) hi
      rw [Array.getElem?_eq_getElem (by simpa [seen_size] using hi)] at this
      exact Option.some.inj this
    rw [e1, Array.getElem_setIfInBounds (by simpa [seen_size] using hi)]
    split
    · rename_i e
      subst e
      simp
    · rename_i e
      rw [e2]
      congr 1
      rw [decide_eq_decide]
      simp
      intro e'
      omega
structure St (W w : World) (nv : Value) (N : Nat) (sr sv mv fv gv : Nat) (m : List Int) : Prop where
  b : Below W.heap.size W w
  sc : w.cell? ⟨sv, 0, none⟩ = some (.slice (some ⟨sr, 0, none⟩) N N)
  fc : w.cell? ⟨fv, 0, none⟩ = some (.func (.func 76) #[] #[.pointer (some ⟨sv, 0, none⟩), .pointer (some ⟨mv, 0, none⟩), .pointer (some ⟨fv, 0, none⟩), .pointer (some ⟨gv, 0, none⟩)])
  gc : w.cell? ⟨gv, 0, none⟩ = some nv
  row : w.heap[sr]? = some (.cells (seenArr N m) 4 (0, 0))
  met : ∃ ao c, w.heap[mv]? = some (.cells #[.slice ao m.length c] 28 (0, 0)) ∧ w.ownsRow W.heap.size 3 1 (.slice ao m.length c) m.length (m.map (Value.int .i64)) ∧ (∀ k, Value.ownBlock (.slice ao m.length c) = some k → k ∉ [sr, sv, mv, fv, gv])
structure Bks (W : World) (sr sv mv fv gv : Nat) : Prop where
  nd : [sr, sv, mv, fv, gv].Nodup
  ge : ∀ k ∈ [sr, sv, mv, fv, gv], W.heap.size ≤ k
theorem own_block {w w' : World} {B : Nat} {e : TypeId} {s : Nat} {v : Value} {n : Nat} {xs : List Value} (h : w.ownsRow B e s v n xs) (hb : ∀ k, v.ownBlock = some k → w'.heap[k]? = w.heap[k]?) : w'.ownsRow B e s v n xs := by
  refine ⟨h.1, ?_⟩
  rcases h.2 with h0 | ⟨g, cap, cur, rfl, hB, hg, rest⟩
  · exact Or.inl h0
  · exact Or.inr ⟨g, cap, cur, rfl, hB, by rw [hb g rfl]; exact hg, rest⟩
theorem St.push {W w w2 : World} {nv : Value} {N sr sv mv fv gv : Nat} {m : List Int} {n : Nat} {o : Obj} {ao : Option Addr} {c g cap : Nat} (hB : Bks W sr sv mv fv gv) (h : St W w nv N sr sv mv fv gv m)
    (hm : w.heap[mv]? = some (.cells #[.slice ao m.length c] 28 (0, 0))) (hk : ∀ k, Value.ownBlock (.slice ao m.length c) = some k → k ∉ [sr, sv, mv, fv, gv])
    (hg : ((w.setCell ⟨sr, n, none⟩ (.bool true)).alloc o).grownBy w2 (Value.ownBlock (.slice ao m.length c)))
    (hown : w2.ownsRow W.heap.size 3 1 (.slice (some ⟨g, 0, none⟩) (m.length + 1) cap) (m.length + 1) (m.map (Value.int .i64) ++ [.int .i64 (n : Int)]))
    (hat : Value.ownBlock (.slice ao m.length c) = some g ∨ g = w.heap.size + 1) (hbl : ∀ k, Value.ownBlock (.slice ao m.length c) = some k → W.heap.size ≤ k) :
    St W (w2.setCell ⟨mv, 0, none⟩ (.slice (some ⟨g, 0, none⟩) (m.length + 1) cap)) nv N sr sv mv fv gv (m ++ [(n : Int)]) := by
  have hnd := hB.nd
  simp only [List.nodup_cons, List.mem_cons, List.not_mem_nil, or_false, not_or, List.nodup_nil, and_true, not_false_eq_true] at hnd
  obtain ⟨⟨a1, a2, a3, a4⟩, ⟨a5, a6, a7⟩, ⟨a8, a9⟩, a10⟩ := hnd
  have hlt : ∀ k ∈ [sr, sv, mv, fv, gv], k < w.heap.size := fun k hk' => by
    simp at hk'
    rcases hk' with rfl | rfl | rfl | rfl | rfl
    · exact lt_of_block h.row
    · exact lt_of_cell h.sc
    · exact lt_of_block hm
    · exact lt_of_cell h.fc
    · exact lt_of_cell h.gc
  have hsz : ((w.setCell ⟨sr, n, none⟩ (.bool true)).alloc o).heap.size = w.heap.size + 1 := by simp
  have h1 : ∀ k ∈ [sr, sv, mv, fv, gv], w2.heap[k]? = (w.setCell ⟨sr, n, none⟩ (.bool true)).heap[k]? := fun k hk' => by
    rw [hg.block k (by have := hlt k hk'; omega) (fun e => hk k e.symm hk'), Below.heap_alloc _ _ _ (by simpa using hlt k hk')]
  have h2 : ∀ k ∈ [sv, fv, gv], (w2.setCell ⟨mv, 0, none⟩ (.slice (some ⟨g, 0, none⟩) (m.length + 1) cap)).heap[k]? = w.heap[k]? := fun k hk' => by
    have hin : k ∈ [sr, sv, mv, fv, gv] := by
      simp at hk' ⊢
      rcases hk' with rfl | rfl | rfl <;> simp
    have hne : k ≠ mv ∧ k ≠ sr := by
      simp at hk'
      rcases hk' with rfl | rfl | rfl
      · exact ⟨a5, fun e => a1 e.symm⟩
      · exact ⟨fun e => a8 e.symm, fun e => a3 e.symm⟩
      · exact ⟨fun e => a9 e.symm, fun e => a4 e.symm⟩
    rw [Below.heap_setCell _ _ _ _ hne.1, h1 k hin, Below.heap_setCell _ _ _ _ hne.2]
  have hgk : g ∉ [sr, sv, mv, fv, gv] := by
    rcases hat with e | e
    · exact hk g e
    · intro hx
      have := hlt g hx
      omega
  have hmv := h1 mv (by simp)
  rw [Below.heap_setCell _ _ _ _ (fun e => a2 e.symm), hm] at hmv
  have hb1 : Below W.heap.size W ((w.setCell ⟨sr, n, none⟩ (.bool true)).alloc o) := (h.b.setCell (hB.ge sr (by simp)) _).alloc (by simpa using h.b.size) _
  refine ⟨?_, ?_, ?_, ?_, ?_, ⟨some ⟨g, 0, none⟩, cap, ?_, ?_, ?_⟩⟩
  · exact (hb1.grown hg hb1.size (fun k e => hbl k e)).setCell (hB.ge mv (by simp)) _
  · exact (World.cell?_of_block (a := ⟨sv, 0, none⟩) (h2 sv (by simp))).trans h.sc
  · exact (World.cell?_of_block (a := ⟨fv, 0, none⟩) (h2 fv (by simp))).trans h.fc
  · exact (World.cell?_of_block (a := ⟨gv, 0, none⟩) (h2 gv (by simp))).trans h.gc
  · rw [Below.heap_setCell _ _ _ _ a2, h1 sr (by simp), heap_setCell_same w sr n _ _ _ h.row, seen_set]
  · have := one_setCell (u := .slice (some ⟨g, 0, none⟩) (m.length + 1) cap) hmv
    simpa using this
  · have h3 : (w2.setCell ⟨mv, 0, none⟩ (.slice (some ⟨g, 0, none⟩) (m.length + 1) cap)).ownsRow W.heap.size 3 1 (.slice (some ⟨g, 0, none⟩) (m.length + 1) cap) (m.length + 1) (m.map (Value.int .i64) ++ [.int .i64 (n : Int)]) :=
      own_block hown (fun k e => Below.heap_setCell _ _ _ _ (fun e' => hgk (by
        have : g = k := by simpa [Value.ownBlock] using e
        rw [this, e']
        simp)))
    simpa using h3
  · intro k e
    have : g = k := by simpa [Value.ownBlock] using e
    rw [← this]
    exact hgk
theorem take_snoc {l : List Int} {k : Nat} (h : k < l.length) : l.take (k + 1) = l.take k ++ [l.getD k 0] := by
  rw [List.take_succ_eq_append_getElem h]
  simp [List.getD, h]
theorem meetF_old {g : Gf} {f : Nat} {l m : List Int} {n : Int} (h : n ∈ meetF g f l m) : meetF g f (l ++ [n]) m = meetF g f l m := by
  cases f with
  | zero => rfl
  | succ f =>
    rw [meetF_succ] at h ⊢
    rw [meetF_succ, List.foldl_append]
    simp only [List.foldl_cons, List.foldl_nil]
    exact if_pos h
theorem meetF_new {g : Gf} {f : Nat} {l m : List Int} {n : Int} (h : n ∉ meetF g (f + 1) l m) : meetF g (f + 1) (l ++ [n]) m = meetF g f (g.argsOf n) (meetF g (f + 1) l m ++ [n]) := by
  rw [meetF_succ] at h ⊢
  rw [meetF_succ, List.foldl_append]
  simp only [List.foldl_cons, List.foldl_nil]
  exact if_neg h
end Go.Proofs.YtgmldkojldlekaaGreatDoor

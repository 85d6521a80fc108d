/- numbered and copied of package graph: lists and nodes of their own. -/
import Derived.Shelf.Pu.Clone
import Derived.Deep.RegionHeld3
import Derived.Deep.LoopGhost
import Derived.Deep.QuietTactic
import Derived.BigQuiet
import Derived.Test.YtlibjdilicfcdaaGreatDoorns11Z
import Derived.Test.YtlibjdilicfcdaaGreatDoorns03Z
import Derived.Test.YtlibjdilicfcdaaGreatDoorns01Z
import Derived.Test.YtlibjdilicfcdaaGreatDoorns09Z
namespace Go.Proofs.YtlibjdilicfcdaaGreatDoor
set_option maxRecDepth 100000
open Go.RowKit
theorem own_base {w : World} {B B' : Nat} {e : TypeId} {s : Nat} {v : Value} {n : Nat} {xs : List Value} (h : w.ownsRow B e s v n xs) (hB : B' ≤ B) : w.ownsRow B' e s v n xs := by
  refine ⟨h.1, ?_⟩
  rcases h.2 with h0 | ⟨g, cap, cur, rfl, hb, rest⟩
  · exact Or.inl h0
  · exact Or.inr ⟨g, cap, cur, rfl, by omega, rest⟩
theorem Ri.ofOwn {w : World} {B : Nat} {ao : Option Addr} {c : Nat} {l : List Int} (h : w.ownsRow B 3 1 (.slice ao l.length c) l.length (l.map (Value.int .i64))) : Ri w (.slice ao l.length c) l := by
  refine ⟨ao, c, rfl, fun j hj => ?_⟩
  have h0 := h
  rcases h.2 with ⟨_, hn⟩ | ⟨g, cap, cur, hv, _⟩
  · omega
  · have e : ao = some ⟨g, 0, none⟩ := by injection hv
    subst e
    refine ⟨g, 0, rfl, ?_⟩
    have hc : w.cell? ⟨g, j, none⟩ = (l.map (Value.int .i64))[j]? := by
      have h2 : cap = c := by injection hv with _ _ h3; exact h3.symm
      subst h2
      exact h0.cellAt j (by omega)
    rw [Nat.zero_add, hc]
    simp [List.getD, hj]
end Go.Proofs.YtlibjdilicfcdaaGreatDoor

namespace Go.Proofs.YtlibjdilicfcdaaGreatDoor
set_option maxRecDepth 100000
open Go.RowKit
def ncells : List Nd → List Value → List Value
  | n :: r, v :: vs => .int .i64 n.kind :: .string n.name :: .int .i64 n.num :: v :: ncells r vs
  | _, _ => []
def blocks (vs : List Value) : List Nat := vs.filterMap Value.ownBlock
end Go.Proofs.YtlibjdilicfcdaaGreatDoor

namespace Go.Proofs.YtlibjdilicfcdaaGreatDoor
set_option maxRecDepth 100000
open Go.RowKit
def pos : List Int → Int → Nat
  | [], _ => 0
  | y :: r, x => if y = x then 0 else pos r x + 1
def posF (m : List Int) (x : Int) : Int := if x ∈ m then (pos m x : Int) else 0
theorem pos_lt : ∀ {m : List Int} {x : Int}, x ∈ m → pos m x < m.length
  | y :: r, x, h => by
    by_cases e : y = x
    · simp [pos, e]
    · have h' : x ∈ r := by
        rcases List.mem_cons.1 h with rfl | h
        · exact absurd rfl e
        · exact h
      have := pos_lt h'
      simp only [pos, if_neg e, List.length_cons]
      omega
theorem pos_at : ∀ {m : List Int} {x : Int}, x ∈ m → m.getD (pos m x) 0 = x
  | y :: r, x, h => by
    by_cases e : y = x
    · simp [pos, e]
    · have h' : x ∈ r := by
        rcases List.mem_cons.1 h with rfl | h
        · exact absurd rfl e
        · exact h
      have := pos_at h'
      simp only [pos, if_neg e]
      simpa using this
end Go.Proofs.YtlibjdilicfcdaaGreatDoor

namespace Go.Proofs.YtlibjdilicfcdaaGreatDoor
set_option maxRecDepth 100000
open Go.RowKit Go.Shelf
attribute [local go_sem] Oper.semAt_some
structure EAK (l : List ByteArray) (b o c Bs : Nat) (J : List (Nat × ByteArray) → World → Prop) (k : Nat) (wr : World) : Prop where
  j : J (upto l k) wr
  box : wr.heap[Bs]? = some (.cells #[.slice (some ⟨b, o, none⟩) l.length c] 94)
  row : ∀ j, j < l.length → wr.cell? ⟨b, o + j, none⟩ = some (.string (l.getD j ⟨#[]⟩))
set_option maxHeartbeats 4000000 in
theorem sallK_tells (l : List ByteArray) (b o c N Bs : Nat) (w : World) (hN : 2 ≤ N) (hl : l.length ≤ 5000) (hBs : w.heap[Bs]? = some (.cells #[.slice (some ⟨b, o, none⟩) l.length c] 94)) (hrow : ∀ j, j < l.length → w.cell? ⟨b, o + j, none⟩ = some (.string (l.getD j ⟨#[]⟩))) :
    TellsK N Tryz.prog 147 #[.pointer (some ⟨Bs, 0, none⟩)] encA (fun k => k = Bs ∨ (l ≠ [] ∧ k = b)) (nextA l) (fun xs => xs = upto l l.length) w := by
  intro lp J Jx W hW hJ hJx hY h0
  have hbx : W.heap[Bs]? = some (.cells #[.slice (some ⟨b, o, none⟩) l.length c] 94) := (hW.block _ (lt_of_block hBs)).trans hBs
  have hrw : ∀ j, j < l.length → W.cell? ⟨b, o + j, none⟩ = some (.string (l.getD j ⟨#[]⟩)) := fun j hj => (hW.cell (p := ⟨b, o + j, none⟩) (lt_of_cell (hrow j hj))).trans (hrow j hj)
  have hcb : W.cell? ⟨Bs, 0, none⟩ = some (.slice (some ⟨b, o, none⟩) l.length c) := by simp [World.cell?, hbx]
  have h1n : 1 ≤ N := by omega
  refine callsIn_of_wp Tryz.func147 rfl trivial ?_ rfl
  simp only [Tryz.ntmps147, List.size_toArray, List.length_cons, List.length_nil, Nat.reduceAdd, Nat.reduceSub, Array.replicate_succ, Array.replicate_zero, List.push_toArray, List.append_toArray, List.nil_append, List.cons_append]
  gi_wp2
  gi_loopw [7] (fun i wr => ∃ k : Nat, k ≤ l.length ∧ i = .int .i64 (k : Int) ∧ EAK l b o c Bs J k wr) (fun i _ => l.length - (intOf i).toNat)
  case atStart => exact ⟨0, Nat.zero_le _, rfl, ⟨h0, hbx, hrw⟩⟩
  case round =>
    obtain ⟨k, hk, rfl, hi⟩ := hrel
    by_cases hlt : k < l.length
    · have hcx' := hi.row k hlt
      have hup := upto_succ l k
      have hT : nextA l (upto l k) (k, l.getD k ⟨#[]⟩) wr := ⟨by rw [upto_length], by rw [upto_length]; exact hlt, by rw [upto_length]⟩
      obtain ⟨fn, tmps, assign, body, hy, hR⟩ := hY _ _ wr hi.j hT
      simp only [encA] at hy
      have hlt' : (k : Int) < (l.length : Int) := by omega
      have HI := hid hi
      have HR := hid hR
      clear hT hi hR
      obtain ⟨x, hx⟩ : ∃ x, x = l.getD k ⟨#[]⟩ := ⟨_, rfl⟩
      rw [← hx] at hcx' hup hy HR
      clear hx
      gi_wp2
      refine HR.out.mono ?_
      rintro e W3 (⟨rfl, hJ3, hk3⟩ | ⟨rfl, hJx3⟩)
      · have hb3 : W3.heap[Bs]? = some (.cells #[.slice (some ⟨b, o, none⟩) l.length c] 94) := (hk3.2 _ (Or.inl rfl) (lt_of_block HI.out.box)).trans HI.out.box
        have hr3 : ∀ j, j < l.length → W3.cell? ⟨b, o + j, none⟩ = some (.string (l.getD j ⟨#[]⟩)) := fun j hj => by
          have h1 := HI.out.row j hj
          rw [World.cell?_of_block (w := wr) (a := ⟨b, o + j, none⟩) (hk3.2 b (Or.inr ⟨fun e => by rw [e] at hj; simp at hj, rfl⟩) (lt_of_cell h1))]
          exact h1
        have hI3 : EAK l b o c Bs J (k + 1) W3 := ⟨by rw [hup]; exact hJ3, hb3, hr3⟩
        gi_wp2
        go_roundw
        case rel => exact ⟨k + 1, by omega, by simp, hI3⟩
        case measure => simp [intOf]; omega
      · gi_wp2
        refine bodyPost_ret (results_none rfl _ _ _) rfl ?_
        exact ⟨⟨_, rfl⟩, .inr ⟨_, hJx3⟩⟩
    · obtain rfl : k = l.length := by omega
      have hJ := hi.j
      gi_wp2
      go_end0
      exact ⟨⟨_, rfl⟩, .inl ⟨_, rfl, hJ⟩⟩
end Go.Proofs.YtlibjdilicfcdaaGreatDoor

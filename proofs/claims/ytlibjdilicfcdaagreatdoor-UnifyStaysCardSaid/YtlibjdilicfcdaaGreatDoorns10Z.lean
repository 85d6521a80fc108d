/- Memory of an arena: what may change ('Mod'), an arena that lies at a block ('Ar'), a row of words that can be read ('Rd'), an error that is just a fault ('Err'). -/
import Derived.Laws.CopyOwn
import Derived.Laws.AppendOwnNone
import Derived.Maps.AppendAt
import Derived.Deep.AppendLies
import Derived.OneCell
import Derived.RangeFuncNested
import Derived.RangeFuncBound
import Derived.Test.YtlibjdilicfcdaaGreatDoorns06Z
namespace Go.Proofs.YtlibjdilicfcdaaGreatDoor
set_option maxRecDepth 100000
open Go.RowKit
structure a_Mod (ks : List Nat) (w w' : World) : Prop where
  os : w'.os = w.os
  tape : w'.tape = w.tape
  output : w'.output = w.output
  size : w.heap.size ≤ w'.heap.size
  block : ∀ k, k < w.heap.size → k ∉ ks → w'.heap[k]? = w.heap[k]?
theorem a_Mod.refl (ks : List Nat) (w : World) : a_Mod ks w w := ⟨rfl, rfl, rfl, Nat.le_refl _, fun _ _ _ => rfl⟩
theorem a_Mod.trans {ks ks' : List Nat} {a b c : World} (h : a_Mod ks a b) (k : a_Mod ks' b c) (hs : ∀ x ∈ ks', x ∈ ks ∨ a.heap.size ≤ x) : a_Mod ks a c :=
  ⟨k.os.trans h.os, k.tape.trans h.tape, k.output.trans h.output, Nat.le_trans h.size k.size, fun i hi hn =>
    (k.block i (Nat.lt_of_lt_of_le hi h.size) (fun hx => by rcases hs i hx with h1 | h1; exact hn h1; omega)).trans (h.block i hi hn)⟩
theorem a_Mod.ofBelow {ks : List Nat} {w w' : World} (h : Below w.heap.size w w') : a_Mod ks w w' :=
  ⟨h.os, h.tape, h.output, h.size, fun k hk _ => h.block k hk⟩
theorem a_Mod.grown {ks : List Nat} {a w w' : World} {row : Option Nat} (h : a_Mod ks a w) (hg : w.grownBy w' row) (hr : ∀ k, row = some k → k ∈ ks ∨ a.heap.size ≤ k) : a_Mod ks a w' :=
  ⟨hg.os.trans h.os, hg.tape.trans h.tape, hg.output.trans h.output, Nat.le_trans h.size hg.size, fun k hk hn =>
    (hg.block k (Nat.lt_of_lt_of_le hk h.size) (fun e => by rcases hr k e.symm with h1 | h1; exact hn h1; omega)).trans (h.block k hk hn)⟩
theorem a_Mod.alloc {ks : List Nat} {a w : World} (h : a_Mod ks a w) (o : Obj) : a_Mod ks a (w.alloc o) :=
  h.grown (World.grownBy_alloc w o none) (fun _ e => by cases e)
theorem a_Mod.setCell {ks : List Nat} {a w : World} (h : a_Mod ks a w) {p : Addr} (hp : p.block ∈ ks ∨ a.heap.size ≤ p.block) (u : Value) : a_Mod ks a (w.setCell p u) :=
  ⟨h.os, h.tape, h.output, by simpa using h.size, fun k hk hn =>
    (Below.heap_setCell w p u k (fun e => by subst e; rcases hp with h1 | h1; exact hn h1; omega)).trans (h.block k hk hn)⟩
theorem a_Mod.cell {ks : List Nat} {w w' : World} (h : a_Mod ks w w') {k o : Nat} (hk : k < w.heap.size) (hn : k ∉ ks) : w'.cell? ⟨k, o, none⟩ = w.cell? ⟨k, o, none⟩ :=
  World.cell?_of_block (w := w) (a := ⟨k, o, none⟩) (h.block k hk hn)
theorem a_Mod.ofMem {ks : List Nat} {w w' : World} (h : a_Mod ks w w') (ks' : List Nat) (hs : ∀ x ∈ ks, x ∈ ks' ∨ w.heap.size ≤ x) : a_Mod ks' w w' := (a_Mod.refl ks' w).trans h hs
def Rd (w : World) (v : Value) (l : List Int) : Prop :=
  (∀ x ∈ l, 0 ≤ x ∧ x ≤ 18446744073709551615) ∧
  ((v = .slice none 0 0 ∧ l = []) ∨ (∃ a c, v = .slice (some a) 0 c ∧ l = []) ∨ ∃ b o c, v = .slice (some ⟨b, o, none⟩) l.length c ∧ ∀ j, j < l.length → w.cell? ⟨b, o + j, none⟩ = some (.int .u64 (l.getD j 0)))
theorem a_lt_of_cell {w : World} {b o : Nat} {u : Value} (h : w.cell? ⟨b, o, none⟩ = some u) : b < w.heap.size := World.block_lt_of_cell? w ⟨b, o, none⟩ h
def Value.a_inBlock : Value → Option Nat
  | .slice (some a) _ _ => some a.block
  | _ => none
theorem Rd.keep {w w' : World} {v : Value} {l : List Int} {ks : List Nat} (h : Rd w v l) (hm : a_Mod ks w w') (hk : ∀ k ∈ ks, Value.a_inBlock v ≠ some k) : Rd w' v l := by
  refine ⟨h.1, ?_⟩
  rcases h.2 with h0 | h0 | ⟨b, o, c, rfl, hc⟩
  · exact Or.inl h0
  · exact Or.inr (Or.inl h0)
  · refine Or.inr (Or.inr ⟨b, o, c, rfl, fun j hj => ?_⟩)
    rw [hm.cell (a_lt_of_cell (hc j hj)) (fun hx => hk b hx rfl)]
    exact hc j hj
theorem Rd.below {w w' : World} {v : Value} {l : List Int} (h : Rd w v l) (hm : Below w.heap.size w w') : Rd w' v l :=
  h.keep (ks := []) (a_Mod.ofBelow hm) (fun _ hx => by cases hx)
theorem Rd.ofOwn {w : World} {B : Nat} {v : Value} {l : List Int} (h : w.ownsRow B 123 1 v l.length (l.map (Value.int .u64))) (hr : ∀ x ∈ l, 0 ≤ x ∧ x ≤ 18446744073709551615) : Rd w v l := by
  refine ⟨hr, ?_⟩
  have h0 := h
  rcases h.2 with ⟨rfl, hn⟩ | ⟨g, cap, cur, rfl, _⟩
  · exact Or.inl ⟨rfl, List.eq_nil_of_length_eq_zero hn⟩
  · refine Or.inr (Or.inr ⟨g, 0, cap, rfl, fun j hj => ?_⟩)
    rw [Nat.zero_add, h0.cellAt j (by omega)]
    simp [List.getD, List.getElem?_eq_getElem hj]
structure Ar (T : TypeId) (w : World) (B p : Nat) (m : Int) (v : Value) (l : List Int) : Prop where
  ty : T ≠ 123
  blk : w.heap[p]? = some (.cells #[.int .i64 m, v] T (0, 0))
  base : B ≤ p
  own : w.ownsRow B 123 1 v l.length (l.map (Value.int .u64))
  m1 : 1 ≤ m
  m2 : m ≤ 65536
  len : (l.length : Int) ≤ m
  rng : ∀ x ∈ l, 0 ≤ x ∧ x ≤ 18446744073709551615
section
variable {T : TypeId} {w : World} {B p : Nat} {m : Int} {v : Value} {l : List Int}
theorem Ar.lt (h : Ar T w B p m v l) : p < w.heap.size := lt_of_block h.blk
theorem Ar.c0 (h : Ar T w B p m v l) : w.cell? ⟨p, 0, none⟩ = some (.int .i64 m) := by simp [World.cell?, h.blk]
theorem Ar.c1 (h : Ar T w B p m v l) : w.cell? ⟨p, 1, none⟩ = some v := by simp [World.cell?, h.blk]
theorem Ar.f1 (h : Ar T w B p m v l) : w.frozen? ⟨p, 1, none⟩ = false := by simp [World.frozen?, h.blk]
theorem Ar.rd (h : Ar T w B p m v l) : Rd w v l := Rd.ofOwn h.own h.rng
theorem Ar.val (h : Ar T w B p m v l) : ∃ ao cap, v = .slice ao l.length cap ∧ l.length ≤ cap ∧ (ao = none → l = [] ∧ cap = 0) := by
  rcases h.own.2 with ⟨rfl, hn⟩ | ⟨g, cap, cur, rfl, _, _, hc, _⟩
  · exact ⟨none, 0, by rw [hn], by omega, fun _ => ⟨List.eq_nil_of_length_eq_zero hn, rfl⟩⟩
  · exact ⟨_, cap, rfl, hc, fun e => by cases e⟩
theorem Ar.row (h : Ar T w B p m v l) {k : Nat} (hk : v.ownBlock = some k) : B ≤ k ∧ k < w.heap.size ∧ k ≠ p := by
  obtain ⟨h1, h2⟩ := h.own.lt k hk
  refine ⟨h1, h2, fun e => ?_⟩
  subst e
  have hb := h.blk
  rcases h.own.2 with ⟨rfl, hn⟩ | ⟨g, cap, cur, rfl, _, hg, _⟩
  · simp [Value.ownBlock] at hk
  · simp [Value.ownBlock] at hk
    subst hk
    rw [hg] at hb
    simp at hb
    exact h.ty hb.2.symm
end
def a_foot (p : Nat) (v : Value) : List Nat := p :: v.ownBlock.toList
theorem a_mem_foot {p k : Nat} {v : Value} : k ∈ a_foot p v ↔ k = p ∨ v.ownBlock = some k := by simp [a_foot]
theorem Ar.keep {T : TypeId} {w w' : World} {B p : Nat} {m : Int} {v : Value} {l : List Int} {ks : List Nat} (h : Ar T w B p m v l) (hm : a_Mod ks w w') (hk : ∀ k ∈ ks, k ∉ a_foot p v) : Ar T w' B p m v l := by
  refine ⟨h.ty, ?_, h.base, ?_, h.m1, h.m2, h.len, h.rng⟩
  · rw [hm.block p h.lt (fun hx => hk p hx (a_mem_foot.2 (Or.inl rfl)))]; exact h.blk
  · refine ⟨h.own.1, ?_⟩
    rcases h.own.2 with h0 | ⟨g, cap, cur, rfl, hb, hg, rest⟩
    · exact Or.inl h0
    · refine Or.inr ⟨g, cap, cur, rfl, hb, ?_, rest⟩
      rw [hm.block g (lt_of_block hg) (fun hx => hk g hx (a_mem_foot.2 (Or.inr rfl)))]; exact hg
theorem Ar.below {T : TypeId} {w w' : World} {B p : Nat} {m : Int} {v : Value} {l : List Int} (h : Ar T w B p m v l) (hm : Below w.heap.size w w') : Ar T w' B p m v l :=
  h.keep (ks := []) (a_Mod.ofBelow hm) (fun _ hx => by cases hx)
def a_Nx (w : World) (v v' : Value) : Prop := ∀ k, v'.ownBlock = some k → v.ownBlock = some k ∨ w.heap.size ≤ k
theorem a_Nx.refl (w : World) (v : Value) : a_Nx w v v := fun _ h => Or.inl h
theorem a_Nx.trans {w w1 : World} {v v1 v2 : Value} (h : a_Nx w v v1) (h1 : a_Nx w1 v1 v2) (hs : w.heap.size ≤ w1.heap.size) : a_Nx w v v2 := fun k hk => by
  rcases h1 k hk with h2 | h2
  · exact h k h2
  · exact Or.inr (by omega)
structure a_Upd (T : TypeId) (w w' : World) (B p : Nat) (m : Int) (v : Value) (l' : List Int) (v' : Value) : Prop where
  ar : Ar T w' B p m v' l'
  mod : a_Mod (a_foot p v) w w'
  nx : a_Nx w v v'
theorem a_Upd.trans {T : TypeId} {w w1 w2 : World} {B p : Nat} {m : Int} {v v1 v2 : Value} {l1 l2 : List Int} (h : a_Upd T w w1 B p m v l1 v1) (k : a_Upd T w1 w2 B p m v1 l2 v2) : a_Upd T w w2 B p m v l2 v2 :=
  ⟨k.ar, h.mod.trans k.mod (fun x hx => by
    rcases a_mem_foot.1 hx with rfl | hx
    · exact Or.inl (a_mem_foot.2 (Or.inl rfl))
    · rcases h.nx x hx with h1 | h1
      · exact Or.inl (a_mem_foot.2 (Or.inr h1))
      · exact Or.inr h1), h.nx.trans k.nx h.mod.size⟩
theorem a_Upd.same {T : TypeId} {w w' : World} {B p : Nat} {m : Int} {v : Value} {l : List Int} (h : Ar T w B p m v l) (hb : Below w.heap.size w w') : a_Upd T w w' B p m v l v :=
  ⟨h.below hb, a_Mod.ofBelow hb, a_Nx.refl _ _⟩
theorem a_Upd.refl {T : TypeId} {w : World} {B p : Nat} {m : Int} {v : Value} {l : List Int} (h : Ar T w B p m v l) : a_Upd T w w B p m v l v := a_Upd.same h (Below.refl _ _)
def faultAtObj (c a : Int) : Obj := .cells #[.int .i64 c, .int .i64 a, .string ⟨#[]⟩, .nilIface] 88
theorem Rd.src {w : World} {u : Value} {l : List Int} (h : Rd w u l) : (u = .slice none 0 0 ∧ l = []) ∨ ∃ ad c, u = .slice (some ad) l.length c ∧ ∀ j x, (l.map (Value.int .u64))[j]? = some x → w.cell? (ad.add j) = some x := by
  rcases h.2 with h0 | ⟨a, c, rfl, rfl⟩ | ⟨b, o, c, rfl, hc⟩
  · exact Or.inl h0
  · exact Or.inr ⟨a, c, rfl, fun j x hx => by simp at hx⟩
  · refine Or.inr ⟨_, c, rfl, fun j x hx => ?_⟩
    have hj : j < l.length := by have := (List.getElem?_eq_some_iff.1 hx).1; simpa using this
    have ha : (⟨b, o, none⟩ : Addr).add j = ⟨b, o + j, none⟩ := by unfold Addr.add; split <;> simp_all
    rw [ha, hc j hj]
    simp [hj] at hx
    simp [List.getD, hj, hx]
theorem a_below_alloc (w : World) (o : Obj) : Below w.heap.size w (w.alloc o) := (Below.refl _ _).alloc (Nat.le_refl _) o
end Go.Proofs.YtlibjdilicfcdaaGreatDoor

namespace Go.Proofs.YtlibjdilicfcdaaGreatDoor
set_option maxRecDepth 100000
open Go.RowKit Go.Shelf
attribute [local go_sem] Oper.semAt_some
theorem own_shape {W : World} {n₀ : Nat} {e : TypeId} {u : Value} {k : Nat} {xs : List Value} (h : W.ownsRow n₀ e 1 u k xs) : ∃ ao c, u = .slice ao k c := by
  rcases h.2 with ⟨rfl, rfl⟩ | ⟨g, cap, cur, rfl, _⟩
  · exact ⟨none, 0, rfl⟩
  · exact ⟨_, cap, rfl⟩
theorem upto_rows (l : List ByteArray) {k : Nat} (hk : k ≤ l.length) : ((upto l k).map fun x => Value.string x.2) = (l.take k).map Value.string := by
  rw [← upto_texts l hk, List.map_map]
  rfl
end Go.Proofs.YtlibjdilicfcdaaGreatDoor

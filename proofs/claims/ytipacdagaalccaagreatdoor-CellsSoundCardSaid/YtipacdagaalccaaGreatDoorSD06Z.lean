/- What Place of package word does at every word. -/
import Derived.Laws.CopyOwn
import Derived.Laws.AppendOwnNone
import Derived.Maps.AppendAt
import Derived.Deep.AppendLies
import Derived.OneCell
import Derived.Deep.QuietTactic
import Derived.BigQuiet
import Derived.Test.YtipacdagaalccaaGreatDoorSD03Z
import Derived.Test.YtipacdagaalccaaGreatDoorSD04Z
namespace Go.Proofs.YtipacdagaalccaaGreatDoor
set_option maxRecDepth 100000
open Go.RowKit
theorem fun_val (n : Int) (h : goodB n = true) (ht : n % 8 = 4) : 0 ≤ valOf n ∧ valOf n / 16 < 1024 ∧ 1 ≤ valOf n % 16 ∧ valOf n % 16 ≤ 8 := by
  unfold goodB at h; rw [ht] at h; simp [fitsB] at h; omega
set_option maxHeartbeats 1000000 in
theorem place_yes (n : Int) (w : World) (h0 : 0 ≤ n) (h1 : n ≤ 18446744073709551615) (h : goodB n = true) (ht : n % 8 = 0 ∨ n % 8 = 3 ∨ n % 8 = 5) :
    Calls Tryz.prog 105 #[.int .u64 n] w fun e w' => e = .returned (.tuple #[.int .i64 (valOf n), .bool true]) ∧ w' = w := by
  rcases ht with ht | ht | ht
  all_goals
    go_enter Tryz.func105, Tryz.ntmps105
    go_wp2_with (first | (go_at_call 43; refine (tag_any _ _ h0 h1).mono ?_; rintro e w' ⟨rfl, rfl⟩) | (go_at_call 44; refine (value_any _ _).mono ?_; rintro e w' ⟨rfl, rfl⟩) | (go_at_call 103; refine (w_good_any _ _ h0 h1).mono ?_; rintro e w' ⟨rfl, rfl⟩))
    go_ret2
    exact ⟨rfl, rfl⟩
set_option maxHeartbeats 1000000 in
theorem place_no (n : Int) (w : World) (h0 : 0 ≤ n) (h1 : n ≤ 18446744073709551615) (h : goodB n = false ∨ (n % 8 ≠ 0 ∧ n % 8 ≠ 3 ∧ n % 8 ≠ 5)) :
    Calls Tryz.prog 105 #[.int .u64 n] w fun e w' => e = .returned (.tuple #[.int .i64 0, .bool false]) ∧ w' = w := by
  by_cases hg : goodB n = true
  · have ht : n % 8 ≠ 0 ∧ n % 8 ≠ 3 ∧ n % 8 ≠ 5 := by rw [hg] at h; simpa using h
    have b0 : (n % 8 == 0) = false := by simpa using ht.1
    have b3 : (n % 8 == 3) = false := by simpa using ht.2.1
    have b5 : (n % 8 == 5) = false := by simpa using ht.2.2
    clear h ht
    go_enter Tryz.func105, Tryz.ntmps105
    go_wp2_with (first | (go_at_call 43; refine (tag_any _ _ h0 h1).mono ?_; rintro e w' ⟨rfl, rfl⟩) | (go_at_call 44; refine (value_any _ _).mono ?_; rintro e w' ⟨rfl, rfl⟩) | (go_at_call 103; refine (w_good_any _ _ h0 h1).mono ?_; rintro e w' ⟨rfl, rfl⟩))
    go_ret2
    exact ⟨rfl, rfl⟩
  · have hg : goodB n = false := by simpa using hg
    clear h
    go_enter Tryz.func105, Tryz.ntmps105
    go_wp2_with (first | (go_at_call 43; refine (tag_any _ _ h0 h1).mono ?_; rintro e w' ⟨rfl, rfl⟩) | (go_at_call 44; refine (value_any _ _).mono ?_; rintro e w' ⟨rfl, rfl⟩) | (go_at_call 103; refine (w_good_any _ _ h0 h1).mono ?_; rintro e w' ⟨rfl, rfl⟩))
    go_ret2
    exact ⟨rfl, rfl⟩
end Go.Proofs.YtipacdagaalccaaGreatDoor

namespace Go.Proofs.YtipacdagaalccaaGreatDoor
set_option maxRecDepth 100000
open Go.RowKit
theorem ret_pair {a b : Int} {v : Value} (h : a = b) : Ending.returned (.tuple #[.int .u64 a, v]) = .returned (.tuple #[.int .u64 b, v]) := by rw [h]
theorem or_word (a b : Int) (h0 : 0 ≤ a) (h1 : a ≤ 5) : bits .or .u64 (IntKind.u64.wrap (IntKind.u64.wrap b * 8)) a = wordOf a b := by
  have hw : IntKind.u64.wrap (IntKind.u64.wrap b * 8) = (b * 8) % 18446744073709551616 := by
    rw [IntKind.wrap_u64, IntKind.wrap_u64]; omega
  rw [hw, bits_join .u64 64 (by decide) wraps64u 3 _ a (by omega) (by omega) (by omega) h0 (by omega) (by omega)]
  unfold wordOf; omega
set_option maxHeartbeats 400000 in
theorem pack_ok (a b : Int) (w : World) (hf : fitsB a b = true) :
    Calls Tryz.prog 80 #[.int .i64 a, .int .i64 b] w fun e w' => e = .returned (.tuple #[.int .u64 (wordOf a b), .nilIface]) ∧ w' = w := by
  have hb := fits_bd a b hf
  have ht := fits_tag a b hf
  have H : Hid (bits .or .u64 (IntKind.u64.wrap (IntKind.u64.wrap b * 8)) a = wordOf a b) := or_word a b ht.1 ht.2
  go_enter Tryz.func80, Tryz.ntmps80
  go_wp2_with (go_at_call 111; refine (fits_any _ _ _ (by omega) (by omega)).mono ?_; rintro e w' ⟨rfl, rfl⟩)
  go_ret2
  exact ⟨ret_pair H.out, rfl⟩
end Go.Proofs.YtipacdagaalccaaGreatDoor

namespace Go.Proofs.YtipacdagaalccaaGreatDoor
set_option maxRecDepth 100000
open Go.RowKit
structure a_Mod (ks : List Nat) (w w' : World) : Prop where
  os : w'.os = w.os
  tape : w'.tape = w.tape
  output : w'.output = w.output
  size : w.heap.size ≤ w'.heap.size
  block : ∀ k, k < w.heap.size → k ∉ ks → w'.heap[k]? = w.heap[k]?
theorem a_Mod.refl (ks : List Nat) (w : World) : a_Mod ks w w := ⟨rfl, rfl, rfl, Nat.le_refl _, fun _ _ _ => rfl⟩
theorem a_Mod.trans {ks ks' : List Nat} {a b c : World} (h : a_Mod ks a b) (k : a_Mod ks' b c) (hs : ∀ x ∈ ks', x ∈ ks ∨ a.heap.size ≤ x) : a_Mod ks a c :=
  ⟨k.os.trans h.os, k.tape.trans h.tape, k.output.trans h.output, Nat.le_trans h.size k.size, fun i hi hn =>
    (k.block i (Nat.lt_of_lt_of_le hi h.size) (fun hx => by rcases hs i hx with h1 | h1; exact hn h1; omega)).trans (h.block i hi hn)⟩
theorem a_Mod.below {ks : List Nat} {w w' : World} {B : Nat} (h : a_Mod ks w w') (hk : ∀ k ∈ ks, B ≤ k) (hB : B ≤ w.heap.size) : Below B w w' :=
  ⟨h.os, h.tape, h.output, h.size, fun k hkB => h.block k (by omega) (fun hx => by have := hk k hx; omega)⟩
theorem a_Mod.ofBelow {ks : List Nat} {w w' : World} (h : Below w.heap.size w w') : a_Mod ks w w' :=
  ⟨h.os, h.tape, h.output, h.size, fun k hk _ => h.block k hk⟩
theorem a_Mod.grown {ks : List Nat} {a w w' : World} {row : Option Nat} (h : a_Mod ks a w) (hg : w.grownBy w' row) (hr : ∀ k, row = some k → k ∈ ks ∨ a.heap.size ≤ k) : a_Mod ks a w' :=
  ⟨hg.os.trans h.os, hg.tape.trans h.tape, hg.output.trans h.output, Nat.le_trans h.size hg.size, fun k hk hn =>
    (hg.block k (Nat.lt_of_lt_of_le hk h.size) (fun e => by rcases hr k e.symm with h1 | h1; exact hn h1; omega)).trans (h.block k hk hn)⟩
theorem a_Mod.alloc {ks : List Nat} {a w : World} (h : a_Mod ks a w) (o : Obj) : a_Mod ks a (w.alloc o) :=
  h.grown (World.grownBy_alloc w o none) (fun _ e => by cases e)
theorem a_Mod.setCell {ks : List Nat} {a w : World} (h : a_Mod ks a w) {p : Addr} (hp : p.block ∈ ks ∨ a.heap.size ≤ p.block) (u : Value) : a_Mod ks a (w.setCell p u) :=
  ⟨h.os, h.tape, h.output, by simpa using h.size, fun k hk hn =>
    (Below.heap_setCell w p u k (fun e => by subst e; rcases hp with h1 | h1; exact hn h1; omega)).trans (h.block k hk hn)⟩
theorem a_Mod.drew {ks : List Nat} {a w : World} (h : a_Mod ks a w) : a_Mod ks a w.drew := ⟨h.os, h.tape, h.output, h.size, h.block⟩
theorem a_Mod.cell {ks : List Nat} {w w' : World} (h : a_Mod ks w w') {k o : Nat} (hk : k < w.heap.size) (hn : k ∉ ks) : w'.cell? ⟨k, o, none⟩ = w.cell? ⟨k, o, none⟩ :=
  World.cell?_of_block (w := w) (a := ⟨k, o, none⟩) (h.block k hk hn)
theorem a_Mod.ofMem {ks : List Nat} {w w' : World} (h : a_Mod ks w w') (ks' : List Nat) (hs : ∀ x ∈ ks, x ∈ ks' ∨ w.heap.size ≤ x) : a_Mod ks' w w' := (a_Mod.refl ks' w).trans h hs
def Rd (w : World) (v : Value) (l : List Int) : Prop :=
  (∀ x ∈ l, 0 ≤ x ∧ x ≤ 18446744073709551615) ∧
  ((v = .slice none 0 0 ∧ l = []) ∨ (∃ a c, v = .slice (some a) 0 c ∧ l = []) ∨ ∃ b o c, v = .slice (some ⟨b, o, none⟩) l.length c ∧ ∀ j, j < l.length → w.cell? ⟨b, o + j, none⟩ = some (.int .u64 (l.getD j 0)))
theorem a_lt_of_cell {w : World} {b o : Nat} {u : Value} (h : w.cell? ⟨b, o, none⟩ = some u) : b < w.heap.size := World.block_lt_of_cell? w ⟨b, o, none⟩ h
def Value.a_inBlock : Value → Option Nat
  | .slice (some a) _ _ => some a.block
  | _ => none
theorem Rd.keep {w w' : World} {v : Value} {l : List Int} {ks : List Nat} (h : Rd w v l) (hm : a_Mod ks w w') (hk : ∀ k ∈ ks, Value.a_inBlock v ≠ some k) : Rd w' v l := by
  refine ⟨h.1, ?_⟩
  rcases h.2 with h0 | h0 | ⟨b, o, c, rfl, hc⟩
  · exact Or.inl h0
  · exact Or.inr (Or.inl h0)
  · refine Or.inr (Or.inr ⟨b, o, c, rfl, fun j hj => ?_⟩)
    rw [hm.cell (a_lt_of_cell (hc j hj)) (fun hx => hk b hx rfl)]
    exact hc j hj
theorem Rd.below {w w' : World} {v : Value} {l : List Int} (h : Rd w v l) (hm : Below w.heap.size w w') : Rd w' v l :=
  h.keep (ks := []) (a_Mod.ofBelow hm) (fun _ hx => by cases hx)
theorem Rd.ofOwn {w : World} {B : Nat} {v : Value} {l : List Int} (h : w.ownsRow B 73 1 v l.length (l.map (Value.int .u64))) (hr : ∀ x ∈ l, 0 ≤ x ∧ x ≤ 18446744073709551615) : Rd w v l := by
  refine ⟨hr, ?_⟩
  have h0 := h
  rcases h.2 with ⟨rfl, hn⟩ | ⟨g, cap, cur, rfl, _⟩
  · exact Or.inl ⟨rfl, List.eq_nil_of_length_eq_zero hn⟩
  · refine Or.inr (Or.inr ⟨g, 0, cap, rfl, fun j hj => ?_⟩)
    rw [Nat.zero_add, h0.cellAt j (by omega)]
    simp [List.getD, List.getElem?_eq_getElem hj]
structure Ar (T : TypeId) (w : World) (B p : Nat) (m : Int) (v : Value) (l : List Int) : Prop where
  ty : T ≠ 73
  blk : w.heap[p]? = some (.cells #[.int .i64 m, v] T (0, 0))
  base : B ≤ p
  own : w.ownsRow B 73 1 v l.length (l.map (Value.int .u64))
  m1 : 1 ≤ m
  m2 : m ≤ 65536
  len : (l.length : Int) ≤ m
  rng : ∀ x ∈ l, 0 ≤ x ∧ x ≤ 18446744073709551615
section
variable {T : TypeId} {w : World} {B p : Nat} {m : Int} {v : Value} {l : List Int}
theorem Ar.lt (h : Ar T w B p m v l) : p < w.heap.size := lt_of_block h.blk
theorem Ar.c0 (h : Ar T w B p m v l) : w.cell? ⟨p, 0, none⟩ = some (.int .i64 m) := by simp [World.cell?, h.blk]
theorem Ar.c1 (h : Ar T w B p m v l) : w.cell? ⟨p, 1, none⟩ = some v := by simp [World.cell?, h.blk]
theorem Ar.f1 (h : Ar T w B p m v l) : w.frozen? ⟨p, 1, none⟩ = false := by simp [World.frozen?, h.blk]
theorem Ar.rd (h : Ar T w B p m v l) : Rd w v l := Rd.ofOwn h.own h.rng
theorem Ar.val (h : Ar T w B p m v l) : ∃ ao cap, v = .slice ao l.length cap ∧ l.length ≤ cap ∧ (ao = none → l = [] ∧ cap = 0) := by
  rcases h.own.2 with ⟨rfl, hn⟩ | ⟨g, cap, cur, rfl, _, _, hc, _⟩
  · exact ⟨none, 0, by rw [hn], by omega, fun _ => ⟨List.eq_nil_of_length_eq_zero hn, rfl⟩⟩
  · exact ⟨_, cap, rfl, hc, fun e => by cases e⟩
theorem Ar.row (h : Ar T w B p m v l) {k : Nat} (hk : v.ownBlock = some k) : B ≤ k ∧ k < w.heap.size ∧ k ≠ p := by
  obtain ⟨h1, h2⟩ := h.own.lt k hk
  refine ⟨h1, h2, fun e => ?_⟩
  subst e
  have hb := h.blk
  rcases h.own.2 with ⟨rfl, hn⟩ | ⟨g, cap, cur, rfl, _, hg, _⟩
  · simp [Value.ownBlock] at hk
  · simp [Value.ownBlock] at hk
    subst hk
    rw [hg] at hb
    simp at hb
    exact h.ty hb.2.symm
end
def a_foot (p : Nat) (v : Value) : List Nat := p :: v.ownBlock.toList
theorem a_mem_foot {p k : Nat} {v : Value} : k ∈ a_foot p v ↔ k = p ∨ v.ownBlock = some k := by simp [a_foot]
theorem Ar.keep {T : TypeId} {w w' : World} {B p : Nat} {m : Int} {v : Value} {l : List Int} {ks : List Nat} (h : Ar T w B p m v l) (hm : a_Mod ks w w') (hk : ∀ k ∈ ks, k ∉ a_foot p v) : Ar T w' B p m v l := by
  refine ⟨h.ty, ?_, h.base, ?_, h.m1, h.m2, h.len, h.rng⟩
  · rw [hm.block p h.lt (fun hx => hk p hx (a_mem_foot.2 (Or.inl rfl)))]; exact h.blk
  · refine ⟨h.own.1, ?_⟩
    rcases h.own.2 with h0 | ⟨g, cap, cur, rfl, hb, hg, rest⟩
    · exact Or.inl h0
    · refine Or.inr ⟨g, cap, cur, rfl, hb, ?_, rest⟩
      rw [hm.block g (lt_of_block hg) (fun hx => hk g hx (a_mem_foot.2 (Or.inr rfl)))]; exact hg
theorem Ar.below {T : TypeId} {w w' : World} {B p : Nat} {m : Int} {v : Value} {l : List Int} (h : Ar T w B p m v l) (hm : Below w.heap.size w w') : Ar T w' B p m v l :=
  h.keep (ks := []) (a_Mod.ofBelow hm) (fun _ hx => by cases hx)
def a_Nx (w : World) (v v' : Value) : Prop := ∀ k, v'.ownBlock = some k → v.ownBlock = some k ∨ w.heap.size ≤ k
theorem a_Nx.refl (w : World) (v : Value) : a_Nx w v v := fun _ h => Or.inl h
theorem a_Nx.trans {w w1 : World} {v v1 v2 : Value} (h : a_Nx w v v1) (h1 : a_Nx w1 v1 v2) (hs : w.heap.size ≤ w1.heap.size) : a_Nx w v v2 := fun k hk => by
  rcases h1 k hk with h2 | h2
  · exact h k h2
  · exact Or.inr (by omega)
structure a_Upd (T : TypeId) (w w' : World) (B p : Nat) (m : Int) (v : Value) (l' : List Int) (v' : Value) : Prop where
  ar : Ar T w' B p m v' l'
  mod : a_Mod (a_foot p v) w w'
  nx : a_Nx w v v'
theorem a_Upd.trans {T : TypeId} {w w1 w2 : World} {B p : Nat} {m : Int} {v v1 v2 : Value} {l1 l2 : List Int} (h : a_Upd T w w1 B p m v l1 v1) (k : a_Upd T w1 w2 B p m v1 l2 v2) : a_Upd T w w2 B p m v l2 v2 :=
  ⟨k.ar, h.mod.trans k.mod (fun x hx => by
    rcases a_mem_foot.1 hx with rfl | hx
    · exact Or.inl (a_mem_foot.2 (Or.inl rfl))
    · rcases h.nx x hx with h1 | h1
      · exact Or.inl (a_mem_foot.2 (Or.inr h1))
      · exact Or.inr h1), h.nx.trans k.nx h.mod.size⟩
theorem a_Upd.same {T : TypeId} {w w' : World} {B p : Nat} {m : Int} {v : Value} {l : List Int} (h : Ar T w B p m v l) (hb : Below w.heap.size w w') : a_Upd T w w' B p m v l v :=
  ⟨h.below hb, a_Mod.ofBelow hb, a_Nx.refl _ _⟩
theorem a_Upd.refl {T : TypeId} {w : World} {B p : Nat} {m : Int} {v : Value} {l : List Int} (h : Ar T w B p m v l) : a_Upd T w w B p m v l v := a_Upd.same h (Below.refl _ _)
def faultAtObj (c a : Int) : Obj := .cells #[.int .i64 c, .int .i64 a, .string ⟨#[]⟩, .nilIface] 118
theorem Rd.src {w : World} {u : Value} {l : List Int} (h : Rd w u l) : (u = .slice none 0 0 ∧ l = []) ∨ ∃ ad c, u = .slice (some ad) l.length c ∧ ∀ j x, (l.map (Value.int .u64))[j]? = some x → w.cell? (ad.add j) = some x := by
  rcases h.2 with h0 | ⟨a, c, rfl, rfl⟩ | ⟨b, o, c, rfl, hc⟩
  · exact Or.inl h0
  · exact Or.inr ⟨a, c, rfl, fun j x hx => by simp at hx⟩
  · refine Or.inr ⟨_, c, rfl, fun j x hx => ?_⟩
    have hj : j < l.length := by have := (List.getElem?_eq_some_iff.1 hx).1; simpa using this
    have ha : (⟨b, o, none⟩ : Addr).add j = ⟨b, o + j, none⟩ := by unfold Addr.add; split <;> simp_all
    rw [ha, hc j hj]
    simp [hj] at hx
    simp [List.getD, hj, hx]
theorem a_below_alloc (w : World) (o : Obj) : Below w.heap.size w (w.alloc o) := (Below.refl _ _).alloc (Nat.le_refl _) o
end Go.Proofs.YtipacdagaalccaaGreatDoor

namespace Go.Proofs.YtipacdagaalccaaGreatDoor
set_option maxRecDepth 100000
open Go.RowKit
def tellsB (n : Int) : Bool := decide (n % 8 = 0 ∨ n % 8 = 3 ∨ n % 8 = 5)
def mayB (n t : Int) : Bool := goodB n && (!tellsB n || decide (valOf n < t))
set_option maxHeartbeats 400000 in
theorem afault_any (c a : Int) (w : World) :
    Calls Tryz.prog 58 #[.int .i64 c, .int .i64 a] w fun e w' => e = .returned (.iface 116 (.pointer (some ⟨w.heap.size, 0, none⟩))) ∧ w' = w.alloc (faultAtObj c a) := by
  go_enter Tryz.func58, Tryz.ntmps58
  go_wp2
  go_ret
  exact ⟨rfl, rfl⟩
set_option maxHeartbeats 1000000 in
theorem may_any (n t : Int) (w : World) (h0 : 0 ≤ n) (h1 : n ≤ 18446744073709551615) :
    Calls Tryz.prog 113 #[.int .u64 n, .int .i64 t] w fun e w' => e = .returned (.bool (mayB n t)) ∧ w' = w := by
  by_cases hg : goodB n = true
  · by_cases ht : n % 8 = 0 ∨ n % 8 = 3 ∨ n % 8 = 5
    · have hB : Hid (mayB n t = decide (valOf n < t)) := by simp [Hid, mayB, hg, tellsB, ht]
      go_enter Tryz.func113, Tryz.ntmps113
      go_wp2_with (first | (go_at_call 105; refine (place_yes _ _ h0 h1 hg ht).mono ?_; rintro e w' ⟨rfl, rfl⟩) | (go_at_call 103; refine (w_good_any _ _ h0 h1).mono ?_; rintro e w' ⟨rfl, rfl⟩))
      go_ret
      exact ⟨w_ret_bool hB.out.symm, rfl⟩
    · have hB : Hid (mayB n t = true) := by simp [Hid, mayB, hg, tellsB, ht]
      have ht' : goodB n = false ∨ (n % 8 ≠ 0 ∧ n % 8 ≠ 3 ∧ n % 8 ≠ 5) := Or.inr (by omega)
      have HT : Hid (goodB n = false ∨ (n % 8 ≠ 0 ∧ n % 8 ≠ 3 ∧ n % 8 ≠ 5)) := ht'
      clear ht ht'
      go_enter Tryz.func113, Tryz.ntmps113
      go_wp2_with (first | (go_at_call 105; refine (place_no _ _ h0 h1 HT.out).mono ?_; rintro e w' ⟨rfl, rfl⟩) | (go_at_call 103; refine (w_good_any _ _ h0 h1).mono ?_; rintro e w' ⟨rfl, rfl⟩))
      go_ret
      exact ⟨w_ret_bool hB.out.symm, rfl⟩
  · have hg' : goodB n = false := by simpa using hg
    have hB : Hid (mayB n t = false) := by simp [Hid, mayB, hg']
    clear hg
    go_enter Tryz.func113, Tryz.ntmps113
    go_wp2_with (first | (go_at_call 105; refine (place_no _ _ h0 h1 (Or.inl hg')).mono ?_; rintro e w' ⟨rfl, rfl⟩) | (go_at_call 103; refine (w_good_any _ _ h0 h1).mono ?_; rintro e w' ⟨rfl, rfl⟩))
    go_ret
    exact ⟨w_ret_bool hB.out.symm, rfl⟩
set_option maxHeartbeats 400000 in
theorem fresh_any (n : Int) (w : World) (h0 : 0 ≤ n) (h1 : n < 65536) :
    Calls Tryz.prog 66 #[.int .i64 n] w fun e w' => e = .returned (.int .u64 (8 * n)) ∧ w' = w := by
  have hf : fitsB 0 n = true := by simp [fitsB]; omega
  have HW : Hid (wordOf 0 n = 8 * n) := by show _ = _; unfold wordOf; omega
  go_enter Tryz.func66, Tryz.ntmps66
  go_wp2_with (go_at_call 80; refine (pack_ok _ _ _ hf).mono ?_; rintro e w' ⟨rfl, rfl⟩)
  go_ret
  exact ⟨w_ret_int HW.out, rfl⟩
set_option maxHeartbeats 400000 in
theorem new_ok (m : Int) (w : World) (B : Nat) (hB : B ≤ w.heap.size) (h1 : 1 ≤ m) (h2 : m ≤ 65536) :
    Calls Tryz.prog 32 #[.int .i64 m] w fun e w' => e = .returned (.tuple #[.pointer (some ⟨w.heap.size, 0, none⟩), .nilIface]) ∧ Ar 111 w' B w.heap.size m (.slice none 0 0) [] ∧ Below w.heap.size w w' := by
  go_enter Tryz.func32, Tryz.ntmps32
  go_wp2
  go_ret2
  exact ⟨rfl, ⟨by decide, heap_alloc_new w _, hB, World.ownsRow_nil _ _ _ _, h1, h2, by simp; omega, by simp⟩, a_below_alloc _ _⟩
set_option maxHeartbeats 400000 in
theorem top_any {w : World} {B p : Nat} {m : Int} {v : Value} {l : List Int} (h : Ar 111 w B p m v l) :
    Calls Tryz.prog 30 #[.pointer (some ⟨p, 0, none⟩)] w fun e w' => e = .returned (.int .i64 (l.length : Int)) ∧ w' = w := by
  obtain ⟨ao, cap, rfl, _⟩ := h.val
  have c1 := h.c1
  go_enter Tryz.func30, Tryz.ntmps30
  go_wp2
  go_ret
  exact ⟨rfl, rfl⟩
def inB (n k : Int) : Bool := decide (0 ≤ n ∧ n < k)
set_option maxHeartbeats 400000 in
theorem holds_any {w : World} {B p : Nat} {m : Int} {v : Value} {l : List Int} (h : Ar 111 w B p m v l) (n : Int) :
    Calls Tryz.prog 112 #[.pointer (some ⟨p, 0, none⟩), .int .i64 n] w fun e w' => e = .returned (.bool (inB n l.length)) ∧ w' = w := by
  by_cases hn : 0 ≤ n
  · go_enter Tryz.func112, Tryz.ntmps112
    go_wp2_with (go_at_call 30; refine (top_any h).mono ?_; rintro e w' ⟨rfl, rfl⟩)
    go_ret
    exact ⟨w_ret_bool (by simp [inB, hn]), rfl⟩
  · have hB : Hid (inB n l.length = false) := by show _ = _; simp [inB]; omega
    go_enter Tryz.func112, Tryz.ntmps112
    go_wp2_with (go_at_call 30; refine (top_any h).mono ?_; rintro e w' ⟨rfl, rfl⟩)
    go_ret
    exact ⟨w_ret_bool hB.out.symm, rfl⟩
end Go.Proofs.YtipacdagaalccaaGreatDoor

namespace Go.Proofs.YtipacdagaalccaaGreatDoor
set_option maxRecDepth 100000
open Go.RowKit
def wdN (l : List Int) (k : Nat) : Int := l.getD k 0
def tgN (l : List Int) (k : Nat) : Int := wdN l k % 8
def vlN (l : List Int) (k : Nat) : Nat := (valOf (wdN l k)).toNat
def hdN (l : List Int) (k : Nat) : Prop := tgN l k = 4 ∨ tgN l k = 5
def arN' (l : List Int) (k : Nat) : Nat := vlN l k % 16
structure Snd (l : List Int) (V : Nat → Bool) : Prop where
  good : ∀ k, k < l.length → goodB (wdN l k) = true
  rng : ∀ x ∈ l, 0 ≤ x ∧ x ≤ 18446744073709551615
  ref : ∀ k, k < l.length → tgN l k = 0 → vlN l k < l.length ∧ V (vlN l k) = true ∧ (V k = true → vlN l k ≤ k)
  own : ∀ k, k < l.length → V k = true → ¬ hdN l k
  str : ∀ k, k < l.length → tgN l k = 3 → vlN l k < l.length ∧ hdN l (vlN l k)
  fwd : ∀ k, k < l.length → tgN l k = 5 → vlN l k < k ∧ hdN l (vlN l k)
  args : ∀ k, k < l.length → tgN l k = 4 → k + arN' l k < l.length ∧ ∀ i, 1 ≤ i → i ≤ arN' l k → ¬ hdN l (k + i)
def rkN (l : List Int) (V : Nat → Bool) (k : Nat) : Nat := if tgN l k = 4 ∨ tgN l k = 5 then k else if V k = true then l.length + k else 2 * l.length
def nxN (l : List Int) (k : Nat) : Option Nat :=
  if tgN l k = 0 then (if vlN l k = k then none else some (vlN l k)) else if tgN l k = 3 ∨ tgN l k = 5 then some (vlN l k) else none
def endW (l : List Int) (k : Nat) : Int := if tgN l k = 4 then wordOf 3 k else wdN l k
def trmF (l : List Int) : Nat → Nat → Int
  | 0, k => endW l k
  | f + 1, k => match nxN l k with
    | none => endW l k
    | some j => trmF l f j
theorem nx_rk {l : List Int} {V : Nat → Bool} (h : Snd l V) {k j : Nat} (hk : k < l.length) (e : nxN l k = some j) : j < l.length ∧ rkN l V j < rkN l V k := by
  unfold nxN at e
  by_cases h0 : tgN l k = 0
  · rw [if_pos h0] at e
    by_cases h1 : vlN l k = k
    · rw [if_pos h1] at e
      cases e
    · rw [if_neg h1] at e
      injection e with e
      obtain ⟨r1, r2, r3⟩ := h.ref k hk h0
      rw [e] at r1 r2 r3 h1
      refine ⟨r1, ?_⟩
      have nj : ¬ (tgN l j = 4 ∨ tgN l j = 5) := h.own j r1 r2
      have nk : ¬ (tgN l k = 4 ∨ tgN l k = 5) := by omega
      unfold rkN
      rw [if_neg nj, if_neg nk, if_pos r2]
      by_cases hV : V k = true
      · rw [if_pos hV]
        have := r3 hV
        omega
      · rw [if_neg hV]
        omega
  · rw [if_neg h0] at e
    by_cases h1 : tgN l k = 3 ∨ tgN l k = 5
    · rw [if_pos h1] at e
      injection e with e
      rcases h1 with h1 | h1
      · obtain ⟨r1, r2⟩ := h.str k hk h1
        rw [e] at r1 r2
        refine ⟨r1, ?_⟩
        have nk : ¬ (tgN l k = 4 ∨ tgN l k = 5) := by omega
        unfold rkN
        rw [if_pos (show tgN l j = 4 ∨ tgN l j = 5 from r2), if_neg nk]
        split <;> omega
      · obtain ⟨r1, r2⟩ := h.fwd k hk h1
        rw [e] at r1 r2
        refine ⟨by omega, ?_⟩
        unfold rkN
        rw [if_pos (show tgN l j = 4 ∨ tgN l j = 5 from r2), if_pos (Or.inr h1)]
        exact r1
    · rw [if_neg h1] at e
      cases e
theorem trm_more {l : List Int} {V : Nat → Bool} (h : Snd l V) : ∀ (f k : Nat), k < l.length → rkN l V k < f → ∀ g, f ≤ g → trmF l g k = trmF l f k
  | 0, _, _, hf, _, _ => absurd hf (Nat.not_lt_zero _)
  | f + 1, k, hk, hf, g, hg => by
    obtain ⟨g, rfl⟩ : ∃ g', g = g' + 1 := ⟨g - 1, by omega⟩
    show (match nxN l k with | none => endW l k | some j => trmF l g j) = (match nxN l k with | none => endW l k | some j => trmF l f j)
    cases e : nxN l k with
    | none => rfl
    | some j =>
      obtain ⟨h1, h2⟩ := nx_rk h hk e
      exact trm_more h f j h1 (by omega) g (by omega)
def trmW (l : List Int) (k : Nat) : Int := trmF l (2 * l.length + 1) k
theorem rk_le {l : List Int} {V : Nat → Bool} {k : Nat} (hk : k < l.length) : rkN l V k ≤ 2 * l.length := by
  unfold rkN
  split
  · omega
  · split <;> omega
theorem trm_next {l : List Int} {V : Nat → Bool} (h : Snd l V) {k j : Nat} (hk : k < l.length) (e : nxN l k = some j) : trmW l k = trmW l j := by
  obtain ⟨h1, h2⟩ := nx_rk h hk e
  have h3 := rk_le (V := V) hk
  have h4 : trmW l k = trmF l (2 * l.length) j := by
    unfold trmW
    show (match nxN l k with | none => endW l k | some j => trmF l (2 * l.length) j) = _
    rw [e]
  rw [h4]
  exact ((trm_more h (2 * l.length) j h1 (by omega) (2 * l.length + 1) (by omega))).symm
theorem trm_end {l : List Int} {k : Nat} (e : nxN l k = none) : trmW l k = endW l k := by
  unfold trmW
  show (match nxN l k with | none => endW l k | some j => trmF l (2 * l.length) j) = _
  rw [e]
end Go.Proofs.YtipacdagaalccaaGreatDoor

namespace Go.Proofs.YtipacdagaalccaaGreatDoor
set_option maxRecDepth 100000
open Go.RowKit
section
variable {w : World} {B p : Nat} {m : Int} {v : Value} {l : List Int}
theorem Ar.form {T : TypeId} (h : Ar T w B p m v l) {k : Nat} (hk : k < l.length) : ∃ g cap, v = .slice (some ⟨g, 0, none⟩) l.length cap ∧ l.length ≤ cap ∧ g < w.heap.size ∧ g ≠ p ∧ B ≤ g ∧ w.cell? ⟨g, k, none⟩ = some (.int .u64 (l.getD k 0)) ∧ w.frozen? ⟨g, k, none⟩ = false := by
  obtain ⟨g, cap, rfl, hb, hg⟩ := h.own.form (by omega)
  have hr := h.row (k := g) rfl
  obtain ⟨ao, cap', he, hc, _⟩ := h.val
  simp at he
  refine ⟨g, cap, rfl, by rw [he.2]; exact hc, hg, hr.2.2, hb, ?_, h.own.frozenAt k⟩
  rw [h.own.cellAt k (by omega)]
  simp [List.getD, List.getElem?_eq_getElem hk]
set_option maxHeartbeats 400000 in
theorem load_ok (h : Ar 111 w B p m v l) (k : Nat) (hk : k < l.length) :
    Calls Tryz.prog 101 #[.pointer (some ⟨p, 0, none⟩), .int .i64 (k : Int)] w fun e w' => e = .returned (.tuple #[.int .u64 (l.getD k 0), .nilIface]) ∧ w' = w := by
  obtain ⟨g, cap, rfl, hcap, hg, hne, _, hc, _⟩ := h.form hk
  have c1 := h.c1
  have hi : inB (k : Int) l.length = true := by simp [inB]; omega
  have hk' : (k : Int) < (l.length : Int) := by omega
  go_enter Tryz.func101, Tryz.ntmps101
  go_wp2_with (go_at_call 112; refine (holds_any h _).mono ?_; rintro e w' ⟨rfl, rfl⟩)
  go_ret2
  exact ⟨ret_pair (by simp [List.getD, hk]), rfl⟩
set_option maxHeartbeats 400000 in
theorem load_no (h : Ar 111 w B p m v l) (n : Int) (hi : inB n l.length = false) :
    Calls Tryz.prog 101 #[.pointer (some ⟨p, 0, none⟩), .int .i64 n] w fun e w' => e = .returned (.tuple #[.int .u64 0, .iface 116 (.pointer (some ⟨w.heap.size, 0, none⟩))]) ∧ w' = w.alloc (faultAtObj 23 n) := by
  go_enter Tryz.func101, Tryz.ntmps101
  go_wp2_with (first | (go_at_call 112; refine (holds_any h _).mono ?_; rintro e w' ⟨rfl, rfl⟩) | (go_at_call 58; refine (afault_any _ _ _).mono ?_; rintro e w' ⟨rfl, rfl⟩))
  go_ret2
  exact ⟨rfl, rfl⟩
theorem set_rng {l : List Int} (h : ∀ x ∈ l, 0 ≤ x ∧ x ≤ 18446744073709551615) (k : Nat) (u : Int) (hu : 0 ≤ u ∧ u ≤ 18446744073709551615) : ∀ x ∈ l.set k u, 0 ≤ x ∧ x ≤ 18446744073709551615 := fun x hx => by
  rcases List.mem_or_eq_of_mem_set hx with h1 | rfl
  · exact h x h1
  · exact hu
theorem Ar.stored {T : TypeId} {g cap : Nat} (h : Ar T w B p m (.slice (some ⟨g, 0, none⟩) l.length cap) l) (k : Nat) (u : Int) (hu : 0 ≤ u ∧ u ≤ 18446744073709551615) :
    a_Upd T w (w.setCell ⟨g, k, none⟩ (.int .u64 u)) B p m (.slice (some ⟨g, 0, none⟩) l.length cap) (l.set k u) (.slice (some ⟨g, 0, none⟩) l.length cap) := by
  have hr := h.row (k := g) rfl
  obtain ⟨h1, _⟩ := h.own.stored k (.int .u64 u)
  refine ⟨⟨h.ty, ?_, h.base, ?_, h.m1, h.m2, by simpa using h.len, set_rng h.rng k u hu⟩, (a_Mod.refl _ w).setCell (p := ⟨g, k, none⟩) (Or.inl (a_mem_foot.2 (Or.inr rfl))) _, a_Nx.refl _ _⟩
  · rw [Below.heap_setCell w ⟨g, k, none⟩ _ p (by simpa using hr.2.2.symm)]; exact h.blk
  · rw [List.map_set, List.length_set]; exact h1
set_option maxHeartbeats 400000 in
theorem store_ok (h : Ar 111 w B p m v l) (k : Nat) (u : Int) (hk : k < l.length) (u0 : 0 ≤ u) (u1 : u ≤ 18446744073709551615) (hm : mayB u l.length = true) :
    Calls Tryz.prog 82 #[.pointer (some ⟨p, 0, none⟩), .int .i64 (k : Int), .int .u64 u] w fun e w' => e = .returned .nilIface ∧ a_Upd 111 w w' B p m v (l.set k u) v := by
  obtain ⟨g, cap, rfl, hcap, hg, hne, _, hc, hf⟩ := h.form hk
  have c1 := h.c1
  have hi : inB (k : Int) l.length = true := by simp [inB]; omega
  have hk' : (k : Int) < (l.length : Int) := by omega
  go_enter Tryz.func82, Tryz.ntmps82
  go_wp2_with (first | (go_at_call 112; refine (holds_any h _).mono ?_; rintro e w' ⟨rfl, rfl⟩) | (go_at_call 30; refine (top_any h).mono ?_; rintro e w' ⟨rfl, rfl⟩) | (go_at_call 113; refine (may_any _ _ _ u0 u1).mono ?_; rintro e w' ⟨rfl, rfl⟩))
  go_ret
  exact ⟨rfl, h.stored k u ⟨u0, u1⟩⟩
theorem Ar.setVal {T : TypeId} {v' : Value} {l' : List Int} (h : Ar T w B p m v l) (ho : w.ownsRow B 73 1 v' l'.length (l'.map (Value.int .u64))) (hl : (l'.length : Int) ≤ m) (hr : ∀ x ∈ l', 0 ≤ x ∧ x ≤ 18446744073709551615) (hp : v'.ownBlock ≠ some p) :
    Ar T (w.setCell ⟨p, 1, none⟩ v') B p m v' l' := by
  refine ⟨h.ty, ?_, h.base, ownsRow_setCell_other ho (by simpa using hp) _, h.m1, h.m2, hl, hr⟩
  have := heap_setCell_same w p 1 _ T v' h.blk
  rw [this]
  rfl
theorem mod_field (w : World) (p : Nat) (v v' : Value) : a_Mod (a_foot p v) w (w.setCell ⟨p, 1, none⟩ v') := (a_Mod.refl (a_foot p v) w).setCell (p := ⟨p, 1, none⟩) (Or.inl (a_mem_foot.2 (Or.inl rfl))) v'
theorem own_take {e : TypeId} {g n cap k : Nat} {xs : List Value} (h : w.ownsRow B e 1 (.slice (some ⟨g, 0, none⟩) n cap) n xs) (hk : k ≤ n) : w.ownsRow B e 1 (.slice (some ⟨g, 0, none⟩) k cap) k (xs.take k) := by
  rcases h.2 with ⟨h', _⟩ | ⟨g', cap', cur, h', hb, hg, hnc, hcm, hcs, htake⟩
  · simp at h'
  · simp only [Value.slice.injEq, Option.some.injEq, Addr.mk.injEq, and_true, true_and] at h'
    obtain ⟨rfl, rfl⟩ := h'
    have h1 := h.1
    refine ⟨by simp; omega, Or.inr ⟨g, cap, cur, rfl, hb, hg, by omega, hcm, hcs, ?_⟩⟩
    rw [← htake, List.take_take]
    congr 1
    omega
set_option maxHeartbeats 400000 in
theorem cut_ok (h : Ar 111 w B p m v l) (k : Nat) (hk : k ≤ l.length) :
    Calls Tryz.prog 54 #[.pointer (some ⟨p, 0, none⟩), .int .i64 (k : Int)] w fun e w' => ∃ v', e = .returned .nilIface ∧ a_Upd 111 w w' B p m v (l.take k) v' := by
  have c1 := h.c1
  have f1 := h.f1
  have hk' : (k : Int) ≤ (l.length : Int) := by omega
  have hk0 : (0 : Int) ≤ (k : Int) := by omega
  have hlen := h.len
  have hm2 := h.m2
  rcases h.own.2 with ⟨rfl, hn⟩ | ⟨g, cap, cur, rfl, hb, hg, hc, hm, _⟩
  · obtain rfl : l = [] := List.eq_nil_of_length_eq_zero hn
    obtain rfl : k = 0 := by simpa using hk
    go_enter Tryz.func54, Tryz.ntmps54
    go_wp2_with (first | (go_at_call 30; refine (top_any h).mono ?_; rintro e w' ⟨rfl, rfl⟩))
    go_ret
    exact ⟨_, rfl, h.setVal (World.ownsRow_nil _ _ _ _) h.len h.rng (by simp [Value.ownBlock]), mod_field _ _ _ _, a_Nx.refl _ _⟩
  · have hr := h.row (k := g) rfl
    have HO := own_take h.own hk
    have HO' : Hid (w.ownsRow B 73 1 (.slice (some ⟨g, 0, none⟩) k cap) k ((l.map (Value.int .u64)).take k)) := HO
    clear HO
    have hkc : (k : Int) ≤ (cap : Int) := by omega
    have hcm : cap ≤ 9223372036854775807 := by simpa [maxLen] using hm
    go_enter Tryz.func54, Tryz.ntmps54
    go_wp2_with (first | (go_at_call 30; refine (top_any h).mono ?_; rintro e w' ⟨rfl, rfl⟩))
    go_ret
    have ht : (l.take k).length = k := by simp; omega
    refine ⟨_, rfl, h.setVal (v' := .slice (some ⟨g, 0, none⟩) k cap) (l' := l.take k) ?_ (by rw [ht]; omega) (fun x hx => h.rng x (List.mem_of_mem_take hx)) (by simpa [Value.ownBlock] using hr.2.2), mod_field _ _ _ _, fun _ e => Or.inl e⟩
    rw [ht, List.map_take]
    exact HO'.out
end
end Go.Proofs.YtipacdagaalccaaGreatDoor

namespace Go.Proofs.YtipacdagaalccaaGreatDoor
set_option maxRecDepth 100000
open Go.RowKit
set_option maxHeartbeats 1000000 in
theorem head_yes (n : Int) (w : World) (h0 : 0 ≤ n) (h1 : n ≤ 18446744073709551615) (h : goodB n = true) (ht : n % 8 = 4) :
    Calls Tryz.prog 74 #[.int .u64 n] w fun e w' => e = .returned (.tuple #[.int .i64 (valOf n / 16), .int .i64 (valOf n % 16), .bool true]) ∧ w' = w := by
  have hv := fun_val n h ht
  go_enter Tryz.func74, Tryz.ntmps74
  go_wp2_with (first | (go_at_call 43; refine (tag_any _ _ h0 h1).mono ?_; rintro e w' ⟨rfl, rfl⟩) | (go_at_call 44; refine (value_any _ _).mono ?_; rintro e w' ⟨rfl, rfl⟩) | (go_at_call 103; refine (w_good_any _ _ h0 h1).mono ?_; rintro e w' ⟨rfl, rfl⟩) | (go_at_call 104; refine (w_split_any _ _ (by omega) (by omega)).mono ?_; rintro e w' ⟨rfl, rfl⟩))
  go_ret3
  exact ⟨rfl, rfl⟩
set_option maxHeartbeats 1000000 in
theorem head_no (n : Int) (w : World) (h0 : 0 ≤ n) (h1 : n ≤ 18446744073709551615) (h : goodB n = false ∨ n % 8 ≠ 4) :
    Calls Tryz.prog 74 #[.int .u64 n] w fun e w' => e = .returned (.tuple #[.int .i64 0, .int .i64 0, .bool false]) ∧ w' = w := by
  by_cases hg : goodB n = true
  · have ht : (n % 8 != 4) = true := by rw [hg] at h; simpa using h
    clear h
    go_enter Tryz.func74, Tryz.ntmps74
    go_wp2_with (first | (go_at_call 43; refine (tag_any _ _ h0 h1).mono ?_; rintro e w' ⟨rfl, rfl⟩) | (go_at_call 103; refine (w_good_any _ _ h0 h1).mono ?_; rintro e w' ⟨rfl, rfl⟩))
    go_ret3
    exact ⟨rfl, rfl⟩
  · have hg : goodB n = false := by simpa using hg
    clear h
    go_enter Tryz.func74, Tryz.ntmps74
    go_wp2_with (first | (go_at_call 43; refine (tag_any _ _ h0 h1).mono ?_; rintro e w' ⟨rfl, rfl⟩) | (go_at_call 103; refine (w_good_any _ _ h0 h1).mono ?_; rintro e w' ⟨rfl, rfl⟩))
    go_ret3
    exact ⟨rfl, rfl⟩
end Go.Proofs.YtipacdagaalccaaGreatDoor

namespace Go.Proofs.YtipacdagaalccaaGreatDoor
set_option maxRecDepth 100000
open Go.RowKit
theorem gneN {N : Nat} {l : Array Bool} {i j : Nat} {b : Bool} (hl : l.size = N) (h : bitA (l.setIfInBounds i true) j = b) (hi : i < N := by decide) (hne : i ≠ j := by decide) : bitA l j = b := by
  rw [gsetN l i j hl hi, if_neg hne] at h
  exact h
theorem bff {a : Bool} {p : Prop} (h : a = false) (e : a = true) : p := by
  rw [h] at e
  cases e
theorem bny {a b : Bool} (hb : b = false) (h : a = true → b = true) : a = false := by
  cases a with
  | false => rfl
  | true => exact bff hb (h rfl)
end Go.Proofs.YtipacdagaalccaaGreatDoor

namespace Go.Proofs.YtipacdagaalccaaGreatDoor
set_option maxRecDepth 100000
open Go.RowKit
def KeptK (Ks : Nat → Prop) (W W' : World) : Prop := W.heap.size ≤ W'.heap.size ∧ ∀ k, Ks k → k < W.heap.size → W'.heap[k]? = W.heap[k]?
theorem KeptK.trans {Ks : Nat → Prop} {X Y Z : World} (h : KeptK Ks X Y) (k : KeptK Ks Y Z) : KeptK Ks X Z :=
  ⟨Nat.le_trans h.1 k.1, fun i hi hl => (k.2 i hi (Nat.lt_of_lt_of_le hl h.1)).trans (h.2 i hi hl)⟩
theorem KeptK.ofBelow {Ks : Nat → Prop} {W W' : World} (h : Below W.heap.size W W') : KeptK Ks W W' := ⟨h.size, fun k _ hl => h.block k hl⟩
def toldPostK {α : Type} (Ks : Nat → Prop) (I : List α → World → Prop) (Ix : Code → List α → World → Prop) (xs : List α) (W : World) : Exit → Act → World → Prop
  | .normal, _, W' => KeptK Ks W W' ∧ I xs W'
  | .ret, _, W' => KeptK Ks W W' ∧ Ix .ret xs W'
  | .exit id, _, W' => KeptK Ks W W' ∧ Ix (.exit id) xs W'
  | .goto t, _, W' => KeptK Ks W W' ∧ Ix (.goto t) xs W'
  | .panic _, _, _ => False
  | .outgrown, _, _ => False
def LpB (B : Nat) (W : World) : Prop := ∀ k, k = B ∨ k = B + 1 → ∃ o, W.heap[k]? = some o ∧ o.isCells = false
def TellsK {α : Type} (n : Nat) (P : Program) (gf : Nat) (lb : Array Value) (encs : α → Array Value) (Ks : Nat → Prop) (T : List α → α → World → Prop) (S : List α → Prop) (w : World) : Prop :=
  ∀ (l : Nat) (J Jx : List α → World → Prop) (W : World), Below w.heap.size w W → (∀ s A A', J s A → Below A.heap.size A A' → J s A') → (∀ s A A', Jx s A → Below A.heap.size A A' → Jx s A') →
    (∀ pre x W1, J pre W1 → T pre x W1 → YieldAt Fence.wide (n - 1) P l (encs x) W1 fun e W' =>
      (e = .returned (.bool true) ∧ J (pre ++ [x]) W' ∧ KeptK Ks W1 W') ∨ (e = .returned (.bool false) ∧ Jx (pre ++ [x]) W')) → J [] W →
    CallsIn Fence.wide n P gf (#[.func (.yield l) #[] #[]] ++ lb) W fun e W' => (∃ v, e = .returned v) ∧ ((∃ xs, S xs ∧ J xs W') ∨ ∃ pre, Jx pre W')
section
variable {α : Type} {n : Nat} {P : Program} {g : Operand} {ps : Array Tmp} {assign body : Code} {Q : Exit → Act → World → Prop} {a : Act} {w : World} {gf : Nat} {lb : Array Value} {encs : α → Array Value} {Ks : Nat → Prop}
theorem told_roundK {fn : FuncId} {I : List α → World → Prop} {Ix : Code → List α → World → Prop} {T : List α → α → World → Prop} (hps : ∀ x, (encs x).size = ps.size) (hBs : ∀ k, Ks k → k < w.heap.size)
    (hI : ∀ s A A', I s A → Nb w.heap.size A A' → I s A') (hIx : ∀ c s A A', Ix c s A → Nb w.heap.size A A' → Ix c s A') (hT : ∀ s x A A', T s x A → Nb w.heap.size A A' → T s x A') {Ax : α → Act → World → Prop} (hAx : ∀ x a' A A', Ax x a' A → Nb w.heap.size A A' → Ax x a' A')
    (hassign : ∀ (l : Nat) (x : α) (W : World) (K : Act → World → Prop), w.heap.size ≤ W.heap.size → (∀ a' W', Below W.heap.size W W' → Ax x a' W' → K a' W') →
      assign.wpIn (Fence.wide.inRound l) n P (Exit.then K (fun _ _ _ => False)) { tmps := (ps.zip (encs x)).foldl (fun t (p, v) => t.setIfInBounds p v) a.tmps, defers := [] } W)
    (hbody : ∀ (l : Nat) (pre : List α) (x : α) (a' : Act) (W : World), I pre W → T pre x W → Ax x a' W → LpB w.heap.size W → body.wpIn (Fence.wide.inRound l) n P (toldPostK (fun k => Ks k ∨ k = w.heap.size ∨ k = w.heap.size + 1) I Ix (pre ++ [x]) W) a' W)
    {pre : List α} {x : α} {W : World} (hi : I pre W) (ht : T pre x W) (hl : W.heap[w.heap.size + 1]? = some (.loop (recL fn a.tmps ps assign body w.heap.size .ready none))) (hk : W.heap[w.heap.size]? = some (.deferred (some []))) :
    YieldAt Fence.wide n P (w.heap.size + 1) (encs x) W fun e W' =>
      (e = .returned (.bool true) ∧ (I (pre ++ [x]) W' ∧ W'.heap[w.heap.size + 1]? = some (.loop (recL fn a.tmps ps assign body w.heap.size .ready none)) ∧ W'.heap[w.heap.size]? = some (.deferred (some []))) ∧ KeptK Ks W W') ∨
      (e = .returned (.bool false) ∧ ∃ c, Ix c (pre ++ [x]) W' ∧ W'.heap[w.heap.size + 1]? = some (.loop (recL fn a.tmps ps assign body w.heap.size .done (some c))) ∧ W'.heap[w.heap.size]? = some (.deferred (some []))) := by
  refine ⟨fn, _, assign, body, run_yield hl (hps x), roundIn_of_wpIn trivial (hassign _ x W _ (by have := lt_heap hk; omega) fun a' W0 hb0 hax => ?_)⟩
  have hl0 : W0.heap[w.heap.size + 1]? = some (.loop (recL fn a.tmps ps assign body w.heap.size .ready none)) := by rw [hb0.block _ (lt_heap hl)]; exact hl
  have hk0 : W0.heap[w.heap.size]? = some (.deferred (some [])) := by rw [hb0.block _ (lt_heap hk)]; exact hk
  have hn0 : Nb w.heap.size W W0 := Nb.ofBelow hb0
  have hK0 : KeptK Ks W W0 := KeptK.ofBelow hb0
  refine ⟨_, run_beginRound hl0 rfl, ?_⟩
  have hlt := lt_heap hl0
  obtain ⟨W1, hW1⟩ : ∃ W1, W1 = W0.putObj (w.heap.size + 1) (.loop { recL fn a.tmps ps assign body w.heap.size .ready none with state := .busy }) := ⟨_, rfl⟩
  have hl1 : W1.heap[w.heap.size + 1]? = some (.loop (recL fn a.tmps ps assign body w.heap.size .busy none)) := by rw [hW1]; exact World.putObj_heap_same hlt
  have hk1 : W1.heap[w.heap.size]? = some (.deferred (some [])) := by rw [hW1]; exact (World.putObj_heap_other (by omega)).trans hk0
  have hn1 : Nb w.heap.size W0 W1 := by rw [hW1]; exact Nb.put _ (by omega) hl0 rfl
  have hz1 : W1.heap.size = W0.heap.size := by rw [hW1]; simp
  have hK1 : KeptK Ks W W1 := hK0.trans ⟨by omega, fun k hk' _ => by rw [hW1]; exact World.putObj_heap_other (by have := hBs k hk'; omega)⟩
  rw [← hW1]
  have fin : ∀ (jump : Option Code) (W3 : World), KeptK (fun k => Ks k ∨ k = w.heap.size ∨ k = w.heap.size + 1) W1 W3 → ∃ W4, (Instr.endRound (w.heap.size + 1) jump).run P W3 = .ok (.bool jump.isNone) W4 ∧ Nb w.heap.size W3 W4 ∧ KeptK Ks W W4 ∧
      W4.heap[w.heap.size + 1]? = some (.loop (recL fn a.tmps ps assign body w.heap.size (if jump.isNone then .ready else .done) jump)) ∧ W4.heap[w.heap.size]? = some (.deferred (some [])) := fun jump W3 hk3 => by
    have hl3 : W3.heap[w.heap.size + 1]? = some (.loop (recL fn a.tmps ps assign body w.heap.size .busy none)) := (hk3.2 _ (Or.inr (Or.inr rfl)) (by omega)).trans hl1
    have hd3 : W3.heap[w.heap.size]? = some (.deferred (some [])) := (hk3.2 _ (Or.inr (Or.inl rfl)) (by omega)).trans hk1
    refine ⟨_, run_endRound jump hl3, Nb.put _ (by omega) hl3 rfl, hK1.trans (KeptK.trans ⟨hk3.1, fun k hk' hlk => hk3.2 k (Or.inl hk') hlk⟩ ⟨by simp, fun k hk' _ => World.putObj_heap_other (by have := hBs k hk'; omega)⟩), World.putObj_heap_same (lt_heap hl3), (World.putObj_heap_other (by omega)).trans hd3⟩
  refine wpIn_mono (hbody _ pre x a' W1 (hI _ _ _ (hI _ _ _ hi hn0) hn1) (hT _ _ _ _ (hT _ _ _ _ ht hn0) hn1) (hAx _ _ _ _ hax hn1) (fun k hk => by rcases hk with rfl | rfl; exact ⟨_, hk1, rfl⟩; exact ⟨_, hl1, rfl⟩)) ?_
  rintro e a3 W3 hp
  cases e with
  | normal =>
    obtain ⟨W4, h1, h2, h3, h4, h5⟩ := fin none W3 hp.1
    exact ⟨_, W4, h1, .inl ⟨rfl, ⟨hI _ _ _ hp.2 h2, h4, h5⟩, h3⟩⟩
  | ret =>
    obtain ⟨W4, h1, h2, h3, h4, h5⟩ := fin (some .ret) W3 hp.1
    exact ⟨_, W4, h1, .inr ⟨rfl, .ret, hIx _ _ _ _ hp.2 h2, h4, h5⟩⟩
  | exit id =>
    obtain ⟨W4, h1, h2, h3, h4, h5⟩ := fin (some (.exit id)) W3 hp.1
    exact ⟨_, W4, h1, .inr ⟨rfl, .exit id, hIx _ _ _ _ hp.2 h2, h4, h5⟩⟩
  | goto t =>
    obtain ⟨W4, h1, h2, h3, h4, h5⟩ := fin (some (.goto t)) W3 hp.1
    exact ⟨_, W4, h1, .inr ⟨rfl, .goto t, hIx _ _ _ _ hp.2 h2, h4, h5⟩⟩
  | panic ch => exact hp.elim
  | outgrown => exact hp.elim
theorem range_toldK (hg : a.eval g = .func (.func gf) #[] lb) (eg : ∀ args w, (callFunc gf args).run P w = .ok (.enter gf args) w) (hps : ∀ x, (encs x).size = ps.size) (hn : 1 ≤ n) (hBs : ∀ k, Ks k → k < w.heap.size)
    {I : List α → World → Prop} {Ix : Code → List α → World → Prop} {T : List α → α → World → Prop} {S : List α → Prop} (hseq : TellsK (n - 1) P gf lb encs Ks T S w)
    (hI : ∀ s A A', I s A → Nb w.heap.size A A' → I s A') (hIx : ∀ c s A A', Ix c s A → Nb w.heap.size A A' → Ix c s A') (hT : ∀ s x A A', T s x A → Nb w.heap.size A A' → T s x A') (h0 : I [] w) {Ax : α → Act → World → Prop} (hAx : ∀ x a' A A', Ax x a' A → Nb w.heap.size A A' → Ax x a' A')
    (hassign : ∀ (l : Nat) (x : α) (W : World) (K : Act → World → Prop), w.heap.size ≤ W.heap.size → (∀ a' W', Below W.heap.size W W' → Ax x a' W' → K a' W') →
      assign.wpIn (Fence.wide.inRound l) (n - 1 - 1) P (Exit.then K (fun _ _ _ => False)) { tmps := (ps.zip (encs x)).foldl (fun t (p, v) => t.setIfInBounds p v) a.tmps, defers := [] } W)
    (hbody : ∀ (l : Nat) (pre : List α) (x : α) (a' : Act) (W : World), I pre W → T pre x W → Ax x a' W → LpB w.heap.size W → body.wpIn (Fence.wide.inRound l) (n - 1 - 1) P (toldPostK (fun k => Ks k ∨ k = w.heap.size ∨ k = w.heap.size + 1) I Ix (pre ++ [x]) W) a' W)
    (hdone : ∀ (D : Nat) (xs : List α) (W : World), w.heap.size ≤ D → S xs → I xs W → W.heap[D]? = some (.deferred (some [])) → Q .normal { a with defers := { target := .collected D, args := #[] } :: a.defers } W)
    (hstop : ∀ (D : Nat) (c : Code) (pre : List α) (W : World), w.heap.size ≤ D → Ix c pre W → W.heap[D]? = some (.deferred (some [])) → c.wpIn Fence.wide n P Q { a with defers := { target := .collected D, args := #[] } :: a.defers } W) :
    (Code.rangeFunc g ps assign body).wpIn Fence.wide n P Q a w := by
  refine wpIn_rangeFunc fun fn _ => ?_
  obtain ⟨W1, hW1⟩ : ∃ W1, W1 = (w.alloc (.deferred (some []))).alloc (.loop (recL fn a.tmps ps assign body w.heap.size .ready none)) := ⟨_, rfl⟩
  have hl1 : W1.heap[w.heap.size + 1]? = some (.loop (recL fn a.tmps ps assign body w.heap.size .ready none)) := by
    rw [hW1]
    have := World.alloc_heap_new (w.alloc (.deferred (some []))) (.loop (recL fn a.tmps ps assign body w.heap.size .ready none))
    rwa [World.size_alloc] at this
  have hk1 : W1.heap[w.heap.size]? = some (.deferred (some [])) := by
    rw [hW1]
    exact (Below.heap_alloc _ _ _ (by simp)).trans (World.alloc_heap_new w _)
  have hb1 : Below w.heap.size w W1 := by
    rw [hW1]
    exact ((Below.refl _ w).alloc (Nat.le_refl _) _).alloc (by simp) _
  have keep : ∀ {A A' : World} {k : Nat} {o : Obj}, A.heap[k]? = some o → Below A.heap.size A A' → A'.heap[k]? = some o := fun h hb => by
    rw [hb.block _ (lt_heap h)]
    exact h
  refine ⟨w.heap.size + 1, [{ target := .collected w.heap.size, args := #[] }], W1, { target := .fn (.func gf) lb, args := #[.func (.yield (w.heap.size + 1)) #[] #[]] }, W1, gf,
    #[.func (.yield (w.heap.size + 1)) #[] #[]] ++ lb, W1, by rw [hW1]; exact run_enterLoop_outer _ _ _ _ _, by simp only [resolve, hg]; simp [go_sem], fun f' hf' => by simp [Target.leads] at hf'; exact trivial, by simp [invoke, go_sem, eg], fun _ => hn, ?_⟩
  refine (hseq (w.heap.size + 1)
    (fun pre W => I pre W ∧ W.heap[w.heap.size + 1]? = some (.loop (recL fn a.tmps ps assign body w.heap.size .ready none)) ∧ W.heap[w.heap.size]? = some (.deferred (some [])))
    (fun pre W => ∃ c, Ix c pre W ∧ W.heap[w.heap.size + 1]? = some (.loop (recL fn a.tmps ps assign body w.heap.size .done (some c))) ∧ W.heap[w.heap.size]? = some (.deferred (some [])))
    W1 hb1 (fun s A A' h hb => ⟨hI _ _ _ h.1 (Nb.ofBelow hb), keep h.2.1 hb, keep h.2.2 hb⟩)
    (fun s A A' h hb => by obtain ⟨c, h1, h2, h3⟩ := h; exact ⟨c, hIx _ _ _ _ h1 (Nb.ofBelow hb), keep h2 hb, keep h3 hb⟩)
    (fun pre x W h ht => told_roundK hps hBs hI hIx hT hAx hassign hbody h.1 ht h.2.1 h.2.2) ⟨hI _ _ _ h0 (Nb.ofBelow hb1), hl1, hk1⟩).mono ?_
  rintro e W2 ⟨⟨v, rfl⟩, ⟨xs, hS, hi, hl, hk⟩ | ⟨pre, c, hi, hl, hk⟩⟩
  · exact ⟨none, _, run_endLoop hl (by simp [recL]), hdone _ xs _ (Nat.le_refl _) hS (hI _ _ _ hi (Nb.put _ (by omega) hl rfl)) ((World.putObj_heap_other (by omega)).trans hk)⟩
  · exact ⟨some c, _, run_endLoop hl (by simp [recL]), hstop _ c pre _ (Nat.le_refl _) (hIx _ _ _ _ hi (Nb.put _ (by omega) hl rfl)) ((World.putObj_heap_other (by omega)).trans hk)⟩
end
end Go.Proofs.YtipacdagaalccaaGreatDoor

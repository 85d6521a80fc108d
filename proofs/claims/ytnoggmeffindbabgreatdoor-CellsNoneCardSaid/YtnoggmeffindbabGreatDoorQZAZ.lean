/- Memory of a table of names: what may change ('Mod'), a row of texts that can be read ('Rs'), a table that lies at a block ('Tb'), an error that is just a fault ('Err'). -/
import Derived.Test.YtnoggmeffindbabGreatDoorProg
import Derived.WalkKit
import Derived.WalkSpells
import Derived.WalkLawsBesides
import Derived.Laws.CopyOwn
import Derived.Laws.AppendOwnNone
import Derived.Maps.OwnSet
import Derived.Maps.AppendAt
import Derived.OneCell
import Derived.Deep.QuietTactic
import Derived.BigQuiet
import Derived.StringKeys
import Derived.Shelf.Pu.Clone
namespace Go.Proofs.YtnoggmeffindbabGreatDoor
open Go.RowKit Go.Maps

theorem n_ret_int {k : IntKind} {a b : Int} (h : a = b) : Ending.returned (.int k a) = .returned (.int k b) := by rw [h]
theorem n_ret_bool {a b : Bool} (h : a = b) : Ending.returned (.bool a) = .returned (.bool b) := by rw [h]
/-- Blocks outside of the list stay as they were; new ones may come. -/
structure n_Mod (ks : List Nat) (w w' : World) : Prop where
  os : w'.os = w.os
  tape : w'.tape = w.tape
  output : w'.output = w.output
  size : w.heap.size ≤ w'.heap.size
  block : ∀ k, k < w.heap.size → k ∉ ks → w'.heap[k]? = w.heap[k]?
theorem n_Mod.refl (ks : List Nat) (w : World) : n_Mod ks w w := ⟨rfl, rfl, rfl, Nat.le_refl _, fun _ _ _ => rfl⟩
theorem n_Mod.trans {ks ks' : List Nat} {a b c : World} (h : n_Mod ks a b) (k : n_Mod ks' b c) (hs : ∀ x ∈ ks', x ∈ ks ∨ a.heap.size ≤ x) : n_Mod ks a c :=
  ⟨k.os.trans h.os, k.tape.trans h.tape, k.output.trans h.output, Nat.le_trans h.size k.size, fun i hi hn =>
    (k.block i (Nat.lt_of_lt_of_le hi h.size) (fun hx => by rcases hs i hx with h1 | h1; exact hn h1; omega)).trans (h.block i hi hn)⟩
theorem n_Mod.below {ks : List Nat} {w w' : World} {B : Nat} (h : n_Mod ks w w') (hk : ∀ k ∈ ks, B ≤ k) (hB : B ≤ w.heap.size) : Below B w w' :=
  ⟨h.os, h.tape, h.output, h.size, fun k hkB => h.block k (by omega) (fun hx => by have := hk k hx; omega)⟩
theorem n_Mod.ofBelow {ks : List Nat} {w w' : World} (h : Below w.heap.size w w') : n_Mod ks w w' :=
  ⟨h.os, h.tape, h.output, h.size, fun k hk _ => h.block k hk⟩
theorem n_Mod.grown {ks : List Nat} {a w w' : World} {row : Option Nat} (h : n_Mod ks a w) (hg : w.grownBy w' row) (hr : ∀ k, row = some k → k ∈ ks ∨ a.heap.size ≤ k) : n_Mod ks a w' :=
  ⟨hg.os.trans h.os, hg.tape.trans h.tape, hg.output.trans h.output, Nat.le_trans h.size hg.size, fun k hk hn =>
    (hg.block k (Nat.lt_of_lt_of_le hk h.size) (fun e => by rcases hr k e.symm with h1 | h1; exact hn h1; omega)).trans (h.block k hk hn)⟩
theorem n_Mod.alloc {ks : List Nat} {a w : World} (h : n_Mod ks a w) (o : Obj) : n_Mod ks a (w.alloc o) :=
  h.grown (World.grownBy_alloc w o none) (fun _ e => by cases e)
theorem n_Mod.setCell {ks : List Nat} {a w : World} (h : n_Mod ks a w) {p : Addr} (hp : p.block ∈ ks ∨ a.heap.size ≤ p.block) (u : Value) : n_Mod ks a (w.setCell p u) :=
  ⟨h.os, h.tape, h.output, by simpa using h.size, fun k hk hn =>
    (Below.heap_setCell w p u k (fun e => by subst e; rcases hp with h1 | h1; exact hn h1; omega)).trans (h.block k hk hn)⟩
theorem n_Mod.drew {ks : List Nat} {a w : World} (h : n_Mod ks a w) : n_Mod ks a w.drew := ⟨h.os, h.tape, h.output, h.size, h.block⟩
theorem n_Mod.cell {ks : List Nat} {w w' : World} (h : n_Mod ks w w') {k o : Nat} (hk : k < w.heap.size) (hn : k ∉ ks) : w'.cell? ⟨k, o, none⟩ = w.cell? ⟨k, o, none⟩ :=
  World.cell?_of_block (w := w) (a := ⟨k, o, none⟩) (h.block k hk hn)
theorem n_Mod.frozen {ks : List Nat} {w w' : World} (h : n_Mod ks w w') {k o : Nat} (hk : k < w.heap.size) (hn : k ∉ ks) : w'.frozen? ⟨k, o, none⟩ = w.frozen? ⟨k, o, none⟩ :=
  World.frozen?_of_block (w := w) (a := ⟨k, o, none⟩) (h.block k hk hn)
theorem n_Mod.ofMem {ks : List Nat} {w w' : World} (h : n_Mod ks w w') (ks' : List Nat) (hs : ∀ x ∈ ks, x ∈ ks' ∨ w.heap.size ≤ x) : n_Mod ks' w w' := (n_Mod.refl ks' w).trans h hs


/-- A name: 1 to 32 bytes, each from 0x21 to 0x7e. -/
def n_goodS (s : ByteArray) : Bool := decide (1 ≤ s.size) && decide (s.size ≤ 32) && s.data.toList.all (fun b => decide (33 ≤ b.toNat) && decide (b.toNat ≤ 126))
theorem n_goodS_size {s : ByteArray} (h : n_goodS s = true) : 1 ≤ s.size ∧ s.size ≤ 32 := by
  simp only [n_goodS, Bool.and_eq_true, decide_eq_true_eq] at h
  exact h.1
theorem n_lt_of_cell {w : World} {b o : Nat} {u : Value} (h : w.cell? ⟨b, o, none⟩ = some u) : b < w.heap.size := World.block_lt_of_cell? w ⟨b, o, none⟩ h
/-- The block that a slice lies in. -/
def Value.n_inBlock : Value → Option Nat
  | .slice (some a) _ _ => some a.block
  | _ => none
/-- A row of texts that a slice tells, wherever it lies. -/
def Rs (w : World) (v : Value) (l : List ByteArray) : Prop :=
  (v = .slice none 0 0 ∧ l = []) ∨ (∃ a c, v = .slice (some a) 0 c ∧ l = []) ∨ ∃ b o c, v = .slice (some ⟨b, o, none⟩) l.length c ∧ ∀ j, j < l.length → w.cell? ⟨b, o + j, none⟩ = some (.string (l.getD j ⟨#[]⟩))
theorem Rs.keep {w w' : World} {v : Value} {l : List ByteArray} {ks : List Nat} (h : Rs w v l) (hm : n_Mod ks w w') (hk : ∀ k ∈ ks, Value.n_inBlock v ≠ some k) : Rs w' v l := by
  rcases h with h0 | h0 | ⟨b, o, c, rfl, hc⟩
  · exact Or.inl h0
  · exact Or.inr (Or.inl h0)
  · refine Or.inr (Or.inr ⟨b, o, c, rfl, fun j hj => ?_⟩)
    rw [hm.cell (n_lt_of_cell (hc j hj)) (fun hx => hk b hx rfl)]
    exact hc j hj
theorem Rs.below {w w' : World} {v : Value} {l : List ByteArray} (h : Rs w v l) (hm : Below w.heap.size w w') : Rs w' v l :=
  h.keep (ks := []) (n_Mod.ofBelow hm) (fun _ hx => by cases hx)
theorem Rs.alloc {w : World} {v : Value} {l : List ByteArray} (h : Rs w v l) (o : Obj) : Rs (w.alloc o) v l := h.keep (ks := []) ((n_Mod.refl [] w).alloc o) (fun _ hx => by cases hx)
theorem Rs.shape {w : World} {v : Value} {l : List ByteArray} (h : Rs w v l) : ∃ ao c, v = .slice ao l.length c := by
  rcases h with ⟨rfl, rfl⟩ | ⟨a, c, rfl, rfl⟩ | ⟨b, o, c, rfl, _⟩
  · exact ⟨none, 0, rfl⟩
  · exact ⟨_, c, rfl⟩
  · exact ⟨_, c, rfl⟩
theorem Rs.ofOwn {w : World} {B : Nat} {v : Value} {l : List ByteArray} (h : w.ownsRow B 9 1 v l.length (l.map Value.string)) : Rs w v l := by
  have h0 := h
  rcases h.2 with ⟨rfl, hn⟩ | ⟨g, cap, cur, rfl, _⟩
  · exact Or.inl ⟨rfl, List.eq_nil_of_length_eq_zero hn⟩
  · refine Or.inr (Or.inr ⟨g, 0, cap, rfl, fun j hj => ?_⟩)
    rw [Nat.zero_add, h0.cellAt j (by omega)]
    simp [List.getD, List.getElem?_eq_getElem hj]
theorem n_own_base {w : World} {B B' : Nat} {e : TypeId} {v : Value} {n : Nat} {xs : List Value} (h : w.ownsRow B e 1 v n xs) (hB : B' ≤ B) : w.ownsRow B' e 1 v n xs := by
  refine ⟨h.1, ?_⟩
  rcases h.2 with h0 | ⟨g, cap, cur, rfl, hb, rest⟩
  · exact Or.inl h0
  · exact Or.inr ⟨g, cap, cur, rfl, by omega, rest⟩
theorem own_keep {w w' : World} {B : Nat} {e : TypeId} {v : Value} {n : Nat} {xs : List Value} {ks : List Nat} (h : w.ownsRow B e 1 v n xs) (hm : n_Mod ks w w') (hk : ∀ k ∈ ks, v.ownBlock ≠ some k) : w'.ownsRow B e 1 v n xs := by
  refine ⟨h.1, ?_⟩
  rcases h.2 with h0 | ⟨g, cap, cur, rfl, hb, hg, rest⟩
  · exact Or.inl h0
  · exact Or.inr ⟨g, cap, cur, rfl, hb, by rw [hm.block g (lt_of_block hg) (fun hx => hk g hx rfl)]; exact hg, rest⟩
theorem map_keep {w w' : World} {q n : Nat} {D : DataW Unit} {ks : List Nat} (h : w.ownsMap Tryz.prog 9 (plainElem Tryz.prog 3) q n D) (hm : n_Mod ks w w') (hk : q ∉ ks) : w'.ownsMap Tryz.prog 9 (plainElem Tryz.prog 3) q n D := by
  obtain ⟨es, clock, hb, rest⟩ := h
  exact ⟨es, clock, by rw [hm.block q (lt_of_block hb) hk]; exact hb, rest⟩

/-- Is a name in the list? -/
def inL (l : List ByteArray) (s : ByteArray) : Bool := l.any (fun x => decide (x = s))
theorem inL_iff {l : List ByteArray} {s : ByteArray} : inL l s = true ↔ s ∈ l := by simp [inL]
theorem inL_snoc (l : List ByteArray) (s x : ByteArray) : inL (l ++ [s]) x = (inL l x || decide (s = x)) := by simp [inL]
/-- The place of a name in a list. -/
def idx : List ByteArray → ByteArray → Nat
  | [], _ => 0
  | x :: r, s => if x = s then 0 else idx r s + 1
/-- A name's number in a list of names (0: none). -/
def num (l : List ByteArray) (s : ByteArray) : Nat := if inL l s = true then idx l s else 0
theorem idx_new : ∀ {l : List ByteArray} {s : ByteArray}, inL l s = false → idx (l ++ [s]) s = l.length
  | [], s, _ => by simp [idx]
  | x :: r, s, h => by
    simp only [inL, List.any_cons, Bool.or_eq_false_iff, decide_eq_false_iff_not] at h
    simp only [List.cons_append, idx, if_neg h.1, List.length_cons]
    rw [idx_new (l := r) (s := s) h.2]
theorem idx_old : ∀ {l : List ByteArray} {s x : ByteArray}, inL l x = true → idx (l ++ [s]) x = idx l x
  | [], s, x, h => by simp [inL] at h
  | y :: r, s, x, h => by
    by_cases e : y = x
    · simp [idx, e]
    · simp only [inL, List.any_cons, e, decide_false, Bool.false_or] at h
      simp only [List.cons_append, idx, if_neg e]
      rw [idx_old (l := r) (s := s) (x := x) h]
theorem idx_lt : ∀ {l : List ByteArray} {s : ByteArray}, inL l s = true → idx l s < l.length
  | [], s, h => by simp [inL] at h
  | y :: r, s, h => by
    by_cases e : y = s
    · simp [idx, e]
    · simp only [inL, List.any_cons, e, decide_false, Bool.false_or] at h
      have := idx_lt (l := r) (s := s) h
      simp only [idx, if_neg e, List.length_cons]
      omega
theorem idx_at : ∀ {l : List ByteArray} {s : ByteArray}, inL l s = true → l.getD (idx l s) ⟨#[]⟩ = s
  | [], s, h => by simp [inL] at h
  | y :: r, s, h => by
    by_cases e : y = s
    · simp [idx, e]
    · simp only [inL, List.any_cons, e, decide_false, Bool.false_or] at h
      have := idx_at (l := r) (s := s) h
      simp only [idx, if_neg e]
      simpa using this
/-- A map that tells each name's number. -/
def MapOf (l : List ByteArray) (D : DataW Unit) : Prop :=
  (∀ s : ByteArray, Maps.has D (.string s.data.toList) = inL l s) ∧ ∀ s : ByteArray, D.atKey (.string s.data.toList) (.lit (.int .i64 0)) = .lit (.int .i64 (num l s : Int))
theorem key_ne {s s' : ByteArray} (h : s' ≠ s) : Lit.string s'.data.toList ≠ Lit.string s.data.toList := fun e => h (by
  have e' : s'.data.toList = s.data.toList := by injection e
  exact ByteArray.ext (Array.toList_inj.1 e'))
theorem key_is (s : ByteArray) : WideAt.IsKeyLit (.string s.data.toList) := trivial
theorem mapOf_nil : MapOf [] (.map []) := ⟨fun s => by simp [Maps.has, inL], fun s => by simp [num, inL]; rfl⟩
theorem num_new {l : List ByteArray} {s : ByteArray} (h : inL l s = false) : num (l ++ [s]) s = l.length := by
  unfold num
  rw [if_pos (by simp [inL_snoc]), idx_new h]
theorem num_old {l : List ByteArray} {s x : ByteArray} (h : s ≠ x) : num (l ++ [s]) x = num l x := by
  unfold num
  rw [inL_snoc]
  cases hx : inL l x with
  | true => simp [idx_old hx]
  | false => simp [h]
theorem mapOf_put {l : List ByteArray} {s : ByteArray} {D : DataW Unit} (h : MapOf l D) (hD : Maps.IsMap D) (hs : inL l s = false) : MapOf (l ++ [s]) (D.put (.string s.data.toList) (.lit (.int .i64 (l.length : Int)))) := by
  refine ⟨fun x => ?_, fun x => ?_⟩
  · rw [inL_snoc]
    by_cases e : x = s
    · subst e
      rw [Maps.has_put_same hD (key_is x)]
      simp
    · rw [Maps.has_put_other (key_ne e), h.1]
      rw [decide_eq_false (fun h : s = x => e h.symm), Bool.or_false]
  · by_cases e : x = s
    · subst e
      rw [Maps.atKey_put_same hD (key_is x), num_new hs]
    · rw [Maps.atKey_put_other (key_ne e), h.2, num_old (fun h : s = x => e h.symm)]
theorem num_lt {l : List ByteArray} {s : ByteArray} (h : inL l s = true) : num l s < l.length := by
  unfold num
  rw [if_pos h]
  exact idx_lt h
theorem num_at {l : List ByteArray} {s : ByteArray} (h : inL l s = true) : l.getD (num l s) ⟨#[]⟩ = s := by
  unfold num
  rw [if_pos h]
  exact idx_at h
theorem num_le (l : List ByteArray) (s : ByteArray) : num l s ≤ l.length := by
  cases h : inL l s with
  | true => exact Nat.le_of_lt (num_lt h)
  | false =>
    unfold num
    rw [if_neg (by simp [h])]
    omega

/-- A table that lies at block p, its names in the slice v, its map in block q. -/
structure Tb (w : World) (B p : Nat) (v : Value) (q : Nat) (l : List ByteArray) : Prop where
  blk : w.heap[p]? = some (.cells #[v, .map (some q)] 164 (0, 0))
  base : B ≤ p
  own : w.ownsRow B 9 1 v l.length (l.map Value.string)
  mbase : B ≤ q
  map : ∃ D, w.ownsMap Tryz.prog 9 (plainElem Tryz.prog 3) q l.length D ∧ MapOf l D
  len : l.length ≤ 1024
  good : ∀ s ∈ l, n_goodS s = true
  nodup : l.Nodup
/-- The blocks of a table. -/
def n_foot (p : Nat) (v : Value) (q : Nat) : List Nat := p :: q :: v.ownBlock.toList
theorem n_mem_foot {p q k : Nat} {v : Value} : k ∈ n_foot p v q ↔ k = p ∨ k = q ∨ v.ownBlock = some k := by simp [n_foot]
section
variable {w : World} {B p q : Nat} {v : Value} {l : List ByteArray}
theorem Tb.lt (h : Tb w B p v q l) : p < w.heap.size := lt_of_block h.blk
theorem Tb.c0 (h : Tb w B p v q l) : w.cell? ⟨p, 0, none⟩ = some v := by simp [World.cell?, h.blk]
theorem Tb.c1 (h : Tb w B p v q l) : w.cell? ⟨p, 1, none⟩ = some (.map (some q)) := by simp [World.cell?, h.blk]
theorem Tb.f0 (h : Tb w B p v q l) : w.frozen? ⟨p, 0, none⟩ = false := by simp [World.frozen?, h.blk]
theorem Tb.rs (h : Tb w B p v q l) : Rs w v l := Rs.ofOwn h.own
theorem Tb.mlt (h : Tb w B p v q l) : q < w.heap.size := by
  obtain ⟨D, hD, _⟩ := h.map
  exact hD.lt
theorem Tb.val (h : Tb w B p v q l) : ∃ ao cap, v = .slice ao l.length cap ∧ l.length ≤ cap ∧ (ao = none → l = [] ∧ cap = 0) := by
  rcases h.own.2 with ⟨rfl, hn⟩ | ⟨g, cap, cur, rfl, _, _, hc, _⟩
  · exact ⟨none, 0, by rw [hn], by omega, fun _ => ⟨List.eq_nil_of_length_eq_zero hn, rfl⟩⟩
  · exact ⟨_, cap, rfl, hc, fun e => by cases e⟩
theorem Tb.row (h : Tb w B p v q l) {k : Nat} (hk : v.ownBlock = some k) : B ≤ k ∧ k < w.heap.size ∧ k ≠ p ∧ k ≠ q := by
  obtain ⟨h1, h2⟩ := h.own.lt k hk
  have hb := h.blk
  obtain ⟨D, ⟨es, clock, hq, _⟩, _⟩ := h.map
  rcases h.own.2 with ⟨rfl, hn⟩ | ⟨g, cap, cur, rfl, _, hg, _⟩
  · simp [Value.ownBlock] at hk
  · simp [Value.ownBlock] at hk
    subst hk
    refine ⟨h1, h2, fun e => ?_, fun e => ?_⟩
    · subst e
      rw [hg] at hb
      simp at hb
    · subst e
      rw [hg] at hq
      simp at hq
theorem Tb.pq (h : Tb w B p v q l) : p ≠ q := fun e => by
  subst e
  have hb := h.blk
  obtain ⟨D, ⟨es, clock, hq, _⟩, _⟩ := h.map
  rw [hq] at hb
  simp at hb
theorem Tb.keep {w' : World} {ks : List Nat} (h : Tb w B p v q l) (hm : n_Mod ks w w') (hk : ∀ k ∈ ks, k ∉ n_foot p v q) : Tb w' B p v q l := by
  obtain ⟨D, hD, hO⟩ := h.map
  refine ⟨?_, h.base, own_keep h.own hm (fun k hx e => hk k hx (n_mem_foot.2 (Or.inr (Or.inr e)))), h.mbase, ⟨D, map_keep hD hm (fun hx => hk q hx (n_mem_foot.2 (Or.inr (Or.inl rfl)))), hO⟩, h.len, h.good, h.nodup⟩
  rw [hm.block p h.lt (fun hx => hk p hx (n_mem_foot.2 (Or.inl rfl)))]; exact h.blk
theorem Tb.below {w' : World} (h : Tb w B p v q l) (hm : Below w.heap.size w w') : Tb w' B p v q l :=
  h.keep (ks := []) (n_Mod.ofBelow hm) (fun _ hx => by cases hx)
theorem Tb.alloc (h : Tb w B p v q l) (o : Obj) : Tb (w.alloc o) B p v q l :=
  h.keep (ks := []) ((n_Mod.refl [] w).alloc o) (fun _ hx => by cases hx)
end
/-- The row of the new names is the old one, or new. -/
def n_Nx (w : World) (v v' : Value) : Prop := ∀ k, v'.ownBlock = some k → v.ownBlock = some k ∨ w.heap.size ≤ k
theorem n_Nx.refl (w : World) (v : Value) : n_Nx w v v := fun _ h => Or.inl h
theorem n_Nx.trans {w w1 : World} {v v1 v2 : Value} (h : n_Nx w v v1) (h1 : n_Nx w1 v1 v2) (hs : w.heap.size ≤ w1.heap.size) : n_Nx w v v2 := fun k hk => by
  rcases h1 k hk with h2 | h2
  · exact h k h2
  · exact Or.inr (by omega)
/-- What a call that changes a table leaves. -/
structure n_Upd (w w' : World) (B p : Nat) (v : Value) (q : Nat) (l' : List ByteArray) (v' : Value) : Prop where
  tb : Tb w' B p v' q l'
  mod : n_Mod (n_foot p v q) w w'
  nx : n_Nx w v v'
theorem n_Upd.trans {w w1 w2 : World} {B p q : Nat} {v v1 v2 : Value} {l1 l2 : List ByteArray} (h : n_Upd w w1 B p v q l1 v1) (k : n_Upd w1 w2 B p v1 q l2 v2) : n_Upd w w2 B p v q l2 v2 :=
  ⟨k.tb, h.mod.trans k.mod (fun x hx => by
    rcases n_mem_foot.1 hx with rfl | rfl | hx
    · exact Or.inl (n_mem_foot.2 (Or.inl rfl))
    · exact Or.inl (n_mem_foot.2 (Or.inr (Or.inl rfl)))
    · rcases h.nx x hx with h1 | h1
      · exact Or.inl (n_mem_foot.2 (Or.inr (Or.inr h1)))
      · exact Or.inr h1), h.nx.trans k.nx h.mod.size⟩
theorem n_Upd.same {w w' : World} {B p q : Nat} {v : Value} {l : List ByteArray} (h : Tb w B p v q l) (hb : Below w.heap.size w w') : n_Upd w w' B p v q l v :=
  ⟨h.below hb, n_Mod.ofBelow hb, n_Nx.refl _ _⟩
theorem n_Upd.refl {w : World} {B p q : Nat} {v : Value} {l : List ByteArray} (h : Tb w B p v q l) : n_Upd w w B p v q l v := n_Upd.same h (Below.refl _ _)
theorem n_Upd.below {w w' : World} {B p q : Nat} {v v' : Value} {l l' : List ByteArray} (h : n_Upd w w' B p v q l' v') (hA : Tb w B p v q l) (hB : B ≤ w.heap.size) : Below B w w' :=
  h.mod.below (fun k hk => by
    rcases n_mem_foot.1 hk with rfl | rfl | hk
    · exact hA.base
    · exact hA.mbase
    · exact (hA.row hk).1) hB

/-- What Put answers: the names behind it, the number, the fault's code (0: none). -/
def n_putL (l : List ByteArray) (s : ByteArray) : List ByteArray := if n_goodS s = true ∧ inL l s = false ∧ l.length < 1024 then l ++ [s] else l
def putN (l : List ByteArray) (s : ByteArray) : Nat := if n_goodS s = true then (if inL l s = true then num l s else if l.length < 1024 then l.length else 0) else 0
def putC (l : List ByteArray) (s : ByteArray) : Int := if n_goodS s = true then (if inL l s = true then 0 else if l.length < 1024 then 0 else 31) else 30
def putA (l : List ByteArray) (s : ByteArray) : Int := if putC l s = 0 then 0 else -1
def putS (l : List ByteArray) (s : ByteArray) : ByteArray := if putC l s = 0 then ⟨#[]⟩ else s

/-- A fault of the reference, as a value: its code, its place, its name. -/
abbrev n_flt (c a : Int) (s : ByteArray) : Value := .agg #[.int .i64 c, .int .i64 a, .string s, .slice none 0 0]
/-- The block of a fault. -/
def n_faultObj (c a : Int) (s : ByteArray) : Obj := .cells #[.int .i64 c, .int .i64 a, .string s, .nilIface] 129
/-- An error that is just the fault with this code, place and name (code 0: none). -/
def n_Err (w : World) (e : Value) (c a : Int) (s : ByteArray) : Prop :=
  (c = 0 ∧ e = .nilIface) ∨ (c ≠ 0 ∧ ∃ b, e = .iface 126 (.pointer (some ⟨b, 0, none⟩)) ∧ w.heap[b]? = some (n_faultObj c a s))
theorem n_Err.below {w w' : World} {e : Value} {c a : Int} {s : ByteArray} (h : n_Err w e c a s) (hm : Below w.heap.size w w') : n_Err w' e c a s := by
  rcases h with h | ⟨hc, b, rfl, hb⟩
  · exact Or.inl h
  · exact Or.inr ⟨hc, b, rfl, by rw [hm.block b (lt_of_block hb)]; exact hb⟩
/-- Is there no error? -/
theorem n_Err.nil {w : World} {e : Value} {c a : Int} {s : ByteArray} (h : n_Err w e c a s) : (c = 0 ∧ e = .nilIface) ∨ (c ≠ 0 ∧ ∃ b, e = .iface 126 (.pointer (some ⟨b, 0, none⟩))) := by
  rcases h with h | ⟨hc, b, rfl, _⟩
  · exact Or.inl h
  · exact Or.inr ⟨hc, b, rfl⟩
theorem n_below_alloc (w : World) (o : Obj) : Below w.heap.size w (w.alloc o) := (Below.refl _ _).alloc (Nat.le_refl _) o
end Go.Proofs.YtnoggmeffindbabGreatDoor

/- What the small functions of package names do, each at every argument; faults, and the question whether an error is just a fault. -/
namespace Go.Proofs.YtnoggmeffindbabGreatDoor
open Go.RowKit Go.Maps

theorem n_byte_at (s : ByteArray) (k : Nat) (h : k < s.size) : s.data.toList[k]? = some s[k] := by
  rw [List.getElem?_eq_getElem (by simpa using h)]
  rfl
theorem n_goodS_byte {s : ByteArray} (h : n_goodS s = true) (k : Nat) (hk : k < s.size) : 33 ≤ (s[k].toNat : Int) ∧ (s[k].toNat : Int) ≤ 126 := by
  simp only [n_goodS, Bool.and_eq_true, List.all_eq_true, decide_eq_true_eq] at h
  have := h.2 s[k] (List.mem_of_getElem? (n_byte_at s k hk))
  omega
theorem n_goodS_of {s : ByteArray} (h1 : 1 ≤ s.size) (h2 : s.size ≤ 32) (h : ∀ k (hk : k < s.size), 33 ≤ (s[k].toNat : Int) ∧ (s[k].toNat : Int) ≤ 126) : n_goodS s = true := by
  simp only [n_goodS, Bool.and_eq_true, List.all_eq_true, decide_eq_true_eq]
  refine ⟨⟨h1, h2⟩, fun x hx => ?_⟩
  obtain ⟨k, hk, rfl⟩ := List.getElem_of_mem hx
  have hk' : k < s.size := by simpa using hk
  have := h k hk'
  have e : s.data.toList[k] = s[k] := rfl
  rw [e]
  omega
theorem n_goodS_no {s : ByteArray} (k : Nat) (hk : k < s.size) (h : ¬ (33 ≤ (s[k].toNat : Int) ∧ (s[k].toNat : Int) ≤ 126)) : n_goodS s = false := by
  cases hg : n_goodS s with
  | false => rfl
  | true => exact absurd (n_goodS_byte hg k hk) h
theorem n_goodS_short {s : ByteArray} (h : s.size < 1 ∨ 32 < s.size) : n_goodS s = false := by
  cases hg : n_goodS s with
  | false => rfl
  | true => have := n_goodS_size hg; omega
set_option maxRecDepth 100000 in
set_option maxHeartbeats 1000000 in
theorem n_good_any (s : ByteArray) (w : World) (hs : s.size ≤ 281474976710656) :
    Calls Tryz.prog 129 #[.string s] w fun e w' => e = .returned (.bool (n_goodS s)) ∧ w' = w := by
  by_cases h1 : s.size < 1
  · have hG : Hid (n_goodS s = false) := n_goodS_short (Or.inl h1)
    go_enter Tryz.func129, Tryz.ntmps129
    go_wp2
    go_ret
    exact ⟨n_ret_bool hG.out.symm, rfl⟩
  · by_cases h2 : 32 < s.size
    · have hG : Hid (n_goodS s = false) := n_goodS_short (Or.inr h2)
      go_enter Tryz.func129, Tryz.ntmps129
      go_wp2
      go_ret
      exact ⟨n_ret_bool hG.out.symm, rfl⟩
    · go_enter Tryz.func129, Tryz.ntmps129
      go_wp2
      go_loop [14] (fun i => ∃ k : Nat, k ≤ s.size ∧ i = .int .i64 k ∧ Hid (∀ j (hj : j < s.size), j < k → 33 ≤ (s[j].toNat : Int) ∧ (s[j].toNat : Int) ≤ 126)) (fun i => s.size - (intOf i).toNat)
      case atStart => exact ⟨0, by omega, rfl, fun j hj h0 => by omega⟩
      case round =>
        obtain ⟨k, hk, rfl, hm⟩ := hrel
        by_cases hlt : k < s.size
        · by_cases hd : 33 ≤ (s[k].toNat : Int)
          · by_cases hd' : (s[k].toNat : Int) ≤ 126
            · have hst : Hid (∀ j (hj : j < s.size), j < k + 1 → 33 ≤ (s[j].toNat : Int) ∧ (s[j].toNat : Int) ≤ 126) := fun j hj h0 => by
                rcases Nat.lt_or_eq_of_le (Nat.le_of_lt_succ h0) with h3 | h3
                · exact hm.out j hj h3
                · subst h3
                  exact ⟨hd, hd'⟩
              go_wp2
              exact ⟨⟨k + 1, by omega, congrArg (Value.int .i64) (by omega), hst⟩, by simp [intOf]; omega⟩
            · have hG : Hid (n_goodS s = false) := n_goodS_no k hlt (by omega)
              go_wp2
              go_ret
              exact ⟨n_ret_bool hG.out.symm, rfl⟩
          · have hG : Hid (n_goodS s = false) := n_goodS_no k hlt (by omega)
            go_wp2
            go_ret
            exact ⟨n_ret_bool hG.out.symm, rfl⟩
        · have hG : Hid (n_goodS s = true) := n_goodS_of (by omega) (by omega) (fun j hj => hm.out j hj (by omega))
          go_wp2
          go_ret
          exact ⟨n_ret_bool hG.out.symm, rfl⟩
set_option maxRecDepth 100000 in
set_option maxHeartbeats 400000 in
theorem n_fault_any (c : Int) (s : ByteArray) (w : World) :
    Calls Tryz.prog 128 #[.int .i64 c, .string s] w fun e w' => e = .returned (.iface 126 (.pointer (some ⟨w.heap.size, 0, none⟩))) ∧ w' = w.alloc (n_faultObj c (-1) s) := by
  go_enter Tryz.func128, Tryz.ntmps128
  go_wp2
  go_ret
  exact ⟨rfl, rfl⟩
set_option maxRecDepth 100000 in
set_option maxHeartbeats 400000 in
theorem new_any (w : World) (B : Nat) (hB : B ≤ w.heap.size) :
    Calls Tryz.prog 82 #[] w fun e w' => e = .returned (.pointer (some ⟨w.heap.size + 1, 0, none⟩)) ∧ Tb w' B (w.heap.size + 1) (.slice none 0 0) w.heap.size [] ∧ Below w.heap.size w w' := by
  have hmm := @run_makeMap Tryz.prog
  go_enter Tryz.func82, Tryz.ntmps82
  go_wp2
  go_ret
  have h1 := (World.ownsMap_made w Tryz.prog 9 (plainElem (H := Unit) Tryz.prog 3))
  refine ⟨by simp, ⟨?_, by omega, World.ownsRow_nil _ _ _ _, hB, ⟨_, h1.alloc _, mapOf_nil⟩, by simp, by simp, List.nodup_nil⟩, ((Below.refl _ w).alloc (Nat.le_refl _) _).alloc (by simp) _⟩
  have := heap_alloc_new (w.alloc (.map #[] 0)) (.cells #[.slice none 0 0, .map (some w.heap.size)] 164 (0, 0))
  simpa using this
set_option maxRecDepth 100000 in
set_option maxHeartbeats 400000 in
theorem len_any {w : World} {B p q : Nat} {v : Value} {l : List ByteArray} (h : Tb w B p v q l) :
    Calls Tryz.prog 130 #[.pointer (some ⟨p, 0, none⟩)] w fun e w' => e = .returned (.int .i64 (l.length : Int)) ∧ w' = w := by
  obtain ⟨ao, cap, rfl, _⟩ := h.val
  have c0 := h.c0
  go_enter Tryz.func130, Tryz.ntmps130
  go_wp2
  go_ret
  exact ⟨rfl, rfl⟩
set_option maxRecDepth 100000 in
set_option maxHeartbeats 400000 in
theorem len_nil (w : World) :
    Calls Tryz.prog 130 #[.pointer none] w fun e w' => e = .returned (.int .i64 0) ∧ w' = w := by
  go_enter Tryz.func130, Tryz.ntmps130
  go_wp2
  go_ret
  exact ⟨rfl, rfl⟩
theorem n_zeroInt (w : World) : (zeroValue 3).run Tryz.prog w = .ok (.int .i64 0) w := by kernel_rfl
set_option maxRecDepth 100000 in
set_option maxHeartbeats 400000 in
theorem find_any {w : World} {B p q : Nat} {v : Value} {l : List ByteArray} (h : Tb w B p v q l) (s : ByteArray) (hs : s.size ≤ 281474976710656) :
    Calls Tryz.prog 86 #[.pointer (some ⟨p, 0, none⟩), .string s] w fun e w' => e = .returned (.tuple #[.int .i64 (num l s : Int), .bool (inL l s)]) ∧ w' = w := by
  have c1 := h.c1
  obtain ⟨D, hD, hO⟩ := h.map
  have hk := WideMaps.keyOf_string_mk (P := Tryz.prog) (k := 9) Tryz.underlying9 (s := s) (by unfold maxLen; omega)
  have h1 := hO.1 s
  have h2 := hO.2 s
  clear hO h
  go_enter Tryz.func86, Tryz.ntmps86
  go_wp2_with (at_lookup; refine wpList_lookup_own_ok_int _ rfl _ _ 162 rfl 9 3 .i64 (string_keyed Tryz.underlying9) Tryz.underlying162 Tryz.underlying3 (n_zeroInt _) q l.length D rfl hD _ _ rfl hk ?_; intro c hat hwc)
  go_ret2
  rw [h2] at hat
  obtain rfl : (num l s : Int) = c := by injection hat with e; injection e
  exact ⟨rfl, rfl⟩
set_option maxRecDepth 100000 in
set_option maxHeartbeats 400000 in
theorem find_nil (s : ByteArray) (w : World) :
    Calls Tryz.prog 86 #[.pointer none, .string s] w fun e w' => e = .returned (.tuple #[.int .i64 0, .bool false]) ∧ w' = w := by
  go_enter Tryz.func86, Tryz.ntmps86
  go_wp2
  go_ret2
  exact ⟨rfl, rfl⟩
set_option maxRecDepth 100000 in
set_option maxHeartbeats 400000 in
theorem name_nil (n : Int) (w : World) :
    Calls Tryz.prog 133 #[.pointer none, .int .i64 n] w fun e w' => e = .returned (.tuple #[.string ⟨#[]⟩, .bool false]) ∧ w' = w := by
  by_cases h : n < 0
  · go_enter Tryz.func133, Tryz.ntmps133
    go_wp2
    go_ret2
    exact ⟨rfl, rfl⟩
  · go_enter Tryz.func133, Tryz.ntmps133
    go_wp2_with (go_at_call 130; refine (len_nil _).mono ?_; rintro e w ⟨rfl, rfl⟩)
    go_ret2
    exact ⟨rfl, rfl⟩
set_option maxRecDepth 100000 in
set_option maxHeartbeats 400000 in
theorem name_yes {w : World} {B p q : Nat} {v : Value} {l : List ByteArray} (h : Tb w B p v q l) (k : Nat) (hk : k < l.length) :
    Calls Tryz.prog 133 #[.pointer (some ⟨p, 0, none⟩), .int .i64 (k : Int)] w fun e w' => e = .returned (.tuple #[.string (l.getD k ⟨#[]⟩), .bool true]) ∧ w' = w := by
  have hlen := len_any h
  have hl := h.len
  have c0 := h.c0
  rcases h.rs with ⟨rfl, rfl⟩ | ⟨a, c, rfl, rfl⟩ | ⟨b, o, c, rfl, hc⟩
  · simp at hk
  · simp at hk
  · have hcx := hc k hk
    obtain ⟨x, hx⟩ : ∃ x, x = l.getD k ⟨#[]⟩ := ⟨_, rfl⟩
    rw [← hx] at hcx ⊢
    clear hx hc h
    go_enter Tryz.func133, Tryz.ntmps133
    go_wp2_with (go_at_call 130; refine hlen.mono ?_; rintro e w ⟨rfl, rfl⟩)
    go_ret2
    exact ⟨rfl, rfl⟩
set_option maxRecDepth 100000 in
set_option maxHeartbeats 400000 in
theorem name_no {w : World} {B p q : Nat} {v : Value} {l : List ByteArray} (h : Tb w B p v q l) (n : Int) (h1 : -9223372036854775808 ≤ n) (h2 : n ≤ 9223372036854775807) (hn : n < 0 ∨ (l.length : Int) ≤ n) :
    Calls Tryz.prog 133 #[.pointer (some ⟨p, 0, none⟩), .int .i64 n] w fun e w' => e = .returned (.tuple #[.string ⟨#[]⟩, .bool false]) ∧ w' = w := by
  have hlen := len_any h
  have hl := h.len
  clear h
  by_cases h0 : n < 0
  · go_enter Tryz.func133, Tryz.ntmps133
    go_wp2
    go_ret2
    exact ⟨rfl, rfl⟩
  · have h3 : (l.length : Int) ≤ n := by omega
    go_enter Tryz.func133, Tryz.ntmps133
    go_wp2_with (go_at_call 130; refine hlen.mono ?_; rintro e w ⟨rfl, rfl⟩)
    go_ret2
    exact ⟨rfl, rfl⟩
end Go.Proofs.YtnoggmeffindbabGreatDoor

/- What Put of package names does, at every table and every text. -/
namespace Go.Proofs.YtnoggmeffindbabGreatDoor
open Go.RowKit Go.Maps

/-- The shelf's numbers for stringslite.Clone, at this program. -/
def n_cloneRen : Go.Shelf.Ren := ⟨fun _ => 102, fun n => if n = 37 then 209 else if n = 47 then 210 else n, fun n => n⟩
theorem n_cloneLays : LaysPu.n25 Tryz.prog n_cloneRen :=
  ⟨(by kernel_rfl), (by kernel_rfl), (by kernel_rfl), (fun _ => by kernel_rfl), (fun _ => by kernel_rfl), (fun _ => by kernel_rfl), (by kernel_rfl), (by kernel_rfl), (fun _ => by kernel_rfl), (fun _ => by kernel_rfl),
    (fun _ => by kernel_rfl), (by kernel_rfl), (by kernel_rfl), (fun _ => by kernel_rfl), (fun _ => by kernel_rfl), (fun _ => by kernel_rfl), (by kernel_rfl), (by kernel_rfl), (fun _ => by kernel_rfl), (fun _ => by kernel_rfl),
    (fun _ => by kernel_rfl), (by kernel_rfl), (by kernel_rfl), (fun _ => by kernel_rfl), (fun _ => by kernel_rfl), (fun _ => by kernel_rfl), (by kernel_rfl), (by kernel_rfl), (fun _ => by kernel_rfl), (fun _ => by kernel_rfl),
    (fun _ => by kernel_rfl), (by kernel_rfl), (by kernel_rfl), (fun _ => by kernel_rfl), (fun _ => by kernel_rfl), (fun _ => by kernel_rfl), (by kernel_rfl)⟩
theorem n_sclone_any (s : ByteArray) (w : World) (hs : s.size ≤ 281474976710656) :
    Calls Tryz.prog 102 #[.string s] w fun e w' => e = .returned (.string s) ∧ Below w.heap.size w w' := AnyPu.stringslite_Clone n_cloneLays s w hs
set_option maxRecDepth 100000 in
set_option maxHeartbeats 400000 in
theorem n_clone_any (s : ByteArray) (w : World) (hs : s.size ≤ 281474976710656) :
    Calls Tryz.prog 57 #[.string s] w fun e w' => e = .returned (.string s) ∧ Below w.heap.size w w' := by
  go_enter Tryz.func57, Tryz.ntmps57
  go_wp2_with (go_at_call 102; refine (n_sclone_any _ _ hs).mono ?_; rintro e w1 ⟨rfl, hb⟩)
  go_ret
  exact ⟨rfl, hb⟩
theorem infoS : (Tryz.prog.info? 9).map (fun i => (i.zero, i.size, i.bytes)) = some (some (.string ⟨#[]⟩), 1, 16) := by kernel_rfl
/-- 'append(row, one text)': where the new row lies; if it is a new one, the old one stays as it was. -/
theorem n_run_append_still {w : World} {B : Nat} {v : Value} {l : List ByteArray} (ty : TypeId) (hown : w.ownsRow B 9 1 v l.length (l.map Value.string)) (ad : Addr) (c : Nat) (s : ByteArray)
    (hnews : ∀ j u, [Value.string s][j]? = some u → w.cell? (ad.add j) = some u) (hl : l.length ≤ 5000) (hB : B ≤ w.heap.size) :
    ∃ g cap w', (Builtin.append_ #[51, 51] ty #[v, .slice (some ad) 1 c]).run Tryz.prog w = .ok (.slice (some ⟨g, 0, none⟩) (l.length + 1) cap) w' ∧
      w'.ownsRow B 9 1 (.slice (some ⟨g, 0, none⟩) (l.length + 1) cap) (l.length + 1) ((l ++ [s]).map Value.string) ∧ w.grownBy w' v.ownBlock ∧ (v.ownBlock = some g ∨ (g = w.heap.size ∧ w.grownBy w' none)) := by
  obtain ⟨i0, hi, hz0, hz1, hz2⟩ := info_parts infoS
  have h1c : ∀ u ∈ [Value.string s], u.oneCell' = true := by simp [Value.oneCell']
  obtain ⟨v', w', hr, h2, h3, _, h5⟩ := run_append_own_at (P := Tryz.prog) w B 51 ty 9 i0 (.string ⟨#[]⟩) 1 16 Tryz.underlying51 hi hz0 hz1 hz2 rfl (by decide) v l.length (l.map Value.string) hown ad 1 c [.string s] rfl hnews h1c (by unfold maxLen; omega) (by omega) hB
  have h2' : w'.ownsRow B 9 1 v' (l.length + 1) ((l ++ [s]).map Value.string) := by simpa using h2
  rcases h2.2 with ⟨_, h0⟩ | ⟨g, cap, cur, rfl, _⟩
  · omega
  refine ⟨g, cap, w', hr, h2', h3, ?_⟩
  rcases h5 with h5 | h5
  · exact Or.inl h5.symm
  · have hg : g = w.heap.size := by simpa [Value.ownBlock] using h5
    rcases hown.2 with ⟨rfl, _⟩ | ⟨g0, cap0, cur0, rfl, _, hg0, _, _, hcs, _⟩
    · exact Or.inr ⟨hg, h3⟩
    · by_cases hroom : l.length + 1 ≤ cap0
      · have hr2 := run_append_room (P := Tryz.prog) w 51 ty 9 i0 Tryz.underlying51 hi g0 l.length cap0 cur0 hg0 ad 1 c [.string s] (by rw [hz1]; rfl) hnews h1c hroom (by rw [hz1]; simp; omega)
        rw [hr] at hr2
        injection hr2 with e1 e2
        have e3 : g = g0 := by
          have e4 : g = g0 ∧ cap = cap0 := by simpa using e1
          exact e4.1
        exact Or.inl (by simp [Value.ownBlock, e3])
      · have holds : ∀ j u, (l.map Value.string)[j]? = some u → w.cell? ((⟨g0, 0, none⟩ : Addr).add j) = some u := hown.cells (g := g0) rfl
        have hr2 := run_append_grow (P := Tryz.prog) w 51 ty 9 i0 (.string ⟨#[]⟩) Tryz.underlying51 hi hz0 ⟨g0, 0, none⟩ l.length cap0 (l.map Value.string) (by rw [hz1]; exact hown.1) holds ad 1 c [.string s] (by rw [hz1]; rfl) hnews (by omega) (by omega) (growslice_fits (by omega) (by rw [hz2]; omega))
        rw [hr] at hr2
        injection hr2 with e1 e2
        refine Or.inr ⟨hg, ?_⟩
        rw [e2]
        exact ⟨rfl, rfl, rfl, by simp, fun k hk _ => heap_alloc_old w.drew _ hk⟩
theorem n_wpList_append_still {w : World} {ops : Array Oper} {rest : List Oper} {o : Oper} {a : Act} {Q : Exit → Act → World → Prop} (hgd : o.guard = none) (x y : Operand)
    (ho : o.op = .call { callee := .builtin .append, args := #[x, y], argTypes := #[51, 51] }) {B : Nat} {v : Value} {l : List ByteArray} (hx : a.eval x = v) (hown : w.ownsRow B 9 1 v l.length (l.map Value.string)) (ad : Addr) (c : Nat) (s : ByteArray)
    (hy : a.eval y = .slice (some ad) 1 c) (hnews : ∀ j u, [Value.string s][j]? = some u → w.cell? (ad.add j) = some u) (hl : l.length ≤ 5000) (hB : B ≤ w.heap.size)
    (h : ∀ g cap w', w'.ownsRow B 9 1 (.slice (some ⟨g, 0, none⟩) (l.length + 1) cap) (l.length + 1) ((l ++ [s]).map Value.string) → w.grownBy w' v.ownBlock → (v.ownBlock = some g ∨ (g = w.heap.size ∧ w.grownBy w' none)) →
      wpList Tryz.prog ops Q rest (a.put o.dst (.slice (some ⟨g, 0, none⟩) (l.length + 1) cap)) w') : wpList Tryz.prog ops Q (o :: rest) a w := by
  refine wpList_plain hgd fun K hK => ?_
  obtain ⟨g, cap, w', hr, h2, h3, h4⟩ := n_run_append_still o.type hown ad c s hnews hl hB
  unfold Oper.wp execOp
  simp only [ho, resolve, invoke, builtin, Sem.run_bind, Sem.run_pure, Result.andThen_ok, List.map_toArray, List.map_cons, List.map_nil, hx, hy, hr]
  exact hK _ _ (h g cap w' h2 h3 h4)
/-- Behind the append: the struct's block is as it was. -/
theorem still_block {w w1 w2 : World} {p q B : Nat} {v : Value} {l : List ByteArray} {o : Obj} (h : Tb w B p v q l) (hb : Below w.heap.size w w1) (hg : (w1.alloc o).grownBy w2 v.ownBlock) : w2.heap[p]? = some (.cells #[v, .map (some q)] 164 (0, 0)) := by
  have h1 := (h.below hb).alloc o
  rw [hg.block p h1.lt (fun e => (h1.row e.symm).2.2.1 rfl)]
  exact h1.blk
theorem set_block {w : World} {p q : Nat} {v : Value} (v' : Value) (h : w.heap[p]? = some (.cells #[v, .map (some q)] 164 (0, 0))) : (w.setCell ⟨p, 0, none⟩ v').heap[p]? = some (.cells #[v', .map (some q)] 164 (0, 0)) := by
  obtain ⟨hlt, hk⟩ := Array.getElem?_eq_some_iff.1 h
  show (w.heap.modify p _)[p]? = _
  rw [Array.getElem?_eq_getElem (by rw [Array.size_modify]; exact hlt), Array.getElem_modify_self, hk]
  rfl
theorem blk_c0 {w : World} {p q : Nat} {v : Value} (h : w.heap[p]? = some (.cells #[v, .map (some q)] 164 (0, 0))) : w.cell? ⟨p, 0, none⟩ = some v := by simp [World.cell?, h]
theorem blk_c1 {w : World} {p q : Nat} {v : Value} (h : w.heap[p]? = some (.cells #[v, .map (some q)] 164 (0, 0))) : w.cell? ⟨p, 1, none⟩ = some (.map (some q)) := by simp [World.cell?, h]
theorem blk_f0 {w : World} {p q : Nat} {v : Value} (h : w.heap[p]? = some (.cells #[v, .map (some q)] 164 (0, 0))) : w.frozen? ⟨p, 0, none⟩ = false := by simp [World.frozen?, h]
/-- The map behind the append and the store. -/
theorem still_map {w w1 w2 : World} {p q B n : Nat} {v : Value} {l : List ByteArray} {o : Obj} {D : DataW Unit} (h : Tb w B p v q l) (hb : Below w.heap.size w w1) (hg : (w1.alloc o).grownBy w2 v.ownBlock) (v' : Value) (hD : w.ownsMap Tryz.prog 9 (plainElem Tryz.prog 3) q n D) :
    (w2.setCell ⟨p, 0, none⟩ v').ownsMap Tryz.prog 9 (plainElem Tryz.prog 3) q n D := by
  have h1 := (h.below hb).alloc o
  have hD1 := (map_keep (ks := []) hD (n_Mod.ofBelow hb) (by simp)).alloc o
  exact (hD1.kept hg (fun e => (h1.row e.symm).2.2.2 rfl)).setCell (fun e => h1.pq e.symm) _
/-- All that a new name leaves. -/
theorem put_upd {w w1 w2 w3 : World} {p q B g cap : Nat} {v : Value} {l : List ByteArray} {o : Obj} {s : ByteArray} {D : DataW Unit} (h : Tb w B p v q l) (hb : Below w.heap.size w w1) (hg : (w1.alloc o).grownBy w2 v.ownBlock)
    (hown : w2.ownsRow B 9 1 (.slice (some ⟨g, 0, none⟩) (l.length + 1) cap) (l.length + 1) ((l ++ [s]).map Value.string))
    (hat : v.ownBlock = some g ∨ (g = (w1.alloc o).heap.size ∧ (w1.alloc o).grownBy w2 none)) (hs : n_goodS s = true) (hn : inL l s = false) (hl : l.length < 1024) (hO : MapOf l D) (hD : w.ownsMap Tryz.prog 9 (plainElem Tryz.prog 3) q l.length D)
    (hm : w3.ownsMap Tryz.prog 9 (plainElem Tryz.prog 3) q (l.length + 1) (D.put (.string s.data.toList) (.lit (.int .i64 (l.length : Int))))) (hg3 : (w2.setCell ⟨p, 0, none⟩ (.slice (some ⟨g, 0, none⟩) (l.length + 1) cap)).grownBy w3 (some q)) :
    n_Upd w w3 B p v q (l ++ [s]) (.slice (some ⟨g, 0, none⟩) (l.length + 1) cap) ∧ Rs w3 v l := by
  have h1 := (h.below hb).alloc o
  have hM1 : n_Mod (n_foot p v q) w (w1.alloc o) := (n_Mod.ofBelow hb).alloc o
  have hM2 : n_Mod (n_foot p v q) w w2 := hM1.grown hg (fun k e => Or.inl (n_mem_foot.2 (Or.inr (Or.inr e))))
  have hM3 : n_Mod (n_foot p v q) w (w2.setCell ⟨p, 0, none⟩ (.slice (some ⟨g, 0, none⟩) (l.length + 1) cap)) := hM2.setCell (Or.inl (n_mem_foot.2 (Or.inl rfl))) _
  have hM4 : n_Mod (n_foot p v q) w w3 := hM3.grown hg3 (fun k e => by cases e; exact Or.inl (n_mem_foot.2 (Or.inr (Or.inl rfl))))
  have hb2 := still_block h hb hg
  have hb3 := set_block (.slice (some ⟨g, 0, none⟩) (l.length + 1) cap) hb2
  have hpq := h.pq
  have hgp : g ≠ p ∧ g ≠ q := by
    rcases hat with e | ⟨e, _⟩
    · exact ⟨(h1.row e).2.2.1, (h1.row e).2.2.2⟩
    · have h3 := h1.lt
      have h4 := h1.mlt
      exact ⟨by omega, by omega⟩
  have hrow3 := (own_keep (ks := [p]) hown ((n_Mod.refl [p] w2).setCell (p := ⟨p, 0, none⟩) (Or.inl (by simp)) (.slice (some ⟨g, 0, none⟩) (l.length + 1) cap)) (fun k hk e => by
    simp at hk
    subst hk
    exact hgp.1 (by simpa [Value.ownBlock] using e)))
  have hrow4 := own_keep (ks := [q]) hrow3 ((n_Mod.refl [q] _).grown hg3 (fun k e => by cases e; exact Or.inl (by simp))) (fun k hk e => by
    simp at hk
    subst hk
    exact hgp.2 (by simpa [Value.ownBlock] using e))
  refine ⟨⟨⟨?_, h.base, by rw [List.length_append]; exact hrow4, h.mbase, ⟨_, hm.mono (by simp), mapOf_put hO hD.isMap hn⟩, by simp; omega, fun x hx => ?_, ?_⟩, hM4, fun k hk => ?_⟩, ?_⟩
  · rw [hg3.block p (lt_of_block hb3) (fun e => hpq (by simpa using e))]
    exact hb3
  · rcases List.mem_append.1 hx with hx | hx
    · exact h.good x hx
    · simp at hx
      subst hx
      exact hs
  · rw [List.nodup_append]
    refine ⟨h.nodup, by simp, fun x hx y hy e => ?_⟩
    simp at hy
    subst hy
    subst e
    rw [inL_iff.2 hx] at hn
    cases hn
  · have hk' : k = g := by simpa [Value.ownBlock] using hk.symm
    subst hk'
    rcases hat with e | ⟨e, _⟩
    · exact Or.inl e
    · have := hb.size
      simp at e
      exact Or.inr (by omega)
  · rcases hat with e | ⟨_, hg'⟩
    · rcases h.own.2 with ⟨rfl, hn0⟩ | ⟨g0, cap0, cur0, rfl, _⟩
      · exact Or.inl ⟨rfl, List.eq_nil_of_length_eq_zero hn0⟩
      · have e' : g0 = g := by simpa [Value.ownBlock] using e
        subst e'
        refine Or.inr (Or.inr ⟨g0, 0, cap0, rfl, fun j hj => ?_⟩)
        rw [Nat.zero_add, hrow4.cellAt j (by omega), List.map_append, List.getElem?_append_left (by simpa using hj)]
        simp [List.getD, hj]
    · have hr1 := h1.rs
      have hr2 : Rs w2 v l := hr1.keep (ks := []) ((n_Mod.refl [] _).grown hg' (fun k e => by cases e)) (by simp)
      have hin : ∀ k, Value.n_inBlock v = some k → v.ownBlock = some k := fun k e => by
        rcases h.own.2 with ⟨rfl, hn0⟩ | ⟨g0, cap0, cur0, rfl, _⟩
        · simp [Value.n_inBlock] at e
        · simpa [Value.n_inBlock, Value.ownBlock] using e
      have hr3 : Rs (w2.setCell ⟨p, 0, none⟩ (.slice (some ⟨g, 0, none⟩) (l.length + 1) cap)) v l := hr2.keep (ks := [p]) ((n_Mod.refl [p] w2).setCell (p := ⟨p, 0, none⟩) (Or.inl (by simp)) _) (fun k hk e => by
        simp at hk
        subst hk
        exact (h.row (hin _ e)).2.2.1 rfl)
      exact hr3.keep (ks := [q]) ((n_Mod.refl [q] _).grown hg3 (fun k e => by cases e; exact Or.inl (by simp))) (fun k hk e => by
        simp at hk
        subst hk
        exact (h.row (hin _ e)).2.2.2 rfl)
set_option maxRecDepth 100000 in
set_option maxRecDepth 100000 in
set_option maxHeartbeats 1000000 in
theorem put_bad {w : World} (p : Nat) (s : ByteArray) (hs : s.size ≤ 281474976710656) (hg : n_goodS s = false) :
    Calls Tryz.prog 88 #[.pointer (some ⟨p, 0, none⟩), .string s] w fun e w' => e = .returned (.tuple #[.int .i64 0, .iface 126 (.pointer (some ⟨w.heap.size, 0, none⟩))]) ∧ w' = w.alloc (n_faultObj 30 (-1) s) := by
  go_enter Tryz.func88, Tryz.ntmps88
  go_wp2_with (first | (go_at_call 129; refine (n_good_any _ _ hs).mono ?_; rintro e w ⟨rfl, rfl⟩) | (go_at_call 128; refine (n_fault_any _ _ _).mono ?_; rintro e w' ⟨rfl, rfl⟩))
  go_ret2
  exact ⟨rfl, rfl⟩
set_option maxRecDepth 100000 in
set_option maxRecDepth 100000 in
set_option maxHeartbeats 1000000 in
theorem put_nil (s : ByteArray) (w : World) :
    Calls Tryz.prog 88 #[.pointer none, .string s] w fun e w' => e = .returned (.tuple #[.int .i64 0, .iface 126 (.pointer (some ⟨w.heap.size, 0, none⟩))]) ∧ w' = w.alloc (n_faultObj 1 (-1) ⟨#[]⟩) := by
  go_enter Tryz.func88, Tryz.ntmps88
  go_wp2_with (go_at_call 128; refine (n_fault_any _ _ _).mono ?_; rintro e w' ⟨rfl, rfl⟩)
  go_ret2
  exact ⟨rfl, rfl⟩
set_option maxRecDepth 100000 in
set_option maxRecDepth 100000 in
set_option maxHeartbeats 1000000 in
theorem put_old {w : World} {B p q : Nat} {v : Value} {l : List ByteArray} (h : Tb w B p v q l) (s : ByteArray) (hs : s.size ≤ 281474976710656) (hg : n_goodS s = true) (hi : inL l s = true) :
    Calls Tryz.prog 88 #[.pointer (some ⟨p, 0, none⟩), .string s] w fun e w' => e = .returned (.tuple #[.int .i64 (num l s : Int), .nilIface]) ∧ w' = w := by
  have hf := find_any h s hs
  rw [hi] at hf
  clear h
  go_enter Tryz.func88, Tryz.ntmps88
  go_wp2_with (first | (go_at_call 129; refine (n_good_any _ _ hs).mono ?_; rintro e w ⟨rfl, rfl⟩) | (go_at_call 86; refine hf.mono ?_; rintro e w ⟨rfl, rfl⟩))
  go_ret2
  exact ⟨rfl, rfl⟩
set_option maxRecDepth 100000 in
set_option maxRecDepth 100000 in
set_option maxHeartbeats 1000000 in
theorem put_full {w : World} {B p q : Nat} {v : Value} {l : List ByteArray} (h : Tb w B p v q l) (s : ByteArray) (hs : s.size ≤ 281474976710656) (hg : n_goodS s = true) (hi : inL l s = false) (hl : ¬ l.length < 1024) :
    Calls Tryz.prog 88 #[.pointer (some ⟨p, 0, none⟩), .string s] w fun e w' => e = .returned (.tuple #[.int .i64 0, .iface 126 (.pointer (some ⟨w.heap.size, 0, none⟩))]) ∧ w' = w.alloc (n_faultObj 31 (-1) s) := by
  have hf := find_any h s hs
  have hn := len_any h
  have hl2 := h.len
  rw [hi] at hf
  clear h
  go_enter Tryz.func88, Tryz.ntmps88
  go_wp2_with (first | (go_at_call 129; refine (n_good_any _ _ hs).mono ?_; rintro e w ⟨rfl, rfl⟩) | (go_at_call 86; refine hf.mono ?_; rintro e w ⟨rfl, rfl⟩) | (go_at_call 130; refine hn.mono ?_; rintro e w ⟨rfl, rfl⟩) | (go_at_call 128; refine (n_fault_any _ _ _).mono ?_; rintro e w' ⟨rfl, rfl⟩))
  go_ret2
  exact ⟨rfl, rfl⟩
set_option maxRecDepth 100000 in
set_option maxRecDepth 100000 in
set_option maxHeartbeats 2000000 in
theorem put_new {w : World} {B p q : Nat} {v : Value} {l : List ByteArray} (h : Tb w B p v q l) (hB : B ≤ w.heap.size) (s : ByteArray) (hs : s.size ≤ 281474976710656) (hg : n_goodS s = true) (hi : inL l s = false) (hl : l.length < 1024) :
    Calls Tryz.prog 88 #[.pointer (some ⟨p, 0, none⟩), .string s] w fun e w' => e = .returned (.tuple #[.int .i64 (l.length : Int), .nilIface]) ∧ ∃ v', n_Upd w w' B p v q (l ++ [s]) v' ∧ Rs w' v l := by
  have hf := find_any h s hs
  have hn := len_any h
  rw [hi] at hf
  obtain ⟨D, hD, hO⟩ := h.map
  have hk := WideMaps.keyOf_string_mk (P := Tryz.prog) (k := 9) Tryz.underlying9 (s := s) (by unfold maxLen; omega)
  have hwf : (Lit.int .i64 (l.length : Int)).wf = true := WalkArith.wf_i64 (by omega)
  go_enter Tryz.func88, Tryz.ntmps88
  go_wp2_with (first
    | (go_at_call 129; refine (n_good_any _ _ hs).mono ?_; rintro e w ⟨rfl, rfl⟩)
    | (go_at_call 86; refine hf.mono ?_; rintro e w ⟨rfl, rfl⟩)
    | (go_at_call 130; refine hn.mono ?_; rintro e w ⟨rfl, rfl⟩)
    | (go_at_call 57; refine (n_clone_any _ _ hs).mono ?_; rintro e w1 ⟨rfl, hb⟩; have c0 := (h.below hb).c0)
    | (at_builtin; refine n_wpList_append_still rfl _ _ rfl rfl ((h.below hb).alloc _).own ⟨w1.heap.size, 0, none⟩ 1 s rfl (cell_one_new _ _ _) (by omega) (by have := hb.size; simp; omega) ?_; intro g cap w2 hown hgr hat; have hb2 := still_block h hb hgr; have d0 := blk_c0 hb2; have d1 := blk_f0 hb2; have d2 := blk_c1 (set_block (.slice (some ⟨g, 0, none⟩) (l.length + 1) cap) hb2); have hm2 := still_map h hb hgr (.slice (some ⟨g, 0, none⟩) (l.length + 1) cap) hD)
    | (at_mapUpdate; refine wpList_mapUpdate_own _ rfl _ _ _ 162 rfl 9 3 (string_keyed Tryz.underlying9) Tryz.underlying162 _ q l.length _ rfl hm2 (by unfold maxLen; omega) _ _ _ rfl rfl hk _ [] (plainElem_int Tryz.underlying3 hwf) ?_; intro w3 hm3 hg3))
  go_ret2
  exact ⟨rfl, _, put_upd h hb hgr hown hat hg hi hl hO hD hm3 hg3⟩
/-- Put, at every text. -/
theorem put_any {w : World} {B p q : Nat} {v : Value} {l : List ByteArray} (h : Tb w B p v q l) (hB : B ≤ w.heap.size) (s : ByteArray) (hs : s.size ≤ 281474976710656) :
    Calls Tryz.prog 88 #[.pointer (some ⟨p, 0, none⟩), .string s] w fun e w' => ∃ ev v', e = .returned (.tuple #[.int .i64 (putN l s : Int), ev]) ∧ n_Err w' ev (putC l s) (putA l s) (putS l s) ∧ n_Upd w w' B p v q (n_putL l s) v' ∧ Rs w' v l := by
  cases hg : n_goodS s with
  | false =>
    have e1 : putN l s = 0 := by simp [putN, hg]
    have e2 : putC l s = 30 := by simp [putC, hg]
    have e3 : n_putL l s = l := by simp [n_putL, hg]
    refine (put_bad p s hs hg).mono fun e w' ⟨he, hw⟩ => ?_
    subst hw
    refine ⟨_, v, by rw [he, e1]; rfl, ?_, by rw [e3]; exact n_Upd.same h (n_below_alloc _ _), (h.alloc _).rs⟩
    simp only [putA, putS, e2]
    exact Or.inr ⟨by decide, _, rfl, heap_alloc_new w _⟩
  | true =>
    cases hi : inL l s with
    | true =>
      have e1 : putN l s = num l s := by simp [putN, hg, hi]
      have e2 : putC l s = 0 := by simp [putC, hg, hi]
      have e3 : n_putL l s = l := by simp [n_putL, hi]
      refine (put_old h s hs hg hi).mono fun e w' ⟨he, hw⟩ => ?_
      subst hw
      exact ⟨_, v, by rw [he, e1], by rw [e2]; exact Or.inl ⟨rfl, rfl⟩, by rw [e3]; exact n_Upd.refl h, h.rs⟩
    | false =>
      by_cases hl : l.length < 1024
      · have e1 : putN l s = l.length := by simp [putN, hg, hi, hl]
        have e2 : putC l s = 0 := by simp [putC, hg, hl]
        have e3 : n_putL l s = l ++ [s] := by simp [n_putL, hg, hi, hl]
        refine (put_new h hB s hs hg hi hl).mono fun e w' ⟨he, v', hU, hr⟩ => ?_
        exact ⟨_, v', by rw [he, e1], by rw [e2]; exact Or.inl ⟨rfl, rfl⟩, by rw [e3]; exact hU, hr⟩
      · have e1 : putN l s = 0 := by simp [putN, hg, hi, hl]
        have e2 : putC l s = 31 := by simp [putC, hg, hi, hl]
        have e3 : n_putL l s = l := by simp [n_putL, hl]
        refine (put_full h s hs hg hi hl).mono fun e w' ⟨he, hw⟩ => ?_
        subst hw
        refine ⟨_, v, by rw [he, e1]; rfl, ?_, by rw [e3]; exact n_Upd.same h (n_below_alloc _ _), (h.alloc _).rs⟩
        simp only [putA, putS, e2]
        exact Or.inr ⟨by decide, _, rfl, heap_alloc_new w _⟩
end Go.Proofs.YtnoggmeffindbabGreatDoor

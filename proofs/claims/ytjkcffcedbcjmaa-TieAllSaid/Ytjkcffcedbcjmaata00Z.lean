/- Memory of graphs: rows of numbers ('Ri') and of nodes ('Rn') that a slice tells, graphs ('Gr'); errors that are a chain of faults ('Er'), as the references tell them ('Fl'). -/
import Derived.Test.YtjkcffcedbcjmaaProg
import Derived.WalkKit
import Derived.WalkSpells
import Derived.WalkLawsBesides
import Derived.Laws.CopyOwn
import Derived.Laws.AppendOwnNone
import Derived.Maps.AppendAt
import Derived.OneCell
import Derived.Laws.EntriesVeiled
import Derived.Deep.QuietTactic
import Derived.BigQuiet
import Derived.Shelf.Abstract
namespace Go.Proofs.Ytjkcffcedbcjmaa
set_option maxRecDepth 100000
open Go.RowKit
theorem ret_int {k : IntKind} {a b : Int} (h : a = b) : Ending.returned (.int k a) = .returned (.int k b) := by rw [h]
theorem ret_bool {a b : Bool} (h : a = b) : Ending.returned (.bool a) = .returned (.bool b) := by rw [h]
theorem hid {p : Prop} (h : p) : Hid p := h
theorem lt_of_cell {w : World} {b o : Nat} {u : Value} (h : w.cell? ⟨b, o, none⟩ = some u) : b < w.heap.size := World.block_lt_of_cell? w ⟨b, o, none⟩ h
theorem below_alloc (w : World) (o : Obj) : Below w.heap.size w (w.alloc o) := (Below.refl _ _).alloc (Nat.le_refl _) o
theorem bcell {W w1 : World} (hb : Below W.heap.size W w1) : (∀ b o, b < W.heap.size → w1.cell? ⟨b, o, none⟩ = W.cell? ⟨b, o, none⟩) ∧ (∀ b o, b < W.heap.size → w1.frozen? ⟨b, o, none⟩ = W.frozen? ⟨b, o, none⟩) :=
  ⟨fun b o h => hb.cell (p := ⟨b, o, none⟩) h, fun b o h => hb.frozen (p := ⟨b, o, none⟩) h⟩
theorem Below.next {W w w' : World} (h : Below W.heap.size W w) (k : Below w.heap.size w w') : Below W.heap.size W w' := h.trans (k.mono h.size)
def Ri (w : World) (v : Value) (l : List Int) : Prop :=
  ∃ ao c, v = .slice ao l.length c ∧ ∀ j, j < l.length → ∃ b o, ao = some ⟨b, o, none⟩ ∧ w.cell? ⟨b, o + j, none⟩ = some (.int .i64 (l.getD j 0))
theorem Ri.below {w w' : World} {v : Value} {l : List Int} (h : Ri w v l) (hb : Below w.heap.size w w') : Ri w' v l := by
  obtain ⟨ao, c, rfl, h⟩ := h
  refine ⟨ao, c, rfl, fun j hj => ?_⟩
  obtain ⟨b, o, hao, hc⟩ := h j hj
  exact ⟨b, o, hao, by rw [hb.cell (p := ⟨b, o + j, none⟩) (lt_of_cell hc)]; exact hc⟩
structure Nd where
  kind : Int
  name : ByteArray
  num : Int
  args : List Int
abbrev nd0 : Nd := ⟨0, ⟨#[]⟩, 0, []⟩
def NdAt (w : World) (b o : Nat) (av : Value) (n : Nd) : Prop :=
  w.cell? ⟨b, o, none⟩ = some (.int .i64 n.kind) ∧ w.cell? ⟨b, o + 1, none⟩ = some (.string n.name) ∧ w.cell? ⟨b, o + 2, none⟩ = some (.int .i64 n.num) ∧ w.cell? ⟨b, o + 3, none⟩ = some av ∧ Ri w av n.args
theorem NdAt.below {w w' : World} {b o : Nat} {av : Value} {n : Nd} (h : NdAt w b o av n) (hb : Below w.heap.size w w') : NdAt w' b o av n := by
  obtain ⟨h0, h1, h2, h3, h4⟩ := h
  have hl := lt_of_cell h0
  refine ⟨?_, ?_, ?_, ?_, h4.below hb⟩
  · rw [hb.cell (p := ⟨b, o, none⟩) hl]; exact h0
  · rw [hb.cell (p := ⟨b, o + 1, none⟩) hl]; exact h1
  · rw [hb.cell (p := ⟨b, o + 2, none⟩) hl]; exact h2
  · rw [hb.cell (p := ⟨b, o + 3, none⟩) hl]; exact h3
def Rn (w : World) (v : Value) (l : List Nd) : Prop :=
  ∃ ao c, v = .slice ao l.length c ∧ ∀ j, j < l.length → ∃ b o av, ao = some ⟨b, o, none⟩ ∧ NdAt w b (o + j * 4) av (l.getD j nd0)
theorem Rn.below {w w' : World} {v : Value} {l : List Nd} (h : Rn w v l) (hb : Below w.heap.size w w') : Rn w' v l := by
  obtain ⟨ao, c, rfl, h⟩ := h
  refine ⟨ao, c, rfl, fun j hj => ?_⟩
  obtain ⟨b, o, av, hao, hc⟩ := h j hj
  exact ⟨b, o, av, hao, hc.below hb⟩
structure Gf where
  nodes : List Nd
  roots : List Int
abbrev gf0 : Gf := ⟨[], []⟩
def Gr (w : World) (nv rv : Value) (g : Gf) : Prop := Rn w nv g.nodes ∧ Ri w rv g.roots
theorem Gr.below {w w' : World} {nv rv : Value} {g : Gf} (h : Gr w nv rv g) (hb : Below w.heap.size w w') : Gr w' nv rv g := ⟨h.1.below hb, h.2.below hb⟩
def goodS (s : ByteArray) : Bool := decide (1 ≤ s.size) && decide (s.size ≤ 32) && s.data.toList.all (fun b => decide (33 ≤ b.toNat) && decide (b.toNat ≤ 126))
theorem goodS_size {s : ByteArray} (h : goodS s = true) : 1 ≤ s.size ∧ s.size ≤ 32 := by
  simp only [goodS, Bool.and_eq_true, decide_eq_true_eq] at h
  exact h.1
def strange (N : Nat) (x : Int) : Bool := decide (x < 0) || decide ((N : Int) ≤ x)
def goodNd (N : Nat) (n : Nd) : Bool :=
  if n.kind = 1 then decide (n.name.toList = []) && decide (n.num = 0) && decide (n.args.length = 0)
  else if n.kind = 2 then goodS n.name && decide (n.num = 0) && decide (n.args.length = 0)
  else if n.kind = 3 then decide (n.name.toList = []) && decide (-1125899906842624 ≤ n.num) && decide (n.num ≤ 1125899906842624) && decide (n.args.length = 0)
  else if n.kind = 4 then goodS n.name && decide (n.num = 0) && decide (1 ≤ n.args.length) && decide (n.args.length ≤ 8) && !n.args.any (strange N)
  else false
def ixOf {α : Type} (p : α → Bool) : List α → Int
  | [] => -1
  | x :: r => if p x then 0 else if ixOf p r < 0 then -1 else ixOf p r + 1
theorem ixOf_ge {α : Type} (p : α → Bool) : ∀ l : List α, -1 ≤ ixOf p l
  | [] => by simp [ixOf]
  | x :: r => by
    have := ixOf_ge p r
    simp only [ixOf]
    split
    · omega
    · split <;> omega
theorem ixOf_none {α : Type} (p : α → Bool) : ∀ l : List α, l.any p = false → ixOf p l = -1
  | [], _ => rfl
  | x :: r, h => by
    simp only [List.any_cons, Bool.or_eq_false_iff] at h
    simp [ixOf, h.1, ixOf_none p r h.2]
theorem ixOf_hit {α : Type} (d : α) (p : α → Bool) : ∀ (l : List α) (k : Nat), k < l.length → (∀ j, j < k → p (l.getD j d) = false) → p (l.getD k d) = true → ixOf p l = k
  | [], k, h, _, _ => absurd h (Nat.not_lt_zero _)
  | x :: r, 0, _, _, h => by
    have h' : p x = true := by simpa using h
    simp [ixOf, h']
  | x :: r, k + 1, hk, hj, h => by
    have h0 : p x = false := by simpa using hj 0 (by omega)
    have := ixOf_hit d p r k (by simpa using hk) (fun j hj' => by simpa using hj (j + 1) (by omega)) (by simpa using h)
    simp only [ixOf, h0, this]
    rw [if_neg (by simp), if_neg (by omega)]
    omega
theorem ixOf_miss {α : Type} (d : α) (p : α → Bool) (l : List α) (h : ∀ j, j < l.length → p (l.getD j d) = false) : ixOf p l = -1 := by
  refine ixOf_none p l ?_
  rw [List.any_eq_false]
  intro x hx
  obtain ⟨k, hk, rfl⟩ := List.getElem_of_mem hx
  have := h k hk
  simp [List.getD, hk] at this
  simp [this]
theorem ixOf_any {α : Type} (p : α → Bool) : ∀ l : List α, decide (0 ≤ ixOf p l) = l.any p
  | [] => by simp [ixOf]
  | x :: r => by
    have h1 := ixOf_any p r
    rw [List.any_cons, ← h1]
    by_cases hx : p x = true
    · simp [ixOf, hx]
    · have hx' : p x = false := by simpa using hx
      simp only [ixOf, hx', Bool.false_or]
      by_cases h : ixOf p r < 0
      · rw [if_neg (by simp), if_pos h, decide_eq_decide]
        omega
      · rw [if_neg (by simp), if_neg h, decide_eq_decide]
        omega
def chk (g : Gf) : Int × Int :=
  if 4096 < g.nodes.length then (41, g.nodes.length)
  else if 4096 < g.roots.length then (42, g.roots.length)
  else if 0 ≤ ixOf (fun n => !goodNd g.nodes.length n) g.nodes then (40, ixOf (fun n => !goodNd g.nodes.length n) g.nodes)
  else if 0 ≤ ixOf (strange g.nodes.length) g.roots then (43, ixOf (strange g.nodes.length) g.roots)
  else (0, 0)
abbrev Fs := List (Int × Int)
def one (x : Int × Int) : Fs := if x.1 = 0 then [] else [x]
def faultObj (c a : Int) (cause : Value) : Obj := .cells #[.int .i64 c, .int .i64 a, .string ⟨#[]⟩, cause] 88
def Er (w : World) : Value → Fs → Prop
  | e, [] => e = .nilIface
  | e, x :: r => x.1 ≠ 0 ∧ ∃ b ev, e = .iface 85 (.pointer (some ⟨b, 0, none⟩)) ∧ w.heap[b]? = some (faultObj x.1 x.2 ev) ∧ Er w ev r
end Go.Proofs.Ytjkcffcedbcjmaa

namespace Go.Proofs.Ytjkcffcedbcjmaa
set_option maxRecDepth 100000
open Go.RowKit
theorem byte_at (s : ByteArray) (k : Nat) (h : k < s.size) : s.data.toList[k]? = some s[k] := by
  rw [List.getElem?_eq_getElem (by simpa using h)]
  rfl
theorem goodS_byte {s : ByteArray} (h : goodS s = true) (k : Nat) (hk : k < s.size) : 33 ≤ (s[k].toNat : Int) ∧ (s[k].toNat : Int) ≤ 126 := by
  simp only [goodS, Bool.and_eq_true, List.all_eq_true, decide_eq_true_eq] at h
  have := h.2 s[k] (List.mem_of_getElem? (byte_at s k hk))
  omega
theorem goodS_of {s : ByteArray} (h1 : 1 ≤ s.size) (h2 : s.size ≤ 32) (h : ∀ k (hk : k < s.size), 33 ≤ (s[k].toNat : Int) ∧ (s[k].toNat : Int) ≤ 126) : goodS s = true := by
  simp only [goodS, Bool.and_eq_true, List.all_eq_true, decide_eq_true_eq]
  refine ⟨⟨h1, h2⟩, fun x hx => ?_⟩
  obtain ⟨k, hk, rfl⟩ := List.getElem_of_mem hx
  have hk' : k < s.size := by simpa using hk
  have := h k hk'
  have e : s.data.toList[k] = s[k] := rfl
  rw [e]
  omega
theorem goodS_no {s : ByteArray} (k : Nat) (hk : k < s.size) (h : ¬ (33 ≤ (s[k].toNat : Int) ∧ (s[k].toNat : Int) ≤ 126)) : goodS s = false := by
  cases hg : goodS s with
  | false => rfl
  | true => exact absurd (goodS_byte hg k hk) h
theorem goodS_short {s : ByteArray} (h : s.size < 1 ∨ 32 < s.size) : goodS s = false := by
  cases hg : goodS s with
  | false => rfl
  | true => have := goodS_size hg; omega
set_option maxHeartbeats 1000000 in
theorem good_any (s : ByteArray) (w : World) (hs : s.size ≤ 9223372036854775807) :
    Calls Try.prog 93 #[.string s] w fun e w' => e = .returned (.bool (goodS s)) ∧ w' = w := by
  by_cases h1 : s.size < 1
  · have hG : Hid (goodS s = false) := goodS_short (Or.inl h1)
    go_enter Try.func93, Try.ntmps93
    go_wp2
    go_ret
    exact ⟨ret_bool hG.out.symm, rfl⟩
  · by_cases h2 : 32 < s.size
    · have hG : Hid (goodS s = false) := goodS_short (Or.inr h2)
      go_enter Try.func93, Try.ntmps93
      go_wp2
      go_ret
      exact ⟨ret_bool hG.out.symm, rfl⟩
    · go_enter Try.func93, Try.ntmps93
      go_wp2
      go_loop [14] (fun i => ∃ k : Nat, k ≤ s.size ∧ i = .int .i64 k ∧ Hid (∀ j (hj : j < s.size), j < k → 33 ≤ (s[j].toNat : Int) ∧ (s[j].toNat : Int) ≤ 126)) (fun i => s.size - (intOf i).toNat)
      case atStart => exact ⟨0, by omega, rfl, fun j hj h0 => by omega⟩
      case round =>
        obtain ⟨k, hk, rfl, hm⟩ := hrel
        by_cases hlt : k < s.size
        · by_cases hd : 33 ≤ (s[k].toNat : Int)
          · by_cases hd' : (s[k].toNat : Int) ≤ 126
            · have hst : Hid (∀ j (hj : j < s.size), j < k + 1 → 33 ≤ (s[j].toNat : Int) ∧ (s[j].toNat : Int) ≤ 126) := fun j hj h0 => by
                rcases Nat.lt_or_eq_of_le (Nat.le_of_lt_succ h0) with h3 | h3
                · exact hm.out j hj h3
                · subst h3
                  exact ⟨hd, hd'⟩
              go_wp2
              exact ⟨⟨k + 1, by omega, congrArg (Value.int .i64) (by omega), hst⟩, by simp [intOf]; omega⟩
            · have hG : Hid (goodS s = false) := goodS_no k hlt (by omega)
              go_wp2
              go_ret
              exact ⟨ret_bool hG.out.symm, rfl⟩
          · have hG : Hid (goodS s = false) := goodS_no k hlt (by omega)
            go_wp2
            go_ret
            exact ⟨ret_bool hG.out.symm, rfl⟩
        · have hG : Hid (goodS s = true) := goodS_of (by omega) (by omega) (fun j hj => hm.out j hj (by omega))
          go_wp2
          go_ret
          exact ⟨ret_bool hG.out.symm, rfl⟩
set_option maxHeartbeats 1000000 in
theorem rgood_any (s : ByteArray) (w : World) (hs : s.size ≤ 9223372036854775807) :
    Calls Try.prog 97 #[.string s] w fun e w' => e = .returned (.bool (goodS s)) ∧ w' = w := by
  by_cases h1 : s.size < 1
  · have hG : Hid (goodS s = false) := goodS_short (Or.inl h1)
    go_enter Try.func97, Try.ntmps97
    go_wp2
    go_ret
    exact ⟨ret_bool hG.out.symm, rfl⟩
  · by_cases h2 : 32 < s.size
    · have hG : Hid (goodS s = false) := goodS_short (Or.inr h2)
      go_enter Try.func97, Try.ntmps97
      go_wp2
      go_ret
      exact ⟨ret_bool hG.out.symm, rfl⟩
    · go_enter Try.func97, Try.ntmps97
      go_wp2
      go_loop [3] (fun i => ∃ k : Nat, k ≤ s.size ∧ i = .int .i64 k ∧ Hid (∀ j (hj : j < s.size), j < k → 33 ≤ (s[j].toNat : Int) ∧ (s[j].toNat : Int) ≤ 126)) (fun i => s.size - (intOf i).toNat)
      case atStart => exact ⟨0, by omega, rfl, fun j hj h0 => by omega⟩
      case round =>
        obtain ⟨k, hk, rfl, hm⟩ := hrel
        by_cases hlt : k < s.size
        · by_cases hd : 33 ≤ (s[k].toNat : Int)
          · by_cases hd' : (s[k].toNat : Int) ≤ 126
            · have hst : Hid (∀ j (hj : j < s.size), j < k + 1 → 33 ≤ (s[j].toNat : Int) ∧ (s[j].toNat : Int) ≤ 126) := fun j hj h0 => by
                rcases Nat.lt_or_eq_of_le (Nat.le_of_lt_succ h0) with h3 | h3
                · exact hm.out j hj h3
                · subst h3
                  exact ⟨hd, hd'⟩
              go_wp2
              exact ⟨⟨k + 1, by omega, congrArg (Value.int .i64) (by omega), hst⟩, by simp [intOf]; omega⟩
            · have hG : Hid (goodS s = false) := goodS_no k hlt (by omega)
              go_wp2
              go_ret
              exact ⟨ret_bool hG.out.symm, rfl⟩
          · have hG : Hid (goodS s = false) := goodS_no k hlt (by omega)
            go_wp2
            go_ret
            exact ⟨ret_bool hG.out.symm, rfl⟩
        · have hG : Hid (goodS s = true) := goodS_of (by omega) (by omega) (fun j hj => hm.out j hj (by omega))
          go_wp2
          go_ret
          exact ⟨ret_bool hG.out.symm, rfl⟩
set_option maxHeartbeats 400000 in
theorem fault_any (c a : Int) (w : World) :
    Calls Try.prog 82 #[.int .i64 c, .int .i64 a] w fun e w' => e = .returned (.iface 85 (.pointer (some ⟨w.heap.size, 0, none⟩))) ∧ w' = w.alloc (faultObj c a .nilIface) := by
  go_enter Try.func82, Try.ntmps82
  go_wp2
  go_ret
  exact ⟨rfl, rfl⟩
theorem fault_er (c a : Int) (hc : c ≠ 0) (w : World) :
    Calls Try.prog 82 #[.int .i64 c, .int .i64 a] w fun e w' => (∃ ev b, e = .returned ev ∧ ev = .iface 85 (.pointer (some ⟨b, 0, none⟩)) ∧ Er w' ev [(c, a)]) ∧ Below w.heap.size w w' := by
  refine (fault_any c a w).mono ?_
  rintro e w' ⟨rfl, rfl⟩
  exact ⟨⟨_, _, rfl, rfl, hc, _, _, rfl, heap_alloc_new w _, rfl⟩, below_alloc _ _⟩
set_option maxHeartbeats 1000000 in
theorem index_ints (f : Nat) (cb : Array Value) (eg : ∀ args w, (callFunc f args).run Try.prog w = .ok (.enter f args) w) (v : Value) (l : List Int) (p : Nat → Bool) (I T : Nat → World → Prop) (W : World) (hl : l.length ≤ 5000)
    (hr : ∀ k w, I k w → Ri w v l) (hs : ∀ k w, k < l.length → I k w → Calls Try.prog f (#[.int .i64 (l.getD k 0)] ++ cb) w fun e w' => e = .returned (.bool (p k)) ∧ (p k = true → T k w') ∧ (p k = false → I (k + 1) w')) (h0 : I 0 W) :
    Calls Try.prog 87 #[v, .func (.func f) #[] cb] W fun e w' => (∃ k : Nat, k < l.length ∧ (∀ j, j < k → p j = false) ∧ p k = true ∧ e = .returned (.int .i64 k) ∧ T k w') ∨ ((∀ j, j < l.length → p j = false) ∧ e = .returned (.int .i64 (-1)) ∧ I l.length w') := by
  obtain ⟨ao, c, rfl, _⟩ := hr 0 W h0
  go_enter Try.func87, Try.ntmps87
  go_wp2
  go_loopw [5, 8] (fun _ i wr => ∃ k : Nat, k ≤ l.length ∧ i = .int .i64 k ∧ Hid (I k wr) ∧ Hid (∀ j, j < k → p j = false)) (fun _ i _ => l.length - (intOf i).toNat)
  case atStart => exact ⟨0, Nat.zero_le _, rfl, h0, fun j hj => absurd hj (Nat.not_lt_zero _)⟩
  case round =>
    obtain ⟨k, hk, rfl, hI, hp⟩ := hrel
    by_cases hlt : k < l.length
    · obtain ⟨b, o, hc⟩ : ∃ b o, ao = some ⟨b, o, none⟩ ∧ wr.cell? ⟨b, o + k, none⟩ = some (.int .i64 (l.getD k 0)) := by
        obtain ⟨ao', c', h1, h2⟩ := hr k wr hI.out
        obtain ⟨b, o, h3, h4⟩ := h2 k hlt
        injection h1 with h1 _ _
        exact ⟨b, o, h1.trans h3, h4⟩
      obtain ⟨rfl, hc⟩ := hc
      have hcall := hs k wr hlt hI.out
      generalize l.getD k 0 = x at hc hcall
      clear hs hr h0
      cases hq : p k with
      | true =>
        have hq' : Hid (p k = true) := hq
        rw [hq] at hcall
        clear hq
        go_wp2_with (go_at_fn f; refine hcall.mono ?_; rintro e w' ⟨rfl, hT, _⟩)
        go_ret
        exact Or.inl ⟨k, hlt, hp.out, hq'.out, rfl, hT (by trivial)⟩
      | false =>
        have hq' : Hid (p k = false) := hq
        rw [hq] at hcall
        clear hq
        go_wp2_with (go_at_fn f; refine hcall.mono ?_; rintro e w' ⟨rfl, _, hT⟩)
        go_roundw
        case rel =>
          refine ⟨k + 1, by omega, congrArg (Value.int .i64) (by omega), hT (by trivial), (show Hid _ from fun j hj => ?_)⟩
          rcases Nat.lt_or_eq_of_le (Nat.le_of_lt_succ hj) with h | h
          · exact hp.out j h
          · subst h; exact hq'.out
        case measure => simp [intOf]; omega
    · have hkl : Hid (k = l.length) := show k = l.length by omega
      clear hs hr h0
      go_wp2
      go_ret
      refine Or.inr ⟨?_, rfl, ?_⟩
      · rw [← hkl.out]; exact hp.out
      · rw [← hkl.out]; exact hI.out
end Go.Proofs.Ytjkcffcedbcjmaa

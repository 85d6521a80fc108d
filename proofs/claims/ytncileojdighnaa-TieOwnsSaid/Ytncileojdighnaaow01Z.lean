/- Memory of graphs: rows of numbers ('Ri') and of nodes ('Rn') that a slice tells, graphs ('Gr'); errors that are a chain of faults ('Er'), as the references tell them ('Fl'). -/
import Derived.Test.YtncileojdighnaaProg
import Derived.WalkKit
import Derived.WalkSpells
import Derived.WalkLawsBesides
import Derived.Laws.CopyOwn
import Derived.Laws.AppendOwnNone
import Derived.Maps.AppendAt
import Derived.OneCell
import Derived.Laws.EntriesVeiled
import Derived.Deep.QuietTactic
import Derived.BigQuiet
import Derived.Shelf.Abstract
namespace Go.Proofs.Ytncileojdighnaa
set_option maxRecDepth 100000
open Go.RowKit
theorem ret_int {k : IntKind} {a b : Int} (h : a = b) : Ending.returned (.int k a) = .returned (.int k b) := by rw [h]
theorem ret_bool {a b : Bool} (h : a = b) : Ending.returned (.bool a) = .returned (.bool b) := by rw [h]
theorem hid {p : Prop} (h : p) : Hid p := h
theorem lt_of_cell {w : World} {b o : Nat} {u : Value} (h : w.cell? ⟨b, o, none⟩ = some u) : b < w.heap.size := World.block_lt_of_cell? w ⟨b, o, none⟩ h
theorem below_alloc (w : World) (o : Obj) : Below w.heap.size w (w.alloc o) := (Below.refl _ _).alloc (Nat.le_refl _) o
theorem bcell {W w1 : World} (hb : Below W.heap.size W w1) : (∀ b o, b < W.heap.size → w1.cell? ⟨b, o, none⟩ = W.cell? ⟨b, o, none⟩) ∧ (∀ b o, b < W.heap.size → w1.frozen? ⟨b, o, none⟩ = W.frozen? ⟨b, o, none⟩) :=
  ⟨fun b o h => hb.cell (p := ⟨b, o, none⟩) h, fun b o h => hb.frozen (p := ⟨b, o, none⟩) h⟩
theorem Below.next {W w w' : World} (h : Below W.heap.size W w) (k : Below w.heap.size w w') : Below W.heap.size W w' := h.trans (k.mono h.size)
def Ri (w : World) (v : Value) (l : List Int) : Prop :=
  ∃ ao c, v = .slice ao l.length c ∧ ∀ j, j < l.length → ∃ b o, ao = some ⟨b, o, none⟩ ∧ w.cell? ⟨b, o + j, none⟩ = some (.int .i64 (l.getD j 0))
theorem Ri.below {w w' : World} {v : Value} {l : List Int} (h : Ri w v l) (hb : Below w.heap.size w w') : Ri w' v l := by
  obtain ⟨ao, c, rfl, h⟩ := h
  refine ⟨ao, c, rfl, fun j hj => ?_⟩
  obtain ⟨b, o, hao, hc⟩ := h j hj
  exact ⟨b, o, hao, by rw [hb.cell (p := ⟨b, o + j, none⟩) (lt_of_cell hc)]; exact hc⟩
theorem Ri.nil (w : World) : Ri w (.slice none 0 0) [] := ⟨none, 0, rfl, fun _ h => absurd h (Nat.not_lt_zero _)⟩
structure Nd where
  kind : Int
  name : ByteArray
  num : Int
  args : List Int
abbrev nd0 : Nd := ⟨0, ⟨#[]⟩, 0, []⟩
def NdAt (w : World) (b o : Nat) (av : Value) (n : Nd) : Prop :=
  w.cell? ⟨b, o, none⟩ = some (.int .i64 n.kind) ∧ w.cell? ⟨b, o + 1, none⟩ = some (.string n.name) ∧ w.cell? ⟨b, o + 2, none⟩ = some (.int .i64 n.num) ∧ w.cell? ⟨b, o + 3, none⟩ = some av ∧ Ri w av n.args
theorem NdAt.below {w w' : World} {b o : Nat} {av : Value} {n : Nd} (h : NdAt w b o av n) (hb : Below w.heap.size w w') : NdAt w' b o av n := by
  obtain ⟨h0, h1, h2, h3, h4⟩ := h
  have hl := lt_of_cell h0
  refine ⟨?_, ?_, ?_, ?_, h4.below hb⟩
  · rw [hb.cell (p := ⟨b, o, none⟩) hl]; exact h0
  · rw [hb.cell (p := ⟨b, o + 1, none⟩) hl]; exact h1
  · rw [hb.cell (p := ⟨b, o + 2, none⟩) hl]; exact h2
  · rw [hb.cell (p := ⟨b, o + 3, none⟩) hl]; exact h3
def Rn (w : World) (v : Value) (l : List Nd) : Prop :=
  ∃ ao c, v = .slice ao l.length c ∧ ∀ j, j < l.length → ∃ b o av, ao = some ⟨b, o, none⟩ ∧ NdAt w b (o + j * 4) av (l.getD j nd0)
theorem Rn.below {w w' : World} {v : Value} {l : List Nd} (h : Rn w v l) (hb : Below w.heap.size w w') : Rn w' v l := by
  obtain ⟨ao, c, rfl, h⟩ := h
  refine ⟨ao, c, rfl, fun j hj => ?_⟩
  obtain ⟨b, o, av, hao, hc⟩ := h j hj
  exact ⟨b, o, av, hao, hc.below hb⟩
structure Gf where
  nodes : List Nd
  roots : List Int
def Gr (w : World) (nv rv : Value) (g : Gf) : Prop := Rn w nv g.nodes ∧ Ri w rv g.roots
theorem Gr.below {w w' : World} {nv rv : Value} {g : Gf} (h : Gr w nv rv g) (hb : Below w.heap.size w w') : Gr w' nv rv g := ⟨h.1.below hb, h.2.below hb⟩
def goodS (s : ByteArray) : Bool := decide (1 ≤ s.size) && decide (s.size ≤ 32) && s.data.toList.all (fun b => decide (33 ≤ b.toNat) && decide (b.toNat ≤ 126))
theorem goodS_size {s : ByteArray} (h : goodS s = true) : 1 ≤ s.size ∧ s.size ≤ 32 := by
  simp only [goodS, Bool.and_eq_true, decide_eq_true_eq] at h
  exact h.1
def strange (N : Nat) (x : Int) : Bool := decide (x < 0) || decide ((N : Int) ≤ x)
def goodNd (N : Nat) (n : Nd) : Bool :=
  if n.kind = 1 then decide (n.name.toList = []) && decide (n.num = 0) && decide (n.args.length = 0)
  else if n.kind = 2 then goodS n.name && decide (n.num = 0) && decide (n.args.length = 0)
  else if n.kind = 3 then decide (n.name.toList = []) && decide (-1125899906842624 ≤ n.num) && decide (n.num ≤ 1125899906842624) && decide (n.args.length = 0)
  else if n.kind = 4 then goodS n.name && decide (n.num = 0) && decide (1 ≤ n.args.length) && decide (n.args.length ≤ 8) && !n.args.any (strange N)
  else false
def ixOf {α : Type} (p : α → Bool) : List α → Int
  | [] => -1
  | x :: r => if p x then 0 else if ixOf p r < 0 then -1 else ixOf p r + 1
theorem ixOf_ge {α : Type} (p : α → Bool) : ∀ l : List α, -1 ≤ ixOf p l
  | [] => by simp [ixOf]
  | x :: r => by
    have := ixOf_ge p r
    simp only [ixOf]
    split
    · omega
    · split <;> omega
theorem ixOf_none {α : Type} (p : α → Bool) : ∀ l : List α, l.any p = false → ixOf p l = -1
  | [], _ => rfl
  | x :: r, h => by
    simp only [List.any_cons, Bool.or_eq_false_iff] at h
    simp [ixOf, h.1, ixOf_none p r h.2]
theorem ixOf_hit {α : Type} (d : α) (p : α → Bool) : ∀ (l : List α) (k : Nat), k < l.length → (∀ j, j < k → p (l.getD j d) = false) → p (l.getD k d) = true → ixOf p l = k
  | [], k, h, _, _ => absurd h (Nat.not_lt_zero _)
  | x :: r, 0, _, _, h => by
    have h' : p x = true := by simpa using h
    simp [ixOf, h']
  | x :: r, k + 1, hk, hj, h => by
    have h0 : p x = false := by simpa using hj 0 (by omega)
    have := ixOf_hit d p r k (by simpa using hk) (fun j hj' => by simpa using hj (j + 1) (by omega)) (by simpa using h)
    simp only [ixOf, h0, this]
    rw [if_neg (by simp), if_neg (by omega)]
    omega
theorem ixOf_miss {α : Type} (d : α) (p : α → Bool) (l : List α) (h : ∀ j, j < l.length → p (l.getD j d) = false) : ixOf p l = -1 := by
  refine ixOf_none p l ?_
  rw [List.any_eq_false]
  intro x hx
  obtain ⟨k, hk, rfl⟩ := List.getElem_of_mem hx
  have := h k hk
  simp [List.getD, hk] at this
  simp [this]
theorem ixOf_any {α : Type} (p : α → Bool) : ∀ l : List α, decide (0 ≤ ixOf p l) = l.any p
  | [] => by simp [ixOf]
  | x :: r => by
    have h1 := ixOf_any p r
    rw [List.any_cons, ← h1]
    by_cases hx : p x = true
    · simp [ixOf, hx]
    · have hx' : p x = false := by simpa using hx
      simp only [ixOf, hx', Bool.false_or]
      by_cases h : ixOf p r < 0
      · rw [if_neg (by simp), if_pos h, decide_eq_decide]
        omega
      · rw [if_neg (by simp), if_neg h, decide_eq_decide]
        omega
def chk (g : Gf) : Int × Int :=
  if 4096 < g.nodes.length then (41, g.nodes.length)
  else if 4096 < g.roots.length then (42, g.roots.length)
  else if 0 ≤ ixOf (fun n => !goodNd g.nodes.length n) g.nodes then (40, ixOf (fun n => !goodNd g.nodes.length n) g.nodes)
  else if 0 ≤ ixOf (strange g.nodes.length) g.roots then (43, ixOf (strange g.nodes.length) g.roots)
  else (0, 0)
abbrev Fs := List (Int × Int)
def one (x : Int × Int) : Fs := if x.1 = 0 then [] else [x]
def faultObj (c a : Int) (cause : Value) : Obj := .cells #[.int .i64 c, .int .i64 a, .string ⟨#[]⟩, cause] 88
def Er (w : World) : Value → Fs → Prop
  | e, [] => e = .nilIface
  | e, x :: r => x.1 ≠ 0 ∧ ∃ b ev, e = .iface 85 (.pointer (some ⟨b, 0, none⟩)) ∧ w.heap[b]? = some (faultObj x.1 x.2 ev) ∧ Er w ev r
end Go.Proofs.Ytncileojdighnaa

namespace Go.Proofs.Ytncileojdighnaa
set_option maxRecDepth 100000
open Go.RowKit
theorem byte_at (s : ByteArray) (k : Nat) (h : k < s.size) : s.data.toList[k]? = some s[k] := by
  rw [List.getElem?_eq_getElem (by simpa using h)]
  rfl
theorem goodS_byte {s : ByteArray} (h : goodS s = true) (k : Nat) (hk : k < s.size) : 33 ≤ (s[k].toNat : Int) ∧ (s[k].toNat : Int) ≤ 126 := by
  simp only [goodS, Bool.and_eq_true, List.all_eq_true, decide_eq_true_eq] at h
  have := h.2 s[k] (List.mem_of_getElem? (byte_at s k hk))
  omega
theorem goodS_of {s : ByteArray} (h1 : 1 ≤ s.size) (h2 : s.size ≤ 32) (h : ∀ k (hk : k < s.size), 33 ≤ (s[k].toNat : Int) ∧ (s[k].toNat : Int) ≤ 126) : goodS s = true := by
  simp only [goodS, Bool.and_eq_true, List.all_eq_true, decide_eq_true_eq]
  refine ⟨⟨h1, h2⟩, fun x hx => ?_⟩
  obtain ⟨k, hk, rfl⟩ := List.getElem_of_mem hx
  have hk' : k < s.size := by simpa using hk
  have := h k hk'
  have e : s.data.toList[k] = s[k] := rfl
  rw [e]
  omega
theorem goodS_no {s : ByteArray} (k : Nat) (hk : k < s.size) (h : ¬ (33 ≤ (s[k].toNat : Int) ∧ (s[k].toNat : Int) ≤ 126)) : goodS s = false := by
  cases hg : goodS s with
  | false => rfl
  | true => exact absurd (goodS_byte hg k hk) h
theorem goodS_short {s : ByteArray} (h : s.size < 1 ∨ 32 < s.size) : goodS s = false := by
  cases hg : goodS s with
  | false => rfl
  | true => have := goodS_size hg; omega
set_option maxHeartbeats 1000000 in
theorem good_any (s : ByteArray) (w : World) (hs : s.size ≤ 9223372036854775807) :
    Calls Try.prog 93 #[.string s] w fun e w' => e = .returned (.bool (goodS s)) ∧ w' = w := by
  by_cases h1 : s.size < 1
  · have hG : Hid (goodS s = false) := goodS_short (Or.inl h1)
    go_enter Try.func93, Try.ntmps93
    go_wp2
    go_ret
    exact ⟨ret_bool hG.out.symm, rfl⟩
  · by_cases h2 : 32 < s.size
    · have hG : Hid (goodS s = false) := goodS_short (Or.inr h2)
      go_enter Try.func93, Try.ntmps93
      go_wp2
      go_ret
      exact ⟨ret_bool hG.out.symm, rfl⟩
    · go_enter Try.func93, Try.ntmps93
      go_wp2
      go_loop [14] (fun i => ∃ k : Nat, k ≤ s.size ∧ i = .int .i64 k ∧ Hid (∀ j (hj : j < s.size), j < k → 33 ≤ (s[j].toNat : Int) ∧ (s[j].toNat : Int) ≤ 126)) (fun i => s.size - (intOf i).toNat)
      case atStart => exact ⟨0, by omega, rfl, fun j hj h0 => by omega⟩
      case round =>
        obtain ⟨k, hk, rfl, hm⟩ := hrel
        by_cases hlt : k < s.size
        · by_cases hd : 33 ≤ (s[k].toNat : Int)
          · by_cases hd' : (s[k].toNat : Int) ≤ 126
            · have hst : Hid (∀ j (hj : j < s.size), j < k + 1 → 33 ≤ (s[j].toNat : Int) ∧ (s[j].toNat : Int) ≤ 126) := fun j hj h0 => by
                rcases Nat.lt_or_eq_of_le (Nat.le_of_lt_succ h0) with h3 | h3
                · exact hm.out j hj h3
                · subst h3
                  exact ⟨hd, hd'⟩
              go_wp2
              exact ⟨⟨k + 1, by omega, congrArg (Value.int .i64) (by omega), hst⟩, by simp [intOf]; omega⟩
            · have hG : Hid (goodS s = false) := goodS_no k hlt (by omega)
              go_wp2
              go_ret
              exact ⟨ret_bool hG.out.symm, rfl⟩
          · have hG : Hid (goodS s = false) := goodS_no k hlt (by omega)
            go_wp2
            go_ret
            exact ⟨ret_bool hG.out.symm, rfl⟩
        · have hG : Hid (goodS s = true) := goodS_of (by omega) (by omega) (fun j hj => hm.out j hj (by omega))
          go_wp2
          go_ret
          exact ⟨ret_bool hG.out.symm, rfl⟩
set_option maxHeartbeats 400000 in
theorem fault_any (c a : Int) (w : World) :
    Calls Try.prog 82 #[.int .i64 c, .int .i64 a] w fun e w' => e = .returned (.iface 85 (.pointer (some ⟨w.heap.size, 0, none⟩))) ∧ w' = w.alloc (faultObj c a .nilIface) := by
  go_enter Try.func82, Try.ntmps82
  go_wp2
  go_ret
  exact ⟨rfl, rfl⟩
theorem fault_er (c a : Int) (hc : c ≠ 0) (w : World) :
    Calls Try.prog 82 #[.int .i64 c, .int .i64 a] w fun e w' => (∃ ev b, e = .returned ev ∧ ev = .iface 85 (.pointer (some ⟨b, 0, none⟩)) ∧ Er w' ev [(c, a)]) ∧ Below w.heap.size w w' := by
  refine (fault_any c a w).mono ?_
  rintro e w' ⟨rfl, rfl⟩
  exact ⟨⟨_, _, rfl, rfl, hc, _, _, rfl, heap_alloc_new w _, rfl⟩, below_alloc _ _⟩
set_option maxHeartbeats 1000000 in
theorem index_ints (f : Nat) (cb : Array Value) (eg : ∀ args w, (callFunc f args).run Try.prog w = .ok (.enter f args) w) (v : Value) (l : List Int) (p : Nat → Bool) (I T : Nat → World → Prop) (W : World) (hl : l.length ≤ 5000)
    (hr : ∀ k w, I k w → Ri w v l) (hs : ∀ k w, k < l.length → I k w → Calls Try.prog f (#[.int .i64 (l.getD k 0)] ++ cb) w fun e w' => e = .returned (.bool (p k)) ∧ (p k = true → T k w') ∧ (p k = false → I (k + 1) w')) (h0 : I 0 W) :
    Calls Try.prog 87 #[v, .func (.func f) #[] cb] W fun e w' => (∃ k : Nat, k < l.length ∧ (∀ j, j < k → p j = false) ∧ p k = true ∧ e = .returned (.int .i64 k) ∧ T k w') ∨ ((∀ j, j < l.length → p j = false) ∧ e = .returned (.int .i64 (-1)) ∧ I l.length w') := by
  obtain ⟨ao, c, rfl, _⟩ := hr 0 W h0
  go_enter Try.func87, Try.ntmps87
  go_wp2
  go_loopw [5, 8] (fun _ i wr => ∃ k : Nat, k ≤ l.length ∧ i = .int .i64 k ∧ Hid (I k wr) ∧ Hid (∀ j, j < k → p j = false)) (fun _ i _ => l.length - (intOf i).toNat)
  case atStart => exact ⟨0, Nat.zero_le _, rfl, h0, fun j hj => absurd hj (Nat.not_lt_zero _)⟩
  case round =>
    obtain ⟨k, hk, rfl, hI, hp⟩ := hrel
    by_cases hlt : k < l.length
    · obtain ⟨b, o, hc⟩ : ∃ b o, ao = some ⟨b, o, none⟩ ∧ wr.cell? ⟨b, o + k, none⟩ = some (.int .i64 (l.getD k 0)) := by
        obtain ⟨ao', c', h1, h2⟩ := hr k wr hI.out
        obtain ⟨b, o, h3, h4⟩ := h2 k hlt
        injection h1 with h1 _ _
        exact ⟨b, o, h1.trans h3, h4⟩
      obtain ⟨rfl, hc⟩ := hc
      have hcall := hs k wr hlt hI.out
      generalize l.getD k 0 = x at hc hcall
      clear hs hr h0
      cases hq : p k with
      | true =>
        have hq' : Hid (p k = true) := hq
        rw [hq] at hcall
        clear hq
        go_wp2_with (go_at_fn f; refine hcall.mono ?_; rintro e w' ⟨rfl, hT, _⟩)
        go_ret
        exact Or.inl ⟨k, hlt, hp.out, hq'.out, rfl, hT (by trivial)⟩
      | false =>
        have hq' : Hid (p k = false) := hq
        rw [hq] at hcall
        clear hq
        go_wp2_with (go_at_fn f; refine hcall.mono ?_; rintro e w' ⟨rfl, _, hT⟩)
        go_roundw
        case rel =>
          refine ⟨k + 1, by omega, congrArg (Value.int .i64) (by omega), hT (by trivial), (show Hid _ from fun j hj => ?_)⟩
          rcases Nat.lt_or_eq_of_le (Nat.le_of_lt_succ hj) with h | h
          · exact hp.out j h
          · subst h; exact hq'.out
        case measure => simp [intOf]; omega
    · have hkl : Hid (k = l.length) := show k = l.length by omega
      clear hs hr h0
      go_wp2
      go_ret
      refine Or.inr ⟨?_, rfl, ?_⟩
      · rw [← hkl.out]; exact hp.out
      · rw [← hkl.out]; exact hI.out
end Go.Proofs.Ytncileojdighnaa

namespace Go.Proofs.Ytncileojdighnaa
set_option maxRecDepth 100000
open Go.RowKit
theorem len_zero (l : List Int) : ((l.length : Int) == 0) = decide (l = []) := by cases l <;> simp <;> omega
set_option maxHeartbeats 400000 in
theorem contains_ints (f : Nat) (cb : Array Value) (eg : ∀ args w, (callFunc f args).run Try.prog w = .ok (.enter f args) w) (v : Value) (l : List Int) (p : Nat → Bool) (I T : Nat → World → Prop) (W : World) (hl : l.length ≤ 5000)
    (hr : ∀ k w, I k w → Ri w v l) (hs : ∀ k w, k < l.length → I k w → Calls Try.prog f (#[.int .i64 (l.getD k 0)] ++ cb) w fun e w' => e = .returned (.bool (p k)) ∧ (p k = true → T k w') ∧ (p k = false → I (k + 1) w')) (h0 : I 0 W) :
    Calls Try.prog 110 #[v, .func (.func f) #[] cb] W fun e w' => (∃ k : Nat, k < l.length ∧ (∀ j, j < k → p j = false) ∧ p k = true ∧ e = .returned (.bool true) ∧ T k w') ∨ ((∀ j, j < l.length → p j = false) ∧ e = .returned (.bool false) ∧ I l.length w') := by
  have hc := index_ints f cb eg v l p I T W hl hr hs h0
  clear hr hs h0
  go_enter Try.func110, Try.ntmps110
  go_wp2_with (go_at_call 87; refine hc.mono ?_; rintro e w' (⟨k, h1, h2, h3, rfl, h4⟩ | ⟨h1, rfl, h2⟩))
  · go_ret
    exact Or.inl ⟨k, h1, h2, h3, rfl, h4⟩
  · go_ret
    exact Or.inr ⟨h1, rfl, h2⟩
theorem index_pure (f : Nat) (cb : Array Value) (eg : ∀ args w, (callFunc f args).run Try.prog w = .ok (.enter f args) w) (v : Value) (l : List Int) (p : Int → Bool) (W : World) (hl : l.length ≤ 5000) (hv : Ri W v l)
    (hs : ∀ x w, Below W.heap.size W w → Calls Try.prog f (#[.int .i64 x] ++ cb) w fun e w' => e = .returned (.bool (p x)) ∧ Below w.heap.size w w') :
    Calls Try.prog 87 #[v, .func (.func f) #[] cb] W fun e w' => e = .returned (.int .i64 (ixOf p l)) ∧ Below W.heap.size W w' := by
  refine (index_ints f cb eg v l (fun k => p (l.getD k 0)) (fun _ w => Below W.heap.size W w) (fun _ w => Below W.heap.size W w) W hl (fun _ _ h => hv.below h) (fun k w _ h => ?_) (Below.refl _ _)).mono ?_
  · refine (hs (l.getD k 0) w h).mono ?_
    rintro e w' ⟨rfl, hb⟩
    exact ⟨rfl, fun _ => Below.next h hb, fun _ => Below.next h hb⟩
  · rintro e w' (⟨k, h1, h2, h3, rfl, h4⟩ | ⟨h1, rfl, h2⟩)
    · exact ⟨by rw [ixOf_hit 0 p l k h1 h2 h3], h4⟩
    · exact ⟨by rw [ixOf_miss 0 p l h1], h2⟩
theorem contains_pure (f : Nat) (cb : Array Value) (eg : ∀ args w, (callFunc f args).run Try.prog w = .ok (.enter f args) w) (v : Value) (l : List Int) (p : Int → Bool) (W : World) (hl : l.length ≤ 5000) (hv : Ri W v l)
    (hs : ∀ x w, Below W.heap.size W w → Calls Try.prog f (#[.int .i64 x] ++ cb) w fun e w' => e = .returned (.bool (p x)) ∧ Below w.heap.size w w') :
    Calls Try.prog 110 #[v, .func (.func f) #[] cb] W fun e w' => e = .returned (.bool (l.any p)) ∧ Below W.heap.size W w' := by
  refine (contains_ints f cb eg v l (fun k => p (l.getD k 0)) (fun _ w => Below W.heap.size W w) (fun _ w => Below W.heap.size W w) W hl (fun _ _ h => hv.below h) (fun k w _ h => ?_) (Below.refl _ _)).mono ?_
  · refine (hs (l.getD k 0) w h).mono ?_
    rintro e w' ⟨rfl, hb⟩
    exact ⟨rfl, fun _ => Below.next h hb, fun _ => Below.next h hb⟩
  · rintro e w' (⟨k, h1, h2, h3, rfl, h4⟩ | ⟨h1, rfl, h2⟩)
    · refine ⟨?_, h4⟩
      rw [← ixOf_any, ixOf_hit 0 p l k h1 h2 h3]
      simp
    · refine ⟨?_, h2⟩
      rw [← ixOf_any, ixOf_miss 0 p l h1]
      simp
theorem strange_eg : ∀ args w, (callFunc 83 args).run Try.prog w = .ok (.enter 83 args) w := enters_of Try.func83 (by kernel_rfl) rfl
theorem bad_eg : ∀ args w, (callFunc 84 args).run Try.prog w = .ok (.enter 84 args) w := enters_of Try.func84 (by kernel_rfl) rfl
set_option maxHeartbeats 400000 in
theorem strange_any {w : World} {B : Nat} {ao : Option Addr} {N c : Nat} (hc : w.cell? ⟨B, 0, none⟩ = some (.slice ao N c)) (x : Int) :
    Calls Try.prog 83 #[.int .i64 x, .pointer (some ⟨B, 0, none⟩)] w fun e w' => e = .returned (.bool (strange N x)) ∧ w' = w := by
  by_cases h0 : x < 0
  · have hG : Hid (strange N x = true) := show strange N x = true by simp [strange, h0]
    go_enter Try.func83, Try.ntmps83
    go_wp2
    go_ret
    exact ⟨ret_bool hG.out.symm, rfl⟩
  · by_cases h1 : (N : Int) ≤ x
    · have hG : Hid (strange N x = true) := show strange N x = true by simp [strange, h1]
      go_enter Try.func83, Try.ntmps83
      go_wp2
      go_ret
      exact ⟨ret_bool hG.out.symm, rfl⟩
    · have hG : Hid (strange N x = false) := show strange N x = false by simp [strange]; omega
      go_enter Try.func83, Try.ntmps83
      go_wp2
      go_ret
      exact ⟨ret_bool hG.out.symm, rfl⟩
def Strange (w : World) (f : Value) (N : Nat) : Prop := ∃ B ao c, f = .func (.func 83) #[] #[.pointer (some ⟨B, 0, none⟩)] ∧ w.cell? ⟨B, 0, none⟩ = some (.slice ao N c)
theorem Strange.below {w w' : World} {f : Value} {N : Nat} (h : Strange w f N) (hb : Below w.heap.size w w') : Strange w' f N := by
  obtain ⟨B, ao, c, rfl, hc⟩ := h
  exact ⟨B, ao, c, rfl, by rw [hb.cell (p := ⟨B, 0, none⟩) (lt_of_cell hc)]; exact hc⟩
theorem contains_strange {W : World} {f v : Value} {N : Nat} {l : List Int} (hf : Strange W f N) (hv : Ri W v l) (hl : l.length ≤ 5000) :
    Calls Try.prog 110 #[v, f] W fun e w' => e = .returned (.bool (l.any (strange N))) ∧ Below W.heap.size W w' := by
  obtain ⟨B, ao, c, rfl, hc⟩ := hf
  refine contains_pure _ _ strange_eg v l (strange N) W hl hv (fun x w hb => ?_)
  refine (strange_any (w := w) (by rw [hb.cell (p := ⟨B, 0, none⟩) (lt_of_cell hc)]; exact hc) x).mono ?_
  rintro e w' ⟨rfl, rfl⟩
  exact ⟨rfl, Below.refl _ _⟩
theorem index_strange {W : World} {f v : Value} {N : Nat} {l : List Int} (hf : Strange W f N) (hv : Ri W v l) (hl : l.length ≤ 5000) :
    Calls Try.prog 87 #[v, f] W fun e w' => e = .returned (.int .i64 (ixOf (strange N) l)) ∧ Below W.heap.size W w' := by
  obtain ⟨B, ao, c, rfl, hc⟩ := hf
  refine index_pure _ _ strange_eg v l (strange N) W hl hv (fun x w hb => ?_)
  refine (strange_any (w := w) (by rw [hb.cell (p := ⟨B, 0, none⟩) (lt_of_cell hc)]; exact hc) x).mono ?_
  rintro e w' ⟨rfl, rfl⟩
  exact ⟨rfl, Below.refl _ _⟩
def goodAs (N : Nat) (l : List Int) : Bool := decide (1 ≤ l.length) && decide (l.length ≤ 8) && !l.any (strange N)
set_option maxHeartbeats 400000 in
theorem goodArgs_any {W : World} {f v : Value} {N : Nat} {l : List Int} (hf : Strange W f N) (hv : Ri W v l) :
    Calls Try.prog 100 #[v, f] W fun e w' => e = .returned (.bool (goodAs N l)) ∧ Below W.heap.size W w' := by
  have hv' := hv
  obtain ⟨ao, c, rfl, _⟩ := hv'
  by_cases h1 : 1 ≤ l.length
  · by_cases h8 : l.length ≤ 8
    · have hc := contains_strange hf hv (by omega)
      have hG : Hid (goodAs N l = !l.any (strange N)) := show goodAs N l = !l.any (strange N) by simp [goodAs, h1, h8]
      generalize l.any (strange N) = r at hc hG
      clear hf hv
      go_enter Try.func100, Try.ntmps100
      go_wp2_with (go_at_call 110; refine hc.mono ?_; rintro e w' ⟨rfl, hb⟩)
      go_ret
      exact ⟨ret_bool hG.out.symm, hb⟩
    · have hG : Hid (goodAs N l = false) := show goodAs N l = false by simp [goodAs, h8]
      clear hf hv
      go_enter Try.func100, Try.ntmps100
      go_wp2
      go_ret
      exact ⟨ret_bool hG.out.symm, Below.refl _ _⟩
  · have hG : Hid (goodAs N l = false) := show goodAs N l = false by simp [goodAs, h1]
    clear hf hv
    go_enter Try.func100, Try.ntmps100
    go_wp2
    go_ret
    exact ⟨ret_bool hG.out.symm, Below.refl _ _⟩
set_option maxHeartbeats 1000000 in
theorem goodNode_any {W : World} {f av : Value} {N : Nat} {n : Nd} (hf : Strange W f N) (hv : Ri W av n.args) (hs : n.name.size ≤ 9223372036854775807) :
    Calls Try.prog 85 #[.agg #[.int .i64 n.kind, .string n.name, .int .i64 n.num, av], f] W fun e w' => e = .returned (.bool (goodNd N n)) ∧ Below W.heap.size W w' := by
  obtain ⟨kind, name, num, args⟩ := n
  dsimp only at hv hs ⊢
  have hv' := hv
  obtain ⟨ao, c, rfl, _⟩ := hv'
  by_cases k1 : kind = 1
  · subst k1
    have hG := hid (show goodNd N ⟨1, name, num, args⟩ = (decide (name.toList = []) && decide (num = 0) && decide (args.length = 0)) by simp [goodNd])
    clear hf hv
    go_enter Try.func85, Try.ntmps85
    go_wp2
    all_goals
      go_ret
      refine ⟨ret_bool ?_, below_alloc _ _⟩
      rw [hG.out]
      first | (simp [*, len_zero]; done) | (simp [*]; omega)
  · by_cases k2 : kind = 2
    · subst k2
      have hG := hid (show goodNd N ⟨2, name, num, args⟩ = (goodS name && decide (num = 0) && decide (args.length = 0)) by simp [goodNd])
      clear hf hv k1
      go_enter Try.func85, Try.ntmps85
      go_wp2_with (go_at_call 93; refine (good_any _ _ hs).mono ?_; rintro e w ⟨rfl, rfl⟩)
      all_goals
        go_ret
        refine ⟨ret_bool ?_, below_alloc _ _⟩
        rw [hG.out]
        first | (simp [*, len_zero]; done) | (simp [*]; omega)
    · by_cases k3 : kind = 3
      · subst k3
        have hG := hid (show goodNd N ⟨3, name, num, args⟩ = (decide (name.toList = []) && decide (-1125899906842624 ≤ num) && decide (num ≤ 1125899906842624) && decide (args.length = 0)) by simp [goodNd])
        clear hf hv k1 k2
        go_enter Try.func85, Try.ntmps85
        go_wp2
        all_goals
          go_ret
          refine ⟨ret_bool ?_, below_alloc _ _⟩
          rw [hG.out]
          first | (simp [*, len_zero]; done) | (simp [*]; omega)
      · by_cases k4 : kind = 4
        · subst k4
          have hG := hid (show goodNd N ⟨4, name, num, args⟩ = (goodS name && decide (num = 0) && goodAs N args) by simp [goodNd, goodAs, Bool.and_assoc])
          have hA := goodArgs_any (W := W.alloc (.cells #[.int .i64 4, .string name, .int .i64 num, .slice ao args.length c] 63)) (hf.below (below_alloc _ _)) (hv.below (below_alloc _ _))
          generalize goodAs N args = r at hA hG
          clear hf hv k1 k2 k3
          by_cases hn : num = 0
          · subst hn
            go_enter Try.func85, Try.ntmps85
            go_wp2_with (first | (go_at_call 93; refine (good_any _ _ hs).mono ?_; rintro e w ⟨rfl, rfl⟩) | (go_at_call 100; refine hA.mono ?_; rintro e w' ⟨rfl, hb⟩))
            · go_ret
              refine ⟨ret_bool ?_, Below.next (below_alloc _ _) hb⟩
              rw [hG.out]
              simp [*]
            · go_ret
              refine ⟨ret_bool ?_, below_alloc _ _⟩
              rw [hG.out]
              simp [*]
          · go_enter Try.func85, Try.ntmps85
            go_wp2_with (go_at_call 93; refine (good_any _ _ hs).mono ?_; rintro e w ⟨rfl, rfl⟩)
            all_goals
              go_ret
              refine ⟨ret_bool ?_, below_alloc _ _⟩
              rw [hG.out]
              simp [*]
        · have hG := hid (show goodNd N ⟨kind, name, num, args⟩ = false by simp [goodNd, k1, k2, k3, k4])
          clear hf hv
          go_enter Try.func85, Try.ntmps85
          go_wp2
          go_ret
          exact ⟨ret_bool hG.out.symm, below_alloc _ _⟩
set_option maxHeartbeats 400000 in
theorem bad_any {W : World} {f av : Value} {B N : Nat} {n : Nd} (hf : Strange W f N) (hB : W.cell? ⟨B, 0, none⟩ = some f) (hv : Ri W av n.args) (hs : n.name.size ≤ 9223372036854775807) :
    Calls Try.prog 84 #[.agg #[.int .i64 n.kind, .string n.name, .int .i64 n.num, av], .pointer (some ⟨B, 0, none⟩)] W fun e w' => e = .returned (.bool (!goodNd N n)) ∧ Below W.heap.size W w' := by
  have hG := goodNode_any (W := W.alloc (.cells #[.int .i64 n.kind, .string n.name, .int .i64 n.num, av] 63)) (hf.below (below_alloc _ _)) (hv.below (below_alloc _ _)) hs
  have hB' : (W.alloc (.cells #[.int .i64 n.kind, .string n.name, .int .i64 n.num, av] 63)).cell? ⟨B, 0, none⟩ = some f := by
    rw [(below_alloc W _).cell (p := ⟨B, 0, none⟩) (lt_of_cell hB)]; exact hB
  obtain ⟨hl, _⟩ : B < W.heap.size ∧ True := ⟨lt_of_cell hB, trivial⟩
  generalize goodNd N n = r at hG ⊢
  obtain ⟨kind, name, num, args⟩ := n
  dsimp only at hG hB' ⊢
  clear hf hv hs
  go_enter Try.func84, Try.ntmps84
  go_wp2_with (go_at_call 85; refine hG.mono ?_; rintro e w' ⟨rfl, hb⟩)
  go_ret
  exact ⟨rfl, Below.next (below_alloc _ _) hb⟩
end Go.Proofs.Ytncileojdighnaa

namespace Go.Proofs.Ytncileojdighnaa
set_option maxRecDepth 100000
open Go.RowKit
set_option maxHeartbeats 1000000 in
theorem index_nodes (f : Nat) (cb : Array Value) (eg : ∀ args w, (callFunc f args).run Try.prog w = .ok (.enter f args) w) (v : Value) (l : List Nd) (p : Nd → Bool) (W : World) (hl : l.length ≤ 5000) (hv : Rn W v l)
    (hs : ∀ n av w, n ∈ l → Below W.heap.size W w → Ri w av n.args → Calls Try.prog f (#[.agg #[.int .i64 n.kind, .string n.name, .int .i64 n.num, av]] ++ cb) w fun e w' => e = .returned (.bool (p n)) ∧ Below w.heap.size w w') :
    Calls Try.prog 86 #[v, .func (.func f) #[] cb] W fun e w' => e = .returned (.int .i64 (ixOf p l)) ∧ Below W.heap.size W w' := by
  obtain ⟨ao, c, rfl, hr⟩ := hv
  go_enter Try.func86, Try.ntmps86
  go_wp2
  go_loopw [5, 8] (fun _ i wr => ∃ k : Nat, k ≤ l.length ∧ i = .int .i64 k ∧ Hid (Below W.heap.size W wr) ∧ Hid (∀ j, j < k → p (l.getD j nd0) = false)) (fun _ i _ => l.length - (intOf i).toNat)
  case atStart => exact ⟨0, Nat.zero_le _, rfl, Below.refl _ _, fun j hj => absurd hj (Nat.not_lt_zero _)⟩
  case round =>
    obtain ⟨k, hk, rfl, hI, hp⟩ := hrel
    by_cases hlt : k < l.length
    · obtain ⟨b, o, av, rfl, hN⟩ := hr k hlt
      obtain ⟨c0, c1, c2, c3, hA⟩ := hN.below hI.out
      have hcall := hs (l.getD k nd0) av wr (by simp [List.getD, hlt]) hI.out hA
      cases hq : p (l.getD k nd0) with
      | true =>
        have hq' := hid (ixOf_hit nd0 p l k hlt hp.out hq)
        rw [hq] at hcall
        clear hq hs hr hA hN
        generalize l.getD k nd0 = x at c0 c1 c2 c3 hcall
        obtain ⟨kind, name, num, args⟩ := x
        dsimp only at c0 c1 c2 c3 hcall
        go_wp2_with (go_at_fn f; refine hcall.mono ?_; rintro e w' ⟨rfl, hb⟩)
        go_ret
        exact ⟨ret_int hq'.out.symm, Below.next hI.out hb⟩
      | false =>
        have hq' : Hid (∀ j, j < k + 1 → p (l.getD j nd0) = false) := fun j hj => by
          rcases Nat.lt_or_eq_of_le (Nat.le_of_lt_succ hj) with h | h
          · exact hp.out j h
          · subst h; exact hq
        rw [hq] at hcall
        clear hq hs hr hA hN
        generalize l.getD k nd0 = x at c0 c1 c2 c3 hcall
        obtain ⟨kind, name, num, args⟩ := x
        dsimp only at c0 c1 c2 c3 hcall
        go_wp2_with (go_at_fn f; refine hcall.mono ?_; rintro e w' ⟨rfl, hb⟩)
        go_roundw
        case rel => exact ⟨k + 1, by omega, congrArg (Value.int .i64) (by omega), Below.next hI.out hb, hq'⟩
        case measure => simp [intOf]; omega
    · have hm := hid (ixOf_miss nd0 p l (fun j hj => hp.out j (by omega)))
      go_wp2
      go_ret
      exact ⟨ret_int hm.out.symm, hI.out⟩
def Sized (g : Gf) : Prop := ∀ n ∈ g.nodes, n.name.size ≤ 9223372036854775807
theorem index_bad {w : World} {f v : Value} {B : Nat} {l : List Nd} (hf : Strange w f l.length) (hB : w.cell? ⟨B, 0, none⟩ = some f) (hv : Rn w v l) (hl : l.length ≤ 5000) (hs : ∀ n ∈ l, n.name.size ≤ 9223372036854775807) :
    Calls Try.prog 86 #[v, .func (.func 84) #[] #[.pointer (some ⟨B, 0, none⟩)]] w fun e w' => e = .returned (.int .i64 (ixOf (fun n => !goodNd l.length n) l)) ∧ Below w.heap.size w w' :=
  index_nodes _ _ bad_eg v l (fun n => !goodNd l.length n) w hl hv (fun n av w1 hn hb ha => bad_any (hf.below hb) (by rw [hb.cell (p := ⟨B, 0, none⟩) (lt_of_cell hB)]; exact hB) ha (hs n hn))
set_option maxHeartbeats 2000000 in
theorem check_any {W : World} {nv rv : Value} {g : Gf} (hG : Gr W nv rv g) (hS : Sized g) :
    Calls Try.prog 66 #[.agg #[nv, rv]] W fun e w' => (∃ ev, e = .returned ev ∧ Er w' ev (one (chk g))) ∧ Below W.heap.size W w' := by
  obtain ⟨nodes, roots⟩ := g
  obtain ⟨hn, hr⟩ := hG
  dsimp only at hn hr
  have hn' := hn
  have hr' := hr
  obtain ⟨na, nc, rfl, _⟩ := hn'
  obtain ⟨ra, rc, rfl, _⟩ := hr'
  by_cases h1 : 4096 < nodes.length
  · have hC := hid (show one (chk ⟨nodes, roots⟩) = [(41, (nodes.length : Int))] by simp [chk, h1, one])
    have h1' : (4096 : Int) < (nodes.length : Int) := by omega
    clear hn hr hS
    go_enter Try.func66, Try.ntmps66
    go_wp2_with (go_at_call 82; refine (fault_er _ _ (by decide) _).mono ?_; rintro e w' ⟨⟨ev, b, rfl, rfl, hE⟩, hb⟩)
    go_ret
    rw [hC.out]
    exact ⟨⟨_, rfl, hE⟩, Below.next (below_alloc _ _) hb⟩
  · by_cases h2 : 4096 < roots.length
    · have hC := hid (show one (chk ⟨nodes, roots⟩) = [(42, (roots.length : Int))] by simp [chk, h1, h2, one])
      have h2' : (4096 : Int) < (roots.length : Int) := by omega
      clear hn hr hS
      go_enter Try.func66, Try.ntmps66
      go_wp2_with (go_at_call 82; refine (fault_er _ _ (by decide) _).mono ?_; rintro e w' ⟨⟨ev, b, rfl, rfl, hE⟩, hb⟩)
      go_ret
      rw [hC.out]
      exact ⟨⟨_, rfl, hE⟩, Below.next (below_alloc _ _) hb⟩
    · have hmf : ∀ (fn : Fn) (first cap : Array Value) (w : World), (Instr.makeFunc fn first cap).run Try.prog w = .ok (.func fn first cap) w := fun _ _ _ _ => rfl
      have hb2 : Below W.heap.size W ((W.alloc (Obj.cells #[.slice na nodes.length nc, .slice ra roots.length rc] 29)).alloc (Obj.cells #[.func (.func 83) #[] #[.pointer (some ⟨W.heap.size, 0, none⟩)]] 141)) :=
        (below_alloc W _).alloc (by simp) _
      have hc2 : ((W.alloc (Obj.cells #[.slice na nodes.length nc, .slice ra roots.length rc] 29)).alloc (Obj.cells #[.func (.func 83) #[] #[.pointer (some ⟨W.heap.size, 0, none⟩)]] 141)).cell? ⟨W.heap.size + 1, 0, none⟩ = some (.func (.func 83) #[] #[.pointer (some ⟨W.heap.size, 0, none⟩)]) := by simp [go_sem]
      have hd2 : ((W.alloc (Obj.cells #[.slice na nodes.length nc, .slice ra roots.length rc] 29)).alloc (Obj.cells #[.func (.func 83) #[] #[.pointer (some ⟨W.heap.size, 0, none⟩)]] 141)).cell? ⟨W.heap.size, 0, none⟩ = some (.slice na nodes.length nc) := by simp [go_sem]
      have he2 : ((W.alloc (Obj.cells #[.slice na nodes.length nc, .slice ra roots.length rc] 29)).alloc (Obj.cells #[.func (.func 83) #[] #[.pointer (some ⟨W.heap.size, 0, none⟩)]] 141)).cell? ⟨W.heap.size, 1, none⟩ = some (.slice ra roots.length rc) := by simp [go_sem]
      have hs2 : Strange ((W.alloc (Obj.cells #[.slice na nodes.length nc, .slice ra roots.length rc] 29)).alloc (Obj.cells #[.func (.func 83) #[] #[.pointer (some ⟨W.heap.size, 0, none⟩)]] 141)) (.func (.func 83) #[] #[.pointer (some ⟨W.heap.size, 0, none⟩)]) nodes.length := ⟨_, _, _, rfl, hd2⟩
      have hi := index_bad hs2 hc2 (hn.below hb2) (by omega) hS
      have hC := hid (show one (chk ⟨nodes, roots⟩) = if 0 ≤ ixOf (fun n => !goodNd nodes.length n) nodes then [(40, ixOf (fun n => !goodNd nodes.length n) nodes)] else if 0 ≤ ixOf (strange nodes.length) roots then [(43, ixOf (strange nodes.length) roots)] else [] by
        unfold chk one
        simp only [h1, h2, if_false]
        split
        · simp
        · split <;> simp)
      have x1 := ixOf_ge (fun n => !goodNd nodes.length n) nodes
      have x2 := ixOf_ge (strange nodes.length) roots
      have hr2 := hr.below hb2
      generalize hx : ixOf (fun n => !goodNd nodes.length n) nodes = x at hi hC x1
      generalize hy : ixOf (strange nodes.length) roots = y at hC x2
      have hj : ∀ w1 : World, Below ((W.alloc (Obj.cells #[.slice na nodes.length nc, .slice ra roots.length rc] 29)).alloc (Obj.cells #[.func (.func 83) #[] #[.pointer (some ⟨W.heap.size, 0, none⟩)]] 141)).heap.size ((W.alloc (Obj.cells #[.slice na nodes.length nc, .slice ra roots.length rc] 29)).alloc (Obj.cells #[.func (.func 83) #[] #[.pointer (some ⟨W.heap.size, 0, none⟩)]] 141)) w1 →
          w1.cell? ⟨W.heap.size + 1, 0, none⟩ = some (.func (.func 83) #[] #[.pointer (some ⟨W.heap.size, 0, none⟩)]) ∧ w1.cell? ⟨W.heap.size, 1, none⟩ = some (.slice ra roots.length rc) ∧
          Calls Try.prog 87 #[.slice ra roots.length rc, .func (.func 83) #[] #[.pointer (some ⟨W.heap.size, 0, none⟩)]] w1 fun e w' => e = .returned (.int .i64 y) ∧ Below w1.heap.size w1 w' := fun w1 hb => by
        refine ⟨?_, ?_, ?_⟩
        · rw [hb.cell (p := ⟨W.heap.size + 1, 0, none⟩) (lt_of_cell hc2)]; exact hc2
        · rw [hb.cell (p := ⟨W.heap.size, 1, none⟩) (lt_of_cell he2)]; exact he2
        · rw [← hy]
          exact index_strange (hs2.below hb) (hr2.below hb) (by omega)
      clear hc2 hd2 he2 hs2 hr2 hx hy hn hr hS
      by_cases hx0 : 0 ≤ x
      · rw [if_pos hx0] at hC
        go_enter Try.func66, Try.ntmps66
        go_wp2_with (first | (go_at_call 86; refine hi.mono ?_; rintro e w1 ⟨rfl, hb⟩; clear hj hi) | (go_at_call 82; refine (fault_er _ _ (by decide) _).mono ?_; rintro e w' ⟨⟨ev, b, rfl, rfl, hE⟩, hb'⟩))
        go_ret
        rw [hC.out]
        exact ⟨⟨_, rfl, hE⟩, Below.next (Below.next hb2 hb) hb'⟩
      · rw [if_neg hx0] at hC
        by_cases hy0 : 0 ≤ y
        · rw [if_pos hy0] at hC
          go_enter Try.func66, Try.ntmps66
          go_wp2_with (first | (go_at_call 86; refine hi.mono ?_; rintro e w1 ⟨rfl, hb⟩; obtain ⟨d1, d2, d3⟩ := hj w1 hb; clear hj hi) | (go_at_call 87; refine d3.mono ?_; rintro e w2 ⟨rfl, hb3⟩) | (go_at_call 82; refine (fault_er _ _ (by decide) _).mono ?_; rintro e w' ⟨⟨ev, b, rfl, rfl, hE⟩, hb'⟩))
          go_ret
          rw [hC.out]
          exact ⟨⟨_, rfl, hE⟩, Below.next (Below.next (Below.next hb2 hb) hb3) hb'⟩
        · rw [if_neg hy0] at hC
          go_enter Try.func66, Try.ntmps66
          go_wp2_with (first | (go_at_call 86; refine hi.mono ?_; rintro e w1 ⟨rfl, hb⟩; obtain ⟨d1, d2, d3⟩ := hj w1 hb; clear hj hi) | (go_at_call 87; refine d3.mono ?_; rintro e w2 ⟨rfl, hb3⟩))
          go_ret
          rw [hC.out]
          exact ⟨⟨_, rfl, rfl⟩, Below.next (Below.next hb2 hb) hb3⟩
end Go.Proofs.Ytncileojdighnaa

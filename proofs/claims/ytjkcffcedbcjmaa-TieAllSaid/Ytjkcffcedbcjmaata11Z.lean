/- Trim of package graph: its mathematics and its function literal. -/
import Derived.Test.Ytjkcffcedbcjmaata09Z
import Derived.Test.Ytjkcffcedbcjmaata10Z
namespace Go.Proofs.Ytjkcffcedbcjmaa
set_option maxRecDepth 100000
open Go.RowKit
def pos : List Int → Int → Nat
  | [], _ => 0
  | y :: r, x => if y = x then 0 else pos r x + 1
def posF (m : List Int) (x : Int) : Int := if x ∈ m then (pos m x : Int) else 0
theorem pos_lt : ∀ {m : List Int} {x : Int}, x ∈ m → pos m x < m.length
  | y :: r, x, h => by
    by_cases e : y = x
    · simp [pos, e]
    · have h' : x ∈ r := by
        rcases List.mem_cons.1 h with rfl | h
        · exact absurd rfl e
        · exact h
      have := pos_lt h'
      simp only [pos, if_neg e, List.length_cons]
      omega
theorem pos_at : ∀ {m : List Int} {x : Int}, x ∈ m → m.getD (pos m x) 0 = x
  | y :: r, x, h => by
    by_cases e : y = x
    · simp [pos, e]
    · have h' : x ∈ r := by
        rcases List.mem_cons.1 h with rfl | h
        · exact absurd rfl e
        · exact h
      have := pos_at h'
      simp only [pos, if_neg e]
      simpa using this
theorem pos_old : ∀ {m : List Int} {n x : Int}, x ∈ m → pos (m ++ [n]) x = pos m x
  | y :: r, n, x, h => by
    by_cases e : y = x
    · simp [pos, e]
    · have h' : x ∈ r := by
        rcases List.mem_cons.1 h with rfl | h
        · exact absurd rfl e
        · exact h
      have := pos_old (n := n) h'
      simp only [List.cons_append, pos, if_neg e, this]
theorem pos_new : ∀ {m : List Int} {n : Int}, n ∉ m → pos (m ++ [n]) n = m.length
  | [], n, _ => by simp [pos]
  | y :: r, n, h => by
    have h1 : ¬ y = n := fun e => h (by simp [e])
    have h2 : n ∉ r := fun e => h (by simp [e])
    have := pos_new h2
    simp only [List.cons_append, pos, if_neg h1, this, List.length_cons]
theorem posF_snoc {m : List Int} {n x : Int} (hn : n ∉ m) : posF (m ++ [n]) x = if x = n then (m.length : Int) else posF m x := by
  unfold posF
  by_cases e : x = n
  · subst e
    simp [pos_new hn]
  · by_cases hx : x ∈ m
    · simp [hx, e, pos_old hx]
    · simp [hx, e]
def anewArr (N : Nat) (m : List Int) : Array Value := ((List.range N).map fun (i : Nat) => Value.int .i64 (posF m (i : Int))).toArray
theorem anew_size (N : Nat) (m : List Int) : (anewArr N m).size = N := by simp [anewArr]
theorem anew_at {N : Nat} {m : List Int} {i : Nat} (h : i < N) : (anewArr N m)[i]? = some (.int .i64 (posF m (i : Int))) := by simp [anewArr, h]
theorem anew_set {N : Nat} {m : List Int} {n : Nat} (hn : (n : Int) ∉ m) : (anewArr N m).setIfInBounds n (.int .i64 (m.length : Int)) = anewArr N (m ++ [(n : Int)]) := by
  apply Array.ext
  · simp [anew_size]
  · intro i h1 h2
    have hi : i < N := by simpa [anew_size] using h2
    have e1 : (anewArr N (m ++ [(n : Int)]))[i] = .int .i64 (posF (m ++ [(n : Int)]) (i : Int)) := by
      have := anew_at (N := N) (m := m ++ [(n : Int)]) hi
      rw [Array.getElem?_eq_getElem (by simpa [anew_size] using hi)] at this
      exact Option.some.inj this
    have e2 : (anewArr N m)[i]'(by simpa [anew_size] using hi) = .int .i64 (posF m (i : Int)) := by
      have := anew_at (N := N) (m := m) hi
      rw [Array.getElem?_eq_getElem (by simpa [anew_size] using hi)] at this
      exact Option.some.inj this
    rw [e1, Array.getElem_setIfInBounds (by simpa [anew_size] using hi), posF_snoc hn]
    split
    · rename_i e
      subst e
      simp
    · rename_i e
      rw [e2, if_neg (by omega)]
theorem made_anew (N : Nat) : madeCells #[.int .i64 0] N = anewArr N [] := by
  apply Array.ext
  · simp [size_madeCells, anew_size]
  · intro i h1 h2
    simp [madeCells, anewArr, Nat.mod_one, posF]
theorem make_ints (N : Nat) (hN : N ≤ 5000) (w : World) :
    (Instr.makeSlice 27 (.int .i64 (N : Int)) (.int .i64 (N : Int))).run Try.prog w = .ok (.slice (some ⟨w.heap.size, 0, none⟩) N N) (w.alloc (.cells (anewArr N []) 3)) := by
  obtain ⟨i0, hi, hz0, hz1, hz2⟩ := info_parts infoI
  have := run_make (P := Try.prog) w 27 3 i0 (.int .i64 0) Try.underlying27 hi hz0 .i64 .i64 (N : Int) (N : Int) (by omega) (by omega) (by rw [hz2]; omega) (by omega)
  rw [this, hz1]
  simp only [Int.toNat_natCast, Nat.mul_one]
  rw [← made_anew]
  rfl
def renum (F : Int → Int) (n : Nd) : Nd := ⟨n.kind, n.name, n.num, n.args.map F⟩
def trimF (g : Gf) : Gf := ⟨(metF g).map (fun x => renum (posF (metF g)) (g.nodes.getD x.toNat nd0)), g.roots.map (posF (metF g))⟩
theorem number_eg : ∀ args w, (callFunc 69 args).run Try.prog w = .ok (.enter 69 args) w := enters_of Try.func69 (by kernel_rfl) rfl
set_option maxHeartbeats 400000 in
theorem number_any {w : World} {N q r : Nat} {m : List Int} (hc : w.cell? ⟨q, 0, none⟩ = some (.slice (some ⟨r, 0, none⟩) N N)) (hr : w.heap[r]? = some (.cells (anewArr N m) 3 (0, 0))) {x : Int} (h0 : 0 ≤ x) (h1 : x < N) :
    Calls Try.prog 69 #[.int .i64 x, .pointer (some ⟨q, 0, none⟩)] w fun e w' => e = .returned (.int .i64 (posF m x)) ∧ w' = w := by
  obtain ⟨n, rfl⟩ : ∃ n : Nat, x = (n : Int) := ⟨x.toNat, by omega⟩
  have hn : n < N := by omega
  have s1 : w.cell? ⟨r, n, none⟩ = some (.int .i64 (posF m (n : Int))) := by
    rw [cell_of_row w r n _ _ _ hr]
    exact anew_at hn
  generalize posF m (n : Int) = y at s1 ⊢
  go_enter Try.func69, Try.ntmps69
  go_wp2
  go_ret
  exact ⟨rfl, rfl⟩
end Go.Proofs.Ytjkcffcedbcjmaa

namespace Go.Proofs.Ytjkcffcedbcjmaa
set_option maxRecDepth 100000
open Go.RowKit
structure Og (w : World) (B : Nat) (nv rv : Value) (avs : List Value) (g : Gf) : Prop where
  on : On w B nv avs g.nodes
  nsl : ∃ ao c, nv = .slice ao g.nodes.length c
  r : ∃ ao c, rv = .slice ao g.roots.length c ∧ w.ownsRow B 3 1 (.slice ao g.roots.length c) g.roots.length (g.roots.map (Value.int .i64))
  ap : ∀ k, rv.ownBlock = some k → k ∉ blocks (nv :: avs)
theorem Og.gr {w : World} {B : Nat} {nv rv : Value} {avs : List Value} {g : Gf} (h : Og w B nv rv avs g) : Gr w nv rv g := by
  obtain ⟨ao, c, rfl⟩ := h.nsl
  obtain ⟨ra, rc, rfl, hr⟩ := h.r
  exact ⟨h.on.rn, Ri.ofOwn hr⟩
theorem blk2_set0 {w : World} {q : Nat} {u0 u1 v0 : Value} {T : TypeId} (h : w.heap[q]? = some (.cells #[u0, u1] T)) : (w.setCell ⟨q, 0, none⟩ v0).heap[q]? = some (.cells #[v0, u1] T) := heap_setCell_same w q 0 _ _ v0 h
theorem blk2_set1 {w : World} {q : Nat} {u0 u1 v1 : Value} {T : TypeId} (h : w.heap[q]? = some (.cells #[u0, u1] T)) : (w.setCell ⟨q, 1, none⟩ v1).heap[q]? = some (.cells #[u0, v1] T) := heap_setCell_same w q 1 _ _ v1 h
theorem blk2_set {w : World} {q : Nat} {u0 u1 v0 v1 : Value} {T : TypeId} (h : w.heap[q]? = some (.cells #[u0, u1] T)) : ((w.setCell ⟨q, 0, none⟩ v0).setCell ⟨q, 1, none⟩ v1).heap[q]? = some (.cells #[v0, v1] T) := blk2_set1 (blk2_set0 h)
theorem blk2 {w : World} {q : Nat} {u0 u1 : Value} {T : TypeId} (h : w.heap[q]? = some (.cells #[u0, u1] T)) : (w.cell? ⟨q, 0, none⟩ = some u0 ∧ w.cell? ⟨q, 1, none⟩ = some u1) ∧ w.frozen? ⟨q, 0, none⟩ = false ∧ w.frozen? ⟨q, 1, none⟩ = false := by
  refine ⟨⟨?_, ?_⟩, ?_, ?_⟩ <;> simp [World.cell?, World.frozen?, h]
theorem ret_gr {w : World} {fn : Func} {s t : Tmp} (hfn : fn.results = #[.cell t 29, .tmp s]) {tmps : Array Value} {q : Nat} {u0 u1 x : Value} (h4 : tmps[t]?.getD undef = .pointer (some ⟨q, 0, none⟩)) (hs : tmps[s]?.getD undef = x) (hq : w.heap[q]? = some (.cells #[u0, u1] 29)) : (results fn tmps).run Try.prog w = .ok (.tuple #[.agg #[u0, u1], x]) w := by
  obtain ⟨⟨z0, z1⟩, _⟩ := blk2 hq
  simp [results, hfn, go_sem, h4, hs, z0, z1]
end Go.Proofs.Ytjkcffcedbcjmaa

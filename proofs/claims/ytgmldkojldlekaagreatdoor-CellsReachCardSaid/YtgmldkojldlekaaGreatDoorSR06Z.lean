/- What a good graph is, and where a path leads in it. -/
import Derived.RangeFuncNested
import Derived.RangeFuncBound
import Derived.Maps.AppendAt
import Derived.Test.YtgmldkojldlekaaGreatDoorSR05Z
import Derived.Test.YtgmldkojldlekaaGreatDoorSR03Z
import Derived.Test.YtgmldkojldlekaaGreatDoorSR00Z
namespace Go.Proofs.YtgmldkojldlekaaGreatDoor
set_option maxRecDepth 100000
open Go.RowKit
theorem strange_no {N : Nat} {x : Int} (h : strange N x = false) : 0 ≤ x ∧ x < N := by
  simp [strange] at h
  omega
theorem good_args {N : Nat} {n : Nd} (h : goodNd N n = true) : (∀ x ∈ n.args, 0 ≤ x ∧ x < (N : Int)) ∧ n.args.length ≤ 8 := by
  unfold goodNd at h
  split at h
  · simp at h
    simp [h.2]
  · split at h
    · simp at h
      simp [h.2]
    · split at h
      · simp at h
        simp [h.2]
      · split at h
        · simp only [Bool.and_eq_true, decide_eq_true_eq, Bool.not_eq_true'] at h
          refine ⟨fun x hx => ?_, h.1.2⟩
          have h2 := h.2
          rw [List.any_eq_false] at h2
          exact strange_no (by simpa using h2 x hx)
        · simp at h
structure Good (g : Gf) : Prop where
  nodes : g.nodes.length ≤ 4096
  roots : g.roots.length ≤ 4096
  node : ∀ n ∈ g.nodes, goodNd g.nodes.length n = true
  root : ∀ x ∈ g.roots, 0 ≤ x ∧ x < (g.nodes.length : Int)
theorem ixOf_all {α : Type} (p : α → Bool) (l : List α) (h : ¬ 0 ≤ ixOf p l) : ∀ x ∈ l, p x = false := by
  have h1 := ixOf_any p l
  rw [decide_eq_false h] at h1
  intro x hx
  have := List.any_eq_false.1 h1.symm x hx
  simpa using this
theorem chk_good {g : Gf} (h : one (chk g) = []) : Good g := by
  unfold one at h
  split at h
  · rename_i h0
    unfold chk at h0
    split at h0
    · simp at h0
    · split at h0
      · simp at h0
      · split at h0
        · simp at h0
        · split at h0
          · simp at h0
          · rename_i h1 h2 h3 h4
            refine ⟨by omega, by omega, fun n hn => ?_, fun x hx => strange_no (ixOf_all _ _ h4 x hx)⟩
            have := ixOf_all _ _ h3 n hn
            simpa using this
  · simp at h
theorem chk_of_good {g : Gf} (h : Good g) : one (chk g) = [] := by
  have h3 : ixOf (fun n => !goodNd g.nodes.length n) g.nodes = -1 := ixOf_none _ _ (by
    rw [List.any_eq_false]
    intro x hx
    simp [h.node x hx])
  have h4 : ixOf (strange g.nodes.length) g.roots = -1 := ixOf_none _ _ (by
    rw [List.any_eq_false]
    intro x hx
    have := h.root x hx
    simp [strange]
    omega)
  have a1 := h.nodes
  have a2 := h.roots
  unfold one chk
  rw [h3, h4]
  rw [if_neg (by omega : ¬ 4096 < g.nodes.length), if_neg (by omega : ¬ 4096 < g.roots.length)]
  simp
def Gf.argsOf (g : Gf) (x : Int) : List Int := (g.nodes.getD x.toNat nd0).args
theorem Good.args {g : Gf} (h : Good g) {x : Int} (h0 : 0 ≤ x) (h1 : x < g.nodes.length) : (∀ y ∈ g.argsOf x, 0 ≤ y ∧ y < (g.nodes.length : Int)) ∧ (g.argsOf x).length ≤ 8 := by
  have hx : x.toNat < g.nodes.length := by omega
  refine good_args (h.node _ ?_)
  simp [List.getD, hx]
theorem getD_mem {l : List Int} {k : Nat} (h : k < l.length) : l.getD k 0 ∈ l := by simp [List.getD, h]
theorem drop_step {l : List Int} {k : Nat} (h : k < l.length) : l.drop k = l.getD k 0 :: l.drop (k + 1) := by
  rw [List.drop_eq_getElem_cons h]
  simp [List.getD, h]
end Go.Proofs.YtgmldkojldlekaaGreatDoor

namespace Go.Proofs.YtgmldkojldlekaaGreatDoor
set_option maxRecDepth 100000
open Go.RowKit Go.Shelf
attribute [local go_sem] Oper.semAt_some
def encA (x : Nat × ByteArray) : Array Value := #[.int .i64 (x.1 : Int), .string x.2]
def nextA (l : List ByteArray) (pre : List (Nat × ByteArray)) (x : Nat × ByteArray) (_ : World) : Prop := pre = upto l pre.length ∧ pre.length < l.length ∧ x = (pre.length, l.getD pre.length ⟨#[]⟩)
set_option maxHeartbeats 4000000 in
theorem sall_tells0 (ao : Option Addr) (c N B Bs : Nat) (w : World) (hBs : w.heap[Bs]? = some (.cells #[.slice ao 0 c] 41)) :
    TellsP N Tryz.prog 91 #[.pointer (some ⟨Bs, 0, none⟩)] encA B (fun k => k = Bs) (nextA []) (fun xs => xs = []) w := by
  intro lp J Jx W hW hBW hJ hJx hY h0
  have hbx : W.heap[Bs]? = some (.cells #[.slice ao 0 c] 41) := (hW.block _ (lt_of_block hBs)).trans hBs
  have hcb : W.cell? ⟨Bs, 0, none⟩ = some (.slice ao 0 c) := by simp [World.cell?, hbx]
  refine callsIn_of_wp Tryz.func91 rfl trivial ?_ rfl
  simp only [Tryz.ntmps91, List.size_toArray, List.length_cons, List.length_nil, Nat.reduceAdd, Nat.reduceSub, Array.replicate_succ, Array.replicate_zero, List.push_toArray, List.append_toArray, List.nil_append, List.cons_append]
  gi_wp2
  gi_loopw [7] (fun i wr => i = .int .i64 0 ∧ J [] wr) (fun _ _ => 0)
  case atStart => exact ⟨rfl, h0⟩
  case round =>
    obtain ⟨rfl, hJs⟩ := hrel
    gi_wp2
    go_end0
    exact ⟨⟨_, rfl⟩, .inl ⟨_, rfl, hJs⟩⟩
end Go.Proofs.YtgmldkojldlekaaGreatDoor

namespace Go.Proofs.YtgmldkojldlekaaGreatDoor
set_option maxRecDepth 100000
open Go.RowKit Go.Shelf
attribute [local go_sem] Oper.semAt_some
theorem own_shape {W : World} {n₀ : Nat} {e : TypeId} {u : Value} {k : Nat} {xs : List Value} (h : W.ownsRow n₀ e 1 u k xs) : ∃ ao c, u = .slice ao k c := by
  rcases h.2 with ⟨rfl, rfl⟩ | ⟨g, cap, cur, rfl, _⟩
  · exact ⟨none, 0, rfl⟩
  · exact ⟨_, cap, rfl⟩
theorem upto_rows (l : List ByteArray) {k : Nat} (hk : k ≤ l.length) : ((upto l k).map fun x => Value.string x.2) = (l.take k).map Value.string := by
  rw [← upto_texts l hk, List.map_map]
  rfl
end Go.Proofs.YtgmldkojldlekaaGreatDoor

namespace Go.Proofs.YtgmldkojldlekaaGreatDoor
set_option maxRecDepth 100000
open Go.RowKit
structure Opd where
  kd : Int
  g : Gf
  a : Int
  b : Int
def od0 : Opd := ⟨0, gf0, 0, 0⟩
def OpAt (w : World) (b o : Nat) (nv rv : Value) (x : Opd) : Prop :=
  w.cell? ⟨b, o, none⟩ = some (.int .i64 x.kd) ∧ w.cell? ⟨b, o + 1, none⟩ = some nv ∧ w.cell? ⟨b, o + 2, none⟩ = some rv ∧ w.cell? ⟨b, o + 3, none⟩ = some (.int .i64 x.a) ∧ w.cell? ⟨b, o + 4, none⟩ = some (.int .i64 x.b) ∧ Gr w nv rv x.g ∧ Sized x.g
def Rop (w : World) (v : Value) (os : List Opd) : Prop :=
  ∃ ao c, v = .slice ao os.length c ∧ ∀ j, j < os.length → ∃ b o nv rv, ao = some ⟨b, o, none⟩ ∧ OpAt w b (o + j * 5) nv rv (os.getD j od0)
theorem OpAt.below {w w' : World} {b o : Nat} {nv rv : Value} {x : Opd} (h : OpAt w b o nv rv x) (hb : Below w.heap.size w w') : OpAt w' b o nv rv x := by
  obtain ⟨h0, h1, h2, h3, h4, h5, h6⟩ := h
  have k : ∀ {i : Nat} {u : Value}, w.cell? ⟨b, i, none⟩ = some u → w'.cell? ⟨b, i, none⟩ = some u := fun {i u} h => (hb.cell (p := ⟨b, i, none⟩) (lt_of_cell h)).trans h
  exact ⟨k h0, k h1, k h2, k h3, k h4, h5.below hb, h6⟩
theorem Rop.below {w w' : World} {v : Value} {os : List Opd} (h : Rop w v os) (hb : Below w.heap.size w w') : Rop w' v os := by
  obtain ⟨ao, c, e, h⟩ := h
  refine ⟨ao, c, e, fun j hj => ?_⟩
  obtain ⟨b, o, nv, rv, e, h⟩ := h j hj
  exact ⟨b, o, nv, rv, e, h.below hb⟩
abbrev opV (kd : Int) (nv rv : Value) (a b : Int) : Value := .agg #[.int .i64 kd, nv, rv, .int .i64 a, .int .i64 b]
end Go.Proofs.YtgmldkojldlekaaGreatDoor

/- A graph in memory, behind its box, with its classes. -/
import Derived.Test.YtfgpfcjepnfenaaBiStable
namespace Go.Proofs.Ytfgpfcjepnfenaa
open Go.RowKit

/-- A graph in memory, behind its box, with its classes: what can be read there. -/
structure Sg (W w3 : World) (na ca : Option Addr) (nc cc : Nat) (g : Gf) (cs : List Nat) : Prop where
  box : w3.cell? ⟨W.heap.size, 0, none⟩ = some (.slice na g.nodes.length nc)
  nod : Rn w3 (.slice na g.nodes.length nc) g.nodes
  cls : Ri w3 (.slice ca g.nodes.length cc) (ints cs)
  len : cs.length = g.nodes.length
theorem Sg.below {W w3 wr : World} {na ca : Option Addr} {nc cc : Nat} {g : Gf} {cs : List Nat} (h : Sg W w3 na ca nc cc g cs) (hb : Below w3.heap.size w3 wr) : Sg W wr na ca nc cc g cs :=
  ⟨(hb.cell (p := ⟨W.heap.size, 0, none⟩) (lt_of_cell h.box)).trans h.box, h.nod.below hb, h.cls.below hb, h.len⟩
theorem Sg.at {W w : World} {na ca : Option Addr} {nc cc : Nat} {g : Gf} {cs : List Nat} (h : Sg W w na ca nc cc g cs) {n : Nat} (hn : n < g.nodes.length) :
    (∃ q o, ca = some ⟨q, o, none⟩ ∧ w.cell? ⟨q, o + n, none⟩ = some (.int .i64 ((cs.getD n 0 : Nat) : Int))) ∧ ∃ b o aa ac, na = some ⟨b, o, none⟩ ∧ w.cell? ⟨b, o + n * 4, none⟩ = some (.int .i64 (g.nodes.getD n nd0).kind) ∧ w.cell? ⟨b, o + n * 4 + 1, none⟩ = some (.string (g.nodes.getD n nd0).name) ∧ w.cell? ⟨b, o + n * 4 + 2, none⟩ = some (.int .i64 (g.nodes.getD n nd0).num) ∧ w.cell? ⟨b, o + n * 4 + 3, none⟩ = some (.slice aa (g.nodes.getD n nd0).args.length ac) ∧ Ri w (.slice aa (g.nodes.getD n nd0).args.length ac) (g.nodes.getD n nd0).args := by
  refine ⟨?_, ?_⟩
  · obtain ⟨q, o, h1, h2⟩ := h.cls.at (j := n) (by rw [ints_len, h.len]; exact hn)
    rw [ints_get (by rw [h.len]; exact hn)] at h2
    exact ⟨q, o, h1, h2⟩
  · obtain ⟨na', nc', e, h1⟩ := h.nod
    injection e with e1 _ _
    subst e1
    obtain ⟨b, o, av, h2, n0, n1, n2, n3, n4⟩ := h1 n hn
    obtain ⟨aa, ac, e2, h5⟩ := n4
    subst e2
    exact ⟨b, o, aa, ac, h2, n0, n1, n2, n3, aa, ac, rfl, h5⟩
theorem Sg.at2 {W w : World} {cb co nb no nc cc : Nat} {g : Gf} {cs : List Nat} (h : Sg W w (some ⟨nb, no, none⟩) (some ⟨cb, co, none⟩) nc cc g cs) {n : Nat} (hn : n < g.nodes.length) :
    w.cell? ⟨cb, co + n, none⟩ = some (.int .i64 ((cs.getD n 0 : Nat) : Int)) ∧ ∃ aa ac, w.cell? ⟨nb, no + n * 4, none⟩ = some (.int .i64 (g.nodes.getD n nd0).kind) ∧ w.cell? ⟨nb, no + n * 4 + 1, none⟩ = some (.string (g.nodes.getD n nd0).name) ∧ w.cell? ⟨nb, no + n * 4 + 2, none⟩ = some (.int .i64 (g.nodes.getD n nd0).num) ∧ w.cell? ⟨nb, no + n * 4 + 3, none⟩ = some (.slice aa (g.nodes.getD n nd0).args.length ac) ∧ Ri w (.slice aa (g.nodes.getD n nd0).args.length ac) (g.nodes.getD n nd0).args := by
  obtain ⟨⟨q, o, h1, h2⟩, b, o', aa, ac, h3, h4⟩ := h.at hn
  injection h1 with h1
  injection h1 with e1 e2 _
  subst e1 e2
  injection h3 with h3
  injection h3 with e1 e2 _
  subst e1 e2
  exact ⟨h2, aa, ac, h4⟩
end Go.Proofs.Ytfgpfcjepnfenaa

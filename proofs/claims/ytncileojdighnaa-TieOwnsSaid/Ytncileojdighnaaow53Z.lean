/- TieOwns: the answers behind Over; Lists and Apart of three of them. -/
import Derived.BigQuiet
import Derived.StillTailTactics
import Derived.Test.Ytncileojdighnaaow52Z
import Derived.Test.Ytncileojdighnaaow51Z
namespace Go.Proofs.Ytncileojdighnaa
set_option maxRecDepth 100000
open Go.RowKit Go.Maps
structure Te (W : World) (T : Gf) (B1 q1 B2 q2 B3 q3 : Nat) (a1 r1 a2 r2 a3 r3 : Option Addr) (k1 d1 k2 d2 k3 d3 : Nat) (v1 v2 v3 : List Value) (w : World) : Prop where
  b : Below W.heap.size W w
  x1 : w.heap[q1]? = some (.cells #[.slice a1 T.nodes.length k1, .slice r1 T.roots.length d1] 29)
  l1 : v1.length = T.nodes.length
  n1 : ∀ i, i < v1.length → Sl (v1.getD i undef) ∧ ∃ nb no k s n, a1 = some ⟨nb, no, none⟩ ∧ w.cell? ⟨nb, no + i * 4, none⟩ = some (.int .i64 k) ∧ w.cell? ⟨nb, no + i * 4 + 1, none⟩ = some (.string s) ∧ w.cell? ⟨nb, no + i * 4 + 2, none⟩ = some (.int .i64 n) ∧ w.cell? ⟨nb, no + i * 4 + 3, none⟩ = some (v1.getD i undef)
  ro1 : ∀ v ∈ Value.slice r1 T.roots.length d1 :: v1, Rov w B1 v
  rng1 : ∀ b ∈ blocks (.slice r1 T.roots.length d1 :: v1), B1 ≤ b ∧ b < q1
  nd1 : (blocks (.slice r1 T.roots.length d1 :: v1)).Nodup
  g2 : R1 T B2 q2 a2 r2 k2 d2 v2 w
  g3 : R1 T B3 q3 a3 r3 k3 d3 v3 w
  o : W.heap.size ≤ B1 ∧ B1 ≤ q1 ∧ q1 < B2 ∧ q2 < B3
section
variable {W : World} {T : Gf} {ms : List (ByteArray × Int)} {B1 q1 B2 q2 B3 q3 : Nat} {a1 r1 a2 r2 a3 r3 : Option Addr} {k1 d1 k2 d2 k3 d3 : Nat} {v1 v2 v3 : List Value} {mo : Option Addr} {mc : Nat} {w w' z : World}
theorem Te.next (h : Te W T B1 q1 B2 q2 B3 q3 a1 r1 a2 r2 a3 r3 k1 d1 k2 d2 k3 d3 v1 v2 v3 w) (hb : Below w.heap.size w w') : Te W T B1 q1 B2 q2 B3 q3 a1 r1 a2 r2 a3 r3 k1 d1 k2 d2 k3 d3 v1 v2 v3 w' := by
  have hq := lt_of_block h.x1
  refine ⟨Below.next h.b hb, (hb.block q1 hq).trans h.x1, h.l1, fun i hi => ?_, fun v hv => (h.ro1 v hv).keep (fun k ek => hb.block k (by have := (h.rng1 k (List.mem_filterMap.2 ⟨v, hv, ek⟩)).2; omega)), h.rng1, h.nd1, h.g2.next hb, h.g3.next hb, h.o⟩
  obtain ⟨s, nb, no, k, t, n, e, c0, c1, c2, c3⟩ := h.n1 i hi
  have hz := lt_of_cell c0
  exact ⟨s, nb, no, k, t, n, e, ((bcell hb).1 nb _ hz).trans c0, ((bcell hb).1 nb _ hz).trans c1, ((bcell hb).1 nb _ hz).trans c2, ((bcell hb).1 nb _ hz).trans c3⟩
theorem r1_keep {T : Gf} {B q : Nat} {a r : Option Addr} {k d : Nat} {av : List Value} (h : R1 T B q a r k d av w) (hk : ∀ b, B ≤ b → b < w.heap.size → w'.heap[b]? = w.heap[b]?) : R1 T B q a r k d av w' := ⟨h.le, h.og.keep hk, h.rng, (hk q h.le (lt_of_block h.x)).trans h.x⟩
theorem Tn.over {gb : Nat} (h : Tn W T ms B1 q1 B2 q2 B3 q3 a1 r1 a2 r2 a3 r3 k1 d1 k2 d2 k3 d3 v1 v2 v3 mo mc w) (hna : 0 < T.nodes.length → a1 = some ⟨gb, 0, none⟩) (hz : Oz (w.alloc (.cells #[.slice a1 T.nodes.length k1, .slice r1 T.roots.length d1] 29)) z B1 gb T.nodes.length (blocks (.slice a1 T.nodes.length k1 :: .slice r1 T.roots.length d1 :: v1)) (.slice r1 T.roots.length d1 :: v1) v1) : Te W T B1 q1 B2 q2 B3 q3 a1 r1 a2 r2 a3 r3 k1 d1 k2 d2 k3 d3 v1 v2 v3 z := by
  have o := h.o
  have l1 := h.g1.le
  have hR := h.g1.rng
  have hf : ∀ k, k < w.heap.size → (k < B1 ∨ q1 ≤ k) → z.heap[k]? = w.heap[k]? := fun k hk hc => by
    rw [hz.far k (by simp; omega) (fun hm => by have := hR k hm; omega)]
    exact Below.heap_alloc _ _ _ hk
  have hs := hz.size
  simp at hs
  have hl := h.g1.og.on.len
  have hO := Ow.of h.g1.og (by have := lt_of_block h.g1.x; omega)
  refine ⟨⟨hz.os.trans h.b.os, hz.tape.trans h.b.tape, hz.output.trans h.b.output, by have := h.b.size; omega, fun k hk => ?_⟩, (hf q1 (lt_of_block h.g1.x) (Or.inr (Nat.le_refl _))).trans h.g1.x, hl, fun i hi => ?_, hz.rows, fun b hb => hR b ?_, hO.nd, r1_keep h.g2 (fun b hB hlt => hf b hlt (Or.inr (by omega))), r1_keep h.g3 (fun b hB hlt => hf b hlt (Or.inr (by have := h.g2.le; omega))), ⟨o.1, l1, o.2⟩⟩
  · rw [hf k (by have := h.b.size; omega) (Or.inl (by omega))]
    exact h.b.block k hk
  · have hi' : i < T.nodes.length := by omega
    obtain ⟨cur, hc, hat⟩ := hz.nodes (by omega)
    obtain ⟨k, s, n, c0, c1, c2, c3⟩ := hat i hi'
    obtain ⟨aa, ac, e, _⟩ := h.g1.og.on.a i hi'
    have cw := fun t => cell_of_row z gb t _ _ _ hc
    exact ⟨⟨aa, _, ac, e⟩, gb, 0, k, s, n, hna (by omega), by rw [Nat.zero_add, cw]; exact c0, by rw [Nat.zero_add, cw]; exact c1, by rw [Nat.zero_add, cw]; exact c2, by rw [Nat.zero_add, cw]; exact c3⟩
  · rw [blocks_cons]
    exact List.mem_append_right _ hb
def fl3 (T : Gf) (r1 r2 r3 : Option Addr) (d1 d2 d3 : Nat) (v1 v2 v3 : List Value) : List Value := (.slice r1 T.roots.length d1 :: v1) ++ ((.slice r2 T.roots.length d2 :: v2) ++ (.slice r3 T.roots.length d3 :: v3))
theorem Te.cells (h : Te W T B1 q1 B2 q2 B3 q3 a1 r1 a2 r2 a3 r3 k1 d1 k2 d2 k3 d3 v1 v2 v3 w) : ((w.cell? ⟨q1, 0, none⟩ = some (.slice a1 T.nodes.length k1) ∧ w.cell? ⟨q1, 1, none⟩ = some (.slice r1 T.roots.length d1)) ∧ (w.cell? ⟨q2, 0, none⟩ = some (.slice a2 T.nodes.length k2) ∧ w.cell? ⟨q2, 1, none⟩ = some (.slice r2 T.roots.length d2)) ∧ (w.cell? ⟨q3, 0, none⟩ = some (.slice a3 T.nodes.length k3) ∧ w.cell? ⟨q3, 1, none⟩ = some (.slice r3 T.roots.length d3))) ∧ q1 < w.heap.size ∧ q2 < w.heap.size ∧ q3 < w.heap.size :=
  ⟨⟨(blk2 h.x1).1, (blk2 h.g2.x).1, (blk2 h.g3.x).1⟩, lt_of_block h.x1, lt_of_block h.g2.x, lt_of_block h.g3.x⟩
theorem fl3_len (h : Te W T B1 q1 B2 q2 B3 q3 a1 r1 a2 r2 a3 r3 k1 d1 k2 d2 k3 d3 v1 v2 v3 w) : (fl3 T r1 r2 r3 d1 d2 d3 v1 v2 v3).length = 3 * (T.nodes.length + 1) := by
  have h1 := h.l1
  have h2 := h.g2.og.on.len
  have h3 := h.g3.og.on.len
  simp [fl3]
  omega
theorem Te.lists (h : Te W T B1 q1 B2 q2 B3 q3 a1 r1 a2 r2 a3 r3 k1 d1 k2 d2 k3 d3 v1 v2 v3 w) (hT : T.nodes.length ≤ 800) :
    Calls Try.prog 25 #[.slice (some ⟨w.heap.size, 0, none⟩) 3 3] (w.alloc (.cells #[.slice a1 T.nodes.length k1, .slice r1 T.roots.length d1, .slice a2 T.nodes.length k2, .slice r2 T.roots.length d2, .slice a3 T.nodes.length k3, .slice r3 T.roots.length d3] 29)) fun e w' => (∃ g c, e = .returned (.slice (some ⟨g, 0, none⟩) (fl3 T r1 r2 r3 d1 d2 d3 v1 v2 v3).length c) ∧ w'.ownsRow w.heap.size 27 1 (.slice (some ⟨g, 0, none⟩) (fl3 T r1 r2 r3 d1 d2 d3 v1 v2 v3).length c) (fl3 T r1 r2 r3 d1 d2 d3 v1 v2 v3).length (fl3 T r1 r2 r3 d1 d2 d3 v1 v2 v3)) ∧ Below w.heap.size w w' := by
  have hb := below_alloc w (.cells #[.slice a1 T.nodes.length k1, .slice r1 T.roots.length d1, .slice a2 T.nodes.length k2, .slice r2 T.roots.length d2, .slice a3 T.nodes.length k3, .slice r3 T.roots.length d3] 29)
  have hN := h.next hb
  have hx := heap_alloc_new w (.cells #[.slice a1 T.nodes.length k1, .slice r1 T.roots.length d1, .slice a2 T.nodes.length k2, .slice r2 T.roots.length d2, .slice a3 T.nodes.length k3, .slice r3 T.roots.length d3] 29)
  obtain ⟨s2, e2, n2⟩ := (Ow.of hN.g2.og (by have := hN.g2.le; have := lt_of_block hN.g2.x; omega)).cells
  obtain ⟨s3, e3, n3⟩ := (Ow.of hN.g3.og (by have := hN.g3.le; have := lt_of_block hN.g3.x; omega)).cells
  have hflat : flat [(Value.slice r1 T.roots.length d1, v1), (Value.slice r2 T.roots.length d2, v2), (Value.slice r3 T.roots.length d3, v3)] = fl3 T r1 r2 r3 d1 d2 d3 v1 v2 v3 := by simp [flat, fl3]
  have hlen := fl3_len h
  have hL : Lg (w.alloc (.cells #[.slice a1 T.nodes.length k1, .slice r1 T.roots.length d1, .slice a2 T.nodes.length k2, .slice r2 T.roots.length d2, .slice a3 T.nodes.length k3, .slice r3 T.roots.length d3] 29)) (.slice (some ⟨w.heap.size, 0, none⟩) 3 3) [(Value.slice r1 T.roots.length d1, v1), (Value.slice r2 T.roots.length d2, v2), (Value.slice r3 T.roots.length d3, v3)] := by
    have hc := fun t => cell_of_row _ _ t _ _ _ hx
    refine ⟨_, 0, 3, rfl, fun j hj => ?_⟩
    have hj' : j = 0 ∨ j = 1 ∨ j = 2 := by simp at hj; omega
    rcases hj' with rfl | rfl | rfl
    · exact ⟨⟨_, _, _, rfl⟩, (hc _).trans rfl, a1, k1, (hc _).trans (show some (Value.slice a1 T.nodes.length k1) = some (Value.slice a1 v1.length k1) by rw [h.l1]), hN.n1⟩
    · exact ⟨s2, (hc _).trans rfl, a2, k2, (hc _).trans (show some (Value.slice a2 T.nodes.length k2) = some (Value.slice a2 v2.length k2) by rw [e2]), n2⟩
    · exact ⟨s3, (hc _).trans rfl, a3, k3, (hc _).trans (show some (Value.slice a3 T.nodes.length k3) = some (Value.slice a3 v3.length k3) by rw [e3]), n3⟩
  refine (hLists_any hL (by rw [hflat, hlen]; omega) (by simp)).mono ?_
  rintro e w' ⟨⟨ao, c, rfl, ho⟩, hb'⟩
  rw [hflat] at ho ⊢
  rcases own_form ho with ⟨_, h0⟩ | ⟨g, c', e1, _⟩
  · omega
  · injection e1 with e1 _ _
    subst e1
    exact ⟨⟨g, c, rfl, own_base ho (by simp)⟩, Below.next hb hb'⟩
theorem Te.apart (h : Te W T B1 q1 B2 q2 B3 q3 a1 r1 a2 r2 a3 r3 k1 d1 k2 d2 k3 d3 v1 v2 v3 w) (hT : T.nodes.length ≤ 800 ∧ T.roots.length ≤ 4096 ∧ ∀ n ∈ T.nodes, n.args.length ≤ 4900) (hb : Below w.heap.size w w') {g c : Nat} (ho : w'.ownsRow w.heap.size 27 1 (.slice (some ⟨g, 0, none⟩) (fl3 T r1 r2 r3 d1 d2 d3 v1 v2 v3).length c) (fl3 T r1 r2 r3 d1 d2 d3 v1 v2 v3).length (fl3 T r1 r2 r3 d1 d2 d3 v1 v2 v3)) :
    Calls Try.prog 24 #[.slice (some ⟨g, 0, none⟩) (fl3 T r1 r2 r3 d1 d2 d3 v1 v2 v3).length c] w' fun e z => e = .returned (.bool true) ∧ Below W.heap.size W z := by
  have hN := h.next hb
  have o := h.o
  have hq1 := lt_of_block h.x1
  have hq2 := h.g2.le
  have hq3 := h.g3.le
  have hx2 := lt_of_block hN.g2.x
  have hx3 := lt_of_block hN.g3.x
  have O2 := Ow.of hN.g2.og (by omega)
  have O3 := Ow.of hN.g3.og (by omega)
  have rg2 : ∀ b ∈ blocks (.slice r2 T.roots.length d2 :: v2), B2 ≤ b ∧ b < q2 := fun b hb => hN.g2.rng b (by rw [blocks_cons]; exact List.mem_append_right _ hb)
  have rg3 : ∀ b ∈ blocks (.slice r3 T.roots.length d3 :: v3), B3 ≤ b ∧ b < q3 := fun b hb => hN.g3.rng b (by rw [blocks_cons]; exact List.mem_append_right _ hb)
  have hlen := fl3_len h
  have hrov : ∀ v ∈ fl3 T r1 r2 r3 d1 d2 d3 v1 v2 v3, Rov w' B1 v := fun v hv => by
    rcases List.mem_append.1 hv with hv | hv
    · exact hN.ro1 v hv
    · rcases List.mem_append.1 hv with hv | hv
      · exact O2.ro (by omega) (by omega) hT.2.2 v hv
      · exact O3.ro (by omega) (by omega) hT.2.2 v hv
  have hnd : (blocks (fl3 T r1 r2 r3 d1 d2 d3 v1 v2 v3)).Nodup := by
    refine nd_disS hN.nd1 (nd_disS O2.nd O3.nd (fun x hx y hy => ?_)) (fun x hx y hy => ?_)
    · have := rg2 x hx
      have := rg3 y hy
      omega
    · have := hN.rng1 x hx
      rw [blocks_app] at hy
      rcases List.mem_append.1 hy with hy | hy
      · have := rg2 y hy
        omega
      · have := rg3 y hy
        omega
  have hge : ∀ k ∈ blocks (fl3 T r1 r2 r3 d1 d2 d3 v1 v2 v3), B1 ≤ k := fun k hk => by
    unfold fl3 at hk
    rw [blocks_app, blocks_app] at hk
    rcases List.mem_append.1 hk with hk | hk
    · exact (hN.rng1 k hk).1
    · rcases List.mem_append.1 hk with hk | hk
      · have := rg2 k hk
        omega
      · have := rg3 k hk
        omega
  have hsz := hb.size
  refine (apart_own (B := B1) rfl (own_base ho (by omega)) hrov hnd (by omega) (by omega)).mono ?_
  rintro e z ⟨rfl, hA⟩
  refine ⟨rfl, hA.os.trans hN.b.os, hA.tape.trans hN.b.tape, hA.output.trans hN.b.output, Nat.le_trans hN.b.size hA.size, fun k hk => ?_⟩
  rw [hA.far k (by have := hN.b.size; omega) (fun hm => by have := hge k hm; omega)]
  exact hN.b.block k hk
end
end Go.Proofs.Ytncileojdighnaa

namespace Go.Proofs.Ytncileojdighnaa
set_option maxRecDepth 100000
open Go.RowKit Go.Maps
theorem blk5 {w : World} {q : Nat} {u0 u1 u2 u3 u4 : Value} {T : TypeId} (h : w.heap[q]? = some (.cells #[u0, u1, u2, u3, u4] T)) : w.cell? ⟨q, 0, none⟩ = some u0 ∧ w.cell? ⟨q, 1, none⟩ = some u1 ∧ w.cell? ⟨q, 2, none⟩ = some u2 ∧ w.cell? ⟨q, 3, none⟩ = some u3 ∧ w.cell? ⟨q, 4, none⟩ = some u4 := by
  have hc := fun t => cell_of_row w q t _ _ _ h
  exact ⟨(hc 0).trans rfl, (hc 1).trans rfl, (hc 2).trans rfl, (hc 3).trans rfl, (hc 4).trans rfl⟩
theorem dnext {Wb wr : World} {l0 : List Ex} {j rc : Nat} {ro : Option Addr} {f : Nat → List Value} (hlt : j < l0.length) (hf : ∀ j, (f j).length = 4) (hxc : ∀ i y, ((l0.take j).map some)[i]? = some y → eltD.C (Out Wb.heap.size (.slice ro j rc)) wr y (f i)) (ho : wr.ownsRow Wb.heap.size 48 4 (.slice ro j rc) j (flatV f j)) (hB : Below Wb.heap.size Wb wr) (A : Obj) (w3 : World) (k2 : Int) (n2 : ByteArray) (m2 : Int) (a2 : Option Addr) (l2 r2 : Nat) (hb3 : Below (wr.alloc A).heap.size (wr.alloc A) w3) (hv : Dw ((wr.alloc A).heap.size ≤ ·) w3 (l0.getD j x0) (.agg #[.int .i64 k2, .string n2, .int .i64 m2, .slice a2 l2 r2])) :
    ((w3.alloc (.cells #[.int .i64 k2, .string n2, .int .i64 m2, .slice a2 l2 r2] 48)).alloc (.cells #[.int .i64 k2, .string n2, .int .i64 m2, .slice a2 l2 r2] 48)).ownsRow Wb.heap.size 48 4 (.slice ro j rc) j (flatV f j) ∧ Wb.heap.size ≤ w3.heap.size ∧ ∀ w7 g7 c7, w7.ownsRow Wb.heap.size 48 4 (.slice (some ⟨g7, 0, none⟩) (j + 1) c7) (j + 1) (flatV f j ++ [.int .i64 k2, .string n2, .int .i64 m2, .slice a2 l2 r2]) → ((w3.alloc (.cells #[.int .i64 k2, .string n2, .int .i64 m2, .slice a2 l2 r2] 48)).alloc (.cells #[.int .i64 k2, .string n2, .int .i64 m2, .slice a2 l2 r2] 48)).grownBy w7 (Value.slice ro j rc).ownBlock → ((Value.slice ro j rc).ownBlock = some g7 ∨ g7 = w3.heap.size + 1 + 1) →
      Hid (Rwo eltD Wb.heap.size w7 (.slice (some ⟨g7, 0, none⟩) (j + 1) c7) ((l0.take (j + 1)).map some)) ∧ Hid (Below Wb.heap.size Wb w7) := by
  have hl := some_len l0 j (by omega)
  have hts := some_snoc l0 x0 j hlt
  have hb := Below.next (below_alloc wr A) hb3
  have hb6 := Below.next hb (below_alloc w3 (.cells #[.int .i64 k2, .string n2, .int .i64 m2, .slice a2 l2 r2] 48))
  have hb7 := Below.next hb6 (below_alloc (w3.alloc (.cells #[.int .i64 k2, .string n2, .int .i64 m2, .slice a2 l2 r2] 48)) (.cells #[.int .i64 k2, .string n2, .int .i64 m2, .slice a2 l2 r2] 48))
  have hsr := hB.size
  have hsz3 := hb.size
  have hsz7 := hb7.size
  refine ⟨row_keep ho (fun q hq => hb7.block q (ho.lt q hq).2), by omega, fun w7 g7 c7 hown hg hat => ⟨?_, ?_⟩⟩
  · have h := ro_app (E := eltD) (B := Wb.heap.size) (D := (wr.alloc A).heap.size) (xs := (l0.take j).map some) (x := some (l0.getD j x0)) (cs := [.int .i64 k2, .string n2, .int .i64 m2, .slice a2 l2 r2]) hf (fun i y hi => eltD.keep (fun b hp hl => ⟨hp, hb6.block b hl⟩) (hxc i y hi)) (fun q hq => by have := (ho.lt q hq).2; simp; omega) (by simp; omega) rfl (show DwC _ _ _ _ from ⟨_, _, _, _, _, _, rfl, hv.next (below_alloc w3 _)⟩) (by rw [hl]; exact hown) hg (hat.elim Or.inl (fun e => Or.inr (by simp; omega)))
    rw [hl, ← hts] at h
    exact h
  · exact (Below.next hB hb7).grown hg (by omega) (fun q hq => by have := (ho.lt q hq).1; omega)
theorem dmark {Wb wr : World} {l0 : List Ex} {rc : Nat} {ro : Option Addr} {f : Nat → List Value} (hf : ∀ j, (f j).length = 4) (hxc : ∀ i y, (l0.map some)[i]? = some y → eltD.C (Out Wb.heap.size (.slice ro l0.length rc)) wr y (f i)) (ho : wr.ownsRow Wb.heap.size 48 4 (.slice ro l0.length rc) l0.length (flatV f l0.length)) (hB : Below Wb.heap.size Wb wr) :
    (wr.alloc (.cells #[.int .i64 (-77), .string ⟨#[]⟩, .int .i64 0, .slice none 0 0] 48)).ownsRow Wb.heap.size 48 4 (.slice ro l0.length rc) l0.length (flatV f l0.length) ∧ Wb.heap.size ≤ wr.heap.size ∧ ∀ w7 g7 c7, w7.ownsRow Wb.heap.size 48 4 (.slice (some ⟨g7, 0, none⟩) (l0.length + 1) c7) (l0.length + 1) (flatV f l0.length ++ mkX) → (wr.alloc (.cells #[.int .i64 (-77), .string ⟨#[]⟩, .int .i64 0, .slice none 0 0] 48)).grownBy w7 (Value.slice ro l0.length rc).ownBlock → ((Value.slice ro l0.length rc).ownBlock = some g7 ∨ g7 = wr.heap.size + 1) →
      Hid (Dr (Wb.heap.size ≤ ·) w7 (.slice (some ⟨g7, 0, none⟩) l0.length c7) l0) ∧ Hid (Below Wb.heap.size Wb w7) ∧ l0.length + 1 ≤ c7 := by
  have hl : (l0.map some).length = l0.length := by simp
  have hb7 := below_alloc wr (.cells #[.int .i64 (-77), .string ⟨#[]⟩, .int .i64 0, .slice none 0 0] 48)
  have hsz := hB.size
  refine ⟨row_keep ho (fun q hq => hb7.block q (ho.lt q hq).2), hsz, fun w7 g7 c7 hown hg hat => ⟨?_, ?_, own_capD hown⟩⟩
  · have h := ro_app (E := eltD) (B := Wb.heap.size) (D := wr.heap.size) (xs := l0.map some) (x := none) (cs := mkX) hf (fun i y hi => hxc i y hi) (fun q hq => (ho.lt q hq).2) hsz rfl rfl (by rw [hl]; exact hown) hg hat
    rw [hl] at h
    exact h.dr
  · exact (Below.next hB hb7).grown hg (by simp; omega) (fun q hq => (ho.lt q hq).1)
theorem qnext {Wb wr : World} {l1 : List (ByteArray × Ex)} {j rc : Nat} {ro : Option Addr} {f : Nat → List Value} {s : ByteArray} (hlt : j < l1.length) (hs : (l1.getD j q0).1 = s) (hf : ∀ j, (f j).length = 5) (hxc : ∀ i y, ((l1.take j).map some)[i]? = some y → eltE.C (Out Wb.heap.size (.slice ro j rc)) wr y (f i)) (ho : wr.ownsRow Wb.heap.size 51 5 (.slice ro j rc) j (flatV f j)) (hB : Below Wb.heap.size Wb wr) (A : Obj) (w3 : World) (k2 : Int) (n2 : ByteArray) (m2 : Int) (a2 : Option Addr) (l2 r2 : Nat) (hb3 : Below (wr.alloc A).heap.size (wr.alloc A) w3) (hv : Dw ((wr.alloc A).heap.size ≤ ·) w3 (l1.getD j q0).2 (.agg #[.int .i64 k2, .string n2, .int .i64 m2, .slice a2 l2 r2])) :
    ((w3.alloc (.cells #[.int .i64 k2, .string n2, .int .i64 m2, .slice a2 l2 r2] 48)).alloc (.cells #[.string s, .int .i64 k2, .string n2, .int .i64 m2, .slice a2 l2 r2] 51)).ownsRow Wb.heap.size 51 5 (.slice ro j rc) j (flatV f j) ∧ Wb.heap.size ≤ w3.heap.size ∧ ∀ w7 g7 c7, w7.ownsRow Wb.heap.size 51 5 (.slice (some ⟨g7, 0, none⟩) (j + 1) c7) (j + 1) (flatV f j ++ [.string s, .int .i64 k2, .string n2, .int .i64 m2, .slice a2 l2 r2]) → ((w3.alloc (.cells #[.int .i64 k2, .string n2, .int .i64 m2, .slice a2 l2 r2] 48)).alloc (.cells #[.string s, .int .i64 k2, .string n2, .int .i64 m2, .slice a2 l2 r2] 51)).grownBy w7 (Value.slice ro j rc).ownBlock → ((Value.slice ro j rc).ownBlock = some g7 ∨ g7 = w3.heap.size + 1 + 1) →
      Hid (Rwo eltE Wb.heap.size w7 (.slice (some ⟨g7, 0, none⟩) (j + 1) c7) ((l1.take (j + 1)).map some)) ∧ Hid (Below Wb.heap.size Wb w7) := by
  have hl := some_len l1 j (by omega)
  have hts := some_snoc l1 q0 j hlt
  have hb := Below.next (below_alloc wr A) hb3
  have hb6 := Below.next hb (below_alloc w3 (.cells #[.int .i64 k2, .string n2, .int .i64 m2, .slice a2 l2 r2] 48))
  have hb7 := Below.next hb6 (below_alloc (w3.alloc (.cells #[.int .i64 k2, .string n2, .int .i64 m2, .slice a2 l2 r2] 48)) (.cells #[.string s, .int .i64 k2, .string n2, .int .i64 m2, .slice a2 l2 r2] 51))
  have hsr := hB.size
  have hsz3 := hb.size
  have hsz7 := hb7.size
  refine ⟨row_keep ho (fun q hq => hb7.block q (ho.lt q hq).2), by omega, fun w7 g7 c7 hown hg hat => ⟨?_, ?_⟩⟩
  · have h := ro_app (E := eltE) (B := Wb.heap.size) (D := (wr.alloc A).heap.size) (xs := (l1.take j).map some) (x := some (l1.getD j q0)) (cs := [.string s, .int .i64 k2, .string n2, .int .i64 m2, .slice a2 l2 r2]) hf (fun i y hi => eltE.keep (fun b hp hl => ⟨hp, hb6.block b hl⟩) (hxc i y hi)) (fun q hq => by have := (ho.lt q hq).2; simp; omega) (by simp; omega) rfl (by refine ⟨k2, n2, m2, a2, l2, r2, by rw [← hs], hv.next (below_alloc w3 _)⟩) (by rw [hl]; exact hown) hg (hat.elim Or.inl (fun e => Or.inr (by simp; omega)))
    rw [hl, ← hts] at h
    exact h
  · exact (Below.next hB hb7).grown hg (by omega) (fun q hq => by have := (ho.lt q hq).1; omega)
theorem qmark {Wb wr : World} {l1 : List (ByteArray × Ex)} {rc : Nat} {ro : Option Addr} {f : Nat → List Value} (hf : ∀ j, (f j).length = 5) (hxc : ∀ i y, (l1.map some)[i]? = some y → eltE.C (Out Wb.heap.size (.slice ro l1.length rc)) wr y (f i)) (ho : wr.ownsRow Wb.heap.size 51 5 (.slice ro l1.length rc) l1.length (flatV f l1.length)) (hB : Below Wb.heap.size Wb wr) :
    (wr.alloc (.cells #[.string eqmS, .int .i64 0, .string ⟨#[]⟩, .int .i64 0, .slice none 0 0] 51)).ownsRow Wb.heap.size 51 5 (.slice ro l1.length rc) l1.length (flatV f l1.length) ∧ Wb.heap.size ≤ wr.heap.size ∧ ∀ w7 g7 c7, w7.ownsRow Wb.heap.size 51 5 (.slice (some ⟨g7, 0, none⟩) (l1.length + 1) c7) (l1.length + 1) (flatV f l1.length ++ mkQ) → (wr.alloc (.cells #[.string eqmS, .int .i64 0, .string ⟨#[]⟩, .int .i64 0, .slice none 0 0] 51)).grownBy w7 (Value.slice ro l1.length rc).ownBlock → ((Value.slice ro l1.length rc).ownBlock = some g7 ∨ g7 = wr.heap.size + 1) →
      Hid (Dq (Wb.heap.size ≤ ·) w7 (.slice (some ⟨g7, 0, none⟩) l1.length c7) l1) ∧ Hid (Below Wb.heap.size Wb w7) ∧ l1.length + 1 ≤ c7 := by
  have hl : (l1.map some).length = l1.length := by simp
  have hb7 := below_alloc wr (.cells #[.string eqmS, .int .i64 0, .string ⟨#[]⟩, .int .i64 0, .slice none 0 0] 51)
  have hsz := hB.size
  refine ⟨row_keep ho (fun q hq => hb7.block q (ho.lt q hq).2), hsz, fun w7 g7 c7 hown hg hat => ⟨?_, ?_, own_capD hown⟩⟩
  · have h := ro_app (E := eltE) (B := Wb.heap.size) (D := wr.heap.size) (xs := l1.map some) (x := none) (cs := mkQ) hf (fun i y hi => hxc i y hi) (fun q hq => (ho.lt q hq).2) hsz rfl rfl (by rw [hl]; exact hown) hg hat
    rw [hl] at h
    exact h.dq
  · exact (Below.next hB hb7).grown hg (by simp; omega) (fun q hq => (ho.lt q hq).1)
structure Two (W : World) (T : Gf) (ms : List (ByteArray × Int)) (B1 q1 B2 q2 : Nat) (a1 r1 a2 r2 : Option Addr) (k1 d1 k2 d2 : Nat) (v1 v2 : List Value) (no : Option Addr) (nc : Nat) (mo : Option Addr) (mc : Nat) (w : World) : Prop where
  b : Below W.heap.size W w
  g1 : R1 T B1 q1 a1 r1 k1 d1 v1 w
  g2 : R1 T B2 q2 a2 r2 k2 d2 v2 w
  n : w.ownsRow B1 56 2 (.slice no ms.length nc) ms.length (mcells ms)
  ni : ∀ b, (Value.slice no ms.length nc).ownBlock = some b → b < q1
  m : w.ownsRow B2 56 2 (.slice mo ms.length mc) ms.length (mcells ms)
  o : W.heap.size ≤ B1 ∧ q1 < B2
section
variable {W : World} {T : Gf} {ms : List (ByteArray × Int)} {B1 q1 B2 q2 B3 q3 : Nat} {a1 r1 a2 r2 a3 r3 : Option Addr} {k1 d1 k2 d2 k3 d3 : Nat} {v1 v2 v3 : List Value} {no mo : Option Addr} {nc mc : Nat} {w w' : World}
theorem Two.next (h : Two W T ms B1 q1 B2 q2 a1 r1 a2 r2 k1 d1 k2 d2 v1 v2 no nc mo mc w) (hb : Below w.heap.size w w') : Two W T ms B1 q1 B2 q2 a1 r1 a2 r2 k1 d1 k2 d2 v1 v2 no nc mo mc w' := ⟨Below.next h.b hb, h.g1.next hb, h.g2.next hb, own_below h.n hb, h.ni, own_below h.m hb, h.o⟩
theorem Two.cells (h : Two W T ms B1 q1 B2 q2 a1 r1 a2 r2 k1 d1 k2 d2 v1 v2 no nc mo mc w) : ((w.cell? ⟨q1, 0, none⟩ = some (.slice a1 T.nodes.length k1) ∧ w.cell? ⟨q1, 1, none⟩ = some (.slice r1 T.roots.length d1)) ∧ (w.cell? ⟨q2, 0, none⟩ = some (.slice a2 T.nodes.length k2) ∧ w.cell? ⟨q2, 1, none⟩ = some (.slice r2 T.roots.length d2))) ∧ q1 < w.heap.size ∧ q2 < w.heap.size :=
  ⟨⟨(blk2 h.g1.x).1, (blk2 h.g2.x).1⟩, lt_of_block h.g1.x, lt_of_block h.g2.x⟩
theorem Two.three (h : Two W T ms B1 q1 B2 q2 a1 r1 a2 r2 k1 d1 k2 d2 v1 v2 no nc mo mc w) (hb : Below w.heap.size w w') (hO : Og w' w.heap.size (.slice a3 T.nodes.length k3) (.slice r3 T.roots.length d3) v3 T) : Tn W T ms B1 q1 B2 q2 w.heap.size w'.heap.size a1 r1 a2 r2 a3 r3 k1 d1 k2 d2 k3 d3 v1 v2 v3 mo mc (w'.alloc (.cells #[.slice a3 T.nodes.length k3, .slice r3 T.roots.length d3] 29)) ∧ Nv B1 q1 no nc ms.length 0 (w'.alloc (.cells #[.slice a3 T.nodes.length k3, .slice r3 T.roots.length d3] 29)) := by
  have h2 := h.next (Below.next hb (below_alloc w' (.cells #[.slice a3 T.nodes.length k3, .slice r3 T.roots.length d3] 29)))
  exact ⟨⟨h2.b, h2.g1, h2.g2, R1.start hb hO, h2.m, ⟨h.o.1, h.o.2, lt_of_block h.g2.x⟩⟩, ⟨⟨_, h2.n, fun j hj => absurd hj (Nat.not_lt_zero _)⟩, h.ni⟩⟩
theorem Tn.grow {o : Obj} (h : Tn W T ms B1 q1 B2 q2 B3 q3 a1 r1 a2 r2 a3 r3 k1 d1 k2 d2 k3 d3 v1 v2 v3 mo mc w) {i : Nat} (hN : Nv B1 q1 no nc ms.length i w) (hg : (w.alloc o).grownBy w' (Value.slice no ms.length nc).ownBlock) : Tn W T ms B1 q1 B2 q2 B3 q3 a1 r1 a2 r2 a3 r3 k1 d1 k2 d2 k3 d3 v1 v2 v3 mo mc w' := by
  have hs := hg.size
  simp at hs
  have hbl : ∀ k, k < w.heap.size → some k ≠ (Value.slice no ms.length nc).ownBlock → w'.heap[k]? = w.heap[k]? := fun k hk hn => by
    rw [hg.block k (by simp; omega) hn]
    exact Below.heap_alloc _ _ _ hk
  cases e : (Value.slice no ms.length nc).ownBlock with
  | none =>
    rw [e] at hbl
    exact h.next ⟨hg.os, hg.tape, hg.output, by omega, fun k hk => hbl k hk (by simp)⟩
  | some p =>
    rw [e] at hbl
    obtain ⟨⟨xs, ho, _⟩, hi⟩ := hN
    obtain ⟨cs, hc, _⟩ := own_block_obj ho e
    exact h.oth (p := p) ⟨hg.os, hg.tape, hg.output, by omega, hbl⟩ hc ⟨(ho.lt p e).1, hi p e⟩
theorem Tn.overC (h : Tn W T ms B1 q1 B2 q2 B3 q3 a1 r1 a2 r2 a3 r3 k1 d1 k2 d2 k3 d3 v1 v2 v3 mo mc w) (hT : T.nodes.length ≤ 800 ∧ T.roots.length ≤ 4096 ∧ ∀ n ∈ T.nodes, n.args.length ≤ 4900) :
    Calls Try.prog 23 #[.agg #[.slice a1 T.nodes.length k1, .slice r1 T.roots.length d1]] w fun e z => e = .returned (.tuple #[]) ∧ Te W T B1 q1 B2 q2 B3 q3 a1 r1 a2 r2 a3 r3 k1 d1 k2 d2 k3 d3 v1 v2 v3 z := by
  have hB := h.g1.le
  have hq := lt_of_block h.g1.x
  refine (hOverO_any h.g1.og (by omega) (by omega) (by omega) hT.2.2).mono ?_
  rintro e z ⟨rfl, gb, hna, hz⟩
  exact ⟨rfl, h.over hna hz⟩
end
theorem own_two {W w9 w10 w11 : World} {T : Gf} {l0 : List Ex} {l1 : List (ByteArray × Ex)} {ms : List (ByteArray × Int)} {a1 r1 a2 r2 no mo : Option Addr} {N1 k1 R1 d1 M1 nc N2 k2 R2 d2 M2 mc : Nat} {ev1 ev2 : Value} (hW : Below W.heap.size W w9) (hA1 : TieA l0 l1 T ms w9.heap.size w10 a1 N1 k1 r1 R1 d1 no M1 nc ev1) (hb10 : Below w9.heap.size w9 w10) (hA2 : TieA l0 l1 T ms (w10.alloc (.cells #[.slice a1 N1 k1, .slice r1 R1 d1] 29)).heap.size w11 a2 N2 k2 r2 R2 d2 mo M2 mc ev2) (hb11 : Below (w10.alloc (.cells #[.slice a1 N1 k1, .slice r1 R1 d1] 29)).heap.size (w10.alloc (.cells #[.slice a1 N1 k1, .slice r1 R1 d1] 29)) w11) :
    (∃ b, ev1 = .iface 85 (.pointer (some ⟨b, 0, none⟩))) ∨ ((tieC l0 l1).1 = 0 ∧ ev1 = .nilIface ∧ (N1 = T.nodes.length ∧ R1 = T.roots.length ∧ M1 = ms.length) ∧ (N2 = T.nodes.length ∧ R2 = T.roots.length ∧ M2 = ms.length) ∧ ∃ v1 v2 B1 B2, Two W T ms B1 w10.heap.size B2 w11.heap.size a1 r1 a2 r2 k1 d1 k2 d2 v1 v2 no nc mo mc (w11.alloc (.cells #[.slice a2 N2 k2, .slice r2 R2 d2] 29))) := by
  rcases hA1 with ⟨_, h⟩ | ⟨hc, e1, rfl, rfl, rfl, ⟨v1, hO1⟩, hM1⟩
  · exact Or.inl h
  rcases hA2 with ⟨hc', _⟩ | ⟨_, _, rfl, rfl, rfl, ⟨v2, hO2⟩, hM2⟩
  · exact absurd hc hc'
  refine Or.inr ⟨hc, e1, ⟨rfl, rfl, rfl⟩, ⟨rfl, rfl, rfl⟩, v1, v2, w9.heap.size, (w10.alloc (.cells #[.slice a1 T.nodes.length k1, .slice r1 T.roots.length d1] 29)).heap.size, ?_⟩
  have hb12 := Below.next hb11 (below_alloc w11 (.cells #[.slice a2 T.nodes.length k2, .slice r2 T.roots.length d2] 29))
  have hz := hb10.size
  have hW2 := hW.size
  have hbW := Below.next (Below.next (Below.next hW hb10) (below_alloc w10 (.cells #[.slice a1 T.nodes.length k1, .slice r1 T.roots.length d1] 29))) hb12
  exact ⟨hbW, (R1.start hb10 hO1).next hb12, R1.start hb11 hO2, own_below (World.ownsRow.alloc hM1 _) hb12, fun b e => (hM1.lt b e).2, World.ownsRow.alloc hM2 _, ⟨hW2, by simp⟩⟩
theorem Dr.at {P : Nat → Prop} {w : World} {g c : Nat} {xs : List Ex} (h : Dr P w (.slice (some ⟨g, 0, none⟩) xs.length c) xs) : ∀ j, j < xs.length → DwA P w g (xs.getD j x0) j := by
  obtain ⟨b, c, e, _, _, _, hm⟩ := h
  injection e with e _ _
  injection e with e
  injection e with e _ _
  subst e
  exact hm
theorem Dq.at {P : Nat → Prop} {w : World} {g c : Nat} {qs : List (ByteArray × Ex)} (h : Dq P w (.slice (some ⟨g, 0, none⟩) qs.length c) qs) : ∀ j, j < qs.length → DqA P w g (qs.getD j q0) j := by
  obtain ⟨b, c, e, _, _, _, hm⟩ := h
  injection e with e _ _
  injection e with e
  injection e with e _ _
  subst e
  exact hm
theorem TieA.yes {xs : List Ex} {qs : List (ByteArray × Ex)} {T : Gf} {ms : List (ByteArray × Int)} {B : Nat} {w : World} {a r mo : Option Addr} {N k R d M mc : Nat} {ev : Value} (hc : (tieC xs qs).1 = 0) (h : TieA xs qs T ms B w a N k r R d mo M mc ev) : ev = .nilIface ∧ N = T.nodes.length ∧ R = T.roots.length ∧ M = ms.length ∧ ∃ av, Og w B (.slice a T.nodes.length k) (.slice r T.roots.length d) av T := by
  rcases h with ⟨h, _⟩ | ⟨_, h1, h2, h3, h4, h5, _⟩
  · exact absurd hc h
  · exact ⟨h1, h2, h3, h4, h5⟩
theorem more_cells {w : World} {B g c n : Nat} {xs ys : List Value} (h : w.ownsRow B 56 2 (.slice (some ⟨g, 0, none⟩) (n + 1) c) (n + 1) (xs ++ ys)) (hl : xs.length = n * 2) (hx : ∀ j, j < n → xs[j * 2]? = some (.string ovS)) : ∀ j, j < n → w.cell? ⟨g, j * 2, none⟩ = some (.string ovS) := fun j hj => by
  rw [h.cellAt _ (by omega), List.getElem?_append_left (by omega)]
  exact hx j hj
theorem ov_list {nm : ByteArray} (h : nm ≠ ovS) : (nm.toList = [111, 118, 101, 114]) = False ∧ (nm.toList == [111, 118, 101, 114]) = false := by
  have h1 : ¬ nm.toList = [111, 118, 101, 114] := fun e => h (by
    rw [ByteArray.toList_eq] at e
    refine ByteArray.ext ?_
    have h2 := congrArg List.toArray e
    simpa using h2)
  exact ⟨eq_false h1, by simpa using h1⟩
end Go.Proofs.Ytncileojdighnaa

namespace Go.Proofs.Ytncileojdighnaa
set_option maxRecDepth 100000
open Go.RowKit Go.Maps
set_option maxHeartbeats 16000000 in
theorem tieOwns_walk (v0 : Value) (l0 : List Ex) {W : World} (hX0 : Rxs W v0 l0) (hZ0 : szXs l0) (z0 : l0.length ≤ 281474976710656) (v1 : Value) (l1 : List (ByteArray × Ex)) (hX1 : Rqs W v1 l1) (hZ1 : ∀ q ∈ l1, q.1.size ≤ 281474976710656 ∧ szX q.2) (z1 : l1.length ≤ 281474976710656) :
    Calls Try.prog 6 #[v0, v1] W fun e w' => e = .returned (.bool true) ∧ Below W.heap.size W w' := by
  obtain ⟨i4, hi4, hw0, hw1, hw2⟩ := info_parts infoX
  obtain ⟨i5, hi5, hy0, hy1, hy2⟩ := info_parts infoEq
  obtain ⟨i6, hi6, hu0, hu1, hu2⟩ := info_parts infoMd
  have HX := hid hX0
  have HQ := hid hX1
  have HZX := hid hZ0
  have HZQ := hid hZ1
  obtain ⟨xo, xc, rfl, hXa0⟩ := hX0
  obtain ⟨qo, qc, rfl, hQa0⟩ := hX1
  have hXa := hid hXa0
  have hQa := hid hQa0
  have hla := hid (fun (w : World) (hb : Below W.heap.size W w) => tlarge_any (HX.out.next hb) (HQ.out.next hb) hZ0 hZ1 z0 z1)
  clear hZ0 hZ1 hXa0 hQa0
  cases hL : largeT l0 l1 with
  | true =>
    rw [hL] at hla
    clear hL
    go_enter Try.func6, Try.ntmps6
    go_wp2_with (first
      | (go_at_call 8; go_must (refine (hla.out _ hb1).mono ?_; clear hla; rintro e2 w2 ⟨rfl, hb2⟩; have hB := Below.next hb1 hb2; clear hb1 hb2))
      | (go_at_call 7; go_must (refine (tlives_any _).mono ?_; rintro e1 w1 ⟨rfl, hb1⟩)))
    go_ret
    exact ⟨rfl, Below.next hB hb1⟩
  | false =>
    obtain ⟨s1, s2, s3⟩ := large_small hL
    rw [hL] at hla
    clear hL
    have hp : prtXs l0 + prtQ l1 ≤ 30000 := by omega
    obtain ⟨ee, hd⟩ := al_dec (tieG l0 l1)
    have ht := hid (fun (w : World) (xv qv : Value) (h1 : Rxs w xv l0) (h2 : Rqs w qv l1) => tie_two h1 h2 HZX.out HZQ.out hp ee hd)
    have hsz := hid (fun hc => tie_sizes (xs := l0) (qs := l1) hc s3 hd)
    have hml := nmdF_len ee (tieG l0 l1) (tieE l0 l1) (namA l0 l1) (namA l0 l1).length
    have hnl := namA_len l0 l1
    have hms : (nmdF ee (tieG l0 l1) (tieE l0 l1) (namA l0 l1) (namA l0 l1).length).length ≤ 350 := by omega
    clear hml hnl hd
    generalize nmdF ee (tieG l0 l1) (tieE l0 l1) (namA l0 l1) (namA l0 l1).length = ms at *
    generalize trimF (quoF ee (tieG l0 l1)) = T at *
    have hpcx : Hid (∀ x ∈ l0, prtX x ≤ 5000) := fun x hx => by have := prt_mem8 l0 x hx; omega
    have hpcq : Hid (∀ q ∈ l1, prtX q.2 ≤ 5000) := fun q hq => by have := prt_q_mem l1 q hq; omega
    have hTL := hid (some_len l0)
    have hQL := hid (some_len l1)
    have hwX : IntKind.i64.wrap ((l0.length : Int) + 1) = (l0.length : Int) + 1 := by rw [IntKind.wrap_i64]; omega
    have hiX : (l0.length : Int) < (l0.length : Int) + 1 := by omega
    have htX : ((l0.length : Int) + 1).toNat = l0.length + 1 := by omega
    have hwQ : IntKind.i64.wrap ((l1.length : Int) + 1) = (l1.length : Int) + 1 := by rw [IntKind.wrap_i64]; omega
    have hiQ : (l1.length : Int) < (l1.length : Int) + 1 := by omega
    have htQ : ((l1.length : Int) + 1).toNat = l1.length + 1 := by omega
    go_enter Try.func6, Try.ntmps6
    go_wp2_with (first
      | (go_at_call 8; go_must (refine (hla.out _ hb1).mono ?_; clear hla; rintro e2 w2 ⟨rfl, hb2⟩; have hbW := hid (Below.next hb1 hb2); clear hb1 hb2))
      | (go_at_call 7; go_must (refine (tlives_any _).mono ?_; rintro e1 w1 ⟨rfl, hb1⟩)))
    go_loopw [5, 37] (fun x i wr => ∃ (j : Nat) (ro : Option Addr) (rc : Nat), j ≤ l0.length ∧ i = .int .i64 (j : Int) ∧ x = .slice ro j rc ∧ Hid (Rwo eltD w2.heap.size wr (.slice ro j rc) ((l0.take j).map some)) ∧ Hid (Below w2.heap.size w2 wr)) (fun _ i _ => l0.length - (intOf i).toNat)
    case atStart =>
      exact ⟨0, _, 0, by omega, rfl, rfl, rwo_empty (cs := mkX) rfl ⟨rfl, Or.inr ⟨w2.heap.size, 0, #[], rfl, Nat.le_refl _, heap_alloc_new w2 _, Nat.le_refl _, Nat.zero_le _, rfl, rfl⟩⟩, below_alloc w2 _⟩
    case round =>
      obtain ⟨j, ro, rc, hj, rfl, rfl, hX, hB⟩ := hrel
      by_cases hlt : j < l0.length
      · obtain ⟨b, o, k', n', m', aa, al, ac, rfl, d0, d1, d2, d3, hx⟩ := hXa.out j hlt
        have hbr := Below.next hbW.out hB.out
        have hz := lt_of_cell d0
        have c0 := ((bcell hbr).1 b _ hz).trans d0
        have c1 := ((bcell hbr).1 b _ hz).trans d1
        have c2 := ((bcell hbr).1 b _ hz).trans d2
        have c3 := ((bcell hbr).1 b _ hz).trans d3
        have hzr : b < wr.heap.size := Nat.lt_of_lt_of_le hz hbr.size
        have hcall := deep_any _ _ _ ((hx.next hbr).next (below_alloc wr (.cells #[.int .i64 k', .string n', .int .i64 m', .slice aa al ac] 48))) (hpcx.out _ (xs_at hlt))
        have hl := hTL.out j hj
        obtain ⟨f, hf, hxc, ho⟩ := hX.out
        rw [hl] at ho
        have hnx := hid (dnext hlt hf hxc ho hB.out (.cells #[.int .i64 k', .string n', .int .i64 m', .slice aa al ac] 48))
        clear hX hB hxc ho hf hl hx d0 d1 d2 d3 hz hbr
        obtain ⟨⟨t0, t1, t2, t3⟩, _⟩ := xblk (heap_alloc_new wr (.cells #[.int .i64 k', .string n', .int .i64 m', .slice aa al ac] 48))
        go_wp2_with (first
          | (go_at_call 21; go_must (refine hcall.mono ?_; clear hcall; rintro e w4 ⟨v', rfl, hv, hb4⟩; obtain ⟨k2, n2, m2, a2, l2, r2, rfl⟩ := hv.form; obtain ⟨y1, y2, y3⟩ := hnx.out w4 k2 n2 m2 a2 l2 r2 hb4 hv; obtain ⟨⟨s0, s1, s2, s3⟩, _⟩ := xblk (heap_alloc_new w4 (.cells #[.int .i64 k2, .string n2, .int .i64 m2, .slice a2 l2 r2] 48))))
          | (at_builtin; go_must (refine wpList_append_lies _ rfl _ _ 22 rfl w2.heap.size 48 i4 (.agg #[.int .i64 0, .string ⟨#[]⟩, .int .i64 0, .slice none 0 0]) 4 56 Try.underlying22 hi4 hw0 hw1 hw2 rfl (by decide) (.slice ro j rc) j (flatV f j) rfl y1 ⟨w4.heap.size + 1, 0, none⟩ 1 1 [.int .i64 k2, .string n2, .int .i64 m2, .slice a2 l2 r2] rfl (by rfl) (by have h9 := World.news_of_block (cs := #[.int .i64 k2, .string n2, .int .i64 m2, .slice a2 l2 r2]) (t := 48) (fr := (0, 0)) (heap_alloc_new (w4.alloc (.cells #[.int .i64 k2, .string n2, .int .i64 m2, .slice a2 l2 r2] 48)) _); simpa using h9) (by simp [Value.oneCell']) (by omega) (by unfold maxLen; omega) (by omega) (by simp; omega) (w4.heap.size + 1 + 1) (by simp) ?_; intro g7 c7 w7 hown7 hg7 hat7 hlt7; obtain ⟨r7, b7⟩ := y3 w7 g7 c7 hown7 hg7 hat7)))
        go_roundw
        case rel => exact ⟨j + 1, some ⟨g7, 0, none⟩, c7, by omega, by go_num, rfl, r7, b7⟩
        case measure => simp [intOf]; omega
      · obtain rfl : j = l0.length := by omega
        obtain ⟨wA, hwA⟩ : ∃ wA, wA = wr := ⟨_, rfl⟩
        subst hwA
        have hX' := hX.out
        rw [List.take_length] at hX'
        obtain ⟨f, hf, hxc, ho⟩ := hX'
        rw [show (l0.map some).length = l0.length by simp] at ho
        obtain ⟨y1, y2, y3⟩ := dmark hf hxc ho hB.out
        have Y3 := hid y3
        clear hX hB hxc ho hf y3
        go_wp2_with (at_builtin; go_must (refine wpList_append_lies _ rfl _ _ 22 rfl w2.heap.size 48 i4 (.agg #[.int .i64 0, .string ⟨#[]⟩, .int .i64 0, .slice none 0 0]) 4 56 Try.underlying22 hi4 hw0 hw1 hw2 rfl (by decide) (.slice ro l0.length rc) l0.length (flatV f l0.length) rfl y1 ⟨wA.heap.size, 0, none⟩ 1 1 mkX rfl (by rfl) (World.news_of_block (cs := #[.int .i64 (-77), .string ⟨#[]⟩, .int .i64 0, .slice none 0 0]) (t := 48) (fr := (0, 0)) (heap_alloc_new wA _)) (by simp [Value.oneCell']) (by omega) (by unfold maxLen; omega) (by omega) (by simp; omega) (wA.heap.size + 1) (by simp) ?_; intro g7 c7 w7 hown7 hg7 hat7 hlt7; obtain ⟨HD7, hB7, hc7⟩ := Y3.out w7 g7 c7 hown7 hg7 hat7; have hbW7 := hid (Below.next hbW.out hB7.out); have hcX : (l0.length : Int) + 1 ≤ (c7 : Int) := (by omega); clear hown7 hg7 hat7 hlt7 y1 y2 Y3 hB7))
        go_loopw [9, 58] (fun x i wr => ∃ (j : Nat) (ro : Option Addr) (rc : Nat), j ≤ l1.length ∧ i = .int .i64 (j : Int) ∧ x = .slice ro j rc ∧ Hid (Rwo eltE w7.heap.size wr (.slice ro j rc) ((l1.take j).map some)) ∧ Hid (Below w7.heap.size w7 wr)) (fun _ i _ => l1.length - (intOf i).toNat)
        case atStart =>
          exact ⟨0, _, 0, by omega, rfl, rfl, rwo_empty (cs := mkQ) rfl ⟨rfl, Or.inr ⟨w7.heap.size, 0, #[], rfl, Nat.le_refl _, heap_alloc_new w7 _, Nat.le_refl _, Nat.zero_le _, rfl, rfl⟩⟩, below_alloc w7 _⟩
        case round =>
          obtain ⟨j, ro, rc, hj, rfl, rfl, hX, hB⟩ := hrel
          by_cases hlt : j < l1.length
          · obtain ⟨b, o, k', n', m', aa, al, ac, rfl, d0, d1, d2, d3, d4, hx⟩ := hQa.out j hlt
            have hbr := Below.next hbW7.out hB.out
            have hz := lt_of_cell d0
            have c0 := ((bcell hbr).1 b _ hz).trans d0
            have c1 := ((bcell hbr).1 b _ hz).trans d1
            have c2 := ((bcell hbr).1 b _ hz).trans d2
            have c3 := ((bcell hbr).1 b _ hz).trans d3
            have c4 := ((bcell hbr).1 b _ hz).trans d4
            have hzr : b < wr.heap.size := Nat.lt_of_lt_of_le hz hbr.size
            have hqm : l1.getD j q0 ∈ l1 := by simp [List.getD, hlt]
            obtain ⟨s, hs⟩ : ∃ s, (l1.getD j q0).1 = s := ⟨_, rfl⟩
            rw [hs] at c0
            have hcall := deep_any _ _ _ ((hx.next hbr).next (below_alloc wr (.cells #[.string s, .int .i64 k', .string n', .int .i64 m', .slice aa al ac] 51))) (hpcq.out _ hqm)
            have hl := hQL.out j hj
            obtain ⟨f, hf, hxc, ho⟩ := hX.out
            rw [hl] at ho
            have hnx := hid (qnext hlt hs hf hxc ho hB.out (.cells #[.string s, .int .i64 k', .string n', .int .i64 m', .slice aa al ac] 51))
            have hax := heap_alloc_new wr (.cells #[.string s, .int .i64 k', .string n', .int .i64 m', .slice aa al ac] 51)
            obtain ⟨t0, t1, t2, t3, t4⟩ := blk5 hax
            have hnm : Hid (∀ w4, Below (wr.alloc (.cells #[.string s, .int .i64 k', .string n', .int .i64 m', .slice aa al ac] 51)).heap.size (wr.alloc (.cells #[.string s, .int .i64 k', .string n', .int .i64 m', .slice aa al ac] 51)) w4 → ∀ O, (w4.alloc O).cell? ⟨wr.heap.size, 0, none⟩ = some (.string s) ∧ wr.heap.size < w4.heap.size) := fun w4 hb4 O => by
              have h5 := (hb4.block wr.heap.size (by simp)).trans hax
              have h6 := lt_of_block h5
              exact ⟨(blk5 ((Below.heap_alloc w4 O _ h6).trans h5)).1, h6⟩
            clear hX hB hxc ho hf hl hx d0 d1 d2 d3 d4 hz hbr hs hqm hax
            go_wp2_with (first
              | (go_at_call 21; go_must (refine hcall.mono ?_; clear hcall; rintro e w4 ⟨v', rfl, hv, hb4⟩; obtain ⟨k2, n2, m2, a2, l2, r2, rfl⟩ := hv.form; obtain ⟨y1, y2, y3⟩ := hnx.out w4 k2 n2 m2 a2 l2 r2 hb4 hv; obtain ⟨⟨s0, s1, s2, s3⟩, _⟩ := xblk (heap_alloc_new w4 (.cells #[.int .i64 k2, .string n2, .int .i64 m2, .slice a2 l2 r2] 48)); obtain ⟨nm0', nm1'⟩ := hnm.out w4 hb4 (.cells #[.int .i64 k2, .string n2, .int .i64 m2, .slice a2 l2 r2] 48)))
              | (at_builtin; go_must (refine wpList_append_lies _ rfl _ _ 23 rfl w7.heap.size 51 i5 (.agg #[.string ⟨#[]⟩, .int .i64 0, .string ⟨#[]⟩, .int .i64 0, .slice none 0 0]) 5 72 Try.underlying23 hi5 hy0 hy1 hy2 rfl (by decide) (.slice ro j rc) j (flatV f j) rfl y1 ⟨w4.heap.size + 1, 0, none⟩ 1 1 [.string s, .int .i64 k2, .string n2, .int .i64 m2, .slice a2 l2 r2] rfl (by rfl) (by have h9 := World.news_of_block (cs := #[.string s, .int .i64 k2, .string n2, .int .i64 m2, .slice a2 l2 r2]) (t := 51) (fr := (0, 0)) (heap_alloc_new (w4.alloc (.cells #[.int .i64 k2, .string n2, .int .i64 m2, .slice a2 l2 r2] 48)) _); simpa using h9) (by simp [Value.oneCell']) (by omega) (by unfold maxLen; omega) (by omega) (by simp; omega) (w4.heap.size + 1 + 1) (by simp) ?_; intro g8 c8 w8 hown8 hg8 hat8 hlt8; obtain ⟨r8, b8⟩ := y3 w8 g8 c8 hown8 hg8 hat8)))
            go_roundw
            case rel => exact ⟨j + 1, some ⟨g8, 0, none⟩, c8, by omega, by go_num, rfl, r8, b8⟩
            case measure => simp [intOf]; omega
          · obtain rfl : j = l1.length := by omega
            obtain ⟨wB, hwB⟩ : ∃ wB, wB = wr := ⟨_, rfl⟩
            subst hwB
            have hX' := hX.out
            rw [List.take_length] at hX'
            obtain ⟨f, hf, hxc, ho⟩ := hX'
            rw [show (l1.map some).length = l1.length by simp] at ho
            obtain ⟨y1, y2, y3⟩ := qmark hf hxc ho hB.out
            have Y3 := hid y3
            have HB8 := hid hB.out
            clear hX hB hxc ho hf y3
            go_wp2_with (first
              | (go_at_call 9; refine (ht.out _ _ _ HDa.out.rxs HQa.out.rqs).mono ?_; rintro r w11 ⟨⟨a2, N2, k2, r2, R2', d2, mo, M2, mc, ev2, rfl, hA2⟩, hb11⟩; have HE := hid (own_two hbW9.out HA1.out HB10.out hA2 hb11); have HDz := hid (HDa.out.next (Below.next hb11 (below_alloc w11 (.cells #[.slice a2 N2 k2, .slice r2 R2' d2] 29)))); have HQz := hid (HQa.out.next (Below.next hb11 (below_alloc w11 (.cells #[.slice a2 N2 k2, .slice r2 R2' d2] 29)))); have HWz := hid (Below.next hbWa.out (Below.next hb11 (below_alloc w11 (.cells #[.slice a2 N2 k2, .slice r2 R2' d2] 29)))); have hm1 := HDz.out.mark; have hm2 := HQz.out.mark; have hzm1 := lt_of_cell hm1; have hzm2 := lt_of_cell hm2; clear hA2 hb11 HDa HQa hbWa HA1 HB10)
              | (go_at_call 9; refine (ht.out w9 _ _ HD9.out.rxs HQ9.out.rqs).mono ?_; rintro r w10 ⟨⟨a1, N1, k1, r1, R1', d1, no, M1, nc, ev1, rfl, hA1⟩, hb10⟩; have HA1 := hid hA1; have HB10 := hid hb10; have HDa := hid (HD9.out.next (Below.next hb10 (below_alloc w10 (.cells #[.slice a1 N1 k1, .slice r1 R1' d1] 29)))); have HQa := hid (HQ9.out.next (Below.next hb10 (below_alloc w10 (.cells #[.slice a1 N1 k1, .slice r1 R1' d1] 29)))); have hbWa := hid (Below.next hbW9.out (Below.next hb10 (below_alloc w10 (.cells #[.slice a1 N1 k1, .slice r1 R1' d1] 29)))); clear hA1 hb10 HD9 HQ9)
              | (at_builtin; go_must (refine wpList_append_lies _ rfl _ _ 23 rfl w7.heap.size 51 i5 (.agg #[.string ⟨#[]⟩, .int .i64 0, .string ⟨#[]⟩, .int .i64 0, .slice none 0 0]) 5 72 Try.underlying23 hi5 hy0 hy1 hy2 rfl (by decide) (.slice ro l1.length rc) l1.length (flatV f l1.length) rfl y1 ⟨wB.heap.size, 0, none⟩ 1 1 mkQ rfl (by rfl) (World.news_of_block (cs := #[.string ⟨#[109, 97, 114, 107]⟩, .int .i64 0, .string ⟨#[]⟩, .int .i64 0, .slice none 0 0]) (t := 51) (fr := (0, 0)) (heap_alloc_new wB _)) (by simp [Value.oneCell']) (by omega) (by unfold maxLen; omega) (by omega) (by simp; omega) (wB.heap.size + 1) (by simp) ?_; intro g8 c8 w9 hown8 hg8 hat8 hlt8; obtain ⟨HQ9, hB9, hc8⟩ := Y3.out w9 g8 c8 hown8 hg8 hat8; have HD9 := hid (HD7.out.next hB9.out); have hbW9 := hid (Below.next hbW7.out hB9.out); have hcQ : (l1.length : Int) + 1 ≤ (c8 : Int) := (by omega); clear hown8 hg8 hat8 hlt8 y1 y2 Y3 hB9 HD7)))
            obtain ⟨Wz, hWz⟩ : ∃ Wz, Wz = w11.alloc (.cells #[.slice a2 N2 k2, .slice r2 R2' d2] 29) := ⟨_, rfl⟩
            rw [← hWz] at HE HDz HQz HWz hm1 hm2 hzm1 hzm2 ⊢
            clear hm1 hm2 hzm1 hzm2 hWz hwX hiX htX hwQ hiQ htQ hcX hcQ hc7 hc8
            have hDat := hid HDz.out.at
            have hQat := hid HQz.out.at
            go_loopw [120] (fun i wr => ∃ (j : Nat), j ≤ l0.length ∧ i = .int .i64 (j : Int) ∧ Hid (Below Wz.heap.size Wz wr)) (fun i _ => l0.length - (intOf i).toNat)
            case atStart => exact ⟨0, by omega, rfl, Below.refl _ _⟩
            case round =>
              obtain ⟨j, hj, rfl, hB⟩ := hrel
              have hbz := hB.out
              by_cases hlt : j < l0.length
              · obtain ⟨pk, pn, pm, pa, pl, pr, u0, u1, u2, u3, hD⟩ := hDat.out j hlt
                obtain ⟨b, o, k', n', m', aa, al, ac, rfl, d0, d1, d2, d3, hx⟩ := hXa.out j hlt
                have hbr := Below.next HWz.out hbz
                have hcall := whole_any _ _ _ _ _ ((hD.next hbz).next ((Below.refl _ _).drew)) ((hx.next hbr).next ((Below.refl _ _).drew)) (hpcx.out _ (xs_at hlt))
                have hzu := lt_of_cell u0
                have hzd := lt_of_cell d0
                replace u0 := ((bcell hbz).1 g7 _ hzu).trans u0
                replace u1 := ((bcell hbz).1 g7 _ hzu).trans u1
                replace u2 := ((bcell hbz).1 g7 _ hzu).trans u2
                replace u3 := ((bcell hbz).1 g7 _ hzu).trans u3
                replace d0 := ((bcell hbr).1 b _ hzd).trans d0
                replace d1 := ((bcell hbr).1 b _ hzd).trans d1
                replace d2 := ((bcell hbr).1 b _ hzd).trans d2
                replace d3 := ((bcell hbr).1 b _ hzd).trans d3
                clear hD hx hB hbr hzu hzd
                go_wp2
                go_still_tail 8, (by kernel_rfl)
                change wpList _ _ _ _ _ wr.drew
                go_wp2_with (go_at_call 22; refine hcall.mono ?_; clear hcall; rintro e w3 ⟨rfl, hb3⟩; have hN := hid (Below.next hbz.drew hb3))
                go_roundw
                case rel => exact ⟨j + 1, by omega, by go_num, hN⟩
                case measure => simp [intOf]; omega
              · obtain rfl : j = l0.length := by omega
                clear hB
                go_wp2
                go_loopw [136] (fun i wr => ∃ (j : Nat), j ≤ l1.length ∧ i = .int .i64 (j : Int) ∧ Hid (Below Wz.heap.size Wz wr)) (fun i _ => l1.length - (intOf i).toNat)
                case atStart => exact ⟨0, by omega, rfl, hbz⟩
                case round =>
                  clear hbz
                  obtain ⟨j, hj, rfl, hB⟩ := hrel
                  have hbz := hB.out
                  by_cases hlt : j < l1.length
                  · obtain ⟨pk, pn, pm, pa, pl, pr, u0, u1, u2, u3, u4, hD⟩ := hQat.out j hlt
                    obtain ⟨b, o, k', n', m', aa, al, ac, rfl, d0, d1, d2, d3, d4, hx⟩ := hQa.out j hlt
                    have hbr := Below.next HWz.out hbz
                    have hqm : l1.getD j q0 ∈ l1 := by simp [List.getD, hlt]
                    have hcall := whole_any _ _ _ _ _ ((hD.next hbz).next ((Below.refl _ _).drew)) ((hx.next hbr).next ((Below.refl _ _).drew)) (hpcq.out _ hqm)
                    have hzu := lt_of_cell u0
                    have hzd := lt_of_cell d0
                    replace u0 := ((bcell hbz).1 g8 _ hzu).trans u0
                    replace u1 := ((bcell hbz).1 g8 _ hzu).trans u1
                    replace u2 := ((bcell hbz).1 g8 _ hzu).trans u2
                    replace u3 := ((bcell hbz).1 g8 _ hzu).trans u3
                    replace u4 := ((bcell hbz).1 g8 _ hzu).trans u4
                    replace d0 := ((bcell hbr).1 b _ hzd).trans d0
                    replace d1 := ((bcell hbr).1 b _ hzd).trans d1
                    replace d2 := ((bcell hbr).1 b _ hzd).trans d2
                    replace d3 := ((bcell hbr).1 b _ hzd).trans d3
                    replace d4 := ((bcell hbr).1 b _ hzd).trans d4
                    clear hD hx hB hbr hzu hzd hqm
                    generalize (l1.getD j q0).1 = s at u0 d0
                    go_wp2
                    go_still_tail 22, (by kernel_rfl)
                    change wpList _ _ _ _ _ wr.drew
                    go_wp2_with (go_at_call 22; refine hcall.mono ?_; clear hcall; rintro e w3 ⟨rfl, hb3⟩; have hN := hid (Below.next hbz.drew hb3))
                    go_roundw
                    case rel => exact ⟨j + 1, by omega, by go_num, hN⟩
                    case measure => simp [intOf]; omega
                  · obtain rfl : j = l1.length := by omega
                    obtain ⟨wE, hwE⟩ : ∃ wE, wE = wr := ⟨_, rfl⟩
                    subst hwE
                    have hbE := hid (Below.next HWz.out hbz)
                    clear hB hDat hQat HDz HQz
                    rcases HE.out with ⟨b, rfl⟩ | ⟨hc, rfl, ⟨rfl, rfl, rfl⟩, ⟨rfl, rfl, rfl⟩, v1', v2', B1, B2, hTw⟩
                    · clear HE
                      go_wp2
                      go_ret
                      exact ⟨rfl, hbE.out⟩
                    · have HT := hid (hsz.out hc)
                      have hsm := hid (fun (w : World) (nv rv mv sv : Value) (h1 : Gr w nv rv T) (h2 : Gr w mv sv T) => same_any h1 h2 HT.out.1)
                      rw [eqG_yes] at hsm
                      have hTw' := hTw.next hbz
                      have HTw := hid hTw'
                      obtain ⟨⟨⟨g0, g1⟩, ⟨h0, h1⟩⟩, hz1, hz2⟩ := hTw'.cells
                      clear HE hTw hTw' hbz
                      go_wp2_with (first
                        | (go_at_call 9; refine (ht.out _ _ _ (HX.out.next HT3.out.b) (HQ.out.next HT3.out.b)).mono ?_; rintro r w14 ⟨⟨a3, N3, k3, r3, R3', d3, mo3, M3, mc3, ev3, rfl, hA3⟩, hb14⟩; obtain ⟨rfl, rfl, rfl, rfl, v3, hO3⟩ := hA3.yes hc; obtain ⟨hTn, hNv⟩ := HT3.out.three hb14 hO3; have HTn := hid hTn; have HNv := hid hNv; clear hTn hNv hO3 hA3 hb14 g0 g1 h0 h1 hz1 hz2)
                        | (go_at_call 13; refine (tsame_yes (nv_rnm HT2.out.n) (nv_rnm HT2.out.m) (by omega)).mono ?_; rintro e w13 ⟨rfl, hb13⟩; have HT3 := hid (HT2.out.next hb13); clear hb13)
                        | (go_at_call 16; refine (hsm.out wE _ _ _ _ HTw.out.g1.og.gr HTw.out.g2.og.gr).mono ?_; rintro e w12 ⟨rfl, hb12⟩; have HT2 := hid (HTw.out.next hb12); clear hb12))
                      go_loopw [190] (fun i wr => ∃ (j : Nat), j ≤ ms.length ∧ i = .int .i64 (j : Int) ∧ Hid (Tn W T ms B1 w10.heap.size B2 w11.heap.size w13.heap.size w14.heap.size a1 r1 a2 r2 a3 r3 k1 d1 k2 d2 k3 d3 v1' v2' v3 mo mc wr) ∧ Hid (Nv B1 w10.heap.size no nc ms.length j wr)) (fun i _ => ms.length - (intOf i).toNat)
                      case atStart => exact ⟨0, by omega, rfl, HTn, HNv⟩
                      case round =>
                        clear HTn HNv
                        obtain ⟨j, hj, rfl, hT, hN⟩ := hrel
                        by_cases hlt : j < ms.length
                        · obtain ⟨p, cs, rfl, hp', hrg, ⟨x, y, c0, c1⟩, f0, f1⟩ := hN.out.cell hlt
                          have HT' := hid (hT.out.oth (set_oth (i := j * 2) (j := j * 2 + 1) (x := .string ovS) (y := .int .i64 0)) hp' hrg)
                          have HN' := hid (hN.out.set hlt (.int .i64 0))
                          clear hT hN hp' hrg
                          go_wp2
                          go_roundw
                          case rel => exact ⟨j + 1, by omega, by go_num, HT', HN'⟩
                          case measure => simp [intOf]; omega
                        · obtain rfl : j = ms.length := by omega
                          obtain ⟨wF, hwF⟩ : ∃ wF, wF = wr := ⟨_, rfl⟩
                          subst hwF
                          have HTF := hT
                          have HNF := hN
                          obtain ⟨⟨xs, ho, hxs⟩, _⟩ := hN.out
                          have hxl : xs.length = ms.length * 2 := ho.1
                          have hB1 : B1 ≤ wF.heap.size := by
                            have h8 := HTF.out.g1.le
                            have h9 := lt_of_block HTF.out.g1.x
                            omega
                          have y1 := World.ownsRow.alloc ho (.cells #[.string ⟨#[109, 111, 114, 101]⟩, .int .i64 0] 56)
                          have HXs := hid hxs
                          clear hT hN ho hxs
                          go_wp2_with (at_builtin; go_must (refine wpList_append_lies _ rfl _ _ 30 rfl B1 56 i6 (.agg #[.string ⟨#[]⟩, .int .i64 0]) 2 24 Try.underlying30 hi6 hu0 hu1 hu2 rfl (by decide) (.slice no ms.length nc) ms.length xs rfl y1 ⟨wF.heap.size, 0, none⟩ 1 1 [.string ⟨#[109, 111, 114, 101]⟩, .int .i64 0] rfl (by rfl) (World.news_of_block (cs := #[.string ⟨#[109, 111, 114, 101]⟩, .int .i64 0]) (t := 56) (fr := (0, 0)) (heap_alloc_new wF _)) (by simp [Value.oneCell']) (by omega) (by unfold maxLen; omega) (by omega) (by simp; omega) (wF.heap.size + 1) (by simp) ?_; intro g9 c9 w16 hown9 hg9 hat9 hlt9; have HT6 := hid (HTF.out.grow HNF.out hg9); have hov := hid (more_cells hown9 hxl HXs.out); clear hown9 hg9 hat9 hlt9 HTF HNF HXs hxl y1))
                          go_loopw [204] (fun i wr => ∃ (j : Nat), j ≤ ms.length ∧ i = .int .i64 (j : Int) ∧ Hid (Below w16.heap.size w16 wr)) (fun i _ => ms.length - (intOf i).toNat)
                          case atStart => exact ⟨0, by omega, rfl, Below.refl _ _⟩
                          case round =>
                            obtain ⟨j, hj, rfl, hB⟩ := hrel
                            have hb6 := hB.out
                            by_cases hlt : j < ms.length
                            · obtain ⟨b2, rfl, c0, _⟩ := nmd_cell HT6.out.m hlt
                              have hne := HT.out.2.2.2.2 j hlt
                              have e0 := hov.out j hlt
                              generalize (ms.getD j nm0).1 = nm at c0 hne
                              obtain ⟨hne1, hne2⟩ := ov_list hne
                              have hne3 := of_eq_false hne1
                              replace c0 := ((bcell hb6).1 b2 _ (lt_of_cell c0)).trans c0
                              replace e0 := ((bcell hb6).1 g9 _ (lt_of_cell e0)).trans e0
                              have hjc : j + 1 ≤ ms.length := hlt
                              clear hne hB
                              go_wp2
                              go_roundw
                              case rel => exact ⟨j + 1, by omega, by go_num, hb6⟩
                              case measure => simp [intOf]; omega
                            · obtain rfl : j = ms.length := by omega
                              have HT7 := hid (HT6.out.next hb6)
                              obtain ⟨⟨⟨g0, g1⟩, ⟨h0, h1⟩, k0', k1'⟩, hz1, hz2, hz3⟩ := HT7.out.cells
                              have HTs := hid (show T.nodes.length ≤ 800 ∧ T.roots.length ≤ 4096 ∧ ∀ n ∈ T.nodes, n.args.length ≤ 4900 from ⟨HT.out.2.1, HT.out.2.2.1, HT.out.2.2.2.1⟩)
                              clear hB hb6 HT6 hov
                              go_wp2_with (first
                                | (go_at_call 24; go_must (refine (HTf.out.apart HTs.out hbL hL).mono ?_; rintro e z4 ⟨rfl, hBz⟩))
                                | (go_at_call 25; go_must (refine (HTf.out.lists HTs.out.1).mono ?_; rintro e z3 ⟨⟨g, c, rfl, hL⟩, hbL⟩))
                                | (go_at_call 16; go_must (refine (hsm.out z1 _ _ _ _ HTe.out.g2.og.gr HTe.out.g3.og.gr).mono ?_; rintro e z2 ⟨rfl, hbz2⟩; have HTf := hid (HTe.out.next hbz2); clear hbz2 e0 e1 e2 e3 e4 e5 ez1 ez2 ez3; obtain ⟨⟨⟨e0, e1⟩, ⟨e2, e3⟩, e4, e5⟩, ez1, ez2, ez3⟩ := HTf.out.cells))
                                | (go_at_call 23; go_must (refine (HT7.out.overC HTs.out).mono ?_; rintro e z1 ⟨rfl, hTe⟩; have HTe := hid hTe; clear hTe g0 g1 h0 h1 k0' k1' hz1 hz2 hz3; obtain ⟨⟨⟨e0, e1⟩, ⟨e2, e3⟩, e4, e5⟩, ez1, ez2, ez3⟩ := HTe.out.cells)))
                              go_ret
                              exact ⟨rfl, hBz⟩
end Go.Proofs.Ytncileojdighnaa

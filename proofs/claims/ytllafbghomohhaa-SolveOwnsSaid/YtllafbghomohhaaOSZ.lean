/- SolveOwns: what lies in memory. -/
import Derived.Test.YtllafbghomohhaaOOZ
import Derived.Test.YtllafbghomohhaaOKZ
import Derived.Test.YtllafbghomohhaaOPZ
import Derived.Test.YtllafbghomohhaaOQZ
import Derived.Test.YtllafbghomohhaaORZ
import Derived.Test.YtllafbghomohhaaRows
import Derived.Test.YtllafbghomohhaaGrGood
import Derived.ProofKit
import Derived.SizedLaws
import Derived.OpenShut
import Derived.ShutString
import Derived.Deep.Strs
import Derived.Test.YtllafbghomohhaaOEZ
namespace Go.Proofs.Ytllafbghomohhaa
open Go.RowKit

set_option maxRecDepth 100000 in
/-- Pairs, or none, are appended. -/
theorem papp {w : World} {B : Nat} {ao : Option Addr} {n c : Nat} {xs : List Value} (hown : w.ownsRow B 48 2 (.slice ao n c) n xs) (hB : B ≤ w.heap.size) {v : Value} {l : List (Int × Int)} (h : Rp w v l) (hn : n ≤ 10000) (hl : l.length ≤ 10000) :
    ∃ ao' c' w', (∀ ty, (Builtin.append_ #[26, 26] ty #[.slice ao n c, v]).run Try.prog w = .ok (.slice ao' (n + l.length) c') w') ∧ w'.ownsRow B 48 2 (.slice ao' (n + l.length) c') (n + l.length) (xs ++ pcI l) ∧ w.grownBy w' (Value.slice ao n c).ownBlock := by
  obtain ⟨i1, hi1, hy0, hy1, hy2⟩ := info_parts infoPr
  obtain ⟨pa, pc, rfl, hat⟩ := h
  by_cases h0 : 0 < l.length
  · obtain ⟨b, o, rfl, _⟩ := hat 0 h0
    have hc : ∀ j u, (pcI l)[j]? = some u → w.cell? ⟨b, o + j, none⟩ = some u := fun j u hu => by
      have hj : j < (pcI l).length := by
        rcases Nat.lt_or_ge j (pcI l).length with h | h
        · exact h
        · rw [List.getElem?_eq_none h] at hu
          cases hu
      rw [pcI_len] at hj
      obtain ⟨m, hm⟩ : ∃ m, j = m * 2 ∨ j = m * 2 + 1 := ⟨j / 2, by omega⟩
      rcases hm with rfl | rfl
      · obtain ⟨b2, o2, e, k0, _⟩ := hat m (by omega)
        injection e with e
        injection e with e1 e2 _
        subst e1 e2
        rw [(pcI_at l m (by omega)).1] at hu
        injection hu with hu
        rw [← hu]
        exact k0
      · obtain ⟨b2, o2, e, _, k1⟩ := hat m (by omega)
        injection e with e
        injection e with e1 e2 _
        subst e1 e2
        rw [(pcI_at l m (by omega)).2] at hu
        injection hu with hu
        rw [← hu]
        exact k1
    obtain ⟨g, cap, w', hr, ho, hg, _⟩ := run_append_lies (P := Try.prog) w 26 0 B 48 i1 (.agg #[.int .i64 0, .int .i64 0]) 2 16 Try.underlying26 hi1 hy0 hy1 hy2 rfl (by decide) _ n xs hown ⟨b, o, none⟩ l.length pc (pcI l) (pcI_len l) (fun j u hu => by rw [Addr.add_lit]; exact hc j u hu) (fun x hx => by
      obtain ⟨p, _, hp⟩ := List.mem_flatMap.1 hx
      rcases List.mem_cons.1 hp with rfl | hp
      · rfl
      · have : x = .int .i64 p.2 := by simpa using hp
        rw [this]
        rfl) h0 (by unfold maxLen; omega) (by omega) hB _ rfl
    exact ⟨_, _, w', fun ty => hr, ho, hg⟩
  · have el : l = [] := List.eq_nil_of_length_eq_zero (by omega)
    subst el
    have hr := run_app_empty (P := Try.prog) B 26 0 48 i1 2 Try.underlying26 hi1 _ n xs hown pa pc
    refine ⟨ao, c, w, fun ty => hr, ?_, ⟨rfl, rfl, rfl, Nat.le_refl _, fun _ _ _ => rfl⟩⟩
    simpa [pcI] using hown
theorem make_pairs (n : Nat) (hn : n ≤ 6000) (w : World) :
    (Instr.makeSlice 26 (.int .i64 0) (.int .i64 ((n : Int) + 1))).run Try.prog w = .ok (.slice (some ⟨w.heap.size, 0, none⟩) 0 (n + 1)) (w.alloc (.cells (madeCells #[.int .i64 0, .int .i64 0] ((n + 1) * 2)) 48)) := by
  obtain ⟨i0, hi, hz0, hz1, hz2⟩ := info_parts infoPr
  have := run_make (P := Try.prog) w 26 48 i0 (.agg #[.int .i64 0, .int .i64 0]) Try.underlying26 hi hz0 .i64 .i64 0 ((n : Int) + 1) (by omega) (by omega) (by rw [hz2]; omega) (by omega)
  rw [this, hz1]
  have e : ((n : Int) + 1).toNat = n + 1 := by omega
  simp only [e, Int.toNat_zero]
  rfl
/-- Rows of their own, behind a place, apart from one another. -/
structure Ob (w : World) (E0 : Nat) (vs : List Value) : Prop where
  ro : ∀ v ∈ vs, Rov w E0 v
  rng : ∀ k ∈ blocks vs, E0 ≤ k ∧ k < w.heap.size
  nd : (blocks vs).Nodup
theorem Ob.nil (w : World) (E0 : Nat) : Ob w E0 [] := ⟨fun _ h => by simp at h, fun _ h => by simp [blocks] at h, by simp [blocks]⟩
theorem Ob.keep {w w' : World} {E0 : Nat} {vs : List Value} (h : Ob w E0 vs) (hs : w.heap.size ≤ w'.heap.size) (hk : ∀ k, E0 ≤ k → k < w.heap.size → w'.heap[k]? = w.heap[k]?) : Ob w' E0 vs :=
  ⟨fun v hv => (h.ro v hv).keep (fun k ek => by
    have := h.rng k (List.mem_filterMap.2 ⟨v, hv, ek⟩)
    exact hk k this.1 this.2), fun k hk' => ⟨(h.rng k hk').1, by have := (h.rng k hk').2; omega⟩, h.nd⟩
theorem nd_disS {a b : List Value} (ha : (blocks a).Nodup) (hb : (blocks b).Nodup) (h : ∀ x ∈ blocks a, ∀ y ∈ blocks b, x ≠ y) : (blocks (a ++ b)).Nodup := by
  rw [blocks_app, List.nodup_append]
  exact ⟨ha, hb, h⟩
/-- What is new lies apart from what was there. -/
theorem Ob.add {w w' : World} {E0 : Nat} {vs us : List Value} (h : Ob w E0 vs) (hE : E0 ≤ w.heap.size) (hb : Below w.heap.size w w') (ro : ∀ v ∈ us, Rov w' E0 v) (rng : ∀ k ∈ blocks us, w.heap.size ≤ k ∧ k < w'.heap.size) (nd : (blocks us).Nodup) : Ob w' E0 (vs ++ us) := by
  have h' := h.keep hb.size (fun k _ hk => hb.block k hk)
  refine ⟨fun v hv => ?_, fun k hk => ?_, nd_disS h.nd nd (fun x hx y hy => by have := (h.rng x hx).2; have := (rng y hy).1; omega)⟩
  · rcases List.mem_append.1 hv with hv | hv
    · exact h'.ro v hv
    · exact ro v hv
  · rw [blocks_app] at hk
    rcases List.mem_append.1 hk with hk | hk
    · exact h'.rng k hk
    · have := rng k hk
      exact ⟨by omega, this.2⟩
/-- A graph that Solve has answered, in a box. -/
def Xg (E0 : Nat) (T : Gf) (q : Nat) (a r : Option Addr) (k d : Nat) (av : List Value) (w : World) : Prop :=
  E0 ≤ q ∧ w.heap[q]? = some (.cells #[.slice a T.nodes.length k, .slice r T.roots.length d] 25) ∧ ∃ B, E0 ≤ B ∧ B ≤ w.heap.size ∧ Og w B (.slice a T.nodes.length k) (.slice r T.roots.length d) av T
/-- A verdict, in a box. -/
def Yv (E0 : Nat) (kd : Int) (H : List Nat) (p : Nat) (a : Option Addr) (c : Nat) (w : World) : Prop :=
  E0 ≤ p ∧ w.heap[p]? = some (vbo kd (.slice a H.length c)) ∧ ∃ B, E0 ≤ B ∧ w.ownsRow B 3 1 (.slice a H.length c) H.length ((ints H).map (Value.int .i64))
/-- What behind a place stays as it is. -/
def Sbl (E0 : Nat) (w w' : World) : Prop := w.heap.size ≤ w'.heap.size ∧ ∀ k, E0 ≤ k → k < w.heap.size → w'.heap[k]? = w.heap[k]?
theorem sblB {E0 : Nat} {w w' : World} (hb : Below w.heap.size w w') : Sbl E0 w w' := ⟨hb.size, fun k _ hk => hb.block k hk⟩
theorem Xg.keep {E0 : Nat} {T : Gf} {q : Nat} {a r : Option Addr} {k d : Nat} {av : List Value} {w w' : World} (h : Xg E0 T q a r k d av w) (hs : Sbl E0 w w') : Xg E0 T q a r k d av w' := by
  obtain ⟨h1, h2, B, h3, h4, h5⟩ := h
  refine ⟨h1, (hs.2 q h1 (lt_of_block h2)).trans h2, B, h3, Nat.le_trans h4 hs.1, og_keep h5 (fun k hk hk2 => hs.2 k (by omega) hk2)⟩
theorem Yv.keep {E0 : Nat} {kd : Int} {H : List Nat} {p : Nat} {a : Option Addr} {c : Nat} {w w' : World} (h : Yv E0 kd H p a c w) (hs : Sbl E0 w w') : Yv E0 kd H p a c w' := by
  obtain ⟨h1, h2, B, h3, h4⟩ := h
  exact ⟨h1, (hs.2 p h1 (lt_of_block h2)).trans h2, B, h3, row_keep h4 (fun k hk => hs.2 k (by have := (h4.lt k hk).1; omega) (h4.lt k hk).2)⟩
theorem Xg.gr {E0 : Nat} {T : Gf} {q : Nat} {a r : Option Addr} {k d : Nat} {av : List Value} {w : World} (h : Xg E0 T q a r k d av w) : Gr w (.slice a T.nodes.length k) (.slice r T.roots.length d) T := by
  obtain ⟨_, _, B, _, _, h5⟩ := h
  exact h5.gr
theorem Yv.ri {E0 : Nat} {kd : Int} {H : List Nat} {p : Nat} {a : Option Addr} {c : Nat} {w : World} (h : Yv E0 kd H p a c w) : Ri w (.slice a H.length c) (ints H) := by
  obtain ⟨_, _, B, _, h4⟩ := h
  exact ri_ints h4
/-- Facts that stay, and rows apart. -/
structure Ph (E0 : Nat) (F : World → Prop) (vs : List Value) (w : World) : Prop where
  f : F w
  st : ∀ w w', F w → Sbl E0 w w' → F w'
  ob : Ob w E0 vs
theorem Ph.keep {E0 : Nat} {F : World → Prop} {vs : List Value} {w w' : World} (h : Ph E0 F vs w) (hs : Sbl E0 w w') : Ph E0 F vs w' := ⟨h.st w w' h.f hs, h.st, h.ob.keep hs.1 hs.2⟩
theorem Ph.nil (E0 : Nat) (w : World) : Ph E0 (fun _ => True) [] w := ⟨trivial, fun _ _ _ _ => trivial, Ob.nil w E0⟩
theorem Ph.addX {E0 : Nat} {F : World → Prop} {vs : List Value} {w w1 : World} {T : Gf} {a r : Option Addr} {k d : Nat} {av : List Value} (h : Ph E0 F vs w) (hE : E0 ≤ w.heap.size) (hb : Below w.heap.size w w1) (ho : Og w1 w.heap.size (.slice a T.nodes.length k) (.slice r T.roots.length d) av T) (hT : T.roots.length ≤ 4900 ∧ ∀ n ∈ T.nodes, n.args.length ≤ 4900) :
    Ph E0 (fun w => F w ∧ Xg E0 T w1.heap.size a r k d av w) (vs ++ (.slice r T.roots.length d :: av)) (w1.alloc (.cells #[.slice a T.nodes.length k, .slice r T.roots.length d] 25)) := by
  have hb2 := below_alloc w1 (.cells #[.slice a T.nodes.length k, .slice r T.roots.length d] 25)
  have hb3 := Below.next hb hb2
  have hs := hb.size
  have hO := Ow.of ho hs
  refine ⟨⟨h.st _ _ h.f (sblB hb3), by omega, heap_alloc_new w1 _, w.heap.size, hE, by simp; omega, ho.below hb2⟩, fun w w' hf hs => ⟨h.st w w' hf.1 hs, hf.2.keep hs⟩, ?_⟩
  refine (Ob.add h.ob hE hb (fun v hv => hO.ro hE hT.1 hT.2 v hv) (fun k hk => ⟨hO.lo k hk, hO.hi k hk⟩) hO.nd).keep hb2.size (fun k _ hk => hb2.block k hk)
theorem Ph.addY {E0 : Nat} {F : World → Prop} {vs : List Value} {w w1 : World} {kd : Int} {H : List Nat} {a : Option Addr} {c : Nat} (h : Ph E0 F vs w) (hE : E0 ≤ w.heap.size) (hb : Below w.heap.size w w1) (ho : w1.ownsRow w.heap.size 3 1 (.slice a H.length c) H.length ((ints H).map (Value.int .i64))) (hH : H.length ≤ 4900) :
    Ph E0 (fun w => F w ∧ Yv E0 kd H w1.heap.size a c w) (vs ++ [.slice a H.length c]) (w1.alloc (vbo kd (.slice a H.length c))) := by
  have hb2 := below_alloc w1 (vbo kd (.slice a H.length c))
  have hb3 := Below.next hb hb2
  have hs := hb.size
  have hil : (ints H).length = H.length := by simp [ints]
  have hR : Rw w1 w.heap.size w1.heap.size (.slice a H.length c) (ints H) := ⟨by rw [hil]; exact ho, hs, fun k e => (ho.lt k e).2⟩
  refine ⟨⟨h.st _ _ h.f (sblB hb3), by omega, heap_alloc_new w1 _, w.heap.size, hE, World.ownsRow.alloc ho _⟩, fun w w' hf hs => ⟨h.st w w' hf.1 hs, hf.2.keep hs⟩, ?_⟩
  refine (Ob.add h.ob hE hb (fun v hv => ?_) (fun k hk => hR.rng k hk) (nd_one _)).keep hb2.size (fun k _ hk => hb2.block k hk)
  have e : v = .slice a H.length c := by simpa using hv
  rw [e]
  exact hR.ro hE (by rw [hil]; exact hH)
theorem inst_self {w : World} {n r : Value} {g : Gf} (hG : Gr w n r g) (hS : Sized g) : Calls Try.prog 15 #[.agg #[n, r], .agg #[n, r]] w fun e w' => (∃ x y, e = .returned (.tuple #[x, y])) ∧ Below w.heap.size w w' := by
  by_cases h : one (chk g) = []
  · by_cases hi : ∃ S, Ins g g S
    · exact (instance_any hG hG hS hS h h true (iff_of_true rfl hi)).mono (fun e w' ⟨h1, h2⟩ => ⟨⟨_, _, h1⟩, h2⟩)
    · exact (instance_any hG hG hS hS h h false (iff_of_false (by decide) hi)).mono (fun e w' ⟨h1, h2⟩ => ⟨⟨_, _, h1⟩, h2⟩)
  · exact (instance_bad1 hG hG hS h).mono (fun e w' ⟨⟨ev, h1, _⟩, h2⟩ => ⟨⟨_, _, h1⟩, h2⟩)
end Go.Proofs.Ytllafbghomohhaa

/- SolveOwns: what the law holds on its way. -/
namespace Go.Proofs.Ytllafbghomohhaa
open Go.RowKit

/-- The marks behind the list of pairs. -/
abbrev m77 : List Value := [.int .i64 (-7), .int .i64 (-7)]
/-- What was handed in, its copy, the list of pairs with room behind it. -/
structure Bos (W : World) (nv rv : Value) (E0 m B gb cap mq mc : Nat) (avs : List Value) (lb lc : Nat) (g : Gf) (ps : List (Int × Int)) (w : World) : Prop where
  b : Below W.heap.size W w
  g0 : w.heap[W.heap.size]? = some (.cells #[nv, rv] 25)
  mb : w.heap[m]? = some (.cells #[.slice (some ⟨gb, 0, none⟩) g.nodes.length cap, .slice (some ⟨mq, 0, none⟩) g.roots.length mc] 25)
  hm : Hg w B gb cap (.slice (some ⟨mq, 0, none⟩) g.roots.length mc) avs g
  lr : w.ownsRow (W.heap.size + 1) 48 2 (.slice (some ⟨lb, 0, none⟩) (ps.length + 1) lc) (ps.length + 1) (pcI ps ++ m77)
  lbk : lb ∉ blocks (.slice (some ⟨gb, 0, none⟩) 0 0 :: .slice (some ⟨mq, 0, none⟩) g.roots.length mc :: avs)
  hB : W.heap.size ≤ B
  e0 : E0 ≤ w.heap.size
  hE : W.heap.size < E0 ∧ m < E0 ∧ lb < E0 ∧ ∀ k ∈ blocks (.slice (some ⟨gb, 0, none⟩) 0 0 :: .slice (some ⟨mq, 0, none⟩) g.roots.length mc :: avs), k < E0
section
variable {W w w' : World} {nv rv : Value} {E0 m B gb cap mq mc : Nat} {avs : List Value} {lb lc : Nat} {g : Gf} {ps : List (Int × Int)}
theorem Bos.next (h : Bos W nv rv E0 m B gb cap mq mc avs lb lc g ps w) (hb : Below w.heap.size w w') : Bos W nv rv E0 m B gb cap mq mc avs lb lc g ps w' :=
  ⟨Below.next h.b hb, (hb.block _ (lt_of_block h.g0)).trans h.g0, (hb.block _ (lt_of_block h.mb)).trans h.mb, h.hm.below hb, row_keep h.lr (fun k hk => hb.block k (h.lr.lt k hk).2), h.lbk, h.hB, Nat.le_trans h.e0 hb.size, h.hE⟩
theorem Bos.rp (h : Bos W nv rv E0 m B gb cap mq mc avs lb lc g ps w) : Rp w (.slice (some ⟨lb, 0, none⟩) ps.length lc) ps := by
  refine ⟨_, _, rfl, fun j hj => ⟨lb, 0, rfl, ?_⟩⟩
  obtain ⟨c0, c1⟩ := pcI_at ps j hj
  have hl := pcI_len ps
  refine ⟨?_, ?_⟩
  · rw [Nat.zero_add, h.lr.cellAt (j * 2) (by omega), List.getElem?_append_left (by omega)]; exact c0
  · rw [Nat.zero_add, h.lr.cellAt (j * 2 + 1) (by omega), List.getElem?_append_left (by omega)]; exact c1
theorem rp_at {w : World} {ao : Option Addr} {n c j : Nat} {l : List (Int × Int)} (h : Rp w (.slice ao n c) l) (hj : j < l.length) : ∃ b o, ao = some ⟨b, o, none⟩ ∧ w.cell? ⟨b, o + j * 2, none⟩ = some (.int .i64 (l.getD j (0, 0)).1) ∧ w.cell? ⟨b, o + j * 2 + 1, none⟩ = some (.int .i64 (l.getD j (0, 0)).2) := by
  obtain ⟨ao', c', e, hat⟩ := h
  injection e with e1 _ _
  subst e1
  exact hat j hj
theorem Bos.at_ (h : Bos W nv rv E0 m B gb cap mq mc avs lb lc g ps w) {j : Nat} (hj : j < ps.length) : w.cell? ⟨lb, j * 2, none⟩ = some (.int .i64 (ps.getD j (0, 0)).1) ∧ w.cell? ⟨lb, j * 2 + 1, none⟩ = some (.int .i64 (ps.getD j (0, 0)).2) := by
  obtain ⟨b, o, e, h0, h1⟩ := rp_at h.rp hj
  injection e with e
  injection e with e1 e2 _
  subst e1
  subst e2
  rw [Nat.zero_add] at h0 h1
  exact ⟨h0, h1⟩
theorem Bos.last (h : Bos W nv rv E0 m B gb cap mq mc avs lb lc g ps w) : (w.cell? ⟨lb, ps.length * 2, none⟩ = some (.int .i64 (-7)) ∧ w.cell? ⟨lb, ps.length * 2 + 1, none⟩ = some (.int .i64 (-7))) ∧ lb < w.heap.size ∧ ps.length + 1 ≤ lc := by
  have hl := pcI_len ps
  refine ⟨⟨?_, ?_⟩, (h.lr.lt lb rfl).2, own_cap h.lr⟩
  · rw [h.lr.cellAt (ps.length * 2) (by omega), List.getElem?_append_right (by omega), hl, Nat.sub_self]; rfl
  · rw [h.lr.cellAt (ps.length * 2 + 1) (by omega), List.getElem?_append_right (by omega), hl, show ps.length * 2 + 1 - ps.length * 2 = 1 by omega]; rfl
theorem Bos.cells (h : Bos W nv rv E0 m B gb cap mq mc avs lb lc g ps w) : ((w.cell? ⟨W.heap.size, 0, none⟩ = some nv ∧ w.cell? ⟨W.heap.size, 1, none⟩ = some rv) ∧ W.heap.size < w.heap.size) ∧ (w.cell? ⟨m, 0, none⟩ = some (.slice (some ⟨gb, 0, none⟩) g.nodes.length cap) ∧ w.cell? ⟨m, 1, none⟩ = some (.slice (some ⟨mq, 0, none⟩) g.roots.length mc)) ∧ m < w.heap.size := by
  obtain ⟨a, _⟩ := blk2y h.g0
  obtain ⟨b, _⟩ := blk2y h.mb
  exact ⟨⟨a, lt_of_block h.g0⟩, b, lt_of_block h.mb⟩
end
/-- The two rows become these. -/
theorem bs_start {W w3 w5 w6 : World} {nv rv : Value} {gb cap mq mc g2 c2 : Nat} {avs : List Value} {g : Gf} {ps : List (Int × Int)} {mx : Obj} (b : Below W.heap.size W w3) (g0 : w3.heap[W.heap.size]? = some (.cells #[nv, rv] 25)) {B : Nat} (hB : W.heap.size ≤ B) (hm : Hg w3 B gb cap (.slice (some ⟨mq, 0, none⟩) g.roots.length mc) avs g)
    {row : Option Nat} (hrow : ∀ k, row = some k → w3.heap.size + 1 ≤ k) (hb5 : Below (w3.alloc (.cells #[.slice (some ⟨gb, 0, none⟩) g.nodes.length cap, .slice (some ⟨mq, 0, none⟩) g.roots.length mc] 25)).heap.size (w3.alloc (.cells #[.slice (some ⟨gb, 0, none⟩) g.nodes.length cap, .slice (some ⟨mq, 0, none⟩) g.roots.length mc] 25)) w5)
    (hgr : (w5.alloc mx).grownBy w6 row) (ho : w6.ownsRow (w3.heap.size + 1) 48 2 (.slice (some ⟨g2, 0, none⟩) (ps.length + 1) c2) (ps.length + 1) (pcI ps ++ m77)) : Bos W nv rv w6.heap.size w3.heap.size B gb cap mq mc avs g2 c2 g ps w6 := by
  have hs5 := hb5.size
  have hs6 := hgr.size
  simp at hs5 hs6
  have hb6 : Below (w3.alloc (.cells #[.slice (some ⟨gb, 0, none⟩) g.nodes.length cap, .slice (some ⟨mq, 0, none⟩) g.roots.length mc] 25)).heap.size (w3.alloc (.cells #[.slice (some ⟨gb, 0, none⟩) g.nodes.length cap, .slice (some ⟨mq, 0, none⟩) g.roots.length mc] 25)) w6 := (hb5.alloc (by simp; omega) mx).grown hgr (by simp; omega) (fun k e => by
    have := hrow k e
    simp
    omega)
  have hb3 := Below.next (below_alloc w3 (.cells #[.slice (some ⟨gb, 0, none⟩) g.nodes.length cap, .slice (some ⟨mq, 0, none⟩) g.roots.length mc] 25)) hb6
  have hmb := (hb6.block _ (by simp)).trans (heap_alloc_new w3 (.cells #[.slice (some ⟨gb, 0, none⟩) g.nodes.length cap, .slice (some ⟨mq, 0, none⟩) g.roots.length mc] 25))
  have hz := lt_of_block g0
  exact ⟨Below.next b hb3, (hb3.block _ hz).trans g0, hmb, hm.below hb3, own_base ho (by omega), fun hk => (by have := (hm.rng g2 hk).2; have := (ho.lt g2 rfl).1; omega), hB, Nat.le_refl _, by omega, by omega, (ho.lt g2 rfl).2, fun k hk => by have := (hm.rng k hk).2; omega⟩
/-- Behind Over: what was handed in stands, and so does the list. -/
structure Lst (W : World) (nv rv : Value) (E0 lb lc n : Nat) (w : World) : Prop where
  b : Below W.heap.size W w
  g0 : w.heap[W.heap.size]? = some (.cells #[nv, rv] 25)
  lr : ∃ xs, xs.length = (n + 1) * 2 ∧ w.ownsRow (W.heap.size + 1) 48 2 (.slice (some ⟨lb, 0, none⟩) (n + 1) lc) (n + 1) xs
  e0 : E0 ≤ w.heap.size
  hE : W.heap.size < E0 ∧ lb < E0
theorem Lst.cell {W w : World} {nv rv : Value} {E0 lb lc n : Nat} (h : Lst W nv rv E0 lb lc n w) {j : Nat} (hj : j < n) : ∃ v0 v1, (w.cell? ⟨lb, j * 2, none⟩ = some v0 ∧ w.cell? ⟨lb, j * 2 + 1, none⟩ = some v1) ∧ (w.frozen? ⟨lb, j * 2, none⟩ = false ∧ w.frozen? ⟨lb, j * 2 + 1, none⟩ = false) ∧ lb < w.heap.size := by
  obtain ⟨xs, hl, ho⟩ := h.lr
  refine ⟨xs[j * 2]'(by omega), xs[j * 2 + 1]'(by omega), ⟨?_, ?_⟩, ⟨ho.frozenAt _, ho.frozenAt _⟩, (ho.lt lb rfl).2⟩
  · rw [ho.cellAt (j * 2) (by omega)]
    simp
  · rw [ho.cellAt (j * 2 + 1) (by omega)]
    simp
theorem Lst.set {W w : World} {nv rv : Value} {E0 lb lc n : Nat} (h : Lst W nv rv E0 lb lc n w) (i j : Nat) (u v : Value) : Lst W nv rv E0 lb lc n ((w.setCell ⟨lb, i, none⟩ u).setCell ⟨lb, j, none⟩ v) ∧ Sbl E0 w ((w.setCell ⟨lb, i, none⟩ u).setCell ⟨lb, j, none⟩ v) := by
  obtain ⟨xs, hl, ho⟩ := h.lr
  have hlb := (ho.lt lb rfl).1
  have h1 := (World.ownsRow.stored ho i u).1
  have h2 := (World.ownsRow.stored h1 j v).1
  have hE := h.hE
  refine ⟨⟨(h.b.setCell (p := ⟨lb, i, none⟩) (by show W.heap.size ≤ lb; omega) _).setCell (p := ⟨lb, j, none⟩) (by show W.heap.size ≤ lb; omega) _, ?_, ⟨(xs.set i u).set j v, by simp [hl], h2⟩, by simpa using h.e0, h.hE⟩, by simp, fun k h3 h4 => ?_⟩
  · rw [Below.heap_setCell _ _ _ _ (by show W.heap.size ≠ lb; omega), Below.heap_setCell _ _ _ _ (by show W.heap.size ≠ lb; omega)]
    exact h.g0
  · rw [Below.heap_setCell _ _ _ _ (by show k ≠ lb; omega), Below.heap_setCell _ _ _ _ (by show k ≠ lb; omega)]
theorem over_sbl {W w z : World} {nv rv : Value} {E0 m B gb cap mq mc : Nat} {avs : List Value} {lb lc : Nat} {g : Gf} {ps : List (Int × Int)} {o : Obj} {C : Nat} (h : Bos W nv rv E0 m B gb cap mq mc avs lb lc g ps w) (hO : Ov (w.alloc o) z gb (blocks (.slice (some ⟨gb, 0, none⟩) 0 0 :: .slice (some ⟨mq, 0, none⟩) g.roots.length mc :: avs)) C g.nodes.length avs) : Sbl E0 w z := by
  obtain ⟨⟨_, _, _, o4⟩, hfar⟩ := over_far hO
  exact ⟨o4, fun k h1 h2 => hfar k h2 (fun hk => by have := h.hE.2.2.2 k hk; omega)⟩
theorem over_lst {W w z : World} {nv rv : Value} {E0 m B gb cap mq mc : Nat} {avs : List Value} {lb lc : Nat} {g : Gf} {ps : List (Int × Int)} {o : Obj} {C : Nat} (h : Bos W nv rv E0 m B gb cap mq mc avs lb lc g ps w) (hO : Ov (w.alloc o) z gb (blocks (.slice (some ⟨gb, 0, none⟩) 0 0 :: .slice (some ⟨mq, 0, none⟩) g.roots.length mc :: avs)) C g.nodes.length avs) : Lst W nv rv E0 lb lc ps.length z := by
  obtain ⟨⟨o1, o2, o3, o4⟩, hfar⟩ := over_far hO
  have hty := h.hm.ty
  have hrg := h.hm.rng
  have hB := h.hB
  have hlt := h.lr.lt lb rfl
  obtain ⟨cur, hcur⟩ := own_block_obj h.lr rfl
  have hlb : lb ∉ blocks (.slice (some ⟨gb, 0, none⟩) 0 0 :: .slice (some ⟨mq, 0, none⟩) g.roots.length mc :: avs) := h.lbk
  refine ⟨⟨o1.trans h.b.os, o2.trans h.b.tape, o3.trans h.b.output, Nat.le_trans h.b.size o4, fun k hk => (hfar k (by have := h.b.size; omega) (fun hk' => by have := (hrg k hk').1; omega)).trans (h.b.block k hk)⟩, (hfar _ (lt_of_block h.g0) (fun hk => hty _ hk _ h.g0)).trans h.g0, ⟨pcI ps ++ m77, by simp [pcI_len]; omega, ?_⟩, Nat.le_trans h.e0 o4, h.hE.1, h.hE.2.2.1⟩
  refine row_keep h.lr (fun k hk => ?_)
  have e : lb = k := by simpa [Value.ownBlock] using hk
  subst e
  exact hfar lb hlt.2 hlb
/-- Behind the reference's Solve. -/
structure Zs (W : World) (nv rv : Value) (E0 : Nat) (F : World → Prop) (VS : List Value) (T : Gf) (q : Nat) (ga gr : Value) (w : World) : Prop where
  b : Below W.heap.size W w
  g0 : w.heap[W.heap.size]? = some (.cells #[nv, rv] 25)
  ph : Ph E0 F VS w
  x : w.heap[q]? = some (.cells #[ga, gr] 25)
  hx : Gr w ga gr T
  e0 : E0 ≤ w.heap.size
  lE : W.heap.size < E0
section
variable {W w w' : World} {nv rv : Value} {E0 : Nat} {F : World → Prop} {VS : List Value} {T : Gf} {q : Nat} {a b : Value}
theorem Zs.next (h : Zs W nv rv E0 F VS T q a b w) (hb : Below w.heap.size w w') : Zs W nv rv E0 F VS T q a b w' :=
  ⟨Below.next h.b hb, (hb.block _ (lt_of_block h.g0)).trans h.g0, h.ph.keep (sblB hb), (hb.block _ (lt_of_block h.x)).trans h.x, h.hx.below hb, Nat.le_trans h.e0 hb.size, h.lE⟩
theorem Zs.cells (h : Zs W nv rv E0 F VS T q a b w) : ((w.cell? ⟨W.heap.size, 0, none⟩ = some nv ∧ w.cell? ⟨W.heap.size, 1, none⟩ = some rv) ∧ W.heap.size < w.heap.size) ∧ (w.cell? ⟨q, 0, none⟩ = some a ∧ w.cell? ⟨q, 1, none⟩ = some b) ∧ q < w.heap.size := by
  obtain ⟨g0, _⟩ := blk2y h.g0
  obtain ⟨x0, _⟩ := blk2y h.x
  exact ⟨⟨g0, lt_of_block h.g0⟩, x0, lt_of_block h.x⟩
theorem Zs.mk2 {w1 : World} {lb lc n : Nat} {c d : Int} (h : Lst W nv rv E0 lb lc n w) (p : Ph E0 F VS w) (hb : Below w.heap.size w w1) (hg : Gr w1 a b T) : Zs W nv rv E0 F VS T w1.heap.size a b ((w1.alloc (.cells #[a, b] 25)).alloc (fbx c d)) := by
  have hb2 : Below w1.heap.size w1 ((w1.alloc (.cells #[a, b] 25)).alloc (fbx c d)) := (below_alloc w1 _).alloc (by simp) _
  have hb3 := Below.next hb hb2
  exact ⟨Below.next h.b hb3, (hb3.block _ (lt_of_block h.g0)).trans h.g0, p.keep (sblB hb3), (Below.heap_alloc _ _ _ (by simp)).trans (heap_alloc_new w1 _), hg.below hb2, Nat.le_trans h.e0 hb3.size, h.hE.1⟩
end
/-- Behind the reference's Verdict. -/
structure Zt (W : World) (nv rv : Value) (E0 : Nat) (F : World → Prop) (VS : List Value) (T : Gf) (q : Nat) (a b : Value) (k : Int) (H : List Nat) (p : Nat) (ao : Option Addr) (c : Nat) (w : World) : Prop where
  s : Zs W nv rv E0 F VS T q a b w
  y : w.heap[p]? = some (vbo k (.slice ao H.length c))
  hy : Ri w (.slice ao H.length c) (ints H)
section
variable {W w w' : World} {nv rv : Value} {E0 : Nat} {F : World → Prop} {VS : List Value} {T : Gf} {q : Nat} {a b : Value} {k : Int} {H : List Nat} {p : Nat} {ao : Option Addr} {c : Nat}
theorem Zt.next (h : Zt W nv rv E0 F VS T q a b k H p ao c w) (hb : Below w.heap.size w w') : Zt W nv rv E0 F VS T q a b k H p ao c w' := ⟨h.s.next hb, (hb.block _ (lt_of_block h.y)).trans h.y, h.hy.below hb⟩
theorem Zt.mk2 {w1 : World} {d e : Int} (h : Zs W nv rv E0 F VS T q a b w) (hb : Below w.heap.size w w1) (ho : w1.ownsRow w.heap.size 3 1 (.slice ao H.length c) H.length ((ints H).map (Value.int .i64))) : Zt W nv rv E0 F VS T q a b k H w1.heap.size ao c ((w1.alloc (vbo k (.slice ao H.length c))).alloc (fbx d e)) := by
  have hb2 : Below w1.heap.size w1 ((w1.alloc (vbo k (.slice ao H.length c))).alloc (fbx d e)) := (below_alloc w1 _).alloc (by simp) _
  exact ⟨h.next (Below.next hb hb2), (Below.heap_alloc _ _ _ (by simp)).trans (heap_alloc_new w1 _), (ri_ints ho).below hb2⟩
/-- All boxes that are read at the end. -/
theorem Zt.cells {q1 q2 p3 p4 : Nat} {a1 r1 a2 r2 a3 a4 : Option Addr} {k1 d1 k2 d2 c3 c4 : Nat} {v1 v2 : List Value} (h : Zt W nv rv E0 F VS T q a b k H p ao c w) (hF : ∀ w, F w → Xg E0 T q1 a1 r1 k1 d1 v1 w ∧ Xg E0 T q2 a2 r2 k2 d2 v2 w ∧ Yv E0 k H p3 a3 c3 w ∧ Yv E0 k H p4 a4 c4 w) :
    (((w.cell? ⟨q, 0, none⟩ = some a ∧ w.cell? ⟨q, 1, none⟩ = some b) ∧ q < w.heap.size) ∧ ((w.cell? ⟨p, 0, none⟩ = some (.int .i64 k) ∧ w.cell? ⟨p, 1, none⟩ = some (.slice ao H.length c)) ∧ p < w.heap.size)) ∧ ((w.cell? ⟨q1, 0, none⟩ = some (.slice a1 T.nodes.length k1) ∧ w.cell? ⟨q1, 1, none⟩ = some (.slice r1 T.roots.length d1)) ∧ q1 < w.heap.size) ∧ ((w.cell? ⟨q2, 0, none⟩ = some (.slice a2 T.nodes.length k2) ∧ w.cell? ⟨q2, 1, none⟩ = some (.slice r2 T.roots.length d2)) ∧ q2 < w.heap.size) ∧ ((w.cell? ⟨p3, 0, none⟩ = some (.int .i64 k) ∧ w.cell? ⟨p3, 1, none⟩ = some (.slice a3 H.length c3)) ∧ p3 < w.heap.size) ∧ ((w.cell? ⟨p4, 0, none⟩ = some (.int .i64 k) ∧ w.cell? ⟨p4, 1, none⟩ = some (.slice a4 H.length c4)) ∧ p4 < w.heap.size) := by
  obtain ⟨f1, f2, f3, f4⟩ := hF w h.s.ph.f
  obtain ⟨x0, _⟩ := blk2y h.s.x
  obtain ⟨y0, _⟩ := blk2y h.y
  obtain ⟨z1, _⟩ := blk2y f1.2.1
  obtain ⟨z2, _⟩ := blk2y f2.2.1
  obtain ⟨z3, _⟩ := blk2y f3.2.1
  obtain ⟨z4, _⟩ := blk2y f4.2.1
  exact ⟨⟨⟨x0, lt_of_block h.s.x⟩, y0, lt_of_block h.y⟩, ⟨z1, lt_of_block f1.2.1⟩, ⟨z2, lt_of_block f2.2.1⟩, ⟨z3, lt_of_block f3.2.1⟩, ⟨z4, lt_of_block f4.2.1⟩⟩
end
/-- The list is laid: the first append, to a row with room. -/
theorem list_first {w : World} {B n : Nat} {ps : List (Int × Int)} {pv : Value} (hP : Rp w pv ps) (hl : ps.length ≤ 5000) (hn : n = ps.length) (hB : B ≤ w.heap.size) {s : Nat} (hs : w.heap.size = s) :
    ∃ ao' c' w', (∀ ty, (Builtin.append_ #[26, 26] ty #[.slice (some ⟨s, 0, none⟩) 0 (n + 1), pv]).run Try.prog (w.alloc (.cells (madeCells #[.int .i64 0, .int .i64 0] ((n + 1) * 2)) 48)) = .ok (.slice ao' ps.length c') w') ∧ w'.ownsRow B 48 2 (.slice ao' ps.length c') ps.length (pcI ps) ∧ Below w.heap.size w w' ∧ ∀ k, (Value.slice ao' ps.length c').ownBlock = some k → w.heap.size ≤ k := by
  subst hs
  have hmo := World.ownsRow_made (base := w.heap.size) (e := 48) (size := 2) w (madeCells #[.int .i64 0, .int .i64 0] ((n + 1) * 2)) (n + 1) (Nat.le_refl _) (by unfold maxLen; omega) (by simp [size_madeCells])
  have hbm := below_alloc w (.cells (madeCells #[.int .i64 0, .int .i64 0] ((n + 1) * 2)) 48)
  obtain ⟨ao', c', w', hr, ho, hg⟩ := papp hmo (by simp) (hP.below hbm) (Nat.zero_le _) (by omega)
  rw [Nat.zero_add] at ho
  simp only [Nat.zero_add] at hr
  have ho' : w'.ownsRow w.heap.size 48 2 (.slice ao' ps.length c') ps.length (pcI ps) := by simpa using ho
  refine ⟨ao', c', w', hr, own_base ho' hB, hbm.grown hg (by simp) (fun k e => ?_), fun k e => (ho'.lt k e).1⟩
  injection e with e
  subst e
  exact Nat.le_refl _
end Go.Proofs.Ytllafbghomohhaa

/- SolveOwns: the lists of two answers, marked. -/
namespace Go.Proofs.Ytllafbghomohhaa
open Go.RowKit

abbrev lst1 (a1 : Option Addr) (n1 k1 : Nat) (r1 : Option Addr) (m1 d1 : Nat) (a2 : Option Addr) (n2 k2 : Nat) (r2 : Option Addr) (m2 d2 : Nat) : Obj := .cells #[.slice a1 n1 k1, .slice r1 m1 d1, .slice a2 n2 k2, .slice r2 m2 d2] 25
theorem lists2S {w : World} {s E0 q1 q2 : Nat} {T : Gf} {a1 r1 a2 r2 : Option Addr} {k1 d1 k2 d2 : Nat} {v1 v2 : List Value} (hs : w.heap[s]? = some (lst1 a1 T.nodes.length k1 r1 T.roots.length d1 a2 T.nodes.length k2 r2 T.roots.length d2)) (X1 : Xg E0 T q1 a1 r1 k1 d1 v1 w) (X2 : Xg E0 T q2 a2 r2 k2 d2 v2 w) (hT : T.nodes.length ≤ 2000) :
    Calls Try.prog 19 #[.slice (some ⟨s, 0, none⟩) 2 2] w fun e w' => (∃ ao c, e = .returned (.slice ao (flat [(.slice r1 T.roots.length d1, v1), (.slice r2 T.roots.length d2, v2)]).length c) ∧ w'.ownsRow w.heap.size 23 1 (.slice ao (flat [(.slice r1 T.roots.length d1, v1), (.slice r2 T.roots.length d2, v2)]).length c) (flat [(.slice r1 T.roots.length d1, v1), (.slice r2 T.roots.length d2, v2)]).length (flat [(.slice r1 T.roots.length d1, v1), (.slice r2 T.roots.length d2, v2)])) ∧ Below w.heap.size w w' := by
  obtain ⟨_, _, B1, _, hB1, O1⟩ := X1
  obtain ⟨_, _, B2, _, hB2, O2⟩ := X2
  have T1 := Ow.of O1 hB1
  have T2 := Ow.of O2 hB2
  have q1 := O1.on.len
  have q2 := O2.on.len
  obtain ⟨l1, e1, n1⟩ := T1.cells
  obtain ⟨l2, e2, n2⟩ := T2.cells
  have hfl : (flat [(.slice r1 T.roots.length d1, v1), (.slice r2 T.roots.length d2, v2)]).length ≤ 5000 := by simp [flat]; omega
  rw [e1] at hs
  have e3 : v1.length = v2.length := by omega
  refine hLists_any (L := [(.slice r1 T.roots.length d1, v1), (.slice r2 T.roots.length d2, v2)]) ⟨_, _, _, rfl, fun j hj => ?_⟩ hfl (by simp)
  have hj' : j = 0 ∨ j = 1 := by simp at hj; omega
  rcases hj' with rfl | rfl
  · exact ⟨l1, by simp [World.cell?, hs], a1, k1, by simp [World.cell?, hs], n1⟩
  · exact ⟨l2, by simp [World.cell?, hs], a2, k2, by simp [World.cell?, hs, e3], n2⟩
/-- Four boxes. -/
structure Bx4 (T : Gf) (kd : Int) (H : List Nat) (q1 q2 p3 p4 : Nat) (a1 r1 a2 r2 a3 a4 : Option Addr) (k1 d1 k2 d2 c3 c4 : Nat) (w : World) : Prop where
  x1 : w.heap[q1]? = some (.cells #[.slice a1 T.nodes.length k1, .slice r1 T.roots.length d1] 25)
  x2 : w.heap[q2]? = some (.cells #[.slice a2 T.nodes.length k2, .slice r2 T.roots.length d2] 25)
  y3 : w.heap[p3]? = some (vbo kd (.slice a3 H.length c3))
  y4 : w.heap[p4]? = some (vbo kd (.slice a4 H.length c4))
section
variable {T : Gf} {kd : Int} {H : List Nat} {q1 q2 p3 p4 : Nat} {a1 r1 a2 r2 a3 a4 : Option Addr} {k1 d1 k2 d2 c3 c4 : Nat} {w w' : World}
theorem Bx4.next (h : Bx4 T kd H q1 q2 p3 p4 a1 r1 a2 r2 a3 a4 k1 d1 k2 d2 c3 c4 w) (hb : Below w.heap.size w w') : Bx4 T kd H q1 q2 p3 p4 a1 r1 a2 r2 a3 a4 k1 d1 k2 d2 c3 c4 w' :=
  ⟨(hb.block _ (lt_of_block h.x1)).trans h.x1, (hb.block _ (lt_of_block h.x2)).trans h.x2, (hb.block _ (lt_of_block h.y3)).trans h.y3, (hb.block _ (lt_of_block h.y4)).trans h.y4⟩
theorem Bx4.cells (h : Bx4 T kd H q1 q2 p3 p4 a1 r1 a2 r2 a3 a4 k1 d1 k2 d2 c3 c4 w) : w.cell? ⟨q1, 0, none⟩ = some (.slice a1 T.nodes.length k1) ∧ w.cell? ⟨q1, 1, none⟩ = some (.slice r1 T.roots.length d1) ∧ w.cell? ⟨q2, 0, none⟩ = some (.slice a2 T.nodes.length k2) ∧ w.cell? ⟨q2, 1, none⟩ = some (.slice r2 T.roots.length d2) ∧ w.cell? ⟨p3, 1, none⟩ = some (.slice a3 H.length c3) ∧ w.cell? ⟨p4, 1, none⟩ = some (.slice a4 H.length c4) := by
  obtain ⟨⟨z1, z1'⟩, _⟩ := blk2y h.x1
  obtain ⟨⟨z2, z2'⟩, _⟩ := blk2y h.x2
  obtain ⟨⟨_, z3⟩, _⟩ := blk2y h.y3
  obtain ⟨⟨_, z4⟩, _⟩ := blk2y h.y4
  exact ⟨z1, z1', z2, z2', z3, z4⟩
theorem box_end {z4 z5 : World} {E0 : Nat} {VS : List Value} (ro : ∀ v ∈ VS, Rov z4 E0 v) (hAf : Af z4 z5 VS) {q : Nat} {cs : Array Value} {T : TypeId} (hT : T ≠ 3) (hq : z4.heap[q]? = some (.cells cs T)) : z5.heap[q]? = some (.cells cs T) := by
  refine (hAf.far q (lt_of_block hq) (fun hk => ?_)).trans hq
  obtain ⟨v, hv, e⟩ := List.mem_filterMap.1 hk
  obtain ⟨l, _, ho⟩ := ro v hv
  obtain ⟨cur, hc, _⟩ := own_block_obj ho e
  rw [hq] at hc
  injection hc with hc
  injection hc with _ hc
  exact hT hc
theorem Bx4.fin {z4 z5 : World} {E0 : Nat} {VS : List Value} (h : Bx4 T kd H q1 q2 p3 p4 a1 r1 a2 r2 a3 a4 k1 d1 k2 d2 c3 c4 z4) (ro : ∀ v ∈ VS, Rov z4 E0 v) (hAf : Af z4 z5 VS) : Bx4 T kd H q1 q2 p3 p4 a1 r1 a2 r2 a3 a4 k1 d1 k2 d2 c3 c4 z5 :=
  ⟨box_end ro hAf (by decide) h.x1, box_end ro hAf (by decide) h.x2, box_end ro hAf (by decide) h.y3, box_end ro hAf (by decide) h.y4⟩
end
/-- Rows behind an append elsewhere. -/
theorem Ob.grown {W x z z4 : World} {E0 : Nat} {VS : List Value} {row : Option Nat} (ob : Ob x E0 VS) (hb : Below W.heap.size W x) (hE : W.heap.size < E0 ∧ E0 ≤ x.heap.size) (hbz : Below x.heap.size x z) (hrow : ∀ k, row = some k → x.heap.size ≤ k) (hg : z.grownBy z4 row) : (∀ v ∈ VS, Rov z4 E0 v) ∧ (blocks VS).Nodup ∧ (∀ k ∈ blocks VS, E0 ≤ k) ∧ Below x.heap.size x z4 ∧ Below W.heap.size W z4 ∧ E0 ≤ z4.heap.size := by
  have h1 : Below x.heap.size x z4 := hbz.grown hg hbz.size hrow
  have h2 := ob.keep h1.size (fun k _ hk => h1.block k hk)
  exact ⟨h2.ro, h2.nd, fun k hk => (h2.rng k hk).1, h1, Below.next hb h1, Nat.le_trans hE.2 h1.size⟩
theorem own_done {W z4 z5 : World} {E0 : Nat} {VS : List Value} (hb : Below W.heap.size W z4) (hE : W.heap.size < E0) (hk : ∀ k ∈ blocks VS, E0 ≤ k) (hAf : Af z4 z5 VS) : Below W.heap.size W z5 := by
  refine ⟨hAf.os.trans hb.os, hAf.tape.trans hb.tape, hAf.output.trans hb.output, Nat.le_trans hb.size hAf.size, fun k hk' => ?_⟩
  rw [hAf.far k (by have := hb.size; omega) (fun h => by have := hk k h; omega)]
  exact hb.block k hk'
theorem listsAt {x w : World} {s E0 q1 q2 : Nat} {T : Gf} {a1 r1 a2 r2 : Option Addr} {k1 d1 k2 d2 : Nat} {v1 v2 : List Value} {FL : List Value} (hFL : FL = flat [(.slice r1 T.roots.length d1, v1), (.slice r2 T.roots.length d2, v2)]) (hb : Below x.heap.size x w) (hE : E0 ≤ x.heap.size) (hs : w.heap[s]? = some (lst1 a1 T.nodes.length k1 r1 T.roots.length d1 a2 T.nodes.length k2 r2 T.roots.length d2)) (X1 : Xg E0 T q1 a1 r1 k1 d1 v1 x) (X2 : Xg E0 T q2 a2 r2 k2 d2 v2 x) (hT : T.nodes.length ≤ 2000) :
    Calls Try.prog 19 #[.slice (some ⟨s, 0, none⟩) 2 2] w fun e w' => (∃ ao c, e = .returned (.slice ao FL.length c) ∧ w'.ownsRow E0 23 1 (.slice ao FL.length c) FL.length FL ∧ ∀ k, (Value.slice ao FL.length c).ownBlock = some k → x.heap.size ≤ k) ∧ Below x.heap.size x w' ∧ Below w.heap.size w w' := by
  subst hFL
  refine (lists2S hs (X1.keep (sblB hb)) (X2.keep (sblB hb)) hT).mono ?_
  rintro e w' ⟨⟨ao, c, rfl, h⟩, hb'⟩
  have hsz := hb.size
  exact ⟨⟨ao, c, rfl, own_base h (by omega), fun k ek => by have := (h.lt k ek).1; omega⟩, Below.next hb hb', hb'⟩
end Go.Proofs.Ytllafbghomohhaa

/- What the laws of layer 4 share: arguments that are graphs, rows of graphs, rows of numbers, walks. -/
namespace Go.Proofs.Ytllafbghomohhaa
open Go.ChangeShapes Go.WideShapes Go.ChangeAt Go.RowKit Go.Deep

theorem own : ownKnob Try.prog.godebug = none := by kernel_rfl
theorem laidOut : laidOutB Try.prog = true := by kernel_rfl
theorem cellsI : Try.prog.cellsOf 3 = 1 := by kernel_rfl
theorem cellsS : Try.prog.cellsOf 9 = 1 := by kernel_rfl
theorem cellsIs : Try.prog.cellsOf 23 = 1 := by kernel_rfl
theorem cellsNs : Try.prog.cellsOf 22 = 1 := by kernel_rfl
theorem cellsN : Try.prog.cellsOf 56 = 4 := by kernel_rfl
theorem cellsG : Try.prog.cellsOf 25 = 2 := by kernel_rfl
theorem wf_i64 {n : Int} (h : (Lit.int .i64 n).wf = true) : -9223372036854775808 ≤ n ∧ n ≤ 9223372036854775807 := by
  have h1 : IntKind.i64.min = -9223372036854775808 := rfl
  have h2 : IntKind.i64.max = 9223372036854775807 := rfl
  simp only [Lit.wf, Bool.and_eq_true, decide_eq_true_eq] at h
  omega
/-- A row of numbers among what came in, read off its cells. -/
theorem ints_of_cells {H : Type} {enc : TypeId × Value → H} {W : World} {fuel : Nat} {u : Value} {x : DataW H × List MemPlace} (h : DataW.trod enc Try.prog W 0 (fun _ => true) true fuel 23 [u] = some x) :
    ∃ l : List Int, Ri W u l ∧ l.length ≤ 9223372036854775807 := by
  rcases open_ints Try.underlying23 Try.underlying3 cellsI h with ⟨hcs, hx⟩ | ⟨a, len, cap, zs, hcs, _, hl, hm, hz, hx, hcell, hwz⟩
  · simp at hcs
    subst hcs
    exact ⟨[], Ri.nil _, by simp⟩
  · simp at hcs
    subst hcs
    simp only [if_true] at hz
    have hlen : (zs.take len).length = len := by simp; omega
    refine ⟨zs.take len, ⟨some a, cap, by rw [hlen], fun j hj => ?_⟩, by rw [hlen]; unfold maxLen at hm; omega⟩
    rw [hlen] at hj
    obtain ⟨b, off, spot⟩ := a
    have hspot : spot = none := by simpa [Addr.add] using World.cell?_spot (hcell 0 (by omega))
    subst hspot
    refine ⟨b, off, rfl, ?_⟩
    have := hcell j (by omega)
    rw [add_plain] at this
    rw [this]
    simp [List.getD, hj]
set_option maxRecDepth 100000 in
theorem ints_of {H : Type} {enc : TypeId × Value → H} {W : World} {base : Nat} {u : Value} {d : DataW H} {p : List MemPlace} (hv : Value.okWide Try.prog W .any base 23 u) (h : DataW.Trod enc Try.prog W 0 (fun _ => true) true 23 u d p) :
    ∃ l : List Int, Ri W u l ∧ l.length ≤ 9223372036854775807 := by
  obtain ⟨a, len, cap, rfl⟩ := okWide_slice Try.underlying23 hv
  obtain ⟨fuel, hf⟩ := h
  have hf' : DataW.trod enc Try.prog W 0 (fun _ => true) true fuel 23 [.slice a len cap] = some (d, p) := by simpa [Value.cells] using hf
  exact ints_of_cells hf'
set_option maxRecDepth 100000 in
/-- One node among what came in, read off its four cells. -/
theorem node_of_cells {H : Type} {enc : TypeId × Value → H} {W : World} {fuel : Nat} {cs : List Value} {x : DataW H × List MemPlace} (h : DataW.trod enc Try.prog W 0 (fun _ => true) true fuel 56 cs = some x) :
    ∃ (n : Nd) (av : Value), cs = [.int .i64 n.kind, .string n.name, .int .i64 n.num, av] ∧ Ri W av n.args ∧ n.name.size ≤ 9223372036854775807 := by
  obtain ⟨xs, n, _, hx, hl, hlen, hf⟩ := DataW.trod_struct Try.underlying56 h
  rw [cellsN] at hl
  match cs, hl with
  | [c0, c1, c2, c3], _ =>
    match xs, hlen with
    | [y0, y1, y2, y3], _ =>
      have h0 := hf 0 _ rfl
      have h1 := hf 1 _ rfl
      have h2 := hf 2 _ rfl
      have h3 := hf 3 _ rfl
      simp [cellsI] at h0 h2
      simp [cellsS] at h1
      simp [cellsIs] at h3
      obtain ⟨a0, e0, _, w0⟩ := DataW.trod_int Try.underlying3 h0
      obtain ⟨a1, e1, _, w1⟩ := DataW.trod_string Try.underlying9 h1
      obtain ⟨a2, e2, _, w2⟩ := DataW.trod_int Try.underlying3 h2
      obtain ⟨l, hr, _⟩ := ints_of_cells h3
      simp at e0 e1 e2
      subst e0 e1 e2
      exact ⟨⟨a0, a1, a2, l⟩, c3, rfl, hr, by unfold maxLen at w1; exact w1⟩
/-- A row of nodes among what came in, read off its cells. -/
theorem nodes_of_cells {H : Type} {enc : TypeId × Value → H} {W : World} {fuel : Nat} {u : Value} {x : DataW H × List MemPlace} (h : DataW.trod enc Try.prog W 0 (fun _ => true) true fuel 22 [u] = some x) :
    ∃ l : List Nd, Rn W u l ∧ (∀ n ∈ l, n.name.size ≤ 9223372036854775807) ∧ l.length ≤ 9223372036854775807 := by
  rcases Go.Deep.open_slice Try.underlying22 h with ⟨hcs, _⟩ | ⟨ad, len, cap, m, n, D, Pl, hcs, _, hl, hm, hmm, _, hel⟩
  · simp at hcs
    subst hcs
    exact ⟨[], Rn.nil _, by simp, by simp⟩
  · simp at hcs
    subst hcs
    simp only [if_true] at hmm
    rw [cellsN] at hel
    have each : ∀ i, ∃ (n : Nd) (av : Value), i < len → (Ri W av n.args ∧ n.name.size ≤ 9223372036854775807) ∧ W.cells? 0 (ad.add (i * 4)) 4 = some [.int .i64 n.kind, .string n.name, .int .i64 n.num, av] := fun i => by
      by_cases hi : i < len
      · obtain ⟨cs', hc, ht⟩ := hel i (by omega)
        obtain ⟨n, av, rfl, h1, h2⟩ := node_of_cells ht
        exact ⟨n, av, fun _ => ⟨⟨h1, h2⟩, hc⟩⟩
      · exact ⟨nd0, .nilIface, fun h => absurd h hi⟩
    obtain ⟨ns, hns⟩ : ∃ ns : Nat → Nd, ∀ i, ∃ av : Value, i < len → (Ri W av (ns i).args ∧ (ns i).name.size ≤ 9223372036854775807) ∧ W.cells? 0 (ad.add (i * 4)) 4 = some [.int .i64 (ns i).kind, .string (ns i).name, .int .i64 (ns i).num, av] :=
      ⟨fun i => Classical.choose (each i), fun i => Classical.choose_spec (each i)⟩
    refine ⟨(List.range len).map ns, ⟨some ad, cap, by simp, fun j hj => ?_⟩, fun n hn => ?_, by simp; unfold maxLen at hm; omega⟩
    · have hj' : j < len := by simpa using hj
      obtain ⟨b, off, spot⟩ := ad
      obtain ⟨av, hav⟩ := hns j
      obtain ⟨⟨h1, h2⟩, h3⟩ := hav hj'
      have hcj := (World.cells?_some h3).2.2
      have hspot : spot = none := by
        obtain ⟨av0, hav0⟩ := hns 0
        have := (World.cells?_some (hav0 (by omega)).2).2.2 0 (by omega)
        simp at this
        simpa [Addr.add] using World.cell?_spot this
      subst hspot
      have e : ∀ i, ((⟨b, off, none⟩ : Addr).add (j * 4)).add i = ⟨b, off + j * 4 + i, none⟩ := fun i => by rw [add_plain, add_plain]
      have hg : ((List.range len).map ns).getD j nd0 = ns j := by simp [List.getD, hj']
      refine ⟨b, off, av, rfl, ?_⟩
      rw [hg]
      refine ⟨?_, ?_, ?_, ?_, h1⟩
      · have := hcj 0 (by omega); rw [e] at this; simpa using this
      · have := hcj 1 (by omega); rw [e] at this; simpa using this
      · have := hcj 2 (by omega); rw [e] at this; simpa using this
      · have := hcj 3 (by omega); rw [e] at this; simpa using this
    · obtain ⟨i, hi, rfl⟩ := List.mem_map.1 hn
      obtain ⟨av, hav⟩ := hns i
      exact (hav (List.mem_range.1 hi)).1.2
set_option maxRecDepth 100000 in
/-- A graph among what came in, read off its two cells. -/
theorem graph_of_cells {H : Type} {enc : TypeId × Value → H} {W : World} {fuel : Nat} {cs : List Value} {x : DataW H × List MemPlace} (h : DataW.trod enc Try.prog W 0 (fun _ => true) true fuel 25 cs = some x) :
    ∃ (nv rv : Value) (g : Gf), cs = [nv, rv] ∧ Gr W nv rv g ∧ Sized g := by
  obtain ⟨xs, n, _, hx, hl, hlen, hf⟩ := DataW.trod_struct Try.underlying25 h
  rw [cellsG] at hl
  match cs, hl with
  | [c0, c1], _ =>
    match xs, hlen with
    | [y0, y1], _ =>
      have h0 := hf 0 _ rfl
      have h1 := hf 1 _ rfl
      simp [cellsNs] at h0
      simp [cellsIs] at h1
      obtain ⟨ns, hr, hs, _⟩ := nodes_of_cells h0
      obtain ⟨l, hr', _⟩ := ints_of_cells h1
      exact ⟨c0, c1, ⟨ns, l⟩, rfl, ⟨hr, hr'⟩, hs⟩
set_option maxRecDepth 100000 in
theorem graph_of {H : Type} {enc : TypeId × Value → H} {W : World} {base : Nat} {u : Value} {d : DataW H} {p : List MemPlace} (hv : Value.okWide Try.prog W .any base 25 u) (h : DataW.Trod enc Try.prog W 0 (fun _ => true) true 25 u d p) :
    ∃ (nv rv : Value) (g : Gf), u = .agg #[nv, rv] ∧ Gr W nv rv g ∧ Sized g := by
  obtain ⟨cs, rfl, hsz⟩ := okWide_struct Try.underlying25 hv
  obtain ⟨fuel, hf⟩ := h
  have hf' : DataW.trod enc Try.prog W 0 (fun _ => true) true fuel 25 cs.toList = some (d, p) := by simpa [Value.cells] using hf
  obtain ⟨nv, rv, g, hc, h1, h2⟩ := graph_of_cells hf'
  refine ⟨nv, rv, g, ?_, h1, h2⟩
  congr 1
  exact Array.toList_inj.1 (by simpa using hc)
end Go.Proofs.Ytllafbghomohhaa

/- Pairs of numbers among what came in. -/
namespace Go.Proofs.Ytllafbghomohhaa
open Go.ChangeShapes Go.WideShapes Go.ChangeAt Go.RowKit Go.Deep

theorem cellsP : Try.prog.cellsOf 48 = 2 := by kernel_rfl
theorem undP : Try.prog.underlying 48 = some (.array 2 3) := by kernel_rfl
/-- An array of two numbers, taken apart. -/
theorem pair_of_cells {H : Type} {enc : TypeId × Value → H} {W : World} {fuel : Nat} {c0 c1 : Value} {x : DataW H × List MemPlace} (h : DataW.trod enc Try.prog W 0 (fun _ => true) true fuel 48 [c0, c1] = some x) :
    ∃ a b : Int, c0 = .int .i64 a ∧ c1 = .int .i64 b := by
  cases fuel with
  | zero => simp [DataW.trod] at h
  | succ n =>
    unfold DataW.trod at h
    rw [undP] at h
    have r2 : List.range 2 = [0, 1] := rfl
    simp only [r2, cellsI] at h
    cases h0 : DataW.trod enc Try.prog W 0 (fun _ => true) true n 3 [c0] with
    | none => simp [h0] at h
    | some y0 =>
      cases h1 : DataW.trod enc Try.prog W 0 (fun _ => true) true n 3 [c1] with
      | none => simp [h0, h1] at h
      | some y1 =>
        obtain ⟨a, e0, _, _⟩ := DataW.trod_int Try.underlying3 h0
        obtain ⟨b, e1, _, _⟩ := DataW.trod_int Try.underlying3 h1
        simp at e0 e1
        exact ⟨a, b, e0, e1⟩
theorem pairs_of_cells {H : Type} {enc : TypeId × Value → H} {W : World} {fuel : Nat} {u : Value} {x : DataW H × List MemPlace} (h : DataW.trod enc Try.prog W 0 (fun _ => true) true fuel 26 [u] = some x) :
    ∃ l : List (Int × Int), Rp W u l ∧ l.length ≤ 9223372036854775807 := by
  rcases Go.Deep.open_slice Try.underlying26 h with ⟨hcs, _⟩ | ⟨ad, len, cap, m, n, D, Pl, hcs, _, hl, hm, hmm, _, hel⟩
  · simp at hcs
    subst hcs
    exact ⟨[], ⟨none, 0, rfl, fun _ h => absurd h (Nat.not_lt_zero _)⟩, by simp⟩
  · simp at hcs
    subst hcs
    simp only [if_true] at hmm
    rw [cellsP] at hel
    have each : ∀ i, ∃ p : Int × Int, i < len → W.cells? 0 (ad.add (i * 2)) 2 = some [.int .i64 p.1, .int .i64 p.2] := fun i => by
      by_cases hi : i < len
      · obtain ⟨cs', hc, ht⟩ := hel i (by omega)
        have hlen := (World.cells?_some hc).2.1
        match cs', hlen with
        | [c0, c1], _ =>
          obtain ⟨a, b, rfl, rfl⟩ := pair_of_cells ht
          exact ⟨(a, b), fun _ => hc⟩
      · exact ⟨(0, 0), fun h => absurd h hi⟩
    obtain ⟨ps, hps⟩ := Classical.axiomOfChoice each
    refine ⟨(List.range len).map ps, ⟨some ad, cap, by simp, fun j hj => ?_⟩, by simp; unfold maxLen at hm; omega⟩
    have hj' : j < len := by simpa using hj
    obtain ⟨b, off, spot⟩ := ad
    have hcj := (World.cells?_some (hps j hj')).2.2
    have hspot : spot = none := by
      have := (World.cells?_some (hps 0 (by omega))).2.2 0 (by omega)
      simp at this
      simpa [Addr.add] using World.cell?_spot this
    subst hspot
    have e : ∀ i, ((⟨b, off, none⟩ : Addr).add (j * 2)).add i = ⟨b, off + j * 2 + i, none⟩ := fun i => by rw [add_plain, add_plain]
    have hg : ((List.range len).map ps).getD j (0, 0) = ps j := by simp [List.getD, hj']
    refine ⟨b, off, rfl, ?_⟩
    rw [hg]
    constructor
    · have := hcj 0 (by omega); rw [e] at this; simpa using this
    · have := hcj 1 (by omega); rw [e] at this; simpa using this
set_option maxRecDepth 100000 in
theorem pairs_of {H : Type} {enc : TypeId × Value → H} {W : World} {base : Nat} {u : Value} {d : DataW H} {p : List MemPlace} (hv : Value.okWide Try.prog W .any base 26 u) (h : DataW.Trod enc Try.prog W 0 (fun _ => true) true 26 u d p) :
    ∃ l : List (Int × Int), Rp W u l ∧ l.length ≤ 9223372036854775807 := by
  obtain ⟨a, len, cap, rfl⟩ := okWide_slice Try.underlying26 hv
  obtain ⟨fuel, hf⟩ := h
  have hf' : DataW.trod enc Try.prog W 0 (fun _ => true) true fuel 26 [.slice a len cap] = some (d, p) := by simpa [Value.cells] using hf
  exact pairs_of_cells hf'
end Go.Proofs.Ytllafbghomohhaa

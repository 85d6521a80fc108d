/- A graph that is built; the ends of nodes. -/
import Derived.Deep.AppendLies
import Derived.Deep.RegionHeld3
import Derived.StillTailTactics
import Derived.Test.Ytncileojdighnaana27Z
import Derived.Test.Ytncileojdighnaana04Z
import Derived.Test.Ytncileojdighnaana26Z
namespace Go.Proofs.Ytncileojdighnaa
set_option maxRecDepth 100000
open Go.RowKit
def EI (E : Nat → Nat) (x : Int) : Int := ((E x.toNat : Nat) : Int)
theorem Ri.mo {w w' : World} {v : Value} {l : List Int} {S : Nat → Prop} (h : Ri w v l) (hm : Mo S w w') (hne : ∀ b, l ≠ [] → v.ownBlock = some b → ¬ S b) (h0 : ∀ b o n c, v = .slice (some ⟨b, o, none⟩) n c → o = 0) : Ri w' v l := by
  obtain ⟨ao, c, rfl, hc⟩ := h
  refine ⟨ao, c, rfl, fun j hj => ?_⟩
  obtain ⟨b, o, rfl, hx⟩ := hc j hj
  have ho := h0 b o _ _ rfl
  subst ho
  refine ⟨b, 0, rfl, ?_⟩
  rw [World.cell?_of_block (w := w) (a := ⟨b, 0 + j, none⟩) (hm.block b (lt_of_cell hx) (hne b (fun e => by rw [e] at hj; simp at hj) rfl))]
  exact hx
theorem ints_at {L : List Nat} {n : Nat} (h : n < L.length) : ((ints L).map (Value.int .i64))[n]? = some (.int .i64 ((L.getD n 0 : Nat) : Int)) := by
  simp [ints, List.getD, h]
theorem ints_set {L : List Nat} {n v : Nat} : ((ints L).map (Value.int .i64)).set n (.int .i64 (v : Int)) = (ints (L.set n v)).map (Value.int .i64) := by
  simp [ints, List.map_set]
def Lr (L : List Nat) (r : Nat → Nat) : Prop := ∀ n, n < L.length → L.getD n 0 ≠ n → r (L.getD n 0) < r n
theorem Lr.half {L : List Nat} {E r : Nat → Nat} (h : Ld L E) (hr : Lr L r) {n : Nat} (hn : n < L.length) : Lr (L.set n (L.getD (L.getD n 0) 0)) r := fun i hi hne => by
  have h1 := h.rng n hn
  rw [List.length_set] at hi
  rw [getD_setN hn] at hne ⊢
  split
  · rename_i e
    subst e
    rw [if_pos rfl] at hne
    have e1 : L.getD i 0 ≠ i := fun e => hne (by rw [e, e])
    have a1 := hr i hn e1
    by_cases e2 : L.getD (L.getD i 0) 0 = L.getD i 0
    · rw [e2]; exact a1
    · have a2 := hr _ h1 e2
      omega
  · rename_i e
    rw [if_neg e] at hne
    exact hr i hi hne
structure Gp (S : Nat) (w : World) (gb : Nat) (gv rv : Value) (avs : List Value) (nds : List Nd) (rts : List Int) : Prop where
  lo : S ≤ gb
  box : w.heap[gb]? = some (.cells #[gv, rv] 29)
  n : w.ownsRow S 63 4 gv nds.length (ncells nds avs)
  len : avs.length = nds.length
  a : ∀ j, j < nds.length → ∃ ao c, avs.getD j undef = .slice ao (nds.getD j nd0).args.length c ∧ w.ownsRow S 3 1 (.slice ao (nds.getD j nd0).args.length c) (nds.getD j nd0).args.length ((nds.getD j nd0).args.map (Value.int .i64))
  r : w.ownsRow S 3 1 rv rts.length (rts.map (Value.int .i64))
section
variable {S : Nat} {w w' : World} {gb : Nat} {gv rv : Value} {avs : List Value} {nds : List Nd} {rts : List Int}
theorem Gp.keep (h : Gp S w gb gv rv avs nds rts) (hm : ∀ k, S ≤ k → k < w.heap.size → w'.heap[k]? = w.heap[k]?) : Gp S w' gb gv rv avs nds rts := by
  have kr : ∀ {e : TypeId} {z : Nat} {v : Value} {n : Nat} {xs : List Value}, w.ownsRow S e z v n xs → w'.ownsRow S e z v n xs := fun ho => row_keep ho (fun k hk => hm k (ho.lt k hk).1 (ho.lt k hk).2)
  refine ⟨h.lo, (hm gb h.lo (lt_of_block h.box)).trans h.box, kr h.n, h.len, fun j hj => ?_, kr h.r⟩
  obtain ⟨ao, c, e, ho⟩ := h.a j hj
  exact ⟨ao, c, e, kr ho⟩
theorem Gp.gr (h : Gp S w gb gv rv avs nds rts) : Gr w gv rv ⟨nds, rts⟩ := by
  obtain ⟨ra, rc, rfl⟩ := own_sl h.r
  refine ⟨?_, Ri.ofOwn h.r⟩
  obtain ⟨na, nc, rfl⟩ := own_sl h.n
  refine ⟨na, nc, rfl, fun j hj => ?_⟩
  obtain ⟨ao, c, e, ho⟩ := h.a j hj
  rcases h.n.2 with ⟨_, h0⟩ | ⟨g, cap, cur, e1, _⟩
  · have hj' : j < nds.length := hj
    omega
  · have e2 : na = some ⟨g, 0, none⟩ := by injection e1
    subst e2
    obtain ⟨c0, c1, c2, c3⟩ := ncells_at nds avs j h.len hj
    have hj' : j < nds.length := hj
    have k0 := h.n.cellAt (j * 4) (by omega)
    have k1 := h.n.cellAt (j * 4 + 1) (by omega)
    have k2 := h.n.cellAt (j * 4 + 2) (by omega)
    have k3 := h.n.cellAt (j * 4 + 3) (by omega)
    rw [c0] at k0
    rw [c1] at k1
    rw [c2] at k2
    rw [c3, e] at k3
    exact ⟨g, 0, _, rfl, by rw [Nat.zero_add]; exact k0, by rw [Nat.zero_add]; exact k1, by rw [Nat.zero_add]; exact k2, by rw [Nat.zero_add]; exact k3, Ri.ofOwn ho⟩
theorem Gp.push {w2 : World} {o : Obj} {g cap : Nat} {nd : Nd} {ao : Option Addr} {ac : Nat} (h : Gp S w gb gv rv avs nds rts) (ha : w.ownsRow S 3 1 (.slice ao nd.args.length ac) nd.args.length (nd.args.map (Value.int .i64)))
    (hown : w2.ownsRow S 63 4 (.slice (some ⟨g, 0, none⟩) (nds.length + 1) cap) (nds.length + 1) (ncells nds avs ++ [.int .i64 nd.kind, .string nd.name, .int .i64 nd.num, .slice ao nd.args.length ac])) (hg : (w.alloc o).grownBy w2 gv.ownBlock) :
    Gp S (w2.setCell ⟨gb, 0, none⟩ (.slice (some ⟨g, 0, none⟩) (nds.length + 1) cap)) gb (.slice (some ⟨g, 0, none⟩) (nds.length + 1) cap) rv (avs ++ [.slice ao nd.args.length ac]) (nds ++ [nd]) rts := by
  have hs := hg.size
  simp at hs
  have hzb := lt_of_block h.box
  have hgn : ∀ k, gv.ownBlock = some k → k ≠ gb := fun k hk => by
    obtain ⟨cur, hc⟩ := row_obj h.n hk
    exact obj_ne hc h.box (by decide)
  have b2 : w2.heap[gb]? = some (.cells #[gv, rv] 29) := by
    rw [hg.block gb (by simp; omega) (fun e => hgn gb e.symm rfl), Below.heap_alloc _ _ _ hzb]
    exact h.box
  have hgb : g ≠ gb := by
    obtain ⟨cur, hc⟩ := row_obj hown (k := g) rfl
    exact obj_ne hc b2 (by decide)
  have ki : ∀ {v : Value} {n : Nat} {xs : List Value}, w.ownsRow S 3 1 v n xs → (w2.setCell ⟨gb, 0, none⟩ (.slice (some ⟨g, 0, none⟩) (nds.length + 1) cap)).ownsRow S 3 1 v n xs := fun ho => row_keep ho (fun k hk => by
    obtain ⟨cur, hc⟩ := row_obj ho hk
    have hlt := (ho.lt k hk).2
    rw [Below.heap_setCell _ _ _ _ (obj_ne hc h.box (by decide)), hg.block k (by simp; omega) (fun e => by
      obtain ⟨cur2, hc2⟩ := row_obj h.n e.symm
      exact absurd rfl (obj_ne hc hc2 (by decide))), Below.heap_alloc _ _ _ hlt])
  refine ⟨h.lo, blk2_set0 b2, ?_, by simp [h.len], fun j hj => ?_, ki h.r⟩
  · rw [ncells_snoc nds avs nd _ h.len, List.length_append]
    refine row_keep (w := w2) hown (fun k hk => ?_)
    have e : g = k := by simpa [Value.ownBlock] using hk
    subst e
    exact Below.heap_setCell _ _ _ _ hgb
  · by_cases hj' : j < nds.length
    · obtain ⟨ao', c', e, ho⟩ := h.a j hj'
      have e1 : (nds ++ [nd]).getD j nd0 = nds.getD j nd0 := by simp [List.getD, List.getElem?_append_left hj']
      have e2 : (avs ++ [Value.slice ao nd.args.length ac]).getD j undef = avs.getD j undef := by simp [List.getD, List.getElem?_append_left (show j < avs.length by rw [h.len]; exact hj')]
      rw [e1, e2]
      exact ⟨ao', c', e, ki ho⟩
    · have ej : j = nds.length := by simp at hj; omega
      subst ej
      have e1 : (nds ++ [nd]).getD nds.length nd0 = nd := by simp [List.getD]
      have e2 : (avs ++ [Value.slice ao nd.args.length ac]).getD nds.length undef = .slice ao nd.args.length ac := by rw [← h.len]; simp [List.getD]
      rw [e1, e2]
      exact ⟨ao, ac, rfl, ki ha⟩
end
def gE (st : List Nd) (rs : List Int) (E : Nat → Nat) : Gf := ⟨st.map (renum (EI E)), rs.map (EI E)⟩
theorem og_keep {w w' : World} {B : Nat} {nv rv : Value} {avs : List Value} {g : Gf} (h : Og w B nv rv avs g) (hm : ∀ k, B ≤ k → k < w.heap.size → w'.heap[k]? = w.heap[k]?) : Og w' B nv rv avs g := by
  have kr : ∀ {e : TypeId} {z : Nat} {v : Value} {n : Nat} {xs : List Value}, w.ownsRow B e z v n xs → w'.ownsRow B e z v n xs := fun ho => row_keep ho (fun k hk => hm k (ho.lt k hk).1 (ho.lt k hk).2)
  refine ⟨⟨kr h.on.n, h.on.len, fun j hj => ?_, h.on.nd⟩, h.nsl, ?_, h.ap⟩
  · obtain ⟨ao, c, e, ho⟩ := h.on.a j hj
    exact ⟨ao, c, e, kr ho⟩
  · obtain ⟨ao, c, e, ho⟩ := h.r
    exact ⟨ao, c, e, kr ho⟩
end Go.Proofs.Ytncileojdighnaa

namespace Go.Proofs.Ytncileojdighnaa
set_option maxRecDepth 100000
open Go.RowKit
theorem iso_met {g t : Gf} (hg : Good g) (ht : Good t) {F : Int → Int} (hF : ∀ x ∈ metF g, ∀ y ∈ metF g, F x = F y → x = y) (hn : ∀ x ∈ metF g, t.nd (F x) = renum F (g.nd x)) (hr : t.roots = g.roots.map F) : metF t = (metF g).map F ∧ ∀ x ∈ metF g, posF (metF t) (F x) = posF (metF g) x := by
  have hc := met_arg hg
  have hS : In (metF g) [] := ⟨List.nodup_nil, by simp⟩
  have hta : ∀ x ∈ metF g, t.argsOf (F x) = (g.argsOf x).map F := fun x hx => by
    have := hn x hx
    show (t.nd (F x)).args = _
    rw [this]
    rfl
  have hml := (met_ok hg).le
  have hlen : ((metF g).map F).length = (metF g).length := by simp
  have h1 := meet_map hc hF hta g.nodes.length g.roots [] (met_root hg) hS
  have hcS : ∀ x ∈ (metF g).map F, ∀ y ∈ t.argsOf x, y ∈ (metF g).map F := fun x hx y hy => by
    obtain ⟨z, hz, rfl⟩ := List.mem_map.1 hx
    rw [hta z hz] at hy
    obtain ⟨u, hu, rfl⟩ := List.mem_map.1 hy
    exact List.mem_map.2 ⟨u, hc z hz u hu, rfl⟩
  have hrS : ∀ x ∈ t.roots, x ∈ (metF g).map F := fun x hx => by
    rw [hr] at hx
    obtain ⟨z, hz, rfl⟩ := List.mem_map.1 hx
    exact List.mem_map.2 ⟨z, met_root hg z hz, rfl⟩
  have hS' : In ((metF g).map F) [] := ⟨List.nodup_nil, by simp⟩
  have hin := meet_inS hcS t.nodes.length t.roots [] hrS hS'
  have hmt : metF t = (metF g).map F := by
    have h2 := meet_fuel hcS (g.nodes.length + t.nodes.length) g.nodes.length t.roots [] hrS hS' (by rw [hlen]; simp; omega) (by rw [hlen]; simp; omega)
    have hcT := met_arg ht
    have hST : In (metF t) [] := ⟨List.nodup_nil, by simp⟩
    have hmlt := (met_ok ht).le
    have h3 := meet_fuel hcT t.nodes.length (g.nodes.length + t.nodes.length) t.roots [] (met_root ht) hST (by simp; omega) (by simp; omega)
    have h4 : metF t = meetF t t.nodes.length t.roots [] := rfl
    rw [h4, h3, h2, hr]
    exact h1
  have hpos : ∀ x ∈ metF g, posF (metF t) (F x) = posF (metF g) x := fun x hx => by
    rw [hmt]
    unfold posF
    rw [if_pos hx, if_pos (List.mem_map.2 ⟨x, hx, rfl⟩), pos_map (fun y hy e => hF y hy x hx e)]
  exact ⟨hmt, hpos⟩
theorem Pr.place {a b : Gf} (ha : Good a) (hb : Good b) {ea eb : Nat → Nat → Bool} (hda : ∀ x y : Nat, (ea x y = true ↔ Al a (x : Int) (y : Int))) (hdb : ∀ x y : Nat, (eb x y = true ↔ Al b (x : Int) (y : Int))) {R : Int → Int → Prop} (h : Pr a b R) : ∀ x y, R x y → clsI ea a.nodes.length x ∈ metF (quoF ea a) → clsI eb b.nodes.length y ∈ metF (quoF eb b) ∧ lstI eb b y = lstI ea a x := by
  have hA := quo_good ha (al_eqv ha hda)
  have hB := quo_good hb (al_eqv hb hdb)
  let Q : Int → Int → Prop := fun c d => ∃ x y, R x y ∧ clsI ea a.nodes.length x = c ∧ clsI eb b.nodes.length y = d
  have hfun : ∀ c d d', Q c d → Q c d' → d = d' := by
    rintro c d d' ⟨x, y, r, rfl, rfl⟩ ⟨x', y', r', e, rfl⟩
    have h1 := h.rng x y r
    have h2 := h.rng x' y' r'
    exact (cls_al hb hdb h1.2 h2.2).2 (h.al r r' ((cls_al ha hda h1.1 h2.1).1 e.symm))
  have hinj : ∀ c c' d, Q c d → Q c' d → c = c' := by
    rintro c c' d ⟨x, y, r, rfl, rfl⟩ ⟨x', y', r', rfl, e⟩
    have h1 := h.rng x y r
    have h2 := h.rng x' y' r'
    exact (cls_al ha hda h1.1 h2.1).2 (h.symm.al r r' ((cls_al hb hdb h1.2 h2.2).1 e.symm))
  have hFex : ∃ F : Int → Int, ∀ c d, Q c d → F c = d := by
    refine ⟨fun c => @dite _ (∃ d, Q c d) (Classical.propDecidable _) (fun hx => Classical.choose hx) (fun _ => 0), fun c d hcd => ?_⟩
    have hx : ∃ d, Q c d := ⟨d, hcd⟩
    show @dite _ (∃ d, Q c d) (Classical.propDecidable _) (fun hx => Classical.choose hx) (fun _ => 0) = d
    rw [dif_pos hx]
    exact hfun c _ d (Classical.choose_spec hx) hcd
  obtain ⟨F, hF⟩ := hFex
  have hstep : ∀ c d, Q c d → (quoF eb b).nd (F c) = renum F ((quoF ea a).nd c) ∧ ∀ y ∈ (quoF ea a).argsOf c, ∃ d, Q y d := by
    rintro c d ⟨x, y, r, rfl, rfl⟩
    have hr := h.rng x y r
    have hl := h.lab x y r
    rw [hF _ _ ⟨x, y, r, rfl, rfl⟩, quo_nd hb hdb hr.2]
    have ea1 : (quoF ea a).argsOf (clsI ea a.nodes.length x) = (a.nd x).args.map (clsI ea a.nodes.length) := by
      show ((quoF ea a).nd _).args = _
      rw [quo_nd ha hda hr.1]
      rfl
    refine ⟨?_, fun z hz => ?_⟩
    · rw [quo_nd ha hda hr.1]
      unfold renum
      simp only
      rw [hl.1, hl.2.1, hl.2.2.1]
      congr 1
      apply list_ext0
      · simp [hl.2.2.2]
      · intro j hj
        have hj' : j < (b.nd y).args.length := by simpa using hj
        have hjx : j < (a.nd x).args.length := by rw [hl.2.2.2]; exact hj'
        have e2 : ((b.nd y).args.map (clsI eb b.nodes.length)).getD j 0 = clsI eb b.nodes.length (b.arg y j) := by simp [Gf.arg, List.getD, hj']
        have e3 : (((a.nd x).args.map (clsI ea a.nodes.length)).map F).getD j 0 = F (clsI ea a.nodes.length (a.arg x j)) := by simp [Gf.arg, List.getD, hjx]
        rw [e2, e3]
        exact (hF _ _ ⟨_, _, h.arg x y r j hjx, rfl, rfl⟩).symm
    · rw [ea1] at hz
      obtain ⟨u, hu, rfl⟩ := List.mem_map.1 hz
      obtain ⟨j, hj, rfl⟩ := list_mem_getD hu
      exact ⟨_, _, _, h.arg x y r j hj, rfl, rfl⟩
  have hmet : ∀ c ∈ metF (quoF ea a), ∃ d, Q c d := by
    refine meet_in (fun c => ∃ d, Q c d) (fun c hc y hy => ?_) _ _ _ (fun c hc => ?_) (by simp)
    · obtain ⟨d, hd⟩ := hc
      exact (hstep c d hd).2 y hy
    · obtain ⟨z, hz, rfl⟩ := List.mem_map.1 hc
      obtain ⟨i, hi, rfl⟩ := list_mem_getD hz
      exact ⟨_, _, _, h.root i hi, rfl, rfl⟩
  have hall := iso_met hA hB (F := F) (fun c hc c' hc' e => ?_) (fun c hc => ?_) ?_
  · intro x y r hx
    have e := hF _ _ ⟨x, y, r, rfl, rfl⟩
    refine ⟨?_, ?_⟩
    · rw [hall.1, ← e]
      exact List.mem_map.2 ⟨_, hx, rfl⟩
    · unfold lstI
      rw [← e]
      exact hall.2 _ hx
  · obtain ⟨d, hd⟩ := hmet c hc
    obtain ⟨d', hd'⟩ := hmet c' hc'
    rw [hF c d hd, hF c' d' hd'] at e
    subst e
    exact hinj c c' d hd hd'
  · obtain ⟨d, hd⟩ := hmet c hc
    exact (hstep c d hd).1
  · show b.roots.map _ = (a.roots.map _).map F
    apply list_ext0
    · simp [h.len]
    · intro j hj
      have hj' : j < b.roots.length := by simpa using hj
      have hja : j < a.roots.length := by rw [h.len]; exact hj'
      have e2 : (b.roots.map (clsI eb b.nodes.length)).getD j 0 = clsI eb b.nodes.length (b.roots.getD j 0) := by simp [List.getD, hj']
      have e3 : ((a.roots.map (clsI ea a.nodes.length)).map F).getD j 0 = F (clsI ea a.nodes.length (a.roots.getD j 0)) := by simp [List.getD, hja]
      rw [e2, e3]
      exact (hF _ _ ⟨_, _, h.root j hja, rfl, rfl⟩).symm
end Go.Proofs.Ytncileojdighnaa

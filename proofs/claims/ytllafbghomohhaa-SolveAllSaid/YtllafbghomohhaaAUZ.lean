/- SolveAll, at any graph and pairs. -/
import Derived.Test.YtllafbghomohhaaATZ
import Derived.Test.YtllafbghomohhaaAOZ
import Derived.Test.YtllafbghomohhaaRows
import Derived.Test.YtllafbghomohhaaGrGood
import Derived.ProofKit
import Derived.SizedLaws
import Derived.OpenShut
import Derived.ShutString
import Derived.Deep.Strs
import Derived.Test.YtllafbghomohhaaAFZ
namespace Go.Proofs.Ytllafbghomohhaa
open Go.RowKit

theorem fits_none : Fits ⟨[], []⟩ := ⟨by simp, by simp, fun n hn => by simp at hn⟩
theorem solveAll_walk {W : World} (n1 r1 : Value) (g : Gf) (hG : Gr W n1 r1 g) (zG : Sized g) (pv : Value) (ps : List (Int × Int)) (hP : Rp W pv ps) (zP : ps.length ≤ 9223372036854775807) :
    Calls Try.prog 3 #[.agg #[n1, r1], pv] W fun e w' => e = .returned (.bool true) ∧ Below W.heap.size W w' := by
  obtain ⟨na, nc, rfl, _⟩ := hG.1
  obtain ⟨ra, rc, rfl, _⟩ := hG.2
  have hP0 := hP
  obtain ⟨pa, pc, rfl, _⟩ := hP0
  by_cases sg : (!smallK 40 g || decide (40 < ps.length)) = true
  · exact sall_short (fun w hb => slarge_any (hG.below hb) (hP.below hb) sg.symm zP)
  · have sg' : false = (!smallK 40 g || decide (40 < ps.length)) := by simpa using sg
    have hl : ps.length ≤ 5000 := by
      simp at sg
      omega
    have hla := fun w (hb : Below W.heap.size W w) => slarge_any (hG.below hb) (hP.below hb) sg' zP
    by_cases hc : chkS g ps = []
    · obtain ⟨hg, hpg⟩ := chkS_good hc
      by_cases hn : NoSol g.nodes (ps.map natP)
      · refine sall_main false (0, 0) (fun h => h = ⟨[], []⟩) (fun h t h1 h2 => h1.trans h2.symm) (fun h h1 => h1 ▸ fits_none) 1 [] (by simp) hla (fun w hb => ?_) (fun w hb => ?_) (fun w hb => ?_) (fun w hb => ?_)
        · refine (solve_no (hG.below hb) zG (hP.below hb) hl hc hn).mono ?_
          rintro e w' ⟨rfl, h2⟩
          exact ⟨⟨none, 0, 0, none, 0, 0, .nilIface, ⟨[], []⟩, rfl, gr_none w', rfl, rfl⟩, h2⟩
        · refine (rsol_no (hG.below hb) zG (hP.below hb) hl hc hn).mono ?_
          rintro e w' ⟨rfl, h2⟩
          exact ⟨⟨none, 0, 0, none, 0, 0, ⟨[], []⟩, rfl, gr_none w', rfl⟩, h2⟩
        · refine (verdict_no (hG.below hb) zG (hP.below hb) hl hc hn).mono ?_
          rintro e w' ⟨rfl, h2⟩
          exact ⟨⟨none, 0, .nilIface, rfl, World.ownsRow_nil _ _ _ _, rfl⟩, h2⟩
        · refine (rver_no (hG.below hb) zG (hP.below hb) hl hc hn).mono ?_
          rintro e w' ⟨rfl, h2⟩
          exact ⟨⟨none, 0, rfl, World.ownsRow_nil _ _ _ _⟩, h2⟩
      · have hA := goodA_of hg
        have hex : ∃ E, Un g.nodes (ps.map natP) E [] := by
          rcases un_all hA _ (ps.map natP) rfl (psg_nat hpg) with h | h
          · exact h
          · exact absurd h hn
        obtain ⟨E, hU⟩ := hex
        refine sall_main true (0, 0) (LeastS g ps) (fun h t h1 h2 => leastS_uniq hg (fun R _ => Iff.rfl) h1 h2) (fun h h1 => fits_good (sol_good hg h1)) (if (hangF g.nodes E g.nodes.length).length = 0 then 2 else 3) (hangF g.nodes E g.nodes.length) (by have h1 := hangF_le g.nodes E g.nodes.length; have h2 := hg.nodes; omega) hla (fun w hb => ?_) (fun w hb => ?_) (fun w hb => ?_) (fun w hb => ?_)
        · refine (solve_yes (hG.below hb) zG (hP.below hb) hl hc hn).mono ?_
          rintro e w' ⟨⟨t, na, nc, ra, rc, avs, h1, h3, h4⟩, h2⟩
          exact ⟨⟨na, _, nc, ra, _, rc, .nilIface, t, h1, h4.gr, rfl, h3⟩, h2⟩
        · refine (rsol_yes (hG.below hb) zG (hP.below hb) hl hc hn).mono ?_
          rintro e w' ⟨⟨na, nc, ra, rc, t, h1, h3, h4⟩, h2⟩
          exact ⟨⟨na, _, nc, ra, _, rc, t, h1, h3, h4⟩, h2⟩
        · refine (verdict_yes (hG.below hb) zG (hP.below hb) hl hc hn).mono ?_
          rintro e w' ⟨⟨F, ao, c, hV, h1, h3⟩, h2⟩
          rw [hang_uniq hV hU] at h1 h3
          exact ⟨⟨ao, c, .nilIface, h1, h3, rfl⟩, h2⟩
        · refine (rver_yes (hG.below hb) zG (hP.below hb) hl hc hn).mono ?_
          rintro e w' ⟨⟨F, ao, c, hV, h1, h3⟩, h2⟩
          rw [hang_uniq hV hU] at h1 h3
          exact ⟨⟨ao, c, h1, h3⟩, h2⟩
    · refine sall_main false (chkP g ps) (fun h => h = ⟨[], []⟩) (fun h t h1 h2 => h1.trans h2.symm) (fun h h1 => h1 ▸ fits_none) 0 [] (by simp) hla (fun w hb => ?_) (fun w hb => ?_) (fun w hb => ?_) (fun w hb => ?_)
      · refine (solve_bad (hG.below hb) zG (hP.below hb) hl hc).mono ?_
        rintro e w' ⟨⟨ev, rfl, he⟩, h2⟩
        rw [← chkP_one] at he
        exact ⟨⟨none, 0, 0, none, 0, 0, ev, ⟨[], []⟩, rfl, gr_none w', he, rfl⟩, h2⟩
      · refine (rsol_bad (hG.below hb) zG (hP.below hb) hl hc).mono ?_
        rintro e w' ⟨rfl, h2⟩
        exact ⟨⟨none, 0, 0, none, 0, 0, ⟨[], []⟩, rfl, gr_none w', rfl⟩, h2⟩
      · refine (verdict_bad (hG.below hb) zG (hP.below hb) hl hc).mono ?_
        rintro e w' ⟨⟨ev, rfl, he⟩, h2⟩
        rw [← chkP_one] at he
        exact ⟨⟨none, 0, ev, rfl, World.ownsRow_nil _ _ _ _, he⟩, h2⟩
      · refine (rver_bad (hG.below hb) zG (hP.below hb) hl hc).mono ?_
        rintro e w' ⟨rfl, h2⟩
        exact ⟨⟨none, 0, rfl, World.ownsRow_nil _ _ _ _⟩, h2⟩
end Go.Proofs.Ytllafbghomohhaa

/- What the laws of layer 4 share: arguments that are graphs, rows of graphs, rows of numbers, walks. -/
namespace Go.Proofs.Ytllafbghomohhaa
open Go.ChangeShapes Go.WideShapes Go.ChangeAt Go.RowKit Go.Deep

theorem own : ownKnob Try.prog.godebug = none := by kernel_rfl
theorem laidOut : laidOutB Try.prog = true := by kernel_rfl
theorem cellsI : Try.prog.cellsOf 3 = 1 := by kernel_rfl
theorem cellsS : Try.prog.cellsOf 9 = 1 := by kernel_rfl
theorem cellsIs : Try.prog.cellsOf 23 = 1 := by kernel_rfl
theorem cellsNs : Try.prog.cellsOf 22 = 1 := by kernel_rfl
theorem cellsN : Try.prog.cellsOf 56 = 4 := by kernel_rfl
theorem cellsG : Try.prog.cellsOf 25 = 2 := by kernel_rfl
theorem wf_i64 {n : Int} (h : (Lit.int .i64 n).wf = true) : -9223372036854775808 ≤ n ∧ n ≤ 9223372036854775807 := by
  have h1 : IntKind.i64.min = -9223372036854775808 := rfl
  have h2 : IntKind.i64.max = 9223372036854775807 := rfl
  simp only [Lit.wf, Bool.and_eq_true, decide_eq_true_eq] at h
  omega
/-- A row of numbers among what came in, read off its cells. -/
theorem ints_of_cells {H : Type} {enc : TypeId × Value → H} {W : World} {fuel : Nat} {u : Value} {x : DataW H × List MemPlace} (h : DataW.trod enc Try.prog W 0 (fun _ => true) true fuel 23 [u] = some x) :
    ∃ l : List Int, Ri W u l ∧ l.length ≤ 9223372036854775807 := by
  rcases open_ints Try.underlying23 Try.underlying3 cellsI h with ⟨hcs, hx⟩ | ⟨a, len, cap, zs, hcs, _, hl, hm, hz, hx, hcell, hwz⟩
  · simp at hcs
    subst hcs
    exact ⟨[], Ri.nil _, by simp⟩
  · simp at hcs
    subst hcs
    simp only [if_true] at hz
    have hlen : (zs.take len).length = len := by simp; omega
    refine ⟨zs.take len, ⟨some a, cap, by rw [hlen], fun j hj => ?_⟩, by rw [hlen]; unfold maxLen at hm; omega⟩
    rw [hlen] at hj
    obtain ⟨b, off, spot⟩ := a
    have hspot : spot = none := by simpa [Addr.add] using World.cell?_spot (hcell 0 (by omega))
    subst hspot
    refine ⟨b, off, rfl, ?_⟩
    have := hcell j (by omega)
    rw [add_plain] at this
    rw [this]
    simp [List.getD, hj]
set_option maxRecDepth 100000 in
theorem ints_of {H : Type} {enc : TypeId × Value → H} {W : World} {base : Nat} {u : Value} {d : DataW H} {p : List MemPlace} (hv : Value.okWide Try.prog W .any base 23 u) (h : DataW.Trod enc Try.prog W 0 (fun _ => true) true 23 u d p) :
    ∃ l : List Int, Ri W u l ∧ l.length ≤ 9223372036854775807 := by
  obtain ⟨a, len, cap, rfl⟩ := okWide_slice Try.underlying23 hv
  obtain ⟨fuel, hf⟩ := h
  have hf' : DataW.trod enc Try.prog W 0 (fun _ => true) true fuel 23 [.slice a len cap] = some (d, p) := by simpa [Value.cells] using hf
  exact ints_of_cells hf'
set_option maxRecDepth 100000 in
/-- One node among what came in, read off its four cells. -/
theorem node_of_cells {H : Type} {enc : TypeId × Value → H} {W : World} {fuel : Nat} {cs : List Value} {x : DataW H × List MemPlace} (h : DataW.trod enc Try.prog W 0 (fun _ => true) true fuel 56 cs = some x) :
    ∃ (n : Nd) (av : Value), cs = [.int .i64 n.kind, .string n.name, .int .i64 n.num, av] ∧ Ri W av n.args ∧ n.name.size ≤ 9223372036854775807 := by
  obtain ⟨xs, n, _, hx, hl, hlen, hf⟩ := DataW.trod_struct Try.underlying56 h
  rw [cellsN] at hl
  match cs, hl with
  | [c0, c1, c2, c3], _ =>
    match xs, hlen with
    | [y0, y1, y2, y3], _ =>
      have h0 := hf 0 _ rfl
      have h1 := hf 1 _ rfl
      have h2 := hf 2 _ rfl
      have h3 := hf 3 _ rfl
      simp [cellsI] at h0 h2
      simp [cellsS] at h1
      simp [cellsIs] at h3
      obtain ⟨a0, e0, _, w0⟩ := DataW.trod_int Try.underlying3 h0
      obtain ⟨a1, e1, _, w1⟩ := DataW.trod_string Try.underlying9 h1
      obtain ⟨a2, e2, _, w2⟩ := DataW.trod_int Try.underlying3 h2
      obtain ⟨l, hr, _⟩ := ints_of_cells h3
      simp at e0 e1 e2
      subst e0 e1 e2
      exact ⟨⟨a0, a1, a2, l⟩, c3, rfl, hr, by unfold maxLen at w1; exact w1⟩
/-- A row of nodes among what came in, read off its cells. -/
theorem nodes_of_cells {H : Type} {enc : TypeId × Value → H} {W : World} {fuel : Nat} {u : Value} {x : DataW H × List MemPlace} (h : DataW.trod enc Try.prog W 0 (fun _ => true) true fuel 22 [u] = some x) :
    ∃ l : List Nd, Rn W u l ∧ (∀ n ∈ l, n.name.size ≤ 9223372036854775807) ∧ l.length ≤ 9223372036854775807 := by
  rcases Go.Deep.open_slice Try.underlying22 h with ⟨hcs, _⟩ | ⟨ad, len, cap, m, n, D, Pl, hcs, _, hl, hm, hmm, _, hel⟩
  · simp at hcs
    subst hcs
    exact ⟨[], Rn.nil _, by simp, by simp⟩
  · simp at hcs
    subst hcs
    simp only [if_true] at hmm
    rw [cellsN] at hel
    have each : ∀ i, ∃ (n : Nd) (av : Value), i < len → (Ri W av n.args ∧ n.name.size ≤ 9223372036854775807) ∧ W.cells? 0 (ad.add (i * 4)) 4 = some [.int .i64 n.kind, .string n.name, .int .i64 n.num, av] := fun i => by
      by_cases hi : i < len
      · obtain ⟨cs', hc, ht⟩ := hel i (by omega)
        obtain ⟨n, av, rfl, h1, h2⟩ := node_of_cells ht
        exact ⟨n, av, fun _ => ⟨⟨h1, h2⟩, hc⟩⟩
      · exact ⟨nd0, .nilIface, fun h => absurd h hi⟩
    obtain ⟨ns, hns⟩ : ∃ ns : Nat → Nd, ∀ i, ∃ av : Value, i < len → (Ri W av (ns i).args ∧ (ns i).name.size ≤ 9223372036854775807) ∧ W.cells? 0 (ad.add (i * 4)) 4 = some [.int .i64 (ns i).kind, .string (ns i).name, .int .i64 (ns i).num, av] :=
      ⟨fun i => Classical.choose (each i), fun i => Classical.choose_spec (each i)⟩
    refine ⟨(List.range len).map ns, ⟨some ad, cap, by simp, fun j hj => ?_⟩, fun n hn => ?_, by simp; unfold maxLen at hm; omega⟩
    · have hj' : j < len := by simpa using hj
      obtain ⟨b, off, spot⟩ := ad
      obtain ⟨av, hav⟩ := hns j
      obtain ⟨⟨h1, h2⟩, h3⟩ := hav hj'
      have hcj := (World.cells?_some h3).2.2
      have hspot : spot = none := by
        obtain ⟨av0, hav0⟩ := hns 0
        have := (World.cells?_some (hav0 (by omega)).2).2.2 0 (by omega)
        simp at this
        simpa [Addr.add] using World.cell?_spot this
      subst hspot
      have e : ∀ i, ((⟨b, off, none⟩ : Addr).add (j * 4)).add i = ⟨b, off + j * 4 + i, none⟩ := fun i => by rw [add_plain, add_plain]
      have hg : ((List.range len).map ns).getD j nd0 = ns j := by simp [List.getD, hj']
      refine ⟨b, off, av, rfl, ?_⟩
      rw [hg]
      refine ⟨?_, ?_, ?_, ?_, h1⟩
      · have := hcj 0 (by omega); rw [e] at this; simpa using this
      · have := hcj 1 (by omega); rw [e] at this; simpa using this
      · have := hcj 2 (by omega); rw [e] at this; simpa using this
      · have := hcj 3 (by omega); rw [e] at this; simpa using this
    · obtain ⟨i, hi, rfl⟩ := List.mem_map.1 hn
      obtain ⟨av, hav⟩ := hns i
      exact (hav (List.mem_range.1 hi)).1.2
set_option maxRecDepth 100000 in
/-- A graph among what came in, read off its two cells. -/
theorem graph_of_cells {H : Type} {enc : TypeId × Value → H} {W : World} {fuel : Nat} {cs : List Value} {x : DataW H × List MemPlace} (h : DataW.trod enc Try.prog W 0 (fun _ => true) true fuel 25 cs = some x) :
    ∃ (nv rv : Value) (g : Gf), cs = [nv, rv] ∧ Gr W nv rv g ∧ Sized g := by
  obtain ⟨xs, n, _, hx, hl, hlen, hf⟩ := DataW.trod_struct Try.underlying25 h
  rw [cellsG] at hl
  match cs, hl with
  | [c0, c1], _ =>
    match xs, hlen with
    | [y0, y1], _ =>
      have h0 := hf 0 _ rfl
      have h1 := hf 1 _ rfl
      simp [cellsNs] at h0
      simp [cellsIs] at h1
      obtain ⟨ns, hr, hs, _⟩ := nodes_of_cells h0
      obtain ⟨l, hr', _⟩ := ints_of_cells h1
      exact ⟨c0, c1, ⟨ns, l⟩, rfl, ⟨hr, hr'⟩, hs⟩
set_option maxRecDepth 100000 in
theorem graph_of {H : Type} {enc : TypeId × Value → H} {W : World} {base : Nat} {u : Value} {d : DataW H} {p : List MemPlace} (hv : Value.okWide Try.prog W .any base 25 u) (h : DataW.Trod enc Try.prog W 0 (fun _ => true) true 25 u d p) :
    ∃ (nv rv : Value) (g : Gf), u = .agg #[nv, rv] ∧ Gr W nv rv g ∧ Sized g := by
  obtain ⟨cs, rfl, hsz⟩ := okWide_struct Try.underlying25 hv
  obtain ⟨fuel, hf⟩ := h
  have hf' : DataW.trod enc Try.prog W 0 (fun _ => true) true fuel 25 cs.toList = some (d, p) := by simpa [Value.cells] using hf
  obtain ⟨nv, rv, g, hc, h1, h2⟩ := graph_of_cells hf'
  refine ⟨nv, rv, g, ?_, h1, h2⟩
  congr 1
  exact Array.toList_inj.1 (by simpa using hc)
end Go.Proofs.Ytllafbghomohhaa

/- Pairs of numbers among what came in. -/
namespace Go.Proofs.Ytllafbghomohhaa
open Go.ChangeShapes Go.WideShapes Go.ChangeAt Go.RowKit Go.Deep

theorem cellsP : Try.prog.cellsOf 48 = 2 := by kernel_rfl
theorem undP : Try.prog.underlying 48 = some (.array 2 3) := by kernel_rfl
/-- An array of two numbers, taken apart. -/
theorem pair_of_cells {H : Type} {enc : TypeId × Value → H} {W : World} {fuel : Nat} {c0 c1 : Value} {x : DataW H × List MemPlace} (h : DataW.trod enc Try.prog W 0 (fun _ => true) true fuel 48 [c0, c1] = some x) :
    ∃ a b : Int, c0 = .int .i64 a ∧ c1 = .int .i64 b := by
  cases fuel with
  | zero => simp [DataW.trod] at h
  | succ n =>
    unfold DataW.trod at h
    rw [undP] at h
    have r2 : List.range 2 = [0, 1] := rfl
    simp only [r2, cellsI] at h
    cases h0 : DataW.trod enc Try.prog W 0 (fun _ => true) true n 3 [c0] with
    | none => simp [h0] at h
    | some y0 =>
      cases h1 : DataW.trod enc Try.prog W 0 (fun _ => true) true n 3 [c1] with
      | none => simp [h0, h1] at h
      | some y1 =>
        obtain ⟨a, e0, _, _⟩ := DataW.trod_int Try.underlying3 h0
        obtain ⟨b, e1, _, _⟩ := DataW.trod_int Try.underlying3 h1
        simp at e0 e1
        exact ⟨a, b, e0, e1⟩
theorem pairs_of_cells {H : Type} {enc : TypeId × Value → H} {W : World} {fuel : Nat} {u : Value} {x : DataW H × List MemPlace} (h : DataW.trod enc Try.prog W 0 (fun _ => true) true fuel 26 [u] = some x) :
    ∃ l : List (Int × Int), Rp W u l ∧ l.length ≤ 9223372036854775807 := by
  rcases Go.Deep.open_slice Try.underlying26 h with ⟨hcs, _⟩ | ⟨ad, len, cap, m, n, D, Pl, hcs, _, hl, hm, hmm, _, hel⟩
  · simp at hcs
    subst hcs
    exact ⟨[], ⟨none, 0, rfl, fun _ h => absurd h (Nat.not_lt_zero _)⟩, by simp⟩
  · simp at hcs
    subst hcs
    simp only [if_true] at hmm
    rw [cellsP] at hel
    have each : ∀ i, ∃ p : Int × Int, i < len → W.cells? 0 (ad.add (i * 2)) 2 = some [.int .i64 p.1, .int .i64 p.2] := fun i => by
      by_cases hi : i < len
      · obtain ⟨cs', hc, ht⟩ := hel i (by omega)
        have hlen := (World.cells?_some hc).2.1
        match cs', hlen with
        | [c0, c1], _ =>
          obtain ⟨a, b, rfl, rfl⟩ := pair_of_cells ht
          exact ⟨(a, b), fun _ => hc⟩
      · exact ⟨(0, 0), fun h => absurd h hi⟩
    obtain ⟨ps, hps⟩ := Classical.axiomOfChoice each
    refine ⟨(List.range len).map ps, ⟨some ad, cap, by simp, fun j hj => ?_⟩, by simp; unfold maxLen at hm; omega⟩
    have hj' : j < len := by simpa using hj
    obtain ⟨b, off, spot⟩ := ad
    have hcj := (World.cells?_some (hps j hj')).2.2
    have hspot : spot = none := by
      have := (World.cells?_some (hps 0 (by omega))).2.2 0 (by omega)
      simp at this
      simpa [Addr.add] using World.cell?_spot this
    subst hspot
    have e : ∀ i, ((⟨b, off, none⟩ : Addr).add (j * 2)).add i = ⟨b, off + j * 2 + i, none⟩ := fun i => by rw [add_plain, add_plain]
    have hg : ((List.range len).map ps).getD j (0, 0) = ps j := by simp [List.getD, hj']
    refine ⟨b, off, rfl, ?_⟩
    rw [hg]
    constructor
    · have := hcj 0 (by omega); rw [e] at this; simpa using this
    · have := hcj 1 (by omega); rw [e] at this; simpa using this
set_option maxRecDepth 100000 in
theorem pairs_of {H : Type} {enc : TypeId × Value → H} {W : World} {base : Nat} {u : Value} {d : DataW H} {p : List MemPlace} (hv : Value.okWide Try.prog W .any base 26 u) (h : DataW.Trod enc Try.prog W 0 (fun _ => true) true 26 u d p) :
    ∃ l : List (Int × Int), Rp W u l ∧ l.length ≤ 9223372036854775807 := by
  obtain ⟨a, len, cap, rfl⟩ := okWide_slice Try.underlying26 hv
  obtain ⟨fuel, hf⟩ := h
  have hf' : DataW.trod enc Try.prog W 0 (fun _ => true) true fuel 26 [.slice a len cap] = some (d, p) := by simpa [Value.cells] using hf
  exact pairs_of_cells hf'
end Go.Proofs.Ytllafbghomohhaa

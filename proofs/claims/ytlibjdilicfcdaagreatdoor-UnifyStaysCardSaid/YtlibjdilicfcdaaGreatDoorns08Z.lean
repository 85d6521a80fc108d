/- What the laws of layer 4 share: arguments that are graphs, rows of graphs, rows of numbers, walks. -/
import Derived.Test.YtlibjdilicfcdaaGreatDoorRows
import Derived.ProofKit
import Derived.SizedLaws
import Derived.OpenShut
import Derived.ShutString
import Derived.Deep.Strs
import Derived.Deep.RegionHeld3
import Derived.Deep.LoopGhost
import Derived.Deep.QuietTactic
import Derived.BigQuiet
import Derived.Shelf.Abstract
import Derived.Test.YtlibjdilicfcdaaGreatDoorns03Z
import Derived.Test.YtlibjdilicfcdaaGreatDoorns05Z
import Derived.Test.YtlibjdilicfcdaaGreatDoorns01Z
namespace Go.Proofs.YtlibjdilicfcdaaGreatDoor
set_option maxRecDepth 100000
open Go.ChangeShapes Go.WideShapes Go.ChangeAt Go.RowKit Go.Deep
theorem own : ownKnob Tryz.prog.godebug = none := by kernel_rfl
theorem laidOut : laidOutB Tryz.prog = true := by kernel_rfl
theorem cellsI : Tryz.prog.cellsOf 3 = 1 := by kernel_rfl
theorem cellsS : Tryz.prog.cellsOf 9 = 1 := by kernel_rfl
theorem cellsIs : Tryz.prog.cellsOf 23 = 1 := by kernel_rfl
theorem cellsNs : Tryz.prog.cellsOf 22 = 1 := by kernel_rfl
theorem cellsN : Tryz.prog.cellsOf 58 = 4 := by kernel_rfl
theorem cellsG : Tryz.prog.cellsOf 25 = 2 := by kernel_rfl
theorem ints_of_cells {H : Type} {enc : TypeId × Value → H} {W : World} {fuel : Nat} {u : Value} {x : DataW H × List MemPlace} (h : DataW.trod enc Tryz.prog W 0 (fun _ => true) true fuel 23 [u] = some x) :
    ∃ l : List Int, Ri W u l ∧ l.length ≤ 9223372036854775807 := by
  rcases open_ints Tryz.underlying23 Tryz.underlying3 cellsI h with ⟨hcs, hx⟩ | ⟨a, len, cap, zs, hcs, _, hl, hm, hz, hx, hcell, hwz⟩
  · simp at hcs
    subst hcs
    exact ⟨[], Ri.nil _, by simp⟩
  · simp at hcs
    subst hcs
    simp only [if_true] at hz
    have hlen : (zs.take len).length = len := by simp; omega
    refine ⟨zs.take len, ⟨some a, cap, by rw [hlen], fun j hj => ?_⟩, by rw [hlen]; unfold maxLen at hm; omega⟩
    rw [hlen] at hj
    obtain ⟨b, off, spot⟩ := a
    have hspot : spot = none := by simpa [Addr.add] using World.cell?_spot (hcell 0 (by omega))
    subst hspot
    refine ⟨b, off, rfl, ?_⟩
    have := hcell j (by omega)
    rw [add_plain] at this
    rw [this]
    simp [List.getD, hj]
theorem node_of_cells {H : Type} {enc : TypeId × Value → H} {W : World} {fuel : Nat} {cs : List Value} {x : DataW H × List MemPlace} (h : DataW.trod enc Tryz.prog W 0 (fun _ => true) true fuel 58 cs = some x) :
    ∃ (n : Nd) (av : Value), cs = [.int .i64 n.kind, .string n.name, .int .i64 n.num, av] ∧ Ri W av n.args ∧ n.name.size ≤ 9223372036854775807 := by
  obtain ⟨xs, n, _, hx, hl, hlen, hf⟩ := DataW.trod_struct Tryz.underlying58 h
  rw [cellsN] at hl
  match cs, hl with
  | [c0, c1, c2, c3], _ =>
    match xs, hlen with
    | [y0, y1, y2, y3], _ =>
      have h0 := hf 0 _ rfl
      have h1 := hf 1 _ rfl
      have h2 := hf 2 _ rfl
      have h3 := hf 3 _ rfl
      simp [cellsI] at h0 h2
      simp [cellsS] at h1
      simp [cellsIs] at h3
      obtain ⟨a0, e0, _, w0⟩ := DataW.trod_int Tryz.underlying3 h0
      obtain ⟨a1, e1, _, w1⟩ := DataW.trod_string Tryz.underlying9 h1
      obtain ⟨a2, e2, _, w2⟩ := DataW.trod_int Tryz.underlying3 h2
      obtain ⟨l, hr, _⟩ := ints_of_cells h3
      simp at e0 e1 e2
      subst e0 e1 e2
      exact ⟨⟨a0, a1, a2, l⟩, c3, rfl, hr, by unfold maxLen at w1; exact w1⟩
theorem nodes_of_cells {H : Type} {enc : TypeId × Value → H} {W : World} {fuel : Nat} {u : Value} {x : DataW H × List MemPlace} (h : DataW.trod enc Tryz.prog W 0 (fun _ => true) true fuel 22 [u] = some x) :
    ∃ l : List Nd, Rn W u l ∧ (∀ n ∈ l, n.name.size ≤ 9223372036854775807) ∧ l.length ≤ 9223372036854775807 := by
  rcases Go.Deep.open_slice Tryz.underlying22 h with ⟨hcs, _⟩ | ⟨ad, len, cap, m, n, D, Pl, hcs, _, hl, hm, hmm, _, hel⟩
  · simp at hcs
    subst hcs
    exact ⟨[], Rn.nil _, by simp, by simp⟩
  · simp at hcs
    subst hcs
    simp only [if_true] at hmm
    rw [cellsN] at hel
    have each : ∀ i, ∃ (n : Nd) (av : Value), i < len → (Ri W av n.args ∧ n.name.size ≤ 9223372036854775807) ∧ W.cells? 0 (ad.add (i * 4)) 4 = some [.int .i64 n.kind, .string n.name, .int .i64 n.num, av] := fun i => by
      by_cases hi : i < len
      · obtain ⟨cs', hc, ht⟩ := hel i (by omega)
        obtain ⟨n, av, rfl, h1, h2⟩ := node_of_cells ht
        exact ⟨n, av, fun _ => ⟨⟨h1, h2⟩, hc⟩⟩
      · exact ⟨nd0, .nilIface, fun h => absurd h hi⟩
    obtain ⟨ns, hns⟩ : ∃ ns : Nat → Nd, ∀ i, ∃ av : Value, i < len → (Ri W av (ns i).args ∧ (ns i).name.size ≤ 9223372036854775807) ∧ W.cells? 0 (ad.add (i * 4)) 4 = some [.int .i64 (ns i).kind, .string (ns i).name, .int .i64 (ns i).num, av] :=
      ⟨fun i => Classical.choose (each i), fun i => Classical.choose_spec (each i)⟩
    refine ⟨(List.range len).map ns, ⟨some ad, cap, by simp, fun j hj => ?_⟩, fun n hn => ?_, by simp; unfold maxLen at hm; omega⟩
    · have hj' : j < len := by simpa using hj
      obtain ⟨b, off, spot⟩ := ad
      obtain ⟨av, hav⟩ := hns j
      obtain ⟨⟨h1, h2⟩, h3⟩ := hav hj'
      have hcj := (World.cells?_some h3).2.2
      have hspot : spot = none := by
        obtain ⟨av0, hav0⟩ := hns 0
        have := (World.cells?_some (hav0 (by omega)).2).2.2 0 (by omega)
        simp at this
        simpa [Addr.add] using World.cell?_spot this
      subst hspot
      have e : ∀ i, ((⟨b, off, none⟩ : Addr).add (j * 4)).add i = ⟨b, off + j * 4 + i, none⟩ := fun i => by rw [add_plain, add_plain]
      have hg : ((List.range len).map ns).getD j nd0 = ns j := by simp [List.getD, hj']
      refine ⟨b, off, av, rfl, ?_⟩
      rw [hg]
      refine ⟨?_, ?_, ?_, ?_, h1⟩
      · have := hcj 0 (by omega); rw [e] at this; simpa using this
      · have := hcj 1 (by omega); rw [e] at this; simpa using this
      · have := hcj 2 (by omega); rw [e] at this; simpa using this
      · have := hcj 3 (by omega); rw [e] at this; simpa using this
    · obtain ⟨i, hi, rfl⟩ := List.mem_map.1 hn
      obtain ⟨av, hav⟩ := hns i
      exact (hav (List.mem_range.1 hi)).1.2
theorem graph_of_cells {H : Type} {enc : TypeId × Value → H} {W : World} {fuel : Nat} {cs : List Value} {x : DataW H × List MemPlace} (h : DataW.trod enc Tryz.prog W 0 (fun _ => true) true fuel 25 cs = some x) :
    ∃ (nv rv : Value) (g : Gf), cs = [nv, rv] ∧ Gr W nv rv g ∧ Sized g := by
  obtain ⟨xs, n, _, hx, hl, hlen, hf⟩ := DataW.trod_struct Tryz.underlying25 h
  rw [cellsG] at hl
  match cs, hl with
  | [c0, c1], _ =>
    match xs, hlen with
    | [y0, y1], _ =>
      have h0 := hf 0 _ rfl
      have h1 := hf 1 _ rfl
      simp [cellsNs] at h0
      simp [cellsIs] at h1
      obtain ⟨ns, hr, hs, _⟩ := nodes_of_cells h0
      obtain ⟨l, hr', _⟩ := ints_of_cells h1
      exact ⟨c0, c1, ⟨ns, l⟩, rfl, ⟨hr, hr'⟩, hs⟩
end Go.Proofs.YtlibjdilicfcdaaGreatDoor

namespace Go.Proofs.YtlibjdilicfcdaaGreatDoor
set_option maxRecDepth 100000
open Go.RowKit Go.Maps
theorem n_own_below {w w' : World} {B : Nat} {e : TypeId} {v : Value} {n : Nat} {xs : List Value} (h : w.ownsRow B e 1 v n xs) (hm : Below w.heap.size w w') : w'.ownsRow B e 1 v n xs := own_keep (ks := []) h (n_Mod.ofBelow hm) (by simp)
end Go.Proofs.YtlibjdilicfcdaaGreatDoor

namespace Go.Proofs.YtlibjdilicfcdaaGreatDoor
set_option maxRecDepth 100000
open Go.RowKit
def smallK (K : Nat) (g : Gf) : Bool := decide (g.nodes.length ≤ K) && decide (g.roots.length ≤ K) && g.nodes.all (fun n => decide (n.args.length ≤ 40))
theorem smallK_fits {K : Nat} {g : Gf} (h : smallK K g = true) : (∀ n ∈ g.nodes, n.args.length ≤ 40) ∧ g.nodes.length ≤ K ∧ g.roots.length ≤ K := by
  simp only [smallK, Bool.and_eq_true, decide_eq_true_eq, List.all_eq_true] at h
  obtain ⟨⟨h1, h2⟩, h3⟩ := h
  exact ⟨fun n hn => h3 n hn, h1, h2⟩
set_option maxHeartbeats 2000000 in
theorem smallK_any {K : Nat} (hK : K ≤ 5000) {W : World} {nv rv : Value} {g : Gf} (hG : Gr W nv rv g) :
    Calls Tryz.prog 8 #[.agg #[nv, rv], .int .i64 (K : Int)] W fun e w' => e = .returned (.bool (smallK K g)) ∧ Below W.heap.size W w' := by
  obtain ⟨l, lr⟩ := g
  obtain ⟨ua, uc, rfl, hu⟩ := hG.1
  obtain ⟨ra, rc, rfl, _⟩ := hG.2
  dsimp only at hu ⊢
  have hE := hid (show smallK K ⟨l, lr⟩ = (decide (l.length ≤ K) && decide (lr.length ≤ K) && l.all (fun n => decide (n.args.length ≤ 40))) from rfl)
  generalize smallK K ⟨l, lr⟩ = R at hE ⊢
  by_cases h1 : K < l.length
  · have h1' : (K : Int) < (l.length : Int) := by omega
    have hR := hid (show R = false by rw [hE.out, decide_eq_false (by omega : ¬ l.length ≤ K)]; rfl)
    clear hE hu hG
    go_enter Tryz.func8, Tryz.ntmps8
    go_wp2
    go_ret
    exact ⟨ret_bool hR.out.symm, below_alloc _ _⟩
  · by_cases h2 : K < lr.length
    · have h1' : ¬ (K : Int) < (l.length : Int) := by omega
      have h2' : (K : Int) < (lr.length : Int) := by omega
      have hR := hid (show R = false by rw [hE.out, decide_eq_false (by omega : ¬ lr.length ≤ K)]; simp)
      clear hE hu hG
      go_enter Tryz.func8, Tryz.ntmps8
      go_wp2
      go_ret
      exact ⟨ret_bool hR.out.symm, below_alloc _ _⟩
    · have h1' : ¬ (K : Int) < (l.length : Int) := by omega
      have h2' : ¬ (K : Int) < (lr.length : Int) := by omega
      go_enter Tryz.func8, Tryz.ntmps8
      go_wp2
      go_loopw [22] (fun i wr => ∃ k : Nat, k ≤ l.length ∧ i = .int .i64 k ∧ Hid (Below W.heap.size W wr) ∧ Hid (∀ j, j < k → (l.getD j nd0).args.length ≤ 40)) (fun i _ => l.length - (intOf i).toNat)
      case atStart => exact ⟨0, Nat.zero_le _, rfl, below_alloc _ _, fun j hj => absurd hj (Nat.not_lt_zero _)⟩
      case round =>
        obtain ⟨k, hk, rfl, hb, hp⟩ := hrel
        by_cases hlt : k < l.length
        · obtain ⟨ub, uo, uav, rfl, hcu⟩ := hu k hlt
          obtain ⟨p0, p1, p2, p3, hA⟩ := hcu.below hb.out
          obtain ⟨aa, ac, rfl, _⟩ := hA
          have hin : l.getD k nd0 ∈ l := by simp [List.getD, hlt]
          have hlp := lt_of_cell p0
          by_cases h40 : 40 < (l.getD k nd0).args.length
          · have hR := hid (show R = false by
              rw [hE.out]
              have : l.all (fun n => decide (n.args.length ≤ 40)) = false := List.all_eq_false.2 ⟨_, hin, by simpa using h40⟩
              rw [this]
              simp)
            clear hin hcu hu hp hE hG
            generalize l.getD k nd0 = x at p0 p1 p2 p3 h40
            obtain ⟨xk, xs, xn, xl⟩ := x
            dsimp only at p0 p1 p2 p3 h40
            have h40' : (40 : Int) < (xl.length : Int) := by omega
            go_wp2
            go_ret
            exact ⟨ret_bool hR.out.symm, hb.out.alloc hb.out.size _⟩
          · have hp' : Hid (∀ j, j < k + 1 → (l.getD j nd0).args.length ≤ 40) := fun j hj => by
              rcases Nat.lt_or_eq_of_le (Nat.le_of_lt_succ hj) with h | h
              · exact hp.out j h
              · subst h; omega
            clear hin hcu hu hp hE hG
            generalize l.getD k nd0 = x at p0 p1 p2 p3 h40
            obtain ⟨xk, xs, xn, xl⟩ := x
            dsimp only at p0 p1 p2 p3 h40
            have h40' : ¬ (40 : Int) < (xl.length : Int) := by omega
            go_wp2
            go_roundw
            case rel => exact ⟨k + 1, by omega, congrArg (Value.int .i64) (by omega), hb.out.alloc hb.out.size _, hp'⟩
            case measure => simp [intOf]; omega
        · have hR := hid (show R = true by
            rw [hE.out, decide_eq_true (by omega : l.length ≤ K), decide_eq_true (by omega : lr.length ≤ K)]
            simp only [Bool.true_and, List.all_eq_true, decide_eq_true_eq]
            intro n hn
            obtain ⟨i, hi, rfl⟩ := List.getElem_of_mem hn
            have := hp.out i (by omega)
            simpa [List.getD, hi] using this)
          clear hE hu hG hp
          go_wp2
          go_ret
          exact ⟨ret_bool hR.out.symm, hb.out⟩
end Go.Proofs.YtlibjdilicfcdaaGreatDoor

namespace Go.Proofs.YtlibjdilicfcdaaGreatDoor
set_option maxRecDepth 100000
open Go.RowKit
def Rp (w : World) (v : Value) (l : List (Int × Int)) : Prop :=
  ∃ ao c, v = .slice ao l.length c ∧ ∀ j, j < l.length → ∃ b o, ao = some ⟨b, o, none⟩ ∧ w.cell? ⟨b, o + j * 2, none⟩ = some (.int .i64 (l.getD j (0, 0)).1) ∧ w.cell? ⟨b, o + j * 2 + 1, none⟩ = some (.int .i64 (l.getD j (0, 0)).2)
end Go.Proofs.YtlibjdilicfcdaaGreatDoor

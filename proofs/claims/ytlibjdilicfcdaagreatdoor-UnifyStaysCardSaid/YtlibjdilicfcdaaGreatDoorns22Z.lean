/- Package cells: how many words a graph wants. -/
import Derived.Test.YtlibjdilicfcdaaGreatDoorns20Z
namespace Go.Proofs.YtlibjdilicfcdaaGreatDoor
set_option maxRecDepth 100000
open Go.RowKit
theorem cblk2 {w : World} {q : Nat} {u0 u1 : Value} {T : TypeId} (h : w.heap[q]? = some (.cells #[u0, u1] T)) : (w.cell? ⟨q, 0, none⟩ = some u0 ∧ w.cell? ⟨q, 1, none⟩ = some u1) ∧ w.frozen? ⟨q, 0, none⟩ = false ∧ w.frozen? ⟨q, 1, none⟩ = false := by
  refine ⟨⟨?_, ?_⟩, ?_, ?_⟩ <;> simp [World.cell?, World.frozen?, h]
theorem gr_nd {W w : World} {na : Option Addr} {nc : Nat} {rv : Value} {g : Gf} (hG : Gr W (.slice na g.nodes.length nc) rv g) (hb : Below W.heap.size W w) {x : Nat} (hx : x < g.nodes.length) : ∃ b o aa ac, na = some ⟨b, o, none⟩ ∧ w.cell? ⟨b, o + x * 4, none⟩ = some (.int .i64 (g.nodes.getD x nd0).kind) ∧ w.cell? ⟨b, o + x * 4 + 1, none⟩ = some (.string (g.nodes.getD x nd0).name) ∧ w.cell? ⟨b, o + x * 4 + 2, none⟩ = some (.int .i64 (g.nodes.getD x nd0).num) ∧ w.cell? ⟨b, o + x * 4 + 3, none⟩ = some (.slice aa (g.nodes.getD x nd0).args.length ac) := by
  obtain ⟨na', nc', e, hc⟩ := hG.1
  injection e with e1 _ _
  subst e1
  obtain ⟨b, o, av, rfl, h0⟩ := hc x hx
  obtain ⟨p0, p1, p2, p3, _⟩ := h0.below hb
  obtain ⟨aa, ac, rfl, _⟩ := h0.2.2.2.2
  exact ⟨b, o, aa, ac, rfl, p0, p1, p2, p3⟩
def wantJ (g : Gf) (met : List Int) : Nat → Nat
  | 0 => g.roots.length
  | j + 1 => wantJ g met j + szN (g.nodes.getD (met.getD j 0).toNat nd0)
theorem sz_le {nd : Nd} (h : nd.args.length ≤ 8) : szN nd ≤ 9 := by
  unfold szN
  split
  · omega
  · split <;> omega
theorem want_le {g : Gf} (hg : Good g) {met : List Int} : ∀ j, wantJ g met j ≤ g.roots.length + 9 * j
  | 0 => Nat.le_refl _
  | j + 1 => by
    have ih := want_le hg (met := met) j
    have h8 : (g.nodes.getD (met.getD j 0).toNat nd0).args.length ≤ 8 := by
      generalize met.getD j 0 = y
      by_cases hx : y.toNat < g.nodes.length
      · exact (good_args (hg.node _ (by simp [List.getD, hx]))).2
      · rw [List.getD, List.getElem?_eq_none (by omega)]
        exact Nat.zero_le _
    have := sz_le h8
    show wantJ g met j + _ ≤ _
    omega
set_option maxHeartbeats 4000000 in
theorem wanted_any {W : World} {nv rv mv : Value} {g : Gf} {met : List Int} (hG : Gr W nv rv g) (hg : Good g) (hM : Ri W mv met) (hm : ∀ x ∈ met, 0 ≤ x ∧ x < (g.nodes.length : Int)) (hl : met.length ≤ 5000) :
    Calls Tryz.prog 58 #[.agg #[nv, rv], mv] W fun e w' => e = .returned (.int .i64 (wantJ g met met.length : Int)) ∧ Below W.heap.size W w' := by
  have hb0 := hid (below_alloc W (.cells #[nv, rv] 25))
  have hx0 := hid (heap_alloc_new W (.cells #[nv, rv] 25))
  have HG := hid hG
  have HM := hid hM
  have Hg := hid hg
  have Hm := hid hm
  have hR : g.roots.length ≤ 4096 := hg.roots
  obtain ⟨na, nc, rfl, _⟩ := hG.1
  obtain ⟨ra, rc, rfl, _⟩ := hG.2
  obtain ⟨ma, mc, rfl, _⟩ := hM
  clear hG hg hm
  go_enter Tryz.func58, Tryz.ntmps58
  go_wp2
  go_loopw [5, 7, 13] (fun s _ i wr => ∃ j : Nat, j ≤ met.length ∧ i = .int .i64 (j : Int) ∧ s = .int .i64 (wantJ g met j : Int) ∧ Hid (Below W.heap.size W wr) ∧ Hid (wr.heap[W.heap.size]? = some (.cells #[.slice na g.nodes.length nc, .slice ra g.roots.length rc] 25))) (fun _ _ i _ => met.length - (intOf i).toNat)
  case atStart => exact ⟨0, Nat.zero_le _, rfl, rfl, hb0, hx0⟩
  case round =>
    clear hb0 hx0
    obtain ⟨j, hj, rfl, rfl, hb, hx⟩ := hrel
    by_cases hlt : j < met.length
    · have hji : (j : Int) < (met.length : Int) := by omega
      obtain ⟨mb, mo, hma, m0⟩ := (HM.out.below hb.out).at hlt
      subst hma
      have zm := lt_of_cell m0
      have hmr := Hm.out _ (getD_mem hlt)
      have hst : Hid (wantJ g met (j + 1) = wantJ g met j + szN (g.nodes.getD (met.getD j 0).toNat nd0)) := rfl
      have hwl := want_le Hg.out (met := met) j
      generalize met.getD j 0 = y at *
      obtain ⟨yn, rfl⟩ : ∃ yn : Nat, y = (yn : Int) := ⟨y.toNat, by omega⟩
      rw [Int.toNat_natCast] at hst
      have hyn : yn < g.nodes.length := by omega
      have hyi : (yn : Int) < (g.nodes.length : Int) := by omega
      obtain ⟨⟨b0, b1⟩, _⟩ := cblk2 hx.out
      have zb := lt_of_block hx.out
      obtain ⟨nb, no, aa, ac, hna, p0, p1, p2, p3⟩ := gr_nd HG.out hb.out hyn
      subst hna
      have zn := lt_of_cell p0
      have h8 := (good_args (Hg.out.node (g.nodes.getD yn nd0) (by simp [List.getD, hyn]))).2
      have hsz := hid (fun w => size_any w (g.nodes.getD yn nd0) aa ac (by omega))
      have hs9 := sz_le h8
      generalize szN (g.nodes.getD yn nd0) = sz at *
      generalize wantJ g met j = wj at *
      generalize g.nodes.getD yn nd0 = nd at *
      obtain ⟨kd, nm, nu, args⟩ := nd
      dsimp only at p0 p1 p2 p3 hsz
      clear hmr
      go_wp2_with (go_at_call 92; refine (hsz.out _).mono ?_; rintro e w3 ⟨rfl, hb3⟩; have Hb3 := hid (Below.next hb.out hb3); have Hx3 := hid ((hb3.block _ zb).trans hx.out); clear hb3)
      go_roundw
      case rel => exact ⟨j + 1, by omega, by go_num, congrArg (Value.int .i64) (by rw [hst.out]; omega), Hb3, Hx3⟩
      case measure => simp [intOf]; omega
    · obtain rfl : j = met.length := by omega
      go_wp2
      go_ret
      exact ⟨rfl, hb.out⟩
end Go.Proofs.YtlibjdilicfcdaaGreatDoor

namespace Go.Proofs.YtlibjdilicfcdaaGreatDoor
set_option maxRecDepth 100000
open Go.RowKit
section
variable {w w' : World} {B hb ab tb : Nat} {m : Int} {av : Value} {l : List Int} {tv : Value} {tq : Nat} {ns : List ByteArray} {trv ptv : Value} {n : Int}
theorem Hp.self (h : Hp w B hb ab tb m av l tv tq ns trv ptv n) : hb ∉ a_foot ab av ∧ hb ∉ n_foot tb tv tq := by
  refine ⟨fun hk => (h.apart hk).1 rfl, fun hf => ?_⟩
  have hq := h.blk
  rcases n_mem_foot.1 hf with e | e | e
  · subst e
    rw [h.tb.blk] at hq
    injection hq with hq
    injection hq with _ hq
    exact absurd hq (by decide)
  · subst e
    obtain ⟨D, ⟨es, clock, hq2, _⟩, _⟩ := h.tb.map
    rw [hq2] at hq
    simp at hq
  · obtain ⟨cur, hc, _⟩ := own_block_obj h.tb.own e
    rw [hc] at hq
    injection hq with hq
    injection hq with _ hq
    exact absurd hq (by decide)
end
end Go.Proofs.YtlibjdilicfcdaaGreatDoor

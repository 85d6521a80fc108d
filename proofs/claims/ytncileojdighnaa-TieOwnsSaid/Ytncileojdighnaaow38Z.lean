/- end, ends, bind of package tie's knot. -/
import Derived.Test.Ytncileojdighnaaow36Z
import Derived.Test.Ytncileojdighnaaow29Z
namespace Go.Proofs.Ytncileojdighnaa
set_option maxRecDepth 100000
open Go.RowKit
theorem Kn.led {w : World} {B kb cb : Nat} {nv rv : Value} {avs : List Value} {ns : List Nd} {L : List Nat} {rs : List Int} {g c : Nat} (h : Kn w B kb cb nv (.slice (some ⟨g, 0, none⟩) ns.length c) rv avs ns L rs) (n v : Nat) : Kn (w.setCell ⟨g, n, none⟩ (.int .i64 (v : Int))) B kb cb nv (.slice (some ⟨g, 0, none⟩) ns.length c) rv avs ns (L.set n v) rs := by
  have hdj := h.dj
  have hg : kbl kb nv (.slice (some ⟨g, 0, none⟩) ns.length c) rv avs 2 = some g := rfl
  have far : ∀ i b, i ≠ 2 → kbl kb nv (.slice (some ⟨g, 0, none⟩) ns.length c) rv avs i = some b → (w.setCell ⟨g, n, none⟩ (.int .i64 (v : Int))).heap[b]? = w.heap[b]? := fun i b hi hb => Below.heap_setCell _ _ _ _ (fun e => hi (hdj i 2 g (by rw [hb]; exact congrArg some e) hg))
  refine ⟨(far 0 kb (by decide) rfl).trans h.blk, h.base, row_keep h.n (fun k hk => far 1 k (by decide) hk), h.len, fun j hj => ?_, ?_, row_keep h.r (fun k hk => far 3 k (by decide) hk), h.dj, by simp [h.ll]⟩
  · obtain ⟨ao, c', e, ho⟩ := h.a j hj
    exact ⟨ao, c', e, row_keep ho (fun k hk => far (j + 4) k (by omega) (by show (avs.getD j undef).ownBlock = _; rw [e]; exact hk))⟩
  · have h1 := h.l
    rw [h.ll] at h1
    have h2 := (World.ownsRow.stored h1 n (.int .i64 (v : Int))).1
    rw [ints_set] at h2
    rw [List.length_set, h.ll]
    exact h2
theorem Kn.lsome {w : World} {B kb cb : Nat} {nv lv rv : Value} {avs : List Value} {ns : List Nd} {L : List Nat} {rs : List Int} (h : Kn w B kb cb nv lv rv avs ns L rs) {n : Nat} (hn : n < ns.length) : ∃ g c, lv = .slice (some ⟨g, 0, none⟩) ns.length c := by
  have hl := h.l
  rw [h.ll] at hl
  rcases hl.2 with ⟨_, h0⟩ | ⟨g, cap, cur, rfl, _⟩
  · omega
  · exact ⟨g, cap, rfl⟩
theorem Kn.lcell {w : World} {B kb cb : Nat} {nv rv : Value} {avs : List Value} {ns : List Nd} {L : List Nat} {rs : List Int} {g c : Nat} (h : Kn w B kb cb nv (.slice (some ⟨g, 0, none⟩) ns.length c) rv avs ns L rs) {n : Nat} (hn : n < ns.length) : w.cell? ⟨g, n, none⟩ = some (.int .i64 ((L.getD n 0 : Nat) : Int)) ∧ w.frozen? ⟨g, n, none⟩ = false := by
  have hl := h.l
  rw [h.ll] at hl
  exact ⟨by rw [hl.cellAt n (by omega)]; exact ints_at (by rw [h.ll]; exact hn), hl.frozenAt n⟩
def KnL (w w' : World) (B kb cb : Nat) (nv lv rv : Value) (avs : List Value) (ns : List Nd) (E : Nat → Nat) (rs : List Int) : Prop := ∃ L, Kn w' B kb cb nv lv rv avs ns L rs ∧ Ld L E ∧ Mo (fun k => lv.ownBlock = some k) w w'
set_option maxHeartbeats 4000000 in
theorem end_any {w : World} {B kb cb : Nat} {nv lv rv : Value} {avs : List Value} {ns : List Nd} {L : List Nat} {rs : List Int} {E : Nat → Nat} (h : Kn w B kb cb nv lv rv avs ns L rs) (hE : Ld L E) (n : Nat) (hn : n < ns.length) :
    Calls Try.prog 56 #[.pointer (some ⟨kb, 0, none⟩), .int .i64 (n : Int)] w fun e w' => e = .returned (.int .i64 (E n : Int)) ∧ KnL w w' B kb cb nv lv rv avs ns E rs := by
  obtain ⟨g, c, rfl⟩ := h.lsome hn
  obtain ⟨r, M, hM, hr⟩ := hE.rank
  have hS : Hid (∃ (L : List Nat), Kn w B kb cb nv (.slice (some ⟨g, 0, none⟩) ns.length c) rv avs ns L rs ∧ Ld L E ∧ Lr L r ∧ Mo (fun k => (Value.slice (some ⟨g, 0, none⟩) ns.length c).ownBlock = some k) w w) := ⟨L, h, hE, hr, Mo.refl _ _⟩
  clear h hE hr hM
  go_enter Try.func56, Try.ntmps56
  go_wp2
  go_loopw [1] (fun i wr => ∃ m : Nat, m < ns.length ∧ i = .int .i64 (m : Int) ∧ Hid (E m = E n) ∧ Hid (∃ (L : List Nat), Kn wr B kb cb nv (.slice (some ⟨g, 0, none⟩) ns.length c) rv avs ns L rs ∧ Ld L E ∧ Lr L r ∧ Mo (fun k => (Value.slice (some ⟨g, 0, none⟩) ns.length c).ownBlock = some k) w wr)) (fun i _ => r (intOf i).toNat)
  case atStart => exact ⟨n, hn, rfl, rfl, hS⟩
  case round =>
    clear hS
    obtain ⟨m, hm, rfl, hEm, hS⟩ := hrel
    obtain ⟨L, hK, hE, hr, hM⟩ := hS.out
    have hmL : m < L.length := by rw [hK.ll]; exact hm
    obtain ⟨⟨c0, c1, c2, c3⟩, f1, f2, f3⟩ := hK.cells
    obtain ⟨d0, d1⟩ := hK.lcell hm
    have zk := lt_of_cell c0
    have zg := lt_of_cell d0
    have hkg : kb ≠ g := fun e => absurd (hK.dj 0 2 kb rfl (congrArg some e.symm)) (by decide)
    have hm2 : (m : Int) < (ns.length : Int) := by omega
    by_cases e : L.getD m 0 = m
    · have hE1 : Hid (E n = m) := hEm.out.symm.trans ((hE.fix m hmL).1 e)
      have hfin : Hid (KnL w wr B kb cb nv (.slice (some ⟨g, 0, none⟩) ns.length c) rv avs ns E rs) := ⟨L, hK, hE, hM⟩
      rw [e] at d0
      clear e hK hE hr hM hS hEm
      go_wp2
      go_ret
      exact ⟨ret_int (by rw [hE1.out]), hfin.out⟩
    · have h2 := hE.rng m hmL
      rw [hK.ll] at h2
      have h2i : ((L.getD m 0 : Nat) : Int) < (ns.length : Int) := by omega
      obtain ⟨p0, p1⟩ := hK.lcell h2
      have h3 := hE.rng _ (show L.getD m 0 < L.length by rw [hK.ll]; exact h2)
      rw [hK.ll] at h3
      have hK2 := hid (hK.led m (L.getD (L.getD m 0) 0))
      have hE2 := hid (hE.half hmL)
      have hr2 := hid (Lr.half hE hr hmL)
      have hM2 := hid (hM.setCell (p := ⟨g, m, none⟩) (Or.inl rfl) (.int .i64 ((L.getD (L.getD m 0) 0 : Nat) : Int)))
      have hne : ((L.getD m 0 : Nat) : Int) ≠ (m : Int) := by omega
      have hEs : Hid (E (L.getD (L.getD m 0) 0) = E n) := ((hE.st _ (by rw [hK.ll]; exact h2)).trans (hE.st m hmL)).trans hEm.out
      have hrk : Hid (r (L.getD (L.getD m 0) 0) < r m) := by
        have a1 := hr m hmL e
        by_cases e2 : L.getD (L.getD m 0) 0 = L.getD m 0
        · show _ < _
          rw [e2]; exact a1
        · have a2 := hr _ (by rw [hK.ll]; exact h2) e2
          show _ < _
          omega
      clear e hK hE hr hM hS hEm
      generalize L.getD (L.getD m 0) 0 = y at *
      generalize L.getD m 0 = x at *
      go_wp2
      go_still_tail 19, (by kernel_rfl)
      change wpList _ _ _ _ _ wr.drew
      go_wp2
      go_roundw
      case rel => exact ⟨y, h3, rfl, hEs, _, hK2.out.keep (fun _ _ => rfl), hE2.out, hr2.out, ⟨hM2.out.os, hM2.out.tape, hM2.out.output, hM2.out.size, hM2.out.block⟩⟩
      case measure => simp [intOf]; exact hrk.out
end Go.Proofs.Ytncileojdighnaa

/- UnifyStays: the heap between calls, at any places. -/
import Derived.Deep.RegionHeld3
import Derived.Test.YtlibjdilicfcdaaGreatDoorns50Z
import Derived.Test.YtlibjdilicfcdaaGreatDoorns51Z
import Derived.Test.YtlibjdilicfcdaaGreatDoorns43Z
import Derived.Test.YtlibjdilicfcdaaGreatDoorns46Z
namespace Go.Proofs.YtlibjdilicfcdaaGreatDoor
set_option maxRecDepth 100000
open Go.RowKit Go.Maps
theorem place_any {w : World} {ao : Option Addr} {n c q : Nat} (x : Int) (h0 : 0 < n → ao = some ⟨q, 0, none⟩ ∧ n ≤ c) (hr : ∀ k, k < n → w.cell? ⟨q, k, none⟩ = some (.int .i64 (k : Int))) :
    Calls Tryz.prog 42 #[.slice ao n c, .int .i64 x] w fun e w' => e = .returned (.int .i64 x) ∧ w' = w := by
  by_cases hx : 0 ≤ x
  · obtain ⟨k, rfl⟩ : ∃ k : Nat, x = (k : Int) := ⟨x.toNat, by omega⟩
    by_cases hk : k < n
    · obtain ⟨rfl, hc⟩ := h0 (by omega)
      have d0 := hr k hk
      have hk2 : (k : Int) < (n : Int) := by omega
      have hk3 : ¬ ((k : Int) < 0) := by omega
      clear hr h0
      go_enter Tryz.func42, Tryz.ntmps42
      go_wp2
      go_ret
      exact ⟨rfl, rfl⟩
    · have hk2 : ¬ ((k : Int) < (n : Int)) := by omega
      have hk3 : (0 : Int) ≤ (k : Int) := by omega
      clear hr h0
      go_enter Tryz.func42, Tryz.ntmps42
      go_wp2
      go_ret
      exact ⟨rfl, rfl⟩
  · have hk3 : ¬ ((0 : Int) ≤ x) := hx
    clear hr h0
    go_enter Tryz.func42, Tryz.ntmps42
    go_wp2
    go_ret
    exact ⟨rfl, rfl⟩
structure Bz (W : World) (B hb q n : Nat) (m : Int) (s : Hst) (X : Nat → Prop) (w : World) : Prop where
  b : Below W.heap.size W w
  h : ∃ F, Hs w B hb m F s ∧ ∀ k, F k → W.heap.size ≤ k ∧ (0 < n → k ≠ q) ∧ ¬ X k
  r : ∀ k, k < n → w.cell? ⟨q, k, none⟩ = some (.int .i64 (k : Int))
  z : 0 < n → q < w.heap.size
  xz : ∀ k, X k → k < w.heap.size
  B1 : W.heap.size ≤ B
  B2 : B ≤ w.heap.size
  sn : SndN s.l s.ns.length
  nd : s.ns.Nodup
  l4 : s.l.length ≤ 4000
section
variable {W w w' : World} {B hb q n : Nat} {m : Int} {s : Hst} {X : Nat → Prop}
theorem Bz.next (h : Bz W B hb q n m s X w) (hb' : Below w.heap.size w w') : Bz W B hb q n m s X w' := by
  obtain ⟨F, h1, h2⟩ := h.h
  exact ⟨Below.next h.b hb', ⟨F, h1.below hb', h2⟩, fun k hk => (hb'.cell (p := ⟨q, k, none⟩) (h.z (by omega))).trans (h.r k hk), fun hn => Nat.lt_of_lt_of_le (h.z hn) hb'.size, fun k hk => Nat.lt_of_lt_of_le (h.xz k hk) hb'.size, h.B1, Nat.le_trans h.B2 hb'.size, h.sn, h.nd, h.l4⟩
theorem Bz.more (h : Bz W B hb q n m s X w) (hb' : Below w.heap.size w w') : Bz W B hb q n m s (fun k => X k ∨ (w.heap.size ≤ k ∧ k < w'.heap.size)) w' := by
  obtain ⟨F, h1, h2⟩ := h.h
  have h3 := h.next hb'
  refine ⟨h3.b, ⟨_, h1.lt.below hb', fun k hk => ⟨(h2 k hk.1).1, (h2 k hk.1).2.1, fun hx => ?_⟩⟩, h3.r, h3.z, fun k hk => ?_, h3.B1, h3.B2, h.sn, h.nd, h.l4⟩
  · rcases hx with hx | hx
    · exact (h2 k hk.1).2.2 hx
    · have := hk.2
      omega
  · rcases hk with hk | hk
    · exact h3.xz k hk
    · exact hk.2
theorem Bz.less (h : Bz W B hb q n m s X w) {Y : Nat → Prop} (hy : ∀ k, Y k → X k) : Bz W B hb q n m s Y w := by
  obtain ⟨F, h1, h2⟩ := h.h
  exact ⟨h.b, ⟨F, h1, fun k hk => ⟨(h2 k hk).1, (h2 k hk).2.1, fun hx => (h2 k hk).2.2 (hy k hx)⟩⟩, h.r, h.z, fun k hk => h.xz k (hy k hk), h.B1, h.B2, h.sn, h.nd, h.l4⟩
structure Stq (s s' : Hst) (ok : Bool) : Prop where
  no : ok = false → s' = s
  pt : s'.pt = s.pt
  l : s'.l.length = s.l.length
  ns : s'.ns = s.ns
  n0 : s.n ≤ s'.n
  n1 : s'.n ≤ s.n + 4000
  t1 : s'.tr.length ≤ s.tr.length + 4000
theorem Stq.same (s : Hst) : Stq s s false := ⟨fun _ => rfl, rfl, rfl, rfl, Int.le_refl _, by omega, by omega⟩
theorem Bz.unify (hE : ErrC W) (h : Bz W B hb q n m s X w) (hf : Few s) (a b : Int) :
    Calls Tryz.prog 12 #[.pointer (some ⟨hb, 0, none⟩), .int .i64 a, .int .i64 b] w fun e w' => ∃ ok ev s', e = .returned (.tuple #[.bool ok, ev]) ∧ (ev = .nilIface ∨ (ok = false ∧ ∃ p, ev = .iface 84 (.pointer (some ⟨p, 0, none⟩)))) ∧ Stq s s' ok ∧ Bz W B hb q n m s' X w' ∧ (∀ k, X k → w'.heap[k]? = w.heap[k]?) := by
  obtain ⟨F, h1, h2⟩ := h.h
  have hl := h.l4
  by_cases hc : cellB s.l a = true ∧ cellB s.l b = true
  · refine (unify_any h1 h.sn (by omega) h.nd hf h.B2 hc.1 hc.2).mono ?_
    rintro e w' ⟨ok, e1, hy, hn⟩
    cases ok with
    | false =>
      have hb' := (hn rfl).2
      exact ⟨false, _, s, e1, Or.inl rfl, Stq.same s, h.next hb', fun k hk => hb'.block k (h.xz k hk)⟩
    | true =>
      obtain ⟨E, k, s', g1, g2, g3⟩ := hy rfl
      obtain ⟨k1, k2, k3, k4, k5, k6⟩ := g1.wr.keeps
      have hkl : k ≤ 4000 := by
        obtain ⟨xs, t1, t2, t3⟩ := g1.nd
        have h9 := nodup_valsG (fun x => x) (utT s.l).length xs t2 (fun x hx => ⟨x, (t3 x hx).1, rfl⟩)
        have h8 := ut_len (l := s.l)
        omega
      have hW := h.b.size
      refine ⟨true, _, s', e1, Or.inl rfl, ⟨fun e => (by cases e), k2, k4, k1, by omega, by omega, by omega⟩, ⟨Below.trans h.b (g3.below (fun k hk => (h2 k hk).1) hW), ⟨_, g2, fun k hk => ?_⟩, fun k hk => ?_, fun hn => Nat.lt_of_lt_of_le (h.z hn) g3.size, fun k hk => Nat.lt_of_lt_of_le (h.xz k hk) g3.size, h.B1, Nat.le_trans h.B2 g3.size, ?_, by rw [k1]; exact h.nd, by omega⟩, fun k hk => g3.block k (h.xz k hk) (fun hx => (h2 k hx).2.2 hk)⟩
      · rcases hk with hk | hk
        · exact h2 k hk
        · exact ⟨by omega, fun hn => by have := h.z hn; omega, fun hx => by have := h.xz k hx; omega⟩
      · have h7 := g3.block q (h.z (by omega)) (fun hx => (h2 q hx).2.1 (by omega) rfl)
        have h8 := h.r k hk
        simpa [World.cell?, h7] using h8
      · have h7 := g1.wf.snd
        rw [← k1] at h7
        exact h7
  · exact (unify_bad (hE.below h.b) h1 hc).mono fun e w' ⟨⟨p, e1, _⟩, hb'⟩ => ⟨false, _, s, e1, Or.inr ⟨rfl, p, rfl⟩, Stq.same s, h.next hb', fun k hk => hb'.block k (h.xz k hk)⟩
theorem Bz.top (h : Bz W B hb q n m s X w) :
    Calls Tryz.prog 40 #[.pointer (some ⟨hb, 0, none⟩)] w fun e w' => e = .returned (.int .i64 (s.l.length : Int)) ∧ w' = w := by
  obtain ⟨F, ⟨ab, tb, av, tv, tq, trv, ptv, hq, hf⟩, h2⟩ := h.h
  exact htop_any hq.hp
theorem Bz.points (h : Bz W B hb q n m s X w) :
    Calls Tryz.prog 41 #[.pointer (some ⟨hb, 0, none⟩)] w fun e w' => e = .returned (.int .i64 (s.pt.length : Int)) ∧ w' = w := by
  obtain ⟨F, h1, h2⟩ := h.h
  exact hpoints_any h1
theorem Bz.dump (h : Bz W B hb q n m s X w) (ht : s.tr.length ≤ 100000) (hp : s.pt.length ≤ 100000) :
    Calls Tryz.prog 39 #[.pointer (some ⟨hb, 0, none⟩)] w fun e w' => (∃ a1 c1 a2 c2 a3 c3 ua uc, e = .returned (.agg #[.slice a1 s.l.length c1, .slice a2 s.tr.length c2, .slice a3 s.pt.length c3, .slice ua s.ns.length uc, .slice none 0 0]) ∧ w'.ownsRow w.heap.size 123 1 (.slice a1 s.l.length c1) s.l.length (s.l.map (Value.int .u64))) ∧ Below w.heap.size w w' := by
  obtain ⟨F, ⟨ab, tb, av, tv, tq, trv, ptv, hq, hf⟩, h2⟩ := h.h
  exact (dump_hq hq ht hp).mono fun e w' ⟨⟨a1, c1, a2, c2, a3, c3, ua, uc, e1, e2, _⟩, e3⟩ => ⟨⟨a1, c1, a2, c2, a3, c3, ua, uc, e1, e2.r1⟩, e3⟩
end
end Go.Proofs.YtlibjdilicfcdaaGreatDoor

namespace Go.Proofs.YtlibjdilicfcdaaGreatDoor
set_option maxRecDepth 100000
open Go.RowKit Go.Maps
abbrev Sku (g1 g2 k : Nat) (x : Int) (w : World) : Prop := w.cell? ⟨g1, k, none⟩ = some (.int .u64 x) ∧ w.cell? ⟨g2, k, none⟩ = some (.int .u64 x)
theorem sku_dr {g1 g2 k : Nat} {x : Int} {w : World} (h : Sku g1 g2 k x w) : Sku g1 g2 k x w.drew := h
theorem own_at0 {w : World} {B : Nat} {ao : Option Addr} {c : Nat} {l : List Int} (h : w.ownsRow B 123 1 (.slice ao l.length c) l.length (l.map (Value.int .u64))) {k : Nat} (hk : k < l.length) : ∃ g, ao = some ⟨g, 0, none⟩ ∧ g < w.heap.size ∧ w.cell? ⟨g, k, none⟩ = some (.int .u64 (l.getD k 0)) := by
  obtain ⟨g, rfl⟩ : ∃ g, ao = some ⟨g, 0, none⟩ := by
    rcases h.2 with ⟨h8, h9⟩ | ⟨g, cap, cur, h8, _⟩
    · omega
    · injection h8 with h8 _ _
      exact ⟨g, h8⟩
  refine ⟨g, rfl, (h.lt g rfl).2, ?_⟩
  rw [h.cellAt k (by omega)]
  simp [List.getD, hk]
set_option maxHeartbeats 4000000 in
theorem usame_any {w : World} {B1 B2 : Nat} {a1 a2 : Option Addr} {c1 c2 : Nat} {l : List Int} (hl : l.length ≤ 100000) (h1 : w.ownsRow B1 123 1 (.slice a1 l.length c1) l.length (l.map (Value.int .u64))) (h2 : w.ownsRow B2 123 1 (.slice a2 l.length c2) l.length (l.map (Value.int .u64))) :
    Calls Tryz.prog 43 #[.slice a1 l.length c1, .slice a2 l.length c2] w fun e w' => e = .returned (.bool true) ∧ Below w.heap.size w w' := by
  have H1 := hid (fun k (hk : k < l.length) => own_at0 h1 hk)
  have H2 := hid (fun k (hk : k < l.length) => own_at0 h2 hk)
  clear h1 h2
  go_enter Tryz.func43, Tryz.ntmps43
  go_wp2
  go_loopw [5] (fun s5 wr => ∃ k : Nat, s5 = .int .i64 (k : Int) ∧ k ≤ l.length ∧ Hid (Below w.heap.size w wr)) (fun s5 _ => l.length - (intOf s5).toNat)
  case atStart => exact ⟨0, rfl, Nat.zero_le _, Below.refl _ _⟩
  case round =>
    obtain ⟨k, rfl, hk, hB⟩ := hrel
    by_cases hlt : k < l.length
    · obtain ⟨g1, rfl, z1, d1⟩ := H1.out k hlt
      obtain ⟨g2, rfl, z2, d2⟩ := H2.out k hlt
      have e1 := (hB.out.cell (p := ⟨g1, k, none⟩) z1).trans d1
      have e2 := (hB.out.cell (p := ⟨g2, k, none⟩) z2).trans d2
      have hkz : (k : Int) < (l.length : Int) := by omega
      generalize l.getD k 0 = x at e1 e2
      clear d1 d2 z1 z2
      go_wp2
      go_region_held3 (fun w' => Sku g1 g2 k x w') (first | (with_reducible exact ⟨e1, e2⟩) | (with_reducible exact sku_dr ⟨e1, e2⟩)) (first | fail)
      all_goals go_wp2
      all_goals go_roundw
      all_goals first
        | exact ⟨k + 1, congrArg (Value.int .i64) (by omega), by omega, hid hB.out.drew⟩
        | exact ⟨k + 1, congrArg (Value.int .i64) (by omega), by omega, hB⟩
        | (simp [intOf]; omega)
    · obtain rfl : k = l.length := by omega
      go_wp2
      go_ret
      exact ⟨rfl, hB.out⟩
theorem bz_of {W w3 w : World} {hb : Nat} {m : Int} {F : Nat → Prop} {g : Gf} {ao : Option Addr} {c : Nat} (h3 : Below W.heap.size W w3) (hb' : Below w3.heap.size w3 w) (hl : (putHs hs0 (gAll g)).l.length ≤ 4000) (ho : w.ownsRow w3.heap.size 3 1 (.slice ao g.nodes.length c) g.nodes.length ((csL 0 g.nodes.length).map (Value.int .i64))) (hH : Hs w w3.heap.size hb m F (putHs hs0 (gAll g))) (hF : ∀ k, F k → w3.heap.size ≤ k ∧ (Value.slice ao g.nodes.length c).ownBlock ≠ some k) (hj : Sj (putHs hs0 (gAll g)) 1) :
    ∃ q, (0 < g.nodes.length → ao = some ⟨q, 0, none⟩ ∧ g.nodes.length ≤ c) ∧ Bz W w3.heap.size hb q g.nodes.length m (putHs hs0 (gAll g)) (fun k => k < w3.heap.size) w := by
  have hz := h3.size
  have hnd : (putHs hs0 (gAll g)).ns.Nodup := by
    obtain ⟨ab, tb, av, tv, tq, trv, ptv, hq, _⟩ := hH
    exact hq.hp.tb.nodup
  by_cases hn : 0 < g.nodes.length
  · obtain ⟨q, rfl⟩ : ∃ q, ao = some ⟨q, 0, none⟩ := by
      rcases ho.2 with ⟨h8, h9⟩ | ⟨g, cap, cur, h8, _⟩
      · omega
      · injection h8 with h8 _ _
        exact ⟨g, h8⟩
    obtain ⟨_, c9, e9, h9, _⟩ := own_slq ho
    injection e9 with _ _ e9
    refine ⟨q, fun _ => ⟨rfl, by omega⟩, Below.trans h3 (hb'.mono hz), ⟨F, hH, fun k hk => ⟨by have := (hF k hk).1; omega, fun _ e => (hF k hk).2 (by rw [e]; rfl), fun hx => by have := (hF k hk).1; omega⟩⟩, fun k hk => ?_, fun _ => (ho.lt q rfl).2, fun k hk => Nat.lt_of_lt_of_le hk hb'.size, hz, hb'.size, hj.si.now, hnd, hl⟩
    rw [ho.cellAt k (by omega)]
    simp [csL, hk]
  · exact ⟨0, fun h => absurd h hn, Below.trans h3 (hb'.mono hz), ⟨F, hH, fun k hk => ⟨by have := (hF k hk).1; omega, fun h => absurd h hn, fun hx => by have := (hF k hk).1; omega⟩⟩, fun k hk => absurd hk (by omega), fun h => absurd h hn, fun k hk => Nat.lt_of_lt_of_le hk hb'.size, hz, hb'.size, hj.si.now, hnd, hl⟩
section
variable {W w w' : World} {B hb q n : Nat} {m : Int} {s : Hst} {X : Nat → Prop}
theorem Bz.point (h : Bz W B hb q n m s X w) (hj : Sj s 1) :
    Calls Tryz.prog 38 #[.pointer (some ⟨hb, 0, none⟩)] w fun e w' => (∃ ev, e = .returned (.tuple #[ev, .nilIface])) ∧ Bz W B hb q n m ⟨s.l, s.ns, s.tr, s.pt ++ [(s.tr.length, s.l.length)], s.n⟩ X w' ∧ (∀ k, X k → w'.heap[k]? = w.heap[k]?) := by
  obtain ⟨F, h1, h2⟩ := h.h
  refine (point_lv h1 h.B2 hj (by decide)).mono ?_
  rintro e w' ⟨e1, g2, g3⟩
  have hW := h.b.size
  refine ⟨⟨_, e1⟩, ⟨Below.trans h.b (g3.below (fun k hk => (h2 k hk).1) hW), ⟨_, g2, fun k hk => ?_⟩, fun k hk => ?_, fun hn => Nat.lt_of_lt_of_le (h.z hn) g3.size, fun k hk => Nat.lt_of_lt_of_le (h.xz k hk) g3.size, h.B1, Nat.le_trans h.B2 g3.size, h.sn, h.nd, h.l4⟩, fun k hk => g3.block k (h.xz k hk) (fun hx => (h2 k hx).2.2 hk)⟩
  · rcases hk with hk | hk
    · exact h2 k hk
    · exact ⟨by omega, fun hn => by have := h.z hn; omega, fun hx => by have := h.xz k hx; omega⟩
  · have h7 := g3.block q (h.z (by omega)) (fun hx => (h2 q hx).2.1 (by omega) rfl)
    have h8 := h.r k hk
    simpa [World.cell?, h7] using h8
end
end Go.Proofs.YtlibjdilicfcdaaGreatDoor

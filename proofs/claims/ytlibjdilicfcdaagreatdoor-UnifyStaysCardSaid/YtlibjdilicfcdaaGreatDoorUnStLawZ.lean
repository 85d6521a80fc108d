/- UnifyStays of layer 12 holds at every graph, every two pairs and every bool. -/
import Derived.Deep.RegionHeld3
import Derived.Test.YtlibjdilicfcdaaGreatDoorns50Z
import Derived.Test.YtlibjdilicfcdaaGreatDoorns51Z
import Derived.Test.YtlibjdilicfcdaaGreatDoorns43Z
import Derived.Test.YtlibjdilicfcdaaGreatDoorns46Z
import Derived.Deep.DeepCutAuto
import Derived.Test.YtlibjdilicfcdaaGreatDoorns52Z
import Derived.Test.YtlibjdilicfcdaaGreatDoorns08Z
import Derived.Test.YtlibjdilicfcdaaGreatDoorns39Z
namespace Go.Proofs.YtlibjdilicfcdaaGreatDoor
set_option maxRecDepth 100000
open Go.RowKit Go.Maps
theorem place_any {w : World} {ao : Option Addr} {n c q : Nat} (x : Int) (h0 : 0 < n → ao = some ⟨q, 0, none⟩ ∧ n ≤ c) (hr : ∀ k, k < n → w.cell? ⟨q, k, none⟩ = some (.int .i64 (k : Int))) :
    Calls Tryz.prog 42 #[.slice ao n c, .int .i64 x] w fun e w' => e = .returned (.int .i64 x) ∧ w' = w := by
  by_cases hx : 0 ≤ x
  · obtain ⟨k, rfl⟩ : ∃ k : Nat, x = (k : Int) := ⟨x.toNat, by omega⟩
    by_cases hk : k < n
    · obtain ⟨rfl, hc⟩ := h0 (by omega)
      have d0 := hr k hk
      have hk2 : (k : Int) < (n : Int) := by omega
      have hk3 : ¬ ((k : Int) < 0) := by omega
      clear hr h0
      go_enter Tryz.func42, Tryz.ntmps42
      go_wp2
      go_ret
      exact ⟨rfl, rfl⟩
    · have hk2 : ¬ ((k : Int) < (n : Int)) := by omega
      have hk3 : (0 : Int) ≤ (k : Int) := by omega
      clear hr h0
      go_enter Tryz.func42, Tryz.ntmps42
      go_wp2
      go_ret
      exact ⟨rfl, rfl⟩
  · have hk3 : ¬ ((0 : Int) ≤ x) := hx
    clear hr h0
    go_enter Tryz.func42, Tryz.ntmps42
    go_wp2
    go_ret
    exact ⟨rfl, rfl⟩
structure Bz (W : World) (B hb q n : Nat) (m : Int) (s : Hst) (X : Nat → Prop) (w : World) : Prop where
  b : Below W.heap.size W w
  h : ∃ F, Hs w B hb m F s ∧ ∀ k, F k → W.heap.size ≤ k ∧ (0 < n → k ≠ q) ∧ ¬ X k
  r : ∀ k, k < n → w.cell? ⟨q, k, none⟩ = some (.int .i64 (k : Int))
  z : 0 < n → q < w.heap.size
  xz : ∀ k, X k → k < w.heap.size
  B1 : W.heap.size ≤ B
  B2 : B ≤ w.heap.size
  sn : SndN s.l s.ns.length
  nd : s.ns.Nodup
  l4 : s.l.length ≤ 4000
section
variable {W w w' : World} {B hb q n : Nat} {m : Int} {s : Hst} {X : Nat → Prop}
theorem Bz.next (h : Bz W B hb q n m s X w) (hb' : Below w.heap.size w w') : Bz W B hb q n m s X w' := by
  obtain ⟨F, h1, h2⟩ := h.h
  exact ⟨Below.next h.b hb', ⟨F, h1.below hb', h2⟩, fun k hk => (hb'.cell (p := ⟨q, k, none⟩) (h.z (by omega))).trans (h.r k hk), fun hn => Nat.lt_of_lt_of_le (h.z hn) hb'.size, fun k hk => Nat.lt_of_lt_of_le (h.xz k hk) hb'.size, h.B1, Nat.le_trans h.B2 hb'.size, h.sn, h.nd, h.l4⟩
theorem Bz.more (h : Bz W B hb q n m s X w) (hb' : Below w.heap.size w w') : Bz W B hb q n m s (fun k => X k ∨ (w.heap.size ≤ k ∧ k < w'.heap.size)) w' := by
  obtain ⟨F, h1, h2⟩ := h.h
  have h3 := h.next hb'
  refine ⟨h3.b, ⟨_, h1.lt.below hb', fun k hk => ⟨(h2 k hk.1).1, (h2 k hk.1).2.1, fun hx => ?_⟩⟩, h3.r, h3.z, fun k hk => ?_, h3.B1, h3.B2, h.sn, h.nd, h.l4⟩
  · rcases hx with hx | hx
    · exact (h2 k hk.1).2.2 hx
    · have := hk.2
      omega
  · rcases hk with hk | hk
    · exact h3.xz k hk
    · exact hk.2
theorem Bz.less (h : Bz W B hb q n m s X w) {Y : Nat → Prop} (hy : ∀ k, Y k → X k) : Bz W B hb q n m s Y w := by
  obtain ⟨F, h1, h2⟩ := h.h
  exact ⟨h.b, ⟨F, h1, fun k hk => ⟨(h2 k hk).1, (h2 k hk).2.1, fun hx => (h2 k hk).2.2 (hy k hx)⟩⟩, h.r, h.z, fun k hk => h.xz k (hy k hk), h.B1, h.B2, h.sn, h.nd, h.l4⟩
structure Stq (s s' : Hst) (ok : Bool) : Prop where
  no : ok = false → s' = s
  pt : s'.pt = s.pt
  l : s'.l.length = s.l.length
  ns : s'.ns = s.ns
  n0 : s.n ≤ s'.n
  n1 : s'.n ≤ s.n + 4000
  t1 : s'.tr.length ≤ s.tr.length + 4000
theorem Stq.same (s : Hst) : Stq s s false := ⟨fun _ => rfl, rfl, rfl, rfl, Int.le_refl _, by omega, by omega⟩
theorem Bz.unify (hE : ErrC W) (h : Bz W B hb q n m s X w) (hf : Few s) (a b : Int) :
    Calls Tryz.prog 12 #[.pointer (some ⟨hb, 0, none⟩), .int .i64 a, .int .i64 b] w fun e w' => ∃ ok ev s', e = .returned (.tuple #[.bool ok, ev]) ∧ (ev = .nilIface ∨ (ok = false ∧ ∃ p, ev = .iface 84 (.pointer (some ⟨p, 0, none⟩)))) ∧ Stq s s' ok ∧ Bz W B hb q n m s' X w' ∧ (∀ k, X k → w'.heap[k]? = w.heap[k]?) := by
  obtain ⟨F, h1, h2⟩ := h.h
  have hl := h.l4
  by_cases hc : cellB s.l a = true ∧ cellB s.l b = true
  · refine (unify_any h1 h.sn (by omega) h.nd hf h.B2 hc.1 hc.2).mono ?_
    rintro e w' ⟨ok, e1, hy, hn⟩
    cases ok with
    | false =>
      have hb' := (hn rfl).2
      exact ⟨false, _, s, e1, Or.inl rfl, Stq.same s, h.next hb', fun k hk => hb'.block k (h.xz k hk)⟩
    | true =>
      obtain ⟨E, k, s', g1, g2, g3⟩ := hy rfl
      obtain ⟨k1, k2, k3, k4, k5, k6⟩ := g1.wr.keeps
      have hkl : k ≤ 4000 := by
        obtain ⟨xs, t1, t2, t3⟩ := g1.nd
        have h9 := nodup_valsG (fun x => x) (utT s.l).length xs t2 (fun x hx => ⟨x, (t3 x hx).1, rfl⟩)
        have h8 := ut_len (l := s.l)
        omega
      have hW := h.b.size
      refine ⟨true, _, s', e1, Or.inl rfl, ⟨fun e => (by cases e), k2, k4, k1, by omega, by omega, by omega⟩, ⟨Below.trans h.b (g3.below (fun k hk => (h2 k hk).1) hW), ⟨_, g2, fun k hk => ?_⟩, fun k hk => ?_, fun hn => Nat.lt_of_lt_of_le (h.z hn) g3.size, fun k hk => Nat.lt_of_lt_of_le (h.xz k hk) g3.size, h.B1, Nat.le_trans h.B2 g3.size, ?_, by rw [k1]; exact h.nd, by omega⟩, fun k hk => g3.block k (h.xz k hk) (fun hx => (h2 k hx).2.2 hk)⟩
      · rcases hk with hk | hk
        · exact h2 k hk
        · exact ⟨by omega, fun hn => by have := h.z hn; omega, fun hx => by have := h.xz k hx; omega⟩
      · have h7 := g3.block q (h.z (by omega)) (fun hx => (h2 q hx).2.1 (by omega) rfl)
        have h8 := h.r k hk
        simpa [World.cell?, h7] using h8
      · have h7 := g1.wf.snd
        rw [← k1] at h7
        exact h7
  · exact (unify_bad (hE.below h.b) h1 hc).mono fun e w' ⟨⟨p, e1, _⟩, hb'⟩ => ⟨false, _, s, e1, Or.inr ⟨rfl, p, rfl⟩, Stq.same s, h.next hb', fun k hk => hb'.block k (h.xz k hk)⟩
theorem Bz.top (h : Bz W B hb q n m s X w) :
    Calls Tryz.prog 40 #[.pointer (some ⟨hb, 0, none⟩)] w fun e w' => e = .returned (.int .i64 (s.l.length : Int)) ∧ w' = w := by
  obtain ⟨F, ⟨ab, tb, av, tv, tq, trv, ptv, hq, hf⟩, h2⟩ := h.h
  exact htop_any hq.hp
theorem Bz.points (h : Bz W B hb q n m s X w) :
    Calls Tryz.prog 41 #[.pointer (some ⟨hb, 0, none⟩)] w fun e w' => e = .returned (.int .i64 (s.pt.length : Int)) ∧ w' = w := by
  obtain ⟨F, h1, h2⟩ := h.h
  exact hpoints_any h1
theorem Bz.dump (h : Bz W B hb q n m s X w) (ht : s.tr.length ≤ 100000) (hp : s.pt.length ≤ 100000) :
    Calls Tryz.prog 39 #[.pointer (some ⟨hb, 0, none⟩)] w fun e w' => (∃ a1 c1 a2 c2 a3 c3 ua uc, e = .returned (.agg #[.slice a1 s.l.length c1, .slice a2 s.tr.length c2, .slice a3 s.pt.length c3, .slice ua s.ns.length uc, .slice none 0 0]) ∧ w'.ownsRow w.heap.size 123 1 (.slice a1 s.l.length c1) s.l.length (s.l.map (Value.int .u64))) ∧ Below w.heap.size w w' := by
  obtain ⟨F, ⟨ab, tb, av, tv, tq, trv, ptv, hq, hf⟩, h2⟩ := h.h
  exact (dump_hq hq ht hp).mono fun e w' ⟨⟨a1, c1, a2, c2, a3, c3, ua, uc, e1, e2, _⟩, e3⟩ => ⟨⟨a1, c1, a2, c2, a3, c3, ua, uc, e1, e2.r1⟩, e3⟩
end
end Go.Proofs.YtlibjdilicfcdaaGreatDoor

namespace Go.Proofs.YtlibjdilicfcdaaGreatDoor
set_option maxRecDepth 100000
open Go.RowKit Go.Maps
abbrev Sku (g1 g2 k : Nat) (x : Int) (w : World) : Prop := w.cell? ⟨g1, k, none⟩ = some (.int .u64 x) ∧ w.cell? ⟨g2, k, none⟩ = some (.int .u64 x)
theorem sku_dr {g1 g2 k : Nat} {x : Int} {w : World} (h : Sku g1 g2 k x w) : Sku g1 g2 k x w.drew := h
theorem own_at0 {w : World} {B : Nat} {ao : Option Addr} {c : Nat} {l : List Int} (h : w.ownsRow B 123 1 (.slice ao l.length c) l.length (l.map (Value.int .u64))) {k : Nat} (hk : k < l.length) : ∃ g, ao = some ⟨g, 0, none⟩ ∧ g < w.heap.size ∧ w.cell? ⟨g, k, none⟩ = some (.int .u64 (l.getD k 0)) := by
  obtain ⟨g, rfl⟩ : ∃ g, ao = some ⟨g, 0, none⟩ := by
    rcases h.2 with ⟨h8, h9⟩ | ⟨g, cap, cur, h8, _⟩
    · omega
    · injection h8 with h8 _ _
      exact ⟨g, h8⟩
  refine ⟨g, rfl, (h.lt g rfl).2, ?_⟩
  rw [h.cellAt k (by omega)]
  simp [List.getD, hk]
set_option maxHeartbeats 4000000 in
theorem usame_any {w : World} {B1 B2 : Nat} {a1 a2 : Option Addr} {c1 c2 : Nat} {l : List Int} (hl : l.length ≤ 100000) (h1 : w.ownsRow B1 123 1 (.slice a1 l.length c1) l.length (l.map (Value.int .u64))) (h2 : w.ownsRow B2 123 1 (.slice a2 l.length c2) l.length (l.map (Value.int .u64))) :
    Calls Tryz.prog 43 #[.slice a1 l.length c1, .slice a2 l.length c2] w fun e w' => e = .returned (.bool true) ∧ Below w.heap.size w w' := by
  have H1 := hid (fun k (hk : k < l.length) => own_at0 h1 hk)
  have H2 := hid (fun k (hk : k < l.length) => own_at0 h2 hk)
  clear h1 h2
  go_enter Tryz.func43, Tryz.ntmps43
  go_wp2
  go_loopw [5] (fun s5 wr => ∃ k : Nat, s5 = .int .i64 (k : Int) ∧ k ≤ l.length ∧ Hid (Below w.heap.size w wr)) (fun s5 _ => l.length - (intOf s5).toNat)
  case atStart => exact ⟨0, rfl, Nat.zero_le _, Below.refl _ _⟩
  case round =>
    obtain ⟨k, rfl, hk, hB⟩ := hrel
    by_cases hlt : k < l.length
    · obtain ⟨g1, rfl, z1, d1⟩ := H1.out k hlt
      obtain ⟨g2, rfl, z2, d2⟩ := H2.out k hlt
      have e1 := (hB.out.cell (p := ⟨g1, k, none⟩) z1).trans d1
      have e2 := (hB.out.cell (p := ⟨g2, k, none⟩) z2).trans d2
      have hkz : (k : Int) < (l.length : Int) := by omega
      generalize l.getD k 0 = x at e1 e2
      clear d1 d2 z1 z2
      go_wp2
      go_region_held3 (fun w' => Sku g1 g2 k x w') (first | (with_reducible exact ⟨e1, e2⟩) | (with_reducible exact sku_dr ⟨e1, e2⟩)) (first | fail)
      all_goals go_wp2
      all_goals go_roundw
      all_goals first
        | exact ⟨k + 1, congrArg (Value.int .i64) (by omega), by omega, hid hB.out.drew⟩
        | exact ⟨k + 1, congrArg (Value.int .i64) (by omega), by omega, hB⟩
        | (simp [intOf]; omega)
    · obtain rfl : k = l.length := by omega
      go_wp2
      go_ret
      exact ⟨rfl, hB.out⟩
theorem bz_of {W w3 w : World} {hb : Nat} {m : Int} {F : Nat → Prop} {g : Gf} {ao : Option Addr} {c : Nat} (h3 : Below W.heap.size W w3) (hb' : Below w3.heap.size w3 w) (hl : (putHs hs0 (gAll g)).l.length ≤ 4000) (ho : w.ownsRow w3.heap.size 3 1 (.slice ao g.nodes.length c) g.nodes.length ((csL 0 g.nodes.length).map (Value.int .i64))) (hH : Hs w w3.heap.size hb m F (putHs hs0 (gAll g))) (hF : ∀ k, F k → w3.heap.size ≤ k ∧ (Value.slice ao g.nodes.length c).ownBlock ≠ some k) (hj : Sj (putHs hs0 (gAll g)) 1) :
    ∃ q, (0 < g.nodes.length → ao = some ⟨q, 0, none⟩ ∧ g.nodes.length ≤ c) ∧ Bz W w3.heap.size hb q g.nodes.length m (putHs hs0 (gAll g)) (fun k => k < w3.heap.size) w := by
  have hz := h3.size
  have hnd : (putHs hs0 (gAll g)).ns.Nodup := by
    obtain ⟨ab, tb, av, tv, tq, trv, ptv, hq, _⟩ := hH
    exact hq.hp.tb.nodup
  by_cases hn : 0 < g.nodes.length
  · obtain ⟨q, rfl⟩ : ∃ q, ao = some ⟨q, 0, none⟩ := by
      rcases ho.2 with ⟨h8, h9⟩ | ⟨g, cap, cur, h8, _⟩
      · omega
      · injection h8 with h8 _ _
        exact ⟨g, h8⟩
    obtain ⟨_, c9, e9, h9, _⟩ := own_slq ho
    injection e9 with _ _ e9
    refine ⟨q, fun _ => ⟨rfl, by omega⟩, Below.trans h3 (hb'.mono hz), ⟨F, hH, fun k hk => ⟨by have := (hF k hk).1; omega, fun _ e => (hF k hk).2 (by rw [e]; rfl), fun hx => by have := (hF k hk).1; omega⟩⟩, fun k hk => ?_, fun _ => (ho.lt q rfl).2, fun k hk => Nat.lt_of_lt_of_le hk hb'.size, hz, hb'.size, hj.si.now, hnd, hl⟩
    rw [ho.cellAt k (by omega)]
    simp [csL, hk]
  · exact ⟨0, fun h => absurd h hn, Below.trans h3 (hb'.mono hz), ⟨F, hH, fun k hk => ⟨by have := (hF k hk).1; omega, fun h => absurd h hn, fun hx => by have := (hF k hk).1; omega⟩⟩, fun k hk => absurd hk (by omega), fun h => absurd h hn, fun k hk => Nat.lt_of_lt_of_le hk hb'.size, hz, hb'.size, hj.si.now, hnd, hl⟩
section
variable {W w w' : World} {B hb q n : Nat} {m : Int} {s : Hst} {X : Nat → Prop}
theorem Bz.point (h : Bz W B hb q n m s X w) (hj : Sj s 1) :
    Calls Tryz.prog 38 #[.pointer (some ⟨hb, 0, none⟩)] w fun e w' => (∃ ev, e = .returned (.tuple #[ev, .nilIface])) ∧ Bz W B hb q n m ⟨s.l, s.ns, s.tr, s.pt ++ [(s.tr.length, s.l.length)], s.n⟩ X w' ∧ (∀ k, X k → w'.heap[k]? = w.heap[k]?) := by
  obtain ⟨F, h1, h2⟩ := h.h
  refine (point_lv h1 h.B2 hj (by decide)).mono ?_
  rintro e w' ⟨e1, g2, g3⟩
  have hW := h.b.size
  refine ⟨⟨_, e1⟩, ⟨Below.trans h.b (g3.below (fun k hk => (h2 k hk).1) hW), ⟨_, g2, fun k hk => ?_⟩, fun k hk => ?_, fun hn => Nat.lt_of_lt_of_le (h.z hn) g3.size, fun k hk => Nat.lt_of_lt_of_le (h.xz k hk) g3.size, h.B1, Nat.le_trans h.B2 g3.size, h.sn, h.nd, h.l4⟩, fun k hk => g3.block k (h.xz k hk) (fun hx => (h2 k hx).2.2 hk)⟩
  · rcases hk with hk | hk
    · exact h2 k hk
    · exact ⟨by omega, fun hn => by have := h.z hn; omega, fun hx => by have := h.xz k hx; omega⟩
  · have h7 := g3.block q (h.z (by omega)) (fun hx => (h2 q hx).2.1 (by omega) rfl)
    have h8 := h.r k hk
    simpa [World.cell?, h7] using h8
end
end Go.Proofs.YtlibjdilicfcdaaGreatDoor
namespace Go.Proofs.YtlibjdilicfcdaaGreatDoor
set_option maxRecDepth 100000
open Go.RowKit Go.Maps
abbrev grO2 (nv rv : Value) : Obj := .cells #[nv, rv] 25
abbrev prO (a b : Int) : Obj := .cells #[.int .i64 a, .int .i64 b] 42
abbrev pr2O (a b c d : Int) : Obj := .cells #[.int .i64 a, .int .i64 b, .int .i64 c, .int .i64 d] 42
abbrev duO (a b c d e : Value) : Obj := .cells #[a, b, c, d, e] 96
structure Bx3 (W : World) (nv rv : Value) (x0 x1 y0 y1 : Int) (w : World) : Prop where
  b : Below W.heap.size W w
  g : w.heap[W.heap.size]? = some (grO2 nv rv)
  f : w.heap[W.heap.size + 1]? = some (prO x0 x1)
  t : w.heap[W.heap.size + 1 + 1]? = some (prO y0 y1)
theorem Bx3.next {W w w' : World} {nv rv : Value} {x0 x1 y0 y1 : Int} (h : Bx3 W nv rv x0 x1 y0 y1 w) (hb : Below w.heap.size w w') : Bx3 W nv rv x0 x1 y0 y1 w' :=
  ⟨Below.next h.b hb, (hb.block _ (lt_of_block h.g)).trans h.g, (hb.block _ (lt_of_block h.f)).trans h.f, (hb.block _ (lt_of_block h.t)).trans h.t⟩
theorem Bx3.keep {W w w' : World} {nv rv : Value} {x0 x1 y0 y1 : Int} {z : Nat} (h : Bx3 W nv rv x0 x1 y0 y1 w) (hz : W.heap.size + 1 + 1 < z) (hb : Below W.heap.size W w') (hk : ∀ k, k < z → w'.heap[k]? = w.heap[k]?) : Bx3 W nv rv x0 x1 y0 y1 w' :=
  ⟨hb, (hk _ (by omega)).trans h.g, (hk _ (by omega)).trans h.f, (hk _ hz).trans h.t⟩
theorem bx3_start (W : World) (nv rv : Value) (x0 x1 y0 y1 : Int) : Bx3 W nv rv x0 x1 y0 y1 (((W.alloc (grO2 nv rv)).alloc (prO x0 x1)).alloc (prO y0 y1)) := by
  have h1 := heap_alloc_new (W.alloc (grO2 nv rv)) (prO x0 x1)
  have h2 := heap_alloc_new ((W.alloc (grO2 nv rv)).alloc (prO x0 x1)) (prO y0 y1)
  rw [show (W.alloc (grO2 nv rv)).heap.size = W.heap.size + 1 by simp] at h1
  rw [show ((W.alloc (grO2 nv rv)).alloc (prO x0 x1)).heap.size = W.heap.size + 1 + 1 by simp] at h2
  exact ⟨((below_alloc W _).alloc (by simp) _).alloc (by simp; omega) _, (Below.heap_alloc _ _ _ (by simp; omega)).trans ((Below.heap_alloc _ _ _ (by simp)).trans (heap_alloc_new W _)), (Below.heap_alloc _ _ _ (by simp)).trans h1, h2⟩
theorem du_cells {w : World} {b : Nat} {u0 u1 u2 u3 u4 : Value} (h : w.heap[b]? = some (duO u0 u1 u2 u3 u4)) : (w.cell? ⟨b, 0, none⟩ = some u0 ∧ w.cell? ⟨b, 1, none⟩ = some u1) ∧ b < w.heap.size := by
  refine ⟨⟨?_, ?_⟩, lt_of_block h⟩ <;> simp [World.cell?, h]
section
variable {W w : World} {B hb q n : Nat} {m : Int} {s : Hst} {X : Nat → Prop} {k : Nat}
theorem Bz.topE (h : Bz W B hb q n m s X w) (hl : s.l.length = k) :
    Calls Tryz.prog 40 #[.pointer (some ⟨hb, 0, none⟩)] w fun e w' => e = .returned (.int .i64 (k : Int)) ∧ w' = w := by
  have h9 := h.top
  rw [hl] at h9
  exact h9
theorem Bz.pointsE (h : Bz W B hb q n m s X w) (hl : s.pt.length = k) :
    Calls Tryz.prog 41 #[.pointer (some ⟨hb, 0, none⟩)] w fun e w' => e = .returned (.int .i64 (k : Int)) ∧ w' = w := by
  have h9 := h.points
  rw [hl] at h9
  exact h9
end
structure Smz (s : Hst) (j : Nat) : Prop where
  n0 : 0 ≤ s.n
  n1 : s.n ≤ 4000 * j
  t : s.tr.length ≤ 4000 * j
  p : s.pt.length ≤ 1
theorem pr2_at {w : World} {b j : Nat} {x0 x1 y0 y1 : Int} (h : w.heap[b]? = some (pr2O x0 x1 y0 y1)) (hj : j < 2) : ∃ px py : Int, w.cell? ⟨b, j * 2, none⟩ = some (.int .i64 px) ∧ w.cell? ⟨b, j * 2 + 1, none⟩ = some (.int .i64 py) ∧ b < w.heap.size := by
  have hj2 : j = 0 ∨ j = 1 := by omega
  rcases hj2 with rfl | rfl
  · exact ⟨x0, x1, by simp [World.cell?, h], by simp [World.cell?, h], lt_of_block h⟩
  · exact ⟨y0, y1, by simp [World.cell?, h], by simp [World.cell?, h], lt_of_block h⟩
set_option maxHeartbeats 16000000 in
theorem stays_main {W : World} (hE : ErrC W) {nv rv : Value} {g : Gf} (hG : Gr W nv rv g) (hS : Sized g) (hs : smallK 200 g = true) (hc : one (chk g) = []) (x0 x1 y0 y1 : Int) (pt : Bool) :
    Calls Tryz.prog 15 #[.agg #[nv, rv], .agg #[.int .i64 x0, .int .i64 x1], .agg #[.int .i64 y0, .int .i64 y1], .bool pt] W fun e w' => e = .returned (.bool true) ∧ Below W.heap.size W w' := by
  have hsz := smallK_fits hs
  have HX0 := hid (bx3_start W nv rv x0 x1 y0 y1)
  have hsm := hid (fun w1 (h : Below W.heap.size W w1) => smallK_any (K := 200) (by decide) (hG.below h))
  rw [hs] at hsm
  have hck := hid (fun w1 (h : Below W.heap.size W w1) => check_any (hG.below h) hS)
  rw [hc] at hck
  obtain ⟨hp1, hp2⟩ := putc_small (z := 10000) hc (by omega) (by decide)
  have hld := hid (fun w1 (h : Below W.heap.size W w1) => laid_ok (hG.below h) hS (by omega) 10000 (by decide) (by decide) hp1)
  have Hp2 := hid hp2
  have HE := hid hE
  obtain ⟨na, nc, rfl, _⟩ := hG.1
  obtain ⟨ra, rc, rfl, _⟩ := hG.2
  clear hG hs hc hp1 hp2 hsz hE
  go_enter Tryz.func15, Tryz.ntmps15
  go_wp2_with (first
    | (go_at_call 7; refine (ulives_any _).mono ?_; rintro e w1 ⟨rfl, hb1⟩; have HX1 := hid (HX0.out.next hb1); clear hb1; obtain ⟨⟨p0, p1⟩, _⟩ := cblk2 HX1.out.g; have p2 := lt_of_block HX1.out.g)
    | (go_at_call 8; refine (hsm.out _ HX1.out.b).mono ?_; rintro e w2 ⟨rfl, hb2⟩; have HX2 := hid (HX1.out.next hb2); clear hb2 p0 p1 p2; obtain ⟨⟨p0, p1⟩, _⟩ := cblk2 HX2.out.g; have p2 := lt_of_block HX2.out.g)
    | (go_at_call 9; refine (hck.out _ HX2.out.b).mono ?_; rintro e w3 ⟨⟨ev, rfl, hE⟩, hb3⟩; obtain rfl : ev = .nilIface := hE; have HX3 := hid (HX2.out.next hb3); clear hb3 p0 p1 p2; obtain ⟨⟨p0, p1⟩, _⟩ := cblk2 HX3.out.g; have p2 := lt_of_block HX3.out.g)
    | (go_at_call 10; refine (hld.out _ HX3.out.b).mono ?_; rintro e w4 ⟨⟨hb, F, ao, c, rfl, ho, hH, hF, hjj, hpm⟩, hb4⟩; obtain ⟨q, hq, hB⟩ := bz_of HX3.out.b hb4 Hp2.out ho hH hF hjj; have S4 := hid hB; have HQ := hid hq; have HJ := hid hjj; have HX4 := hid (HX3.out.next hb4); clear ho hH hF hjj hpm hb4 hB hq p0 p1 p2; obtain ⟨⟨p0, p1⟩, _⟩ := blk2y HX4.out.f; obtain ⟨⟨r0, r1⟩, _⟩ := blk2y HX4.out.t; have p2 := lt_of_block HX4.out.f; have r2 := lt_of_block HX4.out.t)
    | (go_at_call 38; refine (S4.out.point HJ.out).mono ?_; rintro e w5 ⟨⟨ev, rfl⟩, hB5, hk5⟩; have S5 := hid hB5; have HX5 := hid (HX4.out.keep (lt_of_block HX3.out.t) hB5.b hk5); clear hB5 hk5 p0 p1 p2 r0 r1 r2; obtain ⟨⟨p0, p1⟩, _⟩ := blk2y HX5.out.f; obtain ⟨⟨r0, r1⟩, _⟩ := blk2y HX5.out.t; have p2 := lt_of_block HX5.out.f; have r2 := lt_of_block HX5.out.t))
  · have hpt : pt = true := by assumption
    subst hpt
    obtain ⟨s1, hs1⟩ : ∃ s1 : Hst, s1 = ⟨(putHs hs0 (gAll g)).l, (putHs hs0 (gAll g)).ns, (putHs hs0 (gAll g)).tr, (putHs hs0 (gAll g)).pt ++ [((putHs hs0 (gAll g)).tr.length, (putHs hs0 (gAll g)).l.length)], (putHs hs0 (gAll g)).n⟩ := ⟨_, rfl⟩
    have hm1 : Hid (Smz s1 0) := by rw [hs1]; exact ⟨by show (0 : Int) ≤ 0; decide, by show (0 : Int) ≤ _; decide, by show 0 ≤ _; omega, by show _ ≤ 1; simp [putHs, hs0]⟩
    have T0 : Hid (Bz W w3.heap.size hb q g.nodes.length 10000 s1 (fun k => k < w3.heap.size) w5) := by rw [hs1]; exact S5.out
    have S6 : Hid (Bz W w3.heap.size hb q g.nodes.length 10000 s1 (fun k => k = w5.heap.size) (w5.alloc (pr2O x0 x1 y0 y1))) := (T0.out.more (below_alloc w5 (pr2O x0 x1 y0 y1))).less (fun k hk => Or.inr ⟨by omega, by simp; omega⟩)
    have hx6 := hid (heap_alloc_new w5 (pr2O x0 x1 y0 y1))
    clear hs1
    go_loopw [12, 13, 14, 15, 16, 17, 18, 46] (fun _ _ _ _ _ _ _ s46 wr => ∃ (j : Nat) (s2 : Hst), s46 = .int .i64 (j : Int) ∧ j ≤ 2 ∧ Hid (Bz W w3.heap.size hb q g.nodes.length 10000 s2 (fun k => k = w5.heap.size) wr) ∧ Hid (Smz s2 j) ∧ Hid (wr.heap[w5.heap.size]? = some (pr2O x0 x1 y0 y1))) (fun _ _ _ _ _ _ _ s46 _ => 2 - (intOf s46).toNat)
    case atStart => exact ⟨0, s1, rfl, by omega, S6, hm1, hx6⟩
    case round =>
      obtain ⟨j, s2, rfl, hj, hB, hm, hx⟩ := hrel
      clear S6 hx6 hm1 T0
      by_cases hlt : j < 2
      · obtain ⟨px, py, q0, q1, qz⟩ : ∃ px py : Int, wr.cell? ⟨w5.heap.size, j * 2, none⟩ = some (.int .i64 px) ∧ wr.cell? ⟨w5.heap.size, j * 2 + 1, none⟩ = some (.int .i64 py) ∧ w5.heap.size < wr.heap.size := pr2_at hx.out hlt
        have hjz : (j : Int) < 2 := by omega
        have hd1 := hid ((hB.out.next (below_alloc wr (prO px py))).dump (Nat.le_trans hm.out.t (by omega)) (Nat.le_trans hm.out.p (by decide)))
        have hxp := hid (heap_alloc_new wr (prO px py))
        go_wp2_with (first
          | (go_at_call 39; refine hd1.out.mono ?_; rintro e w7 ⟨⟨a1, c1, a2, c2, a3, c3, ua, uc, rfl, ho1⟩, hb7⟩; have hb8 := Below.next (Below.next (below_alloc wr (prO px py)) hb7) (below_alloc w7 (duO (.slice a1 s2.l.length c1) (.slice a2 s2.tr.length c2) (.slice a3 s2.pt.length c3) (.slice ua s2.ns.length uc) (.slice none 0 0))); have S8 := hid (hB.out.more hb8); have HP8 := hid (((Below.next hb7 (below_alloc w7 (duO (.slice a1 s2.l.length c1) (.slice a2 s2.tr.length c2) (.slice a3 s2.pt.length c3) (.slice ua s2.ns.length uc) (.slice none 0 0)))).block _ (lt_of_block hxp.out)).trans hxp.out); have HD8 := hid (heap_alloc_new w7 (duO (.slice a1 s2.l.length c1) (.slice a2 s2.tr.length c2) (.slice a3 s2.pt.length c3) (.slice ua s2.ns.length uc) (.slice none 0 0))); have HO8 := hid (row_keep ho1 (fun k hk => (below_alloc w7 (duO (.slice a1 s2.l.length c1) (.slice a2 s2.tr.length c2) (.slice a3 s2.pt.length c3) (.slice ua s2.ns.length uc) (.slice none 0 0))).block k (ho1.lt k hk).2)); have HZ8 := hid (And.intro hb7.size hb8.size); have HB78 := hid (Below.next hb7 (below_alloc w7 (duO (.slice a1 s2.l.length c1) (.slice a2 s2.tr.length c2) (.slice a3 s2.pt.length c3) (.slice ua s2.ns.length uc) (.slice none 0 0)))); have HB88 := hid hb8; clear ho1 hb7 hb8 q0 q1 qz)
          | (go_at_call 40; refine (S8.out.top).mono ?_; rintro e w9 ⟨rfl, rfl⟩)
          | (go_at_call 41; refine (S8.out.points).mono ?_; rintro e w9 ⟨rfl, rfl⟩))
        obtain ⟨⟨d0, d1⟩, dz⟩ := blk2y HP8.out
        have hf2 : Few s2 := ⟨hm.out.n0, by have := hm.out.n1; omega, by have := hm.out.p; omega, by have := hm.out.t; omega⟩
        have hplace : Hid (∀ x : Int, Calls Tryz.prog 42 #[.slice ao g.nodes.length c, .int .i64 x] (w7.alloc (duO (.slice a1 s2.l.length c1) (.slice a2 s2.tr.length c2) (.slice a3 s2.pt.length c3) (.slice ua s2.ns.length uc) (.slice none 0 0))).drew fun e w' => e = .returned (.int .i64 x) ∧ w' = (w7.alloc (duO (.slice a1 s2.l.length c1) (.slice a2 s2.tr.length c2) (.slice a3 s2.pt.length c3) (.slice ua s2.ns.length uc) (.slice none 0 0))).drew) := fun x => place_any x HQ.out (S8.out.next (Below.refl _ _).drew).r
        have hun := hid ((S8.out.next (Below.refl _ _).drew).unify HE.out hf2 px py)
        go_cut [16, 17] from 56 to 68 (fun s16 s17 wc => ∃ (ok : Bool) (ev : Value) (s3 : Hst), s16 = .bool ok ∧ s17 = ev ∧ (ev = .nilIface ∨ (ok = false ∧ ∃ p, ev = .iface 84 (.pointer (some ⟨p, 0, none⟩)))) ∧ Hid (Stq s2 s3 ok) ∧ Hid (Bz W w3.heap.size hb q g.nodes.length 10000 s3 (fun k => k = w5.heap.size ∨ (wr.heap.size ≤ k ∧ k < (w7.alloc (duO (.slice a1 s2.l.length c1) (.slice a2 s2.tr.length c2) (.slice a3 s2.pt.length c3) (.slice ua s2.ns.length uc) (.slice none 0 0))).heap.size)) wc) ∧ Hid (∀ k, (fun k => k = w5.heap.size ∨ (wr.heap.size ≤ k ∧ k < (w7.alloc (duO (.slice a1 s2.l.length c1) (.slice a2 s2.tr.length c2) (.slice a3 s2.pt.length c3) (.slice ua s2.ns.length uc) (.slice none 0 0))).heap.size)) k → wc.heap[k]? = (w7.alloc (duO (.slice a1 s2.l.length c1) (.slice a2 s2.tr.length c2) (.slice a3 s2.pt.length c3) (.slice ua s2.ns.length uc) (.slice none 0 0))).heap[k]?))
        case first =>
          go_region_held3 (fun w' => Skv wr.heap.size 0 1 px py w') (first | (with_reducible exact ⟨d0, d1⟩) | (with_reducible exact skv_dr ⟨d0, d1⟩))
            (first
              | (go_at_call 42; refine (hplace.out _).mono ?_; rintro e w9 ⟨rfl, rfl⟩)
              | (go_at_call 12; refine hun.out.mono ?_; rintro e w9 ⟨ok, ev, s3, rfl, hev, hst, hB9, hk9⟩; have S9 := hid hB9; have K9 := hid hk9; have T9 := hid hst; have hp9 := (hk9 wr.heap.size (Or.inr ⟨Nat.le_refl _, lt_of_block HP8.out⟩)).trans HP8.out; clear d0 d1 hB9 hk9 hst; obtain ⟨⟨d0, d1⟩, _⟩ := blk2y hp9; clear hp9))
          all_goals go_wp2_with fail
          all_goals go_meet
          all_goals exact ⟨ok, ev, s3, rfl, rfl, hev, T9, S9, K9⟩
        case rest =>
          obtain ⟨ok, ev, s3, rfl, rfl, hev, T9, S9, K9⟩ := hcut
          have HD9 := hid ((K9.out w7.heap.size (Or.inr ⟨by have := HZ8.out.1; simp at this; omega, lt_of_block HD8.out⟩)).trans HD8.out)
          have HO9 := hid (row_keep HO8.out (fun k hk => K9.out k (Or.inr ⟨by have := (HO8.out.lt k hk).1; simp at this; omega, (HO8.out.lt k hk).2⟩)))
          have HX9 := hid ((K9.out w5.heap.size (Or.inl rfl)).trans ((HB88.out.block _ (lt_of_block hx.out)).trans hx.out))
          have hM9 : Hid (Smz s3 (j + 1)) := ⟨by have := T9.out.n0; have := hm.out.n0; omega, by have := T9.out.n1; have := hm.out.n1; omega, by have := T9.out.t1; have := hm.out.t; omega, by rw [T9.out.pt]; exact hm.out.p⟩
          have hd2 := hid (S9.out.dump (Nat.le_trans hM9.out.t (by omega)) (Nat.le_trans hM9.out.p (by decide)))
          clear HB78 HB88 d0 d1 dz hplace hun hd1 hxp HP8 HD8 HO8 S8 hf2 hB hx K9 HZ8
          rcases hev with rfl | ⟨rfl, p9, rfl⟩
          · cases ok with
            | false =>
              obtain rfl := T9.out.no rfl
              go_wp2_with (first
                | (go_at_call 39; refine hd2.out.mono ?_; rintro e w10 ⟨⟨b1, e1, b2, e2, b3, e3, ub, ue, rfl, ho2⟩, hb10⟩; have hb11 := Below.next hb10 (below_alloc w10 (duO (.slice b1 s3.l.length e1) (.slice b2 s3.tr.length e2) (.slice b3 s3.pt.length e3) (.slice ub s3.ns.length ue) (.slice none 0 0))); have S11 := hid (S9.out.next hb11); have HA := hid ((hb11.block _ (lt_of_block HD9.out)).trans HD9.out); have HB := hid (heap_alloc_new w10 (duO (.slice b1 s3.l.length e1) (.slice b2 s3.tr.length e2) (.slice b3 s3.pt.length e3) (.slice ub s3.ns.length ue) (.slice none 0 0))); have OA := hid (row_keep HO9.out (fun k hk => hb11.block k (HO9.out.lt k hk).2)); have OB := hid (row_keep ho2 (fun k hk => (below_alloc w10 (duO (.slice b1 s3.l.length e1) (.slice b2 s3.tr.length e2) (.slice b3 s3.pt.length e3) (.slice ub s3.ns.length ue) (.slice none 0 0))).block k (ho2.lt k hk).2)); have HX11 := hid ((hb11.block _ (lt_of_block HX9.out)).trans HX9.out); obtain ⟨⟨m0, m1⟩, mz⟩ := du_cells HA.out; obtain ⟨⟨n0, n1⟩, nz⟩ := du_cells HB.out; clear ho2 hb10 hb11)
                | (go_at_call 40; refine (S11.out.topE T9.out.l).mono ?_; rintro e w12 ⟨rfl, rfl⟩)
                | (go_at_call 41; refine (S11.out.pointsE (congrArg List.length T9.out.pt)).mono ?_; rintro e w12 ⟨rfl, rfl⟩)
                | (go_at_call 43; refine (usame_any (Nat.le_trans S11.out.l4 (by decide)) OA.out OB.out).mono ?_; rintro e w13 ⟨rfl, hb13⟩; have S13 := hid (S11.out.next hb13); have HX13 := hid ((hb13.block _ (lt_of_block HX11.out)).trans HX11.out); have m1' := (hb13.cell (p := ⟨w7.heap.size, 1, none⟩) mz).trans m1; have n1' := (hb13.cell (p := ⟨w10.heap.size, 1, none⟩) nz).trans n1; clear m0 m1 n0 n1; have m1 := m1'; have n1 := n1'; clear m1' n1'))
              go_roundw
              case rel => first | exact ⟨j + 1, _, congrArg (Value.int .i64) (by omega), by omega, hid (S13.out.less (fun k hk => Or.inl hk)), hM9, HX13⟩ | ((repeat apply Exists.intro); refine ⟨?_, rfl⟩; exact ⟨j + 1, _, congrArg (Value.int .i64) (by omega), by omega, hid (S13.out.less (fun k hk => Or.inl hk)), hM9, HX13⟩)
              case measure => simp [intOf]; omega
            | true =>
              go_wp2_with (first
                | (go_at_call 39; refine hd2.out.mono ?_; rintro e w10 ⟨⟨b1, e1, b2, e2, b3, e3, ub, ue, rfl, ho2⟩, hb10⟩; have hb11 := Below.next hb10 (below_alloc w10 (duO (.slice b1 s3.l.length e1) (.slice b2 s3.tr.length e2) (.slice b3 s3.pt.length e3) (.slice ub s3.ns.length ue) (.slice none 0 0))); have S11 := hid (S9.out.next hb11); have HA := hid ((hb11.block _ (lt_of_block HD9.out)).trans HD9.out); have HB := hid (heap_alloc_new w10 (duO (.slice b1 s3.l.length e1) (.slice b2 s3.tr.length e2) (.slice b3 s3.pt.length e3) (.slice ub s3.ns.length ue) (.slice none 0 0))); have OA := hid (row_keep HO9.out (fun k hk => hb11.block k (HO9.out.lt k hk).2)); have OB := hid (row_keep ho2 (fun k hk => (below_alloc w10 (duO (.slice b1 s3.l.length e1) (.slice b2 s3.tr.length e2) (.slice b3 s3.pt.length e3) (.slice ub s3.ns.length ue) (.slice none 0 0))).block k (ho2.lt k hk).2)); have HX11 := hid ((hb11.block _ (lt_of_block HX9.out)).trans HX9.out); obtain ⟨⟨m0, m1⟩, mz⟩ := du_cells HA.out; obtain ⟨⟨n0, n1⟩, nz⟩ := du_cells HB.out; clear ho2 hb10 hb11)
                | (go_at_call 40; refine (S11.out.topE T9.out.l).mono ?_; rintro e w12 ⟨rfl, rfl⟩)
                | (go_at_call 41; refine (S11.out.pointsE (congrArg List.length T9.out.pt)).mono ?_; rintro e w12 ⟨rfl, rfl⟩))
              go_roundw
              case rel => first | exact ⟨j + 1, _, congrArg (Value.int .i64) (by omega), by omega, hid (S11.out.less (fun k hk => Or.inl hk)), hM9, HX11⟩ | ((repeat apply Exists.intro); refine ⟨?_, rfl⟩; exact ⟨j + 1, _, congrArg (Value.int .i64) (by omega), by omega, hid (S11.out.less (fun k hk => Or.inl hk)), hM9, HX11⟩)
              case measure => simp [intOf]; omega
          · obtain rfl := T9.out.no rfl
            go_wp2_with (first
              | (go_at_call 39; refine hd2.out.mono ?_; rintro e w10 ⟨⟨b1, e1, b2, e2, b3, e3, ub, ue, rfl, ho2⟩, hb10⟩; have hb11 := Below.next hb10 (below_alloc w10 (duO (.slice b1 s3.l.length e1) (.slice b2 s3.tr.length e2) (.slice b3 s3.pt.length e3) (.slice ub s3.ns.length ue) (.slice none 0 0))); have S11 := hid (S9.out.next hb11); have HA := hid ((hb11.block _ (lt_of_block HD9.out)).trans HD9.out); have HB := hid (heap_alloc_new w10 (duO (.slice b1 s3.l.length e1) (.slice b2 s3.tr.length e2) (.slice b3 s3.pt.length e3) (.slice ub s3.ns.length ue) (.slice none 0 0))); have OA := hid (row_keep HO9.out (fun k hk => hb11.block k (HO9.out.lt k hk).2)); have OB := hid (row_keep ho2 (fun k hk => (below_alloc w10 (duO (.slice b1 s3.l.length e1) (.slice b2 s3.tr.length e2) (.slice b3 s3.pt.length e3) (.slice ub s3.ns.length ue) (.slice none 0 0))).block k (ho2.lt k hk).2)); have HX11 := hid ((hb11.block _ (lt_of_block HX9.out)).trans HX9.out); obtain ⟨⟨m0, m1⟩, mz⟩ := du_cells HA.out; obtain ⟨⟨n0, n1⟩, nz⟩ := du_cells HB.out; clear ho2 hb10 hb11)
              | (go_at_call 40; refine (S11.out.topE T9.out.l).mono ?_; rintro e w12 ⟨rfl, rfl⟩)
              | (go_at_call 41; refine (S11.out.pointsE (congrArg List.length T9.out.pt)).mono ?_; rintro e w12 ⟨rfl, rfl⟩)
              | (go_at_call 43; refine (usame_any (Nat.le_trans S11.out.l4 (by decide)) OA.out OB.out).mono ?_; rintro e w13 ⟨rfl, hb13⟩; have S13 := hid (S11.out.next hb13); have HX13 := hid ((hb13.block _ (lt_of_block HX11.out)).trans HX11.out); have m1' := (hb13.cell (p := ⟨w7.heap.size, 1, none⟩) mz).trans m1; have n1' := (hb13.cell (p := ⟨w10.heap.size, 1, none⟩) nz).trans n1; clear m0 m1 n0 n1; have m1 := m1'; have n1 := n1'; clear m1' n1'))
            go_roundw
            case rel => first | exact ⟨j + 1, _, congrArg (Value.int .i64) (by omega), by omega, hid (S13.out.less (fun k hk => Or.inl hk)), hM9, HX13⟩ | ((repeat apply Exists.intro); refine ⟨?_, rfl⟩; exact ⟨j + 1, _, congrArg (Value.int .i64) (by omega), by omega, hid (S13.out.less (fun k hk => Or.inl hk)), hM9, HX13⟩)
            case measure => simp [intOf]; omega
      · obtain rfl : j = 2 := by omega
        go_wp2
        go_ret
        exact ⟨rfl, hB.out.b⟩
  · have hpt : pt = false := by assumption
    subst hpt
    obtain ⟨s1, hs1⟩ : ∃ s1 : Hst, s1 = putHs hs0 (gAll g) := ⟨_, rfl⟩
    have hm1 : Hid (Smz s1 0) := by rw [hs1]; exact ⟨by show (0 : Int) ≤ 0; decide, by show (0 : Int) ≤ _; decide, by show 0 ≤ _; omega, by show _ ≤ 1; simp [putHs, hs0]⟩
    have T0 : Hid (Bz W w3.heap.size hb q g.nodes.length 10000 s1 (fun k => k < w3.heap.size) w4) := by rw [hs1]; exact S4.out
    have S6 : Hid (Bz W w3.heap.size hb q g.nodes.length 10000 s1 (fun k => k = w4.heap.size) (w4.alloc (pr2O x0 x1 y0 y1))) := (T0.out.more (below_alloc w4 (pr2O x0 x1 y0 y1))).less (fun k hk => Or.inr ⟨by omega, by simp; omega⟩)
    have hx6 := hid (heap_alloc_new w4 (pr2O x0 x1 y0 y1))
    clear hs1
    go_loopw [12, 13, 14, 15, 16, 17, 18, 46] (fun _ _ _ _ _ _ _ s46 wr => ∃ (j : Nat) (s2 : Hst), s46 = .int .i64 (j : Int) ∧ j ≤ 2 ∧ Hid (Bz W w3.heap.size hb q g.nodes.length 10000 s2 (fun k => k = w4.heap.size) wr) ∧ Hid (Smz s2 j) ∧ Hid (wr.heap[w4.heap.size]? = some (pr2O x0 x1 y0 y1))) (fun _ _ _ _ _ _ _ s46 _ => 2 - (intOf s46).toNat)
    case atStart => exact ⟨0, s1, rfl, by omega, S6, hm1, hx6⟩
    case round =>
      obtain ⟨j, s2, rfl, hj, hB, hm, hx⟩ := hrel
      clear S6 hx6 hm1 T0
      by_cases hlt : j < 2
      · obtain ⟨px, py, q0, q1, qz⟩ : ∃ px py : Int, wr.cell? ⟨w4.heap.size, j * 2, none⟩ = some (.int .i64 px) ∧ wr.cell? ⟨w4.heap.size, j * 2 + 1, none⟩ = some (.int .i64 py) ∧ w4.heap.size < wr.heap.size := pr2_at hx.out hlt
        have hjz : (j : Int) < 2 := by omega
        have hd1 := hid ((hB.out.next (below_alloc wr (prO px py))).dump (Nat.le_trans hm.out.t (by omega)) (Nat.le_trans hm.out.p (by decide)))
        have hxp := hid (heap_alloc_new wr (prO px py))
        go_wp2_with (first
          | (go_at_call 39; refine hd1.out.mono ?_; rintro e w7 ⟨⟨a1, c1, a2, c2, a3, c3, ua, uc, rfl, ho1⟩, hb7⟩; have hb8 := Below.next (Below.next (below_alloc wr (prO px py)) hb7) (below_alloc w7 (duO (.slice a1 s2.l.length c1) (.slice a2 s2.tr.length c2) (.slice a3 s2.pt.length c3) (.slice ua s2.ns.length uc) (.slice none 0 0))); have S8 := hid (hB.out.more hb8); have HP8 := hid (((Below.next hb7 (below_alloc w7 (duO (.slice a1 s2.l.length c1) (.slice a2 s2.tr.length c2) (.slice a3 s2.pt.length c3) (.slice ua s2.ns.length uc) (.slice none 0 0)))).block _ (lt_of_block hxp.out)).trans hxp.out); have HD8 := hid (heap_alloc_new w7 (duO (.slice a1 s2.l.length c1) (.slice a2 s2.tr.length c2) (.slice a3 s2.pt.length c3) (.slice ua s2.ns.length uc) (.slice none 0 0))); have HO8 := hid (row_keep ho1 (fun k hk => (below_alloc w7 (duO (.slice a1 s2.l.length c1) (.slice a2 s2.tr.length c2) (.slice a3 s2.pt.length c3) (.slice ua s2.ns.length uc) (.slice none 0 0))).block k (ho1.lt k hk).2)); have HZ8 := hid (And.intro hb7.size hb8.size); have HB78 := hid (Below.next hb7 (below_alloc w7 (duO (.slice a1 s2.l.length c1) (.slice a2 s2.tr.length c2) (.slice a3 s2.pt.length c3) (.slice ua s2.ns.length uc) (.slice none 0 0)))); have HB88 := hid hb8; clear ho1 hb7 hb8 q0 q1 qz)
          | (go_at_call 40; refine (S8.out.top).mono ?_; rintro e w9 ⟨rfl, rfl⟩)
          | (go_at_call 41; refine (S8.out.points).mono ?_; rintro e w9 ⟨rfl, rfl⟩))
        obtain ⟨⟨d0, d1⟩, dz⟩ := blk2y HP8.out
        have hf2 : Few s2 := ⟨hm.out.n0, by have := hm.out.n1; omega, by have := hm.out.p; omega, by have := hm.out.t; omega⟩
        have hplace : Hid (∀ x : Int, Calls Tryz.prog 42 #[.slice ao g.nodes.length c, .int .i64 x] (w7.alloc (duO (.slice a1 s2.l.length c1) (.slice a2 s2.tr.length c2) (.slice a3 s2.pt.length c3) (.slice ua s2.ns.length uc) (.slice none 0 0))).drew fun e w' => e = .returned (.int .i64 x) ∧ w' = (w7.alloc (duO (.slice a1 s2.l.length c1) (.slice a2 s2.tr.length c2) (.slice a3 s2.pt.length c3) (.slice ua s2.ns.length uc) (.slice none 0 0))).drew) := fun x => place_any x HQ.out (S8.out.next (Below.refl _ _).drew).r
        have hun := hid ((S8.out.next (Below.refl _ _).drew).unify HE.out hf2 px py)
        go_cut [16, 17] from 56 to 68 (fun s16 s17 wc => ∃ (ok : Bool) (ev : Value) (s3 : Hst), s16 = .bool ok ∧ s17 = ev ∧ (ev = .nilIface ∨ (ok = false ∧ ∃ p, ev = .iface 84 (.pointer (some ⟨p, 0, none⟩)))) ∧ Hid (Stq s2 s3 ok) ∧ Hid (Bz W w3.heap.size hb q g.nodes.length 10000 s3 (fun k => k = w4.heap.size ∨ (wr.heap.size ≤ k ∧ k < (w7.alloc (duO (.slice a1 s2.l.length c1) (.slice a2 s2.tr.length c2) (.slice a3 s2.pt.length c3) (.slice ua s2.ns.length uc) (.slice none 0 0))).heap.size)) wc) ∧ Hid (∀ k, (fun k => k = w4.heap.size ∨ (wr.heap.size ≤ k ∧ k < (w7.alloc (duO (.slice a1 s2.l.length c1) (.slice a2 s2.tr.length c2) (.slice a3 s2.pt.length c3) (.slice ua s2.ns.length uc) (.slice none 0 0))).heap.size)) k → wc.heap[k]? = (w7.alloc (duO (.slice a1 s2.l.length c1) (.slice a2 s2.tr.length c2) (.slice a3 s2.pt.length c3) (.slice ua s2.ns.length uc) (.slice none 0 0))).heap[k]?))
        case first =>
          go_region_held3 (fun w' => Skv wr.heap.size 0 1 px py w') (first | (with_reducible exact ⟨d0, d1⟩) | (with_reducible exact skv_dr ⟨d0, d1⟩))
            (first
              | (go_at_call 42; refine (hplace.out _).mono ?_; rintro e w9 ⟨rfl, rfl⟩)
              | (go_at_call 12; refine hun.out.mono ?_; rintro e w9 ⟨ok, ev, s3, rfl, hev, hst, hB9, hk9⟩; have S9 := hid hB9; have K9 := hid hk9; have T9 := hid hst; have hp9 := (hk9 wr.heap.size (Or.inr ⟨Nat.le_refl _, lt_of_block HP8.out⟩)).trans HP8.out; clear d0 d1 hB9 hk9 hst; obtain ⟨⟨d0, d1⟩, _⟩ := blk2y hp9; clear hp9))
          all_goals go_wp2_with fail
          all_goals go_meet
          all_goals exact ⟨ok, ev, s3, rfl, rfl, hev, T9, S9, K9⟩
        case rest =>
          obtain ⟨ok, ev, s3, rfl, rfl, hev, T9, S9, K9⟩ := hcut
          have HD9 := hid ((K9.out w7.heap.size (Or.inr ⟨by have := HZ8.out.1; simp at this; omega, lt_of_block HD8.out⟩)).trans HD8.out)
          have HO9 := hid (row_keep HO8.out (fun k hk => K9.out k (Or.inr ⟨by have := (HO8.out.lt k hk).1; simp at this; omega, (HO8.out.lt k hk).2⟩)))
          have HX9 := hid ((K9.out w4.heap.size (Or.inl rfl)).trans ((HB88.out.block _ (lt_of_block hx.out)).trans hx.out))
          have hM9 : Hid (Smz s3 (j + 1)) := ⟨by have := T9.out.n0; have := hm.out.n0; omega, by have := T9.out.n1; have := hm.out.n1; omega, by have := T9.out.t1; have := hm.out.t; omega, by rw [T9.out.pt]; exact hm.out.p⟩
          have hd2 := hid (S9.out.dump (Nat.le_trans hM9.out.t (by omega)) (Nat.le_trans hM9.out.p (by decide)))
          clear HB78 HB88 d0 d1 dz hplace hun hd1 hxp HP8 HD8 HO8 S8 hf2 hB hx K9 HZ8
          rcases hev with rfl | ⟨rfl, p9, rfl⟩
          · cases ok with
            | false =>
              obtain rfl := T9.out.no rfl
              go_wp2_with (first
                | (go_at_call 39; refine hd2.out.mono ?_; rintro e w10 ⟨⟨b1, e1, b2, e2, b3, e3, ub, ue, rfl, ho2⟩, hb10⟩; have hb11 := Below.next hb10 (below_alloc w10 (duO (.slice b1 s3.l.length e1) (.slice b2 s3.tr.length e2) (.slice b3 s3.pt.length e3) (.slice ub s3.ns.length ue) (.slice none 0 0))); have S11 := hid (S9.out.next hb11); have HA := hid ((hb11.block _ (lt_of_block HD9.out)).trans HD9.out); have HB := hid (heap_alloc_new w10 (duO (.slice b1 s3.l.length e1) (.slice b2 s3.tr.length e2) (.slice b3 s3.pt.length e3) (.slice ub s3.ns.length ue) (.slice none 0 0))); have OA := hid (row_keep HO9.out (fun k hk => hb11.block k (HO9.out.lt k hk).2)); have OB := hid (row_keep ho2 (fun k hk => (below_alloc w10 (duO (.slice b1 s3.l.length e1) (.slice b2 s3.tr.length e2) (.slice b3 s3.pt.length e3) (.slice ub s3.ns.length ue) (.slice none 0 0))).block k (ho2.lt k hk).2)); have HX11 := hid ((hb11.block _ (lt_of_block HX9.out)).trans HX9.out); obtain ⟨⟨m0, m1⟩, mz⟩ := du_cells HA.out; obtain ⟨⟨n0, n1⟩, nz⟩ := du_cells HB.out; clear ho2 hb10 hb11)
                | (go_at_call 40; refine (S11.out.topE T9.out.l).mono ?_; rintro e w12 ⟨rfl, rfl⟩)
                | (go_at_call 41; refine (S11.out.pointsE (congrArg List.length T9.out.pt)).mono ?_; rintro e w12 ⟨rfl, rfl⟩)
                | (go_at_call 43; refine (usame_any (Nat.le_trans S11.out.l4 (by decide)) OA.out OB.out).mono ?_; rintro e w13 ⟨rfl, hb13⟩; have S13 := hid (S11.out.next hb13); have HX13 := hid ((hb13.block _ (lt_of_block HX11.out)).trans HX11.out); have m1' := (hb13.cell (p := ⟨w7.heap.size, 1, none⟩) mz).trans m1; have n1' := (hb13.cell (p := ⟨w10.heap.size, 1, none⟩) nz).trans n1; clear m0 m1 n0 n1; have m1 := m1'; have n1 := n1'; clear m1' n1'))
              go_roundw
              case rel => first | exact ⟨j + 1, _, congrArg (Value.int .i64) (by omega), by omega, hid (S13.out.less (fun k hk => Or.inl hk)), hM9, HX13⟩ | ((repeat apply Exists.intro); refine ⟨?_, rfl⟩; exact ⟨j + 1, _, congrArg (Value.int .i64) (by omega), by omega, hid (S13.out.less (fun k hk => Or.inl hk)), hM9, HX13⟩)
              case measure => simp [intOf]; omega
            | true =>
              go_wp2_with (first
                | (go_at_call 39; refine hd2.out.mono ?_; rintro e w10 ⟨⟨b1, e1, b2, e2, b3, e3, ub, ue, rfl, ho2⟩, hb10⟩; have hb11 := Below.next hb10 (below_alloc w10 (duO (.slice b1 s3.l.length e1) (.slice b2 s3.tr.length e2) (.slice b3 s3.pt.length e3) (.slice ub s3.ns.length ue) (.slice none 0 0))); have S11 := hid (S9.out.next hb11); have HA := hid ((hb11.block _ (lt_of_block HD9.out)).trans HD9.out); have HB := hid (heap_alloc_new w10 (duO (.slice b1 s3.l.length e1) (.slice b2 s3.tr.length e2) (.slice b3 s3.pt.length e3) (.slice ub s3.ns.length ue) (.slice none 0 0))); have OA := hid (row_keep HO9.out (fun k hk => hb11.block k (HO9.out.lt k hk).2)); have OB := hid (row_keep ho2 (fun k hk => (below_alloc w10 (duO (.slice b1 s3.l.length e1) (.slice b2 s3.tr.length e2) (.slice b3 s3.pt.length e3) (.slice ub s3.ns.length ue) (.slice none 0 0))).block k (ho2.lt k hk).2)); have HX11 := hid ((hb11.block _ (lt_of_block HX9.out)).trans HX9.out); obtain ⟨⟨m0, m1⟩, mz⟩ := du_cells HA.out; obtain ⟨⟨n0, n1⟩, nz⟩ := du_cells HB.out; clear ho2 hb10 hb11)
                | (go_at_call 40; refine (S11.out.topE T9.out.l).mono ?_; rintro e w12 ⟨rfl, rfl⟩)
                | (go_at_call 41; refine (S11.out.pointsE (congrArg List.length T9.out.pt)).mono ?_; rintro e w12 ⟨rfl, rfl⟩))
              go_roundw
              case rel => first | exact ⟨j + 1, _, congrArg (Value.int .i64) (by omega), by omega, hid (S11.out.less (fun k hk => Or.inl hk)), hM9, HX11⟩ | ((repeat apply Exists.intro); refine ⟨?_, rfl⟩; exact ⟨j + 1, _, congrArg (Value.int .i64) (by omega), by omega, hid (S11.out.less (fun k hk => Or.inl hk)), hM9, HX11⟩)
              case measure => simp [intOf]; omega
          · obtain rfl := T9.out.no rfl
            go_wp2_with (first
              | (go_at_call 39; refine hd2.out.mono ?_; rintro e w10 ⟨⟨b1, e1, b2, e2, b3, e3, ub, ue, rfl, ho2⟩, hb10⟩; have hb11 := Below.next hb10 (below_alloc w10 (duO (.slice b1 s3.l.length e1) (.slice b2 s3.tr.length e2) (.slice b3 s3.pt.length e3) (.slice ub s3.ns.length ue) (.slice none 0 0))); have S11 := hid (S9.out.next hb11); have HA := hid ((hb11.block _ (lt_of_block HD9.out)).trans HD9.out); have HB := hid (heap_alloc_new w10 (duO (.slice b1 s3.l.length e1) (.slice b2 s3.tr.length e2) (.slice b3 s3.pt.length e3) (.slice ub s3.ns.length ue) (.slice none 0 0))); have OA := hid (row_keep HO9.out (fun k hk => hb11.block k (HO9.out.lt k hk).2)); have OB := hid (row_keep ho2 (fun k hk => (below_alloc w10 (duO (.slice b1 s3.l.length e1) (.slice b2 s3.tr.length e2) (.slice b3 s3.pt.length e3) (.slice ub s3.ns.length ue) (.slice none 0 0))).block k (ho2.lt k hk).2)); have HX11 := hid ((hb11.block _ (lt_of_block HX9.out)).trans HX9.out); obtain ⟨⟨m0, m1⟩, mz⟩ := du_cells HA.out; obtain ⟨⟨n0, n1⟩, nz⟩ := du_cells HB.out; clear ho2 hb10 hb11)
              | (go_at_call 40; refine (S11.out.topE T9.out.l).mono ?_; rintro e w12 ⟨rfl, rfl⟩)
              | (go_at_call 41; refine (S11.out.pointsE (congrArg List.length T9.out.pt)).mono ?_; rintro e w12 ⟨rfl, rfl⟩)
              | (go_at_call 43; refine (usame_any (Nat.le_trans S11.out.l4 (by decide)) OA.out OB.out).mono ?_; rintro e w13 ⟨rfl, hb13⟩; have S13 := hid (S11.out.next hb13); have HX13 := hid ((hb13.block _ (lt_of_block HX11.out)).trans HX11.out); have m1' := (hb13.cell (p := ⟨w7.heap.size, 1, none⟩) mz).trans m1; have n1' := (hb13.cell (p := ⟨w10.heap.size, 1, none⟩) nz).trans n1; clear m0 m1 n0 n1; have m1 := m1'; have n1 := n1'; clear m1' n1'))
            go_roundw
            case rel => first | exact ⟨j + 1, _, congrArg (Value.int .i64) (by omega), by omega, hid (S13.out.less (fun k hk => Or.inl hk)), hM9, HX13⟩ | ((repeat apply Exists.intro); refine ⟨?_, rfl⟩; exact ⟨j + 1, _, congrArg (Value.int .i64) (by omega), by omega, hid (S13.out.less (fun k hk => Or.inl hk)), hM9, HX13⟩)
            case measure => simp [intOf]; omega
      · obtain rfl : j = 2 := by omega
        go_wp2
        go_ret
        exact ⟨rfl, hB.out.b⟩
end Go.Proofs.YtlibjdilicfcdaaGreatDoor

namespace Go.Proofs.YtlibjdilicfcdaaGreatDoor
set_option maxRecDepth 100000
open Go.RowKit Go.Maps
section
variable {W : World} {nv rv : Value} {g : Gf}
set_option maxHeartbeats 8000000 in
theorem stays_small (hG : Gr W nv rv g) (hs : smallK 200 g = false) (x0 x1 y0 y1 : Int) (pt : Bool) :
    Calls Tryz.prog 15 #[.agg #[nv, rv], .agg #[.int .i64 x0, .int .i64 x1], .agg #[.int .i64 y0, .int .i64 y1], .bool pt] W fun e w' => e = .returned (.bool true) ∧ Below W.heap.size W w' := by
  have HX0 := hid (bx3_start W nv rv x0 x1 y0 y1)
  have hsm := hid (fun w1 (h : Below W.heap.size W w1) => smallK_any (K := 200) (by decide) (hG.below h))
  rw [hs] at hsm
  obtain ⟨na, nc, rfl, _⟩ := hG.1
  obtain ⟨ra, rc, rfl, _⟩ := hG.2
  have t1 : True := trivial
  clear hG hs
  go_enter Tryz.func15, Tryz.ntmps15
  go_wp2_with (first
    | (go_at_call 7; have _m := t1; clear t1 _m; refine (ulives_any _).mono ?_; rintro e w1 ⟨rfl, hb1⟩; have HX1 := hid (HX0.out.next hb1); clear hb1; obtain ⟨⟨p0, p1⟩, _⟩ := cblk2 HX1.out.g; have p2 := lt_of_block HX1.out.g)
    | (go_at_call 8; refine (hsm.out _ HX1.out.b).mono ?_; rintro e w2 ⟨rfl, hb2⟩; have HX2 := hid (HX1.out.next hb2); clear hb2 p0 p1 p2; obtain ⟨⟨p0, p1⟩, _⟩ := cblk2 HX2.out.g; have p2 := lt_of_block HX2.out.g)
    | (go_at_call 7; refine (ulives_any _).mono ?_; rintro e w5 ⟨rfl, hb5⟩; have Hb5 := hid (Below.next HX2.out.b hb5); clear hb5))
  go_ret
  exact ⟨rfl, Hb5.out⟩
set_option maxHeartbeats 8000000 in
theorem stays_check (hG : Gr W nv rv g) (hS : Sized g) (hs : smallK 200 g = true) (hc : one (chk g) ≠ []) (x0 x1 y0 y1 : Int) (pt : Bool) :
    Calls Tryz.prog 15 #[.agg #[nv, rv], .agg #[.int .i64 x0, .int .i64 x1], .agg #[.int .i64 y0, .int .i64 y1], .bool pt] W fun e w' => e = .returned (.bool true) ∧ Below W.heap.size W w' := by
  have HX0 := hid (bx3_start W nv rv x0 x1 y0 y1)
  have hsm := hid (fun w1 (h : Below W.heap.size W w1) => smallK_any (K := 200) (by decide) (hG.below h))
  rw [hs] at hsm
  have hck : Hid (∀ w1, Below W.heap.size W w1 → Calls Tryz.prog 9 #[.agg #[nv, rv]] w1 fun e w' => (∃ b, e = .returned (.iface 84 (.pointer (some ⟨b, 0, none⟩)))) ∧ Below w1.heap.size w1 w') := fun w1 h => (check_any (hG.below h) hS).mono fun e w' ⟨⟨ev, e1, hE⟩, hb⟩ => ⟨by
    match h9 : one (chk g), hc, hE with
    | [], hc, _ => exact absurd rfl hc
    | x :: r, _, hE =>
      obtain ⟨_, b, ev', e2, _⟩ := hE
      exact ⟨b, by rw [e1, e2]⟩, hb⟩
  obtain ⟨na, nc, rfl, _⟩ := hG.1
  obtain ⟨ra, rc, rfl, _⟩ := hG.2
  have t1 : True := trivial
  clear hG hs hc
  go_enter Tryz.func15, Tryz.ntmps15
  go_wp2_with (first
    | (go_at_call 7; have _m := t1; clear t1 _m; refine (ulives_any _).mono ?_; rintro e w1 ⟨rfl, hb1⟩; have HX1 := hid (HX0.out.next hb1); clear hb1; obtain ⟨⟨p0, p1⟩, _⟩ := cblk2 HX1.out.g; have p2 := lt_of_block HX1.out.g)
    | (go_at_call 8; refine (hsm.out _ HX1.out.b).mono ?_; rintro e w2 ⟨rfl, hb2⟩; have HX2 := hid (HX1.out.next hb2); clear hb2 p0 p1 p2; obtain ⟨⟨p0, p1⟩, _⟩ := cblk2 HX2.out.g; have p2 := lt_of_block HX2.out.g)
    | (go_at_call 9; refine (hck.out _ HX2.out.b).mono ?_; rintro e w3 ⟨⟨b, rfl⟩, hb3⟩; have HX3 := hid (HX2.out.next hb3); clear hb3 p0 p1 p2; obtain ⟨⟨p0, p1⟩, _⟩ := cblk2 HX3.out.g; have p2 := lt_of_block HX3.out.g)
    | (go_at_call 7; refine (ulives_any _).mono ?_; rintro e w5 ⟨rfl, hb5⟩; have Hb5 := hid (Below.next HX3.out.b hb5); clear hb5))
  go_ret
  exact ⟨rfl, Hb5.out⟩
theorem stays_any (hE : ErrC W) (hG : Gr W nv rv g) (hS : Sized g) (x0 x1 y0 y1 : Int) (pt : Bool) :
    Calls Tryz.prog 15 #[.agg #[nv, rv], .agg #[.int .i64 x0, .int .i64 x1], .agg #[.int .i64 y0, .int .i64 y1], .bool pt] W fun e w' => e = .returned (.bool true) ∧ Below W.heap.size W w' := by
  cases hs : smallK 200 g with
  | false => exact stays_small hG hs x0 x1 y0 y1 pt
  | true =>
    by_cases hc : one (chk g) = []
    · exact stays_main hE hG hS hs hc x0 x1 y0 y1 pt
    · exact stays_check hG hS hs hc x0 x1 y0 y1 pt
set_option maxHeartbeats 2000000 in
theorem unifyStays_walk (hE : ErrC W) (hG : Gr W nv rv g) (hS : Sized g) (x0 x1 y0 y1 : Int) (pt : Bool) :
    Calls Tryz.prog 4 #[.agg #[nv, rv, .int .i64 x0, .int .i64 x1, .int .i64 y0, .int .i64 y1, .bool pt]] W fun e w' => e = .returned (.bool true) ∧ Below W.heap.size W w' := by
  have hb0 := hid (below_alloc W (.cells #[nv, rv, .int .i64 x0, .int .i64 x1, .int .i64 y0, .int .i64 y1, .bool pt] 44))
  have hst := hid (stays_any (hE.below hb0.out) (hG.below hb0.out) hS x0 x1 y0 y1 pt)
  obtain ⟨na, nc, rfl, _⟩ := hG.1
  obtain ⟨ra, rc, rfl, _⟩ := hG.2
  clear hG hE
  go_enter Tryz.func4, Tryz.ntmps4
  go_wp2_with (go_at_call 15; refine hst.out.mono ?_; rintro e w1 ⟨rfl, hb1⟩)
  go_ret
  exact ⟨rfl, Below.next hb0.out hb1⟩
end
end Go.Proofs.YtlibjdilicfcdaaGreatDoor

namespace Go.Proofs.YtlibjdilicfcdaaGreatDoor
set_option maxRecDepth 100000
open Go.ChangeShapes Go.WideShapes Go.ChangeAt Go.RowKit Go.Deep
theorem cellsP : Tryz.prog.cellsOf 42 = 2 := by kernel_rfl
theorem undP : Tryz.prog.underlying 42 = some (.array 2 3) := by kernel_rfl
theorem pair_of_cells {H : Type} {enc : TypeId × Value → H} {W : World} {fuel : Nat} {c0 c1 : Value} {x : DataW H × List MemPlace} (h : DataW.trod enc Tryz.prog W 0 (fun _ => true) true fuel 42 [c0, c1] = some x) :
    ∃ a b : Int, c0 = .int .i64 a ∧ c1 = .int .i64 b := by
  cases fuel with
  | zero => simp [DataW.trod] at h
  | succ n =>
    unfold DataW.trod at h
    rw [undP] at h
    have r2 : List.range 2 = [0, 1] := rfl
    simp only [r2, cellsI] at h
    cases h0 : DataW.trod enc Tryz.prog W 0 (fun _ => true) true n 3 [c0] with
    | none => simp [h0] at h
    | some y0 =>
      cases h1 : DataW.trod enc Tryz.prog W 0 (fun _ => true) true n 3 [c1] with
      | none => simp [h0, h1] at h
      | some y1 =>
        obtain ⟨a, e0, _, _⟩ := DataW.trod_int Tryz.underlying3 h0
        obtain ⟨b, e1, _, _⟩ := DataW.trod_int Tryz.underlying3 h1
        simp at e0 e1
        exact ⟨a, b, e0, e1⟩
theorem cellsTwo : Tryz.prog.cellsOf 44 = 7 := by kernel_rfl
theorem cellsBo : Tryz.prog.cellsOf 4 = 1 := by kernel_rfl
theorem two_of {H : Type} {enc : TypeId × Value → H} {W : World} {base : Nat} {u : Value} {d : DataW H} {p : List MemPlace} (hv : Value.okWide Tryz.prog W .any base 44 u) (h : DataW.Trod enc Tryz.prog W 0 (fun _ => true) true 44 u d p) :
    ∃ (nv rv : Value) (g : Gf) (x0 x1 y0 y1 : Int) (pt : Bool), u = .agg #[nv, rv, .int .i64 x0, .int .i64 x1, .int .i64 y0, .int .i64 y1, .bool pt] ∧ Gr W nv rv g ∧ Sized g := by
  obtain ⟨cs, rfl, hsz⟩ := okWide_struct Tryz.underlying44 hv
  obtain ⟨fuel, hf⟩ := h
  have hf' : DataW.trod enc Tryz.prog W 0 (fun _ => true) true fuel 44 cs.toList = some (d, p) := by simpa [Value.cells] using hf
  obtain ⟨xs, n, _, hx, hl, hlen, hF⟩ := DataW.trod_struct Tryz.underlying44 hf'
  rw [cellsTwo] at hl
  generalize hcs : cs.toList = cl at hl hF
  match cl, hl with
  | [c0, c1, c2, c3, c4, c5, c6], _ =>
    match xs, hlen with
    | [y0, y1, y2, y3], _ =>
      have h0 := hF 0 _ rfl
      have h1 := hF 1 _ rfl
      have h2 := hF 2 _ rfl
      have h3 := hF 3 _ rfl
      simp [cellsG] at h0
      simp [cellsP] at h1 h2
      simp [cellsBo] at h3
      obtain ⟨nv, rv, g, e0, hg, hs⟩ := graph_of_cells h0
      obtain ⟨x0, x1, f0, f1⟩ := pair_of_cells h1
      obtain ⟨z0, z1, f2, f3⟩ := pair_of_cells h2
      obtain ⟨pt, e3, _⟩ := DataW.trod_bool Tryz.underlying4 h3
      simp at e0 e3
      obtain ⟨rfl, rfl⟩ := e0
      subst f0 f1 f2 f3 e3
      refine ⟨_, _, g, x0, x1, z0, z1, pt, ?_, hg, hs⟩
      congr 1
      exact Array.toList_inj.1 (by simpa using hcs)
end Go.Proofs.YtlibjdilicfcdaaGreatDoor
namespace Go.Proofs.YtlibjdilicfcdaaGreatDoor
set_option maxRecDepth 100000
open Go.ChangeShapes Go.WideShapes Go.ChangeAt Go.RowKit
theorem unifyStays_lifted (os : Os) (started : os.Started) (H : Type) (enc : TypeId × Value → H) :
    ReturnsInHanded {} Tryz.checked os 4 .any (fun w args => (Rows.unifyStaysSpec.pre enc Tryz.prog Tryz.f4 [] false w args ∧ laidMetH Tryz.prog Rows.unifyStaysRow.laid w) ∧ sizedMet enc Tryz.prog Tryz.f4 (OpenSpec.ofChange Rows.unifyStaysSpec) false w args)
      (Rows.unifyStaysSpec.post enc Tryz.prog Tryz.f4 false true false false) := by
  refine returnsInHanded_of_change_and (C := Tryz.checked) (X := fun w _ => laidMetH Tryz.prog Rows.unifyStaysRow.laid w) (fun _ _ _ hh h => h.of_heap hh) own started (by kernel_rfl) Tryz.func4
    (ChangeSpec.witness_shaped (enc := enc) (C := Tryz.checked) (os := os) (X := fun w _ => laidMetH Tryz.prog Rows.unifyStaysRow.laid w) false (World.doorLaid Tryz.prog 16 os) #[.agg #[.slice none 0 0, .slice none 0 0, .int .i64 0, .int .i64 0, .int .i64 0, .int .i64 0, .bool false]] 8 rfl (World.shaped_of_RefB (by kernel_rfl) (by kernel_rfl)) (by kernel_rfl) (by kernel_rfl) (by kernel_rfl) (door_met os _)) ?_
  intro W base args ds gs before hval0 hW _ _ hL _
  have hval : ∀ (j : Nat) t v, Tryz.f4.params[j]? = some t → args[j]? = some v → Value.okWide Tryz.prog W .any base t v := hval0
  have hW' := hW
  obtain ⟨p, q, hA0, hV, rfl, hfz, hnd⟩ := hW
  have hA : DataW.TrodAll enc Tryz.prog W 0 (fun _ => true) true Tryz.f4.params.toList args.toList ds p := hA0
  rw [Tryz.params4] at hA hval
  obtain ⟨v0, vs0, d0, ds0, p0, q0, hargs, rfl, rfl, h0, r0⟩ := trodAll_cons hA
  obtain ⟨rfl, rfl, rfl⟩ := trodAll_nil r0
  obtain rfl : args = #[v0] := by cases args; simp_all
  obtain ⟨rfl, rfl⟩ := trodVars_none hV
  clear hA0 hval0
  simp only [List.append_nil] at hW'
  have hlt0 : ∀ x ∈ p0, x.block < W.heap.size := fun x hx => by simpa using hW'.lt x (by simp [hx])
  have hargs0 : ∀ (W' : World), Below W.heap.size W W' → DataW.Trod enc Tryz.prog W' 0 (fun b => decide (b < W.heap.size)) true 44 v0 d0 p0 :=
    fun W' hn => Below.trod laidOut (by kernel_rfl) (of_decide_eq_true (by kernel_rfl)) h0 hn hlt0
  obtain ⟨nv0, rv0, g0, x0, y0, z0, t0, b0, rfl, hG0, hS0⟩ := two_of (hval 0 44 v0 rfl rfl) h0
  refine (unifyStays_walk (ready_of_laid hL) hG0 hS0 x0 y0 z0 t0 b0).mono fun e W' ⟨he, hg⟩ => ?_
  subst he
  refine ⟨_, rfl, _, _, _, [], p0 ++ ([]), [], hW', ?_, ?_, rfl, hg.frame _, fun h => by cases h⟩
  · exact trodAll_cons_mk (shut_bool Tryz.underlying4 _) trodAll_mk0
  · exact (trodAll_cons_mk (hargs0 _ hg) trodAll_mk0)
theorem unifyStays_said : Rows.UnifyStaysSaid :=
  OpenClaim.holds_of_wide 4 Tryz.f4 rfl rfl rfl rfl rfl rfl rfl ⟨rfl, rfl, rfl, rfl, rfl⟩ rfl rfl rfl rfl rfl (by kernel_rfl) Tryz.func4 (by kernel_rfl)
    (of_decide_eq_true (by kernel_rfl)) (by unfold Func.isWrapper; first | (rw [if_pos (by decide +kernel)]; kernel_rfl) | (rw [if_neg (by decide +kernel)]; exact ⟨rfl, rfl⟩))
    (fun os started H enc _ => unifyStays_lifted os started H enc)
theorem unifyStays_card : Rows.UnifyStaysCardSaid :=
  Claim7.holds_tied_plain_at .later [] [.handle] true (true, "9d57827f5008c9f85a58ca4bfe14ea9bfd47622b783724e1a63bf3c28aee11d7") true
    unifyStays_said (fun _ h => by cases h) (by kernel_rfl) (fun _ h => by cases h) unifyStays_row_tie rfl ⟨rfl, rfl⟩ (by kernel_rfl) rfl
    (fun f fn hf hfn => by
      obtain rfl : f = 4 := Option.some.inj ((show Tryz.prog.funcNamed Rows.unifyStaysRow.func = some 4 by kernel_rfl).symm.trans hf) |>.symm
      obtain rfl : fn = Tryz.f4 := (Option.some.inj (Tryz.func4.symm.trans hfn)).symm
      exact ⟨by kernel_rfl, fun j t ht => by
        rw [Tryz.params4] at ht
        have hm : t ∈ [44] := by simpa using Array.mem_of_getElem? ht
        have hall : ([44].all fun u => !Tryz.prog.wantsStandIn u) = true := by kernel_rfl
        exact (show Tryz.prog.wantsStandIn t = false by simpa using List.all_eq_true.1 hall t hm)⟩)
    (by kernel_rfl)
#print axioms unifyStays_card
end Go.Proofs.YtlibjdilicfcdaaGreatDoor

/- Does a walk in depth come back to a node that is still being gone through? As plain mathematics: it does just if a node that is met is met from its own arguments. -/
import Derived.Test.YtebmnggjblellaaGrRCyc
import Derived.Test.YtebmnggjblellaaGrTrimM
namespace Go.Proofs.Ytebmnggjblellaa
open Go.RowKit

/-- The walk's state: which nodes were entered, which were left. -/
structure Cs where
  ent : List Int
  lft : List Int
/-- One node behind the other, till one circles. -/
def circL (F : Int → Cs → Bool × Cs) : List Int → Cs → Bool × Cs
  | [], s => (false, s)
  | n :: r, s => if (F n s).1 = true then (true, (F n s).2) else circL F r (F n s).2
/-- The state behind so many nodes. -/
def circS (F : Int → Cs → Bool × Cs) (l : List Int) (s : Cs) : Nat → Cs
  | 0 => s
  | k + 1 => (F (l.getD k 0) (circS F l s k)).2
theorem circS_cons (F : Int → Cs → Bool × Cs) (n : Int) (r : List Int) (s : Cs) : ∀ k, circS F (n :: r) s (k + 1) = circS F r (F n s).2 k
  | 0 => by simp [circS]
  | k + 1 => by
    have h := circS_cons F n r s k
    have e : circS F (n :: r) s (k + 1 + 1) = (F ((n :: r).getD (k + 1) 0) (circS F (n :: r) s (k + 1))).2 := rfl
    have e2 : (n :: r).getD (k + 1) 0 = r.getD k 0 := by simp
    rw [e, h, e2]
    rfl
theorem circL_hit (F : Int → Cs → Bool × Cs) : ∀ (l : List Int) (s : Cs) (k : Nat), k < l.length → (∀ j, j < k → (F (l.getD j 0) (circS F l s j)).1 = false) → (F (l.getD k 0) (circS F l s k)).1 = true → circL F l s = (true, circS F l s (k + 1))
  | [], _, k, h, _, _ => absurd h (Nat.not_lt_zero _)
  | n :: r, s, 0, _, _, h => by
    have h' : (F n s).1 = true := by simpa [circS] using h
    simp [circL, circS, h']
  | n :: r, s, k + 1, hk, hj, h => by
    have h0 : (F n s).1 = false := by simpa [circS] using hj 0 (by omega)
    have e2 : ∀ j, (n :: r).getD (j + 1) 0 = r.getD j 0 := fun j => by simp
    have h1 := circL_hit F r (F n s).2 k (by simpa using hk) (fun j hj' => by
      have := hj (j + 1) (by omega)
      rw [circS_cons, e2] at this
      exact this) (by
      rw [circS_cons, e2] at h
      exact h)
    rw [circS_cons, ← h1]
    simp [circL, h0]
theorem circL_miss (F : Int → Cs → Bool × Cs) : ∀ (l : List Int) (s : Cs), (∀ j, j < l.length → (F (l.getD j 0) (circS F l s j)).1 = false) → circL F l s = (false, circS F l s l.length)
  | [], _, _ => rfl
  | n :: r, s, hj => by
    have h0 : (F n s).1 = false := by simpa [circS] using hj 0 (by simp)
    have e2 : ∀ j, (n :: r).getD (j + 1) 0 = r.getD j 0 := fun j => by simp
    have h1 := circL_miss F r (F n s).2 (fun j hj' => by
      have := hj (j + 1) (by simpa using hj')
      rw [circS_cons, e2] at this
      exact this)
    have e : circS F (n :: r) s (n :: r).length = circS F r (F n s).2 r.length := circS_cons F n r s r.length
    rw [e, ← h1]
    simp [circL, h0]
/-- What a node answers, and the state behind it; so deep at most. -/
def circF (g : Gf) : Nat → Int → Cs → Bool × Cs
  | 0, n, s => (!decide (n ∈ s.lft), s)
  | f + 1, n, s => if n ∈ s.ent then (!decide (n ∈ s.lft), s) else
      ((circL (circF g f) (g.argsOf n) ⟨s.ent ++ [n], s.lft⟩).1, ⟨(circL (circF g f) (g.argsOf n) ⟨s.ent ++ [n], s.lft⟩).2.ent, (circL (circF g f) (g.argsOf n) ⟨s.ent ++ [n], s.lft⟩).2.lft ++ [n]⟩)
theorem circF_old {g : Gf} {f : Nat} {n : Int} {s : Cs} (h : n ∈ s.ent) : circF g f n s = (!decide (n ∈ s.lft), s) := by
  cases f with
  | zero => rfl
  | succ f => simp [circF, h]
theorem circF_new {g : Gf} {f : Nat} {n : Int} {s : Cs} (h : n ∉ s.ent) : circF g (f + 1) n s = ((circL (circF g f) (g.argsOf n) ⟨s.ent ++ [n], s.lft⟩).1, ⟨(circL (circF g f) (g.argsOf n) ⟨s.ent ++ [n], s.lft⟩).2.ent, (circL (circF g f) (g.argsOf n) ⟨s.ent ++ [n], s.lft⟩).2.lft ++ [n]⟩) := by
  simp [circF, h]
/-- What is entered grows, and stays nodes of the graph, none twice. -/
theorem circ_grow {g : Gf} (hg : Good g) : ∀ (f : Nat) (n : Int) (s : Cs), 0 ≤ n → n < (g.nodes.length : Int) → Ok g.nodes.length s.ent → Ok g.nodes.length (circF g f n s).2.ent ∧ s.ent.length ≤ (circF g f n s).2.ent.length
  | 0, _, _, _, _, h => ⟨h, Nat.le_refl _⟩
  | f + 1, n, s, h0, h1, h => by
    by_cases hm : n ∈ s.ent
    · rw [circF_old hm]
      exact ⟨h, Nat.le_refl _⟩
    · rw [circF_new hm]
      have hl : ∀ (l : List Int) (s : Cs), (∀ x ∈ l, 0 ≤ x ∧ x < (g.nodes.length : Int)) → Ok g.nodes.length s.ent → Ok g.nodes.length (circL (circF g f) l s).2.ent ∧ s.ent.length ≤ (circL (circF g f) l s).2.ent.length := by
        intro l
        induction l with
        | nil => exact fun s _ h => ⟨h, Nat.le_refl _⟩
        | cons a r ih =>
          intro s hr hs
          have ha := hr a (by simp)
          have h2 := circ_grow hg f a s ha.1 ha.2 hs
          simp only [circL]
          split
          · exact h2
          · have h3 := ih (circF g f a s).2 (fun x hx => hr x (by simp [hx])) h2.1
            exact ⟨h3.1, by omega⟩
      have h4 := hl (g.argsOf n) ⟨s.ent ++ [n], s.lft⟩ (hg.args h0 h1).1 (ok_snoc h hm h0 h1)
      refine ⟨h4.1, ?_⟩
      have := h4.2
      simp at this
      show s.ent.length ≤ (circL (circF g f) (g.argsOf n) ⟨s.ent ++ [n], s.lft⟩).2.ent.length
      omega
theorem circS_grow {g : Gf} (hg : Good g) (f : Nat) (l : List Int) (s : Cs) (hl : ∀ x ∈ l, 0 ≤ x ∧ x < (g.nodes.length : Int)) (h : Ok g.nodes.length s.ent) : ∀ k, k ≤ l.length → Ok g.nodes.length (circS (circF g f) l s k).ent ∧ s.ent.length ≤ (circS (circF g f) l s k).ent.length
  | 0, _ => ⟨h, Nat.le_refl _⟩
  | k + 1, hk => by
    have h1 := circS_grow hg f l s hl h k (by omega)
    have hx := hl _ (getD_mem (show k < l.length by omega))
    have h2 := circ_grow hg f (l.getD k 0) (circS (circF g f) l s k) hx.1 hx.2 h1.1
    exact ⟨h2.1, Nat.le_trans h1.2 h2.2⟩
/-- A node is met from another one's arguments. -/
def Dn (g : Gf) (x y : Int) : Prop := y ∈ meetF g (g.nodes.length + 1) (g.argsOf x) []
theorem dn_arg {g : Gf} (hg : Good g) {x y : Int} (h0 : 0 ≤ x) (h1 : x < (g.nodes.length : Int)) (h : y ∈ g.argsOf x) : Dn g x y :=
  (meet_has hg (g.nodes.length + 1) (g.argsOf x) [] (hg.args h0 h1).1 (ok_nil _) (by simp)).1 y h
theorem dn_more {g : Gf} (hg : Good g) {x y z : Int} (h0 : 0 ≤ x) (h1 : x < (g.nodes.length : Int)) (h : Dn g x y) (hz : z ∈ g.argsOf y) : Dn g x z :=
  (meet_has hg (g.nodes.length + 1) (g.argsOf x) [] (hg.args h0 h1).1 (ok_nil _) (by simp)).2 y h (by simp) z hz
theorem dn_in {g : Gf} (p : Int → Prop) (hp : ∀ x, p x → ∀ y ∈ g.argsOf x, p y) {x y : Int} (h : Dn g x y) (hx : ∀ z ∈ g.argsOf x, p z) : p y :=
  meet_in p hp (g.nodes.length + 1) (g.argsOf x) [] hx (by simp) y h
theorem dn_rng {g : Gf} (hg : Good g) {x y : Int} (h0 : 0 ≤ x) (h1 : x < (g.nodes.length : Int)) (h : Dn g x y) : 0 ≤ y ∧ y < (g.nodes.length : Int) :=
  dn_in (fun z => 0 ≤ z ∧ z < (g.nodes.length : Int)) (fun _ hz => (hg.args hz.1 hz.2).1) h (hg.args h0 h1).1
theorem dn_trans {g : Gf} (hg : Good g) {x y z : Int} (h0 : 0 ≤ x) (h1 : x < (g.nodes.length : Int)) (h : Dn g x y) (k : Dn g y z) : Dn g x z :=
  dn_in (Dn g x) (fun _ hu _ hv => dn_more hg h0 h1 hu hv) k (fun _ hu => dn_more hg h0 h1 h hu)
/-- A state in which none that was left circles. -/
structure Cv (g : Gf) (s : Cs) : Prop where
  ok : Ok g.nodes.length s.ent
  sub : ∀ x ∈ s.lft, x ∈ s.ent
  cl : ∀ x ∈ s.lft, ∀ y ∈ g.argsOf x, y ∈ s.lft
  ac : ∀ x ∈ s.lft, ¬ Dn g x x
/-- Behind a walk that found nothing. -/
structure Cw (g : Gf) (s t : Cs) : Prop where
  v : Cv g t
  lft : ∀ x ∈ s.lft, x ∈ t.lft
  ent : s.ent.length ≤ t.ent.length
  gray : ∀ x, x ∈ t.ent → x ∉ t.lft → x ∈ s.ent ∧ x ∉ s.lft
  old : ∀ x, x ∈ s.ent → x ∉ s.lft → x ∈ t.ent ∧ x ∉ t.lft
/-- Behind a node that was left no circle. -/
theorem Cv.below {g : Gf} {s : Cs} (h : Cv g s) {x y : Int} (hx : x ∈ s.lft) (hd : Dn g x y) : y ∈ s.lft := dn_in (fun z => z ∈ s.lft) h.cl hd (h.cl x hx)
theorem circ_ok {g : Gf} (hg : Good g) : ∀ (f : Nat) (n : Int) (s : Cs), 0 ≤ n → n < (g.nodes.length : Int) → Cv g s → g.nodes.length ≤ s.ent.length + f → (∀ x ∈ s.ent, x ∉ s.lft → Dn g x n) →
    ((circF g f n s).1 = true → ∃ c, (c = n ∨ Dn g n c) ∧ Dn g c c) ∧ ((circF g f n s).1 = false → Cw g s (circF g f n s).2 ∧ n ∈ (circF g f n s).2.lft) := by
  have hold : ∀ (f : Nat) (n : Int) (s : Cs), Cv g s → n ∈ s.ent → (∀ x ∈ s.ent, x ∉ s.lft → Dn g x n) →
      ((circF g f n s).1 = true → ∃ c, (c = n ∨ Dn g n c) ∧ Dn g c c) ∧ ((circF g f n s).1 = false → Cw g s (circF g f n s).2 ∧ n ∈ (circF g f n s).2.lft) := by
    intro f n s hv hm hgr
    rw [circF_old hm]
    refine ⟨fun h => ?_, fun h => ?_⟩
    · have h' : n ∉ s.lft := by simpa using h
      exact ⟨n, Or.inl rfl, hgr n hm h'⟩
    · have h' : n ∈ s.lft := by simpa using h
      exact ⟨⟨hv, fun x hx => hx, Nat.le_refl _, fun x h1 h2 => ⟨h1, h2⟩, fun x h1 h2 => ⟨h1, h2⟩⟩, h'⟩
  intro f
  induction f with
  | zero =>
    intro n s h0 h1 hv hN hgr
    exact hold 0 n s hv (hv.ok.full (by simpa using hN) h0 h1) hgr
  | succ f ih =>
    intro n s h0 h1 hv hN hgr
    by_cases hm : n ∈ s.ent
    · exact hold (f + 1) n s hv hm hgr
    · have hl : ∀ (l : List Int) (s : Cs), (∀ x ∈ l, 0 ≤ x ∧ x < (g.nodes.length : Int)) → Cv g s → g.nodes.length ≤ s.ent.length + f → (∀ x ∈ s.ent, x ∉ s.lft → ∀ a ∈ l, Dn g x a) →
          ((circL (circF g f) l s).1 = true → ∃ a ∈ l, ∃ c, (c = a ∨ Dn g a c) ∧ Dn g c c) ∧ ((circL (circF g f) l s).1 = false → Cw g s (circL (circF g f) l s).2 ∧ ∀ a ∈ l, a ∈ (circL (circF g f) l s).2.lft) := by
        intro l
        induction l with
        | nil =>
          intro s _ hs _ _
          exact ⟨fun h => by simp [circL] at h, fun _ => ⟨⟨hs, fun x hx => hx, Nat.le_refl _, fun x h1 h2 => ⟨h1, h2⟩, fun x h1 h2 => ⟨h1, h2⟩⟩, by simp⟩⟩
        | cons a r ihl =>
          intro s hr hs hN2 hgr2
          have ha := hr a (by simp)
          have h2 := ih a s ha.1 ha.2 hs hN2 (fun x h1 h2 => hgr2 x h1 h2 a (by simp))
          simp only [circL]
          split
          · rename_i ht
            refine ⟨fun _ => ?_, fun h => by simp at h⟩
            obtain ⟨c, hc⟩ := h2.1 ht
            exact ⟨a, by simp, c, hc⟩
          · rename_i ht
            have hf : (circF g f a s).1 = false := by simpa using ht
            obtain ⟨hw, hal⟩ := h2.2 hf
            have h3 := ihl (circF g f a s).2 (fun x hx => hr x (by simp [hx])) hw.v (by have := hw.ent; omega) (fun x h4 h5 b hb => by
              have := hw.gray x h4 h5
              exact hgr2 x this.1 this.2 b (by simp [hb]))
            refine ⟨fun h => ?_, fun h => ?_⟩
            · obtain ⟨b, hb, c, hc⟩ := h3.1 h
              exact ⟨b, by simp [hb], c, hc⟩
            · obtain ⟨hw2, hal2⟩ := h3.2 h
              refine ⟨⟨hw2.v, fun x hx => hw2.lft x (hw.lft x hx), Nat.le_trans hw.ent hw2.ent, fun x h4 h5 => ?_, fun x h4 h5 => ?_⟩, fun b hb => ?_⟩
              · have := hw2.gray x h4 h5
                exact hw.gray x this.1 this.2
              · have := hw.old x h4 h5
                exact hw2.old x this.1 this.2
              · rcases List.mem_cons.1 hb with rfl | hb
                · exact hw2.lft _ hal
                · exact hal2 b hb
      have hnl : n ∉ s.lft := fun h => hm (hv.sub n h)
      have hv1 : Cv g ⟨s.ent ++ [n], s.lft⟩ := ⟨ok_snoc hv.ok hm h0 h1, fun x hx => by simp [hv.sub x hx], hv.cl, hv.ac⟩
      have h3 := hl (g.argsOf n) ⟨s.ent ++ [n], s.lft⟩ (hg.args h0 h1).1 hv1 (by simp; omega) (fun x hx hxl a ha => by
        rcases List.mem_append.1 hx with hx | hx
        · have hr := hv.ok.rng x hx
          exact dn_more hg hr.1 hr.2 (hgr x hx hxl) ha
        · have e : x = n := by simpa using hx
          subst e
          exact dn_arg hg h0 h1 ha)
      rw [circF_new hm]
      generalize circL (circF g f) (g.argsOf n) ⟨s.ent ++ [n], s.lft⟩ = q at h3
      refine ⟨fun h => ?_, fun h => ?_⟩
      · obtain ⟨a, ha, c, hc, hcc⟩ := h3.1 h
        refine ⟨c, Or.inr ?_, hcc⟩
        rcases hc with rfl | hc
        · exact dn_arg hg h0 h1 ha
        · exact dn_trans hg h0 h1 (dn_arg hg h0 h1 ha) hc
      · obtain ⟨hw, hal⟩ := h3.2 h
        have hn := hw.old n (by simp) hnl
        have hcl : ∀ x ∈ q.2.lft ++ [n], ∀ y ∈ g.argsOf x, y ∈ q.2.lft := fun x hx y hy => by
          rcases List.mem_append.1 hx with hx | hx
          · exact hw.v.cl x hx y hy
          · have e : x = n := by simpa using hx
            subst e
            exact hal y hy
        refine ⟨⟨⟨hw.v.ok, fun x hx => ?_, fun x hx y hy => by simp [hcl x hx y hy], fun x hx hd => ?_⟩, fun x hx => by simp [hw.lft x hx], ?_, fun x h4 h5 => ?_, fun x h4 h5 => ?_⟩, by simp⟩
        · rcases List.mem_append.1 hx with hx | hx
          · exact hw.v.sub x hx
          · have e : x = n := by simpa using hx
            subst e
            exact hn.1
        · rcases List.mem_append.1 hx with hx | hx
          · exact hw.v.ac x hx hd
          · have e : x = n := by simpa using hx
            subst e
            exact hn.2 (dn_in (fun z => z ∈ q.2.lft) hw.v.cl hd hal)
        · have := hw.ent
          simp at this
          show s.ent.length ≤ q.2.ent.length
          omega
        · have h5' : x ∉ q.2.lft ∧ x ≠ n := by simpa using h5
          have := hw.gray x h4 h5'.1
          refine ⟨?_, this.2⟩
          rcases List.mem_append.1 this.1 with h | h
          · exact h
          · exact absurd (by simpa using h) h5'.2
        · have := hw.old x (by simp [h4]) h5
          refine ⟨this.1, ?_⟩
          intro h
          rcases List.mem_append.1 h with h | h
          · exact this.2 h
          · have e : x = n := by simpa using h
            subst e
            exact hm h4
/-- What Cyclic answers. -/
def cycF (g : Gf) : Bool := (circL (circF g g.nodes.length) g.roots ⟨[], []⟩).1
theorem cyc_same {g : Gf} (hg : Good g) : (meetF g (g.nodes.length + 1) g.roots []).any (selfMet g) = cycF g := by
  have hmt := meet_has hg (g.nodes.length + 1) g.roots [] hg.root (ok_nil _) (by simp)
  have hself : ∀ c, selfMet g c = true ↔ Dn g c c := fun c => by simp [selfMet, Dn]
  have hl : ∀ (l : List Int) (s : Cs), (∀ x ∈ l, 0 ≤ x ∧ x < (g.nodes.length : Int)) → Cv g s → (∀ x ∈ s.ent, x ∈ s.lft) →
      ((circL (circF g g.nodes.length) l s).1 = true → ∃ a ∈ l, ∃ c, (c = a ∨ Dn g a c) ∧ Dn g c c) ∧ ((circL (circF g g.nodes.length) l s).1 = false → Cw g s (circL (circF g g.nodes.length) l s).2 ∧ ∀ a ∈ l, a ∈ (circL (circF g g.nodes.length) l s).2.lft) := by
    intro l
    induction l with
    | nil =>
      intro s _ hs _
      exact ⟨fun h => by simp [circL] at h, fun _ => ⟨⟨hs, fun x hx => hx, Nat.le_refl _, fun x h1 h2 => ⟨h1, h2⟩, fun x h1 h2 => ⟨h1, h2⟩⟩, by simp⟩⟩
    | cons a r ihl =>
      intro s hr hs hgr
      have ha := hr a (by simp)
      have h2 := circ_ok hg g.nodes.length a s ha.1 ha.2 hs (by omega) (fun x h1 h2 => absurd (hgr x h1) h2)
      simp only [circL]
      split
      · rename_i ht
        refine ⟨fun _ => ?_, fun h => by simp at h⟩
        obtain ⟨c, hc⟩ := h2.1 ht
        exact ⟨a, by simp, c, hc⟩
      · rename_i ht
        have hf : (circF g g.nodes.length a s).1 = false := by simpa using ht
        obtain ⟨hw, hal⟩ := h2.2 hf
        have h3 := ihl (circF g g.nodes.length a s).2 (fun x hx => hr x (by simp [hx])) hw.v (fun x hx => Classical.byContradiction fun hn => by
          have := hw.gray x hx hn
          exact this.2 (hgr x this.1))
        refine ⟨fun h => ?_, fun h => ?_⟩
        · obtain ⟨b, hb, c, hc⟩ := h3.1 h
          exact ⟨b, by simp [hb], c, hc⟩
        · obtain ⟨hw2, hal2⟩ := h3.2 h
          refine ⟨⟨hw2.v, fun x hx => hw2.lft x (hw.lft x hx), Nat.le_trans hw.ent hw2.ent, fun x h4 h5 => ?_, fun x h4 h5 => ?_⟩, fun b hb => ?_⟩
          · have := hw2.gray x h4 h5
            exact hw.gray x this.1 this.2
          · have := hw.old x h4 h5
            exact hw2.old x this.1 this.2
          · rcases List.mem_cons.1 hb with rfl | hb
            · exact hw2.lft _ hal
            · exact hal2 b hb
  have h1 := hl g.roots ⟨[], []⟩ hg.root ⟨ok_nil _, by simp, by simp, by simp⟩ (by simp)
  unfold cycF
  cases hq : (circL (circF g g.nodes.length) g.roots ⟨[], []⟩).1 with
  | true =>
    obtain ⟨a, ha, c, hc, hcc⟩ := h1.1 hq
    rw [List.any_eq_true]
    refine ⟨c, ?_, (hself c).2 hcc⟩
    have ham := hmt.1 a ha
    rcases hc with rfl | hc
    · exact ham
    · exact dn_in (fun z => z ∈ meetF g (g.nodes.length + 1) g.roots []) (fun x hx => hmt.2 x hx (by simp)) hc (hmt.2 a ham (by simp))
  | false =>
    obtain ⟨hw, hal⟩ := h1.2 hq
    rw [List.any_eq_false]
    intro x hx
    have hxl := meet_in (fun z => z ∈ (circL (circF g g.nodes.length) g.roots ⟨[], []⟩).2.lft) hw.v.cl (g.nodes.length + 1) g.roots [] hal (by simp) x hx
    intro hs
    exact hw.v.ac x hxl ((hself x).1 hs)
end Go.Proofs.Ytebmnggjblellaa

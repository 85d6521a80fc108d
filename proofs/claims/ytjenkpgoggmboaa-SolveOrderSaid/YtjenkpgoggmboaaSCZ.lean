/- Instances: plain data. -/
import Derived.Test.YtjenkpgoggmboaaSBZ
import Derived.Test.YtjenkpgoggmboaaBAZ
import Derived.Lib.AppendZerosOnto
namespace Go.Proofs.Ytjenkpgoggmboaa
open Go.RowKit

theorem nd_int (A : Gf) (z : Nat) : A.nd (z : Int) = ndN A.nodes z := by simp [Gf.nd, ndN]
theorem good_ndI {g : Gf} (hg : Good g) {x : Int} (h : isN g x) : goodNd g.nodes.length (g.nd x) = true := by
  have h0 := h.1
  have h1 := h.2
  refine hg.node _ ?_
  unfold Gf.nd
  rw [List.getD, List.getElem?_eq_getElem (show x.toNat < g.nodes.length by omega)]
  simp
/-- A graph's nodes, numbered from a place on, its variables standing for themselves. -/
def fixN1 (first n : Nat) (y : Nd) : Nd := if y.kind = 1 then ⟨0, ⟨#[]⟩, (n : Int), []⟩ else ⟨y.kind, y.name, y.num, y.args.map (fun a => (first : Int) + a)⟩
def fixedF (first : Nat) : Nat → List Nd → List Nd
  | _, [] => []
  | n, y :: r => fixN1 first n y :: fixedF first (n + 1) r
theorem fixedF_len (first : Nat) : ∀ n l, (fixedF first n l).length = l.length
  | _, [] => rfl
  | n, _ :: r => by simp [fixedF, fixedF_len first (n + 1) r]
theorem fixedF_get (first : Nat) : ∀ n (l : List Nd) j, j < l.length → (fixedF first n l).getD j nd0 = fixN1 first (n + j) (l.getD j nd0)
  | _, [], _, h => by simp at h
  | n, y :: r, 0, _ => by simp [fixedF]
  | n, y :: r, j + 1, h => by
    have := fixedF_get first (n + 1) r j (by simpa using h)
    rw [show n + (j + 1) = n + 1 + j by omega]
    simpa [fixedF] using this
/-- The nodes of both, one behind the other. -/
def bothN (p t : Gf) : List Nd := p.nodes ++ fixedF p.nodes.length 0 t.nodes
theorem bothN_len (p t : Gf) : (bothN p t).length = p.nodes.length + t.nodes.length := by simp [bothN, fixedF_len]
theorem bothN_left (p t : Gf) {x : Nat} (hx : x < p.nodes.length) : ndN (bothN p t) x = p.nd (x : Int) := by
  simp [bothN, ndN, Gf.nd, List.getD, List.getElem?_append_left hx]
theorem bothN_right (p t : Gf) {y : Nat} (hy : y < t.nodes.length) : ndN (bothN p t) (p.nodes.length + y) = fixN1 p.nodes.length y (t.nd (y : Int)) := by
  have h := fixedF_get p.nodes.length 0 t.nodes y hy
  rw [Nat.zero_add] at h
  unfold ndN bothN
  rw [List.getD, List.getElem?_append_right (by omega), Nat.add_sub_cancel_left]
  simpa [Gf.nd, List.getD] using h
/-- The pairs of roots. -/
def rtP (p t : Gf) : List (Nat × Nat) := (List.range p.roots.length).map (fun i => ((p.roots.getD i 0).toNat, p.nodes.length + (t.roots.getD i 0).toNat))
/-- Which node of the one stands for which of the other. -/
structure Ins (p t : Gf) (S : Int → Int → Prop) : Prop where
  rng : ∀ x y, S x y → isN p x ∧ isN t y
  lab : ∀ x y, S x y → (p.nd x).kind ≠ 1 → (p.nd x).kind = (t.nd y).kind ∧ (p.nd x).name = (t.nd y).name ∧ (p.nd x).num = (t.nd y).num ∧ (p.nd x).args.length = (t.nd y).args.length
  arg : ∀ x y, S x y → (p.nd x).kind ≠ 1 → ∀ k, k < (p.nd x).args.length → S (p.arg x k) (t.arg y k)
  var : ∀ x y y', S x y → S x y' → (p.nd x).kind = 1 → Al t y y'
  len : p.roots.length = t.roots.length
  root : ∀ i, i < p.roots.length → S (p.roots.getD i 0) (t.roots.getD i 0)
/-- What stands for nodes that unfold alike unfolds alike. -/
theorem Ins.al {p t : Gf} {S : Int → Int → Prop} (h : Ins p t S) {x x' y y' : Int} (hal : Al p x x') (h1 : S x y) (h2 : S x' y') : Al t y y' := by
  refine ⟨fun u v => Al t u v ∨ ∃ s s', Al p s s' ∧ S s u ∧ S s' v, fun u v huv => ?_, Or.inr ⟨x, x', hal, h1, h2⟩⟩
  rcases huv with hA | ⟨s, s', hs, hu, hv⟩
  · obtain ⟨a1, a2, a3, a4⟩ := al_sim t u v hA
    exact ⟨a1, a2, a3, fun k hk => Or.inl (a4 k hk)⟩
  · obtain ⟨_, _, hl, ha⟩ := al_sim p s s' hs
    by_cases hk : (p.nd s).kind = 1
    · have e : s = s' := hl.2.2.2.2 hk
      subst e
      obtain ⟨a1, a2, a3, a4⟩ := al_sim t u v (h.var s u v hu hv hk)
      exact ⟨a1, a2, a3, fun k hk => Or.inl (a4 k hk)⟩
    · have hk' : (p.nd s').kind ≠ 1 := by rw [← hl.1]; exact hk
      obtain ⟨l1, l2, l3, l4⟩ := h.lab s u hu hk
      obtain ⟨m1, m2, m3, m4⟩ := h.lab s' v hv hk'
      refine ⟨(h.rng s u hu).2, (h.rng s' v hv).2, ⟨by rw [← l1, ← m1]; exact hl.1, by rw [← l2, ← m2]; exact hl.2.1, by rw [← l3, ← m3]; exact hl.2.2.1, by rw [← l4, ← m4]; exact hl.2.2.2.1, fun hv1 => absurd (l1.trans hv1) hk⟩, fun k hkk => ?_⟩
      have hk1 : k < (p.nd s).args.length := by rw [l4]; exact hkk
      have hk2 : k < (p.nd s').args.length := by rw [← hl.2.2.2.1]; exact hk1
      exact Or.inr ⟨_, _, ha k hk1, h.arg s u hu hk k hk1, h.arg s' v hv hk' k hk2⟩
theorem Ins.refl {p : Gf} (hg : Good p) : Ins p p (fun x y => isN p x ∧ x = y) :=
  ⟨fun x y h => ⟨h.1, h.2 ▸ h.1⟩, fun x y h _ => by rw [h.2]; exact ⟨rfl, rfl, rfl, rfl⟩, fun x y h _ k hk => ⟨arg_isN hg h.1 hk, by rw [h.2]⟩, fun x y y' h h' _ => by rw [← h.2, ← h'.2]; exact al_refl hg h.1, rfl, fun i hi => ⟨hg.root _ (getD_mem hi), rfl⟩⟩
theorem Ins.trans {a b c : Gf} {S T : Int → Int → Prop} (h : Ins a b S) (k : Ins b c T) : ∃ U, Ins a c U := by
  refine ⟨fun x z => ∃ y, S x y ∧ T y z, fun x z ⟨y, hs, ht⟩ => ⟨(h.rng x y hs).1, (k.rng y z ht).2⟩, fun x z ⟨y, hs, ht⟩ hk => ?_, fun x z ⟨y, hs, ht⟩ hk j hj => ?_, fun x z z' ⟨y, hs, ht⟩ ⟨y', hs', ht'⟩ hk => k.al (h.var x y y' hs hs' hk) ht ht', h.len.trans k.len, fun i hi => ⟨_, h.root i hi, k.root i (by rw [← h.len]; exact hi)⟩⟩
  · obtain ⟨l1, l2, l3, l4⟩ := h.lab x y hs hk
    obtain ⟨m1, m2, m3, m4⟩ := k.lab y z ht (by rw [← l1]; exact hk)
    exact ⟨l1.trans m1, l2.trans m2, l3.trans m3, l4.trans m4⟩
  · obtain ⟨l1, l2, l3, l4⟩ := h.lab x y hs hk
    exact ⟨_, h.arg x y hs hk j hj, k.arg y z ht (by rw [← l1]; exact hk) j (by rw [← l4]; exact hj)⟩
/-- Pairs that are come to from the roots by one way. -/
inductive Way2 (a b : Gf) : Int → Int → Prop
  | root (i : Nat) (hi : i < a.roots.length) : Way2 a b (a.roots.getD i 0) (b.roots.getD i 0)
  | arg {x y : Int} (k : Nat) (h : Way2 a b x y) (hk : k < (a.nd x).args.length) : Way2 a b (a.arg x k) (b.arg y k)
theorem way2_both {a b : Gf} {S T : Int → Int → Prop} (hga : Good a) (h : Ins a b S) (k : Ins b a T) : ∀ {x y : Int}, Way2 a b x y → S x y ∧ T y x := by
  have hvar : ∀ (g : Gf), Good g → ∀ x, isN g x → (g.nd x).kind = 1 → (g.nd x).args = [] := fun g hg x hx hk => by
    have hx0 := hx.1
    have hx1 := hx.2
    have h := (goodA_of hg).var x.toNat (by
      show (ndN g.nodes x.toNat).kind = 1
      rw [← nd_int g x.toNat, show ((x.toNat : Nat) : Int) = x by omega]
      exact hk)
    rw [← nd_int g x.toNat, show ((x.toNat : Nat) : Int) = x by omega] at h
    exact h
  intro x y hw
  induction hw with
  | root i hi => exact ⟨h.root i hi, k.root i (by rw [← h.len]; exact hi)⟩
  | @arg x y j hxy hj ih =>
    obtain ⟨hs, ht⟩ := ih
    have hkx : (a.nd x).kind ≠ 1 := fun hk => by rw [hvar a hga x (h.rng x y hs).1 hk] at hj; simp at hj
    obtain ⟨l1, l2, l3, l4⟩ := h.lab x y hs hkx
    exact ⟨h.arg x y hs hkx j hj, k.arg y x ht (by rw [← l1]; exact hkx) j (by rw [← l4]; exact hj)⟩
/-- Instances of one another: a pairing. -/
theorem ins_pr {a b : Gf} {S T : Int → Int → Prop} (hga : Good a) (hgb : Good b) (h : Ins a b S) (k : Ins b a T) : Pr a b (Way2 a b) := by
  have hb := fun {x y : Int} (hw : Way2 a b x y) => way2_both hga h k hw
  have hkind : ∀ x y, Way2 a b x y → ((a.nd x).kind = 1 ↔ (b.nd y).kind = 1) := fun x y hw => by
    obtain ⟨hs, ht⟩ := hb hw
    constructor
    · intro hx
      apply Classical.byContradiction
      intro hy
      exact hy ((k.lab y x ht hy).1.trans hx)
    · intro hy
      apply Classical.byContradiction
      intro hx
      exact hx ((h.lab x y hs hx).1.trans hy)
  refine ⟨fun x y hw => h.rng x y (hb hw).1, fun x y hw => ?_, fun x y hw j hj => .arg j hw hj, fun x y y' hw hw' hk => ?_, fun x x' y hw hw' hk => ?_, h.len, fun i hi => .root i hi⟩
  · by_cases hk : (a.nd x).kind = 1
    · have hk' := (hkind x y hw).1 hk
      obtain ⟨r1, r2⟩ := h.rng x y (hb hw).1
      have e1 := r1.1
      have e2 := r1.2
      have e3 := r2.1
      have e4 := r2.2
      have ga := good_ndI hga r1
      have gb := good_ndI hgb r2
      unfold goodNd at ga gb
      rw [if_pos hk] at ga
      rw [if_pos hk'] at gb
      simp only [Bool.and_eq_true, decide_eq_true_eq] at ga gb
      exact ⟨hk.trans hk'.symm, str_eq (ga.1.1.trans gb.1.1.symm), ga.1.2.trans gb.1.2.symm, ga.2.trans gb.2.symm⟩
    · exact h.lab x y (hb hw).1 hk
  · have hal := h.var x y y' (hb hw).1 (hb hw').1 hk
    exact (al_sim b y y' hal).2.2.1.2.2.2.2 ((hkind x y hw).1 hk)
  · have hal := k.var y x x' (hb hw).2 (hb hw').2 hk
    exact (al_sim a x x' hal).2.2.1.2.2.2.2 ((hkind x y hw).2 hk)
/-- A pairing makes instances both ways. -/
theorem pr_ins {a b : Gf} (hgb : Good b) {R : Int → Int → Prop} (h : Pr a b R) : Ins a b R :=
  ⟨h.rng, fun x y r _ => h.lab x y r, fun x y r _ k hk => h.arg x y r k hk, fun x y y' r r' hk => by rw [h.v1 x y y' r r' hk]; exact al_refl hgb (h.rng x y' r').2, h.len, h.root⟩
end Go.Proofs.Ytjenkpgoggmboaa

/- Instances and unifiers: plain data. -/
namespace Go.Proofs.Ytjenkpgoggmboaa
open Go.RowKit

theorem good_kind0 {g : Gf} (hg : Good g) {x : Int} (h : isN g x) : (g.nd x).kind ≠ 0 := fun hk => by
  have := good_ndI hg h
  unfold goodNd at this
  simp [hk] at this
theorem good_varA {g : Gf} (hg : Good g) {x : Int} (h : isN g x) (hk : (g.nd x).kind = 1) : (g.nd x).args.length = 0 := by
  have := good_ndI hg h
  unfold goodNd at this
  rw [if_pos hk] at this
  simp only [Bool.and_eq_true, decide_eq_true_eq] at this
  exact this.2
theorem fixN1_kind (f n : Nat) (y : Nd) : (fixN1 f n y).kind ≠ 1 := by
  unfold fixN1
  split
  · simp
  · assumption
theorem fixN1_var {f n : Nat} {y : Nd} (h : y.kind = 1) : fixN1 f n y = ⟨0, ⟨#[]⟩, (n : Int), []⟩ := if_pos h
theorem fixN1_not {f n : Nat} {y : Nd} (h : y.kind ≠ 1) : fixN1 f n y = ⟨y.kind, y.name, y.num, y.args.map (fun a => (f : Int) + a)⟩ := if_neg h
theorem fixN1_len {p : Gf} (hp : Good p) {y : Int} (hy : isN p y) (f n : Nat) : (fixN1 f n (p.nd y)).args.length = (p.nd y).args.length := by
  by_cases h : (p.nd y).kind = 1
  · rw [fixN1_var h, good_varA hp hy h]; rfl
  · rw [fixN1_not h]; simp
theorem bothN_rightI (p t : Gf) {y : Int} (hy : isN t y) : ndN (bothN p t) (p.nodes.length + y.toNat) = fixN1 p.nodes.length y.toNat (t.nd y) := by
  have h0 := hy.1
  have h1 := hy.2
  rw [bothN_right p t (show y.toNat < t.nodes.length by omega), show ((y.toNat : Nat) : Int) = y by omega]
theorem bothN_leftI (p t : Gf) {x : Int} (hx : isN p x) : ndN (bothN p t) x.toNat = p.nd x := by
  have h0 := hx.1
  have h1 := hx.2
  rw [bothN_left p t (show x.toNat < p.nodes.length by omega), show ((x.toNat : Nat) : Int) = x by omega]
theorem argN_rightI {p t : Gf} (ht : Good t) {y : Int} (hy : isN t y) {k : Nat} (hk : k < (t.nd y).args.length) : argN (bothN p t) (p.nodes.length + y.toNat) k = p.nodes.length + (t.arg y k).toNat := by
  have hkd : (t.nd y).kind ≠ 1 := fun h => by rw [good_varA ht hy h] at hk; omega
  have ha := (arg_isN ht hy hk).1
  unfold argN
  rw [bothN_rightI p t hy, fixN1_not hkd]
  have : (List.map (fun a => (p.nodes.length : Int) + a) (t.nd y).args).getD k 0 = (p.nodes.length : Int) + t.arg y k := by
    unfold Gf.arg
    simp [List.getD, List.getElem?_eq_getElem hk]
  show ((List.map (fun a => (p.nodes.length : Int) + a) (t.nd y).args).getD k 0).toNat = _
  rw [this]
  omega
theorem argN_leftI {p t : Gf} {x : Int} (hx : isN p x) (k : Nat) : argN (bothN p t) x.toNat k = (p.arg x k).toNat := by
  unfold argN
  rw [bothN_leftI p t hx]
  rfl
theorem bothN_good {p t : Gf} (hp : Good p) (ht : Good t) : GoodA (bothN p t) := by
  have hsp : ∀ x, x < (bothN p t).length → (∃ y : Int, isN p y ∧ x = y.toNat) ∨ ∃ y : Int, isN t y ∧ x = p.nodes.length + y.toNat := fun x hx => by
    rw [bothN_len] at hx
    by_cases h : x < p.nodes.length
    · exact Or.inl ⟨(x : Int), ⟨by omega, by omega⟩, by omega⟩
    · exact Or.inr ⟨((x - p.nodes.length : Nat) : Int), ⟨by omega, by omega⟩, by omega⟩
  have hout : ∀ x, ¬ x < (bothN p t).length → ndN (bothN p t) x = nd0 := fun x hx => by
    unfold ndN
    rw [List.getD, List.getElem?_eq_none (by omega)]
    rfl
  refine ⟨fun x hx k hk => ?_, fun x hk => ?_, fun x => ?_⟩
  · rw [bothN_len]
    rcases hsp x hx with ⟨y, hy, rfl⟩ | ⟨y, hy, rfl⟩
    · rw [argN_leftI hy, bothN_leftI p t hy]
      rw [bothN_leftI p t hy] at hk
      have ha := arg_isN hp hy hk
      have h0 := ha.1
      have h1 := ha.2
      exact ⟨h0, by omega⟩
    · rw [bothN_rightI p t hy, fixN1_len ht hy] at hk
      rw [argN_rightI ht hy hk]
      have ha := arg_isN ht hy hk
      have h0 := ha.1
      have h1 := ha.2
      refine ⟨?_, by omega⟩
      have hkd : (t.nd y).kind ≠ 1 := fun h => by rw [good_varA ht hy h] at hk; omega
      rw [bothN_rightI p t hy, fixN1_not hkd]
      have : (List.map (fun a => (p.nodes.length : Int) + a) (t.nd y).args).getD k 0 = (p.nodes.length : Int) + t.arg y k := by
        unfold Gf.arg
        simp [List.getD, List.getElem?_eq_getElem hk]
      show 0 ≤ (List.map (fun a => (p.nodes.length : Int) + a) (t.nd y).args).getD k 0
      rw [this]
      omega
  · by_cases hx : x < (bothN p t).length
    · rcases hsp x hx with ⟨y, hy, rfl⟩ | ⟨y, hy, rfl⟩
      · rw [bothN_leftI p t hy] at hk ⊢
        exact List.eq_nil_of_length_eq_zero (good_varA hp hy hk)
      · rw [bothN_rightI p t hy] at hk
        exact absurd hk (fixN1_kind _ _ _)
    · rw [hout x hx]
  · by_cases hx : x < (bothN p t).length
    · rcases hsp x hx with ⟨y, hy, rfl⟩ | ⟨y, hy, rfl⟩
      · rw [bothN_leftI p t hy]
        exact (good_args (good_ndI hp hy)).2
      · rw [bothN_rightI p t hy, fixN1_len ht hy]
        exact (good_args (good_ndI ht hy)).2
    · rw [hout x hx]; exact Nat.zero_le _
theorem rtP_mem {p t : Gf} {q : Nat × Nat} : q ∈ rtP p t ↔ ∃ i, i < p.roots.length ∧ q = ((p.roots.getD i 0).toNat, p.nodes.length + (t.roots.getD i 0).toNat) := by
  unfold rtP
  rw [List.mem_map]
  constructor
  · rintro ⟨i, hi, rfl⟩
    exact ⟨i, List.mem_range.1 hi, rfl⟩
  · rintro ⟨i, hi, rfl⟩
    exact ⟨i, List.mem_range.2 hi, rfl⟩
/-- A unifier tells what stands for what. -/
theorem cg_ins {p t : Gf} (hp : Good p) (ht : Good t) (hl : p.roots.length = t.roots.length) {R : Nat → Nat → Prop} (hR : Cg (bothN p t) R) (hr : ∀ q ∈ rtP p t, R q.1 q.2) : Ins p t (fun x y => isN p x ∧ isN t y ∧ R x.toNat (p.nodes.length + y.toNat)) := by
  have hlt : ∀ {x : Int}, isN p x → x.toNat < (bothN p t).length := fun {x} hx => by
    have h0 := hx.1
    have h1 := hx.2
    rw [bothN_len]; omega
  have hrt : ∀ {y : Int}, isN t y → p.nodes.length + y.toNat < (bothN p t).length := fun {y} hy => by
    have h0 := hy.1
    have h1 := hy.2
    rw [bothN_len]; omega
  have hlab : ∀ x y, isN p x → isN t y → R x.toNat (p.nodes.length + y.toNat) → (p.nd x).kind ≠ 1 → (t.nd y).kind ≠ 1 ∧ labS (p.nd x) (t.nd y) ∧ ∀ k, k < (p.nd x).args.length → R (argN (bothN p t) x.toNat k) (argN (bothN p t) (p.nodes.length + y.toNat) k) := fun x y hx hy h hk => by
    obtain ⟨h1, h2⟩ := hR.lab _ _ (hlt hx) (hrt hy) h (by rw [bothN_leftI p t hx]; exact hk) (by rw [bothN_rightI p t hy]; exact fixN1_kind _ _ _)
    rw [bothN_leftI p t hx] at h1 h2
    rw [bothN_rightI p t hy] at h1
    have hty : (t.nd y).kind ≠ 1 := fun e => by
      rw [fixN1_var e] at h1
      exact good_kind0 hp hx h1.1
    rw [fixN1_not hty] at h1
    exact ⟨hty, ⟨h1.1, h1.2.1, h1.2.2.1, by have := h1.2.2.2; simpa using this⟩, h2⟩
  refine ⟨fun x y h => ⟨h.1, h.2.1⟩, fun x y ⟨hx, hy, h⟩ hk => ?_, fun x y ⟨hx, hy, h⟩ hk k hkk => ?_, fun x y y' ⟨hx, hy, h⟩ ⟨_, hy', h'⟩ hk => ?_, hl, fun i hi => ⟨hp.root _ (getD_mem hi), ht.root _ (getD_mem (by rw [← hl]; exact hi)), hr _ (rtP_mem.2 ⟨i, hi, rfl⟩)⟩⟩
  · exact (hlab x y hx hy h hk).2.1
  · obtain ⟨_, hls, ha⟩ := hlab x y hx hy h hk
    have hkt : k < (t.nd y).args.length := by rw [← hls.2.2.2]; exact hkk
    have := ha k hkk
    rw [argN_leftI hx, argN_rightI ht hy hkt] at this
    exact ⟨arg_isN hp hx hkk, arg_isN ht hy hkt, this⟩
  · refine ⟨fun u v => isN t u ∧ isN t v ∧ R (p.nodes.length + u.toNat) (p.nodes.length + v.toNat), fun u v ⟨hu, hv, huv⟩ => ?_, hy, hy', hR.trans _ _ _ (hR.symm _ _ h) h'⟩
    obtain ⟨h1, h2⟩ := hR.lab _ _ (hrt hu) (hrt hv) huv (by rw [bothN_rightI p t hu]; exact fixN1_kind _ _ _) (by rw [bothN_rightI p t hv]; exact fixN1_kind _ _ _)
    rw [bothN_rightI p t hu] at h1 h2
    rw [bothN_rightI p t hv] at h1
    rw [fixN1_len ht hu] at h2
    have hu0 := hu.1
    have hv0 := hv.1
    by_cases eu : (t.nd u).kind = 1
    · by_cases ev : (t.nd v).kind = 1
      · rw [fixN1_var eu, fixN1_var ev] at h1
        have e : u = v := by have := h1.2.2.1; simp at this; omega
        subst e
        exact ⟨hu, hu, labE_refl t u, fun k hk => by rw [good_varA ht hu eu] at hk; omega⟩
      · rw [fixN1_var eu, fixN1_not ev] at h1
        exact absurd h1.1.symm (good_kind0 ht hv)
    · by_cases ev : (t.nd v).kind = 1
      · rw [fixN1_not eu, fixN1_var ev] at h1
        exact absurd h1.1 (good_kind0 ht hu)
      · rw [fixN1_not eu, fixN1_not ev] at h1
        have hlen : (t.nd u).args.length = (t.nd v).args.length := by have := h1.2.2.2; simpa using this
        refine ⟨hu, hv, ⟨h1.1, h1.2.1, h1.2.2.1, hlen, fun e => absurd e eu⟩, fun k hk => ?_⟩
        have := h2 k hk
        rw [argN_rightI ht hu hk, argN_rightI ht hv (by rw [← hlen]; exact hk)] at this
        exact ⟨arg_isN ht hu hk, arg_isN ht hv (by rw [← hlen]; exact hk), this⟩
/-- Which node of t a node of both means. -/
def Mn (p t : Gf) (S : Int → Int → Prop) (u : Nat) (y : Int) : Prop := (∃ x, isN p x ∧ u = x.toNat ∧ S x y) ∨ (isN t y ∧ u = p.nodes.length + y.toNat)
def InR (p t : Gf) (S : Int → Int → Prop) (u v : Nat) : Prop := u = v ∨ ∃ y y', Mn p t S u y ∧ Mn p t S v y' ∧ Al t y y'
theorem mn_al {p t : Gf} (hp : Good p) (ht : Good t) {S : Int → Int → Prop} (h : Ins p t S) {u : Nat} {y y' : Int} (h1 : Mn p t S u y) (h2 : Mn p t S u y') : Al t y y' := by
  rcases h1 with ⟨x, hx, e, hs⟩ | ⟨hy, e⟩ <;> rcases h2 with ⟨x', hx', e', hs'⟩ | ⟨hy', e'⟩
  · have a0 := hx.1
    have a1 := hx'.1
    have : x = x' := by omega
    subst this
    exact h.al (al_refl hp hx) hs hs'
  · have a0 := hx.1
    have a1 := hx.2
    omega
  · have a0 := hx'.1
    have a1 := hx'.2
    omega
  · have a0 := hy.1
    have a1 := hy'.1
    have : y = y' := by omega
    subst this
    exact al_refl ht hy
theorem mn_lab {p t : Gf} (hp : Good p) (ht : Good t) {S : Int → Int → Prop} (h : Ins p t S) {u : Nat} {y : Int} (h1 : Mn p t S u y) (hk : (ndN (bothN p t) u).kind ≠ 1) : isN t y ∧ labS (ndN (bothN p t) u) (fixN1 p.nodes.length y.toNat (t.nd y)) ∧ ∀ k, k < (ndN (bothN p t) u).args.length → Mn p t S (argN (bothN p t) u k) (t.arg y k) := by
  rcases h1 with ⟨x, hx, rfl, hs⟩ | ⟨hy, rfl⟩
  · rw [bothN_leftI p t hx] at hk ⊢
    obtain ⟨l1, l2, l3, l4⟩ := h.lab x y hs hk
    refine ⟨(h.rng x y hs).2, ?_, fun k hkk => Or.inl ⟨_, arg_isN hp hx hkk, argN_leftI hx k, h.arg x y hs hk k hkk⟩⟩
    rw [fixN1_not (by rw [← l1]; exact hk)]
    exact ⟨l1, l2, l3, by simpa using l4⟩
  · rw [bothN_rightI p t hy]
    refine ⟨hy, labS.refl _, fun k hkk => ?_⟩
    rw [fixN1_len ht hy] at hkk
    exact Or.inr ⟨arg_isN ht hy hkk, argN_rightI ht hy hkk⟩
theorem ins_cg {p t : Gf} (hp : Good p) (ht : Good t) {S : Int → Int → Prop} (h : Ins p t S) : Cg (bothN p t) (InR p t S) ∧ ∀ q ∈ rtP p t, InR p t S q.1 q.2 := by
  refine ⟨⟨⟨fun x => Or.inl rfl, fun x y hxy => ?_, fun x y z hxy hyz => ?_⟩, fun u v _ _ huv hku hkv => ?_⟩, fun q hq => ?_⟩
  · rcases hxy with rfl | ⟨y, y', h1, h2, ha⟩
    · exact Or.inl rfl
    · exact Or.inr ⟨y', y, h2, h1, al_symm ha⟩
  · rcases hxy with rfl | ⟨y1, y2, h1, h2, ha⟩
    · exact hyz
    · rcases hyz with rfl | ⟨y3, y4, h3, h4, hb⟩
      · exact Or.inr ⟨y1, y2, h1, h2, ha⟩
      · exact Or.inr ⟨y1, y4, h1, h4, al_trans ha (al_trans (mn_al hp ht h h2 h3) hb)⟩
  · rcases huv with rfl | ⟨y, y', h1, h2, ha⟩
    · exact ⟨labS.refl _, fun k _ => Or.inl rfl⟩
    · obtain ⟨hy, lu, au⟩ := mn_lab hp ht h h1 hku
      obtain ⟨hy', lv, av⟩ := mn_lab hp ht h h2 hkv
      obtain ⟨_, _, hl, hargs⟩ := al_sim t y y' ha
      have hm : labS (fixN1 p.nodes.length y.toNat (t.nd y)) (fixN1 p.nodes.length y'.toNat (t.nd y')) := by
        by_cases hk : (t.nd y).kind = 1
        · have e := hl.2.2.2.2 hk
          subst e
          exact labS.refl _
        · rw [fixN1_not hk, fixN1_not (by rw [← hl.1]; exact hk)]
          exact ⟨hl.1, hl.2.1, hl.2.2.1, by simpa using hl.2.2.2.1⟩
      have hlab := lu.trans (hm.trans lv.symm)
      refine ⟨hlab, fun k hk => Or.inr ⟨_, _, au k hk, av k (by rw [← hlab.2.2.2]; exact hk), hargs k ?_⟩⟩
      rw [← fixN1_len ht hy p.nodes.length y.toNat, ← lu.2.2.2]
      exact hk
  · obtain ⟨i, hi, rfl⟩ := rtP_mem.1 hq
    have hs := h.root i hi
    obtain ⟨r1, r2⟩ := h.rng _ _ hs
    exact Or.inr ⟨_, _, Or.inl ⟨_, r1, rfl, hs⟩, Or.inr ⟨r2, rfl⟩, al_refl ht r2⟩
/-- The second is an instance of the first just if the roots can be made one. -/
theorem ins_iff {p t : Gf} (hp : Good p) (ht : Good t) (hl : p.roots.length = t.roots.length) : ¬ NoSol (bothN p t) (rtP p t) ↔ ∃ S, Ins p t S := by
  constructor
  · intro h
    apply Classical.byContradiction
    intro hn
    exact h (fun R hR hr => hn ⟨_, cg_ins hp ht hl hR hr⟩)
  · rintro ⟨S, h⟩ hn
    exact hn _ (ins_cg hp ht h).1 (ins_cg hp ht h).2
end Go.Proofs.Ytjenkpgoggmboaa

/- fixed of package solve. -/
namespace Go.Proofs.Ytjenkpgoggmboaa
open Go.RowKit

theorem fixedF_snoc (f : Nat) : ∀ (n : Nat) (l : List Nd) (y : Nd), fixedF f n (l ++ [y]) = fixedF f n l ++ [fixN1 f (n + l.length) y]
  | n, [], y => by simp [fixedF]
  | n, z :: r, y => by
    rw [List.cons_append, fixedF, fixedF, fixedF_snoc f (n + 1) r y, List.cons_append, List.length_cons, show n + 1 + r.length = n + (r.length + 1) by omega]
theorem ftake_snoc {l : List Nd} {k : Nat} (h : k < l.length) : l.take (k + 1) = l.take k ++ [l.getD k nd0] := by
  rw [List.take_add_one]
  simp [List.getD, h]
/-- A node's box and its new arguments, while they are made. -/
structure Fa (wr wy : World) (bx : Array Value) (v : Value) (k : Nat) (xs : List Value) : Prop where
  bel : Below wr.heap.size wr wy
  box : wy.heap[wr.heap.size]? = some (.cells bx 65)
  row : wy.ownsRow wr.heap.size 3 1 v k xs
theorem Fa.start (wr : World) (bx : Array Value) : Fa wr (wr.alloc (.cells bx 65)) bx (.slice none 0 0) 0 [] := ⟨below_alloc wr _, heap_alloc_new wr _, World.ownsRow_nil _ _ _ _⟩
theorem Fa.ne {wr wy : World} {bx : Array Value} {v : Value} {k : Nat} {xs : List Value} (h : Fa wr wy bx v k xs) {q : Nat} (hq : v.ownBlock = some q) : q ≠ wr.heap.size := by
  obtain ⟨cur, hc⟩ := row_obj h.row hq
  exact obj_ne hc h.box (by decide)
theorem Fa.push {wr wy w2 : World} {bx : Array Value} {v v2 : Value} {k k2 : Nat} {xs xs2 : List Value} {o : Obj} (h : Fa wr wy bx v k xs) (hg : (wy.alloc o).grownBy w2 v.ownBlock) (hown : w2.ownsRow wr.heap.size 3 1 v2 k2 xs2) : Fa wr w2 bx v2 k2 xs2 := by
  have hz := lt_of_block h.box
  refine ⟨(h.bel.alloc (Nat.le_of_lt hz) o).grown hg (by simp; omega) (fun q hq => (h.row.lt q hq).1), ?_, hown⟩
  rw [hg.block wr.heap.size (by simp; omega) (fun e => h.ne e.symm rfl), Below.heap_alloc _ _ _ hz]
  exact h.box
/-- The nodes so far, and one more. -/
theorem Fa.done {W wr wy w2 : World} {k0 s0 n0 a0 : Value} {ao : Option Addr} {c j g cap : Nat} {nv : Value} {avs : List Value} {nds : List Nd} {nd : Nd} {o : Obj} (h : Fa wr wy #[k0, s0, n0, a0] (.slice ao nd.args.length c) nd.args.length (nd.args.map (Value.int .i64))) (hO : On wr W.heap.size nv avs nds) (hW : Below W.heap.size W wr) (hj : nds.length = j)
    (hg : ((wy.setCell ⟨wr.heap.size, 3, none⟩ (.slice ao nd.args.length c)).alloc o).grownBy w2 nv.ownBlock) (hown : w2.ownsRow W.heap.size 65 4 (.slice (some ⟨g, 0, none⟩) (j + 1) cap) (j + 1) (ncells nds avs ++ [.int .i64 nd.kind, .string nd.name, .int .i64 nd.num, .slice ao nd.args.length c])) (hat : nv.ownBlock = some g ∨ ((wy.setCell ⟨wr.heap.size, 3, none⟩ (.slice ao nd.args.length c)).alloc o).heap.size ≤ g) :
    (∃ avs', On w2 W.heap.size (.slice (some ⟨g, 0, none⟩) (j + 1) cap) avs' (nds ++ [nd])) ∧ Below W.heap.size W w2 := by
  subst hj
  have hz := lt_of_block h.box
  have hb1 : Below wr.heap.size wr ((wy.setCell ⟨wr.heap.size, 3, none⟩ (.slice ao nd.args.length c)).alloc o) := (h.bel.setCell (p := ⟨wr.heap.size, 3, none⟩) (Nat.le_refl _) _).alloc (by simp; omega) o
  have hr1 : ((wy.setCell ⟨wr.heap.size, 3, none⟩ (.slice ao nd.args.length c)).alloc o).ownsRow wr.heap.size 3 1 (.slice ao nd.args.length c) nd.args.length (nd.args.map (Value.int .i64)) := by
    refine World.ownsRow.alloc ?_ o
    exact row_keep h.row (fun k hk => Below.heap_setCell _ _ _ _ (h.ne hk))
  refine ⟨⟨_, hO.push hb1 hr1 hW.size hg hown hat⟩, ?_⟩
  refine (hW.trans (hb1.mono hW.size)).grown hg (by have := hW.size; simp; omega) (fun q hq => (hO.n.lt q hq).1)
set_option maxRecDepth 100000 in
set_option maxHeartbeats 8000000 in
theorem fixed_any {W : World} {nv : Value} {ns : List Nd} (hn : Rn W nv ns) (hN : ns.length ≤ 5000) {f : Nat} (hf : f ≤ 5000) (hav : ∀ j, j < ns.length → ∀ x ∈ (ns.getD j nd0).args, 0 ≤ x ∧ x ≤ 5000) (h8 : ∀ j, j < ns.length → (ns.getD j nd0).args.length ≤ 8) :
    Calls Try.prog 46 #[nv, .int .i64 (f : Int)] W fun e w' => ∃ ao c avs, e = .returned (.slice ao ns.length c) ∧ On w' W.heap.size (.slice ao ns.length c) avs (fixedF f 0 ns) ∧ Below W.heap.size W w' := by
  obtain ⟨i0, hi, hz0, hz1, hz2⟩ := info_parts infoI
  obtain ⟨i1, hi1, hy0, hy1, hy2⟩ := info_parts infoN
  have HAV := hid hav
  have H8 := hid h8
  obtain ⟨na, nc, rfl, hn0⟩ := hn
  have HN := hid hn0
  clear hav h8 hn0
  go_enter Try.func46, Try.ntmps46
  go_wp2
  have hO0 : Hid (On W W.heap.size (.slice none 0 0) [] (fixedF f 0 (ns.take 0))) := On.nil W _
  have hB0 := hid (Below.refl W.heap.size W)
  go_loopw [5, 13] (fun x i wr => ∃ (j : Nat) (ao : Option Addr) (c : Nat) (avs : List Value), j ≤ ns.length ∧ i = .int .i64 (j : Int) ∧ x = .slice ao j c ∧ Hid (On wr W.heap.size (.slice ao j c) avs (fixedF f 0 (ns.take j))) ∧ Hid (Below W.heap.size W wr)) (fun _ i _ => ns.length - (intOf i).toNat)
  case atStart => exact ⟨0, none, 0, [], by omega, rfl, rfl, hO0, hB0⟩
  case round =>
    clear hO0 hB0
    obtain ⟨j, ao, c, avs, hj, rfl, rfl, hO, hB⟩ := hrel
    obtain ⟨wo, hwo⟩ : ∃ wo, wo = wr := ⟨_, rfl⟩
    subst hwo
    have hjl : Hid ((fixedF f 0 (ns.take j)).length = j) := show _ = _ by rw [fixedF_len, List.length_take]; omega
    by_cases hlt : j < ns.length
    · obtain ⟨nb, no, av, rfl, hNd⟩ := HN.out j hlt
      obtain ⟨aa, ac, rfl, _⟩ := hNd.2.2.2.2
      obtain ⟨d0, d1, d2, d3, d4⟩ := hNd.below hB.out
      have hzn := lt_of_cell d0
      have hRA : Hid (∀ w', Below wo.heap.size wo w' → Ri w' (.slice aa (ns.getD j nd0).args.length ac) (ns.getD j nd0).args) := fun w' hb => d4.below hb
      have hav := hid (HAV.out j hlt)
      have ha8 := H8.out j hlt
      have htk : Hid (fixedF f 0 (ns.take (j + 1)) = fixedF f 0 (ns.take j) ++ [fixN1 f j (ns.getD j nd0)]) := show _ = _ by
        rw [ftake_snoc hlt, fixedF_snoc, Nat.zero_add, List.length_take, Nat.min_eq_left (by omega)]
      have hjj : (j : Int) < (ns.length : Int) := by omega
      have hon : Hid (wo.ownsRow W.heap.size 65 4 (.slice ao j c) j (ncells (fixedF f 0 (ns.take j)) avs)) := by
        have := hO.out.n
        rw [hjl.out] at this
        exact this
      clear hNd d4
      generalize ns.getD j nd0 = nd at *
      obtain ⟨kd, nm, nu, args⟩ := nd
      dsimp only at d0 d1 d2 d3 hav ha8 hRA
      have hszr := hB.out.size
      by_cases hkd : kd = 1
      · subst hkd
        have hfn : Hid (fixN1 f j ⟨1, nm, nu, args⟩ = ⟨0, ⟨#[]⟩, (j : Int), []⟩) := fixN1_var rfl
        have hFa0 := hid (Fa.start wo #[.int .i64 0, .string ⟨#[]⟩, .int .i64 (j : Int), .slice none 0 0])
        go_wp2
        go_loopw [8, 26] (fun x i wy => ∃ (k : Nat) (bo : Option Addr) (bc : Nat), k ≤ ([] : List Int).length ∧ i = .int .i64 (k : Int) ∧ x = .slice bo k bc ∧ Hid (Fa wo wy #[.int .i64 0, .string ⟨#[]⟩, .int .i64 (j : Int), .slice none 0 0] (.slice bo k bc) k (((([] : List Int).take k).map (fun a => (f : Int) + a)).map (Value.int .i64)))) (fun _ i _ => ([] : List Int).length - (intOf i).toNat)
        case atStart => exact ⟨0, none, 0, Nat.zero_le _, rfl, rfl, hFa0⟩
        case round =>
          clear hFa0
          obtain ⟨k, bo, bc, hk, rfl, rfl, hFa⟩ := hrel
          by_cases hlk : k < ([] : List Int).length
          · exact absurd hlk (Nat.not_lt_zero _)
          · obtain rfl : k = ([] : List Int).length := by omega
            have hF9 := hid hFa.out
            rw [List.take_length] at hF9
            have hF9' : Hid (Fa wo wr #[.int .i64 0, .string ⟨#[]⟩, .int .i64 (j : Int), .slice none 0 0] (.slice bo (([] : List Int).map (fun a => (f : Int) + a)).length bc) (([] : List Int).map (fun a => (f : Int) + a)).length ((([] : List Int).map (fun a => (f : Int) + a)).map (Value.int .i64))) := by
              have := hF9.out
              rw [List.length_map]
              exact this
            obtain ⟨⟨x0, x1, x2, x3⟩, f0, f3⟩ := nblk hF9.out.box
            have hzz := lt_of_block hF9.out.box
            have hon2 : Hid (((wr.setCell ⟨wo.heap.size, 3, none⟩ (.slice bo ([] : List Int).length bc)).alloc (.cells #[.int .i64 0, .string ⟨#[]⟩, .int .i64 (j : Int), .slice bo ([] : List Int).length bc] 65)).ownsRow W.heap.size 65 4 (.slice ao j c) j (ncells (fixedF f 0 (ns.take j)) avs)) := by
              refine World.ownsRow.alloc ?_ _
              refine row_keep hon.out (fun q hq => ?_)
              have hq2 := (hon.out.lt q hq).2
              rw [Below.heap_setCell _ _ _ _ (by show q ≠ wo.heap.size; omega)]
              exact hF9.out.bel.block q hq2
            have hdone := hid (fun (w2 : World) (o : Obj) (g cap : Nat) h1 h2 h3 => Fa.done (w2 := w2) (o := o) (g := g) (cap := cap) (nd := ⟨0, ⟨#[]⟩, (j : Int), ([] : List Int).map (fun a => (f : Int) + a)⟩) hF9'.out hO.out hB.out hjl.out h1 h2 h3)
            rw [List.length_map] at hdone
            clear hFa hF9 hF9'
            go_wp2_with (at_builtin; go_must (refine wpList_append_lies _ rfl _ _ 22 rfl W.heap.size 65 i1 (.agg #[.int .i64 0, .string ⟨#[]⟩, .int .i64 0, .slice none 0 0]) 4 56 Try.underlying22 hi1 hy0 hy1 hy2 rfl (by decide) _ j _ rfl hon2.out ⟨wr.heap.size, 0, none⟩ 1 1 [.int .i64 0, .string ⟨#[]⟩, .int .i64 (j : Int), .slice bo ([] : List Int).length bc] rfl rfl (World.news_of_block (cs := #[.int .i64 0, .string ⟨#[]⟩, .int .i64 (j : Int), .slice bo ([] : List Int).length bc]) (t := 65) (fr := (0, 0)) (by have h9 := heap_alloc_new (wr.setCell ⟨wo.heap.size, 3, none⟩ (.slice bo ([] : List Int).length bc)) (.cells #[.int .i64 0, .string ⟨#[]⟩, .int .i64 (j : Int), .slice bo ([] : List Int).length bc] 65); simpa using h9)) (by simp [Value.oneCell']) (by decide) (by unfold maxLen; omega) (by omega) (by simp; omega) _ rfl ?_; intro g cap w6 hown6 hg6 hat6 hlt6; obtain ⟨⟨avs3, hO6⟩, hB6⟩ := hdone.out w6 _ g cap hg6 hown6 (hat6.imp id (fun e => Nat.le_of_eq e.symm))))
            go_roundw
            case rel => exact ⟨j + 1, some ⟨g, 0, none⟩, cap, avs3, by omega, by go_num, rfl, (show On _ _ _ _ _ by rw [htk.out, hfn.out]; exact hO6), hB6⟩
            case measure => simp [intOf]; omega
      · have hfn : Hid (fixN1 f j ⟨kd, nm, nu, args⟩ = ⟨kd, nm, nu, args.map (fun a => (f : Int) + a)⟩) := fixN1_not hkd
        have hFa0 := hid (Fa.start wo #[.int .i64 kd, .string nm, .int .i64 nu, .slice aa args.length ac])
        go_wp2
        go_loopw [8, 26] (fun x i wy => ∃ (k : Nat) (bo : Option Addr) (bc : Nat), k ≤ args.length ∧ i = .int .i64 (k : Int) ∧ x = .slice bo k bc ∧ Hid (Fa wo wy #[.int .i64 kd, .string nm, .int .i64 nu, .slice aa args.length ac] (.slice bo k bc) k (((args.take k).map (fun a => (f : Int) + a)).map (Value.int .i64)))) (fun _ i _ => args.length - (intOf i).toNat)
        case atStart => exact ⟨0, none, 0, Nat.zero_le _, rfl, rfl, hFa0⟩
        case round =>
          clear hFa0
          obtain ⟨k, bo, bc, hk, rfl, rfl, hFa⟩ := hrel
          by_cases hlk : k < args.length
          · obtain ⟨_, _, hve, hvc⟩ := hRA.out wr hFa.out.bel
            injection hve with u1 _ u3
            subst u1 u3
            obtain ⟨b, o, rfl, hu⟩ := hvc k hlk
            have hx := hav.out _ (getD_mem hlk)
            have hst : Hid (((args.take (k + 1)).map (fun a => (f : Int) + a)).map (Value.int .i64) = ((args.take k).map (fun a => (f : Int) + a)).map (Value.int .i64) ++ [.int .i64 ((f : Int) + args.getD k 0)]) := show _ = _ by
              rw [List.take_add_one, List.map_append, List.map_append]
              simp [List.getD, hlk]
            have hzb := lt_of_cell hu
            clear hvc hRA
            generalize args.getD k 0 = x at *
            obtain ⟨xn, rfl⟩ : ∃ xn : Nat, x = (xn : Int) := ⟨x.toNat, by omega⟩
            have ho2 := hid (World.ownsRow.alloc hFa.out.row (.cells #[.int .i64 ((f : Int) + (xn : Int))] 3))
            have hsz2 := lt_of_block hFa.out.box
            have hnx := hid (fun (w2 : World) (o : Obj) (v2 : Value) (k2 : Nat) (xs2 : List Value) h1 h2 => Fa.push (w2 := w2) (o := o) (v2 := v2) (k2 := k2) (xs2 := xs2) hFa.out h1 h2)
            clear hFa
            go_wp2_with (at_builtin; go_must (refine wpList_append_lies _ rfl _ _ 23 rfl wo.heap.size 3 i0 (.int .i64 0) 1 8 Try.underlying23 hi hz0 hz1 hz2 rfl (by decide) _ k _ rfl ho2.out ⟨wr.heap.size, 0, none⟩ 1 1 [.int .i64 ((f : Int) + (xn : Int))] rfl rfl (cell_one_new wr _ _) (by simp [Value.oneCell']) (by decide) (by unfold maxLen; omega) (by omega) (by simp; omega) _ rfl ?_; intro g cap w2 hown2 hg2 hat2 hlt2))
            go_roundw
            case rel => exact ⟨k + 1, _, cap, by omega, by go_num, rfl, hnx.out w2 _ _ _ _ hg2 (by rw [hst.out]; exact hown2)⟩
            case measure => simp [intOf]; omega
          · obtain rfl : k = args.length := by omega
            have hF9 := hid hFa.out
            rw [List.take_length] at hF9
            have hF9' : Hid (Fa wo wr #[.int .i64 kd, .string nm, .int .i64 nu, .slice aa args.length ac] (.slice bo (args.map (fun a => (f : Int) + a)).length bc) (args.map (fun a => (f : Int) + a)).length ((args.map (fun a => (f : Int) + a)).map (Value.int .i64))) := by
              have := hF9.out
              rw [List.length_map]
              exact this
            obtain ⟨⟨x0, x1, x2, x3⟩, f0, f3⟩ := nblk hF9.out.box
            have hzz := lt_of_block hF9.out.box
            have hon2 : Hid (((wr.setCell ⟨wo.heap.size, 3, none⟩ (.slice bo args.length bc)).alloc (.cells #[.int .i64 kd, .string nm, .int .i64 nu, .slice bo args.length bc] 65)).ownsRow W.heap.size 65 4 (.slice ao j c) j (ncells (fixedF f 0 (ns.take j)) avs)) := by
              refine World.ownsRow.alloc ?_ _
              refine row_keep hon.out (fun q hq => ?_)
              have hq2 := (hon.out.lt q hq).2
              rw [Below.heap_setCell _ _ _ _ (by show q ≠ wo.heap.size; omega)]
              exact hF9.out.bel.block q hq2
            have hdone := hid (fun (w2 : World) (o : Obj) (g cap : Nat) h1 h2 h3 => Fa.done (w2 := w2) (o := o) (g := g) (cap := cap) (nd := ⟨kd, nm, nu, args.map (fun a => (f : Int) + a)⟩) hF9'.out hO.out hB.out hjl.out h1 h2 h3)
            rw [List.length_map] at hdone
            clear hFa hF9 hF9'
            go_wp2_with (at_builtin; go_must (refine wpList_append_lies _ rfl _ _ 22 rfl W.heap.size 65 i1 (.agg #[.int .i64 0, .string ⟨#[]⟩, .int .i64 0, .slice none 0 0]) 4 56 Try.underlying22 hi1 hy0 hy1 hy2 rfl (by decide) _ j _ rfl hon2.out ⟨wr.heap.size, 0, none⟩ 1 1 [.int .i64 kd, .string nm, .int .i64 nu, .slice bo args.length bc] rfl rfl (World.news_of_block (cs := #[.int .i64 kd, .string nm, .int .i64 nu, .slice bo args.length bc]) (t := 65) (fr := (0, 0)) (by have h9 := heap_alloc_new (wr.setCell ⟨wo.heap.size, 3, none⟩ (.slice bo args.length bc)) (.cells #[.int .i64 kd, .string nm, .int .i64 nu, .slice bo args.length bc] 65); simpa using h9)) (by simp [Value.oneCell']) (by decide) (by unfold maxLen; omega) (by omega) (by simp; omega) _ rfl ?_; intro g cap w6 hown6 hg6 hat6 hlt6; obtain ⟨⟨avs3, hO6⟩, hB6⟩ := hdone.out w6 _ g cap hg6 hown6 (hat6.imp id (fun e => Nat.le_of_eq e.symm))))
            go_roundw
            case rel => exact ⟨j + 1, some ⟨g, 0, none⟩, cap, avs3, by omega, by go_num, rfl, (show On _ _ _ _ _ by rw [htk.out, hfn.out]; exact hO6), hB6⟩
            case measure => simp [intOf]; omega
    · obtain rfl : j = ns.length := by omega
      have hO9 := hid hO.out
      rw [List.take_length] at hO9
      have hB9 := hid hB.out
      clear hO hB
      go_wp2
      go_ret
      exact ⟨_, _, _, rfl, hO9.out, hB9.out⟩
end Go.Proofs.Ytjenkpgoggmboaa

/- slices.Grow and slices.Concat over nodes. -/
namespace Go.Proofs.Ytjenkpgoggmboaa
open Go.RowKit

/-- A slice of nothing is appended: nothing changes. -/
theorem run_app_empty {P : Program} {w : World} (base : Nat) (t ty e : TypeId) (i : TypeInfo) (size : Nat) (ht : P.underlying t = some (.slice e)) (hi : P.info? e = some i)
    (v : Value) (n : Nat) (xs : List Value) (hown : w.ownsRow base e size v n xs) (ao : Option Addr) (c : Nat) :
    (Builtin.append_ #[t, t] ty #[v, .slice ao 0 c]).run P w = .ok v w := by
  cases ao with
  | none =>
    rcases hown.2 with ⟨rfl, rfl⟩ | ⟨g, cap, cur, rfl, _, _, hnc, _⟩
    · simp [Builtin.append_, run_underlying ht, sizeOf, typeInfo, hi, Builtin.lenOf, Builtin.firstCells]
    · simp [Builtin.append_, run_underlying ht, sizeOf, typeInfo, hi, Builtin.lenOf, Builtin.firstCells, hnc, storeCells]
  | some a =>
    rcases hown.2 with ⟨rfl, rfl⟩ | ⟨g, cap, cur, rfl, _, _, hnc, _⟩
    · simp [Builtin.append_, run_underlying ht, sizeOf, typeInfo, hi, Builtin.lenOf, Builtin.firstCells, loadCells, loadCellsFrom]
    · simp [Builtin.append_, run_underlying ht, sizeOf, typeInfo, hi, Builtin.lenOf, Builtin.firstCells, hnc, storeCells, loadCells, loadCellsFrom]
set_option maxRecDepth 100000 in
set_option maxHeartbeats 4000000 in
theorem ngrow_any (w : World) (n : Nat) (hn : n ≤ 20000) :
    Calls Try.prog 76 #[.slice none 0 0, .int .i64 (n : Int)] w fun e w' => ∃ ao c, e = .returned (.slice ao 0 c) ∧ w'.ownsRow w.heap.size 65 4 (.slice ao 0 c) 0 [] ∧ Below w.heap.size w w' := by
  obtain ⟨i1, hi1, hy0, hy1, hy2⟩ := info_parts infoN
  have h1 : ¬ ((n : Int) < 0) := by omega
  by_cases h0 : n = 0
  · subst h0
    go_enter Try.func76, Try.ntmps76
    go_wp2
    go_ret
    exact ⟨_, _, rfl, World.ownsRow_nil _ _ _ _, Below.refl _ _⟩
  · have hrz : ∀ ty, (Builtin.append_ #[22, 3] ty #[.slice none 0 0, .int .i64 (n : Int)]).run Try.prog w = .ok (.slice (some ⟨w.heap.size, 0, none⟩) n (grownCap w n 0 65)) (w.drew.alloc (.cells (Builtin.zeroCells (Value.agg #[.int .i64 0, .string ⟨#[]⟩, .int .i64 0, .slice none 0 0]).cells n ++ Builtin.zeroCells (Value.agg #[.int .i64 0, .string ⟨#[]⟩, .int .i64 0, .slice none 0 0]).cells (grownCap w n 0 65 - n)) 65)) := fun ty =>
      Lib.run_append_nil_zeros (P := Try.prog) w 22 3 ty 65 i1 _ .i64 .i64 Try.underlying22 Try.underlying3 hi1 hy0 n (by omega) (by rw [hy1]; omega) (by omega) (by rw [hy2]; omega)
    have hgc := grownCap_ge w n 0 65
    have hgm := grownCap_le_maxLen w n 0 65 (by unfold maxLen; omega)
    have hfin : Hid (∀ C, C = grownCap w n 0 65 → (w.drew.alloc (.cells (Builtin.zeroCells (Value.agg #[.int .i64 0, .string ⟨#[]⟩, .int .i64 0, .slice none 0 0]).cells n ++ Builtin.zeroCells (Value.agg #[.int .i64 0, .string ⟨#[]⟩, .int .i64 0, .slice none 0 0]).cells (C - n)) 65)).ownsRow w.heap.size 65 4 (.slice (some ⟨w.heap.size, 0, none⟩) 0 C) 0 []) := fun C hC => by
      refine ⟨rfl, .inr ⟨w.heap.size, C, _, rfl, Nat.le_refl _, heap_alloc_new w.drew _, Nat.zero_le _, by rw [hC]; exact hgm, ?_, rfl⟩⟩
      rw [Array.size_append, size_zeroCells, size_zeroCells, ← Nat.add_mul, show n + (C - n) = C by omega]
      rfl
    generalize hC : grownCap w n 0 65 = C at *
    have hn0 : (n : Int) > 0 := by omega
    go_enter Try.func76, Try.ntmps76
    go_wp2_with (at_builtin; refine Lib.wpList_append_run _ rfl _ _ _ _ rfl _ _ rfl rfl _ _ (hrz _) ?_)
    go_ret
    exact ⟨_, _, rfl, hfin.out C rfl, (Below.refl _ _).drew.alloc (by simp) _⟩
end Go.Proofs.Ytjenkpgoggmboaa

/- slices.Concat over two slices of nodes. -/
namespace Go.Proofs.Ytjenkpgoggmboaa
open Go.RowKit

theorem ncells_app : ∀ (l m : List Nd) (a b : List Value), a.length = l.length → ncells (l ++ m) (a ++ b) = ncells l a ++ ncells m b
  | [], _, [], _, _ => rfl
  | n :: r, m, v :: vs, b, h => by
    have := ncells_app r m vs b (by simpa using h)
    simp only [List.cons_append, ncells, this]
theorem ncells_one : ∀ (l : List Nd) (a : List Value), (∀ v ∈ a, v.oneCell' = true) → ∀ u ∈ ncells l a, u.oneCell' = true
  | [], _, _, u, hu => by simp [ncells] at hu
  | n :: r, [], _, u, hu => by simp [ncells] at hu
  | n :: r, v :: vs, h, u, hu => by
    simp only [ncells, List.mem_cons] at hu
    rcases hu with rfl | rfl | rfl | rfl | hu
    · rfl
    · rfl
    · rfl
    · exact h _ (by simp)
    · exact ncells_one r vs (fun v hv => h v (by simp [hv])) u hu
/-- A slice's cells are these nodes', with these slices of arguments. -/
structure Nc (w : World) (v : Value) (l : List Nd) (avs : List Value) : Prop where
  len : avs.length = l.length
  one : ∀ u ∈ avs, u.oneCell' = true
  ri : ∀ j, j < l.length → Ri w (avs.getD j undef) (l.getD j nd0).args
  sl : ∃ ao c, v = .slice ao l.length c
  at_ : 0 < l.length → ∃ b o c, v = .slice (some ⟨b, o, none⟩) l.length c ∧ ∀ j u, (ncells l avs)[j]? = some u → w.cell? ⟨b, o + j, none⟩ = some u
theorem rn_nc {w : World} {v : Value} {l : List Nd} (h : Rn w v l) : ∃ avs, Nc w v l avs := by
  obtain ⟨ao, c, rfl, hn⟩ := h
  have hf : ∀ j, ∃ av, j < l.length → ∃ b o, ao = some ⟨b, o, none⟩ ∧ NdAt w b (o + j * 4) av (l.getD j nd0) := fun j => by
    by_cases hj : j < l.length
    · obtain ⟨b, o, av, h1, h2⟩ := hn j hj
      exact ⟨av, fun _ => ⟨b, o, h1, h2⟩⟩
    · exact ⟨undef, fun h => absurd h hj⟩
  obtain ⟨f, hf⟩ := Classical.axiomOfChoice hf
  have hg : ∀ j, j < l.length → ((List.range l.length).map f).getD j undef = f j := fun j hj => by simp [List.getD, hj]
  have hlen : ((List.range l.length).map f).length = l.length := by simp
  refine ⟨(List.range l.length).map f, hlen, fun u hu => ?_, fun j hj => ?_, ⟨ao, c, rfl⟩, fun h0 => ?_⟩
  · obtain ⟨j, hj, rfl⟩ := List.mem_map.1 hu
    obtain ⟨b, o, _, h2⟩ := hf j (List.mem_range.1 hj)
    obtain ⟨a1, c1, e, _⟩ := h2.2.2.2.2
    rw [e]
    rfl
  · rw [hg j hj]
    obtain ⟨b, o, _, h2⟩ := hf j hj
    exact h2.2.2.2.2
  · obtain ⟨b, o, rfl, _⟩ := hf 0 h0
    refine ⟨b, o, c, rfl, fun j u hu => ?_⟩
    have hjl : j < l.length * 4 := by
      rw [← ncells_len l _ hlen]
      exact (List.getElem?_eq_some_iff.1 hu).1
    obtain ⟨b', o', e, h0, h1, h2, h3, _⟩ := hf (j / 4) (by omega)
    injection e with e
    injection e with e1 e2
    subst e1 e2
    obtain ⟨k0, k1, k2, k3⟩ := ncells_at l _ (j / 4) hlen (by omega)
    rw [hg _ (by omega)] at k3
    have hr : j % 4 = 0 ∨ j % 4 = 1 ∨ j % 4 = 2 ∨ j % 4 = 3 := by omega
    rcases hr with hr | hr | hr | hr
    · rw [show j = j / 4 * 4 by omega] at hu ⊢
      rw [k0] at hu
      rw [← hu]; exact h0
    · rw [show j = j / 4 * 4 + 1 by omega] at hu ⊢
      rw [k1] at hu
      rw [← hu]; exact h1
    · rw [show j = j / 4 * 4 + 2 by omega] at hu ⊢
      rw [k2] at hu
      rw [← hu]; exact h2
    · rw [show j = j / 4 * 4 + 3 by omega] at hu ⊢
      rw [k3] at hu
      rw [← hu]; exact h3
theorem Nc.below {w w' : World} {v : Value} {l : List Nd} {avs : List Value} (h : Nc w v l avs) (hb : Below w.heap.size w w') : Nc w' v l avs := by
  refine ⟨h.len, h.one, fun j hj => (h.ri j hj).below hb, h.sl, fun h0 => ?_⟩
  obtain ⟨b, o, c, e, hc⟩ := h.at_ h0
  refine ⟨b, o, c, e, fun j u hu => ?_⟩
  have := hc j u hu
  rw [hb.cell (p := ⟨b, o + j, none⟩) (lt_of_cell this)]
  exact this
theorem rn_row {w : World} {B : Nat} {ao : Option Addr} {c n : Nat} {l : List Nd} {avs : List Value} (ho : w.ownsRow B 65 4 (.slice ao n c) n (ncells l avs)) (hn : n = l.length) (hl : avs.length = l.length) (hr : ∀ j, j < l.length → Ri w (avs.getD j undef) (l.getD j nd0).args) : Rn w (.slice ao n c) l := by
  subst hn
  refine ⟨ao, c, rfl, fun j hj => ?_⟩
  rcases ho.2 with ⟨_, h0⟩ | ⟨g, cap, cur, e1, _⟩
  · omega
  · have e2 : ao = some ⟨g, 0, none⟩ := by injection e1
    subst e2
    obtain ⟨c0, c1, c2, c3⟩ := ncells_at l avs j hl hj
    have k0 := ho.cellAt (j * 4) (by omega)
    have k1 := ho.cellAt (j * 4 + 1) (by omega)
    have k2 := ho.cellAt (j * 4 + 2) (by omega)
    have k3 := ho.cellAt (j * 4 + 3) (by omega)
    rw [c0] at k0
    rw [c1] at k1
    rw [c2] at k2
    rw [c3] at k3
    exact ⟨g, 0, _, rfl, by rw [Nat.zero_add]; exact k0, by rw [Nat.zero_add]; exact k1, by rw [Nat.zero_add]; exact k2, by rw [Nat.zero_add]; exact k3, hr j hj⟩
/-- Nodes, or none, are appended. -/
theorem napp {w : World} {B : Nat} {ao : Option Addr} {n c : Nat} {xs : List Value} (hown : w.ownsRow B 65 4 (.slice ao n c) n xs) (hB : B ≤ w.heap.size) {v : Value} {l : List Nd} {avs : List Value} (h : Nc w v l avs) (hn : n ≤ 10000) (hl : l.length ≤ 10000) :
    ∃ ao' c' w', (∀ ty, (Builtin.append_ #[22, 22] ty #[.slice ao n c, v]).run Try.prog w = .ok (.slice ao' (n + l.length) c') w') ∧ w'.ownsRow B 65 4 (.slice ao' (n + l.length) c') (n + l.length) (xs ++ ncells l avs) ∧ w.grownBy w' (Value.slice ao n c).ownBlock := by
  obtain ⟨i1, hi1, hy0, hy1, hy2⟩ := info_parts infoN
  by_cases h0 : 0 < l.length
  · obtain ⟨b, o, cc, rfl, hc⟩ := h.at_ h0
    obtain ⟨g, cap, w', hr, ho, hg, _⟩ := run_append_lies (P := Try.prog) w 22 0 B 65 i1 (.agg #[.int .i64 0, .string ⟨#[]⟩, .int .i64 0, .slice none 0 0]) 4 56 Try.underlying22 hi1 hy0 hy1 hy2 rfl (by decide) _ n xs hown ⟨b, o, none⟩ l.length cc (ncells l avs) (ncells_len l avs h.len) (fun j u hu => by rw [Addr.add_lit]; exact hc j u hu) (ncells_one l avs h.one) h0 (by unfold maxLen; omega) (by omega) hB _ rfl
    exact ⟨_, _, w', fun ty => hr, ho, hg⟩
  · have el : l = [] := List.eq_nil_of_length_eq_zero (by omega)
    subst el
    obtain ⟨a2, c2, rfl⟩ := h.sl
    have hr := run_app_empty (P := Try.prog) B 22 0 65 i1 4 Try.underlying22 hi1 _ n xs hown a2 c2
    refine ⟨ao, c, w, fun ty => hr, ?_, ⟨rfl, rfl, rfl, Nat.le_refl _, fun _ _ _ => rfl⟩⟩
    simpa [ncells] using hown
set_option maxRecDepth 100000 in
set_option maxHeartbeats 8000000 in
theorem concat_any {W : World} {q : Nat} {v1 v2 : Value} {l1 l2 : List Nd} (hq : W.heap[q]? = some (.cells #[v1, v2] 22)) (h1 : Rn W v1 l1) (h2 : Rn W v2 l2) (hl1 : l1.length ≤ 5000) (hl2 : l2.length ≤ 5000) :
    Calls Try.prog 45 #[.slice (some ⟨q, 0, none⟩) 2 2] W fun e w' => ∃ v, e = .returned v ∧ Rn w' v (l1 ++ l2) ∧ Below W.heap.size W w' := by
  obtain ⟨as1, hN1⟩ := rn_nc h1
  obtain ⟨as2, hN2⟩ := rn_nc h2
  obtain ⟨a1, c1, rfl⟩ := hN1.sl
  obtain ⟨a2, c2, rfl⟩ := hN2.sl
  have HN1 := hid hN1
  have HN2 := hid hN2
  obtain ⟨⟨q0, q1⟩, _⟩ := blk2y hq
  have hzq := lt_of_block hq
  have hgr := hid (ngrow_any W (l1.length + l2.length) (by omega))
  have HQ := hid hq
  clear h1 h2 hN1 hN2 hq
  go_enter Try.func45, Try.ntmps45
  go_wp2
  go_loopw [3, 11] (fun x i wr => wr = W ∧ ((i = .int .i64 0 ∧ x = .int .i64 0) ∨ (i = .int .i64 1 ∧ x = .int .i64 (l1.length : Int)) ∨ (i = .int .i64 2 ∧ x = .int .i64 ((l1.length : Int) + (l2.length : Int))))) (fun _ i _ => 2 - (intOf i).toNat)
  case atStart => exact ⟨rfl, Or.inl ⟨rfl, rfl⟩⟩
  case round =>
    obtain ⟨rfl, hrel⟩ := hrel
    rcases hrel with ⟨rfl, rfl⟩ | ⟨rfl, rfl⟩ | ⟨rfl, rfl⟩
    · have hnn : ¬ ((l1.length : Int) < 0) := by omega
      go_wp2
      go_roundw
      case rel => exact ⟨trivial, Or.inr (Or.inl ⟨by go_num, by go_num⟩)⟩
      case measure => simp [intOf]
    · have hnn : ¬ ((l1.length : Int) + (l2.length : Int) < 0) := by omega
      go_wp2
      go_roundw
      case rel => exact ⟨trivial, Or.inr (Or.inr ⟨by go_num, by go_num⟩)⟩
      case measure => simp [intOf]
    · have hcall := hgr.out
      rw [Int.natCast_add] at hcall
      clear hgr
      obtain ⟨w0, hw0⟩ : ∃ w0, w0 = wr := ⟨_, rfl⟩
      subst hw0
      go_wp2_with (go_at_call 76; refine hcall.mono ?_; rintro e w1 ⟨g0, gc, rfl, ho1, hb1⟩; have ho1' := hid ho1; have hb1' := hid hb1; clear ho1 hb1)
      go_loopw [6, 27] (fun x i wr => Hid (Below w0.heap.size w0 wr) ∧ ((i = .int .i64 0 ∧ ∃ ao c, x = .slice ao 0 c ∧ Hid (wr.ownsRow w0.heap.size 65 4 (.slice ao 0 c) 0 [])) ∨ (i = .int .i64 1 ∧ ∃ ao c, x = .slice ao l1.length c ∧ Hid (wr.ownsRow w0.heap.size 65 4 (.slice ao l1.length c) l1.length (ncells l1 as1))) ∨ (i = .int .i64 2 ∧ ∃ ao c, x = .slice ao (l1.length + l2.length) c ∧ Hid (wr.ownsRow w0.heap.size 65 4 (.slice ao (l1.length + l2.length) c) (l1.length + l2.length) (ncells l1 as1 ++ ncells l2 as2))))) (fun _ i _ => 2 - (intOf i).toNat)
      case atStart => exact ⟨hb1', Or.inl ⟨rfl, g0, gc, rfl, ho1'⟩⟩
      case round =>
        clear ho1' hb1' hcall q0 q1
        obtain ⟨hb, hrel⟩ := hrel
        have hq' := (hb.out.block q hzq).trans HQ.out
        obtain ⟨⟨q0, q1⟩, _⟩ := blk2y hq'
        have hzq' := lt_of_block hq'
        clear hq'
        have hsz := hb.out.size
        rcases hrel with ⟨rfl, ao, c, rfl, ho⟩ | ⟨rfl, ao, c, rfl, ho⟩ | ⟨rfl, ao, c, rfl, ho⟩
        · obtain ⟨ao', c', w', hr, ho', hg⟩ := napp ho.out hsz (HN1.out.below hb.out) (by omega) (by omega)
          have hb' := hid (hb.out.grown hg hsz (fun k hk => (ho.out.lt k hk).1))
          rw [Nat.zero_add, List.nil_append] at ho'
          rw [Nat.zero_add] at hr
          have ho'' := hid ho'
          clear ho ho' hg hb
          go_wp2_with (at_builtin; refine Lib.wpList_append_run _ rfl _ _ _ _ rfl _ _ rfl rfl _ _ (hr _) ?_)
          go_roundw
          case rel => exact ⟨hb', Or.inr (Or.inl ⟨by go_num, _, _, rfl, ho''⟩)⟩
          case measure => simp [intOf]
        · obtain ⟨ao', c', w', hr, ho', hg⟩ := napp ho.out hsz (HN2.out.below hb.out) (by omega) (by omega)
          have hb' := hid (hb.out.grown hg hsz (fun k hk => (ho.out.lt k hk).1))
          have ho'' := hid ho'
          clear ho ho' hg hb
          go_wp2_with (at_builtin; refine Lib.wpList_append_run _ rfl _ _ _ _ rfl _ _ rfl rfl _ _ (hr _) ?_)
          go_roundw
          case rel => exact ⟨hb', Or.inr (Or.inr ⟨by go_num, _, _, rfl, ho''⟩)⟩
          case measure => simp [intOf]
        · have hfin : Hid (Rn wr (.slice ao (l1.length + l2.length) c) (l1 ++ l2)) := by
            have k1 := (HN1.out.below hb.out)
            have k2 := (HN2.out.below hb.out)
            have := ho.out
            rw [← ncells_app l1 l2 as1 as2 k1.len] at this
            refine rn_row this (by simp) (by simp [k1.len, k2.len]) (fun j hj => ?_)
            by_cases hj1 : j < l1.length
            · have e1 : (l1 ++ l2).getD j nd0 = l1.getD j nd0 := by simp [List.getD, List.getElem?_append_left hj1]
              have e2 : (as1 ++ as2).getD j undef = as1.getD j undef := by simp [List.getD, List.getElem?_append_left (show j < as1.length by rw [k1.len]; exact hj1)]
              rw [e1, e2]
              exact k1.ri j hj1
            · have e1 : (l1 ++ l2).getD j nd0 = l2.getD (j - l1.length) nd0 := by simp [List.getD, List.getElem?_append_right (show l1.length ≤ j by omega)]
              have e2 : (as1 ++ as2).getD j undef = as2.getD (j - l1.length) undef := by rw [List.getD, List.getElem?_append_right (by rw [k1.len]; omega), k1.len]; rfl
              rw [e1, e2]
              rw [List.length_append] at hj
              exact k2.ri _ (by omega)
          have hb' := hid hb.out
          clear ho hb
          go_wp2
          go_ret
          exact ⟨_, rfl, hfin.out, hb'.out⟩
end Go.Proofs.Ytjenkpgoggmboaa

/- Instance of package solve, at good graphs. -/
namespace Go.Proofs.Ytjenkpgoggmboaa
open Go.RowKit

theorem rtP_take {p t : Gf} {j : Nat} (hj : j < p.roots.length) : (rtP p t).take (j + 1) = (rtP p t).take j ++ [((p.roots.getD j 0).toNat, p.nodes.length + (t.roots.getD j 0).toNat)] := by
  rw [List.take_add_one]
  congr 1
  simp [rtP, hj]
theorem rtP_len (p t : Gf) : (rtP p t).length = p.roots.length := by simp [rtP]
/-- Behind the two boxes and the list of the two. -/
structure Ib (W w : World) (n1 r1 n2 r2 : Value) : Prop where
  b : Below W.heap.size W w
  p : w.heap[W.heap.size]? = some (.cells #[n1, r1] 25)
  t : w.heap[W.heap.size + 1]? = some (.cells #[n2, r2] 25)
  l : w.heap[W.heap.size + 2]? = some (.cells #[n1, r1, n2, r2] 25)
theorem Ib.new (W : World) (n1 r1 n2 r2 : Value) : Ib W (((W.alloc (.cells #[n1, r1] 25)).alloc (.cells #[n2, r2] 25)).alloc (.cells #[n1, r1, n2, r2] 25)) n1 r1 n2 r2 := by
  refine ⟨((below_alloc W _).alloc (by simp) _).alloc (by simp; omega) _, ?_, ?_, ?_⟩
  · rw [Below.heap_alloc _ _ _ (by simp; omega), Below.heap_alloc _ _ _ (by simp)]
    exact heap_alloc_new W _
  · rw [Below.heap_alloc _ _ _ (by simp)]
    have := heap_alloc_new (W.alloc (.cells #[n1, r1] 25)) (.cells #[n2, r2] 25)
    simpa using this
  · have := heap_alloc_new ((W.alloc (.cells #[n1, r1] 25)).alloc (.cells #[n2, r2] 25)) (.cells #[n1, r1, n2, r2] 25)
    simpa using this
theorem Ib.next {W w w' : World} {n1 r1 n2 r2 : Value} (h : Ib W w n1 r1 n2 r2) (hb : Below w.heap.size w w') : Ib W w' n1 r1 n2 r2 :=
  ⟨h.b.trans (hb.mono h.b.size), (hb.block _ (lt_of_block h.p)).trans h.p, (hb.block _ (lt_of_block h.t)).trans h.t, (hb.block _ (lt_of_block h.l)).trans h.l⟩
theorem Below.drewN {B : Nat} {a w : World} (h : Below B a w) (n : Nat) : Below B a (w.drewN n) := ⟨h.os, h.tape, h.output, h.size, h.block⟩
set_option maxRecDepth 100000 in
set_option maxHeartbeats 8000000 in
theorem instance_any {W : World} {n1 r1 n2 r2 : Value} {p t : Gf} (hP : Gr W n1 r1 p) (hT : Gr W n2 r2 t) (hSp : Sized p) (hSt : Sized t) (hcp : one (chk p) = []) (hct : one (chk t) = []) (ans : Bool) (hans : ans = true ↔ ∃ S, Ins p t S) :
    Calls Try.prog 18 #[.agg #[n1, r1], .agg #[n2, r2]] W fun e w' => e = .returned (.tuple #[.bool ans, .nilIface]) ∧ Below W.heap.size W w' := by
  have hp := chk_good hcp
  have ht := chk_good hct
  have hck : Hid (∀ w1, Below W.heap.size W w1 → Calls Try.prog 25 #[.agg #[n1, r1]] w1 fun e w' => e = .returned .nilIface ∧ Below w1.heap.size w1 w') := fun w1 hb => (check_any (hP.below hb) hSp).mono (fun e w' ⟨⟨ev, h1, h2⟩, h3⟩ => by
    rw [hcp] at h2
    have h2' : ev = .nilIface := h2
    subst h2'
    exact ⟨h1, h3⟩)
  have hck2 : Hid (∀ w1, Below W.heap.size W w1 → Calls Try.prog 25 #[.agg #[n2, r2]] w1 fun e w' => e = .returned .nilIface ∧ Below w1.heap.size w1 w') := fun w1 hb => (check_any (hT.below hb) hSt).mono (fun e w' ⟨⟨ev, h1, h2⟩, h3⟩ => by
    rw [hct] at h2
    have h2' : ev = .nilIface := h2
    subst h2'
    exact ⟨h1, h3⟩)
  have hpn := hp.nodes
  have htn := ht.nodes
  have hpr := hp.roots
  have htr := ht.roots
  have hfx : Hid (∀ w1, Below W.heap.size W w1 → Calls Try.prog 46 #[n2, .int .i64 (p.nodes.length : Int)] w1 fun e w' => ∃ ao c, e = .returned (.slice ao t.nodes.length c) ∧ Rn w' (.slice ao t.nodes.length c) (fixedF p.nodes.length 0 t.nodes) ∧ Below w1.heap.size w1 w') := fun w1 hb => (fixed_any (hT.below hb).1 (by omega) (by omega) (fun j hj x hx => by
    have := (ht.args (x := (j : Int)) (by omega) (by omega)).1 x (by simpa [Gf.argsOf] using hx)
    omega) (fun j hj => by
    have := (ht.args (x := (j : Int)) (by omega) (by omega)).2
    simpa [Gf.argsOf] using this)).mono (fun e w' ⟨ao, c, avs, h1, h2, h3⟩ => by
      have hl := fixedF_len p.nodes.length 0 t.nodes
      refine ⟨ao, c, h1, ?_, h3⟩
      rw [← hl] at h2 ⊢
      exact h2.rn)
  have hcc : Hid (∀ (w1 : World) (q : Nat) (v : Value), Below W.heap.size W w1 → w1.heap[q]? = some (.cells #[n1, v] 22) → Rn w1 v (fixedF p.nodes.length 0 t.nodes) → Calls Try.prog 45 #[.slice (some ⟨q, 0, none⟩) 2 2] w1 fun e w' => ∃ v, e = .returned v ∧ Rn w' v (bothN p t) ∧ Below w1.heap.size w1 w') := fun w1 q v hb hq hv => concat_any hq (hP.below hb).1 hv (by omega) (by rw [fixedF_len]; omega)
  have hap : Hid (∀ (w1 : World) (v : Value), Rn w1 v (bothN p t) → Calls Try.prog 35 #[v] w1 fun e w' => ∃ mb lv L, e = .returned (.pointer (some ⟨mb, 0, none⟩)) ∧ Mg w1 w' mb v lv (bothN p t) L ∧ Ld L id) := fun w1 v hv => apart_any hv (by rw [bothN_len]; omega)
  obtain ⟨na, nc, rfl, _⟩ := hP.1
  obtain ⟨ra, rc, rfl, _⟩ := hP.2
  obtain ⟨nb, nd, rfl, _⟩ := hT.1
  obtain ⟨rb, rd, rfl, _⟩ := hT.2
  have hI := hid (Ib.new W (.slice na p.nodes.length nc) (.slice ra p.roots.length rc) (.slice nb t.nodes.length nd) (.slice rb t.roots.length rd))
  have HP := hid hP
  have HT := hid hT
  have HA := hid (bothN_good hp ht)
  have hnl := hid (bothN_len p t)
  have HANS := hid hans
  have hpg := hid hp
  have htg := hid ht
  clear hP hT hSp hSt hcp hct hans hp ht
  go_enter Try.func18, Try.ntmps18
  go_wp2
  go_loopw [17] (fun i wr => Hid (Ib W wr (.slice na p.nodes.length nc) (.slice ra p.roots.length rc) (.slice nb t.nodes.length nd) (.slice rb t.roots.length rd)) ∧ (i = .int .i64 0 ∨ i = .int .i64 1 ∨ i = .int .i64 2)) (fun i _ => 2 - (intOf i).toNat)
  case atStart => exact ⟨hI, Or.inl rfl⟩
  case round =>
    clear hI
    obtain ⟨hI, hrel⟩ := hrel
    obtain ⟨⟨x0, x1, x2, x3⟩, _⟩ := nblk hI.out.l
    have hzx := lt_of_block hI.out.l
    rcases hrel with rfl | rfl | rfl
    · have hcall := hid (hck.out _ (hI.out.b.alloc hI.out.b.size (.cells #[.slice na p.nodes.length nc, .slice ra p.roots.length rc] 25)))
      go_wp2_with (go_at_call 25; refine hcall.out.mono ?_; rintro e w1 ⟨rfl, hb1⟩; have hI1 := hid (hI.out.next ((below_alloc wr _).trans (hb1.mono (by simp)))); clear hb1)
      go_roundw
      case rel => exact ⟨hI1, Or.inr (Or.inl (by go_num))⟩
      case measure => simp [intOf]
    · have hcall := hid (hck2.out _ (hI.out.b.alloc hI.out.b.size (.cells #[.slice nb t.nodes.length nd, .slice rb t.roots.length rd] 25)))
      go_wp2_with (go_at_call 25; refine hcall.out.mono ?_; rintro e w1 ⟨rfl, hb1⟩; have hI1 := hid (hI.out.next ((below_alloc wr _).trans (hb1.mono (by simp)))); clear hb1)
      go_roundw
      case rel => exact ⟨hI1, Or.inr (Or.inr (by go_num))⟩
      case measure => simp [intOf]
    · obtain ⟨⟨p0, p1⟩, _⟩ := blk2y hI.out.p
      obtain ⟨⟨t0, t1⟩, _⟩ := blk2y hI.out.t
      have hzp := lt_of_block hI.out.p
      have hzt := lt_of_block hI.out.t
      by_cases hl : p.roots.length = t.roots.length
      · have hl' : (t.roots.length : Int) = (p.roots.length : Int) := by omega
        have HL := hid hl
        clear hl
        go_wp2
        clear hl'
        go_cut [10] from 37 to 45 (fun s10 wc => ∃ mb, s10 = .pointer (some ⟨mb, 0, none⟩) ∧ Hid (∃ w1 v lv L, Below wr.heap.size wr w1 ∧ Mg w1 wc mb v lv (bothN p t) L ∧ Ld L id))
        case first =>
          have hB := hid hI.out.b
          go_region_with (first
            | (go_at_call 46; refine (hfx.out _ (by first | exact hB.out | exact hB.out.drew | exact hB.out.drewN _)).mono ?_; rintro e w5 ⟨fo, fc, rfl, hfv, hb5⟩; have hfv5 := hid hfv; have hb5' : Hid (Below wr.heap.size wr w5) := ⟨hb5.os, hb5.tape, hb5.output, hb5.size, hb5.block⟩; have hI5 := hid (hI.out.next hb5'.out); obtain ⟨⟨s0, s1⟩, _⟩ := blk2y hI5.out.p; have z5 := lt_of_block hI5.out.p; clear hfv hb5)
            | (go_at_call 45; refine (hcc.out _ _ (.slice fo t.nodes.length fc) (by first | exact hI5.out.b.alloc (Nat.le_trans hI5.out.b.size (Nat.le_refl _)) _) (heap_alloc_new w5 _) (hfv5.out.below (below_alloc w5 _))).mono ?_; rintro e w6 ⟨cv, rfl, hcv, hb6⟩; have hcv6 := hid hcv; have hb6' : Hid (Below wr.heap.size wr w6) := hb5'.out.trans ((((below_alloc w5 _).trans (hb6.mono (by simp)))).mono hb5'.out.size); clear hcv hb6)
            | (go_at_call 35; refine (hap.out _ cv hcv6.out).mono ?_; rintro e w7 ⟨mb, lv, L, rfl, hm, hld⟩; have hm7 : Hid (∃ w1 v lv L, Below wr.heap.size wr w1 ∧ Mg w1 w7 mb v lv (bothN p t) L ∧ Ld L id) := ⟨w6, cv, lv, L, hb6'.out, hm, hld⟩; clear hm hld))
          all_goals go_wp2_with fail
          all_goals go_meet
          all_goals exact ⟨mb, rfl, hm7⟩
        case rest =>
          obtain ⟨mb, rfl, hm⟩ := hcut
          obtain ⟨w0, hw0⟩ : ∃ w0, w0 = wr := ⟨_, rfl⟩
          subst hw0
          obtain ⟨w9, hw9⟩ : ∃ w9, w9 = wc := ⟨_, rfl⟩
          subst hw9
          obtain ⟨w1, v, lv, L, hb1, hM, hLd⟩ := hm.out
          have hI1 := hid (hI.out.next hb1)
          have hI9 := hI1.out.next hM.bel
          clear p0 p1 t0 t1 x0 x1 x2 x3 hzp hzt hzx
          obtain ⟨⟨p0, p1⟩, _⟩ := blk2y hI9.p
          have hzp := lt_of_block hI9.p
          have hS : Hid (∃ E, Un (bothN p t) ((rtP p t).take 0) E [] ∧ MgL w1 w9 w9 mb v lv (bothN p t) E) := ⟨id, Un.init _, L, hM, hLd, Mo.refl _ _⟩
          have hW1 := hid hI1.out.b
          clear hM hLd hm hb1 hI hI9
          go_wp2
          go_loopw [49] (fun i wr => ∃ j : Nat, j ≤ p.roots.length ∧ i = .int .i64 (j : Int) ∧ Hid (∃ E, Un (bothN p t) ((rtP p t).take j) E [] ∧ MgL w1 w9 wr mb v lv (bothN p t) E)) (fun i _ => p.roots.length - (intOf i).toNat)
          case atStart => exact ⟨0, Nat.zero_le _, rfl, hS⟩
          case round =>
            clear hS p0 p1 hzp
            obtain ⟨j, hj, rfl, hS⟩ := hrel
            by_cases hlt : j < p.roots.length
            · have hji : (j : Int) < (p.roots.length : Int) := by omega
              have hjt : j < t.roots.length := by have := HL.out; omega
              have hjti : (j : Int) < (t.roots.length : Int) := by omega
              obtain ⟨E, hU, hL⟩ := hS.out
              obtain ⟨L1, hm1, hl1⟩ := hL.mg
              have hIr := hI1.out.next hm1.bel
              obtain ⟨⟨t0, t1⟩, _⟩ := blk2y hIr.t
              have hzt := lt_of_block hIr.t
              obtain ⟨_, _, e, hpc⟩ := (HP.out.below hIr.b).2
              injection e with e1 _ e3
              subst e1 e3
              obtain ⟨b, o, rfl, u0⟩ := hpc j hlt
              obtain ⟨_, _, e, htc⟩ := (HT.out.below hIr.b).2
              injection e with e1 _ e3
              subst e1 e3
              obtain ⟨b', o', rfl, u1⟩ := htc j hjt
              have z0 := lt_of_cell u0
              have z1 := lt_of_cell u1
              have hrp := hpg.out.root _ (getD_mem hlt)
              have hrt := htg.out.root _ (getD_mem hjt)
              have htk := hid (rtP_take (t := t) hlt)
              have hno : Hid (NoSol (bothN p t) ((rtP p t).take (j + 1)) → ans = false) := fun hn => by
                cases ans with
                | false => rfl
                | true => exact absurd (hn.more (fun q hq => List.mem_of_mem_take hq)) ((ins_iff hpg.out htg.out HL.out).2 (HANS.out.1 rfl))
              generalize p.roots.getD j 0 = x at *
              generalize t.roots.getD j 0 = y at *
              obtain ⟨xn, rfl⟩ : ∃ xn : Nat, x = (xn : Int) := ⟨x.toNat, by omega⟩
              obtain ⟨yn, rfl⟩ : ∃ yn : Nat, y = (yn : Int) := ⟨y.toNat, by omega⟩
              have hnl' := hnl.out
              have hone := one_any hm1 hl1 HA.out (by omega) hU (i := xn) (j := p.nodes.length + yn) (by omega) (by omega)
              rw [Int.natCast_add] at hone
              have htk' : Hid ((rtP p t).take (j + 1) = (rtP p t).take j ++ [(xn, p.nodes.length + yn)]) := show _ = _ by
                have := htk.out
                simpa using this
              have hmo := hid hL.mo
              have hsp : Hid (∀ (Q : Ending → World → Prop), (∀ w', (∃ E, Un (bothN p t) ((rtP p t).take (j + 1)) E [] ∧ MgL w1 w9 w' mb v lv (bothN p t) E) → Q (.returned (.bool true)) w') → (∀ w', ans = false → Below W.heap.size W w' → Q (.returned (.bool false)) w') → Calls Try.prog 47 #[.pointer (some ⟨mb, 0, none⟩), .int .i64 (xn : Int), .int .i64 ((p.nodes.length : Int) + (yn : Int))] wr Q) := fun Q h1 h2 => hone.mono (fun e w' hO => by
                rcases hO with ⟨rfl, E', hU', hL'⟩ | ⟨rfl, hn, hb, _⟩
                · exact h1 w' ⟨E', by rw [htk'.out]; exact hU', MgL.trans hmo.out hL'⟩
                · exact h2 w' (hno.out (by rw [htk'.out]; exact hn)) (hW1.out.trans (hb.mono hW1.out.size)))
              clear hU hL hm1 hl1 hS hpc htc hone hIr htk
              go_wp2_with (go_at_call 47; go_must (refine hsp.out _ (fun w2 h2 => ?_) (fun w2 ha h2 => ?_)))
              · go_wp2
                go_roundw
                case rel => exact ⟨j + 1, by omega, by go_num, h2⟩
                case measure => simp [intOf]; omega
              · subst ha
                have h2' := hid h2
                go_wp2
                go_ret2
                exact ⟨rfl, h2'.out⟩
            · obtain rfl : j = p.roots.length := by omega
              have hfin : Hid (ans = true ∧ Below W.heap.size W wr) := by
                obtain ⟨E, hU, hL⟩ := hS.out
                obtain ⟨L1, hm1, _⟩ := hL.mg
                refine ⟨?_, hW1.out.trans (hm1.bel.mono hW1.out.size)⟩
                rw [← rtP_len p t, List.take_length] at hU
                obtain ⟨h1, h2, _⟩ := hU.done
                exact HANS.out.2 ((ins_iff hpg.out htg.out HL.out).1 (fun hn => hn _ h1 h2))
              obtain ⟨rfl, _⟩ := hfin.out
              clear hS
              go_wp2
              go_ret2
              exact ⟨rfl, hfin.out.2⟩
      · have hl' : ¬ ((p.roots.length : Int) = (t.roots.length : Int)) := by omega
        have hans : ans = false := by
          cases ans with
          | false => rfl
          | true => exact absurd (let ⟨_, h⟩ := HANS.out.1 rfl; h.len) hl
        subst hans
        have hB := hid hI.out.b
        go_wp2
        go_ret2
        exact ⟨rfl, hB.out⟩
end Go.Proofs.Ytjenkpgoggmboaa

/- Instances and unifiers: plain data. -/
import Derived.Test.YtllafbghomohhaaALZ
import Derived.Test.YtllafbghomohhaaAIZ
namespace Go.Proofs.Ytllafbghomohhaa
open Go.RowKit

theorem good_kind0 {g : Gf} (hg : Good g) {x : Int} (h : isN g x) : (g.nd x).kind ≠ 0 := fun hk => by
  have := good_ndI hg h
  unfold goodNd at this
  simp [hk] at this
theorem good_varA {g : Gf} (hg : Good g) {x : Int} (h : isN g x) (hk : (g.nd x).kind = 1) : (g.nd x).args.length = 0 := by
  have := good_ndI hg h
  unfold goodNd at this
  rw [if_pos hk] at this
  simp only [Bool.and_eq_true, decide_eq_true_eq] at this
  exact this.2
theorem fixN1_kind (f n : Nat) (y : Nd) : (fixN1 f n y).kind ≠ 1 := by
  unfold fixN1
  split
  · simp
  · assumption
theorem fixN1_var {f n : Nat} {y : Nd} (h : y.kind = 1) : fixN1 f n y = ⟨0, ⟨#[]⟩, (n : Int), []⟩ := if_pos h
theorem fixN1_not {f n : Nat} {y : Nd} (h : y.kind ≠ 1) : fixN1 f n y = ⟨y.kind, y.name, y.num, y.args.map (fun a => (f : Int) + a)⟩ := if_neg h
theorem fixN1_len {p : Gf} (hp : Good p) {y : Int} (hy : isN p y) (f n : Nat) : (fixN1 f n (p.nd y)).args.length = (p.nd y).args.length := by
  by_cases h : (p.nd y).kind = 1
  · rw [fixN1_var h, good_varA hp hy h]; rfl
  · rw [fixN1_not h]; simp
theorem bothN_rightI (p t : Gf) {y : Int} (hy : isN t y) : ndN (bothN p t) (p.nodes.length + y.toNat) = fixN1 p.nodes.length y.toNat (t.nd y) := by
  have h0 := hy.1
  have h1 := hy.2
  rw [bothN_right p t (show y.toNat < t.nodes.length by omega), show ((y.toNat : Nat) : Int) = y by omega]
theorem bothN_leftI (p t : Gf) {x : Int} (hx : isN p x) : ndN (bothN p t) x.toNat = p.nd x := by
  have h0 := hx.1
  have h1 := hx.2
  rw [bothN_left p t (show x.toNat < p.nodes.length by omega), show ((x.toNat : Nat) : Int) = x by omega]
theorem argN_rightI {p t : Gf} (ht : Good t) {y : Int} (hy : isN t y) {k : Nat} (hk : k < (t.nd y).args.length) : argN (bothN p t) (p.nodes.length + y.toNat) k = p.nodes.length + (t.arg y k).toNat := by
  have hkd : (t.nd y).kind ≠ 1 := fun h => by rw [good_varA ht hy h] at hk; omega
  have ha := (arg_isN ht hy hk).1
  unfold argN
  rw [bothN_rightI p t hy, fixN1_not hkd]
  have : (List.map (fun a => (p.nodes.length : Int) + a) (t.nd y).args).getD k 0 = (p.nodes.length : Int) + t.arg y k := by
    unfold Gf.arg
    simp [List.getD, List.getElem?_eq_getElem hk]
  show ((List.map (fun a => (p.nodes.length : Int) + a) (t.nd y).args).getD k 0).toNat = _
  rw [this]
  omega
theorem argN_leftI {p t : Gf} {x : Int} (hx : isN p x) (k : Nat) : argN (bothN p t) x.toNat k = (p.arg x k).toNat := by
  unfold argN
  rw [bothN_leftI p t hx]
  rfl
theorem bothN_good {p t : Gf} (hp : Good p) (ht : Good t) : GoodA (bothN p t) := by
  have hsp : ∀ x, x < (bothN p t).length → (∃ y : Int, isN p y ∧ x = y.toNat) ∨ ∃ y : Int, isN t y ∧ x = p.nodes.length + y.toNat := fun x hx => by
    rw [bothN_len] at hx
    by_cases h : x < p.nodes.length
    · exact Or.inl ⟨(x : Int), ⟨by omega, by omega⟩, by omega⟩
    · exact Or.inr ⟨((x - p.nodes.length : Nat) : Int), ⟨by omega, by omega⟩, by omega⟩
  have hout : ∀ x, ¬ x < (bothN p t).length → ndN (bothN p t) x = nd0 := fun x hx => by
    unfold ndN
    rw [List.getD, List.getElem?_eq_none (by omega)]
    rfl
  refine ⟨fun x hx k hk => ?_, fun x hk => ?_, fun x => ?_⟩
  · rw [bothN_len]
    rcases hsp x hx with ⟨y, hy, rfl⟩ | ⟨y, hy, rfl⟩
    · rw [argN_leftI hy, bothN_leftI p t hy]
      rw [bothN_leftI p t hy] at hk
      have ha := arg_isN hp hy hk
      have h0 := ha.1
      have h1 := ha.2
      exact ⟨h0, by omega⟩
    · rw [bothN_rightI p t hy, fixN1_len ht hy] at hk
      rw [argN_rightI ht hy hk]
      have ha := arg_isN ht hy hk
      have h0 := ha.1
      have h1 := ha.2
      refine ⟨?_, by omega⟩
      have hkd : (t.nd y).kind ≠ 1 := fun h => by rw [good_varA ht hy h] at hk; omega
      rw [bothN_rightI p t hy, fixN1_not hkd]
      have : (List.map (fun a => (p.nodes.length : Int) + a) (t.nd y).args).getD k 0 = (p.nodes.length : Int) + t.arg y k := by
        unfold Gf.arg
        simp [List.getD, List.getElem?_eq_getElem hk]
      show 0 ≤ (List.map (fun a => (p.nodes.length : Int) + a) (t.nd y).args).getD k 0
      rw [this]
      omega
  · by_cases hx : x < (bothN p t).length
    · rcases hsp x hx with ⟨y, hy, rfl⟩ | ⟨y, hy, rfl⟩
      · rw [bothN_leftI p t hy] at hk ⊢
        exact List.eq_nil_of_length_eq_zero (good_varA hp hy hk)
      · rw [bothN_rightI p t hy] at hk
        exact absurd hk (fixN1_kind _ _ _)
    · rw [hout x hx]
  · by_cases hx : x < (bothN p t).length
    · rcases hsp x hx with ⟨y, hy, rfl⟩ | ⟨y, hy, rfl⟩
      · rw [bothN_leftI p t hy]
        exact (good_args (good_ndI hp hy)).2
      · rw [bothN_rightI p t hy, fixN1_len ht hy]
        exact (good_args (good_ndI ht hy)).2
    · rw [hout x hx]; exact Nat.zero_le _
theorem rtP_mem {p t : Gf} {q : Nat × Nat} : q ∈ rtP p t ↔ ∃ i, i < p.roots.length ∧ q = ((p.roots.getD i 0).toNat, p.nodes.length + (t.roots.getD i 0).toNat) := by
  unfold rtP
  rw [List.mem_map]
  constructor
  · rintro ⟨i, hi, rfl⟩
    exact ⟨i, List.mem_range.1 hi, rfl⟩
  · rintro ⟨i, hi, rfl⟩
    exact ⟨i, List.mem_range.2 hi, rfl⟩
/-- A unifier tells what stands for what. -/
theorem cg_ins {p t : Gf} (hp : Good p) (ht : Good t) (hl : p.roots.length = t.roots.length) {R : Nat → Nat → Prop} (hR : Cg (bothN p t) R) (hr : ∀ q ∈ rtP p t, R q.1 q.2) : Ins p t (fun x y => isN p x ∧ isN t y ∧ R x.toNat (p.nodes.length + y.toNat)) := by
  have hlt : ∀ {x : Int}, isN p x → x.toNat < (bothN p t).length := fun {x} hx => by
    have h0 := hx.1
    have h1 := hx.2
    rw [bothN_len]; omega
  have hrt : ∀ {y : Int}, isN t y → p.nodes.length + y.toNat < (bothN p t).length := fun {y} hy => by
    have h0 := hy.1
    have h1 := hy.2
    rw [bothN_len]; omega
  have hlab : ∀ x y, isN p x → isN t y → R x.toNat (p.nodes.length + y.toNat) → (p.nd x).kind ≠ 1 → (t.nd y).kind ≠ 1 ∧ labS (p.nd x) (t.nd y) ∧ ∀ k, k < (p.nd x).args.length → R (argN (bothN p t) x.toNat k) (argN (bothN p t) (p.nodes.length + y.toNat) k) := fun x y hx hy h hk => by
    obtain ⟨h1, h2⟩ := hR.lab _ _ (hlt hx) (hrt hy) h (by rw [bothN_leftI p t hx]; exact hk) (by rw [bothN_rightI p t hy]; exact fixN1_kind _ _ _)
    rw [bothN_leftI p t hx] at h1 h2
    rw [bothN_rightI p t hy] at h1
    have hty : (t.nd y).kind ≠ 1 := fun e => by
      rw [fixN1_var e] at h1
      exact good_kind0 hp hx h1.1
    rw [fixN1_not hty] at h1
    exact ⟨hty, ⟨h1.1, h1.2.1, h1.2.2.1, by have := h1.2.2.2; simpa using this⟩, h2⟩
  refine ⟨fun x y h => ⟨h.1, h.2.1⟩, fun x y ⟨hx, hy, h⟩ hk => ?_, fun x y ⟨hx, hy, h⟩ hk k hkk => ?_, fun x y y' ⟨hx, hy, h⟩ ⟨_, hy', h'⟩ hk => ?_, hl, fun i hi => ⟨hp.root _ (getD_mem hi), ht.root _ (getD_mem (by rw [← hl]; exact hi)), hr _ (rtP_mem.2 ⟨i, hi, rfl⟩)⟩⟩
  · exact (hlab x y hx hy h hk).2.1
  · obtain ⟨_, hls, ha⟩ := hlab x y hx hy h hk
    have hkt : k < (t.nd y).args.length := by rw [← hls.2.2.2]; exact hkk
    have := ha k hkk
    rw [argN_leftI hx, argN_rightI ht hy hkt] at this
    exact ⟨arg_isN hp hx hkk, arg_isN ht hy hkt, this⟩
  · refine ⟨fun u v => isN t u ∧ isN t v ∧ R (p.nodes.length + u.toNat) (p.nodes.length + v.toNat), fun u v ⟨hu, hv, huv⟩ => ?_, hy, hy', hR.trans _ _ _ (hR.symm _ _ h) h'⟩
    obtain ⟨h1, h2⟩ := hR.lab _ _ (hrt hu) (hrt hv) huv (by rw [bothN_rightI p t hu]; exact fixN1_kind _ _ _) (by rw [bothN_rightI p t hv]; exact fixN1_kind _ _ _)
    rw [bothN_rightI p t hu] at h1 h2
    rw [bothN_rightI p t hv] at h1
    rw [fixN1_len ht hu] at h2
    have hu0 := hu.1
    have hv0 := hv.1
    by_cases eu : (t.nd u).kind = 1
    · by_cases ev : (t.nd v).kind = 1
      · rw [fixN1_var eu, fixN1_var ev] at h1
        have e : u = v := by have := h1.2.2.1; simp at this; omega
        subst e
        exact ⟨hu, hu, labE_refl t u, fun k hk => by rw [good_varA ht hu eu] at hk; omega⟩
      · rw [fixN1_var eu, fixN1_not ev] at h1
        exact absurd h1.1.symm (good_kind0 ht hv)
    · by_cases ev : (t.nd v).kind = 1
      · rw [fixN1_not eu, fixN1_var ev] at h1
        exact absurd h1.1 (good_kind0 ht hu)
      · rw [fixN1_not eu, fixN1_not ev] at h1
        have hlen : (t.nd u).args.length = (t.nd v).args.length := by have := h1.2.2.2; simpa using this
        refine ⟨hu, hv, ⟨h1.1, h1.2.1, h1.2.2.1, hlen, fun e => absurd e eu⟩, fun k hk => ?_⟩
        have := h2 k hk
        rw [argN_rightI ht hu hk, argN_rightI ht hv (by rw [← hlen]; exact hk)] at this
        exact ⟨arg_isN ht hu hk, arg_isN ht hv (by rw [← hlen]; exact hk), this⟩
/-- Which node of t a node of both means. -/
def Mn (p t : Gf) (S : Int → Int → Prop) (u : Nat) (y : Int) : Prop := (∃ x, isN p x ∧ u = x.toNat ∧ S x y) ∨ (isN t y ∧ u = p.nodes.length + y.toNat)
def InR (p t : Gf) (S : Int → Int → Prop) (u v : Nat) : Prop := u = v ∨ ∃ y y', Mn p t S u y ∧ Mn p t S v y' ∧ Al t y y'
theorem mn_al {p t : Gf} (hp : Good p) (ht : Good t) {S : Int → Int → Prop} (h : Ins p t S) {u : Nat} {y y' : Int} (h1 : Mn p t S u y) (h2 : Mn p t S u y') : Al t y y' := by
  rcases h1 with ⟨x, hx, e, hs⟩ | ⟨hy, e⟩ <;> rcases h2 with ⟨x', hx', e', hs'⟩ | ⟨hy', e'⟩
  · have a0 := hx.1
    have a1 := hx'.1
    have : x = x' := by omega
    subst this
    exact h.al (al_refl hp hx) hs hs'
  · have a0 := hx.1
    have a1 := hx.2
    omega
  · have a0 := hx'.1
    have a1 := hx'.2
    omega
  · have a0 := hy.1
    have a1 := hy'.1
    have : y = y' := by omega
    subst this
    exact al_refl ht hy
theorem mn_lab {p t : Gf} (hp : Good p) (ht : Good t) {S : Int → Int → Prop} (h : Ins p t S) {u : Nat} {y : Int} (h1 : Mn p t S u y) (hk : (ndN (bothN p t) u).kind ≠ 1) : isN t y ∧ labS (ndN (bothN p t) u) (fixN1 p.nodes.length y.toNat (t.nd y)) ∧ ∀ k, k < (ndN (bothN p t) u).args.length → Mn p t S (argN (bothN p t) u k) (t.arg y k) := by
  rcases h1 with ⟨x, hx, rfl, hs⟩ | ⟨hy, rfl⟩
  · rw [bothN_leftI p t hx] at hk ⊢
    obtain ⟨l1, l2, l3, l4⟩ := h.lab x y hs hk
    refine ⟨(h.rng x y hs).2, ?_, fun k hkk => Or.inl ⟨_, arg_isN hp hx hkk, argN_leftI hx k, h.arg x y hs hk k hkk⟩⟩
    rw [fixN1_not (by rw [← l1]; exact hk)]
    exact ⟨l1, l2, l3, by simpa using l4⟩
  · rw [bothN_rightI p t hy]
    refine ⟨hy, labS.refl _, fun k hkk => ?_⟩
    rw [fixN1_len ht hy] at hkk
    exact Or.inr ⟨arg_isN ht hy hkk, argN_rightI ht hy hkk⟩
theorem ins_cg {p t : Gf} (hp : Good p) (ht : Good t) {S : Int → Int → Prop} (h : Ins p t S) : Cg (bothN p t) (InR p t S) ∧ ∀ q ∈ rtP p t, InR p t S q.1 q.2 := by
  refine ⟨⟨⟨fun x => Or.inl rfl, fun x y hxy => ?_, fun x y z hxy hyz => ?_⟩, fun u v _ _ huv hku hkv => ?_⟩, fun q hq => ?_⟩
  · rcases hxy with rfl | ⟨y, y', h1, h2, ha⟩
    · exact Or.inl rfl
    · exact Or.inr ⟨y', y, h2, h1, al_symm ha⟩
  · rcases hxy with rfl | ⟨y1, y2, h1, h2, ha⟩
    · exact hyz
    · rcases hyz with rfl | ⟨y3, y4, h3, h4, hb⟩
      · exact Or.inr ⟨y1, y2, h1, h2, ha⟩
      · exact Or.inr ⟨y1, y4, h1, h4, al_trans ha (al_trans (mn_al hp ht h h2 h3) hb)⟩
  · rcases huv with rfl | ⟨y, y', h1, h2, ha⟩
    · exact ⟨labS.refl _, fun k _ => Or.inl rfl⟩
    · obtain ⟨hy, lu, au⟩ := mn_lab hp ht h h1 hku
      obtain ⟨hy', lv, av⟩ := mn_lab hp ht h h2 hkv
      obtain ⟨_, _, hl, hargs⟩ := al_sim t y y' ha
      have hm : labS (fixN1 p.nodes.length y.toNat (t.nd y)) (fixN1 p.nodes.length y'.toNat (t.nd y')) := by
        by_cases hk : (t.nd y).kind = 1
        · have e := hl.2.2.2.2 hk
          subst e
          exact labS.refl _
        · rw [fixN1_not hk, fixN1_not (by rw [← hl.1]; exact hk)]
          exact ⟨hl.1, hl.2.1, hl.2.2.1, by simpa using hl.2.2.2.1⟩
      have hlab := lu.trans (hm.trans lv.symm)
      refine ⟨hlab, fun k hk => Or.inr ⟨_, _, au k hk, av k (by rw [← hlab.2.2.2]; exact hk), hargs k ?_⟩⟩
      rw [← fixN1_len ht hy p.nodes.length y.toNat, ← lu.2.2.2]
      exact hk
  · obtain ⟨i, hi, rfl⟩ := rtP_mem.1 hq
    have hs := h.root i hi
    obtain ⟨r1, r2⟩ := h.rng _ _ hs
    exact Or.inr ⟨_, _, Or.inl ⟨_, r1, rfl, hs⟩, Or.inr ⟨r2, rfl⟩, al_refl ht r2⟩
/-- The second is an instance of the first just if the roots can be made one. -/
theorem ins_iff {p t : Gf} (hp : Good p) (ht : Good t) (hl : p.roots.length = t.roots.length) : ¬ NoSol (bothN p t) (rtP p t) ↔ ∃ S, Ins p t S := by
  constructor
  · intro h
    apply Classical.byContradiction
    intro hn
    exact h (fun R hR hr => hn ⟨_, cg_ins hp ht hl hR hr⟩)
  · rintro ⟨S, h⟩ hn
    exact hn _ (ins_cg hp ht h).1 (ins_cg hp ht h).2
end Go.Proofs.Ytllafbghomohhaa

/- The hanging variables and what unfolds alike: plain data. -/
namespace Go.Proofs.Ytllafbghomohhaa
open Go.RowKit

theorem cnt_zero {E : Nat → Nat} {m : Nat} : ∀ {j : Nat}, (∀ y, y < j → E y ≠ m) → cntN E m j = 0
  | 0, _ => rfl
  | j + 1, h => by
    unfold cntN
    rw [cnt_zero (fun y hy => h y (by omega)), if_neg (h j (by omega))]
theorem cnt_le1 {E : Nat → Nat} {m x : Nat} : ∀ {j : Nat}, (∀ y, y < j → E y = m → y = x) → cntN E m j ≤ 1
  | 0, _ => by simp [cntN]
  | j + 1, h => by
    unfold cntN
    by_cases e : E j = m
    · rw [if_pos e]
      have hx := h j (by omega) e
      have : cntN E m j = 0 := cnt_zero (fun y hy ey => by have := h y (by omega) ey; omega)
      omega
    · rw [if_neg e]
      have := cnt_le1 (x := x) (fun y (hy : y < j) => h y (by omega))
      omega
theorem cnt_ge1 {E : Nat → Nat} {m i : Nat} (he : E i = m) : ∀ {j : Nat}, i < j → 1 ≤ cntN E m j
  | 0, h => absurd h (Nat.not_lt_zero _)
  | j + 1, h => by
    unfold cntN
    by_cases e : i = j
    · subst e
      rw [if_pos he]; omega
    · have := cnt_ge1 he (j := j) (by omega)
      omega
theorem cnt_ge2 {E : Nat → Nat} {m i k : Nat} (hi : E i = m) (hk : E k = m) (hik : i < k) : ∀ {j : Nat}, k < j → 2 ≤ cntN E m j
  | 0, h => absurd h (Nat.not_lt_zero _)
  | j + 1, h => by
    unfold cntN
    by_cases e : k = j
    · subst e
      have := cnt_ge1 hi hik
      rw [if_pos hk]; omega
    · have := cnt_ge2 hi hk hik (j := j) (by omega)
      omega
theorem hangF_mem {ns : List Nd} {E : Nat → Nat} {v : Nat} : ∀ {j : Nat}, v ∈ hangF ns E j ↔ v < j ∧ (ndN ns v).kind = 1 ∧ 1 < cntN E (E v) ns.length
  | 0 => by simp [hangF]
  | j + 1 => by
    unfold hangF
    rw [List.mem_append, hangF_mem (j := j)]
    constructor
    · rintro (⟨h1, h2⟩ | h)
      · exact ⟨by omega, h2⟩
      · split at h
        · rename_i hc
          have : v = j := by simpa using h
          subst this
          exact ⟨by omega, hc⟩
        · simp at h
    · rintro ⟨h1, h2⟩
      by_cases e : v = j
      · subst e
        rw [if_pos h2]
        exact Or.inr (by simp)
      · exact Or.inl ⟨by omega, h2⟩
theorem hangF_nil {ns : List Nd} {E : Nat → Nat} : hangF ns E ns.length = [] ↔ ∀ v, v < ns.length → (ndN ns v).kind = 1 → ∀ y, y < ns.length → E y = E v → y = v := by
  constructor
  · intro h v hv hk y hy he
    apply Classical.byContradiction
    intro hne
    have h2 : 2 ≤ cntN E (E v) ns.length := by
      rcases Nat.lt_or_gt_of_ne hne with hl | hl
      · exact cnt_ge2 he rfl hl hv
      · exact cnt_ge2 rfl he hl hy
    have : v ∈ hangF ns E ns.length := hangF_mem.2 ⟨hv, hk, by omega⟩
    rw [h] at this
    simp at this
  · intro h
    apply List.eq_nil_iff_forall_not_mem.2
    intro v hv
    obtain ⟨h1, h2, h3⟩ := hangF_mem.1 hv
    have := cnt_le1 (E := E) (m := E v) (x := v) (j := ns.length) (fun y hy he => h v h1 h2 y hy he)
    omega
/-- What unfolds alike is a unifier of nothing. -/
theorem al_cg {g : Gf} (hg : Good g) : Cg g.nodes (fun x y => x = y ∨ (x < g.nodes.length ∧ y < g.nodes.length ∧ Al g (x : Int) (y : Int))) := by
  refine ⟨⟨fun _ => Or.inl rfl, fun x y h => ?_, fun x y z h k => ?_⟩, fun x y hx hy h hkx _ => ?_⟩
  · rcases h with rfl | ⟨h1, h2, h3⟩
    · exact Or.inl rfl
    · exact Or.inr ⟨h2, h1, al_symm h3⟩
  · rcases h with rfl | ⟨h1, h2, h3⟩
    · exact k
    · rcases k with rfl | ⟨_, k2, k3⟩
      · exact Or.inr ⟨h1, h2, h3⟩
      · exact Or.inr ⟨h1, k2, al_trans h3 k3⟩
  · rcases h with rfl | ⟨_, _, h3⟩
    · exact ⟨labS.refl _, fun _ _ => Or.inl rfl⟩
    · obtain ⟨i1, i2, l, ar⟩ := al_sim g _ _ h3
      unfold labE at l
      rw [nd_int, nd_int] at l
      refine ⟨⟨l.1, l.2.1, l.2.2.1, l.2.2.2.1⟩, fun k hk => Or.inr ?_⟩
      have hA := goodA_of hg
      have a1 := hA.arg x hx k hk
      have a2 := hA.arg y hy k (by rw [← l.2.2.2.1]; exact hk)
      have e1 : g.arg (x : Int) k = ((argN g.nodes x k : Nat) : Int) := by
        unfold Gf.arg argN
        rw [nd_int]
        omega
      have e2 : g.arg (y : Int) k = ((argN g.nodes y k : Nat) : Int) := by
        unfold Gf.arg argN
        rw [nd_int]
        omega
      have := ar k (by rw [nd_int]; exact hk)
      rw [e1, e2] at this
      exact ⟨a1.2, a2.2, this⟩
/-- No variable hangs just if all pairs unfold alike without a solution. -/
theorem hang_iff {g : Gf} (hg : Good g) {P : List (Nat × Nat)} {E : Nat → Nat} (hU : Un g.nodes P E []) (hP : ∀ p ∈ P, p.1 < g.nodes.length ∧ p.2 < g.nodes.length) : hangF g.nodes E g.nodes.length = [] ↔ ∀ p ∈ P, Al g (p.1 : Int) (p.2 : Int) := by
  obtain ⟨hc, hp, hmin⟩ := hU.done
  rw [hangF_nil]
  constructor
  · intro h p hpm
    refine ⟨fun a b => isN g a ∧ isN g b ∧ E a.toNat = E b.toNat, fun a b ⟨ha, hb, he⟩ => ?_, ⟨by omega, by have := (hP p hpm).1; omega⟩, ⟨by omega, by have := (hP p hpm).2; omega⟩, by simpa using hp p hpm⟩
    have ha0 := ha.1
    have ha1 := ha.2
    have hb0 := hb.1
    have hb1 := hb.2
    have ea : ((a.toNat : Nat) : Int) = a := by omega
    have eb : ((b.toNat : Nat) : Int) = b := by omega
    have na : ndN g.nodes a.toNat = g.nd a := by rw [← nd_int, ea]
    have nb : ndN g.nodes b.toNat = g.nd b := by rw [← nd_int, eb]
    by_cases ka : (g.nd a).kind = 1
    · have := h a.toNat (by omega) (by rw [na]; exact ka) b.toNat (by omega) he.symm
      have e : a = b := by omega
      subst e
      exact ⟨ha, ha, labE_refl g a, fun k hk => by rw [good_varA hg ha ka] at hk; omega⟩
    · by_cases kb : (g.nd b).kind = 1
      · have := h b.toNat (by omega) (by rw [nb]; exact kb) a.toNat (by omega) he
        have e : a = b := by omega
        subst e
        exact absurd kb ka
      · obtain ⟨l, ar⟩ := hc.lab a.toNat b.toNat (by omega) (by omega) he (by rw [na]; exact ka) (by rw [nb]; exact kb)
        rw [na] at l ar
        rw [nb] at l
        refine ⟨ha, hb, ⟨l.1, l.2.1, l.2.2.1, l.2.2.2, fun e => absurd e ka⟩, fun k hk => ⟨arg_isN hg ha hk, arg_isN hg hb (by rw [← l.2.2.2]; exact hk), ?_⟩⟩
        have := ar k hk
        unfold argN at this
        rw [na, nb] at this
        exact this
  · intro h v hv hk y hy he
    have hr := hmin _ (al_cg hg) (fun p hpm => Or.inr ⟨(hP p hpm).1, (hP p hpm).2, h p hpm⟩) y v he
    rcases hr with rfl | ⟨_, _, h3⟩
    · rfl
    · have h4 := al_symm h3
      have h5 := (al_sim g _ _ h4).2.2.1.2.2.2.2 (by rw [nd_int]; exact hk)
      omega
end Go.Proofs.Ytllafbghomohhaa

/- Solving step by step: a graph solved by one pair more. -/
namespace Go.Proofs.Ytllafbghomohhaa
open Go.RowKit

/-- The roots of a graph tell where the nodes are; behind them come the roots. -/
structure Rts (N : Nat) (rs : List Int) (A : Gf) (r : Nat → Nat) : Prop where
  len : A.roots.length = N + rs.length
  nd : ∀ x, x < N → A.roots.getD x 0 = ((r x : Nat) : Int)
  rt : ∀ i, i < rs.length → A.roots.getD (N + i) 0 = ((r (rs.getD i 0).toNat : Nat) : Int)
theorem var_lab {N : Nat} {m n : Nd} (hm : goodNd N m = true) {M : Nat} (hn : goodNd M n = true) (h1 : m.kind = 1) (h2 : n.kind = 1) : labS m n := by
  unfold goodNd at hm hn
  rw [if_pos h1] at hm
  rw [if_pos h2] at hn
  simp only [Bool.and_eq_true, decide_eq_true_eq] at hm hn
  exact ⟨h1.trans h2.symm, str_eq (hm.1.1.trans hn.1.1.symm), hm.1.2.trans hn.1.2.symm, hm.2.trans hn.2.symm⟩
theorem good_nd {g : Gf} (hg : Good g) {x : Nat} (hx : x < g.nodes.length) : goodNd g.nodes.length (ndN g.nodes x) = true := hg.node _ (by simp [ndN, List.getD, hx])
theorem rst_var {ns : List Nd} {P : List (Nat × Nat)} {E : Nat → Nat} (hU : Un ns P E []) {x y : Nat} (hv : (ndN ns (E x)).kind = 1) (h : Rst ns (fun x y => E x = E y) x y) : E x = E y := by
  rcases rst_bs ns _ x y h with h1 | ⟨u1, v1, a1, a2, a3, a4, a5, a6, _⟩
  · exact h1
  · obtain ⟨b, _⟩ := hU.rep u1 a1 a5
    have a3' : E x = E u1 := a3
    rw [← a3'] at b
    exact absurd hv b
/-- The step. -/
theorem Hm.step {g : Gf} (hg : Good g) {P : List (Nat × Nat)} {E E' : Nat → Nat} (hU : Un g.nodes P E []) {A : Gf} (hAg : Good A) {r : Nat → Nat} (h : Hm g.nodes E A r) (hPn : ∀ p ∈ P, p.1 < g.nodes.length ∧ p.2 < g.nodes.length) {rs : List Int} (hrs : ∀ z ∈ rs, 0 ≤ z ∧ z < (g.nodes.length : Int)) (hR : Rts g.nodes.length rs A r) {a b : Nat} (ha : a < g.nodes.length) (hb : b < g.nodes.length)
    (hU' : Un g.nodes (P ++ [(a, b)]) E' []) {F : Nat → Nat} (hF : Un A.nodes [(r a, r b)] F []) {ee : Nat → Nat → Bool} (hd : ∀ x y : Nat, (ee x y = true ↔ Al (gE A.nodes A.roots F) (x : Int) (y : Int))) :
    ∃ r', Hm g.nodes E' (trimF (quoF ee (gE A.nodes A.roots F))) r' ∧ Rts g.nodes.length rs (trimF (quoF ee (gE A.nodes A.roots F))) r' := by
  have hA := goodA_of hg
  have hAA := goodA_of hAg
  have hB := gE_good hAg hF.rng
  have hlB : (gE A.nodes A.roots F).nodes.length = A.nodes.length := by simp [gE]
  obtain ⟨hC', hp', hm'⟩ := hU'.done
  obtain ⟨hCF, hpF, hmF⟩ := hF.done
  -- what is one by E' is one by F
  have M2 : ∀ x y, x < g.nodes.length → y < g.nodes.length → E' x = E' y → F (r x) = F (r y) := fun x y hx hy e => by
    obtain ⟨c1, c2⟩ := h.dn hA hU hCF hPn
    have h3 := hm' _ c1 (fun p hq => by
      rcases List.mem_append.1 hq with e | e
      · exact c2 p e
      · have e1 : p = (a, b) := by simpa using e
        subst e1
        exact Or.inr ⟨ha, hb, hpF (r a, r b) (by simp)⟩) x y e
    rcases h3 with e | ⟨_, _, e⟩
    · rw [e]
    · exact e
  -- what is one by F is so by E'
  have hup := h.up hA hU hC' (fun p hq => hp' p (by simp [hq]))
  have M1 : ∀ y z, F y = F z → upR g.nodes (fun x y => E' x = E' y) r y z := fun y z e => hmF _ hup (fun p hq => by
    have e1 : p = (r a, r b) := by simpa using hq
    subst e1
    exact Or.inr ⟨a, b, ha, hb, rfl, rfl, Rst.of (hp' (a, b) (by simp))⟩) y z e
  have hEE : ∀ x y, E x = E y → E' x = E' y := fun x y e => hU.done.2.2 _ hC' (fun p hq => hp' p (by simp [hq])) x y e
  -- variables stay variables
  have hvar : ∀ x, x < g.nodes.length → (ndN g.nodes (E' x)).kind = 1 → (ndN A.nodes (F (r x))).kind = 1 := fun x hx hv => by
    apply Classical.byContradiction
    intro hnv
    have hFr := hF.rng _ (h.rng x hx)
    have hz : ∃ w, w < g.nodes.length ∧ F (r x) = r w ∧ Rst g.nodes (fun x y => E' x = E' y) x w := by
      rcases M1 (r x) (F (r x)) (hF.idem _).symm with e | ⟨x1, x2, b1, b2, b3, b4, b5⟩
      · exact ⟨x, hx, e.symm, Rst.of rfl⟩
      · exact ⟨x2, b2, b4, (rst_cg hC').trans _ _ _ (h.rst hA hU hC' (fun p hq => hp' p (by simp [hq])) hx b1 b3) b5⟩
    obtain ⟨w, hw, e, hst⟩ := hz
    have e1 := rst_var hU' hv hst
    have lw := h.lab w hw
    rw [e, ← lw.1] at hnv
    obtain ⟨c, _⟩ := hU'.rep (E w) (hU.rng w hw) hnv
    have e2 : E' (E w) = E' w := hEE _ _ (hU.idem w)
    rw [e2, ← e1] at c
    exact c hv
  -- labels and arguments
  have hnon : ∀ x, x < g.nodes.length → (ndN g.nodes (E' x)).kind ≠ 1 → labS (ndN g.nodes (E' x)) (ndN A.nodes (F (r x))) ∧ ∀ k, k < (ndN g.nodes (E' x)).args.length → F (argN A.nodes (F (r x)) k) = F (r (argN g.nodes (E' x) k)) := fun x hx hnv => by
    have hX := hU'.rng x hx
    have e1 : F (r x) = F (r (E' x)) := M2 x (E' x) hx hX (hU'.idem x).symm
    obtain ⟨c1, c2, _⟩ := hU.rep (E' x) hX hnv
    have l1 := h.lab (E' x) hX
    have hrX := h.rng (E' x) hX
    have k1 : (ndN A.nodes (r (E' x))).kind ≠ 1 := by rw [← l1.1]; exact c1
    obtain ⟨d1, d2, _⟩ := hF.rep (r (E' x)) hrX k1
    refine ⟨(c2.trans l1).trans (by rw [e1]; exact d2), fun k hk => ?_⟩
    have hk1 : k < (ndN g.nodes (E (E' x))).args.length := by rw [← c2.2.2.2]; exact hk
    have hk2 : k < (ndN A.nodes (r (E' x))).args.length := by rw [← l1.2.2.2]; exact hk1
    have s1 := (hCF.lab (r (E' x)) (F (r (E' x))) hrX (hF.rng _ hrX) (hF.idem _).symm k1 d1).2 k hk2
    rw [e1, ← s1, h.arg (E' x) hX k hk1]
    have hEX := hU.rng _ hX
    refine M2 _ _ (hA.arg _ hEX k hk1).2 (hA.arg _ hX k hk).2 ?_
    exact (hC'.lab (E (E' x)) (E' x) hEX hX (hEE _ _ (hU.idem _)) c1 hnv).2 k hk1
  have hroot : ∀ x, x < g.nodes.length → ((F (r x) : Nat) : Int) ∈ metF (gE A.nodes A.roots F) := fun x hx => by
    have hi : x < (gE A.nodes A.roots F).roots.length := by simp [gE]; rw [hR.len]; omega
    have := metF_root hB hi
    have e : (gE A.nodes A.roots F).roots.getD x 0 = ((F (r x) : Nat) : Int) := by
      have hi' : x < A.roots.length := by rw [hR.len]; omega
      have h2 := hR.nd x hx
      simp [gE, List.getD, hi'] at h2 ⊢
      rw [h2]
      simp [EI]
    rw [e] at this
    exact this
  have hnn : ∀ x, x < g.nodes.length → 0 ≤ lstI ee (gE A.nodes A.roots F) ((F (r x) : Nat) : Int) ∧ lstI ee (gE A.nodes A.roots F) ((F (r x) : Nat) : Int) < ((trimF (quoF ee (gE A.nodes A.roots F))).nodes.length : Int) := fun x hx => least_rng hB hd (hroot x hx)
  have hcast : ∀ x, x < g.nodes.length → (((lstI ee (gE A.nodes A.roots F) ((F (r x) : Nat) : Int)).toNat : Nat) : Int) = lstI ee (gE A.nodes A.roots F) ((F (r x) : Nat) : Int) := fun x hx => by have := (hnn x hx).1; omega
  have hnd : ∀ x, x < g.nodes.length → ndN (trimF (quoF ee (gE A.nodes A.roots F))).nodes (lstI ee (gE A.nodes A.roots F) ((F (r x) : Nat) : Int)).toNat = renum (lstI ee (gE A.nodes A.roots F)) (renum (EI F) (ndN A.nodes (F (r x)))) := fun x hx => by
    rw [← nd_N, hcast x hx, least_nd hB hd (hroot x hx), gE_nd (hF.rng _ (h.rng x hx))]
  have hlab : ∀ x, x < g.nodes.length → labS (ndN g.nodes (E' x)) (ndN A.nodes (F (r x))) := fun x hx => by
    by_cases hv : (ndN g.nodes (E' x)).kind = 1
    · exact var_lab (good_nd hg (hU'.rng x hx)) (good_nd hAg (hF.rng _ (h.rng x hx))) hv (hvar x hx hv)
    · exact (hnon x hx hv).1
  refine ⟨fun x => (lstI ee (gE A.nodes A.roots F) ((F (r x) : Nat) : Int)).toNat, ⟨fun x hx => ?_, fun x y hx hy e => ?_, fun x hx => ?_, fun x hx k hk => ?_, fun x y hx hy hv e => ?_⟩, ⟨?_, fun x hx => ?_, fun i hi => ?_⟩⟩
  · have := hnn x hx
    show (lstI ee (gE A.nodes A.roots F) ((F (r x) : Nat) : Int)).toNat < _
    omega
  · show Int.toNat _ = Int.toNat _
    rw [M2 x y hx hy e]
  · show labS _ (ndN _ (Int.toNat _))
    rw [hnd x hx]
    obtain ⟨l1, l2, l3, l4⟩ := hlab x hx
    exact ⟨l1, l2, l3, by simpa [renum] using l4⟩
  · show argN _ (Int.toNat _) k = Int.toNat _
    have hnv : (ndN g.nodes (E' x)).kind ≠ 1 := fun hv => by rw [hA.var _ hv] at hk; simp at hk
    have hk2 : k < (ndN A.nodes (F (r x))).args.length := by rw [← (hlab x hx).2.2.2]; exact hk
    have h2 := (hnon x hx hnv).2 k hk
    have h3 := (hAA.arg _ (hF.rng _ (h.rng x hx)) k hk2)
    unfold argN at h2 ⊢
    rw [hnd x hx]
    simp [renum, List.getD, hk2, EI] at h2 ⊢
    rw [h2]
  · have e1 : lstI ee (gE A.nodes A.roots F) ((F (r x) : Nat) : Int) = lstI ee (gE A.nodes A.roots F) ((F (r y) : Nat) : Int) := by
      have e' : (lstI ee (gE A.nodes A.roots F) ((F (r x) : Nat) : Int)).toNat = (lstI ee (gE A.nodes A.roots F) ((F (r y) : Nat) : Int)).toNat := e
      have := (hnn x hx).1
      have := (hnn y hy).1
      omega
    have hal := (least_al hB hd (hroot x hx) (hroot y hy)).1 e1
    have hkv : ((gE A.nodes A.roots F).nd ((F (r x) : Nat) : Int)).kind = 1 := by
      rw [gE_nd (hF.rng _ (h.rng x hx))]
      exact hvar x hx hv
    have e2 := (al_sim _ _ _ hal).2.2.1.2.2.2.2 hkv
    have e3 : F (r x) = F (r y) := by omega
    rcases M1 (r x) (r y) e3 with e4 | ⟨x1, x2, b1, b2, b3, b4, b5⟩
    · exact rst_var hU' hv (h.rst hA hU hC' (fun p hq => hp' p (by simp [hq])) hx hy e4)
    · have q1 := h.rst hA hU hC' (fun p hq => hp' p (by simp [hq])) hx b1 b3
      have q2 := h.rst hA hU hC' (fun p hq => hp' p (by simp [hq])) b2 hy b4.symm
      exact rst_var hU' hv ((rst_cg hC').trans _ _ _ q1 ((rst_cg hC').trans _ _ _ b5 q2))
  · rw [least_root]
    simp [gE]
    exact hR.len
  · have hi' : x < A.roots.length := by rw [hR.len]; omega
    have h2 := hR.nd x hx
    rw [hcast x hx, least_root]
    simp [gE, List.getD, hi'] at h2 ⊢
    rw [h2]
    simp [EI]
  · have hi' : g.nodes.length + i < A.roots.length := by rw [hR.len]; omega
    have h2 := hR.rt i hi
    have hz := hrs (rs.getD i 0) (getD_mem hi)
    rw [hcast _ (by omega), least_root]
    simp [gE, List.getD, hi'] at h2 ⊢
    rw [h2]
    simp [EI]
/-- The start. -/
theorem Hm.start {g : Gf} (hg : Good g) : Hm g.nodes id ⟨g.nodes, (List.range g.nodes.length).map (fun n : Nat => (n : Int)) ++ g.roots⟩ id ∧ Rts g.nodes.length g.roots ⟨g.nodes, (List.range g.nodes.length).map (fun n : Nat => (n : Int)) ++ g.roots⟩ id := by
  refine ⟨⟨fun x hx => hx, fun x y _ _ e => e, fun x _ => labS.refl _, fun x _ k _ => rfl, fun x y _ _ _ e => e⟩, ⟨by simp, fun x hx => ?_, fun i hi => ?_⟩⟩
  · simp [List.getD, List.getElem?_append_left, hx]
  · have hz := hg.root (g.roots.getD i 0) (getD_mem hi)
    have e : ((List.range g.nodes.length).map (fun n : Nat => (n : Int)) ++ g.roots).getD (g.nodes.length + i) 0 = g.roots.getD i 0 := by
      rw [List.getD, List.getD, List.getElem?_append_right (by simp)]
      simp
    rw [e]
    show _ = (((g.roots.getD i 0).toNat : Nat) : Int)
    omega
/-- The end: the least graph of the roots alone. -/
theorem Hm.fin {g : Gf} (hg : Good g) {ps : List (Int × Int)} {E : Nat → Nat} (hU : Un g.nodes (ps.map natP) E []) {A : Gf} (hAg : Good A) {r : Nat → Nat} (h : Hm g.nodes E A r) (hR : Rts g.nodes.length g.roots A r) {t : Gf} (ht : LeastS g ps t) {e2 : Nat → Nat → Bool} (hd2 : ∀ x y : Nat, (e2 x y = true ↔ Al ⟨A.nodes, A.roots.drop g.nodes.length⟩ (x : Int) (y : Int))) : trimF (quoF e2 ⟨A.nodes, A.roots.drop g.nodes.length⟩) = t := by
  obtain ⟨ee, hd⟩ := al_dec (gE g.nodes g.roots E)
  have hu := leastS_uniq hg (qs := ps) (fun R hR => Iff.rfl) ht ⟨E, ee, hU, hd, rfl⟩
  rw [hu]
  have hA := goodA_of hg
  have hgE := gE_good hg hU.rng
  have hlE : (gE g.nodes g.roots E).nodes.length = g.nodes.length := by simp [gE]
  have hgD : Good ⟨A.nodes, A.roots.drop g.nodes.length⟩ := ⟨hAg.nodes, by have := hAg.roots; simp; omega, hAg.node, fun z hz => hAg.root z (List.mem_of_mem_drop hz)⟩
  refine (Pr.least hgE hgD hd hd2 (R := fun u v => ∃ x, x < g.nodes.length ∧ u = ((E x : Nat) : Int) ∧ v = ((r x : Nat) : Int)) ⟨?_, ?_, ?_, ?_, ?_, ?_, ?_⟩).symm
  · rintro u v ⟨x, hx, rfl, rfl⟩
    have := hU.rng x hx
    have := h.rng x hx
    exact ⟨⟨by omega, by rw [hlE]; omega⟩, by omega, by show _ < (A.nodes.length : Int); omega⟩
  · rintro u v ⟨x, hx, rfl, rfl⟩
    rw [gE_nd (hU.rng x hx), nd_N]
    obtain ⟨l1, l2, l3, l4⟩ := h.lab x hx
    exact ⟨l1, l2, l3, by simpa [renum] using l4⟩
  · rintro u v ⟨x, hx, rfl, rfl⟩ k hk
    have hEx := hU.rng x hx
    rw [gE_nd hEx] at hk
    have hk1 : k < (ndN g.nodes (E x)).args.length := by simpa [renum] using hk
    have hk2 : k < (ndN A.nodes (r x)).args.length := by rw [← (h.lab x hx).2.2.2]; exact hk1
    refine ⟨argN g.nodes (E x) k, (hA.arg _ hEx k hk1).2, ?_, ?_⟩
    · unfold Gf.arg
      rw [gE_nd hEx]
      simp [renum, List.getD, hk1, EI, argN]
    · rw [← h.arg x hx k hk1]
      unfold Gf.arg argN
      rw [nd_N]
      have := ((goodA_of hAg).arg _ (h.rng x hx) k hk2).1
      show (ndN A.nodes (r x)).args.getD k 0 = _
      omega
  · rintro u v v' ⟨x, hx, rfl, rfl⟩ ⟨x', hx', e, rfl⟩ _
    rw [h.ker x x' hx hx' (by omega)]
  · rintro u u' v ⟨x, hx, rfl, rfl⟩ ⟨x', hx', rfl, e⟩ hk
    have e1 : r x = r x' := by omega
    rw [nd_N] at hk
    have hkv : (ndN g.nodes (E x)).kind = 1 := by rw [(h.lab x hx).1]; exact hk
    rw [h.var x x' hx hx' hkv e1]
  · have := hR.len
    simp [gE]
    omega
  · intro i hi
    have hi' : i < g.roots.length := by simpa [gE] using hi
    have hr := hg.root (g.roots.getD i 0) (getD_mem hi')
    refine ⟨(g.roots.getD i 0).toNat, by omega, ?_, ?_⟩
    · simp [gE, List.getD, hi', EI]
    · rw [← hR.rt i hi']
      simp [List.getD]
end Go.Proofs.Ytllafbghomohhaa

/- The least graph of a solution is an instance: plain data. -/
namespace Go.Proofs.Ytllafbghomohhaa
open Go.RowKit

theorem map_getD {F : Int → Int} {l : List Int} {k : Nat} (h : k < l.length) : (l.map F).getD k 0 = F (l.getD k 0) := by simp [List.getD, h]
theorem least_ins {a : Gf} (ha : Good a) {ee : Nat → Nat → Bool} (hd : ∀ x y : Nat, (ee x y = true ↔ Al a (x : Int) (y : Int))) : Ins a (trimF (quoF ee a)) (fun x y => x ∈ metF a ∧ y = lstI ee a x) := by
  have hnd : ∀ x, x ∈ metF a → (trimF (quoF ee a)).nd (lstI ee a x) = renum (lstI ee a) (a.nd x) := fun x hx => least_nd ha hd hx
  have hlen : ∀ x, x ∈ metF a → ((trimF (quoF ee a)).nd (lstI ee a x)).args.length = (a.nd x).args.length := fun x hx => by rw [hnd x hx]; simp [renum]
  have harg : ∀ x, x ∈ metF a → ∀ k, k < (a.nd x).args.length → (trimF (quoF ee a)).arg (lstI ee a x) k = lstI ee a (a.arg x k) := fun x hx k hk => by
    unfold Gf.arg
    rw [hnd x hx]
    exact map_getD hk
  refine ⟨fun x y ⟨hx, e⟩ => ⟨(met_cls ha hd x hx).1, by rw [e]; exact least_rng ha hd hx⟩, fun x y ⟨hx, e⟩ _ => ?_, fun x y ⟨hx, e⟩ _ k hk => ?_, fun x y y' ⟨hx, e⟩ ⟨_, e'⟩ hk => ?_, by rw [least_root]; simp, fun i hi => ⟨metF_root ha hi, ?_⟩⟩
  · rw [e, hnd x hx]
    exact ⟨rfl, rfl, rfl, by simp [renum]⟩
  · rw [e, harg x hx k hk]
    exact ⟨met_argk ha hx hk, rfl⟩
  · rw [e, e']
    have hr := least_rng ha hd hx
    have hv := good_varA ha (met_cls ha hd x hx).1 hk
    refine ⟨fun u v => u = lstI ee a x ∧ v = lstI ee a x, fun u v ⟨eu, ev⟩ => ?_, rfl, rfl⟩
    rw [eu, ev]
    exact ⟨hr, hr, labE_refl _ _, fun k hkk => by rw [hlen x hx, hv] at hkk; omega⟩
  · rw [least_root]
    exact map_getD hi
theorem gE_ins {g : Gf} (hg : Good g) {P : List (Nat × Nat)} {E : Nat → Nat} (hU : Un g.nodes P E []) : Ins g (gE g.nodes g.roots E) (fun x y => isN g x ∧ y = EI E x) := by
  obtain ⟨hc, _, _⟩ := hU.done
  have hgg := gE_good hg hU.rng
  have hl : (gE g.nodes g.roots E).nodes.length = g.nodes.length := by simp [gE]
  have hin : ∀ x, isN g x → isN (gE g.nodes g.roots E) (EI E x) := fun x hx => by
    have h0 := hx.1
    have h1 := hx.2
    have := hU.rng x.toNat (by omega)
    refine ⟨by unfold EI; omega, ?_⟩
    rw [hl]
    unfold EI
    omega
  have hnd : ∀ x, isN g x → (gE g.nodes g.roots E).nd (EI E x) = renum (EI E) (ndN g.nodes (E x.toNat)) := fun x hx => by
    have h0 := hx.1
    have h1 := hx.2
    exact gE_nd (hU.rng x.toNat (by omega))
  have hN : ∀ x, isN g x → ndN g.nodes x.toNat = g.nd x := fun x hx => by
    have h0 := hx.1
    rw [← nd_int, show ((x.toNat : Nat) : Int) = x by omega]
  refine ⟨fun x y ⟨hx, e⟩ => ⟨hx, by rw [e]; exact hin x hx⟩, fun x y ⟨hx, e⟩ hk => ?_, fun x y ⟨hx, e⟩ hk k hkk => ?_, fun x y y' ⟨hx, e⟩ ⟨_, e'⟩ _ => ?_, by simp [gE], fun i hi => ⟨hg.root _ (getD_mem hi), map_getD hi⟩⟩
  · have h0 := hx.1
    have h1 := hx.2
    obtain ⟨_, l, _⟩ := hU.rep x.toNat (by omega) (by rw [hN x hx]; exact hk)
    rw [hN x hx] at l
    rw [e, hnd x hx]
    exact ⟨l.1, l.2.1, l.2.2.1, by rw [l.2.2.2]; simp [renum]⟩
  · have h0 := hx.1
    have h1 := hx.2
    obtain ⟨k2, l, _⟩ := hU.rep x.toNat (by omega) (by rw [hN x hx]; exact hk)
    have ha := (hc.lab x.toNat (E x.toNat) (by omega) (hU.rng _ (by omega)) (hU.idem _).symm (by rw [hN x hx]; exact hk) k2).2 k (by rw [hN x hx]; exact hkk)
    rw [hN x hx] at l
    refine ⟨arg_isN hg hx hkk, ?_⟩
    rw [e]
    show ((gE g.nodes g.roots E).nd (EI E x)).args.getD k 0 = _
    rw [hnd x hx]
    have hkl : k < (ndN g.nodes (E x.toNat)).args.length := by rw [← l.2.2.2]; exact hkk
    have h2 : (renum (EI E) (ndN g.nodes (E x.toNat))).args.getD k 0 = EI E ((ndN g.nodes (E x.toNat)).args.getD k 0) := map_getD hkl
    rw [h2]
    have h3 : E (((ndN g.nodes x.toNat).args.getD k 0).toNat) = E (((ndN g.nodes (E x.toNat)).args.getD k 0).toNat) := ha
    rw [hN x hx] at h3
    unfold EI Gf.arg
    rw [h3]
  · rw [e, e']
    exact al_refl hgg (hin x hx)
/-- What is solved is an instance of what it was solved from. -/
theorem sol_ins {g : Gf} (hg : Good g) {ps : List (Int × Int)} {t : Gf} (h : LeastS g ps t) : ∃ S, Ins g t S := by
  obtain ⟨E, ee, hU, hd, rfl⟩ := h
  exact (gE_ins hg hU).trans (least_ins (gE_good hg hU.rng) hd)
/-- The roots of a pair become one. -/
theorem sol_roots {g : Gf} {ps : List (Int × Int)} {t : Gf} (h : LeastS g ps t) : t.roots.length = g.roots.length ∧ ∀ i j, i < g.roots.length → j < g.roots.length → (g.roots.getD i 0, g.roots.getD j 0) ∈ ps → t.roots.getD i 0 = t.roots.getD j 0 := by
  obtain ⟨E, ee, hU, hd, rfl⟩ := h
  obtain ⟨_, hp, _⟩ := hU.done
  refine ⟨by rw [least_root]; simp [gE], fun i j hi hj hm => ?_⟩
  rw [least_root, map_getD (by simpa [gE] using hi), map_getD (by simpa [gE] using hj)]
  have e1 : (gE g.nodes g.roots E).roots.getD i 0 = EI E (g.roots.getD i 0) := map_getD hi
  have e2 : (gE g.nodes g.roots E).roots.getD j 0 = EI E (g.roots.getD j 0) := map_getD hj
  rw [e1, e2]
  have := hp (natP (g.roots.getD i 0, g.roots.getD j 0)) (List.mem_map.2 ⟨_, hm, rfl⟩)
  have h3 : E (g.roots.getD i 0).toNat = E (g.roots.getD j 0).toNat := this
  unfold EI
  rw [h3]
end Go.Proofs.Ytllafbghomohhaa

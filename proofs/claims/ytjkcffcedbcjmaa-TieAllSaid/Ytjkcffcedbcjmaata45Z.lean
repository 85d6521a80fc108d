/- What is tied and the document's graph of all parts are paired. Mathematics. -/
import Derived.Test.Ytjkcffcedbcjmaata41Z
import Derived.Test.Ytjkcffcedbcjmaata25Z
import Derived.Test.Ytjkcffcedbcjmaata42Z
import Derived.Test.Ytjkcffcedbcjmaata33Z
namespace Go.Proofs.Ytjkcffcedbcjmaa
set_option maxRecDepth 100000
open Go.RowKit
def toF (M : List Nd) (S : Nat → Int) (b : Int) : Int := if (M.getD b.toNat nd0).kind = 1 ∧ 0 < (M.getD b.toNat nd0).num then S ((M.getD b.toNat nd0).num - 1).toNat else b
def whX (M : List Nd) (S : Nat → Int) (n : Nd) : Nd := ⟨n.kind, n.name, if n.kind = 1 then 0 else n.num, n.args.map (toF M S)⟩
def gWh (M : List Nd) (S : Nat → Int) (B : List Int) : Gf := ⟨M.map (whX M S), B.map (toF M S)⟩
theorem getD_app_l {l r : List Nd} {i : Nat} (h : i < l.length) : (l ++ r).getD i nd0 = l.getD i nd0 := by simp [List.getD, List.getElem?_append_left h]
theorem getD_app_rep {l : List Nd} {r i : Nat} (h : l.length ≤ i) (h2 : i < l.length + r) : (l ++ List.replicate r varN).getD i nd0 = varN := by
  simp [List.getD, List.getElem?_append_right h, show i - l.length < r by omega]
def Rtb (M : List Nd) (m : Nat) (O : List (Nat × Nat)) (E : Nat → Nat) (M' : List Nd) (S : Nat → Int) (x y : Int) : Prop :=
  (∃ a b, Lk M m O a b ∧ x = EI E a ∧ y = toF M' S b) ∨ (∃ i : Nat, i < m ∧ x = ((E i : Nat) : Int) ∧ y = S i)
structure Tb (N M : List Nd) (m : Nat) (O : List (Nat × Nat)) (E : Nat → Nat) (S : Nat → Int) (r : Nat) : Prop where
  o : ∀ u v, (u, v) ∈ O → m ≤ u ∧ u < N.length ∧ v < M.length ∧ Cor N M m O u v
  uq : Uq O
  s1 : ∀ i, i < m → (∃ v : Nat, (E i, v) ∈ O ∧ S i = (v : Int)) ∨ (E i < m ∧ (M.length : Int) ≤ S i ∧ S i < ((M.length + r : Nat) : Int))
  s2 : ∀ i j, i < m → j < m → E i < m → E j < m → (E i = E j ↔ S i = S j)
  nv : ∀ i, i < m → N.getD i nd0 = varN
  ml : m ≤ N.length
  e : ∀ u, m ≤ u → E u = u
section
variable {N M : List Nd} {m : Nat} {O : List (Nat × Nat)} {E : Nat → Nat} {S : Nat → Int} {r : Nat}
theorem Tb.to_o (h : Tb N M m O E S r) {u v : Nat} (ho : (u, v) ∈ O) : toF (M ++ List.replicate r varN) S (v : Int) = (v : Int) := by
  obtain ⟨_, _, hv, c⟩ := h.o u v ho
  unfold toF
  rw [Int.toNat_natCast, getD_app_l hv, ← c.kd, ← c.nu]
  rw [if_neg (fun hx => by have := c.va hx.1; omega)]
theorem Tb.cases (h : Tb N M m O E S r) {x y : Int} (hr : Rtb M m O E (M ++ List.replicate r varN) S x y) : (∃ u v : Nat, (u, v) ∈ O ∧ x = (u : Int) ∧ y = (v : Int)) ∨ (∃ i : Nat, i < m ∧ E i < m ∧ x = ((E i : Nat) : Int) ∧ y = S i) := by
  have nm : ∀ i : Nat, i < m → x = ((E i : Nat) : Int) → y = S i → (∃ u v : Nat, (u, v) ∈ O ∧ x = (u : Int) ∧ y = (v : Int)) ∨ (∃ i : Nat, i < m ∧ E i < m ∧ x = ((E i : Nat) : Int) ∧ y = S i) := fun i hi ex ey => by
    rcases h.s1 i hi with ⟨v, hv, e⟩ | ⟨e1, _⟩
    · exact Or.inl ⟨E i, v, hv, ex, ey.trans e⟩
    · exact Or.inr ⟨i, hi, e1, ex, ey⟩
  rcases hr with ⟨a, b, hl, ex, ey⟩ | ⟨i, hi, ex, ey⟩
  · rcases hl with ⟨i, hi, ea, h0, h1, hb⟩ | ⟨u, v, ho, ea, eb⟩
    · refine nm i hi ?_ ?_
      · rw [ex, ea]; simp [EI]
      · rw [ey]
        unfold toF
        rw [getD_app_l (by omega), hb]
        rw [if_pos ⟨rfl, by show 0 < 1 + (i : Int); omega⟩]
        show S (1 + (i : Int) - 1).toNat = S i
        congr 1
        omega
    · refine Or.inl ⟨u, v, ho, ?_, ?_⟩
      · rw [ex, ea]
        simp only [EI, Int.toNat_natCast]
        rw [h.e u (h.o u v ho).1]
      · rw [ey, eb, h.to_o ho]
  · exact nm i hi ex ey
theorem gWh_nd {M' : List Nd} {B : List Int} {v : Nat} (h : v < M'.length) : (gWh M' S B).nd (v : Int) = whX M' S (M'.getD v nd0) := by
  unfold gWh Gf.nd
  rw [Int.toNat_natCast]
  exact map_getD_nd h
theorem tb_pr (h : Tb N M m O E S r) {A B : List Int} (hl : A.length = B.length) (hAB : ∀ j, j < A.length → Lk M m O (A.getD j 0) (B.getD j 0)) : Pr (gE N A E) (gWh (M ++ List.replicate r varN) S B) (Rtb M m O E (M ++ List.replicate r varN) S) := by
  have hlN : (gE N A E).nodes.length = N.length := by simp [gE]
  have hlM : (M ++ List.replicate r varN).length = M.length + r := by simp
  have hlW : (gWh (M ++ List.replicate r varN) S B).nodes.length = M.length + r := by simp [gWh]
  have ndu : ∀ u, u < N.length → (gE N A E).nd (u : Int) = renum (EI E) (N.getD u nd0) := fun u hu => gE_at hu
  have ndv : ∀ v, v < M.length → (gWh (M ++ List.replicate r varN) S B).nd (v : Int) = whX (M ++ List.replicate r varN) S (M.getD v nd0) := fun v hv => by rw [gWh_nd (by omega), getD_app_l hv]
  have ndE : ∀ i, i < m → (gE N A E).nd (i : Int) = varN := fun i hi => by
    rw [ndu i (by have := h.ml; omega), h.nv i hi]
    rfl
  have ndS : ∀ y : Int, (M.length : Int) ≤ y → y < ((M.length + r : Nat) : Int) → (gWh (M ++ List.replicate r varN) S B).nd y = varN := fun y h1 h2 => by
    obtain ⟨v, rfl⟩ : ∃ v : Nat, y = (v : Int) := ⟨y.toNat, by omega⟩
    rw [gWh_nd (by omega), getD_app_rep (by omega) (by omega)]
    rfl
  have hun : ∀ i, i < m → E i < m → (M.length : Int) ≤ S i ∧ S i < ((M.length + r : Nat) : Int) := fun i hi he => by
    rcases h.s1 i hi with ⟨v, hv, _⟩ | ⟨_, e1, e2⟩
    · have := (h.o _ _ hv).1; omega
    · exact ⟨e1, e2⟩
  refine ⟨fun x y hr => ?_, fun x y hr => ?_, fun x y hr k hk => ?_, fun x y y' hr hr' hk => ?_, fun x x' y hr hr' hk => ?_, by simp [gE, gWh, hl], fun i hi => ?_⟩
  · rcases h.cases hr with ⟨u, v, ho, rfl, rfl⟩ | ⟨i, hi, he, rfl, rfl⟩
    · obtain ⟨_, h2, h3, _⟩ := h.o u v ho
      exact ⟨⟨by omega, by rw [hlN]; omega⟩, ⟨by omega, by rw [hlW]; omega⟩⟩
    · have := hun i hi he
      have := h.ml
      exact ⟨⟨by omega, by rw [hlN]; omega⟩, ⟨by omega, by rw [hlW]; omega⟩⟩
  · rcases h.cases hr with ⟨u, v, ho, rfl, rfl⟩ | ⟨i, hi, he, rfl, rfl⟩
    · obtain ⟨_, h2, h3, c⟩ := h.o u v ho
      rw [ndu u h2, ndv v h3]
      refine ⟨c.kd, c.nm, ?_, by simp only [renum, whX, List.length_map]; exact c.ln⟩
      show (N.getD u nd0).num = if (M.getD v nd0).kind = 1 then 0 else (M.getD v nd0).num
      split
      · rename_i e
        exact c.va (c.kd.trans e)
      · exact c.nu
    · have := hun i hi he
      rw [ndE _ he, ndS _ this.1 this.2]
      exact ⟨rfl, rfl, rfl, rfl⟩
  · rcases h.cases hr with ⟨u, v, ho, rfl, rfl⟩ | ⟨i, hi, he, rfl, rfl⟩
    · obtain ⟨_, h2, h3, c⟩ := h.o u v ho
      rw [ndu u h2] at hk
      have hk' : k < (N.getD u nd0).args.length := by simpa [renum] using hk
      refine Or.inl ⟨_, _, c.ar k hk', ?_, ?_⟩
      · unfold Gf.arg
        rw [ndu u h2]
        simp only [renum]
        rw [map_getD0 hk']
      · unfold Gf.arg
        rw [ndv v h3]
        simp only [whX]
        rw [map_getD0 (by rw [← c.ln]; exact hk')]
    · rw [ndE _ he] at hk
      cases hk
  · rcases h.cases hr with ⟨u, v, ho, e1, e2⟩ | ⟨i, hi, he, e1, e2⟩ <;> rcases h.cases hr' with ⟨u', v', ho', e1', e2'⟩ | ⟨i', hi', he', e1', e2'⟩
    · have := (h.uq _ ho _ ho').1 (by show u = u'; omega)
      have : v = v' := this
      omega
    · have := (h.o u v ho).1; omega
    · have := (h.o u' v' ho').1; omega
    · rw [e2, e2']
      exact (h.s2 i i' hi hi' he he').1 (by omega)
  · rcases h.cases hr with ⟨u, v, ho, e1, e2⟩ | ⟨i, hi, he, e1, e2⟩ <;> rcases h.cases hr' with ⟨u', v', ho', e1', e2'⟩ | ⟨i', hi', he', e1', e2'⟩
    · have := (h.uq _ ho _ ho').2 (by show v = v'; omega)
      have : u = u' := this
      omega
    · have h3 := (h.o u v ho).2.2.1
      have h4 := (hun i' hi' he').1
      omega
    · have h3 := (h.o u' v' ho').2.2.1
      have h4 := (hun i hi he).1
      omega
    · rw [e1, e1', (h.s2 i i' hi hi' he he').2 (by rw [← e2, e2'])]
  · have hi' : i < A.length := by simpa [gE] using hi
    refine Or.inl ⟨_, _, hAB i hi', ?_, ?_⟩
    · show (A.map (EI E)).getD i 0 = _
      rw [map_getD0 hi']
    · show (B.map _).getD i 0 = _
      rw [map_getD0 (by omega)]
end
theorem Pr.more {a : Gf} {ns : List Nd} {rt s : List Int} {R : Int → Int → Prop} (hb : Good ⟨ns, rt ++ s⟩) (h : Pr a ⟨ns, rt⟩ R) : Pr a ⟨(trimF ⟨ns, rt ++ s⟩).nodes, rt.map (posF (metF ⟨ns, rt ++ s⟩))⟩ (fun x z => ∃ y, R x y ∧ y ∈ metF ⟨ns, rt ++ s⟩ ∧ z = posF (metF ⟨ns, rt ++ s⟩) y) := by
  have hnd : ∀ y ∈ metF ⟨ns, rt ++ s⟩, (⟨(trimF ⟨ns, rt ++ s⟩).nodes, rt.map (posF (metF ⟨ns, rt ++ s⟩))⟩ : Gf).nd (posF (metF ⟨ns, rt ++ s⟩) y) = renum (posF (metF ⟨ns, rt ++ s⟩)) ((⟨ns, rt⟩ : Gf).nd y) := fun y hy => trim_node hb y hy
  refine ⟨fun x z ⟨y, hr, hy, hz⟩ => ⟨(h.rng x y hr).1, ?_⟩, fun x z ⟨y, hr, hy, hz⟩ => ?_, fun x z ⟨y, hr, hy, hz⟩ k hk => ?_, fun x z z' ⟨y, hr, hy, hz⟩ ⟨y', hr', hy', hz'⟩ hk => ?_, fun x x' z ⟨y, hr, hy, hz⟩ ⟨y', hr', hy', hz'⟩ hk => ?_, by simp [h.len], fun i hi => ?_⟩
  · subst hz
    have := pos_rng hb y hy
    have hl := trim_len hb
    exact ⟨this.1, by show _ < ((trimF ⟨ns, rt ++ s⟩).nodes.length : Int); rw [hl]; exact this.2⟩
  · subst hz
    obtain ⟨l1, l2, l3, l4⟩ := h.lab x y hr
    rw [hnd y hy]
    exact ⟨l1, l2, l3, by simp [renum, l4]⟩
  · subst hz
    have l4 := (h.lab x y hr).2.2.2
    have hk2 : k < ((⟨ns, rt⟩ : Gf).nd y).args.length := by omega
    refine ⟨_, h.arg x y hr k hk, met_arg hb y hy _ (getD_mem hk2), ?_⟩
    unfold Gf.arg
    rw [hnd y hy]
    simp only [renum]
    rw [map_getD0 hk2]
  · subst hz hz'
    rw [h.v1 x y y' hr hr' hk]
  · subst hz
    have e := pos_inj hb y hy y' hy' hz'
    subst e
    refine h.v2 x x' y hr hr' ?_
    rw [hnd y hy] at hk
    exact hk
  · have hib : i < rt.length := by have := h.len; simp at this; omega
    refine ⟨rt.getD i 0, h.root i hi, met_root hb _ (by have := getD_mem hib; exact List.mem_append_left _ this), ?_⟩
    show (rt.map _).getD i 0 = _
    rw [map_getD0 hib]
theorem nmd_pr {a b : Gf} (ha : Good a) (hb : Good b) {ea eb : Nat → Nat → Bool} (hda : ∀ x y : Nat, (ea x y = true ↔ Al a (x : Int) (y : Int))) (hdb : ∀ x y : Nat, (eb x y = true ↔ Al b (x : Int) (y : Int))) {R : Int → Int → Prop} (h : Pr a b R) (ns : List ByteArray) (E E' : Nat → Nat) : ∀ m, (∀ j, j < m → R ((E j : Nat) : Int) ((E' j : Nat) : Int)) → nmdF eb b E' ns m = nmdF ea a E ns m
  | 0, _ => rfl
  | m + 1, hR => by
    have ih := nmd_pr ha hb hda hdb h ns E E' m (fun j hj => hR j (by omega))
    have hr := hR m (by omega)
    have p1 := h.place ha hb hda hdb _ _ hr
    have p2 := h.symm.place hb ha hdb hda _ _ hr
    rw [nmdF, nmdF, ih]
    by_cases hm : clsI ea a.nodes.length ((E m : Nat) : Int) ∈ metF (quoF ea a)
    · obtain ⟨q1, q2⟩ := p1 hm
      rw [if_pos hm, if_pos q1]
      unfold lstI at q2
      rw [q2]
    · rw [if_neg hm, if_neg (fun h9 => hm (p2 h9).1)]
end Go.Proofs.Ytjkcffcedbcjmaa

namespace Go.Proofs.Ytjkcffcedbcjmaa
set_option maxRecDepth 100000
open Go.RowKit
theorem flatXs_app (ns : List ByteArray) : ∀ (p : Nat) (xs ys : List Ex), flatXs ns p (xs ++ ys) = ((flatXs ns p xs).1 ++ (flatXs ns (p + (flatXs ns p xs).2.length) ys).1, (flatXs ns p xs).2 ++ (flatXs ns (p + (flatXs ns p xs).2.length) ys).2)
  | p, [], ys => by rw [List.nil_append, flatXs]; simp
  | p, x :: r, ys => by
    rw [List.cons_append, flatXs, flatXs_app ns _ r ys, flatXs]
    simp only [List.length_append, List.cons_append, List.append_assoc, Nat.add_assoc]
theorem flatQ_xs (ns : List ByteArray) : ∀ (p : Nat) (qs : List (ByteArray × Ex)), (flatQ ns p qs).2 = (flatXs ns p (qs.map (·.2))).2 ∧ (flatQ ns p qs).1.length = qs.length ∧ ∀ e, e < qs.length → (flatQ ns p qs).1.getD e (0, 0) = (ixN ns (qs.getD e q0).1, ((flatXs ns p (qs.map (·.2))).1.getD e 0).toNat)
  | p, [] => by rw [flatQ, List.map_nil, flatXs]; exact ⟨rfl, rfl, fun e he => by simp at he⟩
  | p, q :: r => by
    obtain ⟨h1, h2, h3⟩ := flatQ_xs ns (p + (flatX ns p q.2).2.length) r
    rw [flatQ, List.map_cons, flatXs]
    refine ⟨by simp only [h1], by simp [h2], fun e he => ?_⟩
    cases e with
    | zero => simp
    | succ e =>
      have := h3 e (by simpa using he)
      simpa using this
theorem flatXs_len1 (ns : List ByteArray) : ∀ (p : Nat) (xs : List Ex), (flatXs ns p xs).1.length = xs.length
  | p, [] => by rw [flatXs]; rfl
  | p, x :: r => by rw [flatXs, List.length_cons, flatXs_len1 ns _ r, List.length_cons]
theorem okXs_mem2 {ns : List ByteArray} : ∀ {xs : List Ex}, (∀ x ∈ xs, okX ns x) → okXs ns xs
  | [], _ => trivial
  | x :: r, h => ⟨h x (by simp), okXs_mem2 (fun y hy => h y (by simp [hy]))⟩
mutual
theorem namX_all (P : ByteArray → Prop) (hP : ∀ s, isU s = false → P s) : ∀ (l : List ByteArray) (x : Ex), (∀ s ∈ l, P s) → ∀ s ∈ namX l x, P s
  | l, .mk k n m xs, h => by
    rw [namX]
    split
    · rename_i hn
      have hu : isU n = false := by simp at hn; exact hn.2
      refine namXs_all P hP _ xs (fun s hs => ?_)
      unfold putS at hs
      split at hs
      · exact h s hs
      · rcases List.mem_append.1 hs with e | e
        · exact h s e
        · simp at e; subst e; exact hP _ hu
    · exact namXs_all P hP _ xs h
theorem namXs_all (P : ByteArray → Prop) (hP : ∀ s, isU s = false → P s) : ∀ (l : List ByteArray) (xs : List Ex), (∀ s ∈ l, P s) → ∀ s ∈ namXs l xs, P s
  | l, [], h => by rw [namXs]; exact h
  | l, x :: r, h => by rw [namXs]; exact namXs_all P hP _ r (namX_all P hP l x h)
end
theorem namQ_all (P : ByteArray → Prop) (hP : ∀ s, isU s = false → P s) : ∀ (l : List ByteArray) (qs : List (ByteArray × Ex)), (∀ s ∈ l, P s) → (∀ q ∈ qs, P q.1) → ∀ s ∈ namQ l qs, P s
  | l, [], h, _ => by rw [namQ]; exact h
  | l, q :: r, h, hq => by
    rw [namQ]
    refine namQ_all P hP _ r (namX_all P hP _ q.2 (fun s hs => ?_)) (fun y hy => hq y (by simp [hy]))
    unfold putS at hs
    split at hs
    · exact h s hs
    · rcases List.mem_append.1 hs with e | e
      · exact h s e
      · simp at e; subst e; exact hq q (by simp)
theorem nam_noU {xs : List Ex} {qs : List (ByteArray × Ex)} (h : GoodT xs qs) (s : ByteArray) (hs : isU s = true) : inN (namA xs qs) s = false := by
  cases hin : inN (namA xs qs) s with
  | false => rfl
  | true =>
    have := namQ_all (fun s => isU s = false) (fun s h => h) (namXs [] xs) qs (namXs_all _ (fun s h => h) [] xs (by simp)) (fun q hq => (h.q.nm q hq).2) s (inN_iff.1 hin)
    rw [hs] at this
    cases this
abbrev ysF (xs : List Ex) (qs : List (ByteArray × Ex)) : List Ex := xs ++ qs.map (·.2)
abbrev rawN (xs : List Ex) (qs : List (ByteArray × Ex)) : List Nd := (putXs (namA xs qs) 0 (ysF xs qs)).2
abbrev rawB (xs : List Ex) (qs : List (ByteArray × Ex)) : List Int := (putXs (namA xs qs) 0 (ysF xs qs)).1
abbrev flaA (xs : List Ex) (qs : List (ByteArray × Ex)) : List Int := (flatXs (namA xs qs) (namA xs qs).length (ysF xs qs)).1
abbrev occA (xs : List Ex) (qs : List (ByteArray × Ex)) : List (Nat × Nat) := occXs (namA xs qs) (namA xs qs).length 0 (ysF xs qs)
def rgtF (ns : List ByteArray) (B : List Int) (X : Nat) (qs : List (ByteArray × Ex)) : Nat → Nat → Int
  | 0 => fun _ => -1
  | j + 1 => updI (rgtF ns B X qs j) (ixN ns (qs.getD j q0).1) (B.getD (X + j) 0)
theorem rgt_cases (ns : List ByteArray) (B : List Int) (X : Nat) (qs : List (ByteArray × Ex)) (i : Nat) : ∀ j, (rgtF ns B X qs j i = -1 ∧ ∀ e, e < j → ixN ns (qs.getD e q0).1 ≠ i) ∨ ∃ e, e < j ∧ ixN ns (qs.getD e q0).1 = i ∧ rgtF ns B X qs j i = B.getD (X + e) 0
  | 0 => Or.inl ⟨rfl, fun e he => by omega⟩
  | j + 1 => by
    rw [rgtF]
    unfold updI
    by_cases h : i = ixN ns (qs.getD j q0).1
    · rw [if_pos h]
      exact Or.inr ⟨j, by omega, h.symm, rfl⟩
    · rw [if_neg h]
      rcases rgt_cases ns B X qs i j with ⟨h1, h2⟩ | ⟨e, he, h1, h2⟩
      · refine Or.inl ⟨h1, fun e he => ?_⟩
        by_cases h3 : e = j
        · subst h3; exact Ne.symm h
        · exact h2 e (by omega)
      · exact Or.inr ⟨e, by omega, h1, h2⟩
def ldF (rg : Nat → Int) (M : List Nd) : LdT := fun i => if rg i < 0 then none else if (M.getD (rg i).toNat nd0).kind ≠ 1 ∨ (M.getD (rg i).toNat nd0).num = 0 then some (.inl (rg i)) else some (.inr ((M.getD (rg i).toNat nd0).num - 1).toNat)
abbrev ldA (xs : List Ex) (qs : List (ByteArray × Ex)) : LdT := ldF (rgtF (namA xs qs) (rawB xs qs) xs.length qs qs.length) (rawN xs qs)
abbrev stdS (xs : List Ex) (qs : List (ByteArray × Ex)) : Sg2 := allS (ldA xs qs) (namA xs qs).length
abbrev stdF (xs : List Ex) (qs : List (ByteArray × Ex)) : Nat → Int := finS (stdS xs qs) (rawN xs qs).length
abbrev newC (xs : List Ex) (qs : List (ByteArray × Ex)) : Nat := cntB (repB (stdS xs qs)) (namA xs qs).length
abbrev rawW (xs : List Ex) (qs : List (ByteArray × Ex)) : List Nd := rawN xs qs ++ List.replicate (newC xs qs) varN
abbrev whG (xs : List Ex) (qs : List (ByteArray × Ex)) : Gf := gWh (rawW xs qs) (stdF xs qs) ((rawB xs qs).take xs.length)
abbrev allG (xs : List Ex) (qs : List (ByteArray × Ex)) : Gf := ⟨(whG xs qs).nodes, (whG xs qs).roots ++ (List.range (namA xs qs).length).map (stdF xs qs)⟩
abbrev smlG (xs : List Ex) (qs : List (ByteArray × Ex)) : Gf := ⟨(trimF (allG xs qs)).nodes, (whG xs qs).roots.map (posF (metF (allG xs qs)))⟩
section
variable {xs : List Ex} {qs : List (ByteArray × Ex)}
theorem sys_lists (xs : List Ex) (qs : List (ByteArray × Ex)) : tieN xs qs = List.replicate (namA xs qs).length varN ++ (flatXs (namA xs qs) (namA xs qs).length (ysF xs qs)).2 ∧ tieR xs qs = (flaA xs qs).take xs.length ∧ (∀ p ∈ tieP xs qs, ∃ e, e < qs.length ∧ p = (ixN (namA xs qs) (qs.getD e q0).1, ((flaA xs qs).getD (xs.length + e) 0).toNat)) ∧ ∀ e, e < qs.length → (ixN (namA xs qs) (qs.getD e q0).1, ((flaA xs qs).getD (xs.length + e) 0).toNat) ∈ tieP xs qs := by
  obtain ⟨a1, a2, a3⟩ := tie_flat xs qs
  obtain ⟨b1, b2, b3⟩ := flatQ_xs (namA xs qs) ((namA xs qs).length + (flatXs (namA xs qs) (namA xs qs).length xs).2.length) qs
  have hap := flatXs_app (namA xs qs) (namA xs qs).length xs (qs.map (·.2))
  have hl1 := flatXs_len1 (namA xs qs) (namA xs qs).length xs
  have hat : ∀ e, (flaA xs qs).getD (xs.length + e) 0 = (flatXs (namA xs qs) ((namA xs qs).length + (flatXs (namA xs qs) (namA xs qs).length xs).2.length) (qs.map (·.2))).1.getD e 0 := fun e => by
    show (flatXs (namA xs qs) (namA xs qs).length (xs ++ qs.map (·.2))).1.getD (xs.length + e) 0 = _
    rw [hap]
    simp only [List.getD]
    rw [List.getElem?_append_right (by omega), hl1, Nat.add_sub_cancel_left]
  refine ⟨?_, ?_, fun p hp => ?_, fun e he => ?_⟩
  · rw [a2, b1]
    show _ = _ ++ (flatXs (namA xs qs) (namA xs qs).length (xs ++ qs.map (·.2))).2
    rw [hap, List.append_assoc]
  · rw [a1]
    show _ = (flatXs (namA xs qs) (namA xs qs).length (xs ++ qs.map (·.2))).1.take xs.length
    rw [hap]
    simp only
    rw [List.take_append_of_le_length (by omega), List.take_of_length_le (by omega)]
  · rw [a3] at hp
    obtain ⟨e, he, ee⟩ := List.getElem_of_mem hp
    refine ⟨e, by omega, ?_⟩
    have := b3 e (by omega)
    rw [hat, ← this, ← ee]
    simp [List.getD, he]
  · rw [hat, ← b3 e he, a3]
    have he' : e < (flatQ (namA xs qs) ((namA xs qs).length + (flatXs (namA xs qs) (namA xs qs).length xs).2.length) qs).1.length := by omega
    simp [List.getD, he']
theorem sys_occ (h : GoodT xs qs) : (∀ u v, (u, v) ∈ occA xs qs → (namA xs qs).length ≤ u ∧ u < (tieN xs qs).length ∧ v < (rawN xs qs).length ∧ Cor (tieN xs qs) (rawN xs qs) (namA xs qs).length (occA xs qs) u v) ∧ Uq (occA xs qs) ∧ (flaA xs qs).length = (rawB xs qs).length ∧ (∀ j, j < (flaA xs qs).length → Lk (rawN xs qs) (namA xs qs).length (occA xs qs) ((flaA xs qs).getD j 0) ((rawB xs qs).getD j 0)) ∧ (flaA xs qs).length = xs.length + qs.length := by
  obtain ⟨t1, t2, t3, t4⟩ := sys_lists xs qs
  have hgd : goodXs 0 (ysF xs qs) = true := goodXs_all0 (fun x hx => by
    rcases List.mem_append.1 hx with e | e
    · exact h.ex x e
    · obtain ⟨q, hq, rfl⟩ := List.mem_map.1 e
      exact h.q.ex q hq)
  have hok : okXs (namA xs qs) (ysF xs qs) := okXs_mem2 (fun x hx => by
    rcases List.mem_append.1 hx with e | e
    · exact okXs_mem (okA_x xs qs) x e
    · obtain ⟨q, hq, rfl⟩ := List.mem_map.1 e
      exact (okA_q xs qs q hq).2)
  have hN : Seg (tieN xs qs) (namA xs qs).length (flatXs (namA xs qs) (namA xs qs).length (ysF xs qs)).2 := fun i hi => by
    rw [t1]
    refine ⟨by simp; omega, ?_⟩
    simp only [List.getD]
    rw [List.getElem?_append_right (by simp), List.length_replicate, Nat.add_sub_cancel_left]
  have hM : Seg (rawN xs qs) 0 (putXs (namA xs qs) 0 (ysF xs qs)).2 := fun i hi => ⟨by simpa using hi, by rw [Nat.zero_add]⟩
  obtain ⟨o1, o2, o3, o4⟩ := occs_said (N := tieN xs qs) (M := rawN xs qs) (O := occA xs qs) (nam_noU h) 0 (namA xs qs).length 0 (ysF xs qs) hgd hok hN hM (fun o ho => ho)
  refine ⟨fun u v hu => ?_, o2, o3, o4, by rw [flatXs_len1]; simp⟩
  obtain ⟨⟨r1, r2, r3, r4⟩, c⟩ := o1 (u, v) hu
  refine ⟨r1, ?_, by simpa using r4, c⟩
  rw [t1]
  simp only [List.length_append, List.length_replicate]
  exact r2
theorem sys_ld (h : GoodT xs qs) : (∀ e, e < qs.length → (∃ i : Nat, i < (namA xs qs).length ∧ (flaA xs qs).getD (xs.length + e) 0 = (i : Int) ∧ ldA xs qs (ixN (namA xs qs) (qs.getD e q0).1) = some (.inr i)) ∨ (∃ u v : Nat, (u, v) ∈ occA xs qs ∧ (flaA xs qs).getD (xs.length + e) 0 = (u : Int) ∧ ldA xs qs (ixN (namA xs qs) (qs.getD e q0).1) = some (.inl (v : Int)))) ∧ ∀ i v, ldA xs qs i = some v → ∃ e, e < qs.length ∧ ixN (namA xs qs) (qs.getD e q0).1 = i := by
  obtain ⟨o1, o2, o3, o4, o5⟩ := sys_occ h
  have hnn := names_nodup h.q (fun q hq => (okA_q xs qs q hq).1)
  have hinj : ∀ e e', e < qs.length → e' < qs.length → ixN (namA xs qs) (qs.getD e q0).1 = ixN (namA xs qs) (qs.getD e' q0).1 → e = e' := fun e e' he he' hee => by
    unfold List.Nodup at hnn
    rw [List.pairwise_iff_getElem] at hnn
    have hg : ∀ i, i < qs.length → ∀ hi : i < (qs.map (fun q => ixN (namA xs qs) q.1)).length, (qs.map (fun q => ixN (namA xs qs) q.1))[i] = ixN (namA xs qs) (qs.getD i q0).1 := fun i h1 h2 => by simp [List.getD, h1]
    rcases Nat.lt_trichotomy e e' with hlt | heq | hgt
    · have := hnn e e' (by simpa using he) (by simpa using he') hlt
      rw [hg e he, hg e' he'] at this
      exact absurd hee this
    · exact heq
    · have := hnn e' e (by simpa using he') (by simpa using he) hgt
      rw [hg e he, hg e' he'] at this
      exact absurd hee.symm this
  refine ⟨fun e he => ?_, fun i v hv => ?_⟩
  · have hrg : rgtF (namA xs qs) (rawB xs qs) xs.length qs qs.length (ixN (namA xs qs) (qs.getD e q0).1) = (rawB xs qs).getD (xs.length + e) 0 := by
      rcases rgt_cases (namA xs qs) (rawB xs qs) xs.length qs (ixN (namA xs qs) (qs.getD e q0).1) qs.length with ⟨_, h2⟩ | ⟨e', he', h1, h2⟩
      · exact absurd rfl (h2 e he)
      · rw [h2, hinj e' e he' he h1]
    have hlk := o4 (xs.length + e) (by omega)
    show (∃ i : Nat, _ ∧ _ ∧ ldF _ _ _ = _) ∨ (∃ u v : Nat, _ ∧ _ ∧ ldF _ _ _ = _)
    unfold ldF
    rw [hrg]
    rcases hlk with ⟨i, hi, ea, h0, h1, hb⟩ | ⟨u, v, ho, ea, eb⟩
    · refine Or.inl ⟨i, hi, ea, ?_⟩
      rw [if_neg (by omega), hb, if_neg (by simp; omega)]
      show some (Sum.inr (1 + (i : Int) - 1).toNat) = _
      congr 2
      omega
    · refine Or.inr ⟨u, v, ho, ea, ?_⟩
      obtain ⟨_, _, _, c⟩ := o1 u v ho
      rw [eb, if_neg (by omega), Int.toNat_natCast, ← c.kd, ← c.nu]
      by_cases hk : ((tieN xs qs).getD u nd0).kind = 1
      · rw [if_pos (Or.inr (c.va hk))]
      · rw [if_pos (Or.inl hk)]
  · have hv' : ldF (rgtF (namA xs qs) (rawB xs qs) xs.length qs qs.length) (rawN xs qs) i = some v := hv
    unfold ldF at hv'
    rcases rgt_cases (namA xs qs) (rawB xs qs) xs.length qs i qs.length with ⟨h1, _⟩ | ⟨e, he, h1, _⟩
    · rw [h1] at hv'
      simp at hv'
    · exact ⟨e, he, h1⟩
theorem sys_nms (h : GoodT xs qs) : Nms (namA xs qs).length (tieE xs qs) (ldA xs qs) (fun a b => ∃ v : Nat, (a, v) ∈ occA xs qs ∧ b = (v : Int)) := by
  obtain ⟨o1, o2, o3, o4, o5⟩ := sys_occ h
  obtain ⟨l1, l2⟩ := sys_ld h
  obtain ⟨t1, t2, t3, t4⟩ := sys_lists xs qs
  have hnm : (tieP xs qs).map (·.1) = qs.map (fun q => ixN (namA xs qs) q.1) := by rw [(tie_flat xs qs).2.2, flatQ_names]
  have hnd : ((tieP xs qs).map (·.1)).Nodup := by rw [hnm]; exact names_nodup h.q (fun q hq => (okA_q xs qs q hq).1)
  have hlt : ∀ e, e < qs.length → ixN (namA xs qs) (qs.getD e q0).1 < (namA xs qs).length := fun e he => ixN_lt (okA_q xs qs _ (by simp [List.getD, he])).1
  have hf : ∀ p ∈ tieP xs qs, p.1 < (namA xs qs).length := fun p hp => by
    obtain ⟨e, he, rfl⟩ := t3 p hp
    exact hlt e he
  have hfix : ∀ z, (namA xs qs).length ≤ z → tieE xs qs z = z := bind_fix _ (tieP xs qs) id hf (fun _ _ => rfl)
  have hpair : ∀ e, e < qs.length → tieE xs qs (ixN (namA xs qs) (qs.getD e q0).1) = tieE xs qs ((flaA xs qs).getD (xs.length + e) 0).toNat := fun e he => bind_pair (tieP xs qs) id hnd (fun _ _ => rfl) _ (t4 e he)
  have hker := fun x y => ker_iff (ps := tieP xs qs) hnd x y
  refine ⟨fun i b hi hl => ?_, fun i j hi hl => ?_, fun D hD i j hi hj he hee => ?_, fun A hA1 hA2 i hi he => ?_⟩
  · obtain ⟨e, hq, rfl⟩ := l2 i _ hl
    rcases l1 e hq with ⟨k, _, _, h2⟩ | ⟨u, v, ho, ea, h2⟩
    · rw [h2] at hl; cases hl
    · rw [h2] at hl
      injection hl with hl
      injection hl with hl
      have hp := hpair e hq
      rw [ea, Int.toNat_natCast, hfix u (o1 u v ho).1] at hp
      rw [hp]
      exact ⟨by omega, (o1 u v ho).1, v, ho, hl.symm⟩
  · obtain ⟨e, hq, rfl⟩ := l2 i _ hl
    rcases l1 e hq with ⟨k, hk, ea, h2⟩ | ⟨u, v, ho, ea, h2⟩
    · rw [h2] at hl
      injection hl with hl
      injection hl with hl
      subst hl
      have hp := hpair e hq
      rw [ea, Int.toNat_natCast] at hp
      exact ⟨hk, hp⟩
    · rw [h2] at hl; cases hl
  · have hk := (hker i j).1 hee (fun u v => (u < (namA xs qs).length → tieE xs qs u < (namA xs qs).length → D u) ↔ (v < (namA xs qs).length → tieE xs qs v < (namA xs qs).length → D v)) (fun _ => Iff.rfl) (fun _ _ e => e.symm) (fun _ _ _ e e' => e.trans e') (fun p hp => by
      obtain ⟨e, hq, rfl⟩ := t3 p hp
      have hp2 := hpair e hq
      have hi2 := hlt e hq
      simp only
      rcases l1 e hq with ⟨k, hk, ea, h2⟩ | ⟨u, v, ho, ea, h2⟩
      · rw [ea, Int.toNat_natCast] at hp2 ⊢
        constructor
        · intro h3 _ h5
          exact (hD _ k hi2 (by rw [hp2]; exact h5) h2).1 (h3 hi2 (by rw [hp2]; exact h5))
        · intro h3 _ h5
          exact (hD _ k hi2 h5 h2).2 (h3 hk (by rw [← hp2]; exact h5))
      · rw [ea, Int.toNat_natCast] at hp2 ⊢
        have hu := (o1 u v ho).1
        rw [hfix u hu] at hp2
        constructor
        · intro _ h4
          omega
        · intro _ _ h5
          omega)
    have hej : tieE xs qs j < (namA xs qs).length := by rw [← hee]; exact he
    exact ⟨fun h1 => hk.1 (fun _ _ => h1) hj hej, fun h1 => hk.2 (fun _ _ => h1) hi he⟩
  · have hee : tieE xs qs i = tieE xs qs (tieE xs qs i) := (hfix _ he).symm
    have hk := (hker i (tieE xs qs i)).1 hee (fun u v => (u < (namA xs qs).length → A u) ↔ (v < (namA xs qs).length → A v)) (fun _ => Iff.rfl) (fun _ _ e => e.symm) (fun _ _ _ e e' => e.trans e') (fun p hp => by
      obtain ⟨e, hq, rfl⟩ := t3 p hp
      have hi2 := hlt e hq
      simp only
      rcases l1 e hq with ⟨k, hk, ea, h2⟩ | ⟨u, v, ho, ea, h2⟩
      · rw [ea, Int.toNat_natCast]
        have := hA2 _ k hi2 h2
        exact ⟨fun h3 _ => this.1 (h3 hi2), fun h3 _ => this.2 (h3 hk)⟩
      · rw [ea, Int.toNat_natCast]
        have hu := (o1 u v ho).1
        exact ⟨fun _ h4 => by omega, fun _ _ => hA1 _ _ hi2 h2⟩)
    exact hk.2 (fun h4 => by omega) hi
theorem sys_tb (h : GoodT xs qs) : Tb (tieN xs qs) (rawN xs qs) (namA xs qs).length (occA xs qs) (tieE xs qs) (stdF xs qs) (newC xs qs) := by
  obtain ⟨o1, o2, o3, o4, o5⟩ := sys_occ h
  obtain ⟨t1, t2, t3, t4⟩ := sys_lists xs qs
  have hlt : ∀ e, e < qs.length → ixN (namA xs qs) (qs.getD e q0).1 < (namA xs qs).length := fun e he => ixN_lt (okA_q xs qs _ (by simp [List.getD, he])).1
  obtain ⟨f1, f2, _⟩ := fin_said (sys_nms h) (rawN xs qs).length
  refine ⟨o1, o2, fun i hi => ?_, f2, fun i hi => ?_, by rw [t1]; simp, bind_fix _ (tieP xs qs) id (fun p hp => by obtain ⟨e, he, rfl⟩ := t3 p hp; exact hlt e he) (fun _ _ => rfl)⟩
  · rcases f1 i hi with ⟨_, ⟨v, hv, e⟩, _⟩ | ⟨e1, e2, e3⟩
    · exact Or.inl ⟨v, hv, e⟩
    · exact Or.inr ⟨e1, e2, e3⟩
  · rw [t1]
    simp [List.getD, List.getElem?_append_left, hi]
theorem std_rng (h : GoodT xs qs) {i : Nat} (hi : i < (namA xs qs).length) : 0 ≤ stdF xs qs i ∧ stdF xs qs i < ((rawW xs qs).length : Int) := by
  have hl : (rawW xs qs).length = (rawN xs qs).length + newC xs qs := by simp
  rcases (sys_tb h).s1 i hi with ⟨v, hv, e⟩ | ⟨_, e2, e3⟩
  · have := ((sys_tb h).o _ _ hv).2.2.1
    omega
  · omega
theorem raw_good (h : GoodT xs qs) : ∀ n ∈ rawN xs qs, (n.kind = 1 ∧ n.name = ⟨#[]⟩ ∧ n.args = [] ∧ 0 ≤ n.num ∧ n.num ≤ ((namA xs qs).length : Int)) ∨ (n.kind ≠ 1 ∧ goodNd (rawN xs qs).length n = true) := by
  refine puts_good (rawN xs qs).length 0 0 (ysF xs qs) (goodXs_all0 (fun x hx => ?_)) (okXs_mem2 (fun x hx => ?_)) (by rw [Nat.zero_add]; exact Nat.le_refl _)
  · rcases List.mem_append.1 hx with e | e
    · exact h.ex x e
    · obtain ⟨q, hq, rfl⟩ := List.mem_map.1 e
      exact h.q.ex q hq
  · rcases List.mem_append.1 hx with e | e
    · exact okXs_mem (okA_x xs qs) x e
    · obtain ⟨q, hq, rfl⟩ := List.mem_map.1 e
      exact (okA_q xs qs q hq).2
theorem to_rng (h : GoodT xs qs) {b : Int} (h0 : 0 ≤ b) (h1 : b < ((rawN xs qs).length : Int)) : 0 ≤ toF (rawW xs qs) (stdF xs qs) b ∧ toF (rawW xs qs) (stdF xs qs) b < ((rawW xs qs).length : Int) := by
  have hl : (rawW xs qs).length = (rawN xs qs).length + newC xs qs := by simp
  have hb : b.toNat < (rawN xs qs).length := by omega
  unfold toF
  rw [getD_app_l hb]
  split
  · rename_i hk
    rcases raw_good h ((rawN xs qs).getD b.toNat nd0) (by simp [List.getD, hb]) with ⟨_, _, _, h2, h3⟩ | ⟨h2, _⟩
    · exact std_rng h (by omega)
    · exact absurd hk.1 h2
  · omega
theorem all_good (h : GoodT xs qs) (hb : (rawN xs qs).length + (namA xs qs).length ≤ 4096) (hr : xs.length + (namA xs qs).length ≤ 4096) : Good (allG xs qs) := by
  have hcl : newC xs qs ≤ (namA xs qs).length := cntB_le (repB (stdS xs qs)) (namA xs qs).length
  have hl : (rawW xs qs).length = (rawN xs qs).length + newC xs qs := by simp
  have hln : (allG xs qs).nodes.length = (rawW xs qs).length := by simp [gWh]
  have hlb : (rawB xs qs).length = xs.length + qs.length := by rw [putXs_len1]; simp
  refine ⟨by rw [hln, hl]; omega, ?_, fun n hn => ?_, fun z hz => ?_⟩
  · show ((whG xs qs).roots ++ _).length ≤ 4096
    simp only [gWh, List.length_append, List.length_map, List.length_take, List.length_range]
    omega
  · obtain ⟨x, hx, rfl⟩ := List.mem_map.1 hn
    rw [hln]
    rcases List.mem_append.1 hx with e | e
    · rcases raw_good h x e with ⟨h1, h2, h3, h4, h5⟩ | ⟨h1, h2⟩
      · have : whX (rawW xs qs) (stdF xs qs) x = varN := by
          unfold whX
          rw [h1, h2, h3]
          rfl
        rw [this]
        exact goodNd_var _
      · have : whX (rawW xs qs) (stdF xs qs) x = renum (toF (rawW xs qs) (stdF xs qs)) x := by
          unfold whX renum
          rw [if_neg h1]
        rw [this]
        exact renum_good h2 (fun z hz => to_rng h ((good_args h2).1 z hz).1 ((good_args h2).1 z hz).2)
    · rw [(List.mem_replicate.1 e).2]
      exact goodNd_var _
  · rw [hln]
    rcases List.mem_append.1 hz with e | e
    · obtain ⟨b, hb', rfl⟩ := List.mem_map.1 e
      have h9 : 0 ≤ b ∧ b < ((rawN xs qs).length : Int) := by simpa using puts_rng (ns := namA xs qs) 0 (ysF xs qs) b (List.mem_of_mem_take hb')
      exact to_rng h h9.1 h9.2
    · obtain ⟨i, hi, rfl⟩ := List.mem_map.1 e
      exact std_rng h (List.mem_range.1 hi)
theorem sml_good (h : GoodT xs qs) (hb : (rawN xs qs).length + (namA xs qs).length ≤ 4096) (hr : xs.length + (namA xs qs).length ≤ 4096) : Good (smlG xs qs) := by
  have hg := trim_good0 (all_good h hb hr)
  refine ⟨hg.nodes, ?_, hg.node, fun z hz => hg.root z ?_⟩
  · have := (all_good h hb hr).roots
    simp only [List.length_append] at this
    show ((whG xs qs).roots.map _).length ≤ 4096
    rw [List.length_map]
    omega
  · obtain ⟨y, hy, rfl⟩ := List.mem_map.1 hz
    exact List.mem_map.2 ⟨y, List.mem_append_left _ hy, rfl⟩
theorem sys_least (h : GoodT xs qs) (hb4 : (namA xs qs).length + othA xs qs ≤ 4096) (hb : (rawN xs qs).length + (namA xs qs).length ≤ 4096) (hr : xs.length + (namA xs qs).length ≤ 4096) {e e' : Nat → Nat → Bool} (hd : ∀ x y : Nat, (e x y = true ↔ Al (tieG xs qs) (x : Int) (y : Int))) (hd' : ∀ x y : Nat, (e' x y = true ↔ Al (smlG xs qs) (x : Int) (y : Int))) :
    trimF (quoF e' (smlG xs qs)) = trimF (quoF e (tieG xs qs)) ∧ nmdF e' (smlG xs qs) (fun i => (posF (metF (allG xs qs)) (stdF xs qs i)).toNat) (namA xs qs) (namA xs qs).length = nmdF e (tieG xs qs) (tieE xs qs) (namA xs qs) (namA xs qs).length := by
  obtain ⟨o1, o2, o3, o4, o5⟩ := sys_occ h
  obtain ⟨t1, t2, t3, t4⟩ := sys_lists xs qs
  have hT := sys_tb h
  have hlA : (tieR xs qs).length = xs.length := by rw [t2, List.length_take]; omega
  have hpr := tb_pr hT (A := tieR xs qs) (B := (rawB xs qs).take xs.length) (by rw [hlA, List.length_take]; omega) (fun j hj => by
    rw [hlA] at hj
    have := o4 j (by omega)
    rw [t2]
    have e1 : ((flaA xs qs).take xs.length).getD j 0 = (flaA xs qs).getD j 0 := by simp [List.getD, hj]
    have e2 : ((rawB xs qs).take xs.length).getD j 0 = (rawB xs qs).getD j 0 := by simp [List.getD, hj]
    rw [e1, e2]
    exact this)
  have hG := tie_goodG h hb4
  have hA := all_good h hb hr
  have hS := sml_good h hb hr
  have hpr2 := Pr.more (s := (List.range (namA xs qs).length).map (stdF xs qs)) hA hpr
  refine ⟨(Pr.least hG hS hd hd' hpr2).symm, nmd_pr hG hS hd hd' hpr2 _ _ _ _ (fun j hj => ?_)⟩
  have hm : stdF xs qs j ∈ metF (allG xs qs) := met_root hA _ (List.mem_append_right _ (List.mem_map.2 ⟨j, List.mem_range.2 hj, rfl⟩))
  refine ⟨stdF xs qs j, Or.inr ⟨j, hj, rfl, rfl⟩, hm, ?_⟩
  exact Int.toNat_of_nonneg (pos_rng hA _ hm).1
end
end Go.Proofs.Ytjkcffcedbcjmaa

namespace Go.Proofs.Ytjkcffcedbcjmaa
set_option maxRecDepth 100000
open Go.RowKit Go.Maps
abbrev fV (c a : Int) (s : ByteArray) : Value := .agg #[.int .i64 c, .int .i64 a, .string s, .slice none 0 0]
abbrev fO (c a : Int) (s : ByteArray) : Obj := .cells #[.int .i64 c, .int .i64 a, .string s, .slice none 0 0] 37
theorem ret_sF {w : World} {fn : Func} {s u : Tmp} (hfn : fn.results = #[.tmp s, .cell u 37]) {tmps : Array Value} {q : Nat} {c a : Int} {n : ByteArray} {v1 : Value} (h1 : tmps[s]?.getD undef = v1) (h4 : tmps[u]?.getD undef = .pointer (some ⟨q, 0, none⟩)) (hq : w.heap[q]? = some (fO c a n)) : (results fn tmps).run Try.prog w = .ok (.tuple #[v1, fV c a n]) w := by
  obtain ⟨⟨z0, z1, z2, z3⟩, _⟩ := blk4 hq
  simp [results, hfn, go_sem, h1, h4, z0, z1, z2, z3]
set_option maxHeartbeats 400000 in
theorem numAt_any (c a : Int) (w : World) :
    Calls Try.prog 57 #[.int .i64 c, .int .i64 a] w fun e w' => e = .returned (fV c a ⟨#[]⟩) ∧ Below w.heap.size w w' := by
  go_enter Try.func57, Try.ntmps57
  go_wp2
  exact bodyPost_ret (v := fV c a ⟨#[]⟩) (by simp [results, Try.results57, go_sem]) rfl ⟨rfl, (Below.refl _ _).alloc (Nat.le_refl _) _⟩
set_option maxHeartbeats 400000 in
theorem numNo_any (w : World) :
    Calls Try.prog 62 #[] w fun e w' => e = .returned (fV 0 0 ⟨#[]⟩) ∧ Below w.heap.size w w' := by
  go_enter Try.func62, Try.ntmps62
  go_wp2
  exact bodyPost_ret (v := fV 0 0 ⟨#[]⟩) (by simp [results, Try.results62, go_sem]) rfl ⟨rfl, (Below.refl _ _).alloc (Nat.le_refl _) _⟩
set_option maxHeartbeats 1000000 in
theorem rGood7_any {w : World} {x : Ex} {v : Value} (hv : Xv w x v) (hz : szX x) (hp : prtX x ≤ 90000) :
    Calls Try.prog 58 #[v] w fun e w' => e = .returned (.bool (goodX 0 x)) ∧ Below w.heap.size w w' := by
  obtain ⟨k, n, m, xs⟩ := x
  obtain ⟨av, rfl, ao, c, rfl, hat⟩ := hv.parts
  have hbx := heap_alloc_new w (.cells #[.int .i64 k, .string n, .int .i64 m, .slice ao xs.length c] 48)
  have hb := below_alloc w (.cells #[.int .i64 k, .string n, .int .i64 m, .slice ao xs.length c] 48)
  have h1 := rgoodX_any _ _ _ 0 hv hz (by omega) (by omega)
  have h2 := rgoodX_any _ _ _ 0 (hv.next hb) hz (by omega) (by omega)
  generalize goodX 0 (.mk k n m xs) = gx at *
  clear hv hat
  obtain ⟨⟨e0, e1, e2, e3⟩, _⟩ := blk4 hbx
  go_enter Try.func58, Try.ntmps58
  go_wp2_with (go_at_call 76; first | (refine h1.mono ?_; rintro e w2 ⟨rfl, hb2⟩) | (refine h2.mono ?_; rintro e w2 ⟨rfl, hb2⟩))
  go_ret
  first
  | exact ⟨rfl, hb2⟩
  | exact ⟨rfl, Below.next hb hb2⟩
structure Ck (W wr : World) (sv : Value) (l : List ByteArray) : Prop where
  own : wr.ownsRow W.heap.size 9 1 sv l.length (l.map Value.string)
  b : Below W.heap.size W wr
  x : wr.heap[W.heap.size]? = some (fO 0 0 ⟨#[]⟩)
  nb : sv.ownBlock ≠ some W.heap.size
theorem Ck.start (W : World) : Ck W (W.alloc (fO 0 0 ⟨#[]⟩)) (.slice none 0 0) [] := ⟨World.ownsRow_nil _ _ _ _, below_alloc W _, heap_alloc_new W _, by simp [Value.ownBlock]⟩
theorem Ck.next {W w w' : World} {sv : Value} {l : List ByteArray} (h : Ck W w sv l) (hb : Below w.heap.size w w') : Ck W w' sv l := ⟨own_below h.own hb, Below.next h.b hb, (hb.block _ (lt_of_block h.x)).trans h.x, h.nb⟩
theorem Ck.names {W w w' : World} {sv y : Value} {l l' : List ByteArray} (h : Ck W w sv l) (h' : Nr W w w' sv y l') : Ck W w' y l' := ⟨h'.own, h'.b, (h'.mo.block _ (lt_of_block h.x) h.nb).trans h.x, fun e => by
  have := lt_of_block h.x
  rcases h'.blk _ e with e | e
  · exact h.nb e
  · omega⟩
theorem Ck.push {W w w5 : World} {o : Obj} {so : Option Addr} {sc g c : Nat} {l : List ByteArray} {s : ByteArray} (h : Ck W w (.slice so l.length sc) l) (hown : w5.ownsRow W.heap.size 9 1 (.slice (some ⟨g, 0, none⟩) (l.length + 1) c) (l.length + 1) (l.map Value.string ++ [.string s])) (hg : (w.alloc o).grownBy w5 (Value.slice so l.length sc).ownBlock) (hat : (Value.slice so l.length sc).ownBlock = some g ∨ g = w.heap.size + 1) : Ck W w5 (.slice (some ⟨g, 0, none⟩) (l.length + 1) c) (l ++ [s]) := by
  have hx := lt_of_block h.x
  have hs := h.b.size
  refine ⟨by simpa using hown, (h.b.alloc hs o).grown hg (by simp; omega) (fun k e => (h.own.lt k e).1), ?_, fun e => ?_⟩
  · rw [hg.block _ (by simp; omega) (fun e => h.nb e.symm), Below.heap_alloc _ _ _ hx]
    exact h.x
  · have e1 : g = W.heap.size := by simpa [Value.ownBlock] using e
    rcases hat with h1 | h1
    · exact h.nb (by rw [h1, e1])
    · omega
theorem chk_x {xs : List Ex} {qs : List (ByteArray × Ex)} (h1 : xs.length ≤ 4096) (h2 : qs.length ≤ 4096) {j : Nat} (hj : j < xs.length) (hg : ∀ i, i < j → goodX 0 (xs.getD i x0) = true) (hb : goodX 0 (xs.getD j x0) = false) : chkT xs qs = (81, (j : Int), ⟨#[]⟩) := by
  have e := ixOf_hit x0 (fun x => !goodX 0 x) xs j hj (fun i hi => by rw [hg i hi]; rfl) (by rw [hb]; rfl)
  unfold chkT
  rw [if_neg (by omega), if_neg (by omega), e, if_pos (by omega)]
theorem chk_q0 {xs : List Ex} {qs : List (ByteArray × Ex)} (h1 : xs.length ≤ 4096) (h2 : qs.length ≤ 4096) (hg : ∀ i, i < xs.length → goodX 0 (xs.getD i x0) = true) : chkT xs qs = chkQ xs.length ((qs.take 0).map (·.1)) (qs.drop 0) 0 := by
  have e := ixOf_miss x0 (fun x => !goodX 0 x) xs (fun i hi => by rw [hg i hi]; rfl)
  unfold chkT
  rw [if_neg (by omega), if_neg (by omega), e, if_neg (by omega)]
  rfl
theorem drop_qC {qs : List (ByteArray × Ex)} {i : Nat} (hi : i < qs.length) : qs.drop i = qs.getD i q0 :: qs.drop (i + 1) := by
  rw [List.drop_eq_getElem_cons hi]
  simp [List.getD, hi]
theorem ck_name {n i : Nat} {ah : List ByteArray} {qs : List (ByteArray × Ex)} (hi : i < qs.length) (h : isW (qs.getD i q0).1 4 = false ∨ isU (qs.getD i q0).1 = true) : chkQ n ah (qs.drop i) i = (83, (i : Int), (qs.getD i q0).1) := by
  rw [drop_qC hi, chkQ, if_pos h]
theorem ck_twice {n i : Nat} {ah : List ByteArray} {qs : List (ByteArray × Ex)} (hi : i < qs.length) (h : ¬ (isW (qs.getD i q0).1 4 = false ∨ isU (qs.getD i q0).1 = true)) (h2 : inN ah (qs.getD i q0).1 = true) : chkQ n ah (qs.drop i) i = (84, (i : Int), (qs.getD i q0).1) := by
  rw [drop_qC hi, chkQ, if_neg h, if_pos h2]
theorem ck_bad {n i : Nat} {ah : List ByteArray} {qs : List (ByteArray × Ex)} (hi : i < qs.length) (h : ¬ (isW (qs.getD i q0).1 4 = false ∨ isU (qs.getD i q0).1 = true)) (h2 : ¬ inN ah (qs.getD i q0).1 = true) (h3 : goodX 0 (qs.getD i q0).2 = false) : chkQ n ah (qs.drop i) i = (81, (n : Int) + (i : Int), ⟨#[]⟩) := by
  rw [drop_qC hi, chkQ, if_neg h, if_neg h2, if_pos h3]
theorem ck_next {n i : Nat} {qs : List (ByteArray × Ex)} (hi : i < qs.length) (h : ¬ (isW (qs.getD i q0).1 4 = false ∨ isU (qs.getD i q0).1 = true)) (h2 : ¬ inN ((qs.take i).map (·.1)) (qs.getD i q0).1 = true) (h3 : goodX 0 (qs.getD i q0).2 = true) : chkQ n ((qs.take i).map (·.1)) (qs.drop i) i = chkQ n ((qs.take (i + 1)).map (·.1)) (qs.drop (i + 1)) (i + 1) := by
  rw [drop_qC hi, chkQ, if_neg h, if_neg h2, if_neg (by rw [h3]; simp)]
  have e : (qs.take (i + 1)).map (·.1) = (qs.take i).map (·.1) ++ [(qs.getD i q0).1] := by
    rw [List.take_succ_eq_append_getElem hi, List.map_append]
    simp [List.getD, hi]
  rw [e]
theorem in_ahead {qs : List (ByteArray × Ex)} {i : Nat} (hi : i ≤ qs.length) {s : ByteArray} : inN ((qs.take i).map (·.1)) s = true ↔ ∃ j, j < i ∧ (qs.getD j q0).1 = s := by
  rw [inN_iff, List.mem_map]
  constructor
  · rintro ⟨q, hq, rfl⟩
    obtain ⟨j, hj, e⟩ := List.getElem_of_mem hq
    have hj2 : j < i := by simp at hj; omega
    refine ⟨j, hj2, ?_⟩
    rw [← e]
    simp [List.getD, show j < qs.length by omega]
  · rintro ⟨j, hj, rfl⟩
    refine ⟨qs.getD j q0, ?_, rfl⟩
    have : (qs.take i)[j]? = some (qs.getD j q0) := by
      rw [List.getElem?_take_of_lt hj]
      simp [List.getD, show j < qs.length by omega]
    exact List.mem_of_getElem? this
theorem namQ_snoc (l : List ByteArray) : ∀ (qs : List (ByteArray × Ex)) (j : Nat), j < qs.length → namQ l (qs.take (j + 1)) = namX (putS (namQ l (qs.take j)) (qs.getD j q0).1) (qs.getD j q0).2 := by
  intro qs j
  induction qs generalizing l j with
  | nil => intro h; simp at h
  | cons q r ih =>
    intro h
    cases j with
    | zero => simp [namQ]
    | succ j =>
      simp only [List.take_succ_cons, namQ]
      rw [ih _ j (by simpa using h)]
      simp [List.getD]
theorem othQ_snoc : ∀ (qs : List (ByteArray × Ex)) (j : Nat), j < qs.length → othQ (qs.take (j + 1)) = othQ (qs.take j) + othX (qs.getD j q0).2
  | q :: r, 0, _ => by simp [othQ]
  | q :: r, j + 1, h => by
    have := othQ_snoc r j (by simpa using h)
    have e : (q :: r).getD (j + 1) q0 = r.getD j q0 := by simp [List.getD]
    rw [e]
    simp only [List.take_succ_cons, othQ]
    omega
end Go.Proofs.Ytjkcffcedbcjmaa

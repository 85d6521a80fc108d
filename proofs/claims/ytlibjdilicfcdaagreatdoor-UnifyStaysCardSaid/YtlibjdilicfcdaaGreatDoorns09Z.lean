/- What Head and Place of package word do, each at every word. -/
import Derived.OrdersIn
import Derived.OwnWalkIn
import Derived.RangeFuncCalls
import Derived.Test.YtlibjdilicfcdaaGreatDoorns02Z
import Derived.Test.YtlibjdilicfcdaaGreatDoorns04Z
import Derived.Test.YtlibjdilicfcdaaGreatDoorns05Z
namespace Go.Proofs.YtlibjdilicfcdaaGreatDoor
set_option maxRecDepth 100000
open Go.RowKit
set_option maxHeartbeats 1000000 in
theorem head_yes (n : Int) (w : World) (h0 : 0 ≤ n) (h1 : n ≤ 18446744073709551615) (h : goodB n = true) (ht : n % 8 = 4) :
    Calls Tryz.prog 100 #[.int .u64 n] w fun e w' => e = .returned (.tuple #[.int .i64 (valOf n / 16), .int .i64 (valOf n % 16), .bool true]) ∧ w' = w := by
  have hv := fun_val n h ht
  go_enter Tryz.func100, Tryz.ntmps100
  go_wp2_with (first | (go_at_call 98; refine (tag_any _ _ h0 h1).mono ?_; rintro e w' ⟨rfl, rfl⟩) | (go_at_call 111; refine (value_any _ _).mono ?_; rintro e w' ⟨rfl, rfl⟩) | (go_at_call 131; refine (w_good_any _ _ h0 h1).mono ?_; rintro e w' ⟨rfl, rfl⟩) | (go_at_call 132; refine (w_split_any _ _ (by omega) (by omega)).mono ?_; rintro e w' ⟨rfl, rfl⟩))
  go_ret3
  exact ⟨rfl, rfl⟩
set_option maxHeartbeats 1000000 in
theorem head_no (n : Int) (w : World) (h0 : 0 ≤ n) (h1 : n ≤ 18446744073709551615) (h : goodB n = false ∨ n % 8 ≠ 4) :
    Calls Tryz.prog 100 #[.int .u64 n] w fun e w' => e = .returned (.tuple #[.int .i64 0, .int .i64 0, .bool false]) ∧ w' = w := by
  by_cases hg : goodB n = true
  · have ht : (n % 8 != 4) = true := by rw [hg] at h; simpa using h
    clear h
    go_enter Tryz.func100, Tryz.ntmps100
    go_wp2_with (first | (go_at_call 98; refine (tag_any _ _ h0 h1).mono ?_; rintro e w' ⟨rfl, rfl⟩) | (go_at_call 131; refine (w_good_any _ _ h0 h1).mono ?_; rintro e w' ⟨rfl, rfl⟩))
    go_ret3
    exact ⟨rfl, rfl⟩
  · have hg : goodB n = false := by simpa using hg
    clear h
    go_enter Tryz.func100, Tryz.ntmps100
    go_wp2_with (first | (go_at_call 98; refine (tag_any _ _ h0 h1).mono ?_; rintro e w' ⟨rfl, rfl⟩) | (go_at_call 131; refine (w_good_any _ _ h0 h1).mono ?_; rintro e w' ⟨rfl, rfl⟩))
    go_ret3
    exact ⟨rfl, rfl⟩
end Go.Proofs.YtlibjdilicfcdaaGreatDoor

namespace Go.Proofs.YtlibjdilicfcdaaGreatDoor
set_option maxRecDepth 100000
open Go.RowKit
def ndN (ns : List Nd) (x : Nat) : Nd := ns.getD x nd0
def argN (ns : List Nd) (x k : Nat) : Nat := ((ndN ns x).args.getD k 0).toNat
def labS (m n : Nd) : Prop := m.kind = n.kind ∧ m.name = n.name ∧ m.num = n.num ∧ m.args.length = n.args.length
theorem labS.symm {m n : Nd} (h : labS m n) : labS n m := ⟨h.1.symm, h.2.1.symm, h.2.2.1.symm, h.2.2.2.symm⟩
theorem labS.trans {l m n : Nd} (h : labS l m) (k : labS m n) : labS l n := ⟨h.1.trans k.1, h.2.1.trans k.2.1, h.2.2.1.trans k.2.2.1, h.2.2.2.trans k.2.2.2⟩
theorem labS.refl (m : Nd) : labS m m := ⟨rfl, rfl, rfl, rfl⟩
structure Eq3 (R : Nat → Nat → Prop) : Prop where
  refl : ∀ x, R x x
  symm : ∀ x y, R x y → R y x
  trans : ∀ x y z, R x y → R y z → R x z
structure Cg (ns : List Nd) (R : Nat → Nat → Prop) : Prop extends Eq3 R where
  lab : ∀ x y, x < ns.length → y < ns.length → R x y → (ndN ns x).kind ≠ 1 → (ndN ns y).kind ≠ 1 → labS (ndN ns x) (ndN ns y) ∧ ∀ k, k < (ndN ns x).args.length → R (argN ns x k) (argN ns y k)
def Gnf (E : Nat → Nat) (todo : List (Nat × Nat)) (u v : Nat) : Prop := ∀ R, Eq3 R → (∀ x y, E x = E y → R x y) → (∀ p ∈ todo, R p.1 p.2) → R u v
structure GoodA (ns : List Nd) : Prop where
  arg : ∀ x, x < ns.length → ∀ k, k < (ndN ns x).args.length → 0 ≤ (ndN ns x).args.getD k 0 ∧ argN ns x k < ns.length
  var : ∀ x, (ndN ns x).kind = 1 → (ndN ns x).args = []
  few : ∀ x, (ndN ns x).args.length ≤ 8
structure Un (ns : List Nd) (P : List (Nat × Nat)) (E : Nat → Nat) (todo : List (Nat × Nat)) : Prop where
  rng : ∀ x, x < ns.length → E x < ns.length
  idem : ∀ x, E (E x) = E x
  min : ∀ R, Cg ns R → (∀ p ∈ P, R p.1 p.2) → (∀ x y, E x = E y → R x y) ∧ ∀ p ∈ todo, R p.1 p.2
  tr : ∀ p ∈ todo, p.1 < ns.length ∧ p.2 < ns.length
  rep : ∀ x, x < ns.length → (ndN ns x).kind ≠ 1 → (ndN ns (E x)).kind ≠ 1 ∧ labS (ndN ns x) (ndN ns (E x)) ∧ ∀ k, k < (ndN ns x).args.length → Gnf E todo (argN ns x k) (argN ns (E x) k)
  got : ∀ p ∈ P, Gnf E todo p.1 p.2
theorem Un.init (ns : List Nd) : Un ns [] id [] :=
  ⟨fun _ h => h, fun _ => rfl, fun R hR _ => ⟨fun x y e => (show x = y from e) ▸ hR.refl x, fun p h => (by cases h)⟩, fun p h => (by cases h), fun x _ hk => ⟨hk, labS.refl _, fun k _ R hR _ _ => hR.refl _⟩, fun p h => (by cases h)⟩
theorem Gnf.mono {E : Nat → Nat} {t t' : List (Nat × Nat)} {u v : Nat} (h : Gnf E t u v) (ht : ∀ p ∈ t, p ∈ t') : Gnf E t' u v := fun R hR hk hp => h R hR hk (fun p hq => hp p (ht p hq))
theorem Un.pair {ns : List Nd} {P : List (Nat × Nat)} {E : Nat → Nat} (h : Un ns P E []) {i j : Nat} (hi : i < ns.length) (hj : j < ns.length) : Un ns (P ++ [(i, j)]) E [(i, j)] := by
  refine ⟨h.rng, h.idem, fun R hR hp => ⟨(h.min R hR (fun p hq => hp p (by simp [hq]))).1, fun p hq => ?_⟩, fun p hq => ?_, fun x hx hk => ?_, fun p hq => ?_⟩
  · have e : p = (i, j) := by simpa using hq
    subst e
    exact hp (i, j) (by simp)
  · have e : p = (i, j) := by simpa using hq
    subst e
    exact ⟨hi, hj⟩
  · obtain ⟨h1, h2, h3⟩ := h.rep x hx hk
    exact ⟨h1, h2, fun k hk => (h3 k hk).mono (by simp)⟩
  · rcases List.mem_append.1 hq with e | e
    · exact (h.got p e).mono (by simp)
    · exact fun R _ _ ht => ht p e
theorem Un.skip {ns : List Nd} {P : List (Nat × Nat)} {E : Nat → Nat} {todo : List (Nat × Nat)} {a b : Nat} (h : Un ns P E (todo ++ [(a, b)])) (he : E a = E b) : Un ns P E todo := by
  have hm : ∀ {u v : Nat}, Gnf E (todo ++ [(a, b)]) u v → Gnf E todo u v := fun hg R hR hk hp => hg R hR hk (fun p hq => by
    rcases List.mem_append.1 hq with e | e
    · exact hp p e
    · have e1 : p = (a, b) := by simpa using e
      subst e1
      exact hk a b he)
  refine ⟨h.rng, h.idem, fun R hR hp => ⟨(h.min R hR hp).1, fun p hq => (h.min R hR hp).2 p (by simp [hq])⟩, fun p hq => h.tr p (by simp [hq]), fun x hx hk => ?_, fun p hq => hm (h.got p hq)⟩
  obtain ⟨h1, h2, h3⟩ := h.rep x hx hk
  exact ⟨h1, h2, fun k hk => hm (h3 k hk)⟩
def newsF (ns : List Nd) (keep drop : Nat) : Nat → List (Nat × Nat)
  | 0 => []
  | k + 1 => newsF ns keep drop k ++ [(argN ns keep k, argN ns drop k)]
theorem newsF_mem {ns : List Nd} {keep drop : Nat} : ∀ {n : Nat} {p : Nat × Nat}, p ∈ newsF ns keep drop n ↔ ∃ k, k < n ∧ p = (argN ns keep k, argN ns drop k)
  | 0, p => ⟨fun h => (by cases h), fun ⟨k, h, _⟩ => absurd h (Nat.not_lt_zero _)⟩
  | n + 1, p => by
    rw [newsF, List.mem_append, newsF_mem (n := n)]
    constructor
    · rintro (⟨k, hk, e⟩ | h)
      · exact ⟨k, by omega, e⟩
      · exact ⟨n, by omega, by simpa using h⟩
    · rintro ⟨k, hk, e⟩
      by_cases hn : k < n
      · exact Or.inl ⟨k, hn, e⟩
      · have e1 : k = n := by omega
        subst e1
        exact Or.inr (by simp [e])
theorem newsF_len (ns : List Nd) (keep drop : Nat) : ∀ n, (newsF ns keep drop n).length = n
  | 0 => rfl
  | n + 1 => by rw [newsF, List.length_append, newsF_len ns keep drop n]; rfl
theorem Un.bind {ns : List Nd} (hA : GoodA ns) {P : List (Nat × Nat)} {E : Nat → Nat} {todo : List (Nat × Nat)} {a b keep drop : Nat} (h : Un ns P E (todo ++ [(a, b)])) (hkd : (keep = E a ∧ drop = E b) ∨ (keep = E b ∧ drop = E a)) (hne : keep ≠ drop)
    (hl : (ndN ns drop).kind = 1 ∨ ((ndN ns drop).kind ≠ 1 ∧ (ndN ns keep).kind ≠ 1 ∧ labS (ndN ns keep) (ndN ns drop))) : Un ns P (bindE E (drop, keep)) (todo ++ newsF ns keep drop (ndN ns drop).args.length) := by
  have hab := h.tr (a, b) (by simp)
  have hEk : E keep = keep := by rcases hkd with ⟨e, _⟩ | ⟨e, _⟩ <;> rw [e, h.idem]
  have hEd : E drop = drop := by rcases hkd with ⟨_, e⟩ | ⟨_, e⟩ <;> rw [e, h.idem]
  have hkN : keep < ns.length := by rcases hkd with ⟨e, _⟩ | ⟨e, _⟩ <;> rw [e]; exact h.rng _ hab.1; exact h.rng _ hab.2
  have hdN : drop < ns.length := by rcases hkd with ⟨_, e⟩ | ⟨_, e⟩ <;> rw [e]; exact h.rng _ hab.2; exact h.rng _ hab.1
  have hE' : ∀ x, bindE E (drop, keep) x = if E x = drop then keep else E x := fun x => by
    show (if E x = drop then E keep else E x) = _
    rw [hEk]
  have hker : ∀ x y, E x = E y → bindE E (drop, keep) x = bindE E (drop, keep) y := fun x y e => by rw [hE', hE', e]
  have hpr : bindE E (drop, keep) a = bindE E (drop, keep) b := by
    rw [hE', hE']
    rcases hkd with ⟨e1, e2⟩ | ⟨e1, e2⟩
    · rw [if_neg (fun e => hne (by rw [e1, e])), if_pos e2.symm, e1]
    · rw [if_pos e2.symm, if_neg (fun e => hne (by rw [e1, e])), e1]
  have hmono : ∀ {u v : Nat}, Gnf E (todo ++ [(a, b)]) u v → Gnf (bindE E (drop, keep)) (todo ++ newsF ns keep drop (ndN ns drop).args.length) u v := fun hg R hR hk hp => hg R hR (fun x y e => hk x y (hker x y e)) (fun p hq => by
    rcases List.mem_append.1 hq with e | e
    · exact hp p (by simp [e])
    · have e1 : p = (a, b) := by simpa using e
      subst e1
      exact hk a b hpr)
  refine ⟨fun x hx => ?_, fun x => ?_, fun R hR hp => ?_, fun p hq => ?_, fun x hx hk => ?_, fun p hq => hmono (h.got p hq)⟩
  · rw [hE']
    split
    · exact hkN
    · exact h.rng x hx
  · rw [hE' x]
    split
    · rw [hE', hEk, if_neg hne]
    · rename_i e
      rw [hE', h.idem, if_neg e]
  · obtain ⟨h1, h2⟩ := h.min R hR hp
    have hRab := h2 (a, b) (by simp)
    have hRkd : R keep drop := by
      rcases hkd with ⟨e1, e2⟩ | ⟨e1, e2⟩
      · exact hR.trans _ a _ (h1 _ _ (by rw [hEk, e1])) (hR.trans _ b _ hRab (h1 _ _ (by rw [hEd, e2])))
      · exact hR.trans _ b _ (h1 _ _ (by rw [hEk, e1])) (hR.trans _ a _ (hR.symm _ _ hRab) (h1 _ _ (by rw [hEd, e2])))
    have hto : ∀ x, R x (bindE E (drop, keep) x) := fun x => by
      rw [hE']
      split
      · rename_i e
        exact hR.trans _ drop _ (h1 _ _ (by rw [e, hEd])) (hR.symm _ _ hRkd)
      · exact h1 _ _ (h.idem x).symm
    refine ⟨fun x y e => hR.trans _ _ _ (hto x) (by rw [e]; exact hR.symm _ _ (hto y)), fun p hq => ?_⟩
    rcases List.mem_append.1 hq with e | e
    · exact h2 p (by simp [e])
    · obtain ⟨k, hk, rfl⟩ := newsF_mem.1 e
      rcases hl with hv | ⟨hd, hkk, hlab⟩
      · rw [hA.var drop hv] at hk
        exact absurd hk (Nat.not_lt_zero _)
      · exact (hR.lab keep drop hkN hdN hRkd hkk hd).2 k (by rw [hlab.2.2.2]; exact hk)
  · rcases List.mem_append.1 hq with e | e
    · exact h.tr p (by simp [e])
    · obtain ⟨k, hk, rfl⟩ := newsF_mem.1 e
      rcases hl with hv | ⟨hd, hkk, hlab⟩
      · rw [hA.var drop hv] at hk
        exact absurd hk (Nat.not_lt_zero _)
      · exact ⟨(hA.arg keep hkN k (by rw [hlab.2.2.2]; exact hk)).2, (hA.arg drop hdN k hk).2⟩
  · obtain ⟨h1, h2, h3⟩ := h.rep x hx hk
    by_cases e : E x = drop
    · have e1 : bindE E (drop, keep) x = keep := by rw [hE', if_pos e]
      rw [e] at h1 h2 h3
      rcases hl with hv | ⟨hd, hkk, hlab⟩
      · exact absurd hv h1
      · rw [e1]
        refine ⟨hkk, h2.trans hlab.symm, fun k hk R hR hkr hp => ?_⟩
        have g1 := hmono (h3 k hk) R hR hkr hp
        have g2 := hp (argN ns keep k, argN ns drop k) (by
          rw [List.mem_append]
          exact Or.inr (newsF_mem.2 ⟨k, by rw [← h2.2.2.2]; exact hk, rfl⟩))
        exact hR.trans _ _ _ g1 (hR.symm _ _ g2)
    · have e1 : bindE E (drop, keep) x = E x := by rw [hE', if_neg e]
      rw [e1]
      exact ⟨h1, h2, fun k hk => hmono (h3 k hk)⟩
def NoSol (ns : List Nd) (P : List (Nat × Nat)) : Prop := ∀ R, Cg ns R → (∀ p ∈ P, R p.1 p.2) → False
theorem Un.fail {ns : List Nd} {P : List (Nat × Nat)} {E : Nat → Nat} {todo : List (Nat × Nat)} {a b keep drop : Nat} (h : Un ns P E (todo ++ [(a, b)])) (hkd : (keep = E a ∧ drop = E b) ∨ (keep = E b ∧ drop = E a)) (hd : (ndN ns drop).kind ≠ 1) (hk : (ndN ns keep).kind ≠ 1) (hl : ¬ labS (ndN ns keep) (ndN ns drop)) : NoSol ns P := fun R hR hp => by
  obtain ⟨h1, h2⟩ := h.min R hR hp
  have hab := h.tr (a, b) (by simp)
  have hRab := h2 (a, b) (by simp)
  have ha : R a (E a) := h1 _ _ (h.idem a).symm
  have hb : R b (E b) := h1 _ _ (h.idem b).symm
  have hE : R (E a) (E b) := hR.trans _ _ _ (hR.symm _ _ ha) (hR.trans _ _ _ hRab hb)
  rcases hkd with ⟨rfl, rfl⟩ | ⟨rfl, rfl⟩
  · exact hl (hR.lab _ _ (h.rng _ hab.1) (h.rng _ hab.2) hE hk hd).1
  · exact hl (hR.lab _ _ (h.rng _ hab.2) (h.rng _ hab.1) (hR.symm _ _ hE) hk hd).1
theorem NoSol.more {ns : List Nd} {P Q : List (Nat × Nat)} (h : NoSol ns P) (hq : ∀ p ∈ P, p ∈ Q) : NoSol ns Q := fun R hR hp => h R hR (fun p hm => hp p (hq p hm))
theorem Un.done {ns : List Nd} {P : List (Nat × Nat)} {E : Nat → Nat} (h : Un ns P E []) : Cg ns (fun x y => E x = E y) ∧ (∀ p ∈ P, E p.1 = E p.2) ∧ ∀ R, Cg ns R → (∀ p ∈ P, R p.1 p.2) → ∀ x y, E x = E y → R x y := by
  have h3 : Eq3 (fun x y => E x = E y) := ⟨fun _ => rfl, fun _ _ e => e.symm, fun _ _ _ e f => e.trans f⟩
  have hg : ∀ {u v : Nat}, Gnf E [] u v → E u = E v := fun hg => hg (fun x y => E x = E y) h3 (fun _ _ e => e) (fun p hp => by cases hp)
  refine ⟨⟨h3, fun x y hx hy e hkx hky => ?_⟩, fun p hp => hg (h.got p hp), fun R hR hp => (h.min R hR hp).1⟩
  obtain ⟨a1, a2, a3⟩ := h.rep x hx hkx
  obtain ⟨b1, b2, b3⟩ := h.rep y hy hky
  have e' : E x = E y := e
  rw [e'] at a1 a2 a3
  refine ⟨a2.trans b2.symm, fun k hk => ?_⟩
  exact (hg (a3 k hk)).trans (hg (b3 k (by have q1 := b2.2.2.2; have q2 := a2.2.2.2; omega))).symm
def fixN (E : Nat → Nat) : Nat → Nat
  | 0 => 0
  | n + 1 => fixN E n + if E n = n then 1 else 0
theorem fixN_le {E E' : Nat → Nat} (h : ∀ x, E' x = x → E x = x) : ∀ n, fixN E' n ≤ fixN E n
  | 0 => Nat.le_refl _
  | n + 1 => by
    have := fixN_le h n
    rw [fixN, fixN]
    by_cases e : E' n = n
    · rw [if_pos e, if_pos (h n e)]; omega
    · rw [if_neg e]; omega
theorem fixN_lt {E E' : Nat → Nat} (h : ∀ x, E' x = x → E x = x) {d : Nat} (hd : E d = d) (hd' : E' d ≠ d) : ∀ n, d < n → fixN E' n < fixN E n
  | 0, h0 => absurd h0 (Nat.not_lt_zero _)
  | n + 1, hn => by
    rw [fixN, fixN]
    by_cases e : d = n
    · subst e
      have := fixN_le h d
      rw [if_neg hd', if_pos hd]
      omega
    · have := fixN_lt h hd hd' n (by omega)
      by_cases e2 : E' n = n
      · rw [if_pos e2, if_pos (h n e2)]; omega
      · rw [if_neg e2]; omega
theorem fixN_bind {E : Nat → Nat} {keep drop n : Nat} (hk : E keep = keep) (hd : E drop = drop) (hne : keep ≠ drop) (hn : drop < n) : fixN (bindE E (drop, keep)) n < fixN E n := by
  have hE' : ∀ x, bindE E (drop, keep) x = if E x = drop then keep else E x := fun x => by
    show (if E x = drop then E keep else E x) = _
    rw [hk]
  refine fixN_lt (fun x e => ?_) hd (by rw [hE', if_pos hd]; exact hne) n hn
  rw [hE'] at e
  split at e
  · rename_i e2
    subst e
    exact hk
  · exact e
theorem fixN_top (E : Nat → Nat) : ∀ n, fixN E n ≤ n
  | 0 => Nat.le_refl _
  | n + 1 => by
    have := fixN_top E n
    rw [fixN]
    split <;> omega
end Go.Proofs.YtlibjdilicfcdaaGreatDoor

namespace Go.Proofs.YtlibjdilicfcdaaGreatDoor
set_option maxRecDepth 100000
open Go.RowKit
def wpOpS (P : Program) (ops : Array Oper) (Q : Exit → Act → World → Prop) (i : Nat) (K : Act → World → Prop) (a : Act) (w : World) : Prop :=
  match ops[i]? with
  | none => K a w
  | some o => if Region.wanted o (yielded ops a.tmps) then o.wp P a w K Q else K (a.put o.dst undef) w
theorem wpOpS_step {P : Program} {ops : Array Oper} {Q : Exit → Act → World → Prop} {i : Nat} {K : Act → World → Prop} {a : Act} {w : World} {o : Oper} (ho : ops[i]? = some o) (h : ∀ K' : Act → World → Prop, (∀ a w, K a w → K' a w) → if Region.wanted o (yielded ops a.tmps) then o.wp P a w K' Q else K' (a.put o.dst undef) w) : wpOpS P ops Q i K a w := by
  unfold wpOpS
  rw [ho]
  exact h K (fun _ _ h => h)
theorem upon_wide {r n : Nat} {P : Program} {o : Oper} {a : Act} {K K' : Act → World → Prop} {Q : Exit → Act → World → Prop} (hK : ∀ a w, K a w → K' a w) : ∀ {res : Result Next}, o.upon P a K Q res → o.uponIn (Fence.wide.inRound r) n P a K' Q res := by
  intro res h
  match res, h with
  | .ok (.value v) w', h => exact hK _ _ h
  | .ok .skip w', h => exact hK _ _ h
  | .ok (.defer d) w', h => exact hK _ _ h
  | .ok (.enter f args) w', h =>
    refine ⟨fun h0 => by simp [Fence.inRound, Fence.wide] at h0, CallsIn.inRound r (callsIn_wide.2 (Calls.mono h ?_))⟩
    rintro (v | ch | _) w2 h2
    · exact hK _ _ h2
    · exact h2
    · exact h2
  | .ok (.row row args) w', h =>
    refine ⟨fun h0 => by simp [Fence.inRound, Fence.wide] at h0, fun c cs _ => ?_⟩
    obtain ⟨v, w2, h1, h2⟩ := h c cs
    exact ⟨v, w2, hK _ _ h1, stepsIn_wide.2 h2⟩
  | .ok (.round l f tmps assign body) w', h => exact h.elim
  | .halt (.panic v) w', h => exact h
theorem wpAnyIn_inv {r n : Nat} {P : Program} {md : Region.Mode} {ops : Array Oper} {Q : Exit → Act → World → Prop} (hd : ∀ (i : Nat) o, ops[i]? = some o → ∀ c, o.op ≠ .defer c) (I : Array Bool → Act → World → Prop)
    (hstep : ∀ l a w, I l a w → ∀ i, i ∈ Region.ready md ops l → wpOpS P ops Q i (I (l.setIfInBounds i true)) a w)
    (hdone : ∀ l a w, I l a w → Region.ready md ops l = [] → Q .normal a w) :
    ∀ (fuel : Nat) (l : Array Bool) (a : Act) (w : World), l.toList.count false ≤ fuel → I l a w → wpAnyIn (Fence.wide.inRound r) n P md ops Q fuel l a w
  | 0, l, a, w, hf, hI => by
    have h0 : Region.ready md ops l = [] := by
      cases e : Region.ready md ops l with
      | nil => rfl
      | cons i rs =>
        have h1 := getD_false (ready_spec (i := i) (by rw [e]; simp)).2.1
        have h2 := count_set _ _ h1
        omega
    exact ⟨h0, hdone l a w hI h0⟩
  | fuel + 1, l, a, w, hf, hI => by
    refine ⟨fun h0 => hdone l a w hI h0, fun i hi => ?_⟩
    have h1 := getD_false (ready_spec hi).2.1
    have h2 := count_set _ _ h1
    have h3 := hstep l a w hI i hi
    have hK : ∀ a' w', I (l.setIfInBounds i true) a' w' → wpAnyIn (Fence.wide.inRound r) n P md ops Q fuel (l.setIfInBounds i true) a' w' := fun a' w' h => wpAnyIn_inv hd I hstep hdone fuel _ a' w' (by rw [Array.toList_setIfInBounds]; omega) h
    unfold wpOpS at h3
    unfold wpOpIn
    cases ho : ops[i]? with
    | none =>
      rw [ho] at h3
      exact hK _ _ h3
    | some o =>
      rw [ho] at h3
      simp only at h3 ⊢
      split
      · rename_i hw
        rw [if_pos hw] at h3
        refine ⟨fun _ _ => trivial, ?_⟩
        rw [Oper.semAt_plain _ _ _ (hd i o ho)]
        exact upon_wide hK h3
      · rename_i hw
        rw [if_neg hw] at h3
        exact ⟨fun _ _ => trivial, hK _ _ h3⟩
theorem wpAny_invS {P : Program} {md : Region.Mode} {ops : Array Oper} {Q : Exit → Act → World → Prop} (I : Array Bool → Act → World → Prop)
    (hstep : ∀ l a w, I l a w → ∀ i, i ∈ Region.ready md ops l → wpOpS P ops Q i (I (l.setIfInBounds i true)) a w)
    (hdone : ∀ l a w, I l a w → Region.ready md ops l = [] → Q .normal a w) (fuel : Nat) (l : Array Bool) (a : Act) (w : World) (hf : l.toList.count false ≤ fuel) (hI : I l a w) : wpAny P md ops Q fuel l a w := by
  refine wpAny_inv I (fun l a w h i hi => ?_) hdone fuel l a w hf hI
  have h3 := hstep l a w h i hi
  unfold wpOpS at h3
  unfold wpOp
  cases ho : ops[i]? with
  | none =>
    rw [ho] at h3
    exact h3
  | some o =>
    rw [ho] at h3
    simp only at h3 ⊢
    split
    · rename_i hw
      rw [if_pos hw] at h3
      exact Or.inl h3
    · rename_i hw
      rw [if_neg hw] at h3
      exact h3
def selV (b : Bool) (v u : Value) : Value := if b then v else u
theorem selV_t (v u : Value) : selV true v u = v := rfl
def bitA (l : Array Bool) (k : Nat) : Bool := l.getD k false
theorem gsetN {N : Nat} (l : Array Bool) (i j : Nat) (hl : l.size = N) (hi : i < N) : bitA (l.setIfInBounds i true) j = if i = j then true else bitA l j := by
  unfold bitA
  simp only [Array.getD_eq_getD_getElem?, Array.getElem?_setIfInBounds]
  split
  · rename_i e
    rw [if_pos (by omega)]
    rfl
  · rfl
def Clo (f : Nat → List Nat) (l : Array Bool) : Prop := ∀ k, bitA l k = true → ∀ d ∈ f k, bitA l d = true
theorem Clo.step {N : Nat} {f : Nat → List Nat} {l : Array Bool} (h : Clo f l) (hl : l.size = N) {i : Nat} (hi : i < N) (hd : ∀ d ∈ f i, bitA l d = true) : Clo f (l.setIfInBounds i true) := fun k hk d hdk => by
  rw [gsetN l i d hl hi]
  split
  · rfl
  · rw [gsetN l i k hl hi] at hk
    by_cases e : i = k
    · subst e
      exact hd d hdk
    · rw [if_neg e] at hk
      exact h k hk d hdk
theorem Clo.start (f : Nat → List Nat) (N : Nat) : Clo f (Array.replicate N false) := fun k hk => by
  unfold bitA at hk
  rw [Array.getD_eq_getD_getElem?, Array.getElem?_replicate] at hk
  split at hk <;> cases hk
theorem goppN {N : Nat} {l : Array Bool} {i : Nat} (hl : l.size = N) (hi : i < N) : bitA l i = l.getD i true := by
  have h : i < l.size := by omega
  simp [bitA, Array.getD_eq_getD_getElem?, h]
theorem dep_at {md : Region.Mode} {ops : Array Oper} {l : Array Bool} {i j : Nat} {o : Oper} {e : Edge} (h : ((ops[i]?).map (·.after.all fun e => !Region.binds md e || l.getD e.on false)).getD false = true) (ho : ops[i]? = some o) (hj : o.after[j]? = some e) (hb : Region.binds md e = true) : bitA l e.on = true := by
  rw [ho, Option.map_some, Option.getD_some, Array.all_eq_true] at h
  obtain ⟨hlt, e1⟩ := Array.getElem?_eq_some_iff.1 hj
  have := h j hlt
  rw [e1, hb] at this
  show l.getD e.on false = true
  simpa using this
theorem noneN {md : Region.Mode} {ops : Array Oper} {l : Array Bool} (h : Region.ready md ops l = []) {i : Nat} (hi : i < ops.size) (hd : ((ops[i]?).map (·.after.all fun e => !Region.binds md e || l.getD e.on false)).getD false = true) : l.getD i true = true := by
  cases e : l.getD i true with
  | true => rfl
  | false =>
    have : i ∈ Region.ready md ops l := by
      unfold Region.ready
      refine List.mem_filter.2 ⟨List.mem_range.2 hi, ?_⟩
      rw [Bool.and_eq_true, e]
      exact ⟨rfl, hd⟩
    rw [h] at this
    cases this
end Go.Proofs.YtlibjdilicfcdaaGreatDoor

namespace Go.Proofs.YtlibjdilicfcdaaGreatDoor
set_option maxRecDepth 100000
open Go.RowKit
def KeptK (Ks : Nat → Prop) (W W' : World) : Prop := W.heap.size ≤ W'.heap.size ∧ ∀ k, Ks k → k < W.heap.size → W'.heap[k]? = W.heap[k]?
theorem KeptK.trans {Ks : Nat → Prop} {X Y Z : World} (h : KeptK Ks X Y) (k : KeptK Ks Y Z) : KeptK Ks X Z :=
  ⟨Nat.le_trans h.1 k.1, fun i hi hl => (k.2 i hi (Nat.lt_of_lt_of_le hl h.1)).trans (h.2 i hi hl)⟩
theorem KeptK.ofBelow {Ks : Nat → Prop} {W W' : World} (h : Below W.heap.size W W') : KeptK Ks W W' := ⟨h.size, fun k _ hl => h.block k hl⟩
def toldPostK {α : Type} (Ks : Nat → Prop) (I : List α → World → Prop) (Ix : Code → List α → World → Prop) (xs : List α) (W : World) : Exit → Act → World → Prop
  | .normal, _, W' => KeptK Ks W W' ∧ I xs W'
  | .ret, _, W' => KeptK Ks W W' ∧ Ix .ret xs W'
  | .exit id, _, W' => KeptK Ks W W' ∧ Ix (.exit id) xs W'
  | .goto t, _, W' => KeptK Ks W W' ∧ Ix (.goto t) xs W'
  | .panic _, _, _ => False
  | .outgrown, _, _ => False
def LpB (B : Nat) (W : World) : Prop := ∀ k, k = B ∨ k = B + 1 → ∃ o, W.heap[k]? = some o ∧ o.isCells = false
def TellsK {α : Type} (n : Nat) (P : Program) (gf : Nat) (lb : Array Value) (encs : α → Array Value) (Ks : Nat → Prop) (T : List α → α → World → Prop) (S : List α → Prop) (w : World) : Prop :=
  ∀ (l : Nat) (J Jx : List α → World → Prop) (W : World), Below w.heap.size w W → (∀ s A A', J s A → Below A.heap.size A A' → J s A') → (∀ s A A', Jx s A → Below A.heap.size A A' → Jx s A') →
    (∀ pre x W1, J pre W1 → T pre x W1 → YieldAt Fence.wide (n - 1) P l (encs x) W1 fun e W' =>
      (e = .returned (.bool true) ∧ J (pre ++ [x]) W' ∧ KeptK Ks W1 W') ∨ (e = .returned (.bool false) ∧ Jx (pre ++ [x]) W')) → J [] W →
    CallsIn Fence.wide n P gf (#[.func (.yield l) #[] #[]] ++ lb) W fun e W' => (∃ v, e = .returned v) ∧ ((∃ xs, S xs ∧ J xs W') ∨ ∃ pre, Jx pre W')
section
variable {α : Type} {n : Nat} {P : Program} {g : Operand} {ps : Array Tmp} {assign body : Code} {Q : Exit → Act → World → Prop} {a : Act} {w : World} {gf : Nat} {lb : Array Value} {encs : α → Array Value} {Ks : Nat → Prop}
theorem told_roundK {fn : FuncId} {I : List α → World → Prop} {Ix : Code → List α → World → Prop} {T : List α → α → World → Prop} (hps : ∀ x, (encs x).size = ps.size) (hBs : ∀ k, Ks k → k < w.heap.size)
    (hI : ∀ s A A', I s A → Nb w.heap.size A A' → I s A') (hIx : ∀ c s A A', Ix c s A → Nb w.heap.size A A' → Ix c s A') (hT : ∀ s x A A', T s x A → Nb w.heap.size A A' → T s x A') {Ax : α → Act → World → Prop} (hAx : ∀ x a' A A', Ax x a' A → Nb w.heap.size A A' → Ax x a' A')
    (hassign : ∀ (l : Nat) (x : α) (W : World) (K : Act → World → Prop), w.heap.size ≤ W.heap.size → (∀ a' W', Below W.heap.size W W' → Ax x a' W' → K a' W') →
      assign.wpIn (Fence.wide.inRound l) n P (Exit.then K (fun _ _ _ => False)) { tmps := (ps.zip (encs x)).foldl (fun t (p, v) => t.setIfInBounds p v) a.tmps, defers := [] } W)
    (hbody : ∀ (l : Nat) (pre : List α) (x : α) (a' : Act) (W : World), I pre W → T pre x W → Ax x a' W → LpB w.heap.size W → body.wpIn (Fence.wide.inRound l) n P (toldPostK (fun k => Ks k ∨ k = w.heap.size ∨ k = w.heap.size + 1) I Ix (pre ++ [x]) W) a' W)
    {pre : List α} {x : α} {W : World} (hi : I pre W) (ht : T pre x W) (hl : W.heap[w.heap.size + 1]? = some (.loop (recL fn a.tmps ps assign body w.heap.size .ready none))) (hk : W.heap[w.heap.size]? = some (.deferred (some []))) :
    YieldAt Fence.wide n P (w.heap.size + 1) (encs x) W fun e W' =>
      (e = .returned (.bool true) ∧ (I (pre ++ [x]) W' ∧ W'.heap[w.heap.size + 1]? = some (.loop (recL fn a.tmps ps assign body w.heap.size .ready none)) ∧ W'.heap[w.heap.size]? = some (.deferred (some []))) ∧ KeptK Ks W W') ∨
      (e = .returned (.bool false) ∧ ∃ c, Ix c (pre ++ [x]) W' ∧ W'.heap[w.heap.size + 1]? = some (.loop (recL fn a.tmps ps assign body w.heap.size .done (some c))) ∧ W'.heap[w.heap.size]? = some (.deferred (some []))) := by
  refine ⟨fn, _, assign, body, run_yield hl (hps x), roundIn_of_wpIn trivial (hassign _ x W _ (by have := lt_heap hk; omega) fun a' W0 hb0 hax => ?_)⟩
  have hl0 : W0.heap[w.heap.size + 1]? = some (.loop (recL fn a.tmps ps assign body w.heap.size .ready none)) := by rw [hb0.block _ (lt_heap hl)]; exact hl
  have hk0 : W0.heap[w.heap.size]? = some (.deferred (some [])) := by rw [hb0.block _ (lt_heap hk)]; exact hk
  have hn0 : Nb w.heap.size W W0 := Nb.ofBelow hb0
  have hK0 : KeptK Ks W W0 := KeptK.ofBelow hb0
  refine ⟨_, run_beginRound hl0 rfl, ?_⟩
  have hlt := lt_heap hl0
  obtain ⟨W1, hW1⟩ : ∃ W1, W1 = W0.putObj (w.heap.size + 1) (.loop { recL fn a.tmps ps assign body w.heap.size .ready none with state := .busy }) := ⟨_, rfl⟩
  have hl1 : W1.heap[w.heap.size + 1]? = some (.loop (recL fn a.tmps ps assign body w.heap.size .busy none)) := by rw [hW1]; exact World.putObj_heap_same hlt
  have hk1 : W1.heap[w.heap.size]? = some (.deferred (some [])) := by rw [hW1]; exact (World.putObj_heap_other (by omega)).trans hk0
  have hn1 : Nb w.heap.size W0 W1 := by rw [hW1]; exact Nb.put _ (by omega) hl0 rfl
  have hz1 : W1.heap.size = W0.heap.size := by rw [hW1]; simp
  have hK1 : KeptK Ks W W1 := hK0.trans ⟨by omega, fun k hk' _ => by rw [hW1]; exact World.putObj_heap_other (by have := hBs k hk'; omega)⟩
  rw [← hW1]
  have fin : ∀ (jump : Option Code) (W3 : World), KeptK (fun k => Ks k ∨ k = w.heap.size ∨ k = w.heap.size + 1) W1 W3 → ∃ W4, (Instr.endRound (w.heap.size + 1) jump).run P W3 = .ok (.bool jump.isNone) W4 ∧ Nb w.heap.size W3 W4 ∧ KeptK Ks W W4 ∧
      W4.heap[w.heap.size + 1]? = some (.loop (recL fn a.tmps ps assign body w.heap.size (if jump.isNone then .ready else .done) jump)) ∧ W4.heap[w.heap.size]? = some (.deferred (some [])) := fun jump W3 hk3 => by
    have hl3 : W3.heap[w.heap.size + 1]? = some (.loop (recL fn a.tmps ps assign body w.heap.size .busy none)) := (hk3.2 _ (Or.inr (Or.inr rfl)) (by omega)).trans hl1
    have hd3 : W3.heap[w.heap.size]? = some (.deferred (some [])) := (hk3.2 _ (Or.inr (Or.inl rfl)) (by omega)).trans hk1
    refine ⟨_, run_endRound jump hl3, Nb.put _ (by omega) hl3 rfl, hK1.trans (KeptK.trans ⟨hk3.1, fun k hk' hlk => hk3.2 k (Or.inl hk') hlk⟩ ⟨by simp, fun k hk' _ => World.putObj_heap_other (by have := hBs k hk'; omega)⟩), World.putObj_heap_same (lt_heap hl3), (World.putObj_heap_other (by omega)).trans hd3⟩
  refine wpIn_mono (hbody _ pre x a' W1 (hI _ _ _ (hI _ _ _ hi hn0) hn1) (hT _ _ _ _ (hT _ _ _ _ ht hn0) hn1) (hAx _ _ _ _ hax hn1) (fun k hk => by rcases hk with rfl | rfl; exact ⟨_, hk1, rfl⟩; exact ⟨_, hl1, rfl⟩)) ?_
  rintro e a3 W3 hp
  cases e with
  | normal =>
    obtain ⟨W4, h1, h2, h3, h4, h5⟩ := fin none W3 hp.1
    exact ⟨_, W4, h1, .inl ⟨rfl, ⟨hI _ _ _ hp.2 h2, h4, h5⟩, h3⟩⟩
  | ret =>
    obtain ⟨W4, h1, h2, h3, h4, h5⟩ := fin (some .ret) W3 hp.1
    exact ⟨_, W4, h1, .inr ⟨rfl, .ret, hIx _ _ _ _ hp.2 h2, h4, h5⟩⟩
  | exit id =>
    obtain ⟨W4, h1, h2, h3, h4, h5⟩ := fin (some (.exit id)) W3 hp.1
    exact ⟨_, W4, h1, .inr ⟨rfl, .exit id, hIx _ _ _ _ hp.2 h2, h4, h5⟩⟩
  | goto t =>
    obtain ⟨W4, h1, h2, h3, h4, h5⟩ := fin (some (.goto t)) W3 hp.1
    exact ⟨_, W4, h1, .inr ⟨rfl, .goto t, hIx _ _ _ _ hp.2 h2, h4, h5⟩⟩
  | panic ch => exact hp.elim
  | outgrown => exact hp.elim
theorem range_toldK (hg : a.eval g = .func (.func gf) #[] lb) (eg : ∀ args w, (callFunc gf args).run P w = .ok (.enter gf args) w) (hps : ∀ x, (encs x).size = ps.size) (hn : 1 ≤ n) (hBs : ∀ k, Ks k → k < w.heap.size)
    {I : List α → World → Prop} {Ix : Code → List α → World → Prop} {T : List α → α → World → Prop} {S : List α → Prop} (hseq : TellsK (n - 1) P gf lb encs Ks T S w)
    (hI : ∀ s A A', I s A → Nb w.heap.size A A' → I s A') (hIx : ∀ c s A A', Ix c s A → Nb w.heap.size A A' → Ix c s A') (hT : ∀ s x A A', T s x A → Nb w.heap.size A A' → T s x A') (h0 : I [] w) {Ax : α → Act → World → Prop} (hAx : ∀ x a' A A', Ax x a' A → Nb w.heap.size A A' → Ax x a' A')
    (hassign : ∀ (l : Nat) (x : α) (W : World) (K : Act → World → Prop), w.heap.size ≤ W.heap.size → (∀ a' W', Below W.heap.size W W' → Ax x a' W' → K a' W') →
      assign.wpIn (Fence.wide.inRound l) (n - 1 - 1) P (Exit.then K (fun _ _ _ => False)) { tmps := (ps.zip (encs x)).foldl (fun t (p, v) => t.setIfInBounds p v) a.tmps, defers := [] } W)
    (hbody : ∀ (l : Nat) (pre : List α) (x : α) (a' : Act) (W : World), I pre W → T pre x W → Ax x a' W → LpB w.heap.size W → body.wpIn (Fence.wide.inRound l) (n - 1 - 1) P (toldPostK (fun k => Ks k ∨ k = w.heap.size ∨ k = w.heap.size + 1) I Ix (pre ++ [x]) W) a' W)
    (hdone : ∀ (D : Nat) (xs : List α) (W : World), w.heap.size ≤ D → S xs → I xs W → W.heap[D]? = some (.deferred (some [])) → Q .normal { a with defers := { target := .collected D, args := #[] } :: a.defers } W)
    (hstop : ∀ (D : Nat) (c : Code) (pre : List α) (W : World), w.heap.size ≤ D → Ix c pre W → W.heap[D]? = some (.deferred (some [])) → c.wpIn Fence.wide n P Q { a with defers := { target := .collected D, args := #[] } :: a.defers } W) :
    (Code.rangeFunc g ps assign body).wpIn Fence.wide n P Q a w := by
  refine wpIn_rangeFunc fun fn _ => ?_
  obtain ⟨W1, hW1⟩ : ∃ W1, W1 = (w.alloc (.deferred (some []))).alloc (.loop (recL fn a.tmps ps assign body w.heap.size .ready none)) := ⟨_, rfl⟩
  have hl1 : W1.heap[w.heap.size + 1]? = some (.loop (recL fn a.tmps ps assign body w.heap.size .ready none)) := by
    rw [hW1]
    have := World.alloc_heap_new (w.alloc (.deferred (some []))) (.loop (recL fn a.tmps ps assign body w.heap.size .ready none))
    rwa [World.size_alloc] at this
  have hk1 : W1.heap[w.heap.size]? = some (.deferred (some [])) := by
    rw [hW1]
    exact (Below.heap_alloc _ _ _ (by simp)).trans (World.alloc_heap_new w _)
  have hb1 : Below w.heap.size w W1 := by
    rw [hW1]
    exact ((Below.refl _ w).alloc (Nat.le_refl _) _).alloc (by simp) _
  have keep : ∀ {A A' : World} {k : Nat} {o : Obj}, A.heap[k]? = some o → Below A.heap.size A A' → A'.heap[k]? = some o := fun h hb => by
    rw [hb.block _ (lt_heap h)]
    exact h
  refine ⟨w.heap.size + 1, [{ target := .collected w.heap.size, args := #[] }], W1, { target := .fn (.func gf) lb, args := #[.func (.yield (w.heap.size + 1)) #[] #[]] }, W1, gf,
    #[.func (.yield (w.heap.size + 1)) #[] #[]] ++ lb, W1, by rw [hW1]; exact run_enterLoop_outer _ _ _ _ _, by simp only [resolve, hg]; simp [go_sem], fun f' hf' => by simp [Target.leads] at hf'; exact trivial, by simp [invoke, go_sem, eg], fun _ => hn, ?_⟩
  refine (hseq (w.heap.size + 1)
    (fun pre W => I pre W ∧ W.heap[w.heap.size + 1]? = some (.loop (recL fn a.tmps ps assign body w.heap.size .ready none)) ∧ W.heap[w.heap.size]? = some (.deferred (some [])))
    (fun pre W => ∃ c, Ix c pre W ∧ W.heap[w.heap.size + 1]? = some (.loop (recL fn a.tmps ps assign body w.heap.size .done (some c))) ∧ W.heap[w.heap.size]? = some (.deferred (some [])))
    W1 hb1 (fun s A A' h hb => ⟨hI _ _ _ h.1 (Nb.ofBelow hb), keep h.2.1 hb, keep h.2.2 hb⟩)
    (fun s A A' h hb => by obtain ⟨c, h1, h2, h3⟩ := h; exact ⟨c, hIx _ _ _ _ h1 (Nb.ofBelow hb), keep h2 hb, keep h3 hb⟩)
    (fun pre x W h ht => told_roundK hps hBs hI hIx hT hAx hassign hbody h.1 ht h.2.1 h.2.2) ⟨hI _ _ _ h0 (Nb.ofBelow hb1), hl1, hk1⟩).mono ?_
  rintro e W2 ⟨⟨v, rfl⟩, ⟨xs, hS, hi, hl, hk⟩ | ⟨pre, c, hi, hl, hk⟩⟩
  · exact ⟨none, _, run_endLoop hl (by simp [recL]), hdone _ xs _ (Nat.le_refl _) hS (hI _ _ _ hi (Nb.put _ (by omega) hl rfl)) ((World.putObj_heap_other (by omega)).trans hk)⟩
  · exact ⟨some c, _, run_endLoop hl (by simp [recL]), hstop _ c pre _ (Nat.le_refl _) (hIx _ _ _ _ hi (Nb.put _ (by omega) hl rfl)) ((World.putObj_heap_other (by omega)).trans hk)⟩
end
end Go.Proofs.YtlibjdilicfcdaaGreatDoor

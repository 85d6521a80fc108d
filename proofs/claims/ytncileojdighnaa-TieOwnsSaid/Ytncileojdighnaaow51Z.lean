/- Copies of terms and of equations, a mark behind each row. -/
import Derived.BigQuiet
import Derived.StillTailTactics
import Derived.Test.Ytncileojdighnaaow17Z
import Derived.Test.Ytncileojdighnaaow49Z
import Derived.Test.Ytncileojdighnaaow48Z
import Derived.Test.Ytncileojdighnaaow37Z
import Derived.Test.Ytncileojdighnaaow06Z
namespace Go.Proofs.Ytncileojdighnaa
set_option maxRecDepth 100000
open Go.RowKit Go.Maps
mutual
def Dw (P : Nat → Prop) (w : World) : Ex → Value → Prop
  | .mk k n m xs, v => ∃ b c, v = .agg #[.int .i64 k, .string n, .int .i64 m, .slice (some ⟨b, 0, none⟩) xs.length c] ∧ P b ∧ xs.length < c ∧ w.cell? ⟨b, xs.length * 4, none⟩ = some (.int .i64 (-77)) ∧ DwL P w b xs 0
def DwL (P : Nat → Prop) (w : World) : Nat → List Ex → Nat → Prop
  | _, [], _ => True
  | b, x :: r, i => (∃ k' n' m' aa al ac, w.cell? ⟨b, i * 4, none⟩ = some (.int .i64 k') ∧ w.cell? ⟨b, i * 4 + 1, none⟩ = some (.string n') ∧ w.cell? ⟨b, i * 4 + 2, none⟩ = some (.int .i64 m') ∧ w.cell? ⟨b, i * 4 + 3, none⟩ = some (.slice aa al ac) ∧ Dw P w x (.agg #[.int .i64 k', .string n', .int .i64 m', .slice aa al ac])) ∧ DwL P w b r (i + 1)
end
def DwA (P : Nat → Prop) (w : World) (b : Nat) (x : Ex) (i : Nat) : Prop := ∃ k' n' m' aa al ac, w.cell? ⟨b, i * 4, none⟩ = some (.int .i64 k') ∧ w.cell? ⟨b, i * 4 + 1, none⟩ = some (.string n') ∧ w.cell? ⟨b, i * 4 + 2, none⟩ = some (.int .i64 m') ∧ w.cell? ⟨b, i * 4 + 3, none⟩ = some (.slice aa al ac) ∧ Dw P w x (.agg #[.int .i64 k', .string n', .int .i64 m', .slice aa al ac])
theorem DwL_iff (P : Nat → Prop) (w : World) (b : Nat) : ∀ (xs : List Ex) (i : Nat), DwL P w b xs i ↔ ∀ j, j < xs.length → DwA P w b (xs.getD j x0) (i + j)
  | [], i => ⟨fun _ j hj => absurd hj (Nat.not_lt_zero _), fun _ => trivial⟩
  | x :: r, i => by
    constructor
    · rintro ⟨h1, h2⟩ j hj
      cases j with
      | zero => exact h1
      | succ j =>
        have := (DwL_iff P w b r (i + 1)).1 h2 j (by simpa using hj)
        rw [show i + (j + 1) = i + 1 + j by omega]
        simpa using this
    · intro h
      refine ⟨h 0 (by simp), (DwL_iff P w b r (i + 1)).2 (fun j hj => ?_)⟩
      have := h (j + 1) (by simpa using hj)
      rw [show i + 1 + j = i + (j + 1) by omega]
      simpa using this
def Dr (P : Nat → Prop) (w : World) (v : Value) (xs : List Ex) : Prop :=
  ∃ b c, v = .slice (some ⟨b, 0, none⟩) xs.length c ∧ P b ∧ xs.length < c ∧ w.cell? ⟨b, xs.length * 4, none⟩ = some (.int .i64 (-77)) ∧ ∀ j, j < xs.length → DwA P w b (xs.getD j x0) j
theorem Dw.parts {P : Nat → Prop} {w : World} {k : Int} {n : ByteArray} {m : Int} {xs : List Ex} {v : Value} (h : Dw P w (.mk k n m xs) v) : ∃ av, v = .agg #[.int .i64 k, .string n, .int .i64 m, av] ∧ Dr P w av xs := by
  obtain ⟨b, c, rfl, hp, hc, hm, h⟩ := h
  exact ⟨_, rfl, b, c, rfl, hp, hc, hm, fun j hj => by have := (DwL_iff P w b xs 0).1 h j hj; rwa [Nat.zero_add] at this⟩
theorem Dw.of {P : Nat → Prop} {w : World} {k : Int} {n : ByteArray} {m : Int} {xs : List Ex} {av : Value} (h : Dr P w av xs) : Dw P w (.mk k n m xs) (.agg #[.int .i64 k, .string n, .int .i64 m, av]) := by
  obtain ⟨b, c, rfl, hp, hc, hm, h⟩ := h
  exact ⟨b, c, rfl, hp, hc, hm, (DwL_iff P w b xs 0).2 (fun j hj => by rw [Nat.zero_add]; exact h j hj)⟩
theorem Dw.form {P : Nat → Prop} {w : World} {x : Ex} {v : Value} (h : Dw P w x v) : ∃ k n m ao l c, v = .agg #[.int .i64 k, .string n, .int .i64 m, .slice ao l c] := by
  obtain ⟨k, n, m, xs⟩ := x
  obtain ⟨b, c, rfl, _⟩ := h
  exact ⟨_, _, _, _, _, _, rfl⟩
theorem Dw.keep {P P' : Nat → Prop} {w w' : World} (hk : ∀ b, P b → b < w.heap.size → P' b ∧ w'.heap[b]? = w.heap[b]?) {x : Ex} : ∀ {v : Value}, Dw P w x v → Dw P' w' x v := by
  induction x using Ex.ind with
  | h k n m xs ih =>
    intro v h
    obtain ⟨av, rfl, b, c, rfl, hb, hlt, hm, h2⟩ := h.parts
    obtain ⟨hp, hw⟩ := hk b hb (lt_of_cell hm)
    have hc : ∀ o', w'.cell? ⟨b, o', none⟩ = w.cell? ⟨b, o', none⟩ := fun o' => by simp only [World.cell?, hw]
    refine Dw.of ⟨b, c, rfl, hp, hlt, by rw [hc]; exact hm, fun j hj => ?_⟩
    obtain ⟨k', n', m', aa, al, ac, c0, c1, c2, c3, hx⟩ := h2 j hj
    exact ⟨k', n', m', aa, al, ac, by rw [hc]; exact c0, by rw [hc]; exact c1, by rw [hc]; exact c2, by rw [hc]; exact c3, ih _ (xs_at hj) hx⟩
theorem Dw.next {P : Nat → Prop} {w w' : World} (hb : Below w.heap.size w w') {x : Ex} {v : Value} (h : Dw P w x v) : Dw P w' x v := h.keep (fun b hp hl => ⟨hp, hb.block b hl⟩)
theorem Dw.xv {P : Nat → Prop} {w : World} {x : Ex} : ∀ {v : Value}, Dw P w x v → Xv w x v := by
  induction x using Ex.ind with
  | h k n m xs ih =>
    intro v h
    obtain ⟨av, rfl, b, c, rfl, hb, hlt, hm, h2⟩ := h.parts
    refine Xv.of ⟨some ⟨b, 0, none⟩, c, rfl, fun j hj => ?_⟩
    obtain ⟨k', n', m', aa, al, ac, c0, c1, c2, c3, hx⟩ := h2 j hj
    exact ⟨b, 0, k', n', m', aa, al, ac, rfl, by rw [Nat.zero_add]; exact c0, by rw [Nat.zero_add]; exact c1, by rw [Nat.zero_add]; exact c2, by rw [Nat.zero_add]; exact c3, ih _ (xs_at hj) hx⟩
theorem Dr.keep {P P' : Nat → Prop} {w w' : World} (hk : ∀ b, P b → b < w.heap.size → P' b ∧ w'.heap[b]? = w.heap[b]?) {v : Value} {xs : List Ex} (h : Dr P w v xs) : Dr P' w' v xs := by
  obtain ⟨b, c, rfl, hb, hlt, hm, h2⟩ := h
  obtain ⟨hp, hw⟩ := hk b hb (lt_of_cell hm)
  have hc : ∀ o', w'.cell? ⟨b, o', none⟩ = w.cell? ⟨b, o', none⟩ := fun o' => by simp only [World.cell?, hw]
  refine ⟨b, c, rfl, hp, hlt, by rw [hc]; exact hm, fun j hj => ?_⟩
  obtain ⟨k', n', m', aa, al, ac, c0, c1, c2, c3, hx⟩ := h2 j hj
  exact ⟨k', n', m', aa, al, ac, by rw [hc]; exact c0, by rw [hc]; exact c1, by rw [hc]; exact c2, by rw [hc]; exact c3, hx.keep hk⟩
theorem Dr.next {P : Nat → Prop} {w w' : World} (hb : Below w.heap.size w w') {v : Value} {xs : List Ex} (h : Dr P w v xs) : Dr P w' v xs := h.keep (fun b hp hl => ⟨hp, hb.block b hl⟩)
theorem Dr.rxs {P : Nat → Prop} {w : World} {v : Value} {xs : List Ex} (h : Dr P w v xs) : Rxs w v xs :=
  ((Dw.of (k := 0) (n := ⟨#[]⟩) (m := 0) h).xv).same.2.2.2
theorem Dr.mark {P : Nat → Prop} {w : World} {g c : Nat} {xs : List Ex} (h : Dr P w (.slice (some ⟨g, 0, none⟩) xs.length c) xs) : w.cell? ⟨g, xs.length * 4, none⟩ = some (.int .i64 (-77)) := by
  obtain ⟨b, c, e, _, _, hm, _⟩ := h
  injection e with e _ _
  injection e with e
  injection e with e _ _
  subst e
  exact hm
def DwC (P : Nat → Prop) (w : World) (x : Ex) (cs : List Value) : Prop := ∃ (k : Int) (n : ByteArray) (m : Int) (aa : Option Addr) (al ac : Nat), cs = [.int .i64 k, .string n, .int .i64 m, .slice aa al ac] ∧ Dw P w x (.agg #[.int .i64 k, .string n, .int .i64 m, .slice aa al ac])
abbrev mkX : List Value := [.int .i64 (-77), .string ⟨#[]⟩, .int .i64 0, .slice none 0 0]
def eltD : Elt (Option Ex) := ⟨48, 4, fun P w o cs => match o with
  | some x => DwC P w x cs
  | none => cs = mkX, fun {P P' w w' o cs} hk h => by
    cases o with
    | none => exact h
    | some x =>
      obtain ⟨k, n, m, aa, al, ac, e, hx⟩ := h
      exact ⟨k, n, m, aa, al, ac, e, hx.keep hk⟩⟩
theorem Rwo.dr {B c : Nat} {w : World} {ao : Option Addr} {xs : List Ex} (h : Rwo eltD B w (.slice ao (xs.length + 1) c) (xs.map some ++ [none])) : Dr (B ≤ ·) w (.slice ao xs.length c) xs := by
  obtain ⟨f, hf, hx, ho⟩ := h
  have hl : (xs.map some ++ [none]).length = xs.length + 1 := by simp
  rw [hl] at ho
  have ho' := ho
  rcases ho'.2 with ⟨_, h1⟩ | ⟨g, cap, cur, e, hB, hg, hle, _⟩
  · omega
  · injection e with e1 e2 e3
    subst e1 e3
    have at' : ∀ j t, j < xs.length + 1 → t < 4 → w.cell? ⟨g, j * 4 + t, none⟩ = (f j)[t]? := fun j t hj ht => by
      have h1 := ho.cellAt (j * 4 + t) (by show _ < (xs.length + 1) * 4; omega)
      rw [h1]
      exact flatV_at (z := 4) hf ht (xs.length + 1) hj
    have hm := hx xs.length none (by simp)
    have hm' : f xs.length = mkX := hm
    refine ⟨g, c, rfl, hB, by omega, ?_, fun j hj => ?_⟩
    · have := at' xs.length 0 (by omega) (by omega)
      rw [hm'] at this
      simpa using this
    · obtain ⟨k, n, m, aa, al, ac, e, hv⟩ := hx j (some (xs.getD j x0)) (by rw [List.getElem?_append_left (by simpa using hj)]; simp [List.getD, hj])
      have a0 := at' j 0 (by omega) (by omega)
      have a1 := at' j 1 (by omega) (by omega)
      have a2 := at' j 2 (by omega) (by omega)
      have a3 := at' j 3 (by omega) (by omega)
      rw [e] at a0 a1 a2 a3
      exact ⟨k, n, m, aa, al, ac, by simpa using a0, by simpa using a1, by simpa using a2, by simpa using a3, hv.keep (fun b hb _ => ⟨hb.1, rfl⟩)⟩
theorem rwo_empty {α : Type} {E : Elt α} {B : Nat} {w : World} {v : Value} {cs : List Value} (hc : cs.length = E.z) (h : w.ownsRow B E.T E.z v 0 []) : Rwo E B w v [] := ⟨fun _ => cs, fun _ => hc, fun _ _ h => by simp at h, h⟩
def eqmS : ByteArray := ⟨#[109, 97, 114, 107]⟩
abbrev mkQ : List Value := [.string eqmS, .int .i64 0, .string ⟨#[]⟩, .int .i64 0, .slice none 0 0]
def eltE : Elt (Option (ByteArray × Ex)) := ⟨51, 5, fun P w o cs => match o with
  | some q => ∃ (k : Int) (n : ByteArray) (m : Int) (aa : Option Addr) (al ac : Nat), cs = [.string q.1, .int .i64 k, .string n, .int .i64 m, .slice aa al ac] ∧ Dw P w q.2 (.agg #[.int .i64 k, .string n, .int .i64 m, .slice aa al ac])
  | none => cs = mkQ, fun {P P' w w' o cs} hk h => by
    cases o with
    | none => exact h
    | some x =>
      obtain ⟨k, n, m, aa, al, ac, e, hx⟩ := h
      exact ⟨k, n, m, aa, al, ac, e, hx.keep hk⟩⟩
def DqA (P : Nat → Prop) (w : World) (b : Nat) (q : ByteArray × Ex) (i : Nat) : Prop := ∃ k' n' m' aa al ac, w.cell? ⟨b, i * 5, none⟩ = some (.string q.1) ∧ w.cell? ⟨b, i * 5 + 1, none⟩ = some (.int .i64 k') ∧ w.cell? ⟨b, i * 5 + 2, none⟩ = some (.string n') ∧ w.cell? ⟨b, i * 5 + 3, none⟩ = some (.int .i64 m') ∧ w.cell? ⟨b, i * 5 + 4, none⟩ = some (.slice aa al ac) ∧ Dw P w q.2 (.agg #[.int .i64 k', .string n', .int .i64 m', .slice aa al ac])
def Dq (P : Nat → Prop) (w : World) (v : Value) (qs : List (ByteArray × Ex)) : Prop :=
  ∃ b c, v = .slice (some ⟨b, 0, none⟩) qs.length c ∧ P b ∧ qs.length < c ∧ w.cell? ⟨b, qs.length * 5, none⟩ = some (.string eqmS) ∧ ∀ j, j < qs.length → DqA P w b (qs.getD j q0) j
theorem Dq.keep {P P' : Nat → Prop} {w w' : World} (hk : ∀ b, P b → b < w.heap.size → P' b ∧ w'.heap[b]? = w.heap[b]?) {v : Value} {qs : List (ByteArray × Ex)} (h : Dq P w v qs) : Dq P' w' v qs := by
  obtain ⟨b, c, rfl, hb, hlt, hm, h2⟩ := h
  obtain ⟨hp, hw⟩ := hk b hb (lt_of_cell hm)
  have hc : ∀ o', w'.cell? ⟨b, o', none⟩ = w.cell? ⟨b, o', none⟩ := fun o' => by simp only [World.cell?, hw]
  refine ⟨b, c, rfl, hp, hlt, by rw [hc]; exact hm, fun j hj => ?_⟩
  obtain ⟨k', n', m', aa, al, ac, c0, c1, c2, c3, c4, hx⟩ := h2 j hj
  exact ⟨k', n', m', aa, al, ac, by rw [hc]; exact c0, by rw [hc]; exact c1, by rw [hc]; exact c2, by rw [hc]; exact c3, by rw [hc]; exact c4, hx.keep hk⟩
theorem Dq.next {P : Nat → Prop} {w w' : World} (hb : Below w.heap.size w w') {v : Value} {qs : List (ByteArray × Ex)} (h : Dq P w v qs) : Dq P w' v qs := h.keep (fun b hp hl => ⟨hp, hb.block b hl⟩)
theorem Dq.mark {P : Nat → Prop} {w : World} {g c : Nat} {qs : List (ByteArray × Ex)} (h : Dq P w (.slice (some ⟨g, 0, none⟩) qs.length c) qs) : w.cell? ⟨g, qs.length * 5, none⟩ = some (.string ⟨#[109, 97, 114, 107]⟩) := by
  obtain ⟨b, c, e, _, _, hm, _⟩ := h
  injection e with e _ _
  injection e with e
  injection e with e _ _
  subst e
  exact hm
theorem Dq.rqs {P : Nat → Prop} {w : World} {v : Value} {qs : List (ByteArray × Ex)} (h : Dq P w v qs) : Rqs w v qs := by
  obtain ⟨b, c, rfl, hb, hlt, hm, h2⟩ := h
  refine ⟨some ⟨b, 0, none⟩, c, rfl, fun j hj => ?_⟩
  obtain ⟨k', n', m', aa, al, ac, c0, c1, c2, c3, c4, hx⟩ := h2 j hj
  exact ⟨b, 0, k', n', m', aa, al, ac, rfl, by rw [Nat.zero_add]; exact c0, by rw [Nat.zero_add]; exact c1, by rw [Nat.zero_add]; exact c2, by rw [Nat.zero_add]; exact c3, by rw [Nat.zero_add]; exact c4, hx.xv⟩
theorem Rwo.dq {B c : Nat} {w : World} {ao : Option Addr} {qs : List (ByteArray × Ex)} (h : Rwo eltE B w (.slice ao (qs.length + 1) c) (qs.map some ++ [none])) : Dq (B ≤ ·) w (.slice ao qs.length c) qs := by
  obtain ⟨f, hf, hx, ho⟩ := h
  have hl : (qs.map some ++ [none]).length = qs.length + 1 := by simp
  rw [hl] at ho
  have ho' := ho
  rcases ho'.2 with ⟨_, h1⟩ | ⟨g, cap, cur, e, hB, hg, hle, _⟩
  · omega
  · injection e with e1 e2 e3
    subst e1 e3
    have at' : ∀ j t, j < qs.length + 1 → t < 5 → w.cell? ⟨g, j * 5 + t, none⟩ = (f j)[t]? := fun j t hj ht => by
      have h1 := ho.cellAt (j * 5 + t) (by show _ < (qs.length + 1) * 5; omega)
      rw [h1]
      exact flatV_at (z := 5) hf ht (qs.length + 1) hj
    have hm := hx qs.length none (by simp)
    have hm' : f qs.length = mkQ := hm
    refine ⟨g, c, rfl, hB, by omega, ?_, fun j hj => ?_⟩
    · have := at' qs.length 0 (by omega) (by omega)
      rw [hm'] at this
      simpa using this
    · obtain ⟨k, n, m, aa, al, ac, e, hv⟩ := hx j (some (qs.getD j q0)) (by rw [List.getElem?_append_left (by simpa using hj)]; simp [List.getD, hj])
      have a0 := at' j 0 (by omega) (by omega)
      have a1 := at' j 1 (by omega) (by omega)
      have a2 := at' j 2 (by omega) (by omega)
      have a3 := at' j 3 (by omega) (by omega)
      have a4 := at' j 4 (by omega) (by omega)
      rw [e] at a0 a1 a2 a3 a4
      exact ⟨k, n, m, aa, al, ac, by simpa using a0, by simpa using a1, by simpa using a2, by simpa using a3, by simpa using a4, hv.keep (fun b hb _ => ⟨hb.1, rfl⟩)⟩
end Go.Proofs.Ytncileojdighnaa

namespace Go.Proofs.Ytncileojdighnaa
set_option maxRecDepth 100000
open Go.RowKit Go.Maps
theorem make_terms (n : Nat) (hn : n ≤ 6000) :
    ∃ mc : Array Value, mc.size = (n + 1) * 4 ∧ ∀ w : World, (Instr.makeSlice 22 (.int .i64 0) (.int .i64 ((n : Int) + 1))).run Try.prog w = .ok (.slice (some ⟨w.heap.size, 0, none⟩) 0 (n + 1)) (w.alloc (.cells mc 48)) := by
  obtain ⟨i0, hi, hz0, hz1, hz2⟩ := info_parts infoX
  refine ⟨madeCells #[.int .i64 0, .string ⟨#[]⟩, .int .i64 0, .slice none 0 0] ((n + 1) * 4), by simp [size_madeCells], fun w => ?_⟩
  have := run_make (P := Try.prog) w 22 48 i0 (.agg #[.int .i64 0, .string ⟨#[]⟩, .int .i64 0, .slice none 0 0]) Try.underlying22 hi hz0 .i64 .i64 0 ((n : Int) + 1) (by omega) (by omega) (by rw [hz2]; omega) (by omega)
  rw [this, hz1]
  have e : ((n : Int) + 1).toNat = n + 1 := by omega
  simp only [e, Int.toNat_zero]
  rfl
theorem own_capD {w : World} {B : Nat} {e : TypeId} {s n cap : Nat} {a : Addr} {xs : List Value} (h : w.ownsRow B e s (.slice (some a) n cap) n xs) : n ≤ cap := by
  rcases h.2 with ⟨h, _⟩ | ⟨_, _, _, hv, _, _, hle, _⟩
  · cases h
  · injection hv with _ _ h3
    omega
theorem some_snoc {α : Type} (xs : List α) (d : α) (j : Nat) (hj : j < xs.length) : (xs.take (j + 1)).map some = (xs.take j).map some ++ [some (xs.getD j d)] := by
  rw [List.take_succ_eq_append_getElem hj, List.map_append]
  simp [List.getD, hj]
theorem some_len {α : Type} (xs : List α) (j : Nat) (hj : j ≤ xs.length) : ((xs.take j).map some).length = j := by
  rw [List.length_map, List.length_take]
  omega
def DpC (x : Ex) : Prop := ∀ (w : World) (v : Value), Xv w x v → prtX x ≤ 5000 → Calls Try.prog 21 #[v] w fun e w' => ∃ v', e = .returned v' ∧ Dw (w.heap.size ≤ ·) w' x v' ∧ Below w.heap.size w w'
set_option maxHeartbeats 4000000 in
theorem deep_a {k : Int} {n : ByteArray} {m : Int} {xs : List Ex} (ih : ∀ x ∈ xs, DpC x) (w : World) (ao : Option Addr) (c : Nat) (hAt0 : ∀ j, j < xs.length → XAt w ao (xs.getD j x0) j) (hp : prtXs xs ≤ 5000) :
    Calls Try.prog 21 #[.agg #[.int .i64 k, .string n, .int .i64 m, .slice ao xs.length c]] w fun e w' => ∃ v', e = .returned v' ∧ Dw (w.heap.size ≤ ·) w' (.mk k n m xs) v' ∧ Below w.heap.size w w' := by
  obtain ⟨i4, hi4, hw0, hw1, hw2⟩ := info_parts infoX
  have hAt := hid hAt0
  have IH := hid ih
  have hln : xs.length ≤ 5000 := by have := prt_len8 xs; omega
  have hpc : Hid (∀ x ∈ xs, prtX x ≤ 5000) := fun x hx => by have := prt_mem8 xs x hx; omega
  obtain ⟨mc, hms, hmk⟩ := make_terms xs.length (by omega)
  have hTL := hid (some_len xs)
  have hTS := hid (some_snoc xs x0)
  have hmo := hid (World.ownsRow_made (base := w.heap.size + 2) (e := 48) (size := 4) ((w.alloc (.cells #[.int .i64 k, .string n, .int .i64 m, .slice ao xs.length c] 48)).alloc (.cells #[.int .i64 0, .string ⟨#[]⟩, .int .i64 0, .slice none 0 0] 48)) mc (xs.length + 1) (by simp) (by unfold maxLen; omega) hms)
  clear hAt0 ih hp
  go_enter Try.func21, Try.ntmps21
  go_wp2
  go_loopw [3, 15] (fun x i wr => ∃ (j : Nat) (ro : Option Addr) (rc : Nat), j ≤ xs.length ∧ i = .int .i64 (j : Int) ∧ x = .slice ro j rc ∧ Hid (Rwo eltD (w.heap.size + 2) wr (.slice ro j rc) ((xs.take j).map some)) ∧ Hid (Below w.heap.size w wr) ∧ Hid (wr.heap[w.heap.size]? = some (.cells #[.int .i64 k, .string n, .int .i64 m, .slice ao xs.length c] 48)) ∧ Hid (∃ u0 u1 u2 u3, wr.heap[w.heap.size + 1]? = some (.cells #[u0, u1, u2, u3] 48))) (fun _ i _ => xs.length - (intOf i).toNat)
  case atStart =>
    refine ⟨0, _, _, by omega, rfl, rfl, ?_, ?_, ?_, ?_⟩
    · have h := hmo.out
      rw [show ((w.alloc (.cells #[.int .i64 k, .string n, .int .i64 m, .slice ao xs.length c] 48)).alloc (.cells #[.int .i64 0, .string ⟨#[]⟩, .int .i64 0, .slice none 0 0] 48)).heap.size = w.heap.size + 2 by simp] at h
      exact rwo_empty (cs := mkX) rfl h
    · exact ((below_alloc w _).alloc (by simp) _).alloc (by simp; omega) _
    · show _ = _
      rw [Below.heap_alloc _ _ _ (by simp; omega), Below.heap_alloc _ _ _ (by simp)]
      exact heap_alloc_new w _
    · refine ⟨.int .i64 0, .string ⟨#[]⟩, .int .i64 0, .slice none 0 0, ?_⟩
      rw [Below.heap_alloc _ _ _ (by simp)]
      have h2 := heap_alloc_new (w.alloc (.cells #[.int .i64 k, .string n, .int .i64 m, .slice ao xs.length c] 48)) (.cells #[.int .i64 0, .string ⟨#[]⟩, .int .i64 0, .slice none 0 0] 48)
      simpa using h2
  case round =>
    clear hmo hmk hms
    obtain ⟨j, ro, rc, hj, rfl, rfl, hX, hB, hb1, hb2⟩ := hrel
    by_cases hlt : j < xs.length
    · obtain ⟨b, o, k', n', m', aa, al, ac, rfl, d0, d1, d2, d3, hx⟩ := hAt.out j hlt
      have hbr := hB.out
      have hz := lt_of_cell d0
      have c0 := ((bcell hbr).1 b _ hz).trans d0
      have c1 := ((bcell hbr).1 b _ hz).trans d1
      have c2 := ((bcell hbr).1 b _ hz).trans d2
      have c3 := ((bcell hbr).1 b _ hz).trans d3
      have hzr : b < wr.heap.size := Nat.lt_of_lt_of_le hz hbr.size
      have hcall := IH.out _ (xs_at hlt) _ _ ((hx.next hbr).next (below_alloc wr (.cells #[.int .i64 k', .string n', .int .i64 m', .slice aa al ac] 48))) (hpc.out _ (xs_at hlt))
      have hl := hTL.out j hj
      have hts := hTS.out j hlt
      obtain ⟨f, hf, hxc, ho⟩ := hX.out
      rw [hl] at ho
      obtain ⟨u0, u1, u2, u3, hb2'⟩ := hb2.out
      have hs1 := lt_of_block hb2'
      have hnx : Hid (∀ (w3 : World) (k2 : Int) (n2 : ByteArray) (m2 : Int) (a2 : Option Addr) (l2 r2 : Nat), Below (wr.alloc (.cells #[.int .i64 k', .string n', .int .i64 m', .slice aa al ac] 48)).heap.size (wr.alloc (.cells #[.int .i64 k', .string n', .int .i64 m', .slice aa al ac] 48)) w3 → Dw ((wr.alloc (.cells #[.int .i64 k', .string n', .int .i64 m', .slice aa al ac] 48)).heap.size ≤ ·) w3 (xs.getD j x0) (.agg #[.int .i64 k2, .string n2, .int .i64 m2, .slice a2 l2 r2]) →
          ((w3.alloc (.cells #[.int .i64 k2, .string n2, .int .i64 m2, .slice a2 l2 r2] 48)).alloc (.cells #[.int .i64 k2, .string n2, .int .i64 m2, .slice a2 l2 r2] 48)).ownsRow (w.heap.size + 2) 48 4 (.slice ro j rc) j (flatV f j) ∧ w.heap.size + 2 ≤ w3.heap.size ∧ ∀ w7 g7 c7, w7.ownsRow (w.heap.size + 2) 48 4 (.slice (some ⟨g7, 0, none⟩) (j + 1) c7) (j + 1) (flatV f j ++ [.int .i64 k2, .string n2, .int .i64 m2, .slice a2 l2 r2]) → ((w3.alloc (.cells #[.int .i64 k2, .string n2, .int .i64 m2, .slice a2 l2 r2] 48)).alloc (.cells #[.int .i64 k2, .string n2, .int .i64 m2, .slice a2 l2 r2] 48)).grownBy w7 (Value.slice ro j rc).ownBlock → ((Value.slice ro j rc).ownBlock = some g7 ∨ g7 = w3.heap.size + 1 + 1) →
            Hid (Rwo eltD (w.heap.size + 2) w7 (.slice (some ⟨g7, 0, none⟩) (j + 1) c7) ((xs.take (j + 1)).map some)) ∧ Hid (Below w.heap.size w w7) ∧ Hid (w7.heap[w.heap.size]? = some (.cells #[.int .i64 k, .string n, .int .i64 m, .slice (some ⟨b, o, none⟩) xs.length c] 48)) ∧ Hid (∃ u0 u1 u2 u3, w7.heap[w.heap.size + 1]? = some (.cells #[u0, u1, u2, u3] 48))) := fun w3 k2 n2 m2 a2 l2 r2 hb3 hv => by
        have hb := Below.next (below_alloc wr (.cells #[.int .i64 k', .string n', .int .i64 m', .slice aa al ac] 48)) hb3
        have hb6 := Below.next hb (below_alloc w3 (.cells #[.int .i64 k2, .string n2, .int .i64 m2, .slice a2 l2 r2] 48))
        have hb7 := Below.next hb6 (below_alloc (w3.alloc (.cells #[.int .i64 k2, .string n2, .int .i64 m2, .slice a2 l2 r2] 48)) (.cells #[.int .i64 k2, .string n2, .int .i64 m2, .slice a2 l2 r2] 48))
        have hsz3 := hb.size
        have hsz7 := hb7.size
        refine ⟨row_keep ho (fun q hq => hb7.block q (ho.lt q hq).2), by omega, fun w7 g7 c7 hown hg hat => ⟨?_, ?_, ?_, ?_⟩⟩
        · have h := ro_app (E := eltD) (B := w.heap.size + 2) (D := (wr.alloc (.cells #[.int .i64 k', .string n', .int .i64 m', .slice aa al ac] 48)).heap.size) (xs := (xs.take j).map some) (x := some (xs.getD j x0)) (cs := [.int .i64 k2, .string n2, .int .i64 m2, .slice a2 l2 r2]) hf (fun i y hi => eltD.keep (fun b hp hl => ⟨hp, hb6.block b hl⟩) (hxc i y hi)) (fun q hq => by have := (ho.lt q hq).2; simp; omega) (by simp; omega) rfl (show DwC _ _ _ _ from ⟨_, _, _, _, _, _, rfl, hv.next (below_alloc w3 _)⟩) (by rw [hl]; exact hown) hg (hat.elim Or.inl (fun e => Or.inr (by simp; omega)))
          rw [hl, ← hts] at h
          exact h
        · exact (Below.next hbr hb7).grown hg (by omega) (fun q hq => by have := (ho.lt q hq).1; omega)
        · show _ = _
          rw [hg.block _ (by omega) (fun e => by have := (ho.lt _ e.symm).1; omega), hb7.block _ (by omega)]
          exact hb1.out
        · refine ⟨u0, u1, u2, u3, ?_⟩
          rw [hg.block _ (by omega) (fun e => by have := (ho.lt _ e.symm).1; omega), hb7.block _ (by omega)]
          exact hb2'
      clear hX hB hb1 hb2 hb2' hxc ho hf hl hts hx d0 d1 d2 d3 hz hbr
      obtain ⟨⟨t0, t1, t2, t3⟩, _⟩ := xblk (heap_alloc_new wr (.cells #[.int .i64 k', .string n', .int .i64 m', .slice aa al ac] 48))
      go_wp2_with (first
        | (go_at_call 21; go_must (refine hcall.mono ?_; clear hcall; rintro e w3 ⟨v', rfl, hv, hb3⟩; obtain ⟨k2, n2, m2, a2, l2, r2, rfl⟩ := hv.form; obtain ⟨y1, y2, y3⟩ := hnx.out w3 k2 n2 m2 a2 l2 r2 hb3 hv; obtain ⟨⟨s0, s1, s2, s3⟩, _⟩ := xblk (heap_alloc_new w3 (.cells #[.int .i64 k2, .string n2, .int .i64 m2, .slice a2 l2 r2] 48))))
        | (at_builtin; go_must (refine wpList_append_lies _ rfl _ _ 22 rfl (w.heap.size + 2) 48 i4 (.agg #[.int .i64 0, .string ⟨#[]⟩, .int .i64 0, .slice none 0 0]) 4 56 Try.underlying22 hi4 hw0 hw1 hw2 rfl (by decide) (.slice ro j rc) j (flatV f j) rfl y1 ⟨w3.heap.size + 1, 0, none⟩ 1 1 [.int .i64 k2, .string n2, .int .i64 m2, .slice a2 l2 r2] rfl (by rfl) (by have h9 := World.news_of_block (cs := #[.int .i64 k2, .string n2, .int .i64 m2, .slice a2 l2 r2]) (t := 48) (fr := (0, 0)) (heap_alloc_new (w3.alloc (.cells #[.int .i64 k2, .string n2, .int .i64 m2, .slice a2 l2 r2] 48)) _); simpa using h9) (by simp [Value.oneCell']) (by omega) (by unfold maxLen; omega) (by omega) (by simp; omega) (w3.heap.size + 1 + 1) (by simp) ?_; intro g7 c7 w7 hown7 hg7 hat7 hlt7; obtain ⟨r7, b7, p7, q7⟩ := y3 w7 g7 c7 hown7 hg7 hat7)))
      go_roundw
      case rel => exact ⟨j + 1, some ⟨g7, 0, none⟩, c7, by omega, by go_num, rfl, r7, b7, p7, q7⟩
      case measure => simp [intOf]; omega
    · obtain rfl : j = xs.length := by omega
      obtain ⟨w9, hw9⟩ : ∃ w9, w9 = wr := ⟨_, rfl⟩
      subst hw9
      have hR := hX.out
      rw [List.take_length] at hR
      obtain ⟨f, hf, hxc, ho⟩ := hR
      have hl : (xs.map some).length = xs.length := by simp
      rw [hl] at ho
      obtain ⟨u0, u1, u2, u3, hb2'⟩ := hb2.out
      have hs1 := lt_of_block hb2'
      have hbr := hB.out
      have hnx : Hid ((w9.alloc (.cells #[.int .i64 (-77), .string ⟨#[]⟩, .int .i64 0, .slice none 0 0] 48)).ownsRow (w.heap.size + 2) 48 4 (.slice ro xs.length rc) xs.length (flatV f xs.length) ∧ w.heap.size + 2 ≤ w9.heap.size ∧ ∀ w7 g7 c7, w7.ownsRow (w.heap.size + 2) 48 4 (.slice (some ⟨g7, 0, none⟩) (xs.length + 1) c7) (xs.length + 1) (flatV f xs.length ++ mkX) → (w9.alloc (.cells #[.int .i64 (-77), .string ⟨#[]⟩, .int .i64 0, .slice none 0 0] 48)).grownBy w7 (Value.slice ro xs.length rc).ownBlock → ((Value.slice ro xs.length rc).ownBlock = some g7 ∨ g7 = w9.heap.size + 1) →
          Hid (Dr ((w.heap.size + 2) ≤ ·) w7 (.slice (some ⟨g7, 0, none⟩) xs.length c7) xs) ∧ Hid (Below w.heap.size w w7) ∧ (w7.heap[w.heap.size]? = some (.cells #[.int .i64 k, .string n, .int .i64 m, .slice ao xs.length c] 48)) ∧ (∃ u0 u1 u2 u3, w7.heap[w.heap.size + 1]? = some (.cells #[u0, u1, u2, u3] 48)) ∧ xs.length + 1 ≤ c7) := by
        have hsz := hbr.size
        have hb7 := below_alloc w9 (.cells #[.int .i64 (-77), .string ⟨#[]⟩, .int .i64 0, .slice none 0 0] 48)
        refine ⟨row_keep ho (fun q hq => hb7.block q (ho.lt q hq).2), by omega, fun w7 g7 c7 hown hg hat => ⟨?_, ?_, ?_, ?_, own_capD hown⟩⟩
        · have h := ro_app (E := eltD) (B := w.heap.size + 2) (D := w9.heap.size) (xs := xs.map some) (x := none) (cs := mkX) hf (fun i y hi => hxc i y hi) (fun q hq => (ho.lt q hq).2) (by omega) rfl rfl (by rw [hl]; exact hown) hg hat
          rw [hl] at h
          exact h.dr
        · exact (Below.next hbr hb7).grown hg (by simp; omega) (fun q hq => by have := (ho.lt q hq).1; omega)
        · rw [hg.block _ (by simp; omega) (fun e => by have := (ho.lt _ e.symm).1; omega), hb7.block _ (by omega)]
          exact hb1.out
        · refine ⟨u0, u1, u2, u3, ?_⟩
          rw [hg.block _ (by simp; omega) (fun e => by have := (ho.lt _ e.symm).1; omega), hb7.block _ (by omega)]
          exact hb2'
      obtain ⟨y1, y2, y3⟩ := hnx.out
      have Y3 := hid y3
      clear hnx hX hB hb1 hb2 hb2' hxc ho hf hl hbr y3
      go_wp2_with (at_builtin; go_must (refine wpList_append_lies _ rfl _ _ 22 rfl (w.heap.size + 2) 48 i4 (.agg #[.int .i64 0, .string ⟨#[]⟩, .int .i64 0, .slice none 0 0]) 4 56 Try.underlying22 hi4 hw0 hw1 hw2 rfl (by decide) (.slice ro xs.length rc) xs.length (flatV f xs.length) rfl y1 ⟨w9.heap.size, 0, none⟩ 1 1 mkX rfl (by rfl) (World.news_of_block (cs := #[.int .i64 (-77), .string ⟨#[]⟩, .int .i64 0, .slice none 0 0]) (t := 48) (fr := (0, 0)) (heap_alloc_new w9 _)) (by simp [Value.oneCell']) (by omega) (by unfold maxLen; omega) (by omega) (by simp; omega) (w9.heap.size + 1) (by simp) ?_; intro g7 c7 w7 hown7 hg7 hat7 hlt7; obtain ⟨HR, HB, e7, ⟨v0, v1, v2, v3, q7⟩, hcap⟩ := Y3.out w7 g7 c7 hown7 hg7 hat7; have HB2 := hid q7; obtain ⟨⟨e0, e1, e2, e3⟩, f0, f1, f2, f3⟩ := blk4 e7; obtain ⟨⟨g0, g1, g2, g3⟩, h0, h1, h2, h3⟩ := blk4 q7; have hzz := lt_of_block q7; clear hown7 hg7 hat7 e7 q7))
      refine bodyPost_ret (ret_x1 Try.results21 (by rfl) (set4 (show (w7.setCell ⟨w.heap.size, 3, none⟩ (.slice (some ⟨g7, 0, none⟩) xs.length c7)).heap[w.heap.size + 1]? = _ from (Below.heap_setCell _ _ _ _ (by show w.heap.size + 1 ≠ w.heap.size; omega)).trans HB2.out))) rfl ⟨_, rfl, Dw.of (HR.out.keep (fun b hb hl => ⟨by omega, ?_⟩)), ?_⟩
      · rw [Below.heap_setCell _ _ _ _ (by show b ≠ w.heap.size + 1; omega), Below.heap_setCell _ _ _ _ (by show b ≠ w.heap.size + 1; omega), Below.heap_setCell _ _ _ _ (by show b ≠ w.heap.size + 1; omega), Below.heap_setCell _ _ _ _ (by show b ≠ w.heap.size + 1; omega), Below.heap_setCell _ _ _ _ (by show b ≠ w.heap.size; omega)]
      · exact ((((HB.out.setCell (p := ⟨w.heap.size, 3, none⟩) (Nat.le_refl _) _).setCell (p := ⟨w.heap.size + 1, 0, none⟩) (Nat.le_succ _) _).setCell (p := ⟨w.heap.size + 1, 1, none⟩) (Nat.le_succ _) _).setCell (p := ⟨w.heap.size + 1, 2, none⟩) (Nat.le_succ _) _).setCell (p := ⟨w.heap.size + 1, 3, none⟩) (Nat.le_succ _) _
theorem deep_any : ∀ x : Ex, DpC x := by
  intro x
  induction x using Ex.ind with
  | h k n m xs ih =>
    intro w v hv hp
    obtain ⟨av, rfl, ao, c, rfl, hat⟩ := hv.parts
    exact deep_a ih w ao c hat (by rw [prtX] at hp; omega)
end Go.Proofs.Ytncileojdighnaa

namespace Go.Proofs.Ytncileojdighnaa
set_option maxRecDepth 100000
open Go.RowKit Go.Maps
def WhC (x : Ex) : Prop := ∀ (w : World) (P : Nat → Prop) (mv v : Value), Dw P w x mv → Xv w x v → prtX x ≤ 5000 → Calls Try.prog 22 #[mv, v] w fun e w' => e = .returned (.bool true) ∧ Below w.heap.size w w'
set_option maxHeartbeats 4000000 in
theorem whole_a {k : Int} {n : ByteArray} {m : Int} {xs : List Ex} (ih : ∀ x ∈ xs, WhC x) (w : World) (P : Nat → Prop) (q c ac : Nat) (ao : Option Addr) (hlt0 : xs.length < c) (hm : w.cell? ⟨q, xs.length * 4, none⟩ = some (.int .i64 (-77))) (hD0 : ∀ j, j < xs.length → DwA P w q (xs.getD j x0) j) (hAt0 : ∀ j, j < xs.length → XAt w ao (xs.getD j x0) j) (hp : prtXs xs ≤ 5000) :
    Calls Try.prog 22 #[.agg #[.int .i64 k, .string n, .int .i64 m, .slice (some ⟨q, 0, none⟩) xs.length c], .agg #[.int .i64 k, .string n, .int .i64 m, .slice ao xs.length ac]] w fun e w' => e = .returned (.bool true) ∧ Below w.heap.size w w' := by
  have hAt := hid hAt0
  have hDt := hid hD0
  have IH := hid ih
  have hln : xs.length ≤ 5000 := by have := prt_len8 xs; omega
  have hpc : Hid (∀ x ∈ xs, prtX x ≤ 5000) := fun x hx => by have := prt_mem8 xs x hx; omega
  have hb2 : Below w.heap.size w ((w.alloc (.cells #[.int .i64 k, .string n, .int .i64 m, .slice (some ⟨q, 0, none⟩) xs.length c] 48)).alloc (.cells #[.int .i64 k, .string n, .int .i64 m, .slice ao xs.length ac] 48)) := (below_alloc w _).alloc (by simp) _
  have b0 : ((w.alloc (.cells #[.int .i64 k, .string n, .int .i64 m, .slice (some ⟨q, 0, none⟩) xs.length c] 48)).alloc (.cells #[.int .i64 k, .string n, .int .i64 m, .slice ao xs.length ac] 48)).heap[w.heap.size]? = some (.cells #[.int .i64 k, .string n, .int .i64 m, .slice (some ⟨q, 0, none⟩) xs.length c] 48) := by
    rw [Below.heap_alloc _ _ _ (by simp)]
    exact heap_alloc_new w _
  have b1 : ((w.alloc (.cells #[.int .i64 k, .string n, .int .i64 m, .slice (some ⟨q, 0, none⟩) xs.length c] 48)).alloc (.cells #[.int .i64 k, .string n, .int .i64 m, .slice ao xs.length ac] 48)).heap[w.heap.size + 1]? = some (.cells #[.int .i64 k, .string n, .int .i64 m, .slice ao xs.length ac] 48) := by
    simpa using heap_alloc_new (w.alloc (.cells #[.int .i64 k, .string n, .int .i64 m, .slice (some ⟨q, 0, none⟩) xs.length c] 48)) (.cells #[.int .i64 k, .string n, .int .i64 m, .slice ao xs.length ac] 48)
  have l0 := (hb2.cell (p := ⟨q, xs.length * 4, none⟩) (lt_of_cell hm)).trans hm
  have HB := hid hb2
  have H0 := hid b0
  have H1 := hid b1
  obtain ⟨⟨c0, c1, c2, c3⟩, _⟩ := blk4 b0
  obtain ⟨⟨d0, d1, d2, d3⟩, _⟩ := blk4 b1
  have hw1 : IntKind.i64.wrap ((xs.length : Int) + 1) = (xs.length : Int) + 1 := by rw [IntKind.wrap_i64]; omega
  have hi1 : (xs.length : Int) < (xs.length : Int) + 1 := by omega
  have ht1 : ((xs.length : Int) + 1).toNat = xs.length + 1 := by omega
  have hc1 : (xs.length : Int) + 1 ≤ (c : Int) := by omega
  clear hAt0 hD0 ih hp hb2 b0 b1 hm
  go_enter Try.func22, Try.ntmps22
  go_wp2
  go_quiet (fail)
  go_wp2
  clear c0 c1 c2 c3 d0 d1 d2 d3 l0 hw1 hi1 ht1 hc1
  go_loopw [53] (fun i wr => ∃ (j : Nat), j ≤ xs.length ∧ i = .int .i64 (j : Int) ∧ Hid (Below w.heap.size w wr ∧ wr.heap[w.heap.size]? = some (.cells #[.int .i64 k, .string n, .int .i64 m, .slice (some ⟨q, 0, none⟩) xs.length c] 48) ∧ wr.heap[w.heap.size + 1]? = some (.cells #[.int .i64 k, .string n, .int .i64 m, .slice ao xs.length ac] 48))) (fun i _ => xs.length - (intOf i).toNat)
  case atStart => exact ⟨0, by omega, rfl, below_drewN HB.out _, H0.out, H1.out⟩
  case round =>
    clear HB H0 H1
    obtain ⟨j, hj, rfl, hB⟩ := hrel
    have hbr := hB.out.1
    obtain ⟨⟨c0, c1, c2, c3⟩, _⟩ := blk4 hB.out.2.1
    obtain ⟨⟨d0, d1, d2, d3⟩, _⟩ := blk4 hB.out.2.2
    by_cases hlt : j < xs.length
    · obtain ⟨k1, n1, m1, a1, l1, r1, s0, s1, s2, s3, hD⟩ := hDt.out j hlt
      obtain ⟨b, o, k2, n2, m2, a2, l2, r2, rfl, t0, t1, t2, t3, hx⟩ := hAt.out j hlt
      have hcall := IH.out _ (xs_at hlt) _ _ _ _ ((hD.next hbr).next ((Below.refl _ _).drew)) ((hx.next hbr).next ((Below.refl _ _).drew)) (hpc.out _ (xs_at hlt))
      have hzs := lt_of_cell s0
      have hzt := lt_of_cell t0
      replace s0 := ((bcell hbr).1 q _ hzs).trans s0
      replace s1 := ((bcell hbr).1 q _ hzs).trans s1
      replace s2 := ((bcell hbr).1 q _ hzs).trans s2
      replace s3 := ((bcell hbr).1 q _ hzs).trans s3
      replace t0 := ((bcell hbr).1 b _ hzt).trans t0
      replace t1 := ((bcell hbr).1 b _ hzt).trans t1
      replace t2 := ((bcell hbr).1 b _ hzt).trans t2
      replace t3 := ((bcell hbr).1 b _ hzt).trans t3
      have hnx : Hid (∀ w3, Below wr.drew.heap.size wr.drew w3 → Hid (Below w.heap.size w w3 ∧ w3.heap[w.heap.size]? = some (.cells #[.int .i64 k, .string n, .int .i64 m, .slice (some ⟨q, 0, none⟩) xs.length c] 48) ∧ w3.heap[w.heap.size + 1]? = some (.cells #[.int .i64 k, .string n, .int .i64 m, .slice (some ⟨b, o, none⟩) xs.length ac] 48))) := fun w3 hb3 =>
        ⟨Below.next hbr.drew hb3, (hb3.block _ (lt_of_block hB.out.2.1)).trans hB.out.2.1, (hb3.block _ (lt_of_block hB.out.2.2)).trans hB.out.2.2⟩
      clear hD hx hB hbr hzs hzt
      go_wp2
      go_still_tail 10, (by kernel_rfl)
      change wpList _ _ _ _ _ wr.drew
      go_wp2_with (go_at_call 22; refine hcall.mono ?_; clear hcall; rintro e w3 ⟨rfl, hb3⟩; have hN := hnx.out w3 hb3)
      go_roundw
      case rel => exact ⟨j + 1, by omega, by go_num, hN⟩
      case measure => simp [intOf]; omega
    · obtain rfl : j = xs.length := by omega
      go_wp2
      go_ret
      exact ⟨rfl, hbr⟩
theorem whole_any : ∀ x : Ex, WhC x := by
  intro x
  induction x using Ex.ind with
  | h k n m xs ih =>
    intro w P mv v hd hv hp
    obtain ⟨av, rfl, q, c, rfl, _, hlt, hm, h2⟩ := hd.parts
    obtain ⟨av, rfl, ao, ac, rfl, hat⟩ := hv.parts
    exact whole_a ih w P q c ac ao hlt hm h2 hat (by rw [prtX] at hp; omega)
end Go.Proofs.Ytncileojdighnaa

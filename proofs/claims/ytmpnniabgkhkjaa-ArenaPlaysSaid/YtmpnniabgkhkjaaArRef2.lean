/- What the reference's Store, Cut, Check and Fill of layer 2 do, each at every argument. -/
import Derived.Test.YtmpnniabgkhkjaaArRef
namespace Go.Proofs.Ytmpnniabgkhkjaa
open Go.ChangeShapes Go.WideShapes Go.ChangeAt Go.RowKit

section
variable {w : World} {B p : Nat} {m : Int} {v : Value} {l : List Int}
theorem Ar.foot_lt {T : TypeId} (h : Ar T w B p m v l) : ∀ k ∈ foot p v, k < w.heap.size := fun k hk => by
  rcases mem_foot.1 hk with rfl | hk
  · exact h.lt
  · exact (h.row hk).2.1
theorem Upd.tail {T : TypeId} {w2 w3 : World} {l' : List Int} {v' : Value} {q : Nat} (h : Upd T w w2 B p m v l' v') (hm : Mod [q] w2 w3) (hq : w.heap.size ≤ q) (hf : q ∉ foot p v') : Upd T w w3 B p m v l' v' :=
  ⟨h.ar.keep hm (fun k hk => by simp at hk; subst hk; exact hf), h.mod.trans hm (fun x hx => Or.inr (by simp at hx; omega)), h.nx⟩
theorem own_weak {B' : Nat} {e : TypeId} {n : Nat} {xs : List Value} {u : Value} (h : w.ownsRow B' e 1 u n xs) (hB : B ≤ B') : w.ownsRow B e 1 u n xs := by
  refine ⟨h.1, ?_⟩
  rcases h.2 with h0 | ⟨g, cap, cur, he, hb, rest⟩
  · exact Or.inl h0
  · exact Or.inr ⟨g, cap, cur, he, by omega, rest⟩
theorem flt_facts {q : Nat} {c a : Int} (h : w.heap[q]? = some (fltObj c a)) : (w.cell? ⟨q, 0, none⟩ = some (.int .i64 c) ∧ w.cell? ⟨q, 1, none⟩ = some (.int .i64 a) ∧ w.cell? ⟨q, 2, none⟩ = some (.string ⟨#[]⟩) ∧ w.cell? ⟨q, 3, none⟩ = some (.slice none 0 0)) ∧
    (w.frozen? ⟨q, 0, none⟩ = false ∧ w.frozen? ⟨q, 1, none⟩ = false ∧ w.frozen? ⟨q, 2, none⟩ = false ∧ w.frozen? ⟨q, 3, none⟩ = false) := by
  refine ⟨⟨?_, ?_, ?_, ?_⟩, ?_, ?_, ?_, ?_⟩ <;> simp [World.cell?, World.frozen?, h, fltObj]
set_option maxHeartbeats 800000 in
theorem rstore_out (h : Ar 31 w B p m v l) (n u : Int) (hi : n < 0 ∨ (0 ≤ n ∧ (l.length : Int) ≤ n)) :
    Calls Try.prog 30 #[.pointer (some ⟨p, 0, none⟩), .int .i64 n, .int .u64 u] w fun e w' => e = .returned (flt 23 n) ∧ Below w.heap.size w w' := by
  have c1 := h.c1
  have hp := h.lt
  obtain ⟨ao, cap, rfl, _⟩ := h.val
  rcases hi with hi | ⟨hi0, hi⟩
  all_goals
    go_enter Try.func30, Try.ntmps30
    go_wp2_with (go_at_call 25; refine (at_ex _ _ _).mono ?_; rintro e w' ⟨rfl, rfl⟩)
    refine bodyPost_ret (v := flt 23 n) (by simp [results, Try.results30, go_sem, flt]) rfl ⟨rfl, ?_⟩
    repeat (first | exact Below.refl _ _ | refine Below.setCell ?_ (by first | (simp; done) | (simp; omega)) _ | refine Below.alloc ?_ (by first | (simp; done) | (simp; omega)) _)
set_option maxHeartbeats 800000 in
theorem rstore_not (h : Ar 31 w B p m v l) (n u : Int) (h0 : 0 ≤ n) (h1 : n < (l.length : Int)) (u0 : 0 ≤ u) (u1 : u ≤ 18446744073709551615) (hm : mayB u l.length = false) :
    Calls Try.prog 30 #[.pointer (some ⟨p, 0, none⟩), .int .i64 n, .int .u64 u] w fun e w' => e = .returned (flt 24 n) ∧ Below w.heap.size w w' := by
  have c1 := h.c1
  have hp := h.lt
  obtain ⟨ao, cap, rfl, _⟩ := h.val
  go_enter Try.func30, Try.ntmps30
  go_wp2_with (first | (go_at_call 39; refine (rmay_any _ _ _ u0 u1).mono ?_; rintro e wq ⟨rfl, hq⟩; subst hq) | (go_at_call 25; refine (at_ex _ _ _).mono ?_; rintro e w' ⟨rfl, rfl⟩))
  refine bodyPost_ret (v := flt 24 n) (by simp [results, Try.results30, go_sem, flt]) rfl ⟨rfl, ?_⟩
  repeat (first | exact Below.refl _ _ | refine Below.setCell ?_ (by first | (simp; done) | (simp; omega)) _ | refine Below.alloc ?_ (by first | (simp; done) | (simp; omega)) _)
set_option maxHeartbeats 1600000 in
theorem rstore_ok (h : Ar 31 w B p m v l) (k : Nat) (u : Int) (hk : k < l.length) (u0 : 0 ≤ u) (u1 : u ≤ 18446744073709551615) (hm : mayB u l.length = true) :
    Calls Try.prog 30 #[.pointer (some ⟨p, 0, none⟩), .int .i64 (k : Int), .int .u64 u] w fun e w' => e = .returned (flt 0 0) ∧ Upd 31 w w' B p m v (l.set k u) v := by
  obtain ⟨g, cap, rfl, hcap, hg, hne, _, hc, hf⟩ := h.form hk
  have c1 := h.c1
  have hp := h.lt
  have hk0 : (0 : Int) ≤ (k : Int) := by omega
  have hk' : (k : Int) < (l.length : Int) := by omega
  go_enter Try.func30, Try.ntmps30
  go_wp2_with (first | (go_at_call 39; refine (rmay_any _ _ _ u0 u1).mono ?_; rintro e wq ⟨rfl, hq⟩; subst hq) | (go_at_call 27; refine (no_ex _).mono ?_; rintro e w' ⟨rfl, rfl⟩))
  refine bodyPost_ret (v := flt 0 0) (by simp [results, Try.results30, go_sem, flt]) rfl ⟨rfl, ?_⟩
  have hS := h.stored k u ⟨u0, u1⟩
  refine hS.trans (Upd.same hS.ar ?_)
  repeat (first | exact Below.refl _ _ | refine Below.setCell ?_ (by first | (simp; done) | (simp; omega)) _ | refine Below.alloc ?_ (by first | (simp; done) | (simp; omega)) _)
set_option maxHeartbeats 800000 in
theorem rcut_out (h : Ar 31 w B p m v l) (n : Int) (hi : n < 0 ∨ (0 ≤ n ∧ (l.length : Int) < n)) :
    Calls Try.prog 31 #[.pointer (some ⟨p, 0, none⟩), .int .i64 n] w fun e w' => e = .returned (flt 23 n) ∧ Below w.heap.size w w' := by
  have c1 := h.c1
  have hp := h.lt
  obtain ⟨ao, cap, rfl, _⟩ := h.val
  rcases hi with hi | ⟨hi0, hi⟩
  all_goals
    go_enter Try.func31, Try.ntmps31
    go_wp2_with (go_at_call 25; refine (at_ex _ _ _).mono ?_; rintro e w' ⟨rfl, rfl⟩)
    refine bodyPost_ret (v := flt 23 n) (by simp [results, Try.results31, go_sem, flt]) rfl ⟨rfl, ?_⟩
    repeat (first | exact Below.refl _ _ | refine Below.setCell ?_ (by first | (simp; done) | (simp; omega)) _ | refine Below.alloc ?_ (by first | (simp; done) | (simp; omega)) _)
/-- A row copied anew, stored into the field. -/
theorem copy_upd {T : TypeId} {w1 w4 : World} {l' : List Int} {v4 : Value} {n : Nat} (h : Ar T w B p m v l) (hB : B ≤ w.heap.size) (hb : Below w.heap.size w w1) (hn : w.heap.size ≤ n) (hg : w1.grownBy w4 (some n)) (ho : w4.ownsRow n 38 1 v4 l'.length (l'.map (Value.int .u64))) (hl : (l'.length : Int) ≤ m) (hr : ∀ x ∈ l', 0 ≤ x ∧ x ≤ 18446744073709551615) :
    Upd T w (w4.setCell ⟨p, 1, none⟩ v4) B p m v l' v4 := by
  have hlt := h.lt
  refine Upd.push h ((Mod.ofBelow hb).grown hg (fun k e => Or.inr (by simp at e; omega))) ?_ (own_weak ho (by omega)) (fun k e => Or.inr (by have := (ho.lt k e).1; omega)) hl hr
  rw [hg.block p (by have := hb.size; omega) (fun e => by simp at e; omega)]
  exact hb.block p hlt
theorem copy_facts {w1 w4 : World} {n q p : Nat} {c a : Int} {u : Value} (hg : w1.grownBy w4 (some n)) (hq : w1.heap[q]? = some (fltObj c a)) (hqn : q ≠ n) (hp : p < w1.heap.size) (hpn : p ≠ n) (hc : w1.cell? ⟨p, 1, none⟩ = some u) (hf : w1.frozen? ⟨p, 1, none⟩ = false) :
    w4.heap[q]? = some (fltObj c a) ∧ w4.cell? ⟨p, 1, none⟩ = some u ∧ w4.frozen? ⟨p, 1, none⟩ = false := by
  have hb := hg.block p hp (fun e => by simp at e; omega)
  exact ⟨by rw [hg.block q (lt_of_block hq) (fun e => by simp at e; omega)]; exact hq, (World.cell?_of_block (w := w1) (a := ⟨p, 1, none⟩) hb).trans hc, (World.frozen?_of_block (w := w1) (a := ⟨p, 1, none⟩) hb).trans hf⟩
theorem rd_take {g n cap k : Nat} {l : List Int} (h : w.ownsRow B 38 1 (.slice (some ⟨g, 0, none⟩) n cap) n (l.map (Value.int .u64))) (hr : ∀ x ∈ l, 0 ≤ x ∧ x ≤ 18446744073709551615) (hn : l.length = n) (hk : k ≤ n) : Rd w (.slice (some ⟨g, 0, none⟩) k cap) (l.take k) := by
  have hl : (l.take k).length = k := by simp; omega
  have h1 := own_take h hk
  rw [← List.map_take] at h1
  exact Rd.ofOwn (v := .slice (some ⟨g, 0, none⟩) k cap) (by rw [hl]; exact h1) (fun x hx => hr x (List.mem_of_mem_take hx))
theorem below2 (w : World) (o o' : Obj) : Below w.heap.size w ((w.alloc o).alloc o') := (below_alloc w o).alloc (by simp) o'
theorem lit_at2 (w : World) (o o' : Obj) : ((w.alloc o).alloc o').heap[w.heap.size + 1]? = some o' := by
  have h := heap_alloc_new (w.alloc o) o'
  simpa using h
theorem first_at2 (w : World) (o o' : Obj) : ((w.alloc o).alloc o').heap[w.heap.size]? = some o := by
  rw [Below.heap_alloc (w.alloc o) o' w.heap.size (by simp)]
  exact heap_alloc_new w o
end
end Go.Proofs.Ytmpnniabgkhkjaa

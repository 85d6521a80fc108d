/- What came in: rows of terms and of equations. -/
import Derived.Test.YtmfgjemefjcblaaTAZ
import Derived.Test.YtmfgjemefjcblaaTiOwn
import Derived.Deep.Strs
namespace Go.Proofs.Ytmfgjemefjcblaa
open Go.ChangeShapes Go.WideShapes Go.ChangeAt Go.RowKit Go.Deep

theorem c8I : Try.prog.cellsOf 3 = 1 := by kernel_rfl
theorem c8S : Try.prog.cellsOf 9 = 1 := by kernel_rfl
theorem c8X : Try.prog.cellsOf 48 = 4 := by kernel_rfl
theorem c8Xs : Try.prog.cellsOf 22 = 1 := by kernel_rfl
theorem c8Q : Try.prog.cellsOf 50 = 5 := by kernel_rfl
theorem b8X : Try.prog.bytesOf 48 = 56 := by kernel_rfl
theorem b8Q : Try.prog.bytesOf 50 = 72 := by kernel_rfl
/-- All weights of a datum are small. -/
def Wt {H : Type} (t : TypeId) (d : DataW H) : Prop := ∀ n ∈ d.weights Try.prog t, n ≤ 281474976710656
theorem wAll_mem {H : Type} {e : TypeId} : ∀ {ds : List (DataW H)} {d : DataW H}, d ∈ ds → ∀ n ∈ d.weights Try.prog e, n ∈ DataW.weightsAll Try.prog e ds
  | y :: r, d, h, n, hn => by
    rw [DataW.weightsAll]
    rcases List.mem_cons.1 h with rfl | h
    · exact List.mem_append_left _ hn
    · exact List.mem_append_right _ (wAll_mem h n hn)
/-- The elements of a row of small weights have small weights, and the row is short. -/
theorem Wt.elem {H : Type} {t e : TypeId} {els sp : List (DataW H)} (hu : Try.prog.underlying t = some (.slice e)) (h : Wt t (.slice els sp)) {d : DataW H} (hd : d ∈ els) : Wt e d := fun n hn => h n (by
  rw [DataW.weights, hu]
  exact List.mem_cons_of_mem _ (List.mem_append_left _ (wAll_mem hd n hn)))
theorem Wt.len {H : Type} {t e : TypeId} {els sp : List (DataW H)} (hu : Try.prog.underlying t = some (.slice e)) (h : Wt t (.slice els sp)) : (els.length + sp.length) * Try.prog.bytesOf e ≤ 281474976710656 := h _ (by
  rw [DataW.weights, hu]
  exact List.mem_cons_self)
theorem Wt.part {H : Type} {t : TypeId} {fs : Array Field} {ds : List (DataW H)} (hu : Try.prog.underlying t = some (.struct fs)) (h : Wt t (.agg ds)) {j : Nat} {e : TypeId} {d : DataW H} (hj : (fs.toList.map (·.type))[j]? = some e) (hd : ds[j]? = some d) : Wt e d := fun n hn => h n (by
  rw [DataW.weights, hu]
  exact DataW.weights_mem_each hj hd n hn)
theorem Wt.str {H : Type} {t : TypeId} {s : ByteArray} (h : Wt (H := H) t (.lit (.string s.data.toList))) : s.size ≤ 281474976710656 := by
  have := h s.data.toList.length (by simp [DataW.weights])
  simpa using this
/-- What one term's cells tell. -/
def Xcs (W : World) (cs : List Value) : Prop := ∃ (X : Ex) (k : Int) (s : ByteArray) (m : Int) (a : Option Addr) (n c : Nat), cs = [.int .i64 k, .string s, .int .i64 m, .slice a n c] ∧ Xv W X (.agg #[.int .i64 k, .string s, .int .i64 m, .slice a n c]) ∧ szX X
set_option maxRecDepth 100000 in
theorem exprs_step {H : Type} {enc : TypeId × Value → H} {W : World} {fuel : Nat} (ih : ∀ n, n < fuel → ∀ (cs : List Value) (x : DataW H × List MemPlace), DataW.trod enc Try.prog W 0 (fun _ => true) true n 48 cs = some x → Wt 48 x.1 → Xcs W cs) {u : Value} {x : DataW H × List MemPlace} (h : DataW.trod enc Try.prog W 0 (fun _ => true) true fuel 22 [u] = some x) (hw : Wt 22 x.1) :
    ∃ xs : List Ex, Rxs W u xs ∧ szXs xs ∧ xs.length ≤ 281474976710656 := by
  rcases DataW.trod_slice Try.underlying22 h with ⟨hcs, _⟩ | ⟨ad, len, cap, els, rest, n, hn, hcs, hx, _, hl, hm, hlen, hel, _, _⟩
  · simp at hcs
    subst hcs
    exact ⟨[], Rxs.nil _, trivial, by simp⟩
  · simp at hcs
    subst hcs
    rw [hx] at hw
    rw [c8X] at hel
    have hwl := hw.len Try.underlying22
    rw [b8X, List.length_map, hlen] at hwl
    have each : ∀ i, ∃ X : Ex, i < len → szX X ∧ ∃ (k : Int) (s : ByteArray) (m : Int) (a : Option Addr) (n c : Nat), Xv W X (.agg #[.int .i64 k, .string s, .int .i64 m, .slice a n c]) ∧ W.cells? 0 (ad.add (i * 4)) 4 = some [.int .i64 k, .string s, .int .i64 m, .slice a n c] := fun i => by
      by_cases hi : i < len
      · have hei := hel i hi
        rw [List.getElem?_eq_getElem (by omega)] at hei
        obtain ⟨cs', hc, ht⟩ := Option.bind_eq_some_iff.1 hei
        obtain ⟨X, k, s, m, a, n', c, rfl, hX, hs⟩ := ih n (by omega) cs' _ ht (hw.elem Try.underlying22 (List.mem_map.2 ⟨_, List.getElem_mem (by omega), rfl⟩))
        exact ⟨X, fun _ => ⟨hs, k, s, m, a, n', c, hX, hc⟩⟩
      · exact ⟨x0, fun h => absurd h hi⟩
    obtain ⟨f, hf⟩ : ∃ f : Nat → Ex, ∀ i, i < len → szX (f i) ∧ ∃ (k : Int) (s : ByteArray) (m : Int) (a : Option Addr) (n c : Nat), Xv W (f i) (.agg #[.int .i64 k, .string s, .int .i64 m, .slice a n c]) ∧ W.cells? 0 (ad.add (i * 4)) 4 = some [.int .i64 k, .string s, .int .i64 m, .slice a n c] :=
      ⟨fun i => Classical.choose (each i), fun i => Classical.choose_spec (each i)⟩
    refine ⟨(List.range len).map f, ⟨some ad, cap, by simp, fun j hj => ?_⟩, szXs_of (fun x hx => ?_), by simp; omega⟩
    · have hj' : j < len := by simpa using hj
      have hg : ((List.range len).map f).getD j x0 = f j := by simp [List.getD, hj']
      obtain ⟨b, off, spot⟩ := ad
      obtain ⟨_, k, s, m, a, n', c, hX, hc⟩ := hf j hj'
      have hcj := (World.cells?_some hc).2.2
      have hspot : spot = none := by
        obtain ⟨_, k0, s0, m0, a0, n0, c0, _, hc0⟩ := hf 0 (by omega)
        have := (World.cells?_some hc0).2.2 0 (by omega)
        simp at this
        simpa [Addr.add] using World.cell?_spot this
      subst hspot
      have e : ∀ i, ((⟨b, off, none⟩ : Addr).add (j * 4)).add i = ⟨b, off + j * 4 + i, none⟩ := fun i => by rw [add_plain, add_plain]
      rw [hg]
      refine ⟨b, off, k, s, m, a, n', c, rfl, ?_, ?_, ?_, ?_, hX⟩
      · have := hcj 0 (by omega); rw [e] at this; simpa using this
      · have := hcj 1 (by omega); rw [e] at this; simpa using this
      · have := hcj 2 (by omega); rw [e] at this; simpa using this
      · have := hcj 3 (by omega); rw [e] at this; simpa using this
    · obtain ⟨i, hi, rfl⟩ := List.mem_map.1 hx
      exact (hf i (List.mem_range.1 hi)).1
set_option maxRecDepth 100000 in
/-- A term among what came in, read off its four cells. -/
theorem expr_of_cells {H : Type} {enc : TypeId × Value → H} {W : World} : ∀ (fuel : Nat) (cs : List Value) (x : DataW H × List MemPlace), DataW.trod enc Try.prog W 0 (fun _ => true) true fuel 48 cs = some x → Wt 48 x.1 → Xcs W cs := fun fuel => by
  induction fuel using Nat.strongRecOn with
  | ind fuel ih =>
    intro cs x h hw
    obtain ⟨xs, n, hn, hx, hl, hlen, hf⟩ := DataW.trod_struct Try.underlying48 h
    rw [c8X] at hl
    match cs, hl with
    | [c0, c1, c2, c3], _ =>
      match xs, hlen with
      | [y0, y1, y2, y3], _ =>
        rw [hx] at hw
        have h0 := hf 0 _ rfl
        have h1 := hf 1 _ rfl
        have h2 := hf 2 _ rfl
        have h3 := hf 3 _ rfl
        simp [c8I] at h0 h2
        simp [c8S] at h1
        simp [c8Xs] at h3
        obtain ⟨a0, e0, _, w0⟩ := DataW.trod_int Try.underlying3 h0
        obtain ⟨a1, e1, d1, w1⟩ := DataW.trod_string Try.underlying9 h1
        obtain ⟨a2, e2, _, w2⟩ := DataW.trod_int Try.underlying3 h2
        have hw1 : Wt 9 y1.1 := hw.part Try.underlying48 (j := 1) rfl rfl
        have hw3 : Wt 22 y3.1 := hw.part Try.underlying48 (j := 3) rfl rfl
        rw [d1] at hw1
        have hs1 := hw1.str
        obtain ⟨l, hr, hsz, _⟩ := exprs_step (fuel := n) (fun n' hn' => ih n' (by omega)) h3 hw3
        simp at e0 e1 e2
        subst e0 e1 e2
        obtain ⟨ao, c, rfl, hall⟩ := hr
        exact ⟨.mk a0 a1 a2 l, a0, a1, a2, ao, l.length, c, rfl, Xv.of ⟨ao, c, rfl, hall⟩, hs1, hsz⟩
end Go.Proofs.Ytmfgjemefjcblaa

/- What came in: rows of equations, and both as arguments. -/
namespace Go.Proofs.Ytmfgjemefjcblaa
open Go.ChangeShapes Go.WideShapes Go.ChangeAt Go.RowKit Go.Deep

theorem exprs_of_cells {H : Type} {enc : TypeId × Value → H} {W : World} {fuel : Nat} {u : Value} {x : DataW H × List MemPlace} (h : DataW.trod enc Try.prog W 0 (fun _ => true) true fuel 22 [u] = some x) (hw : Wt 22 x.1) : ∃ xs : List Ex, Rxs W u xs ∧ szXs xs ∧ xs.length ≤ 281474976710656 :=
  exprs_step (fun n _ cs x => expr_of_cells n cs x) h hw
set_option maxRecDepth 100000 in
/-- An equation among what came in, read off its five cells. -/
theorem eq_of_cells {H : Type} {enc : TypeId × Value → H} {W : World} {fuel : Nat} {cs : List Value} {x : DataW H × List MemPlace} (h : DataW.trod enc Try.prog W 0 (fun _ => true) true fuel 50 cs = some x) (hw : Wt 50 x.1) :
    ∃ (q : ByteArray × Ex) (k : Int) (s : ByteArray) (m : Int) (a : Option Addr) (n c : Nat), cs = [.string q.1, .int .i64 k, .string s, .int .i64 m, .slice a n c] ∧ Xv W q.2 (.agg #[.int .i64 k, .string s, .int .i64 m, .slice a n c]) ∧ q.1.size ≤ 281474976710656 ∧ szX q.2 := by
  obtain ⟨xs, n, hn, hx, hl, hlen, hf⟩ := DataW.trod_struct Try.underlying50 h
  rw [c8Q] at hl
  match cs, hl with
  | [c0, c1, c2, c3, c4], _ =>
    match xs, hlen with
    | [y0, y1], _ =>
      rw [hx] at hw
      have h0 := hf 0 _ rfl
      have h1 := hf 1 _ rfl
      simp [c8S] at h0
      simp [c8X] at h1
      obtain ⟨a0, e0, d0, w0⟩ := DataW.trod_string Try.underlying9 h0
      have hw0 : Wt 9 y0.1 := hw.part Try.underlying50 (j := 0) rfl rfl
      have hw1 : Wt 48 y1.1 := hw.part Try.underlying50 (j := 1) rfl rfl
      rw [d0] at hw0
      have hs0 := hw0.str
      obtain ⟨X, k, s, m, a, n', c, e1, hX, hz⟩ := expr_of_cells n _ _ h1 hw1
      simp at e0 e1
      obtain ⟨rfl, rfl, rfl, rfl⟩ := e1
      subst e0
      exact ⟨(a0, X), k, s, m, a, n', c, rfl, hX, hs0, hz⟩
set_option maxRecDepth 100000 in
theorem eqs_of_cells {H : Type} {enc : TypeId × Value → H} {W : World} {fuel : Nat} {u : Value} {x : DataW H × List MemPlace} (h : DataW.trod enc Try.prog W 0 (fun _ => true) true fuel 23 [u] = some x) (hw : Wt 23 x.1) :
    ∃ qs : List (ByteArray × Ex), Rqs W u qs ∧ (∀ q ∈ qs, q.1.size ≤ 281474976710656 ∧ szX q.2) ∧ qs.length ≤ 281474976710656 := by
  rcases DataW.trod_slice Try.underlying23 h with ⟨hcs, _⟩ | ⟨ad, len, cap, els, rest, n, hn, hcs, hx, _, hl, hm, hlen, hel, _, _⟩
  · simp at hcs
    subst hcs
    exact ⟨[], Rqs.nil _, by simp, by simp⟩
  · simp at hcs
    subst hcs
    rw [hx] at hw
    rw [c8Q] at hel
    have hwl := hw.len Try.underlying23
    rw [b8Q, List.length_map, hlen] at hwl
    have each : ∀ i, ∃ q : ByteArray × Ex, i < len → (q.1.size ≤ 281474976710656 ∧ szX q.2) ∧ ∃ (k : Int) (s : ByteArray) (m : Int) (a : Option Addr) (n c : Nat), Xv W q.2 (.agg #[.int .i64 k, .string s, .int .i64 m, .slice a n c]) ∧ W.cells? 0 (ad.add (i * 5)) 5 = some [.string q.1, .int .i64 k, .string s, .int .i64 m, .slice a n c] := fun i => by
      by_cases hi : i < len
      · have hei := hel i hi
        rw [List.getElem?_eq_getElem (by omega)] at hei
        obtain ⟨cs', hc, ht⟩ := Option.bind_eq_some_iff.1 hei
        obtain ⟨q, k, s, m, a, n', c, rfl, hX, hs⟩ := eq_of_cells ht (hw.elem Try.underlying23 (List.mem_map.2 ⟨_, List.getElem_mem (by omega), rfl⟩))
        exact ⟨q, fun _ => ⟨hs, k, s, m, a, n', c, hX, hc⟩⟩
      · exact ⟨q0, fun h => absurd h hi⟩
    obtain ⟨f, hf⟩ : ∃ f : Nat → ByteArray × Ex, ∀ i, i < len → ((f i).1.size ≤ 281474976710656 ∧ szX (f i).2) ∧ ∃ (k : Int) (s : ByteArray) (m : Int) (a : Option Addr) (n c : Nat), Xv W (f i).2 (.agg #[.int .i64 k, .string s, .int .i64 m, .slice a n c]) ∧ W.cells? 0 (ad.add (i * 5)) 5 = some [.string (f i).1, .int .i64 k, .string s, .int .i64 m, .slice a n c] :=
      ⟨fun i => Classical.choose (each i), fun i => Classical.choose_spec (each i)⟩
    refine ⟨(List.range len).map f, ⟨some ad, cap, by simp, fun j hj => ?_⟩, fun x hx => ?_, by simp; omega⟩
    · have hj' : j < len := by simpa using hj
      have hg : ((List.range len).map f).getD j q0 = f j := by simp [List.getD, hj']
      obtain ⟨b, off, spot⟩ := ad
      obtain ⟨_, k, s, m, a, n', c, hX, hc⟩ := hf j hj'
      have hcj := (World.cells?_some hc).2.2
      have hspot : spot = none := by
        obtain ⟨_, k0, s0, m0, a0, n0, c0, _, hc0⟩ := hf 0 (by omega)
        have := (World.cells?_some hc0).2.2 0 (by omega)
        simp at this
        simpa [Addr.add] using World.cell?_spot this
      subst hspot
      have e : ∀ i, ((⟨b, off, none⟩ : Addr).add (j * 5)).add i = ⟨b, off + j * 5 + i, none⟩ := fun i => by rw [add_plain, add_plain]
      rw [hg]
      refine ⟨b, off, k, s, m, a, n', c, rfl, ?_, ?_, ?_, ?_, ?_, hX⟩
      · have := hcj 0 (by omega); rw [e] at this; simpa using this
      · have := hcj 1 (by omega); rw [e] at this; simpa using this
      · have := hcj 2 (by omega); rw [e] at this; simpa using this
      · have := hcj 3 (by omega); rw [e] at this; simpa using this
      · have := hcj 4 (by omega); rw [e] at this; simpa using this
    · obtain ⟨i, hi, rfl⟩ := List.mem_map.1 hx
      exact (hf i (List.mem_range.1 hi)).1
/-- Small weights of one argument, from the bound on all. -/
theorem wt_arg {H : Type} {ts : List TypeId} {ds : List (DataW H)} (hsz : (DataW.weightsEach Try.prog ts ds).all (· ≤ reachBytes) = true) {j : Nat} {t : TypeId} {d : DataW H} (ht : ts[j]? = some t) (hd : ds[j]? = some d) : Wt t d := fun n hn => by
  have := List.all_eq_true.1 hsz _ (DataW.weights_mem_each ht hd n hn)
  have r := reachBytes_lt
  simp at this
  omega
set_option maxRecDepth 100000 in
theorem exprs_of {H : Type} {enc : TypeId × Value → H} {W : World} {base : Nat} {u : Value} {d : DataW H} {p : List MemPlace} (hv : Value.okWide Try.prog W .any base 22 u) (h : DataW.Trod enc Try.prog W 0 (fun _ => true) true 22 u d p) (hw : Wt 22 d) :
    ∃ xs : List Ex, Rxs W u xs ∧ szXs xs ∧ xs.length ≤ 281474976710656 := by
  obtain ⟨a, len, cap, rfl⟩ := okWide_slice Try.underlying22 hv
  obtain ⟨fuel, hf⟩ := h
  have hf' : DataW.trod enc Try.prog W 0 (fun _ => true) true fuel 22 [.slice a len cap] = some (d, p) := by simpa [Value.cells] using hf
  exact exprs_of_cells hf' hw
set_option maxRecDepth 100000 in
theorem eqs_of {H : Type} {enc : TypeId × Value → H} {W : World} {base : Nat} {u : Value} {d : DataW H} {p : List MemPlace} (hv : Value.okWide Try.prog W .any base 23 u) (h : DataW.Trod enc Try.prog W 0 (fun _ => true) true 23 u d p) (hw : Wt 23 d) :
    ∃ qs : List (ByteArray × Ex), Rqs W u qs ∧ (∀ q ∈ qs, q.1.size ≤ 281474976710656 ∧ szX q.2) ∧ qs.length ≤ 281474976710656 := by
  obtain ⟨a, len, cap, rfl⟩ := okWide_slice Try.underlying23 hv
  obtain ⟨fuel, hf⟩ := h
  have hf' : DataW.trod enc Try.prog W 0 (fun _ => true) true fuel 23 [.slice a len cap] = some (d, p) := by simpa [Value.cells] using hf
  exact eqs_of_cells hf' hw
end Go.Proofs.Ytmfgjemefjcblaa

/- What NamesApart needs: going over a kept iterator; what stays while names are put into the origin. -/
import Derived.Test.YtobimnfjfinphaaNmCopy
import Derived.Test.YtobimnfjfinphaaNmPlays
namespace Go.Proofs.Ytobimnfjfinphaa
open Go.RowKit Go.Shelf

attribute [local go_sem] Oper.semAt_some

/-- The box of what is gathered between two rounds. -/
def GI (w : World) (pre : List (Nat × ByteArray)) (W : World) : Prop :=
  (∃ u, Boxed W (w.heap.size + 1) 22 u ∧ W.ownsRow w.heap.size 9 1 u pre.length (pre.map fun x => Value.string x.2) ∧ True) ∧ Below w.heap.size w W
theorem gi_own (w : World) (B : Nat) (hB : w.heap.size ≤ B) : OwnFrom B (GI w) := by
  have h1 : OwnFrom B (fun (pre : List (Nat × ByteArray)) W => ∃ u, Boxed W (w.heap.size + 1) 22 u ∧ W.ownsRow w.heap.size 9 1 u pre.length (pre.map fun x => Value.string x.2) ∧ True) :=
    Own.from (holdsRow_own w.heap.size (w.heap.size + 1) 22 9 1 (fun (pre : List (Nat × ByteArray)) => pre.length) (fun pre => pre.map fun x => Value.string x.2) (fun _ _ => True)) B
  exact h1.and (ownFrom_below (Nat.le_refl _) hB)
theorem gi_start (w : World) : GI w [] ((w.alloc (.cells #[] 9)).alloc (.cells #[.slice (some ⟨w.heap.size, 0, none⟩) 0 0] 22)) := by
  have h1 := Boxed.new (w.alloc (.cells #[] 9)) 22 (.slice (some ⟨w.heap.size, 0, none⟩) 0 0)
  rw [World.size_alloc] at h1
  have h2 : (w.alloc (.cells #[] 9)).ownsRow w.heap.size 9 1 (.slice (some ⟨w.heap.size, 0, none⟩) 0 0) 0 [] := ⟨rfl, Or.inr ⟨w.heap.size, 0, #[], rfl, Nat.le_refl _, heap_alloc_new w _, Nat.le_refl _, Nat.zero_le _, rfl, rfl⟩⟩
  exact ⟨⟨_, h1, h2.alloc _, trivial⟩, (below_alloc w _).alloc (by simp) _⟩
/-- Going over a kept iterator with a body that never leaves. -/
theorem range_texts {g : Operand} {i j k : Nat} {assign body : Code} {Q : Exit → Act → World → Prop} {a : Act} {w : World} {n bb : Nat} {v1 : Value} {l : List ByteArray} {n₀ : Nat} (I : List (Nat × ByteArray) → World → Prop) (h1 : 2 ≤ n)
    (hg : a.eval g = .func (.func 31) #[] #[.pointer (some ⟨bb, 0, none⟩)]) (hl : l.length ≤ 5000) (hbox : w.cell? ⟨bb, 0, none⟩ = some v1) (hr : Rs w v1 l) (hn₀ : n₀ ≤ w.heap.size) (hlow : l ≠ [] → Low n₀ v1)
    (hI : OwnFrom w.heap.size I) (h0 : I [] w)
    (hassign : ∀ (r : Nat) (x : Nat × ByteArray) (W : World) (K : Act → World → Prop), K { tmps := ((a.tmps.setIfInBounds i (.int .i64 (x.1 : Int))).setIfInBounds j (.string x.2)).setIfInBounds k (.string x.2), defers := [] } W →
      assign.wpIn (Fence.wide.inRound r) (n - 1 - 1) Try.prog (Exit.then K (fun _ _ _ => False)) { tmps := (a.tmps.setIfInBounds i (.int .i64 (x.1 : Int))).setIfInBounds j (.string x.2), defers := [] } W)
    (hbody : ∀ (r : Nat) (pre : List (Nat × ByteArray)) (x : Nat × ByteArray) (W : World), I pre W → pre.length < l.length → body.wpIn (Fence.wide.inRound r) (n - 1 - 1) Try.prog (ownPostG w.heap.size (Below n₀) I (fun _ _ _ => False) (pre ++ [x]) W) { tmps := ((a.tmps.setIfInBounds i (.int .i64 (x.1 : Int))).setIfInBounds j (.string x.2)).setIfInBounds k (.string x.2), defers := [] } W)
    (hdone : ∀ (D : Nat) (W : World), w.heap.size ≤ D → I (upto l l.length) W → W.heap[D]? = some (.deferred (some [])) → Q .normal { a with defers := { target := .collected D, args := #[] } :: a.defers } W) :
    (Code.rangeFunc g #[i, j] assign body).wpIn Fence.wide n Try.prog Q a w := by
  have hf : Fence.wide.fn 31 := trivial
  refine wpIn_rangeFunc_ownG rfl (by omega) (gf := 31) (lb := #[.pointer (some ⟨bb, 0, none⟩)]) hg hf (enters_of Try.func31 (by kernel_rfl) rfl)
    (iter_stops Fence.wide (n - 1) hf rfl (by omega) bb n₀ v1 l hl w (lt_of_cell hbox) hn₀ hbox hr hlow) belowK_t (belowK_b hn₀) (Below.refl _ _) (fun _ => rfl) I (fun _ _ _ => False) hI (fun _ _ _ _ _ hs _ _ => hs) h0
    (fun x => { tmps := ((a.tmps.setIfInBounds i (.int .i64 (x.1 : Int))).setIfInBounds j (.string x.2)).setIfInBounds k (.string x.2), defers := [] }) ?_ hbody ?_ ?_
  · intro r x W K hK
    have := hassign r x W K hK
    simpa using this
  · rintro D xs W hD rfl hi hK
    exact hdone D W hD hi hK
  · rintro D c pre W _ _ h _
    exact h.elim
/-- The old row stays readable while names are put in behind it. -/
theorem rs_prefix {w : World} {g c c1 : Nat} {l l1 ext : List ByteArray} (h : Rs w (.slice (some ⟨g, 0, none⟩) l.length c) l) (hl : l = l1 ++ ext) : Rs w (.slice (some ⟨g, 0, none⟩) l1.length c1) l1 := by
  by_cases h0 : l1 = []
  · subst h0
    exact Or.inr (Or.inl ⟨_, _, rfl, rfl⟩)
  · have hpos := List.length_pos_iff.2 h0
    have hlen : l.length = l1.length + ext.length := by rw [hl]; simp
    refine Or.inr (Or.inr ⟨g, 0, c1, rfl, fun j hj => ?_⟩)
    have hgd : l.getD j ⟨#[]⟩ = l1.getD j ⟨#[]⟩ := by
      rw [hl]
      simp [List.getD, List.getElem?_append_left hj]
    rcases h with ⟨_, e⟩ | ⟨_, _, _, e⟩ | ⟨b, o, rc, e, hc⟩
    · rw [e] at hlen
      simp at hlen
      omega
    · rw [e] at hlen
      simp at hlen
      omega
    · have e1 : (g = b ∧ 0 = o) ∧ c = rc := by simpa using e
      obtain ⟨⟨rfl, rfl⟩, _⟩ := e1
      rw [hc j (by omega), hgd]
/-- What lies beside a table that is put into: memory from a0 on that was there at wd, and an older view v1 of its names. -/
structure Beside (a0 : Nat) (wd : World) (v1 : Value) (l1 : List ByteArray) (wr : World) (B p : Nat) (v : Value) (q : Nat) (l : List ByteArray) : Prop where
  tb : Tb wr B p v q l
  mod : Mod (List.range a0) wd wr
  out : ∀ k ∈ foot p v q, k < a0 ∨ wd.heap.size ≤ k
  ext : ∃ r, l = l1 ++ r
  old : Rs wr v1 l1
  row : ∀ k, v1.ownBlock = some k → k ≠ p ∧ k ≠ q ∧ k < wr.heap.size
  shape : ∃ B', wd.ownsRow B' 9 1 v1 l1.length (l1.map Value.string)
theorem Beside.put {a0 : Nat} {wd wr w' : World} {v1 v v' : Value} {l1 l : List ByteArray} {B p q : Nat} {s : ByteArray} (h : Beside a0 wd v1 l1 wr B p v q l) (hU : Upd wr w' B p v q (putL l s) v') (hr : Rs w' v l) : Beside a0 wd v1 l1 w' B p v' q (putL l s) := by
  obtain ⟨r, hr1⟩ := h.ext
  have hsz := h.mod.size
  refine ⟨hU.tb, h.mod.trans hU.mod (fun x hx => by simpa using h.out x hx), fun k hk => ?_, ?_, ?_, fun k hk => ?_, h.shape⟩
  · rcases foot_nx h.tb hU.nx k hk with h1 | h1
    · exact h.out k h1
    · exact Or.inr (by omega)
  · rcases putL_cases l s with e | e
    · exact ⟨r, by rw [e, hr1]⟩
    · exact ⟨r ++ [s], by rw [e, hr1, List.append_assoc]⟩
  · obtain ⟨B', hown⟩ := h.shape
    rcases hown.2 with ⟨e, hn⟩ | ⟨g, c1, cur, e, _⟩
    · exact Or.inl ⟨e, List.eq_nil_of_length_eq_zero hn⟩
    · by_cases hv : v.ownBlock = some g
      · obtain ⟨ao, c, e2, _⟩ := h.tb.val
        subst e2
        have e3 : ∃ o, ao = some ⟨g, 0, none⟩ ∧ o = 0 := by
          rcases h.tb.own.2 with ⟨e4, _⟩ | ⟨g', c', cur', e4, _⟩
          · injection e4 with e5
            subst e5
            simp [Value.ownBlock] at hv
          · injection e4 with e5
            subst e5
            have e6 : g' = g := by simpa [Value.ownBlock] using hv
            subst e6
            exact ⟨0, rfl, rfl⟩
        obtain ⟨_, rfl, _⟩ := e3
        rw [e]
        exact rs_prefix hr hr1
      · refine h.old.keep hU.mod (fun k hk e2 => ?_)
        have e3 : k = g := by
          rw [e] at e2
          simpa [Value.inBlock] using e2.symm
        subst e3
        have hrow := h.row k (by rw [e]; rfl)
        rcases mem_foot.1 hk with e4 | e4 | e4
        · exact hrow.1 e4
        · exact hrow.2.1 e4
        · exact hv e4
  · have := h.row k hk
    have := hU.mod.size
    exact ⟨by omega, by omega, by omega⟩
theorem mod_range {a0 : Nat} {w w' : World} (h : Below w.heap.size w w') : Mod (List.range a0) w w' := Mod.ofBelow h
/-- A row from a0 on stays. -/
theorem rs_low {a0 : Nat} {w w' : World} {u : Value} {l : List ByteArray} (h : Rs w u l) (hlow : l ≠ [] → ∀ k, Value.inBlock u = some k → a0 ≤ k) (hm : Mod (List.range a0) w w') : Rs w' u l := by
  by_cases h0 : l = []
  · subst h0
    rcases h with h | h | ⟨b, o, c, rfl, _⟩
    · exact Or.inl h
    · exact Or.inr (Or.inl h)
    · exact Or.inr (Or.inl ⟨_, c, rfl, rfl⟩)
  · exact h.keep hm (fun k hk e => by
      have h1 := hlow h0 k e
      have h2 : k < a0 := by simpa using hk
      omega)
theorem aNew : goodS ⟨#[97, 45, 110, 101, 119, 45, 111, 110, 101]⟩ = true := by decide
theorem putC_new {l : List ByteArray} (hl : l.length < 1024) : putC l ⟨#[97, 45, 110, 101, 119, 45, 111, 110, 101]⟩ = 0 := by
  cases hi : inL l ⟨#[97, 45, 110, 101, 119, 45, 111, 110, 101]⟩ <;> simp [putC, aNew, hl]
theorem putN_new {l : List ByteArray} (hl : l.length < 1024) (hi : inL l ⟨#[97, 45, 110, 101, 119, 45, 111, 110, 101]⟩ = false) : putN l ⟨#[97, 45, 110, 101, 119, 45, 111, 110, 101]⟩ = l.length := by simp [putN, aNew, hi, hl]
theorem putL_len (l : List ByteArray) (s : ByteArray) : l.length ≤ (putL l s).length ∧ (putL l s).length ≤ l.length + 1 := by
  rcases putL_cases l s with e | e <;> rw [e] <;> simp
theorem inL_ext {l1 r : List ByteArray} {s : ByteArray} (h : inL l1 s = true) : inL (l1 ++ r) s = true := by
  simp only [inL, List.any_append, Bool.or_eq_true]
  exact Or.inl h
theorem cut_min (stop : Int) (l : List ByteArray) : (stop ≤ 0 ∧ cutL stop l = l) ∨ (0 < stop ∧ ((cutL stop l).length : Int) = min stop (l.length : Int)) := by
  by_cases h : 0 < stop
  · refine Or.inr ⟨h, ?_⟩
    unfold cutL
    rw [if_pos h, List.length_take]
    omega
  · exact Or.inl ⟨by omega, cut_all l (Or.inl (by omega))⟩
end Go.Proofs.Ytobimnfjfinphaa

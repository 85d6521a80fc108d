/- Each call of package arena by what the chapter says of its error, its answer and the words behind it. -/
import Derived.Test.YtmpnniabgkhkjaaArLaw2
namespace Go.Proofs.Ytmpnniabgkhkjaa
open Go.ChangeShapes Go.WideShapes Go.ChangeAt Go.RowKit

def AllocR (m : Int) (l : List Int) (n c a r : Int) (l' : List Int) : Prop :=
  (n < 1 ∧ c = 21 ∧ a = n ∧ r = 0 ∧ l' = l) ∨ (1 ≤ n ∧ m - l.length < n ∧ c = 22 ∧ a = n ∧ r = 0 ∧ l' = l) ∨ (∃ k : Nat, n = k ∧ 1 ≤ k ∧ (l.length : Int) + k ≤ m ∧ c = 0 ∧ a = 0 ∧ r = l.length ∧ l' = l ++ frsh l.length k)
def LoadR (l : List Int) (n c a r : Int) : Prop :=
  (inB n l.length = false ∧ c = 23 ∧ a = n ∧ r = 0) ∨ (∃ k : Nat, n = k ∧ k < l.length ∧ c = 0 ∧ a = 0 ∧ r = l.getD k 0)
def StoreR (l : List Int) (n u c a : Int) (l' : List Int) : Prop :=
  (inB n l.length = false ∧ c = 23 ∧ a = n ∧ l' = l) ∨ (inB n l.length = true ∧ mayB u l.length = false ∧ c = 24 ∧ a = n ∧ l' = l) ∨ (∃ k : Nat, n = k ∧ k < l.length ∧ mayB u l.length = true ∧ c = 0 ∧ a = 0 ∧ l' = l.set k u)
def CutR (l : List Int) (n c a : Int) (l' : List Int) : Prop :=
  ((n < 0 ∨ (l.length : Int) < n) ∧ c = 23 ∧ a = n ∧ l' = l) ∨ (∃ k : Nat, n = k ∧ k ≤ l.length ∧ c = 0 ∧ a = 0 ∧ l' = l.take k)
def CheckR (l : List Int) (c a : Int) : Prop :=
  (AllMay l l.length ∧ c = 0 ∧ a = 0) ∨ (∃ i : Nat, FirstBad l l.length i ∧ c = 24 ∧ a = i)
def FillR (m : Int) (l x : List Int) (c a : Int) (l' : List Int) : Prop :=
  (m < (x.length : Int) ∧ c = 22 ∧ a = x.length ∧ l' = l) ∨ ((x.length : Int) ≤ m ∧ ∃ i : Nat, FirstBad x x.length i ∧ c = 24 ∧ a = i ∧ l' = l) ∨ ((x.length : Int) ≤ m ∧ AllMay x x.length ∧ c = 0 ∧ a = 0 ∧ l' = x)
theorem inB_or (n : Int) (k : Nat) : inB n k = false ∨ ∃ j : Nat, n = j ∧ j < k := by
  by_cases h : 0 ≤ n ∧ n < k
  · exact Or.inr ⟨n.toNat, by omega, by omega⟩
  · exact Or.inl (by simpa [inB] using h)
theorem allocR_ex (m : Int) (l : List Int) (n : Int) : ∃ c a r l', AllocR m l n c a r l' := by
  by_cases h : n < 1
  · exact ⟨_, _, _, _, Or.inl ⟨h, rfl, rfl, rfl, rfl⟩⟩
  by_cases h2 : m - l.length < n
  · exact ⟨_, _, _, _, Or.inr (Or.inl ⟨by omega, h2, rfl, rfl, rfl, rfl⟩)⟩
  · exact ⟨_, _, _, _, Or.inr (Or.inr ⟨n.toNat, by omega, by omega, by omega, rfl, rfl, rfl, rfl⟩)⟩
theorem loadR_ex (l : List Int) (n : Int) : ∃ c a r, LoadR l n c a r := by
  rcases inB_or n l.length with h | ⟨k, rfl, hk⟩
  · exact ⟨_, _, _, Or.inl ⟨h, rfl, rfl, rfl⟩⟩
  · exact ⟨_, _, _, Or.inr ⟨k, rfl, hk, rfl, rfl, rfl⟩⟩
theorem storeR_ex (l : List Int) (n u : Int) : ∃ c a l', StoreR l n u c a l' := by
  rcases inB_or n l.length with h | ⟨k, rfl, hk⟩
  · exact ⟨_, _, _, Or.inl ⟨h, rfl, rfl, rfl⟩⟩
  · by_cases hm : mayB u l.length = true
    · exact ⟨_, _, _, Or.inr (Or.inr ⟨k, rfl, hk, hm, rfl, rfl, rfl⟩)⟩
    · exact ⟨_, _, _, Or.inr (Or.inl ⟨by simp [inB]; omega, by simpa using hm, rfl, rfl, rfl⟩)⟩
theorem cutR_ex (l : List Int) (n : Int) : ∃ c a l', CutR l n c a l' := by
  by_cases h : n < 0 ∨ (l.length : Int) < n
  · exact ⟨_, _, _, Or.inl ⟨h, rfl, rfl, rfl⟩⟩
  · exact ⟨_, _, _, Or.inr ⟨n.toNat, by omega, by omega, rfl, rfl, rfl⟩⟩
theorem checkR_ex (l : List Int) : ∃ c a, CheckR l c a := by
  rcases may_or l l.length with h | ⟨i, h⟩
  · exact ⟨_, _, Or.inl ⟨h, rfl, rfl⟩⟩
  · exact ⟨_, _, Or.inr ⟨i, h, rfl, rfl⟩⟩
theorem fillR_ex (m : Int) (l x : List Int) : ∃ c a l', FillR m l x c a l' := by
  by_cases h : m < (x.length : Int)
  · exact ⟨_, _, _, Or.inl ⟨h, rfl, rfl, rfl⟩⟩
  rcases may_or x x.length with h1 | ⟨i, h1⟩
  · exact ⟨_, _, _, Or.inr (Or.inr ⟨by omega, h1, rfl, rfl, rfl⟩)⟩
  · exact ⟨_, _, _, Or.inr (Or.inl ⟨by omega, i, h1, rfl, rfl, rfl⟩)⟩
/-- A refused call changes nothing. -/
theorem allocR_stays {m : Int} {l l' : List Int} {n c a r : Int} (h : AllocR m l n c a r l') (hc : c ≠ 0) : l' = l := by
  rcases h with ⟨_, _, _, _, e⟩ | ⟨_, _, _, _, _, e⟩ | ⟨_, _, _, _, e, _⟩
  · exact e
  · exact e
  · exact absurd e hc
theorem storeR_stays {l l' : List Int} {n u c a : Int} (h : StoreR l n u c a l') (hc : c ≠ 0) : l' = l := by
  rcases h with ⟨_, _, _, e⟩ | ⟨_, _, _, _, e⟩ | ⟨_, _, _, _, e, _⟩
  · exact e
  · exact e
  · exact absurd e hc
theorem cutR_stays {l l' : List Int} {n c a : Int} (h : CutR l n c a l') (hc : c ≠ 0) : l' = l := by
  rcases h with ⟨_, _, _, e⟩ | ⟨_, _, _, e, _⟩
  · exact e
  · exact absurd e hc
theorem fillR_stays {m : Int} {l x l' : List Int} {c a : Int} (h : FillR m l x c a l') (hc : c ≠ 0) : l' = l := by
  rcases h with ⟨_, _, _, e⟩ | ⟨_, _, _, _, _, e⟩ | ⟨_, _, e, _⟩
  · exact e
  · exact e
  · exact absurd e hc
section
variable {w : World} {B p : Nat} {m : Int} {v : Value} {l : List Int}
theorem upd_new (h : Ar 64 w B p m v l) (c a : Int) : Upd 64 w (w.alloc (faultAtObj c a)) B p m v l v := Upd.same h (below_alloc _ _)
theorem alloc_r {n c a r : Int} {l' : List Int} (h : Ar 64 w B p m v l) (hB : B ≤ w.heap.size) (hR : AllocR m l n c a r l') :
    Calls Try.prog 19 #[.pointer (some ⟨p, 0, none⟩), .int .i64 n] w fun e w' => ∃ er v', e = .returned (.tuple #[.int .i64 r, er]) ∧ Err w' er c a ∧ Upd 64 w w' B p m v l' v' := by
  rcases hR with ⟨hn, rfl, rfl, rfl, rfl⟩ | ⟨hn, hf, rfl, rfl, rfl, rfl⟩ | ⟨k, rfl, hk, hf, rfl, rfl, rfl, rfl⟩
  · exact (alloc_few h _ hn).mono fun e w' ⟨he, hw⟩ => ⟨_, v, he, by rw [hw]; exact err_new _ _ _ (by decide), by rw [hw]; exact upd_new h _ _⟩
  · exact (alloc_full h _ hn hf).mono fun e w' ⟨he, hw⟩ => ⟨_, v, he, by rw [hw]; exact err_new _ _ _ (by decide), by rw [hw]; exact upd_new h _ _⟩
  · exact (alloc_ok h hB k hk hf).mono fun e w' ⟨v', he, hU⟩ => ⟨_, _, he, err_none _ _, hU⟩
theorem load_r {n c a r : Int} (h : Ar 64 w B p m v l) (hR : LoadR l n c a r) :
    Calls Try.prog 23 #[.pointer (some ⟨p, 0, none⟩), .int .i64 n] w fun e w' => ∃ er, e = .returned (.tuple #[.int .u64 r, er]) ∧ Err w' er c a ∧ Upd 64 w w' B p m v l v := by
  rcases hR with ⟨hn, rfl, rfl, rfl⟩ | ⟨k, rfl, hk, rfl, rfl, rfl⟩
  · exact (load_no h _ hn).mono fun e w' ⟨he, hw⟩ => ⟨_, he, by rw [hw]; exact err_new _ _ _ (by decide), by rw [hw]; exact upd_new h _ _⟩
  · exact (load_ok h k hk).mono fun e w' ⟨he, hw⟩ => ⟨_, he, err_none _ _, by rw [hw]; exact Upd.refl h⟩
theorem store_r {n u c a : Int} {l' : List Int} (h : Ar 64 w B p m v l) (u0 : 0 ≤ u) (u1 : u ≤ 18446744073709551615) (hR : StoreR l n u c a l') :
    Calls Try.prog 20 #[.pointer (some ⟨p, 0, none⟩), .int .i64 n, .int .u64 u] w fun e w' => ∃ er v', e = .returned er ∧ Err w' er c a ∧ Upd 64 w w' B p m v l' v' := by
  rcases hR with ⟨hn, rfl, rfl, rfl⟩ | ⟨hn, hm, rfl, rfl, rfl⟩ | ⟨k, rfl, hk, hm, rfl, rfl, rfl⟩
  · exact (store_out h _ _ hn).mono fun e w' ⟨he, hw⟩ => ⟨_, v, he, by rw [hw]; exact err_new _ _ _ (by decide), by rw [hw]; exact upd_new h _ _⟩
  · exact (store_not h _ _ hn u0 u1 hm).mono fun e w' ⟨he, hw⟩ => ⟨_, v, he, by rw [hw]; exact err_new _ _ _ (by decide), by rw [hw]; exact upd_new h _ _⟩
  · exact (store_ok h k u hk u0 u1 hm).mono fun e w' ⟨he, hU⟩ => ⟨_, _, he, err_none _ _, hU⟩
theorem cut_r {n c a : Int} {l' : List Int} (h : Ar 64 w B p m v l) (hR : CutR l n c a l') :
    Calls Try.prog 24 #[.pointer (some ⟨p, 0, none⟩), .int .i64 n] w fun e w' => ∃ er v', e = .returned er ∧ Err w' er c a ∧ Upd 64 w w' B p m v l' v' := by
  rcases hR with ⟨hn, rfl, rfl, rfl⟩ | ⟨k, rfl, hk, rfl, rfl, rfl⟩
  · exact (cut_out h _ hn).mono fun e w' ⟨he, hw⟩ => ⟨_, v, he, by rw [hw]; exact err_new _ _ _ (by decide), by rw [hw]; exact upd_new h _ _⟩
  · exact (cut_ok h k hk).mono fun e w' ⟨v', he, hU⟩ => ⟨_, _, he, err_none _ _, hU⟩
theorem fill_r {u : Value} {x : List Int} {c a : Int} {l' : List Int} (h : Ar 64 w B p m v l) (hB : B ≤ w.heap.size) (hu : Rd w u x) (hR : FillR m l x c a l') :
    Calls Try.prog 21 #[.pointer (some ⟨p, 0, none⟩), u] w fun e w' => ∃ er v', e = .returned er ∧ Err w' er c a ∧ Upd 64 w w' B p m v l' v' := by
  rcases hR with ⟨hf, rfl, rfl, rfl⟩ | ⟨hf, i, hb, rfl, rfl, rfl⟩ | ⟨hf, ha, rfl, rfl, rfl⟩
  · exact (fill_full h hu hf).mono fun e w' ⟨he, hw⟩ => ⟨_, v, he, by rw [hw]; exact err_new _ _ _ (by decide), by rw [hw]; exact upd_new h _ _⟩
  · exact (fill_bad h hu hf hb).mono fun e w' ⟨he, hw⟩ => ⟨_, v, he, by rw [hw]; exact err_new _ _ _ (by decide), by rw [hw]; exact upd_new h _ _⟩
  · exact (fill_ok h hB hu hf ha).mono fun e w' ⟨v', he, hU⟩ => ⟨_, _, he, err_none _ _, hU⟩
theorem acheck_r {c a : Int} (h : Ar 64 w B p m v l) (hR : CheckR l c a) :
    Calls Try.prog 22 #[.pointer (some ⟨p, 0, none⟩)] w fun e w' => ∃ er, e = .returned er ∧ Err w' er c a ∧ Below w.heap.size w w' := by
  rcases hR with ⟨ha, rfl, rfl⟩ | ⟨i, hb, rfl, rfl⟩
  · exact (acheck_all h ha).mono fun e w' ⟨he, hw⟩ => ⟨_, he, err_none _ _, by rw [hw]; exact Below.refl _ _⟩
  · exact (acheck_bad h hb).mono fun e w' ⟨he, hw⟩ => ⟨_, he, by rw [hw]; exact err_new _ _ _ (by decide), by rw [hw]; exact below_alloc _ _⟩
end
theorem Box4.belowB {w w' : World} {b B : Nat} {x0 x1 x2 x3 : Value} (h : Box4 w b x0 x1 x2 x3) (hq : Below B w w') (hb : b < B) : Box4 w' b x0 x1 x2 x3 := by
  obtain ⟨h0, h1, h2, h3, h4⟩ := h
  have hc : ∀ o, w'.cell? ⟨b, o, none⟩ = w.cell? ⟨b, o, none⟩ := fun o => hq.cell (p := ⟨b, o, none⟩) hb
  exact ⟨Nat.lt_of_lt_of_le h0 hq.size, by rw [hc, h1], by rw [hc, h2], by rw [hc, h3], by rw [hc, h4]⟩
theorem cellsI : Try.prog.cellsOf 3 = 1 := by kernel_rfl
theorem cellsS : Try.prog.cellsOf 29 = 1 := by kernel_rfl
theorem cellsOp : Try.prog.cellsOf 40 = 4 := by kernel_rfl
/-- One Op among what came in, read off its four cells. -/
theorem op_of_cells {H : Type} {enc : TypeId × Value → H} {W : World} {fuel : Nat} {cs : List Value} {x : DataW H × List MemPlace} (h : DataW.trod enc Try.prog W 0 (fun _ => true) true fuel 40 cs = some x) :
    ∃ (k n u : Int) (s : Value) (l : List Int), cs = [.int .i64 k, .int .i64 n, .int .u64 u, s] ∧ (-9223372036854775808 ≤ k ∧ k ≤ 9223372036854775807) ∧ (-9223372036854775808 ≤ n ∧ n ≤ 9223372036854775807) ∧ (0 ≤ u ∧ u ≤ 18446744073709551615) ∧ Rd W s l := by
  obtain ⟨xs, n, _, hx, hl, hlen, hf⟩ := DataW.trod_struct Try.underlying40 h
  rw [cellsOp] at hl
  match cs, hl with
  | [c0, c1, c2, c3], _ =>
    match xs, hlen with
    | [y0, y1, y2, y3], _ =>
      have h0 := hf 0 _ rfl
      have h1 := hf 1 _ rfl
      have h2 := hf 2 _ rfl
      have h3 := hf 3 _ rfl
      simp [cellsI] at h0 h1
      simp [cellsU] at h2
      simp [cellsS] at h3
      obtain ⟨a0, e0, _, w0⟩ := DataW.trod_int Try.underlying3 h0
      obtain ⟨a1, e1, _, w1⟩ := DataW.trod_int Try.underlying3 h1
      obtain ⟨a2, e2, _, w2⟩ := DataW.trod_int Try.underlying38 h2
      obtain ⟨l, hr, _⟩ := rd_of_cells h3
      simp at e0 e1 e2
      subst e0 e1 e2
      exact ⟨a0, a1, a2, c3, l, rfl, wf_i64 w0, wf_i64 w1, wf_u64 w2, hr⟩
theorem op_of {H : Type} {enc : TypeId × Value → H} {W : World} {base : Nat} {u : Value} {d : DataW H} {p : List MemPlace} (hv : Value.okWide Try.prog W .any base 40 u) (h : DataW.Trod enc Try.prog W 0 (fun _ => true) true 40 u d p) :
    ∃ (k n x : Int) (s : Value) (l : List Int), u = .agg #[.int .i64 k, .int .i64 n, .int .u64 x, s] ∧ (-9223372036854775808 ≤ k ∧ k ≤ 9223372036854775807) ∧ (-9223372036854775808 ≤ n ∧ n ≤ 9223372036854775807) ∧ (0 ≤ x ∧ x ≤ 18446744073709551615) ∧ Rd W s l := by
  obtain ⟨cs, rfl, hsz⟩ := okWide_struct Try.underlying40 hv
  obtain ⟨fuel, hf⟩ := h
  have hf' : DataW.trod enc Try.prog W 0 (fun _ => true) true fuel 40 cs.toList = some (d, p) := by simpa [Value.cells] using hf
  obtain ⟨k, n, x, s, l, hc, h1, h2, h3, h4⟩ := op_of_cells hf'
  refine ⟨k, n, x, s, l, ?_, h1, h2, h3, h4⟩
  congr 1
  exact Array.toList_inj.1 (by simpa using hc)
end Go.Proofs.Ytmpnniabgkhkjaa

/- 'append([]api.Expr{}, exprs...)': terms copied, whatever slice they came in; roots and names as they lie in memory. -/
import Derived.Test.Ytjkcffcedbcjmaata40Z
import Derived.Test.Ytjkcffcedbcjmaata00Z
import Derived.Test.Ytjkcffcedbcjmaata38Z
import Derived.Test.Ytjkcffcedbcjmaata33Z
import Derived.Test.Ytjkcffcedbcjmaata37Z
namespace Go.Proofs.Ytjkcffcedbcjmaa
set_option maxRecDepth 100000
open Go.RowKit Go.Maps
theorem nmd_cell {w : World} {B : Nat} {mo : Option Addr} {mc : Nat} {ms : List (ByteArray × Int)} (h : w.ownsRow B 56 2 (.slice mo ms.length mc) ms.length (mcells ms)) {i : Nat} (hi : i < ms.length) : ∃ b, mo = some ⟨b, 0, none⟩ ∧ w.cell? ⟨b, i * 2, none⟩ = some (.string (ms.getD i nm0).1) ∧ w.cell? ⟨b, i * 2 + 1, none⟩ = some (.int .i64 (ms.getD i nm0).2) := by
  have hat : ∀ (l : List (ByteArray × Int)) (i : Nat), i < l.length → (mcells l)[i * 2]? = some (.string (l.getD i nm0).1) ∧ (mcells l)[i * 2 + 1]? = some (.int .i64 (l.getD i nm0).2) := by
    intro l
    induction l with
    | nil => intro i hi; simp at hi
    | cons p r ih =>
      intro i hi
      cases i with
      | zero => exact ⟨rfl, rfl⟩
      | succ i =>
        have := ih i (by simpa using hi)
        rw [show (i + 1) * 2 = i * 2 + 1 + 1 by omega, show i * 2 + 1 + 1 + 1 = (i * 2 + 1) + 1 + 1 by omega]
        have e : mcells (p :: r) = .string p.1 :: .int .i64 p.2 :: mcells r := rfl
        rw [e]
        simpa using this
  rcases h.2 with ⟨_, h0⟩ | ⟨g, cap, cur, e, _⟩
  · omega
  · injection e with e1 e2 e3
    subst e1
    have h1 := hat ms i hi
    exact ⟨g, rfl, by rw [h.cellAt _ (by omega)]; exact h1.1, by rw [h.cellAt _ (by omega)]; exact h1.2⟩
end Go.Proofs.Ytjkcffcedbcjmaa

namespace Go.Proofs.Ytjkcffcedbcjmaa
set_option maxRecDepth 100000
open Go.RowKit Go.Maps
theorem namXs_snoc (l : List ByteArray) : ∀ (xs : List Ex) (j : Nat), j < xs.length → namXs l (xs.take (j + 1)) = namX (namXs l (xs.take j)) (xs.getD j x0) := by
  intro xs j
  induction xs generalizing l j with
  | nil => intro h; simp at h
  | cons x r ih =>
    intro h
    cases j with
    | zero => simp [namXs]
    | succ j =>
      simp only [List.take_succ_cons, namXs]
      rw [ih _ j (by simpa using h)]
      simp [List.getD]
theorem prt_take : ∀ (xs : List Ex) (j : Nat), j < xs.length → prtXs (xs.take j) + prtX (xs.getD j x0) ≤ prtXs xs
  | x :: r, 0, _ => by simp [prtXs]
  | x :: r, j + 1, h => by
    have := prt_take r j (by simpa using h)
    have e : (x :: r).getD (j + 1) x0 = r.getD j x0 := by simp [List.getD]
    rw [e]
    simp only [List.take_succ_cons, prtXs]
    omega
structure Nr (W w w' : World) (sv sv' : Value) (l : List ByteArray) : Prop where
  own : w'.ownsRow W.heap.size 9 1 sv' l.length (l.map Value.string)
  mo : Mo (fun k => sv.ownBlock = some k) w w'
  blk : ∀ k, sv'.ownBlock = some k → sv.ownBlock = some k ∨ w.heap.size ≤ k
  b : Below W.heap.size W w'
theorem Nr.step {W w1 wr w3 : World} {sv x y : Value} {l l' : List ByteArray} {q : Nat} {o : Obj} (h : Nr W w1 wr sv x l) (h' : Nr W wr w3 x y l') (hq : q < w1.heap.size) (hs : sv.ownBlock ≠ some q) (hb : wr.heap[q]? = some o) : Nr W w1 w3 sv y l' ∧ w3.heap[q]? = some o :=
  ⟨⟨h'.own, h.mo.trans h'.mo (fun k hk => h.blk k hk), fun k hk => by
    rcases h'.blk k hk with e | e
    · exact h.blk k e
    · exact Or.inr (Nat.le_trans h.mo.size e), h'.b⟩, (h'.mo.block _ (lt_of_block hb) (fun e => by
    rcases h.blk q e with e | e
    · exact hs e
    · omega)).trans hb⟩
theorem Nr.start {W w : World} {sv : Value} {l : List ByteArray} (h : w.ownsRow W.heap.size 9 1 sv l.length (l.map Value.string)) (hb : Below W.heap.size W w) (o : Obj) : Nr W (w.alloc o) (w.alloc o) sv sv l :=
  ⟨World.ownsRow.alloc h o, Mo.refl _ _, fun _ e => Or.inl e, hb.alloc hb.size o⟩
theorem Nr.back {W w w' : World} {o : Obj} {sv sv' : Value} {l : List ByteArray} (h : Nr W (w.alloc o) w' sv sv' l) : Nr W w w' sv sv' l :=
  ⟨h.own, ((Mo.refl _ w).alloc o).trans h.mo (fun k hk => Or.inl hk), fun k e => by
    rcases h.blk k e with e | e
    · exact Or.inl e
    · exact Or.inr (by simp at e; omega), h.b⟩
def NaC (x : Ex) : Prop := ∀ (W w : World) (sv v : Value) (l : List ByteArray), Xv W x v → Below W.heap.size W w → w.ownsRow W.heap.size 9 1 sv l.length (l.map Value.string) → l.length + prtX x ≤ 60000 → Calls Try.prog 59 #[sv, v] w fun e w' => ∃ sv', e = .returned sv' ∧ Nr W w w' sv sv' (namX l x)
set_option maxHeartbeats 4000000 in
theorem rnames_a {k : Int} {n : ByteArray} {m : Int} {xs : List Ex} (ih : ∀ x ∈ xs, NaC x) (W w : World) (so : Option Addr) (sc : Nat) (l : List ByteArray) (ao : Option Addr) (c : Nat) (hAt0 : ∀ j, j < xs.length → XAt W ao (xs.getD j x0) j) (hbW : Below W.heap.size W w) (hown : w.ownsRow W.heap.size 9 1 (.slice so l.length sc) l.length (l.map Value.string)) (hp : l.length + (1 + prtXs xs) ≤ 60000) :
    Calls Try.prog 59 #[.slice so l.length sc, .agg #[.int .i64 k, .string n, .int .i64 m, .slice ao xs.length c]] w fun e w' => ∃ sv', e = .returned sv' ∧ Nr W w w' (.slice so l.length sc) sv' (namXs (if (decide (k = 1) && !isU n) = true then putS l n else l) xs) := by
  obtain ⟨i0, hi0, hw0, hw1, hw2⟩ := info_parts infoStr
  have hAt := hid hAt0
  have IH := hid ih
  have hln : xs.length ≤ 60000 := by have := prt_len8 xs; omega
  have hll : l.length ≤ 60000 := by omega
  have hlen : Hid (∀ (l1 : List ByteArray) (j : Nat), j < xs.length → (l1 = l ∨ l1 = l ++ [n]) → (namXs l1 (xs.take j)).length + prtX (xs.getD j x0) ≤ 60000) := fun l1 j hj h => by
    have h1 := namXs_len l1 (xs.take j)
    have h2 := prt_take xs j hj
    have h3 : l1.length ≤ l.length + 1 := by rcases h with rfl | rfl <;> simp
    omega
  have hsb : Hid ((Value.slice so l.length sc).ownBlock ≠ some w.heap.size) := fun e => by have := (hown.lt _ e).2; omega
  have hbx := heap_alloc_new w (.cells #[.int .i64 k, .string n, .int .i64 m, .slice ao xs.length c] 48)
  obtain ⟨⟨e0, e1, e2, e3⟩, _⟩ := blk4 hbx
  clear hAt0 ih hp
  by_cases hk : k = 1
  · subst hk
    by_cases hu : n.toList = [95]
    · have hu2 : (n.toList == [95]) = true := by simp [hu]
      rw [if_neg (by simp [isU, hu])]
      have HN0 := hid (And.intro (Nr.start hown hbW (.cells #[.int .i64 1, .string n, .int .i64 m, .slice ao xs.length c] 48)) hbx)
      clear hown hbW hbx
      go_enter Try.func59, Try.ntmps59
      go_wp2
      go_loopw [0, 5] (fun x i wr => ∃ (j : Nat) (yo : Option Addr) (yc : Nat), j ≤ xs.length ∧ i = .int .i64 (j : Int) ∧ x = .slice yo (namXs l (xs.take j)).length yc ∧ Hid (Nr W (w.alloc (.cells #[.int .i64 1, .string n, .int .i64 m, .slice ao xs.length c] 48)) wr (.slice so l.length sc) x (namXs l (xs.take j)) ∧ wr.heap[w.heap.size]? = some (.cells #[.int .i64 1, .string n, .int .i64 m, .slice ao xs.length c] 48))) (fun _ i _ => xs.length - (intOf i).toNat)
      case atStart => exact ⟨0, _, _, Nat.zero_le _, rfl, by rw [List.take_zero, namXs], by rw [List.take_zero, namXs]; exact HN0.out⟩
      case round =>
        clear HN0
        obtain ⟨j, yo, yc, hj, rfl, rfl, hB⟩ := hrel
        obtain ⟨⟨e0, e1, e2, e3⟩, _⟩ := blk4 hB.out.2
        by_cases hlt : j < xs.length
        · obtain ⟨b, o, k', n', m', aa, al, ac, rfl, d0, d1, d2, d3, hx⟩ := hAt.out j hlt
          have hbr := hB.out.1.b
          have hz := lt_of_cell d0
          have c0 := ((bcell hbr).1 b _ hz).trans d0
          have c1 := ((bcell hbr).1 b _ hz).trans d1
          have c2 := ((bcell hbr).1 b _ hz).trans d2
          have c3 := ((bcell hbr).1 b _ hz).trans d3
          have hcall := IH.out _ (xs_at hlt) W wr _ _ (namXs l (xs.take j)) hx hbr hB.out.1.own (hlen.out l j hlt (Or.inl rfl))
          have hst := hid (namXs_snoc l xs j hlt)
          have hnx : Hid (∀ w3 y, Nr W wr w3 (.slice yo (namXs l (xs.take j)).length yc) y (namX (namXs l (xs.take j)) (xs.getD j x0)) → Hid (∃ zo zc, y = .slice zo (namXs l (xs.take (j + 1))).length zc ∧ Nr W (w.alloc (.cells #[.int .i64 1, .string n, .int .i64 m, .slice (some ⟨b, o, none⟩) xs.length c] 48)) w3 (.slice so l.length sc) y (namXs l (xs.take (j + 1))) ∧ w3.heap[w.heap.size]? = some (.cells #[.int .i64 1, .string n, .int .i64 m, .slice (some ⟨b, o, none⟩) xs.length c] 48))) := fun w3 y h => by
            show ∃ _ _, _
            rw [hst.out]
            obtain ⟨zo, zc, e⟩ := own_sl h.own
            exact ⟨zo, zc, e, hB.out.1.step h (by simp) hsb.out hB.out.2⟩
          clear hx d0 d1 d2 d3 hz hB hbr hst
          go_wp2_with (go_at_call 59; refine hcall.mono ?_; clear hcall; rintro e w3 ⟨y, rfl, hy⟩; have hN := hnx.out w3 y hy)
          go_roundw
          case rel =>
            obtain ⟨zo, zc, e, h⟩ := hN.out
            exact ⟨j + 1, zo, zc, by omega, by go_num, e, h⟩
          case measure => simp [intOf]; omega
        · obtain rfl : j = xs.length := by omega
          have hR := hid hB.out.1
          rw [List.take_length] at hR ⊢
          clear hB
          go_wp2
          go_ret
          exact ⟨_, rfl, hR.out.back⟩
    · have hu2 : (n.toList == [95]) = false := by simp [hu]
      rw [if_pos (by simp [isU, hu])]
      have hfd := rfind_any ((Rsn.own hown).next (below_alloc w (.cells #[.int .i64 1, .string n, .int .i64 m, .slice ao xs.length c] 48))) (by omega) n
      cases hin : inN l n with
      | true =>
        have hf : findI l n = (ixN l n : Int) := by unfold findI; rw [if_pos hin]
        have hf0 : ¬ ((ixN l n : Int) < 0) := by omega
        rw [hf] at hfd
        rw [show putS l n = l by unfold putS; rw [if_pos hin]]
        generalize ixN l n = z at hfd hf0
        have HF : Hid (∀ w2, Below (w.alloc (.cells #[.int .i64 1, .string n, .int .i64 m, .slice ao xs.length c] 48)).heap.size (w.alloc (.cells #[.int .i64 1, .string n, .int .i64 m, .slice ao xs.length c] 48)) w2 → Hid (Nr W (w.alloc (.cells #[.int .i64 1, .string n, .int .i64 m, .slice ao xs.length c] 48)) w2 (.slice so l.length sc) (.slice so l.length sc) l ∧ w2.heap[w.heap.size]? = some (.cells #[.int .i64 1, .string n, .int .i64 m, .slice ao xs.length c] 48))) := fun w2 hb => by
          have h1 := Nr.start hown hbW (.cells #[.int .i64 1, .string n, .int .i64 m, .slice ao xs.length c] 48)
          exact ⟨⟨own_below h1.own hb, Mo.ofBelow hb, fun _ e => Or.inl e, Below.next h1.b hb⟩, (hb.block _ (lt_of_block hbx)).trans hbx⟩
        clear hown hbW hbx hf hin
        go_enter Try.func59, Try.ntmps59
        go_wp2_with (go_at_call 35; refine hfd.mono ?_; clear hfd; rintro e w2 ⟨rfl, hb2⟩; have HN0 := HF.out w2 hb2; have hnb := (hb2.block _ (show w.heap.size < _ by simp)).trans (heap_alloc_new w (.cells #[.int .i64 1, .string n, .int .i64 m, .slice ao xs.length c] 48)); clear HF hb2)
        go_loopw [0, 5] (fun x i wr => ∃ (j : Nat) (yo : Option Addr) (yc : Nat), j ≤ xs.length ∧ i = .int .i64 (j : Int) ∧ x = .slice yo (namXs l (xs.take j)).length yc ∧ Hid (Nr W (w.alloc (.cells #[.int .i64 1, .string n, .int .i64 m, .slice ao xs.length c] 48)) wr (.slice so l.length sc) x (namXs l (xs.take j)) ∧ wr.heap[w.heap.size]? = some (.cells #[.int .i64 1, .string n, .int .i64 m, .slice ao xs.length c] 48))) (fun _ i _ => xs.length - (intOf i).toNat)
        case atStart => exact ⟨0, _, _, Nat.zero_le _, rfl, by rw [List.take_zero, namXs], by rw [List.take_zero, namXs]; exact HN0.out⟩
        case round =>
          clear HN0
          obtain ⟨j, yo, yc, hj, rfl, rfl, hB⟩ := hrel
          obtain ⟨⟨e0, e1, e2, e3⟩, _⟩ := blk4 hB.out.2
          by_cases hlt : j < xs.length
          · obtain ⟨b, o, k', n', m', aa, al, ac, rfl, d0, d1, d2, d3, hx⟩ := hAt.out j hlt
            have hbr := hB.out.1.b
            have hz := lt_of_cell d0
            have c0 := ((bcell hbr).1 b _ hz).trans d0
            have c1 := ((bcell hbr).1 b _ hz).trans d1
            have c2 := ((bcell hbr).1 b _ hz).trans d2
            have c3 := ((bcell hbr).1 b _ hz).trans d3
            have hcall := IH.out _ (xs_at hlt) W wr _ _ (namXs l (xs.take j)) hx hbr hB.out.1.own (hlen.out l j hlt (Or.inl rfl))
            have hst := hid (namXs_snoc l xs j hlt)
            have hnx : Hid (∀ w3 y, Nr W wr w3 (.slice yo (namXs l (xs.take j)).length yc) y (namX (namXs l (xs.take j)) (xs.getD j x0)) → Hid (∃ zo zc, y = .slice zo (namXs l (xs.take (j + 1))).length zc ∧ Nr W (w.alloc (.cells #[.int .i64 1, .string n, .int .i64 m, .slice (some ⟨b, o, none⟩) xs.length c] 48)) w3 (.slice so l.length sc) y (namXs l (xs.take (j + 1))) ∧ w3.heap[w.heap.size]? = some (.cells #[.int .i64 1, .string n, .int .i64 m, .slice (some ⟨b, o, none⟩) xs.length c] 48))) := fun w3 y h => by
              show ∃ _ _, _
              rw [hst.out]
              obtain ⟨zo, zc, e⟩ := own_sl h.own
              exact ⟨zo, zc, e, hB.out.1.step h (by simp) hsb.out hB.out.2⟩
            clear hx d0 d1 d2 d3 hz hB hbr hst
            go_wp2_with (go_at_call 59; refine hcall.mono ?_; clear hcall; rintro e w3 ⟨y, rfl, hy⟩; have hN := hnx.out w3 y hy)
            go_roundw
            case rel =>
              obtain ⟨zo, zc, e, h⟩ := hN.out
              exact ⟨j + 1, zo, zc, by omega, by go_num, e, h⟩
            case measure => simp [intOf]; omega
          · obtain rfl : j = xs.length := by omega
            have hR := hid hB.out.1
            rw [List.take_length] at hR ⊢
            clear hB
            go_wp2
            go_ret
            exact ⟨_, rfl, hR.out.back⟩
      | false =>
        have hf : findI l n = -1 := by unfold findI; rw [if_neg (by rw [hin]; simp)]
        rw [hf] at hfd
        rw [show putS l n = l ++ [n] by unfold putS; rw [if_neg (by rw [hin]; simp)]]
        have HF : Hid (∀ w2, Below (w.alloc (.cells #[.int .i64 1, .string n, .int .i64 m, .slice ao xs.length c] 48)).heap.size (w.alloc (.cells #[.int .i64 1, .string n, .int .i64 m, .slice ao xs.length c] 48)) w2 → w2.cell? ⟨w.heap.size, 1, none⟩ = some (.string n) ∧ (w2.alloc (.cells #[.string n] 9)).ownsRow W.heap.size 9 1 (.slice so l.length sc) l.length (l.map Value.string) ∧ W.heap.size ≤ w2.heap.size ∧ w.heap.size < w2.heap.size ∧ ∀ w5 g c', w5.ownsRow W.heap.size 9 1 (.slice (some ⟨g, 0, none⟩) (l.length + 1) c') (l.length + 1) (l.map Value.string ++ [.string n]) → (w2.alloc (.cells #[.string n] 9)).grownBy w5 (Value.slice so l.length sc).ownBlock → ((Value.slice so l.length sc).ownBlock = some g ∨ g = w2.heap.size + 1) → Hid (Nr W (w.alloc (.cells #[.int .i64 1, .string n, .int .i64 m, .slice ao xs.length c] 48)) w5 (.slice so l.length sc) (.slice (some ⟨g, 0, none⟩) (l ++ [n]).length c') (l ++ [n]) ∧ w5.heap[w.heap.size]? = some (.cells #[.int .i64 1, .string n, .int .i64 m, .slice ao xs.length c] 48))) := fun w2 hb => by
          have h1 := Nr.start hown hbW (.cells #[.int .i64 1, .string n, .int .i64 m, .slice ao xs.length c] 48)
          have hx2 := (hb.block _ (lt_of_block hbx)).trans hbx
          have hz2 := lt_of_block hx2
          have hW2 := Below.next h1.b hb
          have ho2 := own_below h1.own hb
          have hsz := hW2.size
          refine ⟨(blk4 hx2).1.2.1, World.ownsRow.alloc ho2 _, hsz, hz2, fun w5 g c' ho hg hat => ⟨⟨?_, ((Mo.ofBelow hb).alloc _).grown hg (fun k e => Or.inl e), fun k e => ?_, (hW2.alloc hsz _).grown hg (by simp; omega) (fun k e => (hown.lt k e).1)⟩, ?_⟩⟩
          · simpa using ho
          · have e1 : g = k := by simpa [Value.ownBlock] using e
            rcases hat with h2 | h2
            · exact Or.inl (by rw [h2, e1])
            · refine Or.inr ?_
              have := hb.size
              omega
          · rw [hg.block _ (by simp; omega) (fun e => by have := (hown.lt _ e.symm).2; omega), Below.heap_alloc _ _ _ hz2]
            exact hx2
        have hl1 : (l ++ [n]).length = l.length + 1 := by simp
        clear hown hbW hbx hf hin
        go_enter Try.func59, Try.ntmps59
        go_wp2_with (first
          | (go_at_call 35; refine hfd.mono ?_; clear hfd; rintro e w2 ⟨rfl, hb2⟩; obtain ⟨g0, y1, y2, y4, y3⟩ := HF.out w2 hb2; clear HF hb2)
          | (at_builtin; go_must (refine wpList_append_lies _ rfl _ _ 68 rfl W.heap.size 9 i0 (.string ⟨#[]⟩) 1 16 Try.underlying68 hi0 hw0 hw1 hw2 rfl (by decide) (.slice so l.length sc) l.length (l.map Value.string) rfl y1 ⟨w2.heap.size, 0, none⟩ 1 1 [.string n] rfl (by rfl) (World.news_of_block (cs := #[.string n]) (t := 9) (fr := (0, 0)) (heap_alloc_new w2 _)) (by simp [Value.oneCell']) (by omega) (by unfold maxLen; omega) (by omega) (by simp; omega) (w2.heap.size + 1) (by simp) ?_; intro g7 c7 w5 hown7 hg7 hat7 hlt7; have HN0 := y3 w5 g7 c7 hown7 hg7 hat7; rw [hl1] at HN0; clear hown7 hg7 hat7 hlt7 y1 y2 y3 y4 g0)))
        go_loopw [0, 5] (fun x i wr => ∃ (j : Nat) (yo : Option Addr) (yc : Nat), j ≤ xs.length ∧ i = .int .i64 (j : Int) ∧ x = .slice yo (namXs (l ++ [n]) (xs.take j)).length yc ∧ Hid (Nr W (w.alloc (.cells #[.int .i64 1, .string n, .int .i64 m, .slice ao xs.length c] 48)) wr (.slice so l.length sc) x (namXs (l ++ [n]) (xs.take j)) ∧ wr.heap[w.heap.size]? = some (.cells #[.int .i64 1, .string n, .int .i64 m, .slice ao xs.length c] 48))) (fun _ i _ => xs.length - (intOf i).toNat)
        case atStart => exact ⟨0, _, _, Nat.zero_le _, rfl, by rw [List.take_zero, namXs, hl1], by rw [List.take_zero, namXs]; exact HN0.out⟩
        case round =>
          clear HN0
          obtain ⟨j, yo, yc, hj, rfl, rfl, hB⟩ := hrel
          obtain ⟨⟨e0, e1, e2, e3⟩, _⟩ := blk4 hB.out.2
          by_cases hlt : j < xs.length
          · obtain ⟨b, o, k', n', m', aa, al, ac, rfl, d0, d1, d2, d3, hx⟩ := hAt.out j hlt
            have hbr := hB.out.1.b
            have hz := lt_of_cell d0
            have c0 := ((bcell hbr).1 b _ hz).trans d0
            have c1 := ((bcell hbr).1 b _ hz).trans d1
            have c2 := ((bcell hbr).1 b _ hz).trans d2
            have c3 := ((bcell hbr).1 b _ hz).trans d3
            have hcall := IH.out _ (xs_at hlt) W wr _ _ (namXs (l ++ [n]) (xs.take j)) hx hbr hB.out.1.own (hlen.out (l ++ [n]) j hlt (Or.inr rfl))
            have hst := hid (namXs_snoc (l ++ [n]) xs j hlt)
            have hnx : Hid (∀ w3 y, Nr W wr w3 (.slice yo (namXs (l ++ [n]) (xs.take j)).length yc) y (namX (namXs (l ++ [n]) (xs.take j)) (xs.getD j x0)) → Hid (∃ zo zc, y = .slice zo (namXs (l ++ [n]) (xs.take (j + 1))).length zc ∧ Nr W (w.alloc (.cells #[.int .i64 1, .string n, .int .i64 m, .slice (some ⟨b, o, none⟩) xs.length c] 48)) w3 (.slice so l.length sc) y (namXs (l ++ [n]) (xs.take (j + 1))) ∧ w3.heap[w.heap.size]? = some (.cells #[.int .i64 1, .string n, .int .i64 m, .slice (some ⟨b, o, none⟩) xs.length c] 48))) := fun w3 y h => by
              show ∃ _ _, _
              rw [hst.out]
              obtain ⟨zo, zc, e⟩ := own_sl h.own
              exact ⟨zo, zc, e, hB.out.1.step h (by simp) hsb.out hB.out.2⟩
            clear hx d0 d1 d2 d3 hz hB hbr hst
            go_wp2_with (go_at_call 59; refine hcall.mono ?_; clear hcall; rintro e w3 ⟨y, rfl, hy⟩; have hN := hnx.out w3 y hy)
            go_roundw
            case rel =>
              obtain ⟨zo, zc, e, h⟩ := hN.out
              exact ⟨j + 1, zo, zc, by omega, by go_num, e, h⟩
            case measure => simp [intOf]; omega
          · obtain rfl : j = xs.length := by omega
            have hR := hid hB.out.1
            rw [List.take_length] at hR ⊢
            clear hB
            go_wp2
            go_ret
            exact ⟨_, rfl, hR.out.back⟩
  · rw [if_neg (by simp [hk])]
    have HN0 := hid (And.intro (Nr.start hown hbW (.cells #[.int .i64 k, .string n, .int .i64 m, .slice ao xs.length c] 48)) hbx)
    clear hown hbW hbx
    go_enter Try.func59, Try.ntmps59
    go_wp2
    go_loopw [0, 5] (fun x i wr => ∃ (j : Nat) (yo : Option Addr) (yc : Nat), j ≤ xs.length ∧ i = .int .i64 (j : Int) ∧ x = .slice yo (namXs l (xs.take j)).length yc ∧ Hid (Nr W (w.alloc (.cells #[.int .i64 k, .string n, .int .i64 m, .slice ao xs.length c] 48)) wr (.slice so l.length sc) x (namXs l (xs.take j)) ∧ wr.heap[w.heap.size]? = some (.cells #[.int .i64 k, .string n, .int .i64 m, .slice ao xs.length c] 48))) (fun _ i _ => xs.length - (intOf i).toNat)
    case atStart => exact ⟨0, _, _, Nat.zero_le _, rfl, by rw [List.take_zero, namXs], by rw [List.take_zero, namXs]; exact HN0.out⟩
    case round =>
      clear HN0
      obtain ⟨j, yo, yc, hj, rfl, rfl, hB⟩ := hrel
      obtain ⟨⟨e0, e1, e2, e3⟩, _⟩ := blk4 hB.out.2
      by_cases hlt : j < xs.length
      · obtain ⟨b, o, k', n', m', aa, al, ac, rfl, d0, d1, d2, d3, hx⟩ := hAt.out j hlt
        have hbr := hB.out.1.b
        have hz := lt_of_cell d0
        have c0 := ((bcell hbr).1 b _ hz).trans d0
        have c1 := ((bcell hbr).1 b _ hz).trans d1
        have c2 := ((bcell hbr).1 b _ hz).trans d2
        have c3 := ((bcell hbr).1 b _ hz).trans d3
        have hcall := IH.out _ (xs_at hlt) W wr _ _ (namXs l (xs.take j)) hx hbr hB.out.1.own (hlen.out l j hlt (Or.inl rfl))
        have hst := hid (namXs_snoc l xs j hlt)
        have hnx : Hid (∀ w3 y, Nr W wr w3 (.slice yo (namXs l (xs.take j)).length yc) y (namX (namXs l (xs.take j)) (xs.getD j x0)) → Hid (∃ zo zc, y = .slice zo (namXs l (xs.take (j + 1))).length zc ∧ Nr W (w.alloc (.cells #[.int .i64 k, .string n, .int .i64 m, .slice (some ⟨b, o, none⟩) xs.length c] 48)) w3 (.slice so l.length sc) y (namXs l (xs.take (j + 1))) ∧ w3.heap[w.heap.size]? = some (.cells #[.int .i64 k, .string n, .int .i64 m, .slice (some ⟨b, o, none⟩) xs.length c] 48))) := fun w3 y h => by
          show ∃ _ _, _
          rw [hst.out]
          obtain ⟨zo, zc, e⟩ := own_sl h.own
          exact ⟨zo, zc, e, hB.out.1.step h (by simp) hsb.out hB.out.2⟩
        clear hx d0 d1 d2 d3 hz hB hbr hst
        go_wp2_with (go_at_call 59; refine hcall.mono ?_; clear hcall; rintro e w3 ⟨y, rfl, hy⟩; have hN := hnx.out w3 y hy)
        go_roundw
        case rel =>
          obtain ⟨zo, zc, e, h⟩ := hN.out
          exact ⟨j + 1, zo, zc, by omega, by go_num, e, h⟩
        case measure => simp [intOf]; omega
      · obtain rfl : j = xs.length := by omega
        have hR := hid hB.out.1
        rw [List.take_length] at hR ⊢
        clear hB
        go_wp2
        go_ret
        exact ⟨_, rfl, hR.out.back⟩
theorem rnames_any : ∀ x : Ex, NaC x := by
  intro x
  induction x using Ex.ind with
  | h k n m xs ih =>
    intro W w sv v l hv hb ho hp
    obtain ⟨so, sc, rfl⟩ := own_sl ho
    obtain ⟨av, rfl, ao, c, rfl, hat⟩ := hv.parts
    rw [namX]
    exact rnames_a ih W w so sc l ao c hat hb ho (by rw [prtX] at hp; exact hp)
end Go.Proofs.Ytjkcffcedbcjmaa

/- The lists of numbers of graphs: Lists of package tendrilhand. -/
import Derived.Test.YtebmnggjblellaaGrTrim3
namespace Go.Proofs.Ytebmnggjblellaa
open Go.RowKit

theorem infoL : (Try.prog.info? 23).map (fun i => (i.zero, i.size, i.bytes)) = some (some (.slice none 0 0), 1, 24) := by kernel_rfl
/-- A slice. -/
def Sl (v : Value) : Prop := ∃ a n c, v = .slice a n c
/-- No lists. -/
abbrev lg0 : Value × List Value := (.slice none 0 0, [])
/-- Graphs whose roots and arguments lie in these slices. -/
def Lg (w : World) (v : Value) (L : List (Value × List Value)) : Prop :=
  ∃ b o c, v = .slice (some ⟨b, o, none⟩) L.length c ∧ ∀ j, j < L.length → Sl (L.getD j lg0).1 ∧ w.cell? ⟨b, o + j * 2 + 1, none⟩ = some (L.getD j lg0).1 ∧ ∃ na nc, w.cell? ⟨b, o + j * 2, none⟩ = some (.slice na (L.getD j lg0).2.length nc) ∧
    ∀ i, i < (L.getD j lg0).2.length → Sl ((L.getD j lg0).2.getD i undef) ∧ ∃ nb no k s n, na = some ⟨nb, no, none⟩ ∧ w.cell? ⟨nb, no + i * 4, none⟩ = some (.int .i64 k) ∧ w.cell? ⟨nb, no + i * 4 + 1, none⟩ = some (.string s) ∧ w.cell? ⟨nb, no + i * 4 + 2, none⟩ = some (.int .i64 n) ∧ w.cell? ⟨nb, no + i * 4 + 3, none⟩ = some ((L.getD j lg0).2.getD i undef)
/-- All lists. -/
def flat (L : List (Value × List Value)) : List Value := L.flatMap (fun x => x.1 :: x.2)
theorem flat_snoc (L : List (Value × List Value)) (x : Value × List Value) : flat (L ++ [x]) = flat L ++ x.1 :: x.2 := by simp [flat]
theorem ltake_snoc {L : List (Value × List Value)} {k : Nat} (h : k < L.length) : L.take (k + 1) = L.take k ++ [L.getD k lg0] := by
  rw [List.take_succ_eq_append_getElem h]
  simp [List.getD, h]
theorem vtake_snoc {l : List Value} {k : Nat} (h : k < l.length) : l.take (k + 1) = l.take k ++ [l.getD k undef] := by
  rw [List.take_succ_eq_append_getElem h]
  simp [List.getD, h]
theorem flat_le {L : List (Value × List Value)} : ∀ k, (flat (L.take k)).length ≤ (flat L).length := fun k => by
  have h : L = L.take k ++ L.drop k := (List.take_append_drop k L).symm
  have e : (flat L).length = (flat (L.take k)).length + (flat (L.drop k)).length := by
    have : flat L = flat (L.take k) ++ flat (L.drop k) := by
      rw [flat, flat, flat, ← List.flatMap_append, List.take_append_drop]
    rw [this, List.length_append]
  omega
set_option maxRecDepth 100000 in
set_option maxHeartbeats 4000000 in
theorem hLists_any {W : World} {v : Value} {L : List (Value × List Value)} (hL : Lg W v L) (hl : (flat L).length ≤ 5000) (hn : L.length ≤ 1000) :
    Calls Try.prog 31 #[v] W fun e w' => (∃ ao c, e = .returned (.slice ao (flat L).length c) ∧ w'.ownsRow W.heap.size 23 1 (.slice ao (flat L).length c) (flat L).length (flat L)) ∧ Below W.heap.size W w' := by
  obtain ⟨i0, hi, hz0, hz1, hz2⟩ := info_parts infoL
  obtain ⟨b, o, c, rfl, hLc⟩ := hL
  go_enter Try.func31, Try.ntmps31
  go_wp2
  have h0 : Hid ((W.alloc (.cells #[] 23)).ownsRow W.heap.size 23 1 (.slice (some ⟨W.heap.size, 0, none⟩) 0 0) 0 []) := World.ownsRow_made W #[] 0 (Nat.le_refl _) (by unfold maxLen; omega) rfl
  go_loopw [3, 11] (fun x i wr => ∃ (k : Nat) (ao : Option Addr) (c : Nat), k ≤ L.length ∧ i = .int .i64 k ∧ x = .slice ao (flat (L.take k)).length c ∧ Hid (Below W.heap.size W wr) ∧ Hid (wr.ownsRow W.heap.size 23 1 (.slice ao (flat (L.take k)).length c) (flat (L.take k)).length (flat (L.take k)))) (fun _ i _ => L.length - (intOf i).toNat)
  case atStart => exact ⟨0, some ⟨W.heap.size, 0, none⟩, 0, Nat.zero_le _, rfl, rfl, below_alloc _ _, h0⟩
  case round =>
    clear h0
    obtain ⟨k, ao, cc, hk, rfl, rfl, hb, ho⟩ := hrel
    by_cases hlt : k < L.length
    · obtain ⟨⟨ra, rn, rc, hrv⟩, hr1, na, nc, hn1, hnode⟩ := hLc k hlt
      have hfk := flat_le (L := L) (k + 1)
      rw [ltake_snoc hlt, flat_snoc, hrv] at hfk
      have hnext : Hid (flat (L.take (k + 1)) = flat (L.take k) ++ (L.getD k lg0).1 :: (L.getD k lg0).2) := by
        show _ = _
        rw [ltake_snoc hlt, flat_snoc]
      rw [hrv] at hr1 hnext
      generalize (L.getD k lg0).2 = A at hn1 hnode hfk hnext
      clear hrv
      have d0 : wr.cell? ⟨b, o + k * 2, none⟩ = some (.slice na A.length nc) := by rw [hb.out.cell (p := ⟨b, o + k * 2, none⟩) (lt_of_cell hn1)]; exact hn1
      have d1 : wr.cell? ⟨b, o + k * 2 + 1, none⟩ = some (.slice ra rn rc) := by rw [hb.out.cell (p := ⟨b, o + k * 2 + 1, none⟩) (lt_of_cell hr1)]; exact hr1
      have hbs := hb.out.size
      have hbA : Below W.heap.size W (wr.alloc (.cells #[.slice na A.length nc, .slice ra rn rc] 25)) := hb.out.alloc hbs _
      have hoA := World.ownsRow.alloc (World.ownsRow.alloc ho.out (.cells #[.slice na A.length nc, .slice ra rn rc] 25)) (.cells #[.slice ra rn rc] 23)
      have hgA := heap_alloc_new wr (.cells #[.slice na A.length nc, .slice ra rn rc] 25)
      have hoz := hid ho.out
      have hfl2 : (flat (L.take k)).length ≤ 5000 ∧ A.length ≤ 5000 := by
        simp at hfk
        omega
      have hfar := hid (fun (w5 : World) (hg : ((wr.alloc (.cells #[.slice na A.length nc, .slice ra rn rc] 25)).alloc (.cells #[.slice ra rn rc] 23)).grownBy w5 (Value.ownBlock (.slice ao (flat (L.take k)).length cc))) => (show w5.heap[wr.heap.size]? = some (.cells #[.slice na A.length nc, .slice ra rn rc] 25) ∧ Below W.heap.size W w5 from
        ⟨by rw [hg.block _ (by simp; omega) (fun e => by have := (hoz.out.lt _ e.symm).2; omega), Below.heap_alloc _ _ _ (by simp)]; exact hgA, (hbA.alloc hbA.size _).grown hg (by simp; omega) (fun j e => (hoz.out.lt j e).1)⟩))
      generalize flat (L.take k) = F at hoA hoz hfl2 hfar hnext hfk
      clear hb ho hr1 hn1
      go_wp2_with (at_builtin; refine wpList_append_lies _ rfl _ _ _ rfl W.heap.size 23 i0 (.slice none 0 0) 1 24 Try.underlying51 hi hz0 hz1 hz2 rfl (by decide) _ F.length F rfl hoA ⟨wr.heap.size + 1, 0, none⟩ 1 1 [.slice ra rn rc] rfl rfl (World.news_of_block (cs := #[.slice ra rn rc]) (t := 23) (fr := (0, 0)) (by simpa using heap_alloc_new (wr.alloc (.cells #[.slice na A.length nc, .slice ra rn rc] 25)) (.cells #[.slice ra rn rc] 23))) (by simp [Value.oneCell']) (by omega) (by unfold maxLen; omega) (by omega) (by simp; omega) (wr.heap.size + 1 + 1) (by simp) ?_; intro g1 cap1 w5 hown5 hgr5 hat5 hlt5; obtain ⟨hg5, hb5⟩ := hfar.out w5 hgr5; obtain ⟨⟨f0, f1⟩, _⟩ := blk2 hg5)
      have hbs5 := hb5.size
      have h5 : Hid (w5.ownsRow W.heap.size 23 1 (.slice (some ⟨g1, 0, none⟩) (F.length + 1 + 0) cap1) (F.length + 1 + 0) ((F ++ [.slice ra rn rc]) ++ A.take 0)) := by simpa [Hid] using hown5
      have hb5' := hid hb5
      clear hown5 hgr5 hfar hoA hgA d0 d1 f1 hg5
      go_loopw [3, 23] (fun x i wr => ∃ (t : Nat) (ao : Option Addr) (c : Nat), t ≤ A.length ∧ i = .int .i64 t ∧ x = .slice ao (F.length + 1 + t) c ∧ Hid (Below W.heap.size W wr) ∧ Hid (wr.ownsRow W.heap.size 23 1 (.slice ao (F.length + 1 + t) c) (F.length + 1 + t) ((F ++ [.slice ra rn rc]) ++ A.take t))) (fun _ i _ => A.length - (intOf i).toNat)
      case atStart => exact ⟨0, some ⟨g1, 0, none⟩, cap1, Nat.zero_le _, rfl, rfl, hb5', h5⟩
      case round =>
        clear h5 hb5' f0 hb5 hbs5 hbs hbA
        obtain ⟨t, ao, cc, ht, rfl, rfl, hb, ho⟩ := hrel
        by_cases hlt2 : t < A.length
        · obtain ⟨⟨aa, an, ac, hav⟩, nb, no, kk, ss, nn, rfl, n0, n1, n2, n3⟩ := hnode t hlt2
          have hst : Hid ((F ++ [.slice ra rn rc]) ++ A.take (t + 1) = ((F ++ [.slice ra rn rc]) ++ A.take t) ++ [A.getD t undef]) := by
            show _ = _
            rw [vtake_snoc hlt2]
            simp
          rw [hav] at n3 hst
          have e0 : wr.cell? ⟨nb, no + t * 4, none⟩ = some (.int .i64 kk) := by rw [hb.out.cell (p := ⟨nb, no + t * 4, none⟩) (lt_of_cell n0)]; exact n0
          have e1 : wr.cell? ⟨nb, no + t * 4 + 1, none⟩ = some (.string ss) := by rw [hb.out.cell (p := ⟨nb, no + t * 4 + 1, none⟩) (lt_of_cell n0)]; exact n1
          have e2 : wr.cell? ⟨nb, no + t * 4 + 2, none⟩ = some (.int .i64 nn) := by rw [hb.out.cell (p := ⟨nb, no + t * 4 + 2, none⟩) (lt_of_cell n0)]; exact n2
          have e3 : wr.cell? ⟨nb, no + t * 4 + 3, none⟩ = some (.slice aa an ac) := by rw [hb.out.cell (p := ⟨nb, no + t * 4 + 3, none⟩) (lt_of_cell n0)]; exact n3
          have hbs := hb.out.size
          have hbA : Below W.heap.size W ((wr.alloc (.cells #[.int .i64 kk, .string ss, .int .i64 nn, .slice aa an ac] 70)).alloc (.cells #[.slice aa an ac] 23)) := (hb.out.alloc hbs _).alloc (by simp; omega) _
          have hoA := World.ownsRow.alloc (World.ownsRow.alloc ho.out (.cells #[.int .i64 kk, .string ss, .int .i64 nn, .slice aa an ac] 70)) (.cells #[.slice aa an ac] 23)
          have hoz := hid ho.out
          generalize (F ++ [.slice ra rn rc]) ++ A.take t = XS at hoA hoz hst
          clear ho hb n0 n1 n2 n3 hav hnode
          go_wp2_with (at_builtin; refine wpList_append_lies _ rfl _ _ _ rfl W.heap.size 23 i0 (.slice none 0 0) 1 24 Try.underlying51 hi hz0 hz1 hz2 rfl (by decide) _ (F.length + 1 + t) XS rfl hoA ⟨wr.heap.size + 1, 0, none⟩ 1 1 [.slice aa an ac] rfl rfl (World.news_of_block (cs := #[.slice aa an ac]) (t := 23) (fr := (0, 0)) (by simpa using heap_alloc_new (wr.alloc (.cells #[.int .i64 kk, .string ss, .int .i64 nn, .slice aa an ac] 70)) (.cells #[.slice aa an ac] 23))) (by simp [Value.oneCell']) (by omega) (by unfold maxLen; omega) (by omega) (by simp; omega) (wr.heap.size + 1 + 1) (by simp) ?_; intro g2 cap2 w6 hown6 hgr6 hat6 hlt6)
          go_roundw
          case rel =>
            refine ⟨t + 1, some ⟨g2, 0, none⟩, cap2, by omega, congrArg (Value.int .i64) (by omega), rfl, ?_, ?_⟩
            · exact hbA.grown hgr6 (by simp; omega) (fun j e => (hoz.out.lt j e).1)
            · show World.ownsRow _ _ _ _ _ _ _
              rw [hst.out]
              exact hown6
          case measure => simp [intOf]; omega
        · have htl : t = A.length := by omega
          subst htl
          have ho' := ho.out
          rw [List.take_of_length_le (Nat.le_refl _)] at ho'
          have hln : (flat (L.take (k + 1))).length = F.length + 1 + A.length := by rw [hnext.out]; simp; omega
          have hln' := hid hln
          have hbb := hid hb.out
          have hoo : Hid (wr.ownsRow W.heap.size 23 1 (.slice ao (flat (L.take (k + 1))).length cc) (flat (L.take (k + 1))).length (flat (L.take (k + 1)))) := by
            show World.ownsRow _ _ _ _ _ _ _
            rw [hln, hnext.out]
            have e : F ++ Value.slice ra rn rc :: A = (F ++ [.slice ra rn rc]) ++ A := by simp
            rw [e]
            exact ho'
          clear ho ho' hb hln hnode
          go_wp2
          exact ⟨⟨k + 1, ao, cc, by omega, congrArg (Value.int .i64) (by omega), by rw [hln'.out], hbb, hoo⟩, by simp [intOf]; omega⟩
    · have ho' := ho.out
      rw [List.take_of_length_le (by omega)] at ho' ⊢
      go_wp2
      go_ret
      exact ⟨⟨ao, cc, rfl, ho'⟩, hb.out⟩
end Go.Proofs.Ytebmnggjblellaa

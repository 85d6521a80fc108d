/- The small functions of layer 5: faults, labels, the classes of a list of nodes. -/
import Derived.Test.Ytncileojdighnaaow12Z
namespace Go.Proofs.Ytncileojdighnaa
set_option maxRecDepth 100000
open Go.RowKit
def labV (x : Int) (n : Nd) : Value := .agg #[.int .i64 n.kind, .int .i64 n.num, .int .i64 n.args.length, .int .i64 (if n.kind = 1 then x else 0), .string n.name]
theorem ret_lab {w : World} {fn : Func} {t : Tmp} (hfn : fn.results = #[.cell t 157]) {tmps : Array Value} {q : Nat} {u0 u1 u2 u3 u4 : Value} (h4 : tmps[t]?.getD undef = .pointer (some ⟨q, 0, none⟩)) (hq : w.heap[q]? = some (.cells #[u0, u1, u2, u3, u4] 157)) : (results fn tmps).run Try.prog w = .ok (.agg #[u0, u1, u2, u3, u4]) w := by
  have z0 : w.cell? ⟨q, 0, none⟩ = some u0 := by simp [World.cell?, hq]
  have z1 : w.cell? ⟨q, 1, none⟩ = some u1 := by simp [World.cell?, hq]
  have z2 : w.cell? ⟨q, 2, none⟩ = some u2 := by simp [World.cell?, hq]
  have z3 : w.cell? ⟨q, 3, none⟩ = some u3 := by simp [World.cell?, hq]
  have z4 : w.cell? ⟨q, 4, none⟩ = some u4 := by simp [World.cell?, hq]
  simp [results, hfn, go_sem, h4, z0, z1, z2, z3, z4]
set_option maxHeartbeats 1000000 in
theorem label_any (x : Int) (n : Nd) (aa : Option Addr) (ac : Nat) (w : World) (hl : n.args.length ≤ 5000) :
    Calls Try.prog 101 #[.int .i64 x, .agg #[.int .i64 n.kind, .string n.name, .int .i64 n.num, .slice aa n.args.length ac]] w fun e w' => e = .returned (labV x n) ∧ Below w.heap.size w w' := by
  obtain ⟨kind, name, num, args⟩ := n
  dsimp only at hl ⊢
  unfold labV
  dsimp only
  by_cases hk : kind = 1
  · subst hk
    go_enter Try.func101, Try.ntmps101
    go_wp2
    refine bodyPost_ret (ret_lab Try.results101 (by rfl) ?_) rfl ⟨rfl, ((below_alloc w _).alloc (by simp) _).alloc (by simp <;> omega) _⟩
    rw [Below.heap_alloc _ _ _ (by simp)]
    exact (by simpa using heap_alloc_new (w.alloc _) _)
  · go_enter Try.func101, Try.ntmps101
    go_wp2
    refine bodyPost_ret (ret_lab Try.results101 (by rfl) ?_) rfl ⟨rfl, ((below_alloc w _).alloc (by simp) _).alloc (by simp <;> omega) _⟩
    rw [Below.heap_alloc _ _ _ (by simp)]
    exact (by simpa using heap_alloc_new (w.alloc _) _)
set_option maxHeartbeats 2000000 in
theorem classesOf_any {W : World} {lv cv : Value} {l cl : List Int} (hl : Ri W lv l) (hc : Ri W cv cl) (hlr : ∀ x ∈ l, 0 ≤ x ∧ x < (cl.length : Int)) (hlen : l.length ≤ 5000) :
    Calls Try.prog 43 #[lv, cv] W fun e w' => (∃ ao c, e = .returned (.slice ao l.length c) ∧ w'.ownsRow W.heap.size 3 1 (.slice ao l.length c) l.length ((l.map (fun x => cl.getD x.toNat 0)).map (Value.int .i64))) ∧ Below W.heap.size W w' := by
  obtain ⟨i0, hi, hz0, hz1, hz2⟩ := info_parts infoI
  obtain ⟨la, lc, rfl, hlc⟩ := hl
  obtain ⟨ca, cc, rfl, hcc⟩ := hc
  go_enter Try.func43, Try.ntmps43
  go_wp2
  go_loopw [5, 10] (fun x i wr => ∃ (k : Nat) (ao : Option Addr) (c : Nat), k ≤ l.length ∧ i = .int .i64 k ∧ x = .slice ao k c ∧ Hid (Below W.heap.size W wr) ∧ Hid (wr.ownsRow W.heap.size 3 1 (.slice ao k c) k (((l.take k).map (fun x => cl.getD x.toNat 0)).map (Value.int .i64)))) (fun _ i _ => l.length - (intOf i).toNat)
  case atStart => exact ⟨0, none, 0, Nat.zero_le _, rfl, rfl, Below.refl _ _, World.ownsRow_nil _ _ _ _⟩
  case round =>
    obtain ⟨k, ao, c, hk, rfl, rfl, hb, ho⟩ := hrel
    by_cases hlt : k < l.length
    · obtain ⟨lb, lo, rfl, hc⟩ := hlc k hlt
      have hx := hlr _ (getD_mem hlt)
      obtain ⟨n, hn⟩ : ∃ n : Nat, l.getD k 0 = (n : Int) := ⟨(l.getD k 0).toNat, by omega⟩
      have hts := take_snoc hlt
      rw [hn] at hx hc hts
      have hnN : n < cl.length := by omega
      obtain ⟨cb, co, rfl, hcn⟩ := hcc n hnN
      have dl : wr.cell? ⟨lb, lo + k, none⟩ = some (.int .i64 (n : Int)) := by rw [hb.out.cell (p := ⟨lb, lo + k, none⟩) (lt_of_cell hc)]; exact hc
      have dr : wr.cell? ⟨cb, co + n, none⟩ = some (.int .i64 (cl.getD n 0)) := by rw [hb.out.cell (p := ⟨cb, co + n, none⟩) (lt_of_cell hcn)]; exact hcn
      have hst : Hid (((l.take k).map (fun x => cl.getD x.toNat 0)).map (Value.int .i64) ++ [.int .i64 (cl.getD n 0)] = ((l.take (k + 1)).map (fun x => cl.getD x.toNat 0)).map (Value.int .i64)) := by
        show _ = _
        rw [hts]
        simp
      generalize cl.getD n 0 = y at dr hst
      have hbd : Below W.heap.size W wr := hb.out
      have hod := ho.out
      generalize ((l.take k).map (fun x => cl.getD x.toNat 0)).map (Value.int .i64) = XS at hod hst
      have hbs := hbd.size
      have ho1 := World.ownsRow.alloc hod (.cells #[.int .i64 y] 3)
      clear hc hcn hn hts hb ho
      go_wp2_with (at_builtin; refine wpList_append_lies _ rfl _ _ _ rfl W.heap.size 3 i0 (.int .i64 0) 1 8 Try.underlying27 hi hz0 hz1 hz2 rfl (by decide) _ k XS rfl ho1 ⟨wr.heap.size, 0, none⟩ 1 1 [.int .i64 y] rfl rfl (World.news_of_block (cs := #[.int .i64 y]) (t := 3) (fr := (0, 0)) (heap_alloc_new wr _)) (by simp [Value.oneCell']) (by omega) (by unfold maxLen; omega) (by omega) (by simp; omega) (wr.heap.size + 1) (by simp) ?_; intro gg cap w2 hown2 hgr hat hltg)
      go_roundw
      case rel =>
        refine ⟨k + 1, some ⟨gg, 0, none⟩, cap, by omega, congrArg (Value.int .i64) (by omega), rfl, ?_, ?_⟩
        · have h1 : Below W.heap.size W (wr.alloc (.cells #[.int .i64 y] 3)) := hbd.alloc (by omega) _
          exact h1.grown hgr (by simp; omega) (fun j e => (hod.lt j e).1)
        · show World.ownsRow _ _ _ _ _ _ _
          rw [← hst.out]
          exact hown2
      case measure => simp [intOf]; omega
    · have hkl : k = l.length := by omega
      have ho' := ho.out
      rw [hkl, List.take_of_length_le (Nat.le_refl _)] at ho'
      have hb' := hb.out
      clear hb ho
      subst hkl
      go_wp2
      go_ret
      exact ⟨⟨ao, c, rfl, ho'⟩, hb'⟩
end Go.Proofs.Ytncileojdighnaa

namespace Go.Proofs.Ytncileojdighnaa
set_option maxRecDepth 100000
open Go.RowKit
theorem islice_nil_in {P : Program} (w : World) (d : Nat) (t : TypeId) {e : TypeId} (h : P.underlying t = some (.slice e)) (ao : Option Addr) (n c : Nat) : (Op.equalIn (d + 1) t (.slice ao n c) (.slice none 0 0)).run P w = .ok ao.isNone w := by
  cases ao <;> simp [Op.equalIn, run_underlying h]
theorem islice_nil (w : World) (ao : Option Addr) (n c : Nat) : (binOp .eql 27 (.slice ao n c) (.slice none 0 0)).run Try.prog w = .ok (.bool ao.isNone) w := by
  simp only [binOp]
  simp [show Op.equal 27 (.slice ao n c) (.slice none 0 0) = Op.equalIn (9999 + 1) 27 (.slice ao n c) (.slice none 0 0) from rfl, islice_nil_in w 9999 27 Try.underlying27]
theorem ints_one (l : List Int) : ∀ u ∈ l.map (Value.int .i64), u.oneCell' = true := fun u hu => by
  obtain ⟨s, _, rfl⟩ := List.mem_map.1 hu
  simp [Value.oneCell']
set_option maxHeartbeats 1000000 in
theorem iclone_any {w : World} {b o c : Nat} {l : List Int} (h : ∀ j, j < l.length → w.cell? ⟨b, o + j, none⟩ = some (.int .i64 (l.getD j 0))) (hl : l.length ≤ 5000) :
    Calls Try.prog 90 #[.slice (some ⟨b, o, none⟩) l.length c] w fun e w' => ∃ v', e = .returned v' ∧ w'.ownsRow w.heap.size 3 1 v' l.length (l.map (Value.int .i64)) ∧ Below w.heap.size w w' := by
  obtain ⟨i0, hi, hz0, hz1, hz2⟩ := info_parts infoI
  have hnews : ∀ j u, (l.map (Value.int .i64))[j]? = some u → (w.alloc (.cells #[] 3)).cell? ((⟨b, o, none⟩ : Addr).add j) = some u := fun j u hj => by
    have hjl : j < l.length := by
      by_cases e : j < l.length
      · exact e
      · have : (l.map (Value.int .i64))[j]? = none := by simp; omega
        rw [this] at hj
        cases hj
    have h1 := h j hjl
    have h2 : u = .int .i64 (l.getD j 0) := by
      simp [hjl] at hj
      simp [List.getD, hjl, hj]
    rw [h2, Addr.add_lit, (below_alloc w _).cell (p := ⟨b, o + j, none⟩) (lt_of_cell h1)]
    exact h1
  have hown : (w.alloc (.cells #[] 3)).ownsRow w.heap.size 3 1 (.slice (some ⟨w.heap.size, 0, none⟩) 0 0) 0 [] := ⟨rfl, Or.inr ⟨w.heap.size, 0, #[], rfl, Nat.le_refl _, heap_alloc_new w _, Nat.le_refl _, Nat.zero_le _, rfl, rfl⟩⟩
  have hsn := fun w : World => islice_nil w (some ⟨b, o, none⟩) l.length c
  clear h
  go_enter Try.func90, Try.ntmps90
  go_wp2_with (at_builtin; refine wpList_append_own _ rfl _ _ 27 rfl w.heap.size 3 i0 (.int .i64 0) 1 8 Try.underlying27 hi hz0 hz1 hz2 rfl (by decide) (.slice (some ⟨w.heap.size, 0, none⟩) 0 0) 0 [] rfl hown ⟨b, o, none⟩ l.length c (l.map (Value.int .i64)) rfl (by simp) hnews (ints_one l) (by unfold maxLen; omega) (by omega) (by simp) ?_; intro v' w1 hown' hgrow _)
  go_ret
  refine ⟨v', rfl, by simpa using hown', ?_⟩
  exact (below_alloc w _).grown hgrow (by simp) (fun k e => by
    have e' : k = w.heap.size := by simpa [Value.ownBlock] using e.symm
    omega)
end Go.Proofs.Ytncileojdighnaa

namespace Go.Proofs.Ytncileojdighnaa
set_option maxRecDepth 100000
open Go.RowKit
theorem infoL : (Try.prog.info? 27).map (fun i => (i.zero, i.size, i.bytes)) = some (some (.slice none 0 0), 1, 24) := by kernel_rfl
def Sl (v : Value) : Prop := ∃ a n c, v = .slice a n c
abbrev lg0 : Value × List Value := (.slice none 0 0, [])
def Lg (w : World) (v : Value) (L : List (Value × List Value)) : Prop :=
  ∃ b o c, v = .slice (some ⟨b, o, none⟩) L.length c ∧ ∀ j, j < L.length → Sl (L.getD j lg0).1 ∧ w.cell? ⟨b, o + j * 2 + 1, none⟩ = some (L.getD j lg0).1 ∧ ∃ na nc, w.cell? ⟨b, o + j * 2, none⟩ = some (.slice na (L.getD j lg0).2.length nc) ∧
    ∀ i, i < (L.getD j lg0).2.length → Sl ((L.getD j lg0).2.getD i undef) ∧ ∃ nb no k s n, na = some ⟨nb, no, none⟩ ∧ w.cell? ⟨nb, no + i * 4, none⟩ = some (.int .i64 k) ∧ w.cell? ⟨nb, no + i * 4 + 1, none⟩ = some (.string s) ∧ w.cell? ⟨nb, no + i * 4 + 2, none⟩ = some (.int .i64 n) ∧ w.cell? ⟨nb, no + i * 4 + 3, none⟩ = some ((L.getD j lg0).2.getD i undef)
def flat (L : List (Value × List Value)) : List Value := L.flatMap (fun x => x.1 :: x.2)
theorem flat_snoc (L : List (Value × List Value)) (x : Value × List Value) : flat (L ++ [x]) = flat L ++ x.1 :: x.2 := by simp [flat]
theorem ltake_snoc {L : List (Value × List Value)} {k : Nat} (h : k < L.length) : L.take (k + 1) = L.take k ++ [L.getD k lg0] := by
  rw [List.take_succ_eq_append_getElem h]
  simp [List.getD, h]
theorem vtake_snoc {l : List Value} {k : Nat} (h : k < l.length) : l.take (k + 1) = l.take k ++ [l.getD k undef] := by
  rw [List.take_succ_eq_append_getElem h]
  simp [List.getD, h]
theorem flat_le {L : List (Value × List Value)} : ∀ k, (flat (L.take k)).length ≤ (flat L).length := fun k => by
  have h : L = L.take k ++ L.drop k := (List.take_append_drop k L).symm
  have e : (flat L).length = (flat (L.take k)).length + (flat (L.drop k)).length := by
    have : flat L = flat (L.take k) ++ flat (L.drop k) := by
      rw [flat, flat, flat, ← List.flatMap_append, List.take_append_drop]
    rw [this, List.length_append]
  omega
set_option maxHeartbeats 4000000 in
theorem hLists_any {W : World} {v : Value} {L : List (Value × List Value)} (hL : Lg W v L) (hl : (flat L).length ≤ 5000) (hn : L.length ≤ 1000) :
    Calls Try.prog 25 #[v] W fun e w' => (∃ ao c, e = .returned (.slice ao (flat L).length c) ∧ w'.ownsRow W.heap.size 27 1 (.slice ao (flat L).length c) (flat L).length (flat L)) ∧ Below W.heap.size W w' := by
  obtain ⟨i0, hi, hz0, hz1, hz2⟩ := info_parts infoL
  obtain ⟨b, o, c, rfl, hLc⟩ := hL
  go_enter Try.func25, Try.ntmps25
  go_wp2
  have h0 : Hid ((W.alloc (.cells #[] 27)).ownsRow W.heap.size 27 1 (.slice (some ⟨W.heap.size, 0, none⟩) 0 0) 0 []) := World.ownsRow_made W #[] 0 (Nat.le_refl _) (by unfold maxLen; omega) rfl
  go_loopw [3, 11] (fun x i wr => ∃ (k : Nat) (ao : Option Addr) (c : Nat), k ≤ L.length ∧ i = .int .i64 k ∧ x = .slice ao (flat (L.take k)).length c ∧ Hid (Below W.heap.size W wr) ∧ Hid (wr.ownsRow W.heap.size 27 1 (.slice ao (flat (L.take k)).length c) (flat (L.take k)).length (flat (L.take k)))) (fun _ i _ => L.length - (intOf i).toNat)
  case atStart => exact ⟨0, some ⟨W.heap.size, 0, none⟩, 0, Nat.zero_le _, rfl, rfl, below_alloc _ _, h0⟩
  case round =>
    clear h0
    obtain ⟨k, ao, cc, hk, rfl, rfl, hb, ho⟩ := hrel
    by_cases hlt : k < L.length
    · obtain ⟨⟨ra, rn, rc, hrv⟩, hr1, na, nc, hn1, hnode⟩ := hLc k hlt
      have hfk := flat_le (L := L) (k + 1)
      rw [ltake_snoc hlt, flat_snoc, hrv] at hfk
      have hnext : Hid (flat (L.take (k + 1)) = flat (L.take k) ++ (L.getD k lg0).1 :: (L.getD k lg0).2) := by
        show _ = _
        rw [ltake_snoc hlt, flat_snoc]
      rw [hrv] at hr1 hnext
      generalize (L.getD k lg0).2 = A at hn1 hnode hfk hnext
      clear hrv
      have d0 : wr.cell? ⟨b, o + k * 2, none⟩ = some (.slice na A.length nc) := by rw [hb.out.cell (p := ⟨b, o + k * 2, none⟩) (lt_of_cell hn1)]; exact hn1
      have d1 : wr.cell? ⟨b, o + k * 2 + 1, none⟩ = some (.slice ra rn rc) := by rw [hb.out.cell (p := ⟨b, o + k * 2 + 1, none⟩) (lt_of_cell hr1)]; exact hr1
      have hbs := hb.out.size
      have hbA : Below W.heap.size W (wr.alloc (.cells #[.slice na A.length nc, .slice ra rn rc] 29)) := hb.out.alloc hbs _
      have hoA := World.ownsRow.alloc (World.ownsRow.alloc ho.out (.cells #[.slice na A.length nc, .slice ra rn rc] 29)) (.cells #[.slice ra rn rc] 27)
      have hgA := heap_alloc_new wr (.cells #[.slice na A.length nc, .slice ra rn rc] 29)
      have hoz := hid ho.out
      have hfl2 : (flat (L.take k)).length ≤ 5000 ∧ A.length ≤ 5000 := by
        simp at hfk
        omega
      have hfar := hid (fun (w5 : World) (hg : ((wr.alloc (.cells #[.slice na A.length nc, .slice ra rn rc] 29)).alloc (.cells #[.slice ra rn rc] 27)).grownBy w5 (Value.ownBlock (.slice ao (flat (L.take k)).length cc))) => (show w5.heap[wr.heap.size]? = some (.cells #[.slice na A.length nc, .slice ra rn rc] 29) ∧ Below W.heap.size W w5 from
        ⟨by rw [hg.block _ (by simp; omega) (fun e => by have := (hoz.out.lt _ e.symm).2; omega), Below.heap_alloc _ _ _ (by simp)]; exact hgA, (hbA.alloc hbA.size _).grown hg (by simp; omega) (fun j e => (hoz.out.lt j e).1)⟩))
      generalize flat (L.take k) = F at hoA hoz hfl2 hfar hnext hfk
      clear hb ho hr1 hn1
      go_wp2_with (at_builtin; refine wpList_append_lies _ rfl _ _ _ rfl W.heap.size 27 i0 (.slice none 0 0) 1 24 Try.underlying60 hi hz0 hz1 hz2 rfl (by decide) _ F.length F rfl hoA ⟨wr.heap.size + 1, 0, none⟩ 1 1 [.slice ra rn rc] rfl rfl (World.news_of_block (cs := #[.slice ra rn rc]) (t := 27) (fr := (0, 0)) (by simpa using heap_alloc_new (wr.alloc (.cells #[.slice na A.length nc, .slice ra rn rc] 29)) (.cells #[.slice ra rn rc] 27))) (by simp [Value.oneCell']) (by omega) (by unfold maxLen; omega) (by omega) (by simp; omega) (wr.heap.size + 1 + 1) (by simp) ?_; intro g1 cap1 w5 hown5 hgr5 hat5 hlt5; obtain ⟨hg5, hb5⟩ := hfar.out w5 hgr5; obtain ⟨⟨f0, f1⟩, _⟩ := blk2 hg5)
      have hbs5 := hb5.size
      have h5 : Hid (w5.ownsRow W.heap.size 27 1 (.slice (some ⟨g1, 0, none⟩) (F.length + 1 + 0) cap1) (F.length + 1 + 0) ((F ++ [.slice ra rn rc]) ++ A.take 0)) := by simpa [Hid] using hown5
      have hb5' := hid hb5
      clear hown5 hgr5 hfar hoA hgA d0 d1 f1 hg5
      go_loopw [3, 23] (fun x i wr => ∃ (t : Nat) (ao : Option Addr) (c : Nat), t ≤ A.length ∧ i = .int .i64 t ∧ x = .slice ao (F.length + 1 + t) c ∧ Hid (Below W.heap.size W wr) ∧ Hid (wr.ownsRow W.heap.size 27 1 (.slice ao (F.length + 1 + t) c) (F.length + 1 + t) ((F ++ [.slice ra rn rc]) ++ A.take t))) (fun _ i _ => A.length - (intOf i).toNat)
      case atStart => exact ⟨0, some ⟨g1, 0, none⟩, cap1, Nat.zero_le _, rfl, rfl, hb5', h5⟩
      case round =>
        clear h5 hb5' f0 hb5 hbs5 hbs hbA
        obtain ⟨t, ao, cc, ht, rfl, rfl, hb, ho⟩ := hrel
        by_cases hlt2 : t < A.length
        · obtain ⟨⟨aa, an, ac, hav⟩, nb, no, kk, ss, nn, rfl, n0, n1, n2, n3⟩ := hnode t hlt2
          have hst : Hid ((F ++ [.slice ra rn rc]) ++ A.take (t + 1) = ((F ++ [.slice ra rn rc]) ++ A.take t) ++ [A.getD t undef]) := by
            show _ = _
            rw [vtake_snoc hlt2]
            simp
          rw [hav] at n3 hst
          have e0 : wr.cell? ⟨nb, no + t * 4, none⟩ = some (.int .i64 kk) := by rw [hb.out.cell (p := ⟨nb, no + t * 4, none⟩) (lt_of_cell n0)]; exact n0
          have e1 : wr.cell? ⟨nb, no + t * 4 + 1, none⟩ = some (.string ss) := by rw [hb.out.cell (p := ⟨nb, no + t * 4 + 1, none⟩) (lt_of_cell n0)]; exact n1
          have e2 : wr.cell? ⟨nb, no + t * 4 + 2, none⟩ = some (.int .i64 nn) := by rw [hb.out.cell (p := ⟨nb, no + t * 4 + 2, none⟩) (lt_of_cell n0)]; exact n2
          have e3 : wr.cell? ⟨nb, no + t * 4 + 3, none⟩ = some (.slice aa an ac) := by rw [hb.out.cell (p := ⟨nb, no + t * 4 + 3, none⟩) (lt_of_cell n0)]; exact n3
          have hbs := hb.out.size
          have hbA : Below W.heap.size W ((wr.alloc (.cells #[.int .i64 kk, .string ss, .int .i64 nn, .slice aa an ac] 63)).alloc (.cells #[.slice aa an ac] 27)) := (hb.out.alloc hbs _).alloc (by simp; omega) _
          have hoA := World.ownsRow.alloc (World.ownsRow.alloc ho.out (.cells #[.int .i64 kk, .string ss, .int .i64 nn, .slice aa an ac] 63)) (.cells #[.slice aa an ac] 27)
          have hoz := hid ho.out
          generalize (F ++ [.slice ra rn rc]) ++ A.take t = XS at hoA hoz hst
          clear ho hb n0 n1 n2 n3 hav hnode
          go_wp2_with (at_builtin; refine wpList_append_lies _ rfl _ _ _ rfl W.heap.size 27 i0 (.slice none 0 0) 1 24 Try.underlying60 hi hz0 hz1 hz2 rfl (by decide) _ (F.length + 1 + t) XS rfl hoA ⟨wr.heap.size + 1, 0, none⟩ 1 1 [.slice aa an ac] rfl rfl (World.news_of_block (cs := #[.slice aa an ac]) (t := 27) (fr := (0, 0)) (by simpa using heap_alloc_new (wr.alloc (.cells #[.int .i64 kk, .string ss, .int .i64 nn, .slice aa an ac] 63)) (.cells #[.slice aa an ac] 27))) (by simp [Value.oneCell']) (by omega) (by unfold maxLen; omega) (by omega) (by simp; omega) (wr.heap.size + 1 + 1) (by simp) ?_; intro g2 cap2 w6 hown6 hgr6 hat6 hlt6)
          go_roundw
          case rel =>
            refine ⟨t + 1, some ⟨g2, 0, none⟩, cap2, by omega, congrArg (Value.int .i64) (by omega), rfl, ?_, ?_⟩
            · exact hbA.grown hgr6 (by simp; omega) (fun j e => (hoz.out.lt j e).1)
            · show World.ownsRow _ _ _ _ _ _ _
              rw [hst.out]
              exact hown6
          case measure => simp [intOf]; omega
        · have htl : t = A.length := by omega
          subst htl
          have ho' := ho.out
          rw [List.take_of_length_le (Nat.le_refl _)] at ho'
          have hln : (flat (L.take (k + 1))).length = F.length + 1 + A.length := by rw [hnext.out]; simp; omega
          have hln' := hid hln
          have hbb := hid hb.out
          have hoo : Hid (wr.ownsRow W.heap.size 27 1 (.slice ao (flat (L.take (k + 1))).length cc) (flat (L.take (k + 1))).length (flat (L.take (k + 1)))) := by
            show World.ownsRow _ _ _ _ _ _ _
            rw [hln, hnext.out]
            have e : F ++ Value.slice ra rn rc :: A = (F ++ [.slice ra rn rc]) ++ A := by simp
            rw [e]
            exact ho'
          clear ho ho' hb hln hnode
          go_wp2
          exact ⟨⟨k + 1, ao, cc, by omega, congrArg (Value.int .i64) (by omega), by rw [hln'.out], hbb, hoo⟩, by simp [intOf]; omega⟩
    · have ho' := ho.out
      rw [List.take_of_length_le (by omega)] at ho' ⊢
      go_wp2
      go_ret
      exact ⟨⟨ao, cc, rfl, ho'⟩, hb.out⟩
end Go.Proofs.Ytncileojdighnaa

namespace Go.Proofs.Ytncileojdighnaa
set_option maxRecDepth 100000
open Go.RowKit
theorem Og.keep {w w' : World} {B : Nat} {nv rv : Value} {avs : List Value} {g : Gf} (h : Og w B nv rv avs g) (hb : ∀ k, B ≤ k → k < w.heap.size → w'.heap[k]? = w.heap[k]?) : Og w' B nv rv avs g := by
  obtain ⟨ro, rc, rfl, hr⟩ := h.r
  exact ⟨h.on.keep (fun k hk => hb k (h.on.lt k hk).1 (h.on.lt k hk).2), h.nsl, ⟨ro, rc, rfl, own_block hr (fun k e => hb k (hr.lt k e).1 (hr.lt k e).2)⟩, h.ap⟩
theorem Og.below {w w' : World} {B : Nat} {nv rv : Value} {avs : List Value} {g : Gf} (h : Og w B nv rv avs g) (hb : Below w.heap.size w w') : Og w' B nv rv avs g := h.keep (fun k _ hk => hb.block k hk)
end Go.Proofs.Ytncileojdighnaa

/- The small functions of layer 5: faults, labels, the classes of a list of nodes. -/
import Derived.Test.Ytjkcffcedbcjmaata14Z
namespace Go.Proofs.Ytjkcffcedbcjmaa
set_option maxRecDepth 100000
open Go.RowKit
def labV (x : Int) (n : Nd) : Value := .agg #[.int .i64 n.kind, .int .i64 n.num, .int .i64 n.args.length, .int .i64 (if n.kind = 1 then x else 0), .string n.name]
theorem ret_lab {w : World} {fn : Func} {t : Tmp} (hfn : fn.results = #[.cell t 157]) {tmps : Array Value} {q : Nat} {u0 u1 u2 u3 u4 : Value} (h4 : tmps[t]?.getD undef = .pointer (some ⟨q, 0, none⟩)) (hq : w.heap[q]? = some (.cells #[u0, u1, u2, u3, u4] 157)) : (results fn tmps).run Try.prog w = .ok (.agg #[u0, u1, u2, u3, u4]) w := by
  have z0 : w.cell? ⟨q, 0, none⟩ = some u0 := by simp [World.cell?, hq]
  have z1 : w.cell? ⟨q, 1, none⟩ = some u1 := by simp [World.cell?, hq]
  have z2 : w.cell? ⟨q, 2, none⟩ = some u2 := by simp [World.cell?, hq]
  have z3 : w.cell? ⟨q, 3, none⟩ = some u3 := by simp [World.cell?, hq]
  have z4 : w.cell? ⟨q, 4, none⟩ = some u4 := by simp [World.cell?, hq]
  simp [results, hfn, go_sem, h4, z0, z1, z2, z3, z4]
set_option maxHeartbeats 1000000 in
theorem label_any (x : Int) (n : Nd) (aa : Option Addr) (ac : Nat) (w : World) (hl : n.args.length ≤ 5000) :
    Calls Try.prog 101 #[.int .i64 x, .agg #[.int .i64 n.kind, .string n.name, .int .i64 n.num, .slice aa n.args.length ac]] w fun e w' => e = .returned (labV x n) ∧ Below w.heap.size w w' := by
  obtain ⟨kind, name, num, args⟩ := n
  dsimp only at hl ⊢
  unfold labV
  dsimp only
  by_cases hk : kind = 1
  · subst hk
    go_enter Try.func101, Try.ntmps101
    go_wp2
    refine bodyPost_ret (ret_lab Try.results101 (by rfl) ?_) rfl ⟨rfl, ((below_alloc w _).alloc (by simp) _).alloc (by simp <;> omega) _⟩
    rw [Below.heap_alloc _ _ _ (by simp)]
    exact (by simpa using heap_alloc_new (w.alloc _) _)
  · go_enter Try.func101, Try.ntmps101
    go_wp2
    refine bodyPost_ret (ret_lab Try.results101 (by rfl) ?_) rfl ⟨rfl, ((below_alloc w _).alloc (by simp) _).alloc (by simp <;> omega) _⟩
    rw [Below.heap_alloc _ _ _ (by simp)]
    exact (by simpa using heap_alloc_new (w.alloc _) _)
set_option maxHeartbeats 2000000 in
theorem classesOf_any {W : World} {lv cv : Value} {l cl : List Int} (hl : Ri W lv l) (hc : Ri W cv cl) (hlr : ∀ x ∈ l, 0 ≤ x ∧ x < (cl.length : Int)) (hlen : l.length ≤ 5000) :
    Calls Try.prog 43 #[lv, cv] W fun e w' => (∃ ao c, e = .returned (.slice ao l.length c) ∧ w'.ownsRow W.heap.size 3 1 (.slice ao l.length c) l.length ((l.map (fun x => cl.getD x.toNat 0)).map (Value.int .i64))) ∧ Below W.heap.size W w' := by
  obtain ⟨i0, hi, hz0, hz1, hz2⟩ := info_parts infoI
  obtain ⟨la, lc, rfl, hlc⟩ := hl
  obtain ⟨ca, cc, rfl, hcc⟩ := hc
  go_enter Try.func43, Try.ntmps43
  go_wp2
  go_loopw [5, 10] (fun x i wr => ∃ (k : Nat) (ao : Option Addr) (c : Nat), k ≤ l.length ∧ i = .int .i64 k ∧ x = .slice ao k c ∧ Hid (Below W.heap.size W wr) ∧ Hid (wr.ownsRow W.heap.size 3 1 (.slice ao k c) k (((l.take k).map (fun x => cl.getD x.toNat 0)).map (Value.int .i64)))) (fun _ i _ => l.length - (intOf i).toNat)
  case atStart => exact ⟨0, none, 0, Nat.zero_le _, rfl, rfl, Below.refl _ _, World.ownsRow_nil _ _ _ _⟩
  case round =>
    obtain ⟨k, ao, c, hk, rfl, rfl, hb, ho⟩ := hrel
    by_cases hlt : k < l.length
    · obtain ⟨lb, lo, rfl, hc⟩ := hlc k hlt
      have hx := hlr _ (getD_mem hlt)
      obtain ⟨n, hn⟩ : ∃ n : Nat, l.getD k 0 = (n : Int) := ⟨(l.getD k 0).toNat, by omega⟩
      have hts := take_snoc hlt
      rw [hn] at hx hc hts
      have hnN : n < cl.length := by omega
      obtain ⟨cb, co, rfl, hcn⟩ := hcc n hnN
      have dl : wr.cell? ⟨lb, lo + k, none⟩ = some (.int .i64 (n : Int)) := by rw [hb.out.cell (p := ⟨lb, lo + k, none⟩) (lt_of_cell hc)]; exact hc
      have dr : wr.cell? ⟨cb, co + n, none⟩ = some (.int .i64 (cl.getD n 0)) := by rw [hb.out.cell (p := ⟨cb, co + n, none⟩) (lt_of_cell hcn)]; exact hcn
      have hst : Hid (((l.take k).map (fun x => cl.getD x.toNat 0)).map (Value.int .i64) ++ [.int .i64 (cl.getD n 0)] = ((l.take (k + 1)).map (fun x => cl.getD x.toNat 0)).map (Value.int .i64)) := by
        show _ = _
        rw [hts]
        simp
      generalize cl.getD n 0 = y at dr hst
      have hbd : Below W.heap.size W wr := hb.out
      have hod := ho.out
      generalize ((l.take k).map (fun x => cl.getD x.toNat 0)).map (Value.int .i64) = XS at hod hst
      have hbs := hbd.size
      have ho1 := World.ownsRow.alloc hod (.cells #[.int .i64 y] 3)
      clear hc hcn hn hts hb ho
      go_wp2_with (at_builtin; refine wpList_append_lies _ rfl _ _ _ rfl W.heap.size 3 i0 (.int .i64 0) 1 8 Try.underlying27 hi hz0 hz1 hz2 rfl (by decide) _ k XS rfl ho1 ⟨wr.heap.size, 0, none⟩ 1 1 [.int .i64 y] rfl rfl (World.news_of_block (cs := #[.int .i64 y]) (t := 3) (fr := (0, 0)) (heap_alloc_new wr _)) (by simp [Value.oneCell']) (by omega) (by unfold maxLen; omega) (by omega) (by simp; omega) (wr.heap.size + 1) (by simp) ?_; intro gg cap w2 hown2 hgr hat hltg)
      go_roundw
      case rel =>
        refine ⟨k + 1, some ⟨gg, 0, none⟩, cap, by omega, congrArg (Value.int .i64) (by omega), rfl, ?_, ?_⟩
        · have h1 : Below W.heap.size W (wr.alloc (.cells #[.int .i64 y] 3)) := hbd.alloc (by omega) _
          exact h1.grown hgr (by simp; omega) (fun j e => (hod.lt j e).1)
        · show World.ownsRow _ _ _ _ _ _ _
          rw [← hst.out]
          exact hown2
      case measure => simp [intOf]; omega
    · have hkl : k = l.length := by omega
      have ho' := ho.out
      rw [hkl, List.take_of_length_le (Nat.le_refl _)] at ho'
      have hb' := hb.out
      clear hb ho
      subst hkl
      go_wp2
      go_ret
      exact ⟨⟨ao, c, rfl, ho'⟩, hb'⟩
end Go.Proofs.Ytjkcffcedbcjmaa

namespace Go.Proofs.Ytjkcffcedbcjmaa
set_option maxRecDepth 100000
open Go.RowKit
theorem islice_nil_in {P : Program} (w : World) (d : Nat) (t : TypeId) {e : TypeId} (h : P.underlying t = some (.slice e)) (ao : Option Addr) (n c : Nat) : (Op.equalIn (d + 1) t (.slice ao n c) (.slice none 0 0)).run P w = .ok ao.isNone w := by
  cases ao <;> simp [Op.equalIn, run_underlying h]
theorem islice_nil (w : World) (ao : Option Addr) (n c : Nat) : (binOp .eql 27 (.slice ao n c) (.slice none 0 0)).run Try.prog w = .ok (.bool ao.isNone) w := by
  simp only [binOp]
  simp [show Op.equal 27 (.slice ao n c) (.slice none 0 0) = Op.equalIn (9999 + 1) 27 (.slice ao n c) (.slice none 0 0) from rfl, islice_nil_in w 9999 27 Try.underlying27]
theorem ints_one (l : List Int) : ∀ u ∈ l.map (Value.int .i64), u.oneCell' = true := fun u hu => by
  obtain ⟨s, _, rfl⟩ := List.mem_map.1 hu
  simp [Value.oneCell']
set_option maxHeartbeats 1000000 in
theorem iclone_any {w : World} {b o c : Nat} {l : List Int} (h : ∀ j, j < l.length → w.cell? ⟨b, o + j, none⟩ = some (.int .i64 (l.getD j 0))) (hl : l.length ≤ 5000) :
    Calls Try.prog 90 #[.slice (some ⟨b, o, none⟩) l.length c] w fun e w' => ∃ v', e = .returned v' ∧ w'.ownsRow w.heap.size 3 1 v' l.length (l.map (Value.int .i64)) ∧ Below w.heap.size w w' := by
  obtain ⟨i0, hi, hz0, hz1, hz2⟩ := info_parts infoI
  have hnews : ∀ j u, (l.map (Value.int .i64))[j]? = some u → (w.alloc (.cells #[] 3)).cell? ((⟨b, o, none⟩ : Addr).add j) = some u := fun j u hj => by
    have hjl : j < l.length := by
      by_cases e : j < l.length
      · exact e
      · have : (l.map (Value.int .i64))[j]? = none := by simp; omega
        rw [this] at hj
        cases hj
    have h1 := h j hjl
    have h2 : u = .int .i64 (l.getD j 0) := by
      simp [hjl] at hj
      simp [List.getD, hjl, hj]
    rw [h2, Addr.add_lit, (below_alloc w _).cell (p := ⟨b, o + j, none⟩) (lt_of_cell h1)]
    exact h1
  have hown : (w.alloc (.cells #[] 3)).ownsRow w.heap.size 3 1 (.slice (some ⟨w.heap.size, 0, none⟩) 0 0) 0 [] := ⟨rfl, Or.inr ⟨w.heap.size, 0, #[], rfl, Nat.le_refl _, heap_alloc_new w _, Nat.le_refl _, Nat.zero_le _, rfl, rfl⟩⟩
  have hsn := fun w : World => islice_nil w (some ⟨b, o, none⟩) l.length c
  clear h
  go_enter Try.func90, Try.ntmps90
  go_wp2_with (at_builtin; refine wpList_append_own _ rfl _ _ 27 rfl w.heap.size 3 i0 (.int .i64 0) 1 8 Try.underlying27 hi hz0 hz1 hz2 rfl (by decide) (.slice (some ⟨w.heap.size, 0, none⟩) 0 0) 0 [] rfl hown ⟨b, o, none⟩ l.length c (l.map (Value.int .i64)) rfl (by simp) hnews (ints_one l) (by unfold maxLen; omega) (by omega) (by simp) ?_; intro v' w1 hown' hgrow _)
  go_ret
  refine ⟨v', rfl, by simpa using hown', ?_⟩
  exact (below_alloc w _).grown hgrow (by simp) (fun k e => by
    have e' : k = w.heap.size := by simpa [Value.ownBlock] using e.symm
    omega)
end Go.Proofs.Ytjkcffcedbcjmaa

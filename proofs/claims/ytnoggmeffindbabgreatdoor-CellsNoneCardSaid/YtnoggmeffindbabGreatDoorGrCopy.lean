/- numbered and copied of package graph: lists and nodes of their own. -/
import Derived.Test.YtnoggmeffindbabGreatDoorGrReach3
import Derived.Shelf.Pu.Clone
namespace Go.Proofs.YtnoggmeffindbabGreatDoor
open Go.RowKit

theorem own_below {w w' : World} {B : Nat} {e : TypeId} {s : Nat} {v : Value} {n : Nat} {xs : List Value} (h : w.ownsRow B e s v n xs) (hb : Below w.heap.size w w') : w'.ownsRow B e s v n xs :=
  own_block h (fun k e => hb.block k (h.lt k e).2)
theorem own_base {w : World} {B B' : Nat} {e : TypeId} {s : Nat} {v : Value} {n : Nat} {xs : List Value} (h : w.ownsRow B e s v n xs) (hB : B' ≤ B) : w.ownsRow B' e s v n xs := by
  refine ⟨h.1, ?_⟩
  rcases h.2 with h0 | ⟨g, cap, cur, rfl, hb, rest⟩
  · exact Or.inl h0
  · exact Or.inr ⟨g, cap, cur, rfl, by omega, rest⟩
theorem Ri.ofOwn {w : World} {B : Nat} {ao : Option Addr} {c : Nat} {l : List Int} (h : w.ownsRow B 3 1 (.slice ao l.length c) l.length (l.map (Value.int .i64))) : Ri w (.slice ao l.length c) l := by
  refine ⟨ao, c, rfl, fun j hj => ?_⟩
  have h0 := h
  rcases h.2 with ⟨_, hn⟩ | ⟨g, cap, cur, hv, _⟩
  · omega
  · have e : ao = some ⟨g, 0, none⟩ := by injection hv
    subst e
    refine ⟨g, 0, rfl, ?_⟩
    have hc : w.cell? ⟨g, j, none⟩ = (l.map (Value.int .i64))[j]? := by
      have h2 : cap = c := by injection hv with _ _ h3; exact h3.symm
      subst h2
      exact h0.cellAt j (by omega)
    rw [Nat.zero_add, hc]
    simp [List.getD, hj]
set_option maxRecDepth 100000 in
set_option maxHeartbeats 2000000 in
theorem numbered_any {W : World} (f : Nat) (cb : Array Value) (eg : ∀ args w, (callFunc f args).run Tryz.prog w = .ok (.enter f args) w) (F : Int → Int) {v : Value} {l : List Int} (hv : Ri W v l) (hl : l.length ≤ 5000)
    (hs : ∀ x ∈ l, ∀ w, Below W.heap.size W w → Calls Tryz.prog f (#[.int .i64 x] ++ cb) w fun e w' => e = .returned (.int .i64 (F x)) ∧ Below w.heap.size w w') :
    Calls Tryz.prog 106 #[v, .func (.func f) #[] cb] W fun e w' => (∃ ao c, e = .returned (.slice ao l.length c) ∧ w'.ownsRow W.heap.size 3 1 (.slice ao l.length c) l.length ((l.map F).map (Value.int .i64))) ∧ Below W.heap.size W w' := by
  obtain ⟨i0, hi, hz0, hz1, hz2⟩ := info_parts infoI
  obtain ⟨va, vc, rfl, hv⟩ := hv
  go_enter Tryz.func106, Tryz.ntmps106
  go_wp2
  go_loopw [5, 10] (fun x i wr => ∃ (k : Nat) (ao : Option Addr) (c : Nat), k ≤ l.length ∧ i = .int .i64 k ∧ x = .slice ao k c ∧ Hid (Below W.heap.size W wr) ∧ Hid (wr.ownsRow W.heap.size 3 1 (.slice ao k c) k (((l.take k).map F).map (Value.int .i64)))) (fun _ i _ => l.length - (intOf i).toNat)
  case atStart => exact ⟨0, none, 0, Nat.zero_le _, rfl, rfl, Below.refl _ _, World.ownsRow_nil _ _ _ _⟩
  case round =>
    obtain ⟨k, ao, c, hk, rfl, rfl, hb, ho⟩ := hrel
    by_cases hlt : k < l.length
    · obtain ⟨vb, vo, rfl, hcv⟩ := hv k hlt
      have dv : wr.cell? ⟨vb, vo + k, none⟩ = some (.int .i64 (l.getD k 0)) := by rw [hb.out.cell (p := ⟨vb, vo + k, none⟩) (lt_of_cell hcv)]; exact hcv
      have hcall := hs _ (getD_mem hlt) wr hb.out
      have hst : Hid (((l.take k).map F).map (Value.int .i64) ++ [.int .i64 (F (l.getD k 0))] = ((l.take (k + 1)).map F).map (Value.int .i64)) := by
        show _ = _
        rw [take_snoc hlt]
        simp
      have hbs := hb.out.size
      generalize F (l.getD k 0) = y at hcall hst
      generalize l.getD k 0 = x at dv hcall
      clear hcv hv hs
      go_wp2_with (first
        | (go_at_fn f; refine hcall.mono ?_; rintro e w1 ⟨rfl, hb1⟩; have hbs1 := hb1.size; have ho1 := World.ownsRow.alloc (own_below ho.out hb1) (.cells #[.int .i64 y] 3))
        | (at_builtin; refine wpList_append_lies _ rfl _ _ _ rfl W.heap.size 3 i0 (.int .i64 0) 1 8 Tryz.underlying23 hi hz0 hz1 hz2 rfl (by decide) _ k (((l.take k).map F).map (Value.int .i64)) rfl ho1 ⟨w1.heap.size, 0, none⟩ 1 1 [.int .i64 y] rfl rfl (World.news_of_block (cs := #[.int .i64 y]) (t := 3) (fr := (0, 0)) (heap_alloc_new w1 _)) (by simp [Value.oneCell']) (by omega) (by unfold maxLen; omega) (by omega) (by simp; omega) (w1.heap.size + 1) (by simp) ?_; intro gg cap w2 hown2 hgr hat hltg))
      go_roundw
      case rel =>
        refine ⟨k + 1, some ⟨gg, 0, none⟩, cap, by omega, congrArg (Value.int .i64) (by omega), rfl, ?_, ?_⟩
        · have h1 : Below W.heap.size W (w1.alloc (.cells #[.int .i64 y] 3)) := (Below.next hb.out hb1).alloc (by omega) _
          exact h1.grown hgr (by simp; omega) (fun j e => (ho.out.lt j e).1)
        · show World.ownsRow _ _ _ _ _ _ _
          rw [← hst.out]
          exact hown2
      case measure => simp [intOf]; omega
    · have hkl : Hid (k = l.length) := show k = l.length by omega
      have ho' : Hid (wr.ownsRow W.heap.size 3 1 (.slice ao l.length c) l.length ((l.map F).map (Value.int .i64))) := by
        have h1 := ho.out
        rw [hkl.out, List.take_of_length_le (Nat.le_refl _)] at h1
        exact h1
      clear hv hs ho
      go_wp2
      go_ret
      refine ⟨⟨ao, c, ?_, ho'.out⟩, hb.out⟩
      rw [← hkl.out]
      rfl
/-- The shelf's numbers for stringslite.Clone, at this program. -/
def cloneRen : Go.Shelf.Ren := ⟨fun _ => 102, fun n => if n = 37 then 209 else if n = 47 then 210 else n, fun n => n⟩
theorem cloneLays : LaysPu.n25 Tryz.prog cloneRen :=
  ⟨(by kernel_rfl), (by kernel_rfl), (by kernel_rfl), (fun _ => by kernel_rfl), (fun _ => by kernel_rfl), (fun _ => by kernel_rfl), (by kernel_rfl), (by kernel_rfl), (fun _ => by kernel_rfl), (fun _ => by kernel_rfl),
    (fun _ => by kernel_rfl), (by kernel_rfl), (by kernel_rfl), (fun _ => by kernel_rfl), (fun _ => by kernel_rfl), (fun _ => by kernel_rfl), (by kernel_rfl), (by kernel_rfl), (fun _ => by kernel_rfl), (fun _ => by kernel_rfl),
    (fun _ => by kernel_rfl), (by kernel_rfl), (by kernel_rfl), (fun _ => by kernel_rfl), (fun _ => by kernel_rfl), (fun _ => by kernel_rfl), (by kernel_rfl), (by kernel_rfl), (fun _ => by kernel_rfl), (fun _ => by kernel_rfl),
    (fun _ => by kernel_rfl), (by kernel_rfl), (by kernel_rfl), (fun _ => by kernel_rfl), (fun _ => by kernel_rfl), (fun _ => by kernel_rfl), (by kernel_rfl)⟩
theorem sclone_any (s : ByteArray) (w : World) (hs : s.size ≤ 281474976710656) :
    Calls Tryz.prog 102 #[.string s] w fun e w' => e = .returned (.string s) ∧ Below w.heap.size w w' := AnyPu.stringslite_Clone cloneLays s w hs
set_option maxHeartbeats 400000 in
theorem clone_any (s : ByteArray) (w : World) (hs : s.size ≤ 281474976710656) :
    Calls Tryz.prog 57 #[.string s] w fun e w' => e = .returned (.string s) ∧ Below w.heap.size w w' := by
  go_enter Tryz.func57, Tryz.ntmps57
  go_wp2_with (go_at_call 102; refine (sclone_any _ _ hs).mono ?_; rintro e w1 ⟨rfl, hb⟩)
  go_ret
  exact ⟨rfl, hb⟩
theorem blk4 {w : World} {q : Nat} {u0 u1 u2 u3 : Value} {T : TypeId} (h : w.heap[q]? = some (.cells #[u0, u1, u2, u3] T)) : (w.cell? ⟨q, 0, none⟩ = some u0 ∧ w.cell? ⟨q, 1, none⟩ = some u1 ∧ w.cell? ⟨q, 2, none⟩ = some u2 ∧ w.cell? ⟨q, 3, none⟩ = some u3) ∧
    w.frozen? ⟨q, 0, none⟩ = false ∧ w.frozen? ⟨q, 1, none⟩ = false ∧ w.frozen? ⟨q, 2, none⟩ = false ∧ w.frozen? ⟨q, 3, none⟩ = false := by
  refine ⟨⟨?_, ?_, ?_, ?_⟩, ?_, ?_, ?_, ?_⟩ <;> simp [World.cell?, World.frozen?, h]
theorem ret_nd {w : World} {fn : Func} {t : Tmp} (hfn : fn.results = #[.cell t 88]) {tmps : Array Value} {q : Nat} {u0 u1 u2 u3 : Value} (h4 : tmps[t]?.getD undef = .pointer (some ⟨q, 0, none⟩)) (hq : w.heap[q]? = some (.cells #[u0, u1, u2, u3] 88)) : (results fn tmps).run Tryz.prog w = .ok (.agg #[u0, u1, u2, u3]) w := by
  obtain ⟨⟨z0, z1, z2, z3⟩, _⟩ := blk4 hq
  simp [results, hfn, go_sem, h4, z0, z1, z2, z3]
end Go.Proofs.YtnoggmeffindbabGreatDoor

/- Reach of package graph, at every graph. -/
import Derived.Shelf.Pu.Clone
import Derived.Test.Ytncileojdighnaaow04Z
namespace Go.Proofs.Ytncileojdighnaa
set_option maxRecDepth 100000
open Go.RowKit
theorem infoB : (Try.prog.info? 4).map (fun i => (i.zero, i.size, i.bytes)) = some (some (.bool false), 1, 1) := by kernel_rfl
theorem made_seen (N : Nat) : madeCells #[.bool false] N = seenArr N [] := by
  apply Array.ext
  · simp [size_madeCells, seen_size]
  · intro i h1 h2
    have hi : i < N := by simpa [seen_size] using h2
    simp [madeCells, seenArr, Nat.mod_one]
theorem make_bools (N : Nat) (hN : N ≤ 5000) (w : World) :
    (Instr.makeSlice 135 (.int .i64 (N : Int)) (.int .i64 (N : Int))).run Try.prog w = .ok (.slice (some ⟨w.heap.size, 0, none⟩) N N) (w.alloc (.cells (seenArr N []) 4)) := by
  obtain ⟨i0, hi, hz0, hz1, hz2⟩ := info_parts infoB
  have := run_make (P := Try.prog) w 135 4 i0 (.bool false) Try.underlying135 hi hz0 .i64 .i64 (N : Int) (N : Int) (by omega) (by omega) (by rw [hz2]; omega) (by omega)
  rw [this, hz1]
  simp only [Int.toNat_natCast, Nat.mul_one]
  rw [← made_seen]
  rfl
theorem cell4 {w : World} {b o : Nat} {v : Value} (h : w.cell? ⟨b, o, none⟩ = some v) : ∀ o1 o2 o3 o4 : Obj, ((((w.alloc o1).alloc o2).alloc o3).alloc o4).cell? ⟨b, o, none⟩ = some v := fun o1 o2 o3 o4 => by
  have hb : Below w.heap.size w ((((w.alloc o1).alloc o2).alloc o3).alloc o4) := (((below_alloc w _).alloc (by simp) _).alloc (by simp <;> omega) _).alloc (by simp <;> omega) _
  exact (hb.cell (p := ⟨b, o, none⟩) (lt_of_cell h)).trans h
theorem reach_start {W : World} {nv rv : Value} {g : Gf} (hg : Good g) (hN : Rn W nv g.nodes) (hR : Ri W rv g.roots) (w1 : World) (hb1 : Below W.heap.size W w1) (d0 : w1.cell? ⟨W.heap.size, 0, none⟩ = some nv) :
    Calls Try.prog 92 #[rv, .pointer (some ⟨w1.heap.size + 1 + 1, 0, none⟩), .pointer (some ⟨w1.heap.size, 0, none⟩), .pointer (some ⟨w1.heap.size + 1 + 1 + 1, 0, none⟩), .pointer (some ⟨W.heap.size, 0, none⟩)]
      ((((w1.alloc (.cells #[.slice none 0 0] 27)).alloc (.cells (seenArr g.nodes.length []) 4)).alloc (.cells #[.slice (some ⟨w1.heap.size + 1, 0, none⟩) g.nodes.length g.nodes.length] 135)).alloc
        (.cells #[.func (.func 92) #[] #[.pointer (some ⟨w1.heap.size + 1 + 1, 0, none⟩), .pointer (some ⟨w1.heap.size, 0, none⟩), .pointer (some ⟨w1.heap.size + 1 + 1 + 1, 0, none⟩), .pointer (some ⟨W.heap.size, 0, none⟩)]] 149))
      fun e w' => e = .returned (.tuple #[]) ∧ St W w' nv g.nodes.length (w1.heap.size + 1) (w1.heap.size + 1 + 1) w1.heap.size (w1.heap.size + 1 + 1 + 1) W.heap.size (metF g) := by
  have z0 := lt_of_cell d0
  have hB : Bks W (w1.heap.size + 1) (w1.heap.size + 1 + 1) w1.heap.size (w1.heap.size + 1 + 1 + 1) W.heap.size := by
    refine ⟨?_, fun k hk => ?_⟩
    · simp
      omega
    · simp at hk
      omega
  have hrl := hg.roots
  refine meet_any hg hN hB g.nodes.length g.roots [] rv _ hR hg.root (by omega) (ok_nil _) (by simp) ⟨?_, ?_, ?_, ?_, ?_, ⟨none, 0, ?_, World.ownsRow_nil _ _ _ _, fun k e => by simp [Value.ownBlock] at e⟩⟩
  · exact (((hb1.alloc hb1.size _).alloc (by simp; have := hb1.size; omega) _).alloc (by simp; have := hb1.size; omega) _).alloc (by simp; have := hb1.size; omega) _
  · simp [go_sem]
  · simp [go_sem]
  · have h1 : ∀ (o1 o2 o3 o4 : Obj), ((((w1.alloc o1).alloc o2).alloc o3).alloc o4).cell? ⟨W.heap.size, 0, none⟩ = w1.cell? ⟨W.heap.size, 0, none⟩ := fun o1 o2 o3 o4 => by
      have hb : Below w1.heap.size w1 ((((w1.alloc o1).alloc o2).alloc o3).alloc o4) := (((below_alloc w1 _).alloc (by simp) _).alloc (by simp <;> omega) _).alloc (by simp <;> omega) _
      exact hb.cell (p := ⟨W.heap.size, 0, none⟩) z0
    rw [h1]
    exact d0
  · rw [Below.heap_alloc _ _ _ (by simp <;> omega), Below.heap_alloc _ _ _ (by simp)]
    simpa using heap_alloc_new (w1.alloc (.cells #[.slice none 0 0] 27)) (.cells (seenArr g.nodes.length []) 4)
  · rw [Below.heap_alloc _ _ _ (by simp <;> omega), Below.heap_alloc _ _ _ (by simp <;> omega), Below.heap_alloc _ _ _ (by simp)]
    exact heap_alloc_new w1 _
set_option maxHeartbeats 4000000 in
theorem reach_good {W : World} {nv rv : Value} {g : Gf} (hG : Gr W nv rv g) (hS : Sized g) (hb : one (chk g) = []) :
    Calls Try.prog 68 #[.agg #[nv, rv]] W fun e w' => (∃ ao c, e = .returned (.tuple #[.slice ao (metF g).length c, .nilIface]) ∧ w'.ownsRow W.heap.size 3 1 (.slice ao (metF g).length c) (metF g).length ((metF g).map (Value.int .i64))) ∧ Below W.heap.size W w' := by
  have hck := check_any (hG.below (below_alloc W (.cells #[nv, rv] 29))) hS
  rw [hb] at hck
  have hg := chk_good hb
  have hmf : ∀ (fn : Fn) (first cap : Array Value) (w : World), (Instr.makeFunc fn first cap).run Try.prog w = .ok (.func fn first cap) w := fun _ _ _ _ => rfl
  have hgn := hg.nodes
  have hmk := make_bools g.nodes.length (by omega)
  have eg := meet_eg
  have hN := hG.1
  have hR := hG.2
  obtain ⟨na, nc, rfl, _⟩ := hG.1
  obtain ⟨ra, rc, rfl, _⟩ := hG.2
  have hcall := reach_start hg hN hR
  go_enter Try.func68, Try.ntmps68
  go_wp2_with (first
    | (go_at_call 66; refine hck.mono ?_; rintro e w1 ⟨⟨ev, rfl, hE⟩, hb1⟩; cases hE; have d0 : w1.cell? ⟨W.heap.size, 0, none⟩ = some (.slice na g.nodes.length nc) := (by rw [hb1.cell (p := ⟨W.heap.size, 0, none⟩) (by simp)]; simp [go_sem]); have d1 : w1.cell? ⟨W.heap.size, 1, none⟩ = some (.slice ra g.roots.length rc) := (by rw [hb1.cell (p := ⟨W.heap.size, 1, none⟩) (by simp)]; simp [go_sem]); have z0 := lt_of_cell d0; have d3 := cell4 d1)
    | (go_at_call 92; refine (hcall w1 (Below.next (below_alloc _ _) hb1) d0).mono ?_; rintro e w2 ⟨rfl, hS2⟩; obtain ⟨ao, c, hm0, hm1, _⟩ := hS2.met; have d2 := cell_of_one hm0))
  go_ret2
  exact ⟨⟨ao, c, rfl, hm1⟩, hS2.b⟩
end Go.Proofs.Ytncileojdighnaa

namespace Go.Proofs.Ytncileojdighnaa
set_option maxRecDepth 100000
open Go.RowKit
theorem own_below {w w' : World} {B : Nat} {e : TypeId} {s : Nat} {v : Value} {n : Nat} {xs : List Value} (h : w.ownsRow B e s v n xs) (hb : Below w.heap.size w w') : w'.ownsRow B e s v n xs :=
  own_block h (fun k e => hb.block k (h.lt k e).2)
theorem own_base {w : World} {B B' : Nat} {e : TypeId} {s : Nat} {v : Value} {n : Nat} {xs : List Value} (h : w.ownsRow B e s v n xs) (hB : B' ≤ B) : w.ownsRow B' e s v n xs := by
  refine ⟨h.1, ?_⟩
  rcases h.2 with h0 | ⟨g, cap, cur, rfl, hb, rest⟩
  · exact Or.inl h0
  · exact Or.inr ⟨g, cap, cur, rfl, by omega, rest⟩
theorem Ri.ofOwn {w : World} {B : Nat} {ao : Option Addr} {c : Nat} {l : List Int} (h : w.ownsRow B 3 1 (.slice ao l.length c) l.length (l.map (Value.int .i64))) : Ri w (.slice ao l.length c) l := by
  refine ⟨ao, c, rfl, fun j hj => ?_⟩
  have h0 := h
  rcases h.2 with ⟨_, hn⟩ | ⟨g, cap, cur, hv, _⟩
  · omega
  · have e : ao = some ⟨g, 0, none⟩ := by injection hv
    subst e
    refine ⟨g, 0, rfl, ?_⟩
    have hc : w.cell? ⟨g, j, none⟩ = (l.map (Value.int .i64))[j]? := by
      have h2 : cap = c := by injection hv with _ _ h3; exact h3.symm
      subst h2
      exact h0.cellAt j (by omega)
    rw [Nat.zero_add, hc]
    simp [List.getD, hj]
set_option maxHeartbeats 2000000 in
theorem numbered_any {W : World} (f : Nat) (cb : Array Value) (eg : ∀ args w, (callFunc f args).run Try.prog w = .ok (.enter f args) w) (F : Int → Int) {v : Value} {l : List Int} (hv : Ri W v l) (hl : l.length ≤ 5000)
    (hs : ∀ x ∈ l, ∀ w, Below W.heap.size W w → Calls Try.prog f (#[.int .i64 x] ++ cb) w fun e w' => e = .returned (.int .i64 (F x)) ∧ Below w.heap.size w w') :
    Calls Try.prog 71 #[v, .func (.func f) #[] cb] W fun e w' => (∃ ao c, e = .returned (.slice ao l.length c) ∧ w'.ownsRow W.heap.size 3 1 (.slice ao l.length c) l.length ((l.map F).map (Value.int .i64))) ∧ Below W.heap.size W w' := by
  obtain ⟨i0, hi, hz0, hz1, hz2⟩ := info_parts infoI
  obtain ⟨va, vc, rfl, hv⟩ := hv
  go_enter Try.func71, Try.ntmps71
  go_wp2
  go_loopw [5, 10] (fun x i wr => ∃ (k : Nat) (ao : Option Addr) (c : Nat), k ≤ l.length ∧ i = .int .i64 k ∧ x = .slice ao k c ∧ Hid (Below W.heap.size W wr) ∧ Hid (wr.ownsRow W.heap.size 3 1 (.slice ao k c) k (((l.take k).map F).map (Value.int .i64)))) (fun _ i _ => l.length - (intOf i).toNat)
  case atStart => exact ⟨0, none, 0, Nat.zero_le _, rfl, rfl, Below.refl _ _, World.ownsRow_nil _ _ _ _⟩
  case round =>
    obtain ⟨k, ao, c, hk, rfl, rfl, hb, ho⟩ := hrel
    by_cases hlt : k < l.length
    · obtain ⟨vb, vo, rfl, hcv⟩ := hv k hlt
      have dv : wr.cell? ⟨vb, vo + k, none⟩ = some (.int .i64 (l.getD k 0)) := by rw [hb.out.cell (p := ⟨vb, vo + k, none⟩) (lt_of_cell hcv)]; exact hcv
      have hcall := hs _ (getD_mem hlt) wr hb.out
      have hst : Hid (((l.take k).map F).map (Value.int .i64) ++ [.int .i64 (F (l.getD k 0))] = ((l.take (k + 1)).map F).map (Value.int .i64)) := by
        show _ = _
        rw [take_snoc hlt]
        simp
      have hbs := hb.out.size
      generalize F (l.getD k 0) = y at hcall hst
      generalize l.getD k 0 = x at dv hcall
      clear hcv hv hs
      go_wp2_with (first
        | (go_at_fn f; refine hcall.mono ?_; rintro e w1 ⟨rfl, hb1⟩; have hbs1 := hb1.size; have ho1 := World.ownsRow.alloc (own_below ho.out hb1) (.cells #[.int .i64 y] 3))
        | (at_builtin; refine wpList_append_lies _ rfl _ _ _ rfl W.heap.size 3 i0 (.int .i64 0) 1 8 Try.underlying27 hi hz0 hz1 hz2 rfl (by decide) _ k (((l.take k).map F).map (Value.int .i64)) rfl ho1 ⟨w1.heap.size, 0, none⟩ 1 1 [.int .i64 y] rfl rfl (World.news_of_block (cs := #[.int .i64 y]) (t := 3) (fr := (0, 0)) (heap_alloc_new w1 _)) (by simp [Value.oneCell']) (by omega) (by unfold maxLen; omega) (by omega) (by simp; omega) (w1.heap.size + 1) (by simp) ?_; intro gg cap w2 hown2 hgr hat hltg))
      go_roundw
      case rel =>
        refine ⟨k + 1, some ⟨gg, 0, none⟩, cap, by omega, congrArg (Value.int .i64) (by omega), rfl, ?_, ?_⟩
        · have h1 : Below W.heap.size W (w1.alloc (.cells #[.int .i64 y] 3)) := (Below.next hb.out hb1).alloc (by omega) _
          exact h1.grown hgr (by simp; omega) (fun j e => (ho.out.lt j e).1)
        · show World.ownsRow _ _ _ _ _ _ _
          rw [← hst.out]
          exact hown2
      case measure => simp [intOf]; omega
    · have hkl : Hid (k = l.length) := show k = l.length by omega
      have ho' : Hid (wr.ownsRow W.heap.size 3 1 (.slice ao l.length c) l.length ((l.map F).map (Value.int .i64))) := by
        have h1 := ho.out
        rw [hkl.out, List.take_of_length_le (Nat.le_refl _)] at h1
        exact h1
      clear hv hs ho
      go_wp2
      go_ret
      refine ⟨⟨ao, c, ?_, ho'.out⟩, hb.out⟩
      rw [← hkl.out]
      rfl
def cloneRen : Go.Shelf.Ren := ⟨fun _ => 75, fun n => if n = 37 then 151 else if n = 47 then 152 else n, fun n => n⟩
theorem cloneLays : LaysPu.n25 Try.prog cloneRen :=
  ⟨(by kernel_rfl), (by kernel_rfl), (by kernel_rfl), (fun _ => by kernel_rfl), (fun _ => by kernel_rfl), (fun _ => by kernel_rfl), (by kernel_rfl), (by kernel_rfl), (fun _ => by kernel_rfl), (fun _ => by kernel_rfl),
    (fun _ => by kernel_rfl), (by kernel_rfl), (by kernel_rfl), (fun _ => by kernel_rfl), (fun _ => by kernel_rfl), (fun _ => by kernel_rfl), (by kernel_rfl), (by kernel_rfl), (fun _ => by kernel_rfl), (fun _ => by kernel_rfl),
    (fun _ => by kernel_rfl), (by kernel_rfl), (by kernel_rfl), (fun _ => by kernel_rfl), (fun _ => by kernel_rfl), (fun _ => by kernel_rfl), (by kernel_rfl), (by kernel_rfl), (fun _ => by kernel_rfl), (fun _ => by kernel_rfl),
    (fun _ => by kernel_rfl), (by kernel_rfl), (by kernel_rfl), (fun _ => by kernel_rfl), (fun _ => by kernel_rfl), (fun _ => by kernel_rfl), (by kernel_rfl)⟩
theorem sclone_any (s : ByteArray) (w : World) (hs : s.size ≤ 281474976710656) :
    Calls Try.prog 75 #[.string s] w fun e w' => e = .returned (.string s) ∧ Below w.heap.size w w' := AnyPu.stringslite_Clone cloneLays s w hs
set_option maxHeartbeats 400000 in
theorem clone_any (s : ByteArray) (w : World) (hs : s.size ≤ 281474976710656) :
    Calls Try.prog 49 #[.string s] w fun e w' => e = .returned (.string s) ∧ Below w.heap.size w w' := by
  go_enter Try.func49, Try.ntmps49
  go_wp2_with (go_at_call 75; refine (sclone_any _ _ hs).mono ?_; rintro e w1 ⟨rfl, hb⟩)
  go_ret
  exact ⟨rfl, hb⟩
theorem blk4 {w : World} {q : Nat} {u0 u1 u2 u3 : Value} {T : TypeId} (h : w.heap[q]? = some (.cells #[u0, u1, u2, u3] T)) : (w.cell? ⟨q, 0, none⟩ = some u0 ∧ w.cell? ⟨q, 1, none⟩ = some u1 ∧ w.cell? ⟨q, 2, none⟩ = some u2 ∧ w.cell? ⟨q, 3, none⟩ = some u3) ∧
    w.frozen? ⟨q, 0, none⟩ = false ∧ w.frozen? ⟨q, 1, none⟩ = false ∧ w.frozen? ⟨q, 2, none⟩ = false ∧ w.frozen? ⟨q, 3, none⟩ = false := by
  refine ⟨⟨?_, ?_, ?_, ?_⟩, ?_, ?_, ?_, ?_⟩ <;> simp [World.cell?, World.frozen?, h]
theorem ret_nd {w : World} {fn : Func} {t : Tmp} (hfn : fn.results = #[.cell t 63]) {tmps : Array Value} {q : Nat} {u0 u1 u2 u3 : Value} (h4 : tmps[t]?.getD undef = .pointer (some ⟨q, 0, none⟩)) (hq : w.heap[q]? = some (.cells #[u0, u1, u2, u3] 63)) : (results fn tmps).run Try.prog w = .ok (.agg #[u0, u1, u2, u3]) w := by
  obtain ⟨⟨z0, z1, z2, z3⟩, _⟩ := blk4 hq
  simp [results, hfn, go_sem, h4, z0, z1, z2, z3]
end Go.Proofs.Ytncileojdighnaa

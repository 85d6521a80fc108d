/- What Place of package word does at every word. -/
import Derived.Shelf.Pu.Clone
import Derived.Test.YtlibjdilicfcdaaGreatDoorns02Z
namespace Go.Proofs.YtlibjdilicfcdaaGreatDoor
set_option maxRecDepth 100000
open Go.RowKit
theorem fun_val (n : Int) (h : goodB n = true) (ht : n % 8 = 4) : 0 ≤ valOf n ∧ valOf n / 16 < 1024 ∧ 1 ≤ valOf n % 16 ∧ valOf n % 16 ≤ 8 := by
  unfold goodB at h; rw [ht] at h; simp [fitsB] at h; omega
set_option maxHeartbeats 1000000 in
theorem place_yes (n : Int) (w : World) (h0 : 0 ≤ n) (h1 : n ≤ 18446744073709551615) (h : goodB n = true) (ht : n % 8 = 0 ∨ n % 8 = 3 ∨ n % 8 = 5) :
    Calls Tryz.prog 99 #[.int .u64 n] w fun e w' => e = .returned (.tuple #[.int .i64 (valOf n), .bool true]) ∧ w' = w := by
  rcases ht with ht | ht | ht
  all_goals
    go_enter Tryz.func99, Tryz.ntmps99
    go_wp2_with (first | (go_at_call 98; refine (tag_any _ _ h0 h1).mono ?_; rintro e w' ⟨rfl, rfl⟩) | (go_at_call 111; refine (value_any _ _).mono ?_; rintro e w' ⟨rfl, rfl⟩) | (go_at_call 131; refine (w_good_any _ _ h0 h1).mono ?_; rintro e w' ⟨rfl, rfl⟩))
    go_ret2
    exact ⟨rfl, rfl⟩
set_option maxHeartbeats 1000000 in
theorem place_no (n : Int) (w : World) (h0 : 0 ≤ n) (h1 : n ≤ 18446744073709551615) (h : goodB n = false ∨ (n % 8 ≠ 0 ∧ n % 8 ≠ 3 ∧ n % 8 ≠ 5)) :
    Calls Tryz.prog 99 #[.int .u64 n] w fun e w' => e = .returned (.tuple #[.int .i64 0, .bool false]) ∧ w' = w := by
  by_cases hg : goodB n = true
  · have ht : n % 8 ≠ 0 ∧ n % 8 ≠ 3 ∧ n % 8 ≠ 5 := by rw [hg] at h; simpa using h
    have b0 : (n % 8 == 0) = false := by simpa using ht.1
    have b3 : (n % 8 == 3) = false := by simpa using ht.2.1
    have b5 : (n % 8 == 5) = false := by simpa using ht.2.2
    clear h ht
    go_enter Tryz.func99, Tryz.ntmps99
    go_wp2_with (first | (go_at_call 98; refine (tag_any _ _ h0 h1).mono ?_; rintro e w' ⟨rfl, rfl⟩) | (go_at_call 111; refine (value_any _ _).mono ?_; rintro e w' ⟨rfl, rfl⟩) | (go_at_call 131; refine (w_good_any _ _ h0 h1).mono ?_; rintro e w' ⟨rfl, rfl⟩))
    go_ret2
    exact ⟨rfl, rfl⟩
  · have hg : goodB n = false := by simpa using hg
    clear h
    go_enter Tryz.func99, Tryz.ntmps99
    go_wp2_with (first | (go_at_call 98; refine (tag_any _ _ h0 h1).mono ?_; rintro e w' ⟨rfl, rfl⟩) | (go_at_call 111; refine (value_any _ _).mono ?_; rintro e w' ⟨rfl, rfl⟩) | (go_at_call 131; refine (w_good_any _ _ h0 h1).mono ?_; rintro e w' ⟨rfl, rfl⟩))
    go_ret2
    exact ⟨rfl, rfl⟩
end Go.Proofs.YtlibjdilicfcdaaGreatDoor

namespace Go.Proofs.YtlibjdilicfcdaaGreatDoor
set_option maxRecDepth 100000
open Go.RowKit Go.Maps
def n_cloneRen : Go.Shelf.Ren := ⟨fun _ => 118, fun n => if n = 37 then 241 else if n = 47 then 242 else n, fun n => n⟩
theorem n_cloneLays : LaysPu.n25 Tryz.prog n_cloneRen :=
  ⟨(by kernel_rfl), (by kernel_rfl), (by kernel_rfl), (fun _ => by kernel_rfl), (fun _ => by kernel_rfl), (fun _ => by kernel_rfl), (by kernel_rfl), (by kernel_rfl), (fun _ => by kernel_rfl), (fun _ => by kernel_rfl),
    (fun _ => by kernel_rfl), (by kernel_rfl), (by kernel_rfl), (fun _ => by kernel_rfl), (fun _ => by kernel_rfl), (fun _ => by kernel_rfl), (by kernel_rfl), (by kernel_rfl), (fun _ => by kernel_rfl), (fun _ => by kernel_rfl),
    (fun _ => by kernel_rfl), (by kernel_rfl), (by kernel_rfl), (fun _ => by kernel_rfl), (fun _ => by kernel_rfl), (fun _ => by kernel_rfl), (by kernel_rfl), (by kernel_rfl), (fun _ => by kernel_rfl), (fun _ => by kernel_rfl),
    (fun _ => by kernel_rfl), (by kernel_rfl), (by kernel_rfl), (fun _ => by kernel_rfl), (fun _ => by kernel_rfl), (fun _ => by kernel_rfl), (by kernel_rfl)⟩
theorem n_sclone_any (s : ByteArray) (w : World) (hs : s.size ≤ 281474976710656) :
    Calls Tryz.prog 118 #[.string s] w fun e w' => e = .returned (.string s) ∧ Below w.heap.size w w' := AnyPu.stringslite_Clone n_cloneLays s w hs
set_option maxHeartbeats 400000 in
theorem n_clone_any (s : ByteArray) (w : World) (hs : s.size ≤ 281474976710656) :
    Calls Tryz.prog 80 #[.string s] w fun e w' => e = .returned (.string s) ∧ Below w.heap.size w w' := by
  go_enter Tryz.func80, Tryz.ntmps80
  go_wp2_with (go_at_call 118; refine (n_sclone_any _ _ hs).mono ?_; rintro e w1 ⟨rfl, hb⟩)
  go_ret
  exact ⟨rfl, hb⟩
theorem infoS : (Tryz.prog.info? 9).map (fun i => (i.zero, i.size, i.bytes)) = some (some (.string ⟨#[]⟩), 1, 16) := by kernel_rfl
theorem n_run_append_still {w : World} {B : Nat} {v : Value} {l : List ByteArray} (ty : TypeId) (hown : w.ownsRow B 9 1 v l.length (l.map Value.string)) (ad : Addr) (c : Nat) (s : ByteArray)
    (hnews : ∀ j u, [Value.string s][j]? = some u → w.cell? (ad.add j) = some u) (hl : l.length ≤ 5000) (hB : B ≤ w.heap.size) :
    ∃ g cap w', (Builtin.append_ #[94, 94] ty #[v, .slice (some ad) 1 c]).run Tryz.prog w = .ok (.slice (some ⟨g, 0, none⟩) (l.length + 1) cap) w' ∧
      w'.ownsRow B 9 1 (.slice (some ⟨g, 0, none⟩) (l.length + 1) cap) (l.length + 1) ((l ++ [s]).map Value.string) ∧ w.grownBy w' v.ownBlock ∧ (v.ownBlock = some g ∨ (g = w.heap.size ∧ w.grownBy w' none)) := by
  obtain ⟨i0, hi, hz0, hz1, hz2⟩ := info_parts infoS
  have h1c : ∀ u ∈ [Value.string s], u.oneCell' = true := by simp [Value.oneCell']
  obtain ⟨v', w', hr, h2, h3, _, h5⟩ := run_append_own_at (P := Tryz.prog) w B 94 ty 9 i0 (.string ⟨#[]⟩) 1 16 Tryz.underlying94 hi hz0 hz1 hz2 rfl (by decide) v l.length (l.map Value.string) hown ad 1 c [.string s] rfl hnews h1c (by unfold maxLen; omega) (by omega) hB
  have h2' : w'.ownsRow B 9 1 v' (l.length + 1) ((l ++ [s]).map Value.string) := by simpa using h2
  rcases h2.2 with ⟨_, h0⟩ | ⟨g, cap, cur, rfl, _⟩
  · omega
  refine ⟨g, cap, w', hr, h2', h3, ?_⟩
  rcases h5 with h5 | h5
  · exact Or.inl h5.symm
  · have hg : g = w.heap.size := by simpa [Value.ownBlock] using h5
    rcases hown.2 with ⟨rfl, _⟩ | ⟨g0, cap0, cur0, rfl, _, hg0, _, _, hcs, _⟩
    · exact Or.inr ⟨hg, h3⟩
    · by_cases hroom : l.length + 1 ≤ cap0
      · have hr2 := run_append_room (P := Tryz.prog) w 94 ty 9 i0 Tryz.underlying94 hi g0 l.length cap0 cur0 hg0 ad 1 c [.string s] (by rw [hz1]; rfl) hnews h1c hroom (by rw [hz1]; simp; omega)
        rw [hr] at hr2
        injection hr2 with e1 e2
        have e3 : g = g0 := by
          have e4 : g = g0 ∧ cap = cap0 := by simpa using e1
          exact e4.1
        exact Or.inl (by simp [Value.ownBlock, e3])
      · have holds : ∀ j u, (l.map Value.string)[j]? = some u → w.cell? ((⟨g0, 0, none⟩ : Addr).add j) = some u := hown.cells (g := g0) rfl
        have hr2 := run_append_grow (P := Tryz.prog) w 94 ty 9 i0 (.string ⟨#[]⟩) Tryz.underlying94 hi hz0 ⟨g0, 0, none⟩ l.length cap0 (l.map Value.string) (by rw [hz1]; exact hown.1) holds ad 1 c [.string s] (by rw [hz1]; rfl) hnews (by omega) (by omega) (growslice_fits (by omega) (by rw [hz2]; omega))
        rw [hr] at hr2
        injection hr2 with e1 e2
        refine Or.inr ⟨hg, ?_⟩
        rw [e2]
        exact ⟨rfl, rfl, rfl, by simp, fun k hk _ => heap_alloc_old w.drew _ hk⟩
theorem n_wpList_append_still {w : World} {ops : Array Oper} {rest : List Oper} {o : Oper} {a : Act} {Q : Exit → Act → World → Prop} (hgd : o.guard = none) (x y : Operand)
    (ho : o.op = .call { callee := .builtin .append, args := #[x, y], argTypes := #[94, 94] }) {B : Nat} {v : Value} {l : List ByteArray} (hx : a.eval x = v) (hown : w.ownsRow B 9 1 v l.length (l.map Value.string)) (ad : Addr) (c : Nat) (s : ByteArray)
    (hy : a.eval y = .slice (some ad) 1 c) (hnews : ∀ j u, [Value.string s][j]? = some u → w.cell? (ad.add j) = some u) (hl : l.length ≤ 5000) (hB : B ≤ w.heap.size)
    (h : ∀ g cap w', w'.ownsRow B 9 1 (.slice (some ⟨g, 0, none⟩) (l.length + 1) cap) (l.length + 1) ((l ++ [s]).map Value.string) → w.grownBy w' v.ownBlock → (v.ownBlock = some g ∨ (g = w.heap.size ∧ w.grownBy w' none)) →
      wpList Tryz.prog ops Q rest (a.put o.dst (.slice (some ⟨g, 0, none⟩) (l.length + 1) cap)) w') : wpList Tryz.prog ops Q (o :: rest) a w := by
  refine wpList_plain hgd fun K hK => ?_
  obtain ⟨g, cap, w', hr, h2, h3, h4⟩ := n_run_append_still o.type hown ad c s hnews hl hB
  unfold Oper.wp execOp
  simp only [ho, resolve, invoke, builtin, Sem.run_bind, Sem.run_pure, Result.andThen_ok, List.map_toArray, List.map_cons, List.map_nil, hx, hy, hr]
  exact hK _ _ (h g cap w' h2 h3 h4)
theorem still_block {w w1 w2 : World} {p q B : Nat} {v : Value} {l : List ByteArray} {o : Obj} (h : Tb w B p v q l) (hb : Below w.heap.size w w1) (hg : (w1.alloc o).grownBy w2 v.ownBlock) : w2.heap[p]? = some (.cells #[v, .map (some q)] 162 (0, 0)) := by
  have h1 := (h.below hb).alloc o
  rw [hg.block p h1.lt (fun e => (h1.row e.symm).2.2.1 rfl)]
  exact h1.blk
theorem set_block {w : World} {p q : Nat} {v : Value} (v' : Value) (h : w.heap[p]? = some (.cells #[v, .map (some q)] 162 (0, 0))) : (w.setCell ⟨p, 0, none⟩ v').heap[p]? = some (.cells #[v', .map (some q)] 162 (0, 0)) := by
  obtain ⟨hlt, hk⟩ := Array.getElem?_eq_some_iff.1 h
  show (w.heap.modify p _)[p]? = _
  rw [Array.getElem?_eq_getElem (by rw [Array.size_modify]; exact hlt), Array.getElem_modify_self, hk]
  rfl
theorem blk_c0 {w : World} {p q : Nat} {v : Value} (h : w.heap[p]? = some (.cells #[v, .map (some q)] 162 (0, 0))) : w.cell? ⟨p, 0, none⟩ = some v := by simp [World.cell?, h]
theorem blk_c1 {w : World} {p q : Nat} {v : Value} (h : w.heap[p]? = some (.cells #[v, .map (some q)] 162 (0, 0))) : w.cell? ⟨p, 1, none⟩ = some (.map (some q)) := by simp [World.cell?, h]
theorem blk_f0 {w : World} {p q : Nat} {v : Value} (h : w.heap[p]? = some (.cells #[v, .map (some q)] 162 (0, 0))) : w.frozen? ⟨p, 0, none⟩ = false := by simp [World.frozen?, h]
theorem still_map {w w1 w2 : World} {p q B n : Nat} {v : Value} {l : List ByteArray} {o : Obj} {D : DataW Unit} (h : Tb w B p v q l) (hb : Below w.heap.size w w1) (hg : (w1.alloc o).grownBy w2 v.ownBlock) (v' : Value) (hD : w.ownsMap Tryz.prog 9 (plainElem Tryz.prog 3) q n D) :
    (w2.setCell ⟨p, 0, none⟩ v').ownsMap Tryz.prog 9 (plainElem Tryz.prog 3) q n D := by
  have h1 := (h.below hb).alloc o
  have hD1 := (map_keep (ks := []) hD (n_Mod.ofBelow hb) (by simp)).alloc o
  exact (hD1.kept hg (fun e => (h1.row e.symm).2.2.2 rfl)).setCell (fun e => h1.pq e.symm) _
theorem put_upd {w w1 w2 w3 : World} {p q B g cap : Nat} {v : Value} {l : List ByteArray} {o : Obj} {s : ByteArray} {D : DataW Unit} (h : Tb w B p v q l) (hb : Below w.heap.size w w1) (hg : (w1.alloc o).grownBy w2 v.ownBlock)
    (hown : w2.ownsRow B 9 1 (.slice (some ⟨g, 0, none⟩) (l.length + 1) cap) (l.length + 1) ((l ++ [s]).map Value.string))
    (hat : v.ownBlock = some g ∨ (g = (w1.alloc o).heap.size ∧ (w1.alloc o).grownBy w2 none)) (hs : n_goodS s = true) (hn : inL l s = false) (hl : l.length < 1024) (hO : MapOf l D) (hD : w.ownsMap Tryz.prog 9 (plainElem Tryz.prog 3) q l.length D)
    (hm : w3.ownsMap Tryz.prog 9 (plainElem Tryz.prog 3) q (l.length + 1) (D.put (.string s.data.toList) (.lit (.int .i64 (l.length : Int))))) (hg3 : (w2.setCell ⟨p, 0, none⟩ (.slice (some ⟨g, 0, none⟩) (l.length + 1) cap)).grownBy w3 (some q)) :
    n_Upd w w3 B p v q (l ++ [s]) (.slice (some ⟨g, 0, none⟩) (l.length + 1) cap) ∧ Rs w3 v l := by
  have h1 := (h.below hb).alloc o
  have hM1 : n_Mod (n_foot p v q) w (w1.alloc o) := (n_Mod.ofBelow hb).alloc o
  have hM2 : n_Mod (n_foot p v q) w w2 := hM1.grown hg (fun k e => Or.inl (n_mem_foot.2 (Or.inr (Or.inr e))))
  have hM3 : n_Mod (n_foot p v q) w (w2.setCell ⟨p, 0, none⟩ (.slice (some ⟨g, 0, none⟩) (l.length + 1) cap)) := hM2.setCell (Or.inl (n_mem_foot.2 (Or.inl rfl))) _
  have hM4 : n_Mod (n_foot p v q) w w3 := hM3.grown hg3 (fun k e => by cases e; exact Or.inl (n_mem_foot.2 (Or.inr (Or.inl rfl))))
  have hb2 := still_block h hb hg
  have hb3 := set_block (.slice (some ⟨g, 0, none⟩) (l.length + 1) cap) hb2
  have hpq := h.pq
  have hgp : g ≠ p ∧ g ≠ q := by
    rcases hat with e | ⟨e, _⟩
    · exact ⟨(h1.row e).2.2.1, (h1.row e).2.2.2⟩
    · have h3 := h1.lt
      have h4 := h1.mlt
      exact ⟨by omega, by omega⟩
  have hrow3 := (own_keep (ks := [p]) hown ((n_Mod.refl [p] w2).setCell (p := ⟨p, 0, none⟩) (Or.inl (by simp)) (.slice (some ⟨g, 0, none⟩) (l.length + 1) cap)) (fun k hk e => by
    simp at hk
    subst hk
    exact hgp.1 (by simpa [Value.ownBlock] using e)))
  have hrow4 := own_keep (ks := [q]) hrow3 ((n_Mod.refl [q] _).grown hg3 (fun k e => by cases e; exact Or.inl (by simp))) (fun k hk e => by
    simp at hk
    subst hk
    exact hgp.2 (by simpa [Value.ownBlock] using e))
  refine ⟨⟨⟨?_, h.base, by rw [List.length_append]; exact hrow4, h.mbase, ⟨_, hm.mono (by simp), mapOf_put hO hD.isMap hn⟩, by simp; omega, fun x hx => ?_, ?_⟩, hM4, fun k hk => ?_⟩, ?_⟩
  · rw [hg3.block p (lt_of_block hb3) (fun e => hpq (by simpa using e))]
    exact hb3
  · rcases List.mem_append.1 hx with hx | hx
    · exact h.good x hx
    · simp at hx
      subst hx
      exact hs
  · rw [List.nodup_append]
    refine ⟨h.nodup, by simp, fun x hx y hy e => ?_⟩
    simp at hy
    subst hy
    subst e
    rw [inL_iff.2 hx] at hn
    cases hn
  · have hk' : k = g := by simpa [Value.ownBlock] using hk.symm
    subst hk'
    rcases hat with e | ⟨e, _⟩
    · exact Or.inl e
    · have := hb.size
      simp at e
      exact Or.inr (by omega)
  · rcases hat with e | ⟨_, hg'⟩
    · rcases h.own.2 with ⟨rfl, hn0⟩ | ⟨g0, cap0, cur0, rfl, _⟩
      · exact Or.inl ⟨rfl, List.eq_nil_of_length_eq_zero hn0⟩
      · have e' : g0 = g := by simpa [Value.ownBlock] using e
        subst e'
        refine Or.inr (Or.inr ⟨g0, 0, cap0, rfl, fun j hj => ?_⟩)
        rw [Nat.zero_add, hrow4.cellAt j (by omega), List.map_append, List.getElem?_append_left (by simpa using hj)]
        simp [List.getD, hj]
    · have hr1 := h1.rs
      have hr2 : Rs w2 v l := hr1.keep (ks := []) ((n_Mod.refl [] _).grown hg' (fun k e => by cases e)) (by simp)
      have hin : ∀ k, Value.n_inBlock v = some k → v.ownBlock = some k := fun k e => by
        rcases h.own.2 with ⟨rfl, hn0⟩ | ⟨g0, cap0, cur0, rfl, _⟩
        · simp [Value.n_inBlock] at e
        · simpa [Value.n_inBlock, Value.ownBlock] using e
      have hr3 : Rs (w2.setCell ⟨p, 0, none⟩ (.slice (some ⟨g, 0, none⟩) (l.length + 1) cap)) v l := hr2.keep (ks := [p]) ((n_Mod.refl [p] w2).setCell (p := ⟨p, 0, none⟩) (Or.inl (by simp)) _) (fun k hk e => by
        simp at hk
        subst hk
        exact (h.row (hin _ e)).2.2.1 rfl)
      exact hr3.keep (ks := [q]) ((n_Mod.refl [q] _).grown hg3 (fun k e => by cases e; exact Or.inl (by simp))) (fun k hk e => by
        simp at hk
        subst hk
        exact (h.row (hin _ e)).2.2.2 rfl)
set_option maxHeartbeats 2000000 in
theorem put_new {w : World} {B p q : Nat} {v : Value} {l : List ByteArray} (h : Tb w B p v q l) (hB : B ≤ w.heap.size) (s : ByteArray) (hs : s.size ≤ 281474976710656) (hg : n_goodS s = true) (hi : inL l s = false) (hl : l.length < 1024) :
    Calls Tryz.prog 91 #[.pointer (some ⟨p, 0, none⟩), .string s] w fun e w' => e = .returned (.tuple #[.int .i64 (l.length : Int), .nilIface]) ∧ ∃ v', n_Upd w w' B p v q (l ++ [s]) v' ∧ Rs w' v l := by
  have hf := find_any h s hs
  have hn := len_any h
  rw [hi] at hf
  obtain ⟨D, hD, hO⟩ := h.map
  have hk := WideMaps.keyOf_string_mk (P := Tryz.prog) (k := 9) Tryz.underlying9 (s := s) (by unfold maxLen; omega)
  have hwf : (Lit.int .i64 (l.length : Int)).wf = true := WalkArith.wf_i64 (by omega)
  go_enter Tryz.func91, Tryz.ntmps91
  go_wp2_with (first
    | (go_at_call 51; refine (n_good_any _ _ hs).mono ?_; rintro e w ⟨rfl, rfl⟩)
    | (go_at_call 89; refine hf.mono ?_; rintro e w ⟨rfl, rfl⟩)
    | (go_at_call 124; refine hn.mono ?_; rintro e w ⟨rfl, rfl⟩)
    | (go_at_call 80; refine (n_clone_any _ _ hs).mono ?_; rintro e w1 ⟨rfl, hb⟩; have c0 := (h.below hb).c0)
    | (at_builtin; refine n_wpList_append_still rfl _ _ rfl rfl ((h.below hb).alloc _).own ⟨w1.heap.size, 0, none⟩ 1 s rfl (cell_one_new _ _ _) (by omega) (by have := hb.size; simp; omega) ?_; intro g cap w2 hown hgr hat; have hb2 := still_block h hb hgr; have d0 := blk_c0 hb2; have d1 := blk_f0 hb2; have d2 := blk_c1 (set_block (.slice (some ⟨g, 0, none⟩) (l.length + 1) cap) hb2); have hm2 := still_map h hb hgr (.slice (some ⟨g, 0, none⟩) (l.length + 1) cap) hD)
    | (at_mapUpdate; refine wpList_mapUpdate_own _ rfl _ _ _ 160 rfl 9 3 (string_keyed Tryz.underlying9) Tryz.underlying160 _ q l.length _ rfl hm2 (by unfold maxLen; omega) _ _ _ rfl rfl hk _ [] (plainElem_int Tryz.underlying3 hwf) ?_; intro w3 hm3 hg3))
  go_ret2
  exact ⟨rfl, _, put_upd h hb hgr hown hat hg hi hl hO hD hm3 hg3⟩
end Go.Proofs.YtlibjdilicfcdaaGreatDoor

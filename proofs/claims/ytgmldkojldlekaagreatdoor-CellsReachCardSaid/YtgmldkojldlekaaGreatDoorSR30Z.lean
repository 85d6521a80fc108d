/- The document's Reached: the places that a word reaches, put behind a list. -/
import Derived.Test.YtgmldkojldlekaaGreatDoorSR29Z
import Derived.Test.YtgmldkojldlekaaGreatDoorSR11Z
import Derived.Test.YtgmldkojldlekaaGreatDoorSR02Z
namespace Go.Proofs.YtgmldkojldlekaaGreatDoor
set_option maxRecDepth 100000
open Go.RowKit
structure Grw (w w' : World) (B : Nat) (u u' : Value) (L' : List Int) : Prop where
  own : w'.ownsRow B 3 1 u' L'.length (L'.map (Value.int .i64))
  mo : Mo (fun q => u.ownBlock = some q) w w'
  nx : ∀ q, u'.ownBlock = some q → u.ownBlock = some q ∨ w.heap.size ≤ q
theorem Grw.trans {w w1 w2 : World} {B : Nat} {u u1 u2 : Value} {L1 L2 : List Int} (h : Grw w w1 B u u1 L1) (k : Grw w1 w2 B u1 u2 L2) : Grw w w2 B u u2 L2 :=
  ⟨k.own, h.mo.trans k.mo (fun x hx => h.nx x hx), fun q hq => by
    rcases k.nx q hq with h1 | h1
    · exact h.nx q h1
    · exact Or.inr (Nat.le_trans h.mo.size h1)⟩
theorem grw_app {w w6 : World} {B g6 cap : Nat} {u : Value} {L : List Int} {v : Int} {o : Obj} (hown : w6.ownsRow B 3 1 (.slice (some ⟨g6, 0, none⟩) (L.length + 1) cap) (L.length + 1) (L.map (Value.int .i64) ++ [.int .i64 v])) (hg : (w.alloc o).grownBy w6 u.ownBlock) (hat : u.ownBlock = some g6 ∨ g6 = (w.alloc o).heap.size) : Grw w w6 B u (.slice (some ⟨g6, 0, none⟩) (L.length + 1) cap) (L ++ [v]) := by
  refine ⟨by simpa using hown, ((Mo.refl _ w).alloc o).grown hg (fun k e => Or.inl e), fun q hq => ?_⟩
  have e : g6 = q := by simpa [Value.ownBlock] using hq
  subst e
  rcases hat with h | h
  · exact Or.inl h
  · exact Or.inr (by rw [h]; simp)
theorem val_pos {x : Int} (h0 : 0 ≤ x) (h1 : x ≤ 18446744073709551615) (hv : 0 ≤ valOf x) : valOf x = x / 8 := by
  unfold valOf wrap64 at *
  omega
section
variable {w : World} {B : Nat} {ao : Option Addr} {c : Nat} {L : List Int}
set_option maxHeartbeats 4000000 in
theorem rreached_one (hown : w.ownsRow B 3 1 (.slice ao L.length c) L.length (L.map (Value.int .i64))) (hB : B ≤ w.heap.size) (hL : L.length ≤ 100000) (k : Nat) (x v : Int) (h0 : 0 ≤ x) (h1 : x ≤ 18446744073709551615) (hv : x / 8 = v) (hp : x % 8 = 0 ∨ x % 8 = 3 ∨ x % 8 = 5) :
    Calls Tryz.prog 44 #[.slice ao L.length c, .int .i64 (k : Int), .int .u64 x] w fun e w' => ∃ ao' c', e = .returned (.slice ao' (L.length + 1) c') ∧ Grw w w' B (.slice ao L.length c) (.slice ao' (L.length + 1) c') (L ++ [v]) := by
  obtain ⟨i0, hi, hz0, hz1, hz2⟩ := info_parts infoI
  have hO1 := World.ownsRow.alloc hown (.cells #[.int .i64 v] 3)
  clear hown
  rcases hp with hp | hp | hp
  all_goals
    go_enter Tryz.func44, Tryz.ntmps44
    go_wp2_with (at_builtin; go_must (refine wpList_append_lies _ rfl _ _ 28 rfl B 3 i0 (.int .i64 0) 1 8 Tryz.underlying28 hi hz0 hz1 hz2 rfl (by decide) _ L.length (L.map (Value.int .i64)) rfl hO1 ⟨w.heap.size, 0, none⟩ 1 1 [.int .i64 v] rfl rfl (World.news_of_block (cs := #[.int .i64 v]) (t := 3) (fr := (0, 0)) (heap_alloc_new w _)) (by simp [Value.oneCell']) (by decide) (by unfold maxLen; omega) (by omega) (by simp; omega) _ rfl ?_; intro g6 cap w6 hown6 hg6 hat6 hlt6))
    have hG := hid (grw_app hown6 hg6 hat6)
    clear hown6 hg6 hat6 hlt6
    try go_wp2
    go_ret
    exact ⟨_, _, rfl, hG.out⟩
set_option maxHeartbeats 4000000 in
theorem rreached_none (hown : w.ownsRow B 3 1 (.slice ao L.length c) L.length (L.map (Value.int .i64))) (k : Nat) (x : Int) (h0 : 0 ≤ x) (h1 : x ≤ 18446744073709551615) (hp : x % 8 ≠ 0 ∧ x % 8 ≠ 3 ∧ x % 8 ≠ 5 ∧ x % 8 ≠ 4) :
    Calls Tryz.prog 44 #[.slice ao L.length c, .int .i64 (k : Int), .int .u64 x] w fun e w' => e = .returned (.slice ao L.length c) ∧ Grw w w' B (.slice ao L.length c) (.slice ao L.length c) L := by
  have hG : Hid (Grw w w B (.slice ao L.length c) (.slice ao L.length c) L) := ⟨hown, Mo.refl _ _, fun q h => Or.inl h⟩
  have k0 : (x % 8 == 0) = false := by simpa using hp.1
  have k3 : (x % 8 == 3) = false := by simpa using hp.2.1
  have k5 : (x % 8 == 5) = false := by simpa using hp.2.2.1
  have k4 : (x % 8 == 4) = false := by simpa using hp.2.2.2
  clear hown hp
  go_enter Tryz.func44, Tryz.ntmps44
  go_wp2
  go_ret
  exact ⟨rfl, hG.out⟩
set_option maxHeartbeats 4000000 in
theorem rreached_fun (hown : w.ownsRow B 3 1 (.slice ao L.length c) L.length (L.map (Value.int .i64))) (hB : B ≤ w.heap.size) (hL : L.length ≤ 100000) (k : Nat) (hk : k < 65536) (x v : Int) (a : Nat) (h0 : 0 ≤ x) (h1 : x ≤ 18446744073709551615) (hv : x / 8 = v) (hv0 : 0 ≤ v) (ha : v % 16 = (a : Int)) (hp : x % 8 = 4) :
    Calls Tryz.prog 44 #[.slice ao L.length c, .int .i64 (k : Int), .int .u64 x] w fun e w' => ∃ ao' c', e = .returned (.slice ao' (L.length + a) c') ∧ Grw w w' B (.slice ao L.length c) (.slice ao' (L.length + a) c') (L ++ (List.range a).map (fun i => ((k + 1 + i : Nat) : Int))) := by
  obtain ⟨i0, hi, hz0, hz1, hz2⟩ := info_parts infoI
  have ha8 : a ≤ 15 := by omega
  have hG0 : Hid (Grw w w B (.slice ao L.length c) (.slice ao L.length c) (L ++ (List.range 0).map (fun i => ((k + 1 + i : Nat) : Int)))) := ⟨by simpa using hown, Mo.refl _ _, fun q h => Or.inl h⟩
  have hv1 : v ≤ 2305843009213693951 := by omega
  clear hown
  go_enter Tryz.func44, Tryz.ntmps44
  go_wp2
  clear hv hp h0 h1
  go_loopw [0, 8] (fun s i wr => ∃ (j : Nat) (ao' : Option Addr) (c' : Nat), j ≤ a ∧ i = .int .i64 ((j : Int) + 1) ∧ s = .slice ao' (L.length + j) c' ∧ Hid (Grw w wr B (.slice ao L.length c) (.slice ao' (L.length + j) c') (L ++ (List.range j).map (fun i => ((k + 1 + i : Nat) : Int))))) (fun _ i _ => a + 1 - (intOf i).toNat)
  case atStart => exact ⟨0, ao, c, Nat.zero_le _, rfl, rfl, hG0⟩
  case round =>
    obtain ⟨j, ao', c', hj, rfl, rfl, hS⟩ := hrel
    clear hG0
    by_cases hlt : j < a
    · have hji : (j : Int) + 1 ≤ (a : Int) := by omega
      have hlen : (L ++ (List.range j).map (fun i => ((k + 1 + i : Nat) : Int))).length = L.length + j := by simp
      have hO1 := World.ownsRow.alloc hS.out.own (.cells #[.int .i64 ((k : Int) + ((j : Int) + 1))] 3)
      rw [hlen] at hO1
      have hzk := hS.out.mo.size
      have hS' : Hid (∀ (w6 : World) (g6 cap : Nat), w6.ownsRow B 3 1 (.slice (some ⟨g6, 0, none⟩) (L.length + j + 1) cap) (L.length + j + 1) ((L ++ (List.range j).map (fun i => ((k + 1 + i : Nat) : Int))).map (Value.int .i64) ++ [.int .i64 ((k : Int) + ((j : Int) + 1))]) → (wr.alloc (.cells #[.int .i64 ((k : Int) + ((j : Int) + 1))] 3)).grownBy w6 (Value.ownBlock (.slice ao' (L.length + j) c')) → (Value.ownBlock (.slice ao' (L.length + j) c') = some g6 ∨ g6 = (wr.alloc (.cells #[.int .i64 ((k : Int) + ((j : Int) + 1))] 3)).heap.size) → Grw w w6 B (.slice ao L.length c) (.slice (some ⟨g6, 0, none⟩) (L.length + (j + 1)) cap) (L ++ (List.range (j + 1)).map (fun i => ((k + 1 + i : Nat) : Int)))) := fun w6 g6 cap ho hg hat => by
        have h9 := grw_app (w := wr) (u := .slice ao' (L.length + j) c') (L := L ++ (List.range j).map (fun i => ((k + 1 + i : Nat) : Int))) (v := (k : Int) + ((j : Int) + 1)) (o := .cells #[.int .i64 ((k : Int) + ((j : Int) + 1))] 3) (by rw [hlen]; exact ho) hg hat
        have e9 : (L ++ (List.range j).map (fun i => ((k + 1 + i : Nat) : Int))) ++ [(k : Int) + ((j : Int) + 1)] = L ++ (List.range (j + 1)).map (fun i => ((k + 1 + i : Nat) : Int)) := by
          rw [rng_take, List.append_assoc]
          congr 3
          omega
        rw [hlen, e9] at h9
        exact hS.out.trans h9
      generalize hXS : (L ++ (List.range j).map (fun i => ((k + 1 + i : Nat) : Int))).map (Value.int .i64) = XS at *
      clear hXS hlen hS
      go_wp2_with (at_builtin; go_must (refine wpList_append_lies _ rfl _ _ 28 rfl B 3 i0 (.int .i64 0) 1 8 Tryz.underlying28 hi hz0 hz1 hz2 rfl (by decide) _ (L.length + j) XS rfl hO1 ⟨wr.heap.size, 0, none⟩ 1 1 [.int .i64 ((k : Int) + ((j : Int) + 1))] rfl rfl (World.news_of_block (cs := #[.int .i64 ((k : Int) + ((j : Int) + 1))]) (t := 3) (fr := (0, 0)) (heap_alloc_new wr _)) (by simp [Value.oneCell']) (by decide) (by unfold maxLen; omega) (by omega) (by simp; omega) _ rfl ?_; intro g6 cap w6 hown6 hg6 hat6 hlt6))
      have hS3 := hid (hS'.out w6 g6 cap hown6 hg6 hat6)
      clear hown6 hg6 hat6 hlt6 hS' hO1
      try go_wp2
      go_roundw
      case rel => exact ⟨j + 1, some ⟨g6, 0, none⟩, cap, by omega, by go_num, rfl, hS3⟩
      case measure => simp [intOf]; omega
    · obtain rfl : j = a := by omega
      have hji : ¬ (j : Int) + 1 ≤ (j : Int) := by omega
      go_wp2
      go_ret
      exact ⟨ao', c', rfl, hS.out⟩
theorem rreached_any (hown : w.ownsRow B 3 1 (.slice ao L.length c) L.length (L.map (Value.int .i64))) (hB : B ≤ w.heap.size) (hL : L.length ≤ 100000) (k : Nat) (hk : k < 65536) (x : Int) (h0 : 0 ≤ x) (h1 : x ≤ 18446744073709551615) (hg : goodB x = true) :
    Calls Tryz.prog 44 #[.slice ao L.length c, .int .i64 (k : Int), .int .u64 x] w fun e w' => ∃ ao' c', e = .returned (.slice ao' (L ++ rchL k x).length c') ∧ Grw w w' B (.slice ao L.length c) (.slice ao' (L ++ rchL k x).length c') (L ++ rchL k x) := by
  unfold rchL
  by_cases hp : x % 8 = 0 ∨ x % 8 = 3 ∨ x % 8 = 5
  · rw [if_pos hp]
    have hv := val_pos h0 h1 (val_place hg hp)
    have h9 := rreached_one hown hB hL k x (valOf x) h0 h1 hv.symm hp
    have e : (L ++ [valOf x]).length = L.length + 1 := by simp
    rw [e]
    exact h9
  · rw [if_neg hp]
    by_cases h4 : x % 8 = 4
    · rw [if_pos h4]
      have hf := fun_val x hg h4
      have hv := val_pos h0 h1 hf.1
      have h9 := rreached_fun hown hB hL k hk x (valOf x) (valOf x % 16).toNat h0 h1 hv.symm hf.1 (by omega) h4
      have e : (L ++ (List.range (valOf x % 16).toNat).map (fun i => ((k + 1 + i : Nat) : Int))).length = L.length + (valOf x % 16).toNat := by simp
      rw [e]
      exact h9
    · rw [if_neg h4, List.append_nil]
      exact (rreached_none (B := B) hown k x h0 h1 ⟨fun h => hp (Or.inl h), fun h => hp (Or.inr (Or.inl h)), fun h => hp (Or.inr (Or.inr h)), h4⟩).mono fun e w' ⟨e1, e2⟩ => ⟨_, _, e1, e2⟩
end
end Go.Proofs.YtgmldkojldlekaaGreatDoor

namespace Go.Proofs.YtgmldkojldlekaaGreatDoor
set_option maxRecDepth 100000
open Go.RowKit
theorem run_app_none {P : Program} {w : World} (base : Nat) (t ty e : TypeId) (i : TypeInfo) (size : Nat) (ht : P.underlying t = some (.slice e)) (hi : P.info? e = some i)
    (v : Value) (n : Nat) (xs : List Value) (hown : w.ownsRow base e size v n xs) (ao : Option Addr) (c : Nat) :
    (Builtin.append_ #[t, t] ty #[v, .slice ao 0 c]).run P w = .ok v w := by
  cases ao with
  | none =>
    rcases hown.2 with ⟨rfl, rfl⟩ | ⟨g, cap, cur, rfl, _, _, hnc, _⟩
    · simp [Builtin.append_, run_underlying ht, sizeOf, typeInfo, hi, Builtin.lenOf, Builtin.firstCells]
    · simp [Builtin.append_, run_underlying ht, sizeOf, typeInfo, hi, Builtin.lenOf, Builtin.firstCells, hnc, storeCells]
  | some a =>
    rcases hown.2 with ⟨rfl, rfl⟩ | ⟨g, cap, cur, rfl, _, _, hnc, _⟩
    · simp [Builtin.append_, run_underlying ht, sizeOf, typeInfo, hi, Builtin.lenOf, Builtin.firstCells, loadCells, loadCellsFrom]
    · simp [Builtin.append_, run_underlying ht, sizeOf, typeInfo, hi, Builtin.lenOf, Builtin.firstCells, hnc, storeCells, loadCells, loadCellsFrom]
theorem qslice_nil_in {P : Program} (w : World) (d : Nat) (t : TypeId) {e : TypeId} (h : P.underlying t = some (.slice e)) (ao : Option Addr) (n c : Nat) : (Op.equalIn (d + 1) t (.slice ao n c) (.slice none 0 0)).run P w = .ok ao.isNone w := by
  cases ao <;> simp [Op.equalIn, run_underlying h]
theorem svC_one (tr : List Te) : ∀ u ∈ svC tr, u.oneCell' = true := fun u hu => by
  obtain ⟨e, _, he⟩ := List.mem_flatMap.1 hu
  rcases List.mem_cons.1 he with rfl | he
  · rfl
  · have : u = .int .u64 e.2 := by simpa using he
    rw [this]
    rfl
theorem mkC_one (pt : List Pe) : ∀ u ∈ mkC pt, u.oneCell' = true := fun u hu => by
  obtain ⟨e, _, he⟩ := List.mem_flatMap.1 hu
  rcases List.mem_cons.1 he with rfl | he
  · rfl
  · rcases List.mem_cons.1 he with rfl | he
    · rfl
    · have : u = .slice none 0 0 := by simpa using he
      rw [this]
      rfl
theorem svslice_nil (w : World) (ao : Option Addr) (n c : Nat) : (binOp .eql 39 (.slice ao n c) (.slice none 0 0)).run Tryz.prog w = .ok (.bool ao.isNone) w := by
  simp only [binOp]
  simp [show Op.equal 39 (.slice ao n c) (.slice none 0 0) = Op.equalIn (9999 + 1) 39 (.slice ao n c) (.slice none 0 0) from rfl, qslice_nil_in w 9999 39 Tryz.underlying39]
set_option maxHeartbeats 1000000 in
theorem svclone_any {w : World} {B n : Nat} {v : Value} {xs : List Value} (h : w.ownsRow B 90 2 v n xs) (h1 : ∀ u ∈ xs, u.oneCell' = true) (hl : n ≤ 100000) :
    Calls Tryz.prog 33 #[v] w fun e w' => ∃ ao c, e = .returned (.slice ao n c) ∧ w'.ownsRow w.heap.size 90 2 (.slice ao n c) n xs ∧ Below w.heap.size w w' := by
  obtain ⟨i0, hi, hz0, hz1, hz2⟩ := info_parts infoSv
  have h0 := h
  have hlen := h.1
  rcases h.2 with ⟨rfl, hn⟩ | ⟨g, cap, cur, rfl, _⟩
  · subst hn
    have hx : xs = [] := List.eq_nil_of_length_eq_zero (by omega)
    subst hx
    have hsn := fun w : World => svslice_nil w none 0 0
    clear h h0 h1 hlen
    go_enter Tryz.func33, Tryz.ntmps33
    go_wp2
    go_ret
    exact ⟨_, _, rfl, World.ownsRow_nil _ _ _ _, Below.refl _ _⟩
  · have hown : (w.alloc (.cells #[] 90)).ownsRow w.heap.size 90 2 (.slice (some ⟨w.heap.size, 0, none⟩) 0 0) 0 [] := ⟨rfl, Or.inr ⟨w.heap.size, 0, #[], rfl, Nat.le_refl _, heap_alloc_new w _, Nat.le_refl _, Nat.zero_le _, rfl, rfl⟩⟩
    have hsn := fun w : World => svslice_nil w (some ⟨g, 0, none⟩) n cap
    by_cases hn : n = 0
    · subst hn
      have hx : xs = [] := List.eq_nil_of_length_eq_zero (by omega)
      subst hx
      have hr := fun ty => run_app_none (P := Tryz.prog) w.heap.size 39 ty 90 i0 2 Tryz.underlying39 hi _ 0 [] hown (some ⟨g, 0, none⟩) cap
      clear h h0 h1 hlen
      go_enter Tryz.func33, Tryz.ntmps33
      go_wp2_with (at_builtin; refine Lib.wpList_append_run _ rfl _ _ _ _ rfl _ _ rfl rfl _ _ (hr _) ?_)
      go_ret
      exact ⟨_, _, rfl, hown, below_alloc w _⟩
    · have hnews : ∀ j u, xs[j]? = some u → (w.alloc (.cells #[] 90)).cell? ((⟨g, 0, none⟩ : Addr).add j) = some u := fun j u hj => by
        exact ((h0.alloc (.cells #[] 90)).cells (g := g) rfl) j u hj
      have hpos : 0 < n := by omega
      clear h h0 hn
      go_enter Tryz.func33, Tryz.ntmps33
      go_wp2_with (at_builtin; refine wpList_append_lies _ rfl _ _ 39 rfl w.heap.size 90 i0 (.agg #[.int .i64 0, .int .u64 0]) 2 16 Tryz.underlying39 hi hz0 hz1 hz2 rfl (by decide) (.slice (some ⟨w.heap.size, 0, none⟩) 0 0) 0 [] rfl hown ⟨g, 0, none⟩ n cap xs rfl hlen hnews h1 hpos (by unfold maxLen; omega) (by omega) (by simp) _ rfl ?_; intro g' cap' w1 hown' hgrow _ _)
      go_ret
      refine ⟨some ⟨g', 0, none⟩, cap', by simp, by simpa using hown', ?_⟩
      exact (below_alloc w _).grown hgrow (by simp) (fun k e => by
        have e' : k = w.heap.size := by simpa [Value.ownBlock] using e.symm
        omega)
theorem mkslice_nil (w : World) (ao : Option Addr) (n c : Nat) : (binOp .eql 40 (.slice ao n c) (.slice none 0 0)).run Tryz.prog w = .ok (.bool ao.isNone) w := by
  simp only [binOp]
  simp [show Op.equal 40 (.slice ao n c) (.slice none 0 0) = Op.equalIn (9999 + 1) 40 (.slice ao n c) (.slice none 0 0) from rfl, qslice_nil_in w 9999 40 Tryz.underlying40]
set_option maxHeartbeats 1000000 in
theorem mkclone_any {w : World} {B n : Nat} {v : Value} {xs : List Value} (h : w.ownsRow B 85 3 v n xs) (h1 : ∀ u ∈ xs, u.oneCell' = true) (hl : n ≤ 100000) :
    Calls Tryz.prog 34 #[v] w fun e w' => ∃ ao c, e = .returned (.slice ao n c) ∧ w'.ownsRow w.heap.size 85 3 (.slice ao n c) n xs ∧ Below w.heap.size w w' := by
  obtain ⟨i0, hi, hz0, hz1, hz2⟩ := info_parts infoMk
  have h0 := h
  have hlen := h.1
  rcases h.2 with ⟨rfl, hn⟩ | ⟨g, cap, cur, rfl, _⟩
  · subst hn
    have hx : xs = [] := List.eq_nil_of_length_eq_zero (by omega)
    subst hx
    have hsn := fun w : World => mkslice_nil w none 0 0
    clear h h0 h1 hlen
    go_enter Tryz.func34, Tryz.ntmps34
    go_wp2
    go_ret
    exact ⟨_, _, rfl, World.ownsRow_nil _ _ _ _, Below.refl _ _⟩
  · have hown : (w.alloc (.cells #[] 85)).ownsRow w.heap.size 85 3 (.slice (some ⟨w.heap.size, 0, none⟩) 0 0) 0 [] := ⟨rfl, Or.inr ⟨w.heap.size, 0, #[], rfl, Nat.le_refl _, heap_alloc_new w _, Nat.le_refl _, Nat.zero_le _, rfl, rfl⟩⟩
    have hsn := fun w : World => mkslice_nil w (some ⟨g, 0, none⟩) n cap
    by_cases hn : n = 0
    · subst hn
      have hx : xs = [] := List.eq_nil_of_length_eq_zero (by omega)
      subst hx
      have hr := fun ty => run_app_none (P := Tryz.prog) w.heap.size 40 ty 85 i0 3 Tryz.underlying40 hi _ 0 [] hown (some ⟨g, 0, none⟩) cap
      clear h h0 h1 hlen
      go_enter Tryz.func34, Tryz.ntmps34
      go_wp2_with (at_builtin; refine Lib.wpList_append_run _ rfl _ _ _ _ rfl _ _ rfl rfl _ _ (hr _) ?_)
      go_ret
      exact ⟨_, _, rfl, hown, below_alloc w _⟩
    · have hnews : ∀ j u, xs[j]? = some u → (w.alloc (.cells #[] 85)).cell? ((⟨g, 0, none⟩ : Addr).add j) = some u := fun j u hj => by
        exact ((h0.alloc (.cells #[] 85)).cells (g := g) rfl) j u hj
      have hpos : 0 < n := by omega
      clear h h0 hn
      go_enter Tryz.func34, Tryz.ntmps34
      go_wp2_with (at_builtin; refine wpList_append_lies _ rfl _ _ 40 rfl w.heap.size 85 i0 (.agg #[.int .i64 0, .int .i64 0, .slice none 0 0]) 3 40 Tryz.underlying40 hi hz0 hz1 hz2 rfl (by decide) (.slice (some ⟨w.heap.size, 0, none⟩) 0 0) 0 [] rfl hown ⟨g, 0, none⟩ n cap xs rfl hlen hnews h1 hpos (by unfold maxLen; omega) (by omega) (by simp) _ rfl ?_; intro g' cap' w1 hown' hgrow _ _)
      go_ret
      refine ⟨some ⟨g', 0, none⟩, cap', by simp, by simpa using hown', ?_⟩
      exact (below_alloc w _).grown hgrow (by simp) (fun k e => by
        have e' : k = w.heap.size := by simpa [Value.ownBlock] using e.symm
        omega)
end Go.Proofs.YtgmldkojldlekaaGreatDoor

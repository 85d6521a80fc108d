/- ArenaOwns: what Words answers is new memory each time, spare room too; what is handed to Fill is neither changed nor kept, whatever the words. No conditions. -/
import Derived.Test.YtmpnniabgkhkjaaArLaw2
namespace Go.Proofs.Ytmpnniabgkhkjaa
open Go.ChangeShapes Go.WideShapes Go.ChangeAt Go.RowKit

theorem Rd.src2 {w : World} {ao : Option Addr} {n c : Nat} {l : List Int} (h : Rd w (.slice ao n c) l) : (ao = none → n = 0 ∧ c = 0) ∧ ∀ ad, ao = some ad → ∀ j u, (l.map (Value.int .u64))[j]? = some u → w.cell? (ad.add j) = some u := by
  rcases h.src with ⟨e, rfl⟩ | ⟨a, c', e, hc⟩
  · simp at e
    obtain ⟨rfl, rfl, rfl⟩ := e
    exact ⟨fun _ => ⟨rfl, rfl⟩, fun ad e => by cases e⟩
  · simp at e
    obtain ⟨rfl, rfl, rfl⟩ := e
    exact ⟨fun e => (by cases e), fun ad e => by cases e; exact hc⟩
theorem own_keep {w w' : World} {B n : Nat} {e : TypeId} {u : Value} {xs : List Value} {ks : List Nat} (h : w.ownsRow B e 1 u n xs) (hm : Mod ks w w') (hk : ∀ k ∈ ks, u.ownBlock ≠ some k) : w'.ownsRow B e 1 u n xs := by
  refine ⟨h.1, ?_⟩
  rcases h.2 with h0 | ⟨g, cap, cur, rfl, hb, hg, rest⟩
  · exact Or.inl h0
  · refine Or.inr ⟨g, cap, cur, rfl, hb, ?_, rest⟩
    rw [hm.block g (lt_of_block hg) (fun hx => hk g hx rfl)]
    exact hg
/-- One cell more of a row is written over. -/
theorem fill_step {w : World} {B g n cap k : Nat} {zs : List Value} {c : Value} (hO : w.ownsRow B 38 1 (.slice (some ⟨g, 0, none⟩) n cap) n zs) (hA : ∀ j, j < k → zs[j]? = some c) (hk : k < n) :
    (w.setCell ⟨g, k, none⟩ c).ownsRow B 38 1 (.slice (some ⟨g, 0, none⟩) n cap) n (zs.set k c) ∧ ∀ j, j < k + 1 → (zs.set k c)[j]? = some c := by
  refine ⟨(hO.stored k c).1, fun j hj => ?_⟩
  have hl : k < zs.length := by rw [hO.1]; omega
  by_cases e : k = j
  · subst e
    simp [hl]
  · rw [List.getElem?_set_ne e]
    exact hA j (by omega)
theorem all_rep {zs : List Value} {c : Value} {n : Nat} (hl : zs.length = n * 1) (hA : ∀ j, j < n → zs[j]? = some c) : zs = List.replicate n c := by
  apply List.ext_getElem?
  intro j
  by_cases hj : j < n
  · rw [hA j hj]; simp [hj]
  · rw [List.getElem?_eq_none (by omega), List.getElem?_eq_none (by simp; omega)]
theorem own_cell {w : World} {B g n cap k : Nat} {zs : List Value} (hO : w.ownsRow B 38 1 (.slice (some ⟨g, 0, none⟩) n cap) n zs) (hk : k < n) : ∃ y, w.cell? ⟨g, k, none⟩ = some y := by
  have hl : k < zs.length := by rw [hO.1]; omega
  exact ⟨_, (hO.cellAt k (by omega)).trans (List.getElem?_eq_getElem hl)⟩
theorem mine_of {w : World} {B g : Nat} {l : List Int} (h : w.ownsRow B 38 1 (.slice (some ⟨g, 0, none⟩) (l.length + 2) (l.length + 2)) (l.length + 2) (l.map (Value.int .u64) ++ [.int .u64 77, .int .u64 78])) :
    w.ownsRow B 38 1 (.slice (some ⟨g, 0, none⟩) l.length (l.length + 2)) l.length (l.map (Value.int .u64)) ∧ w.cell? ⟨g, l.length, none⟩ = some (.int .u64 77) := by
  have h1 := own_take h (k := l.length) (by omega)
  refine ⟨by simpa using h1, ?_⟩
  rw [h.cellAt l.length (by omega)]
  simp
theorem own_other {gv hv : Value} (hd : ∀ r, gv.ownBlock = some r → hv.ownBlock ≠ some r) : hv.ownBlock = none ∨ hv.ownBlock ≠ gv.ownBlock := by
  cases e : hv.ownBlock with
  | none => exact Or.inl rfl
  | some r => exact Or.inr (fun h => hd r h.symm e)
theorem own_apart {gv gv' hv : Value} {N M : Nat} (hat : gv'.ownBlock = gv.ownBlock ∨ gv'.ownBlock = some N) (hd : ∀ r, gv.ownBlock = some r → hv.ownBlock ≠ some r) (hl : ∀ r, hv.ownBlock = some r → r < M) (hN : M ≤ N) : ∀ r, gv'.ownBlock = some r → hv.ownBlock ≠ some r := fun r e e2 => by
  rcases hat with h | h
  · exact hd r (h ▸ e) e2
  · have := hl r e2
    rw [h] at e
    simp at e
    omega
theorem own_weak0 {w : World} {B B' : Nat} {e : TypeId} {n : Nat} {xs : List Value} {u : Value} (h : w.ownsRow B' e 1 u n xs) (hB : B ≤ B') : w.ownsRow B e 1 u n xs := by
  refine ⟨h.1, ?_⟩
  rcases h.2 with h0 | ⟨g, cap, cur, he, hb, rest⟩
  · exact Or.inl h0
  · exact Or.inr ⟨g, cap, cur, he, by omega, rest⟩
theorem rep_snoc (n : Nat) (c : Value) : List.replicate n c ++ [c] = List.replicate (n + 1) c := by simp [List.replicate_succ']
set_option maxRecDepth 100000 in
set_option maxHeartbeats 800000 in
theorem owns_long {W : World} (v : Value) (l : List Int) (hrd : Rd W v l) (hlen : 600 < l.length) :
    Calls Try.prog 7 #[v] W fun e w' => e = .returned (.bool true) ∧ Below W.heap.size W w' := by
  have hlow := hrd.low
  obtain ⟨i0, hi, hz0, hz1, hz2⟩ := info_parts Try.infoU
  obtain ⟨ao, cv, rfl⟩ := hrd.shape
  have hB0 : W.heap.size ≤ W.heap.size := Nat.le_refl _
  have hlen' : (600 : Int) < (l.length : Int) := by omega
  go_enter Try.func7, Try.ntmps7
  go_wp2_with (first
    | (go_at_call 9; refine (lives_any _).mono ?_; rintro e w1 ⟨rfl, hb⟩)
    | (go_at_call 10; refine (new_ok 700 w1 W.heap.size hb.size (by omega) (by omega)).mono ?_; rintro e w2 ⟨rfl, hA, hN⟩; replace hb := below_next hb hB0 hN; have hpl := hA.lt; have hW2 := hb.size; clear hN))
  go_ret
  exact ⟨rfl, hb⟩
set_option maxRecDepth 100000 in
set_option maxHeartbeats 3200000 in
theorem owns_bad {W : World} (v : Value) (l : List Int) (hrd : Rd W v l) (hlen : l.length ≤ 600) (i : Nat) (hbad : FirstBad l l.length i) :
    Calls Try.prog 7 #[v] W fun e w' => e = .returned (.bool true) ∧ Below W.heap.size W w' := by
  have hlow := hrd.low
  obtain ⟨i0, hi, hz0, hz1, hz2⟩ := info_parts Try.infoU
  obtain ⟨ao, cv, rfl⟩ := hrd.shape
  have hB0 : W.heap.size ≤ W.heap.size := Nat.le_refl _
  have hl1 : decide ((600 : Int) < (l.length : Int)) = false := by simp; omega
  have hzc : (0 : Int) ≤ (l.length : Int) := by omega
  have HM : Hid (FirstBad l l.length i) := hbad
  clear hbad
  go_enter Try.func7, Try.ntmps7
  go_wp2_with (first
    | (go_at_call 9; refine (lives_any _).mono ?_; rintro e w1 ⟨rfl, hb⟩)
    | (go_at_call 10; refine (new_ok 700 w1 W.heap.size hb.size (by omega) (by omega)).mono ?_; rintro e w2 ⟨rfl, hA, hN⟩; replace hb := below_next hb hB0 hN; have hpl := hA.lt; have hW2 := hb.size; clear hN)
    | (at_make; refine wpList_make_own _ rfl _ _ 29 rfl W.heap.size 38 i0 (.int .u64 0) 1 Try.underlying29 hi hz0 hz1 .i64 .i64 _ (l.length + 2) rfl rfl (by omega) (by rw [hz2]; omega) (by unfold maxLen; omega) hb.size ?_; intro w3 ho3 hg3; have hN : Below w2.heap.size w2 w3 := (Below.refl _ _).grown hg3 (Nat.le_refl _) (fun _ e => by cases e); replace hb := below_next hb hB0 hN; replace hA := hA.below hN; have hrd3 := hrd.old hb hlow; have hz3 := (ho3.lt w2.heap.size rfl).2; clear hN hg3)
    | (at_builtin; refine wpList_append_fits_any w3 rfl (.tmp 36) (.tmp 37) 29 rfl W.heap.size 38 i0 1 Try.underlying29 hi hz1 w2.heap.size 0 (l.length + 2) [] rfl ho3 ao l.length cv (l.map (Value.int .u64)) rfl (by simp) hrd3.src2.1 hrd3.src2.2 (words_one l) (by omega) ?_; intro w4 ho4 hg4; (try simp only [Nat.zero_add, List.nil_append] at ho4); have hM : Mod [w2.heap.size] w3 w4 := (Mod.refl _ _).grown hg4 (fun k e => Or.inl (by simp at e; simp [e])); replace hA := hA.keep hM (fun k hk hf => by simp at hk; subst hk; simp [foot, Value.ownBlock] at hf; omega); replace hb := hb.trans (hM.below (fun k hk => by simp at hk; subst hk; omega) hb.size); have hz4 := (ho4.lt w2.heap.size rfl).2; clear hM hg4 ho3 hrd3)
    | (at_builtin; refine wpList_append_fits (w4.alloc _) rfl (.tmp 38) (.tmp 39) 29 rfl W.heap.size 38 i0 1 Try.underlying29 hi hz1 w2.heap.size l.length (l.length + 2) (l.map (Value.int .u64)) (by simp [Act.eval]) (ho4.alloc _) ⟨w4.heap.size, 0, none⟩ 2 2 [.int .u64 77, .int .u64 78] rfl rfl (World.news_of_block (cs := #[.int .u64 77, .int .u64 78]) (t := 38) (fr := (0, 0)) (heap_alloc_new w4 _)) (by simp [Value.oneCell']) (Nat.le_refl _) ?_; intro w5 ho5 hg5; have hM : Mod [w2.heap.size] w4 w5 := ((Mod.refl _ _).alloc _).grown hg5 (fun k e => Or.inl (by simp at e; simp [e])); replace hA := hA.keep hM (fun k hk hf => by simp at hk; subst hk; simp [foot, Value.ownBlock] at hf; omega); replace hb := hb.trans (hM.below (fun k hk => by simp at hk; subst hk; omega) hb.size); obtain ⟨hmine, h77⟩ := mine_of ho5; have hrm := Rd.ofOwn hmine hrd.1; have hz5 := (hmine.lt w2.heap.size rfl).2; clear hM hg5 ho4 ho5)
    | (go_at_call 21; refine (fill_bad (w := w5) hA hrm (by omega) HM.out).mono ?_; rintro e w6 ⟨rfl, hw⟩; replace hb := below_next hb hB0 (below_eq hw); clear hw))
  go_ret
  exact ⟨rfl, hb⟩
set_option maxRecDepth 100000 in
set_option maxHeartbeats 12800000 in
theorem owns_ok {W : World} (v : Value) (l : List Int) (hrd : Rd W v l) (hlen : l.length ≤ 600) (hall : AllMay l l.length) :
    Calls Try.prog 7 #[v] W fun e w' => e = .returned (.bool true) ∧ Below W.heap.size W w' := by
  have hlow := hrd.low
  obtain ⟨i0, hi, hz0, hz1, hz2⟩ := info_parts Try.infoU
  obtain ⟨ao, cv, rfl⟩ := hrd.shape
  have hB0 : W.heap.size ≤ W.heap.size := Nat.le_refl _
  have hl1 : decide ((600 : Int) < (l.length : Int)) = false := by simp; omega
  have hzc : (0 : Int) ≤ (l.length : Int) := by omega
  have HM : Hid (AllMay l l.length) := hall
  clear hall
  go_enter Try.func7, Try.ntmps7
  go_wp2_with (first
    | (go_at_call 9; refine (lives_any _).mono ?_; rintro e w1 ⟨rfl, hb⟩)
    | (go_at_call 10; refine (new_ok 700 w1 W.heap.size hb.size (by omega) (by omega)).mono ?_; rintro e w2 ⟨rfl, hA, hN⟩; replace hb := below_next hb hB0 hN; have hpl := hA.lt; have hW2 := hb.size; clear hN)
    | (at_make; refine wpList_make_own _ rfl _ _ 29 rfl W.heap.size 38 i0 (.int .u64 0) 1 Try.underlying29 hi hz0 hz1 .i64 .i64 _ (l.length + 2) rfl rfl (by omega) (by rw [hz2]; omega) (by unfold maxLen; omega) hb.size ?_; intro w3 ho3 hg3; have hN : Below w2.heap.size w2 w3 := (Below.refl _ _).grown hg3 (Nat.le_refl _) (fun _ e => by cases e); replace hb := below_next hb hB0 hN; replace hA := hA.below hN; have hrd3 := hrd.old hb hlow; have hz3 := (ho3.lt w2.heap.size rfl).2; clear hN hg3)
    | (at_builtin; refine wpList_append_fits_any w3 rfl (.tmp 36) (.tmp 37) 29 rfl W.heap.size 38 i0 1 Try.underlying29 hi hz1 w2.heap.size 0 (l.length + 2) [] rfl ho3 ao l.length cv (l.map (Value.int .u64)) rfl (by simp) hrd3.src2.1 hrd3.src2.2 (words_one l) (by omega) ?_; intro w4 ho4 hg4; (try simp only [Nat.zero_add, List.nil_append] at ho4); have hM : Mod [w2.heap.size] w3 w4 := (Mod.refl _ _).grown hg4 (fun k e => Or.inl (by simp at e; simp [e])); replace hA := hA.keep hM (fun k hk hf => by simp at hk; subst hk; simp [foot, Value.ownBlock] at hf; omega); replace hb := hb.trans (hM.below (fun k hk => by simp at hk; subst hk; omega) hb.size); have hz4 := (ho4.lt w2.heap.size rfl).2; clear hM hg4 ho3 hrd3)
    | (at_builtin; refine wpList_append_fits (w4.alloc _) rfl (.tmp 38) (.tmp 39) 29 rfl W.heap.size 38 i0 1 Try.underlying29 hi hz1 w2.heap.size l.length (l.length + 2) (l.map (Value.int .u64)) (by simp [Act.eval]) (ho4.alloc _) ⟨w4.heap.size, 0, none⟩ 2 2 [.int .u64 77, .int .u64 78] rfl rfl (World.news_of_block (cs := #[.int .u64 77, .int .u64 78]) (t := 38) (fr := (0, 0)) (heap_alloc_new w4 _)) (by simp [Value.oneCell']) (Nat.le_refl _) ?_; intro w5 ho5 hg5; have hM : Mod [w2.heap.size] w4 w5 := ((Mod.refl _ _).alloc _).grown hg5 (fun k e => Or.inl (by simp at e; simp [e])); replace hA := hA.keep hM (fun k hk hf => by simp at hk; subst hk; simp [foot, Value.ownBlock] at hf; omega); replace hb := hb.trans (hM.below (fun k hk => by simp at hk; subst hk; omega) hb.size); obtain ⟨hmine, h77⟩ := mine_of ho5; have hrm := Rd.ofOwn hmine hrd.1; have hz5 := (hmine.lt w2.heap.size rfl).2; clear hM hg5 ho4 ho5)
    | (go_at_call 21; refine (fill_ok (w := w5) hA hb.size hrm (by omega) HM.out).mono ?_; rintro e w6 ⟨va, rfl, hU⟩; have hgf : w2.heap.size ∉ foot w1.heap.size va := (fun hx => by (rcases mem_foot.1 hx with e | e; omega; rcases hU.nx _ e with e2 | e2; simp [Value.ownBlock] at e2; omega)); have hf0 : w2.heap.size ∉ foot w1.heap.size (.slice none 0 0) := (fun hx => by (simp [foot, Value.ownBlock] at hx; omega)); replace hmine := own_keep hmine hU.mod (fun k hk e => by simp [Value.ownBlock] at e; subst e; exact hf0 hk); replace h77 := (hU.mod.cell hz5 hf0).trans h77; replace hb := hb.trans (hU.below hA hb.size); replace hA := hU.ar; have hrm6 := Rd.ofOwn hmine hrd.1; clear hU hrm)
    | (go_at_call 17; refine (same_b (w := w6) hrm6 (hrd.old hb hlow) (by omega)).mono ?_; rintro e w7 ⟨rfl, hN⟩; have hz6 := (hmine.lt w2.heap.size rfl).2; replace h77 := (hN.cell (p := ⟨w2.heap.size, l.length, none⟩) hz6).trans h77; replace hmine := own_keep hmine (Mod.ofBelow (ks := []) hN) (fun k hk => by cases hk); replace hb := below_next hb hB0 hN; replace hA := hA.below hN; clear hN hrm6))
  go_loopw [66] (fun i wr => ∃ k : Nat, k ≤ l.length ∧ i = .int .i64 k ∧ Mod [w2.heap.size] w7 wr ∧ ∃ zs, wr.ownsRow W.heap.size 38 1 (.slice (some ⟨w2.heap.size, 0, none⟩) l.length (l.length + 2)) l.length zs) (fun i _ => l.length - (intOf i).toNat)
  case atStart => exact ⟨0, Nat.zero_le _, rfl, Mod.refl _ _, _, hmine⟩
  case round =>
    obtain ⟨k, hk, rfl, hM, zs, hO⟩ := hrel
    by_cases hlt : k < l.length
    · have hlt' : (k : Int) < (l.length : Int) := by omega
      obtain ⟨y, hcell⟩ := own_cell hO hlt
      have hfr := hO.frozenAt k
      have HST : Hid ((wr.setCell ⟨w2.heap.size, k, none⟩ (.int .u64 7)).ownsRow W.heap.size 38 1 (.slice (some ⟨w2.heap.size, 0, none⟩) l.length (l.length + 2)) l.length (zs.set k (.int .u64 7))) := (hO.stored k (.int .u64 7)).1
      clear hO
      go_wp2
      go_roundw
      case rel => exact ⟨k + 1, by omega, by go_num, hM.setCell (p := ⟨w2.heap.size, k, none⟩) (Or.inl (by simp)) _, _, HST.out⟩
      case measure => simp [intOf]; omega
    have hlt' : ¬ (k : Int) < (l.length : Int) := by omega
    have hA8 := hA.keep hM (fun k hk => by simp at hk; subst hk; exact hgf)
    have hb8 := hb.trans (hM.below (fun k hk => by simp at hk; omega) hb.size)
    clear hO hM hA hb hmine h77
    have hrd8 := hrd.old hb8 hlow
    go_wp2_with (first
      | (go_at_call 18; refine (words_any (w := wr) hA8).mono ?_; rintro e w9 ⟨rfl, hox, hN⟩; have hbr : Below wr.heap.size wr w9 := hN; have hx := Rd.ofOwn hox hrd.1; have hzx := (hox.lt wr.heap.size rfl).2; clear hN)
      | (go_at_call 18; refine (words_any (w := w9) (hA8.below hbr)).mono ?_; rintro e w10 ⟨rfl, hoy, hN⟩; replace hox := own_keep hox (Mod.ofBelow (ks := []) hN) (fun k hk => by cases hk); replace hoy := own_weak0 hoy (Nat.le_of_lt hzx); have hy := Rd.ofOwn hoy hrd.1; replace hx := hx.below hN; replace hbr := below_next hbr (Nat.le_refl _) hN; have hzy := (hoy.lt w9.heap.size rfl).2; clear hN)
      | (go_at_call 17; refine (same_b (w := w10) hx (hrd8.below hbr) (by omega)).mono ?_; rintro e w11 ⟨rfl, hN⟩; replace hox := own_keep hox (Mod.ofBelow (ks := []) hN) (fun k hk => by cases hk); replace hoy := own_keep hoy (Mod.ofBelow (ks := []) hN) (fun k hk => by cases hk); replace hy := hy.below hN; replace hbr := below_next hbr (Nat.le_refl _) hN; clear hN hx)
      | (go_at_call 17; refine (same_b (w := w11) hy (hrd8.below hbr) (by omega)).mono ?_; rintro e w12 ⟨rfl, hN⟩; replace hox := own_keep hox (Mod.ofBelow (ks := []) hN) (fun k hk => by cases hk); replace hoy := own_keep hoy (Mod.ofBelow (ks := []) hN) (fun k hk => by cases hk); replace hbr := below_next hbr (Nat.le_refl _) hN; clear hN hy))
    obtain ⟨w8, hw8⟩ : ∃ w8, w8 = wr := ⟨_, rfl⟩
    subst hw8
    have hgne : w8.heap.size ≠ w9.heap.size := Nat.ne_of_lt hzx
    go_wp2
    go_loopw [89] (fun i wr => ∃ k : Nat, k ≤ l.length ∧ i = .int .i64 k ∧ Below w8.heap.size w8 wr ∧ (∃ zs, wr.ownsRow w8.heap.size 38 1 (.slice (some ⟨w8.heap.size, 0, none⟩) l.length l.length) l.length zs ∧ ∀ j, j < k → zs[j]? = some (.int .u64 15)) ∧ wr.ownsRow w8.heap.size 38 1 (.slice (some ⟨w9.heap.size, 0, none⟩) l.length l.length) l.length (l.map (Value.int .u64))) (fun i _ => l.length - (intOf i).toNat)
    case atStart => exact ⟨0, Nat.zero_le _, rfl, hbr, ⟨_, hox, fun j hj => absurd hj (by omega)⟩, hoy⟩
    case round =>
      obtain ⟨k, hk, rfl, hbx, ⟨zs, hO, hZ⟩, hY⟩ := hrel
      by_cases hlt : k < l.length
      · have hlt' : (k : Int) < (l.length : Int) := by omega
        obtain ⟨y, hcell⟩ := own_cell hO hlt
        have hfr := hO.frozenAt k
        have HST := fill_step hO hZ hlt
        have HS1 : Hid _ := HST.1
        have HS2 : Hid _ := HST.2
        have HY : Hid _ := ownsRow_setCell_other (a := ⟨w8.heap.size, k, none⟩) hY (by simpa [Value.ownBlock] using hgne.symm) (.int .u64 15)
        clear hO hY hZ HST
        go_wp2
        go_roundw
        case rel => exact ⟨k + 1, by omega, by go_num, hbx.setCell (p := ⟨w8.heap.size, k, none⟩) (by first | exact Nat.le_refl _ | exact Nat.le_of_lt hzx) _, ⟨_, HS1.out, HS2.out⟩, HY.out⟩
        case measure => simp [intOf]; omega
      have hlt' : ¬ (k : Int) < (l.length : Int) := by omega
      obtain rfl : k = l.length := by omega
      rw [all_rep hO.1 hZ] at hO
      clear hox hoy hbr hlt hZ
      obtain ⟨w13, hw13⟩ : ∃ w13, w13 = wr := ⟨_, rfl⟩
      subst hw13
      go_wp2
      go_loopw [98] (fun i wr => ∃ k : Nat, k ≤ l.length ∧ i = .int .i64 k ∧ Below w8.heap.size w8 wr ∧ (∃ zs, wr.ownsRow w8.heap.size 38 1 (.slice (some ⟨w9.heap.size, 0, none⟩) l.length l.length) l.length zs ∧ ∀ j, j < k → zs[j]? = some (.int .u64 23)) ∧ wr.ownsRow w8.heap.size 38 1 (.slice (some ⟨w8.heap.size, 0, none⟩) l.length l.length) l.length (List.replicate l.length (.int .u64 15))) (fun i _ => l.length - (intOf i).toNat)
      case atStart => exact ⟨0, Nat.zero_le _, rfl, hbx, ⟨_, hY, fun j hj => absurd hj (by omega)⟩, hO⟩
      case round =>
        obtain ⟨k, hk, rfl, hbx, ⟨zs, hO, hZ⟩, hY⟩ := hrel
        by_cases hlt : k < l.length
        · have hlt' : (k : Int) < (l.length : Int) := by omega
          obtain ⟨y, hcell⟩ := own_cell hO hlt
          have hfr := hO.frozenAt k
          have HST := fill_step hO hZ hlt
          have HS1 : Hid _ := HST.1
          have HS2 : Hid _ := HST.2
          have HY : Hid _ := ownsRow_setCell_other (a := ⟨w9.heap.size, k, none⟩) hY (by simpa [Value.ownBlock] using hgne) (.int .u64 23)
          clear hO hY hZ HST
          go_wp2
          go_roundw
          case rel => exact ⟨k + 1, by omega, by go_num, hbx.setCell (p := ⟨w9.heap.size, k, none⟩) (by first | exact Nat.le_refl _ | exact Nat.le_of_lt hzx) _, ⟨_, HS1.out, HS2.out⟩, HY.out⟩
          case measure => simp [intOf]; omega
        have hlt' : ¬ (k : Int) < (l.length : Int) := by omega
        obtain rfl : k = l.length := by omega
        rw [all_rep hO.1 hZ] at hO
        obtain ⟨w14, hw14⟩ : ∃ w14, w14 = wr := ⟨_, rfl⟩
        subst hw14
        go_wp2
        go_loopw [11, 12, 13] (fun gv hv i wr => ∃ k : Nat, k ≤ 20 ∧ i = .int .i64 k ∧ Below w8.heap.size w8 wr ∧ wr.ownsRow w8.heap.size 38 1 gv (l.length + k) (List.replicate (l.length + k) (.int .u64 15)) ∧ wr.ownsRow w8.heap.size 38 1 hv (l.length + k) (List.replicate (l.length + k) (.int .u64 23)) ∧ ∀ r, gv.ownBlock = some r → hv.ownBlock ≠ some r) (fun _ _ i _ => 20 - (intOf i).toNat)
        case atStart => exact ⟨0, Nat.zero_le _, rfl, hbx, hY, hO, fun r e e2 => hgne (by simp [Value.ownBlock] at e e2; omega)⟩
        case round =>
          clear hbx hY hO hZ
          obtain ⟨k, hk, rfl, hbx, hG, hH, hd⟩ := hrel
          have hbs := hbx.size
          by_cases hlt : k < 20
          · have hlt' : (k : Int) < 20 := by omega
            go_wp2_with (first
              | (at_builtin; refine wpList_append_own_at (wr.alloc _) rfl (.tmp 111) (.tmp 112) 29 rfl w8.heap.size 38 i0 (.int .u64 0) 1 8 Try.underlying29 hi hz0 hz1 hz2 rfl (by decide) _ (l.length + k) (List.replicate (l.length + k) (.int .u64 15)) rfl (hG.alloc _) ⟨wr.heap.size, 0, none⟩ 1 1 [(.int .u64 15)] rfl rfl (World.news_of_block (cs := #[(.int .u64 15)]) (t := 38) (fr := (0, 0)) (heap_alloc_new wr _)) (by simp [Value.oneCell']) (by unfold maxLen; omega) (by omega) (by simp; omega) ?_; intro gv' wa hG' hgg _ hat; have hH' := (hH.alloc _).kept hgg (own_other hd); have hd' := own_apart hat hd (fun r e => (hH.lt r e).2) (by simp); have hba := (hbx.alloc hbs _).grown hgg (by simp; omega) (fun r e => (hG.lt r e).1); have hbas := hba.size; rw [rep_snoc] at hG'; clear hgg hat)
              | (at_builtin; refine wpList_append_own_at (wa.alloc _) rfl (.tmp 114) (.tmp 115) 29 rfl w8.heap.size 38 i0 (.int .u64 0) 1 8 Try.underlying29 hi hz0 hz1 hz2 rfl (by decide) _ (l.length + k) (List.replicate (l.length + k) (.int .u64 23)) rfl (hH'.alloc _) ⟨wa.heap.size, 0, none⟩ 1 1 [(.int .u64 23)] rfl rfl (World.news_of_block (cs := #[(.int .u64 23)]) (t := 38) (fr := (0, 0)) (heap_alloc_new wa _)) (by simp [Value.oneCell']) (by unfold maxLen; omega) (by omega) (by simp; omega) ?_; intro hv' wb hH'' hgg _ hat; have hG'' := (hG'.alloc _).kept hgg (own_other (fun r e e2 => hd' r e2 e)); have hd'' := own_apart hat (fun r e e2 => hd' r e2 e) (fun r e => (hG'.lt r e).2) (by simp); have hbb := (hba.alloc hbas _).grown hgg (by simp; omega) (fun r e => (hH'.lt r e).1); rw [rep_snoc] at hH''; clear hgg hat))
            go_roundw
            case rel => exact ⟨k + 1, by omega, by go_num, hbb, hG'', hH'', fun r e e2 => hd'' r e2 e⟩
            case measure => simp [intOf]; omega
          have hlt' : ¬ (k : Int) < 20 := by omega
          obtain rfl : k = 20 := by omega
          obtain ⟨g1, cg, hg1, _⟩ := hG.form (by omega)
          obtain ⟨g2, ch, hg2, _⟩ := hH.form (by omega)
          subst hg1
          subst hg2
          have hc1 : ∀ j, j < l.length + 20 → wr.cell? ⟨g1, j, none⟩ = some (.int .u64 15) := fun j hj => by rw [hG.cellAt j (by omega)]; simp [hj]
          have hc2 : ∀ j, j < l.length + 20 → wr.cell? ⟨g2, j, none⟩ = some (.int .u64 23) := fun j hj => by rw [hH.cellAt j (by omega)]; simp [hj]
          have HC2 : Hid (∀ j, j < l.length + 20 → wr.cell? ⟨g2, j, none⟩ = some (.int .u64 23)) := hc2
          have HC1 : Hid (∀ j, j < l.length + 20 → wr.cell? ⟨g1, j, none⟩ = some (.int .u64 15)) := hc1
          clear hc1 hc2 hG hH hd
          have hA9 := hA8.below hbx
          have hb9 := hb8.trans (hbx.mono hb8.size)
          have hrd9 := hrd8.below hbx
          go_wp2
          go_loop [119] (fun i => ∃ k : Nat, k ≤ l.length + 20 ∧ i = .int .i64 k) (fun i => l.length + 20 - (intOf i).toNat)
          case atStart => exact ⟨0, Nat.zero_le _, rfl⟩
          case round =>
            obtain ⟨k, hk, rfl⟩ := hrel
            by_cases hlt : k < l.length + 20
            · have hlt' : (k : Int) < ((l.length + 20 : Nat) : Int) := by omega
              have hcell := HC1.out k hlt
              go_wp2
              go_round
              case rel => exact ⟨k + 1, by omega, by go_num⟩
              case measure => simp [intOf]; omega
            have hlt' : ¬ (k : Int) < ((l.length + 20 : Nat) : Int) := by omega
            go_wp2
            go_loop [128] (fun i => ∃ k : Nat, k ≤ l.length + 20 ∧ i = .int .i64 k) (fun i => l.length + 20 - (intOf i).toNat)
            case atStart => exact ⟨0, Nat.zero_le _, rfl⟩
            case round =>
              obtain ⟨k, hk, rfl⟩ := hrel
              by_cases hlt : k < l.length + 20
              · have hlt' : (k : Int) < ((l.length + 20 : Nat) : Int) := by omega
                have hcell := HC2.out k hlt
                go_wp2
                go_round
                case rel => exact ⟨k + 1, by omega, by go_num⟩
                case measure => simp [intOf]; omega
              have hlt' : ¬ (k : Int) < ((l.length + 20 : Nat) : Int) := by omega
              go_wp2_with (first
                | (go_at_call 18; refine (words_any (w := wr) hA9).mono ?_; rintro e w20 ⟨rfl, ho20, hN⟩; have hx := Rd.ofOwn ho20 hrd.1; replace hb9 := below_next hb9 hB0 hN; replace hrd9 := hrd9.below hN; clear hN)
                | (go_at_call 17; refine (same_b (w := w20) hx hrd9 (by omega)).mono ?_; rintro e w21 ⟨rfl, hN⟩; replace hb9 := below_next hb9 hB0 hN; clear hN))
              go_ret
              exact ⟨rfl, hb9⟩
theorem arenaOwns_walk {W : World} (v : Value) (l : List Int) (hrd : Rd W v l) (_hz : l.length * 8 ≤ 140737488351232) :
    Calls Try.prog 7 #[v] W fun e w' => e = .returned (.bool true) ∧ Below W.heap.size W w' := by
  by_cases hlen : 600 < l.length
  · exact owns_long v l hrd hlen
  rcases may_or l l.length with hall | ⟨i, hbad⟩
  · exact owns_ok v l hrd (by omega) hall
  · exact owns_bad v l hrd (by omega) i hbad
end Go.Proofs.Ytmpnniabgkhkjaa

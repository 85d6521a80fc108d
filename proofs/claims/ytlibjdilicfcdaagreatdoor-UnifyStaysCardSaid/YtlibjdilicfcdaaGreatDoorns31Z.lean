/- What Bind and Merge write keeps words sound. -/
import Derived.Test.YtlibjdilicfcdaaGreatDoorns27Z
import Derived.Test.YtlibjdilicfcdaaGreatDoorns25Z
import Derived.Test.YtlibjdilicfcdaaGreatDoorns22Z
import Derived.Test.YtlibjdilicfcdaaGreatDoorns04Z
namespace Go.Proofs.YtlibjdilicfcdaaGreatDoor
set_option maxRecDepth 100000
open Go.RowKit
theorem trm_kinds {l : List Int} {V : Nat → Bool} {N : Nat} (h : Snd l V) (hn : NsB l N) (hl : l.length ≤ 65536) {k : Nat} (hk : k < l.length) : ((0 ≤ trmW l k ∧ trmW l k ≤ 18446744073709551615) ∧ goodB (trmW l k) = true) ∧
    ((trmW l k % 8 = 0 ∧ ∃ j : Nat, j < l.length ∧ valOf (trmW l k) = (j : Int) ∧ V j = true) ∨ (trmW l k % 8 = 3 ∧ ∃ j : Nat, j < l.length ∧ valOf (trmW l k) = (j : Int) ∧ tgN l j = 4) ∨ (trmW l k % 8 = 1 ∧ (valOf (trmW l k)).toNat < N) ∨ trmW l k % 8 = 2) := by
  obtain ⟨j, hj, e, e2⟩ := trm_ends h _ k hk (Nat.le_refl _)
  rw [e2]
  have hg := h.good j hj
  have hr := h.rng (wdN l j) (by unfold wdN; simp [List.getD, hj])
  unfold endW
  by_cases h4 : tgN l j = 4
  · rw [if_pos h4]
    obtain ⟨s1, s2, s3, s4⟩ := word_str (j := j) (by omega)
    refine ⟨⟨⟨s3, s4⟩, ?_⟩, Or.inr (Or.inl ⟨s1, j, hj, s2, h4⟩)⟩
    unfold goodB
    rw [s1, s2]
    exact fits_str (by omega)
  · rw [if_neg h4]
    have htc := tag_cases hg
    have ht : wdN l j % 8 = tgN l j := rfl
    have hne : ¬ (tgN l j = 3 ∨ tgN l j = 5) := fun h3 => by
      unfold nxN at e
      rw [if_neg (by omega), if_pos h3] at e
      cases e
    refine ⟨⟨hr, hg⟩, ?_⟩
    by_cases h0 : tgN l j = 0
    · have hself : vlN l j = j := by
        unfold nxN at e
        rw [if_pos h0] at e
        by_cases hs : vlN l j = j
        · exact hs
        · rw [if_neg hs] at e
          cases e
      have hv := val_place hg (Or.inl (ht ▸ h0))
      have hV := (h.ref j hj h0).2.1
      rw [hself] at hV
      unfold vlN at hself
      exact Or.inl ⟨ht ▸ h0, j, hj, by omega, hV⟩
    · by_cases h1 : tgN l j = 1
      · exact Or.inr (Or.inr (Or.inl ⟨ht ▸ h1, hn.atom j hj h1⟩))
      · exact Or.inr (Or.inr (Or.inr (by omega)))
theorem nsb_set {l : List Int} {N : Nat} (hn : NsB l N) {j : Nat} {x : Int} (hj : j < l.length) (h1 : x % 8 = 1 → (valOf x).toNat < N) (h4 : x % 8 ≠ 4) : NsB (l.set j x) N := by
  refine ⟨fun k hk ht => ?_, fun k hk ht => ?_⟩
  · rw [List.length_set] at hk
    by_cases e : k = j
    · subst e
      rw [(tg_new hj).1] at ht
      rw [(tg_new hj).2]
      exact h1 ht
    · rw [(tg_set hj e).1] at ht
      rw [(tg_set hj e).2]
      exact hn.atom k hk ht
  · rw [List.length_set] at hk
    by_cases e : k = j
    · subst e
      rw [(tg_new hj).1] at ht
      exact absurd ht h4
    · rw [(tg_set hj e).1] at ht
      rw [wd_set hj, if_neg e]
      exact hn.func k hk ht
theorem bind_sndn {l : List Int} {N : Nat} (h : SndN l N) (hl : l.length ≤ 65536) {a b : Nat} (ha : a < l.length) (hb : b < l.length) (hv : trmW l a % 8 = 0) (hle : trmW l b % 8 = 0 → valOf (trmW l b) ≤ valOf (trmW l a)) : (valOf (trmW l a)).toNat < l.length ∧ SndN (l.set (valOf (trmW l a)).toNat (trmW l b)) N := by
  obtain ⟨⟨V, hV⟩, hn⟩ := h
  obtain ⟨_, ka⟩ := trm_kinds hV hn hl ha
  obtain ⟨⟨rb, gb⟩, kb⟩ := trm_kinds hV hn hl hb
  obtain ⟨j, hj, vj, Vj⟩ : ∃ j : Nat, j < l.length ∧ valOf (trmW l a) = (j : Int) ∧ V j = true := by
    rcases ka with ⟨_, h⟩ | ⟨e, _⟩ | ⟨e, _⟩ | e
    · exact h
    · omega
    · omega
    · omega
  rw [vj, Int.toNat_natCast]
  rw [vj] at hle
  refine ⟨hj, ⟨V, snd_bind hV hj Vj rb gb (by rcases kb with ⟨e, _⟩ | ⟨e, _⟩ | ⟨e, _⟩ | e <;> omega) (fun e => ?_) (fun e => ?_)⟩, nsb_set hn hj (fun e => ?_) (by rcases kb with ⟨e, _⟩ | ⟨e, _⟩ | ⟨e, _⟩ | e <;> omega)⟩
  · rcases kb with ⟨_, i, hi, vi, Vi⟩ | ⟨e', _⟩ | ⟨e', _⟩ | e'
    · have := hle e
      rw [vi] at this
      rw [vi, Int.toNat_natCast]
      exact ⟨by omega, Vi⟩
    all_goals omega
  · rcases kb with ⟨e', _⟩ | ⟨_, i, hi, vi, ti⟩ | ⟨e', _⟩ | e'
    · omega
    · rw [vi, Int.toNat_natCast]
      exact ⟨hi, Or.inl ti⟩
    all_goals omega
  · rcases kb with ⟨e', _⟩ | ⟨e', _⟩ | ⟨_, h⟩ | e'
    · omega
    · omega
    · exact h
    · omega
theorem merge_sndn {l : List Int} {N : Nat} (h : SndN l N) (hl : l.length ≤ 65536) {i j : Nat} (hj : j < l.length) (hij : i < j) (ti : tgN l i = 4) (tj : tgN l j = 4) : SndN (l.set j (wordOf 5 (i : Int))) N := by
  obtain ⟨⟨V, hV⟩, hn⟩ := h
  have hf : fitsB 5 (i : Int) = true := by
    simp [fitsB]
    omega
  have ht : wordOf 5 (i : Int) % 8 = 5 := wordOf_tag 5 (i : Int) (by omega) (by omega)
  have hv : valOf (wordOf 5 (i : Int)) = (i : Int) := wordOf_val 5 (i : Int) hf
  have hg : goodB (wordOf 5 (i : Int)) = true := by
    unfold goodB
    rw [ht, hv]
    exact hf
  exact ⟨⟨V, snd_fwd hV hj (Or.inl tj) hij (Or.inl ti) (wordOf_bd 5 (i : Int)) hg ht hv⟩, nsb_set hn hj (by omega) (by omega)⟩
end Go.Proofs.YtlibjdilicfcdaaGreatDoor

namespace Go.Proofs.YtlibjdilicfcdaaGreatDoor
set_option maxRecDepth 100000
open Go.RowKit
theorem infoSv : (Tryz.prog.info? 149).map (fun i => (i.zero, i.size, i.bytes)) = some (some (.agg #[.int .i64 0, .int .u64 0]), 2, 16) := by kernel_rfl
theorem infoMk : (Tryz.prog.info? 145).map (fun i => (i.zero, i.size, i.bytes)) = some (some (.agg #[.int .i64 0, .int .i64 0, .slice none 0 0]), 3, 40) := by kernel_rfl
def svC (tr : List Te) : List Value := tr.flatMap fun e => [.int .i64 (e.1 : Int), .int .u64 e.2]
def mkC (pt : List Pe) : List Value := pt.flatMap fun p => [.int .i64 (p.1 : Int), .int .i64 (p.2 : Int), .slice none 0 0]
theorem svC_app (a b : List Te) : svC (a ++ b) = svC a ++ svC b := by simp [svC]
theorem mkC_app (a b : List Pe) : mkC (a ++ b) = mkC a ++ mkC b := by simp [mkC]
theorem mkC_at : ∀ (l : List Pe) (j : Nat), j < l.length → (mkC l)[j * 3]? = some (.int .i64 ((l.getD j (0, 0)).1 : Int)) ∧ (mkC l)[j * 3 + 1]? = some (.int .i64 ((l.getD j (0, 0)).2 : Int)) ∧ (mkC l)[j * 3 + 2]? = some (.slice none 0 0)
  | [], j, h => absurd h (Nat.not_lt_zero _)
  | p :: r, 0, _ => ⟨rfl, rfl, rfl⟩
  | p :: r, j + 1, h => by
    have := mkC_at r j (by simpa using h)
    rw [show (j + 1) * 3 = j * 3 + 1 + 1 + 1 by omega]
    have e : mkC (p :: r) = .int .i64 (p.1 : Int) :: .int .i64 (p.2 : Int) :: .slice none 0 0 :: mkC r := rfl
    rw [e]
    simpa [List.getD] using this
structure Hq (w : World) (B hb ab tb : Nat) (m : Int) (av : Value) (l : List Int) (tv : Value) (tq : Nat) (ns : List ByteArray) (trv : Value) (tr : List Te) (ptv : Value) (pt : List Pe) (n : Int) : Prop where
  hp : Hp w B hb ab tb m av l tv tq ns trv ptv n
  tr : w.ownsRow B 149 2 trv tr.length (svC tr)
  pt : w.ownsRow B 145 3 ptv pt.length (mkC pt)
def qfoot (hb ab : Nat) (av trv ptv : Value) : List Nat := hb :: (a_foot ab av ++ (trv.ownBlock.toList ++ ptv.ownBlock.toList))
theorem mem_qfoot {hb ab k : Nat} {av trv ptv : Value} : k ∈ qfoot hb ab av trv ptv ↔ k = hb ∨ k ∈ a_foot ab av ∨ trv.ownBlock = some k ∨ ptv.ownBlock = some k := by simp [qfoot]
theorem own_slq {w : World} {B z : Nat} {e : TypeId} {v : Value} {n : Nat} {xs : List Value} (h : w.ownsRow B e z v n xs) : ∃ ao c, v = .slice ao n c ∧ n ≤ c ∧ c ≤ maxLen ∧ (ao = none → n = 0 ∧ c = 0) ∧ (∀ a, ao = some a → a = ⟨a.block, 0, none⟩) := by
  rcases h.2 with ⟨rfl, h0⟩ | ⟨g, cap, cur, rfl, _, _, hc, hm, _⟩
  · exact ⟨none, 0, by rw [h0], by omega, by unfold maxLen; omega, (fun _ => ⟨h0, rfl⟩), (fun a e => by cases e)⟩
  · exact ⟨_, cap, rfl, hc, hm, (fun e => by cases e), (fun a e => by cases e; rfl)⟩
theorem own_cut {w : World} {B z : Nat} {e : TypeId} {ao : Option Addr} {c n k : Nat} {xs : List Value} (h : w.ownsRow B e z (.slice ao n c) n xs) (hk : k ≤ n) : w.ownsRow B e z (.slice ao k c) k (xs.take (k * z)) := by
  have h1 := h.1
  have hkz : k * z ≤ n * z := Nat.mul_le_mul_right z hk
  refine ⟨by rw [List.length_take]; omega, ?_⟩
  rcases h.2 with ⟨e0, h0⟩ | ⟨g, cap, cur, e0, hb, hg, hc, hm, hs, ht⟩
  · injection e0 with e1 e2 e3
    subst e1 e3
    have : k = 0 := by omega
    subst this
    exact Or.inl ⟨rfl, rfl⟩
  · injection e0 with e1 e2 e3
    subst e1 e3
    refine Or.inr ⟨g, c, cur, rfl, hb, hg, by omega, hm, hs, ?_⟩
    rw [← ht, List.take_take, Nat.min_eq_left hkz]
section
variable {w w' : World} {B hb ab tb : Nat} {m : Int} {av : Value} {l : List Int} {tv : Value} {tq : Nat} {ns : List ByteArray} {trv : Value} {tr : List Te} {ptv : Value} {pt : List Pe} {n : Int}
theorem Hq.below (h : Hq w B hb ab tb m av l tv tq ns trv tr ptv pt n) (hm : Below w.heap.size w w') : Hq w' B hb ab tb m av l tv tq ns trv tr ptv pt n :=
  ⟨h.hp.below hm, row_keep h.tr (fun k hk => hm.block k (h.tr.lt k hk).2), row_keep h.pt (fun k hk => hm.block k (h.pt.lt k hk).2)⟩
theorem Hq.aty (h : Hq w B hb ab tb m av l tv tq ns trv tr ptv pt n) {k : Nat} (hk : k ∈ a_foot ab av) : ∃ cs T, w.heap[k]? = some (.cells cs T (0, 0)) ∧ (T = 159 ∨ T = 123) := by
  rcases a_mem_foot.1 hk with rfl | hk
  · exact ⟨_, _, h.hp.ar.blk, Or.inl rfl⟩
  · obtain ⟨cur, hc, _⟩ := own_block_obj h.hp.ar.own hk
    exact ⟨cur, _, hc, Or.inr rfl⟩
theorem Hq.nty (h : Hq w B hb ab tb m av l tv tq ns trv tr ptv pt n) {k : Nat} (hk : k ∈ n_foot tb tv tq) : (∃ cs T, w.heap[k]? = some (.cells cs T (0, 0)) ∧ (T = 162 ∨ T = 9)) ∨ (∀ cs T x, w.heap[k]? ≠ some (.cells cs T x)) := by
  rcases n_mem_foot.1 hk with e | e | e
  · subst e
    exact Or.inl ⟨_, _, h.hp.tb.blk, Or.inl rfl⟩
  · subst e
    obtain ⟨D, ⟨es, clock, hq, _⟩, _⟩ := h.hp.tb.map
    refine Or.inr (fun cs T x hx => ?_)
    rw [hq] at hx
    simp at hx
  · obtain ⟨cur, hc, _⟩ := own_block_obj h.hp.tb.own e
    exact Or.inl ⟨cur, _, hc, Or.inr rfl⟩
theorem Hq.apart (h : Hq w B hb ab tb m av l tv tq ns trv tr ptv pt n) {k : Nat} (hk : trv.ownBlock = some k ∨ ptv.ownBlock = some k) : k ≠ hb ∧ k ∉ a_foot ab av ∧ k ∉ n_foot tb tv tq ∧ ¬ (trv.ownBlock = some k ∧ ptv.ownBlock = some k) := by
  have hT : ∃ cs T, w.heap[k]? = some (.cells cs T (0, 0)) ∧ (T = 149 ∨ T = 145) := by
    rcases hk with hk | hk
    · obtain ⟨cur, hc, _⟩ := own_block_obj h.tr hk
      exact ⟨cur, _, hc, Or.inl rfl⟩
    · obtain ⟨cur, hc, _⟩ := own_block_obj h.pt hk
      exact ⟨cur, _, hc, Or.inr rfl⟩
  obtain ⟨cs, T, hw, hTT⟩ := hT
  refine ⟨fun e => ?_, fun hf => ?_, fun hf => ?_, fun ⟨h1, h2⟩ => ?_⟩
  · subst e
    exact obj_ne hw h.hp.blk (by rcases hTT with rfl | rfl <;> decide) rfl
  · obtain ⟨cs', T', hw', hTT'⟩ := h.aty hf
    exact obj_ne hw hw' (by rcases hTT with rfl | rfl <;> rcases hTT' with rfl | rfl <;> decide) rfl
  · rcases h.nty hf with ⟨cs', T', hw', hTT'⟩ | hno
    · exact obj_ne hw hw' (by rcases hTT with rfl | rfl <;> rcases hTT' with rfl | rfl <;> decide) rfl
    · exact hno _ _ _ hw
  · obtain ⟨c1, e1, _⟩ := own_block_obj h.tr h1
    obtain ⟨c2, e2, _⟩ := own_block_obj h.pt h2
    exact obj_ne e1 e2 (by decide) rfl
theorem Hq.rows (h : Hq w B hb ab tb m av l tv tq ns trv tr ptv pt n) {ks : List Nat} (hm : a_Mod ks w w') (hk : ∀ k ∈ ks, ¬ (trv.ownBlock = some k ∨ ptv.ownBlock = some k)) : w'.ownsRow B 149 2 trv tr.length (svC tr) ∧ w'.ownsRow B 145 3 ptv pt.length (mkC pt) :=
  ⟨row_keep h.tr (fun k e => hm.block k (h.tr.lt k e).2 (fun hx => hk k hx (Or.inl e))), row_keep h.pt (fun k e => hm.block k (h.pt.lt k e).2 (fun hx => hk k hx (Or.inr e)))⟩
theorem Hq.words {av' : Value} {l' : List Int} (h : Hq w B hb ab tb m av l tv tq ns trv tr ptv pt n) (u : a_Upd 159 w w' B ab m av l' av') : Hq w' B hb ab tb m av' l' tv tq ns trv tr ptv pt n := by
  obtain ⟨r1, r2⟩ := h.rows u.mod (fun k hk hx => (h.apart hx).2.1 hk)
  exact ⟨h.hp.words u, r1, r2⟩
theorem Hq.own {o : Nat} {u : Value} (h : Hq w B hb ab tb m av l tv tq ns trv tr ptv pt n) : w.heap.size = (w.setCell ⟨hb, o, none⟩ u).heap.size ∧ Ar 159 (w.setCell ⟨hb, o, none⟩ u) B ab m av l ∧ Tb (w.setCell ⟨hb, o, none⟩ u) B tb tv tq ns ∧ (w.setCell ⟨hb, o, none⟩ u).ownsRow B 149 2 trv tr.length (svC tr) ∧ (w.setCell ⟨hb, o, none⟩ u).ownsRow B 145 3 ptv pt.length (mkC pt) := by
  obtain ⟨h1, h2⟩ := h.hp.self
  have hm : a_Mod [hb] w (w.setCell ⟨hb, o, none⟩ u) := (a_Mod.refl [hb] w).setCell (p := ⟨hb, o, none⟩) (Or.inl (by simp)) _
  obtain ⟨r1, r2⟩ := h.rows hm (fun k hk hx => (h.apart hx).1 (by simpa using hk))
  refine ⟨by simp, h.hp.ar.keep hm (fun k hk => by
    have e : k = hb := by simpa using hk
    rw [e]; exact h1), h.hp.tb.keep (mod_an hm) (fun k hk => by
    have e : k = hb := by simpa using hk
    rw [e]; exact h2), r1, r2⟩
theorem Hq.wrote (h : Hq w B hb ab tb m av l tv tq ns trv tr ptv pt n) (n' : Int) : Hq (w.setCell ⟨hb, 4, none⟩ (.int .i64 n')) B hb ab tb m av l tv tq ns trv tr ptv pt n' := by
  obtain ⟨_, ha, ht, r1, r2⟩ := h.own (o := 4) (u := .int .i64 n')
  exact ⟨⟨heap_setCell_same w hb 4 _ _ (.int .i64 n') h.hp.blk, h.hp.base, ha, ht⟩, r1, r2⟩
theorem Hq.grown {v : Value} (h : Hq w B hb ab tb m av l tv tq ns trv tr ptv pt n) (hv : v = trv ∨ v = ptv) (hg : w.grownBy w' v.ownBlock) : Hp w' B hb ab tb m av l tv tq ns trv ptv n ∧ a_Mod v.ownBlock.toList w w' ∧ (∀ k, k < w.heap.size → v.ownBlock ≠ some k → w'.heap[k]? = w.heap[k]?) := by
  have hb' : ∀ k, k < w.heap.size → v.ownBlock ≠ some k → w'.heap[k]? = w.heap[k]? := fun k hk hn => hg.block k hk (fun e => hn e.symm)
  have hne : ∀ k, v.ownBlock = some k → k ≠ hb ∧ k ∉ a_foot ab av ∧ k ∉ n_foot tb tv tq := fun k hk => by
    have := h.apart (k := k) (by rcases hv with rfl | rfl; exact Or.inl hk; exact Or.inr hk)
    exact ⟨this.1, this.2.1, this.2.2.1⟩
  have hm : a_Mod v.ownBlock.toList w w' := ⟨hg.os, hg.tape, hg.output, hg.size, fun k hk hn => hb' k hk (fun e => hn (by simp [e]))⟩
  refine ⟨⟨(hb' hb (lt_of_block h.hp.blk) (fun e => (hne hb e).1 rfl)).trans h.hp.blk, h.hp.base, h.hp.ar.keep hm (fun k hk => (hne k (by simpa using hk)).2.1), h.hp.tb.keep (mod_an hm) (fun k hk => (hne k (by simpa using hk)).2.2)⟩, hm, hb'⟩
end
end Go.Proofs.YtlibjdilicfcdaaGreatDoor

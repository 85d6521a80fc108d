/- Which places the document's own search keeps, as plain data. -/
import Derived.Test.YtgmldkojldlekaaGreatDoorSR18Z
import Derived.Test.YtgmldkojldlekaaGreatDoorSR27Z
import Derived.Test.YtgmldkojldlekaaGreatDoorSR23Z
import Derived.Test.YtgmldkojldlekaaGreatDoorSR02Z
import Derived.Test.YtgmldkojldlekaaGreatDoorSR26Z
import Derived.Test.YtgmldkojldlekaaGreatDoorSR28Z
namespace Go.Proofs.YtgmldkojldlekaaGreatDoor
set_option maxRecDepth 100000
open Go.RowKit
def inR (N : Nat) (y : Int) : Prop := 0 ≤ y ∧ y < (N : Int)
def trR (k : Nat) (tr : List Te) : List Int := tr.flatMap (fun e => if e.1 = k then rchL k e.2 else [])
theorem trR_snoc {k : Nat} {tr : List Te} {j : Nat} (h : j < tr.length) : trR k (tr.take (j + 1)) = trR k (tr.take j) ++ (if (tr.getD j (0, 0)).1 = k then rchL k (tr.getD j (0, 0)).2 else []) := by
  rw [List.take_succ_eq_append_getElem h]
  unfold trR
  rw [List.flatMap_append]
  simp [List.getD, h]
def rchA (l : List Int) (tr : List Te) (x : Int) : List Int := rchN l x ++ trR x.toNat tr
inductive RcA (l : List Int) (tr : List Te) (cs : List Int) : Int → Prop
  | root {x : Int} (h : x ∈ cs) (hr : inR l.length x) : RcA l tr cs x
  | step {x y : Int} (h : RcA l tr cs x) (hy : y ∈ rchA l tr x) (hr : inR l.length y) : RcA l tr cs y
noncomputable def putK (N : Nat) (s : List Int × List Int) (y : Int) : List Int × List Int := @ite _ (inR N y ∧ y ∉ s.1) (Classical.propDecidable _) (s.1 ++ [y], s.2 ++ [y]) s
noncomputable def fldK (N : Nat) (ys : List Int) (s : List Int × List Int) : List Int × List Int := ys.foldl (putK N) s
theorem putK_yes {N : Nat} {s : List Int × List Int} {y : Int} (h : inR N y ∧ y ∉ s.1) : putK N s y = (s.1 ++ [y], s.2 ++ [y]) := by
  unfold putK
  exact if_pos h
theorem putK_no {N : Nat} {s : List Int × List Int} {y : Int} (h : ¬ (inR N y ∧ y ∉ s.1)) : putK N s y = s := by
  unfold putK
  exact if_neg h
theorem fldK_snoc (N : Nat) (ys : List Int) (y : Int) (s : List Int × List Int) : fldK N (ys ++ [y]) s = putK N (fldK N ys s) y := by
  unfold fldK
  rw [List.foldl_append]
  rfl
structure Fld (N : Nat) (ys K T K' T' r : List Int) : Prop where
  k : K' = K ++ r
  t : T' = T ++ r
  ok : Ok N K'
  inr : ∀ x ∈ r, x ∈ ys ∧ inR N x
  all : ∀ y ∈ ys, inR N y → y ∈ K'
theorem fld_ok {N : Nat} : ∀ (ys K T : List Int), Ok N K → ∃ r, Fld N ys K T (fldK N ys (K, T)).1 (fldK N ys (K, T)).2 r
  | [], K, T, h => ⟨[], by simp [fldK], by simp [fldK], h, by simp, by simp⟩
  | y :: ys, K, T, h => by
    have e : fldK N (y :: ys) (K, T) = fldK N ys (putK N (K, T) y) := rfl
    rw [e]
    by_cases hy : inR N y ∧ y ∉ K
    · rw [putK_yes hy]
      obtain ⟨r, hr⟩ := fld_ok ys (K ++ [y]) (T ++ [y]) (ok_snoc h hy.2 hy.1.1 hy.1.2)
      refine ⟨y :: r, by rw [hr.k]; simp, by rw [hr.t]; simp, hr.ok, fun x hx => ?_, fun x hx hi => ?_⟩
      · rcases List.mem_cons.1 hx with rfl | hx
        · exact ⟨by simp, hy.1⟩
        · exact ⟨by simp [(hr.inr x hx).1], (hr.inr x hx).2⟩
      · rcases List.mem_cons.1 hx with rfl | hx
        · rw [hr.k]; simp
        · exact hr.all x hx hi
    · rw [putK_no hy]
      obtain ⟨r, hr⟩ := fld_ok ys K T h
      refine ⟨r, hr.k, hr.t, hr.ok, fun x hx => ⟨by simp [(hr.inr x hx).1], (hr.inr x hx).2⟩, fun x hx hi => ?_⟩
      rcases List.mem_cons.1 hx with rfl | hx
      · have : x ∈ K := Classical.byContradiction fun hn => hy ⟨hi, hn⟩
        rw [hr.k]; simp [this]
      · exact hr.all x hx hi
structure KpI (l : List Int) (tr : List Te) (cs K T : List Int) : Prop where
  ok : Ok l.length K
  sub : ∀ x ∈ T, x ∈ K
  way : ∀ x ∈ K, RcA l tr cs x
  root : ∀ x ∈ cs, inR l.length x → x ∈ K
  cls : ∀ x ∈ K, x ∉ T → ∀ y ∈ rchA l tr x, inR l.length y → y ∈ K
section
variable {l : List Int} {tr : List Te} {cs K T : List Int}
theorem KpI.start (l : List Int) (tr : List Te) (cs : List Int) : KpI l tr cs (fldK l.length cs ([], [])).1 (fldK l.length cs ([], [])).2 := by
  obtain ⟨r, h⟩ := fld_ok (N := l.length) cs [] [] (ok_nil _)
  have e1 : (fldK l.length cs ([], [])).1 = r := by rw [h.k]; rfl
  have e2 : (fldK l.length cs ([], [])).2 = r := by rw [h.t]; rfl
  refine ⟨h.ok, fun x hx => by rw [e1]; rw [e2] at hx; exact hx, fun x hx => ?_, h.all, fun x hx hn => ?_⟩
  · rw [e1] at hx
    exact .root (h.inr x hx).1 (h.inr x hx).2
  · rw [e1] at hx
    rw [e2] at hn
    exact absurd hx hn
theorem KpI.step {p : Int} (h : KpI l tr cs K (T ++ [p])) : KpI l tr cs (fldK l.length (rchA l tr p) (K, T)).1 (fldK l.length (rchA l tr p) (K, T)).2 := by
  obtain ⟨r, hr⟩ := fld_ok (rchA l tr p) K T h.ok
  have hp : p ∈ K := h.sub p (by simp)
  have hin : ∀ x ∈ K, x ∈ (fldK l.length (rchA l tr p) (K, T)).1 := fun x hx => by rw [hr.k]; simp [hx]
  refine ⟨hr.ok, fun x hx => ?_, fun x hx => ?_, fun x hx hi => hin x (h.root x hx hi), fun x hx hn y hy hi => ?_⟩
  · rw [hr.t] at hx
    rcases List.mem_append.1 hx with hx | hx
    · exact hin x (h.sub x (by simp [hx]))
    · rw [hr.k]; simp [hx]
  · rw [hr.k] at hx
    rcases List.mem_append.1 hx with hx | hx
    · exact h.way x hx
    · exact .step (h.way p hp) (hr.inr x hx).1 (hr.inr x hx).2
  · rw [hr.t] at hn
    rw [hr.k] at hx
    rcases List.mem_append.1 hx with hx | hx
    · by_cases hxp : x = p
      · subst hxp
        exact hr.all y hy hi
      · exact hin y (h.cls x hx (fun hm => by
          rcases List.mem_append.1 hm with hm | hm
          · exact hn (by simp [hm])
          · exact hxp (by simpa using hm)) y hy hi)
    · exact absurd (by simp [hx]) hn
theorem KpI.less {p : Int} (h : KpI l tr cs K (T ++ [p])) : 2 * (l.length - (fldK l.length (rchA l tr p) (K, T)).1.length) + (fldK l.length (rchA l tr p) (K, T)).2.length < 2 * (l.length - K.length) + (T ++ [p]).length := by
  obtain ⟨r, hr⟩ := fld_ok (rchA l tr p) K T h.ok
  have h1 := hr.ok.le
  rw [hr.t, hr.k] at *
  simp at *
  omega
theorem KpI.fin (h : KpI l tr cs K []) : ∀ x, x ∈ K ↔ RcA l tr cs x := fun x => ⟨h.way x, fun hx => by
  induction hx with
  | root h0 hr => exact h.root _ h0 hr
  | step _ hy hr ih => exact h.cls _ ih (by simp) _ hy hr⟩
end
theorem rca_rcb {l cs : List Int} {V : Nat → Bool} (hs : Snd l V) (hc : ∀ x ∈ cs, inR l.length x) (x : Int) : RcA l [] cs x ↔ RcB l cs x := by
  have e : ∀ x, rchA l [] x = rchN l x := fun x => by simp [rchA, trR]
  have hr : ∀ x, RcB l cs x → inR l.length x := fun x h => by
    induction h with
    | root h => exact hc _ h
    | step _ hy ih => exact rch_rng hs ih.1 ih.2 _ hy
  constructor
  · intro h
    induction h with
    | root h _ => exact .root h
    | step _ hy _ ih => rw [e] at hy; exact .step ih hy
  · intro h
    induction h with
    | root h => exact .root h (hc _ h)
    | step h hy ih => exact .step ih (by rw [e]; exact hy) (hr _ (.step h hy))
theorem same_len {A B : List Int} (ha : A.Nodup) (hb : B.Nodup) (h : ∀ x, x ∈ A ↔ x ∈ B) : A.length = B.length := (List.perm_ext_iff_of_nodup ha hb).2 h |>.length_eq
end Go.Proofs.YtgmldkojldlekaaGreatDoor

namespace Go.Proofs.YtgmldkojldlekaaGreatDoor
set_option maxRecDepth 100000
open Go.RowKit
theorem infoSv : (Tryz.prog.info? 90).map (fun i => (i.zero, i.size, i.bytes)) = some (some (.agg #[.int .i64 0, .int .u64 0]), 2, 16) := by kernel_rfl
theorem infoMk : (Tryz.prog.info? 85).map (fun i => (i.zero, i.size, i.bytes)) = some (some (.agg #[.int .i64 0, .int .i64 0, .slice none 0 0]), 3, 40) := by kernel_rfl
def svC (tr : List Te) : List Value := tr.flatMap fun e => [.int .i64 (e.1 : Int), .int .u64 e.2]
def mkC (pt : List Pe) : List Value := pt.flatMap fun p => [.int .i64 (p.1 : Int), .int .i64 (p.2 : Int), .slice none 0 0]
theorem svC_app (a b : List Te) : svC (a ++ b) = svC a ++ svC b := by simp [svC]
theorem mkC_app (a b : List Pe) : mkC (a ++ b) = mkC a ++ mkC b := by simp [mkC]
theorem svC_take : ∀ (l : List Te) (n : Nat), (svC l).take (n * 2) = svC (l.take n)
  | [], n => by simp [svC]
  | p :: r, 0 => by simp [svC]
  | p :: r, n + 1 => by
    show (_ :: _ :: svC r).take ((n + 1) * 2) = _ :: _ :: svC (r.take n)
    rw [show (n + 1) * 2 = n * 2 + 1 + 1 by omega, List.take_succ_cons, List.take_succ_cons, svC_take r n]
theorem mkC_take : ∀ (l : List Pe) (n : Nat), (mkC l).take (n * 3) = mkC (l.take n)
  | [], n => by simp [mkC]
  | p :: r, 0 => by simp [mkC]
  | p :: r, n + 1 => by
    show (_ :: _ :: _ :: mkC r).take ((n + 1) * 3) = _ :: _ :: _ :: mkC (r.take n)
    rw [show (n + 1) * 3 = n * 3 + 1 + 1 + 1 by omega, List.take_succ_cons, List.take_succ_cons, List.take_succ_cons, mkC_take r n]
theorem svC_at : ∀ (l : List Te) (j : Nat), j < l.length → (svC l)[j * 2]? = some (.int .i64 ((l.getD j (0, 0)).1 : Int)) ∧ (svC l)[j * 2 + 1]? = some (.int .u64 (l.getD j (0, 0)).2)
  | [], j, h => absurd h (Nat.not_lt_zero _)
  | p :: r, 0, _ => ⟨rfl, rfl⟩
  | p :: r, j + 1, h => by
    have := svC_at r j (by simpa using h)
    rw [show (j + 1) * 2 = j * 2 + 1 + 1 by omega]
    have e : svC (p :: r) = .int .i64 (p.1 : Int) :: .int .u64 p.2 :: svC r := rfl
    rw [e]
    simpa [List.getD] using this
theorem mkC_at : ∀ (l : List Pe) (j : Nat), j < l.length → (mkC l)[j * 3]? = some (.int .i64 ((l.getD j (0, 0)).1 : Int)) ∧ (mkC l)[j * 3 + 1]? = some (.int .i64 ((l.getD j (0, 0)).2 : Int)) ∧ (mkC l)[j * 3 + 2]? = some (.slice none 0 0)
  | [], j, h => absurd h (Nat.not_lt_zero _)
  | p :: r, 0, _ => ⟨rfl, rfl, rfl⟩
  | p :: r, j + 1, h => by
    have := mkC_at r j (by simpa using h)
    rw [show (j + 1) * 3 = j * 3 + 1 + 1 + 1 by omega]
    have e : mkC (p :: r) = .int .i64 (p.1 : Int) :: .int .i64 (p.2 : Int) :: .slice none 0 0 :: mkC r := rfl
    rw [e]
    simpa [List.getD] using this
structure Hq (w : World) (B hb ab tb : Nat) (m : Int) (av : Value) (l : List Int) (tv : Value) (tq : Nat) (ns : List ByteArray) (trv : Value) (tr : List Te) (ptv : Value) (pt : List Pe) (n : Int) : Prop where
  hp : Hp w B hb ab tb m av l tv tq ns trv ptv n
  tr : w.ownsRow B 90 2 trv tr.length (svC tr)
  pt : w.ownsRow B 85 3 ptv pt.length (mkC pt)
def qfoot (hb ab : Nat) (av trv ptv : Value) : List Nat := hb :: (a_foot ab av ++ (trv.ownBlock.toList ++ ptv.ownBlock.toList))
theorem mem_qfoot {hb ab k : Nat} {av trv ptv : Value} : k ∈ qfoot hb ab av trv ptv ↔ k = hb ∨ k ∈ a_foot ab av ∨ trv.ownBlock = some k ∨ ptv.ownBlock = some k := by simp [qfoot]
theorem own_slq {w : World} {B z : Nat} {e : TypeId} {v : Value} {n : Nat} {xs : List Value} (h : w.ownsRow B e z v n xs) : ∃ ao c, v = .slice ao n c ∧ n ≤ c ∧ c ≤ maxLen ∧ (ao = none → n = 0 ∧ c = 0) ∧ (∀ a, ao = some a → a = ⟨a.block, 0, none⟩) := by
  rcases h.2 with ⟨rfl, h0⟩ | ⟨g, cap, cur, rfl, _, _, hc, hm, _⟩
  · exact ⟨none, 0, by rw [h0], by omega, by unfold maxLen; omega, (fun _ => ⟨h0, rfl⟩), (fun a e => by cases e)⟩
  · exact ⟨_, cap, rfl, hc, hm, (fun e => by cases e), (fun a e => by cases e; rfl)⟩
theorem own_cut {w : World} {B z : Nat} {e : TypeId} {ao : Option Addr} {c n k : Nat} {xs : List Value} (h : w.ownsRow B e z (.slice ao n c) n xs) (hk : k ≤ n) : w.ownsRow B e z (.slice ao k c) k (xs.take (k * z)) := by
  have h1 := h.1
  have hkz : k * z ≤ n * z := Nat.mul_le_mul_right z hk
  refine ⟨by rw [List.length_take]; omega, ?_⟩
  rcases h.2 with ⟨e0, h0⟩ | ⟨g, cap, cur, e0, hb, hg, hc, hm, hs, ht⟩
  · injection e0 with e1 e2 e3
    subst e1 e3
    have : k = 0 := by omega
    subst this
    exact Or.inl ⟨rfl, rfl⟩
  · injection e0 with e1 e2 e3
    subst e1 e3
    refine Or.inr ⟨g, c, cur, rfl, hb, hg, by omega, hm, hs, ?_⟩
    rw [← ht, List.take_take, Nat.min_eq_left hkz]
section
variable {w w' : World} {B hb ab tb : Nat} {m : Int} {av : Value} {l : List Int} {tv : Value} {tq : Nat} {ns : List ByteArray} {trv : Value} {tr : List Te} {ptv : Value} {pt : List Pe} {n : Int}
theorem Hq.below (h : Hq w B hb ab tb m av l tv tq ns trv tr ptv pt n) (hm : Below w.heap.size w w') : Hq w' B hb ab tb m av l tv tq ns trv tr ptv pt n :=
  ⟨h.hp.below hm, row_keep h.tr (fun k hk => hm.block k (h.tr.lt k hk).2), row_keep h.pt (fun k hk => hm.block k (h.pt.lt k hk).2)⟩
theorem Hq.aty (h : Hq w B hb ab tb m av l tv tq ns trv tr ptv pt n) {k : Nat} (hk : k ∈ a_foot ab av) : ∃ cs T, w.heap[k]? = some (.cells cs T (0, 0)) ∧ (T = 126 ∨ T = 88) := by
  rcases a_mem_foot.1 hk with rfl | hk
  · exact ⟨_, _, h.hp.ar.blk, Or.inl rfl⟩
  · obtain ⟨cur, hc, _⟩ := own_block_obj h.hp.ar.own hk
    exact ⟨cur, _, hc, Or.inr rfl⟩
theorem Hq.nty (h : Hq w B hb ab tb m av l tv tq ns trv tr ptv pt n) {k : Nat} (hk : k ∈ n_foot tb tv tq) : (∃ cs T, w.heap[k]? = some (.cells cs T (0, 0)) ∧ (T = 129 ∨ T = 9)) ∨ (∀ cs T x, w.heap[k]? ≠ some (.cells cs T x)) := by
  rcases n_mem_foot.1 hk with e | e | e
  · subst e
    exact Or.inl ⟨_, _, h.hp.tb.blk, Or.inl rfl⟩
  · subst e
    obtain ⟨D, ⟨es, clock, hq, _⟩, _⟩ := h.hp.tb.map
    refine Or.inr (fun cs T x hx => ?_)
    rw [hq] at hx
    simp at hx
  · obtain ⟨cur, hc, _⟩ := own_block_obj h.hp.tb.own e
    exact Or.inl ⟨cur, _, hc, Or.inr rfl⟩
theorem Hq.apart (h : Hq w B hb ab tb m av l tv tq ns trv tr ptv pt n) {k : Nat} (hk : trv.ownBlock = some k ∨ ptv.ownBlock = some k) : k ≠ hb ∧ k ∉ a_foot ab av ∧ k ∉ n_foot tb tv tq ∧ ¬ (trv.ownBlock = some k ∧ ptv.ownBlock = some k) := by
  have hT : ∃ cs T, w.heap[k]? = some (.cells cs T (0, 0)) ∧ (T = 90 ∨ T = 85) := by
    rcases hk with hk | hk
    · obtain ⟨cur, hc, _⟩ := own_block_obj h.tr hk
      exact ⟨cur, _, hc, Or.inl rfl⟩
    · obtain ⟨cur, hc, _⟩ := own_block_obj h.pt hk
      exact ⟨cur, _, hc, Or.inr rfl⟩
  obtain ⟨cs, T, hw, hTT⟩ := hT
  refine ⟨fun e => ?_, fun hf => ?_, fun hf => ?_, fun ⟨h1, h2⟩ => ?_⟩
  · subst e
    exact obj_ne hw h.hp.blk (by rcases hTT with rfl | rfl <;> decide) rfl
  · obtain ⟨cs', T', hw', hTT'⟩ := h.aty hf
    exact obj_ne hw hw' (by rcases hTT with rfl | rfl <;> rcases hTT' with rfl | rfl <;> decide) rfl
  · rcases h.nty hf with ⟨cs', T', hw', hTT'⟩ | hno
    · exact obj_ne hw hw' (by rcases hTT with rfl | rfl <;> rcases hTT' with rfl | rfl <;> decide) rfl
    · exact hno _ _ _ hw
  · obtain ⟨c1, e1, _⟩ := own_block_obj h.tr h1
    obtain ⟨c2, e2, _⟩ := own_block_obj h.pt h2
    exact obj_ne e1 e2 (by decide) rfl
theorem Hq.rows (h : Hq w B hb ab tb m av l tv tq ns trv tr ptv pt n) {ks : List Nat} (hm : a_Mod ks w w') (hk : ∀ k ∈ ks, ¬ (trv.ownBlock = some k ∨ ptv.ownBlock = some k)) : w'.ownsRow B 90 2 trv tr.length (svC tr) ∧ w'.ownsRow B 85 3 ptv pt.length (mkC pt) :=
  ⟨row_keep h.tr (fun k e => hm.block k (h.tr.lt k e).2 (fun hx => hk k hx (Or.inl e))), row_keep h.pt (fun k e => hm.block k (h.pt.lt k e).2 (fun hx => hk k hx (Or.inr e)))⟩
theorem Hq.words {av' : Value} {l' : List Int} (h : Hq w B hb ab tb m av l tv tq ns trv tr ptv pt n) (u : a_Upd 126 w w' B ab m av l' av') : Hq w' B hb ab tb m av' l' tv tq ns trv tr ptv pt n := by
  obtain ⟨r1, r2⟩ := h.rows u.mod (fun k hk hx => (h.apart hx).2.1 hk)
  exact ⟨h.hp.words u, r1, r2⟩
theorem Hq.own {o : Nat} {u : Value} (h : Hq w B hb ab tb m av l tv tq ns trv tr ptv pt n) : w.heap.size = (w.setCell ⟨hb, o, none⟩ u).heap.size ∧ Ar 126 (w.setCell ⟨hb, o, none⟩ u) B ab m av l ∧ Tb (w.setCell ⟨hb, o, none⟩ u) B tb tv tq ns ∧ (w.setCell ⟨hb, o, none⟩ u).ownsRow B 90 2 trv tr.length (svC tr) ∧ (w.setCell ⟨hb, o, none⟩ u).ownsRow B 85 3 ptv pt.length (mkC pt) := by
  obtain ⟨h1, h2⟩ := h.hp.self
  have hm : a_Mod [hb] w (w.setCell ⟨hb, o, none⟩ u) := (a_Mod.refl [hb] w).setCell (p := ⟨hb, o, none⟩) (Or.inl (by simp)) _
  obtain ⟨r1, r2⟩ := h.rows hm (fun k hk hx => (h.apart hx).1 (by simpa using hk))
  refine ⟨by simp, h.hp.ar.keep hm (fun k hk => by
    have e : k = hb := by simpa using hk
    rw [e]; exact h1), h.hp.tb.keep (mod_an hm) (fun k hk => by
    have e : k = hb := by simpa using hk
    rw [e]; exact h2), r1, r2⟩
theorem Hq.wrote (h : Hq w B hb ab tb m av l tv tq ns trv tr ptv pt n) (n' : Int) : Hq (w.setCell ⟨hb, 4, none⟩ (.int .i64 n')) B hb ab tb m av l tv tq ns trv tr ptv pt n' := by
  obtain ⟨_, ha, ht, r1, r2⟩ := h.own (o := 4) (u := .int .i64 n')
  exact ⟨⟨heap_setCell_same w hb 4 _ _ (.int .i64 n') h.hp.blk, h.hp.base, ha, ht⟩, r1, r2⟩
theorem Hq.newtr {trv' : Value} {tr' : List Te} (h : Hq w B hb ab tb m av l tv tq ns trv tr ptv pt n) (hr : w.ownsRow B 90 2 trv' tr'.length (svC tr')) : Hq (w.setCell ⟨hb, 2, none⟩ trv') B hb ab tb m av l tv tq ns trv' tr' ptv pt n := by
  obtain ⟨_, ha, ht, _, r2⟩ := h.own (o := 2) (u := trv')
  refine ⟨⟨heap_setCell_same w hb 2 _ _ trv' h.hp.blk, h.hp.base, ha, ht⟩, row_keep hr (fun k hk => Below.heap_setCell _ _ _ _ (fun e => ?_)), r2⟩
  obtain ⟨c, e1, _⟩ := own_block_obj hr hk
  exact obj_ne e1 h.hp.blk (by decide) e
theorem Hq.newpt {ptv' : Value} {pt' : List Pe} (h : Hq w B hb ab tb m av l tv tq ns trv tr ptv pt n) (hr : w.ownsRow B 85 3 ptv' pt'.length (mkC pt')) : Hq (w.setCell ⟨hb, 3, none⟩ ptv') B hb ab tb m av l tv tq ns trv tr ptv' pt' n := by
  obtain ⟨_, ha, ht, r1, _⟩ := h.own (o := 3) (u := ptv')
  refine ⟨⟨heap_setCell_same w hb 3 _ _ ptv' h.hp.blk, h.hp.base, ha, ht⟩, r1, row_keep hr (fun k hk => Below.heap_setCell _ _ _ _ (fun e => ?_))⟩
  obtain ⟨c, e1, _⟩ := own_block_obj hr hk
  exact obj_ne e1 h.hp.blk (by decide) e
theorem Hq.grown {v : Value} (h : Hq w B hb ab tb m av l tv tq ns trv tr ptv pt n) (hv : v = trv ∨ v = ptv) (hg : w.grownBy w' v.ownBlock) : Hp w' B hb ab tb m av l tv tq ns trv ptv n ∧ a_Mod v.ownBlock.toList w w' ∧ (∀ k, k < w.heap.size → v.ownBlock ≠ some k → w'.heap[k]? = w.heap[k]?) := by
  have hb' : ∀ k, k < w.heap.size → v.ownBlock ≠ some k → w'.heap[k]? = w.heap[k]? := fun k hk hn => hg.block k hk (fun e => hn e.symm)
  have hne : ∀ k, v.ownBlock = some k → k ≠ hb ∧ k ∉ a_foot ab av ∧ k ∉ n_foot tb tv tq := fun k hk => by
    have := h.apart (k := k) (by rcases hv with rfl | rfl; exact Or.inl hk; exact Or.inr hk)
    exact ⟨this.1, this.2.1, this.2.2.1⟩
  have hm : a_Mod v.ownBlock.toList w w' := ⟨hg.os, hg.tape, hg.output, hg.size, fun k hk hn => hb' k hk (fun e => hn (by simp [e]))⟩
  refine ⟨⟨(hb' hb (lt_of_block h.hp.blk) (fun e => (hne hb e).1 rfl)).trans h.hp.blk, h.hp.base, h.hp.ar.keep hm (fun k hk => (hne k (by simpa using hk)).2.1), h.hp.tb.keep (mod_an hm) (fun k hk => (hne k (by simpa using hk)).2.2)⟩, hm, hb'⟩
end
end Go.Proofs.YtgmldkojldlekaaGreatDoor

namespace Go.Proofs.YtgmldkojldlekaaGreatDoor
set_option maxRecDepth 100000
open Go.RowKit
theorem trm_kinds {l : List Int} {V : Nat → Bool} {N : Nat} (h : Snd l V) (hn : NsB l N) (hl : l.length ≤ 65536) {k : Nat} (hk : k < l.length) : ((0 ≤ trmW l k ∧ trmW l k ≤ 18446744073709551615) ∧ goodB (trmW l k) = true) ∧
    ((trmW l k % 8 = 0 ∧ ∃ j : Nat, j < l.length ∧ valOf (trmW l k) = (j : Int) ∧ V j = true) ∨ (trmW l k % 8 = 3 ∧ ∃ j : Nat, j < l.length ∧ valOf (trmW l k) = (j : Int) ∧ tgN l j = 4) ∨ (trmW l k % 8 = 1 ∧ (valOf (trmW l k)).toNat < N) ∨ trmW l k % 8 = 2) := by
  obtain ⟨j, hj, e, e2⟩ := trm_ends h _ k hk (Nat.le_refl _)
  rw [e2]
  have hg := h.good j hj
  have hr := h.rng (wdN l j) (by unfold wdN; simp [List.getD, hj])
  unfold endW
  by_cases h4 : tgN l j = 4
  · rw [if_pos h4]
    obtain ⟨s1, s2, s3, s4⟩ := word_str (j := j) (by omega)
    refine ⟨⟨⟨s3, s4⟩, ?_⟩, Or.inr (Or.inl ⟨s1, j, hj, s2, h4⟩)⟩
    unfold goodB
    rw [s1, s2]
    exact fits_str (by omega)
  · rw [if_neg h4]
    have htc := tag_cases hg
    have ht : wdN l j % 8 = tgN l j := rfl
    have hne : ¬ (tgN l j = 3 ∨ tgN l j = 5) := fun h3 => by
      unfold nxN at e
      rw [if_neg (by omega), if_pos h3] at e
      cases e
    refine ⟨⟨hr, hg⟩, ?_⟩
    by_cases h0 : tgN l j = 0
    · have hself : vlN l j = j := by
        unfold nxN at e
        rw [if_pos h0] at e
        by_cases hs : vlN l j = j
        · exact hs
        · rw [if_neg hs] at e
          cases e
      have hv := val_place hg (Or.inl (ht ▸ h0))
      have hV := (h.ref j hj h0).2.1
      rw [hself] at hV
      unfold vlN at hself
      exact Or.inl ⟨ht ▸ h0, j, hj, by omega, hV⟩
    · by_cases h1 : tgN l j = 1
      · exact Or.inr (Or.inr (Or.inl ⟨ht ▸ h1, hn.atom j hj h1⟩))
      · exact Or.inr (Or.inr (Or.inr (by omega)))
theorem nsb_set {l : List Int} {N : Nat} (hn : NsB l N) {j : Nat} {x : Int} (hj : j < l.length) (h1 : x % 8 = 1 → (valOf x).toNat < N) (h4 : x % 8 ≠ 4) : NsB (l.set j x) N := by
  refine ⟨fun k hk ht => ?_, fun k hk ht => ?_⟩
  · rw [List.length_set] at hk
    by_cases e : k = j
    · subst e
      rw [(tg_new hj).1] at ht
      rw [(tg_new hj).2]
      exact h1 ht
    · rw [(tg_set hj e).1] at ht
      rw [(tg_set hj e).2]
      exact hn.atom k hk ht
  · rw [List.length_set] at hk
    by_cases e : k = j
    · subst e
      rw [(tg_new hj).1] at ht
      exact absurd ht h4
    · rw [(tg_set hj e).1] at ht
      rw [wd_set hj, if_neg e]
      exact hn.func k hk ht
theorem bind_sndn {l : List Int} {N : Nat} (h : SndN l N) (hl : l.length ≤ 65536) {a b : Nat} (ha : a < l.length) (hb : b < l.length) (hv : trmW l a % 8 = 0) (hle : trmW l b % 8 = 0 → valOf (trmW l b) ≤ valOf (trmW l a)) : (valOf (trmW l a)).toNat < l.length ∧ SndN (l.set (valOf (trmW l a)).toNat (trmW l b)) N := by
  obtain ⟨⟨V, hV⟩, hn⟩ := h
  obtain ⟨_, ka⟩ := trm_kinds hV hn hl ha
  obtain ⟨⟨rb, gb⟩, kb⟩ := trm_kinds hV hn hl hb
  obtain ⟨j, hj, vj, Vj⟩ : ∃ j : Nat, j < l.length ∧ valOf (trmW l a) = (j : Int) ∧ V j = true := by
    rcases ka with ⟨_, h⟩ | ⟨e, _⟩ | ⟨e, _⟩ | e
    · exact h
    · omega
    · omega
    · omega
  rw [vj, Int.toNat_natCast]
  rw [vj] at hle
  refine ⟨hj, ⟨V, snd_bind hV hj Vj rb gb (by rcases kb with ⟨e, _⟩ | ⟨e, _⟩ | ⟨e, _⟩ | e <;> omega) (fun e => ?_) (fun e => ?_)⟩, nsb_set hn hj (fun e => ?_) (by rcases kb with ⟨e, _⟩ | ⟨e, _⟩ | ⟨e, _⟩ | e <;> omega)⟩
  · rcases kb with ⟨_, i, hi, vi, Vi⟩ | ⟨e', _⟩ | ⟨e', _⟩ | e'
    · have := hle e
      rw [vi] at this
      rw [vi, Int.toNat_natCast]
      exact ⟨by omega, Vi⟩
    all_goals omega
  · rcases kb with ⟨e', _⟩ | ⟨_, i, hi, vi, ti⟩ | ⟨e', _⟩ | e'
    · omega
    · rw [vi, Int.toNat_natCast]
      exact ⟨hi, Or.inl ti⟩
    all_goals omega
  · rcases kb with ⟨e', _⟩ | ⟨e', _⟩ | ⟨_, h⟩ | e'
    · omega
    · omega
    · exact h
    · omega
theorem merge_sndn {l : List Int} {N : Nat} (h : SndN l N) (hl : l.length ≤ 65536) {i j : Nat} (hj : j < l.length) (hij : i < j) (ti : tgN l i = 4) (tj : tgN l j = 4) : SndN (l.set j (wordOf 5 (i : Int))) N := by
  obtain ⟨⟨V, hV⟩, hn⟩ := h
  have hf : fitsB 5 (i : Int) = true := by
    simp [fitsB]
    omega
  have ht : wordOf 5 (i : Int) % 8 = 5 := wordOf_tag 5 (i : Int) (by omega) (by omega)
  have hv : valOf (wordOf 5 (i : Int)) = (i : Int) := wordOf_val 5 (i : Int) hf
  have hg : goodB (wordOf 5 (i : Int)) = true := by
    unfold goodB
    rw [ht, hv]
    exact hf
  exact ⟨⟨V, snd_fwd hV hj (Or.inl tj) hij (Or.inl ti) (wordOf_bd 5 (i : Int)) hg ht hv⟩, nsb_set hn hj (by omega) (by omega)⟩
end Go.Proofs.YtgmldkojldlekaaGreatDoor

namespace Go.Proofs.YtgmldkojldlekaaGreatDoor
set_option maxRecDepth 100000
open Go.RowKit
structure G7 (wd : World) (gb cb rb : Nat) (OLD vK vS vN vD : Value) (N5 A6 : Value → World → Prop) (lit : Value → Obj) (b0 b1 b2 b3 b4 b5 b6 b7 b8 b9 b10 b11 b12 b13 b14 b15 b16 : Bool) (x35 x36 x37 x38 x39 x40 x41 x42 x43 x44 x45 x46 x47 x48 x49 x50 : Value) (w : World) : Prop where
  e0 : b0 = true → x35 = .pointer (some ⟨gb, 0, none⟩)
  e1 : b1 = true → x36 = OLD
  e2 : b2 = true → x37 = .pointer (some ⟨cb, 0, none⟩)
  e3 : b3 = true → x38 = vK
  e4 : b4 = true → x39 = .pointer (some ⟨cb, 2, none⟩)
  e5 : b5 = true → x40 = vS
  e6 : b6 = true → x41 = .pointer (some ⟨cb, 3, none⟩)
  e7 : b7 = true → x42 = vN
  e8 : b8 = true → x43 = .pointer (some ⟨rb, 0, none⟩)
  e9 : b9 = true → x44 = .pointer (some ⟨cb, 4, none⟩)
  e10 : b10 = true → x45 = vD
  e12 : b12 = true → x47 = .agg #[vK, vS, vN, x46]
  c11 : b11 = true → b10 = true
  c12 : b12 = true → b3 = true ∧ b5 = true ∧ b7 = true ∧ b11 = true
  c13 : b13 = true → b12 = true
  c14 : b14 = true → b1 = true ∧ b13 = true
  c15 : b15 = true → b14 = true
  e15 : b15 = true → x50 = .pointer (some ⟨gb, 0, none⟩)
  c16 : b16 = true → b15 = true
  s0 : b11 = false → w = wd
  s1 : b11 = true → b13 = false → N5 x46 w
  s2 : b13 = true → b14 = false → ∃ w5, N5 x46 w5 ∧ x48 = .slice (some ⟨w5.heap.size, 0, none⟩) 1 1 ∧ w = w5.alloc (lit x46)
  s3 : b14 = true → b16 = false → A6 x49 w
  s4 : b16 = true → ∃ w6, A6 x49 w6 ∧ w = w6.setCell ⟨gb, 0, none⟩ x49
section
variable {wd w w' : World} {gb cb rb : Nat} {OLD vK vS vN vD : Value} {N5 A6 : Value → World → Prop} {lit : Value → Obj} {b0 b1 b2 b3 b4 b5 b6 b7 b8 b9 b10 b11 b12 b13 b14 b15 b16 : Bool} {x35 x36 x37 x38 x39 x40 x41 x42 x43 x44 x45 x46 x47 x48 x49 x50 : Value}
theorem G7.t0 (h : G7 wd gb cb rb OLD vK vS vN vD N5 A6 lit false b1 b2 b3 b4 b5 b6 b7 b8 b9 b10 b11 b12 b13 b14 b15 b16 x35 x36 x37 x38 x39 x40 x41 x42 x43 x44 x45 x46 x47 x48 x49 x50 w) : G7 wd gb cb rb OLD vK vS vN vD N5 A6 lit true b1 b2 b3 b4 b5 b6 b7 b8 b9 b10 b11 b12 b13 b14 b15 b16 (.pointer (some ⟨gb, 0, none⟩)) x36 x37 x38 x39 x40 x41 x42 x43 x44 x45 x46 x47 x48 x49 x50 w :=
  ⟨fun _ => rfl, h.e1, h.e2, h.e3, h.e4, h.e5, h.e6, h.e7, h.e8, h.e9, h.e10, h.e12, h.c11, h.c12, h.c13, h.c14, h.c15, h.e15, h.c16, h.s0, h.s1, h.s2, h.s3, h.s4⟩
theorem G7.t1 (h : G7 wd gb cb rb OLD vK vS vN vD N5 A6 lit b0 false b2 b3 b4 b5 b6 b7 b8 b9 b10 b11 b12 b13 b14 b15 b16 x35 x36 x37 x38 x39 x40 x41 x42 x43 x44 x45 x46 x47 x48 x49 x50 w) : G7 wd gb cb rb OLD vK vS vN vD N5 A6 lit b0 true b2 b3 b4 b5 b6 b7 b8 b9 b10 b11 b12 b13 b14 b15 b16 x35 (OLD) x37 x38 x39 x40 x41 x42 x43 x44 x45 x46 x47 x48 x49 x50 w :=
  ⟨h.e0, fun _ => rfl, h.e2, h.e3, h.e4, h.e5, h.e6, h.e7, h.e8, h.e9, h.e10, h.e12, h.c11, h.c12, h.c13, fun e => ⟨rfl, (h.c14 e).2⟩, h.c15, h.e15, h.c16, h.s0, h.s1, h.s2, h.s3, h.s4⟩
theorem G7.t2 (h : G7 wd gb cb rb OLD vK vS vN vD N5 A6 lit b0 b1 false b3 b4 b5 b6 b7 b8 b9 b10 b11 b12 b13 b14 b15 b16 x35 x36 x37 x38 x39 x40 x41 x42 x43 x44 x45 x46 x47 x48 x49 x50 w) : G7 wd gb cb rb OLD vK vS vN vD N5 A6 lit b0 b1 true b3 b4 b5 b6 b7 b8 b9 b10 b11 b12 b13 b14 b15 b16 x35 x36 (.pointer (some ⟨cb, 0, none⟩)) x38 x39 x40 x41 x42 x43 x44 x45 x46 x47 x48 x49 x50 w :=
  ⟨h.e0, h.e1, fun _ => rfl, h.e3, h.e4, h.e5, h.e6, h.e7, h.e8, h.e9, h.e10, h.e12, h.c11, h.c12, h.c13, h.c14, h.c15, h.e15, h.c16, h.s0, h.s1, h.s2, h.s3, h.s4⟩
theorem G7.t3 (h : G7 wd gb cb rb OLD vK vS vN vD N5 A6 lit b0 b1 b2 false b4 b5 b6 b7 b8 b9 b10 b11 b12 b13 b14 b15 b16 x35 x36 x37 x38 x39 x40 x41 x42 x43 x44 x45 x46 x47 x48 x49 x50 w) : G7 wd gb cb rb OLD vK vS vN vD N5 A6 lit b0 b1 b2 true b4 b5 b6 b7 b8 b9 b10 b11 b12 b13 b14 b15 b16 x35 x36 x37 (vK) x39 x40 x41 x42 x43 x44 x45 x46 x47 x48 x49 x50 w :=
  ⟨h.e0, h.e1, h.e2, fun _ => rfl, h.e4, h.e5, h.e6, h.e7, h.e8, h.e9, h.e10, h.e12, h.c11, fun e => ⟨rfl, (h.c12 e).2.1, (h.c12 e).2.2.1, (h.c12 e).2.2.2⟩, h.c13, h.c14, h.c15, h.e15, h.c16, h.s0, h.s1, h.s2, h.s3, h.s4⟩
theorem G7.t4 (h : G7 wd gb cb rb OLD vK vS vN vD N5 A6 lit b0 b1 b2 b3 false b5 b6 b7 b8 b9 b10 b11 b12 b13 b14 b15 b16 x35 x36 x37 x38 x39 x40 x41 x42 x43 x44 x45 x46 x47 x48 x49 x50 w) : G7 wd gb cb rb OLD vK vS vN vD N5 A6 lit b0 b1 b2 b3 true b5 b6 b7 b8 b9 b10 b11 b12 b13 b14 b15 b16 x35 x36 x37 x38 (.pointer (some ⟨cb, 2, none⟩)) x40 x41 x42 x43 x44 x45 x46 x47 x48 x49 x50 w :=
  ⟨h.e0, h.e1, h.e2, h.e3, fun _ => rfl, h.e5, h.e6, h.e7, h.e8, h.e9, h.e10, h.e12, h.c11, h.c12, h.c13, h.c14, h.c15, h.e15, h.c16, h.s0, h.s1, h.s2, h.s3, h.s4⟩
theorem G7.t5 (h : G7 wd gb cb rb OLD vK vS vN vD N5 A6 lit b0 b1 b2 b3 b4 false b6 b7 b8 b9 b10 b11 b12 b13 b14 b15 b16 x35 x36 x37 x38 x39 x40 x41 x42 x43 x44 x45 x46 x47 x48 x49 x50 w) : G7 wd gb cb rb OLD vK vS vN vD N5 A6 lit b0 b1 b2 b3 b4 true b6 b7 b8 b9 b10 b11 b12 b13 b14 b15 b16 x35 x36 x37 x38 x39 (vS) x41 x42 x43 x44 x45 x46 x47 x48 x49 x50 w :=
  ⟨h.e0, h.e1, h.e2, h.e3, h.e4, fun _ => rfl, h.e6, h.e7, h.e8, h.e9, h.e10, h.e12, h.c11, fun e => ⟨(h.c12 e).1, rfl, (h.c12 e).2.2.1, (h.c12 e).2.2.2⟩, h.c13, h.c14, h.c15, h.e15, h.c16, h.s0, h.s1, h.s2, h.s3, h.s4⟩
theorem G7.t6 (h : G7 wd gb cb rb OLD vK vS vN vD N5 A6 lit b0 b1 b2 b3 b4 b5 false b7 b8 b9 b10 b11 b12 b13 b14 b15 b16 x35 x36 x37 x38 x39 x40 x41 x42 x43 x44 x45 x46 x47 x48 x49 x50 w) : G7 wd gb cb rb OLD vK vS vN vD N5 A6 lit b0 b1 b2 b3 b4 b5 true b7 b8 b9 b10 b11 b12 b13 b14 b15 b16 x35 x36 x37 x38 x39 x40 (.pointer (some ⟨cb, 3, none⟩)) x42 x43 x44 x45 x46 x47 x48 x49 x50 w :=
  ⟨h.e0, h.e1, h.e2, h.e3, h.e4, h.e5, fun _ => rfl, h.e7, h.e8, h.e9, h.e10, h.e12, h.c11, h.c12, h.c13, h.c14, h.c15, h.e15, h.c16, h.s0, h.s1, h.s2, h.s3, h.s4⟩
theorem G7.t7 (h : G7 wd gb cb rb OLD vK vS vN vD N5 A6 lit b0 b1 b2 b3 b4 b5 b6 false b8 b9 b10 b11 b12 b13 b14 b15 b16 x35 x36 x37 x38 x39 x40 x41 x42 x43 x44 x45 x46 x47 x48 x49 x50 w) : G7 wd gb cb rb OLD vK vS vN vD N5 A6 lit b0 b1 b2 b3 b4 b5 b6 true b8 b9 b10 b11 b12 b13 b14 b15 b16 x35 x36 x37 x38 x39 x40 x41 (vN) x43 x44 x45 x46 x47 x48 x49 x50 w :=
  ⟨h.e0, h.e1, h.e2, h.e3, h.e4, h.e5, h.e6, fun _ => rfl, h.e8, h.e9, h.e10, h.e12, h.c11, fun e => ⟨(h.c12 e).1, (h.c12 e).2.1, rfl, (h.c12 e).2.2.2⟩, h.c13, h.c14, h.c15, h.e15, h.c16, h.s0, h.s1, h.s2, h.s3, h.s4⟩
theorem G7.t8 (h : G7 wd gb cb rb OLD vK vS vN vD N5 A6 lit b0 b1 b2 b3 b4 b5 b6 b7 false b9 b10 b11 b12 b13 b14 b15 b16 x35 x36 x37 x38 x39 x40 x41 x42 x43 x44 x45 x46 x47 x48 x49 x50 w) : G7 wd gb cb rb OLD vK vS vN vD N5 A6 lit b0 b1 b2 b3 b4 b5 b6 b7 true b9 b10 b11 b12 b13 b14 b15 b16 x35 x36 x37 x38 x39 x40 x41 x42 (.pointer (some ⟨rb, 0, none⟩)) x44 x45 x46 x47 x48 x49 x50 w :=
  ⟨h.e0, h.e1, h.e2, h.e3, h.e4, h.e5, h.e6, h.e7, fun _ => rfl, h.e9, h.e10, h.e12, h.c11, h.c12, h.c13, h.c14, h.c15, h.e15, h.c16, h.s0, h.s1, h.s2, h.s3, h.s4⟩
theorem G7.t9 (h : G7 wd gb cb rb OLD vK vS vN vD N5 A6 lit b0 b1 b2 b3 b4 b5 b6 b7 b8 false b10 b11 b12 b13 b14 b15 b16 x35 x36 x37 x38 x39 x40 x41 x42 x43 x44 x45 x46 x47 x48 x49 x50 w) : G7 wd gb cb rb OLD vK vS vN vD N5 A6 lit b0 b1 b2 b3 b4 b5 b6 b7 b8 true b10 b11 b12 b13 b14 b15 b16 x35 x36 x37 x38 x39 x40 x41 x42 x43 (.pointer (some ⟨cb, 4, none⟩)) x45 x46 x47 x48 x49 x50 w :=
  ⟨h.e0, h.e1, h.e2, h.e3, h.e4, h.e5, h.e6, h.e7, h.e8, fun _ => rfl, h.e10, h.e12, h.c11, h.c12, h.c13, h.c14, h.c15, h.e15, h.c16, h.s0, h.s1, h.s2, h.s3, h.s4⟩
theorem G7.t10 (h : G7 wd gb cb rb OLD vK vS vN vD N5 A6 lit b0 b1 b2 b3 b4 b5 b6 b7 b8 b9 false b11 b12 b13 b14 b15 b16 x35 x36 x37 x38 x39 x40 x41 x42 x43 x44 x45 x46 x47 x48 x49 x50 w) : G7 wd gb cb rb OLD vK vS vN vD N5 A6 lit b0 b1 b2 b3 b4 b5 b6 b7 b8 b9 true b11 b12 b13 b14 b15 b16 x35 x36 x37 x38 x39 x40 x41 x42 x43 x44 (vD) x46 x47 x48 x49 x50 w :=
  ⟨h.e0, h.e1, h.e2, h.e3, h.e4, h.e5, h.e6, h.e7, h.e8, h.e9, fun _ => rfl, h.e12, fun _ => rfl, h.c12, h.c13, h.c14, h.c15, h.e15, h.c16, h.s0, h.s1, h.s2, h.s3, h.s4⟩
theorem G7.no12 (h : G7 wd gb cb rb OLD vK vS vN vD N5 A6 lit b0 b1 b2 b3 b4 b5 b6 b7 b8 b9 b10 false b12 b13 b14 b15 b16 x35 x36 x37 x38 x39 x40 x41 x42 x43 x44 x45 x46 x47 x48 x49 x50 w) : b12 = false ∧ b13 = false ∧ b14 = false ∧ b15 = false ∧ b16 = false := by
  have k2 : b12 = false := by cases e : b12 with | false => rfl | true => exact absurd (h.c12 e).2.2.2 (by simp)
  have k3 : b13 = false := by cases e : b13 with | false => rfl | true => rw [h.c13 e] at k2; cases k2
  have k4 : b14 = false := by cases e : b14 with | false => rfl | true => rw [(h.c14 e).2] at k3; cases k3
  have k5 : b15 = false := by cases e : b15 with | false => rfl | true => rw [h.c15 e] at k4; cases k4
  exact ⟨k2, k3, k4, k5, by cases e : b16 with | false => rfl | true => rw [h.c16 e] at k5; cases k5⟩
theorem G7.t11 (h : G7 wd gb cb rb OLD vK vS vN vD N5 A6 lit b0 b1 b2 b3 b4 b5 b6 b7 b8 b9 true false b12 b13 b14 b15 b16 x35 x36 x37 x38 x39 x40 x41 x42 x43 x44 x45 x46 x47 x48 x49 x50 w) {x : Value} (hN : N5 x w') : G7 wd gb cb rb OLD vK vS vN vD N5 A6 lit b0 b1 b2 b3 b4 b5 b6 b7 b8 b9 true true b12 b13 b14 b15 b16 x35 x36 x37 x38 x39 x40 x41 x42 x43 x44 x45 x x47 x48 x49 x50 w' := by
  obtain ⟨rfl, rfl, rfl, rfl, rfl⟩ := h.no12
  exact ⟨h.e0, h.e1, h.e2, h.e3, h.e4, h.e5, h.e6, h.e7, h.e8, h.e9, h.e10, nofun, fun _ => rfl, nofun, nofun, nofun, nofun, nofun, nofun, nofun, fun _ _ => hN, nofun, nofun, nofun⟩
theorem G7.no13 (h : G7 wd gb cb rb OLD vK vS vN vD N5 A6 lit b0 b1 b2 b3 b4 b5 b6 b7 b8 b9 b10 b11 false b13 b14 b15 b16 x35 x36 x37 x38 x39 x40 x41 x42 x43 x44 x45 x46 x47 x48 x49 x50 w) : b13 = false ∧ b14 = false ∧ b15 = false ∧ b16 = false := by
  have k3 : b13 = false := by cases e : b13 with | false => rfl | true => exact absurd (h.c13 e) (by simp)
  have k4 : b14 = false := by cases e : b14 with | false => rfl | true => rw [(h.c14 e).2] at k3; cases k3
  have k5 : b15 = false := by cases e : b15 with | false => rfl | true => rw [h.c15 e] at k4; cases k4
  exact ⟨k3, k4, k5, by cases e : b16 with | false => rfl | true => rw [h.c16 e] at k5; cases k5⟩
theorem G7.t12 (h : G7 wd gb cb rb OLD vK vS vN vD N5 A6 lit b0 b1 b2 true b4 true b6 true b8 b9 b10 true false b13 b14 b15 b16 x35 x36 x37 x38 x39 x40 x41 x42 x43 x44 x45 x46 x47 x48 x49 x50 w) : G7 wd gb cb rb OLD vK vS vN vD N5 A6 lit b0 b1 b2 true b4 true b6 true b8 b9 b10 true true b13 b14 b15 b16 x35 x36 x37 x38 x39 x40 x41 x42 x43 x44 x45 x46 (.agg #[vK, vS, vN, x46]) x48 x49 x50 w := by
  obtain ⟨rfl, rfl, rfl, rfl⟩ := h.no13
  exact ⟨h.e0, h.e1, h.e2, h.e3, h.e4, h.e5, h.e6, h.e7, h.e8, h.e9, h.e10, fun _ => rfl, h.c11, fun _ => ⟨rfl, rfl, rfl, rfl⟩, nofun, nofun, nofun, nofun, nofun, nofun, fun _ _ => h.s1 rfl rfl, nofun, nofun, nofun⟩
theorem G7.t13 (h : G7 wd gb cb rb OLD vK vS vN vD N5 A6 lit b0 b1 b2 b3 b4 b5 b6 b7 b8 b9 b10 b11 true false b14 b15 b16 x35 x36 x37 x38 x39 x40 x41 x42 x43 x44 x45 x46 x47 x48 x49 x50 w) : G7 wd gb cb rb OLD vK vS vN vD N5 A6 lit b0 b1 b2 b3 b4 b5 b6 b7 b8 b9 b10 b11 true true b14 b15 b16 x35 x36 x37 x38 x39 x40 x41 x42 x43 x44 x45 x46 x47 (.slice (some ⟨w.heap.size, 0, none⟩) 1 1) x49 x50 (w.alloc (lit x46)) := by
  have k4 : b14 = false := by cases e : b14 with | false => rfl | true => exact absurd (h.c14 e).2 (by simp)
  have k5 : b15 = false := by cases e : b15 with | false => rfl | true => rw [h.c15 e] at k4; cases k4
  have k6 : b16 = false := by cases e : b16 with | false => rfl | true => rw [h.c16 e] at k5; cases k5
  have k1 := (h.c12 rfl).2.2.2
  subst k4 k5 k6 k1
  exact ⟨h.e0, h.e1, h.e2, h.e3, h.e4, h.e5, h.e6, h.e7, h.e8, h.e9, h.e10, h.e12, h.c11, h.c12, fun _ => rfl, nofun, nofun, nofun, nofun, nofun, nofun, fun _ _ => ⟨w, h.s1 rfl rfl, rfl, rfl⟩, nofun, nofun⟩
theorem G7.t14 (h : G7 wd gb cb rb OLD vK vS vN vD N5 A6 lit b0 true b2 b3 b4 b5 b6 b7 b8 b9 b10 b11 b12 true false b15 b16 x35 x36 x37 x38 x39 x40 x41 x42 x43 x44 x45 x46 x47 x48 x49 x50 w) {v : Value} (hA : A6 v w') : G7 wd gb cb rb OLD vK vS vN vD N5 A6 lit b0 true b2 b3 b4 b5 b6 b7 b8 b9 b10 b11 b12 true true b15 b16 x35 x36 x37 x38 x39 x40 x41 x42 x43 x44 x45 x46 x47 x48 v x50 w' := by
  have k5 : b15 = false := by cases e : b15 with | false => rfl | true => exact absurd (h.c15 e) (by simp)
  have k6 : b16 = false := by cases e : b16 with | false => rfl | true => rw [h.c16 e] at k5; cases k5
  have k2 := h.c13 rfl
  have k1 := (h.c12 k2).2.2.2
  subst k5 k6 k1
  exact ⟨h.e0, h.e1, h.e2, h.e3, h.e4, h.e5, h.e6, h.e7, h.e8, h.e9, h.e10, h.e12, h.c11, h.c12, h.c13, fun _ => ⟨rfl, rfl⟩, nofun, nofun, nofun, nofun, nofun, nofun, fun _ _ => hA, nofun⟩
theorem G7.t15 (h : G7 wd gb cb rb OLD vK vS vN vD N5 A6 lit b0 b1 b2 b3 b4 b5 b6 b7 b8 b9 b10 b11 b12 b13 true false b16 x35 x36 x37 x38 x39 x40 x41 x42 x43 x44 x45 x46 x47 x48 x49 x50 w) : G7 wd gb cb rb OLD vK vS vN vD N5 A6 lit b0 b1 b2 b3 b4 b5 b6 b7 b8 b9 b10 b11 b12 b13 true true b16 x35 x36 x37 x38 x39 x40 x41 x42 x43 x44 x45 x46 x47 x48 x49 (.pointer (some ⟨gb, 0, none⟩)) w := by
  exact ⟨h.e0, h.e1, h.e2, h.e3, h.e4, h.e5, h.e6, h.e7, h.e8, h.e9, h.e10, h.e12, h.c11, h.c12, h.c13, h.c14, fun _ => rfl, fun _ => rfl, fun _ => rfl, h.s0, h.s1, h.s2, h.s3, h.s4⟩
theorem G7.t16 (h : G7 wd gb cb rb OLD vK vS vN vD N5 A6 lit b0 b1 b2 b3 b4 b5 b6 b7 b8 b9 b10 b11 b12 b13 true true false x35 x36 x37 x38 x39 x40 x41 x42 x43 x44 x45 x46 x47 x48 x49 x50 w) : G7 wd gb cb rb OLD vK vS vN vD N5 A6 lit b0 b1 b2 b3 b4 b5 b6 b7 b8 b9 b10 b11 b12 b13 true true true x35 x36 x37 x38 x39 x40 x41 x42 x43 x44 x45 x46 x47 x48 x49 x50 (w.setCell ⟨gb, 0, none⟩ x49) := by
  have k3 := (h.c14 rfl).2
  have k2 := h.c13 k3
  have k1 := (h.c12 k2).2.2.2
  subst k3 k1
  exact ⟨h.e0, h.e1, h.e2, h.e3, h.e4, h.e5, h.e6, h.e7, h.e8, h.e9, h.e10, h.e12, h.c11, h.c12, h.c13, h.c14, fun _ => rfl, h.e15, fun _ => rfl, nofun, nofun, nofun, nofun, fun _ => ⟨w, h.s3 rfl rfl, rfl⟩⟩
end
section
variable {wd w : World} {gb cb rb : Nat} {OLD vK vS vN vD : Value} {N5 A6 : Value → World → Prop} {lit : Value → Obj} {b0 b1 b2 b3 b4 b5 b6 b7 b8 b9 b10 b11 b12 b13 b14 b15 b16 : Bool} {x35 x36 x37 x38 x39 x40 x41 x42 x43 x44 x45 x46 x47 x48 x49 x50 : Value}
theorem G7.old (h : G7 wd gb cb rb OLD vK vS vN vD N5 A6 lit b0 false b2 b3 b4 b5 b6 b7 b8 b9 b10 b11 b12 b13 b14 b15 b16 x35 x36 x37 x38 x39 x40 x41 x42 x43 x44 x45 x46 x47 x48 x49 x50 w) {p : Addr} {v : Value} (h0 : wd.cell? p = some v) (h1 : ∀ x w, N5 x w → w.cell? p = some v) : w.cell? p = some v := by
  have k4 : b14 = false := by cases e : b14 with | false => rfl | true => exact absurd (h.c14 e).1 (by simp)
  cases e1 : b11 with
  | false => rw [h.s0 e1]; exact h0
  | true =>
    cases e3 : b13 with
    | false => exact h1 _ _ (h.s1 e1 e3)
    | true =>
      obtain ⟨w5, hN, _, rfl⟩ := h.s2 e3 k4
      have h2 := h1 _ _ hN
      rw [World.cell?_alloc_lt _ _ _ (World.block_lt_of_cell? w5 p h2)]
      exact h2
theorem G7.loc (h : G7 wd gb cb rb OLD vK vS vN vD N5 A6 lit b0 b1 b2 b3 b4 b5 b6 b7 b8 b9 b10 b11 false b13 b14 b15 b16 x35 x36 x37 x38 x39 x40 x41 x42 x43 x44 x45 x46 x47 x48 x49 x50 w) {p : Addr} {v : Value} (h0 : wd.cell? p = some v) (h1 : ∀ x w, N5 x w → w.cell? p = some v) : w.cell? p = some v := by
  obtain ⟨k3, _⟩ := h.no13
  cases e1 : b11 with
  | false => rw [h.s0 e1]; exact h0
  | true => exact h1 _ _ (h.s1 e1 k3)
end
theorem gset7 (l : Array Bool) (i j : Nat) (hl : l.size = 17) (hi : i < 17) : (l.setIfInBounds i true).getD j false = if i = j then true else l.getD j false := by
  simp only [Array.getD_eq_getD_getElem?, Array.getElem?_setIfInBounds]
  split
  · rename_i e
    rw [if_pos (by omega)]
    rfl
  · rfl
theorem gopp7 {l : Array Bool} {i : Nat} (hl : l.size = 17) (hi : i < 17) : l.getD i false = l.getD i true := by
  have h : i < l.size := by omega
  simp [Array.getD_eq_getD_getElem?, h]
theorem none7 {md : Region.Mode} {ops : Array Oper} {l : Array Bool} (h : Region.ready md ops l = []) {i : Nat} (hi : i < ops.size) (hd : ((ops[i]?).map (·.after.all fun e => !Region.binds md e || l.getD e.on false)).getD false = true) : l.getD i true = true := by
  cases e : l.getD i true with
  | true => rfl
  | false =>
    have : i ∈ Region.ready md ops l := by
      unfold Region.ready
      refine List.mem_filter.2 ⟨List.mem_range.2 hi, ?_⟩
      rw [Bool.and_eq_true, e]
      exact ⟨rfl, hd⟩
    rw [h] at this
    cases this
end Go.Proofs.YtgmldkojldlekaaGreatDoor

/- What the laws of layer 3 share: Put where it answers a number and where it answers a fault; the fixed fact; what grows. -/
import Derived.Test.YtnoggmeffindbabGreatDoorQZAZ
import Derived.RangeFuncBox
import Derived.RangeFuncLeaves
import Derived.RangeFuncCalls
import Derived.Shelf.Abstract
import Derived.OwnWalkIn
import Derived.TacticsInMore
import Derived.LoopNIn
import Derived.LoopIn
import Derived.RangeFuncNested
import Derived.RangeFuncBound
import Derived.Maps.AppendAt
import Derived.Shelf.SlMaps.Clone
import Derived.Deep.RegionHeld3
import Derived.Deep.DrawnRows
namespace Go.Proofs.YtnoggmeffindbabGreatDoor
open Go.RowKit Go.Maps

theorem putC_zero {l : List ByteArray} {s : ByteArray} (h : putC l s = 0) : n_goodS s = true ∧ (inL l s = true ∨ (inL l s = false ∧ l.length < 1024)) := by
  unfold putC at h
  cases hg : n_goodS s with
  | false => simp [hg] at h
  | true =>
    refine ⟨rfl, ?_⟩
    cases hi : inL l s with
    | true => exact Or.inl rfl
    | false =>
      by_cases hl : l.length < 1024
      · exact Or.inr ⟨rfl, hl⟩
      · simp [hg, hi, hl] at h
theorem putN_lt {l : List ByteArray} {s : ByteArray} (h : putC l s = 0) : putN l s < (n_putL l s).length ∧ (n_putL l s).getD (putN l s) ⟨#[]⟩ = s := by
  obtain ⟨hg, hi | ⟨hi, hl⟩⟩ := putC_zero h
  · have e1 : putN l s = num l s := by simp [putN, hg, hi]
    have e3 : n_putL l s = l := by simp [n_putL, hi]
    rw [e1, e3]
    exact ⟨num_lt hi, num_at hi⟩
  · have e1 : putN l s = l.length := by simp [putN, hg, hi, hl]
    have e3 : n_putL l s = l ++ [s] := by simp [n_putL, hg, hi, hl]
    rw [e1, e3]
    simp
theorem putN_no {l : List ByteArray} {s : ByteArray} (h : putC l s ≠ 0) : putN l s = 0 ∧ n_putL l s = l := by
  unfold putC at h
  cases hg : n_goodS s with
  | false => simp [putN, n_putL, hg]
  | true =>
    cases hi : inL l s with
    | true => simp [hg, hi] at h
    | false =>
      by_cases hl : l.length < 1024
      · simp [hg, hl] at h
      · simp [putN, n_putL, hi, hl]
theorem putL_cases (l : List ByteArray) (s : ByteArray) : n_putL l s = l ∨ n_putL l s = l ++ [s] := by
  unfold n_putL
  split
  · exact Or.inr rfl
  · exact Or.inl rfl
theorem putN_le (l : List ByteArray) (s : ByteArray) (hl : l.length ≤ 1024) : putN l s ≤ 1024 := by
  unfold putN
  have := num_le l s
  (repeat' split) <;> omega
/-- Put, where it answers a number. -/
theorem put_yes {w : World} {B p q : Nat} {v : Value} {l : List ByteArray} (h : Tb w B p v q l) (hB : B ≤ w.heap.size) (s : ByteArray) (hs : s.size ≤ 281474976710656) (hc : putC l s = 0) :
    Calls Tryz.prog 88 #[.pointer (some ⟨p, 0, none⟩), .string s] w fun e w' => e = .returned (.tuple #[.int .i64 (putN l s : Int), .nilIface]) ∧ (∃ v', n_Upd w w' B p v q (n_putL l s) v' ∧ Rs w' v l) ∧ Below B w w' := by
  refine (put_any h hB s hs).mono ?_
  rintro e w' ⟨ev, v', rfl, hE, hU, hr⟩
  rcases hE.nil with ⟨_, rfl⟩ | ⟨h0, _⟩
  · exact ⟨rfl, ⟨v', hU, hr⟩, hU.below h hB⟩
  · exact absurd hc h0
/-- Put, where it answers a fault. -/
theorem put_no {w : World} {B p q : Nat} {v : Value} {l : List ByteArray} (h : Tb w B p v q l) (hB : B ≤ w.heap.size) (s : ByteArray) (hs : s.size ≤ 281474976710656) (hc : putC l s ≠ 0) :
    Calls Tryz.prog 88 #[.pointer (some ⟨p, 0, none⟩), .string s] w fun e w' => (∃ b, e = .returned (.tuple #[.int .i64 0, .iface 126 (.pointer (some ⟨b, 0, none⟩))])) ∧ (∃ v', n_Upd w w' B p v q l v' ∧ Rs w' v l) ∧ Below B w w' := by
  have e0 := putN_no hc
  refine (put_any h hB s hs).mono ?_
  rintro e w' ⟨ev, v', rfl, hE, hU, hr⟩
  rcases hE.nil with ⟨h0, _⟩ | ⟨_, b, rfl⟩
  · exact absurd h0 hc
  · exact ⟨⟨b, by rw [e0.1]; rfl⟩, ⟨v', by rw [← e0.2]; exact hU, hr⟩, hU.below h hB⟩
/-- Put, whatever it answers. -/
theorem put_some {w : World} {B p q : Nat} {v : Value} {l : List ByteArray} (h : Tb w B p v q l) (hB : B ≤ w.heap.size) (s : ByteArray) (hs : s.size ≤ 281474976710656) :
    Calls Tryz.prog 88 #[.pointer (some ⟨p, 0, none⟩), .string s] w fun e w' => (∃ ev, e = .returned (.tuple #[.int .i64 (putN l s : Int), ev])) ∧ (∃ v', n_Upd w w' B p v q (n_putL l s) v' ∧ Rs w' v l) ∧ Below B w w' := by
  refine (put_any h hB s hs).mono ?_
  rintro e w' ⟨ev, v', rfl, _, hU, hr⟩
  exact ⟨⟨ev, rfl⟩, ⟨v', hU, hr⟩, hU.below h hB⟩
/-- Name at 0, whatever it answers. -/
theorem name_zero {w : World} {B p q : Nat} {v : Value} {l : List ByteArray} (h : Tb w B p v q l) :
    Calls Tryz.prog 133 #[.pointer (some ⟨p, 0, none⟩), .int .i64 0] w fun e w' => (∃ x ok, e = .returned (.tuple #[.string x, .bool ok])) ∧ w' = w := by
  by_cases hl : 0 < l.length
  · refine (name_yes h 0 hl).mono ?_
    rintro e w' ⟨rfl, rfl⟩
    exact ⟨⟨_, _, rfl⟩, rfl⟩
  · refine (name_no h 0 (by omega) (by omega) (Or.inr (by omega))).mono ?_
    rintro e w' ⟨rfl, rfl⟩
    exact ⟨⟨_, _, rfl⟩, rfl⟩
end Go.Proofs.YtnoggmeffindbabGreatDoor

/- All of package names, and what goes over a row of texts: the iterator's contract, for every loop body that keeps what lay below. -/
namespace Go.Proofs.YtnoggmeffindbabGreatDoor
open Go.RowKit Go.Shelf

attribute [local go_sem] Oper.semAt_some

/-- What has come when k rounds are over. -/
def upto (l : List ByteArray) (k : Nat) : List (Nat × ByteArray) := (List.range k).map (fun j => (j, l.getD j ⟨#[]⟩))
theorem upto_succ (l : List ByteArray) (k : Nat) : upto l (k + 1) = upto l k ++ [(k, l.getD k ⟨#[]⟩)] := by simp [upto, List.range_succ]
theorem upto_length (l : List ByteArray) (k : Nat) : (upto l k).length = k := by simp [upto]
theorem upto_texts (l : List ByteArray) {k : Nat} (hk : k ≤ l.length) : (upto l k).map Prod.snd = l.take k := by
  apply List.ext_getElem
  · simp [upto, hk]
  · intro i h1 h2
    have : i < l.length := by simp [upto] at h1; omega
    simp [upto, List.getD, this]
set_option maxRecDepth 100000 in
set_option maxRecDepth 100000 in
set_option maxHeartbeats 2000000 in
theorem iter_some (F : Fence) (n : Nat) (hf : F.fn 137) (hro : F.round = none) (hn : 1 ≤ n) (r Bs n₀ b off cap : Nat) (l : List ByteArray) (hl : l.length ≤ 5000) (hb : b < n₀) (J Jx : List (Nat × ByteArray) → World → Prop)
    (hY : ∀ pre x W, J pre W → pre.length < l.length → YieldAt F (n - 1) Tryz.prog r #[.int .i64 (x.1 : Int), .string x.2] W fun e W' =>
      (e = .returned (.bool true) ∧ J (pre ++ [x]) W' ∧ Below n₀ W W') ∨ (e = .returned (.bool false) ∧ Jx (pre ++ [x]) W'))
    (W : World) (hBs : W.cell? ⟨Bs, 0, none⟩ = some (.slice (some ⟨b, off, none⟩) l.length cap)) (hc : ∀ j, j < l.length → W.cell? ⟨b, off + j, none⟩ = some (.string (l.getD j ⟨#[]⟩))) (h0 : J [] W) :
    CallsIn F n Tryz.prog 137 #[.func (.yield r) #[] #[], .pointer (some ⟨Bs, 0, none⟩)] W fun e W' => (∃ v, e = .returned v) ∧
      ((∃ ys, ys = upto l l.length ∧ J ys W') ∨ (∃ pre, (∃ k, k ≤ l.length ∧ pre = upto l k) ∧ Jx pre W')) := by
  refine callsIn_of_wp Tryz.func137 rfl hf ?_ hro
  simp only [Tryz.ntmps137, List.size_toArray, List.length_cons, List.length_nil, Nat.reduceAdd, Nat.reduceSub, Array.replicate_succ, Array.replicate_zero, List.push_toArray, List.append_toArray, List.nil_append, List.cons_append]
  gi_wp2
  gi_loopw [7] (fun i wr => ∃ k : Nat, k ≤ l.length ∧ i = .int .i64 k ∧ J (upto l k) wr ∧ Below n₀ W wr) (fun i _ => l.length - (intOf i).toNat)
  case atStart => exact ⟨0, Nat.zero_le _, rfl, h0, Below.refl _ _⟩
  case round =>
    obtain ⟨k, hk, rfl, hJs, hnx⟩ := hrel
    by_cases hlt : k < l.length
    · have hcx' : wr.cell? ⟨b, off + k, none⟩ = some (.string (l.getD k ⟨#[]⟩)) := (hnx.cell (p := ⟨b, off + k, none⟩) hb).trans (hc k hlt)
      have hup := upto_succ l k
      obtain ⟨x, hx⟩ : ∃ x, x = l.getD k ⟨#[]⟩ := ⟨_, rfl⟩
      rw [← hx] at hcx' hup
      clear hx
      obtain ⟨fn, tmps, assign, body, hy, hR⟩ := hY _ (k, x) wr hJs (by rw [upto_length]; exact hlt)
      dsimp only at hy
      gi_wp2
      refine hR.mono ?_
      rintro e W3 (⟨rfl, hJ3, hk3⟩ | ⟨rfl, hJx3⟩)
      · gi_wp2
        go_roundw
        case rel => exact ⟨k + 1, by omega, by simp, by rw [hup]; exact hJ3, hnx.trans hk3⟩
        case measure => simp [intOf]; omega
      · gi_wp2
        refine bodyPost_ret (results_none rfl _ _ _) rfl ?_
        exact ⟨⟨_, rfl⟩, .inr ⟨_, ⟨k + 1, by omega, hup.symm⟩, hJx3⟩⟩
    · obtain rfl : k = l.length := by omega
      gi_wp2
      go_end0
      exact ⟨⟨_, rfl⟩, .inl ⟨_, rfl, hJs⟩⟩
set_option maxRecDepth 100000 in
set_option maxRecDepth 100000 in
set_option maxHeartbeats 1000000 in
theorem iter_none (F : Fence) (n : Nat) (hf : F.fn 137) (hro : F.round = none) (r Bs cap : Nat) (ao : Option Addr) (J : List (Nat × ByteArray) → World → Prop) (W : World) (hBs : W.cell? ⟨Bs, 0, none⟩ = some (.slice ao 0 cap)) (h0 : J [] W) :
    CallsIn F n Tryz.prog 137 #[.func (.yield r) #[] #[], .pointer (some ⟨Bs, 0, none⟩)] W fun e W' => (∃ v, e = .returned v) ∧ J [] W' := by
  refine callsIn_of_wp Tryz.func137 rfl hf ?_ hro
  simp only [Tryz.ntmps137, List.size_toArray, List.length_cons, List.length_nil, Nat.reduceAdd, Nat.reduceSub, Array.replicate_succ, Array.replicate_zero, List.push_toArray, List.append_toArray, List.nil_append, List.cons_append]
  gi_wp2
  gi_loopw [7] (fun i wr => i = .int .i64 0 ∧ J [] wr) (fun _ _ => 0)
  case atStart => exact ⟨rfl, h0⟩
  case round =>
    obtain ⟨rfl, hJs⟩ := hrel
    gi_wp2
    go_end0
    exact ⟨⟨_, rfl⟩, hJs⟩
/-- The row lies below n₀. -/
def Low (n₀ : Nat) (v : Value) : Prop := ∀ k, Value.n_inBlock v = some k → k < n₀
theorem Rs.low {w : World} {v : Value} {l : List ByteArray} (h : Rs w v l) (h0 : l ≠ []) : Low w.heap.size v := fun k hk => by
  rcases h with ⟨_, e⟩ | ⟨_, _, _, e⟩ | ⟨b, o, c, rfl, hc⟩
  · exact absurd e h0
  · exact absurd e h0
  · have e : b = k := by simpa [Value.n_inBlock] using hk
    subst e
    exact n_lt_of_cell (hc 0 (List.length_pos_iff.2 h0))
/-- What All hands back goes over the texts, each with its number: all of them, or the first k. -/
theorem iter_stops (F : Fence) (n : Nat) (hf : F.fn 137) (hro : F.round = none) (hn : 1 ≤ n) (Bs n₀ : Nat) (sv : Value) (l : List ByteArray) (hl : l.length ≤ 5000) (w : World) (hBs : Bs < w.heap.size) (hn₀ : n₀ ≤ w.heap.size)
    (hc : w.cell? ⟨Bs, 0, none⟩ = some sv) (hI : Rs w sv l) (hlow : l ≠ [] → Low n₀ sv) :
    SeqStopsK F n Tryz.prog 137 #[.pointer (some ⟨Bs, 0, none⟩)] (fun x : Nat × ByteArray => #[Value.int .i64 (x.1 : Int), Value.string x.2]) (Below n₀) (fun ys => ys = upto l l.length)
      (fun pre => ∃ k, k ≤ l.length ∧ pre = upto l k) l.length w := fun r J Jx W hW _ _ hY h0 => by
  have hc' := (hW.cell (p := ⟨Bs, 0, none⟩) hBs).trans hc
  by_cases h0l : l = []
  · subst h0l
    obtain ⟨ao, c, rfl⟩ := hI.shape
    exact (iter_none F n hf hro r Bs c ao J W hc' h0).mono fun e W' ⟨he, hj⟩ => ⟨he, .inl ⟨_, rfl, hj⟩⟩
  · have hlo := hlow h0l
    rcases hI with ⟨_, e⟩ | ⟨_, _, _, e⟩ | ⟨b, off, cap, rfl, hcs⟩
    · exact absurd e h0l
    · exact absurd e h0l
    · have hb := hlo b rfl
      exact iter_some F n hf hro hn r Bs n₀ b off cap l hl hb J Jx hY W hc' (fun j hj => (hW.cell (p := ⟨b, off + j, none⟩) (by show b < w.heap.size; omega)).trans (hcs j hj)) h0
set_option maxRecDepth 100000 in
set_option maxHeartbeats 1000000 in
theorem sall_any (v : Value) (w : World) (hv : ∃ ao n c, v = .slice ao n c) :
    Calls Tryz.prog 101 #[v] w fun e w' => e = .returned (.func (.func 137) #[] #[.pointer (some ⟨w.heap.size, 0, none⟩)]) ∧ w' = w.alloc (.cells #[v] 51) := by
  obtain ⟨ao, n, c, rfl⟩ := hv
  go_enter Tryz.func101, Tryz.ntmps101
  go_wp2
  go_ret
  exact ⟨rfl, rfl⟩
set_option maxRecDepth 100000 in
set_option maxHeartbeats 1000000 in
theorem n_all_any {w : World} {B p q : Nat} {v : Value} {l : List ByteArray} (h : Tb w B p v q l) :
    Calls Tryz.prog 56 #[.pointer (some ⟨p, 0, none⟩)] w fun e w' => e = .returned (.func (.func 137) #[] #[.pointer (some ⟨w.heap.size, 0, none⟩)]) ∧ w' = w.alloc (.cells #[v] 51) := by
  obtain ⟨ao, cap, rfl, _⟩ := h.val
  have c0 := h.c0
  go_enter Tryz.func56, Tryz.ntmps56
  go_wp2_with (go_at_call 101; refine (sall_any _ _ ⟨_, _, _, rfl⟩).mono ?_; rintro e w' ⟨rfl, rfl⟩)
  go_ret
  exact ⟨rfl, rfl⟩
set_option maxRecDepth 100000 in
set_option maxHeartbeats 1000000 in
theorem all_nil (w : World) :
    Calls Tryz.prog 56 #[.pointer none] w fun e w' => e = .returned (.func (.func 137) #[] #[.pointer (some ⟨w.heap.size, 0, none⟩)]) ∧ w' = w.alloc (.cells #[.slice none 0 0] 51) := by
  go_enter Tryz.func56, Tryz.ntmps56
  go_wp2_with (go_at_call 101; refine (sall_any _ _ ⟨_, _, _, rfl⟩).mono ?_; rintro e w' ⟨rfl, rfl⟩)
  go_ret
  exact ⟨rfl, rfl⟩
end Go.Proofs.YtnoggmeffindbabGreatDoor

/- What the law's told does: it goes over a table's names, all of them or the first ones, and gives them as a row of its own. -/
namespace Go.Proofs.YtnoggmeffindbabGreatDoor
open Go.RowKit Go.Shelf

attribute [local go_sem] Oper.semAt_some

/-- The boxes of told's variables between two rounds. -/
def TI (w : World) (stop : Int) (pre : List (Nat × ByteArray)) (W : World) : Prop :=
  (∃ u, Boxed W (w.heap.size + 4) 51 u ∧ W.ownsRow w.heap.size 9 1 u pre.length (pre.map fun x => Value.string x.2) ∧ True) ∧
  (Boxed W w.heap.size 3 (.int .i64 stop) ∧ Boxed W (w.heap.size + 1) 51 (.slice none 0 0) ∧ Boxed W (w.heap.size + 2) 4 (.bool false)) ∧ Below w.heap.size w W
theorem ti_own (w : World) (stop : Int) (B : Nat) (hB : w.heap.size ≤ B) : OwnFrom B (TI w stop) := by
  have h1 : OwnFrom B (fun (pre : List (Nat × ByteArray)) W => ∃ u, Boxed W (w.heap.size + 4) 51 u ∧ W.ownsRow w.heap.size 9 1 u pre.length (pre.map fun x => Value.string x.2) ∧ True) :=
    Own.from (holdsRow_own w.heap.size (w.heap.size + 4) 51 9 1 (fun (pre : List (Nat × ByteArray)) => pre.length) (fun pre => pre.map fun x => Value.string x.2) (fun _ _ => True)) B
  have h2 : OwnFrom B (fun (_ : List (Nat × ByteArray)) W => Boxed W w.heap.size 3 (.int .i64 stop)) := Own.from (boxed_own _ _ (fun _ => Value.int .i64 stop)) B
  have h3 : OwnFrom B (fun (_ : List (Nat × ByteArray)) W => Boxed W (w.heap.size + 1) 51 (.slice none 0 0)) := Own.from (boxed_own _ _ (fun _ => Value.slice none 0 0)) B
  have h4 : OwnFrom B (fun (_ : List (Nat × ByteArray)) W => Boxed W (w.heap.size + 2) 4 (.bool false)) := Own.from (boxed_own _ _ (fun _ => Value.bool false)) B
  exact h1.and ((h2.and (h3.and h4)).and (ownFrom_below (Nat.le_refl _) hB))
/-- A box is kept while a text is appended to the row of another. -/
theorem boxed_appended {W w1 : World} {B B' : Nat} {t : TypeId} {x u v' : Value} {n₀ k : Nat} {xs : List Value} {tmp : Obj} (h : Boxed W B t x) (ht : t ≠ 9) (hne : B ≠ B') (hrow : W.ownsRow n₀ 9 1 u k xs) (hg : (W.alloc tmp).grownBy w1 u.ownBlock) : Boxed (w1.setCell ⟨B', 0, none⟩ v') B t x :=
  ((h.alloc tmp).kept hg (h.not_row ht hrow)).other hne v'
theorem own_shape {W : World} {n₀ : Nat} {e : TypeId} {u : Value} {k : Nat} {xs : List Value} (h : W.ownsRow n₀ e 1 u k xs) : ∃ ao c, u = .slice ao k c := by
  rcases h.2 with ⟨rfl, rfl⟩ | ⟨g, cap, cur, rfl, _⟩
  · exact ⟨none, 0, rfl⟩
  · exact ⟨_, cap, rfl⟩
theorem upto_rows (l : List ByteArray) {k : Nat} (hk : k ≤ l.length) : ((upto l k).map fun x => Value.string x.2) = (l.take k).map Value.string := by
  rw [← upto_texts l hk, List.map_map]
  rfl
/-- The names that are told. -/
def cutL (stop : Int) (l : List ByteArray) : List ByteArray := if 0 < stop then l.take stop.toNat else l
theorem cut_all {stop : Int} (l : List ByteArray) (h : stop ≤ 0 ∨ (l.length : Int) < stop) : cutL stop l = l := by
  unfold cutL
  split
  · exact List.take_of_length_le (by omega)
  · rfl
theorem cut_some {stop : Int} (l : List ByteArray) {k : Nat} (h : (k : Int) = stop) (h0 : 0 < stop) : cutL stop l = l.take k := by
  unfold cutL
  rw [if_pos h0, ← h]
  rfl
theorem boxed_putObj {W : World} {B D : Nat} {t : TypeId} {x : Value} {o o' : Obj} (h : Boxed W B t x) (hD : W.heap[D]? = some o) (ho : o.isCells = false) : Boxed (W.putObj D o') B t x :=
  h.kept (grownBy_putObj' W D o') (fun e => by
    have e' : B = D := by simpa using e
    subst e'
    rw [show W.heap[B]? = _ from h] at hD
    cases hD
    cases ho)
/-- The end of told: the row and 'true' in the results' boxes. -/
theorem told_end {w W : World} {u : Value} {k : Nat} {xs : List Value} {D : Nat} (hrow : W.ownsRow w.heap.size 9 1 u k xs)
    (b1 : Boxed W (w.heap.size + 1) 51 (.slice none 0 0)) (b2 : Boxed W (w.heap.size + 2) 4 (.bool false)) (hB : Below w.heap.size w W) (hD : w.heap.size ≤ D) (hK : W.heap[D]? = some (.deferred (some []))) :
    ((((W.setCell ⟨w.heap.size + 1, 0, none⟩ u).setCell ⟨w.heap.size + 2, 0, none⟩ (.bool true)).putObj D (.deferred none)).cell? ⟨w.heap.size + 1, 0, none⟩ = some u) ∧
    ((((W.setCell ⟨w.heap.size + 1, 0, none⟩ u).setCell ⟨w.heap.size + 2, 0, none⟩ (.bool true)).putObj D (.deferred none)).cell? ⟨w.heap.size + 2, 0, none⟩ = some (.bool true)) ∧
    (((W.setCell ⟨w.heap.size + 1, 0, none⟩ u).setCell ⟨w.heap.size + 2, 0, none⟩ (.bool true)).putObj D (.deferred none)).ownsRow w.heap.size 9 1 u k xs ∧
    Below w.heap.size w (((W.setCell ⟨w.heap.size + 1, 0, none⟩ u).setCell ⟨w.heap.size + 2, 0, none⟩ (.bool true)).putObj D (.deferred none)) ∧
    ((W.setCell ⟨w.heap.size + 1, 0, none⟩ u).setCell ⟨w.heap.size + 2, 0, none⟩ (.bool true)).heap[D]? = some (.deferred (some [])) := by
  have hk1 := (KeepsOthers.setCell W ⟨w.heap.size + 1, 0, none⟩ u).same D _ hK rfl
  have hk2 := (KeepsOthers.setCell (W.setCell ⟨w.heap.size + 1, 0, none⟩ u) ⟨w.heap.size + 2, 0, none⟩ (.bool true)).same D _ hk1 rfl
  have c1 : Boxed ((W.setCell ⟨w.heap.size + 1, 0, none⟩ u).setCell ⟨w.heap.size + 2, 0, none⟩ (.bool true)) (w.heap.size + 1) 51 u := (b1.set u).other (by omega) _
  have c2 : Boxed ((W.setCell ⟨w.heap.size + 1, 0, none⟩ u).setCell ⟨w.heap.size + 2, 0, none⟩ (.bool true)) (w.heap.size + 2) 4 (.bool true) := (b2.other (by omega) u).set _
  have r1 := hrow.kept (grownBy_setCell' W (w.heap.size + 1) u) (.inr (b1.not_row (by decide) hrow).symm)
  have b2' := b2.other (B' := w.heap.size + 1) (by omega) u
  have r2 := r1.kept (grownBy_setCell' _ (w.heap.size + 2) (.bool true)) (.inr (b2'.not_row (by decide) r1).symm)
  refine ⟨(boxed_putObj c1 hk2 rfl).cell, (boxed_putObj c2 hk2 rfl).cell, ownsRow_putObj r2 _ hk2 rfl, ?_, hk2⟩
  exact ((hB.setCell (p := ⟨w.heap.size + 1, 0, none⟩) (by simp) _).setCell (p := ⟨w.heap.size + 2, 0, none⟩) (by simp) _).trans (belowK_b (w := w) (Nat.le_refl _) _ D _ _ hD hk2 rfl rfl)
/-- A function held against nil. -/
theorem func_nil_in {P : Program} (w : World) (d : Nat) (t : TypeId) {x : TypeDesc} (h : P.underlying t = some x) (hx : ∃ a b c, x = .func a b c) (g : Fn) (a b : Array Value) : (Op.equalIn (d + 1) t (.func g a b) .nilFunc).run P w = .ok false w := by
  obtain ⟨x1, x2, x3, rfl⟩ := hx
  simp [Op.equalIn, run_underlying h]
theorem func_nil (w : World) (g : Fn) (a b : Array Value) : (binOp .eql 114 (.func g a b) .nilFunc).run Tryz.prog w = .ok (.bool false) w := by
  simp only [binOp]
  simp [show Op.equal 114 (.func g a b) .nilFunc = Op.equalIn (9999 + 1) 114 (.func g a b) .nilFunc from rfl, func_nil_in w 9999 114 Tryz.underlying114 ⟨_, _, _, rfl⟩]
end Go.Proofs.YtnoggmeffindbabGreatDoor

/- What the reference of layer 3 does, each at every argument: Find, Put, Same, and the question whether an error is just a fault. -/
namespace Go.Proofs.YtnoggmeffindbabGreatDoor
open Go.RowKit Go.Maps

def fltObj (c a : Int) (s : ByteArray) : Obj := .cells #[.int .i64 c, .int .i64 a, .string s, .slice none 0 0] 70
/-- An error asked for the very pointer type that it has. -/
theorem n_assert_ptr {P : Program} (w : World) (t xT e : TypeId) (v : Value) (h : P.underlying t = some (.pointer e)) : (Instr.typeAssert (.iface t v) xT t true).run P w = .ok (.tuple #[v, .bool true]) w := by
  simp [Instr.typeAssert, run_underlying h, go_sem, Result.andThen]
set_option maxRecDepth 100000 in
set_option maxHeartbeats 400000 in
theorem n_is_no (a : Int) (s : ByteArray) (w : World) :
    Calls Tryz.prog 25 #[.nilIface, n_flt 0 a s] w fun e w' => e = .returned (.bool true) ∧ Below w.heap.size w w' := by
  go_enter Tryz.func25, Tryz.ntmps25
  go_wp2
  go_loop [0] (fun e => e = .nilIface) (fun _ => 0)
  case atStart => rfl
  case round =>
    subst hrel
    go_wp2
    go_ret
    exact ⟨rfl, (Below.refl _ _).alloc (Nat.le_refl _) _⟩
set_option maxRecDepth 100000 in
set_option maxRecDepth 100000 in
set_option maxHeartbeats 1000000 in
theorem n_is_yes (c a : Int) (s : ByteArray) (b : Nat) (w : World) (hc : (c == 0) = false) (hb : w.heap[b]? = some (n_faultObj c a s)) :
    Calls Tryz.prog 25 #[.iface 126 (.pointer (some ⟨b, 0, none⟩)), n_flt c a s] w fun e w' => e = .returned (.bool true) ∧ Below w.heap.size w w' := by
  have hlt : b < w.heap.size := lt_of_block hb
  have h0 : w.cell? ⟨b, 0, none⟩ = some (.int .i64 c) := by simp [World.cell?, hb, n_faultObj]
  have h1 : w.cell? ⟨b, 1, none⟩ = some (.int .i64 a) := by simp [World.cell?, hb, n_faultObj]
  have h2 : w.cell? ⟨b, 2, none⟩ = some (.string s) := by simp [World.cell?, hb, n_faultObj]
  have h3 : w.cell? ⟨b, 3, none⟩ = some .nilIface := by simp [World.cell?, hb, n_faultObj]
  clear hb
  have hta := fun (w : World) (v : Value) => n_assert_ptr (P := Tryz.prog) w 126 37 129 v Tryz.underlying126
  go_enter Tryz.func25, Tryz.ntmps25
  go_wp2
  go_loop [0] (fun e => e = .iface 126 (.pointer (some ⟨b, 0, none⟩))) (fun _ => 0)
  case atStart => rfl
  case round =>
    subst hrel
    go_wp2
    go_quiet (fail)
    go_wp2
    go_ret
    exact ⟨rfl, below_drewN ((Below.refl _ _).alloc (Nat.le_refl _) _) _⟩
theorem n_is_any {w : World} {e : Value} {c a : Int} {s : ByteArray} (h : n_Err w e c a s) :
    Calls Tryz.prog 25 #[e, n_flt c a s] w fun e w' => e = .returned (.bool true) ∧ Below w.heap.size w w' := by
  rcases h with ⟨rfl, rfl⟩ | ⟨hc, b, rfl, hb⟩
  · exact n_is_no a s w
  · exact n_is_yes c a s b w (by simpa using hc) hb
theorem idx_first : ∀ {l : List ByteArray} {s : ByteArray} {k : Nat}, inL (l.take k) s = false → l[k]? = some s → idx l s = k
  | [], s, k, _, h => by simp at h
  | x :: r, s, 0, _, h => by
    have e : x = s := by simpa using h
    simp [idx, e]
  | x :: r, s, k + 1, h, h' => by
    simp only [List.take_succ_cons, inL, List.any_cons, Bool.or_eq_false_iff, decide_eq_false_iff_not] at h
    have := idx_first (l := r) (s := s) (k := k) h.2 (by simpa using h')
    simp only [idx, if_neg h.1, this]
theorem toList_dataR (a : ByteArray) : a.toList = a.data.toList := ByteArray.toList_eq a
theorem toList_neR {a b : ByteArray} (h : a ≠ b) : (a.toList == b.toList) = false := by
  rw [toList_dataR, toList_dataR]
  exact beq_eq_false_iff_ne.2 (fun e => h (ByteArray.ext (Array.toList_inj.1 e)))
theorem flt_facts {w : World} {q : Nat} {c a : Int} {s : ByteArray} (h : w.heap[q]? = some (fltObj c a s)) : (w.cell? ⟨q, 0, none⟩ = some (.int .i64 c) ∧ w.cell? ⟨q, 1, none⟩ = some (.int .i64 a) ∧ w.cell? ⟨q, 2, none⟩ = some (.string s) ∧ w.cell? ⟨q, 3, none⟩ = some (.slice none 0 0)) ∧
    (w.frozen? ⟨q, 0, none⟩ = false ∧ w.frozen? ⟨q, 1, none⟩ = false ∧ w.frozen? ⟨q, 2, none⟩ = false ∧ w.frozen? ⟨q, 3, none⟩ = false) := by
  refine ⟨⟨?_, ?_, ?_, ?_⟩, ?_, ?_, ?_, ?_⟩ <;> simp [World.cell?, World.frozen?, h, fltObj]
/-- The world behind the store of a fault into the result's block. -/
abbrev fltEnd (w : World) (q : Nat) (c a : Int) (s : ByteArray) (o : Obj) : World :=
  ((((w.setCell ⟨q, 0, none⟩ (.int .i64 c)).setCell ⟨q, 1, none⟩ (.int .i64 a)).setCell ⟨q, 2, none⟩ (.string s)).setCell ⟨q, 3, none⟩ (.slice none 0 0)).alloc o
theorem flt_end {w : World} {q : Nat} {c a c' a' : Int} {s s' : ByteArray} {o : Obj} (h : w.heap[q]? = some (fltObj c a s)) : (fltEnd w q c' a' s' o).heap[q]? = some (fltObj c' a' s') := by
  have h0 := heap_setCell_same w q 0 _ _ (.int .i64 c') h
  have h1 := heap_setCell_same _ q 1 _ _ (.int .i64 a') h0
  have h2 := heap_setCell_same _ q 2 _ _ (.string s') h1
  have h3 := heap_setCell_same _ q 3 _ _ (.slice none 0 0) h2
  rw [fltEnd, Below.heap_alloc _ _ _ (lt_of_block h3), h3]
  rfl
theorem flt_mod {w : World} {q : Nat} {c' a' : Int} {s' : ByteArray} {o : Obj} : n_Mod [q] w (fltEnd w q c' a' s' o) :=
  (((((n_Mod.refl [q] w).setCell (p := ⟨q, 0, none⟩) (Or.inl (by simp)) _).setCell (p := ⟨q, 1, none⟩) (Or.inl (by simp)) _).setCell (p := ⟨q, 2, none⟩) (Or.inl (by simp)) _).setCell (p := ⟨q, 3, none⟩) (Or.inl (by simp)) _).alloc o
theorem ret_flt3 {w : World} {fn : Func} {r t u : Tmp} (hfn : fn.results = #[.tmp r, .tmp t, .cell u 70]) {tmps : Array Value} {q : Nat} {c a : Int} {s : ByteArray} {x y : Value} (hr : tmps[r]?.getD undef = x) (ht : tmps[t]?.getD undef = y) (hu : tmps[u]?.getD undef = .pointer (some ⟨q, 0, none⟩)) (hq : w.heap[q]? = some (fltObj c a s)) :
    (results fn tmps).run Tryz.prog w = .ok (.tuple #[x, y, n_flt c a s]) w := by
  obtain ⟨⟨z0, z1, z2, z3⟩, _⟩ := flt_facts hq
  simp [results, hfn, go_sem, n_flt, hr, ht, hu, z0, z1, z2, z3]
theorem n_own_below {w w' : World} {B : Nat} {e : TypeId} {v : Value} {n : Nat} {xs : List Value} (h : w.ownsRow B e 1 v n xs) (hm : Below w.heap.size w w') : w'.ownsRow B e 1 v n xs := own_keep (ks := []) h (n_Mod.ofBelow hm) (by simp)
theorem two_new (w : World) (o o' : Obj) : ((w.alloc o).alloc o').heap[w.heap.size]? = some o := by
  rw [Below.heap_alloc (w.alloc o) o' w.heap.size (by simp)]
  exact heap_alloc_new w o
/-- What the reference's Put leaves of its list. -/
structure RUpd (w w' : World) (B : Nat) (v : Value) (l' : List ByteArray) (v' : Value) : Prop where
  own : w'.ownsRow B 9 1 v' l'.length (l'.map Value.string)
  mod : n_Mod v.ownBlock.toList w w'
  nx : n_Nx w v v'
end Go.Proofs.YtnoggmeffindbabGreatDoor

/- The reference's Put at every text; two rows of texts that are the same. -/
namespace Go.Proofs.YtnoggmeffindbabGreatDoor
open Go.RowKit Go.Maps

theorem RUpd.same {w w' : World} {B : Nat} {v : Value} {l : List ByteArray} (h : w.ownsRow B 9 1 v l.length (l.map Value.string)) (hb : Below w.heap.size w w') : RUpd w w' B v l v := ⟨n_own_below h hb, n_Mod.ofBelow hb, n_Nx.refl _ _⟩
theorem n_own_row {w : World} {B : Nat} {e : TypeId} {v : Value} {n : Nat} {xs : List Value} (h : w.ownsRow B e 1 v n xs) {k : Nat} (hk : v.ownBlock = some k) : B ≤ k ∧ k < w.heap.size := h.lt k hk
theorem rput_upd {w w4 : World} {B g cap : Nat} {v : Value} {l : List ByteArray} {s : ByteArray} {o o' o'' : Obj} (h : w.ownsRow B 9 1 v l.length (l.map Value.string))
    (hown : w4.ownsRow B 9 1 (.slice (some ⟨g, 0, none⟩) (l.length + 1) cap) (l.length + 1) ((l ++ [s]).map Value.string)) (hg : ((w.alloc o).alloc o').grownBy w4 v.ownBlock) (hat : v.ownBlock = some g ∨ g = ((w.alloc o).alloc o').heap.size) :
    RUpd w (fltEnd w4 w.heap.size 0 0 ⟨#[]⟩ o'') B v (l ++ [s]) (.slice (some ⟨g, 0, none⟩) (l.length + 1) cap) := by
  have hgq : g ≠ w.heap.size := by
    rcases hat with e | e
    · have := (n_own_row h e).2
      omega
    · simp at e
      omega
  have hM : n_Mod v.ownBlock.toList w w4 := (((n_Mod.refl _ w).alloc o).alloc o').grown hg (fun k e => Or.inl (by simp [e]))
  refine ⟨?_, hM.trans flt_mod (fun x hx => Or.inr (by simp at hx; omega)), fun k hk => ?_⟩
  · rw [List.length_append]
    exact own_keep hown flt_mod (fun k hk e => by
      simp at hk
      subst hk
      exact hgq (by simpa [Value.ownBlock] using e))
  · have hk' : k = g := by simpa [Value.ownBlock] using hk.symm
    subst hk'
    rcases hat with e | e
    · exact Or.inl e
    · simp at e
      exact Or.inr (by omega)
theorem one_at1 (w : World) (o : Obj) (s : ByteArray) : ∀ j u, [Value.string s][j]? = some u → ((w.alloc o).alloc (.cells #[.string s] 9)).cell? ((⟨w.heap.size + 1, 0, none⟩ : Addr).add j) = some u := by
  have h := cell_one_new (w.alloc o) (.string s) 9
  rw [World.size_alloc] at h
  exact h
set_option maxRecDepth 100000 in
set_option maxHeartbeats 1000000 in
theorem n_same_some (b o c b' o' c' : Nat) (l : List ByteArray) (w : World) (hl : l.length ≤ 5000) (hc : ∀ j, j < l.length → w.cell? ⟨b, o + j, none⟩ = some (.string (l.getD j ⟨#[]⟩))) (hc' : ∀ j, j < l.length → w.cell? ⟨b', o' + j, none⟩ = some (.string (l.getD j ⟨#[]⟩))) :
    Calls Tryz.prog 22 #[.slice (some ⟨b, o, none⟩) l.length c, .slice (some ⟨b', o', none⟩) l.length c'] w fun e w' => e = .returned (.bool true) ∧ ∃ d, w' = w.drewN d := by
  go_enter Tryz.func22, Tryz.ntmps22
  go_wp2
  go_loopw [5] (fun i wr => ∃ k : Nat, k ≤ l.length ∧ i = .int .i64 k ∧ ∃ d, wr = w.drewN d) (fun i _ => l.length - (intOf i).toNat)
  case atStart => exact ⟨0, Nat.zero_le _, rfl, 0, rfl⟩
  case round =>
    obtain ⟨k, hk, rfl, d, rfl⟩ := hrel
    by_cases hlt : k < l.length
    · have h1 := hc k hlt
      have h2 := hc' k hlt
      obtain ⟨x, hx⟩ : ∃ x, x = l.getD k ⟨#[]⟩ := ⟨_, rfl⟩
      rw [← hx] at h1 h2
      clear hc hc' hx
      have hk0 : (0 : Int) ≤ (k : Int) := by omega
      have hlt' : (k : Int) < (l.length : Int) := by omega
      go_wp2
      go_quiet (fail)
      go_wp2
      go_roundw
      case rel => exact ⟨k + 1, by omega, by go_num, _, rfl⟩
      case measure => simp [intOf]; omega
    · have hlt' : ¬ (k : Int) < (l.length : Int) := by omega
      go_wp2
      go_ret
      exact ⟨rfl, d, rfl⟩
set_option maxRecDepth 100000 in
set_option maxHeartbeats 400000 in
theorem n_same_none (ao ao' : Option Addr) (c c' : Nat) (w : World) :
    Calls Tryz.prog 22 #[.slice ao 0 c, .slice ao' 0 c'] w fun e w' => e = .returned (.bool true) ∧ w' = w := by
  go_enter Tryz.func22, Tryz.ntmps22
  go_wp2
  refine wp_loop_rounds 1 ?_
  rw [rounds_succ]
  go_wp2
  go_ret
  exact ⟨rfl, rfl⟩
theorem n_same_any {w : World} {u u' : Value} {l : List ByteArray} (h : Rs w u l) (h' : Rs w u' l) (hl : l.length ≤ 5000) :
    Calls Tryz.prog 22 #[u, u'] w fun e w' => e = .returned (.bool true) ∧ Below w.heap.size w w' := by
  by_cases h0 : l = []
  · subst h0
    obtain ⟨ao, c, rfl⟩ := h.shape
    obtain ⟨ao', c', rfl⟩ := h'.shape
    exact (n_same_none ao ao' c c' w).mono fun e w' ⟨he, hw⟩ => ⟨he, by rw [hw]; exact Below.refl _ _⟩
  · rcases h with ⟨_, h1⟩ | ⟨_, _, _, h1⟩ | ⟨b, o, c, rfl, hc⟩
    · exact absurd h1 h0
    · exact absurd h1 h0
    · rcases h' with ⟨_, h1⟩ | ⟨_, _, _, h1⟩ | ⟨b', o', c', rfl, hc'⟩
      · exact absurd h1 h0
      · exact absurd h1 h0
      · exact (n_same_some b o c b' o' c' l w hl hc hc').mono fun e w' ⟨he, d, hw⟩ => ⟨he, by rw [hw]; exact below_drewN (Below.refl _ _) d⟩
end Go.Proofs.YtnoggmeffindbabGreatDoor

/- A table and a list of the reference's, side by side. -/
namespace Go.Proofs.YtnoggmeffindbabGreatDoor
open Go.RowKit Go.Maps

/-- A table with the names l and a row that tells the texts m, in memory of their own. -/
structure n_Two (w : World) (B p : Nat) (v : Value) (q : Nat) (l : List ByteArray) (u : Value) (m : List ByteArray) : Prop where
  tb : Tb w B p v q l
  own : w.ownsRow B 9 1 u m.length (m.map Value.string)
  dj : ∀ k, u.ownBlock = some k → k ∉ n_foot p v q
section
variable {w w' : World} {B p q : Nat} {v v' u u' : Value} {l l' m m' : List ByteArray}
theorem Tb.foot_lt (h : Tb w B p v q l) : ∀ k ∈ n_foot p v q, k < w.heap.size := fun k hk => by
  rcases n_mem_foot.1 hk with rfl | rfl | hk
  · exact h.lt
  · exact h.mlt
  · exact (h.row hk).2.1
theorem Tb.foot_base (h : Tb w B p v q l) : ∀ k ∈ n_foot p v q, B ≤ k := fun k hk => by
  rcases n_mem_foot.1 hk with rfl | rfl | hk
  · exact h.base
  · exact h.mbase
  · exact (h.row hk).1
theorem foot_nx (h : Tb w B p v q l) (hn : n_Nx w v v') : ∀ k ∈ n_foot p v' q, k ∈ n_foot p v q ∨ w.heap.size ≤ k := fun k hk => by
  rcases n_mem_foot.1 hk with rfl | rfl | hk
  · exact Or.inl (n_mem_foot.2 (Or.inl rfl))
  · exact Or.inl (n_mem_foot.2 (Or.inr (Or.inl rfl)))
  · rcases hn k hk with e | e
    · exact Or.inl (n_mem_foot.2 (Or.inr (Or.inr e)))
    · exact Or.inr e
theorem n_Two.put (h : n_Two w B p v q l u m) (hU : n_Upd w w' B p v q l' v') : n_Two w' B p v' q l' u m := by
  refine ⟨hU.tb, own_keep h.own hU.mod (fun k hk e => h.dj k e hk), fun k e hk => ?_⟩
  rcases foot_nx h.tb hU.nx k hk with h1 | h1
  · exact h.dj k e h1
  · have := (n_own_row h.own e).2
    omega
theorem n_Two.rput (h : n_Two w B p v q l u m) (hU : RUpd w w' B u m' u') : n_Two w' B p v q l u' m' := by
  refine ⟨h.tb.keep hU.mod (fun k hk hf => h.dj k (by simpa using hk) hf), hU.own, fun k e hk => ?_⟩
  rcases hU.nx k e with h1 | h1
  · exact h.dj k h1 hk
  · have := h.tb.foot_lt k hk
    omega
theorem n_Two.below (h : n_Two w B p v q l u m) (hb : Below w.heap.size w w') : n_Two w' B p v q l u m := ⟨h.tb.below hb, n_own_below h.own hb, h.dj⟩
theorem n_Two.alloc (h : n_Two w B p v q l u m) (o : Obj) : n_Two (w.alloc o) B p v q l u m := h.below (n_below_alloc _ _)
theorem RUpd.below (h : RUpd w w' B u m' u') (hown : w.ownsRow B 9 1 u m.length (m.map Value.string)) (hB : B ≤ w.heap.size) : Below B w w' :=
  h.mod.below (fun k hk => (n_own_row hown (by simpa using hk)).1) hB
theorem n_Err.row {e : Value} {c a : Int} {s : ByteArray} (h : n_Err w e c a s) (hown : w.ownsRow B 9 1 u m.length (m.map Value.string)) (hm : n_Mod u.ownBlock.toList w w') : n_Err w' e c a s := by
  rcases h with h | ⟨hc, b, rfl, hb⟩
  · exact Or.inl h
  · refine Or.inr ⟨hc, b, rfl, ?_⟩
    rw [hm.block b (lt_of_block hb) (fun hx => ?_)]
    · exact hb
    · rcases hown.2 with ⟨rfl, _⟩ | ⟨g, cap, cur, rfl, _, hg, _⟩
      · simp [Value.ownBlock] at hx
      · have e : b = g := by simpa [Value.ownBlock] using hx
        subst e
        rw [hg] at hb
        simp [n_faultObj] at hb
theorem rupd_append {w1 : World} {g cap : Nat} {s : ByteArray} {o : Obj}
    (hown : w1.ownsRow B 9 1 (.slice (some ⟨g, 0, none⟩) (m.length + 1) cap) (m.length + 1) ((m ++ [s]).map Value.string)) (hg : (w.alloc o).grownBy w1 u.ownBlock) (hat : u.ownBlock = some g ∨ (g = (w.alloc o).heap.size ∧ (w.alloc o).grownBy w1 none)) :
    RUpd w w1 B u (m ++ [s]) (.slice (some ⟨g, 0, none⟩) (m.length + 1) cap) := by
  refine ⟨by rw [List.length_append]; exact hown, ((n_Mod.refl _ w).alloc o).grown hg (fun k e => Or.inl (by simp [e])), fun k hk => ?_⟩
  have hk' : k = g := by simpa [Value.ownBlock] using hk.symm
  subst hk'
  rcases hat with e | ⟨e, _⟩
  · exact Or.inl e
  · simp at e
    exact Or.inr (by omega)
end
end Go.Proofs.YtnoggmeffindbabGreatDoor

/- What Copy of package names does: a table of its own with the same names and numbers. -/
namespace Go.Proofs.YtnoggmeffindbabGreatDoor
open Go.RowKit Go.Maps

/-- The shelf's numbers for maps.Clone, at this program. -/
def mcRen : Go.Shelf.Ren := ⟨fun n => if n = 5 then 127 else 151, fun n => if n = 23 then 162 else if n = 25 then 9 else n, fun n => n⟩
theorem mcLays : SlLaysW.n5 Tryz.prog mcRen :=
  ⟨(by kernel_rfl), ⟨Tryz.f127.name, (by kernel_rfl), (by kernel_rfl)⟩, (by kernel_rfl), (by kernel_rfl), (fun _ => by kernel_rfl), (fun _ => by kernel_rfl), (fun _ => by kernel_rfl), (by kernel_rfl), (fun _ => by kernel_rfl), (fun _ => by kernel_rfl),
    (fun _ => by kernel_rfl), (by kernel_rfl), (fun _ => by kernel_rfl), (fun _ => by kernel_rfl), (fun _ => by kernel_rfl)⟩
theorem mclone_any {w : World} {q n : Nat} {D : DataW Unit} (h : w.ownsMap Tryz.prog 9 (plainElem Tryz.prog 3) q n D) :
    Calls Tryz.prog 127 #[.map (some q)] w fun e w' => e = .returned (.map (some w.heap.size)) ∧ w'.ownsMap Tryz.prog 9 (plainElem Tryz.prog 3) w.heap.size n D ∧ Below w.heap.size w w' :=
  (AnyW.maps_Clone_owns mcLays 9 (plainElem Tryz.prog 3) q n D w h).mono fun _ _ ⟨h1, h2, _, h4⟩ => ⟨h1, h2, h4⟩
theorem strs_one (l : List ByteArray) : ∀ u ∈ l.map Value.string, u.oneCell' = true := fun u hu => by
  obtain ⟨s, _, rfl⟩ := List.mem_map.1 hu
  simp [Value.oneCell']
/-- A slice held against nil. -/
theorem slice_nil_in {P : Program} (w : World) (d : Nat) (t : TypeId) {e : TypeId} (h : P.underlying t = some (.slice e)) (ao : Option Addr) (n c : Nat) : (Op.equalIn (d + 1) t (.slice ao n c) (.slice none 0 0)).run P w = .ok ao.isNone w := by
  cases ao <;> simp [Op.equalIn, run_underlying h]
theorem slice_nil (w : World) (ao : Option Addr) (n c : Nat) : (binOp .eql 51 (.slice ao n c) (.slice none 0 0)).run Tryz.prog w = .ok (.bool ao.isNone) w := by
  simp only [binOp]
  simp [show Op.equal 51 (.slice ao n c) (.slice none 0 0) = Op.equalIn (9999 + 1) 51 (.slice ao n c) (.slice none 0 0) from rfl, slice_nil_in w 9999 51 Tryz.underlying51]
set_option maxRecDepth 100000 in
set_option maxHeartbeats 1000000 in
theorem slclone_any {w : World} {B : Nat} {v : Value} {l : List ByteArray} (h : w.ownsRow B 9 1 v l.length (l.map Value.string)) (hl : l.length ≤ 1024) :
    Calls Tryz.prog 126 #[v] w fun e w' => ∃ v', e = .returned v' ∧ w'.ownsRow w.heap.size 9 1 v' l.length (l.map Value.string) ∧ Below w.heap.size w w' := by
  obtain ⟨i0, hi, hz0, hz1, hz2⟩ := info_parts infoS
  have h0 := h
  rcases h.2 with ⟨rfl, hn⟩ | ⟨g, cap, cur, rfl, _⟩
  · have hl0 : l = [] := List.eq_nil_of_length_eq_zero hn
    subst hl0
    have hsn := fun w : World => slice_nil w none 0 0
    go_enter Tryz.func126, Tryz.ntmps126
    go_wp2
    go_ret
    exact ⟨_, rfl, World.ownsRow_nil _ _ _ _, Below.refl _ _⟩
  · have hnews : ∀ j u, (l.map Value.string)[j]? = some u → (w.alloc (.cells #[] 9)).cell? ((⟨g, 0, none⟩ : Addr).add j) = some u := fun j u hj => by
      exact ((h0.alloc (.cells #[] 9)).cells (g := g) rfl) j u hj
    have hown : (w.alloc (.cells #[] 9)).ownsRow w.heap.size 9 1 (.slice (some ⟨w.heap.size, 0, none⟩) 0 0) 0 [] := ⟨rfl, Or.inr ⟨w.heap.size, 0, #[], rfl, Nat.le_refl _, heap_alloc_new w _, Nat.le_refl _, Nat.zero_le _, rfl, rfl⟩⟩
    have hsn := fun w : World => slice_nil w (some ⟨g, 0, none⟩) l.length cap
    clear h h0
    go_enter Tryz.func126, Tryz.ntmps126
    go_wp2_with (at_builtin; refine wpList_append_own _ rfl _ _ 51 rfl w.heap.size 9 i0 (.string ⟨#[]⟩) 1 16 Tryz.underlying51 hi hz0 hz1 hz2 rfl (by decide) (.slice (some ⟨w.heap.size, 0, none⟩) 0 0) 0 [] rfl hown ⟨g, 0, none⟩ l.length cap (l.map Value.string) rfl (by simp) hnews (strs_one l) (by unfold maxLen; omega) (by omega) (by simp) ?_; intro v' w1 hown' hgrow _)
    go_ret
    refine ⟨v', rfl, by simpa using hown', ?_⟩
    exact (n_below_alloc w _).grown hgrow (by simp) (fun k e => by
      have e' : k = w.heap.size := by simpa [Value.ownBlock] using e.symm
      omega)
theorem map_below {w w' : World} {q n : Nat} {D : DataW Unit} (h : w.ownsMap Tryz.prog 9 (plainElem Tryz.prog 3) q n D) (hm : Below w.heap.size w w') : w'.ownsMap Tryz.prog 9 (plainElem Tryz.prog 3) q n D := map_keep (ks := []) h (n_Mod.ofBelow hm) (by simp)
theorem n_undr {w w' : World} (h : Below w.drew.heap.size w.drew w') : Below w.heap.size w w' := ⟨h.os, h.tape, h.output, h.size, h.block⟩
/-- The copy. -/
theorem copy_tb {w w3 : World} {B B1 B2 p q q' : Nat} {v v' : Value} {l : List ByteArray} {D : DataW Unit} (h : Tb w B p v q l) (ho : w3.ownsRow B1 9 1 v' l.length (l.map Value.string)) (hm : w3.ownsMap Tryz.prog 9 (plainElem Tryz.prog 3) q' l.length D) (hO : MapOf l D) (h1 : B2 ≤ B1) (h2 : B2 ≤ q') (h3 : B2 ≤ w3.heap.size) :
    Tb (w3.alloc (.cells #[v', .map (some q')] 164)) B2 w3.heap.size v' q' l :=
  ⟨heap_alloc_new w3 _, h3, n_own_base (n_own_below ho (n_below_alloc _ _)) h1, h2, ⟨D, hm.alloc _, hO⟩, h.len, h.good, h.nodup⟩
set_option maxRecDepth 100000 in
set_option maxRecDepth 100000 in
set_option maxHeartbeats 2000000 in
theorem copy_any {w : World} {B p q : Nat} {v : Value} {l : List ByteArray} (h : Tb w B p v q l) :
    Calls Tryz.prog 87 #[.pointer (some ⟨p, 0, none⟩)] w fun e w' => ∃ p' v' q', e = .returned (.pointer (some ⟨p', 0, none⟩)) ∧ Tb w' w.heap.size p' v' q' l ∧ Below w.heap.size w w' := by
  have c0 := h.c0
  have c1 := h.c1
  have hlen := h.len
  obtain ⟨D, hD, hO⟩ := h.map
  have hown := h.own
  obtain ⟨ao, c, rfl⟩ := own_shape hown
  have hp := h.lt
  have hb : Below w.heap.size w w := Below.refl _ _
  go_enter Tryz.func87, Tryz.ntmps87
  go_wp2
  go_region_held3 (fun w' => w'.cell? ⟨p, 0, none⟩ = some (.slice ao l.length c) ∧ w'.cell? ⟨p, 1, none⟩ = some (.map (some q))) (first | exact ⟨c0, c1⟩ | go_keep)
    (first
      | (go_at_call 126; refine Calls.mono (slclone_any (B := B) (by exact hown) hlen) ?_; rintro e w4 ⟨v', rfl, ho, hN⟩; (try replace hN := n_undr hN); replace c0 := (hN.cell (p := ⟨p, 0, none⟩) (Nat.lt_of_lt_of_le hp hb.size)).trans c0; replace c1 := (hN.cell (p := ⟨p, 1, none⟩) (Nat.lt_of_lt_of_le hp hb.size)).trans c1; have z4 := hb.size; replace hb := hb.trans (hN.mono z4); (try replace hD := map_below hD hN); (try replace hm := map_below hm hN); obtain ⟨ao', c', rfl⟩ := own_shape ho)
      | (go_at_call 127; refine Calls.mono (mclone_any (n := l.length) (D := D) (by exact hD)) ?_; rintro e w5 ⟨rfl, hm, hN⟩; (try replace hN := n_undr hN); replace c0 := (hN.cell (p := ⟨p, 0, none⟩) (Nat.lt_of_lt_of_le hp hb.size)).trans c0; replace c1 := (hN.cell (p := ⟨p, 1, none⟩) (Nat.lt_of_lt_of_le hp hb.size)).trans c1; have z5 := hb.size; replace hb := hb.trans (hN.mono z5); (try replace hown := n_own_below hown hN); (try replace ho := n_own_below ho hN)))
  all_goals go_wp2
  all_goals go_ret
  all_goals exact ⟨_, _, _, rfl, copy_tb h ho hm hO (by first | omega | (simp; done) | (simp; omega)) (by first | omega | (simp; done) | (simp; omega)) hb.size, hb.alloc hb.size _⟩
end Go.Proofs.YtnoggmeffindbabGreatDoor

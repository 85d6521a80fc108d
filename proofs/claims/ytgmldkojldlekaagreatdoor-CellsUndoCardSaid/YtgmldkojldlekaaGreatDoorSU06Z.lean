/- What the law's told does: it goes over a table's names, all of them or the first ones, and gives them as a row of its own. -/
import Derived.RangeFuncNested
import Derived.RangeFuncBound
import Derived.Maps.AppendAt
import Derived.Deep.QuietTactic
import Derived.BigQuiet
import Derived.Test.YtgmldkojldlekaaGreatDoorSU05Z
import Derived.Test.YtgmldkojldlekaaGreatDoorSU04Z
import Derived.Test.YtgmldkojldlekaaGreatDoorSU02Z
import Derived.Test.YtgmldkojldlekaaGreatDoorSU00Z
namespace Go.Proofs.YtgmldkojldlekaaGreatDoor
open Go.RowKit Go.Shelf
attribute [local go_sem] Oper.semAt_some
theorem own_shape {W : World} {n₀ : Nat} {e : TypeId} {u : Value} {k : Nat} {xs : List Value} (h : W.ownsRow n₀ e 1 u k xs) : ∃ ao c, u = .slice ao k c := by
  rcases h.2 with ⟨rfl, rfl⟩ | ⟨g, cap, cur, rfl, _⟩
  · exact ⟨none, 0, rfl⟩
  · exact ⟨_, cap, rfl⟩
theorem upto_rows (l : List ByteArray) {k : Nat} (hk : k ≤ l.length) : ((upto l k).map fun x => Value.string x.2) = (l.take k).map Value.string := by
  rw [← upto_texts l hk, List.map_map]
  rfl
end Go.Proofs.YtgmldkojldlekaaGreatDoor

namespace Go.Proofs.YtgmldkojldlekaaGreatDoor
open Go.RowKit
structure Opd where
  kd : Int
  g : Gf
  a : Int
  b : Int
def od0 : Opd := ⟨0, gf0, 0, 0⟩
def OpAt (w : World) (b o : Nat) (nv rv : Value) (x : Opd) : Prop :=
  w.cell? ⟨b, o, none⟩ = some (.int .i64 x.kd) ∧ w.cell? ⟨b, o + 1, none⟩ = some nv ∧ w.cell? ⟨b, o + 2, none⟩ = some rv ∧ w.cell? ⟨b, o + 3, none⟩ = some (.int .i64 x.a) ∧ w.cell? ⟨b, o + 4, none⟩ = some (.int .i64 x.b) ∧ Gr w nv rv x.g ∧ Sized x.g
def Rop (w : World) (v : Value) (os : List Opd) : Prop :=
  ∃ ao c, v = .slice ao os.length c ∧ ∀ j, j < os.length → ∃ b o nv rv, ao = some ⟨b, o, none⟩ ∧ OpAt w b (o + j * 5) nv rv (os.getD j od0)
theorem OpAt.below {w w' : World} {b o : Nat} {nv rv : Value} {x : Opd} (h : OpAt w b o nv rv x) (hb : Below w.heap.size w w') : OpAt w' b o nv rv x := by
  obtain ⟨h0, h1, h2, h3, h4, h5, h6⟩ := h
  have k : ∀ {i : Nat} {u : Value}, w.cell? ⟨b, i, none⟩ = some u → w'.cell? ⟨b, i, none⟩ = some u := fun {i u} h => (hb.cell (p := ⟨b, i, none⟩) (lt_of_cell h)).trans h
  exact ⟨k h0, k h1, k h2, k h3, k h4, h5.below hb, h6⟩
theorem Rop.below {w w' : World} {v : Value} {os : List Opd} (h : Rop w v os) (hb : Below w.heap.size w w') : Rop w' v os := by
  obtain ⟨ao, c, e, h⟩ := h
  refine ⟨ao, c, e, fun j hj => ?_⟩
  obtain ⟨b, o, nv, rv, e, h⟩ := h j hj
  exact ⟨b, o, nv, rv, e, h.below hb⟩
abbrev opV (kd : Int) (nv rv : Value) (a b : Int) : Value := .agg #[.int .i64 kd, nv, rv, .int .i64 a, .int .i64 b]
end Go.Proofs.YtgmldkojldlekaaGreatDoor

namespace Go.Proofs.YtgmldkojldlekaaGreatDoor
open Go.RowKit Go.Shelf
attribute [local go_sem] Oper.semAt_some
def encA (x : Nat × ByteArray) : Array Value := #[.int .i64 (x.1 : Int), .string x.2]
def nextA (l : List ByteArray) (pre : List (Nat × ByteArray)) (x : Nat × ByteArray) (_ : World) : Prop := pre = upto l pre.length ∧ pre.length < l.length ∧ x = (pre.length, l.getD pre.length ⟨#[]⟩)
set_option maxRecDepth 100000 in
set_option maxHeartbeats 4000000 in
theorem sall_tells0 (ao : Option Addr) (c N B Bs : Nat) (w : World) (hBs : w.heap[Bs]? = some (.cells #[.slice ao 0 c] 41)) :
    TellsP N Tryz.prog 91 #[.pointer (some ⟨Bs, 0, none⟩)] encA B (fun k => k = Bs) (nextA []) (fun xs => xs = []) w := by
  intro lp J Jx W hW hBW hJ hJx hY h0
  have hbx : W.heap[Bs]? = some (.cells #[.slice ao 0 c] 41) := (hW.block _ (lt_of_block hBs)).trans hBs
  have hcb : W.cell? ⟨Bs, 0, none⟩ = some (.slice ao 0 c) := by simp [World.cell?, hbx]
  refine callsIn_of_wp Tryz.func91 rfl trivial ?_ rfl
  simp only [Tryz.ntmps91, List.size_toArray, List.length_cons, List.length_nil, Nat.reduceAdd, Nat.reduceSub, Array.replicate_succ, Array.replicate_zero, List.push_toArray, List.append_toArray, List.nil_append, List.cons_append]
  gi_wp2
  gi_loopw [7] (fun i wr => i = .int .i64 0 ∧ J [] wr) (fun _ _ => 0)
  case atStart => exact ⟨rfl, h0⟩
  case round =>
    obtain ⟨rfl, hJs⟩ := hrel
    gi_wp2
    go_end0
    exact ⟨⟨_, rfl⟩, .inl ⟨_, rfl, hJs⟩⟩
end Go.Proofs.YtgmldkojldlekaaGreatDoor

namespace Go.Proofs.YtgmldkojldlekaaGreatDoor
open Go.RowKit
def tellsB (n : Int) : Bool := decide (n % 8 = 0 ∨ n % 8 = 3 ∨ n % 8 = 5)
def mayB (n t : Int) : Bool := goodB n && (!tellsB n || decide (valOf n < t))
set_option maxRecDepth 100000 in
set_option maxHeartbeats 400000 in
theorem afault_any (c a : Int) (w : World) :
    Calls Tryz.prog 67 #[.int .i64 c, .int .i64 a] w fun e w' => e = .returned (.iface 102 (.pointer (some ⟨w.heap.size, 0, none⟩))) ∧ w' = w.alloc (faultAtObj c a) := by
  go_enter Tryz.func67, Tryz.ntmps67
  go_wp2
  go_ret
  exact ⟨rfl, rfl⟩
set_option maxRecDepth 100000 in
set_option maxHeartbeats 1000000 in
theorem may_any (n t : Int) (w : World) (h0 : 0 ≤ n) (h1 : n ≤ 18446744073709551615) :
    Calls Tryz.prog 93 #[.int .u64 n, .int .i64 t] w fun e w' => e = .returned (.bool (mayB n t)) ∧ w' = w := by
  by_cases hg : goodB n = true
  · by_cases ht : n % 8 = 0 ∨ n % 8 = 3 ∨ n % 8 = 5
    · have hB : Hid (mayB n t = decide (valOf n < t)) := by simp [Hid, mayB, hg, tellsB, ht]
      go_enter Tryz.func93, Tryz.ntmps93
      go_wp2_with (first | (go_at_call 94; refine (place_yes _ _ h0 h1 hg ht).mono ?_; rintro e w' ⟨rfl, rfl⟩) | (go_at_call 112; refine (w_good_any _ _ h0 h1).mono ?_; rintro e w' ⟨rfl, rfl⟩))
      go_ret
      exact ⟨w_ret_bool hB.out.symm, rfl⟩
    · have hB : Hid (mayB n t = true) := by simp [Hid, mayB, hg, tellsB, ht]
      have ht' : goodB n = false ∨ (n % 8 ≠ 0 ∧ n % 8 ≠ 3 ∧ n % 8 ≠ 5) := Or.inr (by omega)
      have HT : Hid (goodB n = false ∨ (n % 8 ≠ 0 ∧ n % 8 ≠ 3 ∧ n % 8 ≠ 5)) := ht'
      clear ht ht'
      go_enter Tryz.func93, Tryz.ntmps93
      go_wp2_with (first | (go_at_call 94; refine (place_no _ _ h0 h1 HT.out).mono ?_; rintro e w' ⟨rfl, rfl⟩) | (go_at_call 112; refine (w_good_any _ _ h0 h1).mono ?_; rintro e w' ⟨rfl, rfl⟩))
      go_ret
      exact ⟨w_ret_bool hB.out.symm, rfl⟩
  · have hg' : goodB n = false := by simpa using hg
    have hB : Hid (mayB n t = false) := by simp [Hid, mayB, hg']
    clear hg
    go_enter Tryz.func93, Tryz.ntmps93
    go_wp2_with (first | (go_at_call 94; refine (place_no _ _ h0 h1 (Or.inl hg')).mono ?_; rintro e w' ⟨rfl, rfl⟩) | (go_at_call 112; refine (w_good_any _ _ h0 h1).mono ?_; rintro e w' ⟨rfl, rfl⟩))
    go_ret
    exact ⟨w_ret_bool hB.out.symm, rfl⟩
set_option maxRecDepth 100000 in
set_option maxHeartbeats 400000 in
theorem fresh_any (n : Int) (w : World) (h0 : 0 ≤ n) (h1 : n < 65536) :
    Calls Tryz.prog 81 #[.int .i64 n] w fun e w' => e = .returned (.int .u64 (8 * n)) ∧ w' = w := by
  have hf : fitsB 0 n = true := by simp [fitsB]; omega
  have HW : Hid (wordOf 0 n = 8 * n) := by show _ = _; unfold wordOf; omega
  go_enter Tryz.func81, Tryz.ntmps81
  go_wp2_with (go_at_call 90; refine (pack_ok _ _ _ hf).mono ?_; rintro e w' ⟨rfl, rfl⟩)
  go_ret
  exact ⟨w_ret_int HW.out, rfl⟩
set_option maxRecDepth 100000 in
set_option maxHeartbeats 400000 in
theorem new_ok (m : Int) (w : World) (B : Nat) (hB : B ≤ w.heap.size) (h1 : 1 ≤ m) (h2 : m ≤ 65536) :
    Calls Tryz.prog 45 #[.int .i64 m] w fun e w' => e = .returned (.tuple #[.pointer (some ⟨w.heap.size, 0, none⟩), .nilIface]) ∧ Ar 126 w' B w.heap.size m (.slice none 0 0) [] ∧ Below w.heap.size w w' := by
  go_enter Tryz.func45, Tryz.ntmps45
  go_wp2
  go_ret2
  exact ⟨rfl, ⟨by decide, heap_alloc_new w _, hB, World.ownsRow_nil _ _ _ _, h1, h2, by simp; omega, by simp⟩, a_below_alloc _ _⟩
set_option maxRecDepth 100000 in
set_option maxHeartbeats 400000 in
theorem top_any {w : World} {B p : Nat} {m : Int} {v : Value} {l : List Int} (h : Ar 126 w B p m v l) :
    Calls Tryz.prog 53 #[.pointer (some ⟨p, 0, none⟩)] w fun e w' => e = .returned (.int .i64 (l.length : Int)) ∧ w' = w := by
  obtain ⟨ao, cap, rfl, _⟩ := h.val
  have c1 := h.c1
  go_enter Tryz.func53, Tryz.ntmps53
  go_wp2
  go_ret
  exact ⟨rfl, rfl⟩
def inB (n k : Int) : Bool := decide (0 ≤ n ∧ n < k)
set_option maxRecDepth 100000 in
set_option maxHeartbeats 400000 in
theorem holds_any {w : World} {B p : Nat} {m : Int} {v : Value} {l : List Int} (h : Ar 126 w B p m v l) (n : Int) :
    Calls Tryz.prog 92 #[.pointer (some ⟨p, 0, none⟩), .int .i64 n] w fun e w' => e = .returned (.bool (inB n l.length)) ∧ w' = w := by
  by_cases hn : 0 ≤ n
  · go_enter Tryz.func92, Tryz.ntmps92
    go_wp2_with (go_at_call 53; refine (top_any h).mono ?_; rintro e w' ⟨rfl, rfl⟩)
    go_ret
    exact ⟨w_ret_bool (by simp [inB, hn]), rfl⟩
  · have hB : Hid (inB n l.length = false) := by show _ = _; simp [inB]; omega
    go_enter Tryz.func92, Tryz.ntmps92
    go_wp2_with (go_at_call 53; refine (top_any h).mono ?_; rintro e w' ⟨rfl, rfl⟩)
    go_ret
    exact ⟨w_ret_bool hB.out.symm, rfl⟩
end Go.Proofs.YtgmldkojldlekaaGreatDoor

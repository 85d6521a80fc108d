/- A strings.Builder as package parse uses it; texts of numbers. -/
import Derived.Test.YtklfnphkepfmaaaGreatDoorPEZ
import Derived.Test.YtklfnphkepfmaaaGreatDoorLxQuo2
import Derived.Test.YtklfnphkepfmaaaGreatDoorShelf
import Derived.Shelf.Strings.BuilderK
import Derived.Lib.LaidTab
import Derived.Deep.LoopGhost
import Derived.Test.YtklfnphkepfmaaaGreatDoorExM
namespace Go.Proofs.YtklfnphkepfmaaaGreatDoor
open Go.RowKit

/-- The shelf's numbers for a Builder's WriteString, at this program. -/
def wsRen : Go.Shelf.Ren := ⟨fun n => if n = 166 then 49 else if n = 240 then 88 else if n = 276 then 116 else n, fun n => if n = 72 then 91 else if n = 70 then 89 else if n = 37 then 49 else if n = 20 then 20 else if n = 75 then 29 else if n = 80 then 93 else if n = 164 then 147 else n, fun n => n⟩
theorem wsLays : Lays.n166 Tryz.prog wsRen :=
  ⟨(by kernel_rfl), (by kernel_rfl), (by kernel_rfl), (by kernel_rfl),
    (by kernel_rfl), (fun _ => by kernel_rfl), (fun _ => by kernel_rfl), (fun _ => by kernel_rfl), (by kernel_rfl), (fun _ => by kernel_rfl), (fun _ => by kernel_rfl), (fun _ => by kernel_rfl),
    (by kernel_rfl), (fun _ => by kernel_rfl), (fun _ => by kernel_rfl), (fun _ => by kernel_rfl), (by kernel_rfl), (fun _ => by kernel_rfl), (fun _ => by kernel_rfl), (fun _ => by kernel_rfl),
    (by kernel_rfl), (fun _ => by kernel_rfl), (fun _ => by kernel_rfl), (fun _ => by kernel_rfl), (by kernel_rfl), (fun _ => by kernel_rfl), (fun _ => by kernel_rfl), (fun _ => by kernel_rfl),
    (by kernel_rfl), (fun _ => by kernel_rfl), (fun _ => by kernel_rfl), (fun _ => by kernel_rfl), (by kernel_rfl), (fun _ => by kernel_rfl), (fun _ => by kernel_rfl), (fun _ => by kernel_rfl),
    (by kernel_rfl), (fun _ => by kernel_rfl), (fun _ => by kernel_rfl), (fun _ => by kernel_rfl), (by kernel_rfl), (fun _ => by kernel_rfl), (fun _ => by kernel_rfl), (fun _ => by kernel_rfl)⟩
theorem wsExtra : Builder.Extra Tryz.prog wsRen where
  sizeBuilder := by kernel_rfl
  liesBuilder := by kernel_rfl
  t5 := by kernel_rfl
  a5 := fun _ => by kernel_rfl
  z5 := fun _ => by kernel_rfl
  v5 := fun _ => by kernel_rfl
  infoByte := by kernel_rfl
  cellsByte := by kernel_rfl
  sizeByte := by kernel_rfl
  neB5 := by decide
/-- A builder's text so far. -/
abbrev Bf (w : World) (B b : Nat) (l : List UInt8) : Prop := Lib.IsBuilderF 91 5 B b (Lib.byteCells l) w
/-- What writing into a builder leaves as it was. -/
structure Wk (B b : Nat) (w w' : World) : Prop where
  below : Below B w w'
  others : Lib.OthersKept 5 (some b) w w'
theorem Wk.refl (B b : Nat) (w : World) : Wk B b w w := ⟨Below.refl B w, Lib.OthersKept.refl _ _ w⟩
theorem Wk.trans {B b : Nat} {w w1 w2 : World} (h : Wk B b w w1) (k : Wk B b w1 w2) : Wk B b w w2 := ⟨h.below.trans k.below, h.others.trans k.others⟩
theorem Wk.ofBelow {B b : Nat} {w w' : World} (hB : B ≤ w.heap.size) (h : Below w.heap.size w w') : Wk B b w w' := ⟨h.mono hB, fun k _ hk _ _ => (h.block k (lt_of_block hk)).trans hk⟩
/-- A box that holds a term stays. -/
theorem Wk.box {B b q : Nat} {w w' : World} {cs : Array Value} {T : TypeId} (h : Wk B b w w') (hq : w.heap[q]? = some (.cells cs T)) (hT : T ≠ 5) (hb : q ≠ b) : w'.heap[q]? = some (.cells cs T) :=
  h.others q _ hq (fun e => hb (Option.some.inj e)) (fun c fz e => by injection e with _ e; exact hT e)
theorem Bf.next {B b : Nat} {w w' : World} {l : List UInt8} (h : Bf w B b l) (hb : Below w.heap.size w w') : Bf w' B b l := by
  have at' : ∀ {p : Value}, Lib.BuilderAtF 91 5 B b p (Lib.byteCells l) w → Lib.BuilderAtF 91 5 B b p (Lib.byteCells l) w' := by
    rintro p ⟨h1, v, h2, h3, h4⟩
    refine ⟨h1, v, (hb.block b (lt_of_block h2)).trans h2, ⟨h3.1, ?_⟩, h4⟩
    rcases h3.2 with h0 | ⟨g, cap, cur, fz, e, hg, hgg, rest⟩
    · exact Or.inl h0
    · exact Or.inr ⟨g, cap, cur, fz, e, hg, (hb.block g (lt_of_block hgg)).trans hgg, rest⟩
  rcases h with h | h
  · exact Or.inl (at' h)
  · exact Or.inr (at' h)
theorem Bf.base {B b : Nat} {w : World} {l : List UInt8} (h : Bf w B b l) : B ≤ b ∧ b < w.heap.size := by
  rcases h with ⟨h1, v, h2, _⟩ | ⟨h1, v, h2, _⟩
  · exact ⟨h1, lt_of_block h2⟩
  · exact ⟨h1, lt_of_block h2⟩
theorem Bf.new (w : World) : Bf (w.alloc (.cells #[.pointer none, .slice none 0 0] 91)) w.heap.size w.heap.size [] :=
  Or.inl ⟨Nat.le_refl _, _, heap_alloc_new w _, ⟨by simp [Lib.byteCells], Or.inl ⟨rfl, by simp [Lib.byteCells]⟩⟩, by simp [Value.ownBlock]⟩
theorem putS {w : World} {B b : Nat} {l : List UInt8} (h : Bf w B b l) (s : ByteArray) (hl : l.length + s.size ≤ 140737488355328) :
    Calls Tryz.prog 49 #[.pointer (some ⟨b, 0, none⟩), .string s] w fun e w' => e = .returned (.tuple #[.int .i64 s.size, .nilIface]) ∧ Bf w' B b (l ++ s.data.toList) ∧ Wk B b w w' := by
  have hb := h.base
  refine (Any.Builder_WriteString_k wsLays wsExtra B b (Lib.byteCells l) s w h (by rw [Lib.byteCells_length]; exact hl) (by omega)).mono ?_
  rintro e w' ⟨rfl, h1, h2, h3⟩
  refine ⟨rfl, ?_, h2, h3⟩
  show Lib.IsBuilderF _ _ _ _ (Lib.byteCells (l ++ s.data.toList)) _
  rw [Lib.byteCells_append]
  exact Or.inr h1
theorem putB {w : World} {B b : Nat} {l : List UInt8} (h : Bf w B b l) (c : UInt8) (hl : l.length + 1 ≤ 140737488355328) :
    Calls Tryz.prog 51 #[.pointer (some ⟨b, 0, none⟩), .int .u8 (c.toNat : Int)] w fun e w' => e = .returned .nilIface ∧ Bf w' B b (l ++ [c]) ∧ Wk B b w w' := by
  have hb := h.base
  refine (Any.Builder_WriteByte_k wbLays wbExtra B b (Lib.byteCells l) (c.toNat : Int) w h (by rw [Lib.byteCells_length]; exact hl) (by omega)).mono ?_
  rintro e w' ⟨rfl, h1, h2, h3⟩
  refine ⟨rfl, ?_, h2, h3⟩
  show Lib.IsBuilderF _ _ _ _ (Lib.byteCells (l ++ [c])) _
  rw [Lib.byteCells_append]
  exact Or.inr h1
theorem getS {w : World} {B b : Nat} {l : List UInt8} (h : Bf w B b l) :
    Calls Tryz.prog 38 #[.pointer (some ⟨b, 0, none⟩)] w fun e w' => e = .returned (.string ⟨l.toArray⟩) ∧ Wk B b w w' := by
  have hb := h.base
  refine (Any.Builder_String_any_k bsLays bsExtra B b l w h (by omega)).mono ?_
  rintro e w' ⟨rfl, _, h2, h3⟩
  exact ⟨rfl, h2, h3⟩
/-- The table that texts of numbers read. -/
def PowT (w : World) : Prop := Lib.TabIs Tryz.prog w "internal/strconv.uint64pow10" .u64 Lib.pow10Tab
theorem globPow : Tryz.prog.globalNamed "internal/strconv.uint64pow10" = some 1 := by kernel_rfl
theorem var_lt {P : Program} {w : World} {n : String} {g : Nat} {cs : Array Value} (hg : P.globalNamed n = some g) (hv : w.var? P n = some cs) : g < w.heap.size := by
  unfold World.var? at hv
  simp only [hg, Option.bind_some] at hv
  cases h : w.heap[g]? with
  | none => rw [h] at hv; cases hv
  | some o => exact (Array.getElem?_eq_some_iff.1 h).1
theorem PowT.below {w w' : World} (h : PowT w) (hq : Below w.heap.size w w') : PowT w' := var?_below hq globPow (var_lt globPow h) h
theorem below_grow (w : World) (q : Nat) (os : Array Obj) : Below w.heap.size w (Sort.grow (w.drewN q) os) := by
  refine ⟨rfl, rfl, rfl, ?_, fun i hi => ?_⟩
  · show w.heap.size ≤ (w.heap ++ os).size
    simp
  · show (w.heap ++ os)[i]? = w.heap[i]?
    exact Array.getElem?_append_left hi
theorem itoa_any (n : Int) (w : World) (h : PowT w) (h0 : -9223372036854775808 ≤ n) (h1 : n ≤ 9223372036854775807) :
    Calls Tryz.prog 72 #[.int .i64 n] w fun e w' => e = .returned (.string ⟨(Lib.itoa n).toArray⟩) ∧ Below w.heap.size w w' := by
  refine (Tryz.strconv_Itoa n h0 h1 w h).mono ?_
  rintro e w' ⟨he, k, os, rfl⟩
  exact ⟨he, below_grow w k os⟩
end Go.Proofs.YtklfnphkepfmaaaGreatDoor

/- The text of a term, as plain data. -/
namespace Go.Proofs.YtklfnphkepfmaaaGreatDoor
open Go.RowKit

/-- What is told as a list's cell; the empty list. -/
def pairB (k : Int) (n : ByteArray) (len : Nat) : Bool := k == 4 && (n.toList == [46] && decide (len = 2))
def nilB (k : Int) (n : ByteArray) : Bool := k == 2 && n.toList == [91, 93]
/-- The text of what is no list's cell, its arguments being told. -/
def leafT (k : Int) (n : ByteArray) (m : Int) (args : List UInt8) : List UInt8 :=
  if k = 1 then n.data.toList
  else if k = 3 then Lib.itoa m
  else if nilB k n = true then [91, 93]
  else (quoteS n).data.toList ++ args
mutual
/-- The text of a term. -/
def wrX : Ex → List UInt8
  | .mk k n m xs => if pairB k n xs.length = true then [91] ++ (wrP xs ++ [93]) else leafT k n m (wrA 40 xs)
/-- What stands behind an element. -/
def wrT : Ex → List UInt8
  | .mk k n m xs => if pairB k n xs.length = true then [44] ++ wrP xs else if nilB k n = true then [] else [124] ++ leafT k n m (wrA 40 xs)
/-- A cell's element, and what stands behind it. -/
def wrP : List Ex → List UInt8
  | [] => []
  | a :: r => wrX a ++ wrQ r
def wrQ : List Ex → List UInt8
  | [] => []
  | b :: _ => wrT b
/-- Arguments, with a mark ahead of each, and the closing mark. -/
def wrA : UInt8 → List Ex → List UInt8
  | c, [] => if c = 40 then [] else [41]
  | c, x :: r => [c] ++ (wrX x ++ wrA 44 r)
end
theorem good_parts {nest : Nat} {k : Int} {n : ByteArray} {m : Int} {xs : List Ex} (h : goodX nest (.mk k n m xs) = true) : n.size ≤ 1048576 ∧ (k = 3 → -1125899906842624 ≤ m ∧ m ≤ 1125899906842624) ∧ xs.length ≤ 8 ∧ (∀ x ∈ xs, goodX (nest + 1) x = true) ∧ (k = 1 ∨ k = 2 ∨ k = 3 ∨ k = 4) := by
  rw [goodX] at h
  split at h
  · cases h
  · split at h
    · rename_i hk
      simp [isW] at h
      obtain ⟨⟨_, _, h1⟩, h2, h3⟩ := h
      subst h3
      exact ⟨by omega, fun e => by omega, by simp, fun x hx => (by cases hx), Or.inl hk⟩
    · split at h
      · rename_i hk
        simp [goodS] at h
        obtain ⟨h1, h2, h3⟩ := h
        subst h3
        exact ⟨by omega, fun e => by omega, by simp, fun x hx => (by cases hx), Or.inr (Or.inl hk)⟩
      · split at h
        · rename_i hk
          simp at h
          obtain ⟨h1, h2, h3, h4⟩ := h
          subst h4
          have h0 : n.size = 0 := by
            have e : n.data.toList = [] := by rw [← ByteArray.toList_eq]; exact h1
            have e2 : n.data.size = 0 := by rw [← Array.length_toList, e]; rfl
            exact e2
          exact ⟨by omega, fun _ => ⟨by omega, by omega⟩, by simp, fun x hx => (by cases hx), Or.inr (Or.inr (Or.inl hk))⟩
        · split at h
          · rename_i hk
            rw [Bool.and_eq_true, Bool.and_eq_true, Bool.and_eq_true, Bool.and_eq_true] at h
            obtain ⟨h1, h2, h3, h4, h5⟩ := h
            simp [goodS] at h1
            exact ⟨by omega, fun e => by omega, by simpa using h4, (goodXs_mem (nest + 1)).1 h5, Or.inr (Or.inr (Or.inr hk))⟩
          · cases h
mutual
/-- A term's size. -/
def szE : Ex → Nat
  | .mk _ _ _ xs => 1 + szEs xs
def szEs : List Ex → Nat
  | [] => 0
  | x :: r => szE x + szEs r
end
theorem szEs_mem : ∀ {xs : List Ex} {x : Ex}, x ∈ xs → szE x ≤ szEs xs
  | [], _, h => by cases h
  | y :: r, x, h => by
    rw [szEs]
    rcases List.mem_cons.1 h with rfl | h
    · omega
    · have := szEs_mem h
      omega
theorem szE_lt {k : Int} {n : ByteArray} {m : Int} {xs : List Ex} {x : Ex} (h : x ∈ xs) : szE x < szE (.mk k n m xs) := by
  have := szEs_mem h
  rw [szE]
  omega
set_option maxRecDepth 100000 in
set_option maxHeartbeats 2000000 in
theorem isComp_any (k : Int) (n : ByteArray) (m : Int) (ao : Option Addr) (len c : Nat) (s : ByteArray) (j : Int) (w : World) :
    Calls Tryz.prog 85 #[.agg #[.int .i64 k, .string n, .int .i64 m, .slice ao len c], .string s, .int .i64 j] w fun e w' => e = .returned (.bool (k == 4 && (n.toList == s.toList && (len : Int) == j))) ∧ Below w.heap.size w w' := by
  have hb0 := below_alloc w (.cells #[.int .i64 k, .string n, .int .i64 m, .slice ao len c] 40)
  obtain ⟨⟨c0, c1, c2, c3⟩, _⟩ := blk4x (heap_alloc_new w (.cells #[.int .i64 k, .string n, .int .i64 m, .slice ao len c] 40))
  by_cases h1 : k = 4
  · subst h1
    cases h2 : (n.toList == s.toList) with
    | true =>
      go_enter Tryz.func85, Tryz.ntmps85
      go_wp2
      go_ret
      exact ⟨rfl, hb0⟩
    | false =>
      go_enter Tryz.func85, Tryz.ntmps85
      go_wp2
      go_ret
      exact ⟨rfl, hb0⟩
  · have e1 : (k == 4) = false := beq_eq_false_iff_ne.2 h1
    go_enter Tryz.func85, Tryz.ntmps85
    go_wp2
    go_ret
    exact ⟨by rw [e1]; rfl, hb0⟩
set_option maxRecDepth 100000 in
set_option maxHeartbeats 2000000 in
theorem isPair_any (k : Int) (n : ByteArray) (m : Int) (ao : Option Addr) (len c : Nat) (w : World) :
    Calls Tryz.prog 74 #[.agg #[.int .i64 k, .string n, .int .i64 m, .slice ao len c]] w fun e w' => e = .returned (.bool (pairB k n len)) ∧ Below w.heap.size w w' := by
  have hb0 := below_alloc w (.cells #[.int .i64 k, .string n, .int .i64 m, .slice ao len c] 40)
  have hc := isComp_any k n m ao len c ⟨#[46]⟩ 2 (w.alloc (.cells #[.int .i64 k, .string n, .int .i64 m, .slice ao len c] 40))
  have e : (k == 4 && (n.toList == (⟨#[46]⟩ : ByteArray).toList && (len : Int) == 2)) = pairB k n len := by
    unfold pairB
    rw [show (⟨#[46]⟩ : ByteArray).toList = [46] by rw [ByteArray.toList_eq]]
    by_cases h : len = 2
    · subst h; rfl
    · rw [decide_eq_false h, show ((len : Int) == 2) = false from beq_eq_false_iff_ne.2 (by omega)]
  rw [e] at hc
  go_enter Tryz.func74, Tryz.ntmps74
  go_wp2_with (go_at_call 85; go_must (refine hc.mono ?_; rintro e w1 ⟨rfl, hb1⟩))
  go_ret
  exact ⟨rfl, Below.next hb0 hb1⟩
set_option maxRecDepth 100000 in
set_option maxHeartbeats 2000000 in
theorem isNil_any (k : Int) (n : ByteArray) (m : Int) (ao : Option Addr) (len c : Nat) (w : World) :
    Calls Tryz.prog 73 #[.agg #[.int .i64 k, .string n, .int .i64 m, .slice ao len c]] w fun e w' => e = .returned (.bool (nilB k n)) ∧ Below w.heap.size w w' := by
  have hb0 := below_alloc w (.cells #[.int .i64 k, .string n, .int .i64 m, .slice ao len c] 40)
  obtain ⟨⟨c0, c1, c2, c3⟩, _⟩ := blk4x (heap_alloc_new w (.cells #[.int .i64 k, .string n, .int .i64 m, .slice ao len c] 40))
  unfold nilB
  by_cases h1 : k = 2
  · subst h1
    go_enter Tryz.func73, Tryz.ntmps73
    go_wp2
    go_ret
    exact ⟨rfl, hb0⟩
  · have e1 : (k == 2) = false := beq_eq_false_iff_ne.2 h1
    go_enter Tryz.func73, Tryz.ntmps73
    go_wp2
    go_ret
    exact ⟨by rw [e1]; rfl, hb0⟩
end Go.Proofs.YtklfnphkepfmaaaGreatDoor

/- write, writeArgs and writeList of package parse. -/
namespace Go.Proofs.YtklfnphkepfmaaaGreatDoor
open Go.RowKit

/-- What is known of write, below some size. -/
def WrC (W : World) (N : Nat) : Prop := ∀ x, szE x < N → ∀ (nest : Nat) (v : Value) (w : World) (B b : Nat) (l : List UInt8), goodX nest x = true → Xv W x v → Below W.heap.size W w → W.heap.size ≤ B → Bf w B b l → l.length + (wrX x).length ≤ 140737488355328 →
  Calls Tryz.prog 37 #[.pointer (some ⟨b, 0, none⟩), v] w fun e w' => e = .returned (.tuple #[]) ∧ Bf w' B b (l ++ wrX x) ∧ Wk B b w w'
theorem Wk.world {W w w' : World} {B b : Nat} (hb : Below W.heap.size W w) (hW : W.heap.size ≤ B) (h : Wk B b w w') : Below W.heap.size W w' := hb.trans (h.below.mono hW)
theorem wrA_drop {c : UInt8} {xs : List Ex} {j : Nat} (h : j < xs.length) : wrA c (xs.drop j) = [c] ++ (wrX (xs.getD j x0) ++ wrA 44 (xs.drop (j + 1))) := by
  rw [List.drop_eq_getElem_cons h, wrA]
  simp [List.getD, h]
set_option maxRecDepth 100000 in
set_option maxHeartbeats 8000000 in
theorem writeArgs_any {W : World} {N : Nat} (hC : WrC W N) {xs : List Ex} {nest : Nat} (hg : ∀ x ∈ xs, goodX nest x = true) (hs : ∀ x ∈ xs, szE x < N) {av : Value} (hx : Rxs W av xs) {w : World} {B b : Nat} {l : List UInt8} (hb : Below W.heap.size W w) (hW : W.heap.size ≤ B) (hf : Bf w B b l) (hn8 : xs.length ≤ 8) (hlen : l.length + (wrA 40 xs).length ≤ 140737488355328) :
    Calls Tryz.prog 77 #[.pointer (some ⟨b, 0, none⟩), av] w fun e w' => e = .returned (.tuple #[]) ∧ Bf w' B b (l ++ wrA 40 xs) ∧ Wk B b w w' := by
  obtain ⟨ao, c, rfl, hat⟩ := hx
  have HC := hid hC
  have HG := hid hg
  have HS := hid hs
  have HAT := hid hat
  have HL := hid hlen
  have HB := hid hb
  have HF := hid hf
  have hbb := hf.base
  clear hC hg hs hat hlen hb hf
  go_enter Tryz.func77, Tryz.ntmps77
  go_wp2
  go_loopw [4, 9] (fun a i wr => ∃ (j : Nat) (lj : List UInt8), j ≤ xs.length ∧ i = .int .i64 (j : Int) ∧ a = .string ⟨#[if j = 0 then 40 else 44]⟩ ∧ Hid (Bf wr B b lj) ∧ Hid (Wk B b w wr) ∧ Hid (lj ++ wrA (if j = 0 then 40 else 44) (xs.drop j) = l ++ wrA 40 xs)) (fun _ i _ => xs.length - (intOf i).toNat)
  case atStart => exact ⟨0, l, by omega, rfl, rfl, HF, Wk.refl _ _ _, rfl⟩
  case round =>
    obtain ⟨j, lj, hj, rfl, rfl, hF, hK, hT⟩ := hrel
    by_cases hlt : j < xs.length
    · obtain ⟨b', o, k', n', m', aa, al, ac, rfl, d0, d1, d2, d3, hx⟩ := HAT.out j hlt
      have hbr := Wk.world HB.out hW hK.out
      have hz := lt_of_cell d0
      have c0 := ((bcell hbr).1 b' _ hz).trans d0
      have c1 := ((bcell hbr).1 b' _ hz).trans d1
      have c2 := ((bcell hbr).1 b' _ hz).trans d2
      have c3 := ((bcell hbr).1 b' _ hz).trans d3
      have hzr : b' < wr.heap.size := Nat.lt_of_lt_of_le hz hbr.size
      have hmem := xs_at hlt
      have hT2 := hT.out
      rw [wrA_drop hlt] at hT2
      generalize hcc : (if j = 0 then (40 : UInt8) else 44) = cc at *
      have hlen2 : lj.length + (1 + ((wrX (xs.getD j x0)).length + (wrA 44 (xs.drop (j + 1))).length)) ≤ 140737488355328 := by
        have := congrArg List.length hT2
        have h0 := HL.out
        simp only [List.length_append, List.length_cons, List.length_nil] at this
        omega
      have hba := below_alloc wr (.cells #[.int .i64 k', .string n', .int .i64 m', .slice aa al ac] 40)
      have hps := putS (hF.out.next hba) ⟨#[cc]⟩ (by show lj.length + 1 ≤ _; omega)
      have hbx := heap_alloc_new wr (.cells #[.int .i64 k', .string n', .int .i64 m', .slice aa al ac] 40)
      have hbz := hF.out.base
      have hwr : Hid (∀ w2, Wk B b (wr.alloc (.cells #[.int .i64 k', .string n', .int .i64 m', .slice aa al ac] 40)) w2 → Bf w2 B b (lj ++ [cc]) → w2.heap[wr.heap.size]? = some (.cells #[.int .i64 k', .string n', .int .i64 m', .slice aa al ac] 40) ∧ Calls Tryz.prog 37 #[.pointer (some ⟨b, 0, none⟩), .agg #[.int .i64 k', .string n', .int .i64 m', .slice aa al ac]] w2 fun e w' => e = .returned (.tuple #[]) ∧ Bf w' B b (lj ++ [cc] ++ wrX (xs.getD j x0)) ∧ Wk B b w2 w') := fun w2 hk2 hf2 =>
        ⟨hk2.box hbx (by decide) (by omega), HC.out _ (HS.out _ hmem) nest _ w2 B b _ (HG.out _ hmem) hx (Wk.world (Below.next hbr hba) hW hk2) hW hf2 (by rw [List.length_append, List.length_singleton]; omega)⟩
      have hK0 := hid ((hK.out).trans (Wk.ofBelow (by omega) hba))
      have HT2 := hid hT2
      clear d0 d1 d2 d3 hx hT hT2 hK hF hmem hcc
      go_wp2_with (first
        | (go_at_call 49; go_must (refine hps.mono ?_; clear hps; rintro e w2 ⟨rfl, hf2, hk2⟩; obtain ⟨hq2, hcall⟩ := hwr.out w2 hk2 hf2; have zq := lt_of_block hq2; obtain ⟨⟨y0, y1, y2, y3⟩, _⟩ := blk4x hq2))
        | (go_at_call 37; go_must (refine hcall.mono ?_; clear hcall; rintro e w3 ⟨rfl, hf3, hk3⟩)))
      go_roundw
      case rel =>
        refine ⟨j + 1, lj ++ [cc] ++ wrX (xs.getD j x0), by omega, by go_num, by simp, hf3, (hK0.out.trans hk2).trans hk3, ?_⟩
        show _ = _
        rw [if_neg (by omega), ← HT2.out]
        simp
      case measure => simp [intOf]; omega
    · obtain rfl : j = xs.length := by omega
      have hT2 := hT.out
      rw [List.drop_eq_nil_of_le (Nat.le_refl _), wrA] at hT2
      by_cases h0 : xs.length = 0
      · have hT3 : lj = l ++ wrA 40 xs := by
          rw [if_pos h0, if_pos rfl, List.append_nil] at hT2
          exact hT2
        have hgt : decide ((0 : Int) < (xs.length : Int)) = false := decide_eq_false (by omega)
        have HT3 := hid hT3
        clear hT hT2 hT3
        generalize xs.length = M at *
        subst h0
        go_wp2
        refine bodyPost_end (ret_void Tryz.results77) rfl ⟨rfl, ?_, hK.out⟩
        rw [← HT3.out]
        exact hF.out
      · have hT3 : lj ++ [41] = l ++ wrA 40 xs := by
          rw [if_neg h0, if_neg (by decide)] at hT2
          exact hT2
        have hgt : decide ((0 : Int) < (xs.length : Int)) = true := decide_eq_true (by omega)
        have hgt2 : (0 : Int) < (xs.length : Int) := by omega
        have hpb := putB hF.out 41 (by
          have := congrArg List.length hT3
          have h0 := HL.out
          simp at this
          omega)
        have HT3 := hid hT3
        clear hT hT2 hT3
        go_wp2_with (go_at_call 51; go_must (refine hpb.mono ?_; rintro e w2 ⟨rfl, hf2, hk2⟩))
        refine bodyPost_end (ret_void Tryz.results77) rfl ⟨rfl, ?_, hK.out.trans hk2⟩
        rw [← HT3.out]
        exact hf2
end Go.Proofs.YtklfnphkepfmaaaGreatDoor

/- writeList of package parse. -/
namespace Go.Proofs.YtklfnphkepfmaaaGreatDoor
open Go.RowKit

/-- What is still to be written of a list whose rest this is. -/
def restL (c : UInt8) (k : Int) (n : ByteArray) (m : Int) (ys : List Ex) : List UInt8 := if pairB k n ys.length = true then [c] ++ (wrP ys ++ [93]) else (if nilB k n = true then [] else [124] ++ leafT k n m (wrA 40 ys)) ++ [93]
theorem pair_two {k : Int} {n : ByteArray} {ys : List Ex} (h : pairB k n ys.length = true) : ∃ y0 y1, ys = [y0, y1] := by
  unfold pairB at h
  simp at h
  match ys, h.2.2 with
  | [a, b], _ => exact ⟨a, b, rfl⟩
theorem rest_pair {c : UInt8} {k : Int} {n : ByteArray} {m : Int} {y0 : Ex} {k1 : Int} {n1 : ByteArray} {m1 : Int} {zs : List Ex} (h : pairB k n 2 = true) : restL c k n m [y0, .mk k1 n1 m1 zs] = [c] ++ (wrX y0 ++ restL 44 k1 n1 m1 zs) := by
  unfold restL
  rw [show ([y0, Ex.mk k1 n1 m1 zs] : List Ex).length = 2 from rfl, if_pos h, wrP, wrQ, wrT]
  by_cases h1 : pairB k1 n1 zs.length = true
  · rw [if_pos h1, if_pos h1]
    simp
  · rw [if_neg h1, if_neg h1]
    simp
theorem Wk.store {B b q : Nat} {w w1 : World} {v0 v1 v2 v3 : Value} (h : Wk B b w w1) (hq : w.heap.size ≤ q) (hB : B ≤ q) : Wk B b w (exEnd w1 q v0 v1 v2 v3) :=
  ⟨exEnd_below h.below hB, fun k o hk hb ho => (exEnd_other (by have := lt_of_block hk; omega)).trans (h.others k o hk hb ho)⟩
theorem Bf.store {B b q : Nat} {w : World} {l : List UInt8} {v0 v1 v2 v3 : Value} {cs : Array Value} (h : Bf w B b l) (hq : w.heap[q]? = some (.cells cs 40)) : Bf (exEnd w q v0 v1 v2 v3) B b l := by
  have at' : ∀ {p : Value}, Lib.BuilderAtF 91 5 B b p (Lib.byteCells l) w → Lib.BuilderAtF 91 5 B b p (Lib.byteCells l) (exEnd w q v0 v1 v2 v3) := by
    rintro p ⟨h1, v, h2, h3, h4⟩
    have hbq : b ≠ q := fun e => by
      subst e
      rw [h2] at hq
      injection hq with hq
      injection hq with _ hq
      exact absurd hq (by decide)
    refine ⟨h1, v, (exEnd_other hbq).trans h2, ⟨h3.1, ?_⟩, h4⟩
    rcases h3.2 with h0 | ⟨g, cap, cur, fz, e, hg, hgg, rest⟩
    · exact Or.inl h0
    · have hgq : g ≠ q := fun e => by
        subst e
        rw [hgg] at hq
        injection hq with hq
        injection hq with _ hq
        exact absurd hq (by decide)
      exact Or.inr ⟨g, cap, cur, fz, e, hg, (exEnd_other hgq).trans hgg, rest⟩
  rcases h with h | h
  · exact Or.inl (at' h)
  · exact Or.inr (at' h)
/-- Two terms that lie in a row. -/
theorem two_at {w : World} {k : Int} {n : ByteArray} {m : Int} {y0 y1 : Ex} {v : Value} (h : Xv w (.mk k n m [y0, y1]) v) : ∃ b o c k0 n0 m0 a0 l0 c0 k1 n1 m1 a1 l1 c1, v = .agg #[.int .i64 k, .string n, .int .i64 m, .slice (some ⟨b, o, none⟩) 2 c] ∧
    (w.cell? ⟨b, o, none⟩ = some (.int .i64 k0) ∧ w.cell? ⟨b, o + 1, none⟩ = some (.string n0) ∧ w.cell? ⟨b, o + 2, none⟩ = some (.int .i64 m0) ∧ w.cell? ⟨b, o + 3, none⟩ = some (.slice a0 l0 c0)) ∧ Xv w y0 (.agg #[.int .i64 k0, .string n0, .int .i64 m0, .slice a0 l0 c0]) ∧
    (w.cell? ⟨b, o + 4, none⟩ = some (.int .i64 k1) ∧ w.cell? ⟨b, o + 4 + 1, none⟩ = some (.string n1) ∧ w.cell? ⟨b, o + 4 + 2, none⟩ = some (.int .i64 m1) ∧ w.cell? ⟨b, o + 4 + 3, none⟩ = some (.slice a1 l1 c1)) ∧ Xv w y1 (.agg #[.int .i64 k1, .string n1, .int .i64 m1, .slice a1 l1 c1]) := by
  obtain ⟨av, rfl, ao, c, rfl, hat⟩ := h.parts
  obtain ⟨b, o, k0, n0, m0, a0, l0, c0, rfl, d0, d1, d2, d3, hx0⟩ := hat 0 (by simp)
  obtain ⟨b', o', k1, n1, m1, a1, l1, c1, e, e0, e1, e2, e3, hx1⟩ := hat 1 (by simp)
  injection e with e
  injection e with eb eo
  subst eb
  subst eo
  simp only [Nat.zero_mul, Nat.add_zero, Nat.one_mul] at d0 d1 d2 d3 e0 e1 e2 e3
  exact ⟨b, o, c, k0, n0, m0, a0, l0, c0, k1, n1, m1, a1, l1, c1, rfl, ⟨d0, d1, d2, d3⟩, hx0, ⟨e0, e1, e2, e3⟩, hx1⟩
set_option maxRecDepth 100000 in
set_option maxHeartbeats 8000000 in
theorem writeList_any {W : World} {k : Int} {n : ByteArray} {m : Int} {xs : List Ex} (hC : WrC W (szE (.mk k n m xs))) {nest : Nat} (hg : goodX nest (.mk k n m xs) = true) (hp : pairB k n xs.length = true) {v : Value} (hx : Xv W (.mk k n m xs) v) {w : World} {B b : Nat} {l : List UInt8} (hb : Below W.heap.size W w) (hW : W.heap.size ≤ B) (hf : Bf w B b l) (hlen : l.length + (wrX (.mk k n m xs)).length ≤ 140737488355328) :
    Calls Tryz.prog 75 #[.pointer (some ⟨b, 0, none⟩), v] w fun e w' => e = .returned (.tuple #[]) ∧ Bf w' B b (l ++ wrX (.mk k n m xs)) ∧ Wk B b w w' := by
  have hbb := hf.base
  obtain ⟨av, rfl, ao, c, rfl, hat⟩ := hx.parts
  have e0 : restL 91 k n m xs = wrX (.mk k n m xs) := by
    unfold restL
    rw [if_pos hp, wrX, if_pos hp]
  have hba := below_alloc w (.cells #[.int .i64 k, .string n, .int .i64 m, .slice ao xs.length c] 40)
  have hbx0 := heap_alloc_new w (.cells #[.int .i64 k, .string n, .int .i64 m, .slice ao xs.length c] 40)
  have hstart : Hid (∃ (nest' : Nat) (k' : Int) (n' : ByteArray) (m' : Int) (ys : List Ex) (lj : List UInt8) (aa : Option Addr) (ac : Nat), szE (.mk k' n' m' ys) ≤ szE (.mk k n m xs) ∧ (pairB k' n' ys.length = false → szE (.mk k' n' m' ys) < szE (.mk k n m xs)) ∧ goodX nest' (.mk k' n' m' ys) = true ∧ (w.alloc (.cells #[.int .i64 k, .string n, .int .i64 m, .slice ao xs.length c] 40)).heap[w.heap.size]? = some (.cells #[.int .i64 k', .string n', .int .i64 m', .slice aa ys.length ac] 40) ∧ Xv W (.mk k' n' m' ys) (.agg #[.int .i64 k', .string n', .int .i64 m', .slice aa ys.length ac]) ∧ Bf (w.alloc (.cells #[.int .i64 k, .string n, .int .i64 m, .slice ao xs.length c] 40)) B b lj ∧ Wk B b w (w.alloc (.cells #[.int .i64 k, .string n, .int .i64 m, .slice ao xs.length c] 40)) ∧ lj ++ restL 91 k' n' m' ys = l ++ wrX (.mk k n m xs)) :=
    ⟨nest, k, n, m, xs, l, ao, c, Nat.le_refl _, fun h => (by rw [hp] at h; cases h), hg, hbx0, hx, hf.next hba, Wk.ofBelow (by omega) hba, by rw [e0]⟩
  have HC := hid hC
  have HL := hid hlen
  have HB := hid hb
  generalize wrX (.mk k n m xs) = TX at *
  generalize szE (.mk k n m xs) = SZ at *
  clear hC hlen hb hf hat hx hp hg hba hbx0 e0
  go_enter Tryz.func75, Tryz.ntmps75
  go_wp2
  go_loopg [4] SZ (fun gk a wr => ∃ (nest' : Nat) (cc : UInt8) (k' : Int) (n' : ByteArray) (m' : Int) (ys : List Ex) (lj : List UInt8) (aa : Option Addr) (ac : Nat), a = .string ⟨#[cc]⟩ ∧ Hid (szE (.mk k' n' m' ys) ≤ gk) ∧ Hid (szE (.mk k' n' m' ys) ≤ SZ) ∧ Hid (pairB k' n' ys.length = false → szE (.mk k' n' m' ys) < SZ) ∧ Hid (goodX nest' (.mk k' n' m' ys) = true) ∧ Hid (wr.heap[w.heap.size]? = some (.cells #[.int .i64 k', .string n', .int .i64 m', .slice aa ys.length ac] 40)) ∧ Hid (Xv W (.mk k' n' m' ys) (.agg #[.int .i64 k', .string n', .int .i64 m', .slice aa ys.length ac])) ∧ Hid (Bf wr B b lj) ∧ Hid (Wk B b w wr) ∧ Hid (lj ++ restL cc k' n' m' ys = l ++ TX))
  case atStart =>
    obtain ⟨nest', k', n', m', ys, lj, aa, ac, h1, h2, h3, h4, h5, h6, h7, h8⟩ := hstart.out
    exact ⟨nest', 91, k', n', m', ys, lj, aa, ac, rfl, h1, h1, h2, h3, h4, h5, h6, h7, h8⟩
  case round =>
    clear hstart
    obtain ⟨nest', cc, k', n', m', ys, lj, aa, ac, rfl, h1, h2, h3, h4, h5, h6, h7, h8, h9⟩ := hrel
    have hbr := Wk.world HB.out hW h8.out
    have hbz := h7.out.base
    have zq := lt_of_block h5.out
    obtain ⟨⟨q0, q1, q2, q3⟩, f0, f1, f2, f3⟩ := blk4x h5.out
    have hip := isPair_any k' n' m' aa ys.length ac wr
    cases hpb : pairB k' n' ys.length with
    | false =>
      rw [hpb] at hip
      have hsz := h3.out hpb
      have hT : lj ++ ((if nilB k' n' = true then [] else [124] ++ wrX (.mk k' n' m' ys)) ++ [93]) = l ++ TX := by
        have := h9.out
        unfold restL at this
        rw [hpb, if_neg (by decide)] at this
        have ewr : wrX (.mk k' n' m' ys) = leafT k' n' m' (wrA 40 ys) := by rw [wrX, hpb, if_neg (by decide)]
        rw [ewr]
        exact this
      have hin := hid (fun w2 => isNil_any k' n' m' aa ys.length ac w2)
      have hkeep : Hid (∀ w2, Below wr.heap.size wr w2 → w2.heap[w.heap.size]? = some (.cells #[.int .i64 k', .string n', .int .i64 m', .slice aa ys.length ac] 40)) := fun w2 hb2 => (hb2.block _ zq).trans h5.out
      have HT := hid hT
      have hnew := hid (fun w2 (hb2 : Below wr.heap.size wr w2) => And.intro (h7.out.next hb2) (h8.out.trans (Wk.ofBelow (show B ≤ wr.heap.size by omega) hb2)))
      cases hnb : nilB k' n' with
      | true =>
        rw [hnb] at hin hT
        rw [if_pos rfl, List.nil_append] at hT
        have hpe := hid (fun w3 (hf3 : Bf w3 B b lj) => putB hf3 93 (by
          have := congrArg List.length hT
          have h0 := HL.out
          simp only [List.length_append, List.length_cons, List.length_nil] at this
          omega))
        have HT1 := hid hT
        clear hT HT h1 h2 h3 h4 h5 h6 h7 h8 h9 hpb hnb hsz
        go_wp2_with (first
          | (go_at_call 74; go_must (refine hip.mono ?_; clear hip; rintro e w2 ⟨rfl, hb2⟩; have hq2 := hkeep.out w2 hb2; have zq2 := lt_of_block hq2; obtain ⟨⟨y0, y1, y2, y3⟩, _⟩ := blk4x hq2))
          | (go_at_call 73; go_must (refine (hin.out _).mono ?_; clear hin; rintro e w3 ⟨rfl, hb3⟩; obtain ⟨hf3, hk3⟩ := hnew.out w3 (Below.next hb2 hb3)))
          | (go_at_call 51; go_must (refine (hpe.out w3 hf3).mono ?_; rintro e w4 ⟨rfl, hf4, hk4⟩)))
        refine bodyPost_end (ret_void Tryz.results75) rfl ⟨rfl, ?_, hk3.trans hk4⟩
        rw [← HT1.out]
        exact hf4
      | false =>
        rw [hnb] at hin hT
        rw [if_neg (by decide)] at hT
        have hlen2 : lj.length + (1 + (wrX (.mk k' n' m' ys)).length) + 1 ≤ 140737488355328 := by
          have := congrArg List.length hT
          have h0 := HL.out
          simp only [List.length_append, List.length_cons, List.length_nil] at this
          omega
        have hp1 := hid (fun w3 (hf3 : Bf w3 B b lj) => putB hf3 124 (by omega))
        have hwr := hid (fun w4 (hk4 : Wk B b wr w4) (hf4 : Bf w4 B b (lj ++ [124])) => HC.out _ hsz nest' _ w4 B b _ h4.out h6.out (Wk.world hbr hW hk4) hW hf4 (by rw [List.length_append, List.length_singleton]; omega))
        have hp2 := hid (fun w5 (hf5 : Bf w5 B b (lj ++ [124] ++ wrX (.mk k' n' m' ys))) => putB hf5 93 (by simp only [List.length_append, List.length_cons, List.length_nil]; omega))
        have hbox := hid (fun w4 (hk4 : Wk B b wr w4) => hk4.box h5.out (by decide) (by omega))
        have hK0 := hid h8.out
        have HT1 := hid hT
        have hBw : B ≤ wr.heap.size := by omega
        clear hT HT h1 h2 h3 h4 h5 h6 h7 h8 h9 hpb hnb hsz
        go_wp2_with (first
          | (go_at_call 74; go_must (refine hip.mono ?_; clear hip; rintro e w2 ⟨rfl, hb2⟩; have hq2 := hkeep.out w2 hb2; have zq2 := lt_of_block hq2; obtain ⟨⟨y0, y1, y2, y3⟩, _⟩ := blk4x hq2))
          | (go_at_call 73; go_must (refine (hin.out _).mono ?_; clear hin; rintro e w3 ⟨rfl, hb3⟩; obtain ⟨hf3, hk3⟩ := hnew.out w3 (Below.next hb2 hb3); have hkw := hid (Wk.ofBelow (b := b) hBw (Below.next hb2 hb3))))
          | (go_at_call 51; refine (hp1.out w3 hf3).mono ?_; clear hp1; rintro e w4 ⟨rfl, hf4, hk4⟩; have hq4 := hbox.out w4 (hkw.out.trans hk4); have zq4 := lt_of_block hq4; obtain ⟨⟨u0, u1, u2, u3⟩, _⟩ := blk4x hq4)
          | (go_at_call 37; go_must (refine (hwr.out w4 (hkw.out.trans hk4) hf4).mono ?_; rintro e w5 ⟨rfl, hf5, hk5⟩))
          | (go_at_call 51; go_must (refine (hp2.out w5 hf5).mono ?_; rintro e w6 ⟨rfl, hf6, hk6⟩)))
        refine bodyPost_end (ret_void Tryz.results75) rfl ⟨rfl, ?_, ((hk3.trans hk4).trans hk5).trans hk6⟩
        rw [← HT1.out]
        simpa using hf6
    | true =>
      rw [hpb] at hip
      obtain ⟨y0, y1, rfl⟩ := pair_two hpb
      obtain ⟨k1, n1, m1, zs⟩ := y1
      obtain ⟨b1, o1, cx, g0, g1, g2, g3, g4, g5, r0, r1, r2, r3, r4, r5, ev, hd, hy0, he, hy1⟩ := two_at h6.out
      have ev2 : Value.slice aa 2 ac = .slice (some ⟨b1, o1, none⟩) 2 cx := by
        injection ev with ev
        have := congrArg (fun (x : Array Value) => x[3]?) ev
        simpa using this
      injection ev2 with ea _ ec
      subst ea
      subst ec
      obtain ⟨zl, zeq⟩ : ∃ ao1 c1, (Value.agg #[.int .i64 r0, .string r1, .int .i64 r2, .slice r3 r4 r5]) = .agg #[.int .i64 k1, .string n1, .int .i64 m1, .slice ao1 zs.length c1] := by
        obtain ⟨av1, e1, ao1, c1, rfl, _⟩ := hy1.parts
        exact ⟨ao1, c1, e1⟩
      obtain ⟨z1, zeq⟩ := zeq
      injection zeq with zeq
      have z0e : r0 = k1 := by have := congrArg (fun (x : Array Value) => x[0]?) zeq; simpa using this
      have z1e : r1 = n1 := by have := congrArg (fun (x : Array Value) => x[1]?) zeq; simpa using this
      have z2e : r2 = m1 := by have := congrArg (fun (x : Array Value) => x[2]?) zeq; simpa using this
      have z3e : r3 = zl ∧ r4 = zs.length ∧ r5 = z1 := by have := congrArg (fun (x : Array Value) => x[3]?) zeq; simpa using this
      obtain ⟨z3e, z4e, z5e⟩ := z3e
      subst z0e
      subst z1e
      subst z2e
      subst z3e
      subst z4e
      subst z5e
      clear zeq ev
      have hp2 : pairB k' n' 2 = true := hpb
      have hT := h9.out
      rw [rest_pair hp2] at hT
      obtain ⟨_, _, _, hgs, _⟩ := good_parts h4.out
      have hs0 : szE y0 < SZ := by
        have := szE_lt (k := k') (n := n') (m := m') (show y0 ∈ [y0, Ex.mk r0 r1 r2 zs] by simp)
        have := h2.out
        omega
      have hs1 : szE (.mk r0 r1 r2 zs) < szE (.mk k' n' m' [y0, Ex.mk r0 r1 r2 zs]) := szE_lt (by simp)
      have hlen2 : lj.length + (1 + ((wrX y0).length + (restL 44 r0 r1 r2 zs).length)) ≤ 140737488355328 := by
        have := congrArg List.length hT
        have h0 := HL.out
        simp only [List.length_append, List.length_cons, List.length_nil] at this
        omega
      have hq0 : wr.heap[w.heap.size]? = some (.cells #[.int .i64 k', .string n', .int .i64 m', .slice (some ⟨b1, o1, none⟩) 2 ac] 40) := h5.out
      have hps := hid (fun w2 (hf2 : Bf w2 B b lj) => putS hf2 ⟨#[cc]⟩ (by show lj.length + 1 ≤ _; omega))
      have hnew := hid (fun w2 (hb2 : Below wr.heap.size wr w2) => And.intro (h7.out.next hb2) (Wk.ofBelow (b := b) (show B ≤ wr.heap.size by omega) hb2))
      have hwr := hid (fun w3 (hk3 : Wk B b wr w3) (hf3 : Bf w3 B b (lj ++ [cc])) => HC.out y0 hs0 (nest' + 1) _ w3 B b _ (hgs y0 (by simp)) hy0 (Wk.world hbr hW hk3) hW hf3 (by rw [List.length_append, List.length_singleton]; omega))
      have hbox := hid (fun w4 (hk4 : Wk B b wr w4) => hk4.box hq0 (by decide) (by omega))
      have hrow : Hid (∀ w4, Wk B b wr w4 → b1 < w4.heap.size ∧ (w4.cell? ⟨b1, o1, none⟩ = some (.int .i64 g0) ∧ w4.cell? ⟨b1, o1 + 1, none⟩ = some (.string g1) ∧ w4.cell? ⟨b1, o1 + 2, none⟩ = some (.int .i64 g2) ∧ w4.cell? ⟨b1, o1 + 3, none⟩ = some (.slice g3 g4 g5)) ∧ (w4.cell? ⟨b1, o1 + 4, none⟩ = some (.int .i64 r0) ∧ w4.cell? ⟨b1, o1 + 4 + 1, none⟩ = some (.string r1) ∧ w4.cell? ⟨b1, o1 + 4 + 2, none⟩ = some (.int .i64 r2) ∧ w4.cell? ⟨b1, o1 + 4 + 3, none⟩ = some (.slice r3 zs.length r5)) ∧ (w4.cell? ⟨b1, o1 + 5, none⟩ = some (.string r1) ∧ w4.cell? ⟨b1, o1 + 6, none⟩ = some (.int .i64 r2) ∧ w4.cell? ⟨b1, o1 + 7, none⟩ = some (.slice r3 zs.length r5))) := fun w4 hk4 => by
        have hbw := Wk.world hbr hW hk4
        have hz := lt_of_cell hd.1
        have cc0 := (bcell hbw).1 b1
        exact ⟨Nat.lt_of_lt_of_le hz hbw.size, ⟨(cc0 _ hz).trans hd.1, (cc0 _ hz).trans hd.2.1, (cc0 _ hz).trans hd.2.2.1, (cc0 _ hz).trans hd.2.2.2⟩, ⟨(cc0 _ hz).trans he.1, (cc0 _ hz).trans he.2.1, (cc0 _ hz).trans he.2.2.1, (cc0 _ hz).trans he.2.2.2⟩, (cc0 _ hz).trans he.2.1, (cc0 _ hz).trans he.2.2.1, (cc0 _ hz).trans he.2.2.2⟩
      have hK0 := hid h8.out
      have HT := hid hT
      have HS1 := hid hs1
      have HG1 := hid (hgs (.mk r0 r1 r2 zs) (by simp))
      have HX1 := hid hy1
      have hq1 := isPair_any k' n' m' (some ⟨b1, o1, none⟩) 2 ac wr
      rw [hp2] at hq1
      obtain ⟨⟨p0, p1, p2, p3⟩, _⟩ := blk4x hq0
      clear hT hs0 hs1 hgs hy0 hy1 hd he h3 h4 h5 h6 h7 h8 h9 hpb hip q0 q1 q2 q3 f0 f1 f2 f3 hp2
      go_wp2_with (first
        | (go_at_call 74; go_must (refine hq1.mono ?_; clear hq1; rintro e w2 ⟨rfl, hb2⟩; obtain ⟨hf2, hk2⟩ := hnew.out w2 hb2))
        | (go_at_call 49; go_must (refine (hps.out w2 hf2).mono ?_; clear hps; rintro e w3 ⟨rfl, hf3, hk3⟩; have hkA := hk2.trans hk3; have hq3 := hbox.out w3 hkA; have zq3 := lt_of_block hq3; obtain ⟨⟨u0, u1, u2, u3⟩, _⟩ := blk4x hq3; obtain ⟨zb3, ⟨s0, s1, s2, s3⟩, _, _⟩ := hrow.out w3 hkA))
        | (go_at_call 37; go_must (refine (hwr.out w3 hkA hf3).mono ?_; clear hwr; rintro e w4 ⟨rfl, hf4, hk4⟩; have hkB := hkA.trans hk4; have hq4 := hbox.out w4 hkB; have zq4 := lt_of_block hq4; obtain ⟨⟨x0, x1, x2, x3⟩, j0, j1, j2, j3⟩ := blk4x hq4; obtain ⟨zb4, _, ⟨t0, t1, t2, t3⟩, t5, t6, t7⟩ := hrow.out w4 hkB)))
      go_roundg (szE (.mk r0 r1 r2 zs))
      case measure => have := h1.out; have := HS1.out; omega
      case rel =>
        refine ⟨nest' + 1, 44, r0, r1, r2, zs, lj ++ [cc] ++ wrX y0, r3, r5, rfl, (show _ ≤ _ from Nat.le_refl _), ?_, fun _ => ?_, HG1, ?_, HX1, ?_, ?_, ?_⟩
        · show _ ≤ _
          have := h2.out
          have := HS1.out
          omega
        · have := h2.out
          have := HS1.out
          omega
        · exact ex_end (.int .i64 r0) (.string r1) (.int .i64 r2) (.slice r3 zs.length r5) hq4
        · exact hf4.store hq4
        · exact (hK0.out.trans hkB).store (Nat.le_refl _) (by omega)
        · show _ = _
          rw [← HT.out]
          simp
end Go.Proofs.YtklfnphkepfmaaaGreatDoor

/- Good of package parse, at every term. -/
namespace Go.Proofs.YtklfnphkepfmaaaGreatDoor
open Go.RowKit

set_option maxRecDepth 100000 in
set_option maxHeartbeats 2000000 in
/-- slices.IndexFunc over terms, of a function that leaves what is there as it is. -/
theorem index_exprs (f : Nat) (cb : Array Value) (eg : ∀ args w, (callFunc f args).run Tryz.prog w = .ok (.enter f args) w) (v : Value) (xs : List Ex) (p : Nat → Bool) (W : World) (hl : xs.length ≤ 5000) (hv : Rxs W v xs)
    (hs : ∀ k w u, k < xs.length → Below W.heap.size W w → Xv w (xs.getD k x0) u → Calls Tryz.prog f (#[u] ++ cb) w fun e w' => e = .returned (.bool (p k)) ∧ Below w.heap.size w w') :
    Calls Tryz.prog 135 #[v, .func (.func f) #[] cb] W fun e w' => ((∃ k : Nat, k < xs.length ∧ p k = true ∧ e = .returned (.int .i64 k)) ∨ ((∀ j, j < xs.length → p j = false) ∧ e = .returned (.int .i64 (-1)))) ∧ Below W.heap.size W w' := by
  obtain ⟨ao, c, rfl, hat⟩ := hv
  have hAt := hid hat
  clear hat
  go_enter Tryz.func135, Tryz.ntmps135
  go_wp2
  go_loopw [5, 8] (fun _ i wr => ∃ k : Nat, k ≤ xs.length ∧ i = .int .i64 k ∧ Hid (Below W.heap.size W wr) ∧ Hid (∀ j, j < k → p j = false)) (fun _ i _ => xs.length - (intOf i).toNat)
  case atStart => exact ⟨0, Nat.zero_le _, rfl, Below.refl _ _, fun j hj => absurd hj (Nat.not_lt_zero _)⟩
  case round =>
    obtain ⟨k, hk, rfl, hB, hp⟩ := hrel
    by_cases hlt : k < xs.length
    · obtain ⟨b, o, k', n', m', aa, al, ac, rfl, d0, d1, d2, d3, hx⟩ := hAt.out k hlt
      have hz := lt_of_cell d0
      have c0 := ((bcell hB.out).1 b _ hz).trans d0
      have c1 := ((bcell hB.out).1 b _ hz).trans d1
      have c2 := ((bcell hB.out).1 b _ hz).trans d2
      have c3 := ((bcell hB.out).1 b _ hz).trans d3
      have hcall := hs k wr _ hlt hB.out (hx.next hB.out)
      clear d0 d1 d2 d3 hx hs
      cases hq : p k with
      | true =>
        have hq' : Hid (p k = true) := hq
        rw [hq] at hcall
        clear hq
        go_wp2_with (go_at_fn f; refine hcall.mono ?_; rintro e w' ⟨rfl, hb1⟩)
        go_ret
        exact ⟨Or.inl ⟨k, hlt, hq'.out, rfl⟩, Below.next hB.out hb1⟩
      | false =>
        have hq' : Hid (p k = false) := hq
        rw [hq] at hcall
        clear hq
        go_wp2_with (go_at_fn f; refine hcall.mono ?_; rintro e w' ⟨rfl, hb1⟩)
        go_roundw
        case rel =>
          refine ⟨k + 1, by omega, congrArg (Value.int .i64) (by omega), Below.next hB.out hb1, (show Hid _ from fun j hj => ?_)⟩
          rcases Nat.lt_or_eq_of_le (Nat.le_of_lt_succ hj) with h | h
          · exact hp.out j h
          · subst h; exact hq'.out
        case measure => simp [intOf]; omega
    · have hkl : Hid (k = xs.length) := show k = xs.length by omega
      clear hs
      go_wp2
      go_ret
      exact ⟨Or.inr ⟨by rw [← hkl.out]; exact hp.out, rfl⟩, hB.out⟩
set_option maxRecDepth 100000 in
set_option maxHeartbeats 1000000 in
theorem contains_exprs (f : Nat) (cb : Array Value) (eg : ∀ args w, (callFunc f args).run Tryz.prog w = .ok (.enter f args) w) (v : Value) (xs : List Ex) (p : Nat → Bool) (W : World) (hl : xs.length ≤ 5000) (hv : Rxs W v xs)
    (hs : ∀ k w u, k < xs.length → Below W.heap.size W w → Xv w (xs.getD k x0) u → Calls Tryz.prog f (#[u] ++ cb) w fun e w' => e = .returned (.bool (p k)) ∧ Below w.heap.size w w') :
    Calls Tryz.prog 114 #[v, .func (.func f) #[] cb] W fun e w' => ((∃ k : Nat, k < xs.length ∧ p k = true ∧ e = .returned (.bool true)) ∨ ((∀ j, j < xs.length → p j = false) ∧ e = .returned (.bool false))) ∧ Below W.heap.size W w' := by
  have hc := index_exprs f cb eg v xs p W hl hv hs
  clear hs hv
  go_enter Tryz.func114, Tryz.ntmps114
  go_wp2_with (go_at_call 135; refine hc.mono ?_; rintro e w' ⟨(⟨k, h1, h3, rfl⟩ | ⟨h1, rfl⟩), hb1⟩)
  · go_ret
    exact ⟨Or.inl ⟨k, h1, h3, rfl⟩, hb1⟩
  · go_ret
    exact ⟨Or.inr ⟨h1, rfl⟩, hb1⟩
theorem badX_eg : ∀ args w, (callFunc 113 args).run Tryz.prog w = .ok (.enter 113 args) w := enters_of Tryz.func113 (by kernel_rfl) rfl
/-- What is asked of goodAt at one term. -/
def GoodAtC (x : Ex) : Prop := ∀ (w : World) (v : Value), Xv w x v → szX x → ∀ nest : Nat, nest ≤ 5000 →
    Calls Tryz.prog 40 #[v, .int .i64 (nest : Int)] w fun e w' => e = .returned (.bool (goodX nest x)) ∧ Below w.heap.size w w'
set_option maxRecDepth 100000 in
set_option maxHeartbeats 1000000 in
theorem badX_any {x : Ex} (hc : GoodAtC x) (hz : szX x) {w : World} {v : Value} (hx : Xv w x v) {q nest : Nat} (hn : nest ≤ 5000) (hq : w.cell? ⟨q, 0, none⟩ = some (.int .i64 (nest : Int))) :
    Calls Tryz.prog 113 #[v, .pointer (some ⟨q, 0, none⟩)] w fun e w' => e = .returned (.bool (!goodX nest x)) ∧ Below w.heap.size w w' := by
  obtain ⟨k, n, m, xs⟩ := x
  obtain ⟨av, rfl, hr⟩ := hx.parts
  have hb0 := below_alloc w (.cells #[.int .i64 k, .string n, .int .i64 m, av] 40)
  have h1 := hc _ _ ((Xv.of hr).next hb0) hz nest hn
  have hq2 := lt_of_cell hq
  clear hc hx hr hz
  go_enter Tryz.func113, Tryz.ntmps113
  go_wp2_with (go_at_call 40; refine h1.mono ?_; rintro e w1 ⟨rfl, hb1⟩)
  go_ret
  exact ⟨rfl, Below.next hb0 hb1⟩
set_option maxRecDepth 100000 in
set_option maxHeartbeats 2000000 in
theorem xgoodArgs_any {xs : List Ex} (hc : ∀ x ∈ xs, GoodAtC x) (hz : szXs xs) {w : World} {av : Value} (hr : Rxs w av xs) (nest : Nat) (hn : nest ≤ 5000) :
    Calls Tryz.prog 82 #[av, .int .i64 (nest : Int)] w fun e w' => e = .returned (.bool (decide (1 ≤ xs.length) && (decide (xs.length ≤ 8) && goodXs nest xs))) ∧ Below w.heap.size w w' := by
  have hb0 := below_alloc w (.cells #[.int .i64 (nest : Int)] 3)
  have hr1 := hr.next hb0
  obtain ⟨ao, c, rfl, _⟩ := hr
  have hcell : ∀ w1, Below (w.alloc (.cells #[.int .i64 (nest : Int)] 3)).heap.size (w.alloc (.cells #[.int .i64 (nest : Int)] 3)) w1 → w1.cell? ⟨w.heap.size, 0, none⟩ = some (.int .i64 (nest : Int)) := fun w1 hb => by
    rw [(bcell hb).1 _ _ (by simp)]
    exact cell_one_new w _ _ 0 _ rfl
  by_cases h1 : 1 ≤ xs.length
  · by_cases h8 : xs.length ≤ 8
    · have hk := contains_exprs 113 #[.pointer (some ⟨w.heap.size, 0, none⟩)] badX_eg _ xs (fun k => !goodX nest (xs.getD k x0)) _ (by omega) hr1 (fun k w1 u hk hb hx => badX_any (hc _ (xs_at hk)) (szXs_mem hz _ (xs_at hk)) hx hn (hcell w1 hb))
      have hE : Hid ((decide (1 ≤ xs.length) && (decide (xs.length ≤ 8) && goodXs nest xs)) = goodXs nest xs) := by rw [decide_eq_true h1, decide_eq_true h8]; rfl
      have hno : Hid (∀ j, j < xs.length → (!goodX nest (xs.getD j x0)) = true → goodXs nest xs = false) := fun j hj h => goodXs_no nest hj (by simpa using h)
      have hya : Hid ((∀ j, j < xs.length → (!goodX nest (xs.getD j x0)) = false) → goodXs nest xs = true) := fun h => goodXs_all nest (fun j hj => by simpa using h j hj)
      have i1 : (1 : Int) ≤ (xs.length : Int) := by omega
      have i8 : (xs.length : Int) ≤ 8 := by omega
      clear hc hz hcell hr1 h1 h8
      go_enter Tryz.func82, Tryz.ntmps82
      go_wp2_with (go_at_call 114; refine hk.mono ?_; rintro e w1 ⟨(⟨k, h1, h2, rfl⟩ | ⟨h1, rfl⟩), hb1⟩)
      · go_ret
        exact ⟨ret_bool (by rw [hE.out, hno.out k h1 h2]), Below.next hb0 hb1⟩
      · go_ret
        exact ⟨ret_bool (by rw [hE.out, hya.out h1]), Below.next hb0 hb1⟩
    · have hE : Hid ((decide (1 ≤ xs.length) && (decide (xs.length ≤ 8) && goodXs nest xs)) = false) := by rw [decide_eq_false h8, Bool.false_and, Bool.and_false]; exact rfl
      have i1 : (1 : Int) ≤ (xs.length : Int) := by omega
      have i8 : ¬ (xs.length : Int) ≤ 8 := by omega
      clear hc hz hcell hr1 h1 h8
      go_enter Tryz.func82, Tryz.ntmps82
      go_wp2
      go_ret
      exact ⟨ret_bool hE.out.symm, hb0⟩
  · have hE : Hid ((decide (1 ≤ xs.length) && (decide (xs.length ≤ 8) && goodXs nest xs)) = false) := by rw [decide_eq_false h1]; rfl
    have i1 : ¬ (1 : Int) ≤ (xs.length : Int) := by omega
    clear hc hz hcell hr1 h1
    go_enter Tryz.func82, Tryz.ntmps82
    go_wp2
    go_ret
    exact ⟨ret_bool hE.out.symm, hb0⟩
end Go.Proofs.YtklfnphkepfmaaaGreatDoor

/- Good of package parse, at every term. -/
namespace Go.Proofs.YtklfnphkepfmaaaGreatDoor
open Go.RowKit

theorem beq_dec0 (n : Nat) : ((n : Int) == 0) = decide (n = 0) := by
  cases n with
  | zero => rfl
  | succ n => simp; omega
set_option maxRecDepth 100000 in
set_option maxHeartbeats 4000000 in
theorem goodAt_any (x : Ex) : GoodAtC x := by
  induction x using Ex.ind with
  | h k n m xs ih =>
    intro w v hx hz nest hn
    obtain ⟨av, rfl, hr⟩ := hx.parts
    have hb0 := below_alloc w (.cells #[.int .i64 k, .string n, .int .i64 m, av] 40)
    have hr1 := hr.next hb0
    have hzn : n.size ≤ 9223372036854775807 := Nat.le_trans hz.1 (by decide)
    obtain ⟨ao, c, rfl, _⟩ := hr
    generalize hN : xs.length = N at *
    have HN : Hid (xs.length = N) := hN
    by_cases h4 : (4096 : Int) < (nest : Int)
    · have hE : Hid (goodX nest (.mk k n m xs) = false) := show _ = _ by rw [goodX, if_pos (by omega)]
      clear ih hr1 hz hx hN
      go_enter Tryz.func40, Tryz.ntmps40
      go_wp2
      go_ret
      exact ⟨ret_bool hE.out.symm, hb0⟩
    · have h4' : ¬ 4096 < nest := by omega
      by_cases k1 : k = 1
      · subst k1
        have hv := fun w1 => isVar_big n w1 hzn
        cases hW : isW n 4 with
        | false =>
          have hE : Hid (goodX nest (.mk 1 n m xs) = false) := show _ = _ by rw [goodX, if_neg h4', if_pos rfl, hW]; rfl
          rw [hW] at hv
          clear ih hr1 hz hx hN hW h4'
          go_enter Tryz.func40, Tryz.ntmps40
          go_wp2_with (go_at_call 80; refine (hv _).mono ?_; rintro e w1 ⟨rfl, rfl⟩)
          go_ret
          exact ⟨ret_bool hE.out.symm, hb0⟩
        | true =>
          rw [hW] at hv
          by_cases hm : m = 0
          · subst hm
            have hE : Hid (goodX nest (.mk 1 n 0 xs) = ((N : Int) == 0)) := show _ = _ by rw [goodX, if_neg h4', if_pos rfl, hW, HN.out, beq_dec0]; simp
            clear ih hr1 hz hx hN hW h4'
            go_enter Tryz.func40, Tryz.ntmps40
            go_wp2_with (go_at_call 80; refine (hv _).mono ?_; rintro e w1 ⟨rfl, rfl⟩)
            go_ret
            exact ⟨ret_bool hE.out.symm, hb0⟩
          · have hE : Hid (goodX nest (.mk 1 n m xs) = false) := show _ = _ by rw [goodX, if_neg h4', if_pos rfl, decide_eq_false hm]; simp
            have hm' : (m == 0) = false := beq_eq_false_iff_ne.2 hm
            clear ih hr1 hz hx hN hW h4' hm
            go_enter Tryz.func40, Tryz.ntmps40
            go_wp2_with (go_at_call 80; refine (hv _).mono ?_; rintro e w1 ⟨rfl, rfl⟩)
            go_ret
            exact ⟨ret_bool hE.out.symm, hb0⟩
      · have k1' : (k == 1) = false := beq_eq_false_iff_ne.2 k1
        by_cases k2 : k = 2
        · subst k2
          have hv := fun w1 => good_any n w1 hzn
          cases hW : goodS n with
          | false =>
            have hE : Hid (goodX nest (.mk 2 n m xs) = false) := show _ = _ by rw [goodX, if_neg h4', if_neg k1, if_pos rfl, hW]; rfl
            rw [hW] at hv
            clear ih hr1 hz hx hN hW h4' k1 k1'
            go_enter Tryz.func40, Tryz.ntmps40
            go_wp2_with (go_at_call 81; refine (hv _).mono ?_; rintro e w1 ⟨rfl, rfl⟩)
            go_ret
            exact ⟨ret_bool hE.out.symm, hb0⟩
          | true =>
            rw [hW] at hv
            by_cases hm : m = 0
            · subst hm
              have hE : Hid (goodX nest (.mk 2 n 0 xs) = ((N : Int) == 0)) := show _ = _ by rw [goodX, if_neg h4', if_neg k1, if_pos rfl, hW, HN.out, beq_dec0]; simp
              clear ih hr1 hz hx hN hW h4' k1 k1'
              go_enter Tryz.func40, Tryz.ntmps40
              go_wp2_with (go_at_call 81; refine (hv _).mono ?_; rintro e w1 ⟨rfl, rfl⟩)
              go_ret
              exact ⟨ret_bool hE.out.symm, hb0⟩
            · have hE : Hid (goodX nest (.mk 2 n m xs) = false) := show _ = _ by rw [goodX, if_neg h4', if_neg k1, if_pos rfl, decide_eq_false hm]; simp
              have hm' : (m == 0) = false := beq_eq_false_iff_ne.2 hm
              clear ih hr1 hz hx hN hW h4' hm k1 k1'
              go_enter Tryz.func40, Tryz.ntmps40
              go_wp2_with (go_at_call 81; refine (hv _).mono ?_; rintro e w1 ⟨rfl, rfl⟩)
              go_ret
              exact ⟨ret_bool hE.out.symm, hb0⟩
        · have k2' : (k == 2) = false := beq_eq_false_iff_ne.2 k2
          by_cases k3 : k = 3
          · subst k3
            by_cases he : n.toList = []
            · by_cases h5 : (-1125899906842624 : Int) ≤ m
              · by_cases h6 : m ≤ (1125899906842624 : Int)
                · have hE : Hid (goodX nest (.mk 3 n m xs) = ((N : Int) == 0)) := show _ = _ by rw [goodX, if_neg h4', if_neg k1, if_neg k2, if_pos rfl, HN.out, beq_dec0]; simp [he, h5, h6]
                  clear ih hr1 hz hx hN h4' k1 k1' k2 k2'
                  go_enter Tryz.func40, Tryz.ntmps40
                  go_wp2
                  go_ret
                  exact ⟨ret_bool hE.out.symm, hb0⟩
                · have hE : Hid (goodX nest (.mk 3 n m xs) = false) := show _ = _ by rw [goodX, if_neg h4', if_neg k1, if_neg k2, if_pos rfl]; simp [h6]
                  clear ih hr1 hz hx hN h4' k1 k1' k2 k2'
                  go_enter Tryz.func40, Tryz.ntmps40
                  go_wp2
                  go_ret
                  exact ⟨ret_bool hE.out.symm, hb0⟩
              · have hE : Hid (goodX nest (.mk 3 n m xs) = false) := show _ = _ by rw [goodX, if_neg h4', if_neg k1, if_neg k2, if_pos rfl]; simp [h5]
                clear ih hr1 hz hx hN h4' k1 k1' k2 k2'
                go_enter Tryz.func40, Tryz.ntmps40
                go_wp2
                go_ret
                exact ⟨ret_bool hE.out.symm, hb0⟩
            · have hE : Hid (goodX nest (.mk 3 n m xs) = false) := show _ = _ by rw [goodX, if_neg h4', if_neg k1, if_neg k2, if_pos rfl, decide_eq_false he]; simp
              clear ih hr1 hz hx hN h4' k1 k1' k2 k2'
              go_enter Tryz.func40, Tryz.ntmps40
              go_wp2
              go_ret
              exact ⟨ret_bool hE.out.symm, hb0⟩
          · have k3' : (k == 3) = false := beq_eq_false_iff_ne.2 k3
            by_cases k4 : k = 4
            · subst k4
              have hv := fun w1 => good_any n w1 hzn
              cases hW : goodS n with
              | false =>
                have hE : Hid (goodX nest (.mk 4 n m xs) = false) := show _ = _ by rw [goodX, if_neg h4', if_neg k1, if_neg k2, if_neg k3, if_pos rfl, hW]; rfl
                rw [hW] at hv
                clear ih hr1 hz hx hN hW h4' k1 k1' k2 k2' k3 k3'
                go_enter Tryz.func40, Tryz.ntmps40
                go_wp2_with (go_at_call 81; refine (hv _).mono ?_; rintro e w1 ⟨rfl, rfl⟩)
                go_ret
                exact ⟨ret_bool hE.out.symm, hb0⟩
              | true =>
                rw [hW] at hv
                by_cases hm : m = 0
                · subst hm
                  · have hga := xgoodArgs_any (fun x hx => ih x hx) hz.2 hr1 (nest + 1) (by omega)
                    have hE : Hid (goodX nest (.mk 4 n 0 xs) = (decide (1 ≤ xs.length) && (decide (xs.length ≤ 8) && goodXs (nest + 1) xs))) := show _ = _ by rw [goodX, if_neg h4', if_neg k1, if_neg k2, if_neg k3, if_pos rfl, hW]; simp
                    generalize (decide (1 ≤ xs.length) && (decide (xs.length ≤ 8) && goodXs (nest + 1) xs)) = R at hga hE
                    rw [show ((nest + 1 : Nat) : Int) = (nest : Int) + 1 by omega] at hga
                    clear ih hr1 hz hx hN hW h4' k1 k1' k2 k2' k3 k3'
                    go_enter Tryz.func40, Tryz.ntmps40
                    go_wp2_with (first | (go_at_call 81; refine (hv _).mono ?_; rintro e w1 ⟨rfl, rfl⟩) | (go_at_call 82; refine hga.mono ?_; rintro e w2 ⟨rfl, hb2⟩))
                    go_ret
                    exact ⟨ret_bool hE.out.symm, Below.next hb0 hb2⟩
                · have hE : Hid (goodX nest (.mk 4 n m xs) = false) := show _ = _ by rw [goodX, if_neg h4', if_neg k1, if_neg k2, if_neg k3, if_pos rfl, decide_eq_false hm]; simp
                  have hm' : (m == 0) = false := beq_eq_false_iff_ne.2 hm
                  clear ih hr1 hz hx hN hW h4' hm k1 k1' k2 k2' k3 k3'
                  go_enter Tryz.func40, Tryz.ntmps40
                  go_wp2_with (go_at_call 81; refine (hv _).mono ?_; rintro e w1 ⟨rfl, rfl⟩)
                  go_ret
                  exact ⟨ret_bool hE.out.symm, hb0⟩
            · have k4' : (k == 4) = false := beq_eq_false_iff_ne.2 k4
              have hE : Hid (goodX nest (.mk k n m xs) = false) := show _ = _ by rw [goodX, if_neg h4', if_neg k1, if_neg k2, if_neg k3, if_neg k4]
              clear ih hr1 hz hx hN h4' k1 k2 k3 k4
              go_enter Tryz.func40, Tryz.ntmps40
              go_wp2
              go_ret
              exact ⟨ret_bool hE.out.symm, hb0⟩
set_option maxRecDepth 100000 in
set_option maxHeartbeats 1000000 in
/-- Good at every term. -/
theorem goodE_any (x : Ex) {w : World} {v : Value} (hx : Xv w x v) (hz : szX x) :
    Calls Tryz.prog 18 #[v] w fun e w' => e = .returned (.bool (goodX 0 x)) ∧ Below w.heap.size w w' := by
  obtain ⟨k, n, m, xs⟩ := x
  obtain ⟨av, rfl, hr⟩ := hx.parts
  have hb0 := below_alloc w (.cells #[.int .i64 k, .string n, .int .i64 m, av] 40)
  have h1 := goodAt_any (.mk k n m xs) _ _ ((Xv.of hr).next hb0) hz 0 (by omega)
  rw [show ((0 : Nat) : Int) = 0 from rfl] at h1
  clear hx hr hz
  go_enter Tryz.func18, Tryz.ntmps18
  go_wp2_with (go_at_call 40; refine h1.mono ?_; rintro e w1 ⟨rfl, hb1⟩)
  go_ret
  exact ⟨rfl, Below.next hb0 hb1⟩
end Go.Proofs.YtklfnphkepfmaaaGreatDoor

/- write and Write of package parse, at every good term. -/
namespace Go.Proofs.YtklfnphkepfmaaaGreatDoor
open Go.RowKit

theorem bytes_len (s : ByteArray) : s.data.toList.length = s.size := Array.length_toList
theorem WrC.less {W : World} {N M : Nat} (h : WrC W N) (hM : M ≤ N) : WrC W M := fun x hx => h x (by omega)
set_option maxRecDepth 100000 in
set_option maxHeartbeats 8000000 in
theorem write_step {W : World} (hP : PowT W) {k : Int} {n : ByteArray} {m : Int} {xs : List Ex} (hC : WrC W (szE (.mk k n m xs))) {nest : Nat} (hg : goodX nest (.mk k n m xs) = true) {v : Value} (hx : Xv W (.mk k n m xs) v) {w : World} {B b : Nat} {l : List UInt8} (hb : Below W.heap.size W w) (hW : W.heap.size ≤ B) (hf : Bf w B b l) (hlen : l.length + (wrX (.mk k n m xs)).length ≤ 140737488355328) :
    Calls Tryz.prog 37 #[.pointer (some ⟨b, 0, none⟩), v] w fun e w' => e = .returned (.tuple #[]) ∧ Bf w' B b (l ++ wrX (.mk k n m xs)) ∧ Wk B b w w' := by
  have hbb := hf.base
  have HX := hid hx
  obtain ⟨av, rfl, ao, c, rfl, hat⟩ := hx.parts
  have hr := hid (show Rxs W (.slice ao xs.length c) xs from ⟨ao, c, rfl, hat⟩)
  have hba := below_alloc w (.cells #[.int .i64 k, .string n, .int .i64 m, .slice ao xs.length c] 40)
  have hbx := heap_alloc_new w (.cells #[.int .i64 k, .string n, .int .i64 m, .slice ao xs.length c] 40)
  obtain ⟨⟨c0, c1, c2, c3⟩, _⟩ := blk4x hbx
  have hf1 := hid (hf.next hba)
  have hk1 := hid (Wk.ofBelow (b := b) (show B ≤ w.heap.size by omega) hba)
  have hb1 := hid (Below.next hb hba)
  obtain ⟨g1, g2, g3, g4, g5⟩ := good_parts hg
  have hBx := hid hbx
  by_cases e1 : k = 1
  · subst e1
    have eT : wrX (.mk 1 n m xs) = n.data.toList := by rw [wrX]; simp [pairB, leafT]
    have hps := putS hf1.out n (by rw [eT, bytes_len] at hlen; exact hlen)
    have HT := hid eT
    clear eT hC hg hat hx hlen hb hf hba hbx hr HX g4 g5
    go_enter Tryz.func37, Tryz.ntmps37
    go_wp2_with (go_at_call 49; go_must (refine hps.mono ?_; rintro e w2 ⟨rfl, hf2, hk2⟩))
    refine bodyPost_end (ret_void Tryz.results37) rfl ⟨rfl, ?_, hk1.out.trans hk2⟩
    rw [HT.out]
    exact hf2
  · have n1 : (k == 1) = false := beq_eq_false_iff_ne.2 e1
    by_cases e3 : k = 3
    · subst e3
      obtain ⟨m0, m1⟩ := g2 rfl
      have eT : wrX (.mk 3 n m xs) = Lib.itoa m := by rw [wrX]; simp [pairB, leafT]
      have hit := itoa_any m (w.alloc (.cells #[.int .i64 3, .string n, .int .i64 m, .slice ao xs.length c] 40)) (hP.below hb1.out) (by omega) (by omega)
      have hps := hid (fun w2 (hb2 : Below (w.alloc (.cells #[.int .i64 3, .string n, .int .i64 m, .slice ao xs.length c] 40)).heap.size (w.alloc (.cells #[.int .i64 3, .string n, .int .i64 m, .slice ao xs.length c] 40)) w2) => putS (hf1.out.next hb2) ⟨(Lib.itoa m).toArray⟩ (by rw [eT] at hlen; show l.length + (Lib.itoa m).toArray.size ≤ _; simpa using hlen))
      have HT := hid eT
      have hBw : B ≤ w.heap.size + 1 := by omega
      clear eT hC hg hat hx hlen hb hf hba hbx hr HX g2 g4 g5 n1
      go_enter Tryz.func37, Tryz.ntmps37
      go_wp2_with (first
        | (go_at_call 72; go_must (refine hit.mono ?_; clear hit; rintro e w2 ⟨rfl, hb2⟩))
        | (go_at_call 49; go_must (refine (hps.out w2 hb2).mono ?_; rintro e w3 ⟨rfl, hf3, hk3⟩)))
      refine bodyPost_end (ret_void Tryz.results37) rfl ⟨rfl, ?_, (hk1.out.trans (Wk.ofBelow (by simpa using hBw) hb2)).trans hk3⟩
      rw [HT.out]
      simpa using hf3
    · have n3 : (k == 3) = false := beq_eq_false_iff_ne.2 e3
      have hin := isNil_any k n m ao xs.length c (w.alloc (.cells #[.int .i64 k, .string n, .int .i64 m, .slice ao xs.length c] 40))
      have hkeep : Hid (∀ w2, Below (w.alloc (.cells #[.int .i64 k, .string n, .int .i64 m, .slice ao xs.length c] 40)).heap.size (w.alloc (.cells #[.int .i64 k, .string n, .int .i64 m, .slice ao xs.length c] 40)) w2 → w2.heap[w.heap.size]? = some (.cells #[.int .i64 k, .string n, .int .i64 m, .slice ao xs.length c] 40) ∧ Bf w2 B b l ∧ Wk B b w w2 ∧ Below W.heap.size W w2) := fun w2 hb2 => ⟨(hb2.block _ (by simp)).trans hBx.out, hf1.out.next hb2, hk1.out.trans (Wk.ofBelow (by simp; omega) hb2), Below.next hb1.out hb2⟩
      cases hnb : nilB k n with
      | true =>
        have eT : wrX (.mk k n m xs) = [91, 93] := by
          have hk2 : k = 2 := by unfold nilB at hnb; simp at hnb; exact hnb.1
          subst hk2
          rw [wrX, leafT]
          simp [pairB, hnb]
        rw [hnb] at hin
        have hps := hid (fun w2 (hf2 : Bf w2 B b l) => putS hf2 ⟨#[91, 93]⟩ (by rw [eT] at hlen; exact hlen))
        have HT := hid eT
        clear eT hC hg hat hx hlen hb hf hba hbx hr HX g2 g4 g5 hnb
        go_enter Tryz.func37, Tryz.ntmps37
        go_wp2_with (first
          | (go_at_call 73; go_must (refine hin.mono ?_; clear hin; rintro e w2 ⟨rfl, hb2⟩; obtain ⟨hq2, hf2, hk2, hB2⟩ := hkeep.out w2 hb2))
          | (go_at_call 49; go_must (refine (hps.out w2 hf2).mono ?_; rintro e w3 ⟨rfl, hf3, hk3⟩)))
        refine bodyPost_end (ret_void Tryz.results37) rfl ⟨rfl, ?_, hk2.trans hk3⟩
        rw [HT.out]
        exact hf3
      | false =>
        rw [hnb] at hin
        have hip := hid (fun w2 => isPair_any k n m ao xs.length c w2)
        cases hpb : pairB k n xs.length with
        | true =>
          rw [hpb] at hip
          have hwl := hid (fun w3 (hb3 : Below W.heap.size W w3) (hf3 : Bf w3 B b l) => writeList_any hC hg hpb HX.out hb3 hW hf3 hlen)
          clear hC hg hat hx hlen hb hf hba hbx hr HX g2 g4 g5 hnb hpb
          go_enter Tryz.func37, Tryz.ntmps37
          go_wp2_with (first
            | (go_at_call 73; go_must (refine hin.mono ?_; clear hin; rintro e w2 ⟨rfl, hb2⟩; obtain ⟨hq2, _, _, _⟩ := hkeep.out w2 hb2; have zq2 := lt_of_block hq2; obtain ⟨⟨u0, u1, u2, u3⟩, _⟩ := blk4x hq2))
            | (go_at_call 74; go_must (refine (hip.out w2).mono ?_; clear hip; rintro e w3 ⟨rfl, hb3⟩; obtain ⟨hq3, hf3, hk3, hB3⟩ := hkeep.out w3 (Below.next hb2 hb3); have zq3 := lt_of_block hq3; obtain ⟨⟨y0, y1, y2, y3⟩, _⟩ := blk4x hq3))
            | (go_at_call 75; go_must (refine (hwl.out w3 hB3 hf3).mono ?_; rintro e w4 ⟨rfl, hf4, hk4⟩)))
          refine bodyPost_end (ret_void Tryz.results37) rfl ⟨rfl, hf4, hk3.trans hk4⟩
        | false =>
          rw [hpb] at hip
          have eT : wrX (.mk k n m xs) = (quoteS n).data.toList ++ wrA 40 xs := by
            rw [wrX, hpb, if_neg (by decide), leafT, if_neg e1, if_neg e3, hnb, if_neg (by decide)]
          rw [eT] at hlen
          have hqs := bytes_len (quoteS n)
          rw [List.length_append] at hlen
          have hqu := hid (fun w3 => quote_any n w3 g1)
          have hps := hid (fun w4 (hf4 : Bf w4 B b l) => putS hf4 (quoteS n) (by omega))
          have hwa := hid (fun w5 (hb5 : Below W.heap.size W w5) (hf5 : Bf w5 B b (l ++ (quoteS n).data.toList)) => writeArgs_any hC g4 (fun x hx => szE_lt hx) hr.out hb5 hW hf5 g3 (by rw [List.length_append]; omega))
          have HT := hid eT
          generalize quoteS n = qn at *
          clear eT hC hg hat hx hlen hb hf hba hbx hr HX g2 g4 g5 hnb hpb
          go_enter Tryz.func37, Tryz.ntmps37
          go_wp2_with (first
            | (go_at_call 73; go_must (refine hin.mono ?_; clear hin; rintro e w2 ⟨rfl, hb2⟩; obtain ⟨hq2, _, _, _⟩ := hkeep.out w2 hb2; have zq2 := lt_of_block hq2; obtain ⟨⟨u0, u1, u2, u3⟩, _⟩ := blk4x hq2))
            | (go_at_call 74; go_must (refine (hip.out w2).mono ?_; clear hip; rintro e w3 ⟨rfl, hb3⟩; have hB23 := Below.next hb2 hb3; obtain ⟨hq3, _, _, _⟩ := hkeep.out w3 hB23; have zq3 := lt_of_block hq3; obtain ⟨⟨y0, y1, y2, y3⟩, _⟩ := blk4x hq3))
            | (go_at_call 76; go_must (refine (hqu.out w3).mono ?_; clear hqu; rintro e w4 ⟨rfl, hb4⟩; obtain ⟨hq4, hf4, hk4, hB4⟩ := hkeep.out w4 (Below.next hB23 hb4)))
            | (go_at_call 49; go_must (refine (hps.out w4 hf4).mono ?_; clear hps; rintro e w5 ⟨rfl, hf5, hk5⟩; have hq5 := hk5.box hq4 (by decide) (by omega); have zq5 := lt_of_block hq5; obtain ⟨⟨s0, s1, s2, s3⟩, _⟩ := blk4x hq5))
            | (go_at_call 77; go_must (refine (hwa.out w5 (Wk.world hB4 hW hk5) hf5).mono ?_; rintro e w6 ⟨rfl, hf6, hk6⟩)))
          refine bodyPost_end (ret_void Tryz.results37) rfl ⟨rfl, ?_, (hk4.trans hk5).trans hk6⟩
          rw [HT.out]
          simpa using hf6
theorem write_all {W : World} (hP : PowT W) : ∀ N, WrC W N := by
  intro N
  induction N with
  | zero => exact fun x hx => absurd hx (Nat.not_lt_zero _)
  | succ N ih =>
    intro x hx nest v w B b l hg hv hb hW hf hl
    obtain ⟨k, n, m, xs⟩ := x
    exact write_step hP (ih.less (by omega)) hg hv hb hW hf hl
set_option maxRecDepth 100000 in
set_option maxHeartbeats 4000000 in
/-- Write of package parse, at every term. -/
theorem writeE_any {w : World} (hP : PowT w) {x : Ex} {v : Value} (hx : Xv w x v) (hz : szX x) (hlen : goodX 0 x = true → (wrX x).length ≤ 140737488355328) :
    Calls Tryz.prog 16 #[v] w fun e w' => e = .returned (.tuple #[.string (if goodX 0 x = true then ⟨(wrX x).toArray⟩ else ⟨#[]⟩), .bool (goodX 0 x)]) ∧ Below w.heap.size w w' := by
  obtain ⟨k, n, m, xs⟩ := x
  have HX := hid hx
  obtain ⟨av, rfl, ao, c, rfl, _⟩ := hx.parts
  have hba := below_alloc w (.cells #[.int .i64 k, .string n, .int .i64 m, .slice ao xs.length c] 40)
  have hbx := heap_alloc_new w (.cells #[.int .i64 k, .string n, .int .i64 m, .slice ao xs.length c] 40)
  have hgd := goodE_any (.mk k n m xs) (HX.out.next hba) hz
  obtain ⟨⟨c0, c1, c2, c3⟩, _⟩ := blk4x hbx
  have hkeep : Hid (∀ w2, Below (w.alloc (.cells #[.int .i64 k, .string n, .int .i64 m, .slice ao xs.length c] 40)).heap.size (w.alloc (.cells #[.int .i64 k, .string n, .int .i64 m, .slice ao xs.length c] 40)) w2 → w2.heap[w.heap.size]? = some (.cells #[.int .i64 k, .string n, .int .i64 m, .slice ao xs.length c] 40) ∧ Below w.heap.size w w2) := fun w2 hb2 => ⟨(hb2.block _ (by simp)).trans hbx, Below.next hba hb2⟩
  cases hg : goodX 0 (.mk k n m xs) with
  | false =>
    rw [hg] at hgd
    rw [if_neg (by decide)]
    clear hx hz hlen hg hba hbx
    go_enter Tryz.func16, Tryz.ntmps16
    go_wp2_with (go_at_call 18; go_must (refine hgd.mono ?_; rintro e w2 ⟨rfl, hb2⟩; obtain ⟨hq2, hB2⟩ := hkeep.out w2 hb2))
    go_ret2
    exact ⟨rfl, hB2⟩
  | true =>
    rw [hg] at hgd
    rw [if_pos rfl]
    have hl := hlen hg
    have hwr := hid (fun w2 (hB2 : Below w.heap.size w w2) => write_all hP (szE (.mk k n m xs) + 1) (.mk k n m xs) (by omega) 0 _ (w2.alloc (.cells #[.pointer none, .slice none 0 0] 91)) w2.heap.size w2.heap.size [] hg HX.out (Below.next hB2 (below_alloc w2 _)) hB2.size (Bf.new w2) (by simpa using hl))
    generalize wrX (.mk k n m xs) = TX at *
    clear hx hz hlen hg hba hbx hl
    go_enter Tryz.func16, Tryz.ntmps16
    go_wp2_with (first
      | (go_at_call 18; go_must (refine hgd.mono ?_; clear hgd; rintro e w2 ⟨rfl, hb2⟩; obtain ⟨hq2, hB2⟩ := hkeep.out w2 hb2; have zq2 := lt_of_block hq2; obtain ⟨⟨u0, u1, u2, u3⟩, _⟩ := blk4x hq2))
      | (go_at_call 37; go_must (refine (hwr.out w2 hB2).mono ?_; clear hwr; rintro e w3 ⟨rfl, hf3, hk3⟩; rw [List.nil_append] at hf3; have hgs := getS hf3))
      | (go_at_call 38; go_must (refine hgs.mono ?_; rintro e w4 ⟨rfl, hk4⟩)))
    go_ret2
    exact ⟨rfl, (Below.next hB2 (below_alloc w2 _)).trans ((hk3.trans hk4).below.mono hB2.size)⟩
end Go.Proofs.YtklfnphkepfmaaaGreatDoor

/- Terms of package parse, at every source. -/
namespace Go.Proofs.YtklfnphkepfmaaaGreatDoor
open Go.RowKit

theorem ret_pair {w : World} {fn : Func} {t u : Tmp} (hfn : fn.results = #[.cell t 27, .tmp u]) {tmps : Array Value} {q : Nat} {u0 u1 v : Value} (h4 : tmps[t]?.getD undef = .pointer (some ⟨q, 0, none⟩)) (h5 : tmps[u]?.getD undef = v) (hq : w.heap[q]? = some (.cells #[u0, u1] 27)) : (results fn tmps).run Tryz.prog w = .ok (.tuple #[.agg #[u0, u1], v]) w := by
  obtain ⟨⟨z0, z1⟩, _⟩ := blk2x hq
  simp [results, hfn, go_sem, h4, h5, z0, z1]
theorem Za.form {w w' : World} {s : ByteArray} {e : Ending} (h : Za w s e w') : ∃ ra rn rc qa qn qc ev, e = .returned (.tuple #[.agg #[.slice ra rn rc, .slice qa qn qc], ev]) ∧ (ev = .nilIface ∨ ∃ b, ev = .iface 82 (.pointer (some ⟨b, 0, none⟩))) := by
  obtain ⟨_, h⟩ := h
  split at h
  · obtain ⟨b, fb, rfl, _⟩ := h
    exact ⟨_, _, _, _, _, _, _, rfl, Or.inr ⟨b, rfl⟩⟩
  · split at h
    · obtain ⟨ro, rc, qo, qc, rfl, _⟩ := h
      exact ⟨_, _, _, _, _, _, _, rfl, Or.inl rfl⟩
    · obtain ⟨b, rfl, _⟩ := h
      exact ⟨_, _, _, _, _, _, _, rfl, Or.inr ⟨b, rfl⟩⟩
theorem Za.next {w0 w w1 w2 : World} {s : ByteArray} {e : Ending} (h : Za w1 s e w) (h0 : Below w0.heap.size w0 w1) (hk : ∀ b : Nat, w1.heap.size ≤ b → b < w.heap.size → w2.heap[b]? = w.heap[b]?) (hb : Below w0.heap.size w0 w2) (hf : ∀ (b : Nat) (c a : Int), w.heap[b]? = some (faultAtObj c a) → w2.heap[b]? = some (faultAtObj c a)) (hf2 : ∀ (b fb : Nat) (a : Int), w.heap[b]? = some (srcFault fb a) → w2.heap[b]? = some (srcFault fb a)) : Za w0 s e w2 := by
  obtain ⟨_, h⟩ := h
  refine ⟨hb, ?_⟩
  split at h
  · rename_i hc
    rw [if_pos hc]
    obtain ⟨b, fb, rfl, h1, h2⟩ := h
    exact ⟨b, fb, rfl, hf2 _ _ _ h1, hf _ _ _ h2⟩
  · rename_i hc
    rw [if_neg hc]
    cases hr : termsF (someT s) (fuelT (someT s)) 0 with
    | ok xq j =>
      obtain ⟨xs, qs⟩ := xq
      rw [hr] at h
      obtain ⟨ro, rc, qo, qc, rfl, h1, h2⟩ := h
      exact ⟨ro, rc, qo, qc, rfl, h1.keep h0.size hk, h2.keep h0.size hk⟩
    | bad c j =>
      rw [hr] at h
      obtain ⟨b, rfl, h1⟩ := h
      exact ⟨b, rfl, hf _ _ _ h1⟩
set_option maxRecDepth 100000 in
set_option maxHeartbeats 4000000 in
theorem termsE_any (s : ByteArray) (w : World) (hG : ErrT w) :
    Calls Tryz.prog 10 #[.string s] w (Za w s) := by
  have hb0 := below_alloc w (.cells #[.slice none 0 0, .slice none 0 0] 27)
  have hrd := read_any s (w.alloc (.cells #[.slice none 0 0, .slice none 0 0] 27)) (hG.below hb0)
  have hq0 := heap_alloc_new w (.cells #[.slice none 0 0, .slice none 0 0] 27)
  go_enter Tryz.func10, Tryz.ntmps10
  go_wp2_with (go_at_call 27; go_must (refine hrd.mono ?_; rintro e w2 hZ; obtain ⟨ra, rn, rc, qa, qn, qc, ev, rfl, hev⟩ := hZ.form; have HZ := hid hZ; have hq2 := (hZ.1.block w.heap.size (by simp)).trans hq0; have zq2 := lt_of_block hq2; obtain ⟨⟨u0, u1⟩, f0, f1⟩ := blk2x hq2; clear hZ hev))
  have g0 := heap_setCell_same w2 w.heap.size 0 _ _ (.slice ra rn rc) hq2
  have g1 := heap_setCell_same _ w.heap.size 1 _ _ (.slice qa qn qc) g0
  have hfar : ∀ b, b ≠ w.heap.size → ((w2.setCell ⟨w.heap.size, 0, none⟩ (.slice ra rn rc)).setCell ⟨w.heap.size, 1, none⟩ (.slice qa qn qc)).heap[b]? = w2.heap[b]? := fun b hb => (Below.heap_setCell _ ⟨w.heap.size, 1, none⟩ _ b hb).trans (Below.heap_setCell _ ⟨w.heap.size, 0, none⟩ _ b hb)
  have hne : ∀ b c, w2.heap[b]? = some (.cells c 86) → b ≠ w.heap.size := fun b c hb e => by
    subst e
    rw [hq2] at hb
    injection hb with hb
    injection hb with _ hb
    exact absurd hb (by decide)
  refine bodyPost_ret (ret_pair Tryz.results10 (by rfl) (by rfl) g1) rfl ?_
  exact Za.next (show Za _ s _ w2 from HZ.out) hb0 (fun b hb hl => hfar b (by have hb' : (w.alloc (.cells #[.slice none 0 0, .slice none 0 0] 27)).heap.size ≤ b := hb; simp at hb'; omega)) (((Below.next hb0 HZ.out.1).setCell (p := ⟨w.heap.size, 0, none⟩) (Nat.le_refl _) _).setCell (p := ⟨w.heap.size, 1, none⟩) (Nat.le_refl _) _) (fun b c a hb => (hfar b (hne b _ hb)).trans hb) (fun b fb a hb => (hfar b (hne b _ hb)).trans hb)
end Go.Proofs.YtklfnphkepfmaaaGreatDoor

/- lives of tendrillaw07. -/
namespace Go.Proofs.YtklfnphkepfmaaaGreatDoor
open Go.RowKit

/-- The fixed source, and what it is read as. -/
abbrev sL : ByteArray := ⟨#[91, 97, 124, 88, 93]⟩
abbrev xL : Ex := .mk 4 ⟨#[46]⟩ 0 [.mk 2 ⟨#[97]⟩ 0 [], .mk 1 ⟨#[88]⟩ 0 []]
theorem livC : someC sL = 0 := by kernel_rfl
theorem livT : termsF (someT sL) (fuelT (someT sL)) 0 = .ok ([xL], []) 6 := by kernel_rfl
theorem livG : goodX 0 xL = true := by kernel_rfl
theorem livW : (⟨(wrX xL).toArray⟩ : ByteArray) = sL := by kernel_rfl
set_option maxRecDepth 100000 in
set_option maxHeartbeats 4000000 in
theorem plives_any (w : World) (hG : ErrT w) (hP : PowT w) :
    Calls Tryz.prog 8 #[] w fun e w' => e = .returned (.bool true) ∧ Below w.heap.size w w' := by
  have hts : Calls Tryz.prog 10 #[.string sL] w fun e w1 => ∃ b o rc qo qc aa ac, e = .returned (.tuple #[.agg #[.slice (some ⟨b, o, none⟩) 1 rc, .slice qo 0 qc], .nilIface]) ∧ Below w.heap.size w w1 ∧ b < w1.heap.size ∧ w1.cell? ⟨b, o, none⟩ = some (.int .i64 4) ∧ w1.cell? ⟨b, o + 1, none⟩ = some (.string ⟨#[46]⟩) ∧ w1.cell? ⟨b, o + 2, none⟩ = some (.int .i64 0) ∧ w1.cell? ⟨b, o + 3, none⟩ = some (.slice aa 2 ac) ∧ Xv w1 xL (.agg #[.int .i64 4, .string ⟨#[46]⟩, .int .i64 0, .slice aa 2 ac]) := by
    refine (termsE_any sL w hG).mono ?_
    rintro e w1 ⟨hb, h⟩
    rw [if_neg (by simpa using livC), livT] at h
    obtain ⟨ro, rc, qo, qc, rfl, h1, h2⟩ := h
    obtain ⟨ao, c, e1, hat⟩ := h1.xo.rxw.rxs
    injection e1 with e1 _ e3
    subst e1
    subst e3
    obtain ⟨b, o, k', n', m', aa, al, ac, rfl, d0, d1, d2, d3, hx⟩ := hat 0 (by simp)
    obtain ⟨hk, hn, hm, av, c', e4, _⟩ := Xv.same (show Xv w1 (.mk 4 ⟨#[46]⟩ 0 [.mk 2 ⟨#[97]⟩ 0 [], .mk 1 ⟨#[88]⟩ 0 []]) _ from hx)
    subst hk
    subst hn
    subst hm
    have e5 : al = 2 := by injection e4
    subst e5
    simp only [Nat.zero_mul, Nat.add_zero] at d0 d1 d2 d3
    exact ⟨b, o, rc, qo, qc, aa, ac, rfl, hb, lt_of_cell d0, d0, d1, d2, d3, hx⟩
  have hwr := hid (fun w2 (hb2 : Below w.heap.size w w2) v (hx : Xv w2 xL v) => writeE_any (hP.below hb2) hx (by simp [szX, szXs, ByteArray.size]) (fun _ => by rw [show (wrX xL).length = 5 by kernel_rfl]; omega))
  rw [livG] at hwr
  simp only [if_true, livW] at hwr
  go_enter Tryz.func8, Tryz.ntmps8
  go_wp2_with (first
    | (go_at_call 10; go_must (refine hts.mono ?_; clear hts; rintro e w1 ⟨b, o, rc, qo, qc, aa, ac, rfl, hb1, zb, d0, d1, d2, d3, hx⟩; have hba := below_alloc w1 (.cells #[.slice (some ⟨b, o, none⟩) 1 rc, .slice qo 0 qc] 27); have hw2 := hwr.out _ (Below.next hb1 hba) _ (hx.next hba); have hB1 := hid (Below.next hb1 hba)))
    | (go_at_call 16; go_must (refine hw2.mono ?_; rintro e w3 ⟨rfl, hb3⟩)))
  go_ret
  exact ⟨rfl, Below.next hB1.out hb3⟩
end Go.Proofs.YtklfnphkepfmaaaGreatDoor

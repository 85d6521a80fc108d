/- Tokens and faults in memory; the functions of package lex that make one token: none, piece, word. -/
import Derived.Test.YtklfnphkepfmaaaGreatDoorLxFn2
import Derived.OneCell
namespace Go.Proofs.YtklfnphkepfmaaaGreatDoor
open Go.RowKit

theorem lt_of_cell {w : World} {b o : Nat} {u : Value} (h : w.cell? ⟨b, o, none⟩ = some u) : b < w.heap.size := World.block_lt_of_cell? w ⟨b, o, none⟩ h
theorem lt_of_block {w : World} {b : Nat} {o : Obj} (h : w.heap[b]? = some o) : b < w.heap.size := (Array.getElem?_eq_some_iff.1 h).1
theorem below_alloc (w : World) (o : Obj) : Below w.heap.size w (w.alloc o) := (Below.refl _ _).alloc (Nat.le_refl _) o
theorem Below.next {W w w' : World} (h : Below W.heap.size W w) (k : Below w.heap.size w w') : Below W.heap.size W w' := h.trans (k.mono h.size)
/-- A token as a value. -/
abbrev tokV (t : Tk) : Value := .agg #[.int .i64 t.kind, .string t.text, .int .i64 t.num, .int .i64 (t.at_ : Int), .int .i64 (t.end_ : Int)]
/-- The block of a token. -/
def tokObj (t : Tk) : Obj := .cells #[.int .i64 t.kind, .string t.text, .int .i64 t.num, .int .i64 (t.at_ : Int), .int .i64 (t.end_ : Int)] 77
/-- A fault of the reference, as a value: its code, its place. -/
abbrev flt (c a : Int) : Value := .agg #[.int .i64 c, .int .i64 a, .string ⟨#[]⟩, .slice none 0 0]
/-- The block of a fault with a code and a place. -/
def faultAtObj (c a : Int) : Obj := .cells #[.int .i64 c, .int .i64 a, .string ⟨#[]⟩, .nilIface] 86
/-- An error that is just the fault with this code and place (code 0: none). -/
def Err (w : World) (e : Value) (c a : Int) : Prop :=
  (c = 0 ∧ e = .nilIface) ∨ (c ≠ 0 ∧ ∃ b, e = .iface 82 (.pointer (some ⟨b, 0, none⟩)) ∧ w.heap[b]? = some (faultAtObj c a))
theorem Err.below {w w' : World} {e : Value} {c a : Int} (h : Err w e c a) (hm : Below w.heap.size w w') : Err w' e c a := by
  rcases h with h | ⟨hc, b, rfl, hb⟩
  · exact Or.inl h
  · exact Or.inr ⟨hc, b, rfl, by rw [hm.block b (lt_of_block hb)]; exact hb⟩
theorem err_none (w : World) (a : Int) : Err w .nilIface 0 a := Or.inl ⟨rfl, rfl⟩
/-- What lies in a token's cells. -/
theorem tok_facts {w : World} {q : Nat} {t : Tk} (h : w.heap[q]? = some (tokObj t)) :
    (w.cell? ⟨q, 0, none⟩ = some (.int .i64 t.kind) ∧ w.cell? ⟨q, 1, none⟩ = some (.string t.text) ∧ w.cell? ⟨q, 2, none⟩ = some (.int .i64 t.num) ∧ w.cell? ⟨q, 3, none⟩ = some (.int .i64 (t.at_ : Int)) ∧ w.cell? ⟨q, 4, none⟩ = some (.int .i64 (t.end_ : Int))) ∧
    (w.frozen? ⟨q, 0, none⟩ = false ∧ w.frozen? ⟨q, 1, none⟩ = false ∧ w.frozen? ⟨q, 2, none⟩ = false ∧ w.frozen? ⟨q, 3, none⟩ = false ∧ w.frozen? ⟨q, 4, none⟩ = false) := by
  simp [World.cell?, World.frozen?, h, tokObj]
/-- The world behind a token stored into its cells. -/
abbrev tokEnd (w : World) (q : Nat) (t : Tk) : World :=
  ((((w.setCell ⟨q, 0, none⟩ (.int .i64 t.kind)).setCell ⟨q, 1, none⟩ (.string t.text)).setCell ⟨q, 2, none⟩ (.int .i64 t.num)).setCell ⟨q, 3, none⟩ (.int .i64 (t.at_ : Int))).setCell ⟨q, 4, none⟩ (.int .i64 (t.end_ : Int))
theorem tok_end {w : World} {q : Nat} {t0 : Tk} (t : Tk) (h : w.heap[q]? = some (tokObj t0)) : (tokEnd w q t).heap[q]? = some (tokObj t) := by
  have h0 := heap_setCell_same w q 0 _ _ (.int .i64 t.kind) h
  have h1 := heap_setCell_same _ q 1 _ _ (.string t.text) h0
  have h2 := heap_setCell_same _ q 2 _ _ (.int .i64 t.num) h1
  have h3 := heap_setCell_same _ q 3 _ _ (.int .i64 (t.at_ : Int)) h2
  have h4 := heap_setCell_same _ q 4 _ _ (.int .i64 (t.end_ : Int)) h3
  rw [tokEnd, h4]
  rfl
theorem tokEnd_below {W w : World} {B q : Nat} {t : Tk} (h : Below B W w) (hq : B ≤ q) : Below B W (tokEnd w q t) :=
  ((((h.setCell (p := ⟨q, 0, none⟩) hq _).setCell (p := ⟨q, 1, none⟩) hq _).setCell (p := ⟨q, 2, none⟩) hq _).setCell (p := ⟨q, 3, none⟩) hq _).setCell (p := ⟨q, 4, none⟩) hq _
theorem Err.tokEnd {w : World} {e : Value} {c a : Int} {q : Nat} {t t0 : Tk} (h : Err w e c a) (hq : w.heap[q]? = some (tokObj t0)) : Err (tokEnd w q t) e c a := by
  rcases h with h | ⟨hc, b, rfl, hb⟩
  · exact Or.inl h
  · refine Or.inr ⟨hc, b, rfl, ?_⟩
    have hne : b ≠ q := fun e => by
      subst e
      rw [hb] at hq
      simp [tokObj, faultAtObj] at hq
    rw [Below.heap_setCell _ ⟨q, 4, none⟩ _ b hne, Below.heap_setCell _ ⟨q, 3, none⟩ _ b hne, Below.heap_setCell _ ⟨q, 2, none⟩ _ b hne, Below.heap_setCell _ ⟨q, 1, none⟩ _ b hne, Below.heap_setCell _ ⟨q, 0, none⟩ _ b hne]
    exact hb
theorem ret_tok {w : World} {fn : Func} {t s : Tmp} (hfn : fn.results = #[.cell t 77, .tmp s]) {tmps : Array Value} {q : Nat} {x : Tk} {ev : Value} (h4 : tmps[t]?.getD undef = .pointer (some ⟨q, 0, none⟩)) (hs : tmps[s]?.getD undef = ev) (hq : w.heap[q]? = some (tokObj x)) : (results fn tmps).run Tryz.prog w = .ok (.tuple #[tokV x, ev]) w := by
  obtain ⟨⟨z0, z1, z2, z3, z4⟩, _⟩ := tok_facts hq
  simp [results, hfn, go_sem, hs, h4, z0, z1, z2, z3, z4]
theorem ret_tok1 {w : World} {fn : Func} {t : Tmp} (hfn : fn.results = #[.cell t 77]) {tmps : Array Value} {q : Nat} {x : Tk} (h4 : tmps[t]?.getD undef = .pointer (some ⟨q, 0, none⟩)) (hq : w.heap[q]? = some (tokObj x)) : (results fn tmps).run Tryz.prog w = .ok (tokV x) w := by
  obtain ⟨⟨z0, z1, z2, z3, z4⟩, _⟩ := tok_facts hq
  simp [results, hfn, go_sem, h4, z0, z1, z2, z3, z4]
/-- A token and its error, as a call answers them. -/
def Ans (w : World) (x : Lx) (e : Ending) (w' : World) : Prop := ∃ ev, e = .returned (.tuple #[tokV x.tok, ev]) ∧ Err w' ev x.code x.pl ∧ Below w.heap.size w w'
/-- The result's cells, laid first, behind what a call has left. -/
theorem kept_first {w w2 : World} {o : Obj} (h : Below (w.alloc o).heap.size (w.alloc o) w2) : w2.heap[w.heap.size]? = some o := by
  rw [h.block _ (by simp)]
  exact heap_alloc_new w o
theorem below_first {w w2 : World} {o : Obj} (h : Below (w.alloc o).heap.size (w.alloc o) w2) : Below w.heap.size w w2 := Below.next (below_alloc w o) h
set_option maxHeartbeats 400000 in
theorem none_any (c a : Int) (w : World) (hc : c ≠ 0) :
    Calls Tryz.prog 138 #[.int .i64 c, .int .i64 a] w (Ans w (badT c a)) := by
  go_enter Tryz.func138, Tryz.ntmps138
  go_wp2
  have hq : ((w.alloc (tokObj tk0)).alloc (faultAtObj c a)).heap[w.heap.size]? = some (tokObj tk0) := by
    rw [Below.heap_alloc _ _ _ (by simp)]
    exact heap_alloc_new w _
  have hf : ((w.alloc (tokObj tk0)).alloc (faultAtObj c a)).heap[w.heap.size + 1]? = some (faultAtObj c a) := by
    have := heap_alloc_new (w.alloc (tokObj tk0)) (faultAtObj c a)
    simpa using this
  have hB : Below w.heap.size w ((w.alloc (tokObj tk0)).alloc (faultAtObj c a)) := ((Below.refl _ w).alloc (Nat.le_refl _) _).alloc (by simp) _
  exact bodyPost_ret (ret_tok (q := w.heap.size) (x := tk0) Tryz.results138 (by rfl) (by rfl) hq) rfl ⟨_, rfl, Or.inr ⟨hc, w.heap.size + 1, rfl, hf⟩, hB⟩
/-- The shelf's numbers for stringslite.Clone, at this program. -/
def cloneRen : Go.Shelf.Ren := ⟨fun _ => 134, fun n => if n = 37 then 49 else if n = 47 then 126 else n, fun n => n⟩
theorem cloneLays : LaysPu.n25 Tryz.prog cloneRen :=
  ⟨(by kernel_rfl), (by kernel_rfl), (by kernel_rfl), (fun _ => by kernel_rfl), (fun _ => by kernel_rfl), (fun _ => by kernel_rfl), (by kernel_rfl), (by kernel_rfl), (fun _ => by kernel_rfl), (fun _ => by kernel_rfl),
    (fun _ => by kernel_rfl), (by kernel_rfl), (by kernel_rfl), (fun _ => by kernel_rfl), (fun _ => by kernel_rfl), (fun _ => by kernel_rfl), (by kernel_rfl), (by kernel_rfl), (fun _ => by kernel_rfl), (fun _ => by kernel_rfl),
    (fun _ => by kernel_rfl), (by kernel_rfl), (by kernel_rfl), (fun _ => by kernel_rfl), (fun _ => by kernel_rfl), (fun _ => by kernel_rfl), (by kernel_rfl), (by kernel_rfl), (fun _ => by kernel_rfl), (fun _ => by kernel_rfl),
    (fun _ => by kernel_rfl), (by kernel_rfl), (by kernel_rfl), (fun _ => by kernel_rfl), (fun _ => by kernel_rfl), (fun _ => by kernel_rfl), (by kernel_rfl)⟩
theorem sclone_any (s : ByteArray) (w : World) (hs : s.size ≤ 281474976710656) :
    Calls Tryz.prog 134 #[.string s] w fun e w' => e = .returned (.string s) ∧ Below w.heap.size w w' := AnyPu.stringslite_Clone cloneLays s w hs
set_option maxHeartbeats 400000 in
theorem clone_any (s : ByteArray) (w : World) (hs : s.size ≤ 281474976710656) :
    Calls Tryz.prog 110 #[.string s] w fun e w' => e = .returned (.string s) ∧ Below w.heap.size w w' := by
  go_enter Tryz.func110, Tryz.ntmps110
  go_wp2_with (go_at_call 134; refine (sclone_any _ _ hs).mono ?_; rintro e w1 ⟨rfl, hb⟩)
  go_ret
  exact ⟨rfl, hb⟩
theorem cut_size (s : ByteArray) (a e : Nat) : (s.extract a e).size ≤ s.size := by
  rw [ByteArray.size_extract]
  omega
set_option maxHeartbeats 1000000 in
theorem piece_any (s : ByteArray) (a e : Nat) (k : Int) (w : World) (hs : s.size ≤ 281474976710656) (hae : a ≤ e) (he : e ≤ s.size) :
    Calls Tryz.prog 155 #[.string s, .int .i64 (a : Int), .int .i64 (e : Int), .int .i64 k] w fun x w' => x = .returned (tokV ⟨k, cutB s a e, 0, a, e⟩) ∧ Below w.heap.size w w' := by
  have hcs := cut_size s a e
  have hcl := fun W => clone_any (s.extract a e) W (by omega)
  clear hcs
  go_enter Tryz.func155, Tryz.ntmps155
  go_wp2_with (go_at_call 110; refine (hcl _).mono ?_; rintro x w2 ⟨rfl, hb⟩; have hq := kept_first hb; obtain ⟨⟨q0, q1, q2, q3, q4⟩, g0, g1, g2, g3, g4⟩ := tok_facts (t := tk0) hq)
  have hW := tok_end (w := w2) (q := w.heap.size) (t0 := tk0) ⟨k, s.extract a e, 0, a, e⟩ hq
  have hB : Below w.heap.size w (tokEnd w2 w.heap.size ⟨k, s.extract a e, 0, a, e⟩) := tokEnd_below (below_first hb) (Nat.le_refl _)
  exact bodyPost_ret (ret_tok1 (q := w.heap.size) (x := ⟨k, s.extract a e, 0, a, e⟩) Tryz.results155 (by rfl) hW) rfl ⟨rfl, hB⟩
end Go.Proofs.YtklfnphkepfmaaaGreatDoor

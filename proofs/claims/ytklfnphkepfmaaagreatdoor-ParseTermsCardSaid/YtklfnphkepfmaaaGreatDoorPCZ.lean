/- list of package parse. -/
import Derived.Test.YtklfnphkepfmaaaGreatDoorPBZ
namespace Go.Proofs.YtklfnphkepfmaaaGreatDoor
open Go.RowKit Go.Shelf
attribute [local go_sem] tok_kind tok_text tok_num tok_at
attribute [local go_sem] Oper.semAt_some

/-- What a list is read as, behind its opening mark. -/
def listF (ts : List Tk) (f : Nat) (nest : Int) (i : Nat) : Rd1 Ex :=
  if mkA ts i 93 then .ok nilX (i + 1)
  else match elemsF ts f nest i [] with
    | .bad c j => .bad c j
    | .ok (es, n) j => if mkA ts j 124 then wantF ts 93 ((termF ts f n (j + 1)).map (listX es)) else wantF ts 93 (.ok (listX es nilX) j)
/-- What reads the next element. -/
def elRd (ts : List Tk) (f : Nat) (nest : Int) (k i : Nat) : Rd1 Ex := termF ts (f - 1 - k) (nest + k + 1) i
theorem elems_sev (ts : List Tk) (f : Nat) (nest : Int) : ∀ (f' : Nat) (i : Nat) (es : List Ex), f' + es.length = f → elemsF ts f' (nest + es.length) i es = (sevF ts (elRd ts f nest) f' i es).map (fun xs => (xs, nest + xs.length)) := by
  intro f'
  induction f' with
  | zero =>
    intro i es h
    rw [elemsF, sevF]
    rfl
  | succ f' ih =>
    intro i es h
    rw [elemsF, sevF]
    have e : elRd ts f nest es.length i = termF ts f' (nest + es.length + 1) i := by
      unfold elRd
      rw [show f - 1 - es.length = f' by omega]
    rw [e]
    cases hr : termF ts f' (nest + es.length + 1) i with
    | bad c j => rfl
    | ok x j =>
      show (if mkA ts j 44 = true then _ else _) = Rd1.map _ (if mkA ts j 44 = true then _ else _)
      have e2 : nest + (es.length : Int) + 1 = nest + ((es ++ [x]).length : Int) := by simp; omega
      split
      · rw [e2]
        exact ih (j + 1) (es ++ [x]) (by simp; omega)
      · rw [e2]
        rfl
theorem wit_elRd {ts : List Tk} (hE : EndT ts) (f : Nat) (nest : Int) (k i : Nat) (hi : i < ts.length) : wit ts i (elRd ts f nest k i) := (all_wit hE _).1 _ i hi
/-- The zero term. -/
abbrev exO : Obj := .cells #[.int .i64 0, .string ⟨#[]⟩, .int .i64 0, .slice none 0 0] 40
/-- The empty list's term. -/
abbrev nilO : Obj := .cells #[.int .i64 2, .string ⟨#[91, 93]⟩, .int .i64 0, .slice none 0 0] 40
/-- The world behind list's first statements. -/
structure LiW (w : World) (pb : Nat) (nest : Int) (W : World) : Prop where
  x : W.heap[w.heap.size]? = some (.cells #[.pointer (some ⟨pb, 0, none⟩)] 68)
  n : W.heap[w.heap.size + 1]? = some (.cells #[.int .i64 nest] 3)
  r : W.heap[w.heap.size + 1 + 1]? = some exO
  o : W.heap[w.heap.size + 1 + 1 + 1]? = some nilO
  z : W.heap.size = w.heap.size + 4
  b : Below w.heap.size w W
theorem liW_is (w : World) (pb : Nat) (nest : Int) : LiW w pb nest ((((w.alloc (.cells #[.pointer (some ⟨pb, 0, none⟩)] 68)).alloc (.cells #[.int .i64 nest] 3)).alloc exO).alloc nilO) := by
  have h0 := heap_alloc_new w (.cells #[.pointer (some ⟨pb, 0, none⟩)] 68)
  have h1 := heap_alloc_new (w.alloc (.cells #[.pointer (some ⟨pb, 0, none⟩)] 68)) (.cells #[.int .i64 nest] 3)
  have h2 := heap_alloc_new ((w.alloc (.cells #[.pointer (some ⟨pb, 0, none⟩)] 68)).alloc (.cells #[.int .i64 nest] 3)) exO
  have h3 := heap_alloc_new (((w.alloc (.cells #[.pointer (some ⟨pb, 0, none⟩)] 68)).alloc (.cells #[.int .i64 nest] 3)).alloc exO) nilO
  simp only [World.size_alloc] at h1 h2 h3
  refine ⟨?_, ?_, ?_, h3, by simp, (((((Below.refl _ w).alloc (Nat.le_refl _) _).alloc (by simp) _).alloc (by simp; omega) _).alloc (by simp; omega) _)⟩
  · rw [Below.heap_alloc _ _ _ (by simp; omega), Below.heap_alloc _ _ _ (by simp; omega), Below.heap_alloc _ _ _ (by simp)]
    exact h0
  · rw [Below.heap_alloc _ _ _ (by simp), Below.heap_alloc _ _ _ (by simp)]
    exact h1
  · rw [Below.heap_alloc _ _ _ (by simp)]
    exact h2
set_option maxRecDepth 100000 in
set_option maxHeartbeats 8000000 in
theorem list_nil {ts : List Tk} (hl : ts.length ≤ 10000000) {pb : Nat} {tv : Value} {w : World} {i : Nat} (h : Ps w pb tv ts i) (hi : i < ts.length) (nest : Int) (hm : mkA ts i 93 = true) :
    Calls Tryz.prog 125 #[.pointer (some ⟨pb, 0, none⟩), .int .i64 nest] w (Tm w pb tv ts (.ok nilX (i + 1))) := by
  have zp := lt_of_block h.b
  have hL := liW_is w pb nest
  have hp1 := h.below hL.b
  have htk := takeMark_yes hp1 hi hl ⟨#[93]⟩ hm
  have HL := hid hL
  clear hL hp1
  go_enter Tryz.func125, Tryz.ntmps125
  go_wp2_with (go_at_call 100; go_must (refine htk.mono ?_; rintro e w2 ⟨rfl, hg2, hp2⟩; have q4 := (hg2.block _ (lt_of_block HL.out.r) (fun e => absurd (Option.some.inj e) (by omega))).trans HL.out.r; have q5 := (hg2.block _ (lt_of_block HL.out.o) (fun e => absurd (Option.some.inj e) (by omega))).trans HL.out.o; have z4 := lt_of_block q4; have z5 := lt_of_block q5; obtain ⟨⟨a0, a1, a2, a3⟩, b0, b1, b2, b3⟩ := blk4x q4; obtain ⟨⟨c0, c1, c2, c3⟩, _⟩ := blk4x q5))
  have hqF : (exEnd w2 (w.heap.size + 1 + 1) (.int .i64 2) (.string ⟨#[91, 93]⟩) (.int .i64 0) (.slice none 0 0)).heap[w.heap.size + 1 + 1]? = _ := ex_end (.int .i64 2) (.string ⟨#[91, 93]⟩) (.int .i64 0) (.slice none 0 0) q4
  have hmF : Mo (· = pb) w (exEnd w2 (w.heap.size + 1 + 1) (.int .i64 2) (.string ⟨#[91, 93]⟩) (.int .i64 0) (.slice none 0 0)) := exEnd_mo ((Mo.ofBelow HL.out.b).step hg2) (by omega)
  have hpF := h.grown hmF.grownBy ((exEnd_other (by omega)).trans hp2.b)
  exact bodyPost_ret (ret_ex Tryz.results125 (by rfl) hqF) rfl ⟨_, rfl, hmF, hpF, Xw.leaf _ _ _ _ _⟩
end Go.Proofs.YtklfnphkepfmaaaGreatDoor

/- list of package parse: where it gives up. -/
namespace Go.Proofs.YtklfnphkepfmaaaGreatDoor
open Go.RowKit Go.Shelf
attribute [local go_sem] tok_kind tok_text tok_num tok_at
attribute [local go_sem] Oper.semAt_some

/-- What the list's elements leave as they were. -/
abbrev Sl (w : World) (pb : Nat) : Nat → Prop := fun b => b = pb ∨ b = w.heap.size + 1
theorem list_sev {ts : List Tk} (hE : EndT ts) (hl : ts.length ≤ 10000000) {pb : Nat} {tv : Value} {f : Nat} (hT : TermC pb tv ts (f + 1)) {w : World} {i : Nat} (h : Ps w pb tv ts i) (hi : i < ts.length) (nest : Int) (hn0 : -10 ≤ nest) (hn1 : nest ≤ 4096) (hn : nof (elemsF ts f nest i [])) {W1 w2 : World} (hL : LiW w pb nest W1) (hb : Below W1.heap.size W1 w2) :
    Calls Tryz.prog 60 #[.pointer (some ⟨pb, 0, none⟩), .func (.func 143) #[] #[.pointer (some ⟨w.heap.size + 1, 0, none⟩), .pointer (some ⟨w.heap.size, 0, none⟩)]] w2 (Sm eltX (Sl w pb) (Il (w.heap.size + 1) w.heap.size pb nest) w2 pb tv ts (sevF ts (elRd ts f nest) f i [])) := by
  have zp := lt_of_block h.b
  have hz := hL.z
  have hz2 := hb.size
  have hp2 := (h.below hL.b).below hb
  have hts := h.old (by omega)
  have e := elems_sev ts f nest f i [] (by simp)
  simp only [List.length_nil, Int.natCast_zero, Int.add_zero] at e
  rw [e] at hn
  refine sevX_any hE hl (enters_of Tryz.func143 (by kernel_rfl) rfl) (Or.inl rfl) (fun k hk => by rcases hk with rfl | rfl <;> omega) (fun k a b hI hq => ?_) (fun k i hi => wit_elRd hE f nest k i hi) (fun k i' w' hp' hI' hz' hi' hn' => ?_) hp2 hi ?_ f hn.unmap
  · obtain ⟨a1, a2, a3⟩ := hI
    exact ⟨(hq _ (by omega) (by omega)).trans a1, (hq _ (by omega) (by omega)).trans a2, a3⟩
  · exact elem_any hl hT hn0 (by omega) (by omega) (by omega) (f' := f - 1 - k) (by omega) hp' (fun ad n c htv => by have := hts ad n c htv; omega) hI' hi' hn'
  · refine ⟨((hb.block _ (by omega)).trans hL.n).trans ?_, (hb.block _ (by omega)).trans hL.x, by omega⟩
    simp
theorem list_after {w W1 w2 w3 : World} {pb : Nat} {nest : Int} (zp : pb < w.heap.size) (hL : LiW w pb nest W1) (hb : Below W1.heap.size W1 w2) (hm : Mo (Sl w pb) w2 w3) : w3.heap[w.heap.size + 1 + 1]? = some exO ∧ w3.heap[w.heap.size + 1 + 1 + 1]? = some nilO ∧ Mo (· = pb) w w3 ∧ w.heap.size + 4 ≤ w2.heap.size := by
  have hz := hL.z
  have hz2 := hb.size
  refine ⟨(hm.block _ (by omega) (by rintro (h | h) <;> omega)).trans ((hb.block _ (by omega)).trans hL.r), (hm.block _ (by omega) (by rintro (h | h) <;> omega)).trans ((hb.block _ (by omega)).trans hL.o), (Mo.ofBelow (Below.next hL.b hb)).trans hm (fun x hx => ?_), by omega⟩
  rcases hx with rfl | rfl
  · exact Or.inl rfl
  · exact Or.inr (by omega)
theorem sev_len {α : Type} {ts : List Tk} (hE : EndT ts) {rd : Nat → Nat → Rd1 α} (hw : ∀ k i, i < ts.length → wit ts i (rd k i)) : ∀ (f i : Nat) (xs : List α), i < ts.length → ∀ {ys : List α} {j : Nat}, sevF ts rd f i xs = .ok ys j → ys.length + i ≤ xs.length + j ∧ xs.length < ys.length := by
  intro f
  induction f with
  | zero => intro i xs hi ys j h; rw [sevF] at h; cases h
  | succ f ih =>
    intro i xs hi ys j h
    rw [sevF] at h
    have hwi := hw xs.length i hi
    cases hr : rd xs.length i with
    | bad c5 j5 => rw [hr] at h; cases h
    | ok x j5 =>
      rw [hr] at h hwi
      replace h : (if mkA ts j5 44 = true then sevF ts rd f (j5 + 1) (xs ++ [x]) else .ok (xs ++ [x]) j5) = .ok ys j := h
      obtain ⟨h1, h2⟩ := hwi
      split at h
      · rename_i hm
        have := ih (j5 + 1) (xs ++ [x]) (mk_next hE h2 hm) h
        simp at this
        omega
      · cases h
        simp
        omega
set_option maxRecDepth 100000 in
set_option maxHeartbeats 8000000 in
theorem list_eb {ts : List Tk} (hE : EndT ts) (hl : ts.length ≤ 10000000) {pb : Nat} {tv : Value} {f : Nat} (hT : TermC pb tv ts (f + 1)) {w : World} {i : Nat} (h : Ps w pb tv ts i) (hi : i < ts.length) (nest : Int) (hn0 : -10 ≤ nest) (hn1 : nest ≤ 4096) (hm : mkA ts i 93 = false) {j : Nat} {c5 : Int} (hc : c5 ≠ 0) (he : elemsF ts f nest i [] = .bad c5 j) :
    Calls Tryz.prog 125 #[.pointer (some ⟨pb, 0, none⟩), .int .i64 nest] w (Tm w pb tv ts (.bad c5 j)) := by
  have zp := lt_of_block h.b
  have hL := liW_is w pb nest
  have hp1 := h.below hL.b
  have htk := takeMark_no hp1 hi ⟨#[93]⟩ hm
  have hse := hid (fun w2 hb => list_sev (w2 := w2) hE hl hT h hi nest hn0 hn1 (by rw [he]; exact hc) hL hb)
  have e := elems_sev ts f nest f i [] (by simp)
  simp only [List.length_nil, Int.natCast_zero, Int.add_zero] at e
  rw [he] at e
  have hs : sevF ts (elRd ts f nest) f i [] = .bad c5 j := by
    cases hs : sevF ts (elRd ts f nest) f i [] with
    | ok xs j' => rw [hs] at e; cases e
    | bad c' j' => rw [hs] at e; cases e; rfl
  rw [hs] at hse
  have HL := hid hL
  have hmf : ∀ (fn : Fn) (first cap : Array Value) (w : World), (Instr.makeFunc fn first cap).run Tryz.prog w = .ok (.func fn first cap) w := fun _ _ _ _ => rfl
  clear hL hp1 e hs he
  go_enter Tryz.func125, Tryz.ntmps125
  go_wp2_with (first
    | (go_at_call 100; go_must (refine htk.mono ?_; clear htk; rintro e w2 ⟨rfl, hb2⟩; obtain ⟨cx, _⟩ := one_cell' ((hb2.block _ (lt_of_block HL.out.x)).trans HL.out.x); have zx := lt_of_block ((hb2.block _ (lt_of_block HL.out.x)).trans HL.out.x)))
    | (go_at_call 60; go_must (refine (hse.out w2 hb2).mono ?_; rintro e w3 ⟨b3, rfl, hb3, hc3, hd3⟩)))
  obtain ⟨_, _, hm3, hz3⟩ := list_after zp HL.out hb2 hd3
  exact ⟨rfl, b3, rfl, hb3, by omega, hm3⟩
/-- The elements are read: where the parser stands, and what is as it was. -/
structure LiE (w : World) (pb : Nat) (tv : Value) (ts : List Tk) (nest : Int) (es : List Ex) (j D : Nat) (v : Value) (W : World) : Prop where
  x : W.heap[w.heap.size]? = some (.cells #[.pointer (some ⟨pb, 0, none⟩)] 68)
  n : W.heap[w.heap.size + 1]? = some (.cells #[.int .i64 (nest + es.length)] 3)
  r : W.heap[w.heap.size + 1 + 1]? = some exO
  o : W.heap[w.heap.size + 1 + 1 + 1]? = some nilO
  m : Mo (· = pb) w W
  p : Ps W pb tv ts j
  e : Ro eltX D W v es
  d : w.heap.size + 4 ≤ D
  dl : D ≤ W.heap.size
  k : nest + es.length ≤ 4096
theorem LiE.step {w W W' : World} {pb : Nat} {tv : Value} {ts : List Tk} {nest : Int} {es : List Ex} {j j' D : Nat} {v : Value} (zp : pb < w.heap.size) (h : LiE w pb tv ts nest es j D v W) (hm : Mo (· = pb) W W') (hp : Ps W' pb tv ts j') : LiE w pb tv ts nest es j' D v W' :=
  ⟨(hm.block _ (lt_of_block h.x) (by omega)).trans h.x, (hm.block _ (lt_of_block h.n) (by omega)).trans h.n, (hm.block _ (lt_of_block h.r) (by omega)).trans h.r, (hm.block _ (lt_of_block h.o) (by omega)).trans h.o, h.m.trans hm (fun _ h => Or.inl h), hp, h.e.mo hm (fun k hk => by have := h.d; omega), h.d, Nat.le_trans h.dl hm.size, h.k⟩
theorem list_elems {ts : List Tk} (hE : EndT ts) (hl : ts.length ≤ 10000000) {pb : Nat} {tv : Value} {f : Nat} (hT : TermC pb tv ts (f + 1)) {w : World} {i : Nat} (h : Ps w pb tv ts i) (hi : i < ts.length) (nest : Int) (hn0 : -10 ≤ nest) (hn1 : nest ≤ 4096) {es : List Ex} {n : Int} {j : Nat} (he : elemsF ts f nest i [] = .ok (es, n) j) :
    n = nest + es.length ∧ i < j ∧ j < ts.length ∧ es.length ≤ ts.length ∧ 0 < es.length ∧ ∀ (W1 w2 : World), LiW w pb nest W1 → Below W1.heap.size W1 w2 → Calls Tryz.prog 60 #[.pointer (some ⟨pb, 0, none⟩), .func (.func 143) #[] #[.pointer (some ⟨w.heap.size + 1, 0, none⟩), .pointer (some ⟨w.heap.size, 0, none⟩)]] w2 (fun e w3 => ∃ v, e = .returned v ∧ LiE w pb tv ts nest es j w2.heap.size v w3) := by
  have zp := lt_of_block h.b
  have e := elems_sev ts f nest f i [] (by simp)
  simp only [List.length_nil, Int.natCast_zero, Int.add_zero] at e
  rw [he] at e
  have hs : sevF ts (elRd ts f nest) f i [] = .ok es j ∧ n = nest + es.length := by
    cases hs : sevF ts (elRd ts f nest) f i [] with
    | bad c' j' => rw [hs] at e; cases e
    | ok xs j' => rw [hs] at e; cases e; exact ⟨rfl, rfl⟩
  have hwi := (all_wit hE f).2.2 nest i [] hi
  rw [he] at hwi
  have hlen := sev_len hE (fun k i hi => wit_elRd hE f nest k i hi) f i [] hi hs.1
  refine ⟨hs.2, hwi.1, hwi.2, by have := hlen.1; have h2 : j < ts.length := hwi.2; simp at this; omega, by have := hlen.2; simpa using this, fun W1 w2 hL hb => ?_⟩
  have hse := list_sev (w2 := w2) hE hl hT h hi nest hn0 hn1 (by rw [he]; exact trivial) hL hb
  rw [hs.1] at hse
  refine hse.mono ?_
  rintro e w3 ⟨v, rfl, hm3, hp3, hI3, hX3⟩
  obtain ⟨r3, o3, hM3, hz3⟩ := list_after zp hL hb hm3
  exact ⟨v, rfl, ⟨hI3.2.1, hI3.1, r3, o3, hM3, hp3, hX3, hz3, hm3.size, hI3.2.2⟩⟩
end Go.Proofs.YtklfnphkepfmaaaGreatDoor

/- list of package parse: where it gives up behind its elements. -/
namespace Go.Proofs.YtklfnphkepfmaaaGreatDoor
open Go.RowKit Go.Shelf
attribute [local go_sem] tok_kind tok_text tok_num tok_at
attribute [local go_sem] Oper.semAt_some

theorem ne_arg {a b : Nat} (h : a ≠ b) : (some a : Option Nat) ≠ some b := fun e => h (Option.some.inj e)
set_option maxRecDepth 100000 in
set_option maxHeartbeats 8000000 in
theorem list_no {ts : List Tk} (hE : EndT ts) (hl : ts.length ≤ 10000000) {pb : Nat} {tv : Value} {f : Nat} (hT : TermC pb tv ts (f + 1)) {w : World} {i : Nat} (h : Ps w pb tv ts i) (hi : i < ts.length) (nest : Int) (hn0 : -10 ≤ nest) (hn1 : nest ≤ 4096) (hm : mkA ts i 93 = false) {es : List Ex} {n : Int} {j : Nat} (he : elemsF ts f nest i [] = .ok (es, n) j) (h1 : mkA ts j 124 = false) (h2 : mkA ts j 93 = false) :
    Calls Tryz.prog 125 #[.pointer (some ⟨pb, 0, none⟩), .int .i64 nest] w (Tm w pb tv ts (.bad (mustC (tkA ts j)) j)) := by
  have zp := lt_of_block h.b
  obtain ⟨rfl, hij, hj, hel, he0, hse0⟩ := list_elems hE hl hT h hi nest hn0 hn1 he
  have hse := hid hse0
  have hL := liW_is w pb nest
  have htk := takeMark_no (h.below hL.b) hi ⟨#[93]⟩ hm
  have HL := hid hL
  have hmf : ∀ (fn : Fn) (first cap : Array Value) (w : World), (Instr.makeFunc fn first cap).run Tryz.prog w = .ok (.func fn first cap) w := fun _ _ _ _ => rfl
  clear hL he hse0
  have hbar := hid (fun w3 (hp : Ps w3 pb tv ts j) => takeMark_no hp hj ⟨#[124]⟩ h1)
  have hend := hid (fun w3 (hp : Ps w3 pb tv ts j) => wantMark_no hp hj ⟨#[93]⟩ h2)
  clear h1 h2 hm
  go_enter Tryz.func125, Tryz.ntmps125
  go_wp2_with (first
    | (go_at_call 100; refine htk.mono ?_; clear htk; rintro e w2 ⟨rfl, hb2⟩; obtain ⟨cx, _⟩ := one_cell' ((hb2.block _ (lt_of_block HL.out.x)).trans HL.out.x); have zx := lt_of_block ((hb2.block _ (lt_of_block HL.out.x)).trans HL.out.x))
    | (go_at_call 60; go_must (refine (hse.out _ _ HL.out hb2).mono ?_; clear hse; rintro e w3 ⟨v, rfl, hE3⟩; obtain ⟨cx3, _⟩ := one_cell' hE3.x; have zx3 := lt_of_block hE3.x; have HE3 := hid hE3; clear hE3 cx zx hb2))
    | (go_at_call 100; go_must (refine (hbar.out w3 HE3.out.p).mono ?_; clear hbar; rintro e w4 ⟨rfl, hb4⟩; obtain ⟨cx4, _⟩ := one_cell' ((hb4.block _ (lt_of_block HE3.out.x)).trans HE3.out.x); have zx4 := lt_of_block ((hb4.block _ (lt_of_block HE3.out.x)).trans HE3.out.x)))
    | (go_at_call 96; go_must (refine (hend.out w4 (HE3.out.p.below hb4)).mono ?_; rintro e w5 ⟨b5, rfl, hb5, hc5, hd5⟩)))
  have hm5 := HE3.out.m.trans (Mo.ofBelow (Below.next hb4 hd5) : Mo (· = pb) w3 w5) (fun _ h => Or.inl h)
  exact ⟨rfl, b5, rfl, hb5, by have := HE3.out.m.size; have := hb4.size; omega, hm5⟩
set_option maxRecDepth 100000 in
set_option maxHeartbeats 8000000 in
theorem list_tb {ts : List Tk} (hE : EndT ts) (hl : ts.length ≤ 10000000) {pb : Nat} {tv : Value} {f : Nat} (hT : TermC pb tv ts (f + 1)) {w : World} {i : Nat} (h : Ps w pb tv ts i) (hi : i < ts.length) (nest : Int) (hn0 : -10 ≤ nest) (hn1 : nest ≤ 4096) (hm : mkA ts i 93 = false) {es : List Ex} {n : Int} {j : Nat} (he : elemsF ts f nest i [] = .ok (es, n) j) (h1 : mkA ts j 124 = true) {c5 : Int} {j5 : Nat} (hc : c5 ≠ 0) (h2 : termF ts f n (j + 1) = .bad c5 j5) :
    Calls Tryz.prog 125 #[.pointer (some ⟨pb, 0, none⟩), .int .i64 nest] w (Tm w pb tv ts (.bad c5 j5)) := by
  have zp := lt_of_block h.b
  obtain ⟨rfl, hij, hj, hel, he0, hse0⟩ := list_elems hE hl hT h hi nest hn0 hn1 he
  have hse := hid hse0
  have hL := liW_is w pb nest
  have htk := takeMark_no (h.below hL.b) hi ⟨#[93]⟩ hm
  have HL := hid hL
  have hmf : ∀ (fn : Fn) (first cap : Array Value) (w : World), (Instr.makeFunc fn first cap).run Tryz.prog w = .ok (.func fn first cap) w := fun _ _ _ _ => rfl
  clear hL he hse0
  have hbar := hid (fun w3 (hp : Ps w3 pb tv ts j) => takeMark_yes hp hj hl ⟨#[124]⟩ h1)
  have hj1 := mk_next hE hj h1
  have hter := hid (fun w4 (hp : Ps w4 pb tv ts (j + 1)) (h4 : nest + es.length ≤ 4096) => hT f (by omega) (nest + es.length) (j + 1) w4 hp hj1 (by omega) (by omega) (by rw [h2]; exact hc))
  rw [h2] at hter
  clear h1 h2 hm hT
  go_enter Tryz.func125, Tryz.ntmps125
  go_wp2_with (first
    | (go_at_call 100; refine htk.mono ?_; clear htk; rintro e w2 ⟨rfl, hb2⟩; obtain ⟨cx, _⟩ := one_cell' ((hb2.block _ (lt_of_block HL.out.x)).trans HL.out.x); have zx := lt_of_block ((hb2.block _ (lt_of_block HL.out.x)).trans HL.out.x))
    | (go_at_call 60; go_must (refine (hse.out _ _ HL.out hb2).mono ?_; clear hse; rintro e w3 ⟨v, rfl, hE3⟩; obtain ⟨cx3, _⟩ := one_cell' hE3.x; have zx3 := lt_of_block hE3.x; have HE3 := hid hE3; clear hE3 cx zx hb2))
    | (go_at_call 100; go_must (refine (hbar.out w3 HE3.out.p).mono ?_; clear hbar; rintro e w4 ⟨rfl, hg4, hp4⟩; have hE4 := HE3.out.step zp (Mo.ofGrown hg4 rfl) hp4; obtain ⟨cx4, _⟩ := one_cell' hE4.x; have zx4 := lt_of_block hE4.x; obtain ⟨cn4, _⟩ := one_cell' hE4.n; have zn4 := lt_of_block hE4.n; have HE4 := hid hE4; clear hE4))
    | (go_at_call 101; go_must (refine (hter.out w4 HE4.out.p HE4.out.k).mono ?_; rintro e w5 ⟨b5, rfl, hb5, hc5, hd5⟩)))
  exact ⟨rfl, b5, rfl, hb5, by have := HE4.out.m.size; omega, HE4.out.m.trans hd5 (fun _ h => Or.inl h)⟩
/-- Behind the tail: the term is stored. -/
theorem list_tail {w W W' : World} {pb : Nat} {tv : Value} {ts : List Tk} {nest : Int} {es : List Ex} {j j5 D : Nat} {v : Value} {k : Int} {nm : ByteArray} {m : Int} {aa : Option Addr} {al ac : Nat} (zp : pb < w.heap.size) (hts : ∀ ad n c, tv = .slice (some ad) n c → ad.block < w.heap.size) (h : LiE w pb tv ts nest es j D v W) (hm : Mo (· = pb) W W') (hp : Ps W' pb tv ts j5) :
    let W6 := exEnd W' (w.heap.size + 1 + 1 + 1) (.int .i64 k) (.string nm) (.int .i64 m) (.slice aa al ac)
    W'.heap[w.heap.size + 1 + 1 + 1]? = some nilO ∧ W6.heap[w.heap.size + 1 + 1 + 1]? = some (.cells #[.int .i64 k, .string nm, .int .i64 m, .slice aa al ac] 40) ∧ W6.heap[w.heap.size]? = some (.cells #[.pointer (some ⟨pb, 0, none⟩)] 68) ∧ W6.heap[w.heap.size + 1 + 1]? = some exO ∧ Mo (· = pb) w W6 ∧ Ps W6 pb tv ts j5 ∧ Ro eltX D W6 v es ∧ D ≤ W6.heap.size := by
  intro W6
  have h' := h.step zp hm hp
  have hd := h.d
  have hmq : Mo (· = w.heap.size + 1 + 1 + 1) W' W6 := ((((Mo.refl (· = w.heap.size + 1 + 1 + 1) W').setCell (p := ⟨w.heap.size + 1 + 1 + 1, 0, none⟩) (Or.inl rfl) _).setCell (p := ⟨w.heap.size + 1 + 1 + 1, 1, none⟩) (Or.inl rfl) _).setCell (p := ⟨w.heap.size + 1 + 1 + 1, 2, none⟩) (Or.inl rfl) _).setCell (p := ⟨w.heap.size + 1 + 1 + 1, 3, none⟩) (Or.inl rfl) _
  refine ⟨h'.o, ex_end _ _ _ _ h'.o, (exEnd_other (by omega)).trans h'.x, (exEnd_other (by omega)).trans h'.r, exEnd_mo h'.m (by omega), hp.mo hmq (fun b hb => by subst hb; exact ⟨by omega, fun ad n' c' htv e => by have := hts ad n' c' htv; omega⟩), h'.e.mo hmq (fun b hb => by omega), Nat.le_trans h'.dl hmq.size⟩
set_option maxRecDepth 100000 in
set_option maxHeartbeats 8000000 in
theorem list_tn {ts : List Tk} (hE : EndT ts) (hl : ts.length ≤ 10000000) {pb : Nat} {tv : Value} {f : Nat} (hT : TermC pb tv ts (f + 1)) {w : World} {i : Nat} (h : Ps w pb tv ts i) (hi : i < ts.length) (nest : Int) (hn0 : -10 ≤ nest) (hn1 : nest ≤ 4096) (hm : mkA ts i 93 = false) {es : List Ex} {n : Int} {j : Nat} (he : elemsF ts f nest i [] = .ok (es, n) j) (h1 : mkA ts j 124 = true) {x : Ex} {j5 : Nat} (h2 : termF ts f n (j + 1) = .ok x j5) (h3 : mkA ts j5 93 = false) :
    Calls Tryz.prog 125 #[.pointer (some ⟨pb, 0, none⟩), .int .i64 nest] w (Tm w pb tv ts (.bad (mustC (tkA ts j5)) j5)) := by
  have zp := lt_of_block h.b
  obtain ⟨rfl, hij, hj, hel, he0, hse0⟩ := list_elems hE hl hT h hi nest hn0 hn1 he
  have hse := hid hse0
  have hL := liW_is w pb nest
  have htk := takeMark_no (h.below hL.b) hi ⟨#[93]⟩ hm
  have HL := hid hL
  have hmf : ∀ (fn : Fn) (first cap : Array Value) (w : World), (Instr.makeFunc fn first cap).run Tryz.prog w = .ok (.func fn first cap) w := fun _ _ _ _ => rfl
  clear hL he hse0
  have hbar := hid (fun w3 (hp : Ps w3 pb tv ts j) => takeMark_yes hp hj hl ⟨#[124]⟩ h1)
  have hj1 := mk_next hE hj h1
  have hts := hid (h.old (by omega))
  have hwi := (all_wit hE f).1 (nest + es.length) (j + 1) hj1
  rw [h2] at hwi
  have hj5 : j5 < ts.length := hwi.2
  have hter := hid (fun w4 (hp : Ps w4 pb tv ts (j + 1)) (h4 : nest + es.length ≤ 4096) => hT f (by omega) (nest + es.length) (j + 1) w4 hp hj1 (by omega) (by omega) (by rw [h2]; exact trivial))
  rw [h2] at hter
  have hend := hid (fun w3 (hp : Ps w3 pb tv ts j5) => wantMark_no hp hj5 ⟨#[93]⟩ h3)
  clear h1 h2 hm hT hwi h3
  go_enter Tryz.func125, Tryz.ntmps125
  go_wp2_with (first
    | (go_at_call 100; refine htk.mono ?_; clear htk; rintro e w2 ⟨rfl, hb2⟩; obtain ⟨cx, _⟩ := one_cell' ((hb2.block _ (lt_of_block HL.out.x)).trans HL.out.x); have zx := lt_of_block ((hb2.block _ (lt_of_block HL.out.x)).trans HL.out.x))
    | (go_at_call 60; go_must (refine (hse.out _ _ HL.out hb2).mono ?_; clear hse; rintro e w3 ⟨v, rfl, hE3⟩; obtain ⟨cx3, _⟩ := one_cell' hE3.x; have zx3 := lt_of_block hE3.x; have HE3 := hid hE3; clear hE3 cx zx hb2))
    | (go_at_call 100; go_must (refine (hbar.out w3 HE3.out.p).mono ?_; clear hbar; rintro e w4 ⟨rfl, hg4, hp4⟩; have hE4 := HE3.out.step zp (Mo.ofGrown hg4 rfl) hp4; obtain ⟨cx4, _⟩ := one_cell' hE4.x; have zx4 := lt_of_block hE4.x; obtain ⟨cn4, _⟩ := one_cell' hE4.n; have zn4 := lt_of_block hE4.n; have HE4 := hid hE4; clear hE4))
    | (go_at_call 101; go_must (refine (hter.out w4 HE4.out.p HE4.out.k).mono ?_; clear hter; rintro e w5 ⟨v5, rfl, hm5, hp5, hx5⟩; obtain ⟨k, nm, m, aa, al, ac, rfl⟩ := hx5.form; have HT5 := hid (list_tail (k := k) (nm := nm) (m := m) (aa := aa) (al := al) (ac := ac) zp hts.out HE4.out hm5 hp5); obtain ⟨⟨a0, a1, a2, a3⟩, b0, b1, b2, b3⟩ := blk4x HT5.out.1; have z5 := lt_of_block HT5.out.1; obtain ⟨cx6, _⟩ := one_cell' HT5.out.2.2.1; have zx6 := lt_of_block HT5.out.2.2.1))
    | (go_at_call 96; go_must (refine (hend.out _ HT5.out.2.2.2.2.2.1).mono ?_; rintro e w7 ⟨b7, rfl, hb7, hc7, hd7⟩)))
  have hm7 := HT5.out.2.2.2.2.1.trans (Mo.ofBelow hd7 : Mo (· = pb) _ w7) (fun _ h => Or.inl h)
  exact ⟨rfl, b7, rfl, hb7, by have := HT5.out.2.2.2.2.1.size; omega, hm7⟩
end Go.Proofs.YtklfnphkepfmaaaGreatDoor

/- list of package parse: what it answers. -/
namespace Go.Proofs.YtklfnphkepfmaaaGreatDoor
open Go.RowKit Go.Shelf
attribute [local go_sem] tok_kind tok_text tok_num tok_at
attribute [local go_sem] Oper.semAt_some

theorem cells_at {w : World} {b o : Nat} {u : Value} (h : w.cell? ⟨b, o, none⟩ = some u) : ∃ cs T z, w.heap[b]? = some (.cells cs T z) := by
  unfold World.cell? at h
  split at h
  · rename_i cs T z hb
    exact ⟨_, _, _, hb⟩
  · cases h
/-- What lies in cells that stay is told as before. -/
theorem Xw.keepC {P P' : Nat → Prop} {w w' : World} (hk : ∀ b cs T z, P b → w.heap[b]? = some (.cells cs T z) → P' b ∧ w'.heap[b]? = w.heap[b]?) {x : Ex} : ∀ {v : Value}, Xw P w x v → Xw P' w' x v := by
  induction x using Ex.ind with
  | h k n m xs ih =>
    intro v h
    obtain ⟨av, rfl, ao, c, rfl, h2⟩ := h.parts
    refine Xw.of ⟨ao, c, rfl, fun j hj => ?_⟩
    obtain ⟨b, o, k', n', m', aa, al, ac, e, hb, c0, c1, c2, c3, hx⟩ := h2 j hj
    obtain ⟨cs, T, z, hcs⟩ := cells_at c0
    obtain ⟨hp, hw⟩ := hk b cs T z hb hcs
    have hc : ∀ o', w'.cell? ⟨b, o', none⟩ = w.cell? ⟨b, o', none⟩ := fun o' => by simp only [World.cell?, hw]
    exact ⟨b, o, k', n', m', aa, al, ac, e, hp, by rw [hc]; exact c0, by rw [hc]; exact c1, by rw [hc]; exact c2, by rw [hc]; exact c3, ih _ (xs_at hj) hx⟩
theorem Xw.nb {P : Nat → Prop} {B : Nat} {A A' : World} (hn : Nb B A A') {x : Ex} {v : Value} (h : Xw P A x v) : Xw P A' x v := h.keepC (fun b cs T z hp hb => ⟨hp, by rw [hn.block b _ hb (Or.inr rfl), hb]⟩)
theorem Ps.nb {B : Nat} {A A' : World} (hn : Nb B A A') {pb : Nat} {tv : Value} {ts : List Tk} {i : Nat} (h : Ps A pb tv ts i) : Ps A' pb tv ts i := by
  refine ⟨hn.block _ _ h.b (Or.inr rfl), ?_, h.ap⟩
  obtain ⟨ao, c, rfl, ht⟩ := h.t
  refine ⟨ao, c, rfl, fun j hj => ?_⟩
  obtain ⟨b, o, e, hc⟩ := ht j hj
  refine ⟨b, o, e, fun k u hu => ?_⟩
  have h1 := hc k u hu
  obtain ⟨cs, T, z, hcs⟩ := cells_at h1
  have h2 := hn.block b _ hcs (Or.inr rfl)
  rw [← h1]
  simp only [World.cell?, h2, hcs]
theorem Nb.mo {B pb : Nat} {W A A' : World} (hn : Nb B A A') (h : Mo (· = pb) W A) (hB : W.heap.size ≤ B) : Mo (· = pb) W A' :=
  ⟨hn.os.trans h.os, hn.tape.trans h.tape, hn.output.trans h.output, Nat.le_trans h.size hn.size, fun k hk hne => by
    have hkA : k < A.heap.size := by have := h.size; omega
    have e : A.heap[k]? = some A.heap[k] := Array.getElem?_eq_getElem hkA
    rw [hn.block k _ e (Or.inl (by omega)), ← e]
    exact h.block k hk hne⟩
/-- The state between two rounds of a list's last loop. -/
structure IL (w : World) (pb : Nat) (tv : Value) (ts : List Tk) (es : List Ex) (tl : Ex) (j : Nat) (f : Nat → List Value) (pre : List Be) (W : World) : Prop where
  r : W.heap[w.heap.size + 1 + 1]? = some exO
  o : ∃ k nm m aa al ac, W.heap[w.heap.size + 1 + 1 + 1]? = some (.cells #[.int .i64 k, .string nm, .int .i64 m, .slice aa al ac] 40) ∧ Xw (w.heap.size + 4 ≤ ·) W (listX (es.drop (es.length - pre.length)) tl) (.agg #[.int .i64 k, .string nm, .int .i64 m, .slice aa al ac])
  m : Mo (· = pb) w W
  p : Ps W pb tv ts j
  e : ∀ i x, es[i]? = some x → XwC (w.heap.size + 4 ≤ ·) W x (f i)
  len : pre.length ≤ es.length
theorem IL.nb {w : World} {pb : Nat} {tv : Value} {ts : List Tk} {es : List Ex} {tl : Ex} {j : Nat} {f : Nat → List Value} {pre : List Be} {B : Nat} {A A' : World} (hB : w.heap.size ≤ B) (h : IL w pb tv ts es tl j f pre A) (hn : Nb B A A') : IL w pb tv ts es tl j f pre A' := by
  obtain ⟨k, nm, m, aa, al, ac, h1, h2⟩ := h.o
  refine ⟨hn.block _ _ h.r (Or.inr rfl), ⟨k, nm, m, aa, al, ac, hn.block _ _ h1 (Or.inr rfl), h2.nb hn⟩, hn.mo h.m hB, h.p.nb hn, fun i x hx => ?_, h.len⟩
  obtain ⟨k, n, m, aa, al, ac, e, hx⟩ := h.e i x hx
  exact ⟨k, n, m, aa, al, ac, e, hx.nb hn⟩
/-- One element more stands ahead of the list. -/
theorem IL.step {w : World} {pb : Nat} {tv : Value} {ts : List Tk} {es : List Ex} {tl : Ex} {j : Nat} {f : Nat → List Value} {pre : List Be} {W : World} (zp : pb < w.heap.size) (hts : ∀ ad n c, tv = .slice (some ad) n c → ad.block < w.heap.size) (h : IL w pb tv ts es tl j f pre W) (hlt : pre.length < es.length) (y : Be) {k' : Int} {n' : ByteArray} {m' : Int} {aa' : Option Addr} {al' ac' : Nat} (hf : f (es.length - 1 - pre.length) = [.int .i64 k', .string n', .int .i64 m', .slice aa' al' ac'])
    {k : Int} {nm : ByteArray} {m : Int} {aa : Option Addr} {al ac : Nat} (h1 : W.heap[w.heap.size + 1 + 1 + 1]? = some (.cells #[.int .i64 k, .string nm, .int .i64 m, .slice aa al ac] 40)) (h2 : Xw (w.heap.size + 4 ≤ ·) W (listX (es.drop (es.length - pre.length)) tl) (.agg #[.int .i64 k, .string nm, .int .i64 m, .slice aa al ac])) :
    IL w pb tv ts es tl j f (pre ++ [y]) ((exEnd W (w.heap.size + 1 + 1 + 1) (.int .i64 4) (.string ⟨#[46]⟩) (.int .i64 0) (.slice (some ⟨W.heap.size, 0, none⟩) 2 2)).alloc (.cells #[.int .i64 k', .string n', .int .i64 m', .slice aa' al' ac', .int .i64 k, .string nm, .int .i64 m, .slice aa al ac] 40)) := by
  have zo := lt_of_block h1
  have zr := lt_of_block h.r
  obtain ⟨W1, hW1⟩ : ∃ W1, exEnd W (w.heap.size + 1 + 1 + 1) (.int .i64 4) (.string ⟨#[46]⟩) (.int .i64 0) (.slice (some ⟨W.heap.size, 0, none⟩) 2 2) = W1 := ⟨_, rfl⟩
  have z1 : W1.heap.size = W.heap.size := by rw [← hW1]; simp
  have hmq : Mo (· = w.heap.size + 1 + 1 + 1) W W1 := by rw [← hW1]; exact ((((Mo.refl (· = w.heap.size + 1 + 1 + 1) W).setCell (p := ⟨w.heap.size + 1 + 1 + 1, 0, none⟩) (Or.inl rfl) _).setCell (p := ⟨w.heap.size + 1 + 1 + 1, 1, none⟩) (Or.inl rfl) _).setCell (p := ⟨w.heap.size + 1 + 1 + 1, 2, none⟩) (Or.inl rfl) _).setCell (p := ⟨w.heap.size + 1 + 1 + 1, 3, none⟩) (Or.inl rfl) _
  have ho2 : W1.heap[w.heap.size + 1 + 1 + 1]? = some (.cells #[.int .i64 4, .string ⟨#[46]⟩, .int .i64 0, .slice (some ⟨W.heap.size, 0, none⟩) 2 2] 40) := by rw [← hW1]; exact ex_end (.int .i64 4) (.string ⟨#[46]⟩) (.int .i64 0) (.slice (some ⟨W.heap.size, 0, none⟩) 2 2) h1
  rw [hW1]
  obtain ⟨W2, hW2⟩ : ∃ W2, W1.alloc (.cells #[.int .i64 k', .string n', .int .i64 m', .slice aa' al' ac', .int .i64 k, .string nm, .int .i64 m, .slice aa al ac] 40) = W2 := ⟨_, rfl⟩
  have hb2 : Below W1.heap.size W1 W2 := by rw [← hW2]; exact below_alloc W1 _
  have hq2 : W2.heap[W.heap.size]? = some (.cells #[.int .i64 k', .string n', .int .i64 m', .slice aa' al' ac', .int .i64 k, .string nm, .int .i64 m, .slice aa al ac] 40) := by rw [← hW2, ← z1]; exact heap_alloc_new W1 _
  have far : ∀ b, b < W.heap.size → b ≠ w.heap.size + 1 + 1 + 1 → W2.heap[b]? = W.heap[b]? := fun b hl hb => (hb2.block b (by omega)).trans (hmq.block b hl hb)
  have hX : ∀ {x : Ex} {v : Value}, Xw (w.heap.size + 4 ≤ ·) W x v → Xw (w.heap.size + 4 ≤ ·) W2 x v := fun hx => hx.keep (fun b hb hl => ⟨hb, by
    have hb' : w.heap.size + 4 ≤ b := hb
    exact far b hl (by omega)⟩)
  have hcell : ∀ t u, (#[.int .i64 k', .string n', .int .i64 m', .slice aa' al' ac', .int .i64 k, .string nm, .int .i64 m, .slice aa al ac] : Array Value)[t]? = some u → W2.cell? ⟨W.heap.size, t, none⟩ = some u := fun t u hu => by rw [cell_of_row _ _ t _ _ _ hq2]; exact hu
  have hzw := h.m.size
  have hel : ∃ x, es[es.length - 1 - pre.length]? = some x := ⟨_, List.getElem?_eq_getElem (by omega)⟩
  obtain ⟨x, hx⟩ := hel
  have hxe : es.drop (es.length - (pre ++ [y]).length) = x :: es.drop (es.length - pre.length) := by
    have e1 : es.length - (pre ++ [y]).length = es.length - 1 - pre.length := by simp; omega
    have e2 : es.length - pre.length = es.length - 1 - pre.length + 1 := by omega
    rw [e1, e2]
    have hlt' : es.length - 1 - pre.length < es.length := by omega
    rw [List.drop_eq_getElem_cons hlt']
    rw [List.getElem?_eq_getElem hlt'] at hx
    rw [Option.some.inj hx]
  obtain ⟨k1, n1, m1, a1, l1, c1, e1, hx1⟩ := h.e _ x hx
  rw [hf] at e1
  cases e1
  rw [hW2]
  refine ⟨(far _ zr (by omega)).trans h.r, ⟨4, ⟨#[46]⟩, 0, some ⟨W.heap.size, 0, none⟩, 2, 2, (hb2.block _ (lt_of_block ho2)).trans ho2, ?_⟩, ?_, ?_, fun i x hx => ?_, by simp; omega⟩
  · rw [hxe]
    show Xw _ W2 (.mk 4 ⟨#[46]⟩ 0 [x, listX (es.drop (es.length - pre.length)) tl]) _
    refine Xw.of ⟨_, 2, rfl, fun i hi => ?_⟩
    have hi' : i = 0 ∨ i = 1 := by simp at hi; omega
    rcases hi' with rfl | rfl
    · exact ⟨W.heap.size, 0, _, _, _, _, _, _, rfl, by omega, hcell 0 _ rfl, hcell 1 _ rfl, hcell 2 _ rfl, hcell 3 _ rfl, hX hx1⟩
    · exact ⟨W.heap.size, 0, _, _, _, _, _, _, rfl, by omega, hcell 4 _ rfl, hcell 5 _ rfl, hcell 6 _ rfl, hcell 7 _ rfl, hX h2⟩
  · exact (h.m.trans hmq (fun b hb => Or.inr (by omega))).trans (Mo.ofBelow hb2 : Mo (· = pb) W1 W2) (fun _ h => Or.inl h)
  · exact (h.p.mo hmq (fun b hb => by subst hb; exact ⟨by omega, fun ad n c htv e => by have := hts ad n c htv; omega⟩)).below hb2
  · obtain ⟨k1, n1, m1, a1, l1, c1, e1, hx1⟩ := h.e i x hx
    exact ⟨k1, n1, m1, a1, l1, c1, e1, hX hx1⟩
set_option maxRecDepth 100000 in
set_option maxHeartbeats 8000000 in
theorem list_ok0 {ts : List Tk} (hE : EndT ts) (hl : ts.length ≤ 10000000) {pb : Nat} {tv : Value} {f : Nat} (hT : TermC pb tv ts (f + 1)) {w : World} {i : Nat} (h : Ps w pb tv ts i) (hi : i < ts.length) (nest : Int) (hn0 : -10 ≤ nest) (hn1 : nest ≤ 4096) (hm : mkA ts i 93 = false) {es : List Ex} {n : Int} {j : Nat} (he : elemsF ts f nest i [] = .ok (es, n) j) (h1 : mkA ts j 124 = false) (h2 : mkA ts j 93 = true) :
    CallsIn Fence.wide 4 Tryz.prog 125 #[.pointer (some ⟨pb, 0, none⟩), .int .i64 nest] w (Tm w pb tv ts (.ok (listX es nilX) (j + 1))) := by
  have zp := lt_of_block h.b
  obtain ⟨rfl, hij, hj, hel, he0, hse0⟩ := list_elems hE hl hT h hi nest hn0 hn1 he
  have hse := hid hse0
  have hL := liW_is w pb nest
  have htk := takeMark_no (h.below hL.b) hi ⟨#[93]⟩ hm
  have HL := hid hL
  have hts := hid (h.old (by omega))
  have hmf : ∀ (fn : Fn) (first cap : Array Value) (w : World), (Instr.makeFunc fn first cap).run Tryz.prog w = .ok (.func fn first cap) w := fun _ _ _ _ => rfl
  clear hL he hse0
  have fa : Fence.wide.fn 100 := trivial
  have fb : Fence.wide.fn 60 := trivial
  have fc : Fence.wide.fn 96 := trivial
  have fd : Fence.wide.fn 144 := trivial
  have fe : Fence.wide.fn 101 := trivial
  have hbar := hid (fun w3 (hp : Ps w3 pb tv ts j) => takeMark_no hp hj ⟨#[124]⟩ h1)
  have hend := hid (fun w3 (hp : Ps w3 pb tv ts j) => wantMark_yes hp hj hl ⟨#[93]⟩ h2)
  clear h1 h2 hm
  refine callsIn_of_wp_marks Tryz.func125 rfl trivial ?_ rfl
  simp only [Tryz.ntmps125, List.size_toArray, List.length_cons, List.length_nil, Nat.reduceAdd, Nat.reduceSub, Array.replicate_succ, Array.replicate_zero, List.push_toArray, List.append_toArray, List.nil_append, List.cons_append]
  gi_wp2_with (first
    | (gi_at_call 100; refine (callsIn_wide.2 htk).mono ?_; clear htk; rintro e w2 ⟨rfl, hb2⟩; obtain ⟨cx, _⟩ := one_cell' ((hb2.block _ (lt_of_block HL.out.x)).trans HL.out.x); have zx := lt_of_block ((hb2.block _ (lt_of_block HL.out.x)).trans HL.out.x))
    | (gi_at_call 60; go_must (refine (callsIn_wide.2 (hse.out _ _ HL.out hb2)).mono ?_; clear hse; rintro e w3 ⟨v, rfl, hE3⟩; obtain ⟨cx3, _⟩ := one_cell' hE3.x; have zx3 := lt_of_block hE3.x; obtain ⟨ev, ec, rfl⟩ := hE3.e.slice; have HE3 := hid hE3; clear hE3 cx zx))
    | (gi_at_call 100; go_must (refine (callsIn_wide.2 (hbar.out w3 HE3.out.p)).mono ?_; clear hbar; rintro e w4 ⟨rfl, hb4⟩; obtain ⟨cx4, _⟩ := one_cell' ((hb4.block _ (lt_of_block HE3.out.x)).trans HE3.out.x); have zx4 := lt_of_block ((hb4.block _ (lt_of_block HE3.out.x)).trans HE3.out.x)))
    | (gi_at_call 96; go_must (refine (callsIn_wide.2 (hend.out w4 (HE3.out.p.below hb4))).mono ?_; clear hend; rintro e w5 ⟨rfl, hg5, hp5⟩; have hE5 := HE3.out.step zp ((Mo.ofBelow hb4).step hg5) hp5; have HO5 := hid hE5.o; have HE5 := hid (And.intro hE5.e (And.intro hE5.d (And.intro hE5.r (And.intro hE5.m hE5.p)))); clear hE5))
    | (gi_at_call 144; go_must (refine (callsIn_wide.2 (backward_any _ _ _ w5)).mono ?_; rintro e w6 ⟨rfl, rfl⟩)))
  obtain ⟨D, hDe⟩ : ∃ D, D = w2.heap.size := ⟨_, rfl⟩
  rw [← hDe] at HE5
  obtain ⟨fv, hf4, hfx, hrow⟩ := HE5.out.1
  obtain ⟨g, rfl⟩ : ∃ g, ev = some ⟨g, 0, none⟩ := by
    rcases hrow.2 with ⟨h0, h1⟩ | ⟨g, c, cur, e, _⟩
    · omega
    · injection e with e _ _
      exact ⟨g, e⟩
  have hgD := (hrow.lt g rfl).1
  have hgl := (hrow.lt g rfl).2
  have hd := HE5.out.2.1
  obtain ⟨W0, hW0⟩ : ∃ W0, w5.alloc (.cells #[.slice (some ⟨g, 0, none⟩) es.length ec] 24) = W0 := ⟨_, rfl⟩
  have hb0 : Below w5.heap.size w5 W0 := by rw [← hW0]; exact below_alloc w5 _
  have z0 : W0.heap.size = w5.heap.size + 1 := by rw [← hW0]; simp
  have hbx : W0.heap[w5.heap.size]? = some (.cells #[.slice (some ⟨g, 0, none⟩) es.length ec] 24) := by rw [← hW0]; exact heap_alloc_new w5 _
  have hrow0 : W0.ownsRow D 40 4 (.slice (some ⟨g, 0, none⟩) es.length ec) es.length (flatV fv es.length) := own_keep hrow (fun k hk => hb0.block k (hrow.lt k hk).2)
  have hI0 : IL w pb tv ts es nilX (j + 1) fv [] W0 := by
    refine ⟨(hb0.block _ (lt_of_block HE5.out.2.2.1)).trans HE5.out.2.2.1, ?_, HE5.out.2.2.2.1.trans (Mo.ofBelow hb0 : Mo (· = pb) _ W0) (fun _ h => Or.inl h), HE5.out.2.2.2.2.below hb0, fun i x hx => (hfx i x hx).keep (fun b hb hl => ⟨Nat.le_trans hd hb.1, hb0.block b hl⟩), by simp⟩
    · exact ⟨2, ⟨#[91, 93]⟩, 0, none, 0, 0, (hb0.block _ (lt_of_block HO5.out)).trans HO5.out, by rw [show es.drop (es.length - ([] : List Be).length) = [] by simp]; exact Xw.leaf _ _ _ _ _⟩
  have hfs : ∀ j, j < es.length → ∃ k nm m aa al ac, fv j = [.int .i64 k, .string nm, .int .i64 m, .slice aa al ac] := fun j hj => by
    obtain ⟨k, nm, m, aa, al, ac, e, _⟩ := hfx j _ (List.getElem?_eq_getElem hj)
    exact ⟨k, nm, m, aa, al, ac, e⟩
  have hzw := HE5.out.2.2.2.1.size
  have hz4 : w.heap.size + 4 ≤ w5.heap.size := by omega
  have hdl : g ≠ w.heap.size + 1 + 1 + 1 := by omega
  rw [hW0]
  have HI0 := hid hI0
  clear hW0 HE5 hrow hI0
  refine range_toldP (Ks := fun k => k = w5.heap.size ∨ k = g) (encs := encB) rfl (enters_of Tryz.func156 (by kernel_rfl) rfl) (fun _ => rfl) (by omega) (fun k hk => by rcases hk with rfl | rfl <;> omega) (back_tells fv es.length g ec 3 _ w5.heap.size D W0 (by omega) (by omega) hf4 hfs hbx hrow0)
    (I := IL w pb tv ts es nilX (j + 1) fv) (Ix := fun _ _ _ => False) (fun pre A A' h hn => h.nb (by omega) hn) (fun c pre A A' h hn => h) (fun pre x A A' h hn => h) HI0.out
    (Ax := fun x a' W' => ∃ Bx, W'.heap[Bx]? = some (.cells #[.int .i64 x.k, .string x.nm, .int .i64 x.m, .slice x.aa x.al x.ac] 40) ∧ W0.heap.size ≤ Bx ∧ a' = { tmps := #[.pointer (some ⟨pb, 0, none⟩), .int .i64 nest, .pointer (some ⟨w.heap.size, 0, none⟩), .pointer (some ⟨w.heap.size + 1, 0, none⟩), .pointer (some ⟨w.heap.size + 1 + 1, 0, none⟩), .pointer (some ⟨w.heap.size + 1 + 1 + 1, 0, none⟩), .func (.func 143) #[] #[.pointer (some ⟨w.heap.size + 1, 0, none⟩), .pointer (some ⟨w.heap.size, 0, none⟩)], .slice (some ⟨g, 0, none⟩) es.length ec, undef, .pointer (some ⟨Bx, 0, none⟩), .agg #[.int .i64 2, .string ⟨#[91, 93]⟩, .int .i64 0, .slice none 0 0], .pointer (some ⟨pb, 0, none⟩), .bool false, undef, .func (.func 143) #[] #[.pointer (some ⟨w.heap.size + 1, 0, none⟩), .pointer (some ⟨w.heap.size, 0, none⟩)], .pointer (some ⟨pb, 0, none⟩), .func (.func 143) #[] #[.pointer (some ⟨w.heap.size + 1, 0, none⟩), .pointer (some ⟨w.heap.size, 0, none⟩)], .slice (some ⟨g, 0, none⟩) es.length ec, .pointer (some ⟨pb, 0, none⟩), .bool false, undef, undef, undef, .pointer (some ⟨pb, 0, none⟩), .tuple #[], .slice (some ⟨g, 0, none⟩) es.length ec, .func (.func 156) #[] #[.pointer (some ⟨w5.heap.size, 0, none⟩)], .int .i64 x.i, .agg #[.int .i64 x.k, .string x.nm, .int .i64 x.m, .slice x.aa x.al x.ac], undef, undef, undef, undef, undef], defers := [] }) (fun x a' A A' h hn => by obtain ⟨Bx, h1, h2, h3⟩ := h; exact ⟨Bx, hn.block _ _ h1 (Or.inr rfl), h2, h3⟩) ?assign ?body ?done ?stop
  case assign =>
    intro l x W' K hzl hK
    simp only [encB]
    gi_wp2
    exact hK _ _ (below_alloc W' _) ⟨W'.heap.size, heap_alloc_new W' _, hzl, rfl⟩
  case body =>
    rintro l pre x a' W' hi ht ⟨Bx, hBx, hzB, rfl⟩
    obtain ⟨hlt, _, hfx'⟩ := ht
    obtain ⟨k, nm, m, aa, al, ac, ho1, ho2⟩ := hi.o
    have zb := lt_of_block hBx
    have zo := lt_of_block ho1
    have hst := hid (hi.step zp hts.out hlt x hfx' ho1 ho2)
    obtain ⟨xi, xk, xn, xm, xa, xl, xc⟩ := x
    dsimp only at *
    obtain ⟨⟨a0, a1, a2, a3⟩, _⟩ := blk4x hBx
    obtain ⟨⟨c0, c1, c2, c3⟩, d0, d1, d2, d3⟩ := blk4x ho1
    clear hi hfx'
    gi_wp2
    refine ⟨⟨by simp, fun q hq hql => ?_⟩, hst.out⟩
    have hqn : q ≠ w.heap.size + 1 + 1 + 1 := by
      rcases hq with (hq | hq) | hq
      · omega
      · omega
      · omega
    rw [Below.heap_alloc _ _ _ (by simpa using hql)]
    exact exEnd_other hqn
  case done =>
    rintro D2 xs W' hD hS hi hK
    obtain ⟨k, nm, m, aa, al, ac, ho1, ho2⟩ := hi.o
    rw [show es.drop (es.length - xs.length) = es by rw [show es.length - xs.length = 0 by omega]; rfl] at ho2
    have zo := lt_of_block ho1
    have zr := lt_of_block hi.r
    obtain ⟨⟨c0, c1, c2, c3⟩, _⟩ := blk4x ho1
    obtain ⟨⟨a0, a1, a2, a3⟩, b0, b1, b2, b3⟩ := blk4x hi.r
    have HI := hid hi
    have HX := hid ho2
    have HK := hid hK
    clear hi ho2 hK ho1
    gi_wp2
    have q9 : (exEnd W' (w.heap.size + 1 + 1) (.int .i64 k) (.string nm) (.int .i64 m) (.slice aa al ac)).heap[w.heap.size + 1 + 1]? = _ := ex_end (.int .i64 k) (.string nm) (.int .i64 m) (.slice aa al ac) HI.out.r
    have far : ∀ b, b ≠ w.heap.size + 1 + 1 → (exEnd W' (w.heap.size + 1 + 1) (.int .i64 k) (.string nm) (.int .i64 m) (.slice aa al ac)).heap[b]? = W'.heap[b]? := fun b hb => exEnd_other hb
    have hmq : Mo (· = w.heap.size + 1 + 1) W' (exEnd W' (w.heap.size + 1 + 1) (.int .i64 k) (.string nm) (.int .i64 m) (.slice aa al ac)) := ((((Mo.refl (· = w.heap.size + 1 + 1) W').setCell (p := ⟨w.heap.size + 1 + 1, 0, none⟩) (Or.inl rfl) _).setCell (p := ⟨w.heap.size + 1 + 1, 1, none⟩) (Or.inl rfl) _).setCell (p := ⟨w.heap.size + 1 + 1, 2, none⟩) (Or.inl rfl) _).setCell (p := ⟨w.heap.size + 1 + 1, 3, none⟩) (Or.inl rfl) _
    have m9 : (exEnd W' (w.heap.size + 1 + 1) (.int .i64 k) (.string nm) (.int .i64 m) (.slice aa al ac)).heap[D2]? = some (.deferred (some [])) := (far _ (by omega)).trans HK.out
    have hx9 : Xw (w.heap.size + 4 ≤ ·) (exEnd W' (w.heap.size + 1 + 1) (.int .i64 k) (.string nm) (.int .i64 m) (.slice aa al ac)) (listX es nilX) (.agg #[.int .i64 k, .string nm, .int .i64 m, .slice aa al ac]) := HX.out.keep (fun b hb hl => ⟨hb, far b (by have hb' : w.heap.size + 4 ≤ b := hb; omega)⟩)
    have hp9 := HI.out.p.mo hmq (fun b hb => by subst hb; exact ⟨by omega, fun ad n c htv e => by have := hts.out ad n c htv; omega⟩)
    have hm9 : Mo (· = pb) w (exEnd W' (w.heap.size + 1 + 1) (.int .i64 k) (.string nm) (.int .i64 m) (.slice aa al ac)) := HI.out.m.trans hmq (fun b hb => Or.inr (by omega))
    have n9 : Nb (w.heap.size + 4) _ _ := Nb.put (.deferred none) (by omega) m9 rfl
    have q10 := n9.block _ _ q9 (Or.inr rfl)
    obtain ⟨⟨e0, e1, e2, e3⟩, _⟩ := blk4x q10
    refine ⟨by simp, .inl ⟨_, _, rfl, run_takeDeferred m9, ?_⟩⟩
    refine ⟨.agg #[.int .i64 k, .string nm, .int .i64 m, .slice aa al ac], ?_, _, rfl, n9.mo hm9 (by omega), hp9.nb n9, (hx9.nb n9).weak (fun b hb _ => by have hb' : w.heap.size + 4 ≤ b := hb; omega)⟩
    simp [results, Tryz.results125, go_sem, e0, e1, e2, e3]
  case stop =>
    rintro D2 c pre W' _ h _
    exact h.elim
end Go.Proofs.YtklfnphkepfmaaaGreatDoor

/- list of package parse: what it answers, with a tail. -/
namespace Go.Proofs.YtklfnphkepfmaaaGreatDoor
open Go.RowKit Go.Shelf
attribute [local go_sem] tok_kind tok_text tok_num tok_at
attribute [local go_sem] Oper.semAt_some

set_option maxRecDepth 100000 in
set_option maxHeartbeats 8000000 in
theorem list_ok1 {ts : List Tk} (hE : EndT ts) (hl : ts.length ≤ 10000000) {pb : Nat} {tv : Value} {f : Nat} (hT : TermC pb tv ts (f + 1)) {w : World} {i : Nat} (h : Ps w pb tv ts i) (hi : i < ts.length) (nest : Int) (hn0 : -10 ≤ nest) (hn1 : nest ≤ 4096) (hm : mkA ts i 93 = false) {es : List Ex} {n : Int} {j : Nat} (he : elemsF ts f nest i [] = .ok (es, n) j) (h1 : mkA ts j 124 = true) {x : Ex} {j5 : Nat} (h2 : termF ts f n (j + 1) = .ok x j5) (h3 : mkA ts j5 93 = true) :
    CallsIn Fence.wide 4 Tryz.prog 125 #[.pointer (some ⟨pb, 0, none⟩), .int .i64 nest] w (Tm w pb tv ts (.ok (listX es x) (j5 + 1))) := by
  have zp := lt_of_block h.b
  obtain ⟨rfl, hij, hj, hel, he0, hse0⟩ := list_elems hE hl hT h hi nest hn0 hn1 he
  have hse := hid hse0
  have hL := liW_is w pb nest
  have htk := takeMark_no (h.below hL.b) hi ⟨#[93]⟩ hm
  have HL := hid hL
  have hts := hid (h.old (by omega))
  have hmf : ∀ (fn : Fn) (first cap : Array Value) (w : World), (Instr.makeFunc fn first cap).run Tryz.prog w = .ok (.func fn first cap) w := fun _ _ _ _ => rfl
  clear hL he hse0
  have fa : Fence.wide.fn 100 := trivial
  have fb : Fence.wide.fn 60 := trivial
  have fc : Fence.wide.fn 96 := trivial
  have fd : Fence.wide.fn 144 := trivial
  have fe : Fence.wide.fn 101 := trivial
  have hbar := hid (fun w3 (hp : Ps w3 pb tv ts j) => takeMark_yes hp hj hl ⟨#[124]⟩ h1)
  have hj1 := mk_next hE hj h1
  have hwi := (all_wit hE f).1 (nest + es.length) (j + 1) hj1
  rw [h2] at hwi
  have hj5 : j5 < ts.length := hwi.2
  have hter := hid (fun w4 (hp : Ps w4 pb tv ts (j + 1)) (h4 : nest + es.length ≤ 4096) => hT f (by omega) (nest + es.length) (j + 1) w4 hp hj1 (by omega) (by omega) (by rw [h2]; exact trivial))
  rw [h2] at hter
  have hend := hid (fun w3 (hp : Ps w3 pb tv ts j5) => wantMark_yes hp hj5 hl ⟨#[93]⟩ h3)
  clear h1 h2 h3 hm hT hwi
  refine callsIn_of_wp_marks Tryz.func125 rfl trivial ?_ rfl
  simp only [Tryz.ntmps125, List.size_toArray, List.length_cons, List.length_nil, Nat.reduceAdd, Nat.reduceSub, Array.replicate_succ, Array.replicate_zero, List.push_toArray, List.append_toArray, List.nil_append, List.cons_append]
  gi_wp2_with (first
    | (gi_at_call 100; refine (callsIn_wide.2 htk).mono ?_; clear htk; rintro e w2 ⟨rfl, hb2⟩; obtain ⟨cx, _⟩ := one_cell' ((hb2.block _ (lt_of_block HL.out.x)).trans HL.out.x); have zx := lt_of_block ((hb2.block _ (lt_of_block HL.out.x)).trans HL.out.x))
    | (gi_at_call 60; go_must (refine (callsIn_wide.2 (hse.out _ _ HL.out hb2)).mono ?_; clear hse; rintro e w3 ⟨v, rfl, hE3⟩; obtain ⟨cx3, _⟩ := one_cell' hE3.x; have zx3 := lt_of_block hE3.x; obtain ⟨ev, ec, rfl⟩ := hE3.e.slice; have HE3 := hid hE3; clear hE3 cx zx))
    | (gi_at_call 100; go_must (refine (callsIn_wide.2 (hbar.out w3 HE3.out.p)).mono ?_; clear hbar; rintro e w4 ⟨rfl, hg4, hp4⟩; have hE4 := HE3.out.step zp (Mo.ofGrown hg4 rfl) hp4; obtain ⟨cx4, _⟩ := one_cell' hE4.x; have zx4 := lt_of_block hE4.x; obtain ⟨cn4, _⟩ := one_cell' hE4.n; have zn4 := lt_of_block hE4.n; have HE4 := hid hE4; clear hE4))
    | (gi_at_call 101; go_must (refine (callsIn_wide.2 (hter.out w4 HE4.out.p HE4.out.k)).mono ?_; clear hter; rintro e w5 ⟨v5, rfl, hm5, hp5, hx5⟩; obtain ⟨kt, nt, mt, at', lt', ct, rfl⟩ := hx5.form; have HX5 := hid hx5; have HT5 := hid (list_tail (k := kt) (nm := nt) (m := mt) (aa := at') (al := lt') (ac := ct) zp hts.out HE4.out hm5 hp5); obtain ⟨⟨a0, a1, a2, a3⟩, b0, b1, b2, b3⟩ := blk4x HT5.out.1; have z5 := lt_of_block HT5.out.1; obtain ⟨cx6, _⟩ := one_cell' HT5.out.2.2.1; have zx6 := lt_of_block HT5.out.2.2.1; clear hx5))
    | (gi_at_call 96; go_must (refine (callsIn_wide.2 (hend.out _ HT5.out.2.2.2.2.2.1)).mono ?_; clear hend; rintro e w7 ⟨rfl, hg7, hp7⟩))
    | (gi_at_call 144; go_must (refine (callsIn_wide.2 (backward_any _ _ _ w7)).mono ?_; rintro e w8 ⟨rfl, rfl⟩)))
  have zd := HE4.out.d
  have zdl := HE4.out.dl
  have HO5 : Hid (w7.heap[w.heap.size + 1 + 1 + 1]? = some (.cells #[.int .i64 kt, .string nt, .int .i64 mt, .slice at' lt' ct] 40) ∧ Xw (w.heap.size + 4 ≤ ·) w7 x (.agg #[.int .i64 kt, .string nt, .int .i64 mt, .slice at' lt' ct])) :=
    ⟨(hg7.block _ (lt_of_block HT5.out.2.1) (fun e => absurd (Option.some.inj e) (by omega))).trans HT5.out.2.1, HX5.out.keep (fun b hb hl => by
      have hb' : w4.heap.size ≤ b := hb
      exact ⟨by omega, (hg7.block b (by simpa using hl) (fun e => absurd (Option.some.inj e) (by omega))).trans (exEnd_other (by omega))⟩)⟩
  have HE5 : Hid (Ro eltX w2.heap.size w7 (.slice ev es.length ec) es ∧ w.heap.size + 4 ≤ w2.heap.size ∧ w7.heap[w.heap.size + 1 + 1]? = some exO ∧ Mo (· = pb) w w7 ∧ Ps w7 pb tv ts (j5 + 1)) :=
    ⟨HT5.out.2.2.2.2.2.2.1.grown hg7 (by omega), zd, (hg7.block _ (lt_of_block HT5.out.2.2.2.1) (fun e => absurd (Option.some.inj e) (by omega))).trans HT5.out.2.2.2.1, HT5.out.2.2.2.2.1.step hg7, hp7⟩
  obtain ⟨D, hDe⟩ : ∃ D, D = w2.heap.size := ⟨_, rfl⟩
  rw [← hDe] at HE5
  obtain ⟨fv, hf4, hfx, hrow⟩ := HE5.out.1
  obtain ⟨g, rfl⟩ : ∃ g, ev = some ⟨g, 0, none⟩ := by
    rcases hrow.2 with ⟨h0, h1⟩ | ⟨g, c, cur, e, _⟩
    · omega
    · injection e with e _ _
      exact ⟨g, e⟩
  have hgD := (hrow.lt g rfl).1
  have hgl := (hrow.lt g rfl).2
  have hd := HE5.out.2.1
  obtain ⟨W0, hW0⟩ : ∃ W0, w7.alloc (.cells #[.slice (some ⟨g, 0, none⟩) es.length ec] 24) = W0 := ⟨_, rfl⟩
  have hb0 : Below w7.heap.size w7 W0 := by rw [← hW0]; exact below_alloc w7 _
  have z0 : W0.heap.size = w7.heap.size + 1 := by rw [← hW0]; simp
  have hbx : W0.heap[w7.heap.size]? = some (.cells #[.slice (some ⟨g, 0, none⟩) es.length ec] 24) := by rw [← hW0]; exact heap_alloc_new w7 _
  have hrow0 : W0.ownsRow D 40 4 (.slice (some ⟨g, 0, none⟩) es.length ec) es.length (flatV fv es.length) := own_keep hrow (fun k hk => hb0.block k (hrow.lt k hk).2)
  have hI0 : IL w pb tv ts es x (j5 + 1) fv [] W0 := by
    refine ⟨(hb0.block _ (lt_of_block HE5.out.2.2.1)).trans HE5.out.2.2.1, ?_, HE5.out.2.2.2.1.trans (Mo.ofBelow hb0 : Mo (· = pb) _ W0) (fun _ h => Or.inl h), HE5.out.2.2.2.2.below hb0, fun i x hx => (hfx i x hx).keep (fun b hb hl => ⟨Nat.le_trans hd hb.1, hb0.block b hl⟩), by simp⟩
    · exact ⟨kt, nt, mt, at', lt', ct, (hb0.block _ (lt_of_block HO5.out.1)).trans HO5.out.1, by rw [show es.drop (es.length - ([] : List Be).length) = [] by simp]; exact HO5.out.2.next hb0⟩
  have hfs : ∀ j, j < es.length → ∃ k nm m aa al ac, fv j = [.int .i64 k, .string nm, .int .i64 m, .slice aa al ac] := fun j hj => by
    obtain ⟨k, nm, m, aa, al, ac, e, _⟩ := hfx j _ (List.getElem?_eq_getElem hj)
    exact ⟨k, nm, m, aa, al, ac, e⟩
  have hzw := HE5.out.2.2.2.1.size
  have hz4 : w.heap.size + 4 ≤ w7.heap.size := by omega
  have hdl : g ≠ w.heap.size + 1 + 1 + 1 := by omega
  rw [hW0]
  have HI0 := hid hI0
  clear hW0 HE5 hrow hI0
  refine range_toldP (Ks := fun k => k = w7.heap.size ∨ k = g) (encs := encB) rfl (enters_of Tryz.func156 (by kernel_rfl) rfl) (fun _ => rfl) (by omega) (fun k hk => by rcases hk with rfl | rfl <;> omega) (back_tells fv es.length g ec 3 _ w7.heap.size D W0 (by omega) (by omega) hf4 hfs hbx hrow0)
    (I := IL w pb tv ts es x (j5 + 1) fv) (Ix := fun _ _ _ => False) (fun pre A A' h hn => h.nb (by omega) hn) (fun c pre A A' h hn => h) (fun pre x A A' h hn => h) HI0.out
    (Ax := fun y a' W' => ∃ Bx, W'.heap[Bx]? = some (.cells #[.int .i64 y.k, .string y.nm, .int .i64 y.m, .slice y.aa y.al y.ac] 40) ∧ W0.heap.size ≤ Bx ∧ a' = { tmps := #[.pointer (some ⟨pb, 0, none⟩), .int .i64 nest, .pointer (some ⟨w.heap.size, 0, none⟩), .pointer (some ⟨w.heap.size + 1, 0, none⟩), .pointer (some ⟨w.heap.size + 1 + 1, 0, none⟩), .pointer (some ⟨w.heap.size + 1 + 1 + 1, 0, none⟩), .func (.func 143) #[] #[.pointer (some ⟨w.heap.size + 1, 0, none⟩), .pointer (some ⟨w.heap.size, 0, none⟩)], .slice (some ⟨g, 0, none⟩) es.length ec, undef, .pointer (some ⟨Bx, 0, none⟩), .agg #[.int .i64 2, .string ⟨#[91, 93]⟩, .int .i64 0, .slice none 0 0], .pointer (some ⟨pb, 0, none⟩), .bool false, undef, .func (.func 143) #[] #[.pointer (some ⟨w.heap.size + 1, 0, none⟩), .pointer (some ⟨w.heap.size, 0, none⟩)], .pointer (some ⟨pb, 0, none⟩), .func (.func 143) #[] #[.pointer (some ⟨w.heap.size + 1, 0, none⟩), .pointer (some ⟨w.heap.size, 0, none⟩)], .slice (some ⟨g, 0, none⟩) es.length ec, .pointer (some ⟨pb, 0, none⟩), .bool true, .pointer (some ⟨pb, 0, none⟩), .int .i64 (nest + es.length), .agg #[.int .i64 kt, .string nt, .int .i64 mt, .slice at' lt' ct], .pointer (some ⟨pb, 0, none⟩), .tuple #[], .slice (some ⟨g, 0, none⟩) es.length ec, .func (.func 156) #[] #[.pointer (some ⟨w7.heap.size, 0, none⟩)], .int .i64 y.i, .agg #[.int .i64 y.k, .string y.nm, .int .i64 y.m, .slice y.aa y.al y.ac], undef, undef, undef, undef, undef], defers := [] }) (fun x a' A A' h hn => by obtain ⟨Bx, h1, h2, h3⟩ := h; exact ⟨Bx, hn.block _ _ h1 (Or.inr rfl), h2, h3⟩) ?assign ?body ?done ?stop
  case assign =>
    intro l y W' K hzl hK
    simp only [encB]
    gi_wp2
    exact hK _ _ (below_alloc W' _) ⟨W'.heap.size, heap_alloc_new W' _, hzl, rfl⟩
  case body =>
    rintro l pre y a' W' hi ht ⟨Bx, hBx, hzB, rfl⟩
    obtain ⟨hlt, _, hfx'⟩ := ht
    obtain ⟨k, nm, m, aa, al, ac, ho1, ho2⟩ := hi.o
    have zb := lt_of_block hBx
    have zo := lt_of_block ho1
    have hst := hid (hi.step zp hts.out hlt y hfx' ho1 ho2)
    obtain ⟨xi, xk, xn, xm, xa, xl, xc⟩ := y
    dsimp only at *
    obtain ⟨⟨a0, a1, a2, a3⟩, _⟩ := blk4x hBx
    obtain ⟨⟨c0, c1, c2, c3⟩, d0, d1, d2, d3⟩ := blk4x ho1
    clear hi hfx'
    gi_wp2
    refine ⟨⟨by simp, fun q hq hql => ?_⟩, hst.out⟩
    have hqn : q ≠ w.heap.size + 1 + 1 + 1 := by
      rcases hq with (hq | hq) | hq
      · omega
      · omega
      · omega
    rw [Below.heap_alloc _ _ _ (by simpa using hql)]
    exact exEnd_other hqn
  case done =>
    rintro D2 xs W' hD hS hi hK
    obtain ⟨k, nm, m, aa, al, ac, ho1, ho2⟩ := hi.o
    rw [show es.drop (es.length - xs.length) = es by rw [show es.length - xs.length = 0 by omega]; rfl] at ho2
    have zo := lt_of_block ho1
    have zr := lt_of_block hi.r
    obtain ⟨⟨c0, c1, c2, c3⟩, _⟩ := blk4x ho1
    obtain ⟨⟨a0, a1, a2, a3⟩, b0, b1, b2, b3⟩ := blk4x hi.r
    have HI := hid hi
    have HX := hid ho2
    have HK := hid hK
    clear hi ho2 hK ho1
    gi_wp2
    have q9 : (exEnd W' (w.heap.size + 1 + 1) (.int .i64 k) (.string nm) (.int .i64 m) (.slice aa al ac)).heap[w.heap.size + 1 + 1]? = _ := ex_end (.int .i64 k) (.string nm) (.int .i64 m) (.slice aa al ac) HI.out.r
    have far : ∀ b, b ≠ w.heap.size + 1 + 1 → (exEnd W' (w.heap.size + 1 + 1) (.int .i64 k) (.string nm) (.int .i64 m) (.slice aa al ac)).heap[b]? = W'.heap[b]? := fun b hb => exEnd_other hb
    have hmq : Mo (· = w.heap.size + 1 + 1) W' (exEnd W' (w.heap.size + 1 + 1) (.int .i64 k) (.string nm) (.int .i64 m) (.slice aa al ac)) := ((((Mo.refl (· = w.heap.size + 1 + 1) W').setCell (p := ⟨w.heap.size + 1 + 1, 0, none⟩) (Or.inl rfl) _).setCell (p := ⟨w.heap.size + 1 + 1, 1, none⟩) (Or.inl rfl) _).setCell (p := ⟨w.heap.size + 1 + 1, 2, none⟩) (Or.inl rfl) _).setCell (p := ⟨w.heap.size + 1 + 1, 3, none⟩) (Or.inl rfl) _
    have m9 : (exEnd W' (w.heap.size + 1 + 1) (.int .i64 k) (.string nm) (.int .i64 m) (.slice aa al ac)).heap[D2]? = some (.deferred (some [])) := (far _ (by omega)).trans HK.out
    have hx9 : Xw (w.heap.size + 4 ≤ ·) (exEnd W' (w.heap.size + 1 + 1) (.int .i64 k) (.string nm) (.int .i64 m) (.slice aa al ac)) (listX es x) (.agg #[.int .i64 k, .string nm, .int .i64 m, .slice aa al ac]) := HX.out.keep (fun b hb hl => ⟨hb, far b (by have hb' : w.heap.size + 4 ≤ b := hb; omega)⟩)
    have hp9 := HI.out.p.mo hmq (fun b hb => by subst hb; exact ⟨by omega, fun ad n c htv e => by have := hts.out ad n c htv; omega⟩)
    have hm9 : Mo (· = pb) w (exEnd W' (w.heap.size + 1 + 1) (.int .i64 k) (.string nm) (.int .i64 m) (.slice aa al ac)) := HI.out.m.trans hmq (fun b hb => Or.inr (by omega))
    have n9 : Nb (w.heap.size + 4) _ _ := Nb.put (.deferred none) (by omega) m9 rfl
    have q10 := n9.block _ _ q9 (Or.inr rfl)
    obtain ⟨⟨e0, e1, e2, e3⟩, _⟩ := blk4x q10
    refine ⟨by simp, .inl ⟨_, _, rfl, run_takeDeferred m9, ?_⟩⟩
    refine ⟨.agg #[.int .i64 k, .string nm, .int .i64 m, .slice aa al ac], ?_, _, rfl, n9.mo hm9 (by omega), hp9.nb n9, (hx9.nb n9).weak (fun b hb _ => by have hb' : w.heap.size + 4 ≤ b := hb; omega)⟩
    simp [results, Tryz.results125, go_sem, e0, e1, e2, e3]
  case stop =>
    rintro D2 c pre W' _ h _
    exact h.elim
end Go.Proofs.YtklfnphkepfmaaaGreatDoor

/- term of package parse, at every place. -/
namespace Go.Proofs.YtklfnphkepfmaaaGreatDoor
open Go.RowKit
attribute [local go_sem] tok_kind tok_text tok_num tok_at

set_option maxRecDepth 100000 in
set_option maxHeartbeats 8000000 in
theorem term_comp_bad {w : World} {pb : Nat} {tv : Value} {ts : List Tk} {i : Nat} (h : Ps w pb tv ts i) (hE : EndT ts) (hi : i < ts.length) (hl : ts.length ≤ 10000000) (nest : Int) (hn : nest ≤ 4096) (hn0 : -10 ≤ nest) (hk : (tkA ts i).kind = 1) (hm : mkA ts (i + 1) 40 = true) {c5 : Int} {j : Nat}
    (hA : ∀ w1 : World, Ps w1 pb tv ts (i + 2) → Calls Tryz.prog 126 #[.pointer (some ⟨pb, 0, none⟩), .int .i64 (nest + 1)] w1 (Am w1 pb tv ts (.bad c5 j))) :
    Calls Tryz.prog 101 #[.pointer (some ⟨pb, 0, none⟩), .int .i64 nest] w (Tm w pb tv ts (.bad c5 j)) := by
  have hi1 : i + 1 < ts.length := hE i hi (by rw [hk]; decide)
  have htk : Hid (∀ w1 : World, Ps w1 pb tv ts (i + 1) → Calls Tryz.prog 100 #[.pointer (some ⟨pb, 0, none⟩), .string ⟨#[40]⟩] w1 fun e w' => e = .returned (.bool true) ∧ w1.grownBy w' (some pb) ∧ Ps w' pb tv ts (i + 2)) := fun w1 h1 => takeMark_yes h1 hi1 hl ⟨#[40]⟩ hm
  have HA := hid hA
  unfold tkA at *
  have zp := lt_of_block h.b
  have hb0 := below_alloc w (.cells #[.int .i64 0, .string ⟨#[]⟩, .int .i64 0, .slice none 0 0] 40)
  have h1 := opens_any (h.below hb0) hi
  have ho : opensF (ts.getD i tk0) = true := by unfold opensF; rw [hk]; rfl
  rw [ho] at h1
  have hnx := fun w1 (hb : Below w.heap.size w w1) => pnext_any (h.below hb) hi hl
  unfold tokV at hnx
  clear hm hA
  generalize ts.getD i tk0 = t at *
  obtain ⟨tk, tt, tn, ta, te⟩ := t
  dsimp only at *
  subst hk
  have hn' : decide (4096 < nest) = false := decide_eq_false (by omega)
  have hwr : IntKind.i64.wrap (nest + 1) = nest + 1 := by rw [IntKind.wrap_i64]; omega
  go_enter Tryz.func101, Tryz.ntmps101
  go_wp2_with (first
    | (go_at_call 124; refine h1.mono ?_; rintro e w1 ⟨rfl, hb1⟩; have hB1 := Below.next hb0 hb1; have hq1 : w1.heap[w.heap.size]? = some (.cells #[.int .i64 0, .string ⟨#[]⟩, .int .i64 0, .slice none 0 0] 40) := (hb1.block _ (by simp)).trans (heap_alloc_new w _))
    | (go_at_call 104; refine must_yes.mono ?_; rintro e w2 ⟨rfl, rfl⟩)
    | (go_at_call 103; refine (hnx _ hB1).mono ?_; rintro e w3 ⟨rfl, hg3, hp3⟩; have hq3 := (hg3.block _ (lt_of_block hq1) (fun e => absurd (Option.some.inj e) (by omega))).trans hq1; have zq3 := lt_of_block hq3; have hal := below_alloc w3 (tokObj ⟨1, tt, tn, ta, te⟩); have hp4 := hp3.below hal)
    | (go_at_call 100; go_must (refine (htk.out _ hp4).mono ?_; rintro e w4 ⟨rfl, hg4, hp5⟩; have hq4 := (hg4.block _ (show w.heap.size < (w3.alloc (tokObj ⟨1, tt, tn, ta, te⟩)).heap.size by simp; omega) (fun e => absurd (Option.some.inj e) (by omega))).trans ((hal.block _ zq3).trans hq3); have hk4 := (hg4.block w3.heap.size (by simp) (fun e => absurd (Option.some.inj e) (by omega))).trans (heap_alloc_new w3 (tokObj ⟨1, tt, tn, ta, te⟩)); have zk4 := lt_of_block hk4; have zq4 := lt_of_block hq4; have hmA := hid ((((Mo.ofBelow hB1 : Mo (· = pb) w _).step hg3).alloc (tokObj ⟨1, tt, tn, ta, te⟩)).step hg4); obtain ⟨⟨s0, s1, s2, s3, s4⟩, _⟩ := blk5 hk4; have hA4 := HA.out w4.drew hp5.drew)))
  have hnx5 : Hid (∀ w5, Mo (· = pb) w4.drew w5 → w5.heap[w.heap.size]? = some (.cells #[.int .i64 0, .string ⟨#[]⟩, .int .i64 0, .slice none 0 0] 40) ∧ w5.heap[w3.heap.size]? = some (tokObj ⟨1, tt, tn, ta, te⟩) ∧ Mo (· = pb) w w5) := fun w5 hm5 =>
    ⟨(hm5.block _ zq4 (by omega)).trans hq4, (hm5.block _ zk4 (by omega)).trans hk4, hmA.out.drew.trans hm5 (fun _ h => Or.inl h)⟩
  clear h1 hnx htk HA hq4 hk4 hg3 hg4 hp3 hp4 hp5 hal hq3 hq1 hb0 hb1 hB1 ho
  go_region_law (first | (go_simp; go_at_call 126; refine hA4.mono ?_; clear hA4; rintro (v | ch | _) w5 ⟨b5, he, hb5, hc5, hd5⟩; rotate_left; (cases he; exact ⟨rfl, b5, rfl, hb5, (by have hc6 : w4.heap.size ≤ b5 := hc5; omega), (hnx5.out w5 hd5).2.2⟩); (cases he); have hF := hid (show False by cases he); clear he hb5 hc5; obtain ⟨ao, n, c, rfl⟩ : ∃ ao n c, v = .slice ao n c := hF.out.elim; obtain ⟨hq5, hk5, hmB⟩ := hnx5.out w5 hd5; have zk5 := lt_of_block hk5; have zq5 := lt_of_block hq5; obtain ⟨⟨y0, y1, y2, y3, y4⟩, _⟩ := blk5 hk5; obtain ⟨⟨q0, q1, q2, q3⟩, r0, r1, r2, r3⟩ := blk4x hq5))
  all_goals go_wp2
  all_goals exact hF.out.elim
set_option maxRecDepth 100000 in
set_option maxHeartbeats 8000000 in
theorem term_list {w : World} {pb : Nat} {tv : Value} {ts : List Tk} {i : Nat} (h : Ps w pb tv ts i) (hE : EndT ts) (hi : i < ts.length) (hl : ts.length ≤ 10000000) (nest : Int) (hn : nest ≤ 4096) (hk : (tkA ts i).kind = 4) (ho : opensF (tkA ts i) = true) {R : Rd1 Ex}
    (hA : ∀ w1 : World, Ps w1 pb tv ts (i + 1) → Calls Tryz.prog 125 #[.pointer (some ⟨pb, 0, none⟩), .int .i64 nest] w1 (Tm w1 pb tv ts R)) :
    Calls Tryz.prog 101 #[.pointer (some ⟨pb, 0, none⟩), .int .i64 nest] w (Tm w pb tv ts R) := by
  have hi1 : i + 1 < ts.length := hE i hi (by rw [hk]; decide)
  have HA := hid hA
  have hts := hid (h.old (by omega))
  unfold tkA at *
  have zp := lt_of_block h.b
  have hb0 := below_alloc w (.cells #[.int .i64 0, .string ⟨#[]⟩, .int .i64 0, .slice none 0 0] 40)
  have h1 := opens_any (h.below hb0) hi
  rw [ho] at h1
  have hnx := fun w1 (hb : Below w.heap.size w w1) => pnext_any (h.below hb) hi hl
  unfold tokV at hnx
  clear hA ho
  generalize ts.getD i tk0 = t at *
  obtain ⟨tk, tt, tn, ta, te⟩ := t
  dsimp only at *
  subst hk
  have hn' : decide (4096 < nest) = false := decide_eq_false (by omega)
  cases R with
  | bad c5 j =>
    go_enter Tryz.func101, Tryz.ntmps101
    go_wp2_with (first
      | (go_at_call 124; refine h1.mono ?_; rintro e w1 ⟨rfl, hb1⟩; have hB1 := Below.next hb0 hb1)
      | (go_at_call 104; refine must_yes.mono ?_; rintro e w1 ⟨rfl, rfl⟩)
      | (go_at_call 103; refine (hnx _ hB1).mono ?_; rintro e w3 ⟨rfl, hg3, hp3⟩; have hal := below_alloc w3 (tokObj ⟨4, tt, tn, ta, te⟩); have hp4 := hp3.below hal)
      | (go_at_call 125; go_must (refine (HA.out _ hp4).mono ?_; rintro e w5 ⟨b5, rfl, hb5, hc5, hd5⟩)))
    have hmA : Mo (· = pb) w (w3.alloc (tokObj ⟨4, tt, tn, ta, te⟩)) := ((Mo.ofBelow hB1 : Mo (· = pb) w _).step hg3).alloc _
    exact ⟨rfl, b5, rfl, hb5, Nat.le_trans hmA.size hc5, hmA.trans hd5 (fun _ h => Or.inl h)⟩
  | ok x j =>
    have hfin : Hid (∀ w1 w2 v, Mo (· = pb) w w1 → w1.heap[w.heap.size]? = some (.cells #[.int .i64 0, .string ⟨#[]⟩, .int .i64 0, .slice none 0 0] 40) → Mo (· = pb) w1 w2 → Ps w2 pb tv ts j → Xw (w1.heap.size ≤ ·) w2 x v → ∃ k' n m aa al ac, v = .agg #[.int .i64 k', .string n, .int .i64 m, .slice aa al ac] ∧ w2.heap[w.heap.size]? = some (.cells #[.int .i64 0, .string ⟨#[]⟩, .int .i64 0, .slice none 0 0] 40) ∧ Mo (· = pb) w (exEnd w2 w.heap.size (.int .i64 k') (.string n) (.int .i64 m) (.slice aa al ac)) ∧ Ps (exEnd w2 w.heap.size (.int .i64 k') (.string n) (.int .i64 m) (.slice aa al ac)) pb tv ts j ∧ Xw (w.heap.size ≤ ·) (exEnd w2 w.heap.size (.int .i64 k') (.string n) (.int .i64 m) (.slice aa al ac)) x (.agg #[.int .i64 k', .string n, .int .i64 m, .slice aa al ac])) := fun w1 w2 v hm1 b3 hm2 hp2 hx2 => by
      obtain ⟨k', n, m, aa, al, ac, rfl⟩ := hx2.form
      have z3 := lt_of_block b3
      have e3 := (hm2.block w.heap.size z3 (by omega)).trans b3
      have hmq : Mo (· = w.heap.size) w2 (exEnd w2 w.heap.size (.int .i64 k') (.string n) (.int .i64 m) (.slice aa al ac)) := ((((Mo.refl (· = w.heap.size) w2).setCell (p := ⟨w.heap.size, 0, none⟩) (Or.inl rfl) _).setCell (p := ⟨w.heap.size, 1, none⟩) (Or.inl rfl) _).setCell (p := ⟨w.heap.size, 2, none⟩) (Or.inl rfl) _).setCell (p := ⟨w.heap.size, 3, none⟩) (Or.inl rfl) _
      refine ⟨k', n, m, aa, al, ac, rfl, e3, (hm1.trans hm2 (fun x h => Or.inl h)).trans hmq (fun x h => Or.inr (by rw [h]; exact Nat.le_refl _)), hp2.mo hmq (fun b hb => by subst hb; exact ⟨by omega, fun ad n' c' htv e => by have := hts.out ad n' c' htv; omega⟩), hx2.keep (fun b hb hl => ?_)⟩
      have hb' : w1.heap.size ≤ b := hb
      exact ⟨by omega, exEnd_other (by omega)⟩
    go_enter Tryz.func101, Tryz.ntmps101
    go_wp2_with (first
      | (go_at_call 124; refine h1.mono ?_; rintro e w1 ⟨rfl, hb1⟩; have hB1 := Below.next hb0 hb1; have hq1 : w1.heap[w.heap.size]? = some (.cells #[.int .i64 0, .string ⟨#[]⟩, .int .i64 0, .slice none 0 0] 40) := (hb1.block _ (by simp)).trans (heap_alloc_new w _))
      | (go_at_call 104; refine must_yes.mono ?_; rintro e w1 ⟨rfl, rfl⟩)
      | (go_at_call 103; refine (hnx _ hB1).mono ?_; rintro e w3 ⟨rfl, hg3, hp3⟩; have hq3 := (hg3.block _ (lt_of_block hq1) (fun e => absurd (Option.some.inj e) (by omega))).trans hq1; have hal := below_alloc w3 (tokObj ⟨4, tt, tn, ta, te⟩); have hp4 := hp3.below hal; have hq4 := (hal.block _ (lt_of_block hq3)).trans hq3)
      | (go_at_call 125; go_must (refine (HA.out _ hp4).mono ?_; rintro e w5 ⟨v, rfl, hm5, hp5, hx5⟩; obtain ⟨k', n, m, aa, al, ac, rfl, e3, e4, e5, e7⟩ := hfin.out _ w5 v (((Mo.ofBelow hB1 : Mo (· = pb) w _).step hg3).alloc _) hq4 hm5 hp5 hx5; have zq2 := lt_of_block e3; obtain ⟨⟨q0, q1, q2, q3⟩, r0, r1, r2, r3⟩ := blk4x e3)))
    exact bodyPost_ret (ret_ex Tryz.results101 (by rfl) (ex_end (.int .i64 k') (.string n) (.int .i64 m) (.slice aa al ac) e3)) rfl ⟨_, rfl, e4, e5, e7⟩
theorem list_all {ts : List Tk} (hE : EndT ts) (hl : ts.length ≤ 10000000) {pb : Nat} {tv : Value} {f : Nat} (hT : TermC pb tv ts (f + 1)) {w : World} {i : Nat} (h : Ps w pb tv ts i) (hi : i < ts.length) (nest : Int) (hn0 : -10 ≤ nest) (hn1 : nest ≤ 4096) (hn : nof (listF ts f nest i)) :
    Calls Tryz.prog 125 #[.pointer (some ⟨pb, 0, none⟩), .int .i64 nest] w (Tm w pb tv ts (listF ts f nest i)) := by
  unfold listF at hn ⊢
  cases hm : mkA ts i 93 with
  | true =>
    rw [if_pos rfl]
    exact list_nil hl h hi nest hm
  | false =>
    rw [hm] at hn
    rw [if_neg (by decide)] at hn ⊢
    cases he : elemsF ts f nest i [] with
    | bad c5 j =>
      rw [he] at hn
      exact list_eb hE hl hT h hi nest hn0 hn1 hm hn he
    | ok en j =>
      obtain ⟨es, n⟩ := en
      rw [he] at hn
      replace hn : nof (if mkA ts j 124 then wantF ts 93 ((termF ts f n (j + 1)).map (listX es)) else wantF ts 93 (.ok (listX es nilX) j)) := hn
      show Calls _ _ _ _ (Tm w pb tv ts (if mkA ts j 124 then wantF ts 93 ((termF ts f n (j + 1)).map (listX es)) else wantF ts 93 (.ok (listX es nilX) j)))
      cases h1 : mkA ts j 124 with
      | true =>
        rw [h1, if_pos rfl] at hn
        rw [if_pos rfl]
        cases h2 : termF ts f n (j + 1) with
        | bad c5 j5 =>
          rw [h2] at hn
          exact list_tb hE hl hT h hi nest hn0 hn1 hm he h1 hn h2
        | ok x j5 =>
          show Calls _ _ _ _ (Tm w pb tv ts (if mkA ts j5 93 then .ok (listX es x) (j5 + 1) else .bad (mustC (tkA ts j5)) j5))
          cases h3 : mkA ts j5 93 with
          | true => exact callsIn_wide.1 (list_ok1 hE hl hT h hi nest hn0 hn1 hm he h1 h2 h3)
          | false => exact list_tn hE hl hT h hi nest hn0 hn1 hm he h1 h2 h3
      | false =>
        rw [if_neg (by decide)]
        show Calls _ _ _ _ (Tm w pb tv ts (if mkA ts j 93 then .ok (listX es nilX) (j + 1) else .bad (mustC (tkA ts j)) j))
        cases h3 : mkA ts j 93 with
        | true => exact callsIn_wide.1 (list_ok0 hE hl hT h hi nest hn0 hn1 hm he h1 h3)
        | false => exact list_no hE hl hT h hi nest hn0 hn1 hm he h1 h3
theorem leaf_tm {w : World} {pb : Nat} {tv : Value} {ts : List Tk} {x : Ex} {j : Nat} {e : Ending} {w' : World} (h : ∃ v, e = .returned v ∧ w.grownBy w' (some pb) ∧ Ps w' pb tv ts j ∧ Xw (w.heap.size ≤ ·) w' x v) : Tm w pb tv ts (.ok x j) e w' := by
  obtain ⟨v, h1, h2, h3, h4⟩ := h
  exact ⟨v, h1, Mo.ofGrown h2 rfl, h3, h4⟩
/-- term at any fuel that was not spent. -/
theorem term_all {ts : List Tk} (hE : EndT ts) (hl : ts.length ≤ 10000000) (pb : Nat) (tv : Value) : ∀ f, TermC pb tv ts f := by
  intro f
  induction f with
  | zero => exact fun f' h => absurd h (Nat.not_lt_zero _)
  | succ f ih =>
    intro f' hf' nest i w h hi hn0 hn1 hn
    by_cases hlt : f' < f
    · exact ih f' hlt nest i w h hi hn0 hn1 hn
    · obtain rfl : f' = f := by omega
      cases f' with
      | zero => rw [termF] at hn; exact absurd rfl hn
      | succ g =>
        rw [termF] at hn ⊢
        by_cases ho : opensF (tkA ts i) = false
        · rw [if_pos ho]
          exact (term_no h hi nest ho).mono (fun e w' hg => hg.gv _)
        · rw [if_neg ho] at hn ⊢
          have ho : opensF (tkA ts i) = true := by simpa using ho
          by_cases hd : 4096 < nest
          · rw [if_pos hd]
            exact (term_deep h hi nest ho hd).mono (fun e w' hg => hg.gv _)
          · rw [if_neg hd] at hn ⊢
            have hd' : nest ≤ 4096 := by omega
            by_cases h2 : (tkA ts i).kind = 2
            · rw [if_pos h2]
              exact (term_var h hi hl nest hd' h2).mono (fun e w' hg => leaf_tm hg)
            · rw [if_neg h2] at hn ⊢
              by_cases h3 : (tkA ts i).kind = 3
              · rw [if_pos h3]
                exact (term_int h hi hl nest hd' h3).mono (fun e w' hg => leaf_tm hg)
              · rw [if_neg h3] at hn ⊢
                by_cases h4 : (tkA ts i).kind = 4
                · rw [if_pos h4] at hn ⊢
                  have hi1 : i + 1 < ts.length := hE i hi (by rw [h4]; decide)
                  exact term_list h hE hi hl nest hd' h4 ho (R := listF ts g nest (i + 1)) (fun w1 h1 => list_all hE hl ih h1 hi1 nest hn0 hd' hn)
                · rw [if_neg h4] at hn ⊢
                  have h1 : (tkA ts i).kind = 1 := by
                    unfold opensF at ho
                    simp [h2, h3, h4] at ho
                    exact ho
                  cases hm : mkA ts (i + 1) 40 with
                  | true =>
                    rw [hm, if_pos rfl] at hn
                    rw [if_pos rfl]
                    have hi1 : i + 1 < ts.length := hE i hi (by rw [h1]; decide)
                    have hi2 := mk_next hE hi1 hm
                    have hargs := fun w1 (h1 : Ps w1 pb tv ts (i + 2)) => args_any hE hl (f := g) (fun f'' hf'' => ih f'' (by omega)) h1 hi2 (nest + 1) (by omega) (by omega) hn.unmap
                    cases hr : argsF ts g (nest + 1) (i + 2) [] with
                    | bad c5 j =>
                      rw [hr] at hargs
                      exact term_comp_bad h hE hi hl nest hd' hn0 h1 hm hargs
                    | ok xs j =>
                      rw [hr] at hargs
                      exact term_comp h hE hi hl nest hd' hn0 h1 hm hargs
                  | false =>
                    rw [if_neg (by decide)]
                    have hi1 : i + 1 < ts.length := hE i hi (by rw [h1]; decide)
                    exact (term_atom h hi1 hl nest hd' h1 hm).mono (fun e w' hg => leaf_tm hg)
end Go.Proofs.YtklfnphkepfmaaaGreatDoor

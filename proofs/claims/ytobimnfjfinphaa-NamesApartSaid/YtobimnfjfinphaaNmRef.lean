/- What the reference of layer 3 does, each at every argument: Find, Put, Same, and the question whether an error is just a fault. -/
import Derived.Test.YtobimnfjfinphaaNmLives
namespace Go.Proofs.Ytobimnfjfinphaa
open Go.RowKit Go.Maps

def fltObj (c a : Int) (s : ByteArray) : Obj := .cells #[.int .i64 c, .int .i64 a, .string s, .slice none 0 0] 33
set_option maxHeartbeats 400000 in
theorem named_ex (c : Int) (s : ByteArray) (w : World) :
    Calls Try.prog 25 #[.int .i64 c, .string s] w fun e w' => e = .returned (flt c (-1) s) ∧ w' = w.alloc (fltObj c (-1) s) := by
  go_enter Try.func25, Try.ntmps25
  go_wp2
  exact bodyPost_ret (v := flt c (-1) s) (by simp [results, Try.results25, go_sem, flt]) rfl ⟨rfl, rfl⟩
set_option maxHeartbeats 400000 in
theorem no_ex (w : World) :
    Calls Try.prog 26 #[] w fun e w' => e = .returned (flt 0 0 ⟨#[]⟩) ∧ w' = w.alloc (fltObj 0 0 ⟨#[]⟩) := by
  go_enter Try.func26, Try.ntmps26
  go_wp2
  exact bodyPost_ret (v := flt 0 0 ⟨#[]⟩) (by simp [results, Try.results26, go_sem, flt]) rfl ⟨rfl, rfl⟩
/-- An error asked for the very pointer type that it has. -/
theorem assert_ptr {P : Program} (w : World) (t xT e : TypeId) (v : Value) (h : P.underlying t = some (.pointer e)) : (Instr.typeAssert (.iface t v) xT t true).run P w = .ok (.tuple #[v, .bool true]) w := by
  simp [Instr.typeAssert, run_underlying h, go_sem, Result.andThen]
set_option maxHeartbeats 400000 in
theorem is_no (a : Int) (s : ByteArray) (w : World) :
    Calls Try.prog 14 #[.nilIface, flt 0 a s] w fun e w' => e = .returned (.bool true) ∧ Below w.heap.size w w' := by
  go_enter Try.func14, Try.ntmps14
  go_wp2
  go_loop [0] (fun e => e = .nilIface) (fun _ => 0)
  case atStart => rfl
  case round =>
    subst hrel
    go_wp2
    go_ret
    exact ⟨rfl, (Below.refl _ _).alloc (Nat.le_refl _) _⟩
set_option maxRecDepth 100000 in
set_option maxHeartbeats 1000000 in
theorem is_yes (c a : Int) (s : ByteArray) (b : Nat) (w : World) (hc : (c == 0) = false) (hb : w.heap[b]? = some (faultObj c a s)) :
    Calls Try.prog 14 #[.iface 62 (.pointer (some ⟨b, 0, none⟩)), flt c a s] w fun e w' => e = .returned (.bool true) ∧ Below w.heap.size w w' := by
  have hlt : b < w.heap.size := lt_of_block hb
  have h0 : w.cell? ⟨b, 0, none⟩ = some (.int .i64 c) := by simp [World.cell?, hb, faultObj]
  have h1 : w.cell? ⟨b, 1, none⟩ = some (.int .i64 a) := by simp [World.cell?, hb, faultObj]
  have h2 : w.cell? ⟨b, 2, none⟩ = some (.string s) := by simp [World.cell?, hb, faultObj]
  have h3 : w.cell? ⟨b, 3, none⟩ = some .nilIface := by simp [World.cell?, hb, faultObj]
  clear hb
  have hta := fun (w : World) (v : Value) => assert_ptr (P := Try.prog) w 62 28 65 v Try.underlying62
  go_enter Try.func14, Try.ntmps14
  go_wp2
  go_loop [0] (fun e => e = .iface 62 (.pointer (some ⟨b, 0, none⟩))) (fun _ => 0)
  case atStart => rfl
  case round =>
    subst hrel
    go_wp2
    go_quiet (fail)
    go_wp2
    go_ret
    exact ⟨rfl, below_drewN ((Below.refl _ _).alloc (Nat.le_refl _) _) _⟩
theorem is_any {w : World} {e : Value} {c a : Int} {s : ByteArray} (h : Err w e c a s) :
    Calls Try.prog 14 #[e, flt c a s] w fun e w' => e = .returned (.bool true) ∧ Below w.heap.size w w' := by
  rcases h with ⟨rfl, rfl⟩ | ⟨hc, b, rfl, hb⟩
  · exact is_no a s w
  · exact is_yes c a s b w (by simpa using hc) hb
theorem idx_first : ∀ {l : List ByteArray} {s : ByteArray} {k : Nat}, inL (l.take k) s = false → l[k]? = some s → idx l s = k
  | [], s, k, _, h => by simp at h
  | x :: r, s, 0, _, h => by
    have e : x = s := by simpa using h
    simp [idx, e]
  | x :: r, s, k + 1, h, h' => by
    simp only [List.take_succ_cons, inL, List.any_cons, Bool.or_eq_false_iff, decide_eq_false_iff_not] at h
    have := idx_first (l := r) (s := s) (k := k) h.2 (by simpa using h')
    simp only [idx, if_neg h.1, this]
theorem toList_dataR (a : ByteArray) : a.toList = a.data.toList := ByteArray.toList_eq a
theorem toList_neR {a b : ByteArray} (h : a ≠ b) : (a.toList == b.toList) = false := by
  rw [toList_dataR, toList_dataR]
  exact beq_eq_false_iff_ne.2 (fun e => h (ByteArray.ext (Array.toList_inj.1 e)))
set_option maxRecDepth 100000 in
set_option maxHeartbeats 1000000 in
theorem rfind_any {w : World} {v : Value} {l : List ByteArray} (h : Rs w v l) (s : ByteArray) (hl : l.length ≤ 5000) :
    Calls Try.prog 17 #[v, .string s] w fun e w' => e = .returned (.tuple #[.int .i64 (num l s : Int), .bool (inL l s)]) ∧ w' = w := by
  obtain ⟨ao, c, rfl⟩ := h.shape
  go_enter Try.func17, Try.ntmps17
  go_wp2
  go_loop [6] (fun i => ∃ k : Nat, k ≤ l.length ∧ i = .int .i64 k ∧ Hid (inL (l.take k) s = false)) (fun i => l.length - (intOf i).toNat)
  case atStart => exact ⟨0, Nat.zero_le _, rfl, by simp [Hid, inL]⟩
  case round =>
    obtain ⟨k, hk, rfl, hm⟩ := hrel
    by_cases hlt : k < l.length
    · obtain ⟨x, hx⟩ : ∃ x, x = l.getD k ⟨#[]⟩ := ⟨_, rfl⟩
      have hx' : Hid (l[k]? = some x) := by show _ = _; rw [hx]; simp [List.getD, hlt]
      obtain ⟨rb, ro, rfl, hcell⟩ : ∃ rb ro, ao = some ⟨rb, ro, none⟩ ∧ w.cell? ⟨rb, ro + k, none⟩ = some (.string x) := by
        rcases h with ⟨_, h0⟩ | ⟨_, _, _, h0⟩ | ⟨rb, ro, rc, h0, hc⟩
        · rw [h0] at hlt
          simp at hlt
        · rw [h0] at hlt
          simp at hlt
        · refine ⟨rb, ro, by injection h0, ?_⟩
          rw [hx]
          exact hc k hlt
      clear hx h
      by_cases e : x = s
      · subst e
        have hi : Hid (inL l x = true) := inL_iff.2 (List.mem_of_getElem? hx'.out)
        have hn : Hid (num l x = k) := by
          show num l x = k
          unfold num
          rw [if_pos hi.out, idx_first hm.out hx'.out]
        go_wp2
        go_ret2
        rw [hi.out, hn.out]
        exact ⟨rfl, rfl⟩
      · have he := toList_neR e
        have hst : Hid (inL (l.take (k + 1)) s = false) := by
          show _ = _
          rw [List.take_add_one, hx'.out]
          show inL (l.take k ++ [x]) s = false
          rw [inL_snoc, hm.out, decide_eq_false e]
          rfl
        go_wp2
        exact ⟨⟨k + 1, by omega, congrArg (Value.int .i64) (by omega), hst⟩, by simp [intOf]; omega⟩
    · have hi : Hid (inL l s = false) := by
        have := hm.out
        rwa [List.take_of_length_le (by omega)] at this
      have hn : Hid (num l s = 0) := by
        show num l s = 0
        unfold num
        rw [hi.out]
        rfl
      go_wp2
      go_ret2
      rw [hi.out, hn.out]
      exact ⟨rfl, rfl⟩
theorem flt_facts {w : World} {q : Nat} {c a : Int} {s : ByteArray} (h : w.heap[q]? = some (fltObj c a s)) : (w.cell? ⟨q, 0, none⟩ = some (.int .i64 c) ∧ w.cell? ⟨q, 1, none⟩ = some (.int .i64 a) ∧ w.cell? ⟨q, 2, none⟩ = some (.string s) ∧ w.cell? ⟨q, 3, none⟩ = some (.slice none 0 0)) ∧
    (w.frozen? ⟨q, 0, none⟩ = false ∧ w.frozen? ⟨q, 1, none⟩ = false ∧ w.frozen? ⟨q, 2, none⟩ = false ∧ w.frozen? ⟨q, 3, none⟩ = false) := by
  refine ⟨⟨?_, ?_, ?_, ?_⟩, ?_, ?_, ?_, ?_⟩ <;> simp [World.cell?, World.frozen?, h, fltObj]
/-- The world behind the store of a fault into the result's block. -/
abbrev fltEnd (w : World) (q : Nat) (c a : Int) (s : ByteArray) (o : Obj) : World :=
  ((((w.setCell ⟨q, 0, none⟩ (.int .i64 c)).setCell ⟨q, 1, none⟩ (.int .i64 a)).setCell ⟨q, 2, none⟩ (.string s)).setCell ⟨q, 3, none⟩ (.slice none 0 0)).alloc o
theorem flt_end {w : World} {q : Nat} {c a c' a' : Int} {s s' : ByteArray} {o : Obj} (h : w.heap[q]? = some (fltObj c a s)) : (fltEnd w q c' a' s' o).heap[q]? = some (fltObj c' a' s') := by
  have h0 := heap_setCell_same w q 0 _ _ (.int .i64 c') h
  have h1 := heap_setCell_same _ q 1 _ _ (.int .i64 a') h0
  have h2 := heap_setCell_same _ q 2 _ _ (.string s') h1
  have h3 := heap_setCell_same _ q 3 _ _ (.slice none 0 0) h2
  rw [fltEnd, Below.heap_alloc _ _ _ (lt_of_block h3), h3]
  rfl
theorem flt_mod {w : World} {q : Nat} {c' a' : Int} {s' : ByteArray} {o : Obj} : Mod [q] w (fltEnd w q c' a' s' o) :=
  (((((Mod.refl [q] w).setCell (p := ⟨q, 0, none⟩) (Or.inl (by simp)) _).setCell (p := ⟨q, 1, none⟩) (Or.inl (by simp)) _).setCell (p := ⟨q, 2, none⟩) (Or.inl (by simp)) _).setCell (p := ⟨q, 3, none⟩) (Or.inl (by simp)) _).alloc o
theorem ret_flt3 {w : World} {fn : Func} {r t u : Tmp} (hfn : fn.results = #[.tmp r, .tmp t, .cell u 33]) {tmps : Array Value} {q : Nat} {c a : Int} {s : ByteArray} {x y : Value} (hr : tmps[r]?.getD undef = x) (ht : tmps[t]?.getD undef = y) (hu : tmps[u]?.getD undef = .pointer (some ⟨q, 0, none⟩)) (hq : w.heap[q]? = some (fltObj c a s)) :
    (results fn tmps).run Try.prog w = .ok (.tuple #[x, y, flt c a s]) w := by
  obtain ⟨⟨z0, z1, z2, z3⟩, _⟩ := flt_facts hq
  simp [results, hfn, go_sem, flt, hr, ht, hu, z0, z1, z2, z3]
theorem own_below {w w' : World} {B : Nat} {e : TypeId} {v : Value} {n : Nat} {xs : List Value} (h : w.ownsRow B e 1 v n xs) (hm : Below w.heap.size w w') : w'.ownsRow B e 1 v n xs := own_keep (ks := []) h (Mod.ofBelow hm) (by simp)
theorem two_new (w : World) (o o' : Obj) : ((w.alloc o).alloc o').heap[w.heap.size]? = some o := by
  rw [Below.heap_alloc (w.alloc o) o' w.heap.size (by simp)]
  exact heap_alloc_new w o
/-- What the reference's Put leaves of its list. -/
structure RUpd (w w' : World) (B : Nat) (v : Value) (l' : List ByteArray) (v' : Value) : Prop where
  own : w'.ownsRow B 9 1 v' l'.length (l'.map Value.string)
  mod : Mod v.ownBlock.toList w w'
  nx : Nx w v v'
set_option maxRecDepth 100000 in
set_option maxHeartbeats 1000000 in
theorem rput_bad {w : World} {v : Value} {l : List ByteArray} (hr : Rs w v l) (s : ByteArray) (hs : s.size ≤ 281474976710656) (hg : goodS s = false) :
    Calls Try.prog 13 #[v, .string s] w fun e w' => e = .returned (.tuple #[v, .int .i64 0, flt 30 (-1) s]) ∧ Below w.heap.size w w' := by
  obtain ⟨ao, c, rfl⟩ := hr.shape
  go_enter Try.func13, Try.ntmps13
  go_wp2_with (first
    | (go_at_call 10; refine (rgood_any _ _ hs).mono ?_; rintro e w' ⟨rfl, rfl⟩)
    | (go_at_call 25; refine (named_ex _ _ _).mono ?_; rintro e w' ⟨rfl, rfl⟩))
  exact bodyPost_ret (v := .tuple #[.slice ao l.length c, .int .i64 0, flt 30 (-1) s]) (by simp [results, Try.results13, go_sem, flt]) rfl ⟨rfl, (below_alloc _ _).alloc (by simp) _⟩
set_option maxRecDepth 100000 in
set_option maxHeartbeats 1000000 in
theorem rput_old {w : World} {v : Value} {l : List ByteArray} (hr : Rs w v l) (hl : l.length ≤ 5000) (s : ByteArray) (hs : s.size ≤ 281474976710656) (hg : goodS s = true) (hi : inL l s = true) :
    Calls Try.prog 13 #[v, .string s] w fun e w' => e = .returned (.tuple #[v, .int .i64 (num l s : Int), flt 0 0 ⟨#[]⟩]) ∧ Below w.heap.size w w' := by
  have hf := fun o => rfind_any (hr.alloc o) s hl
  obtain ⟨ao, c, rfl⟩ := hr.shape
  rw [hi] at hf
  clear hr
  go_enter Try.func13, Try.ntmps13
  go_wp2_with (first
    | (go_at_call 10; refine (rgood_any _ _ hs).mono ?_; rintro e w' ⟨rfl, rfl⟩)
    | (go_at_call 17; refine (hf _).mono ?_; rintro e w' ⟨rfl, rfl⟩)
    | (go_at_call 26; refine (no_ex _).mono ?_; rintro e w' ⟨rfl, rfl⟩))
  exact bodyPost_ret (v := .tuple #[.slice ao l.length c, .int .i64 (num l s : Int), flt 0 0 ⟨#[]⟩]) (by simp [results, Try.results13, go_sem, flt]) rfl ⟨rfl, (below_alloc _ _).alloc (by simp) _⟩
set_option maxRecDepth 100000 in
set_option maxHeartbeats 1000000 in
theorem rput_full {w : World} {v : Value} {l : List ByteArray} (hr : Rs w v l) (hl : l.length ≤ 5000) (s : ByteArray) (hs : s.size ≤ 281474976710656) (hg : goodS s = true) (hi : inL l s = false) (hn : ¬ l.length < 1024) :
    Calls Try.prog 13 #[v, .string s] w fun e w' => e = .returned (.tuple #[v, .int .i64 0, flt 31 (-1) s]) ∧ Below w.heap.size w w' := by
  have hf := fun o => rfind_any (hr.alloc o) s hl
  obtain ⟨ao, c, rfl⟩ := hr.shape
  rw [hi] at hf
  clear hr
  go_enter Try.func13, Try.ntmps13
  go_wp2_with (first
    | (go_at_call 10; refine (rgood_any _ _ hs).mono ?_; rintro e w' ⟨rfl, rfl⟩)
    | (go_at_call 17; refine (hf _).mono ?_; rintro e w' ⟨rfl, rfl⟩)
    | (go_at_call 25; refine (named_ex _ _ _).mono ?_; rintro e w' ⟨rfl, rfl⟩))
  exact bodyPost_ret (v := .tuple #[.slice ao l.length c, .int .i64 0, flt 31 (-1) s]) (by simp [results, Try.results13, go_sem, flt]) rfl ⟨rfl, (below_alloc _ _).alloc (by simp) _⟩
end Go.Proofs.Ytobimnfjfinphaa

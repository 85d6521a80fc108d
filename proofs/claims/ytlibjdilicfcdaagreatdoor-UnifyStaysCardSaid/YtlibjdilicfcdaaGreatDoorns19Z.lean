/- Package cells: Look. -/
import Derived.BigQuiet
import Derived.Deep.RegionWith
import Derived.Test.YtlibjdilicfcdaaGreatDoorns17Z
import Derived.Test.YtlibjdilicfcdaaGreatDoorns04Z
import Derived.Test.YtlibjdilicfcdaaGreatDoorns03Z
namespace Go.Proofs.YtlibjdilicfcdaaGreatDoor
set_option maxRecDepth 100000
open Go.RowKit
def tdK (x : Int) : Int := if x % 8 = 1 then 2 else if x % 8 = 2 then 3 else if x % 8 = 3 then 4 else 1
def tdA (x : Int) : Int := if x % 8 = 1 ∨ x % 8 = 2 then -1 else valOf x
def tdS (l : List Int) (ns : List ByteArray) (x : Int) : ByteArray := if x % 8 = 1 then ns.getD (valOf x).toNat ⟨#[]⟩ else if x % 8 = 3 then ns.getD (valOf (wdN l (valOf x).toNat) / 16).toNat ⟨#[]⟩ else ⟨#[]⟩
def tdN (x : Int) : Int := if x % 8 = 2 then valOf x else 0
def tdL (l : List Int) (x : Int) : List Int := if x % 8 = 3 then rchL (valOf x).toNat (wdN l (valOf x).toNat) else []
structure Tw (l : List Int) (ns : List ByteArray) (x : Int) : Prop where
  r0 : 0 ≤ x
  r1 : x ≤ 18446744073709551615
  tag : x % 8 = 0 ∨ x % 8 = 1 ∨ x % 8 = 2 ∨ x % 8 = 3
  atom : x % 8 = 1 → 0 ≤ valOf x ∧ (valOf x).toNat < ns.length
  str : x % 8 = 3 → 0 ≤ valOf x ∧ (valOf x).toNat < l.length ∧ tgN l (valOf x).toNat = 4 ∧ goodB (wdN l (valOf x).toNat) = true ∧ (valOf (wdN l (valOf x).toNat) / 16).toNat < ns.length
abbrev cel0 : Obj := .cells #[.int .i64 0, .int .i64 0, .string ⟨#[]⟩, .int .i64 0, .slice none 0 0] 139
theorem ret_cel {w : World} {fn : Func} {t : Tmp} (hfn : fn.results = #[.cell t 139]) {tmps : Array Value} {q : Nat} {u0 u1 u2 u3 u4 : Value} (h4 : tmps[t]?.getD undef = .pointer (some ⟨q, 0, none⟩)) (hq : w.heap[q]? = some (.cells #[u0, u1, u2, u3, u4] 139)) : (results fn tmps).run Tryz.prog w = .ok (.agg #[u0, u1, u2, u3, u4]) w := by
  have z0 : w.cell? ⟨q, 0, none⟩ = some u0 := by simp [World.cell?, hq]
  have z1 : w.cell? ⟨q, 1, none⟩ = some u1 := by simp [World.cell?, hq]
  have z2 : w.cell? ⟨q, 2, none⟩ = some u2 := by simp [World.cell?, hq]
  have z3 : w.cell? ⟨q, 3, none⟩ = some u3 := by simp [World.cell?, hq]
  have z4 : w.cell? ⟨q, 4, none⟩ = some u4 := by simp [World.cell?, hq]
  simp [results, hfn, go_sem, h4, z0, z1, z2, z3, z4]
abbrev set5C (w : World) (q : Nat) (u0 u1 u2 u3 u4 : Value) : World := ((((w.setCell ⟨q, 0, none⟩ u0).setCell ⟨q, 1, none⟩ u1).setCell ⟨q, 2, none⟩ u2).setCell ⟨q, 3, none⟩ u3).setCell ⟨q, 4, none⟩ u4
theorem set5C_at {w : World} {q : Nat} {v0 v1 v2 v3 v4 : Value} {T : TypeId} (h : w.heap[q]? = some (.cells #[v0, v1, v2, v3, v4] T)) (u0 u1 u2 u3 u4 : Value) : (set5C w q u0 u1 u2 u3 u4).heap[q]? = some (.cells #[u0, u1, u2, u3, u4] T) := by
  have h0 := heap_setCell_same w q 0 _ _ u0 h
  have h1 := heap_setCell_same _ q 1 _ _ u1 h0
  have h2 := heap_setCell_same _ q 2 _ _ u2 h1
  have h3 := heap_setCell_same _ q 3 _ _ u3 h2
  exact heap_setCell_same _ q 4 _ _ u4 h3
theorem set5C_far (w : World) {q k : Nat} (u0 u1 u2 u3 u4 : Value) (h : k ≠ q) : (set5C w q u0 u1 u2 u3 u4).heap[k]? = w.heap[k]? := by
  rw [Below.heap_setCell _ _ _ _ h, Below.heap_setCell _ _ _ _ h, Below.heap_setCell _ _ _ _ h, Below.heap_setCell _ _ _ _ h, Below.heap_setCell _ _ _ _ h]
theorem set5C_below {W w : World} {n q : Nat} (hb : Below n W w) (hq : n ≤ q) (u0 u1 u2 u3 u4 : Value) : Below n W (set5C w q u0 u1 u2 u3 u4) := ((((hb.setCell (p := ⟨q, 0, none⟩) hq _).setCell (p := ⟨q, 1, none⟩) hq _).setCell (p := ⟨q, 2, none⟩) hq _).setCell (p := ⟨q, 3, none⟩) hq _).setCell (p := ⟨q, 4, none⟩) hq _
theorem cel_cells {w : World} {q : Nat} {u0 u1 u2 u3 u4 : Value} {T : TypeId} (h : w.heap[q]? = some (.cells #[u0, u1, u2, u3, u4] T)) : (w.cell? ⟨q, 0, none⟩ = some u0 ∧ w.cell? ⟨q, 1, none⟩ = some u1 ∧ w.cell? ⟨q, 2, none⟩ = some u2 ∧ w.cell? ⟨q, 3, none⟩ = some u3 ∧ w.cell? ⟨q, 4, none⟩ = some u4) ∧ (w.frozen? ⟨q, 0, none⟩ = false ∧ w.frozen? ⟨q, 1, none⟩ = false ∧ w.frozen? ⟨q, 2, none⟩ = false ∧ w.frozen? ⟨q, 3, none⟩ = false ∧ w.frozen? ⟨q, 4, none⟩ = false) ∧ q < w.heap.size := by
  refine ⟨⟨?_, ?_, ?_, ?_, ?_⟩, ⟨?_, ?_, ?_, ?_, ?_⟩, lt_of_block h⟩ <;> simp [World.cell?, World.frozen?, h]
section
variable {w : World} {B hb ab tb : Nat} {m : Int} {av : Value} {l : List Int} {tv : Value} {tq : Nat} {ns : List ByteArray} {trv ptv : Value} {n : Int}
set_option maxHeartbeats 4000000 in
theorem ctold_any (h : Hp w B hb ab tb m av l tv tq ns trv ptv n) (x : Int) (hx : Tw l ns x) :
    Calls Tryz.prog 72 #[.pointer (some ⟨hb, 0, none⟩), .int .u64 x] w fun e w' => (∃ ao c, e = .returned (.agg #[.int .i64 (tdK x), .int .i64 (tdA x), .string (tdS l ns x), .int .i64 (tdN x), .slice ao (tdL l x).length c]) ∧ w'.ownsRow w.heap.size 3 1 (.slice ao (tdL l x).length c) (tdL l x).length ((tdL l x).map (Value.int .i64))) ∧ Below w.heap.size w w' := by
  have hb0 := below_alloc w cel0
  have hx0 := hid (heap_alloc_new w cel0)
  have HB0 := hid hb0
  have h1 := h.below hb0
  obtain ⟨⟨c0, c1, _⟩, c5⟩ := h1.cells
  have HH := hid h1
  have htg := hid (fun w => tag_any x w hx.r0 hx.r1)
  have hva := hid (fun w => value_any x w)
  have hx' := hid hx
  clear h h1 hb0
  rcases hx.tag with ht | ht | ht | ht
  · have eK := hid (show tdK x = 1 ∧ tdA x = valOf x ∧ tdS l ns x = ⟨#[]⟩ ∧ tdN x = 0 ∧ tdL l x = [] by simp [tdK, tdA, tdS, tdN, tdL, ht])
    rw [ht] at htg
    rw [eK.out.1, eK.out.2.1, eK.out.2.2.1, eK.out.2.2.2.1, eK.out.2.2.2.2]
    clear hx ht eK hx'
    generalize valOf x = y at *
    have hfin := hid (heap_alloc_new w (.cells #[.int .i64 1, .int .i64 y, .string ⟨#[]⟩, .int .i64 0, .slice none 0 0] 139))
    have hbf := hid (below_alloc w (.cells #[.int .i64 1, .int .i64 y, .string ⟨#[]⟩, .int .i64 0, .slice none 0 0] 139))
    go_enter Tryz.func72, Tryz.ntmps72
    go_wp2_with (first
      | (go_at_call 111; refine (hva.out _).mono ?_; rintro e w2 ⟨rfl, hw⟩; replace hw := hw.symm; subst hw)
      | (go_at_call 98; refine (htg.out _).mono ?_; rintro e w2 ⟨rfl, hw⟩; replace hw := hw.symm; subst hw))
    exact bodyPost_ret (ret_cel Tryz.results72 (by rfl) hfin.out) rfl ⟨⟨none, 0, rfl, World.ownsRow_nil _ _ _ _⟩, hbf.out⟩
  · obtain ⟨ha0, ha1⟩ := hx.atom ht
    obtain ⟨y, hy⟩ : ∃ y : Nat, valOf x = (y : Int) := ⟨(valOf x).toNat, by omega⟩
    rw [hy, Int.toNat_natCast] at ha1
    have eK := hid (show tdK x = 2 ∧ tdA x = -1 ∧ tdS l ns x = ns.getD y ⟨#[]⟩ ∧ tdN x = 0 ∧ tdL l x = [] by simp [tdK, tdA, tdS, tdN, tdL, ht, hy])
    rw [ht] at htg
    rw [hy] at hva
    have htx := hid (text_any HH.out.tb y ha1)
    rw [eK.out.1, eK.out.2.1, eK.out.2.2.1, eK.out.2.2.2.1, eK.out.2.2.2.2]
    generalize ns.getD y ⟨#[]⟩ = s at *
    clear hx ht eK hx' hy ha0
    go_enter Tryz.func72, Tryz.ntmps72
    go_wp2_with (first
      | (go_at_call 111; refine (hva.out _).mono ?_; rintro e w2 ⟨rfl, hw⟩; replace hw := hw.symm; subst hw)
      | (go_at_call 98; refine (htg.out _).mono ?_; rintro e w2 ⟨rfl, hw⟩; replace hw := hw.symm; subst hw)
      | (go_at_call 112; refine htx.out.mono ?_; rintro e w3 ⟨rfl, hb3⟩; have HB3 := hid (Below.next HB0.out hb3); have hx3 := hid ((hb3.block _ (lt_of_block hx0.out)).trans hx0.out); obtain ⟨⟨k0, k1, k2, k3, k4⟩, ⟨k5, k6, k7, k8, k9⟩, k10⟩ := cel_cells hx3.out; clear hb3))
    have hfin := set5C_at hx3.out (.int .i64 2) (.int .i64 (-1)) (.string s) (.int .i64 0) (.slice none 0 0)
    have hbf := set5C_below HB3.out (Nat.le_refl _) (.int .i64 2) (.int .i64 (-1)) (.string s) (.int .i64 0) (.slice none 0 0)
    exact bodyPost_ret (ret_cel Tryz.results72 (by rfl) hfin) rfl ⟨⟨none, 0, rfl, World.ownsRow_nil _ _ _ _⟩, hbf⟩
  · have eK := hid (show tdK x = 3 ∧ tdA x = -1 ∧ tdS l ns x = ⟨#[]⟩ ∧ tdN x = valOf x ∧ tdL l x = [] by simp [tdK, tdA, tdS, tdN, tdL, ht])
    rw [ht] at htg
    rw [eK.out.1, eK.out.2.1, eK.out.2.2.1, eK.out.2.2.2.1, eK.out.2.2.2.2]
    clear hx ht eK hx'
    generalize valOf x = y at *
    have hfin := hid (heap_alloc_new w (.cells #[.int .i64 3, .int .i64 (-1), .string ⟨#[]⟩, .int .i64 y, .slice none 0 0] 139))
    have hbf := hid (below_alloc w (.cells #[.int .i64 3, .int .i64 (-1), .string ⟨#[]⟩, .int .i64 y, .slice none 0 0] 139))
    go_enter Tryz.func72, Tryz.ntmps72
    go_wp2_with (first
      | (go_at_call 111; refine (hva.out _).mono ?_; rintro e w2 ⟨rfl, hw⟩; replace hw := hw.symm; subst hw)
      | (go_at_call 98; refine (htg.out _).mono ?_; rintro e w2 ⟨rfl, hw⟩; replace hw := hw.symm; subst hw))
    exact bodyPost_ret (ret_cel Tryz.results72 (by rfl) hfin.out) rfl ⟨⟨none, 0, rfl, World.ownsRow_nil _ _ _ _⟩, hbf.out⟩
  · obtain ⟨hs0, hs1, hs2, hs3, hs4⟩ := hx.str ht
    obtain ⟨y, hy⟩ : ∃ y : Nat, valOf x = (y : Int) := ⟨(valOf x).toNat, by omega⟩
    rw [hy, Int.toNat_natCast] at hs1 hs2 hs3 hs4
    have hl6 : l.length ≤ 65536 := by
      have h1 := HH.out.ar.len
      have h2 := HH.out.ar.m2
      omega
    have eK := hid (show tdK x = 4 ∧ tdA x = (y : Int) ∧ tdS l ns x = ns.getD (valOf (wdN l y) / 16).toNat ⟨#[]⟩ ∧ tdN x = 0 ∧ tdL l x = rchL y (wdN l y) by simp [tdK, tdA, tdS, tdN, tdL, ht, hy])
    rw [ht] at htg
    rw [hy] at hva
    have hwd := hid (bword_ok HH.out.ar y hs1)
    have hrz := HH.out.ar.rng (l.getD y 0) (by simp [List.getD, hs1])
    have hfv := fun_val (wdN l y) hs3 hs2
    rw [eK.out.1, eK.out.2.1, eK.out.2.2.1, eK.out.2.2.2.1, eK.out.2.2.2.2]
    have ew : wdN l y = l.getD y 0 := rfl
    have ht4 : wdN l y % 8 = 4 := hs2
    rw [← ew] at hwd hrz
    have hhd := hid (fun w => head_yes (wdN l y) w hrz.1 hrz.2 hs3 ht4)
    have hrc := hid (fun w => reached_any w y (by omega) (wdN l y) hrz.1 hrz.2 hs3)
    clear ew
    generalize wdN l y = z at *
    obtain ⟨f, hf⟩ : ∃ f : Nat, valOf z / 16 = (f : Int) := ⟨(valOf z / 16).toNat, by omega⟩
    rw [hf, Int.toNat_natCast] at hs4
    rw [hf] at hhd
    rw [hf, Int.toNat_natCast]
    have htx := hid (fun w1 (hb1 : Below (w.alloc cel0).heap.size (w.alloc cel0) w1) => text_any (HH.out.below hb1).tb f hs4)
    generalize ns.getD f ⟨#[]⟩ = s at *
    generalize valOf z % 16 = ar at *
    generalize hRL : rchL y z = RL at *
    clear hRL
    clear hx ht eK hx' hy hs0 hs1 hs2 hs3 hs4 hfv hf ht4 hrz hl6
    go_enter Tryz.func72, Tryz.ntmps72
    go_wp2_with (first
      | (go_at_call 111; refine (hva.out _).mono ?_; rintro e w2 ⟨rfl, hw⟩; replace hw := hw.symm; subst hw)
      | (go_at_call 98; refine (htg.out _).mono ?_; rintro e w2 ⟨rfl, hw⟩; replace hw := hw.symm; subst hw)
      | (go_at_call 66; refine hwd.out.mono ?_; rintro e w3 ⟨rfl, hb3⟩; have Hb3 := hid hb3; obtain ⟨⟨d0, d1, _⟩, d5⟩ := (HH.out.below hb3).cells; clear hb3)
      | (go_at_call 100; refine (hhd.out _).mono ?_; rintro e w2 ⟨rfl, hw⟩; replace hw := hw.symm; subst hw)
      | (go_at_call 112; refine (htx.out _ Hb3.out).mono ?_; rintro e w4 ⟨rfl, hb4⟩; have Hb4 := hid (Below.next Hb3.out hb4); clear hb4)
      | (go_at_call 65; refine (hrc.out _).mono ?_; rintro e w5 ⟨⟨ao, c, rfl, ho⟩, hb5⟩; have HB5 := hid (Below.next Hb4.out hb5); have Ho := hid ho; have hz4 := hid Hb4.out.size; have hx5 := hid ((HB5.out.block _ (lt_of_block hx0.out)).trans hx0.out); obtain ⟨⟨k0, k1, k2, k3, k4⟩, ⟨k5, k6, k7, k8, k9⟩, k10⟩ := cel_cells hx5.out; clear hb5 ho))
    have hfin := set5C_at hx5.out (.int .i64 4) (.int .i64 (y : Int)) (.string s) (.int .i64 0) (.slice ao RL.length c)
    have hbf := set5C_below (Below.next HB0.out HB5.out) (Nat.le_refl _) (.int .i64 4) (.int .i64 (y : Int)) (.string s) (.int .i64 0) (.slice ao RL.length c)
    have hz5 := hz4.out
    simp at hz5
    have hro := own_base (B' := w.heap.size) (row_keep Ho.out (fun k hk => set5C_far w5 (q := w.heap.size) (.int .i64 4) (.int .i64 (y : Int)) (.string s) (.int .i64 0) (.slice ao RL.length c) (by have := (Ho.out.lt k hk).1; omega))) (by omega)
    exact bodyPost_ret (ret_cel Tryz.results72 (by rfl) hfin) rfl ⟨⟨ao, c, rfl, hro⟩, hbf⟩
end
end Go.Proofs.YtlibjdilicfcdaaGreatDoor

namespace Go.Proofs.YtlibjdilicfcdaaGreatDoor
set_option maxRecDepth 100000
open Go.RowKit
structure NsB (l : List Int) (N : Nat) : Prop where
  atom : ∀ k, k < l.length → tgN l k = 1 → vlN l k < N
  func : ∀ k, k < l.length → tgN l k = 4 → (valOf (wdN l k) / 16).toNat < N
theorem trm_ends {l : List Int} {V : Nat → Bool} (h : Snd l V) : ∀ (r k : Nat), k < l.length → rkN l V k ≤ r → ∃ j, j < l.length ∧ nxN l j = none ∧ trmW l k = endW l j
  | r, k, hk, hr => by
    cases e : nxN l k with
    | none => exact ⟨k, hk, e, trm_end e⟩
    | some i =>
      obtain ⟨h1, h2⟩ := nx_rk h hk e
      rw [trm_next h hk e]
      match r, hr with
      | 0, hr => omega
      | r + 1, hr => exact trm_ends h r i h1 (by omega)
theorem word_str {j : Nat} (h : j < 65536) : wordOf 3 (j : Int) % 8 = 3 ∧ valOf (wordOf 3 (j : Int)) = (j : Int) ∧ 0 ≤ wordOf 3 (j : Int) ∧ wordOf 3 (j : Int) ≤ 18446744073709551615 := by
  unfold wordOf valOf wrap64
  omega
theorem trm_tw {l : List Int} {V : Nat → Bool} {ns : List ByteArray} (h : Snd l V) (hn : NsB l ns.length) (hl : l.length ≤ 65536) {k : Nat} (hk : k < l.length) : Tw l ns (trmW l k) := by
  obtain ⟨j, hj, e, e2⟩ := trm_ends h _ k hk (Nat.le_refl _)
  rw [e2]
  have hg := h.good j hj
  have hr := h.rng (wdN l j) (by unfold wdN; simp [List.getD, hj])
  unfold endW
  by_cases h4 : tgN l j = 4
  · rw [if_pos h4]
    obtain ⟨s1, s2, s3, s4⟩ := word_str (j := j) (by omega)
    refine ⟨s3, s4, by omega, fun e => by omega, fun _ => ?_⟩
    rw [s2, Int.toNat_natCast]
    exact ⟨by omega, hj, h4, hg, hn.func j hj h4⟩
  · rw [if_neg h4]
    have htc := tag_cases hg
    have hne : ¬ (tgN l j = 3 ∨ tgN l j = 5) := fun h3 => by
      unfold nxN at e
      rw [if_neg (by omega), if_pos h3] at e
      cases e
    have ht : wdN l j % 8 = tgN l j := rfl
    refine ⟨hr.1, hr.2, by omega, fun h1 => ?_, fun h3 => absurd (Or.inl (ht ▸ h3)) hne⟩
    have hf : fitsB (wdN l j % 8) (valOf (wdN l j)) = true := hg
    rw [h1] at hf
    have : 0 ≤ valOf (wdN l j) := by
      simp [fitsB] at hf
      omega
    exact ⟨this, hn.atom j hj (ht ▸ h1)⟩
theorem ri_lit1 {w : World} {b : Nat} {x : Int} (h : w.heap[b]? = some (.cells #[.int .i64 x] 3)) : Ri w (.slice (some ⟨b, 0, none⟩) 1 1) [x] := by
  refine ⟨some ⟨b, 0, none⟩, 1, rfl, fun j hj => ?_⟩
  have e : j = 0 := by simpa using hj
  subst e
  exact ⟨b, 0, rfl, by simp [World.cell?, h]⟩
theorem ret_celE {w : World} {fn : Func} {t s : Tmp} (hfn : fn.results = #[.cell t 139, .tmp s]) {tmps : Array Value} {q : Nat} {u0 u1 u2 u3 u4 v1 : Value} (h4 : tmps[t]?.getD undef = .pointer (some ⟨q, 0, none⟩)) (h5 : tmps[s]?.getD undef = v1) (hq : w.heap[q]? = some (.cells #[u0, u1, u2, u3, u4] 139)) : (results fn tmps).run Tryz.prog w = .ok (.tuple #[.agg #[u0, u1, u2, u3, u4], v1]) w := by
  obtain ⟨⟨z0, z1, z2, z3, z4⟩, _⟩ := cel_cells hq
  simp [results, hfn, go_sem, h4, h5, z0, z1, z2, z3, z4]
section
variable {w : World} {B hb ab tb : Nat} {m : Int} {av : Value} {l : List Int} {tv : Value} {tq : Nat} {ns : List ByteArray} {trv ptv : Value} {n : Int} {V : Nat → Bool}
set_option maxHeartbeats 4000000 in
theorem look_ok (h : Hp w B hb ab tb m av l tv tq ns trv ptv n) (hs : Snd l V) (hn : NsB l ns.length) (k : Nat) (hc : cellB l (k : Int) = true) (hk : k < l.length) :
    Calls Tryz.prog 139 #[.pointer (some ⟨hb, 0, none⟩), .int .i64 (k : Int)] w fun e w' => (∃ ao c, e = .returned (.tuple #[.agg #[.int .i64 (tdK (trmW l k)), .int .i64 (tdA (trmW l k)), .string (tdS l ns (trmW l k)), .int .i64 (tdN (trmW l k)), .slice ao (tdL l (trmW l k)).length c], .nilIface]) ∧ w'.ownsRow w.heap.size 3 1 (.slice ao (tdL l (trmW l k)).length c) (tdL l (trmW l k)).length ((tdL l (trmW l k)).map (Value.int .i64))) ∧ Below w.heap.size w w' := by
  have hl6 : l.length ≤ 65536 := by
    have h1 := h.ar.len
    have h2 := h.ar.m2
    omega
  have hb0 := below_alloc w cel0
  have hx0 := hid (heap_alloc_new w cel0)
  have hb1 := hb0.alloc (by simp) (.cells #[.int .i64 (k : Int)] 3)
  have hri : Ri ((w.alloc cel0).alloc (.cells #[.int .i64 (k : Int)] 3)) (.slice (some ⟨w.heap.size + 1, 0, none⟩) 1 1) [(k : Int)] := ri_lit1 (by
    have h9 := heap_alloc_new (w.alloc cel0) (.cells #[.int .i64 (k : Int)] 3)
    rw [show (w.alloc cel0).heap.size = w.heap.size + 1 by simp] at h9
    exact h9)
  have hck := hid (checkedC_any (h.below hb1).ar hri (by simp))
  have hbf : badF l [(k : Int)] = [] := by
    unfold badF badC
    rw [if_neg (by rw [ixOf_miss 0 (fun x => !cellB l x) [(k : Int)] (fun j hj => by
      have e : j = 0 := by simpa using hj
      subst e
      simp [hc])]; omega)]
  rw [hbf] at hck
  have Hb1 := hid hb1
  obtain ⟨⟨c0, c1, _⟩, c5⟩ := (h.below hb0).cells
  have htr := hid (fun w1 (hbb : Below w.heap.size w w1) => term_any (h.below hbb).ar hs k hk)
  have htd := hid (fun w1 (hbb : Below w.heap.size w w1) => ctold_any (h.below hbb) (trmW l k) (trm_tw hs hn hl6 hk))
  have HH := hid h
  generalize tdK (trmW l k) = tK at *
  generalize tdA (trmW l k) = tA at *
  generalize tdS l ns (trmW l k) = tS at *
  generalize tdN (trmW l k) = tN at *
  generalize tdL l (trmW l k) = tL at *
  generalize trmW l k = X at *
  clear h hs hn hc hk hb0 hb1 hri hbf
  go_enter Tryz.func139, Tryz.ntmps139
  go_wp2_with (first
    | (go_at_call 28; refine (self_some _ _).mono ?_; rintro e w2 ⟨rfl, hw⟩; replace hw := hw.symm; subst hw)
    | (go_at_call 29; refine hck.out.mono ?_; rintro e w3 ⟨⟨ev, rfl, hev⟩, hb3⟩; have hev1 : ev = .nilIface := hev; subst hev1; have Hb3 := hid (Below.next Hb1.out hb3); have HX3 := hid ((hb3.block _ (by simp; omega)).trans ((Below.heap_alloc (w.alloc cel0) _ _ (by simp)).trans hx0.out)); obtain ⟨⟨d0, d1, _⟩, d5⟩ := (HH.out.below Hb3.out).cells; clear hev hb3)
    | (go_at_call 110; refine (htr.out _ Hb3.out).mono ?_; rintro e w4 ⟨rfl, hb4⟩; have Hb4 := hid (Below.next Hb3.out hb4); have HX4 := hid ((hb4.block _ (lt_of_block HX3.out)).trans HX3.out); clear hb4)
    | (go_at_call 72; refine (htd.out _ Hb4.out).mono ?_; rintro e w5 ⟨⟨ao, c, rfl, ho⟩, hb5⟩; have Ho := hid ho; have Hb5 := hid (Below.next Hb4.out hb5); have HX5 := hid ((hb5.block _ (lt_of_block HX4.out)).trans HX4.out); have Hz4 := hid (lt_of_block HX4.out); obtain ⟨⟨k0, k1, k2, k3, k4⟩, ⟨k5, k6, k7, k8, k9⟩, k10⟩ := cel_cells HX5.out; clear ho hb5))
  have hfin := set5C_at HX5.out (.int .i64 tK) (.int .i64 tA) (.string tS) (.int .i64 tN) (.slice ao tL.length c)
  have hbf := set5C_below Hb5.out (Nat.le_refl _) (.int .i64 tK) (.int .i64 tA) (.string tS) (.int .i64 tN) (.slice ao tL.length c)
  have hz4 := Hz4.out
  have hro := own_base (B' := w.heap.size) (row_keep Ho.out (fun k hk => set5C_far w5 (q := w.heap.size) (.int .i64 tK) (.int .i64 tA) (.string tS) (.int .i64 tN) (.slice ao tL.length c) (by have := (Ho.out.lt k hk).1; omega))) (by omega)
  exact bodyPost_ret (ret_celE Tryz.results139 (by rfl) (by rfl) hfin) rfl ⟨⟨ao, c, rfl, hro⟩, hbf⟩
end
end Go.Proofs.YtlibjdilicfcdaaGreatDoor

namespace Go.Proofs.YtlibjdilicfcdaaGreatDoor
set_option maxRecDepth 100000
open Go.RowKit
set_option maxHeartbeats 2000000 in
theorem hnew_ok (m : Int) (w : World) (B : Nat) (hB : B ≤ w.heap.size) (h1 : 1 ≤ m) (h2 : m ≤ 65536) :
    Calls Tryz.prog 26 #[.int .i64 m] w fun e w' => (∃ hb ab tb tq, e = .returned (.tuple #[.pointer (some ⟨hb, 0, none⟩), .nilIface]) ∧ Hp w' B hb ab tb m (.slice none 0 0) [] (.slice none 0 0) tq [] (.slice none 0 0) (.slice none 0 0) 0 ∧ w.heap.size ≤ hb ∧ w.heap.size ≤ ab ∧ w.heap.size ≤ tb ∧ w.heap.size ≤ tq) ∧ Below w.heap.size w w' := by
  have hnw := hid (new_ok m w B hB h1 h2)
  go_enter Tryz.func26, Tryz.ntmps26
  go_wp2_with (first
    | (go_at_call 53; refine hnw.out.mono ?_; rintro e w1 ⟨rfl, hA1, hb1⟩; have HA1 := hid hA1; have Hb1 := hid hb1; clear hA1 hb1)
    | (go_at_call 55; refine (new_any w1 B (Nat.le_trans hB Hb1.out.size)).mono ?_; rintro e w2 ⟨rfl, hT2, hb2⟩; have HT2 := hid hT2; have Hb2 := hid hb2; clear hT2 hb2))
  go_ret2
  have hz1 := Hb1.out.size
  have hz2 := Hb2.out.size
  have hb3 := below_alloc w2 (.cells #[.pointer (some ⟨w.heap.size, 0, none⟩), .pointer (some ⟨w1.heap.size + 1, 0, none⟩), .slice none 0 0, .slice none 0 0, .int .i64 0] 80)
  refine ⟨⟨w2.heap.size, w.heap.size, w1.heap.size + 1, w1.heap.size, rfl, ⟨heap_alloc_new w2 _, by omega, (HA1.out.below Hb2.out).below hb3, HT2.out.below hb3⟩, by omega, Nat.le_refl _, by omega, by omega⟩, Below.next (Below.next Hb1.out Hb2.out) hb3⟩
end Go.Proofs.YtlibjdilicfcdaaGreatDoor

namespace Go.Proofs.YtlibjdilicfcdaaGreatDoor
set_option maxRecDepth 100000
open Go.RowKit
section
variable {w : World} {B p q : Nat} {v : Value} {ns : List ByteArray}
set_option maxHeartbeats 800000 in
theorem number_tab (h : Tb w B p v q ns) (s : ByteArray) (hs : s.size ≤ 281474976710656) :
    Calls Tryz.prog 128 #[.agg #[.pointer (some ⟨p, 0, none⟩)], .string s] w fun e w' => e = .returned (.int .i64 (num ns s : Int)) ∧ Below w.heap.size w w' := by
  have hb := hid (below_alloc w (.cells #[.pointer (some ⟨p, 0, none⟩)] 76))
  have hf := hid (find_any (h.below hb.out) s hs)
  generalize num ns s = k at *
  clear h
  go_enter Tryz.func128, Tryz.ntmps128
  go_wp2_with (go_at_call 89; refine hf.out.mono ?_; rintro e w1 ⟨rfl, hw⟩; replace hw := hw.symm; subst hw)
  go_ret
  exact ⟨rfl, hb.out⟩
end
def szN (nd : Nd) : Nat := if nd.kind = 1 then 1 else if nd.kind = 4 then 1 + nd.args.length else 0
set_option maxHeartbeats 800000 in
theorem size_any (w : World) (nd : Nd) (ao : Option Addr) (c : Nat) (hl : nd.args.length ≤ 5000) :
    Calls Tryz.prog 92 #[.agg #[.int .i64 nd.kind, .string nd.name, .int .i64 nd.num, .slice ao nd.args.length c]] w fun e w' => e = .returned (.int .i64 (szN nd : Int)) ∧ Below w.heap.size w w' := by
  obtain ⟨kd, nm, nu, args⟩ := nd
  dsimp only at hl ⊢
  have hR : Hid (szN ⟨kd, nm, nu, args⟩ = if kd = 1 then 1 else if kd = 4 then 1 + args.length else 0) := rfl
  generalize szN ⟨kd, nm, nu, args⟩ = R at *
  by_cases h1 : kd = 1
  · have hR1 : Hid (R = 1) := show _ = _ by rw [hR.out, if_pos h1]
    subst h1
    clear hR
    go_enter Tryz.func92, Tryz.ntmps92
    go_wp2
    go_ret
    exact ⟨ret_int (by rw [hR1.out]; rfl), below_alloc _ _⟩
  · by_cases h4 : kd = 4
    · have hR1 : Hid (R = 1 + args.length) := show _ = _ by rw [hR.out, if_neg h1, if_pos h4]
      subst h4
      clear hR h1
      go_enter Tryz.func92, Tryz.ntmps92
      go_wp2
      go_ret
      exact ⟨ret_int (by rw [hR1.out]; omega), below_alloc _ _⟩
    · have hR1 : Hid (R = 0) := show _ = _ by rw [hR.out, if_neg h1, if_neg h4]
      have d1 : (kd == 1) = false := by simpa using h1
      have d4 : (kd == 4) = false := by simpa using h4
      clear hR h1 h4
      go_enter Tryz.func92, Tryz.ntmps92
      go_wp2
      go_ret
      exact ⟨ret_int (by rw [hR1.out]; rfl), below_alloc _ _⟩
end Go.Proofs.YtlibjdilicfcdaaGreatDoor

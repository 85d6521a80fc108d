/- Memory of an arena: what may change ('Mod'), an arena that lies at a block ('Ar'), a row of words that can be read ('Rd'), an error that is just a fault ('Err'). -/
import Derived.Laws.CopyOwn
import Derived.Laws.AppendOwnNone
import Derived.Maps.AppendAt
import Derived.Deep.AppendLies
import Derived.OneCell
import Derived.Shelf.SlMaps.Clone
import Derived.Deep.RegionHeld3
import Derived.Deep.DrawnRows
import Derived.Test.YtlibjdilicfcdaaGreatDoornb07Z
namespace Go.Proofs.YtlibjdilicfcdaaGreatDoor
set_option maxRecDepth 100000
open Go.RowKit
structure a_Mod (ks : List Nat) (w w' : World) : Prop where
  os : w'.os = w.os
  tape : w'.tape = w.tape
  output : w'.output = w.output
  size : w.heap.size ≤ w'.heap.size
  block : ∀ k, k < w.heap.size → k ∉ ks → w'.heap[k]? = w.heap[k]?
theorem a_Mod.refl (ks : List Nat) (w : World) : a_Mod ks w w := ⟨rfl, rfl, rfl, Nat.le_refl _, fun _ _ _ => rfl⟩
theorem a_Mod.trans {ks ks' : List Nat} {a b c : World} (h : a_Mod ks a b) (k : a_Mod ks' b c) (hs : ∀ x ∈ ks', x ∈ ks ∨ a.heap.size ≤ x) : a_Mod ks a c :=
  ⟨k.os.trans h.os, k.tape.trans h.tape, k.output.trans h.output, Nat.le_trans h.size k.size, fun i hi hn =>
    (k.block i (Nat.lt_of_lt_of_le hi h.size) (fun hx => by rcases hs i hx with h1 | h1; exact hn h1; omega)).trans (h.block i hi hn)⟩
theorem a_Mod.below {ks : List Nat} {w w' : World} {B : Nat} (h : a_Mod ks w w') (hk : ∀ k ∈ ks, B ≤ k) (hB : B ≤ w.heap.size) : Below B w w' :=
  ⟨h.os, h.tape, h.output, h.size, fun k hkB => h.block k (by omega) (fun hx => by have := hk k hx; omega)⟩
theorem a_Mod.ofBelow {ks : List Nat} {w w' : World} (h : Below w.heap.size w w') : a_Mod ks w w' :=
  ⟨h.os, h.tape, h.output, h.size, fun k hk _ => h.block k hk⟩
theorem a_Mod.grown {ks : List Nat} {a w w' : World} {row : Option Nat} (h : a_Mod ks a w) (hg : w.grownBy w' row) (hr : ∀ k, row = some k → k ∈ ks ∨ a.heap.size ≤ k) : a_Mod ks a w' :=
  ⟨hg.os.trans h.os, hg.tape.trans h.tape, hg.output.trans h.output, Nat.le_trans h.size hg.size, fun k hk hn =>
    (hg.block k (Nat.lt_of_lt_of_le hk h.size) (fun e => by rcases hr k e.symm with h1 | h1; exact hn h1; omega)).trans (h.block k hk hn)⟩
theorem a_Mod.alloc {ks : List Nat} {a w : World} (h : a_Mod ks a w) (o : Obj) : a_Mod ks a (w.alloc o) :=
  h.grown (World.grownBy_alloc w o none) (fun _ e => by cases e)
theorem a_Mod.setCell {ks : List Nat} {a w : World} (h : a_Mod ks a w) {p : Addr} (hp : p.block ∈ ks ∨ a.heap.size ≤ p.block) (u : Value) : a_Mod ks a (w.setCell p u) :=
  ⟨h.os, h.tape, h.output, by simpa using h.size, fun k hk hn =>
    (Below.heap_setCell w p u k (fun e => by subst e; rcases hp with h1 | h1; exact hn h1; omega)).trans (h.block k hk hn)⟩
theorem a_Mod.ofMem {ks : List Nat} {w w' : World} (h : a_Mod ks w w') (ks' : List Nat) (hs : ∀ x ∈ ks, x ∈ ks' ∨ w.heap.size ≤ x) : a_Mod ks' w w' := (a_Mod.refl ks' w).trans h hs
structure Ar (T : TypeId) (w : World) (B p : Nat) (m : Int) (v : Value) (l : List Int) : Prop where
  ty : T ≠ 123
  blk : w.heap[p]? = some (.cells #[.int .i64 m, v] T (0, 0))
  base : B ≤ p
  own : w.ownsRow B 123 1 v l.length (l.map (Value.int .u64))
  m1 : 1 ≤ m
  m2 : m ≤ 65536
  len : (l.length : Int) ≤ m
  rng : ∀ x ∈ l, 0 ≤ x ∧ x ≤ 18446744073709551615
section
variable {T : TypeId} {w : World} {B p : Nat} {m : Int} {v : Value} {l : List Int}
theorem Ar.lt (h : Ar T w B p m v l) : p < w.heap.size := lt_of_block h.blk
theorem Ar.c0 (h : Ar T w B p m v l) : w.cell? ⟨p, 0, none⟩ = some (.int .i64 m) := by simp [World.cell?, h.blk]
theorem Ar.c1 (h : Ar T w B p m v l) : w.cell? ⟨p, 1, none⟩ = some v := by simp [World.cell?, h.blk]
theorem Ar.f1 (h : Ar T w B p m v l) : w.frozen? ⟨p, 1, none⟩ = false := by simp [World.frozen?, h.blk]
theorem Ar.val (h : Ar T w B p m v l) : ∃ ao cap, v = .slice ao l.length cap ∧ l.length ≤ cap ∧ (ao = none → l = [] ∧ cap = 0) := by
  rcases h.own.2 with ⟨rfl, hn⟩ | ⟨g, cap, cur, rfl, _, _, hc, _⟩
  · exact ⟨none, 0, by rw [hn], by omega, fun _ => ⟨List.eq_nil_of_length_eq_zero hn, rfl⟩⟩
  · exact ⟨_, cap, rfl, hc, fun e => by cases e⟩
theorem Ar.row (h : Ar T w B p m v l) {k : Nat} (hk : v.ownBlock = some k) : B ≤ k ∧ k < w.heap.size ∧ k ≠ p := by
  obtain ⟨h1, h2⟩ := h.own.lt k hk
  refine ⟨h1, h2, fun e => ?_⟩
  subst e
  have hb := h.blk
  rcases h.own.2 with ⟨rfl, hn⟩ | ⟨g, cap, cur, rfl, _, hg, _⟩
  · simp [Value.ownBlock] at hk
  · simp [Value.ownBlock] at hk
    subst hk
    rw [hg] at hb
    simp at hb
    exact h.ty hb.2.symm
end
def a_foot (p : Nat) (v : Value) : List Nat := p :: v.ownBlock.toList
theorem a_mem_foot {p k : Nat} {v : Value} : k ∈ a_foot p v ↔ k = p ∨ v.ownBlock = some k := by simp [a_foot]
theorem Ar.keep {T : TypeId} {w w' : World} {B p : Nat} {m : Int} {v : Value} {l : List Int} {ks : List Nat} (h : Ar T w B p m v l) (hm : a_Mod ks w w') (hk : ∀ k ∈ ks, k ∉ a_foot p v) : Ar T w' B p m v l := by
  refine ⟨h.ty, ?_, h.base, ?_, h.m1, h.m2, h.len, h.rng⟩
  · rw [hm.block p h.lt (fun hx => hk p hx (a_mem_foot.2 (Or.inl rfl)))]; exact h.blk
  · refine ⟨h.own.1, ?_⟩
    rcases h.own.2 with h0 | ⟨g, cap, cur, rfl, hb, hg, rest⟩
    · exact Or.inl h0
    · refine Or.inr ⟨g, cap, cur, rfl, hb, ?_, rest⟩
      rw [hm.block g (lt_of_block hg) (fun hx => hk g hx (a_mem_foot.2 (Or.inr rfl)))]; exact hg
theorem Ar.below {T : TypeId} {w w' : World} {B p : Nat} {m : Int} {v : Value} {l : List Int} (h : Ar T w B p m v l) (hm : Below w.heap.size w w') : Ar T w' B p m v l :=
  h.keep (ks := []) (a_Mod.ofBelow hm) (fun _ hx => by cases hx)
def a_Nx (w : World) (v v' : Value) : Prop := ∀ k, v'.ownBlock = some k → v.ownBlock = some k ∨ w.heap.size ≤ k
theorem a_Nx.refl (w : World) (v : Value) : a_Nx w v v := fun _ h => Or.inl h
theorem a_Nx.trans {w w1 : World} {v v1 v2 : Value} (h : a_Nx w v v1) (h1 : a_Nx w1 v1 v2) (hs : w.heap.size ≤ w1.heap.size) : a_Nx w v v2 := fun k hk => by
  rcases h1 k hk with h2 | h2
  · exact h k h2
  · exact Or.inr (by omega)
structure a_Upd (T : TypeId) (w w' : World) (B p : Nat) (m : Int) (v : Value) (l' : List Int) (v' : Value) : Prop where
  ar : Ar T w' B p m v' l'
  mod : a_Mod (a_foot p v) w w'
  nx : a_Nx w v v'
theorem a_Upd.trans {T : TypeId} {w w1 w2 : World} {B p : Nat} {m : Int} {v v1 v2 : Value} {l1 l2 : List Int} (h : a_Upd T w w1 B p m v l1 v1) (k : a_Upd T w1 w2 B p m v1 l2 v2) : a_Upd T w w2 B p m v l2 v2 :=
  ⟨k.ar, h.mod.trans k.mod (fun x hx => by
    rcases a_mem_foot.1 hx with rfl | hx
    · exact Or.inl (a_mem_foot.2 (Or.inl rfl))
    · rcases h.nx x hx with h1 | h1
      · exact Or.inl (a_mem_foot.2 (Or.inr h1))
      · exact Or.inr h1), h.nx.trans k.nx h.mod.size⟩
theorem a_Upd.same {T : TypeId} {w w' : World} {B p : Nat} {m : Int} {v : Value} {l : List Int} (h : Ar T w B p m v l) (hb : Below w.heap.size w w') : a_Upd T w w' B p m v l v :=
  ⟨h.below hb, a_Mod.ofBelow hb, a_Nx.refl _ _⟩
theorem a_Upd.refl {T : TypeId} {w : World} {B p : Nat} {m : Int} {v : Value} {l : List Int} (h : Ar T w B p m v l) : a_Upd T w w B p m v l v := a_Upd.same h (Below.refl _ _)
def faultAtObj (c a : Int) : Obj := .cells #[.int .i64 c, .int .i64 a, .string ⟨#[]⟩, .nilIface] 88
theorem a_below_alloc (w : World) (o : Obj) : Below w.heap.size w (w.alloc o) := (Below.refl _ _).alloc (Nat.le_refl _) o
end Go.Proofs.YtlibjdilicfcdaaGreatDoor

namespace Go.Proofs.YtlibjdilicfcdaaGreatDoor
set_option maxRecDepth 100000
open Go.RowKit Go.Maps
def mcRen : Go.Shelf.Ren := ⟨fun n => if n = 5 then 122 else 148, fun n => if n = 23 then 160 else if n = 25 then 9 else n, fun n => n⟩
theorem mcLays : SlLaysW.n5 Tryz.prog mcRen :=
  ⟨(by kernel_rfl), ⟨Tryz.f122.name, (by kernel_rfl), (by kernel_rfl)⟩, (by kernel_rfl), (by kernel_rfl), (fun _ => by kernel_rfl), (fun _ => by kernel_rfl), (fun _ => by kernel_rfl), (by kernel_rfl), (fun _ => by kernel_rfl), (fun _ => by kernel_rfl),
    (fun _ => by kernel_rfl), (by kernel_rfl), (fun _ => by kernel_rfl), (fun _ => by kernel_rfl), (fun _ => by kernel_rfl)⟩
theorem mclone_any {w : World} {q n : Nat} {D : DataW Unit} (h : w.ownsMap Tryz.prog 9 (plainElem Tryz.prog 3) q n D) :
    Calls Tryz.prog 122 #[.map (some q)] w fun e w' => e = .returned (.map (some w.heap.size)) ∧ w'.ownsMap Tryz.prog 9 (plainElem Tryz.prog 3) w.heap.size n D ∧ Below w.heap.size w w' :=
  (AnyW.maps_Clone_owns mcLays 9 (plainElem Tryz.prog 3) q n D w h).mono fun _ _ ⟨h1, h2, _, h4⟩ => ⟨h1, h2, h4⟩
theorem strs_one (l : List ByteArray) : ∀ u ∈ l.map Value.string, u.oneCell' = true := fun u hu => by
  obtain ⟨s, _, rfl⟩ := List.mem_map.1 hu
  simp [Value.oneCell']
theorem slice_nil_in {P : Program} (w : World) (d : Nat) (t : TypeId) {e : TypeId} (h : P.underlying t = some (.slice e)) (ao : Option Addr) (n c : Nat) : (Op.equalIn (d + 1) t (.slice ao n c) (.slice none 0 0)).run P w = .ok ao.isNone w := by
  cases ao <;> simp [Op.equalIn, run_underlying h]
theorem slice_nil (w : World) (ao : Option Addr) (n c : Nat) : (binOp .eql 94 (.slice ao n c) (.slice none 0 0)).run Tryz.prog w = .ok (.bool ao.isNone) w := by
  simp only [binOp]
  simp [show Op.equal 94 (.slice ao n c) (.slice none 0 0) = Op.equalIn (9999 + 1) 94 (.slice ao n c) (.slice none 0 0) from rfl, slice_nil_in w 9999 94 Tryz.underlying94]
set_option maxHeartbeats 1000000 in
theorem slclone_any {w : World} {B : Nat} {v : Value} {l : List ByteArray} (h : w.ownsRow B 9 1 v l.length (l.map Value.string)) (hl : l.length ≤ 1024) :
    Calls Tryz.prog 121 #[v] w fun e w' => ∃ v', e = .returned v' ∧ w'.ownsRow w.heap.size 9 1 v' l.length (l.map Value.string) ∧ Below w.heap.size w w' := by
  obtain ⟨i0, hi, hz0, hz1, hz2⟩ := info_parts infoS
  have h0 := h
  rcases h.2 with ⟨rfl, hn⟩ | ⟨g, cap, cur, rfl, _⟩
  · have hl0 : l = [] := List.eq_nil_of_length_eq_zero hn
    subst hl0
    have hsn := fun w : World => slice_nil w none 0 0
    go_enter Tryz.func121, Tryz.ntmps121
    go_wp2
    go_ret
    exact ⟨_, rfl, World.ownsRow_nil _ _ _ _, Below.refl _ _⟩
  · have hnews : ∀ j u, (l.map Value.string)[j]? = some u → (w.alloc (.cells #[] 9)).cell? ((⟨g, 0, none⟩ : Addr).add j) = some u := fun j u hj => by
      exact ((h0.alloc (.cells #[] 9)).cells (g := g) rfl) j u hj
    have hown : (w.alloc (.cells #[] 9)).ownsRow w.heap.size 9 1 (.slice (some ⟨w.heap.size, 0, none⟩) 0 0) 0 [] := ⟨rfl, Or.inr ⟨w.heap.size, 0, #[], rfl, Nat.le_refl _, heap_alloc_new w _, Nat.le_refl _, Nat.zero_le _, rfl, rfl⟩⟩
    have hsn := fun w : World => slice_nil w (some ⟨g, 0, none⟩) l.length cap
    clear h h0
    go_enter Tryz.func121, Tryz.ntmps121
    go_wp2_with (at_builtin; refine wpList_append_own _ rfl _ _ 94 rfl w.heap.size 9 i0 (.string ⟨#[]⟩) 1 16 Tryz.underlying94 hi hz0 hz1 hz2 rfl (by decide) (.slice (some ⟨w.heap.size, 0, none⟩) 0 0) 0 [] rfl hown ⟨g, 0, none⟩ l.length cap (l.map Value.string) rfl (by simp) hnews (strs_one l) (by unfold maxLen; omega) (by omega) (by simp) ?_; intro v' w1 hown' hgrow _)
    go_ret
    refine ⟨v', rfl, by simpa using hown', ?_⟩
    exact (n_below_alloc w _).grown hgrow (by simp) (fun k e => by
      have e' : k = w.heap.size := by simpa [Value.ownBlock] using e.symm
      omega)
theorem map_below {w w' : World} {q n : Nat} {D : DataW Unit} (h : w.ownsMap Tryz.prog 9 (plainElem Tryz.prog 3) q n D) (hm : Below w.heap.size w w') : w'.ownsMap Tryz.prog 9 (plainElem Tryz.prog 3) q n D := map_keep (ks := []) h (n_Mod.ofBelow hm) (by simp)
theorem n_undr {w w' : World} (h : Below w.drew.heap.size w.drew w') : Below w.heap.size w w' := ⟨h.os, h.tape, h.output, h.size, h.block⟩
theorem copy_tb {w w3 : World} {B B1 B2 p q q' : Nat} {v v' : Value} {l : List ByteArray} {D : DataW Unit} (h : Tb w B p v q l) (ho : w3.ownsRow B1 9 1 v' l.length (l.map Value.string)) (hm : w3.ownsMap Tryz.prog 9 (plainElem Tryz.prog 3) q' l.length D) (hO : MapOf l D) (h1 : B2 ≤ B1) (h2 : B2 ≤ q') (h3 : B2 ≤ w3.heap.size) :
    Tb (w3.alloc (.cells #[v', .map (some q')] 162)) B2 w3.heap.size v' q' l :=
  ⟨heap_alloc_new w3 _, h3, n_own_base (n_own_below ho (n_below_alloc _ _)) h1, h2, ⟨D, hm.alloc _, hO⟩, h.len, h.good, h.nodup⟩
set_option maxHeartbeats 2000000 in
theorem copy_any {w : World} {B p q : Nat} {v : Value} {l : List ByteArray} (h : Tb w B p v q l) :
    Calls Tryz.prog 90 #[.pointer (some ⟨p, 0, none⟩)] w fun e w' => ∃ p' v' q', e = .returned (.pointer (some ⟨p', 0, none⟩)) ∧ Tb w' w.heap.size p' v' q' l ∧ Below w.heap.size w w' := by
  have c0 := h.c0
  have c1 := h.c1
  have hlen := h.len
  obtain ⟨D, hD, hO⟩ := h.map
  have hown := h.own
  obtain ⟨ao, c, rfl⟩ := own_shape hown
  have hp := h.lt
  have hb : Below w.heap.size w w := Below.refl _ _
  go_enter Tryz.func90, Tryz.ntmps90
  go_wp2
  go_region_held3 (fun w' => w'.cell? ⟨p, 0, none⟩ = some (.slice ao l.length c) ∧ w'.cell? ⟨p, 1, none⟩ = some (.map (some q))) (first | exact ⟨c0, c1⟩ | go_keep)
    (first
      | (go_at_call 121; refine Calls.mono (slclone_any (B := B) (by exact hown) hlen) ?_; rintro e w4 ⟨v', rfl, ho, hN⟩; (try replace hN := n_undr hN); replace c0 := (hN.cell (p := ⟨p, 0, none⟩) (Nat.lt_of_lt_of_le hp hb.size)).trans c0; replace c1 := (hN.cell (p := ⟨p, 1, none⟩) (Nat.lt_of_lt_of_le hp hb.size)).trans c1; have z4 := hb.size; replace hb := hb.trans (hN.mono z4); (try replace hD := map_below hD hN); (try replace hm := map_below hm hN); obtain ⟨ao', c', rfl⟩ := own_shape ho)
      | (go_at_call 122; refine Calls.mono (mclone_any (n := l.length) (D := D) (by exact hD)) ?_; rintro e w5 ⟨rfl, hm, hN⟩; (try replace hN := n_undr hN); replace c0 := (hN.cell (p := ⟨p, 0, none⟩) (Nat.lt_of_lt_of_le hp hb.size)).trans c0; replace c1 := (hN.cell (p := ⟨p, 1, none⟩) (Nat.lt_of_lt_of_le hp hb.size)).trans c1; have z5 := hb.size; replace hb := hb.trans (hN.mono z5); (try replace hown := n_own_below hown hN); (try replace ho := n_own_below ho hN)))
  all_goals go_wp2
  all_goals go_ret
  all_goals exact ⟨_, _, _, rfl, copy_tb h ho hm hO (by first | omega | (simp; done) | (simp; omega)) (by first | omega | (simp; done) | (simp; omega)) hb.size, hb.alloc hb.size _⟩
end Go.Proofs.YtlibjdilicfcdaaGreatDoor

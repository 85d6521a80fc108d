/- What Bind and Merge write keeps words sound. -/
import Derived.Shelf.Abstract
import Derived.OwnWalkIn
import Derived.TacticsInMore
import Derived.LoopNIn
import Derived.LoopIn
import Derived.Test.YtipacdagaalccaaGreatDoorSD30Z
import Derived.Test.YtipacdagaalccaaGreatDoorSD03Z
namespace Go.Proofs.YtipacdagaalccaaGreatDoor
set_option maxRecDepth 100000
open Go.RowKit
theorem trm_kinds {l : List Int} {V : Nat → Bool} {N : Nat} (h : Snd l V) (hn : NsB l N) (hl : l.length ≤ 65536) {k : Nat} (hk : k < l.length) : ((0 ≤ trmW l k ∧ trmW l k ≤ 18446744073709551615) ∧ goodB (trmW l k) = true) ∧
    ((trmW l k % 8 = 0 ∧ ∃ j : Nat, j < l.length ∧ valOf (trmW l k) = (j : Int) ∧ V j = true) ∨ (trmW l k % 8 = 3 ∧ ∃ j : Nat, j < l.length ∧ valOf (trmW l k) = (j : Int) ∧ tgN l j = 4) ∨ (trmW l k % 8 = 1 ∧ (valOf (trmW l k)).toNat < N) ∨ trmW l k % 8 = 2) := by
  obtain ⟨j, hj, e, e2⟩ := trm_ends h _ k hk (Nat.le_refl _)
  rw [e2]
  have hg := h.good j hj
  have hr := h.rng (wdN l j) (by unfold wdN; simp [List.getD, hj])
  unfold endW
  by_cases h4 : tgN l j = 4
  · rw [if_pos h4]
    obtain ⟨s1, s2, s3, s4⟩ := word_str (j := j) (by omega)
    refine ⟨⟨⟨s3, s4⟩, ?_⟩, Or.inr (Or.inl ⟨s1, j, hj, s2, h4⟩)⟩
    unfold goodB
    rw [s1, s2]
    exact fits_str (by omega)
  · rw [if_neg h4]
    have htc := tag_cases hg
    have ht : wdN l j % 8 = tgN l j := rfl
    have hne : ¬ (tgN l j = 3 ∨ tgN l j = 5) := fun h3 => by
      unfold nxN at e
      rw [if_neg (by omega), if_pos h3] at e
      cases e
    refine ⟨⟨hr, hg⟩, ?_⟩
    by_cases h0 : tgN l j = 0
    · have hself : vlN l j = j := by
        unfold nxN at e
        rw [if_pos h0] at e
        by_cases hs : vlN l j = j
        · exact hs
        · rw [if_neg hs] at e
          cases e
      have hv := val_place hg (Or.inl (ht ▸ h0))
      have hV := (h.ref j hj h0).2.1
      rw [hself] at hV
      unfold vlN at hself
      exact Or.inl ⟨ht ▸ h0, j, hj, by omega, hV⟩
    · by_cases h1 : tgN l j = 1
      · exact Or.inr (Or.inr (Or.inl ⟨ht ▸ h1, hn.atom j hj h1⟩))
      · exact Or.inr (Or.inr (Or.inr (by omega)))
theorem nsb_set {l : List Int} {N : Nat} (hn : NsB l N) {j : Nat} {x : Int} (hj : j < l.length) (h1 : x % 8 = 1 → (valOf x).toNat < N) (h4 : x % 8 ≠ 4) : NsB (l.set j x) N := by
  refine ⟨fun k hk ht => ?_, fun k hk ht => ?_⟩
  · rw [List.length_set] at hk
    by_cases e : k = j
    · subst e
      rw [(tg_new hj).1] at ht
      rw [(tg_new hj).2]
      exact h1 ht
    · rw [(tg_set hj e).1] at ht
      rw [(tg_set hj e).2]
      exact hn.atom k hk ht
  · rw [List.length_set] at hk
    by_cases e : k = j
    · subst e
      rw [(tg_new hj).1] at ht
      exact absurd ht h4
    · rw [(tg_set hj e).1] at ht
      rw [wd_set hj, if_neg e]
      exact hn.func k hk ht
theorem bind_sndn {l : List Int} {N : Nat} (h : SndN l N) (hl : l.length ≤ 65536) {a b : Nat} (ha : a < l.length) (hb : b < l.length) (hv : trmW l a % 8 = 0) (hle : trmW l b % 8 = 0 → valOf (trmW l b) ≤ valOf (trmW l a)) : (valOf (trmW l a)).toNat < l.length ∧ SndN (l.set (valOf (trmW l a)).toNat (trmW l b)) N := by
  obtain ⟨⟨V, hV⟩, hn⟩ := h
  obtain ⟨_, ka⟩ := trm_kinds hV hn hl ha
  obtain ⟨⟨rb, gb⟩, kb⟩ := trm_kinds hV hn hl hb
  obtain ⟨j, hj, vj, Vj⟩ : ∃ j : Nat, j < l.length ∧ valOf (trmW l a) = (j : Int) ∧ V j = true := by
    rcases ka with ⟨_, h⟩ | ⟨e, _⟩ | ⟨e, _⟩ | e
    · exact h
    · omega
    · omega
    · omega
  rw [vj, Int.toNat_natCast]
  rw [vj] at hle
  refine ⟨hj, ⟨V, snd_bind hV hj Vj rb gb (by rcases kb with ⟨e, _⟩ | ⟨e, _⟩ | ⟨e, _⟩ | e <;> omega) (fun e => ?_) (fun e => ?_)⟩, nsb_set hn hj (fun e => ?_) (by rcases kb with ⟨e, _⟩ | ⟨e, _⟩ | ⟨e, _⟩ | e <;> omega)⟩
  · rcases kb with ⟨_, i, hi, vi, Vi⟩ | ⟨e', _⟩ | ⟨e', _⟩ | e'
    · have := hle e
      rw [vi] at this
      rw [vi, Int.toNat_natCast]
      exact ⟨by omega, Vi⟩
    all_goals omega
  · rcases kb with ⟨e', _⟩ | ⟨_, i, hi, vi, ti⟩ | ⟨e', _⟩ | e'
    · omega
    · rw [vi, Int.toNat_natCast]
      exact ⟨hi, Or.inl ti⟩
    all_goals omega
  · rcases kb with ⟨e', _⟩ | ⟨e', _⟩ | ⟨_, h⟩ | e'
    · omega
    · omega
    · exact h
    · omega
theorem merge_sndn {l : List Int} {N : Nat} (h : SndN l N) (hl : l.length ≤ 65536) {i j : Nat} (hj : j < l.length) (hij : i < j) (ti : tgN l i = 4) (tj : tgN l j = 4) : SndN (l.set j (wordOf 5 (i : Int))) N := by
  obtain ⟨⟨V, hV⟩, hn⟩ := h
  have hf : fitsB 5 (i : Int) = true := by
    simp [fitsB]
    omega
  have ht : wordOf 5 (i : Int) % 8 = 5 := wordOf_tag 5 (i : Int) (by omega) (by omega)
  have hv : valOf (wordOf 5 (i : Int)) = (i : Int) := wordOf_val 5 (i : Int) hf
  have hg : goodB (wordOf 5 (i : Int)) = true := by
    unfold goodB
    rw [ht, hv]
    exact hf
  exact ⟨⟨V, snd_fwd hV hj (Or.inl tj) hij (Or.inl ti) (wordOf_bd 5 (i : Int)) hg ht hv⟩, nsb_set hn hj (by omega) (by omega)⟩
end Go.Proofs.YtipacdagaalccaaGreatDoor

namespace Go.Proofs.YtipacdagaalccaaGreatDoor
set_option maxRecDepth 100000
open Go.RowKit Go.Shelf
attribute [local go_sem] Oper.semAt_some
theorem ret_voidS {w : World} {fn : Func} (hfn : fn.results = #[]) {tmps : Array Value} : (results fn tmps).run Tryz.prog w = .ok (.tuple #[]) w := by
  simp [results, hfn, go_sem]
def encS (x : Nat × Te) : Array Value := #[.int .i64 (x.1 : Int), .agg #[.int .i64 (x.2.1 : Int), .int .u64 x.2.2]]
def nextS (es : List Te) (pre : List (Nat × Te)) (x : Nat × Te) (_ : World) : Prop := pre.length < es.length ∧ x = (es.length - 1 - pre.length, es.getD (es.length - 1 - pre.length) (0, 0))
structure ES (es : List Te) (g o c B Bs : Nat) (J : List (Nat × Te) → World → Prop) (r : Nat) (pre : List (Nat × Te)) (wr : World) : Prop where
  len : pre.length + r = es.length
  j : J pre wr
  box : wr.heap[Bs]? = some (.cells #[.slice (some ⟨g, o, none⟩) es.length c] 35)
  row : ∀ j, j < es.length → wr.cell? ⟨g, o + j * 2, none⟩ = some (.int .i64 ((es.getD j (0, 0)).1 : Int)) ∧ wr.cell? ⟨g, o + j * 2 + 1, none⟩ = some (.int .u64 (es.getD j (0, 0)).2)
  size : B ≤ wr.heap.size
set_option maxHeartbeats 4000000 in
theorem backS_tells (es : List Te) (g o c N B Bs : Nat) (w : World) (hN : 2 ≤ N) (hn : es.length ≤ 10000000) (hBs : w.heap[Bs]? = some (.cells #[.slice (some ⟨g, o, none⟩) es.length c] 35)) (hrow : ∀ j, j < es.length → w.cell? ⟨g, o + j * 2, none⟩ = some (.int .i64 ((es.getD j (0, 0)).1 : Int)) ∧ w.cell? ⟨g, o + j * 2 + 1, none⟩ = some (.int .u64 (es.getD j (0, 0)).2)) :
    TellsP N Tryz.prog 81 #[.pointer (some ⟨Bs, 0, none⟩)] encS B (fun k => k = Bs ∨ k = g) (nextS es) (fun xs => xs.length = es.length) w := by
  intro l J Jx W hW hBW hJ hJx hY h0
  have hbx : W.heap[Bs]? = some (.cells #[.slice (some ⟨g, o, none⟩) es.length c] 35) := (hW.block _ (lt_of_block hBs)).trans hBs
  have hrw : ∀ j, j < es.length → W.cell? ⟨g, o + j * 2, none⟩ = some (.int .i64 ((es.getD j (0, 0)).1 : Int)) ∧ W.cell? ⟨g, o + j * 2 + 1, none⟩ = some (.int .u64 (es.getD j (0, 0)).2) := fun j hj => ⟨(hW.cell (p := ⟨g, o + j * 2, none⟩) (lt_of_cell (hrow j hj).1)).trans (hrow j hj).1, (hW.cell (p := ⟨g, o + j * 2 + 1, none⟩) (lt_of_cell (hrow j hj).1)).trans (hrow j hj).2⟩
  have hcb : W.cell? ⟨Bs, 0, none⟩ = some (.slice (some ⟨g, o, none⟩) es.length c) := by simp [World.cell?, hbx]
  have h1n : 1 ≤ N := by omega
  have hwr : IntKind.i64.wrap ((es.length : Int) - 1) = (es.length : Int) - 1 := by rw [IntKind.wrap_i64]; omega
  refine callsIn_of_wp Tryz.func81 rfl trivial ?_ rfl
  simp only [Tryz.ntmps81, List.size_toArray, List.length_cons, List.length_nil, Nat.reduceAdd, Nat.reduceSub, Array.replicate_succ, Array.replicate_zero, List.push_toArray, List.append_toArray, List.nil_append, List.cons_append]
  gi_wp2
  gi_loopw [3] (fun i wr => ∃ (r : Nat) (pre : List (Nat × Te)), i = .int .i64 ((r : Int) - 1) ∧ ES es g o c B Bs J r pre wr) (fun i _ => (intOf i + 1).toNat)
  case atStart => exact ⟨es.length, [], rfl, ⟨by simp, h0, hbx, hrw, hBW⟩⟩
  case round =>
    obtain ⟨r, pre, rfl, hi⟩ := hrel
    have hcr : wr.cell? ⟨Bs, 0, none⟩ = some (.slice (some ⟨g, o, none⟩) es.length c) := by simp [World.cell?, hi.box]
    cases r with
    | zero =>
      have hS : pre.length = es.length := by have := hi.len; omega
      have hJ := hi.j
      gi_wp2
      refine bodyPost_end (ret_voidS Tryz.results81) rfl ?_
      exact ⟨⟨_, rfl⟩, .inl ⟨_, hS, hJ⟩⟩
    | succ jj =>
      have hjn : jj < es.length := by have := hi.len; omega
      have hlen := hi.len
      have e0 : (((jj + 1 : Nat) : Int) - 1) = (jj : Int) := by omega
      rw [e0]
      obtain ⟨c0, c1⟩ := hi.row jj hjn
      have hT : nextS es pre (jj, es.getD jj (0, 0)) wr := ⟨by omega, by rw [show es.length - 1 - pre.length = jj by omega]⟩
      obtain ⟨fn, tmps, assign, body, hy, hR⟩ := hY pre _ wr hi.j hT
      simp only [encS] at hy
      have hwr2 : IntKind.i64.wrap ((jj : Int) - 1) = (jj : Int) - 1 := by rw [IntKind.wrap_i64]; omega
      have hj2 : (jj : Int) < (es.length : Int) := by omega
      have HI := hid hi
      have HR := hid hR
      clear hT hi hR
      obtain ⟨x, hx⟩ : ∃ x, x = es.getD jj (0, 0) := ⟨_, rfl⟩
      rw [← hx] at c0 c1 hy HR
      clear hx
      gi_wp2
      refine HR.out.mono ?_
      rintro e W3 (⟨rfl, hJ3, hk3⟩ | ⟨rfl, hJx3⟩)
      · have hb3 : W3.heap[Bs]? = some (.cells #[.slice (some ⟨g, o, none⟩) es.length c] 35) := (hk3.2 _ (Or.inl (Or.inl rfl)) (lt_of_block HI.out.box)).trans HI.out.box
        have hg3 : W3.heap[g]? = wr.heap[g]? := hk3.2 g (Or.inl (Or.inr rfl)) (lt_of_cell c0)
        have hr3 : ∀ j, j < es.length → W3.cell? ⟨g, o + j * 2, none⟩ = some (.int .i64 ((es.getD j (0, 0)).1 : Int)) ∧ W3.cell? ⟨g, o + j * 2 + 1, none⟩ = some (.int .u64 (es.getD j (0, 0)).2) := fun j hj => by
          rw [World.cell?_of_block (w := wr) (a := ⟨g, o + j * 2, none⟩) hg3, World.cell?_of_block (w := wr) (a := ⟨g, o + j * 2 + 1, none⟩) hg3]
          exact HI.out.row j hj
        have hI3 : ES es g o c B Bs J jj (pre ++ [(jj, x)]) W3 := ⟨by simp; omega, hJ3, hb3, hr3, Nat.le_trans HI.out.size hk3.1⟩
        gi_wp2
        exact ⟨⟨jj, _, rfl, hI3⟩, by simp [intOf]⟩
      · gi_wp2
        refine bodyPost_ret (results_none rfl _ _ _) rfl ?_
        exact ⟨⟨_, rfl⟩, .inr ⟨_, hJx3⟩⟩
set_option maxHeartbeats 4000000 in
theorem backS_tells0 (ao : Option Addr) (c N B Bs : Nat) (w : World) (hBs : w.heap[Bs]? = some (.cells #[.slice ao 0 c] 35)) :
    TellsP N Tryz.prog 81 #[.pointer (some ⟨Bs, 0, none⟩)] encS B (fun k => k = Bs) (nextS []) (fun xs => xs = []) w := by
  intro lp J Jx W hW hBW hJ hJx hY h0
  have hbx : W.heap[Bs]? = some (.cells #[.slice ao 0 c] 35) := (hW.block _ (lt_of_block hBs)).trans hBs
  have hcb : W.cell? ⟨Bs, 0, none⟩ = some (.slice ao 0 c) := by simp [World.cell?, hbx]
  refine callsIn_of_wp Tryz.func81 rfl trivial ?_ rfl
  simp only [Tryz.ntmps81, List.size_toArray, List.length_cons, List.length_nil, Nat.reduceAdd, Nat.reduceSub, Array.replicate_succ, Array.replicate_zero, List.push_toArray, List.append_toArray, List.nil_append, List.cons_append]
  gi_wp2
  gi_loopw [3] (fun i wr => i = .int .i64 (-1) ∧ J [] wr) (fun _ _ => 0)
  case atStart => exact ⟨rfl, h0⟩
  case round =>
    obtain ⟨rfl, hJs⟩ := hrel
    gi_wp2
    refine bodyPost_end (ret_voidS Tryz.results81) rfl ?_
    exact ⟨⟨_, rfl⟩, .inl ⟨_, rfl, hJs⟩⟩
set_option maxHeartbeats 1000000 in
theorem backS_any (ao : Option Addr) (n c : Nat) (w : World) :
    Calls Tryz.prog 52 #[.slice ao n c] w fun e w' => e = .returned (.func (.func 81) #[] #[.pointer (some ⟨w.heap.size, 0, none⟩)]) ∧ w' = w.alloc (.cells #[.slice ao n c] 35) := by
  have hmf : ∀ (fn : Fn) (first cap : Array Value) (w : World), (Instr.makeFunc fn first cap).run Tryz.prog w = .ok (.func fn first cap) w := fun _ _ _ _ => rfl
  go_enter Tryz.func52, Tryz.ntmps52
  go_wp2
  go_ret
  exact ⟨rfl, rfl⟩
end Go.Proofs.YtipacdagaalccaaGreatDoor

namespace Go.Proofs.YtipacdagaalccaaGreatDoor
set_option maxRecDepth 100000
open Go.RowKit
theorem run_app_none {P : Program} {w : World} (base : Nat) (t ty e : TypeId) (i : TypeInfo) (size : Nat) (ht : P.underlying t = some (.slice e)) (hi : P.info? e = some i)
    (v : Value) (n : Nat) (xs : List Value) (hown : w.ownsRow base e size v n xs) (ao : Option Addr) (c : Nat) :
    (Builtin.append_ #[t, t] ty #[v, .slice ao 0 c]).run P w = .ok v w := by
  cases ao with
  | none =>
    rcases hown.2 with ⟨rfl, rfl⟩ | ⟨g, cap, cur, rfl, _, _, hnc, _⟩
    · simp [Builtin.append_, run_underlying ht, sizeOf, typeInfo, hi, Builtin.lenOf, Builtin.firstCells]
    · simp [Builtin.append_, run_underlying ht, sizeOf, typeInfo, hi, Builtin.lenOf, Builtin.firstCells, hnc, storeCells]
  | some a =>
    rcases hown.2 with ⟨rfl, rfl⟩ | ⟨g, cap, cur, rfl, _, _, hnc, _⟩
    · simp [Builtin.append_, run_underlying ht, sizeOf, typeInfo, hi, Builtin.lenOf, Builtin.firstCells, loadCells, loadCellsFrom]
    · simp [Builtin.append_, run_underlying ht, sizeOf, typeInfo, hi, Builtin.lenOf, Builtin.firstCells, hnc, storeCells, loadCells, loadCellsFrom]
theorem qslice_nil_in {P : Program} (w : World) (d : Nat) (t : TypeId) {e : TypeId} (h : P.underlying t = some (.slice e)) (ao : Option Addr) (n c : Nat) : (Op.equalIn (d + 1) t (.slice ao n c) (.slice none 0 0)).run P w = .ok ao.isNone w := by
  cases ao <;> simp [Op.equalIn, run_underlying h]
theorem svC_one (tr : List Te) : ∀ u ∈ svC tr, u.oneCell' = true := fun u hu => by
  obtain ⟨e, _, he⟩ := List.mem_flatMap.1 hu
  rcases List.mem_cons.1 he with rfl | he
  · rfl
  · have : u = .int .u64 e.2 := by simpa using he
    rw [this]
    rfl
theorem mkC_one (pt : List Pe) : ∀ u ∈ mkC pt, u.oneCell' = true := fun u hu => by
  obtain ⟨e, _, he⟩ := List.mem_flatMap.1 hu
  rcases List.mem_cons.1 he with rfl | he
  · rfl
  · rcases List.mem_cons.1 he with rfl | he
    · rfl
    · have : u = .slice none 0 0 := by simpa using he
      rw [this]
      rfl
theorem svslice_nil (w : World) (ao : Option Addr) (n c : Nat) : (binOp .eql 35 (.slice ao n c) (.slice none 0 0)).run Tryz.prog w = .ok (.bool ao.isNone) w := by
  simp only [binOp]
  simp [show Op.equal 35 (.slice ao n c) (.slice none 0 0) = Op.equalIn (9999 + 1) 35 (.slice ao n c) (.slice none 0 0) from rfl, qslice_nil_in w 9999 35 Tryz.underlying35]
set_option maxHeartbeats 1000000 in
theorem svclone_any {w : World} {B n : Nat} {v : Value} {xs : List Value} (h : w.ownsRow B 75 2 v n xs) (h1 : ∀ u ∈ xs, u.oneCell' = true) (hl : n ≤ 100000) :
    Calls Tryz.prog 26 #[v] w fun e w' => ∃ ao c, e = .returned (.slice ao n c) ∧ w'.ownsRow w.heap.size 75 2 (.slice ao n c) n xs ∧ Below w.heap.size w w' := by
  obtain ⟨i0, hi, hz0, hz1, hz2⟩ := info_parts infoSv
  have h0 := h
  have hlen := h.1
  rcases h.2 with ⟨rfl, hn⟩ | ⟨g, cap, cur, rfl, _⟩
  · subst hn
    have hx : xs = [] := List.eq_nil_of_length_eq_zero (by omega)
    subst hx
    have hsn := fun w : World => svslice_nil w none 0 0
    clear h h0 h1 hlen
    go_enter Tryz.func26, Tryz.ntmps26
    go_wp2
    go_ret
    exact ⟨_, _, rfl, World.ownsRow_nil _ _ _ _, Below.refl _ _⟩
  · have hown : (w.alloc (.cells #[] 75)).ownsRow w.heap.size 75 2 (.slice (some ⟨w.heap.size, 0, none⟩) 0 0) 0 [] := ⟨rfl, Or.inr ⟨w.heap.size, 0, #[], rfl, Nat.le_refl _, heap_alloc_new w _, Nat.le_refl _, Nat.zero_le _, rfl, rfl⟩⟩
    have hsn := fun w : World => svslice_nil w (some ⟨g, 0, none⟩) n cap
    by_cases hn : n = 0
    · subst hn
      have hx : xs = [] := List.eq_nil_of_length_eq_zero (by omega)
      subst hx
      have hr := fun ty => run_app_none (P := Tryz.prog) w.heap.size 35 ty 75 i0 2 Tryz.underlying35 hi _ 0 [] hown (some ⟨g, 0, none⟩) cap
      clear h h0 h1 hlen
      go_enter Tryz.func26, Tryz.ntmps26
      go_wp2_with (at_builtin; refine Lib.wpList_append_run _ rfl _ _ _ _ rfl _ _ rfl rfl _ _ (hr _) ?_)
      go_ret
      exact ⟨_, _, rfl, hown, below_alloc w _⟩
    · have hnews : ∀ j u, xs[j]? = some u → (w.alloc (.cells #[] 75)).cell? ((⟨g, 0, none⟩ : Addr).add j) = some u := fun j u hj => by
        exact ((h0.alloc (.cells #[] 75)).cells (g := g) rfl) j u hj
      have hpos : 0 < n := by omega
      clear h h0 hn
      go_enter Tryz.func26, Tryz.ntmps26
      go_wp2_with (at_builtin; refine wpList_append_lies _ rfl _ _ 35 rfl w.heap.size 75 i0 (.agg #[.int .i64 0, .int .u64 0]) 2 16 Tryz.underlying35 hi hz0 hz1 hz2 rfl (by decide) (.slice (some ⟨w.heap.size, 0, none⟩) 0 0) 0 [] rfl hown ⟨g, 0, none⟩ n cap xs rfl hlen hnews h1 hpos (by unfold maxLen; omega) (by omega) (by simp) _ rfl ?_; intro g' cap' w1 hown' hgrow _ _)
      go_ret
      refine ⟨some ⟨g', 0, none⟩, cap', by simp, by simpa using hown', ?_⟩
      exact (below_alloc w _).grown hgrow (by simp) (fun k e => by
        have e' : k = w.heap.size := by simpa [Value.ownBlock] using e.symm
        omega)
theorem mkslice_nil (w : World) (ao : Option Addr) (n c : Nat) : (binOp .eql 36 (.slice ao n c) (.slice none 0 0)).run Tryz.prog w = .ok (.bool ao.isNone) w := by
  simp only [binOp]
  simp [show Op.equal 36 (.slice ao n c) (.slice none 0 0) = Op.equalIn (9999 + 1) 36 (.slice ao n c) (.slice none 0 0) from rfl, qslice_nil_in w 9999 36 Tryz.underlying36]
set_option maxHeartbeats 1000000 in
theorem mkclone_any {w : World} {B n : Nat} {v : Value} {xs : List Value} (h : w.ownsRow B 78 3 v n xs) (h1 : ∀ u ∈ xs, u.oneCell' = true) (hl : n ≤ 100000) :
    Calls Tryz.prog 27 #[v] w fun e w' => ∃ ao c, e = .returned (.slice ao n c) ∧ w'.ownsRow w.heap.size 78 3 (.slice ao n c) n xs ∧ Below w.heap.size w w' := by
  obtain ⟨i0, hi, hz0, hz1, hz2⟩ := info_parts infoMk
  have h0 := h
  have hlen := h.1
  rcases h.2 with ⟨rfl, hn⟩ | ⟨g, cap, cur, rfl, _⟩
  · subst hn
    have hx : xs = [] := List.eq_nil_of_length_eq_zero (by omega)
    subst hx
    have hsn := fun w : World => mkslice_nil w none 0 0
    clear h h0 h1 hlen
    go_enter Tryz.func27, Tryz.ntmps27
    go_wp2
    go_ret
    exact ⟨_, _, rfl, World.ownsRow_nil _ _ _ _, Below.refl _ _⟩
  · have hown : (w.alloc (.cells #[] 78)).ownsRow w.heap.size 78 3 (.slice (some ⟨w.heap.size, 0, none⟩) 0 0) 0 [] := ⟨rfl, Or.inr ⟨w.heap.size, 0, #[], rfl, Nat.le_refl _, heap_alloc_new w _, Nat.le_refl _, Nat.zero_le _, rfl, rfl⟩⟩
    have hsn := fun w : World => mkslice_nil w (some ⟨g, 0, none⟩) n cap
    by_cases hn : n = 0
    · subst hn
      have hx : xs = [] := List.eq_nil_of_length_eq_zero (by omega)
      subst hx
      have hr := fun ty => run_app_none (P := Tryz.prog) w.heap.size 36 ty 78 i0 3 Tryz.underlying36 hi _ 0 [] hown (some ⟨g, 0, none⟩) cap
      clear h h0 h1 hlen
      go_enter Tryz.func27, Tryz.ntmps27
      go_wp2_with (at_builtin; refine Lib.wpList_append_run _ rfl _ _ _ _ rfl _ _ rfl rfl _ _ (hr _) ?_)
      go_ret
      exact ⟨_, _, rfl, hown, below_alloc w _⟩
    · have hnews : ∀ j u, xs[j]? = some u → (w.alloc (.cells #[] 78)).cell? ((⟨g, 0, none⟩ : Addr).add j) = some u := fun j u hj => by
        exact ((h0.alloc (.cells #[] 78)).cells (g := g) rfl) j u hj
      have hpos : 0 < n := by omega
      clear h h0 hn
      go_enter Tryz.func27, Tryz.ntmps27
      go_wp2_with (at_builtin; refine wpList_append_lies _ rfl _ _ 36 rfl w.heap.size 78 i0 (.agg #[.int .i64 0, .int .i64 0, .slice none 0 0]) 3 40 Tryz.underlying36 hi hz0 hz1 hz2 rfl (by decide) (.slice (some ⟨w.heap.size, 0, none⟩) 0 0) 0 [] rfl hown ⟨g, 0, none⟩ n cap xs rfl hlen hnews h1 hpos (by unfold maxLen; omega) (by omega) (by simp) _ rfl ?_; intro g' cap' w1 hown' hgrow _ _)
      go_ret
      refine ⟨some ⟨g', 0, none⟩, cap', by simp, by simpa using hown', ?_⟩
      exact (below_alloc w _).grown hgrow (by simp) (fun k e => by
        have e' : k = w.heap.size := by simpa [Value.ownBlock] using e.symm
        omega)
end Go.Proofs.YtipacdagaalccaaGreatDoor

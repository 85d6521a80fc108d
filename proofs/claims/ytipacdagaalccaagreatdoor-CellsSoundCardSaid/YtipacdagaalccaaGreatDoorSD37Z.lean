/- Package cells: the graph that is read, as plain data. -/
import Derived.Test.YtipacdagaalccaaGreatDoorSD31Z
import Derived.Test.YtipacdagaalccaaGreatDoorSD34Z
import Derived.Test.YtipacdagaalccaaGreatDoorSD32Z
import Derived.Test.YtipacdagaalccaaGreatDoorSD33Z
namespace Go.Proofs.YtipacdagaalccaaGreatDoor
set_option maxRecDepth 100000
open Go.RowKit
def ndT (l : List Int) (ns : List ByteArray) (TS : List Int) (t : Int) : Nd := ⟨tdK t, tdS l ns t, tdN t, (tdL l t).map (fun c => posF TS (tmC l c))⟩
def rdN (l : List Int) (ns : List ByteArray) (TS : List Int) (n : Nat) : List Nd := (TS.take n).map (ndT l ns TS)
def ClT (l TS : List Int) (n : Nat) : Prop := ∀ i, i < n → ∀ c ∈ tdL l (TS.getD i 0), tmC l c ∈ TS
def InT (l TS : List Int) : Prop := ∀ t ∈ TS, ∃ k, k < l.length ∧ t = trmW l k
def Mn (l cs TS : List Int) : Prop := ∀ P : Int → Prop, (∀ c ∈ cs, P (tmC l c)) → (∀ t, P t → ∀ c ∈ tdL l t, P (tmC l c)) → ∀ t ∈ TS, P t
def rdG (l : List Int) (ns : List ByteArray) (cs TS : List Int) : Gf := ⟨rdN l ns TS TS.length, cs.map (fun c => posF TS (tmC l c))⟩
structure Rfi (l cs TS : List Int) : Prop where
  nodup : TS.Nodup
  cl : ClT l TS TS.length
  inT : InT l TS
  mn : Mn l cs TS
  root : ∀ c ∈ cs, tmC l c ∈ TS
section
variable {l : List Int} {ns : List ByteArray} {TS : List Int} {V : Nat → Bool}
theorem args_ok (hs : Snd l V) {t : Int} (ht : Tw l ns t) : ∀ c ∈ tdL l t, 0 ≤ c ∧ c < (l.length : Int) := fun c hc => by
  unfold tdL at hc
  split at hc
  · rename_i h3
    obtain ⟨_, hy, h4, hg, _⟩ := ht.str h3
    have h4' : wdN l (valOf t).toNat % 8 = 4 := h4
    have hfv := fun_val (wdN l (valOf t).toNat) hg h4'
    obtain ⟨a1, _⟩ := hs.args _ hy h4
    unfold rchL at hc
    rw [if_neg (by omega), if_pos h4'] at hc
    obtain ⟨i, hi, rfl⟩ := List.mem_map.1 hc
    rw [List.mem_range] at hi
    unfold arN' vlN at a1
    omega
  · cases hc
theorem args_eight {t : Int} (ht : Tw l ns t) : (tdL l t).length ≤ 8 := by
  unfold tdL
  split
  · rename_i h3
    obtain ⟨_, hy, h4, hg, _⟩ := ht.str h3
    have h4' : wdN l (valOf t).toNat % 8 = 4 := h4
    have hfv := fun_val (wdN l (valOf t).toNat) hg h4'
    unfold rchL
    rw [if_neg (by omega), if_pos h4']
    simp
    omega
  · exact Nat.zero_le _
theorem rd_step {n : Nat} (hC : ClT l TS n) (hn : n < TS.length) :
    rdN l ns (addsJ l (tdL l (TS.getD n 0)) TS (tdL l (TS.getD n 0)).length) (n + 1) = rdN l ns TS n ++ [ndT l ns (addsJ l (tdL l (TS.getD n 0)) TS (tdL l (TS.getD n 0)).length) (TS.getD n 0)] ∧ ClT l (addsJ l (tdL l (TS.getD n 0)) TS (tdL l (TS.getD n 0)).length) (n + 1) := by
  have hp : TS <+: addsJ l (tdL l (TS.getD n 0)) TS (tdL l (TS.getD n 0)).length := adds_le (Nat.zero_le _)
  have hmem : ∀ c ∈ tdL l (TS.getD n 0), tmC l c ∈ addsJ l (tdL l (TS.getD n 0)) TS (tdL l (TS.getD n 0)).length := fun c hc => by
    obtain ⟨i, hi, rfl⟩ := list_mem_getD hc
    exact adds_mem hi
  generalize addsJ l (tdL l (TS.getD n 0)) TS (tdL l (TS.getD n 0)).length = TS' at *
  obtain ⟨r, rfl⟩ := hp
  have ht : (TS ++ r).take (n + 1) = TS.take n ++ [TS.getD n 0] := by
    rw [List.take_append_of_le_length (by omega), List.take_add_one]
    simp [List.getD, hn]
  refine ⟨?_, fun i hi c hc => ?_⟩
  · unfold rdN
    rw [ht, List.map_append]
    congr 1
    apply List.map_congr_left
    intro x hx
    obtain ⟨i, hi, hxi⟩ := list_mem_getD hx
    have hi' : i < n ∧ i < TS.length := by
      rw [List.length_take] at hi
      omega
    have hxe : x = TS.getD i 0 := by
      rw [← hxi]
      simp [List.getD, hi'.1]
    unfold ndT
    congr 1
    apply List.map_congr_left
    intro c hc
    exact posF_pre (List.prefix_append _ _) (hC i hi'.1 c (by rw [← hxe]; exact hc))
  · have hg : ∀ j, j < TS.length → (TS ++ r).getD j 0 = TS.getD j 0 := fun j hj => by simp [List.getD, List.getElem?_append_left hj]
    by_cases e : i = n
    · subst e
      rw [hg i hn] at hc
      exact hmem c hc
    · rw [hg i (by omega)] at hc
      exact List.mem_append_left _ (hC i (by omega) c hc)
theorem inT_adds {cs : List Int} (hcs : ∀ x ∈ cs, 0 ≤ x ∧ x < (l.length : Int)) (h : InT l TS) : InT l (addsJ l cs TS cs.length) :=
  adds_all h _ (fun i hi => ⟨(cs.getD i 0).toNat, by have := hcs _ (getD_mem hi); omega, rfl⟩)
theorem mn_adds {cs ds : List Int} (h : Mn l cs TS) (hd : ∀ P : Int → Prop, (∀ c ∈ cs, P (tmC l c)) → (∀ t, P t → ∀ c ∈ tdL l t, P (tmC l c)) → ∀ c ∈ ds, P (tmC l c)) : Mn l cs (addsJ l ds TS ds.length) := fun P h1 h2 =>
  adds_all (h P h1 h2) _ (fun _ hi => hd P h1 h2 _ (getD_mem hi))
theorem inT_len (h : InT l TS) (hn : TS.Nodup) : TS.length ≤ l.length := by
  have := len_le_of_subset ((List.range l.length).map (trmW l)) TS hn (fun x hx => by
    obtain ⟨k, hk, rfl⟩ := h x hx
    exact List.mem_map.2 ⟨k, List.mem_range.2 hk, rfl⟩)
  simpa using this
structure Rmi (l cs TS : List Int) (k : Nat) : Prop where
  nodup : TS.Nodup
  cl : ClT l TS k
  inT : InT l TS
  mn : Mn l cs TS
  root : ∀ c ∈ cs, tmC l c ∈ TS
theorem Rfi.start (_hs : Snd l V) {cs : List Int} (hcs : ∀ x ∈ cs, 0 ≤ x ∧ x < (l.length : Int)) : Rmi l cs (addsJ l cs [] cs.length) 0 :=
  ⟨adds_nodup List.nodup_nil _, fun i hi => absurd hi (Nat.not_lt_zero _), inT_adds hcs (fun _ h => by cases h), mn_adds (fun _ _ _ _ h => by cases h) (fun _ h1 _ => h1), fun c hc => by
    obtain ⟨i, hi, rfl⟩ := list_mem_getD hc
    exact adds_mem hi⟩
theorem Rmi.step (hs : Snd l V) (hn : NsB l ns.length) (hl : l.length ≤ 65536) {cs : List Int} {k : Nat} (h : Rmi l cs TS k) (hk : k < TS.length) : Rmi l cs (addsJ l (tdL l (TS.getD k 0)) TS (tdL l (TS.getD k 0)).length) (k + 1) := by
  have hp : TS <+: addsJ l (tdL l (TS.getD k 0)) TS (tdL l (TS.getD k 0)).length := adds_le (Nat.zero_le _)
  obtain ⟨j, hj, e⟩ := h.inT _ (getD_mem hk)
  have hTw : Tw l ns (TS.getD k 0) := by
    rw [e]
    exact trm_tw hs hn hl hj
  exact ⟨adds_nodup h.nodup _, (rd_step (ns := ns) h.cl hk).2, inT_adds (args_ok hs hTw) h.inT, mn_adds h.mn (fun P h1 h2 => h2 _ (h.mn P h1 h2 _ (getD_mem hk))), fun c hc => hp.subset (h.root c hc)⟩
theorem Rmi.fin {cs : List Int} (h : Rmi l cs TS TS.length) : Rfi l cs TS := ⟨h.nodup, h.cl, h.inT, h.mn, h.root⟩
theorem rts_pre {cs TS' : List Int} (h : TS <+: TS') (hr : ∀ c ∈ cs, tmC l c ∈ TS) : cs.map (fun c => posF TS (tmC l c)) = cs.map (fun c => posF TS' (tmC l c)) := by
  apply List.map_congr_left
  intro c hc
  exact (posF_pre h (hr c hc)).symm
end
end Go.Proofs.YtipacdagaalccaaGreatDoor

namespace Go.Proofs.YtipacdagaalccaaGreatDoor
set_option maxRecDepth 100000
open Go.RowKit
theorem may_fwdQ {i n : Nat} (h : i < n) (h6 : i < 65536) : mayB (wordOf 5 (i : Int)) (n : Int) = true := by
  have hf : fitsB 5 (i : Int) = true := by
    simp [fitsB]
    omega
  unfold mayB
  rw [Bool.and_eq_true]
  refine ⟨?_, ?_⟩
  · unfold goodB
    rw [wordOf_tag 5 (i : Int) (by omega) (by omega), wordOf_val 5 (i : Int) hf]
    exact hf
  · rw [wordOf_val 5 (i : Int) hf, Bool.or_eq_true]
    exact Or.inr (decide_eq_true (by omega))
theorem trm_eq3 {x y : Int} (hx : x % 8 = 3) (hy : y % 8 = 3) (x0 : 0 ≤ x) (x1 : x ≤ 18446744073709551615) (y0 : 0 ≤ y) (y1 : y ≤ 18446744073709551615) (h : valOf x = valOf y) : x = y := by
  unfold valOf wrap64 at h
  omega
section
variable {w w1 w' : World} {B hb ab tb : Nat} {m : Int} {av : Value} {l : List Int} {tv : Value} {tq : Nat} {ns : List ByteArray} {trv : Value} {tr : List Te} {ptv : Value} {pt : List Pe} {n : Int}
theorem Wrq.from {l' : List Int} {tr' : List Te} {n' : Int} (hb1 : Below w.heap.size w w1) (h : Wrq w1 w' B hb ab tb m av l' tv tq ns trv tr' ptv pt n') : Wrq w w' B hb ab tb m av l' tv tq ns trv tr' ptv pt n' := by
  obtain ⟨trv', hq, hm, hx⟩ := h
  refine ⟨trv', hq, (a_Mod.ofBelow hb1).trans hm (fun y hy => Or.inl hy), fun q hq => ?_⟩
  rcases hx q hq with h | h
  · exact Or.inl h
  · exact Or.inr (Nat.le_trans hb1.size h)
theorem write_any (h : Hq w B hb ab tb m av l tv tq ns trv tr ptv pt n) (hB : B ≤ w.heap.size) (k : Nat) (x : Int) (hk : k < l.length) (x0 : 0 ≤ x) (x1 : x ≤ 18446744073709551615) (hm : mayB x l.length = true) (n0 : 0 ≤ n) (n1 : n ≤ 4611686018427387904) (hp : pt.length ≤ 1000000) (htl : tr.length ≤ 1000000) :
    Calls Tryz.prog 45 #[.pointer (some ⟨hb, 0, none⟩), .int .i64 (k : Int), .int .u64 x] w fun e w' => e = .returned (.tuple #[]) ∧ Wrq w w' B hb ab tb m av (l.set k x) tv tq ns trv (trW l tr pt k) ptv pt (n + 1) := by
  unfold trW
  cases hs : seesB pt k with
  | false =>
    rw [if_neg (by simp)]
    exact write_not h k x hk x0 x1 hm n0 n1 hs hp
  | true =>
    rw [if_pos rfl]
    exact write_seen h hB k x hk x0 x1 hm n0 n1 hs hp htl
def Act1 (w w' : World) (B hb ab tb : Nat) (m : Int) (av : Value) (l : List Int) (tv : Value) (tq : Nat) (ns : List ByteArray) (trv : Value) (tr : List Te) (ptv : Value) (pt : List Pe) (n : Int) : Prop :=
  Below w.heap.size w w' ∨ ∃ k x, k < l.length ∧ SndN (l.set k x) ns.length ∧ Wrq w w' B hb ab tb m av (l.set k x) tv tq ns trv (trW l tr pt k) ptv pt (n + 1)
theorem bad_nil {l : List Int} {x y : Int} (h : badF l [x, y] = []) : cellB l x = true ∧ cellB l y = true := by
  by_cases hx : cellB l x = true
  · by_cases hy : cellB l y = true
    · exact ⟨hx, hy⟩
    · exfalso
      have e : badC l [x, y] = ((1 : Nat) : Int) := ixOf_hit 0 (fun x => !cellB l x) [x, y] 1 (by simp) (fun j hj => by
        have : j = 0 := by omega
        subst this
        simp [hx]) (by simpa using hy)
      unfold badF at h
      rw [e, if_pos (by omega)] at h
      cases h
  · exfalso
    have e : badC l [x, y] = ((0 : Nat) : Int) := ixOf_hit 0 (fun x => !cellB l x) [x, y] 0 (by simp) (fun j hj => absurd hj (Nat.not_lt_zero _)) (by simpa using hx)
    unfold badF at h
    rw [e, if_pos (by omega)] at h
    cases h
theorem cell_nat {l : List Int} {x : Int} (h : cellB l x = true) : ∃ k : Nat, x = (k : Int) ∧ k < l.length := by
  unfold cellB at h
  simp only [Bool.and_eq_true] at h
  have h1 : 0 ≤ x ∧ x < (l.length : Int) := by simpa [inB] using h.1.1
  exact ⟨x.toNat, by omega, by omega⟩
theorem bind_act (h : Hq w B hb ab tb m av l tv tq ns trv tr ptv pt n) (hB : B ≤ w.heap.size) (hS : SndN l ns.length) (n0 : 0 ≤ n) (n1 : n ≤ 4611686018427387904) (hp : pt.length ≤ 1000000) (htl : tr.length ≤ 1000000) (x y : Int) :
    Calls Tryz.prog 15 #[.pointer (some ⟨hb, 0, none⟩), .int .i64 x, .int .i64 y] w fun e w' => (∃ ev, e = .returned ev) ∧ Act1 w w' B hb ab tb m av l tv tq ns trv tr ptv pt n := by
  have hl6 : l.length ≤ 65536 := by
    have h1 := h.hp.ar.len
    have h2 := h.hp.ar.m2
    omega
  by_cases hbd : badF l [x, y] = []
  · obtain ⟨ca, cb⟩ := bad_nil hbd
    obtain ⟨a, rfl, ha⟩ := cell_nat ca
    obtain ⟨b, rfl, hb'⟩ := cell_nat cb
    obtain ⟨V, hV⟩ := hS.1
    obtain ⟨⟨xa0, xa1⟩, ma, _⟩ := trm_may hV hl6 ha
    obtain ⟨⟨xb0, xb1⟩, mb, _⟩ := trm_may hV hl6 hb'
    by_cases hv : trmW l a % 8 = 0
    · by_cases he : trmW l a = trmW l b
      · exact (bindq_same h.hp hV a b ca cb ha hb' hv he).mono fun e w' ⟨e1, e2⟩ => ⟨⟨_, e1⟩, Or.inl e2⟩
      · by_cases hsw : trmW l b % 8 = 0 ∧ valOf (trmW l a) < valOf (trmW l b)
        · obtain ⟨k1, k2⟩ := bind_sndn hS hl6 hb' ha hsw.1 (fun _ => Int.le_of_lt hsw.2)
          exact (bindq_swap h.hp hV a b ca cb ha hb' hv he hsw.1 hsw.2 (Q := fun w' => Wrq w w' B hb ab tb m av _ tv tq ns trv _ ptv pt (n + 1)) (fun w1 hb1 => (write_any (h.below hb1) (Nat.le_trans hB hb1.size) _ _ k1 xa0 xa1 ma n0 n1 hp htl).mono fun e w' ⟨e1, e2⟩ => ⟨e1, e2.from hb1⟩)).mono fun e w' ⟨e1, e2⟩ => ⟨⟨_, e1⟩, Or.inr ⟨_, _, k1, k2, e2⟩⟩
        · obtain ⟨k1, k2⟩ := bind_sndn hS hl6 ha hb' hv (fun h0 => by
            rcases Int.lt_or_le (valOf (trmW l a)) (valOf (trmW l b)) with h1 | h1
            · exact absurd ⟨h0, h1⟩ hsw
            · exact h1)
          exact (bindq_left h.hp hV a b ca cb ha hb' hv he hsw (Q := fun w' => Wrq w w' B hb ab tb m av _ tv tq ns trv _ ptv pt (n + 1)) (fun w1 hb1 => (write_any (h.below hb1) (Nat.le_trans hB hb1.size) _ _ k1 xb0 xb1 mb n0 n1 hp htl).mono fun e w' ⟨e1, e2⟩ => ⟨e1, e2.from hb1⟩)).mono fun e w' ⟨e1, e2⟩ => ⟨⟨_, e1⟩, Or.inr ⟨_, _, k1, k2, e2⟩⟩
    · exact (bindq_bound h.hp hV a b ca cb ha hb' hv).mono fun e w' ⟨⟨_, e1, _⟩, e2⟩ => ⟨⟨_, e1⟩, Or.inl e2⟩
  · exact (bindq_bad h.hp x y hbd).mono fun e w' ⟨⟨_, e1, _⟩, e2⟩ => ⟨⟨_, e1⟩, Or.inl e2⟩
theorem merge_act (h : Hq w B hb ab tb m av l tv tq ns trv tr ptv pt n) (hB : B ≤ w.heap.size) (hS : SndN l ns.length) (n0 : 0 ≤ n) (n1 : n ≤ 4611686018427387904) (hp : pt.length ≤ 1000000) (htl : tr.length ≤ 1000000) (x y : Int) :
    Calls Tryz.prog 19 #[.pointer (some ⟨hb, 0, none⟩), .int .i64 x, .int .i64 y] w fun e w' => (∃ ev, e = .returned ev) ∧ Act1 w w' B hb ab tb m av l tv tq ns trv tr ptv pt n := by
  have hl6 : l.length ≤ 65536 := by
    have h1 := h.hp.ar.len
    have h2 := h.hp.ar.m2
    omega
  by_cases hbd : badF l [x, y] = []
  · obtain ⟨ca, cb⟩ := bad_nil hbd
    obtain ⟨a, rfl, ha⟩ := cell_nat ca
    obtain ⟨b, rfl, hb'⟩ := cell_nat cb
    obtain ⟨V, hV⟩ := hS.1
    obtain ⟨⟨⟨xa0, xa1⟩, _⟩, ka⟩ := trm_kinds hV hS.2 hl6 ha
    obtain ⟨⟨⟨xb0, xb1⟩, _⟩, kb⟩ := trm_kinds hV hS.2 hl6 hb'
    have hno : ∀ (_ : ∀ w1, Below w.heap.size w w1 → Calls Tryz.prog 49 #[blkV ab, .int .u64 (trmW l a), .int .u64 (trmW l b)] w1 fun e w' => e = .returned (.bool false) ∧ Below w1.heap.size w1 w'), Calls Tryz.prog 19 #[.pointer (some ⟨hb, 0, none⟩), .int .i64 (a : Int), .int .i64 (b : Int)] w fun e w' => (∃ ev, e = .returned ev) ∧ Act1 w w' B hb ab tb m av l tv tq ns trv tr ptv pt n := fun hal =>
      (mergeq_no h.hp hV a b ca cb ha hb' hal).mono fun e w' ⟨⟨_, e1, _⟩, e2⟩ => ⟨⟨_, e1⟩, Or.inl e2⟩
    by_cases h3 : trmW l a % 8 = 3 ∧ trmW l b % 8 = 3
    · obtain ⟨i, hi, vi, ti⟩ : ∃ i : Nat, i < l.length ∧ valOf (trmW l a) = (i : Int) ∧ tgN l i = 4 := by
        rcases ka with ⟨e, _⟩ | ⟨_, h⟩ | ⟨e, _⟩ | e
        · omega
        · exact h
        · omega
        · omega
      obtain ⟨j, hj, vj, tj⟩ : ∃ j : Nat, j < l.length ∧ valOf (trmW l b) = (j : Int) ∧ tgN l j = 4 := by
        rcases kb with ⟨e, _⟩ | ⟨_, h⟩ | ⟨e, _⟩ | e
        · omega
        · exact h
        · omega
        · omega
      by_cases hw : wdN l i = wdN l j
      · rcases Nat.lt_trichotomy i j with hij | hij | hij
        · have k2 := merge_sndn hS hl6 hj hij ti tj
          exact (mergeq_lt h.hp hV a b ca cb ha hb' h3.1 h3.2 i j hi hj vi vj hw hij (Q := fun w' => Wrq w w' B hb ab tb m av _ tv tq ns trv _ ptv pt (n + 1)) (fun w1 hb1 => (write_any (h.below hb1) (Nat.le_trans hB hb1.size) _ _ hj (wordOf_bd 5 (i : Int)).1 (wordOf_bd 5 (i : Int)).2 (may_fwdQ (by omega) (by omega)) n0 n1 hp htl).mono fun e w' ⟨e1, e2⟩ => ⟨e1, e2.from hb1⟩)).mono fun e w' ⟨e1, e2⟩ => ⟨⟨_, e1⟩, Or.inr ⟨_, _, hj, k2, e2⟩⟩
        · subst hij
          have he : trmW l a = trmW l b := by
            exact trm_eq3 h3.1 h3.2 xa0 xa1 xb0 xb1 (vi.trans vj.symm)
          exact (mergeq_same h.hp hV a b ca cb ha hb' h3.1 i hi vi he).mono fun e w' ⟨e1, e2⟩ => ⟨⟨_, e1⟩, Or.inl e2⟩
        · have k2 := merge_sndn hS hl6 hi hij tj ti
          exact (mergeq_gt h.hp hV a b ca cb ha hb' h3.1 h3.2 i j hi hj vi vj hw hij (Q := fun w' => Wrq w w' B hb ab tb m av _ tv tq ns trv _ ptv pt (n + 1)) (fun w1 hb1 => (write_any (h.below hb1) (Nat.le_trans hB hb1.size) _ _ hi (wordOf_bd 5 (j : Int)).1 (wordOf_bd 5 (j : Int)).2 (may_fwdQ (by omega) (by omega)) n0 n1 hp htl).mono fun e w' ⟨e1, e2⟩ => ⟨e1, e2.from hb1⟩)).mono fun e w' ⟨e1, e2⟩ => ⟨⟨_, e1⟩, Or.inr ⟨_, _, hi, k2, e2⟩⟩
      · refine hno (fun w1 hb1 => ?_)
        have := alike_str (h.hp.below hb1).ar (trmW l a) (trmW l b) xa0 xa1 xb0 xb1 h3.1 h3.2 i j hi hj vi vj
        rwa [show (wdN l i == wdN l j) = false by simpa using hw] at this
    · exact hno (fun w1 _ => alike_not (trmW l a) (trmW l b) w1 xa0 xa1 xb0 xb1 (by omega) ab)
  · exact (mergeq_bad h.hp x y hbd).mono fun e w' ⟨⟨_, e1, _⟩, e2⟩ => ⟨⟨_, e1⟩, Or.inl e2⟩
end
end Go.Proofs.YtipacdagaalccaaGreatDoor

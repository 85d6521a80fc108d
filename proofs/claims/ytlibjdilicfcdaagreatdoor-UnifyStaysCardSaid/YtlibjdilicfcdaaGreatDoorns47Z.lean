/- Package unify: a heap and a union side by side, while the heap is written. -/
import Derived.Test.YtlibjdilicfcdaaGreatDoorns46Z
import Derived.Test.YtlibjdilicfcdaaGreatDoorns42Z
import Derived.Test.YtlibjdilicfcdaaGreatDoorns08Z
import Derived.Test.YtlibjdilicfcdaaGreatDoorns44Z
namespace Go.Proofs.YtlibjdilicfcdaaGreatDoor
set_option maxRecDepth 100000
open Go.RowKit Go.Maps
inductive Wrs (s : Hst) : Nat → Hst → Prop
  | nil : Wrs s 0 s
  | step {j : Nat} {s1 : Hst} (h : Wrs s j s1) (k : Nat) (x : Int) (hk : k < s1.l.length) (hs : SndN (s1.l.set k x) s1.ns.length) : Wrs s (j + 1) ⟨s1.l.set k x, s1.ns, trW s1.l s1.tr s1.pt k, s1.pt, s1.n + 1⟩
theorem Wrs.keeps {s s' : Hst} {j : Nat} (h : Wrs s j s') : s'.ns = s.ns ∧ s'.pt = s.pt ∧ s'.n = s.n + j ∧ s'.l.length = s.l.length ∧ s'.tr.length ≤ s.tr.length + j ∧ s.tr.length ≤ s'.tr.length := by
  induction h with
  | nil => exact ⟨rfl, rfl, by simp, rfl, Nat.le_refl _, Nat.le_refl _⟩
  | step h k x hk hs ih =>
    obtain ⟨h1, h2, h3, h4, h5, h6⟩ := ih
    refine ⟨h1, h2, by show _ + 1 = _; omega, by show (List.set _ _ _).length = _; rw [List.length_set, h4], ?_, ?_⟩
    · show (trW _ _ _ _).length ≤ _
      unfold trW
      split
      · rw [List.length_append, List.length_singleton]
        omega
      · omega
    · show _ ≤ (trW _ _ _ _).length
      unfold trW
      split
      · rw [List.length_append, List.length_singleton]
        omega
      · omega
section
variable {W w0 w w1 w' : World} {l : List Int} {nm : List ByteArray} {B hb ab tb ub mq : Nat} {m : Int} {av tv : Value} {tq : Nat} {trv ptv trv0 : Value} {ledv tdv : Value} {ls : List (Nat × Value)} {td : List (Nat × Nat)} {L : List Nat} {s : Hst}
def World.first (w : World) (n : Nat) : World := { w with heap := w.heap.extract 0 n }
theorem first_below (w : World) {n : Nat} (hn : n ≤ w.heap.size) : (World.first w n).heap.size = n ∧ Below n (World.first w n) w := by
  have h1 : (World.first w n).heap.size = n := by
    show (w.heap.extract 0 n).size = n
    simp
    omega
  refine ⟨h1, rfl, rfl, rfl, by omega, fun k hk => ?_⟩
  show w.heap[k]? = (w.heap.extract 0 n)[k]?
  rw [Array.getElem?_extract, if_pos (by omega), Nat.zero_add]
theorem Um.beside (h : Um W l nm hb ub mq ledv tdv ls td L w) {F : Nat → Prop} (hm : Mo F w w') (hk : Ik w w') (hF : ¬ F ub ∧ ¬ F mq ∧ (∀ q, ledv.ownBlock = some q → ¬ F q) ∧ ∀ q, tdv.ownBlock = some q → ¬ F q) : ∃ W', W'.heap.size = W.heap.size ∧ Um W' l nm hb ub mq ledv tdv ls td L w' := by
  obtain ⟨f1, f2⟩ := first_below w' (n := W.heap.size) (Nat.le_trans h.b.size hm.size)
  obtain ⟨D, ⟨es, clock, hq, hD1⟩, hM⟩ := h.map
  refine ⟨World.first w' W.heap.size, f1, ⟨by rw [f1]; exact f2, (hm.block _ (lt_of_block h.blk) hF.1).trans h.blk, by rw [f1]; exact h.ub0, by rw [f1]; exact h.mq0, ⟨D, ⟨es, clock, (hm.block _ h.mlt hF.2.1).trans hq, hD1⟩, hM.keep hk⟩, ?_, fun p hp => (h.lt p hp).keep hk, ?_, h.ll, h.l0⟩⟩
  · rw [f1]
    exact row_keep h.led (fun q hq => hm.block q (h.led.lt q hq).2 (hF.2.2.1 q hq))
  · rw [f1]
    exact row_keep h.td (fun q hq => hm.block q (h.td.lt q hq).2 (hF.2.2.2 q hq))
theorem Hq.ik {ns : List ByteArray} {tr : List Te} {pt : List Pe} {n : Int} (h : Hq w B hb ab tb m av l tv tq ns trv tr ptv pt n) (hm : a_Mod (qfoot hb ab av trv ptv) w w') : Ik w w' := by
  refine ⟨hm.size, fun q cs fr hq => (hm.block q (lt_of_block hq) (fun hx => ?_)).trans hq⟩
  rcases mem_qfoot.1 hx with rfl | hx | hx | hx
  · exact obj_ne h.hp.blk hq (by decide) rfl
  · rcases a_mem_foot.1 hx with rfl | hx
    · exact obj_ne h.hp.ar.blk hq (by decide) rfl
    · obtain ⟨cur, hc⟩ := row_obj h.hp.ar.own hx
      exact obj_ne hc hq (by decide) rfl
  · obtain ⟨cur, hc⟩ := row_obj h.tr hx
    exact obj_ne hc hq (by decide) rfl
  · obtain ⟨cur, hc⟩ := row_obj h.pt hx
    exact obj_ne hc hq (by decide) rfl
theorem Hq.aside {ns : List ByteArray} {tr : List Te} {pt : List Pe} {n : Int} (h : Hq w B hb ab tb m av l tv tq ns trv tr ptv pt n) (hm : Mo (fun q => q = mq) w w') (ht : tq ≠ mq) (hq : ∀ cs T x, w.heap[mq]? ≠ some (.cells cs T x)) : Hq w' B hb ab tb m av l tv tq ns trv tr ptv pt n := by
  have hm2 : a_Mod [mq] w w' := ⟨hm.os, hm.tape, hm.output, hm.size, fun k hk hn => hm.block k hk (fun e => hn (by simp [e]))⟩
  obtain ⟨r1, r2⟩ := h.rows hm2 (fun k hk hx => by
    have e : k = mq := by simpa using hk
    subst e
    rcases hx with hx | hx
    · obtain ⟨cur, hc⟩ := row_obj h.tr hx
      exact hq _ _ _ hc
    · obtain ⟨cur, hc⟩ := row_obj h.pt hx
      exact hq _ _ _ hc)
  refine ⟨h.hp.keep hm2 (fun k hk => ?_), r1, r2⟩
  have e : k = mq := by simpa using hk
  subst e
  refine ⟨fun e => ?_, fun hx => ?_, fun hx => ?_⟩
  · rw [e] at hq
    exact hq _ _ _ h.hp.blk
  · rcases a_mem_foot.1 hx with e | hx
    · rw [e] at hq
      exact hq _ _ _ h.hp.ar.blk
    · obtain ⟨cur, hc⟩ := row_obj h.hp.ar.own hx
      exact hq _ _ _ hc
  · rcases n_mem_foot.1 hx with e | e | e
    · rw [e] at hq
      exact hq _ _ _ h.hp.tb.blk
    · exact ht e.symm
    · obtain ⟨cur, hc⟩ := row_obj h.hp.tb.own e
      exact hq _ _ _ hc
theorem Um.mcell (h : Um W l nm hb ub mq ledv tdv ls td L w) : ∀ cs T x, w.heap[mq]? ≠ some (.cells cs T x) := by
  obtain ⟨D, ⟨es, clock, hq, hD1⟩, hM⟩ := h.map
  intro cs T x e
  rw [hq] at e
  cases e
structure Uw (W w0 : World) (l : List Int) (nm : List ByteArray) (hb ub mq : Nat) (ledv tdv : Value) (ls : List (Nat × Value)) (td : List (Nat × Nat)) (E : Nat → Nat) (B ab tb : Nat) (m : Int) (av tv : Value) (tq : Nat) (trv0 ptv : Value) (s : Hst) (j : Nat) (w : World) : Prop where
  um : ∃ W' L, W'.heap.size = W.heap.size ∧ Um W' l nm hb ub mq ledv tdv ls td L w ∧ Ld L E
  hq : ∃ s' trv, Wrs s j s' ∧ Wj l nm.length E ls j s'.l ∧ Hq w B hb ab tb m av s'.l tv tq s'.ns trv s'.tr ptv s'.pt s'.n ∧ a_Nx w0 trv0 trv
  mo : Mo (fun q => q = mq ∨ q ∈ qfoot hb ab av trv0 ptv) w0 w
  ik : Ik w0 w
  bd : Ubd w0.heap.size ub mq ledv tdv
  lo : ∀ q ∈ qfoot hb ab av trv0 ptv, q < W.heap.size
  tq : tq < W.heap.size
theorem Uw.size {E : Nat → Nat} {j : Nat} (h : Uw W w0 l nm hb ub mq ledv tdv ls td E B ab tb m av tv tq trv0 ptv s j w) : W.heap.size ≤ w.heap.size := by
  obtain ⟨W', L, e, hu, _⟩ := h.um
  have := hu.b.size
  omega
theorem Uw.end_ {E : Nat → Nat} {j : Nat} {W' : World} {L' : List Nat} (h : Uw W w0 l nm hb ub mq ledv tdv ls td E B ab tb m av tv tq trv0 ptv s j w) (hu : Um W' l nm hb ub mq ledv tdv ls td L' w') (hW : W'.heap.size = W.heap.size) (hE : Ld L' E) (hk : Ik w w') (hm : Mo (fun q => q = mq) w w') : Uw W w0 l nm hb ub mq ledv tdv ls td E B ab tb m av tv tq trv0 ptv s j w' := by
  obtain ⟨s', trv, h1, h2, h3, h4⟩ := h.hq
  obtain ⟨W2, L2, e2, hu2, _⟩ := h.um
  refine ⟨⟨W', L', hW, hu, hE⟩, ⟨s', trv, h1, h2, h3.aside hm (fun e => ?_) hu2.mcell, h4⟩, h.mo.trans hm (fun q hq => Or.inl (Or.inl hq)), h.ik.trans hk, h.bd, h.lo, h.tq⟩
  have := h.tq
  have := hu2.mq0
  omega
theorem Uw.next {E : Nat → Nat} {j : Nat} (h : Uw W w0 l nm hb ub mq ledv tdv ls td E B ab tb m av tv tq trv0 ptv s j w) (hb' : Below w.heap.size w w') : Uw W w0 l nm hb ub mq ledv tdv ls td E B ab tb m av tv tq trv0 ptv s j w' := by
  obtain ⟨W2, L2, e2, hu2, hl2⟩ := h.um
  exact h.end_ (hu2.next hb') e2 hl2 (Ik.below hb') (Mo.ofBelow hb')
theorem Uw.wrote {E : Nat → Nat} {j k : Nat} {x : Int} {s1 : Hst} {trv : Value} (h : Uw W w0 l nm hb ub mq ledv tdv ls td E B ab tb m av tv tq trv0 ptv s j w) (h1 : Wrs s j s1) (hq : Hq w B hb ab tb m av s1.l tv tq s1.ns trv s1.tr ptv s1.pt s1.n) (hx : a_Nx w0 trv0 trv) (hk : k < s1.l.length) (hW : Wj l nm.length E ls (j + 1) (s1.l.set k x)) (hns : s1.ns.length = nm.length) (hr : Wrq w w' B hb ab tb m av (s1.l.set k x) tv tq s1.ns trv (trW s1.l s1.tr s1.pt k) ptv s1.pt (s1.n + 1)) : Uw W w0 l nm hb ub mq ledv tdv ls td E B ab tb m av tv tq trv0 ptv s (j + 1) w' := by
  obtain ⟨trv', g1, g2, g3⟩ := hr
  obtain ⟨W2, L2, e2, hu2, hl2⟩ := h.um
  have hik := hq.ik g2
  have hF : ∀ q, q ∈ qfoot hb ab av trv ptv → q < W.heap.size ∨ w0.heap.size ≤ q := fun q hq' => by
    rcases mem_qfoot.1 hq' with e | e | e | e
    · exact Or.inl (h.lo q (mem_qfoot.2 (Or.inl e)))
    · exact Or.inl (h.lo q (mem_qfoot.2 (Or.inr (Or.inl e))))
    · rcases hx q e with e | e
      · exact Or.inl (h.lo q (mem_qfoot.2 (Or.inr (Or.inr (Or.inl e)))))
      · exact Or.inr e
    · exact Or.inl (h.lo q (mem_qfoot.2 (Or.inr (Or.inr (Or.inr e)))))
  have hno : ∀ q, W.heap.size ≤ q → q < w0.heap.size → ¬ q ∈ qfoot hb ab av trv ptv := fun q a b c => by
    rcases hF q c with h9 | h9 <;> omega
  have hmo : Mo (fun q => q ∈ qfoot hb ab av trv ptv) w w' := ⟨g2.os, g2.tape, g2.output, g2.size, g2.block⟩
  have hbd := h.bd
  obtain ⟨W3, e3, hu3⟩ := hu2.beside hmo hik ⟨hno ub (by have := hu2.ub0; omega) hbd.u, hno mq (by have := hu2.mq0; omega) hbd.m, fun q hq' => hno q (by have := (hu2.led.lt q hq').1; omega) (hbd.l q hq'), fun q hq' => hno q (by have := (hu2.td.lt q hq').1; omega) (hbd.t q hq')⟩
  refine ⟨⟨W3, L2, by omega, hu3, hl2⟩, ⟨_, trv', Wrs.step h1 k x hk (by rw [hns]; exact hW.snd), hW, g1, hx.trans g3 h.mo.size⟩, h.mo.trans hmo (fun q hq' => ?_), h.ik.trans hik, h.bd, h.lo, h.tq⟩
  rcases mem_qfoot.1 hq' with e | e | e | e
  · exact Or.inl (Or.inr (mem_qfoot.2 (Or.inl e)))
  · exact Or.inl (Or.inr (mem_qfoot.2 (Or.inr (Or.inl e))))
  · rcases hx q e with e | e
    · exact Or.inl (Or.inr (mem_qfoot.2 (Or.inr (Or.inr (Or.inl e)))))
    · exact Or.inr e
  · exact Or.inl (Or.inr (mem_qfoot.2 (Or.inr (Or.inr (Or.inr e)))))
structure Few (s : Hst) : Prop where
  n0 : 0 ≤ s.n
  n1 : s.n ≤ 4611686018427000000
  p1 : s.pt.length ≤ 900000
  t1 : s.tr.length ≤ 900000
theorem Uw.bind {V : Nat → Bool} {E : Nat → Nat} {P : List (Nat × Nat)} {i j e : Nat} (h : Uw W w0 l nm hb ub mq ledv tdv ls td E B ab tb m av tv tq trv0 ptv s j w) (hns : s.ns = nm) (hf : Few s) (hB : B ≤ W.heap.size) (hs : Snd l V) (hn : NsB l nm.length) (hl : l.length ≤ 65536) {td2 : List (Nat × Nat)} (hJ : Jn l nm P E ls td2 i) (hj : j < ls.length) (cd : (ls.getD j (0, undef)).1 < l.length ∧ cellB l (((ls.getD j (0, undef)).1 : Nat) : Int) = true) (ce : e < l.length ∧ cellB l (e : Int) = true) (hE : utI l e = E (utI l (ls.getD j (0, undef)).1)) (hk : tdK (trmW l (ls.getD j (0, undef)).1) = 1) :
    Calls Tryz.prog 108 #[.pointer (some ⟨hb, 0, none⟩), .int .i64 (((ls.getD j (0, undef)).1 : Nat) : Int), .int .i64 (e : Int)] w fun r w' => (∃ rv, r = .returned rv) ∧ Uw W w0 l nm hb ub mq ledv tdv ls td E B ab tb m av tv tq trv0 ptv s (j + 1) w' := by
  have hX := hJ.nxt hj cd.1 ce.1 hE
  obtain ⟨s', trv, h1, h2, h3, h4⟩ := h.hq
  obtain ⟨k1, k2, k3, k4, k5, k6⟩ := h1.keeps
  obtain ⟨v1, v2, v3, v4, v5⟩ := h2.var hs hn hl hj hX hk
  obtain ⟨⟨V', hV'⟩, hn'⟩ := h2.snd
  have hlen := h2.len
  have hll : ls.length ≤ 65536 := by
    have h1 := hJ.cnt
    have h2 := ut_len (l := l)
    omega
  obtain ⟨⟨xb0, xb1⟩, mb, _⟩ := trm_may hV' (by omega) (k := e) (by omega)
  have hz := h.size
  have f1 := hf.n0
  have f2 := hf.n1
  have f3 := hf.p1
  have f4 := hf.t1
  refine (bindq_left h3.hp hV' _ e (by rw [h2.cel]; exact cd.2) (by rw [h2.cel]; exact ce.2) (by rw [hlen]; exact cd.1) (by rw [hlen]; exact ce.1) v1 v2 v3 (Q := fun w' => Uw W w0 l nm hb ub mq ledv tdv ls td E B ab tb m av tv tq trv0 ptv s (j + 1) w') (fun w1 hb1 => ?_)).mono fun r w' ⟨e1, e2⟩ => ⟨⟨_, e1⟩, e2⟩
  have hw := h.next hb1
  have hq1 := h3.below hb1
  refine (write_any hq1 (by have := hb1.size; omega) _ _ v4 xb0 xb1 mb (by omega) (by omega) (by rw [k2]; omega) (by omega)).mono fun r w' ⟨e1, e2⟩ => ⟨e1, ?_⟩
  exact hw.wrote h1 hq1 h4 v4 v5 (by rw [k1, hns]) e2
theorem Uw.merge {V : Nat → Bool} {E : Nat → Nat} {P : List (Nat × Nat)} {i j e : Nat} (h : Uw W w0 l nm hb ub mq ledv tdv ls td E B ab tb m av tv tq trv0 ptv s j w) (hns : s.ns = nm) (hnd : nm.Nodup) (hf : Few s) (hB : B ≤ W.heap.size) (hs : Snd l V) (hn : NsB l nm.length) (hl : l.length ≤ 65536) {td2 : List (Nat × Nat)} (hJ : Jn l nm P E ls td2 i) (hj : j < ls.length) (cd : (ls.getD j (0, undef)).1 < l.length ∧ cellB l (((ls.getD j (0, undef)).1 : Nat) : Int) = true) (ce : e < l.length ∧ cellB l (e : Int) = true) (hE : utI l e = E (utI l (ls.getD j (0, undef)).1)) (hk : tdK (trmW l (ls.getD j (0, undef)).1) ≠ 1) :
    Calls Tryz.prog 109 #[.pointer (some ⟨hb, 0, none⟩), .int .i64 (((ls.getD j (0, undef)).1 : Nat) : Int), .int .i64 (e : Int)] w fun r w' => (∃ rv, r = .returned rv) ∧ Uw W w0 l nm hb ub mq ledv tdv ls td E B ab tb m av tv tq trv0 ptv s (j + 1) w' := by
  have hX := hJ.nxt hj cd.1 ce.1 hE
  obtain ⟨s', trv, h1, h2, h3, h4⟩ := h.hq
  obtain ⟨k1, k2, k3, k4, k5, k6⟩ := h1.keeps
  have hlab : labU l nm (ls.getD j (0, undef)).1 e := by
    have h9 := (hJ.un.rep (utI l (ls.getD j (0, undef)).1) (by rw [utN_len]; exact utI_lt cd.1) (by rw [utN_of cd.1]; exact hk)).2.1
    rw [← hE] at h9
    exact (labU_iff cd.1 ce.1).1 h9
  obtain ⟨v1, v2, q, r, hq, hr, vq, vr, hw, hrq, v5⟩ := h2.comp hs hn hnd hl hj hX hk hlab
  obtain ⟨⟨V', hV'⟩, hn'⟩ := h2.snd
  have hlen := h2.len
  have hll : ls.length ≤ 65536 := by
    have h1 := hJ.cnt
    have h2 := ut_len (l := l)
    omega
  have hz := h.size
  have f1 := hf.n0
  have f2 := hf.n1
  have f3 := hf.p1
  have f4 := hf.t1
  refine (mergeq_gt h3.hp hV' _ e (by rw [h2.cel]; exact cd.2) (by rw [h2.cel]; exact ce.2) (by rw [hlen]; exact cd.1) (by rw [hlen]; exact ce.1) v1 v2 q r hq hr vq vr hw hrq (Q := fun w' => Uw W w0 l nm hb ub mq ledv tdv ls td E B ab tb m av tv tq trv0 ptv s (j + 1) w') (fun w1 hb1 => ?_)).mono fun r w' ⟨e1, e2⟩ => ⟨⟨_, e1⟩, e2⟩
  have hw := h.next hb1
  have hq1 := h3.below hb1
  refine (write_any hq1 (by have := hb1.size; omega) _ _ hq (wordOf_bd 5 (r : Int)).1 (wordOf_bd 5 (r : Int)).2 (may_fwdQ (by omega) (by omega)) (by omega) (by omega) (by rw [k2]; omega) (by omega)).mono fun r w' ⟨e1, e2⟩ => ⟨e1, ?_⟩
  exact hw.wrote h1 hq1 h4 hq v5 (by rw [k1, hns]) e2
end
end Go.Proofs.YtlibjdilicfcdaaGreatDoor

namespace Go.Proofs.YtlibjdilicfcdaaGreatDoor
set_option maxRecDepth 100000
open Go.RowKit Go.Maps
def ndP (l : List Int) (ps : List (Int × Int)) : List (Nat × Nat) := ps.map (fun p => (utI l p.1.toNat, utI l p.2.toNat))
theorem ndP_take {l : List Int} {ps : List (Int × Int)} {j : Nat} (hj : j < ps.length) : ndP l (ps.take (j + 1)) = ndP l (ps.take j) ++ [(utI l (ps.getD j (0, 0)).1.toNat, utI l (ps.getD j (0, 0)).2.toNat)] := by
  unfold ndP
  rw [List.take_succ_eq_append_getElem hj, List.map_append, show ps.getD j (0, 0) = ps[j] by simp [List.getD, hj]]
  rfl
structure UnR (s : Hst) (P : List (Nat × Nat)) (E : Nat → Nat) (n : Nat) (s' : Hst) : Prop where
  un : Un (utN s.l s.ns) P E []
  wf : Wf s.l s.ns.length E s'.l
  wr : Wrs s n s'
  nd : ∃ xs : List Nat, xs.length = n ∧ xs.Nodup ∧ ∀ x ∈ xs, x < (utT s.l).length ∧ E x ≠ x
section
variable {w wr w' : World} {B hb ab tb ub mq : Nat} {m : Int} {av tv : Value} {tq : Nat} {trv ptv : Value} {ledv tdv : Value} {ls : List (Nat × Value)} {td : List (Nat × Nat)} {L : List Nat} {s : Hst} {E : Nat → Nat} {P : List (Nat × Nat)} {F : Nat → Prop}
theorem Jn.start {l : List Int} {nm : List ByteArray} : Jn l nm [] id [] [] 0 := by
  refine ⟨Un.init _, fun p hp => (by cases hp), ?_, ?_, Nat.le_refl _, fun x _ hx => absurd rfl hx, fun x hx => ⟨fun h => absurd rfl h, fun ⟨p, hp, _⟩ => (by cases hp)⟩, List.nodup_nil⟩
  · have := fixN_top id (utT l).length
    simp only [List.length_nil]
    omega
  · have := fixN_top id (utT l).length
    simp only [List.length_nil]
    omega
theorem Uw.begin (hq : Hq w B hb ab tb m av s.l tv tq s.ns trv s.tr ptv s.pt s.n) (hS : SndN s.l s.ns.length) (hu : Um w s.l s.ns hb ub mq ledv tdv ls td L wr) (hE : Ld L E) : Uw w wr s.l s.ns hb ub mq ledv tdv ls td E B ab tb m av tv tq trv ptv s 0 wr := by
  refine ⟨⟨w, L, rfl, hu, hE⟩, ⟨s, trv, Wrs.nil, Wj.start hS, ?_, a_Nx.refl _ _⟩, Mo.refl _ _, Ik.refl _, hu.bd, fun q hq' => ?_, ?_⟩
  · exact hq.below hu.b
  · rcases mem_qfoot.1 hq' with e | e | e | e
    · rw [e]
      exact lt_of_block hq.hp.blk
    · exact hq.hp.ltz.2.1 q e
    · exact (hq.tr.lt q e).2
    · exact (hq.pt.lt q e).2
  · exact hq.hp.ltz.2.2 tq (n_mem_foot.2 (Or.inr (Or.inl rfl)))
theorem Uw.done (h : Uw w wr s.l s.ns hb ub mq ledv tdv ls td E B ab tb m av tv tq trv ptv s ls.length w') (hJ : Jn s.l s.ns P E ls [] 0) (hb1 : Below w.heap.size w wr) (hmq : w.heap.size ≤ mq) (hf : ∀ k, k ∈ qfoot hb ab av trv ptv → F k) : ∃ s', UnR s P E ls.length s' ∧ Hs w' B hb m (fun k => F k ∨ w.heap.size ≤ k) s' ∧ Mo F w w' := by
  obtain ⟨s', trv', h1, h2, h3, h4⟩ := h.hq
  have hz := hb1.size
  refine ⟨s', ⟨?_, h2.fin hJ, h1, ls.map (fun p => utI s.l p.1), by simp, hJ.nd, fun x hx => ?_⟩, ⟨ab, tb, av, tv, tq, trv', ptv, h3, fun k hk => ?_⟩, ?_⟩
  · have := hJ.un
    simpa [ndU] using this
  · obtain ⟨p, hp, rfl⟩ := List.mem_map.1 hx
    obtain ⟨W', L', _, hu, _⟩ := h.um
    have hlt := utI_lt (hu.lt p hp).lt
    exact ⟨hlt, (hJ.mem _ hlt).2 ⟨p, hp, rfl⟩⟩
  · rcases mem_qfoot.1 hk with e | e | e | e
    · exact Or.inl (hf _ (mem_qfoot.2 (Or.inl e)))
    · exact Or.inl (hf _ (mem_qfoot.2 (Or.inr (Or.inl e))))
    · rcases h4 k e with e | e
      · exact Or.inl (hf _ (mem_qfoot.2 (Or.inr (Or.inr (Or.inl e)))))
      · exact Or.inr (Nat.le_trans hz e)
    · exact Or.inl (hf _ (mem_qfoot.2 (Or.inr (Or.inr (Or.inr e)))))
  · refine (Mo.ofBelow hb1).trans h.mo (fun q hq => ?_)
    rcases hq with rfl | hq
    · exact Or.inr hmq
    · exact Or.inl (hf q hq)
end
end Go.Proofs.YtlibjdilicfcdaaGreatDoor

namespace Go.Proofs.YtlibjdilicfcdaaGreatDoor
set_option maxRecDepth 100000
open Go.RowKit Go.Maps
section
variable {W W' w0 w : World} {l : List Int} {V : Nat → Bool} {nm : List ByteArray} {B hb ab tb ub mq : Nat} {m : Int} {av tv : Value} {tq : Nat} {ptv trv0 : Value} {ledv tdv : Value} {ls : List (Nat × Value)} {td : List (Nat × Nat)} {L : List Nat} {s : Hst} {E : Nat → Nat} {P : List (Nat × Nat)} {i : Nat}
theorem tmcs_at : ∀ {ls : List (Nat × Value)} {j : Nat}, j < ls.length → ∀ k, k < 6 → (ls.flatMap (fun p => tmc l nm p.1 p.2))[j * 6 + k]? = (tmc l nm (ls.getD j (0, undef)).1 (ls.getD j (0, undef)).2)[k]?
  | [], j, h, _, _ => by simp at h
  | p :: r, 0, _, k, hk => by
    rw [List.flatMap_cons, Nat.zero_mul, Nat.zero_add, List.getElem?_append_left (by simp [tmc]; omega)]
    rfl
  | p :: r, j + 1, h, k, hk => by
    have h9 := tmcs_at (ls := r) (j := j) (by simpa using h) k hk
    rw [List.flatMap_cons, List.getElem?_append_right (by simp [tmc]; omega)]
    rw [show (j + 1) * 6 + k - (tmc l nm p.1 p.2).length = j * 6 + k by simp [tmc]; omega, h9]
    rfl
theorem Um.lrow (h : Um W l nm hb ub mq ledv tdv ls td L w) {j : Nat} (hj : j < ls.length) : ∃ g c, ledv = .slice (some ⟨g, 0, none⟩) ls.length c ∧ g < w.heap.size ∧ ∀ k, k < 6 → w.cell? ⟨g, j * 6 + k, none⟩ = (tmc l nm (ls.getD j (0, undef)).1 (ls.getD j (0, undef)).2)[k]? := by
  have h0 := h.led
  obtain ⟨ao, c, rfl, _⟩ := own_slq h0
  obtain ⟨g, rfl⟩ : ∃ g, ao = some ⟨g, 0, none⟩ := by
    rcases h0.2 with ⟨h1, h2⟩ | ⟨g, cap, cur, h1, _⟩
    · omega
    · injection h1 with h1 _ _
      exact ⟨g, h1⟩
  exact ⟨g, c, rfl, (h0.lt g rfl).2, fun k hk => (h0.cellAt (j * 6 + k) (by omega)).trans (tmcs_at hj k hk)⟩
set_option maxHeartbeats 8000000 in
theorem uwrite_any (h : Uw W w0 l nm hb ub mq ledv tdv ls td E B ab tb m av tv tq trv0 ptv s 0 w0) (hns : s.ns = nm) (hnd : nm.Nodup) (hf : Few s) (hB : B ≤ W.heap.size) (hs : Snd l V) (hn : NsB l nm.length) (hl : l.length ≤ 65536) {td2 : List (Nat × Nat)} (hJ : Jn l nm P E ls td2 i) :
    Calls Tryz.prog 70 #[.pointer (some ⟨ub, 0, none⟩)] w0 fun e w' => e = .returned (.tuple #[]) ∧ Uw W w0 l nm hb ub mq ledv tdv ls td E B ab tb m av tv tq trv0 ptv s ls.length w' := by
  have hll : ls.length ≤ 65536 := by
    have h1 := hJ.cnt
    have h2 := ut_len (l := l)
    omega
  have H := hid h
  have HJ := hid hJ
  have HS := hid hs
  have HN := hid hn
  have HF := hid hf
  have HNS := hid hns
  have HB := hid hB
  obtain ⟨W2, L2, _, hu2, _⟩ := h.um
  obtain ⟨la, lc, hle, _⟩ := own_slq hu2.led
  subst hle
  obtain ⟨⟨z0, z1, z2, z3⟩, ⟨z4, z5⟩, z6⟩ := hu2.cells
  clear h hJ hs hn hf hns hB hu2
  go_enter Tryz.func70, Tryz.ntmps70
  go_wp2
  clear z0 z1 z2 z3 z4 z5 z6
  go_loopw [3, 4, 10] (fun _ _ s10 wr => ∃ j : Nat, s10 = .int .i64 (j : Int) ∧ j ≤ ls.length ∧ Hid (Uw W w0 l nm hb ub mq (.slice la ls.length lc) tdv ls td E B ab tb m av tv tq trv0 ptv s j wr)) (fun _ _ s10 _ => ls.length - (intOf s10).toNat)
  case atStart => exact ⟨0, rfl, Nat.zero_le _, H⟩
  case round =>
    obtain ⟨j, rfl, hj, hS⟩ := hrel
    clear H
    by_cases hlt : j < ls.length
    · have hjz : (j : Int) < (ls.length : Int) := by omega
      obtain ⟨W3, L3, eW3, hu3, hE3⟩ := hS.out.um
      obtain ⟨g, c9, e9, zg, hc⟩ := hu3.lrow hlt
      injection e9 with e9 _ e10
      subst e9 e10
      have hT0 := hu3.lt (ls.getD j (0, undef)) (by rw [show ls.getD j (0, undef) = ls[j] by simp [List.getD, hlt]]; exact List.getElem_mem hlt)
      obtain ⟨d, hd⟩ : ∃ d, d = (ls.getD j (0, undef)).1 := ⟨_, rfl⟩
      obtain ⟨u, hu⟩ : ∃ u, u = (ls.getD j (0, undef)).2 := ⟨_, rfl⟩
      rw [← hd, ← hu] at hT0 hc
      obtain ⟨ao, dd, hue, _⟩ := id hT0.args
      rw [hue] at hc hT0
      have c0 : wr.cell? ⟨g, j * 6, none⟩ = some (.int .i64 (tdK (trmW l d))) := hc 0 (by omega)
      have c1 : wr.cell? ⟨g, j * 6 + 1, none⟩ = some (.int .i64 (tdA (trmW l d))) := hc 1 (by omega)
      have c2 : wr.cell? ⟨g, j * 6 + 2, none⟩ = some (.string (tdS l nm (trmW l d))) := hc 2 (by omega)
      have c3 : wr.cell? ⟨g, j * 6 + 3, none⟩ = some (.int .i64 (tdN (trmW l d))) := hc 3 (by omega)
      have c4 : wr.cell? ⟨g, j * 6 + 4, none⟩ = some (.slice ao (tdL l (trmW l d)).length dd) := hc 4 (by omega)
      have c5 : wr.cell? ⟨g, j * 6 + 5, none⟩ = some (.int .i64 (d : Int)) := hc 5 (by omega)
      have hb1 := below_alloc wr (tmB l nm d (.slice ao (tdL l (trmW l d)).length dd))
      have hx1 := hid (heap_alloc_new wr (tmB l nm d (.slice ao (tdL l (trmW l d)).length dd)))
      have hend := hid (uend_any HS.out HN.out hl (hu3.next hb1) hE3 (hT0.keep (Ik.below hb1)))
      have hS1 := hid (hS.out.next hb1)
      have hmz := hid hu3.mlt
      have HT0 := hid hT0
      have Hd := hid hd
      have HW3 := hid eW3
      have hcd : Hid (d < l.length ∧ cellB l (d : Int) = true) := ⟨hT0.lt, hT0.cell⟩
      clear hc hT0 hd hu hue hu3 hE3 hb1 eW3 hS
      by_cases hk : tdK (trmW l d) = 1
      · have k1 : (tdK (trmW l d) == 1) = true := by simpa using hk
        have Hk := hid hk
        clear hk
        go_wp2_with (first
          | (go_at_call 107; refine hend.out.mono ?_; rintro e w2 ⟨L4, d2, u2, rfl, hT2, hu2, hm2, hl2, hk2, hmo2⟩; obtain ⟨ao2, dd2, hue2, _⟩ := id hT2.args; subst hue2; have hS2 := hid (((hS1.out.end_ hm2 HW3.out hl2 hk2 hmo2).next (below_alloc w2 (tmB l nm d2 (.slice ao2 (tdL l (trmW l d2)).length dd2))))); have hx2 := hid ((Below.heap_alloc w2 (tmB l nm d2 (.slice ao2 (tdL l (trmW l d2)).length dd2)) _ (by have := hmo2.size; simp at this; omega)).trans ((hmo2.block _ (lt_of_block hx1.out) (fun h9 => by have := hmz.out; omega)).trans hx1.out)); have hx3 := hid (heap_alloc_new w2 (tmB l nm d2 (.slice ao2 (tdL l (trmW l d2)).length dd2))); obtain ⟨W5, L5, _, hu5, _⟩ := hS2.out.um; obtain ⟨⟨y0, y1, y2, y3⟩, _, y6⟩ := hu5.cells; obtain ⟨⟨x0, x1, x2, x3, x4, x5⟩, _, x6⟩ := tm_cells hx2.out; obtain ⟨⟨v0, v1, v2, v3, v4, v5⟩, _, v6⟩ := tm_cells hx3.out; have hce : Hid (d2 < l.length ∧ cellB l (d2 : Int) = true) := ⟨hT2.lt, hT2.cell⟩; have He2 := hid hu2; clear hT2 hu2 hm2 hl2 hk2 hmo2 hu5))
        have hbd : Hid (Calls Tryz.prog 108 #[.pointer (some ⟨hb, 0, none⟩), .int .i64 (d : Int), .int .i64 (d2 : Int)] (w2.alloc (tmB l nm d2 (.slice ao2 (tdL l (trmW l d2)).length dd2))).drew fun r w' => (∃ rv, r = .returned rv) ∧ Uw W w0 l nm hb ub mq (.slice (some ⟨g, 0, none⟩) ls.length lc) tdv ls td E B ab tb m av tv tq trv0 ptv s (j + 1) w') := by
          have h9 := (hS2.out.next (Below.refl _ _).drew).bind HNS.out HF.out HB.out HS.out HN.out hl HJ.out hlt (by rw [← Hd.out]; exact hcd.out) hce.out (by rw [← Hd.out]; exact He2.out) (by rw [← Hd.out]; exact Hk.out)
          rw [← Hd.out] at h9
          exact h9
        have D0 : Hid ((w2.alloc (tmB l nm d2 (.slice ao2 (tdL l (trmW l d2)).length dd2))).drew.cell? ⟨ub, 0, none⟩ = some (.pointer (some ⟨hb, 0, none⟩))) := y0
        have D5 : Hid ((w2.alloc (tmB l nm d2 (.slice ao2 (tdL l (trmW l d2)).length dd2))).drew.cell? ⟨wr.heap.size, 5, none⟩ = some (.int .i64 (d : Int))) := x5
        have V5 : Hid ((w2.alloc (tmB l nm d2 (.slice ao2 (tdL l (trmW l d2)).length dd2))).drew.cell? ⟨w2.heap.size, 5, none⟩ = some (.int .i64 (d2 : Int))) := v5
        obtain ⟨wd, hwd⟩ : ∃ wd, wd = (w2.alloc (tmB l nm d2 (.slice ao2 (tdL l (trmW l d2)).length dd2))).drew := ⟨_, rfl⟩
        clear hx1 hx2 hx3 hend hS1 hS2 HT0 y0 y1 y2 y3 y6 x0 x1 x2 x3 x4 x5 x6 v0 v1 v2 v3 v4 v5 v6
        refine wp_region_any (by kernel_rfl) ?_
        change wpAny _ _ _ _ _ _ _ (w2.alloc (tmB l nm d2 (.slice ao2 (tdL l (trmW l d2)).length dd2))).drew
        rw [← hwd] at D0 D5 V5 hbd ⊢
        clear hwd
        refine wpAny_invS (fun la a wx => la.size = 9 ∧ Clo (fun k => match k with | 1 => [0] | 2 => [1] | 3 => [2] | 5 => [4] | 7 => [6] | 8 => [3, 5, 7] | _ => []) la ∧ ∃ rv : Value, a = (⟨#[.pointer (some ⟨ub, 0, none⟩), undef, undef, .pointer (some ⟨wr.heap.size, 0, none⟩), .pointer (some ⟨w2.heap.size, 0, none⟩), .pointer (some ⟨ub, 0, none⟩), .pointer (some ⟨ub, 0, none⟩), .pointer (some ⟨ub, 1, none⟩), .slice (some ⟨g, 0, none⟩) ls.length lc, .int .i64 (ls.length : Int), .int .i64 (j : Int), .bool true, .pointer (some ⟨g, j * 6, none⟩), .agg #[.int .i64 (tdK (trmW l d)), .int .i64 (tdA (trmW l d)), .string (tdS l nm (trmW l d)), .int .i64 (tdN (trmW l d)), .slice ao (tdL l (trmW l d)).length dd, .int .i64 (d : Int)], .pointer (some ⟨ub, 0, none⟩), .agg #[.int .i64 (tdK (trmW l d)), .int .i64 (tdA (trmW l d)), .string (tdS l nm (trmW l d)), .int .i64 (tdN (trmW l d)), .slice ao (tdL l (trmW l d)).length dd, .int .i64 (d : Int)], tmU l nm d2 (.slice ao2 (tdL l (trmW l d2)).length dd2), .pointer (some ⟨wr.heap.size, 0, none⟩), .pointer (some ⟨wr.heap.size, 0, none⟩), .int .i64 (tdK (trmW l d)), .bool true, (selV (bitA la 0) (.pointer (some ⟨ub, 0, none⟩)) u21), (selV (bitA la 1) (.pointer (some ⟨ub, 0, none⟩)) u22), (selV (bitA la 2) (.pointer (some ⟨ub, 0, none⟩)) u23), (selV (bitA la 3) (.pointer (some ⟨hb, 0, none⟩)) u24), (selV (bitA la 4) (.pointer (some ⟨wr.heap.size, 5, none⟩)) u25), (selV (bitA la 5) (.int .i64 (d : Int)) u26), (selV (bitA la 6) (.pointer (some ⟨w2.heap.size, 5, none⟩)) u27), (selV (bitA la 7) (.int .i64 (d2 : Int)) u28), (selV (bitA la 8) (rv) u29), u30, u31, u32, u33, u34, u35, u36, u37, u38, u39], []⟩ : Act) ∧ (bitA la 8 = false → wx = wd) ∧ (bitA la 8 = true → Uw W w0 l nm hb ub mq (.slice (some ⟨g, 0, none⟩) ls.length lc) tdv ls td E B ab tb m av tv tq trv0 ptv s (j + 1) wx)) ?_ ?_ _ _ _ _ (by decide) ?_
        case refine_3 =>
          exact ⟨by simp, Clo.start _ _, undef, rfl, fun _ => rfl, fun e => absurd e (by decide)⟩
        case refine_1 =>
          rintro la a wx ⟨hl, hcl, rv, rfl, hs0, hs1⟩ i hi
          obtain ⟨i1, i2, i3⟩ := ready_spec hi
          have hiN : i < 9 := i1
          rw [← goppN hl hiN] at i2
          clear hi i1
          have hcs : i = 0 ∨ i = 1 ∨ i = 2 ∨ i = 3 ∨ i = 4 ∨ i = 5 ∨ i = 6 ∨ i = 7 ∨ i = 8 := by omega
          rcases hcs with rfl | rfl | rfl | rfl | rfl | rfl | rfl | rfl | rfl
          · have b8 : bitA la 8 = false := by cases e : bitA la 8 with | false => rfl | true => exact absurd (hcl 1 (hcl 2 (hcl 3 (hcl 8 e 3 (by decide)) 2 (by decide)) 1 (by decide)) 0 (by decide)) (by rw [i2]; simp)
            have e0 := hs0 b8
            subst e0
            have HL := hid hl; clear hl
            have Hb8 := hid b8; clear b8
            refine wpOpS_step rfl (fun K hK => ?_)
            go_simp
            refine hK _ _ ⟨by simpa using HL.out, hcl.step HL.out (by decide) ?_, rv, ?_, ?_, ?_⟩
            · intro d hd; cases hd
            · simp only [gsetN la 0 _ HL.out (by decide)]; rfl
            · intro _; rfl
            · intro e; rw [gsetN la 0 8 HL.out (by decide), if_neg (by decide), Hb8.out] at e; cases e
          · have i4 : bitA la 0 = true := by simpa [Region.binds, bitA] using i3
            have b8 : bitA la 8 = false := by cases e : bitA la 8 with | false => rfl | true => exact absurd (hcl 2 (hcl 3 (hcl 8 e 3 (by decide)) 2 (by decide)) 1 (by decide)) (by rw [i2]; simp)
            have e0 := hs0 b8
            subst e0
            have HL := hid hl; clear hl
            have Hb8 := hid b8; clear b8
            refine wpOpS_step rfl (fun K hK => ?_)
            simp only [i4, selV_t]
            go_simp
            refine hK _ _ ⟨by simpa using HL.out, hcl.step HL.out (by decide) ?_, rv, ?_, ?_, ?_⟩
            · show ∀ d ∈ [0], _; simp only [List.mem_singleton]; rintro d rfl; exact i4
            · simp only [gsetN la 1 _ HL.out (by decide), i4]; rfl
            · intro _; rfl
            · intro e; rw [gsetN la 1 8 HL.out (by decide), if_neg (by decide), Hb8.out] at e; cases e
          · have i4 : bitA la 1 = true := by simpa [Region.binds, bitA] using i3
            have b8 : bitA la 8 = false := by cases e : bitA la 8 with | false => rfl | true => exact absurd (hcl 3 (hcl 8 e 3 (by decide)) 2 (by decide)) (by rw [i2]; simp)
            have e0 := hs0 b8
            subst e0
            have HL := hid hl; clear hl
            have Hb8 := hid b8; clear b8
            refine wpOpS_step rfl (fun K hK => ?_)
            simp only [i4, selV_t]
            go_simp
            refine hK _ _ ⟨by simpa using HL.out, hcl.step HL.out (by decide) ?_, rv, ?_, ?_, ?_⟩
            · show ∀ d ∈ [1], _; simp only [List.mem_singleton]; rintro d rfl; exact i4
            · simp only [gsetN la 2 _ HL.out (by decide), i4]; rfl
            · intro _; rfl
            · intro e; rw [gsetN la 2 8 HL.out (by decide), if_neg (by decide), Hb8.out] at e; cases e
          · have i4 : bitA la 2 = true := by simpa [Region.binds, bitA] using i3
            have b8 : bitA la 8 = false := by cases e : bitA la 8 with | false => rfl | true => exact absurd (hcl 8 e 3 (by decide)) (by rw [i2]; simp)
            have e0 := hs0 b8
            subst e0
            have c0 := D0.out
            have HL := hid hl; clear hl
            have Hb8 := hid b8; clear b8
            refine wpOpS_step rfl (fun K hK => ?_)
            simp only [i4, selV_t]
            go_simp
            refine hK _ _ ⟨by simpa using HL.out, hcl.step HL.out (by decide) ?_, rv, ?_, ?_, ?_⟩
            · show ∀ d ∈ [2], _; simp only [List.mem_singleton]; rintro d rfl; exact i4
            · simp only [gsetN la 3 _ HL.out (by decide), i4]; rfl
            · intro _; rfl
            · intro e; rw [gsetN la 3 8 HL.out (by decide), if_neg (by decide), Hb8.out] at e; cases e
          · have b8 : bitA la 8 = false := by cases e : bitA la 8 with | false => rfl | true => exact absurd (hcl 5 (hcl 8 e 5 (by decide)) 4 (by decide)) (by rw [i2]; simp)
            have e0 := hs0 b8
            subst e0
            have HL := hid hl; clear hl
            have Hb8 := hid b8; clear b8
            refine wpOpS_step rfl (fun K hK => ?_)
            go_simp
            refine hK _ _ ⟨by simpa using HL.out, hcl.step HL.out (by decide) ?_, rv, ?_, ?_, ?_⟩
            · intro d hd; cases hd
            · simp only [gsetN la 4 _ HL.out (by decide)]; rfl
            · intro _; rfl
            · intro e; rw [gsetN la 4 8 HL.out (by decide), if_neg (by decide), Hb8.out] at e; cases e
          · have i4 : bitA la 4 = true := by simpa [Region.binds, bitA] using i3
            have b8 : bitA la 8 = false := by cases e : bitA la 8 with | false => rfl | true => exact absurd (hcl 8 e 5 (by decide)) (by rw [i2]; simp)
            have e0 := hs0 b8
            subst e0
            have c0 := D5.out
            have HL := hid hl; clear hl
            have Hb8 := hid b8; clear b8
            refine wpOpS_step rfl (fun K hK => ?_)
            simp only [i4, selV_t]
            go_simp
            refine hK _ _ ⟨by simpa using HL.out, hcl.step HL.out (by decide) ?_, rv, ?_, ?_, ?_⟩
            · show ∀ d ∈ [4], _; simp only [List.mem_singleton]; rintro d rfl; exact i4
            · simp only [gsetN la 5 _ HL.out (by decide), i4]; rfl
            · intro _; rfl
            · intro e; rw [gsetN la 5 8 HL.out (by decide), if_neg (by decide), Hb8.out] at e; cases e
          · have b8 : bitA la 8 = false := by cases e : bitA la 8 with | false => rfl | true => exact absurd (hcl 7 (hcl 8 e 7 (by decide)) 6 (by decide)) (by rw [i2]; simp)
            have e0 := hs0 b8
            subst e0
            have HL := hid hl; clear hl
            have Hb8 := hid b8; clear b8
            refine wpOpS_step rfl (fun K hK => ?_)
            go_simp
            refine hK _ _ ⟨by simpa using HL.out, hcl.step HL.out (by decide) ?_, rv, ?_, ?_, ?_⟩
            · intro d hd; cases hd
            · simp only [gsetN la 6 _ HL.out (by decide)]; rfl
            · intro _; rfl
            · intro e; rw [gsetN la 6 8 HL.out (by decide), if_neg (by decide), Hb8.out] at e; cases e
          · have i4 : bitA la 6 = true := by simpa [Region.binds, bitA] using i3
            have b8 : bitA la 8 = false := by cases e : bitA la 8 with | false => rfl | true => exact absurd (hcl 8 e 7 (by decide)) (by rw [i2]; simp)
            have e0 := hs0 b8
            subst e0
            have c0 := V5.out
            have HL := hid hl; clear hl
            have Hb8 := hid b8; clear b8
            refine wpOpS_step rfl (fun K hK => ?_)
            simp only [i4, selV_t]
            go_simp
            refine hK _ _ ⟨by simpa using HL.out, hcl.step HL.out (by decide) ?_, rv, ?_, ?_, ?_⟩
            · show ∀ d ∈ [6], _; simp only [List.mem_singleton]; rintro d rfl; exact i4
            · simp only [gsetN la 7 _ HL.out (by decide), i4]; rfl
            · intro _; rfl
            · intro e; rw [gsetN la 7 8 HL.out (by decide), if_neg (by decide), Hb8.out] at e; cases e
          · have i4 : bitA la 3 = true ∧ bitA la 5 = true ∧ bitA la 7 = true := by simpa [Region.binds, bitA] using i3
            have b8 : bitA la 8 = false := i2
            have e0 := hs0 b8
            subst e0
            have HL := hid hl; clear hl
            have Hb8 := hid b8; clear b8
            refine wpOpS_step rfl (fun K hK => ?_)
            simp only [i4.1, i4.2.1, i4.2.2, selV_t]
            go_simp
            go_at_call 108
            refine hbd.out.mono ?_
            rintro e wy ⟨⟨rv', rfl⟩, hS4⟩
            refine hK _ _ ⟨by simpa using HL.out, hcl.step HL.out (by decide) ?_, rv', ?_, ?_, ?_⟩
            · show ∀ d ∈ [3, 5, 7], _; simp only [List.mem_cons, List.not_mem_nil, or_false]; rintro d (rfl | rfl | rfl) <;> first | exact i4.1 | exact i4.2.1 | exact i4.2.2
            · simp only [gsetN la 8 _ HL.out (by decide), i4.1, i4.2.1, i4.2.2, Hb8.out]; rfl
            · intro e8; rw [gsetN la 8 8 HL.out (by decide), if_pos rfl] at e8; cases e8
            · intro _; exact hS4
        case refine_2 =>
          rintro la a wx ⟨hl, hcl, rv, rfl, hs0, hs1⟩ hr
          have n0 : bitA la 0 = true := by
            rw [goppN hl (by omega)]
            exact noneN hr (i := 0) (by decide) (by simp [Region.binds])
          have m0 : la[0]?.getD false = true := by simpa [bitA] using n0
          have n1 : bitA la 1 = true := by
            rw [goppN hl (by omega)]
            exact noneN hr (i := 1) (by decide) (by simp [Region.binds, m0])
          have m1 : la[1]?.getD false = true := by simpa [bitA] using n1
          have n2 : bitA la 2 = true := by
            rw [goppN hl (by omega)]
            exact noneN hr (i := 2) (by decide) (by simp [Region.binds, m1])
          have m2 : la[2]?.getD false = true := by simpa [bitA] using n2
          have n3 : bitA la 3 = true := by
            rw [goppN hl (by omega)]
            exact noneN hr (i := 3) (by decide) (by simp [Region.binds, m2])
          have m3 : la[3]?.getD false = true := by simpa [bitA] using n3
          have n4 : bitA la 4 = true := by
            rw [goppN hl (by omega)]
            exact noneN hr (i := 4) (by decide) (by simp [Region.binds])
          have m4 : la[4]?.getD false = true := by simpa [bitA] using n4
          have n5 : bitA la 5 = true := by
            rw [goppN hl (by omega)]
            exact noneN hr (i := 5) (by decide) (by simp [Region.binds, m4])
          have m5 : la[5]?.getD false = true := by simpa [bitA] using n5
          have n6 : bitA la 6 = true := by
            rw [goppN hl (by omega)]
            exact noneN hr (i := 6) (by decide) (by simp [Region.binds])
          have m6 : la[6]?.getD false = true := by simpa [bitA] using n6
          have n7 : bitA la 7 = true := by
            rw [goppN hl (by omega)]
            exact noneN hr (i := 7) (by decide) (by simp [Region.binds, m6])
          have m7 : la[7]?.getD false = true := by simpa [bitA] using n7
          have n8 : bitA la 8 = true := by
            rw [goppN hl (by omega)]
            exact noneN hr (i := 8) (by decide) (by simp [Region.binds, m3, m5, m7])
          have m8 : la[8]?.getD false = true := by simpa [bitA] using n8
          have hfin := hs1 n8
          simp only [n0, n1, n2, n3, n4, n5, n6, n7, n8, selV_t]
          clear n0 m0 n1 m1 n2 m2 n3 m3 n4 m4 n5 m5 n6 m6 n7 m7 n8 m8 hr hcl hs0 hs1
          have HS4 := hid hfin
          go_wp2
          go_roundw
          case rel => exact ⟨j + 1, congrArg (Value.int .i64) (by omega), by omega, HS4⟩
          case measure => simp [intOf]; omega
      · have k1 : (tdK (trmW l d) == 1) = false := beq_eq_false_iff_ne.2 hk
        have Hk := hid hk
        clear hk
        go_wp2_with (first
          | (go_at_call 107; refine hend.out.mono ?_; rintro e w2 ⟨L4, d2, u2, rfl, hT2, hu2, hm2, hl2, hk2, hmo2⟩; obtain ⟨ao2, dd2, hue2, _⟩ := id hT2.args; subst hue2; have hS2 := hid (((hS1.out.end_ hm2 HW3.out hl2 hk2 hmo2).next (below_alloc w2 (tmB l nm d2 (.slice ao2 (tdL l (trmW l d2)).length dd2))))); have hx2 := hid ((Below.heap_alloc w2 (tmB l nm d2 (.slice ao2 (tdL l (trmW l d2)).length dd2)) _ (by have := hmo2.size; simp at this; omega)).trans ((hmo2.block _ (lt_of_block hx1.out) (fun h9 => by have := hmz.out; omega)).trans hx1.out)); have hx3 := hid (heap_alloc_new w2 (tmB l nm d2 (.slice ao2 (tdL l (trmW l d2)).length dd2))); obtain ⟨W5, L5, _, hu5, _⟩ := hS2.out.um; obtain ⟨⟨y0, y1, y2, y3⟩, _, y6⟩ := hu5.cells; obtain ⟨⟨x0, x1, x2, x3, x4, x5⟩, _, x6⟩ := tm_cells hx2.out; obtain ⟨⟨v0, v1, v2, v3, v4, v5⟩, _, v6⟩ := tm_cells hx3.out; have hce : Hid (d2 < l.length ∧ cellB l (d2 : Int) = true) := ⟨hT2.lt, hT2.cell⟩; have He2 := hid hu2; clear hT2 hu2 hm2 hl2 hk2 hmo2 hu5))
        have hbd : Hid (Calls Tryz.prog 109 #[.pointer (some ⟨hb, 0, none⟩), .int .i64 (d : Int), .int .i64 (d2 : Int)] (w2.alloc (tmB l nm d2 (.slice ao2 (tdL l (trmW l d2)).length dd2))).drew fun r w' => (∃ rv, r = .returned rv) ∧ Uw W w0 l nm hb ub mq (.slice (some ⟨g, 0, none⟩) ls.length lc) tdv ls td E B ab tb m av tv tq trv0 ptv s (j + 1) w') := by
          have h9 := (hS2.out.next (Below.refl _ _).drew).merge HNS.out hnd HF.out HB.out HS.out HN.out hl HJ.out hlt (by rw [← Hd.out]; exact hcd.out) hce.out (by rw [← Hd.out]; exact He2.out) (by rw [← Hd.out]; exact Hk.out)
          rw [← Hd.out] at h9
          exact h9
        have D0 : Hid ((w2.alloc (tmB l nm d2 (.slice ao2 (tdL l (trmW l d2)).length dd2))).drew.cell? ⟨ub, 0, none⟩ = some (.pointer (some ⟨hb, 0, none⟩))) := y0
        have D5 : Hid ((w2.alloc (tmB l nm d2 (.slice ao2 (tdL l (trmW l d2)).length dd2))).drew.cell? ⟨wr.heap.size, 5, none⟩ = some (.int .i64 (d : Int))) := x5
        have V5 : Hid ((w2.alloc (tmB l nm d2 (.slice ao2 (tdL l (trmW l d2)).length dd2))).drew.cell? ⟨w2.heap.size, 5, none⟩ = some (.int .i64 (d2 : Int))) := v5
        obtain ⟨wd, hwd⟩ : ∃ wd, wd = (w2.alloc (tmB l nm d2 (.slice ao2 (tdL l (trmW l d2)).length dd2))).drew := ⟨_, rfl⟩
        clear hx1 hx2 hx3 hend hS1 hS2 HT0 y0 y1 y2 y3 y6 x0 x1 x2 x3 x4 x5 x6 v0 v1 v2 v3 v4 v5 v6
        refine wp_region_any (by kernel_rfl) ?_
        change wpAny _ _ _ _ _ _ _ (w2.alloc (tmB l nm d2 (.slice ao2 (tdL l (trmW l d2)).length dd2))).drew
        rw [← hwd] at D0 D5 V5 hbd ⊢
        clear hwd
        refine wpAny_invS (fun la a wx => la.size = 9 ∧ Clo (fun k => match k with | 1 => [0] | 2 => [1] | 3 => [2] | 5 => [4] | 7 => [6] | 8 => [3, 5, 7] | _ => []) la ∧ ∃ rv : Value, a = (⟨#[.pointer (some ⟨ub, 0, none⟩), undef, undef, .pointer (some ⟨wr.heap.size, 0, none⟩), .pointer (some ⟨w2.heap.size, 0, none⟩), .pointer (some ⟨ub, 0, none⟩), .pointer (some ⟨ub, 0, none⟩), .pointer (some ⟨ub, 1, none⟩), .slice (some ⟨g, 0, none⟩) ls.length lc, .int .i64 (ls.length : Int), .int .i64 (j : Int), .bool true, .pointer (some ⟨g, j * 6, none⟩), .agg #[.int .i64 (tdK (trmW l d)), .int .i64 (tdA (trmW l d)), .string (tdS l nm (trmW l d)), .int .i64 (tdN (trmW l d)), .slice ao (tdL l (trmW l d)).length dd, .int .i64 (d : Int)], .pointer (some ⟨ub, 0, none⟩), .agg #[.int .i64 (tdK (trmW l d)), .int .i64 (tdA (trmW l d)), .string (tdS l nm (trmW l d)), .int .i64 (tdN (trmW l d)), .slice ao (tdL l (trmW l d)).length dd, .int .i64 (d : Int)], tmU l nm d2 (.slice ao2 (tdL l (trmW l d2)).length dd2), .pointer (some ⟨wr.heap.size, 0, none⟩), .pointer (some ⟨wr.heap.size, 0, none⟩), .int .i64 (tdK (trmW l d)), .bool false, u21, u22, u23, u24, u25, u26, u27, u28, u29, (selV (bitA la 0) (.pointer (some ⟨ub, 0, none⟩)) u30), (selV (bitA la 1) (.pointer (some ⟨ub, 0, none⟩)) u31), (selV (bitA la 2) (.pointer (some ⟨ub, 0, none⟩)) u32), (selV (bitA la 3) (.pointer (some ⟨hb, 0, none⟩)) u33), (selV (bitA la 4) (.pointer (some ⟨wr.heap.size, 5, none⟩)) u34), (selV (bitA la 5) (.int .i64 (d : Int)) u35), (selV (bitA la 6) (.pointer (some ⟨w2.heap.size, 5, none⟩)) u36), (selV (bitA la 7) (.int .i64 (d2 : Int)) u37), (selV (bitA la 8) (rv) u38), u39], []⟩ : Act) ∧ (bitA la 8 = false → wx = wd) ∧ (bitA la 8 = true → Uw W w0 l nm hb ub mq (.slice (some ⟨g, 0, none⟩) ls.length lc) tdv ls td E B ab tb m av tv tq trv0 ptv s (j + 1) wx)) ?_ ?_ _ _ _ _ (by decide) ?_
        case refine_3 =>
          exact ⟨by simp, Clo.start _ _, undef, rfl, fun _ => rfl, fun e => absurd e (by decide)⟩
        case refine_1 =>
          rintro la a wx ⟨hl, hcl, rv, rfl, hs0, hs1⟩ i hi
          obtain ⟨i1, i2, i3⟩ := ready_spec hi
          have hiN : i < 9 := i1
          rw [← goppN hl hiN] at i2
          clear hi i1
          have hcs : i = 0 ∨ i = 1 ∨ i = 2 ∨ i = 3 ∨ i = 4 ∨ i = 5 ∨ i = 6 ∨ i = 7 ∨ i = 8 := by omega
          rcases hcs with rfl | rfl | rfl | rfl | rfl | rfl | rfl | rfl | rfl
          · have b8 : bitA la 8 = false := by cases e : bitA la 8 with | false => rfl | true => exact absurd (hcl 1 (hcl 2 (hcl 3 (hcl 8 e 3 (by decide)) 2 (by decide)) 1 (by decide)) 0 (by decide)) (by rw [i2]; simp)
            have e0 := hs0 b8
            subst e0
            have HL := hid hl; clear hl
            have Hb8 := hid b8; clear b8
            refine wpOpS_step rfl (fun K hK => ?_)
            go_simp
            refine hK _ _ ⟨by simpa using HL.out, hcl.step HL.out (by decide) ?_, rv, ?_, ?_, ?_⟩
            · intro d hd; cases hd
            · simp only [gsetN la 0 _ HL.out (by decide)]; rfl
            · intro _; rfl
            · intro e; rw [gsetN la 0 8 HL.out (by decide), if_neg (by decide), Hb8.out] at e; cases e
          · have i4 : bitA la 0 = true := by simpa [Region.binds, bitA] using i3
            have b8 : bitA la 8 = false := by cases e : bitA la 8 with | false => rfl | true => exact absurd (hcl 2 (hcl 3 (hcl 8 e 3 (by decide)) 2 (by decide)) 1 (by decide)) (by rw [i2]; simp)
            have e0 := hs0 b8
            subst e0
            have HL := hid hl; clear hl
            have Hb8 := hid b8; clear b8
            refine wpOpS_step rfl (fun K hK => ?_)
            simp only [i4, selV_t]
            go_simp
            refine hK _ _ ⟨by simpa using HL.out, hcl.step HL.out (by decide) ?_, rv, ?_, ?_, ?_⟩
            · show ∀ d ∈ [0], _; simp only [List.mem_singleton]; rintro d rfl; exact i4
            · simp only [gsetN la 1 _ HL.out (by decide), i4]; rfl
            · intro _; rfl
            · intro e; rw [gsetN la 1 8 HL.out (by decide), if_neg (by decide), Hb8.out] at e; cases e
          · have i4 : bitA la 1 = true := by simpa [Region.binds, bitA] using i3
            have b8 : bitA la 8 = false := by cases e : bitA la 8 with | false => rfl | true => exact absurd (hcl 3 (hcl 8 e 3 (by decide)) 2 (by decide)) (by rw [i2]; simp)
            have e0 := hs0 b8
            subst e0
            have HL := hid hl; clear hl
            have Hb8 := hid b8; clear b8
            refine wpOpS_step rfl (fun K hK => ?_)
            simp only [i4, selV_t]
            go_simp
            refine hK _ _ ⟨by simpa using HL.out, hcl.step HL.out (by decide) ?_, rv, ?_, ?_, ?_⟩
            · show ∀ d ∈ [1], _; simp only [List.mem_singleton]; rintro d rfl; exact i4
            · simp only [gsetN la 2 _ HL.out (by decide), i4]; rfl
            · intro _; rfl
            · intro e; rw [gsetN la 2 8 HL.out (by decide), if_neg (by decide), Hb8.out] at e; cases e
          · have i4 : bitA la 2 = true := by simpa [Region.binds, bitA] using i3
            have b8 : bitA la 8 = false := by cases e : bitA la 8 with | false => rfl | true => exact absurd (hcl 8 e 3 (by decide)) (by rw [i2]; simp)
            have e0 := hs0 b8
            subst e0
            have c0 := D0.out
            have HL := hid hl; clear hl
            have Hb8 := hid b8; clear b8
            refine wpOpS_step rfl (fun K hK => ?_)
            simp only [i4, selV_t]
            go_simp
            refine hK _ _ ⟨by simpa using HL.out, hcl.step HL.out (by decide) ?_, rv, ?_, ?_, ?_⟩
            · show ∀ d ∈ [2], _; simp only [List.mem_singleton]; rintro d rfl; exact i4
            · simp only [gsetN la 3 _ HL.out (by decide), i4]; rfl
            · intro _; rfl
            · intro e; rw [gsetN la 3 8 HL.out (by decide), if_neg (by decide), Hb8.out] at e; cases e
          · have b8 : bitA la 8 = false := by cases e : bitA la 8 with | false => rfl | true => exact absurd (hcl 5 (hcl 8 e 5 (by decide)) 4 (by decide)) (by rw [i2]; simp)
            have e0 := hs0 b8
            subst e0
            have HL := hid hl; clear hl
            have Hb8 := hid b8; clear b8
            refine wpOpS_step rfl (fun K hK => ?_)
            go_simp
            refine hK _ _ ⟨by simpa using HL.out, hcl.step HL.out (by decide) ?_, rv, ?_, ?_, ?_⟩
            · intro d hd; cases hd
            · simp only [gsetN la 4 _ HL.out (by decide)]; rfl
            · intro _; rfl
            · intro e; rw [gsetN la 4 8 HL.out (by decide), if_neg (by decide), Hb8.out] at e; cases e
          · have i4 : bitA la 4 = true := by simpa [Region.binds, bitA] using i3
            have b8 : bitA la 8 = false := by cases e : bitA la 8 with | false => rfl | true => exact absurd (hcl 8 e 5 (by decide)) (by rw [i2]; simp)
            have e0 := hs0 b8
            subst e0
            have c0 := D5.out
            have HL := hid hl; clear hl
            have Hb8 := hid b8; clear b8
            refine wpOpS_step rfl (fun K hK => ?_)
            simp only [i4, selV_t]
            go_simp
            refine hK _ _ ⟨by simpa using HL.out, hcl.step HL.out (by decide) ?_, rv, ?_, ?_, ?_⟩
            · show ∀ d ∈ [4], _; simp only [List.mem_singleton]; rintro d rfl; exact i4
            · simp only [gsetN la 5 _ HL.out (by decide), i4]; rfl
            · intro _; rfl
            · intro e; rw [gsetN la 5 8 HL.out (by decide), if_neg (by decide), Hb8.out] at e; cases e
          · have b8 : bitA la 8 = false := by cases e : bitA la 8 with | false => rfl | true => exact absurd (hcl 7 (hcl 8 e 7 (by decide)) 6 (by decide)) (by rw [i2]; simp)
            have e0 := hs0 b8
            subst e0
            have HL := hid hl; clear hl
            have Hb8 := hid b8; clear b8
            refine wpOpS_step rfl (fun K hK => ?_)
            go_simp
            refine hK _ _ ⟨by simpa using HL.out, hcl.step HL.out (by decide) ?_, rv, ?_, ?_, ?_⟩
            · intro d hd; cases hd
            · simp only [gsetN la 6 _ HL.out (by decide)]; rfl
            · intro _; rfl
            · intro e; rw [gsetN la 6 8 HL.out (by decide), if_neg (by decide), Hb8.out] at e; cases e
          · have i4 : bitA la 6 = true := by simpa [Region.binds, bitA] using i3
            have b8 : bitA la 8 = false := by cases e : bitA la 8 with | false => rfl | true => exact absurd (hcl 8 e 7 (by decide)) (by rw [i2]; simp)
            have e0 := hs0 b8
            subst e0
            have c0 := V5.out
            have HL := hid hl; clear hl
            have Hb8 := hid b8; clear b8
            refine wpOpS_step rfl (fun K hK => ?_)
            simp only [i4, selV_t]
            go_simp
            refine hK _ _ ⟨by simpa using HL.out, hcl.step HL.out (by decide) ?_, rv, ?_, ?_, ?_⟩
            · show ∀ d ∈ [6], _; simp only [List.mem_singleton]; rintro d rfl; exact i4
            · simp only [gsetN la 7 _ HL.out (by decide), i4]; rfl
            · intro _; rfl
            · intro e; rw [gsetN la 7 8 HL.out (by decide), if_neg (by decide), Hb8.out] at e; cases e
          · have i4 : bitA la 3 = true ∧ bitA la 5 = true ∧ bitA la 7 = true := by simpa [Region.binds, bitA] using i3
            have b8 : bitA la 8 = false := i2
            have e0 := hs0 b8
            subst e0
            have HL := hid hl; clear hl
            have Hb8 := hid b8; clear b8
            refine wpOpS_step rfl (fun K hK => ?_)
            simp only [i4.1, i4.2.1, i4.2.2, selV_t]
            go_simp
            go_at_call 109
            refine hbd.out.mono ?_
            rintro e wy ⟨⟨rv', rfl⟩, hS4⟩
            refine hK _ _ ⟨by simpa using HL.out, hcl.step HL.out (by decide) ?_, rv', ?_, ?_, ?_⟩
            · show ∀ d ∈ [3, 5, 7], _; simp only [List.mem_cons, List.not_mem_nil, or_false]; rintro d (rfl | rfl | rfl) <;> first | exact i4.1 | exact i4.2.1 | exact i4.2.2
            · simp only [gsetN la 8 _ HL.out (by decide), i4.1, i4.2.1, i4.2.2, Hb8.out]; rfl
            · intro e8; rw [gsetN la 8 8 HL.out (by decide), if_pos rfl] at e8; cases e8
            · intro _; exact hS4
        case refine_2 =>
          rintro la a wx ⟨hl, hcl, rv, rfl, hs0, hs1⟩ hr
          have n0 : bitA la 0 = true := by
            rw [goppN hl (by omega)]
            exact noneN hr (i := 0) (by decide) (by simp [Region.binds])
          have m0 : la[0]?.getD false = true := by simpa [bitA] using n0
          have n1 : bitA la 1 = true := by
            rw [goppN hl (by omega)]
            exact noneN hr (i := 1) (by decide) (by simp [Region.binds, m0])
          have m1 : la[1]?.getD false = true := by simpa [bitA] using n1
          have n2 : bitA la 2 = true := by
            rw [goppN hl (by omega)]
            exact noneN hr (i := 2) (by decide) (by simp [Region.binds, m1])
          have m2 : la[2]?.getD false = true := by simpa [bitA] using n2
          have n3 : bitA la 3 = true := by
            rw [goppN hl (by omega)]
            exact noneN hr (i := 3) (by decide) (by simp [Region.binds, m2])
          have m3 : la[3]?.getD false = true := by simpa [bitA] using n3
          have n4 : bitA la 4 = true := by
            rw [goppN hl (by omega)]
            exact noneN hr (i := 4) (by decide) (by simp [Region.binds])
          have m4 : la[4]?.getD false = true := by simpa [bitA] using n4
          have n5 : bitA la 5 = true := by
            rw [goppN hl (by omega)]
            exact noneN hr (i := 5) (by decide) (by simp [Region.binds, m4])
          have m5 : la[5]?.getD false = true := by simpa [bitA] using n5
          have n6 : bitA la 6 = true := by
            rw [goppN hl (by omega)]
            exact noneN hr (i := 6) (by decide) (by simp [Region.binds])
          have m6 : la[6]?.getD false = true := by simpa [bitA] using n6
          have n7 : bitA la 7 = true := by
            rw [goppN hl (by omega)]
            exact noneN hr (i := 7) (by decide) (by simp [Region.binds, m6])
          have m7 : la[7]?.getD false = true := by simpa [bitA] using n7
          have n8 : bitA la 8 = true := by
            rw [goppN hl (by omega)]
            exact noneN hr (i := 8) (by decide) (by simp [Region.binds, m3, m5, m7])
          have m8 : la[8]?.getD false = true := by simpa [bitA] using n8
          have hfin := hs1 n8
          simp only [n0, n1, n2, n3, n4, n5, n6, n7, n8, selV_t]
          clear n0 m0 n1 m1 n2 m2 n3 m3 n4 m4 n5 m5 n6 m6 n7 m7 n8 m8 hr hcl hs0 hs1
          have HS4 := hid hfin
          go_wp2
          go_roundw
          case rel => exact ⟨j + 1, congrArg (Value.int .i64) (by omega), by omega, HS4⟩
          case measure => simp [intOf]; omega
    · obtain rfl : j = ls.length := by omega
      go_wp2
      go_end0
      exact ⟨rfl, hS.out⟩
end
end Go.Proofs.YtlibjdilicfcdaaGreatDoor

/- Terms with equations: what is tied, as plain data. -/
import Derived.BigQuiet
import Derived.Test.Ytncileojdighnaaow45Z
namespace Go.Proofs.Ytncileojdighnaa
set_option maxRecDepth 100000
open Go.RowKit
theorem inN_putS {l : List ByteArray} {s x : ByteArray} (h : inN l x = true) : inN (putS l s) x = true := by
  unfold putS
  split
  · exact h
  · rw [inN_snoc, h]; rfl
theorem inN_self (l : List ByteArray) (s : ByteArray) : inN (putS l s) s = true := by
  unfold putS
  split
  · assumption
  · rw [inN_snoc]; simp
mutual
theorem inN_namX : ∀ (l : List ByteArray) (x : Ex) (s : ByteArray), inN l s = true → inN (namX l x) s = true
  | l, .mk k n m xs, s, h => by
    rw [namX]
    split
    · exact inN_namXs _ xs s (inN_putS h)
    · exact inN_namXs _ xs s h
theorem inN_namXs : ∀ (l : List ByteArray) (xs : List Ex) (s : ByteArray), inN l s = true → inN (namXs l xs) s = true
  | l, [], s, h => by rw [namXs]; exact h
  | l, x :: r, s, h => by rw [namXs]; exact inN_namXs _ r s (inN_namX l x s h)
end
theorem inN_namQ : ∀ (l : List ByteArray) (qs : List (ByteArray × Ex)) (s : ByteArray), inN l s = true → inN (namQ l qs) s = true
  | l, [], s, h => by rw [namQ]; exact h
  | l, q :: r, s, h => by rw [namQ]; exact inN_namQ _ r s (inN_namX _ q.2 s (inN_putS h))
mutual
theorem okX_mono {l l' : List ByteArray} (h : ∀ s, inN l s = true → inN l' s = true) : ∀ x : Ex, okX l x → okX l' x
  | .mk _ n _ xs, hx => ⟨fun hn => h n (hx.1 hn), okXs_mono h xs hx.2⟩
theorem okXs_mono {l l' : List ByteArray} (h : ∀ s, inN l s = true → inN l' s = true) : ∀ xs : List Ex, okXs l xs → okXs l' xs
  | [], _ => trivial
  | x :: r, hx => ⟨okX_mono h x hx.1, okXs_mono h r hx.2⟩
end
mutual
theorem okX_namX : ∀ (l : List ByteArray) (x : Ex), okX (namX l x) x
  | l, .mk k n m xs => by
    rw [namX]
    refine ⟨fun hn => ?_, ?_⟩
    · rw [if_pos hn]
      exact inN_namXs _ xs n (inN_self l n)
    · split
      · exact okXs_namXs _ xs
      · exact okXs_namXs _ xs
theorem okXs_namXs : ∀ (l : List ByteArray) (xs : List Ex), okXs (namXs l xs) xs
  | l, [] => trivial
  | l, x :: r => by
    rw [namXs]
    exact ⟨okX_mono (fun s hs => inN_namXs _ r s hs) x (okX_namX l x), okXs_namXs _ r⟩
end
theorem okQ_namQ : ∀ (l : List ByteArray) (qs : List (ByteArray × Ex)), ∀ q ∈ qs, inN (namQ l qs) q.1 = true ∧ okX (namQ l qs) q.2
  | l, [], q, h => by cases h
  | l, p :: r, q, h => by
    rw [namQ]
    rcases List.mem_cons.1 h with e | e
    · subst e
      exact ⟨inN_namQ _ r _ (inN_namX _ q.2 _ (inN_self l q.1)), okX_mono (fun s hs => inN_namQ _ r s hs) q.2 (okX_namX _ q.2)⟩
    · exact okQ_namQ _ r q e
theorem okA_x (xs : List Ex) (qs : List (ByteArray × Ex)) : okXs (namA xs qs) xs := okXs_mono (fun s hs => inN_namQ _ qs s hs) xs (okXs_namXs [] xs)
theorem okA_q (xs : List Ex) (qs : List (ByteArray × Ex)) : ∀ q ∈ qs, inN (namA xs qs) q.1 = true ∧ okX (namA xs qs) q.2 := okQ_namQ _ qs
structure GoodQ (qs : List (ByteArray × Ex)) : Prop where
  nm : ∀ q ∈ qs, isW q.1 4 = true ∧ isU q.1 = false
  ex : ∀ q ∈ qs, goodX 0 q.2 = true
  nd : ∀ i j, i < j → j < qs.length → (qs.getD i q0).1 ≠ (qs.getD j q0).1
theorem chkQ_good (n : Nat) : ∀ (l : List ByteArray) (qs : List (ByteArray × Ex)) (i : Nat), (chkQ n l qs i).1 = 0 → GoodQ qs ∧ ∀ q ∈ qs, q.1 ∉ l
  | l, [], i, _ => ⟨⟨by simp, by simp, fun i j _ h => by simp at h⟩, by simp⟩
  | l, q :: r, i, h => by
    rw [chkQ] at h
    split at h
    · cases h
    · rename_i h1
      split at h
      · cases h
      · rename_i h2
        split at h
        · cases h
        · rename_i h3
          obtain ⟨hg, hn⟩ := chkQ_good n (l ++ [q.1]) r (i + 1) h
          have e1 : isW q.1 4 = true := by
            cases hw : isW q.1 4 with
            | true => rfl
            | false => exact absurd (Or.inl hw) h1
          have e2 : isU q.1 = false := by
            cases hw : isU q.1 with
            | false => rfl
            | true => exact absurd (Or.inr hw) h1
          have e3 : goodX 0 q.2 = true := by simpa using h3
          have e4 : q.1 ∉ l := fun hm => h2 (inN_iff.2 hm)
          refine ⟨⟨fun y hy => ?_, fun y hy => ?_, fun a b hab hb => ?_⟩, fun y hy => ?_⟩
          · rcases List.mem_cons.1 hy with e | e
            · subst e; exact ⟨e1, e2⟩
            · exact hg.nm y e
          · rcases List.mem_cons.1 hy with e | e
            · subst e; exact e3
            · exact hg.ex y e
          · cases b with
            | zero => omega
            | succ b =>
              have hb' : b < r.length := by simpa using hb
              cases a with
              | zero =>
                intro e
                have hm : (r.getD b q0) ∈ r := by simp [List.getD, hb']
                have := hn _ hm
                simp at e this
                exact this.2 e.symm
              | succ a =>
                have := hg.nd a b (by omega) hb'
                simpa using this
          · rcases List.mem_cons.1 hy with e | e
            · subst e; exact e4
            · intro hm
              have := hn y e
              simp at this
              exact this.1 hm
structure GoodT (xs : List Ex) (qs : List (ByteArray × Ex)) : Prop where
  xl : xs.length ≤ 4096
  ql : qs.length ≤ 4096
  ex : ∀ x ∈ xs, goodX 0 x = true
  q : GoodQ qs
theorem chkT_good {xs : List Ex} {qs : List (ByteArray × Ex)} (h : (chkT xs qs).1 = 0) : GoodT xs qs := by
  unfold chkT at h
  split at h
  · cases h
  · split at h
    · cases h
    · split at h
      · cases h
      · rename_i h1 h2 h3
        refine ⟨by omega, by omega, fun x hx => ?_, (chkQ_good _ _ _ _ h).1⟩
        have := ixOf_all _ xs h3 x hx
        simpa using this
def tieN (xs : List Ex) (qs : List (ByteArray × Ex)) : List Nd := (layQ (namA xs qs) (layXs (namA xs qs) (List.replicate (namA xs qs).length varN) xs).2 qs).2
def tieR (xs : List Ex) (qs : List (ByteArray × Ex)) : List Int := (layXs (namA xs qs) (List.replicate (namA xs qs).length varN) xs).1
def tieP (xs : List Ex) (qs : List (ByteArray × Ex)) : List (Nat × Nat) := (layQ (namA xs qs) (layXs (namA xs qs) (List.replicate (namA xs qs).length varN) xs).2 qs).1
def tieE (xs : List Ex) (qs : List (ByteArray × Ex)) : Nat → Nat := bindAll id (tieP xs qs)
def tieG (xs : List Ex) (qs : List (ByteArray × Ex)) : Gf := gE (tieN xs qs) (tieR xs qs) (tieE xs qs)
theorem tie_flat (xs : List Ex) (qs : List (ByteArray × Ex)) : tieR xs qs = (flatXs (namA xs qs) (namA xs qs).length xs).1 ∧ tieN xs qs = List.replicate (namA xs qs).length varN ++ (flatXs (namA xs qs) (namA xs qs).length xs).2 ++ (flatQ (namA xs qs) ((namA xs qs).length + (flatXs (namA xs qs) (namA xs qs).length xs).2.length) qs).2 ∧ tieP xs qs = (flatQ (namA xs qs) ((namA xs qs).length + (flatXs (namA xs qs) (namA xs qs).length xs).2.length) qs).1 := by
  unfold tieR tieN tieP
  rw [lay_flatQ, lay_flats]
  simp
theorem bindAll_lt (M : Nat) : ∀ (ps : List (Nat × Nat)) (E : Nat → Nat), (∀ p ∈ ps, p.1 < M ∧ p.2 < M) → (∀ x, x < M → E x < M) → ∀ x, x < M → bindAll E ps x < M
  | [], E, _, h, x, hx => h x hx
  | p :: r, E, hp, h, x, hx => by
    refine bindAll_lt M r (bindE E p) (fun q hq => hp q (by simp [hq])) (fun y hy => ?_) x hx
    unfold bindE
    split
    · exact h _ (hp p (by simp)).2
    · exact h y hy
theorem goodXs_all0 {xs : List Ex} (h : ∀ x ∈ xs, goodX 0 x = true) : goodXs 0 xs = true := (goodXs_mem 0).2 h
structure TieGood (xs : List Ex) (qs : List (ByteArray × Ex)) : Prop where
  len : (tieN xs qs).length = (namA xs qs).length + othA xs qs
  nd : ∀ n ∈ tieN xs qs, goodNd (tieN xs qs).length n = true
  rt : ∀ z ∈ tieR xs qs, 0 ≤ z ∧ z < ((tieN xs qs).length : Int)
  rl : (tieR xs qs).length = xs.length
  pr : ∀ p ∈ tieP xs qs, p.1 < (tieN xs qs).length ∧ p.2 < (tieN xs qs).length
  er : ∀ x, x < (tieN xs qs).length → tieE xs qs x < (tieN xs qs).length
theorem tie_good {xs : List Ex} {qs : List (ByteArray × Ex)} (h : GoodT xs qs) : TieGood xs qs := by
  obtain ⟨e1, e2, e3⟩ := tie_flat xs qs
  have hl1 := flats_len (namA xs qs) 0 (namA xs qs).length xs (goodXs_all0 h.ex)
  have hl2 := flatQ_len (namA xs qs) ((namA xs qs).length + (flatXs (namA xs qs) (namA xs qs).length xs).2.length) qs h.q.ex
  have hlen2 : (tieN xs qs).length = (namA xs qs).length + (flatXs (namA xs qs) (namA xs qs).length xs).2.length + (flatQ (namA xs qs) ((namA xs qs).length + (flatXs (namA xs qs) (namA xs qs).length xs).2.length) qs).2.length := by
    rw [e2]
    simp only [List.length_append, List.length_replicate]
  have hlen : (tieN xs qs).length = (namA xs qs).length + othA xs qs := by
    unfold othA
    omega
  have hx := flats_good (namA xs qs) (tieN xs qs).length 0 (namA xs qs).length xs (goodXs_all0 h.ex) (okA_x xs qs) (by omega) (by omega)
  have hq := flatQ_good (namA xs qs) (tieN xs qs).length ((namA xs qs).length + (flatXs (namA xs qs) (namA xs qs).length xs).2.length) qs (fun q hq => ⟨h.q.ex q hq, (okA_q xs qs q hq).2, (okA_q xs qs q hq).1⟩) (by omega) (by omega)
  have hpr : ∀ p ∈ tieP xs qs, p.1 < (tieN xs qs).length ∧ p.2 < (tieN xs qs).length := fun p hp => by
    rw [e3] at hp
    exact hq.2 p hp
  refine ⟨hlen, fun n hn => ?_, fun z hz => ?_, by rw [e1]; exact hx.2.2, hpr, bindAll_lt _ _ _ hpr (fun x hx => hx)⟩
  · have hn' : n ∈ List.replicate (namA xs qs).length varN ++ (flatXs (namA xs qs) (namA xs qs).length xs).2 ++ (flatQ (namA xs qs) ((namA xs qs).length + (flatXs (namA xs qs) (namA xs qs).length xs).2.length) qs).2 := by rw [← e2]; exact hn
    rcases List.mem_append.1 hn' with h1 | h1
    · rcases List.mem_append.1 h1 with h2 | h2
      · rw [(List.mem_replicate.1 h2).2]
        exact goodNd_var _
      · exact hx.1 n h2
    · exact hq.1 n h1
  · rw [e1] at hz
    exact hx.2.1 z hz
theorem tie_goodG {xs : List Ex} {qs : List (ByteArray × Ex)} (h : GoodT xs qs) (hb : (namA xs qs).length + othA xs qs ≤ 4096) : Good (tieG xs qs) := by
  have ht := tie_good h
  have hEI : ∀ z : Int, 0 ≤ z ∧ z < ((tieN xs qs).length : Int) → 0 ≤ EI (tieE xs qs) z ∧ EI (tieE xs qs) z < ((tieN xs qs).length : Int) := fun z hz => by
    have := ht.er z.toNat (by omega)
    unfold EI
    omega
  have hl : (tieG xs qs).nodes.length = (tieN xs qs).length := by simp [tieG, gE]
  refine ⟨by rw [hl, ht.len]; exact hb, by simp [tieG, gE, ht.rl]; exact h.xl, fun n hn => ?_, fun z hz => ?_⟩
  · obtain ⟨y, hy, rfl⟩ := List.mem_map.1 hn
    rw [hl]
    have hg := ht.nd y hy
    exact renum_good hg (fun z hz => hEI z ((good_args hg).1 z hz))
  · obtain ⟨y, hy, rfl⟩ := List.mem_map.1 hz
    rw [hl]
    exact hEI y (ht.rt y hy)
end Go.Proofs.Ytncileojdighnaa

namespace Go.Proofs.Ytncileojdighnaa
set_option maxRecDepth 100000
open Go.RowKit Go.Maps
def tieC (xs : List Ex) (qs : List (ByteArray × Ex)) : Int × Int × ByteArray :=
  if (chkT xs qs).1 ≠ 0 then chkT xs qs
  else if 4096 < (namA xs qs).length + othA xs qs then (85, ((namA xs qs).length + othA xs qs : Nat), ⟨#[]⟩)
  else (0, 0, ⟨#[]⟩)
theorem namA_len (xs : List Ex) (qs : List (ByteArray × Ex)) : (namA xs qs).length ≤ prtXs xs + prtQ qs := by
  have h1 := namXs_len [] xs
  have h2 := namQ_len (namXs [] xs) qs
  simp at h1
  unfold namA
  omega
theorem othA_le (xs : List Ex) (qs : List (ByteArray × Ex)) : othA xs qs ≤ prtXs xs + prtQ qs := by
  have h1 := othXs_le xs
  have h2 := othQ_le qs
  unfold othA
  omega
theorem putS_sz {l : List ByteArray} {s : ByteArray} (h : ∀ x ∈ l, x.size ≤ 281474976710656) (hs : s.size ≤ 281474976710656) : ∀ x ∈ putS l s, x.size ≤ 281474976710656 := fun x hx => by
  unfold putS at hx
  split at hx
  · exact h x hx
  · rcases List.mem_append.1 hx with e | e
    · exact h x e
    · simp at e; subst e; exact hs
mutual
theorem namX_sz : ∀ (l : List ByteArray) (x : Ex), (∀ s ∈ l, s.size ≤ 281474976710656) → szX x → ∀ s ∈ namX l x, s.size ≤ 281474976710656
  | l, .mk k n m xs, h, hx => by
    rw [namX]
    split
    · exact namXs_sz _ xs (putS_sz h hx.1) hx.2
    · exact namXs_sz _ xs h hx.2
theorem namXs_sz : ∀ (l : List ByteArray) (xs : List Ex), (∀ s ∈ l, s.size ≤ 281474976710656) → szXs xs → ∀ s ∈ namXs l xs, s.size ≤ 281474976710656
  | l, [], h, _ => by rw [namXs]; exact h
  | l, x :: r, h, hx => by rw [namXs]; exact namXs_sz _ r (namX_sz l x h hx.1) hx.2
end
theorem namQ_sz : ∀ (l : List ByteArray) (qs : List (ByteArray × Ex)), (∀ s ∈ l, s.size ≤ 281474976710656) → (∀ q ∈ qs, q.1.size ≤ 281474976710656 ∧ szX q.2) → ∀ s ∈ namQ l qs, s.size ≤ 281474976710656
  | l, [], h, _ => by rw [namQ]; exact h
  | l, q :: r, h, hq => by rw [namQ]; exact namQ_sz _ r (namX_sz _ q.2 (putS_sz h (hq q (by simp)).1) (hq q (by simp)).2) (fun y hy => hq y (by simp [hy]))
set_option maxHeartbeats 4000000 in
theorem tie_bad {W : World} {xv qv : Value} {xs : List Ex} {qs : List (ByteArray × Ex)} (hX : Rxs W xv xs) (hQ : Rqs W qv qs) (hzx : szXs xs) (hzq : ∀ q ∈ qs, q.1.size ≤ 281474976710656 ∧ szX q.2) (hp : prtXs xs + prtQ qs ≤ 60000) (hc : (tieC xs qs).1 ≠ 0) :
    Calls Try.prog 9 #[xv, qv] W fun r w' => (∃ ev, r = .returned (.tuple #[.agg #[.slice none 0 0, .slice none 0 0], .slice none 0 0, ev]) ∧ Ef w' ev (tieC xs qs).1 (tieC xs qs).2.1 (tieC xs qs).2.2) ∧ Below W.heap.size W w' := by
  have hb0 := below_alloc W (.cells #[.slice none 0 0, .slice none 0 0] 29)
  have hX1 := hX.next hb0
  have hQ1 := hQ.next hb0
  have hchk := tcheck_any hX1 hQ1 hzx hzq
  have hres := heap_alloc_new W (.cells #[.slice none 0 0, .slice none 0 0] 29)
  have hrb : Hid (∀ w2, Below (W.alloc (.cells #[.slice none 0 0, .slice none 0 0] 29)).heap.size (W.alloc (.cells #[.slice none 0 0, .slice none 0 0] 29)) w2 → w2.heap[W.heap.size]? = some (.cells #[.slice none 0 0, .slice none 0 0] 29) ∧ W.heap.size ≤ w2.heap.size) := fun w2 hb => ⟨(hb.block _ (by simp)).trans hres, by have := hb.size; simp at this; omega⟩
  obtain ⟨xa, xc, rfl, _⟩ := hX
  obtain ⟨qa, qc, rfl, _⟩ := hQ
  by_cases h1 : (chkT xs qs).1 ≠ 0
  · have hE : tieC xs qs = chkT xs qs := by unfold tieC; rw [if_pos h1]
    rw [hE]
    have hef : Hid (∀ (w2 : World) (ev : Value), Eo w2 ev (chkT xs qs) → ∃ b, ev = .iface 85 (.pointer (some ⟨b, 0, none⟩)) ∧ w2.heap[b]? = some (.cells #[.int .i64 (chkT xs qs).1, .int .i64 (chkT xs qs).2.1, .string (chkT xs qs).2.2, .nilIface] 88)) := fun w2 ev h => by
      rcases h with ⟨h2, _⟩ | ⟨_, h2⟩
      · exact absurd h2 h1
      · exact h2
    clear hX1 hQ1 hzx hzq h1 hE hc
    go_enter Try.func9, Try.ntmps9
    go_wp2_with (go_at_call 27; refine hchk.mono ?_; rintro e w2 ⟨⟨ev, rfl, heo⟩, hb2⟩; obtain ⟨fb, rfl, hfb⟩ := hef.out w2 ev heo; obtain ⟨hr2, hs2⟩ := hrb.out w2 hb2; obtain ⟨⟨m0, m1⟩, m2, m3⟩ := blk2 hr2; have hz2 := lt_of_block hr2)
    refine bodyPost_ret (ret_gme Try.results9 (by rfl) (blk2_set hr2)) rfl ⟨⟨_, rfl, fb, rfl, ?_⟩, ?_⟩
    · rw [Below.heap_setCell _ _ _ _ (obj_ne hfb hr2 (by decide)), Below.heap_setCell _ _ _ _ (obj_ne hfb hr2 (by decide))]
      exact hfb
    · exact ((Below.next hb0 hb2).setCell (p := ⟨W.heap.size, 0, none⟩) (Nat.le_refl _) _).setCell (p := ⟨W.heap.size, 1, none⟩) (Nat.le_refl _) _
  · have h1' : (chkT xs qs).1 = 0 := Classical.byContradiction fun h => h1 h
    have hE : tieC xs qs = ((85 : Int), (((namA xs qs).length + othA xs qs : Nat) : Int), (⟨#[]⟩ : ByteArray)) ∧ 4096 < (namA xs qs).length + othA xs qs := by
      unfold tieC at hc ⊢
      rw [if_neg h1] at hc ⊢
      by_cases h2 : 4096 < (namA xs qs).length + othA xs qs
      · rw [if_pos h2]; exact ⟨rfl, h2⟩
      · rw [if_neg h2] at hc
        exact absurd rfl hc
    have hbig : (4096 : Int) < ((namA xs qs).length : Int) + (othA xs qs : Int) := by have := hE.2; omega
    have hnl := namA_len xs qs
    have hol := othA_le xs qs
    rw [hE.1]
    have hnil : Hid (∀ (w2 : World) (ev : Value), Eo w2 ev (chkT xs qs) → ev = .nilIface) := fun w2 ev h => by
      rcases h with ⟨_, h2⟩ | ⟨h2, _⟩
      · exact h2
      · exact absurd h1' h2
    have hcnt : Hid (∀ w2, Below (W.alloc (.cells #[.slice none 0 0, .slice none 0 0] 29)).heap.size (W.alloc (.cells #[.slice none 0 0, .slice none 0 0] 29)) w2 → Calls Try.prog 28 #[.slice xa xs.length xc, .slice qa qs.length qc] w2 fun e w' => (∃ cb na nc, e = .returned (.pointer (some ⟨cb, 0, none⟩)) ∧ (w'.cell? ⟨cb, 0, none⟩ = some (.slice na (namA xs qs).length nc) ∧ w'.cell? ⟨cb, 2, none⟩ = some (.int .i64 (othA xs qs : Int)) ∧ cb < w'.heap.size)) ∧ Below w2.heap.size w2 w') := fun w2 hb => by
      refine (counted_any (hX1.next hb) (hQ1.next hb) hzx hzq (by omega)).mono ?_
      rintro e w' ⟨⟨cb, v, q, rfl, hC⟩, hb'⟩
      obtain ⟨na, nc, rfl⟩ := own_sl hC.own
      exact ⟨⟨cb, na, nc, rfl, hC.cells.1.1, hC.cells.1.2.2, lt_of_block hC.blk⟩, hb'⟩
    have hf := fun w3 : World => tfault_any 85 (((namA xs qs).length : Int) + (othA xs qs : Int)) ⟨#[]⟩ w3 (by decide)
    clear hX1 hQ1 hzx hzq h1 h1' hE hc
    generalize (namA xs qs).length = NL at *
    generalize othA xs qs = OT at *
    go_enter Try.func9, Try.ntmps9
    go_wp2_with (first
      | (go_at_call 27; refine hchk.mono ?_; rintro e w2 ⟨⟨ev, rfl, heo⟩, hb2⟩; have hev := hnil.out w2 ev heo; subst hev)
      | (go_at_call 28; refine (hcnt.out w2 hb2).mono ?_; rintro e w3 ⟨⟨cb, na, nc, rfl, c0, c2, hzc⟩, hb3⟩))
    go_still_tail 10, (by kernel_rfl)
    change wpList _ _ _ _ _ w3.drew
    obtain ⟨hr3, hs3⟩ := hrb.out w3.drew ((Below.next hb2 hb3).drew)
    go_wp2_with (go_at_call 29; refine (hf _).mono ?_; rintro e w4 ⟨⟨ev4, rfl, fb, rfl, hfb⟩, hb4⟩; have hr4 := (hb4.block _ (lt_of_block hr3)).trans hr3; obtain ⟨⟨m0, m1⟩, m2, m3⟩ := blk2 hr4; have hz4 := lt_of_block hr4)
    refine bodyPost_ret (ret_gme Try.results9 (by rfl) (blk2_set hr4)) rfl ⟨⟨_, rfl, fb, rfl, ?_⟩, ?_⟩
    · rw [Below.heap_setCell _ _ _ _ (obj_ne hfb hr4 (by decide)), Below.heap_setCell _ _ _ _ (obj_ne hfb hr4 (by decide)), hfb]
      simp
    · exact ((Below.next (Below.next (Below.next hb0 hb2) hb3).drew hb4).setCell (p := ⟨W.heap.size, 0, none⟩) (Nat.le_refl _) _).setCell (p := ⟨W.heap.size, 1, none⟩) (Nat.le_refl _) _
set_option maxHeartbeats 4000000 in
theorem tie_ok {W : World} {xv qv : Value} {xs : List Ex} {qs : List (ByteArray × Ex)} (hX : Rxs W xv xs) (hQ : Rqs W qv qs) (hzx : szXs xs) (hzq : ∀ q ∈ qs, q.1.size ≤ 281474976710656 ∧ szX q.2) (hp : prtXs xs + prtQ qs ≤ 30000) (hc : (tieC xs qs).1 = 0) (ee : Nat → Nat → Bool) (hd : ∀ x y : Nat, (ee x y = true ↔ Al (tieG xs qs) (x : Int) (y : Int))) :
    Calls Try.prog 9 #[xv, qv] W fun r w' => (∃ nv' rv' avs' mv', r = .returned (.tuple #[.agg #[nv', rv'], mv', .nilIface]) ∧ Og w' W.heap.size nv' rv' avs' (trimF (quoF ee (tieG xs qs))) ∧ w'.ownsRow W.heap.size 56 2 mv' (nmdF ee (tieG xs qs) (tieE xs qs) (namA xs qs) (namA xs qs).length).length (mcells (nmdF ee (tieG xs qs) (tieE xs qs) (namA xs qs) (namA xs qs).length))) ∧ Below W.heap.size W w' := by
  have hb0 := below_alloc W (.cells #[.slice none 0 0, .slice none 0 0] 29)
  have hX1 := hX.next hb0
  have hQ1 := hQ.next hb0
  have hchk := tcheck_any hX1 hQ1 hzx hzq
  have hres := heap_alloc_new W (.cells #[.slice none 0 0, .slice none 0 0] 29)
  have hrb : Hid (∀ w2, Below (W.alloc (.cells #[.slice none 0 0, .slice none 0 0] 29)).heap.size (W.alloc (.cells #[.slice none 0 0, .slice none 0 0] 29)) w2 → w2.heap[W.heap.size]? = some (.cells #[.slice none 0 0, .slice none 0 0] 29) ∧ W.heap.size < w2.heap.size) := fun w2 hb => ⟨(hb.block _ (by simp)).trans hres, by have := hb.size; simp at this; omega⟩
  have h1' : (chkT xs qs).1 = 0 := Classical.byContradiction fun h => by
    unfold tieC at hc
    rw [if_pos h] at hc
    exact h hc
  have hsm : ¬ 4096 < (namA xs qs).length + othA xs qs := fun h => by
    unfold tieC at hc
    rw [if_neg (fun h2 => h2 h1'), if_pos h] at hc
    cases hc
  have hT := chkT_good h1'
  have hgG := tie_goodG hT (by omega)
  have htg := tie_good hT
  have hbig : ¬ (4096 : Int) < ((namA xs qs).length : Int) + (othA xs qs : Int) := by omega
  have hnl := namA_len xs qs
  have hol := othA_le xs qs
  have hnil : Hid (∀ (w2 : World) (ev : Value), Eo w2 ev (chkT xs qs) → ev = .nilIface) := fun w2 ev h => by
    rcases h with ⟨_, h2⟩ | ⟨h2, _⟩
    · exact h2
    · exact absurd h1' h2
  have hnsz := namQ_sz (namXs [] xs) qs (namXs_sz [] xs (by simp) hzx) hzq
  have hcnt : Hid (∀ w2, Below (W.alloc (.cells #[.slice none 0 0, .slice none 0 0] 29)).heap.size (W.alloc (.cells #[.slice none 0 0, .slice none 0 0] 29)) w2 → Calls Try.prog 28 #[xv, qv] w2 fun e w' => (∃ cb na nc q, e = .returned (.pointer (some ⟨cb, 0, none⟩)) ∧ Cs w' w2.heap.size cb (.slice na (namA xs qs).length nc) q (namA xs qs) (othA xs qs)) ∧ Below w2.heap.size w2 w') := fun w2 hb => by
    refine (counted_any (hX1.next hb) (hQ1.next hb) hzx hzq (by omega)).mono ?_
    rintro e w' ⟨⟨cb, v, q, rfl, hC⟩, hb'⟩
    obtain ⟨na, nc, rfl⟩ := own_sl hC.own
    exact ⟨⟨cb, na, nc, q, rfl, hC⟩, hb'⟩
  have hknt : Hid (∀ (w3 : World) (B0 cb q : Nat) (na : Option Addr) (nc : Nat), Below (W.alloc (.cells #[.slice none 0 0, .slice none 0 0] 29)).heap.size (W.alloc (.cells #[.slice none 0 0, .slice none 0 0] 29)) w3 → Cs w3 B0 cb (.slice na (namA xs qs).length nc) q (namA xs qs) (othA xs qs) → Calls Try.prog 30 #[.pointer (some ⟨cb, 0, none⟩), xv, qv] w3 fun e w' => (∃ kb, e = .returned (.pointer (some ⟨kb, 0, none⟩)) ∧ KnS w' w3.heap.size kb cb (tieN xs qs) (tieR xs qs) (tieE xs qs)) ∧ Below w3.heap.size w3 w') := fun w3 B0 cb q na nc hb hC =>
    knotted_any hC (hX1.next hb) (hQ1.next hb) hzx hzq (okA_x xs qs) (okA_q xs qs) hT.q.nd (by omega)
  have hlst : Hid (∀ (w3 w4 : World) (B0 cb q kb : Nat) (na : Option Addr) (nc : Nat), Cs w3 B0 cb (.slice na (namA xs qs).length nc) q (namA xs qs) (othA xs qs) → Below w3.heap.size w3 w4 → KnS w4 w3.heap.size kb cb (tieN xs qs) (tieR xs qs) (tieE xs qs) → Calls Try.prog 31 #[.pointer (some ⟨kb, 0, none⟩)] w4 fun r w' => (∃ nv' rv' avs' mv', r = .returned (.tuple #[.agg #[nv', rv'], mv', .nilIface]) ∧ Og w' w4.heap.size nv' rv' avs' (trimF (quoF ee (tieG xs qs))) ∧ w'.ownsRow w4.heap.size 56 2 mv' (nmdF ee (tieG xs qs) (tieE xs qs) (namA xs qs) (namA xs qs).length).length (mcells (nmdF ee (tieG xs qs) (tieE xs qs) (namA xs qs) (namA xs qs).length))) ∧ Below w3.heap.size w3 w') := fun w3 w4 B0 cb q kb na nc hC hb hK => by
    obtain ⟨nv, lv, rv, avs, L, hKn, hL⟩ := hK
    refine least_any hC hb hKn hL hgG (fun j hj x hx => ?_) htg.rt (by rw [htg.len]; omega) hnsz ee hd
    exact (good_args (htg.nd _ (by simp [List.getD, hj]))).1 x hx
  obtain ⟨xa, xc, rfl, _⟩ := hX
  obtain ⟨qa, qc, rfl, _⟩ := hQ
  clear hX1 hQ1 hzx hzq hc h1' hT hgG htg hsm hnsz hd
  go_enter Try.func9, Try.ntmps9
  go_wp2_with (first
    | (go_at_call 27; refine hchk.mono ?_; rintro e w2 ⟨⟨ev, rfl, heo⟩, hb2⟩; have hev := hnil.out w2 ev heo; subst hev)
    | (go_at_call 28; refine (hcnt.out w2 hb2).mono ?_; rintro e w3 ⟨⟨cb, na, nc, q, rfl, hC3⟩, hb3⟩; have c0 := hC3.cells.1.1; have c2 := hC3.cells.1.2.2; have hzc := lt_of_block hC3.blk))
  go_still_tail 10, (by kernel_rfl)
  change wpList _ _ _ _ _ w3.drew
  have hb3d := (Below.next hb2 hb3).drew
  have hC3d := hC3.keep (w' := w3.drew) (fun _ _ => rfl)
  generalize hwd : w3.drew = wd at *
  clear hwd
  go_wp2_with (first
    | (go_at_call 30; refine (hknt.out wd _ cb q na nc hb3d hC3d).mono ?_; rintro e w4 ⟨⟨kb, rfl, hK4⟩, hb4⟩)
    | (go_at_call 31; refine (hlst.out wd w4 _ cb q kb na nc hC3d hb4 hK4).mono ?_; rintro e w5 ⟨⟨nv5, rv5, avs5, mv5, rfl, hO5, ho5⟩, hb5⟩; obtain ⟨n5a, n5c, rfl⟩ := hO5.nsl; obtain ⟨r5a, r5c, rfl, _⟩ := hO5.r; obtain ⟨hr5, hs5⟩ := hrb.out w5 (Below.next hb3d hb5); obtain ⟨⟨m0, m1⟩, m2, m3⟩ := blk2 hr5))
  have hs4 : W.heap.size < w4.heap.size := (hrb.out w4 (Below.next hb3d hb4)).2
  refine bodyPost_ret (ret_gme Try.results9 (by rfl) (blk2_set hr5)) rfl ⟨⟨_, _, avs5, _, rfl, ?_, ?_⟩, ?_⟩
  · exact og_base (og_far (og_far hO5 hs4) hs4) (by omega)
  · refine row_keep (own_base2 ho5 (by omega)) (fun k hk => ?_)
    have := (ho5.lt k hk).1
    rw [Below.heap_setCell _ _ _ _ (by show k ≠ W.heap.size; omega), Below.heap_setCell _ _ _ _ (by show k ≠ W.heap.size; omega)]
  · exact ((Below.next hb0 (Below.next hb3d hb5)).setCell (p := ⟨W.heap.size, 0, none⟩) (Nat.le_refl _) _).setCell (p := ⟨W.heap.size, 1, none⟩) (Nat.le_refl _) _
end Go.Proofs.Ytncileojdighnaa

/- GraphJoins, walked. -/
import Derived.Test.YtfjifcflcpmjaaaGrRJoin
namespace Go.Proofs.Ytfjifcflcpmjaaa
open Go.RowKit

theorem join_args : ∀ (gs : List Gf) (acc : Gf), (∀ g ∈ gs, Good g) → (∀ n ∈ acc.nodes, n.args.length ≤ 5000) → ∀ n ∈ (gs.foldl joinS acc).nodes, n.args.length ≤ 5000
  | [], _, _, h => h
  | g :: r, acc, hg, h => by
    refine join_args r (joinS acc g) (fun x hx => hg x (by simp [hx])) (fun n hn => ?_)
    rcases List.mem_append.1 hn with h1 | h1
    · exact h n h1
    · obtain ⟨m, hm, rfl⟩ := List.mem_map.1 h1
      have := (good_args ((hg g (by simp)).node m hm)).2
      simp only [renum, List.length_map]
      omega
theorem ans_fits (gs : List Gf) : Fits (ansG gs) := by
  by_cases h : joinC gs = []
  · rw [ans_good h]
    unfold joinC at h
    split at h
    · cases h
    · rename_i h0
      split at h
      · cases h
      · rename_i h1
        split at h
        · cases h
        · rename_i h2
          have hall : ∀ g ∈ gs, Good g := fun g hg => by
            have := ixOf_all badG gs h0 g hg
            unfold badG at this
            refine chk_good ?_
            simpa using this
          have hl := joinG_len gs ⟨[], []⟩
          simp at hl
          exact ⟨by unfold joinG; omega, by unfold joinG; omega, join_args gs ⟨[], []⟩ hall (by simp)⟩
  · rw [ans_bad h]
    exact ⟨by simp, by simp, by simp⟩
theorem Fl.below {w w' : World} (hb : Below w.heap.size w w') : ∀ {fs : Fs} {c a : Int} {cv : Value}, Fl w c a cv fs → Fl w' c a cv fs
  | [], _, _, _, h => h
  | [_], _, _, _, h => h
  | _ :: _ :: _, _, _, _, ⟨h1, h2, h3, b, cap, c', a', ao, n, k, e, p0, p1, p2, p3, hr⟩ =>
    ⟨h1, h2, h3, b, cap, c', a', ao, n, k, e, (hb.cell (p := ⟨b, 0, none⟩) (lt_of_cell p0)).trans p0, (hb.cell (p := ⟨b, 1, none⟩) (lt_of_cell p0)).trans p1, (hb.cell (p := ⟨b, 2, none⟩) (lt_of_cell p0)).trans p2, (hb.cell (p := ⟨b, 3, none⟩) (lt_of_cell p0)).trans p3, Fl.below hb hr⟩
/-- A field of a value, told. -/
theorem put_val (K : Act → World → Prop) (a : Act) (d : Option Tmp) (z z' : Value) (w : World) (h : z = z') (hk : K (a.put d z') w) : K (a.put d z) w := by
  subst h
  exact hk
set_option maxRecDepth 100000 in
set_option maxHeartbeats 4000000 in
theorem graphJoins_walk {W : World} (v : Value) (gs : List Gf) (hG : Rg W v gs) (hS : ∀ g ∈ gs, Sized g) (_ : gs.length ≤ 9223372036854775807) :
    Calls Try.prog 6 #[v] W fun e w' => e = .returned (.bool true) ∧ Below W.heap.size W w' := by
  have hG0 := hid hG
  obtain ⟨ga, gc, rfl, hGc⟩ := hG
  by_cases h4 : 40 < gs.length
  · have h4' : (40 : Int) < (gs.length : Int) := by omega
    have hb : Below W.heap.size W W := Below.refl _ _
    clear hGc
    go_enter Try.func6, Try.ntmps6
    go_wp2_with (go_at_call 9; refine (lives_any _).mono ?_; rintro e w1 ⟨rfl, hb1⟩; replace hb := Below.next hb hb1; clear hb1)
    go_ret
    exact ⟨rfl, hb⟩
  · have h4' : ¬ (40 : Int) < (gs.length : Int) := by omega
    go_enter Try.func6, Try.ntmps6
    go_wp2_with (go_at_call 9; refine (lives_any _).mono ?_; rintro e w1 ⟨rfl, hb⟩)
    go_loopw [19] (fun i wr => ∃ k : Nat, k ≤ gs.length ∧ i = .int .i64 k ∧ Hid (Below W.heap.size W wr)) (fun i _ => gs.length - (intOf i).toNat)
    case atStart => exact ⟨0, Nat.zero_le _, rfl, hb⟩
    case round =>
      clear hb
      obtain ⟨k, hk, rfl, hb⟩ := hrel
      by_cases hlt : k < gs.length
      · obtain ⟨gb, go, nv, rv, rfl, g0, g1, hgr⟩ := hGc k hlt
        have d0 : wr.cell? ⟨gb, go + k * 2, none⟩ = some nv := by rw [hb.out.cell (p := ⟨gb, go + k * 2, none⟩) (lt_of_cell g0)]; exact g0
        have d1 : wr.cell? ⟨gb, go + k * 2 + 1, none⟩ = some rv := by rw [hb.out.cell (p := ⟨gb, go + k * 2 + 1, none⟩) (lt_of_cell g1)]; exact g1
        have hmem : gs.getD k gf0 ∈ gs := by simp [List.getD, hlt]
        have hlg : ∀ w : World, Below wr.heap.size wr w → _ := fun w h => large_any ((hgr.below hb.out).below h)
        have hck : ∀ w : World, Below wr.heap.size wr w → _ := fun w h => rcheck_any (W := w) ((hgr.below hb.out).below h) (hS _ hmem)
        obtain ⟨na, nc, rfl, _⟩ := hgr.1
        obtain ⟨ra, rc, rfl, _⟩ := hgr.2
        clear hgr g0 g1 hmem
        generalize smallG (gs.getD k gf0) = sm at hlg
        unfold flt at hck
        generalize (chk (gs.getD k gf0)).1 = cc at hck
        generalize (chk (gs.getD k gf0)).2 = ca at hck
        generalize (gs.getD k gf0).nodes.length = nn at d0 hck hlg
        generalize (gs.getD k gf0).roots.length = rr at d1 hck hlg
        clear hGc hG0 hS
        cases sm with
        | true =>
          go_wp2_with (first
            | (go_at_call 13; refine (hlg _ (below_alloc wr _)).mono ?_; rintro e w2 ⟨rfl, hb2⟩; replace hb2 := Below.next (below_alloc wr _) hb2))
          go_roundw
          case rel => exact ⟨k + 1, by omega, congrArg (Value.int .i64) (by omega), Below.next hb.out hb2⟩
          case measure => simp [intOf]; omega
        | false =>
          by_cases hc : cc = 41
          · subst hc
            go_wp2_with (first
              | (go_at_call 13; refine (hlg _ (below_alloc wr _)).mono ?_; rintro e w2 ⟨rfl, hb2⟩; have e4 : w2.heap[wr.heap.size]? = some (.cells #[.slice na nn nc, .slice ra rr rc] 25) := keepJ (heap_alloc_new wr _) hb2; obtain ⟨⟨x0, x1⟩, _⟩ := blk2 e4; replace hb2 := Below.next (below_alloc wr _) hb2)
              | (go_at_call 12; refine (hck _ hb2).mono ?_; rintro e w4 ⟨rfl, hb4⟩; replace hb2 := Below.next hb2 hb4))
            refine put_val _ _ _ _ (.int .i64 41) _ rfl ?_
            go_wp2
            go_roundw
            case rel => exact ⟨k + 1, by omega, congrArg (Value.int .i64) (by omega), Below.next hb.out hb2⟩
            case measure => simp [intOf]; omega
          · go_wp2_with (first
              | (go_at_call 13; refine (hlg _ (below_alloc wr _)).mono ?_; rintro e w2 ⟨rfl, hb2⟩; have e4 : w2.heap[wr.heap.size]? = some (.cells #[.slice na nn nc, .slice ra rr rc] 25) := keepJ (heap_alloc_new wr _) hb2; obtain ⟨⟨x0, x1⟩, _⟩ := blk2 e4; replace hb2 := Below.next (below_alloc wr _) hb2)
              | (go_at_call 12; refine (hck _ hb2).mono ?_; rintro e w4 ⟨rfl, hb4⟩; replace hb2 := Below.next hb2 hb4))
            refine put_val _ _ _ _ (.int .i64 cc) _ rfl ?_
            go_wp2
            go_ret
            exact ⟨rfl, Below.next hb.out hb2⟩
      · have hjn : ∀ w : World, Below W.heap.size W w → _ := fun w h => join_ans (hG0.out.below h) hS (by omega)
        have hrj : ∀ w : World, Below W.heap.size W w → _ := fun w h => rjoin_any (hG0.out.below h) hS (by omega)
        have hfit := ans_fits gs
        have hsame := hid (fun (w : World) (nv rv mv sv : Value) (h1 : Gr w nv rv (ansG gs)) (h2 : Gr w mv sv (ansG gs)) => rsame_any h1 h2 hfit)
        rw [eqG_yes] at hsame
        have hbw := hb.out
        generalize ansG gs = A at hjn hrj hsame
        generalize joinC gs = C at hjn hrj
        clear hGc hG0 hS hfit hb
        go_wp2_with (first
          | (go_at_call 26; refine (hjn _ hbw).mono ?_; clear hjn; rintro e w2 ⟨⟨nv, rv, ev, rfl, hg1, hE⟩, hb1⟩; replace hbw := Below.next hbw hb1; obtain ⟨na, nc, rfl, _⟩ := hg1.1; obtain ⟨ra, rc, rfl, _⟩ := hg1.2; have b1 := heap_alloc_new w2 (.cells #[.slice na A.nodes.length nc, .slice ra A.roots.length rc] 25); have hb2 := below_alloc w2 (.cells #[.slice na A.nodes.length nc, .slice ra A.roots.length rc] 25); replace hbw := Below.next hbw hb2)
          | (go_at_call 27; refine (hrj _ hbw).mono ?_; clear hrj; rintro e w3 ⟨⟨mv, sv, c, a, co, cn, ck, rfl, hg2, hF⟩, hb3⟩; replace hbw := Below.next hbw hb3; replace hb2 := Below.next hb2 hb3; replace b1 := keepJ b1 hb3; obtain ⟨ma, mc, rfl, _⟩ := hg2.1; obtain ⟨sa, sc, rfl, _⟩ := hg2.2; have hb4 : Below w3.heap.size w3 ((w3.alloc (.cells #[.slice ma A.nodes.length mc, .slice sa A.roots.length sc] 25)).alloc (.cells #[.int .i64 c, .int .i64 a, .string ⟨#[]⟩, .slice co cn ck] 35)) := (below_alloc w3 _).alloc (by simp) _; have b3 := keepJ (heap_alloc_new w3 (.cells #[.slice ma A.nodes.length mc, .slice sa A.roots.length sc] 25)) (below_alloc (w3.alloc (.cells #[.slice ma A.nodes.length mc, .slice sa A.roots.length sc] 25)) (.cells #[.int .i64 c, .int .i64 a, .string ⟨#[]⟩, .slice co cn ck] 35)); replace b1 := keepJ b1 hb4; replace hb2 := Below.next hb2 hb4; replace hbw := Below.next hbw hb4)
          | (go_at_call 11; refine (is_any (hE.below hb2) (hF.below hb4)).mono ?_; rintro e w5 ⟨rfl, hb5⟩; replace b1 := keepJ b1 hb5; replace b3 := keepJ b3 hb5; replace hb2 := Below.next hb2 hb5; replace hb4 := Below.next hb4 hb5; replace hbw := Below.next hbw hb5; obtain ⟨⟨x0, x1⟩, _⟩ := blk2 b1; obtain ⟨⟨y0, y1⟩, _⟩ := blk2 b3)
          | (go_at_call 22; refine (hsame.out _ _ _ _ _ (hg1.below hb2) (hg2.below hb4)).mono ?_; rintro e w6 ⟨rfl, hb6⟩; replace hbw := Below.next hbw hb6))
        go_ret
        exact ⟨rfl, hbw⟩
end Go.Proofs.Ytfjifcflcpmjaaa

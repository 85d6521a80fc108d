/- T.put of tendrilref08 at a variable; at any good term. -/
import Derived.Test.Ytjkcffcedbcjmaata43Z
import Derived.Test.Ytjkcffcedbcjmaata45Z
import Derived.Test.Ytjkcffcedbcjmaata27Z
namespace Go.Proofs.Ytjkcffcedbcjmaa
set_option maxRecDepth 100000
open Go.RowKit Go.Maps
set_option maxHeartbeats 4000000 in
theorem rput_v {ns : List ByteArray} {n : ByteArray} {m : Int} (W w : World) (B tb : Nat) (lv nv : Value) (avs : List Value) (L : List Nd) (ao : Option Addr) (c : Nat) (hbW : Below W.heap.size W w) (hwt : W.heap.size ≤ tb) (hns : Rsn W lv ns) (hnl : ns.length ≤ 60000) (hP : Ptb w B tb lv nv avs L) (hB : B ≤ w.heap.size) (hp : L.length ≤ 60000) :
    Calls Try.prog 34 #[.pointer (some ⟨tb, 0, none⟩), .agg #[.int .i64 1, .string n, .int .i64 m, .slice ao 0 c]] w fun e w' => ∃ nv' avs', e = .returned (.int .i64 ((putX ns L.length (.mk 1 n m [])).1 : Int)) ∧ Ptb w' B tb lv nv' avs' (L ++ (putX ns L.length (.mk 1 n m [])).2) ∧ Pstp w w' tb nv nv' avs avs' ∧ Below W.heap.size W w' := by
  obtain ⟨i1, hi1, hy0, hy1, hy2⟩ := info_parts infoN
  have hbx := heap_alloc_new w (.cells #[.int .i64 1, .string n, .int .i64 m, .slice ao 0 c] 48)
  obtain ⟨⟨e0, e1, e2, e3⟩, _⟩ := blk4 hbx
  have hE : Hid (putX ns L.length (.mk 1 n m []) = (L.length, [⟨1, ⟨#[]⟩, 1 + findI ns n, []⟩])) := show _ = _ by rw [putX, putXs]; rfl
  have hWz := hbW.size
  have hfb : -1 ≤ findI ns n ∧ findI ns n < (ns.length : Int) := by
    unfold findI
    split
    · rename_i e; have := ixN_lt e; omega
    · omega
  obtain ⟨hf1, hf2⟩ := hfb
  have hlt0 := hP.lt
  have hzt0 := lt_of_block hP.box
  obtain ⟨w2, hw2⟩ : ∃ w2, w2 = (w.alloc (.cells #[.int .i64 1, .string n, .int .i64 m, .slice ao 0 c] 48)).alloc (.cells #[.int .i64 1, .string ⟨#[]⟩, .int .i64 m, .slice none 0 0] 63) := ⟨_, rfl⟩
  have hbw2 : Below w.heap.size w w2 := by
    rw [hw2]
    exact (below_alloc w _).alloc (by simp) _
  have hx2 : w2.heap[w.heap.size + 1]? = some (.cells #[.int .i64 1, .string ⟨#[]⟩, .int .i64 m, .slice none 0 0] 63) := by
    rw [hw2]
    simpa using heap_alloc_new (w.alloc (.cells #[.int .i64 1, .string n, .int .i64 m, .slice ao 0 c] 48)) (.cells #[.int .i64 1, .string ⟨#[]⟩, .int .i64 m, .slice none 0 0] 63)
  have he2 : w2.heap[w.heap.size]? = some (.cells #[.int .i64 1, .string n, .int .i64 m, .slice ao 0 c] 48) := by
    rw [hw2, Below.heap_alloc _ _ _ (by simp)]
    exact hbx
  obtain ⟨⟨u0, u1, u2, u3⟩, _⟩ := blk4 he2
  have hbt2 := (hbw2.block _ hzt0).trans hP.box
  obtain ⟨⟨s0, s1⟩, s2, s3⟩ := blk2 hbt2
  have hz2 := lt_of_block hx2
  have hfd := rfind_any (hns.next (Below.drew (Below.next hbW hbw2))) (by omega) n
  have hnx : Hid (∀ w3, Below w2.heap.size w2 w3 → w3.cell? ⟨w.heap.size + 1, 2, none⟩ = some (.int .i64 m) ∧ w3.frozen? ⟨w.heap.size + 1, 2, none⟩ = false ∧ w.heap.size + 1 < w3.heap.size ∧ Hid (Pab W w (w3.setCell ⟨w.heap.size + 1, 2, none⟩ (.int .i64 (1 + findI ns n))) B tb lv nv nv avs avs L L (.cells #[.int .i64 1, .string n, .int .i64 m, .slice ao 0 c] 48) 1 ⟨#[]⟩ (1 + findI ns n) (.slice none 0 0) [])) := fun w3 hb3 => by
    have hx3 := (hb3.block _ hz2).trans hx2
    obtain ⟨⟨_, _, q2, _⟩, _, _, q6, _⟩ := blk4 hx3
    have hb5 := (Below.next hbw2 hb3).setCell (p := ⟨w.heap.size + 1, 2, none⟩) (by show w.heap.size ≤ w.heap.size + 1; omega) (.int .i64 (1 + findI ns n))
    refine ⟨q2, q6, lt_of_block hx3, Pab.start hP hbW hB hwt hb5 ?_ ?_⟩
    · rw [Below.heap_setCell _ _ _ _ (by show w.heap.size ≠ w.heap.size + 1; omega), hb3.block _ (by omega)]
      exact he2
    · rw [heap_setCell_same _ _ _ _ _ _ hx3]
      rfl
  have hnil : w2.cell? ⟨w.heap.size, 3, none⟩ = some (.slice ao 0 c) := u3
  rw [hE.out]
  clear hP hbW hns hbx hx2 he2 hbt2 hbw2
  go_enter Try.func34, Try.ntmps34
  go_wp2
  rw [← hw2]
  clear hw2 e0 e1 e2 e3
  have hz0 : w.heap.size < w2.heap.size := by omega
  go_still_tail 6, (by kernel_rfl)
  change wpList _ _ _ _ _ w2.drew
  have hdr : Below w2.heap.size w2 w2.drew := (Below.refl _ _).drew
  go_wp2_with (go_at_call 35; go_must (refine hfd.mono ?_; clear hfd; rintro e w3 ⟨rfl, hb3⟩; obtain ⟨y0, y1, y2, hA⟩ := hnx.out w3 (Below.next hdr hb3); have hy3 := hA.out.eb; obtain ⟨⟨_, _, _, y3⟩, _⟩ := blk4 hy3; clear hnx hb3))
  generalize (w3.setCell ⟨w.heap.size + 1, 2, none⟩ (.int .i64 (1 + findI ns n))) = wr at hA hy3 y3 ⊢
  have hzw := lt_of_block hy3
  go_loopw [6, 7] (fun i _ wx => i = .int .i64 0 ∧ Hid (wx = wr)) (fun _ _ _ => 0)
  case atStart => exact ⟨rfl, rfl⟩
  case round =>
    obtain ⟨rfl, hwe⟩ := hrel
    have hwe2 := hwe.out
    subst hwe2
    clear hwe
    have hA' := hA.out
    have hx := hA'.pt.box
    obtain ⟨⟨t0, t1⟩, t2, t3⟩ := blk2 hx
    have hzt := lt_of_block hx
    have hzn := lt_of_block hy3
    have hx3 := hA'.nb
    obtain ⟨⟨q0, q1, q2, q3⟩, _, _, _, q7⟩ := blk4 hx3
    have hon := World.ownsRow.alloc hA'.pt.on.n (.cells #[.int .i64 1, .string ⟨#[]⟩, .int .i64 (1 + findI ns n), .slice none 0 0] 63)
    have hdn := hid (fun w5 g c7 => Pab.done (l := []) (ao := none) (c := 0) hA' (o := .cells #[.int .i64 1, .string ⟨#[]⟩, .int .i64 (1 + findI ns n), .slice none 0 0] 63) (w5 := w5) (g := g) (cap := c7))
    have hnlt := hid (fun q e => hA'.pt.on.n.lt q e)
    have hB1 := hA'.hB
    have hw1 := hA'.b.size
    have hsz1 := hA'.ps.mo.size
    clear hA' hA
    obtain ⟨na, nc, rfl⟩ := own_sl hon
    go_wp2
    go_region_law
      (first
        | (refine step_append_lies _ (by rfl) _ _ _ (by rfl) B 63 i1 (.agg #[.int .i64 0, .string ⟨#[]⟩, .int .i64 0, .slice none 0 0]) 4 56 Try.underlying26 hi1 hy0 hy1 hy2 rfl (by omega) _ L.length (ncells L avs) (by rfl) hon.drew ⟨wr.heap.size, 0, none⟩ 1 1 [.int .i64 1, .string ⟨#[]⟩, .int .i64 (1 + findI ns n), .slice none 0 0] (by rfl) (by rfl) (World.news_of_block (cs := #[.int .i64 1, .string ⟨#[]⟩, .int .i64 (1 + findI ns n), .slice none 0 0]) (t := 63) (fr := (0, 0)) (heap_alloc_new wr _)) (by simp [Value.oneCell']) (by omega) (by unfold maxLen; omega) (by omega) (by simp; omega) (wr.heap.size + 1) (by simp) ?_; intro g cap w1 hown1 hg1 hat1 hlt1; replace hg1 := undrew1 hg1; have hx5 := (hg1.block tb (by simp; omega) (fun e => by have := (hnlt.out _ e.symm).1; omega)).trans ((Below.heap_alloc wr _ _ hzt).trans hx); obtain ⟨⟨_, r1⟩, _, r3⟩ := blk2 hx5; have hz5 := lt_of_block hx5; have hD := hid (hdn.out w1 g cap hg1 hown1 (hat1.imp id (fun e => by omega)))))
    all_goals
      obtain ⟨d1, d2, d3⟩ := hD.out
      obtain ⟨⟨_, v1⟩, _, _⟩ := blk2 d1.box
      go_wp2
      go_ret
      refine ⟨_, _, ret_int ?_, d1, d2, d3⟩
      rfl
theorem rput_any (ns : List ByteArray) : ∀ (x : Ex) (nest : Nat), goodX nest x = true → PuC ns x := by
  intro x
  induction x using Ex.ind with
  | h k n m xs ih =>
    intro nest hg W w B tb lv v nv avs L hv hb hwt hns hnl hP hB hp
    obtain ⟨av, rfl, ao, c, rfl, hat⟩ := hv.parts
    rw [prtX] at hp
    have hall : k ≠ 1 → ∀ x ∈ xs, PuC ns x := fun hk x hx => by
      rcases goodX_parts hg with ⟨e, _⟩ | ⟨_, _, _, e⟩ | ⟨_, _, _, _, e⟩ | ⟨_, _, _, _, _, e⟩
      · exact absurd e hk
      · subst e; cases hx
      · subst e; cases hx
      · exact ih x hx _ ((goodXs_mem _).1 e x hx)
    by_cases hk : k = 1
    · have hx : xs = [] := by
        rcases goodX_parts hg with ⟨_, _, _, e⟩ | ⟨e, _⟩ | ⟨e, _⟩ | ⟨e, _⟩
        · exact e
        all_goals omega
      subst hk hx
      exact rput_v W w B tb lv nv avs L ao c hb hwt hns hnl hP hB (by omega)
    · exact rput_c hk (hall hk) W w B tb lv nv avs L ao c hat hb hwt hns hnl hP hB hp
end Go.Proofs.Ytjkcffcedbcjmaa

namespace Go.Proofs.Ytjkcffcedbcjmaa
set_option maxRecDepth 100000
open Go.RowKit Go.Maps
abbrev irow (N : Nat) (f : Nat → Int) : Obj := .cells (sqV N fun i => .int .i64 (f i)) 3
structure Tr (w wr : World) (q N : Nat) (f : Nat → Int) (o1 o2 : Obj) : Prop where
  b : Below w.heap.size w wr
  x1 : wr.heap[w.heap.size]? = some o1
  x2 : wr.heap[w.heap.size + 1]? = some o2
  r : wr.heap[q]? = some (irow N f)
  q : q = w.heap.size + 2
theorem irow_cell {w : World} {q N : Nat} {f : Nat → Int} (h : w.heap[q]? = some (irow N f)) {i : Nat} (hi : i < N) : w.cell? ⟨q, i, none⟩ = some (.int .i64 (f i)) ∧ w.frozen? ⟨q, i, none⟩ = false := by
  have h2 := sqV_at (N := N) (fun i => Value.int .i64 (f i)) hi
  constructor <;> simp [World.cell?, World.frozen?, h, h2]
theorem irow_set {w : World} {q N : Nat} {f : Nat → Int} (h : w.heap[q]? = some (irow N f)) (i : Nat) (v : Int) : (w.setCell ⟨q, i, none⟩ (.int .i64 v)).heap[q]? = some (irow N (updI f i v)) := by
  rw [heap_setCell_same w q i _ _ _ h, sqV_set]
  congr 2
  apply sqV_congr
  intro k _
  unfold updI
  by_cases e : k = i <;> simp [e]
theorem irow_congr {N : Nat} {f g : Nat → Int} (h : ∀ i, i < N → f i = g i) : irow N f = irow N g := by
  unfold irow
  rw [sqV_congr (fun i hi => by rw [h i hi])]
theorem irow_ri {w : World} {q N : Nat} {f : Nat → Int} (h : w.heap[q]? = some (irow N f)) : Ri w (.slice (some ⟨q, 0, none⟩) N N) ((List.range N).map f) := by
  refine ⟨some ⟨q, 0, none⟩, N, by simp, fun j hj => ⟨q, 0, rfl, ?_⟩⟩
  have hj' : j < N := by simpa using hj
  rw [Nat.zero_add, (irow_cell h hj').1]
  simp [List.getD, hj']
theorem Tr.set {w wr : World} {q N : Nat} {f : Nat → Int} {o1 o2 : Obj} (h : Tr w wr q N f o1 o2) (i : Nat) (v : Int) : Tr w (wr.setCell ⟨q, i, none⟩ (.int .i64 v)) q N (updI f i v) o1 o2 := by
  have hq := h.q
  exact ⟨h.b.setCell (p := ⟨q, i, none⟩) (by show w.heap.size ≤ q; omega) _, (Below.heap_setCell _ _ _ _ (by show w.heap.size ≠ q; omega)).trans h.x1, (Below.heap_setCell _ _ _ _ (by show w.heap.size + 1 ≠ q; omega)).trans h.x2, irow_set h.r i v, hq⟩
theorem Tr.congr {w wr : World} {q N : Nat} {f g : Nat → Int} {o1 o2 : Obj} (h : Tr w wr q N f o1 o2) (e : ∀ i, i < N → f i = g i) : Tr w wr q N g o1 o2 := ⟨h.b, h.x1, h.x2, by rw [h.r, irow_congr e], h.q⟩
def upto (F : Nat → Int) (j : Nat) : Nat → Int := fun k => if k < j then F k else 0
theorem upto_last (F : Nat → Int) (N : Nat) : ∀ i, i < N → upto F N i = F i := fun i hi => by unfold upto; rw [if_pos hi]
theorem upto_one {F : Nat → Int} {j N : Nat} {v : Int} (h : F j = v) : ∀ i, i < N → updI (upto F j) j v i = upto F (j + 1) i := fun i _ => by
  unfold updI upto
  by_cases e : i = j
  · rw [if_pos e, if_pos (by omega), e, h]
  · rw [if_neg e]
    by_cases e2 : i < j
    · rw [if_pos e2, if_pos (by omega)]
    · rw [if_neg e2, if_neg (by omega)]
theorem updI_two (f : Nat → Int) (j : Nat) (u v : Int) : updI (updI f j u) j v = updI f j v := by
  funext k
  unfold updI
  by_cases e : k = j <;> simp [e]
theorem td_all {wA wr w2 w3 : World} {ao ro2 : Option Addr} {c rcc g1 g2 c2 m : Nat} {avs2 : List Value} {g : Gf} {s : List Int} (hJ : J wA wr g ao c ro2 rcc avs2) (hg2 : ((wr.alloc (.cells #[.slice ao g.nodes.length c, .slice ro2 g.roots.length rcc] 29)).alloc (.cells #[] 3)).grownBy w2 (some (wr.heap.size + 1))) (hg3 : w2.grownBy w3 (some g1)) (h1 : wr.heap.size + 1 ≤ g1) (hm : g.roots.length + s.length = m) (hown : w3.ownsRow (wr.heap.size + 1) 3 1 (.slice (some ⟨g2, 0, none⟩) m c2) m ((g.roots ++ s).map (Value.int .i64))) :
    Gr (w3.setCell ⟨wr.heap.size, 1, none⟩ (.slice (some ⟨g2, 0, none⟩) m c2)) (.slice ao g.nodes.length c) (.slice (some ⟨g2, 0, none⟩) m c2) ⟨g.nodes, g.roots ++ s⟩ ∧ Below wr.heap.size wr (w3.setCell ⟨wr.heap.size, 1, none⟩ (.slice (some ⟨g2, 0, none⟩) m c2)) ∧ w3.heap[wr.heap.size]? = some (.cells #[.slice ao g.nodes.length c, .slice ro2 g.roots.length rcc] 29) ∧ wr.heap.size < w3.heap.size := by
  have b0 : Below wr.heap.size wr ((wr.alloc (.cells #[.slice ao g.nodes.length c, .slice ro2 g.roots.length rcc] 29)).alloc (.cells #[] 3)) := (below_alloc wr _).alloc (by simp) _
  have b2 := b0.grown hg2 (by simp; omega) (fun k e => by injection e with e; omega)
  have b3 := b2.grown hg3 b2.size (fun k e => by injection e with e; omega)
  have b4 := b3.setCell (p := ⟨wr.heap.size, 1, none⟩) (Nat.le_refl _) (.slice (some ⟨g2, 0, none⟩) m c2)
  have hz2 := hg2.size
  simp at hz2
  have hx : w3.heap[wr.heap.size]? = some (.cells #[.slice ao g.nodes.length c, .slice ro2 g.roots.length rcc] 29) := by
    rw [hg3.block _ (by omega) (fun e => by injection e with e; omega), hg2.block _ (by simp; omega) (fun e => by injection e with e; omega), Below.heap_alloc _ _ _ (by simp)]
    exact heap_alloc_new wr _
  subst hm
  have hl : (g.roots ++ s).length = g.roots.length + s.length := List.length_append
  refine ⟨⟨hJ.og.gr.1.below b4, ?_⟩, b4, hx, lt_of_block hx⟩
  have h9 : (w3.setCell ⟨wr.heap.size, 1, none⟩ (.slice (some ⟨g2, 0, none⟩) (g.roots.length + s.length) c2)).ownsRow (wr.heap.size + 1) 3 1 (.slice (some ⟨g2, 0, none⟩) (g.roots ++ s).length c2) (g.roots ++ s).length ((g.roots ++ s).map (Value.int .i64)) := by
    rw [hl]
    exact own_block hown (fun k e => Below.heap_setCell _ _ _ _ (by have := (hown.lt k e).1; show k ≠ wr.heap.size; omega))
  have h10 := Ri.ofOwn h9
  rw [hl] at h10
  exact h10
section
variable {M : List Nd} {Sf : Nat → Int} {B : List Int} {m : Nat}
abbrev allM (M : List Nd) (Sf : Nat → Int) (B : List Int) (m : Nat) : Gf := ⟨M.map (whX M Sf), B.map (toF M Sf) ++ (List.range m).map Sf⟩
abbrev smlM (M : List Nd) (Sf : Nat → Int) (B : List Int) (m : Nat) : Gf := ⟨(trimF (allM M Sf B m)).nodes, (B.map (toF M Sf)).map (posF (metF (allM M Sf B m)))⟩
theorem smlM_good (h : Good (allM M Sf B m)) : Good (smlM M Sf B m) := by
  have hg := trim_good0 h
  refine ⟨hg.nodes, ?_, hg.node, fun z hz => hg.root z ?_⟩
  · have := h.roots
    simp only [List.length_append, List.length_map] at this
    show ((B.map _).map _).length ≤ 4096
    rw [List.length_map, List.length_map]
    omega
  · obtain ⟨y, hy, rfl⟩ := List.mem_map.1 hz
    exact List.mem_map.2 ⟨y, List.mem_append_left _ hy, rfl⟩
theorem sml_roots : (trimF (allM M Sf B m)).roots = (smlM M Sf B m).roots ++ (List.range m).map (fun i => posF (metF (allM M Sf B m)) (Sf i)) := by
  show (allM M Sf B m).roots.map _ = _
  rw [List.map_append, List.map_map (l := List.range m)]
  rfl
theorem sml_rng (h : Good (allM M Sf B m)) {i : Nat} (hi : i < m) : 0 ≤ posF (metF (allM M Sf B m)) (Sf i) ∧ posF (metF (allM M Sf B m)) (Sf i) < ((trimF (allM M Sf B m)).nodes.length : Int) := by
  have hm : Sf i ∈ metF (allM M Sf B m) := met_root h _ (List.mem_append_right _ (List.mem_map.2 ⟨i, List.mem_range.2 hi, rfl⟩))
  have := pos_rng h _ hm
  rw [trim_len h]
  exact this
end
theorem ret_gsF {w : World} {fn : Func} {t s u : Tmp} (hfn : fn.results = #[.cell t 29, .tmp s, .cell u 37]) {tmps : Array Value} {q p : Nat} {u0 u1 v1 : Value} {c a : Int} {n : ByteArray} (h1 : tmps[s]?.getD undef = v1) (h3 : tmps[t]?.getD undef = .pointer (some ⟨q, 0, none⟩)) (h4 : tmps[u]?.getD undef = .pointer (some ⟨p, 0, none⟩)) (hq : w.heap[q]? = some (.cells #[u0, u1] 29)) (hp : w.heap[p]? = some (fO c a n)) : (results fn tmps).run Try.prog w = .ok (.tuple #[.agg #[u0, u1], v1, fV c a n]) w := by
  obtain ⟨⟨y0, y1⟩, _⟩ := blk2 hq
  obtain ⟨⟨z0, z1, z2, z3⟩, _⟩ := blk4 hp
  simp [results, hfn, go_sem, h1, h3, h4, y0, y1, z0, z1, z2, z3]
def prtN (MT : List Int) (NM : List (ByteArray × Int)) (nm : ByteArray) (c : Int) (t : Nat) : List (ByteArray × Int) := if c ∈ MT.take t then NM ++ [(nm, posF MT c)] else NM
theorem prtN_zero (MT : List Int) (NM : List (ByteArray × Int)) (nm : ByteArray) (c : Int) : prtN MT NM nm c 0 = NM := by simp [prtN]
theorem take_snocI {l : List Int} {t : Nat} (h : t < l.length) : l.take (t + 1) = l.take t ++ [l.getD t 0] := by
  rw [List.take_add_one]
  simp [List.getD, h]
theorem prtN_miss {MT : List Int} {NM : List (ByteArray × Int)} {nm : ByteArray} {c : Int} {t : Nat} (h : t < MT.length) (hne : MT.getD t 0 ≠ c) : prtN MT NM nm c (t + 1) = prtN MT NM nm c t := by
  unfold prtN
  rw [take_snocI h]
  by_cases hm : c ∈ MT.take t
  · rw [if_pos hm, if_pos (List.mem_append_left _ hm)]
  · rw [if_neg hm, if_neg]
    intro hx
    rcases List.mem_append.1 hx with e | e
    · exact hm e
    · simp only [List.mem_singleton] at e
      exact hne e.symm
theorem prtN_hit {MT : List Int} {NM : List (ByteArray × Int)} {nm : ByteArray} {c : Int} {t : Nat} (hn : MT.Nodup) (h : t < MT.length) (he : MT.getD t 0 = c) : prtN MT NM nm c t = NM ∧ prtN MT NM nm c (t + 1) = NM ++ [(nm, (t : Int))] := by
  subst he
  have hnot : MT.getD t 0 ∉ MT.take t := fun hm => by
    obtain ⟨i, hi, e⟩ := List.getElem_of_mem hm
    have hi' : i < t := by simp at hi; omega
    have hil : i < MT.length := by omega
    unfold List.Nodup at hn
    rw [List.pairwise_iff_getElem] at hn
    refine hn i t hil h hi' ?_
    rw [List.getElem_take] at e
    rw [e]
    simp [List.getD, h]
  unfold prtN
  rw [if_neg hnot, take_snocI h, if_pos (by simp), posF_getD hn h]
  exact ⟨rfl, rfl⟩
end Go.Proofs.Ytjkcffcedbcjmaa

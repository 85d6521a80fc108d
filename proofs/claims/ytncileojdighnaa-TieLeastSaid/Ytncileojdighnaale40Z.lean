/- lay of package tie's knot. -/
import Derived.Test.Ytncileojdighnaale39Z
namespace Go.Proofs.Ytncileojdighnaa
set_option maxRecDepth 100000
open Go.RowKit Go.Maps
def LayU (w w' : World) (B kb cb : Nat) (nv lv rv : Value) (avs : List Value) (L : List Nat) (ns : List Nd) (rs : List Int) : Prop := ∃ L', KnU w w' B kb cb nv lv rv avs ns L' rs ∧ ∀ E, Ld L E → Ld L' E
def LayC (W0 : World) (cb : Nat) (names : List ByteArray) (x : Ex) : Prop := ∀ (w : World) (ev : Value) (kb : Nat) (nv lv rv : Value) (avs : List Value) (st : List Nd) (L : List Nat) (rs : List Int), Xv W0 x ev → szX x → okX names x → Below W0.heap.size W0 w → Kn w W0.heap.size kb cb nv lv rv avs st L rs → st.length + prtX x ≤ 90000 →
    Calls Try.prog 51 #[.pointer (some ⟨kb, 0, none⟩), ev] w fun e w' => e = .returned (.int .i64 ((layX names st x).1 : Int)) ∧ LayU w w' W0.heap.size kb cb nv lv rv avs L (layX names st x).2 rs
set_option maxHeartbeats 4000000 in
theorem lay_name {W0 : World} {B0 cb cq oth : Nat} {cv : Value} {names : List ByteArray} (hC : Cs W0 B0 cb cv cq names oth) {k : Int} {n : ByteArray} {m : Int} {xs : List Ex} (hn : (decide (k = 1) && !isU n) = true) : LayC W0 cb names (.mk k n m xs) := by
  intro w ev kb nv lv rv avs st L rs hx hz hok hB hK hl
  obtain ⟨av, rfl, hr⟩ := hx.parts
  obtain ⟨ao, c, rfl, _⟩ := hr
  have hb0 := below_alloc w (.cells #[.int .i64 k, .string n, .int .i64 m, .slice ao xs.length c] 48)
  have hin := isNamed_any (hx.next (Below.next hB hb0))
  rw [show nmX (.mk k n m xs) = true from hn] at hin
  have hI := hok.1 hn
  obtain ⟨D, hD, hM⟩ := (hC.next hB).map
  have hCc := (hC.next hB).cells
  have hat0 := hM.2.2 n hI
  have hk := WideMaps.keyOf_string_mk (P := Try.prog) (k := 9) Try.underlying9 (s := n) (by unfold maxLen; have := hz.1; omega)
  have hE : Hid (layX names st (.mk k n m xs) = (ixN names n, st)) := show _ = _ by rw [layX, if_pos hn]
  rw [hE.out]
  have hnx : Hid (∀ w1, Below (w.alloc (.cells #[.int .i64 k, .string n, .int .i64 m, .slice ao xs.length c] 48)).heap.size (w.alloc (.cells #[.int .i64 k, .string n, .int .i64 m, .slice ao xs.length c] 48)) w1 → ((w1.cell? ⟨kb, 0, none⟩ = some (.pointer (some ⟨cb, 0, none⟩)) ∧ kb < w1.heap.size) ∧ (w1.cell? ⟨cb, 1, none⟩ = some (.map (some cq)) ∧ cb < w1.heap.size) ∧ (w1.cell? ⟨w.heap.size, 1, none⟩ = some (.string n) ∧ w.heap.size < w1.heap.size)) ∧ w1.ownsMap Try.prog 9 (plainElem Try.prog 3) cq names.length D ∧ LayU w w1.drew W0.heap.size kb cb nv lv rv avs L st rs) := fun w1 hb1 => by
    have hb := Below.next hb0 hb1
    have hK1 := hK.next hb
    have hbx : w1.heap[w.heap.size]? = _ := (hb1.block w.heap.size (by simp)).trans (heap_alloc_new w _)
    have hcb : cb < w.heap.size := lt_of_block (hC.next hB).blk
    have hC1 := ((hC.next hB).next hb).cells
    refine ⟨⟨⟨hK1.cells.1.1, lt_of_block hK1.blk⟩, ⟨hC1.1.2.1, lt_of_cell hC1.1.2.1⟩, (xblk hbx).1.2.1, lt_of_block hbx⟩, mapI_keep hD (hb.block cq hD.lt), L, ⟨nv, lv, avs, hK1.keep (fun _ _ => rfl), (Mo.ofBelow hb).drew, fun k h => Or.inl h⟩, fun _ h => h⟩
  clear hn hE hx hB hK hC hM hok hI hCc
  go_enter Try.func51, Try.ntmps51
  go_wp2_with (go_at_call 74; refine hin.mono ?_; rintro e w1 ⟨rfl, hb1⟩; obtain ⟨⟨⟨g0, g1⟩, ⟨g2, g3⟩, g4, g5⟩, hD1, hfin⟩ := hnx.out w1 hb1; clear hb1)
  go_still_tail 9, (by kernel_rfl)
  change wpList _ _ _ _ _ w1.drew
  have hD2 := World.ownsMap.drew hD1
  go_wp2_with (at_lookup; refine wpList_lookup_own_int _ rfl _ _ 69 rfl 9 3 .i64 (string_keyed Try.underlying9) Try.underlying69 Try.underlying3 (zeroI _) cq names.length D rfl hD2 _ _ rfl hk ?_; intro c2 hat hwc)
  go_ret
  refine ⟨ret_int ?_, hfin⟩
  rw [hat0] at hat
  injection hat with hat
  injection hat with _ hat
  exact hat.symm
set_option maxHeartbeats 4000000 in
theorem lay_var {W0 : World} {cb : Nat} {names : List ByteArray} {n : ByteArray} {m : Int} {xs : List Ex} (hn : ¬ (decide ((1 : Int) = 1) && !isU n) = true) : LayC W0 cb names (.mk 1 n m xs) := by
  intro w ev kb nv lv rv avs st L rs hx hz hok hB hK hl
  obtain ⟨av, rfl, hr⟩ := hx.parts
  obtain ⟨ao, c, rfl, _⟩ := hr
  have hb0 := below_alloc w (.cells #[.int .i64 1, .string n, .int .i64 m, .slice ao xs.length c] 48)
  have hin := isNamed_any (hx.next (Below.next hB hb0))
  rw [show nmX (.mk 1 n m xs) = false by simpa [nmX] using hn] at hin
  have hE : layX names st (.mk 1 n m xs) = (st.length, st ++ [varN]) := by rw [layX, if_neg hn, if_pos rfl]
  rw [hE]
  have ho := prtX_pos (.mk 1 n m xs)
  have hnx : Hid (∀ w1, Below (w.alloc (.cells #[.int .i64 1, .string n, .int .i64 m, .slice ao xs.length c] 48)).heap.size (w.alloc (.cells #[.int .i64 1, .string n, .int .i64 m, .slice ao xs.length c] 48)) w1 → (w1.cell? ⟨w.heap.size, 0, none⟩ = some (.int .i64 1) ∧ w.heap.size < w1.heap.size) ∧ Calls Try.prog 50 #[.pointer (some ⟨kb, 0, none⟩), .agg #[.int .i64 1, .string ⟨#[]⟩, .int .i64 0, .slice none 0 0]] w1 fun e w' => e = .returned (.int .i64 (st.length : Int)) ∧ LayU w w' W0.heap.size kb cb nv lv rv avs L (st ++ [varN]) rs) := fun w1 hb1 => by
    have hb := Below.next hb0 hb1
    have hs := hb.size
    have hs0 := hB.size
    have hbx : w1.heap[w.heap.size]? = _ := (hb1.block w.heap.size (by simp)).trans (heap_alloc_new w _)
    refine ⟨⟨(xblk hbx).1.1, lt_of_block hbx⟩, (kadd_any (hK.next hb) 1 ⟨#[]⟩ 0 (by omega) (by omega)).mono ?_⟩
    rintro e w' ⟨rfl, hU⟩
    exact ⟨rfl, _, KnU.trans (Mo.ofBelow hb) (fun _ h => Or.inl h) hU, fun E h => h.add⟩
  clear hn hE hx hB hK hok ho
  go_enter Try.func51, Try.ntmps51
  go_wp2_with (first
    | (go_at_call 74; refine hin.mono ?_; rintro e w1 ⟨rfl, hb1⟩; obtain ⟨⟨g0, g1⟩, hcall⟩ := hnx.out w1 hb1; clear hb1)
    | (go_at_call 50; refine hcall.mono ?_; rintro e w2 ⟨rfl, hU⟩))
  go_ret
  exact ⟨rfl, hU⟩
end Go.Proofs.Ytncileojdighnaa

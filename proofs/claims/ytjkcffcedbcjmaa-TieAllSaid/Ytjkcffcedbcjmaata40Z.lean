/- The fixed fact of layer 8. -/
import Derived.Test.Ytjkcffcedbcjmaata37Z
namespace Go.Proofs.Ytjkcffcedbcjmaa
set_option maxRecDepth 100000
open Go.RowKit Go.Maps
abbrev sX : ByteArray := ⟨#[88]⟩
abbrev sY : ByteArray := ⟨#[89]⟩
abbrev sF : ByteArray := ⟨#[102]⟩
def xX : Ex := .mk 1 sX 0 []
def xY : Ex := .mk 1 sY 0 []
def xF : Ex := .mk 4 sF 0 [xX, xY]
theorem uX : isU sX = false := by simp [isU, ByteArray.toList_eq]
theorem uY : isU sY = false := by simp [isU, ByteArray.toList_eq]
theorem wX : isW sX 4 = true := by decide
theorem wY : isW sY 4 = true := by decide
theorem gX : goodX 0 xX = true := by simp [goodX, xX, wX]
theorem gF : goodX 0 xF = true := by
  have hf : goodS sF = true := by decide
  simp [goodX, goodXs, xF, xX, xY, wX, wY, hf]
theorem chkL : chkT [xX] [(sX, xF)] = (0, 0, ⟨#[]⟩) := by
  simp [chkT, ixOf, gX, chkQ, wX, uX, inN, gF]
theorem namL0 : namA [xX] [(sX, xF)] = [sX, sY] := by
  simp [namA, namXs, namX, namQ, xX, xY, xF, uX, uY, putS, inN]
theorem othL0 : othA [xX] [(sX, xF)] = 1 := by
  simp [othA, othXs, othX, othQ, xX, xY, xF, uX, uY]
theorem tieCL : (tieC [xX] [(sX, xF)]).1 = 0 := by
  simp [tieC, chkL, namL0, othL0]
def gL : Gf := ⟨[varN, varN, ⟨4, sF, 0, [2, 1]⟩], [2]⟩
theorem layL : tieN [xX] [(sX, xF)] = [varN, varN, ⟨4, sF, 0, [0, 1]⟩] ∧ tieR [xX] [(sX, xF)] = [0] ∧ tieP [xX] [(sX, xF)] = [(0, 2)] := by
  unfold tieN tieR tieP
  rw [namL0]
  simp [layXs, layX, layQ, xX, xY, xF, uX, uY, ixN, List.replicate, setA]
theorem tieEL : tieE [xX] [(sX, xF)] 0 = 2 ∧ tieE [xX] [(sX, xF)] 1 = 1 ∧ tieE [xX] [(sX, xF)] 2 = 2 := by
  simp [tieE, layL.2.2, bindAll, bindE]
theorem tieGL : tieG [xX] [(sX, xF)] = gL := by
  have h := tieEL
  simp [tieG, gE, layL.1, layL.2.1, gL, renum, EI, h.1, h.2.1]
theorem gL_no (x y : Nat) (hx : x < 3) (hy : y < 3) (hne : x ≠ y) : ¬ Al gL (x : Int) (y : Int) := fun h => by
  obtain ⟨_, _, ⟨h1, _, _, _, h5⟩, _⟩ := al_sim gL _ _ h
  have ex : x = 0 ∨ x = 1 ∨ x = 2 := by omega
  have ey : y = 0 ∨ y = 1 ∨ y = 2 := by omega
  rcases ex with rfl | rfl | rfl <;> rcases ey with rfl | rfl | rfl <;> first | exact absurd rfl hne | exact absurd h1 (by decide) | exact absurd (h5 rfl) (by decide)
theorem gL_e {e : Nat → Nat → Bool} (he : ∀ x y : Nat, (e x y = true ↔ Al gL (x : Int) (y : Int))) (x y : Nat) (hx : x < 3) (hy : y < 3) (hne : x ≠ y) : e x y = false := by
  cases h : e x y
  · rfl
  · exact absurd ((he x y).1 h) (gL_no x y hx hy hne)
theorem gL_cs {e : Nat → Nat → Bool} (he : ∀ x y : Nat, (e x y = true ↔ Al gL (x : Int) (y : Int))) : csF e 3 = [0, 1, 2] ∧ lsF e 3 = [0, 1, 2] := by
  have h1 := gL_e he 1 0 (by omega) (by omega) (by omega)
  have h2 := gL_e he 2 0 (by omega) (by omega) (by omega)
  have h3 := gL_e he 2 1 (by omega) (by omega) (by omega)
  simp [csF, lsF, numF, fnd, h1, h2, h3]
theorem gL_quo {e : Nat → Nat → Bool} (he : ∀ x y : Nat, (e x y = true ↔ Al gL (x : Int) (y : Int))) : quoF e gL = gL ∧ clsI e 3 0 = 0 ∧ clsI e 3 1 = 1 ∧ clsI e 3 2 = 2 := by
  obtain ⟨h1, h2⟩ := gL_cs he
  have c0 : clsI e 3 0 = 0 := by simp [clsI, h1, ints]
  have c1 : clsI e 3 1 = 1 := by simp [clsI, h1, ints]
  have c2 : clsI e 3 2 = 2 := by simp [clsI, h1, ints]
  refine ⟨?_, c0, c1, c2⟩
  simp [quoF, gL, h2, renum, c1, c2]
theorem gL_met : metF gL = [2, 1] := by
  simp [metF, gL, meetF, Gf.argsOf]
theorem gL_trim {e : Nat → Nat → Bool} (he : ∀ x y : Nat, (e x y = true ↔ Al gL (x : Int) (y : Int))) : trimF (quoF e gL) = ⟨[⟨4, sF, 0, [0, 1]⟩, varN], [0]⟩ := by
  rw [(gL_quo he).1]
  unfold trimF
  rw [gL_met]
  simp [gL, renum, posF, pos]
theorem gL_nmd {e : Nat → Nat → Bool} (he : ∀ x y : Nat, (e x y = true ↔ Al gL (x : Int) (y : Int))) : nmdF e gL (tieE [xX] [(sX, xF)]) [sX, sY] 2 = [(sX, 0), (sY, 1)] := by
  obtain ⟨h0, h1, h2, h3⟩ := gL_quo he
  have hE := tieEL
  have hl : gL.nodes.length = 3 := rfl
  simp [nmdF, h0, gL_met, hl, hE.1, hE.2.1, h2, h3, posF, pos]
end Go.Proofs.Ytjkcffcedbcjmaa

namespace Go.Proofs.Ytjkcffcedbcjmaa
set_option maxRecDepth 100000
open Go.RowKit Go.Maps
theorem ret_x1 {w : World} {fn : Func} {t : Tmp} (hfn : fn.results = #[.cell t 48]) {tmps : Array Value} {q : Nat} {u0 u1 u2 u3 : Value} (h4 : tmps[t]?.getD undef = .pointer (some ⟨q, 0, none⟩)) (hq : w.heap[q]? = some (.cells #[u0, u1, u2, u3] 48)) : (results fn tmps).run Try.prog w = .ok (.agg #[u0, u1, u2, u3]) w := by
  obtain ⟨⟨z0, z1, z2, z3⟩, _⟩ := xblk hq
  simp [results, hfn, go_sem, h4, z0, z1, z2, z3]
theorem set4 {w : World} {q : Nat} {u0 u1 u2 u3 v0 v1 v2 v3 : Value} {T : TypeId} (h : w.heap[q]? = some (.cells #[u0, u1, u2, u3] T)) : ((((w.setCell ⟨q, 0, none⟩ v0).setCell ⟨q, 1, none⟩ v1).setCell ⟨q, 2, none⟩ v2).setCell ⟨q, 3, none⟩ v3).heap[q]? = some (.cells #[v0, v1, v2, v3] T) := by
  have h1 : (w.setCell ⟨q, 0, none⟩ v0).heap[q]? = some (.cells #[v0, u1, u2, u3] T) := heap_setCell_same w q 0 _ _ v0 h
  have h2 : ((w.setCell ⟨q, 0, none⟩ v0).setCell ⟨q, 1, none⟩ v1).heap[q]? = some (.cells #[v0, v1, u2, u3] T) := heap_setCell_same _ q 1 _ _ v1 h1
  have h3 : (((w.setCell ⟨q, 0, none⟩ v0).setCell ⟨q, 1, none⟩ v1).setCell ⟨q, 2, none⟩ v2).heap[q]? = some (.cells #[v0, v1, v2, u3] T) := heap_setCell_same _ q 2 _ _ v2 h2
  exact heap_setCell_same _ q 3 _ _ v3 h3
set_option maxHeartbeats 1000000 in
theorem v_any (s : ByteArray) (w : World) : Calls Try.prog 18 #[.string s] w fun e w' => e = .returned (.agg #[.int .i64 1, .string s, .int .i64 0, .slice none 0 0]) ∧ Below w.heap.size w w' := by
  go_enter Try.func18, Try.ntmps18
  go_wp2
  exact bodyPost_ret (ret_x1 Try.results18 (by rfl) (heap_alloc_new w _)) rfl ⟨rfl, below_alloc w _⟩
set_option maxHeartbeats 1000000 in
theorem c_any (s : ByteArray) (a : Option Addr) (n c : Nat) (w : World) : Calls Try.prog 17 #[.string s, .slice a n c] w fun e w' => e = .returned (.agg #[.int .i64 4, .string s, .int .i64 0, .slice a n c]) ∧ Below w.heap.size w w' := by
  go_enter Try.func17, Try.ntmps17
  go_wp2
  exact bodyPost_ret (ret_x1 Try.results17 (by rfl) (heap_alloc_new w _)) rfl ⟨rfl, below_alloc w _⟩
theorem rx_one {w : World} {b : Nat} {s : ByteArray} {T : TypeId} (h : w.heap[b]? = some (.cells #[.int .i64 1, .string s, .int .i64 0, .slice none 0 0] T)) : Rxs w (.slice (some ⟨b, 0, none⟩) 1 1) [.mk 1 s 0 []] := by
  obtain ⟨⟨c0, c1, c2, c3⟩, _⟩ := xblk h
  refine ⟨_, _, rfl, fun j hj => ?_⟩
  have e : j = 0 := by simpa using hj
  subst e
  exact ⟨b, 0, 1, s, 0, none, 0, 0, rfl, c0, c1, c2, c3, Xv.of (Rxs.nil w)⟩
theorem rx_two {w : World} {b : Nat} {s t : ByteArray} {T : TypeId} (h : w.heap[b]? = some (.cells #[.int .i64 1, .string s, .int .i64 0, .slice none 0 0, .int .i64 1, .string t, .int .i64 0, .slice none 0 0] T)) : Rxs w (.slice (some ⟨b, 0, none⟩) 2 2) [.mk 1 s 0 [], .mk 1 t 0 []] := by
  refine ⟨_, _, rfl, fun j hj => ?_⟩
  have e : j = 0 ∨ j = 1 := by simp at hj; omega
  rcases e with rfl | rfl
  · exact ⟨b, 0, 1, s, 0, none, 0, 0, rfl, by simp [World.cell?, h], by simp [World.cell?, h], by simp [World.cell?, h], by simp [World.cell?, h], Xv.of (Rxs.nil w)⟩
  · exact ⟨b, 0, 1, t, 0, none, 0, 0, rfl, by simp [World.cell?, h], by simp [World.cell?, h], by simp [World.cell?, h], by simp [World.cell?, h], Xv.of (Rxs.nil w)⟩
theorem rq_one {w : World} {b : Nat} {nm s : ByteArray} {k m : Int} {xs : List Ex} {a : Option Addr} {n c : Nat} {T : TypeId} (h : w.heap[b]? = some (.cells #[.string nm, .int .i64 k, .string s, .int .i64 m, .slice a n c] T)) (hx : Rxs w (.slice a n c) xs) : Rqs w (.slice (some ⟨b, 0, none⟩) 1 1) [(nm, .mk k s m xs)] := by
  obtain ⟨⟨c0, c1, c2, c3, c4⟩, _⟩ := tblk5 h
  refine ⟨_, _, rfl, fun j hj => ?_⟩
  have e : j = 0 := by simpa using hj
  subst e
  exact ⟨b, 0, k, s, m, a, n, c, rfl, c0, c1, c2, c3, c4, Xv.of hx⟩
set_option maxHeartbeats 4000000 in
theorem tlives_any (w : World) : Calls Try.prog 7 #[] w fun e w' => e = .returned (.bool true) ∧ Below w.heap.size w w' := by
  obtain ⟨ee, hd⟩ := al_dec gL
  have htie : Hid (∀ (w5 : World) (b1 b3 b4 : Nat), w5.heap[b1]? = some (.cells #[.int .i64 1, .string sX, .int .i64 0, .slice none 0 0] 48) → w5.heap[b3]? = some (.cells #[.int .i64 1, .string sX, .int .i64 0, .slice none 0 0, .int .i64 1, .string sY, .int .i64 0, .slice none 0 0] 48) → w5.heap[b4]? = some (.cells #[.string sX, .int .i64 4, .string sF, .int .i64 0, .slice (some ⟨b3, 0, none⟩) 2 2] 51) → Calls Try.prog 9 #[.slice (some ⟨b1, 0, none⟩) 1 1, .slice (some ⟨b4, 0, none⟩) 1 1] w5 fun r w' => (∃ nb nc ra rc mb mc, r = .returned (.tuple #[.agg #[.slice (some ⟨nb, 0, none⟩) 2 nc, .slice ra 1 rc], .slice (some ⟨mb, 0, none⟩) 2 mc, .nilIface]) ∧ (w'.cell? ⟨nb, 1, none⟩ = some (.string sF) ∧ (∃ ab ac, w'.cell? ⟨nb, 3, none⟩ = some (.slice (some ⟨ab, 0, none⟩) 2 ac) ∧ w'.cell? ⟨ab, 0, none⟩ = some (.int .i64 0) ∧ ab < w'.heap.size) ∧ nb < w'.heap.size) ∧ (w'.cell? ⟨mb, 2, none⟩ = some (.string sY) ∧ w'.cell? ⟨mb, 3, none⟩ = some (.int .i64 1) ∧ mb < w'.heap.size)) ∧ Below w5.heap.size w5 w') := fun w5 b1 b3 b4 h1 h3 h4 => by
    have hz : szXs [xX] := ⟨⟨by decide, trivial⟩, trivial⟩
    have hzq : ∀ q ∈ [(sX, xF)], q.1.size ≤ 281474976710656 ∧ szX q.2 := fun q hq => by
      simp at hq
      subst hq
      exact ⟨by decide, by decide, ⟨by decide, trivial⟩, ⟨by decide, trivial⟩, trivial⟩
    have ht := tie_ok (W := w5) (xs := [xX]) (qs := [(sX, xF)]) (rx_one h1) (rq_one h4 (rx_two h3)) hz hzq (by simp [prtXs, prtX, prtQ, xX, xY, xF]) tieCL ee (by rw [tieGL]; exact hd)
    rw [tieGL, gL_trim hd, namL0] at ht
    refine ht.mono ?_
    rintro r w' ⟨⟨nv, rv, avs, mv, rfl, hO, hm⟩, hb⟩
    refine ⟨?_, hb⟩
    have hn2 : nmdF ee gL (tieE [xX] [(sX, xF)]) [sX, sY] [sX, sY].length = [(sX, 0), (sY, 1)] := gL_nmd hd
    rw [hn2] at hm
    obtain ⟨ra, rc, rfl, _⟩ := hO.r
    have hon := hO.on
    have h0 := (ncells_at [⟨4, sF, 0, [0, 1]⟩, varN] avs 0 hon.len (by decide))
    have hnn : w'.ownsRow w5.heap.size 63 4 nv 2 (ncells [⟨4, sF, 0, [0, 1]⟩, varN] avs) := hon.n
    obtain ⟨a1, a2, ea, hoa⟩ := hon.a 0 (by decide)
    have hoa' : w'.ownsRow w5.heap.size 3 1 (.slice a1 2 a2) 2 [.int .i64 0, .int .i64 1] := hoa
    have ea' : avs.getD 0 undef = .slice a1 2 a2 := ea
    rcases hnn.2 with ⟨_, h9⟩ | ⟨nb, nc, cur, e1, _⟩
    · omega
    · subst e1
      rcases hoa'.2 with ⟨_, h9⟩ | ⟨ab, ac, cur2, e2, _⟩
      · omega
      · have e3 : a1 = some ⟨ab, 0, none⟩ ∧ a2 = ac := by injection e2 with e3 _ e4; exact ⟨e3, e4⟩
        obtain ⟨rfl, rfl⟩ := e3
        have hm' : w'.ownsRow w5.heap.size 56 2 mv 2 [.string sX, .int .i64 0, .string sY, .int .i64 1] := hm
        rcases hm'.2 with ⟨_, h9⟩ | ⟨mb, mc, cur3, e4, _⟩
        · omega
        · subst e4
          have k1 := hnn.cellAt 1 (by omega)
          have k3 := hnn.cellAt 3 (by omega)
          have q1 := h0.2.1
          have q3 := h0.2.2.2
          rw [ea'] at q3
          have k1' : w'.cell? ⟨nb, 1, none⟩ = some (.string sF) := k1.trans q1
          have k3' : w'.cell? ⟨nb, 3, none⟩ = some (.slice (some ⟨ab, 0, none⟩) 2 a2) := k3.trans q3
          have l0 : w'.cell? ⟨ab, 0, none⟩ = some (.int .i64 0) := hoa'.cellAt 0 (by omega)
          have n2 : w'.cell? ⟨mb, 2, none⟩ = some (.string sY) := hm'.cellAt 2 (by omega)
          have n3 : w'.cell? ⟨mb, 3, none⟩ = some (.int .i64 1) := hm'.cellAt 3 (by omega)
          exact ⟨nb, nc, ra, rc, mb, mc, rfl, ⟨k1', ⟨ab, a2, k3', l0, lt_of_cell l0⟩, lt_of_cell k1'⟩, n2, n3, lt_of_cell n2⟩
  have m1 : True := trivial
  have m2 : True := trivial
  have m3 : True := trivial
  clear hd
  go_enter Try.func7, Try.ntmps7
  go_wp2_with (first
    | (go_at_call 18; clear m1; refine (v_any sX _).mono ?_; rintro e w1 ⟨rfl, hb1⟩; have g1 := heap_alloc_new w1 (.cells #[.int .i64 1, .string sX, .int .i64 0, .slice none 0 0] 48); have hB1 := Below.next hb1 (below_alloc w1 (.cells #[.int .i64 1, .string sX, .int .i64 0, .slice none 0 0] 48)))
    | (go_at_call 18; clear m2; refine (v_any sX _).mono ?_; rintro e w2 ⟨rfl, hb2⟩)
    | (go_at_call 18; clear m3; refine (v_any sY _).mono ?_; rintro e w3 ⟨rfl, hb3⟩; have g3 := heap_alloc_new w3 (.cells #[.int .i64 1, .string sX, .int .i64 0, .slice none 0 0, .int .i64 1, .string sY, .int .i64 0, .slice none 0 0] 48))
    | (go_at_call 17; refine (c_any sF _ _ _ _).mono ?_; rintro e w4 ⟨rfl, hb4⟩; have g4' := heap_alloc_new w4 (.cells #[.string sX, .int .i64 4, .string sF, .int .i64 0, .slice (some ⟨w3.heap.size, 0, none⟩) 2 2] 51); have hb4a := Below.next hb4 (below_alloc w4 (.cells #[.string sX, .int .i64 4, .string sF, .int .i64 0, .slice (some ⟨w3.heap.size, 0, none⟩) 2 2] 51)); have g3a := (hb4a.block _ (lt_of_block g3)).trans g3; have hb13 := Below.next (Below.next (Below.next hb2 hb3) (below_alloc w3 (.cells #[.int .i64 1, .string sX, .int .i64 0, .slice none 0 0, .int .i64 1, .string sY, .int .i64 0, .slice none 0 0] 48))) hb4a; have g1a := (hb13.block _ (lt_of_block g1)).trans g1; have htc := htie.out _ _ _ _ g1a g3a g4')
    | (go_at_call 9; refine htc.mono ?_; rintro e w5 ⟨⟨nb, nc, ra, rc, mb, mc, rfl, ⟨x1, ⟨ab, ac, x3, x4, x5⟩, x6⟩, y1, y2, y3⟩, hb5⟩))
  go_ret
  exact ⟨rfl, Below.next (Below.next (Below.next hB1 hb13) hb5) (below_alloc w5 _)⟩
end Go.Proofs.Ytjkcffcedbcjmaa

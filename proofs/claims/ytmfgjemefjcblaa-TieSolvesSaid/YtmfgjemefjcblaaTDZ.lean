/- The fixed fact of layer 8. -/
import Derived.Test.YtmfgjemefjcblaaTCZ
import Derived.Test.YtmfgjemefjcblaaGrMem
import Derived.Laws.IdiomStrings
namespace Go.Proofs.Ytmfgjemefjcblaa
open Go.RowKit Go.Maps

abbrev sX : ByteArray := ⟨#[88]⟩
abbrev sY : ByteArray := ⟨#[89]⟩
abbrev sF : ByteArray := ⟨#[102]⟩
def xX : Ex := .mk 1 sX 0 []
def xY : Ex := .mk 1 sY 0 []
def xF : Ex := .mk 4 sF 0 [xX, xY]
theorem uX : isU sX = false := by simp [isU, ByteArray.toList_eq]
theorem uY : isU sY = false := by simp [isU, ByteArray.toList_eq]
theorem wX : isW sX 4 = true := by decide
theorem wY : isW sY 4 = true := by decide
theorem gX : goodX 0 xX = true := by simp [goodX, xX, wX]
theorem gF : goodX 0 xF = true := by
  have hf : goodS sF = true := by decide
  simp [goodX, goodXs, xF, xX, xY, wX, wY, hf]
theorem chkL : chkT [xX] [(sX, xF)] = (0, 0, ⟨#[]⟩) := by
  simp [chkT, ixOf, gX, chkQ, wX, uX, inN, gF]
theorem namL0 : namA [xX] [(sX, xF)] = [sX, sY] := by
  simp [namA, namXs, namX, namQ, xX, xY, xF, uX, uY, putS, inN]
theorem othL0 : othA [xX] [(sX, xF)] = 1 := by
  simp [othA, othXs, othX, othQ, xX, xY, xF, uX, uY]
theorem tieCL : (tieC [xX] [(sX, xF)]).1 = 0 := by
  simp [tieC, chkL, namL0, othL0]
/-- The graph of the fixed fact. -/
def gL : Gf := ⟨[varN, varN, ⟨4, sF, 0, [2, 1]⟩], [2]⟩
theorem layL : tieN [xX] [(sX, xF)] = [varN, varN, ⟨4, sF, 0, [0, 1]⟩] ∧ tieR [xX] [(sX, xF)] = [0] ∧ tieP [xX] [(sX, xF)] = [(0, 2)] := by
  unfold tieN tieR tieP
  rw [namL0]
  simp [layXs, layX, layQ, xX, xY, xF, uX, uY, ixN, List.replicate, setA]
theorem tieEL : tieE [xX] [(sX, xF)] 0 = 2 ∧ tieE [xX] [(sX, xF)] 1 = 1 ∧ tieE [xX] [(sX, xF)] 2 = 2 := by
  simp [tieE, layL.2.2, bindAll, bindE]
theorem tieGL : tieG [xX] [(sX, xF)] = gL := by
  have h := tieEL
  simp [tieG, gE, layL.1, layL.2.1, gL, renum, EI, h.1, h.2.1]
theorem gL_good : Good gL := by
  rw [← tieGL]
  exact tie_goodG (chkT_good (by rw [chkL])) (by rw [namL0, othL0]; decide)
theorem gL_no (x y : Nat) (hx : x < 3) (hy : y < 3) (hne : x ≠ y) : ¬ Al gL (x : Int) (y : Int) := fun h => by
  obtain ⟨_, _, ⟨h1, _, _, _, h5⟩, _⟩ := al_sim gL _ _ h
  have ex : x = 0 ∨ x = 1 ∨ x = 2 := by omega
  have ey : y = 0 ∨ y = 1 ∨ y = 2 := by omega
  rcases ex with rfl | rfl | rfl <;> rcases ey with rfl | rfl | rfl <;> first | exact absurd rfl hne | exact absurd h1 (by decide) | exact absurd (h5 rfl) (by decide)
theorem gL_e {e : Nat → Nat → Bool} (he : ∀ x y : Nat, (e x y = true ↔ Al gL (x : Int) (y : Int))) (x y : Nat) (hx : x < 3) (hy : y < 3) (hne : x ≠ y) : e x y = false := by
  cases h : e x y
  · rfl
  · exact absurd ((he x y).1 h) (gL_no x y hx hy hne)
theorem gL_cs {e : Nat → Nat → Bool} (he : ∀ x y : Nat, (e x y = true ↔ Al gL (x : Int) (y : Int))) : csF e 3 = [0, 1, 2] ∧ lsF e 3 = [0, 1, 2] := by
  have h1 := gL_e he 1 0 (by omega) (by omega) (by omega)
  have h2 := gL_e he 2 0 (by omega) (by omega) (by omega)
  have h3 := gL_e he 2 1 (by omega) (by omega) (by omega)
  simp [csF, lsF, numF, fnd, h1, h2, h3]
theorem gL_quo {e : Nat → Nat → Bool} (he : ∀ x y : Nat, (e x y = true ↔ Al gL (x : Int) (y : Int))) : quoF e gL = gL ∧ clsI e 3 0 = 0 ∧ clsI e 3 1 = 1 ∧ clsI e 3 2 = 2 := by
  obtain ⟨h1, h2⟩ := gL_cs he
  have c0 : clsI e 3 0 = 0 := by simp [clsI, h1, ints]
  have c1 : clsI e 3 1 = 1 := by simp [clsI, h1, ints]
  have c2 : clsI e 3 2 = 2 := by simp [clsI, h1, ints]
  refine ⟨?_, c0, c1, c2⟩
  simp [quoF, gL, h2, renum, c1, c2]
theorem gL_met : metF gL = [2, 1] := by
  simp [metF, gL, meetF, Gf.argsOf]
theorem gL_trim {e : Nat → Nat → Bool} (he : ∀ x y : Nat, (e x y = true ↔ Al gL (x : Int) (y : Int))) : trimF (quoF e gL) = ⟨[⟨4, sF, 0, [0, 1]⟩, varN], [0]⟩ := by
  rw [(gL_quo he).1]
  unfold trimF
  rw [gL_met]
  simp [gL, renum, posF, pos]
theorem gL_nmd {e : Nat → Nat → Bool} (he : ∀ x y : Nat, (e x y = true ↔ Al gL (x : Int) (y : Int))) : nmdF e gL (tieE [xX] [(sX, xF)]) [sX, sY] 2 = [(sX, 0), (sY, 1)] := by
  obtain ⟨h0, h1, h2, h3⟩ := gL_quo he
  have hE := tieEL
  have hl : gL.nodes.length = 3 := rfl
  simp [nmdF, h0, gL_met, hl, hE.1, hE.2.1, h2, h3, posF, pos]
end Go.Proofs.Ytmfgjemefjcblaa

/- The fixed fact of layer 8: lives. -/
namespace Go.Proofs.Ytmfgjemefjcblaa
open Go.RowKit Go.Maps

theorem ret_x1 {w : World} {fn : Func} {t : Tmp} (hfn : fn.results = #[.cell t 48]) {tmps : Array Value} {q : Nat} {u0 u1 u2 u3 : Value} (h4 : tmps[t]?.getD undef = .pointer (some ⟨q, 0, none⟩)) (hq : w.heap[q]? = some (.cells #[u0, u1, u2, u3] 48)) : (results fn tmps).run Try.prog w = .ok (.agg #[u0, u1, u2, u3]) w := by
  obtain ⟨⟨z0, z1, z2, z3⟩, _⟩ := xblk hq
  simp [results, hfn, go_sem, h4, z0, z1, z2, z3]
theorem set4 {w : World} {q : Nat} {u0 u1 u2 u3 v0 v1 v2 v3 : Value} {T : TypeId} (h : w.heap[q]? = some (.cells #[u0, u1, u2, u3] T)) : ((((w.setCell ⟨q, 0, none⟩ v0).setCell ⟨q, 1, none⟩ v1).setCell ⟨q, 2, none⟩ v2).setCell ⟨q, 3, none⟩ v3).heap[q]? = some (.cells #[v0, v1, v2, v3] T) := by
  have h1 : (w.setCell ⟨q, 0, none⟩ v0).heap[q]? = some (.cells #[v0, u1, u2, u3] T) := heap_setCell_same w q 0 _ _ v0 h
  have h2 : ((w.setCell ⟨q, 0, none⟩ v0).setCell ⟨q, 1, none⟩ v1).heap[q]? = some (.cells #[v0, v1, u2, u3] T) := heap_setCell_same _ q 1 _ _ v1 h1
  have h3 : (((w.setCell ⟨q, 0, none⟩ v0).setCell ⟨q, 1, none⟩ v1).setCell ⟨q, 2, none⟩ v2).heap[q]? = some (.cells #[v0, v1, v2, u3] T) := heap_setCell_same _ q 2 _ _ v2 h2
  exact heap_setCell_same _ q 3 _ _ v3 h3
set_option maxRecDepth 100000 in
set_option maxHeartbeats 1000000 in
theorem v_any (s : ByteArray) (w : World) : Calls Try.prog 17 #[.string s] w fun e w' => e = .returned (.agg #[.int .i64 1, .string s, .int .i64 0, .slice none 0 0]) ∧ Below w.heap.size w w' := by
  go_enter Try.func17, Try.ntmps17
  go_wp2
  exact bodyPost_ret (ret_x1 Try.results17 (by rfl) (heap_alloc_new w _)) rfl ⟨rfl, below_alloc w _⟩
set_option maxRecDepth 100000 in
set_option maxHeartbeats 1000000 in
theorem c_any (s : ByteArray) (a : Option Addr) (n c : Nat) (w : World) : Calls Try.prog 20 #[.string s, .slice a n c] w fun e w' => e = .returned (.agg #[.int .i64 4, .string s, .int .i64 0, .slice a n c]) ∧ Below w.heap.size w w' := by
  go_enter Try.func20, Try.ntmps20
  go_wp2
  exact bodyPost_ret (ret_x1 Try.results20 (by rfl) (heap_alloc_new w _)) rfl ⟨rfl, below_alloc w _⟩
theorem rx_one {w : World} {b : Nat} {s : ByteArray} {T : TypeId} (h : w.heap[b]? = some (.cells #[.int .i64 1, .string s, .int .i64 0, .slice none 0 0] T)) : Rxs w (.slice (some ⟨b, 0, none⟩) 1 1) [.mk 1 s 0 []] := by
  obtain ⟨⟨c0, c1, c2, c3⟩, _⟩ := xblk h
  refine ⟨_, _, rfl, fun j hj => ?_⟩
  have e : j = 0 := by simpa using hj
  subst e
  exact ⟨b, 0, 1, s, 0, none, 0, 0, rfl, c0, c1, c2, c3, Xv.of (Rxs.nil w)⟩
theorem rx_two {w : World} {b : Nat} {s t : ByteArray} {T : TypeId} (h : w.heap[b]? = some (.cells #[.int .i64 1, .string s, .int .i64 0, .slice none 0 0, .int .i64 1, .string t, .int .i64 0, .slice none 0 0] T)) : Rxs w (.slice (some ⟨b, 0, none⟩) 2 2) [.mk 1 s 0 [], .mk 1 t 0 []] := by
  refine ⟨_, _, rfl, fun j hj => ?_⟩
  have e : j = 0 ∨ j = 1 := by simp at hj; omega
  rcases e with rfl | rfl
  · exact ⟨b, 0, 1, s, 0, none, 0, 0, rfl, by simp [World.cell?, h], by simp [World.cell?, h], by simp [World.cell?, h], by simp [World.cell?, h], Xv.of (Rxs.nil w)⟩
  · exact ⟨b, 0, 1, t, 0, none, 0, 0, rfl, by simp [World.cell?, h], by simp [World.cell?, h], by simp [World.cell?, h], by simp [World.cell?, h], Xv.of (Rxs.nil w)⟩
theorem rq_one {w : World} {b : Nat} {nm s : ByteArray} {k m : Int} {xs : List Ex} {a : Option Addr} {n c : Nat} {T : TypeId} (h : w.heap[b]? = some (.cells #[.string nm, .int .i64 k, .string s, .int .i64 m, .slice a n c] T)) (hx : Rxs w (.slice a n c) xs) : Rqs w (.slice (some ⟨b, 0, none⟩) 1 1) [(nm, .mk k s m xs)] := by
  obtain ⟨⟨c0, c1, c2, c3, c4⟩, _⟩ := tblk5 h
  refine ⟨_, _, rfl, fun j hj => ?_⟩
  have e : j = 0 := by simpa using hj
  subst e
  exact ⟨b, 0, k, s, m, a, n, c, rfl, c0, c1, c2, c3, c4, Xv.of hx⟩
theorem infoX : (Try.prog.info? 48).map (fun i => (i.zero, i.size, i.bytes)) = some (some (.agg #[.int .i64 0, .string ⟨#[]⟩, .int .i64 0, .slice none 0 0]), 4, 56) := by kernel_rfl
set_option maxRecDepth 100000 in
set_option maxHeartbeats 4000000 in
theorem tlives_any (w : World) : Calls Try.prog 8 #[] w fun e w' => e = .returned (.bool true) ∧ Below w.heap.size w w' := by
  obtain ⟨ee, hd⟩ := al_dec gL
  have htie : Hid (∀ (w5 : World) (b1 b3 b4 : Nat), w5.heap[b1]? = some (.cells #[.int .i64 1, .string sX, .int .i64 0, .slice none 0 0] 48) → w5.heap[b3]? = some (.cells #[.int .i64 1, .string sX, .int .i64 0, .slice none 0 0, .int .i64 1, .string sY, .int .i64 0, .slice none 0 0] 48) → w5.heap[b4]? = some (.cells #[.string sX, .int .i64 4, .string sF, .int .i64 0, .slice (some ⟨b3, 0, none⟩) 2 2] 50) → Calls Try.prog 10 #[.slice (some ⟨b1, 0, none⟩) 1 1, .slice (some ⟨b4, 0, none⟩) 1 1] w5 fun r w' => (∃ nb nc ra rc mb mc, r = .returned (.tuple #[.agg #[.slice (some ⟨nb, 0, none⟩) 2 nc, .slice ra 1 rc], .slice (some ⟨mb, 0, none⟩) 2 mc, .nilIface]) ∧ (w'.cell? ⟨nb, 1, none⟩ = some (.string sF) ∧ (∃ ab ac, w'.cell? ⟨nb, 3, none⟩ = some (.slice (some ⟨ab, 0, none⟩) 2 ac) ∧ w'.cell? ⟨ab, 0, none⟩ = some (.int .i64 0) ∧ ab < w'.heap.size) ∧ nb < w'.heap.size) ∧ (w'.cell? ⟨mb, 2, none⟩ = some (.string sY) ∧ w'.cell? ⟨mb, 3, none⟩ = some (.int .i64 1) ∧ mb < w'.heap.size)) ∧ Below w5.heap.size w5 w') := fun w5 b1 b3 b4 h1 h3 h4 => by
    have hz : szXs [xX] := ⟨⟨by decide, trivial⟩, trivial⟩
    have hzq : ∀ q ∈ [(sX, xF)], q.1.size ≤ 281474976710656 ∧ szX q.2 := fun q hq => by
      simp at hq
      subst hq
      exact ⟨by decide, by decide, ⟨by decide, trivial⟩, ⟨by decide, trivial⟩, trivial⟩
    have ht := tie_ok (W := w5) (xs := [xX]) (qs := [(sX, xF)]) (rx_one h1) (rq_one h4 (rx_two h3)) hz hzq (by simp [prtXs, prtX, prtQ, xX, xY, xF]) tieCL ee (by rw [tieGL]; exact hd)
    rw [tieGL, gL_trim hd, namL0] at ht
    refine ht.mono ?_
    rintro r w' ⟨⟨nv, rv, avs, mv, rfl, hO, hm⟩, hb⟩
    refine ⟨?_, hb⟩
    have hn2 : nmdF ee gL (tieE [xX] [(sX, xF)]) [sX, sY] [sX, sY].length = [(sX, 0), (sY, 1)] := gL_nmd hd
    rw [hn2] at hm
    obtain ⟨ra, rc, rfl, _⟩ := hO.r
    have hon := hO.on
    have h0 := (ncells_at [⟨4, sF, 0, [0, 1]⟩, varN] avs 0 hon.len (by decide))
    have hnn : w'.ownsRow w5.heap.size 69 4 nv 2 (ncells [⟨4, sF, 0, [0, 1]⟩, varN] avs) := hon.n
    obtain ⟨a1, a2, ea, hoa⟩ := hon.a 0 (by decide)
    have hoa' : w'.ownsRow w5.heap.size 3 1 (.slice a1 2 a2) 2 [.int .i64 0, .int .i64 1] := hoa
    have ea' : avs.getD 0 undef = .slice a1 2 a2 := ea
    rcases hnn.2 with ⟨_, h9⟩ | ⟨nb, nc, cur, e1, _⟩
    · omega
    · subst e1
      rcases hoa'.2 with ⟨_, h9⟩ | ⟨ab, ac, cur2, e2, _⟩
      · omega
      · have e3 : a1 = some ⟨ab, 0, none⟩ ∧ a2 = ac := by injection e2 with e3 _ e4; exact ⟨e3, e4⟩
        obtain ⟨rfl, rfl⟩ := e3
        have hm' : w'.ownsRow w5.heap.size 62 2 mv 2 [.string sX, .int .i64 0, .string sY, .int .i64 1] := hm
        rcases hm'.2 with ⟨_, h9⟩ | ⟨mb, mc, cur3, e4, _⟩
        · omega
        · subst e4
          have k1 := hnn.cellAt 1 (by omega)
          have k3 := hnn.cellAt 3 (by omega)
          have q1 := h0.2.1
          have q3 := h0.2.2.2
          rw [ea'] at q3
          have k1' : w'.cell? ⟨nb, 1, none⟩ = some (.string sF) := k1.trans q1
          have k3' : w'.cell? ⟨nb, 3, none⟩ = some (.slice (some ⟨ab, 0, none⟩) 2 a2) := k3.trans q3
          have l0 : w'.cell? ⟨ab, 0, none⟩ = some (.int .i64 0) := hoa'.cellAt 0 (by omega)
          have n2 : w'.cell? ⟨mb, 2, none⟩ = some (.string sY) := hm'.cellAt 2 (by omega)
          have n3 : w'.cell? ⟨mb, 3, none⟩ = some (.int .i64 1) := hm'.cellAt 3 (by omega)
          exact ⟨nb, nc, ra, rc, mb, mc, rfl, ⟨k1', ⟨ab, a2, k3', l0, lt_of_cell l0⟩, lt_of_cell k1'⟩, n2, n3, lt_of_cell n2⟩
  have m1 : True := trivial
  have m2 : True := trivial
  have m3 : True := trivial
  clear hd
  go_enter Try.func8, Try.ntmps8
  go_wp2_with (first
    | (go_at_call 17; clear m1; refine (v_any sX _).mono ?_; rintro e w1 ⟨rfl, hb1⟩; have g1 := heap_alloc_new w1 (.cells #[.int .i64 1, .string sX, .int .i64 0, .slice none 0 0] 48); have hB1 := Below.next hb1 (below_alloc w1 (.cells #[.int .i64 1, .string sX, .int .i64 0, .slice none 0 0] 48)))
    | (go_at_call 17; clear m2; refine (v_any sX _).mono ?_; rintro e w2 ⟨rfl, hb2⟩)
    | (go_at_call 17; clear m3; refine (v_any sY _).mono ?_; rintro e w3 ⟨rfl, hb3⟩; have g3 := heap_alloc_new w3 (.cells #[.int .i64 1, .string sX, .int .i64 0, .slice none 0 0, .int .i64 1, .string sY, .int .i64 0, .slice none 0 0] 48))
    | (go_at_call 20; refine (c_any sF _ _ _ _).mono ?_; rintro e w4 ⟨rfl, hb4⟩; have g4' := heap_alloc_new w4 (.cells #[.string sX, .int .i64 4, .string sF, .int .i64 0, .slice (some ⟨w3.heap.size, 0, none⟩) 2 2] 50); have hb4a := Below.next hb4 (below_alloc w4 (.cells #[.string sX, .int .i64 4, .string sF, .int .i64 0, .slice (some ⟨w3.heap.size, 0, none⟩) 2 2] 50)); have g3a := (hb4a.block _ (lt_of_block g3)).trans g3; have hb13 := Below.next (Below.next (Below.next hb2 hb3) (below_alloc w3 (.cells #[.int .i64 1, .string sX, .int .i64 0, .slice none 0 0, .int .i64 1, .string sY, .int .i64 0, .slice none 0 0] 48))) hb4a; have g1a := (hb13.block _ (lt_of_block g1)).trans g1; have htc := htie.out _ _ _ _ g1a g3a g4')
    | (go_at_call 10; refine htc.mono ?_; rintro e w5 ⟨⟨nb, nc, ra, rc, mb, mc, rfl, ⟨x1, ⟨ab, ac, x3, x4, x5⟩, x6⟩, y1, y2, y3⟩, hb5⟩))
  go_ret
  exact ⟨rfl, Below.next (Below.next (Below.next hB1 hb13) hb5) (below_alloc w5 _)⟩
end Go.Proofs.Ytmfgjemefjcblaa

/- Many terms and equations: plain data. -/
namespace Go.Proofs.Ytmfgjemefjcblaa
open Go.RowKit

/-- Integers. -/
def intX (i : Nat) : Ex := .mk 3 ⟨#[]⟩ ((i % 7 : Nat) : Int) []
/-- s of s of .. a. -/
def rgtX : Nat → Ex
  | 0 => .mk 2 ⟨#[97]⟩ 0 []
  | k + 1 => .mk 4 ⟨#[115]⟩ 0 [rgtX k]
/-- The name of an equation. -/
def nameT (i : Nat) : ByteArray := ⟨#[88, UInt8.ofNat (97 + i % 26), UInt8.ofNat (97 + i / 26 % 26), UInt8.ofNat (97 + i / 676)]⟩
def xsT (t : Nat) : List Ex := (List.range t).map intX
def qsT (e k : Nat) : List (ByteArray × Ex) := (List.range e).map fun i => (nameT i, rgtX k)
theorem xsT_succ (t : Nat) : xsT (t + 1) = xsT t ++ [intX t] := by simp [xsT, List.range_succ]
theorem qsT_succ (e k : Nat) : qsT (e + 1) k = qsT e k ++ [(nameT e, rgtX k)] := by simp [qsT, List.range_succ]
theorem xsT_len (t : Nat) : (xsT t).length = t := by simp [xsT]
theorem qsT_len (e k : Nat) : (qsT e k).length = e := by simp [qsT]
theorem intX_good (i : Nat) : goodX 0 (intX i) = true := by
  have h : (⟨#[]⟩ : ByteArray).toList = [] := by
    rw [ByteArray.toList, ByteArray.toList.loop]
    rfl
  have h1 : i % 7 < 7 := Nat.mod_lt _ (by omega)
  unfold intX
  rw [goodX, if_neg (by omega), if_neg (by decide), if_neg (by decide), if_pos rfl, h]
  simp
  omega
theorem rgtX_good : ∀ (k n : Nat), n + k ≤ 4096 → goodX n (rgtX k) = true
  | 0, n, h => by
    have hs : goodS ⟨#[97]⟩ = true := by decide
    rw [rgtX, goodX, if_neg (by omega), if_neg (by decide), if_pos rfl, hs]
    rfl
  | k + 1, n, h => by
    have hs : goodS ⟨#[115]⟩ = true := by decide
    have ih := rgtX_good k (n + 1) (by omega)
    rw [rgtX, goodX, if_neg (by omega), if_neg (by decide), if_neg (by decide), if_neg (by decide), if_pos rfl, hs, goodXs, goodXs, ih]
    rfl
theorem ofNat_toNat {n : Nat} (h : n < 256) : (UInt8.ofNat n).toNat = n := by simp; omega
theorem nameT_inj {i j : Nat} (hi : i < 4200) (hj : j < 4200) (h : nameT i = nameT j) : i = j := by
  unfold nameT at h
  simp only [ByteArray.mk.injEq, Array.mk.injEq, List.cons.injEq, and_true, true_and] at h
  obtain ⟨h1, h2, h3⟩ := h
  have e1 := congrArg UInt8.toNat h1
  have e2 := congrArg UInt8.toNat h2
  have e3 := congrArg UInt8.toNat h3
  rw [ofNat_toNat (by omega), ofNat_toNat (by omega)] at e1 e2 e3
  omega
theorem nameT_size (i : Nat) : (nameT i).size = 4 := rfl
theorem nameT_U (i : Nat) : isU (nameT i) = false := by
  unfold isU nameT
  rw [ByteArray.toList_eq]
  simp
theorem nameT_W {i : Nat} (hi : i < 4200) : isW (nameT i) 4 = true := by
  have hs := nameT_size i
  have b0 : bt (nameT i) 0 = 88 := rfl
  have b1 : bt (nameT i) 1 = 97 + i % 26 := by
    have : bt (nameT i) 1 = (UInt8.ofNat (97 + i % 26)).toNat := rfl
    rw [this, ofNat_toNat (by omega)]
  have b2 : bt (nameT i) 2 = 97 + i / 26 % 26 := by
    have : bt (nameT i) 2 = (UInt8.ofNat (97 + i / 26 % 26)).toNat := rfl
    rw [this, ofNat_toNat (by omega)]
  have b3 : bt (nameT i) 3 = 97 + i / 676 := by
    have : bt (nameT i) 3 = (UInt8.ofNat (97 + i / 676)).toNat := rfl
    rw [this, ofNat_toNat (by omega)]
  have k0 : kd (nameT i) 0 = 4 := by unfold kd; rw [b0]; exact (kb_4 88).2 (by omega)
  have k1 : kd (nameT i) 1 = 3 := by unfold kd; rw [b1]; exact (kb_3 _).2 (by omega)
  have k2 : kd (nameT i) 2 = 3 := by unfold kd; rw [b2]; exact (kb_3 _).2 (by omega)
  have k3 : kd (nameT i) 3 = 3 := by unfold kd; rw [b3]; exact (kb_3 _).2 (by omega)
  have k4 : kd (nameT i) 4 = 0 := kd_out (by omega)
  have hw : wEnd (nameT i) 0 = 4 := wEnd_stop (by omega) (fun j _ hj => by
    have ej : j = 0 ∨ j = 1 ∨ j = 2 ∨ j = 3 := by omega
    rcases ej with rfl | rfl | rfl | rfl
    · rw [k0]; omega
    · rw [k1]; omega
    · rw [k2]; omega
    · rw [k3]; omega) (by rw [k4]; omega)
  unfold isW
  rw [decide_eq_true_eq, hw, hs]
  exact ⟨k0, rfl, by omega⟩
end Go.Proofs.Ytmfgjemefjcblaa

/- Many terms and equations: what Tie answers. -/
namespace Go.Proofs.Ytmfgjemefjcblaa
open Go.RowKit

theorem chkQ_ok (n : Nat) : ∀ (l : List ByteArray) (qs : List (ByteArray × Ex)) (i : Nat), (∀ q ∈ qs, isW q.1 4 = true ∧ isU q.1 = false ∧ goodX 0 q.2 = true) → (∀ q ∈ qs, q.1 ∉ l) → qs.Pairwise (fun a b => a.1 ≠ b.1) → chkQ n l qs i = (0, 0, ⟨#[]⟩)
  | l, [], i, _, _, _ => by rw [chkQ]
  | l, q :: r, i, h, hl, hp => by
    obtain ⟨h1, h2, h3⟩ := h q (by simp)
    rw [List.pairwise_cons] at hp
    have hnl : inN l q.1 = false := by
      cases hh : inN l q.1 with
      | false => rfl
      | true => exact absurd (inN_iff.1 hh) (hl q (by simp))
    rw [chkQ, if_neg (by rw [h1, h2]; simp), if_neg (by rw [hnl]; decide), if_neg (by rw [h3]; decide)]
    refine chkQ_ok n (l ++ [q.1]) r (i + 1) (fun y hy => h y (by simp [hy])) (fun y hy hm => ?_) hp.2
    rcases List.mem_append.1 hm with e | e
    · exact hl y (by simp [hy]) e
    · simp at e
      exact hp.1 y hy e.symm
theorem qsT_pair {e k : Nat} (he : e ≤ 4200) : (qsT e k).Pairwise (fun a b => a.1 ≠ b.1) := by
  unfold qsT
  rw [List.pairwise_map]
  refine List.Pairwise.imp_of_mem (fun {a b} ha hb hab => ?_) (List.pairwise_lt_range (n := e))
  intro h
  have h1 := List.mem_range.1 ha
  have h2 := List.mem_range.1 hb
  have := nameT_inj (by omega) (by omega) h
  omega
theorem qsT_mem {e k : Nat} (he : e ≤ 4200) (hk : k ≤ 7) : ∀ q ∈ qsT e k, isW q.1 4 = true ∧ isU q.1 = false ∧ goodX 0 q.2 = true := fun q hq => by
  obtain ⟨i, hi, rfl⟩ := List.mem_map.1 hq
  have := List.mem_range.1 hi
  exact ⟨nameT_W (by omega), nameT_U i, rgtX_good k 0 (by omega)⟩
theorem chkT_lim {t e k : Nat} (he : e ≤ 4200) (hk : k ≤ 7) : chkT (xsT t) (qsT e k) = if 4096 < t then (80, (t : Int), ⟨#[]⟩) else if 4096 < e then (82, (e : Int), ⟨#[]⟩) else (0, 0, ⟨#[]⟩) := by
  unfold chkT
  rw [xsT_len, qsT_len]
  split
  · rfl
  · split
    · rfl
    · have hix : ixOf (fun x => !goodX 0 x) (xsT t) = -1 := ixOf_none _ _ (by
        rw [List.any_eq_false]
        intro x hx
        obtain ⟨i, _, rfl⟩ := List.mem_map.1 hx
        rw [intX_good]
        simp)
      rw [hix, if_neg (by omega)]
      exact chkQ_ok t [] (qsT e k) 0 (qsT_mem he hk) (by simp) (qsT_pair he)
theorem namX_int (l : List ByteArray) (i : Nat) : namX l (intX i) = l := by simp [intX, namX, namXs]
theorem namX_rgt (l : List ByteArray) : ∀ k, namX l (rgtX k) = l
  | 0 => by simp [rgtX, namX, namXs]
  | k + 1 => by
    have ih := namX_rgt l k
    simp [rgtX, namX, namXs, ih]
theorem namXs_none (l : List ByteArray) : ∀ xs : List Ex, (∀ x ∈ xs, namX l x = l) → namXs l xs = l
  | [], _ => by rw [namXs]
  | x :: r, h => by rw [namXs, h x (by simp), namXs_none l r (fun y hy => h y (by simp [hy]))]
theorem namQ_new : ∀ (l : List ByteArray) (qs : List (ByteArray × Ex)), (∀ q ∈ qs, ∀ l, namX l q.2 = l) → (∀ q ∈ qs, q.1 ∉ l) → qs.Pairwise (fun a b => a.1 ≠ b.1) → (namQ l qs).length = l.length + qs.length
  | l, [], _, _, _ => by rw [namQ]; rfl
  | l, q :: r, h, hl, hp => by
    rw [List.pairwise_cons] at hp
    have hnl : inN l q.1 = false := by
      cases hh : inN l q.1 with
      | false => rfl
      | true => exact absurd (inN_iff.1 hh) (hl q (by simp))
    have e : putS l q.1 = l ++ [q.1] := by unfold putS; rw [if_neg (by rw [hnl]; decide)]
    rw [namQ, h q (by simp), e, namQ_new (l ++ [q.1]) r (fun y hy => h y (by simp [hy])) (fun y hy hm => ?_) hp.2]
    · simp; omega
    · rcases List.mem_append.1 hm with e | e
      · exact hl y (by simp [hy]) e
      · simp at e
        exact hp.1 y hy e.symm
theorem namA_lim {t e k : Nat} (he : e ≤ 4200) : (namA (xsT t) (qsT e k)).length = e := by
  unfold namA
  rw [namXs_none [] (xsT t) (fun x hx => by
    obtain ⟨i, _, rfl⟩ := List.mem_map.1 hx
    exact namX_int [] i), namQ_new [] (qsT e k) (fun q hq l => by
    obtain ⟨i, _, rfl⟩ := List.mem_map.1 hq
    exact namX_rgt l k) (by simp) (qsT_pair he), qsT_len]
  simp
theorem othX_rgt : ∀ k, othX (rgtX k) = k + 1
  | 0 => by simp [rgtX, othX, othXs]
  | k + 1 => by simp [rgtX, othX, othXs, othX_rgt k]; omega
theorem prtX_rgt : ∀ k, prtX (rgtX k) = k + 1
  | 0 => by simp [rgtX, prtX, prtXs]
  | k + 1 => by simp [rgtX, prtX, prtXs, prtX_rgt k]; omega
theorem othXs_int : ∀ t, othXs (xsT t) = t
  | 0 => by simp [xsT, othXs]
  | t + 1 => by
    rw [xsT_succ, othXs_app, othXs_int t]
    simp [intX, othX, othXs]
theorem prtXs_int : ∀ t, prtXs (xsT t) = t
  | 0 => by simp [xsT, prtXs]
  | t + 1 => by
    rw [xsT_succ, prtXs_app, prtXs_int t]
    simp [intX, prtX, prtXs]
theorem othQ_lim (k : Nat) : ∀ e, othQ (qsT e k) = e * (k + 1)
  | 0 => by simp [qsT, othQ]
  | e + 1 => by
    rw [qsT_succ, othQ_app, othQ_lim k e, othX_rgt, Nat.add_mul]
    omega
theorem prtQ_lim (k : Nat) : ∀ e, prtQ (qsT e k) = e * (k + 2)
  | 0 => by simp [qsT, prtQ]
  | e + 1 => by
    rw [qsT_succ, prtQ_app, prtQ_lim k e, prtX_rgt, Nat.add_mul]
    omega
/-- How many nodes. -/
theorem cnt_lim {t e k : Nat} (he : e ≤ 4200) : (namA (xsT t) (qsT e k)).length + othA (xsT t) (qsT e k) = t + e * (k + 2) := by
  rw [namA_lim he]
  unfold othA
  rw [othXs_int, othQ_lim, show e * (k + 2) = e * (k + 1) + e by rw [Nat.mul_add, Nat.mul_add]; omega]
  omega
theorem tieC_lim {t e k : Nat} (he : e ≤ 4200) (hk : k ≤ 7) : tieC (xsT t) (qsT e k) = if 4096 < t then ((80 : Int), (t : Int), (⟨#[]⟩ : ByteArray)) else if 4096 < e then (82, (e : Int), ⟨#[]⟩) else if 4096 < t + e * (k + 2) then (85, ((t + e * (k + 2) : Nat) : Int), ⟨#[]⟩) else (0, 0, ⟨#[]⟩) := by
  unfold tieC
  rw [chkT_lim he hk, cnt_lim he]
  by_cases h1 : 4096 < t
  · rw [if_pos h1, if_pos h1, if_pos (by show (80 : Int) ≠ 0; decide)]
  · rw [if_neg h1, if_neg h1]
    by_cases h2 : 4096 < e
    · rw [if_pos h2, if_pos h2, if_pos (by show (82 : Int) ≠ 0; decide)]
    · rw [if_neg h2, if_neg h2, if_neg (by decide)]
end Go.Proofs.Ytmfgjemefjcblaa

/- Rows of cells one behind the other. -/
namespace Go.Proofs.Ytmfgjemefjcblaa
open Go.RowKit

/-- Rows of cells one behind the other. -/
def flatV (f : Nat → List Value) (j : Nat) : List Value := (List.range j).flatMap f
theorem flatV_succ (f : Nat → List Value) (j : Nat) : flatV f (j + 1) = flatV f j ++ f j := by simp [flatV, List.range_succ]
theorem flatV_len {f : Nat → List Value} {z : Nat} (hz : ∀ i, (f i).length = z) : ∀ j, (flatV f j).length = j * z
  | 0 => by simp [flatV]
  | j + 1 => by rw [flatV_succ, List.length_append, flatV_len hz j, hz, Nat.add_mul]; omega
theorem flatV_at {f : Nat → List Value} {z : Nat} (hz : ∀ i, (f i).length = z) {i c : Nat} (hc : c < z) : ∀ j, i < j → (flatV f j)[i * z + c]? = (f i)[c]?
  | 0, h => by omega
  | j + 1, h => by
    rw [flatV_succ]
    have hl := flatV_len hz j
    by_cases e : i < j
    · have h1 : i * z + c < j * z := by
        have : (i + 1) * z ≤ j * z := Nat.mul_le_mul_right z (by omega)
        rw [Nat.add_mul] at this
        omega
      rw [List.getElem?_append_left (by omega)]
      exact flatV_at hz hc j e
    · have e2 : i = j := by omega
      subst e2
      rw [List.getElem?_append_right (by omega), hl]
      congr 1
      omega
theorem flatV_congr {f g : Nat → List Value} : ∀ j, (∀ i, i < j → f i = g i) → flatV f j = flatV g j
  | 0, _ => rfl
  | j + 1, h => by rw [flatV_succ, flatV_succ, flatV_congr j (fun i hi => h i (by omega)), h j (by omega)]
end Go.Proofs.Ytmfgjemefjcblaa

/- Many terms and equations: memory. -/
namespace Go.Proofs.Ytmfgjemefjcblaa
open Go.RowKit

/-- The cells of the integers. -/
def icl (i : Nat) : List Value := [.int .i64 3, .string ⟨#[]⟩, .int .i64 ((i % 7 : Nat) : Int), .slice none 0 0]
theorem rx_int {w : World} {S t g c : Nat} (h : w.ownsRow S 48 4 (.slice (some ⟨g, 0, none⟩) t c) t (flatV icl t)) : Rxs w (.slice (some ⟨g, 0, none⟩) t c) (xsT t) := by
  refine ⟨_, _, by rw [xsT_len], fun j hj => ?_⟩
  rw [xsT_len] at hj
  have e : (xsT t).getD j x0 = intX j := by simp [xsT, List.getD, hj]
  rw [e]
  have at' : ∀ k, k < 4 → w.cell? ⟨g, j * 4 + k, none⟩ = (icl j)[k]? := fun k hk => by
    rw [h.cellAt _ (by omega)]
    exact flatV_at (z := 4) (f := icl) (fun _ => rfl) hk t hj
  have c0 := at' 0 (by omega)
  rw [Nat.add_zero] at c0
  exact ⟨g, 0, 3, ⟨#[]⟩, ((j % 7 : Nat) : Int), none, 0, 0, rfl, by rw [Nat.zero_add]; exact c0, by rw [Nat.zero_add]; exact at' 1 (by omega), by rw [Nat.zero_add]; exact at' 2 (by omega), by rw [Nat.zero_add]; exact at' 3 (by omega), Xv.of (Rxs.nil w)⟩
def kdk : Nat → Int
  | 0 => 2
  | _ + 1 => 4
def nmk : Nat → ByteArray
  | 0 => ⟨#[97]⟩
  | _ + 1 => ⟨#[115]⟩
def lnk : Nat → Nat
  | 0 => 0
  | _ + 1 => 1
/-- A right side in memory, in blocks from B on. -/
def ChR (w : World) (B : Nat) : Nat → Option Addr → Prop
  | 0, ao => ao = none
  | k + 1, ao => ∃ b ao', ao = some ⟨b, 0, none⟩ ∧ B ≤ b ∧ w.heap[b]? = some (.cells #[.int .i64 (kdk k), .string (nmk k), .int .i64 0, .slice ao' (lnk k) (lnk k)] 48) ∧ ChR w B k ao'
theorem ChR.keep {w w' : World} {B : Nat} (hm : ∀ b cs, B ≤ b → w.heap[b]? = some (.cells cs 48) → w'.heap[b]? = some (.cells cs 48)) : ∀ (k : Nat) (ao : Option Addr), ChR w B k ao → ChR w' B k ao
  | 0, _, h => h
  | k + 1, _, ⟨b, ao', e, hb, hc, h⟩ => ⟨b, ao', e, hb, hm b _ hb hc, ChR.keep hm k ao' h⟩
theorem ChR.low {w : World} {B B' : Nat} (hB : B' ≤ B) : ∀ (k : Nat) (ao : Option Addr), ChR w B k ao → ChR w B' k ao
  | 0, _, h => h
  | k + 1, _, ⟨b, ao', e, hb, hc, h⟩ => ⟨b, ao', e, by omega, hc, ChR.low hB k ao' h⟩
theorem ChR.xv {w : World} {B : Nat} : ∀ (k : Nat) (ao : Option Addr), ChR w B k ao → Xv w (rgtX k) (.agg #[.int .i64 (kdk k), .string (nmk k), .int .i64 0, .slice ao (lnk k) (lnk k)])
  | 0, ao, h => by
    have e : ao = none := h
    subst e
    exact Xv.of (Rxs.nil w)
  | k + 1, ao, ⟨b, ao', e, _, hc, h⟩ => by
    subst e
    have ih := ChR.xv k ao' h
    obtain ⟨⟨c0, c1, c2, c3⟩, _⟩ := xblk hc
    refine Xv.of (xs := [rgtX k]) ⟨_, _, rfl, fun j hj => ?_⟩
    have ej : j = 0 := by simpa using hj
    subst ej
    exact ⟨b, 0, _, _, _, _, _, _, rfl, c0, c1, c2, c3, ih⟩
/-- The cells of an equation. -/
def ecl (k : Nat) (A : Nat → Option Addr) (i : Nat) : List Value := [.string (nameT i), .int .i64 (kdk k), .string (nmk k), .int .i64 0, .slice (A i) (lnk k) (lnk k)]
theorem rq_lim {w : World} {S e k g c : Nat} {A : Nat → Option Addr} (h : w.ownsRow S 50 5 (.slice (some ⟨g, 0, none⟩) e c) e (flatV (ecl k A) e)) (hA : ∀ i, i < e → ChR w 0 k (A i)) : Rqs w (.slice (some ⟨g, 0, none⟩) e c) (qsT e k) := by
  refine ⟨_, _, by rw [qsT_len], fun j hj => ?_⟩
  rw [qsT_len] at hj
  have e1 : (qsT e k).getD j q0 = (nameT j, rgtX k) := by simp [qsT, List.getD, hj]
  rw [e1]
  have at' : ∀ i, i < 5 → w.cell? ⟨g, j * 5 + i, none⟩ = (ecl k A j)[i]? := fun i hi => by
    rw [h.cellAt _ (by omega)]
    exact flatV_at (z := 5) (f := ecl k A) (fun _ => rfl) hi e hj
  have c0 := at' 0 (by omega)
  rw [Nat.add_zero] at c0
  exact ⟨g, 0, _, _, _, _, _, _, rfl, by rw [Nat.zero_add]; exact c0, by rw [Nat.zero_add]; exact at' 1 (by omega), by rw [Nat.zero_add]; exact at' 2 (by omega), by rw [Nat.zero_add]; exact at' 3 (by omega), by rw [Nat.zero_add]; exact at' 4 (by omega), ChR.xv k _ (hA j hj)⟩
theorem rgtX_sz : ∀ k, szX (rgtX k)
  | 0 => ⟨by decide, trivial⟩
  | k + 1 => ⟨by decide, rgtX_sz k, trivial⟩
theorem szT_x (t : Nat) : szXs (xsT t) := szXs_of (fun x hx => by
  obtain ⟨i, _, rfl⟩ := List.mem_map.1 hx
  exact ⟨by decide, trivial⟩)
theorem szT_q (e k : Nat) : ∀ q ∈ qsT e k, q.1.size ≤ 281474976710656 ∧ szX q.2 := fun q hq => by
  obtain ⟨i, _, rfl⟩ := List.mem_map.1 hq
  exact ⟨by show (nameT i).size ≤ _; rw [nameT_size]; omega, rgtX_sz k⟩
end Go.Proofs.Ytmfgjemefjcblaa

/- TieLimits. -/
namespace Go.Proofs.Ytmfgjemefjcblaa
open Go.RowKit Go.Maps

theorem own_empty8 (w : World) (T : TypeId) (z B : Nat) (hB : B ≤ w.heap.size) : (w.alloc (.cells #[] T)).ownsRow B T z (.slice (some ⟨w.heap.size, 0, none⟩) 0 0) 0 [] := ⟨by simp, Or.inr ⟨w.heap.size, 0, #[], rfl, hB, heap_alloc_new w _, Nat.le_refl _, by unfold maxLen; omega, by simp, by simp⟩⟩
theorem modT (a : Int) (m : Nat) (hm : 0 < m) : ∃ t : Nat, (IntKind.u64.wrap a).tmod (m : Int) = (t : Int) ∧ t < m := by
  have h0 : 0 ≤ IntKind.u64.wrap a := by
    rw [IntKind.wrap_u64]
    exact Int.emod_nonneg _ (by decide)
  obtain ⟨u, hu⟩ : ∃ u : Nat, IntKind.u64.wrap a = (u : Int) := ⟨(IntKind.u64.wrap a).toNat, by omega⟩
  rw [hu]
  exact ⟨u % m, by rw [← Int.ofNat_tmod], Nat.mod_lt _ hm⟩
theorem infoQ8 : (Try.prog.info? 50).map (fun i => (i.zero, i.size, i.bytes)) = some (some (.agg #[.string ⟨#[]⟩, .int .i64 0, .string ⟨#[]⟩, .int .i64 0, .slice none 0 0]), 5, 72) := by kernel_rfl
/-- What Tie answers of many terms and equations. -/
theorem tie_lim {w : World} {S S2 t e k g c g2 c2 : Nat} {A : Nat → Option Addr} (hx : w.ownsRow S 48 4 (.slice (some ⟨g, 0, none⟩) t c) t (flatV icl t)) (hq : w.ownsRow S2 50 5 (.slice (some ⟨g2, 0, none⟩) e c2) e (flatV (ecl k A) e)) (hA : ∀ i, i < e → ChR w 0 k (A i)) (ht : t < 4200) (he : e < 4200) (hk : k < 8) :
    Calls Try.prog 10 #[.slice (some ⟨g, 0, none⟩) t c, .slice (some ⟨g2, 0, none⟩) e c2] w fun r w' => (∃ n0 n1 n2 r0 r1 r2 mv ev, r = .returned (.tuple #[.agg #[.slice n0 n1 n2, .slice r0 r1 r2], mv, ev]) ∧ ((4096 < t → Er w' ev [(80, (t : Int))]) ∧ (¬ 4096 < t → 4096 < e → Er w' ev [(82, (e : Int))]) ∧ (¬ 4096 < t → ¬ 4096 < e → 4096 < t + e * (k + 2) → Er w' ev [(85, ((t + e * (k + 2) : Nat) : Int))]) ∧ (¬ 4096 < t → ¬ 4096 < e → ¬ 4096 < t + e * (k + 2) → ev = .nilIface))) ∧ Below w.heap.size w w' := by
  have hX := rx_int hx
  have hQ := rq_lim hq hA
  have hC := tieC_lim (t := t) (e := e) (k := k) (by omega) (by omega)
  have hpx := prtXs_int t
  have hpq := prtQ_lim k e
  have hek : e * (k + 2) ≤ 4199 * 9 := Nat.mul_le_mul (by omega) (by omega)
  have ef : ∀ {w' : World} {ev : Value} {c a : Int}, c ≠ 0 → Ef w' ev c a ⟨#[]⟩ → Er w' ev [(c, a)] := fun hc ⟨b, e1, e2⟩ => ⟨hc, b, .nilIface, e1, e2, rfl⟩
  by_cases hbad : (tieC (xsT t) (qsT e k)).1 ≠ 0
  · refine (tie_bad hX hQ (szT_x t) (szT_q e k) (by omega) hbad).mono ?_
    rintro r w' ⟨⟨ev, rfl, hE⟩, hb⟩
    refine ⟨⟨none, 0, 0, none, 0, 0, _, ev, rfl, ?_⟩, hb⟩
    rw [hC] at hE hbad
    refine ⟨fun h => ?_, fun h h2 => ?_, fun h h2 h3 => ?_, fun h h2 h3 => ?_⟩
    · rw [if_pos h] at hE
      exact ef (by decide) hE
    · rw [if_neg h, if_pos h2] at hE
      exact ef (by decide) hE
    · rw [if_neg h, if_neg h2, if_pos h3] at hE
      exact ef (by decide) hE
    · rw [if_neg h, if_neg h2, if_neg h3] at hbad
      exact absurd rfl hbad
  · have hc0 : (tieC (xsT t) (qsT e k)).1 = 0 := Classical.byContradiction hbad
    have hc1 := hc0
    rw [hC] at hc1
    have n1 : ¬ 4096 < t := fun h => by rw [if_pos h] at hc1; cases hc1
    rw [if_neg n1] at hc1
    have n2 : ¬ 4096 < e := fun h => by rw [if_pos h] at hc1; cases hc1
    rw [if_neg n2] at hc1
    have n3 : ¬ 4096 < t + e * (k + 2) := fun h => by rw [if_pos h] at hc1; cases hc1
    obtain ⟨ee, hd⟩ := al_dec (tieG (xsT t) (qsT e k))
    refine (tie_ok hX hQ (szT_x t) (szT_q e k) (by omega) hc0 ee hd).mono ?_
    rintro r w' ⟨⟨nv, rv, avs, mv, rfl, hO, _⟩, hb⟩
    obtain ⟨n0, n9, rfl⟩ := hO.nsl
    obtain ⟨r0, r9, rfl, _⟩ := hO.r
    exact ⟨⟨_, _, _, _, _, _, mv, .nilIface, rfl, fun h => absurd h n1, fun _ h => absurd h n2, fun _ _ h => absurd h n3, fun _ _ _ => rfl⟩, hb⟩
/-- One s more. -/
theorem ch_step {wr w2 : World} {q m : Nat} {ao : Option Addr} (hbx : wr.heap[q]? = some (.cells #[.int .i64 (kdk m), .string (nmk m), .int .i64 0, .slice ao (lnk m) (lnk m)] 48)) (hch : ChR wr (q + 1) m ao) (hb : Below (wr.alloc (.cells #[.int .i64 (kdk m), .string (nmk m), .int .i64 0, .slice ao (lnk m) (lnk m)] 48)).heap.size (wr.alloc (.cells #[.int .i64 (kdk m), .string (nmk m), .int .i64 0, .slice ao (lnk m) (lnk m)] 48)) w2) :
    Hid (((((w2.setCell ⟨q, 0, none⟩ (.int .i64 4)).setCell ⟨q, 1, none⟩ (.string ⟨#[115]⟩)).setCell ⟨q, 2, none⟩ (.int .i64 0)).setCell ⟨q, 3, none⟩ (.slice (some ⟨wr.heap.size, 0, none⟩) 1 1)).heap[q]? = some (.cells #[.int .i64 (kdk (m + 1)), .string (nmk (m + 1)), .int .i64 0, .slice (some ⟨wr.heap.size, 0, none⟩) (lnk (m + 1)) (lnk (m + 1))] 48)) ∧ Hid (ChR ((((w2.setCell ⟨q, 0, none⟩ (.int .i64 4)).setCell ⟨q, 1, none⟩ (.string ⟨#[115]⟩)).setCell ⟨q, 2, none⟩ (.int .i64 0)).setCell ⟨q, 3, none⟩ (.slice (some ⟨wr.heap.size, 0, none⟩) 1 1)) (q + 1) (m + 1) (some ⟨wr.heap.size, 0, none⟩)) := by
  have hl := lt_of_block hbx
  have h2 : w2.heap[q]? = some (.cells #[.int .i64 (kdk m), .string (nmk m), .int .i64 0, .slice ao (lnk m) (lnk m)] 48) := by
    rw [hb.block q (by simp; omega), Below.heap_alloc _ _ _ hl]
    exact hbx
  have hk : ∀ b, b ≠ q → ((((w2.setCell ⟨q, 0, none⟩ (.int .i64 4)).setCell ⟨q, 1, none⟩ (.string ⟨#[115]⟩)).setCell ⟨q, 2, none⟩ (.int .i64 0)).setCell ⟨q, 3, none⟩ (.slice (some ⟨wr.heap.size, 0, none⟩) 1 1)).heap[b]? = w2.heap[b]? := fun b hb => by
    rw [Below.heap_setCell _ _ _ _ hb, Below.heap_setCell _ _ _ _ hb, Below.heap_setCell _ _ _ _ hb, Below.heap_setCell _ _ _ _ hb]
  refine ⟨set4 h2, wr.heap.size, ao, rfl, by omega, ?_, ChR.keep (fun b cs hB hc => ?_) m ao hch⟩
  · rw [hk _ (by omega), hb.block _ (by simp)]
    exact heap_alloc_new wr _
  · have hl2 := lt_of_block hc
    rw [hk _ (by omega), hb.block _ (by simp; omega), Below.heap_alloc _ _ _ hl2]
    exact hc
theorem xfrz {w : World} {q : Nat} {u0 u1 u2 u3 : Value} {T : TypeId} (h : w.heap[q]? = some (.cells #[u0, u1, u2, u3] T)) : w.frozen? ⟨q, 0, none⟩ = false ∧ w.frozen? ⟨q, 1, none⟩ = false ∧ w.frozen? ⟨q, 2, none⟩ = false ∧ w.frozen? ⟨q, 3, none⟩ = false := by
  refine ⟨?_, ?_, ?_, ?_⟩ <;> simp [World.frozen?, h]
theorem alloc2_new (w : World) (o1 o2 : Obj) : ((w.alloc o1).alloc o2).heap[w.heap.size + 1]? = some o2 := by
  have h := heap_alloc_new (w.alloc o1) o2
  have e : (w.alloc o1).heap.size = w.heap.size + 1 := by simp
  rw [e] at h
  exact h
/-- Bytes as cells. -/
def bcl8 (l : List UInt8) : List Value := l.map fun b => Value.int .u8 (b.toNat : Int)
theorem conv8 {w : World} {B : Nat} {v : Value} {l : List UInt8} (h : w.ownsRow B 5 1 v l.length (bcl8 l)) (hl : 1 ≤ l.length) : (convert 151 9 v).run Try.prog w = .ok (.string ⟨l.toArray⟩) w := by
  have h0 := h
  rcases h.2 with ⟨_, hn⟩ | ⟨g, cap, cur, rfl, _⟩
  · omega
  · refine run_convert_bytes_back w _ _ 5 ⟨g, 0, none⟩ cap l Try.underlying151 Try.underlying5 Try.underlying9 (fun j hj => ?_)
    have hc := h0.cellAt j (by omega)
    rw [Addr.add_lit, Nat.zero_add, hc]
    simp [bcl8, hj]
/-- Three bytes as a text. -/
def tailT (n : Nat) : ByteArray := ⟨#[UInt8.ofNat (97 + n % 26), UInt8.ofNat (97 + n / 26 % 26), UInt8.ofNat (97 + n / 676)]⟩
theorem conv_name (wr : World) (n : Nat) (hn : n < 4200) : (convert 151 9 (.slice (some ⟨wr.heap.size, 0, none⟩) 3 3)).run Try.prog (wr.alloc (.cells #[.int .u8 (97 + (n : Int) % 26), .int .u8 (97 + (n : Int) / 26 % 26), .int .u8 (97 + (n : Int) / 676)] 5)) = .ok (.string (tailT n)) (wr.alloc (.cells #[.int .u8 (97 + (n : Int) % 26), .int .u8 (97 + (n : Int) / 26 % 26), .int .u8 (97 + (n : Int) / 676)] 5)) := by
  have e : bcl8 [UInt8.ofNat (97 + n % 26), UInt8.ofNat (97 + n / 26 % 26), UInt8.ofNat (97 + n / 676)] = [.int .u8 (97 + (n : Int) % 26), .int .u8 (97 + (n : Int) / 26 % 26), .int .u8 (97 + (n : Int) / 676)] := by
    simp only [bcl8, List.map]
    rw [ofNat_toNat (by omega), ofNat_toNat (by omega), ofNat_toNat (by omega)]
    congr
  refine conv8 (B := wr.heap.size) (l := [UInt8.ofNat (97 + n % 26), UInt8.ofNat (97 + n / 26 % 26), UInt8.ofNat (97 + n / 676)]) ?_ (by simp)
  rw [e]
  exact ⟨rfl, Or.inr ⟨wr.heap.size, 3, _, rfl, Nat.le_refl _, heap_alloc_new wr _, Nat.le_refl _, by unfold maxLen; omega, rfl, rfl⟩⟩
theorem name_app (n : Nat) : (⟨#[88]⟩ : ByteArray) ++ tailT n = nameT n := ByteArray.ext (by rw [ByteArray.data_append]; rfl)
/-- One equation more. -/
theorem eq_step {W w0 wr w2 : World} {S n m j g c g2 c2 g3 cap : Nat} {A : Nat → Option Addr} {ao : Option Addr} {o1 o2 : Obj} (hQ : w0.ownsRow W.heap.size 50 5 (.slice (some ⟨g2, 0, none⟩) n c2) n (flatV (ecl m A) n)) (hA : ∀ i, i < n → ChR w0 0 m (A i)) (hX : w0.ownsRow S 48 4 (.slice (some ⟨g, 0, none⟩) j c) j (flatV icl j)) (hB : Below W.heap.size W w0) (hb : Below w0.heap.size w0 wr) (hch : ChR wr (w0.heap.size + 1) m ao)
    (hown : w2.ownsRow W.heap.size 50 5 (.slice (some ⟨g3, 0, none⟩) (n + 1) cap) (n + 1) (flatV (ecl m A) n ++ [.string (nameT n), .int .i64 (kdk m), .string (nmk m), .int .i64 0, .slice ao (lnk m) (lnk m)])) (hg : ((wr.alloc o1).alloc o2).grownBy w2 (Value.slice (some ⟨g2, 0, none⟩) n c2).ownBlock) :
    ∃ A' : Nat → Option Addr, Hid (w2.ownsRow W.heap.size 50 5 (.slice (some ⟨g3, 0, none⟩) (n + 1) cap) (n + 1) (flatV (ecl m A') (n + 1))) ∧ Hid (∀ i, i < n + 1 → ChR w2 0 m (A' i)) ∧ Hid (w2.ownsRow S 48 4 (.slice (some ⟨g, 0, none⟩) j c) j (flatV icl j)) ∧ Hid (Below W.heap.size W w2) ∧ W.heap.size ≤ w2.heap.size := by
  have hs := hg.size
  have hs0 := hb.size
  have hsB := hB.size
  simp at hs
  obtain ⟨cq, hcq⟩ := row_obj hQ (k := g2) rfl
  have hgl := lt_of_block hcq
  have hcq2 : wr.heap[g2]? = some (.cells cq 50 (0, 0)) := by rw [hb.block g2 hgl]; exact hcq
  have kp : ∀ (b : Nat) (cs : Array Value), wr.heap[b]? = some (.cells cs 48) → w2.heap[b]? = some (.cells cs 48) := fun b cs hc => by
    have hl := lt_of_block hc
    rw [hg.block b (by simp; omega) (fun e => by
      have e2 : g2 = b := by simpa [Value.ownBlock] using e.symm
      exact obj_ne hcq2 hc (by decide) e2), Below.heap_alloc _ _ _ (by simp; omega), Below.heap_alloc _ _ _ hl]
    exact hc
  have kp0 : ∀ (b : Nat) (cs : Array Value), w0.heap[b]? = some (.cells cs 48) → w2.heap[b]? = some (.cells cs 48) := fun b cs hc => kp b cs (by rw [hb.block b (lt_of_block hc)]; exact hc)
  refine ⟨fun i => if i < n then A i else ao, ?_, fun i hi => ?_, ?_, ?_, by omega⟩
  · show World.ownsRow _ _ _ _ _ _ _
    have e1 : flatV (ecl m (fun i => if i < n then A i else ao)) n = flatV (ecl m A) n := flatV_congr n (fun i hi => by simp [ecl, hi])
    have e2 : ecl m (fun i => if i < n then A i else ao) n = [.string (nameT n), .int .i64 (kdk m), .string (nmk m), .int .i64 0, .slice ao (lnk m) (lnk m)] := by simp [ecl]
    rw [flatV_succ, e1, e2]
    exact hown
  · show ChR w2 0 m (if i < n then A i else ao)
    by_cases h : i < n
    · rw [if_pos h]
      exact ChR.keep (fun b cs _ hc => kp0 b cs hc) m _ (hA i h)
    · rw [if_neg h]
      exact ChR.keep (fun b cs _ hc => kp b cs hc) m _ (ChR.low (by omega) m _ hch)
  · refine row_keep hX (fun k hk => ?_)
    obtain ⟨cx, hcx⟩ := row_obj hX hk
    rw [kp0 k cx hcx, hcx]
  · refine (((Below.next hB hb).alloc (by omega) o1).alloc (by simp; omega) o2).grown hg (by simp; omega) (fun k hk => (hQ.lt k hk).1)
end Go.Proofs.Ytmfgjemefjcblaa

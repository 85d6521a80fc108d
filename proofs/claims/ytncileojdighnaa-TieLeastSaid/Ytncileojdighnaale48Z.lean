/- The fixed fact of layer 8. -/
import Derived.Test.Ytncileojdighnaale47Z
namespace Go.Proofs.Ytncileojdighnaa
set_option maxRecDepth 100000
open Go.RowKit Go.Maps
abbrev sX : ByteArray := ⟨#[88]⟩
abbrev sY : ByteArray := ⟨#[89]⟩
abbrev sF : ByteArray := ⟨#[102]⟩
def xX : Ex := .mk 1 sX 0 []
def xY : Ex := .mk 1 sY 0 []
def xF : Ex := .mk 4 sF 0 [xX, xY]
theorem uX : isU sX = false := by simp [isU, ByteArray.toList_eq]
theorem uY : isU sY = false := by simp [isU, ByteArray.toList_eq]
theorem wX : isW sX 4 = true := by decide
theorem wY : isW sY 4 = true := by decide
theorem gX : goodX 0 xX = true := by simp [goodX, xX, wX]
theorem gF : goodX 0 xF = true := by
  have hf : goodS sF = true := by decide
  simp [goodX, goodXs, xF, xX, xY, wX, wY, hf]
theorem chkL : chkT [xX] [(sX, xF)] = (0, 0, ⟨#[]⟩) := by
  simp [chkT, ixOf, gX, chkQ, wX, uX, inN, gF]
theorem namL0 : namA [xX] [(sX, xF)] = [sX, sY] := by
  simp [namA, namXs, namX, namQ, xX, xY, xF, uX, uY, putS, inN]
theorem othL0 : othA [xX] [(sX, xF)] = 1 := by
  simp [othA, othXs, othX, othQ, xX, xY, xF, uX, uY]
theorem tieCL : (tieC [xX] [(sX, xF)]).1 = 0 := by
  simp [tieC, chkL, namL0, othL0]
def gL : Gf := ⟨[varN, varN, ⟨4, sF, 0, [2, 1]⟩], [2]⟩
theorem layL : tieN [xX] [(sX, xF)] = [varN, varN, ⟨4, sF, 0, [0, 1]⟩] ∧ tieR [xX] [(sX, xF)] = [0] ∧ tieP [xX] [(sX, xF)] = [(0, 2)] := by
  unfold tieN tieR tieP
  rw [namL0]
  simp [layXs, layX, layQ, xX, xY, xF, uX, uY, ixN, List.replicate, setA]
theorem tieEL : tieE [xX] [(sX, xF)] 0 = 2 ∧ tieE [xX] [(sX, xF)] 1 = 1 ∧ tieE [xX] [(sX, xF)] 2 = 2 := by
  simp [tieE, layL.2.2, bindAll, bindE]
theorem tieGL : tieG [xX] [(sX, xF)] = gL := by
  have h := tieEL
  simp [tieG, gE, layL.1, layL.2.1, gL, renum, EI, h.1, h.2.1]
theorem gL_no (x y : Nat) (hx : x < 3) (hy : y < 3) (hne : x ≠ y) : ¬ Al gL (x : Int) (y : Int) := fun h => by
  obtain ⟨_, _, ⟨h1, _, _, _, h5⟩, _⟩ := al_sim gL _ _ h
  have ex : x = 0 ∨ x = 1 ∨ x = 2 := by omega
  have ey : y = 0 ∨ y = 1 ∨ y = 2 := by omega
  rcases ex with rfl | rfl | rfl <;> rcases ey with rfl | rfl | rfl <;> first | exact absurd rfl hne | exact absurd h1 (by decide) | exact absurd (h5 rfl) (by decide)
theorem gL_e {e : Nat → Nat → Bool} (he : ∀ x y : Nat, (e x y = true ↔ Al gL (x : Int) (y : Int))) (x y : Nat) (hx : x < 3) (hy : y < 3) (hne : x ≠ y) : e x y = false := by
  cases h : e x y
  · rfl
  · exact absurd ((he x y).1 h) (gL_no x y hx hy hne)
theorem gL_cs {e : Nat → Nat → Bool} (he : ∀ x y : Nat, (e x y = true ↔ Al gL (x : Int) (y : Int))) : csF e 3 = [0, 1, 2] ∧ lsF e 3 = [0, 1, 2] := by
  have h1 := gL_e he 1 0 (by omega) (by omega) (by omega)
  have h2 := gL_e he 2 0 (by omega) (by omega) (by omega)
  have h3 := gL_e he 2 1 (by omega) (by omega) (by omega)
  simp [csF, lsF, numF, fnd, h1, h2, h3]
theorem gL_quo {e : Nat → Nat → Bool} (he : ∀ x y : Nat, (e x y = true ↔ Al gL (x : Int) (y : Int))) : quoF e gL = gL ∧ clsI e 3 0 = 0 ∧ clsI e 3 1 = 1 ∧ clsI e 3 2 = 2 := by
  obtain ⟨h1, h2⟩ := gL_cs he
  have c0 : clsI e 3 0 = 0 := by simp [clsI, h1, ints]
  have c1 : clsI e 3 1 = 1 := by simp [clsI, h1, ints]
  have c2 : clsI e 3 2 = 2 := by simp [clsI, h1, ints]
  refine ⟨?_, c0, c1, c2⟩
  simp [quoF, gL, h2, renum, c1, c2]
theorem gL_met : metF gL = [2, 1] := by
  simp [metF, gL, meetF, Gf.argsOf]
theorem gL_trim {e : Nat → Nat → Bool} (he : ∀ x y : Nat, (e x y = true ↔ Al gL (x : Int) (y : Int))) : trimF (quoF e gL) = ⟨[⟨4, sF, 0, [0, 1]⟩, varN], [0]⟩ := by
  rw [(gL_quo he).1]
  unfold trimF
  rw [gL_met]
  simp [gL, renum, posF, pos]
theorem gL_nmd {e : Nat → Nat → Bool} (he : ∀ x y : Nat, (e x y = true ↔ Al gL (x : Int) (y : Int))) : nmdF e gL (tieE [xX] [(sX, xF)]) [sX, sY] 2 = [(sX, 0), (sY, 1)] := by
  obtain ⟨h0, h1, h2, h3⟩ := gL_quo he
  have hE := tieEL
  have hl : gL.nodes.length = 3 := rfl
  simp [nmdF, h0, gL_met, hl, hE.1, hE.2.1, h2, h3, posF, pos]
end Go.Proofs.Ytncileojdighnaa

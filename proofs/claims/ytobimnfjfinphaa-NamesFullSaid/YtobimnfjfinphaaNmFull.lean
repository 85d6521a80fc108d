/- NamesFull walked: the 1024 names of the law, one by one; one more; one of them again. -/
import Derived.Test.YtobimnfjfinphaaNmTwo
import Derived.Laws.BytesArg
namespace Go.Proofs.Ytobimnfjfinphaa
open Go.RowKit Go.Maps

/-- The law's name number k. -/
def nm (k : Nat) : ByteArray := ⟨#[110, UInt8.ofNat (97 + k % 26), UInt8.ofNat (97 + k / 26 % 26), UInt8.ofNat (97 + k / 676)]⟩
theorem byte_inj {a b : Nat} (ha : a < 256) (hb : b < 256) (h : UInt8.ofNat a = UInt8.ofNat b) : a = b := by
  have := congrArg UInt8.toNat h
  simp only [UInt8.toNat_ofNat'] at this
  omega
theorem nm_inj {i j : Nat} (hi : i < 1024) (hj : j < 1024) (h : nm i = nm j) : i = j := by
  have h0 : (nm i).data = (nm j).data := by rw [h]
  simp only [nm, Array.mk.injEq, List.cons.injEq] at h0
  have h1 := byte_inj (by omega) (by omega) h0.2.1
  have h2 := byte_inj (by omega) (by omega) h0.2.2.1
  have h3 := byte_inj (by omega) (by omega) h0.2.2.2.1
  omega
theorem nm_good {k : Nat} (hk : k < 1024) : goodS (nm k) = true := by
  have hs : (nm k).size = 4 := rfl
  have e1 : (UInt8.ofNat (97 + k % 26)).toNat = 97 + k % 26 := by simp only [UInt8.toNat_ofNat']; omega
  have e2 : (UInt8.ofNat (97 + k / 26 % 26)).toNat = 97 + k / 26 % 26 := by simp only [UInt8.toNat_ofNat']; omega
  have e3 : (UInt8.ofNat (97 + k / 676)).toNat = 97 + k / 676 := by simp only [UInt8.toNat_ofNat']; omega
  refine goodS_of (by omega) (by omega) (fun i hi => ?_)
  rw [hs] at hi
  match i, hi with
  | 0, _ =>
    show 33 ≤ ((110 : UInt8).toNat : Int) ∧ ((110 : UInt8).toNat : Int) ≤ 126
    decide
  | 1, _ =>
    show 33 ≤ ((UInt8.ofNat (97 + k % 26)).toNat : Int) ∧ ((UInt8.ofNat (97 + k % 26)).toNat : Int) ≤ 126
    omega
  | 2, _ =>
    show 33 ≤ ((UInt8.ofNat (97 + k / 26 % 26)).toNat : Int) ∧ ((UInt8.ofNat (97 + k / 26 % 26)).toNat : Int) ≤ 126
    omega
  | 3, _ =>
    show 33 ≤ ((UInt8.ofNat (97 + k / 676)).toNat : Int) ∧ ((UInt8.ofNat (97 + k / 676)).toNat : Int) ≤ 126
    omega
def nms (k : Nat) : List ByteArray := (List.range k).map nm
theorem nms_len (k : Nat) : (nms k).length = k := by simp [nms]
theorem nms_succ (k : Nat) : nms (k + 1) = nms k ++ [nm k] := by simp [nms, List.range_succ]
theorem nms_out {k : Nat} (hk : k < 1024) : inL (nms k) (nm k) = false := by
  cases h : inL (nms k) (nm k) with
  | false => rfl
  | true =>
    have := inL_iff.1 h
    simp only [nms, List.mem_map, List.mem_range] at this
    obtain ⟨j, hj, e⟩ := this
    have := nm_inj (by omega) hk e
    omega
theorem nms_put {k : Nat} (hk : k < 1024) : putC (nms k) (nm k) = 0 ∧ putN (nms k) (nm k) = k ∧ putL (nms k) (nm k) = nms (k + 1) := by
  have h1 := nm_good hk
  have h2 := nms_out hk
  have h3 := nms_len k
  refine ⟨by simp [putC, h1, h2, h3, hk], by simp [putN, h1, h2, h3, hk], ?_⟩
  rw [nms_succ]
  simp [putL, h1, h2, h3, hk]
theorem nms_again : putC (nms 1024) ⟨#[110, 98, 97, 97]⟩ = 0 ∧ putN (nms 1024) ⟨#[110, 98, 97, 97]⟩ = 1 := by
  have e : (⟨#[110, 98, 97, 97]⟩ : ByteArray) = nm 1 := by decide
  have hat : (nms 1024)[1]? = some (nm 1) := by simp [nms]
  have h0 : inL ((nms 1024).take 1) (nm 1) = false := by
    have : (nms 1024).take 1 = nms 1 := by
      simp only [nms, ← List.map_take, List.take_range]
      rfl
    rw [this]
    exact nms_out (by omega)
  have hi : inL (nms 1024) (nm 1) = true := inL_iff.2 (List.mem_of_getElem? hat)
  have hx := idx_first h0 hat
  have hg := nm_good (k := 1) (by omega)
  rw [e]
  exact ⟨by simp [putC, hg, hi], by simp [putN, num, hg, hi, hx]⟩
theorem full_stays (s : ByteArray) : putL (nms 1024) s = nms 1024 := by simp [putL, nms_len]
theorem nm_text (k : Nat) (hk : k < 1024) : (⟨#[110]⟩ : ByteArray) ++ strOfNums [97 + (k : Int) % 26, 97 + (k : Int) / 26 % 26, 97 + (k : Int) / 676] = nm k := by
  have e1 : (97 + (k : Int) % 26).toNat = 97 + k % 26 := by omega
  have e2 : (97 + (k : Int) / 26 % 26).toNat = 97 + k / 26 % 26 := by omega
  have e3 : (97 + (k : Int) / 676).toNat = 97 + k / 676 := by omega
  apply ByteArray.ext
  simp [strOfNums, nm, e1, e2, e3]
theorem conv_three (w : World) (x y z : Int) : (convert 47 9 (.slice (some ⟨w.heap.size, 0, none⟩) 3 3)).run Try.prog (w.alloc (.cells #[.int .u8 x, .int .u8 y, .int .u8 z] 5)) = .ok (.string (strOfNums [x, y, z])) (w.alloc (.cells #[.int .u8 x, .int .u8 y, .int .u8 z] 5)) := by
  refine run_convert_bytes_arg _ 47 5 Try.underlying47 Try.underlying5 w.heap.size 0 3 3 [x, y, z] rfl (fun i hi => ?_) 9 Try.underlying9
  have hb := heap_alloc_new w (.cells #[.int .u8 x, .int .u8 y, .int .u8 z] 5)
  match i, hi with
  | 0, _ =>
    simp only [World.cell?]
    rw [hb]
    rfl
  | 1, _ =>
    simp only [World.cell?]
    rw [hb]
    rfl
  | 2, _ =>
    simp only [World.cell?]
    rw [hb]
    rfl
set_option maxRecDepth 100000 in
set_option maxHeartbeats 4000000 in
theorem namesFull_walk {W : World} (a : ByteArray) (za : a.size ≤ 281474976710656) :
    Calls Try.prog 4 #[.string a] W fun e w' => e = .returned (.bool true) ∧ Below W.heap.size W w' := by
  go_enter Try.func4, Try.ntmps4
  go_wp2_with (first
    | (go_at_call 8; refine (lives_any W).mono ?_; rintro e w0 ⟨rfl, hb0⟩; have z0 := hb0.size)
    | (go_at_call 11; refine (new_any w0 W.heap.size z0).mono ?_; rintro e w1 ⟨rfl, ht1, hb1⟩; have z1 := hb1.size; replace hb1 := hb0.trans (hb1.mono z0)))
  go_loopw [4, 5] (fun u i wr => ∃ (k : Nat) (v : Value), k ≤ 1024 ∧ i = .int .i64 k ∧ Two wr W.heap.size (w0.heap.size + 1) v w0.heap.size (nms k) u (nms k) ∧ Below W.heap.size W wr) (fun _ i _ => 1024 - (intOf i).toNat)
  case atStart =>
    refine ⟨0, _, by omega, rfl, ⟨ht1.alloc _, ?_, ?_⟩, hb1.alloc (by omega) _⟩
    · exact ⟨rfl, Or.inr ⟨w1.heap.size, 0, #[], rfl, by omega, heap_alloc_new w1 _, Nat.le_refl _, Nat.zero_le _, rfl, rfl⟩⟩
    · intro k hk hf
      have e : k = w1.heap.size := by simpa [Value.ownBlock] using hk.symm
      have := ht1.foot_lt k hf
      omega
  case round =>
    obtain ⟨k, v, hk, rfl, hT, hbr⟩ := hrel
    have zr := hbr.size
    by_cases hlt : k < 1024
    · have hput := nms_put hlt
      have hcv := conv_three wr (97 + (k : Int) % 26) (97 + (k : Int) / 26 % 26) (97 + (k : Int) / 676)
      have htx := nm_text k hlt
      have zn : (nm k).size ≤ 281474976710656 := show 4 ≤ 281474976710656 by omega
      have hln := nms_len k
      go_wp2_with (first
        | (go_at_call 12; refine (put_yes ((hT.alloc _).tb) (by simp; omega) (nm k) zn hput.1).mono ?_; rintro e w5 ⟨rfl, ⟨v5, hu5, _⟩, hb5⟩; rw [hput.2.2] at hu5; rw [hput.2.1]; have hT5 := (hT.alloc _).put hu5; clear hu5; have z5 := hb5.size; replace hb5 := (hbr.alloc zr _).trans hb5)
        | (at_builtin; refine wpList_append_still rfl _ _ rfl rfl ((hT5.alloc _).own) ⟨w5.heap.size, 0, none⟩ 1 (nm k) rfl (cell_one_new _ _ _) (by omega) (by simp; simp at z5; omega) ?_; intro g cap w6 hown hgr hat; have hU6 := rupd_append hown hgr hat; rw [← nms_succ] at hU6; have hT6 := hT5.rput hU6; have hb6 := hU6.below hT5.own (by simp at z5; omega)))
      go_roundw
      case rel =>
        rw [hln] at hT6
        exact ⟨k + 1, _, by omega, congrArg (Value.int .i64) (by omega), hT6, hb5.trans hb6⟩
      case measure => simp [intOf]; omega
    · obtain rfl : k = 1024 := by omega
      have hst := full_stays a
      have hag := nms_again
      have z4 : (⟨#[110, 98, 97, 97]⟩ : ByteArray).size ≤ 281474976710656 := show 4 ≤ 281474976710656 by omega
      have tok : True := trivial
      go_wp2_with (first
        | (go_at_call 12; have _t := tok; refine (put_any (w := wr) hT.tb zr a za).mono ?_; clear tok; rintro e w5 ⟨ev, v5, rfl, hE, hu5, _⟩; rw [hst] at hu5; have hb5 := hu5.below hT.tb zr; have hT5 := hT.put hu5; clear hu5; have z5 := hb5.size; replace hb5 := hbr.trans hb5)
        | (go_at_call 13; refine (rput_any (w := w5) hT5.own (by omega) (by rw [nms_len]; omega) a za).mono ?_; rintro e w6 ⟨u6, rfl, hU6⟩; have hE6 := hE.row hT5.own hU6.mod; have hb6 := hU6.below hT5.own (by omega); have hT6 := hT5.rput hU6; clear hU6 hE; have z6 := hb6.size; replace hb6 := hb5.trans hb6)
        | (go_at_call 14; refine (is_any (hE6.below (below_alloc _ _))).mono ?_; rintro e w7 ⟨rfl, hb7⟩; have hT7 := (hT6.alloc _).below hb7; have z7 := hb7.size; replace hb7 := (hb6.alloc (by omega) _).trans (hb7.mono (by simp; omega)))
        | (go_at_call 15; refine (len_any (w := w7) hT7.tb).mono ?_; rintro e w7 ⟨rfl, rfl⟩; rw [nms_len])
        | (go_at_call 12; refine (put_yes (w := w7) hT7.tb (by simp at z7; omega) _ z4 hag.1).mono ?_; rintro e w8 ⟨rfl, _, hb8⟩; rw [hag.2]))
      go_ret
      exact ⟨rfl, hb7.trans hb8⟩
end Go.Proofs.Ytobimnfjfinphaa

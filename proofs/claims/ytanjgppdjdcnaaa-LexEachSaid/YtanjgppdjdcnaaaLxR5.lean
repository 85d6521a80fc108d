/- Token of layer 6's reference, at every source and place. -/
import Derived.Test.YtanjgppdjdcnaaaLxR3
import Derived.Test.YtanjgppdjdcnaaaLxR4
namespace Go.Proofs.Ytanjgppdjdcnaaa
open Go.RowKit

set_option maxHeartbeats 400000 in
theorem at_eq (c a : Int) (w : World) :
    Calls Try.prog 21 #[.int .i64 c, .int .i64 a] w fun e w' => e = .returned (flt c a) ∧ w' = w.alloc (fltObj c a) := by
  go_enter Try.func21, Try.ntmps21
  go_wp2
  exact bodyPost_ret (v := flt c a) (by simp [results, Try.results21, go_sem, flt]) rfl ⟨rfl, rfl⟩
/-- A token and a fault, as the reference answers them. -/
def TAns (w : World) (x : Lx) (e : Ending) (w' : World) : Prop := e = .returned (.tuple #[tokV x.tok, flt x.code x.pl]) ∧ Below w.heap.size w w'
set_option maxRecDepth 100000 in
set_option maxHeartbeats 2000000 in
theorem rtok_small_no {s : ByteArray} {a : Nat} {w : World} (hs : s.size ≤ 4194304) (ha : a < s.size) (hk : kd s a = 3) (hl : 32 < wEnd s a - a) :
    Calls Try.prog 23 #[.string s, .int .i64 (a : Int)] w (TAns w (badT 62 a)) := by
  have hkb := kd_byte ha
  have hsm := fun W => rsmall_any s[a].toNat W
  have hgr := fun W => rgreat_any s[a].toNat W
  have hdi := fun W => rdigit_any s[a].toNat W
  have hma := fun W => rmark_any s[a].toNat W
  rw [← hkb] at hsm hgr hdi hma
  rw [decide_eq_true hk] at hsm
  rw [decide_eq_false (show ¬ kd s a = 4 by omega)] at hgr
  rw [decide_eq_false (show ¬ kd s a = 5 by omega)] at hdi
  rw [decide_eq_false (show ¬ kd s a = 9 by omega)] at hma
  have hro := fun W => rrow_any s a W (by omega) (by omega)
  have h1 := wEnd_ge s a
  have h2 : wEnd s a ≤ s.size := wEnd_le (by omega)
  have hl' : (32 : Int) < (wEnd s a : Int) - (a : Int) := by omega
  clear hk hl
  clear hkb
  go_enter Try.func23, Try.ntmps23
  go_wp2_with (first
    | (go_at_call 33; refine (hsm _).mono ?_; rintro x w2 ⟨rfl, rfl⟩)
    | (go_at_call 35; refine (hgr _).mono ?_; rintro x w2 ⟨rfl, rfl⟩)
    | (go_at_call 34; refine (hro _).mono ?_; rintro x w2 ⟨rfl, rfl⟩)
    | (go_at_call 21; refine (at_eq _ _ _).mono ?_; rintro x w2 ⟨rfl, rfl⟩))
  all_goals
    refine bodyPost_ret (v := .tuple #[tokV tk0, flt 62 a]) (by simp [results, Try.results23, go_sem, flt, fltObj]) rfl ⟨rfl, ?_⟩
    repeat (first | exact Below.refl _ _ | refine Below.drew ?_ | refine Below.setCell ?_ (by first | (simp; done) | (simp; omega)) _ | refine Below.alloc ?_ (by first | (simp; done) | (simp; omega)) _)
set_option maxRecDepth 100000 in
set_option maxHeartbeats 2000000 in
theorem rtok_small_yes {s : ByteArray} {a : Nat} {w : World} (hs : s.size ≤ 4194304) (ha : a < s.size) (hk : kd s a = 3) (hl : ¬ 32 < wEnd s a - a) (e : Nat) (he : e = wEnd s a) :
    Calls Try.prog 23 #[.string s, .int .i64 (a : Int)] w (TAns w (okT ⟨1, cutB s a e, 0, a, e⟩)) := by
  have hkb := kd_byte ha
  have hsm := fun W => rsmall_any s[a].toNat W
  have hgr := fun W => rgreat_any s[a].toNat W
  have hdi := fun W => rdigit_any s[a].toNat W
  have hma := fun W => rmark_any s[a].toNat W
  rw [← hkb] at hsm hgr hdi hma
  rw [decide_eq_true hk] at hsm
  rw [decide_eq_false (show ¬ kd s a = 4 by omega)] at hgr
  rw [decide_eq_false (show ¬ kd s a = 5 by omega)] at hdi
  rw [decide_eq_false (show ¬ kd s a = 9 by omega)] at hma
  have hro := fun W => rrow_any s a W (by omega) (by omega)
  have h1 := wEnd_ge s a
  have h2 : wEnd s a ≤ s.size := wEnd_le (by omega)
  rw [← he] at hro h1 h2 hl
  have hl' : ¬ (32 : Int) < (e : Int) - (a : Int) := by omega
  have e1 : (a : Int) + ((e : Int) - (a : Int)) = (e : Int) := by omega
  have hwr : IntKind.i64.wrap (e : Int) = (e : Int) := by rw [IntKind.wrap_i64]; omega
  have b1 : (0 : Int) ≤ (e : Int) := by omega
  have b2 : (e : Int) ≤ (s.size : Int) := by omega
  have b3 : (a : Int) ≤ (e : Int) := by omega
  clear hk hl he
  clear hkb
  go_enter Try.func23, Try.ntmps23
  go_wp2_with (first
    | (go_at_call 33; refine (hsm _).mono ?_; rintro x w2 ⟨rfl, rfl⟩)
    | (go_at_call 35; refine (hgr _).mono ?_; rintro x w2 ⟨rfl, rfl⟩)
    | (go_at_call 34; refine (hro _).mono ?_; rintro x w2 ⟨rfl, rfl⟩))
  go_region_law (go_simp; go_at_call 24; refine (no_eq _).mono ?_; rintro x wq ⟨rfl, hwq⟩; subst hwq)
  all_goals go_wp2
  all_goals
    refine bodyPost_ret (v := .tuple #[tokV ⟨1, cutB s a e, 0, a, e⟩, flt 0 0]) (by simp [results, Try.results23, go_sem, flt, fltObj, cutB]) rfl ⟨rfl, ?_⟩
    repeat (first | exact Below.refl _ _ | refine Below.drew ?_ | refine Below.setCell ?_ (by first | (simp; done) | (simp; omega)) _ | refine Below.alloc ?_ (by first | (simp; done) | (simp; omega)) _)
set_option maxRecDepth 100000 in
set_option maxHeartbeats 2000000 in
theorem rtok_great_no {s : ByteArray} {a : Nat} {w : World} (hs : s.size ≤ 4194304) (ha : a < s.size) (hk : kd s a = 4) (hl : 32 < wEnd s a - a) :
    Calls Try.prog 23 #[.string s, .int .i64 (a : Int)] w (TAns w (badT 62 a)) := by
  have hkb := kd_byte ha
  have hsm := fun W => rsmall_any s[a].toNat W
  have hgr := fun W => rgreat_any s[a].toNat W
  have hdi := fun W => rdigit_any s[a].toNat W
  have hma := fun W => rmark_any s[a].toNat W
  rw [← hkb] at hsm hgr hdi hma
  rw [decide_eq_false (show ¬ kd s a = 3 by omega)] at hsm
  rw [decide_eq_true hk] at hgr
  rw [decide_eq_false (show ¬ kd s a = 5 by omega)] at hdi
  rw [decide_eq_false (show ¬ kd s a = 9 by omega)] at hma
  have hro := fun W => rrow_any s a W (by omega) (by omega)
  have h1 := wEnd_ge s a
  have h2 : wEnd s a ≤ s.size := wEnd_le (by omega)
  have hl' : (32 : Int) < (wEnd s a : Int) - (a : Int) := by omega
  clear hk hl
  clear hkb
  go_enter Try.func23, Try.ntmps23
  go_wp2_with (first
    | (go_at_call 33; refine (hsm _).mono ?_; rintro x w2 ⟨rfl, rfl⟩)
    | (go_at_call 35; refine (hgr _).mono ?_; rintro x w2 ⟨rfl, rfl⟩)
    | (go_at_call 34; refine (hro _).mono ?_; rintro x w2 ⟨rfl, rfl⟩)
    | (go_at_call 21; refine (at_eq _ _ _).mono ?_; rintro x w2 ⟨rfl, rfl⟩))
  all_goals
    refine bodyPost_ret (v := .tuple #[tokV tk0, flt 62 a]) (by simp [results, Try.results23, go_sem, flt, fltObj]) rfl ⟨rfl, ?_⟩
    repeat (first | exact Below.refl _ _ | refine Below.drew ?_ | refine Below.setCell ?_ (by first | (simp; done) | (simp; omega)) _ | refine Below.alloc ?_ (by first | (simp; done) | (simp; omega)) _)
set_option maxRecDepth 100000 in
set_option maxHeartbeats 2000000 in
theorem rtok_great_yes {s : ByteArray} {a : Nat} {w : World} (hs : s.size ≤ 4194304) (ha : a < s.size) (hk : kd s a = 4) (hl : ¬ 32 < wEnd s a - a) (e : Nat) (he : e = wEnd s a) :
    Calls Try.prog 23 #[.string s, .int .i64 (a : Int)] w (TAns w (okT ⟨2, cutB s a e, 0, a, e⟩)) := by
  have hkb := kd_byte ha
  have hsm := fun W => rsmall_any s[a].toNat W
  have hgr := fun W => rgreat_any s[a].toNat W
  have hdi := fun W => rdigit_any s[a].toNat W
  have hma := fun W => rmark_any s[a].toNat W
  rw [← hkb] at hsm hgr hdi hma
  rw [decide_eq_false (show ¬ kd s a = 3 by omega)] at hsm
  rw [decide_eq_true hk] at hgr
  rw [decide_eq_false (show ¬ kd s a = 5 by omega)] at hdi
  rw [decide_eq_false (show ¬ kd s a = 9 by omega)] at hma
  have hro := fun W => rrow_any s a W (by omega) (by omega)
  have h1 := wEnd_ge s a
  have h2 : wEnd s a ≤ s.size := wEnd_le (by omega)
  rw [← he] at hro h1 h2 hl
  have hl' : ¬ (32 : Int) < (e : Int) - (a : Int) := by omega
  have e1 : (a : Int) + ((e : Int) - (a : Int)) = (e : Int) := by omega
  have hwr : IntKind.i64.wrap (e : Int) = (e : Int) := by rw [IntKind.wrap_i64]; omega
  have b1 : (0 : Int) ≤ (e : Int) := by omega
  have b2 : (e : Int) ≤ (s.size : Int) := by omega
  have b3 : (a : Int) ≤ (e : Int) := by omega
  clear hk hl he
  clear hkb
  go_enter Try.func23, Try.ntmps23
  go_wp2_with (first
    | (go_at_call 33; refine (hsm _).mono ?_; rintro x w2 ⟨rfl, rfl⟩)
    | (go_at_call 35; refine (hgr _).mono ?_; rintro x w2 ⟨rfl, rfl⟩)
    | (go_at_call 34; refine (hro _).mono ?_; rintro x w2 ⟨rfl, rfl⟩))
  go_region_law (go_simp; go_at_call 24; refine (no_eq _).mono ?_; rintro x wq ⟨rfl, hwq⟩; subst hwq)
  all_goals go_wp2
  all_goals
    refine bodyPost_ret (v := .tuple #[tokV ⟨2, cutB s a e, 0, a, e⟩, flt 0 0]) (by simp [results, Try.results23, go_sem, flt, fltObj, cutB]) rfl ⟨rfl, ?_⟩
    repeat (first | exact Below.refl _ _ | refine Below.drew ?_ | refine Below.setCell ?_ (by first | (simp; done) | (simp; omega)) _ | refine Below.alloc ?_ (by first | (simp; done) | (simp; omega)) _)
set_option maxRecDepth 100000 in
set_option maxHeartbeats 2000000 in
theorem rtok_digit_yes {s : ByteArray} {a : Nat} {w : World} (hs : s.size ≤ 4194304) (ha : a < s.size) (hk : kd s a = 5) (e : Nat) (he : e = wEnd s (a + 1)) (V : Int) (hwh : ∀ W, Calls Try.prog 38 #[.string (s.extract a e)] W fun x w' => (x = .returned (.tuple #[.int .i64 V, .bool true])) ∧ w' = W) :
    Calls Try.prog 23 #[.string s, .int .i64 (a : Int)] w (TAns w (okT ⟨3, ⟨#[]⟩, V, a, e⟩)) := by
  have hkb := kd_byte ha
  have hsm := fun W => rsmall_any s[a].toNat W
  have hgr := fun W => rgreat_any s[a].toNat W
  have hdi := fun W => rdigit_any s[a].toNat W
  have hma := fun W => rmark_any s[a].toNat W
  rw [← hkb] at hsm hgr hdi hma
  rw [decide_eq_false (show ¬ kd s a = 3 by omega)] at hsm
  rw [decide_eq_false (show ¬ kd s a = 4 by omega)] at hgr
  rw [decide_eq_true hk] at hdi
  rw [decide_eq_false (show ¬ kd s a = 9 by omega)] at hma
  have x39 : (((s[a].toNat : Nat) : Int) == 39) = false := by
    rw [hkb] at hk
    exact beq_eq_false_iff_ne.2 (fun h => by rw [show s[a].toNat = 39 by omega] at hk; exact absurd hk (by decide))
  have hro := fun W => rrow_any s (a + 1) W (by omega) (by omega)
  have h1 := wEnd_ge s (a + 1)
  have h2 : wEnd s (a + 1) ≤ s.size := wEnd_le (by omega)
  rw [← he] at hro h1 h2
  rw [Int.natCast_add, Int.natCast_one] at hro
  have e1 : (a : Int) + 1 + ((e : Int) - ((a : Int) + 1)) = (e : Int) := by omega
  clear hk he
  clear hkb
  go_enter Try.func23, Try.ntmps23
  go_wp2_with (first
    | (go_at_call 33; refine (hsm _).mono ?_; rintro x w2 ⟨rfl, rfl⟩)
    | (go_at_call 35; refine (hgr _).mono ?_; rintro x w2 ⟨rfl, rfl⟩)
    | (go_at_call 37; refine (hdi _).mono ?_; clear hdi; rintro x w2 ⟨rfl, rfl⟩)
    | (go_at_call 34; refine (hro _).mono ?_; rintro x w2 ⟨rfl, rfl⟩)
    | (go_at_call 38; refine (hwh _).mono ?_; rintro x w2 ⟨rfl, rfl⟩)
    | (go_at_call 24; refine (no_eq _).mono ?_; rintro x w2 ⟨rfl, rfl⟩))
  all_goals
    refine bodyPost_ret (v := .tuple #[tokV ⟨3, ⟨#[]⟩, V, a, e⟩, flt 0 0]) (by simp [results, Try.results23, go_sem, flt, fltObj]) rfl ⟨rfl, ?_⟩
    repeat (first | exact Below.refl _ _ | refine Below.drew ?_ | refine Below.setCell ?_ (by first | (simp; done) | (simp; omega)) _ | refine Below.alloc ?_ (by first | (simp; done) | (simp; omega)) _)
set_option maxRecDepth 100000 in
set_option maxHeartbeats 2000000 in
theorem rtok_digit_no {s : ByteArray} {a : Nat} {w : World} (hs : s.size ≤ 4194304) (ha : a < s.size) (hk : kd s a = 5) (e : Nat) (he : e = wEnd s (a + 1)) (hwh : ∀ W, Calls Try.prog 38 #[.string (s.extract a e)] W fun x w' => (∃ n : Int, x = .returned (.tuple #[.int .i64 n, .bool false])) ∧ w' = W) :
    Calls Try.prog 23 #[.string s, .int .i64 (a : Int)] w (TAns w (badT 63 a)) := by
  have hkb := kd_byte ha
  have hsm := fun W => rsmall_any s[a].toNat W
  have hgr := fun W => rgreat_any s[a].toNat W
  have hdi := fun W => rdigit_any s[a].toNat W
  have hma := fun W => rmark_any s[a].toNat W
  rw [← hkb] at hsm hgr hdi hma
  rw [decide_eq_false (show ¬ kd s a = 3 by omega)] at hsm
  rw [decide_eq_false (show ¬ kd s a = 4 by omega)] at hgr
  rw [decide_eq_true hk] at hdi
  rw [decide_eq_false (show ¬ kd s a = 9 by omega)] at hma
  have x39 : (((s[a].toNat : Nat) : Int) == 39) = false := by
    rw [hkb] at hk
    exact beq_eq_false_iff_ne.2 (fun h => by rw [show s[a].toNat = 39 by omega] at hk; exact absurd hk (by decide))
  have hro := fun W => rrow_any s (a + 1) W (by omega) (by omega)
  have h1 := wEnd_ge s (a + 1)
  have h2 : wEnd s (a + 1) ≤ s.size := wEnd_le (by omega)
  rw [← he] at hro h1 h2
  rw [Int.natCast_add, Int.natCast_one] at hro
  have e1 : (a : Int) + 1 + ((e : Int) - ((a : Int) + 1)) = (e : Int) := by omega
  clear hk he
  clear hkb
  go_enter Try.func23, Try.ntmps23
  go_wp2_with (first
    | (go_at_call 33; refine (hsm _).mono ?_; rintro x w2 ⟨rfl, rfl⟩)
    | (go_at_call 35; refine (hgr _).mono ?_; rintro x w2 ⟨rfl, rfl⟩)
    | (go_at_call 37; refine (hdi _).mono ?_; clear hdi; rintro x w2 ⟨rfl, rfl⟩)
    | (go_at_call 34; refine (hro _).mono ?_; rintro x w2 ⟨rfl, rfl⟩)
    | (go_at_call 38; refine (hwh _).mono ?_; rintro x w2 ⟨⟨n, rfl⟩, rfl⟩)
    | (go_at_call 21; refine (at_eq _ _ _).mono ?_; rintro x w2 ⟨rfl, rfl⟩))
  all_goals
    refine bodyPost_ret (v := .tuple #[tokV tk0, flt 63 a]) (by simp [results, Try.results23, go_sem, flt, fltObj]) rfl ⟨rfl, ?_⟩
    repeat (first | exact Below.refl _ _ | refine Below.drew ?_ | refine Below.setCell ?_ (by first | (simp; done) | (simp; omega)) _ | refine Below.alloc ?_ (by first | (simp; done) | (simp; omega)) _)
set_option maxRecDepth 100000 in
set_option maxHeartbeats 2000000 in
theorem rtok_sign_yes {s : ByteArray} {a : Nat} {w : World} (hs : s.size ≤ 4194304) (ha : a < s.size) (hk : kd s a = 6) (h5 : kd s (a + 1) = 5) (e : Nat) (he : e = wEnd s (a + 1)) (V : Int) (hwh : ∀ W, Calls Try.prog 38 #[.string (s.extract a e)] W fun x w' => (x = .returned (.tuple #[.int .i64 V, .bool true])) ∧ w' = W) :
    Calls Try.prog 23 #[.string s, .int .i64 (a : Int)] w (TAns w (okT ⟨3, ⟨#[]⟩, V, a, e⟩)) := by
  have hkb := kd_byte ha
  have hsm := fun W => rsmall_any s[a].toNat W
  have hgr := fun W => rgreat_any s[a].toNat W
  have hdi := fun W => rdigit_any s[a].toNat W
  have hma := fun W => rmark_any s[a].toNat W
  rw [← hkb] at hsm hgr hdi hma
  rw [decide_eq_false (show ¬ kd s a = 3 by omega)] at hsm
  rw [decide_eq_false (show ¬ kd s a = 4 by omega)] at hgr
  rw [decide_eq_false (show ¬ kd s a = 5 by omega)] at hdi
  rw [decide_eq_false (show ¬ kd s a = 9 by omega)] at hma
  have ha1 : a + 1 < s.size := kd_lt (by omega)
  have hdi2 := fun W => rdigit_any s[a + 1].toNat W
  rw [← kd_byte ha1, decide_eq_true h5] at hdi2
  have x39 : (((s[a].toNat : Nat) : Int) == 39) = false := by
    rw [hkb] at hk
    exact beq_eq_false_iff_ne.2 (fun h => by rw [show s[a].toNat = 39 by omega] at hk; exact absurd hk (by decide))
  have x45 : (((s[a].toNat : Nat) : Int) == 45) = true := by
    rw [hkb] at hk
    rw [(kb_6 _).1 hk]
    rfl
  have hro := fun W => rrow_any s (a + 1) W (by omega) (by omega)
  have h1 := wEnd_ge s (a + 1)
  have h2 : wEnd s (a + 1) ≤ s.size := wEnd_le (by omega)
  rw [← he] at hro h1 h2
  rw [Int.natCast_add, Int.natCast_one] at hro
  have e1 : (a : Int) + 1 + ((e : Int) - ((a : Int) + 1)) = (e : Int) := by omega
  clear hk he h5
  clear hkb
  go_enter Try.func23, Try.ntmps23
  go_wp2_with (first
    | (go_at_call 33; refine (hsm _).mono ?_; rintro x w2 ⟨rfl, rfl⟩)
    | (go_at_call 35; refine (hgr _).mono ?_; rintro x w2 ⟨rfl, rfl⟩)
    | (go_at_call 37; refine (hdi _).mono ?_; clear hdi; rintro x w2 ⟨rfl, rfl⟩)
    | (go_at_call 37; refine (hdi2 _).mono ?_; rintro x w2 ⟨rfl, rfl⟩)
    | (go_at_call 34; refine (hro _).mono ?_; rintro x w2 ⟨rfl, rfl⟩)
    | (go_at_call 38; refine (hwh _).mono ?_; rintro x w2 ⟨rfl, rfl⟩)
    | (go_at_call 24; refine (no_eq _).mono ?_; rintro x w2 ⟨rfl, rfl⟩))
  all_goals
    refine bodyPost_ret (v := .tuple #[tokV ⟨3, ⟨#[]⟩, V, a, e⟩, flt 0 0]) (by simp [results, Try.results23, go_sem, flt, fltObj]) rfl ⟨rfl, ?_⟩
    repeat (first | exact Below.refl _ _ | refine Below.drew ?_ | refine Below.setCell ?_ (by first | (simp; done) | (simp; omega)) _ | refine Below.alloc ?_ (by first | (simp; done) | (simp; omega)) _)
set_option maxRecDepth 100000 in
set_option maxHeartbeats 2000000 in
theorem rtok_sign_no {s : ByteArray} {a : Nat} {w : World} (hs : s.size ≤ 4194304) (ha : a < s.size) (hk : kd s a = 6) (h5 : kd s (a + 1) = 5) (e : Nat) (he : e = wEnd s (a + 1)) (hwh : ∀ W, Calls Try.prog 38 #[.string (s.extract a e)] W fun x w' => (∃ n : Int, x = .returned (.tuple #[.int .i64 n, .bool false])) ∧ w' = W) :
    Calls Try.prog 23 #[.string s, .int .i64 (a : Int)] w (TAns w (badT 63 a)) := by
  have hkb := kd_byte ha
  have hsm := fun W => rsmall_any s[a].toNat W
  have hgr := fun W => rgreat_any s[a].toNat W
  have hdi := fun W => rdigit_any s[a].toNat W
  have hma := fun W => rmark_any s[a].toNat W
  rw [← hkb] at hsm hgr hdi hma
  rw [decide_eq_false (show ¬ kd s a = 3 by omega)] at hsm
  rw [decide_eq_false (show ¬ kd s a = 4 by omega)] at hgr
  rw [decide_eq_false (show ¬ kd s a = 5 by omega)] at hdi
  rw [decide_eq_false (show ¬ kd s a = 9 by omega)] at hma
  have ha1 : a + 1 < s.size := kd_lt (by omega)
  have hdi2 := fun W => rdigit_any s[a + 1].toNat W
  rw [← kd_byte ha1, decide_eq_true h5] at hdi2
  have x39 : (((s[a].toNat : Nat) : Int) == 39) = false := by
    rw [hkb] at hk
    exact beq_eq_false_iff_ne.2 (fun h => by rw [show s[a].toNat = 39 by omega] at hk; exact absurd hk (by decide))
  have x45 : (((s[a].toNat : Nat) : Int) == 45) = true := by
    rw [hkb] at hk
    rw [(kb_6 _).1 hk]
    rfl
  have hro := fun W => rrow_any s (a + 1) W (by omega) (by omega)
  have h1 := wEnd_ge s (a + 1)
  have h2 : wEnd s (a + 1) ≤ s.size := wEnd_le (by omega)
  rw [← he] at hro h1 h2
  rw [Int.natCast_add, Int.natCast_one] at hro
  have e1 : (a : Int) + 1 + ((e : Int) - ((a : Int) + 1)) = (e : Int) := by omega
  clear hk he h5
  clear hkb
  go_enter Try.func23, Try.ntmps23
  go_wp2_with (first
    | (go_at_call 33; refine (hsm _).mono ?_; rintro x w2 ⟨rfl, rfl⟩)
    | (go_at_call 35; refine (hgr _).mono ?_; rintro x w2 ⟨rfl, rfl⟩)
    | (go_at_call 37; refine (hdi _).mono ?_; clear hdi; rintro x w2 ⟨rfl, rfl⟩)
    | (go_at_call 37; refine (hdi2 _).mono ?_; rintro x w2 ⟨rfl, rfl⟩)
    | (go_at_call 34; refine (hro _).mono ?_; rintro x w2 ⟨rfl, rfl⟩)
    | (go_at_call 38; refine (hwh _).mono ?_; rintro x w2 ⟨⟨n, rfl⟩, rfl⟩)
    | (go_at_call 21; refine (at_eq _ _ _).mono ?_; rintro x w2 ⟨rfl, rfl⟩))
  all_goals
    refine bodyPost_ret (v := .tuple #[tokV tk0, flt 63 a]) (by simp [results, Try.results23, go_sem, flt, fltObj]) rfl ⟨rfl, ?_⟩
    repeat (first | exact Below.refl _ _ | refine Below.drew ?_ | refine Below.setCell ?_ (by first | (simp; done) | (simp; omega)) _ | refine Below.alloc ?_ (by first | (simp; done) | (simp; omega)) _)
set_option maxRecDepth 100000 in
set_option maxHeartbeats 2000000 in
theorem rtok_sign_bad {s : ByteArray} {a : Nat} {w : World} (hs : s.size ≤ 4194304) (ha : a < s.size) (hk : kd s a = 6) (h5 : kd s (a + 1) ≠ 5) (ha1 : a + 1 < s.size) :
    Calls Try.prog 23 #[.string s, .int .i64 (a : Int)] w (TAns w (badT 61 a)) := by
  have hkb := kd_byte ha
  have hsm := fun W => rsmall_any s[a].toNat W
  have hgr := fun W => rgreat_any s[a].toNat W
  have hdi := fun W => rdigit_any s[a].toNat W
  have hma := fun W => rmark_any s[a].toNat W
  rw [← hkb] at hsm hgr hdi hma
  rw [decide_eq_false (show ¬ kd s a = 3 by omega)] at hsm
  rw [decide_eq_false (show ¬ kd s a = 4 by omega)] at hgr
  rw [decide_eq_false (show ¬ kd s a = 5 by omega)] at hdi
  rw [decide_eq_false (show ¬ kd s a = 9 by omega)] at hma
  have hdi2 := fun W => rdigit_any s[a + 1].toNat W
  rw [← kd_byte ha1, decide_eq_false h5] at hdi2
  have x39 : (((s[a].toNat : Nat) : Int) == 39) = false := by
    rw [hkb] at hk
    exact beq_eq_false_iff_ne.2 (fun h => by rw [show s[a].toNat = 39 by omega] at hk; exact absurd hk (by decide))
  have x45 : (((s[a].toNat : Nat) : Int) == 45) = true := by
    rw [hkb] at hk
    rw [(kb_6 _).1 hk]
    rfl
  have x58 : (((s[a].toNat : Nat) : Int) == 58) = false := by
    rw [hkb] at hk
    exact beq_eq_false_iff_ne.2 (fun h => by rw [show s[a].toNat = 58 by omega] at hk; exact absurd hk (by decide))
  clear hk h5
  clear hkb
  go_enter Try.func23, Try.ntmps23
  go_wp2_with (first
    | (go_at_call 33; refine (hsm _).mono ?_; rintro x w2 ⟨rfl, rfl⟩)
    | (go_at_call 35; refine (hgr _).mono ?_; rintro x w2 ⟨rfl, rfl⟩)
    | (go_at_call 37; refine (hdi _).mono ?_; clear hdi; rintro x w2 ⟨rfl, rfl⟩)
    | (go_at_call 37; refine (hdi2 _).mono ?_; rintro x w2 ⟨rfl, rfl⟩)
    | (go_at_call 39; refine (hma _).mono ?_; rintro x w2 ⟨rfl, rfl⟩)
    | (go_at_call 21; refine (at_eq _ _ _).mono ?_; rintro x w2 ⟨rfl, rfl⟩))
  all_goals
    refine bodyPost_ret (v := .tuple #[tokV tk0, flt 61 a]) (by simp [results, Try.results23, go_sem, flt, fltObj]) rfl ⟨rfl, ?_⟩
    repeat (first | exact Below.refl _ _ | refine Below.drew ?_ | refine Below.setCell ?_ (by first | (simp; done) | (simp; omega)) _ | refine Below.alloc ?_ (by first | (simp; done) | (simp; omega)) _)
set_option maxRecDepth 100000 in
set_option maxHeartbeats 2000000 in
theorem rtok_sign_last {s : ByteArray} {a : Nat} {w : World} (hs : s.size ≤ 4194304) (ha : a < s.size) (hk : kd s a = 6) (ha1 : ¬ a + 1 < s.size) :
    Calls Try.prog 23 #[.string s, .int .i64 (a : Int)] w (TAns w (badT 61 a)) := by
  have hkb := kd_byte ha
  have hsm := fun W => rsmall_any s[a].toNat W
  have hgr := fun W => rgreat_any s[a].toNat W
  have hdi := fun W => rdigit_any s[a].toNat W
  have hma := fun W => rmark_any s[a].toNat W
  rw [← hkb] at hsm hgr hdi hma
  rw [decide_eq_false (show ¬ kd s a = 3 by omega)] at hsm
  rw [decide_eq_false (show ¬ kd s a = 4 by omega)] at hgr
  rw [decide_eq_false (show ¬ kd s a = 5 by omega)] at hdi
  rw [decide_eq_false (show ¬ kd s a = 9 by omega)] at hma
  have x39 : (((s[a].toNat : Nat) : Int) == 39) = false := by
    rw [hkb] at hk
    exact beq_eq_false_iff_ne.2 (fun h => by rw [show s[a].toNat = 39 by omega] at hk; exact absurd hk (by decide))
  have x45 : (((s[a].toNat : Nat) : Int) == 45) = true := by
    rw [hkb] at hk
    rw [(kb_6 _).1 hk]
    rfl
  have x58 : (((s[a].toNat : Nat) : Int) == 58) = false := by
    rw [hkb] at hk
    exact beq_eq_false_iff_ne.2 (fun h => by rw [show s[a].toNat = 58 by omega] at hk; exact absurd hk (by decide))
  have hd : decide ((a : Int) + 1 < (s.size : Int)) = false := decide_eq_false (by omega)
  clear hk ha1
  clear hkb
  go_enter Try.func23, Try.ntmps23
  go_wp2_with (first
    | (go_at_call 33; refine (hsm _).mono ?_; rintro x w2 ⟨rfl, rfl⟩)
    | (go_at_call 35; refine (hgr _).mono ?_; rintro x w2 ⟨rfl, rfl⟩)
    | (go_at_call 37; refine (hdi _).mono ?_; clear hdi; rintro x w2 ⟨rfl, rfl⟩)
    | (go_at_call 39; refine (hma _).mono ?_; rintro x w2 ⟨rfl, rfl⟩)
    | (go_at_call 21; refine (at_eq _ _ _).mono ?_; rintro x w2 ⟨rfl, rfl⟩))
  all_goals
    refine bodyPost_ret (v := .tuple #[tokV tk0, flt 61 a]) (by simp [results, Try.results23, go_sem, flt, fltObj]) rfl ⟨rfl, ?_⟩
    repeat (first | exact Below.refl _ _ | refine Below.drew ?_ | refine Below.setCell ?_ (by first | (simp; done) | (simp; omega)) _ | refine Below.alloc ?_ (by first | (simp; done) | (simp; omega)) _)
set_option maxRecDepth 100000 in
set_option maxHeartbeats 2000000 in
theorem rtok_mark {s : ByteArray} {a : Nat} {w : World} (hs : s.size ≤ 4194304) (ha : a < s.size) (hk : kd s a = 9) :
    Calls Try.prog 23 #[.string s, .int .i64 (a : Int)] w (TAns w (okT ⟨4, cutB s a (a + 1), 0, a, a + 1⟩)) := by
  have hkb := kd_byte ha
  have hsm := fun W => rsmall_any s[a].toNat W
  have hgr := fun W => rgreat_any s[a].toNat W
  have hdi := fun W => rdigit_any s[a].toNat W
  have hma := fun W => rmark_any s[a].toNat W
  rw [← hkb] at hsm hgr hdi hma
  rw [decide_eq_false (show ¬ kd s a = 3 by omega)] at hsm
  rw [decide_eq_false (show ¬ kd s a = 4 by omega)] at hgr
  rw [decide_eq_false (show ¬ kd s a = 5 by omega)] at hdi
  rw [decide_eq_true hk] at hma
  have x39 : (((s[a].toNat : Nat) : Int) == 39) = false := by
    rw [hkb] at hk
    exact beq_eq_false_iff_ne.2 (fun h => by rw [show s[a].toNat = 39 by omega] at hk; exact absurd hk (by decide))
  have x45 : (((s[a].toNat : Nat) : Int) == 45) = false := by
    rw [hkb] at hk
    exact beq_eq_false_iff_ne.2 (fun h => by rw [show s[a].toNat = 45 by omega] at hk; exact absurd hk (by decide))
  have x58 : (((s[a].toNat : Nat) : Int) == 58) = false := by
    rw [hkb] at hk
    exact beq_eq_false_iff_ne.2 (fun h => by rw [show s[a].toNat = 58 by omega] at hk; exact absurd hk (by decide))
  have hwr : IntKind.i64.wrap ((a : Int) + 1) = (a : Int) + 1 := by rw [IntKind.wrap_i64]; omega
  have b2 : (a : Int) + 1 ≤ (s.size : Int) := by omega
  have b1 : (0 : Int) ≤ (a : Int) + 1 := by omega
  have b3 : (a : Int) ≤ (a : Int) + 1 := by omega
  clear hk
  clear hkb
  go_enter Try.func23, Try.ntmps23
  go_wp2_with (first
    | (go_at_call 33; refine (hsm _).mono ?_; rintro x w2 ⟨rfl, rfl⟩)
    | (go_at_call 35; refine (hgr _).mono ?_; rintro x w2 ⟨rfl, rfl⟩)
    | (go_at_call 37; refine (hdi _).mono ?_; clear hdi; rintro x w2 ⟨rfl, rfl⟩)
    | (go_at_call 39; refine (hma _).mono ?_; rintro x w2 ⟨rfl, rfl⟩))
  go_region_law (go_simp; go_at_call 24; refine (no_eq _).mono ?_; rintro x wq ⟨rfl, hwq⟩; subst hwq)
  all_goals go_wp2
  all_goals
    refine bodyPost_ret (v := .tuple #[tokV ⟨4, cutB s a (a + 1), 0, a, a + 1⟩, flt 0 0]) (by simp [results, Try.results23, go_sem, flt, fltObj, cutB]) rfl ⟨rfl, ?_⟩
    repeat (first | exact Below.refl _ _ | refine Below.drew ?_ | refine Below.setCell ?_ (by first | (simp; done) | (simp; omega)) _ | refine Below.alloc ?_ (by first | (simp; done) | (simp; omega)) _)
set_option maxRecDepth 100000 in
set_option maxHeartbeats 2000000 in
theorem rtok_none {s : ByteArray} {a : Nat} {w : World} (hs : s.size ≤ 4194304) (ha : a < s.size) (hk : kd s a ≠ 3 ∧ kd s a ≠ 4 ∧ kd s a ≠ 5 ∧ kd s a ≠ 6 ∧ kd s a ≠ 7 ∧ kd s a ≠ 8 ∧ kd s a ≠ 9) :
    Calls Try.prog 23 #[.string s, .int .i64 (a : Int)] w (TAns w (badT 61 a)) := by
  have hkb := kd_byte ha
  have hsm := fun W => rsmall_any s[a].toNat W
  have hgr := fun W => rgreat_any s[a].toNat W
  have hdi := fun W => rdigit_any s[a].toNat W
  have hma := fun W => rmark_any s[a].toNat W
  rw [← hkb] at hsm hgr hdi hma
  have _hs := hs
  obtain ⟨k3, k4, k5, k6, k7, k8, k9⟩ := hk
  rw [decide_eq_false k3] at hsm
  rw [decide_eq_false k4] at hgr
  rw [decide_eq_false k5] at hdi
  rw [decide_eq_false k9] at hma
  have x39 : (((s[a].toNat : Nat) : Int) == 39) = false := beq_eq_false_iff_ne.2 (fun h => k7 (hkb.trans ((kb_7 _).2 (by omega))))
  have x45 : (((s[a].toNat : Nat) : Int) == 45) = false := beq_eq_false_iff_ne.2 (fun h => k6 (hkb.trans ((kb_6 _).2 (by omega))))
  have x58 : (((s[a].toNat : Nat) : Int) == 58) = false := beq_eq_false_iff_ne.2 (fun h => k8 (hkb.trans ((kb_8 _).2 (by omega))))
  clear k3 k4 k5 k6 k7 k8 k9
  clear hkb
  go_enter Try.func23, Try.ntmps23
  go_wp2_with (first
    | (go_at_call 33; refine (hsm _).mono ?_; rintro x w2 ⟨rfl, rfl⟩)
    | (go_at_call 35; refine (hgr _).mono ?_; rintro x w2 ⟨rfl, rfl⟩)
    | (go_at_call 37; refine (hdi _).mono ?_; clear hdi; rintro x w2 ⟨rfl, rfl⟩)
    | (go_at_call 39; refine (hma _).mono ?_; rintro x w2 ⟨rfl, rfl⟩)
    | (go_at_call 21; refine (at_eq _ _ _).mono ?_; rintro x w2 ⟨rfl, rfl⟩))
  all_goals
    refine bodyPost_ret (v := .tuple #[tokV tk0, flt 61 a]) (by simp [results, Try.results23, go_sem, flt, fltObj]) rfl ⟨rfl, ?_⟩
    repeat (first | exact Below.refl _ _ | refine Below.drew ?_ | refine Below.setCell ?_ (by first | (simp; done) | (simp; omega)) _ | refine Below.alloc ?_ (by first | (simp; done) | (simp; omega)) _)
set_option maxRecDepth 100000 in
set_option maxHeartbeats 2000000 in
theorem rtok_colon_yes {s : ByteArray} {a : Nat} {w : World} (hs : s.size ≤ 4194304) (ha : a < s.size) (hk : kd s a = 8) (h6 : kd s (a + 1) = 6) :
    Calls Try.prog 23 #[.string s, .int .i64 (a : Int)] w (TAns w (okT ⟨4, cutB s a (a + 2), 0, a, a + 2⟩)) := by
  have hkb := kd_byte ha
  have hsm := fun W => rsmall_any s[a].toNat W
  have hgr := fun W => rgreat_any s[a].toNat W
  have hdi := fun W => rdigit_any s[a].toNat W
  have hma := fun W => rmark_any s[a].toNat W
  rw [← hkb] at hsm hgr hdi hma
  rw [decide_eq_false (show ¬ kd s a = 3 by omega)] at hsm
  rw [decide_eq_false (show ¬ kd s a = 4 by omega)] at hgr
  rw [decide_eq_false (show ¬ kd s a = 5 by omega)] at hdi
  rw [decide_eq_false (show ¬ kd s a = 9 by omega)] at hma
  have ha1 : a + 1 < s.size := kd_lt (by omega)
  have x39 : (((s[a].toNat : Nat) : Int) == 39) = false := by
    rw [hkb] at hk
    exact beq_eq_false_iff_ne.2 (fun h => by rw [show s[a].toNat = 39 by omega] at hk; exact absurd hk (by decide))
  have x45 : (((s[a].toNat : Nat) : Int) == 45) = false := by
    rw [hkb] at hk
    exact beq_eq_false_iff_ne.2 (fun h => by rw [show s[a].toNat = 45 by omega] at hk; exact absurd hk (by decide))
  have x58 : (((s[a].toNat : Nat) : Int) == 58) = true := by
    rw [hkb] at hk
    rw [(kb_8 _).1 hk]
    rfl
  have y45 : (((s[a + 1].toNat : Nat) : Int) == 45) = true := by
    rw [kd_byte ha1] at h6
    rw [(kb_6 _).1 h6]
    rfl
  have hwr : IntKind.i64.wrap ((a : Int) + 2) = (a : Int) + 2 := by rw [IntKind.wrap_i64]; omega
  have b2 : (a : Int) + 2 ≤ (s.size : Int) := by omega
  have b1 : (0 : Int) ≤ (a : Int) + 2 := by omega
  have b3 : (a : Int) ≤ (a : Int) + 2 := by omega
  clear hk h6
  clear hkb
  go_enter Try.func23, Try.ntmps23
  go_wp2_with (first
    | (go_at_call 33; refine (hsm _).mono ?_; rintro x w2 ⟨rfl, rfl⟩)
    | (go_at_call 35; refine (hgr _).mono ?_; rintro x w2 ⟨rfl, rfl⟩)
    | (go_at_call 37; refine (hdi _).mono ?_; clear hdi; rintro x w2 ⟨rfl, rfl⟩)
    | (go_at_call 39; refine (hma _).mono ?_; rintro x w2 ⟨rfl, rfl⟩))
  go_region_law (go_simp; go_at_call 24; refine (no_eq _).mono ?_; rintro x wq ⟨rfl, hwq⟩; subst hwq)
  all_goals go_wp2
  all_goals
    refine bodyPost_ret (v := .tuple #[tokV ⟨4, cutB s a (a + 2), 0, a, a + 2⟩, flt 0 0]) (by simp [results, Try.results23, go_sem, flt, fltObj, cutB, show ((a : Int) + 2).toNat = a + 2 by omega]) rfl ⟨rfl, ?_⟩
    repeat (first | exact Below.refl _ _ | refine Below.drew ?_ | refine Below.setCell ?_ (by first | (simp; done) | (simp; omega)) _ | refine Below.alloc ?_ (by first | (simp; done) | (simp; omega)) _)
set_option maxRecDepth 100000 in
set_option maxHeartbeats 2000000 in
theorem rtok_colon_bad {s : ByteArray} {a : Nat} {w : World} (hs : s.size ≤ 4194304) (ha : a < s.size) (hk : kd s a = 8) (h6 : kd s (a + 1) ≠ 6) (ha1 : a + 1 < s.size) :
    Calls Try.prog 23 #[.string s, .int .i64 (a : Int)] w (TAns w (badT 61 a)) := by
  have hkb := kd_byte ha
  have hsm := fun W => rsmall_any s[a].toNat W
  have hgr := fun W => rgreat_any s[a].toNat W
  have hdi := fun W => rdigit_any s[a].toNat W
  have hma := fun W => rmark_any s[a].toNat W
  rw [← hkb] at hsm hgr hdi hma
  rw [decide_eq_false (show ¬ kd s a = 3 by omega)] at hsm
  rw [decide_eq_false (show ¬ kd s a = 4 by omega)] at hgr
  rw [decide_eq_false (show ¬ kd s a = 5 by omega)] at hdi
  rw [decide_eq_false (show ¬ kd s a = 9 by omega)] at hma
  have x39 : (((s[a].toNat : Nat) : Int) == 39) = false := by
    rw [hkb] at hk
    exact beq_eq_false_iff_ne.2 (fun h => by rw [show s[a].toNat = 39 by omega] at hk; exact absurd hk (by decide))
  have x45 : (((s[a].toNat : Nat) : Int) == 45) = false := by
    rw [hkb] at hk
    exact beq_eq_false_iff_ne.2 (fun h => by rw [show s[a].toNat = 45 by omega] at hk; exact absurd hk (by decide))
  have x58 : (((s[a].toNat : Nat) : Int) == 58) = true := by
    rw [hkb] at hk
    rw [(kb_8 _).1 hk]
    rfl
  have y45 : (((s[a + 1].toNat : Nat) : Int) == 45) = false := beq_eq_false_iff_ne.2 (fun h => h6 ((kd_byte ha1).trans ((kb_6 _).2 (by omega))))
  clear hk h6
  clear hkb
  go_enter Try.func23, Try.ntmps23
  go_wp2_with (first
    | (go_at_call 33; refine (hsm _).mono ?_; rintro x w2 ⟨rfl, rfl⟩)
    | (go_at_call 35; refine (hgr _).mono ?_; rintro x w2 ⟨rfl, rfl⟩)
    | (go_at_call 37; refine (hdi _).mono ?_; clear hdi; rintro x w2 ⟨rfl, rfl⟩)
    | (go_at_call 39; refine (hma _).mono ?_; rintro x w2 ⟨rfl, rfl⟩)
    | (go_at_call 21; refine (at_eq _ _ _).mono ?_; rintro x w2 ⟨rfl, rfl⟩))
  all_goals
    refine bodyPost_ret (v := .tuple #[tokV tk0, flt 61 a]) (by simp [results, Try.results23, go_sem, flt, fltObj]) rfl ⟨rfl, ?_⟩
    repeat (first | exact Below.refl _ _ | refine Below.drew ?_ | refine Below.setCell ?_ (by first | (simp; done) | (simp; omega)) _ | refine Below.alloc ?_ (by first | (simp; done) | (simp; omega)) _)
set_option maxRecDepth 100000 in
set_option maxHeartbeats 2000000 in
theorem rtok_colon_last {s : ByteArray} {a : Nat} {w : World} (hs : s.size ≤ 4194304) (ha : a < s.size) (hk : kd s a = 8) (ha1 : ¬ a + 1 < s.size) :
    Calls Try.prog 23 #[.string s, .int .i64 (a : Int)] w (TAns w (badT 61 a)) := by
  have hkb := kd_byte ha
  have hsm := fun W => rsmall_any s[a].toNat W
  have hgr := fun W => rgreat_any s[a].toNat W
  have hdi := fun W => rdigit_any s[a].toNat W
  have hma := fun W => rmark_any s[a].toNat W
  rw [← hkb] at hsm hgr hdi hma
  rw [decide_eq_false (show ¬ kd s a = 3 by omega)] at hsm
  rw [decide_eq_false (show ¬ kd s a = 4 by omega)] at hgr
  rw [decide_eq_false (show ¬ kd s a = 5 by omega)] at hdi
  rw [decide_eq_false (show ¬ kd s a = 9 by omega)] at hma
  have x39 : (((s[a].toNat : Nat) : Int) == 39) = false := by
    rw [hkb] at hk
    exact beq_eq_false_iff_ne.2 (fun h => by rw [show s[a].toNat = 39 by omega] at hk; exact absurd hk (by decide))
  have x45 : (((s[a].toNat : Nat) : Int) == 45) = false := by
    rw [hkb] at hk
    exact beq_eq_false_iff_ne.2 (fun h => by rw [show s[a].toNat = 45 by omega] at hk; exact absurd hk (by decide))
  have x58 : (((s[a].toNat : Nat) : Int) == 58) = true := by
    rw [hkb] at hk
    rw [(kb_8 _).1 hk]
    rfl
  have hd : decide ((a : Int) + 1 < (s.size : Int)) = false := decide_eq_false (by omega)
  clear hk ha1
  clear hkb
  go_enter Try.func23, Try.ntmps23
  go_wp2_with (first
    | (go_at_call 33; refine (hsm _).mono ?_; rintro x w2 ⟨rfl, rfl⟩)
    | (go_at_call 35; refine (hgr _).mono ?_; rintro x w2 ⟨rfl, rfl⟩)
    | (go_at_call 37; refine (hdi _).mono ?_; clear hdi; rintro x w2 ⟨rfl, rfl⟩)
    | (go_at_call 39; refine (hma _).mono ?_; rintro x w2 ⟨rfl, rfl⟩)
    | (go_at_call 21; refine (at_eq _ _ _).mono ?_; rintro x w2 ⟨rfl, rfl⟩))
  all_goals
    refine bodyPost_ret (v := .tuple #[tokV tk0, flt 61 a]) (by simp [results, Try.results23, go_sem, flt, fltObj]) rfl ⟨rfl, ?_⟩
    repeat (first | exact Below.refl _ _ | refine Below.drew ?_ | refine Below.setCell ?_ (by first | (simp; done) | (simp; omega)) _ | refine Below.alloc ?_ (by first | (simp; done) | (simp; omega)) _)
end Go.Proofs.Ytanjgppdjdcnaaa

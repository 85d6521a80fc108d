/- What Fill of package arena does at every argument. -/
import Derived.Test.YtmpnniabgkhkjaaArAlloc
namespace Go.Proofs.Ytmpnniabgkhkjaa
open Go.RowKit

section
variable {w : World} {B p : Nat} {m : Int} {v : Value} {l : List Int}
set_option maxHeartbeats 400000 in
theorem fill_full {u : Value} {l' : List Int} (h : Ar 64 w B p m v l) (hu : Rd w u l') (hf : m < (l'.length : Int)) :
    Calls Try.prog 21 #[.pointer (some ⟨p, 0, none⟩), u] w fun e w' => e = .returned (.iface 66 (.pointer (some ⟨w.heap.size, 0, none⟩))) ∧ w' = w.alloc (faultAtObj 22 l'.length) := by
  have c0 := h.c0
  obtain ⟨ao, c, rfl⟩ := hu.shape
  go_enter Try.func21, Try.ntmps21
  go_wp2_with (go_at_call 26; refine (afault_any _ _ _).mono ?_; rintro e w' ⟨rfl, rfl⟩)
  go_ret
  exact ⟨rfl, rfl⟩
set_option maxHeartbeats 400000 in
theorem fill_bad {u : Value} {l' : List Int} (h : Ar 64 w B p m v l) (hu : Rd w u l') (hf : (l'.length : Int) ≤ m) {n : Nat} (hm : FirstBad l' l'.length n) :
    Calls Try.prog 21 #[.pointer (some ⟨p, 0, none⟩), u] w fun e w' => e = .returned (.iface 66 (.pointer (some ⟨w.heap.size, 0, none⟩))) ∧ w' = w.alloc (faultAtObj 24 n) := by
  have c0 := h.c0
  have hl : l'.length ≤ 4611686018427387904 := by have := h.m2; omega
  have hf' : ¬ m < (l'.length : Int) := by omega
  obtain ⟨ao, c, rfl⟩ := hu.shape
  go_enter Try.func21, Try.ntmps21
  go_wp2_with (go_at_call 37; refine (check_bad hu hl hm).mono ?_; rintro e w' ⟨rfl, rfl⟩)
  go_ret
  exact ⟨rfl, rfl⟩
/-- The row behind 'append(a.words[:0], words...)', stored into the field. -/
theorem fill_upd {T : TypeId} {w1 : World} {l' : List Int} {v0 v' : Value} (h : Ar T w B p m v l) (hv0 : v0.ownBlock = v.ownBlock) (hg : w.grownBy w1 v0.ownBlock) (ho : w1.ownsRow B 38 1 v' l'.length (l'.map (Value.int .u64)))
    (hat : v'.ownBlock = v0.ownBlock ∨ v'.ownBlock = some w.heap.size) (hl : (l'.length : Int) ≤ m) (hr : ∀ x ∈ l', 0 ≤ x ∧ x ≤ 18446744073709551615) : Upd T w (w1.setCell ⟨p, 1, none⟩ v') B p m v l' v' := by
  have hm : Mod (foot p v) w w1 := (Mod.refl (foot p v) w).grown hg (fun k e => Or.inl (mem_foot.2 (Or.inr (hv0 ▸ e))))
  refine Upd.push h hm (hg.block p h.lt (fun e => (h.row (hv0 ▸ e.symm)).2.2 rfl)) ho (fun k e => ?_) hl hr
  rcases hat with h1 | h1
  · exact Or.inl (by rw [← hv0, ← h1]; exact e)
  · rw [h1] at e; exact Or.inr (by simp at e; omega)
theorem fill_field {w1 : World} {r : Option Nat} {p : Nat} {v : Value} (h : w.grownBy w1 r) (hp : p < w.heap.size) (hne : r ≠ some p) (hc : w.cell? ⟨p, 1, none⟩ = some v) (hf : w.frozen? ⟨p, 1, none⟩ = false) :
    w1.cell? ⟨p, 1, none⟩ = some v ∧ w1.frozen? ⟨p, 1, none⟩ = false := by
  have hb := h.block p hp (Ne.symm hne)
  exact ⟨(World.cell?_of_block (w := w) (a := ⟨p, 1, none⟩) hb).trans hc, (World.frozen?_of_block (w := w) (a := ⟨p, 1, none⟩) hb).trans hf⟩
set_option maxRecDepth 100000 in
set_option maxHeartbeats 1600000 in
theorem fill_ok {u : Value} {l' : List Int} (h : Ar 64 w B p m v l) (hB : B ≤ w.heap.size) (hu : Rd w u l') (hf : (l'.length : Int) ≤ m) (hm : AllMay l' l'.length) :
    Calls Try.prog 21 #[.pointer (some ⟨p, 0, none⟩), u] w fun e w' => ∃ v', e = .returned .nilIface ∧ Upd 64 w w' B p m v l' v' := by
  obtain ⟨i0, hi, hz0, hz1, hz2⟩ := info_parts Try.infoU
  have c0 := h.c0
  have c1 := h.c1
  have f1 := h.f1
  have hp := h.lt
  have hmm := h.m2
  have hl : l'.length ≤ 4611686018427387904 := by omega
  have hf' : ¬ m < (l'.length : Int) := by omega
  have hne : v.ownBlock ≠ some p := fun e => (h.row e).2.2 rfl
  obtain ⟨v0, hv0, hov, hown0⟩ : ∃ v0, (v0 = .slice none 0 0 ∧ v = .slice none 0 0 ∨ ∃ g n cap, v0 = .slice (some ⟨g, 0, none⟩) 0 cap ∧ v = .slice (some ⟨g, 0, none⟩) n cap ∧ cap ≤ 9223372036854775807) ∧ v0.ownBlock = v.ownBlock ∧ w.ownsRow B 38 1 v0 0 [] := by
    rcases h.own.2 with ⟨rfl, hn⟩ | ⟨g, cap, cur, rfl, hb, hg, hc, hm, _⟩
    · exact ⟨_, Or.inl ⟨rfl, rfl⟩, rfl, World.ownsRow_nil _ _ _ _⟩
    · exact ⟨_, Or.inr ⟨g, _, cap, rfl, rfl, by simpa [maxLen] using hm⟩, rfl, by simpa using own_take h.own (Nat.zero_le _)⟩
  have hne0 : v0.ownBlock ≠ some p := by rw [hov]; exact hne
  have HM : Hid (AllMay l' l'.length) := hm
  clear hm
  have hul := hu.1
  have hurd := hu
  have HF : ∀ (v' : Value) (w1 : World), Hid (w1.ownsRow B 38 1 v' l'.length (l'.map (Value.int .u64)) → w.grownBy w1 v0.ownBlock → (v'.ownBlock = v0.ownBlock ∨ v'.ownBlock = some w.heap.size) → Upd 64 w (w1.setCell ⟨p, 1, none⟩ v') B p m v l' v') :=
    fun v' w1 ho hg hat => fill_upd h hov hg ho hat hf hul
  rcases hu.src with ⟨rfl, rfl⟩ | ⟨ad, c, rfl, hnews⟩
  · have HF0 : Hid (Upd 64 w (w.setCell ⟨p, 1, none⟩ v0) B p m v [] v0) := (HF v0 w).out (by simpa using hown0) (World.grownBy.refl _ _) (Or.inl rfl)
    clear HF
    rcases hv0 with ⟨rfl, rfl⟩ | ⟨g, n, cap, rfl, rfl, hcap⟩
    all_goals
      go_enter Try.func21, Try.ntmps21
      go_wp2_with (first
        | (go_at_call 37; refine (check_all hurd hl HM.out).mono ?_; rintro e w ⟨rfl, rfl⟩)
        | (at_builtin; refine wpList_append_own_none rfl _ _ 29 rfl B 38 i0 1 Try.underlying29 hi _ 0 [] rfl hown0 rfl ?_))
      go_ret
      first | exact ⟨_, rfl, HF0.out⟩ | exact ⟨rfl, _, HF0.out⟩
  · have HN : Hid (∀ j u, (l'.map (Value.int .u64))[j]? = some u → w.cell? (ad.add j) = some u) := hnews
    clear hnews
    rcases hv0 with ⟨rfl, rfl⟩ | ⟨g, n, cap, rfl, rfl, hcap⟩
    all_goals
      go_enter Try.func21, Try.ntmps21
      go_wp2_with (first
        | (go_at_call 37; refine (check_all hurd hl HM.out).mono ?_; rintro e w ⟨rfl, rfl⟩)
        | (at_builtin; refine wpList_append_own_at w rfl _ _ 29 rfl B 38 i0 (.int .u64 0) 1 8 Try.underlying29 hi hz0 hz1 hz2 rfl (by decide) _ 0 [] rfl hown0 ad l'.length c (l'.map (Value.int .u64)) rfl (by simp) HN.out (words_one l') (by unfold maxLen; omega) (by omega) hB ?_; intro v' w1 hown1 hgrow _ hat; obtain ⟨hc1, hf1⟩ := fill_field hgrow hp hne0 c1 f1; simp only [Nat.zero_add, List.nil_append] at hown1; have HR := (HF v' w1).out hown1 hgrow hat; have HR' : Hid (Upd 64 w (w1.setCell ⟨p, 1, none⟩ v') B p m _ l' v') := HR; clear HR; rcases hown1.2 with ⟨rfl, _⟩ | ⟨g', cap', cur', rfl, _⟩))
      all_goals
        go_ret
        first | exact ⟨_, rfl, HR'.out⟩ | exact ⟨rfl, _, HR'.out⟩
end
end Go.Proofs.Ytmpnniabgkhkjaa

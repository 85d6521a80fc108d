/- What BisimStable asks: nodes labelled alike, with arguments of one class, are of one class. -/
import Derived.Test.YtfgpfcjepnfenaaBiCls
import Derived.Test.YtfgpfcjepnfenaaGrSmall
import Derived.Deep.CutRange
namespace Go.Proofs.Ytfgpfcjepnfenaa
open Go.RowKit

/-- Are two nodes labelled alike, as layer 5's statements ask it? -/
def ndL (a b : Nd) : Bool := decide (a.kind = b.kind) && decide (a.name.toList = b.name.toList) && decide (a.num = b.num) && decide (a.args.length = b.args.length)
theorem str_eq {a b : ByteArray} (h : a.toList = b.toList) : a = b := by
  rw [ByteArray.toList_eq, ByteArray.toList_eq] at h
  cases a
  cases b
  simp at h
  rw [h]
set_option maxRecDepth 100000 in
set_option maxHeartbeats 1000000 in
theorem lal_any (a b : Nd) (aa ba : Option Addr) (ac bc : Nat) (w : World) (ha : a.args.length ≤ 5000) (hb : b.args.length ≤ 5000) :
    Calls Try.prog 29 #[.agg #[.int .i64 a.kind, .string a.name, .int .i64 a.num, .slice aa a.args.length ac], .agg #[.int .i64 b.kind, .string b.name, .int .i64 b.num, .slice ba b.args.length bc]] w fun e w' => e = .returned (.bool (ndL a b)) ∧ Below w.heap.size w w' := by
  obtain ⟨ak, ah, an, al⟩ := a
  obtain ⟨bk, bh, bn, bl⟩ := b
  dsimp only at ha hb ⊢
  have hE := hid (show ndL ⟨ak, ah, an, al⟩ ⟨bk, bh, bn, bl⟩ = (decide (ak = bk) && decide (ah.toList = bh.toList) && decide (an = bn) && decide (al.length = bl.length)) from rfl)
  generalize ndL ⟨ak, ah, an, al⟩ ⟨bk, bh, bn, bl⟩ = R at hE ⊢
  have hbb : ∀ o1 o2 : Obj, Below w.heap.size w ((w.alloc o1).alloc o2) := fun o1 o2 => (below_alloc w _).alloc (by simp) _
  by_cases h1 : ak = bk
  · by_cases h2 : ah.toList = bh.toList
    · by_cases h3 : an = bn
      · by_cases h4 : al.length = bl.length
        · have hR := hid (show R = true by rw [hE.out]; simp [h1, h2, h3, h4])
          have h2' := str_eq h2
          subst h1 h3 h2'
          generalize al.length = n at *
          subst h4
          clear hE h2
          go_enter Try.func29, Try.ntmps29
          go_wp2
          go_ret
          exact ⟨ret_bool hR.out.symm, hbb _ _⟩
        · have hR := hid (show R = false by rw [hE.out]; simp [h4])
          have h2' := str_eq h2
          subst h1 h3 h2'
          have h4' : ¬ (al.length : Int) = (bl.length : Int) := by omega
          clear hE h2
          go_enter Try.func29, Try.ntmps29
          go_wp2
          go_ret
          exact ⟨ret_bool (by rw [hR.out]; simpa using h4'), hbb _ _⟩
      · have hR := hid (show R = false by rw [hE.out]; simp [h3])
        have h2' := str_eq h2
        subst h1 h2'
        have h3' : (an == bn) = false := by simpa using h3
        clear hE h2
        go_enter Try.func29, Try.ntmps29
        go_wp2
        go_ret
        exact ⟨ret_bool hR.out.symm, hbb _ _⟩
    · have hR := hid (show R = false by rw [hE.out]; simp [h2])
      subst h1
      have h2' : (ah.toList == bh.toList) = false := by simpa using h2
      clear hE
      go_enter Try.func29, Try.ntmps29
      go_wp2
      go_ret
      exact ⟨ret_bool hR.out.symm, hbb _ _⟩
  · have hR := hid (show R = false by rw [hE.out]; simp [h1])
    have h1' : (ak == bk) = false := by simpa using h1
    clear hE
    go_enter Try.func29, Try.ntmps29
    go_wp2
    go_ret
    exact ⟨ret_bool hR.out.symm, hbb _ _⟩
/-- Nodes labelled alike whose arguments unfold alike do so too. -/
theorem al_of_args {g : Gf} {i j : Int} (hi : isN g i) (hj : isN g j) (hl : labE g i j) (ha : ∀ k, k < (g.nd i).args.length → Al g (g.arg i k) (g.arg j k)) : Al g i j := by
  refine ⟨fun a b => Al g a b ∨ (a = i ∧ b = j), fun a b hab => ?_, Or.inr ⟨rfl, rfl⟩⟩
  rcases hab with h | ⟨rfl, rfl⟩
  · obtain ⟨h1, h2, h3, h4⟩ := al_sim g a b h
    exact ⟨h1, h2, h3, fun k hk => Or.inl (h4 k hk)⟩
  · exact ⟨hi, hj, hl, fun k hk => Or.inl (ha k hk)⟩
theorem labE_of {g : Gf} {i j : Nat} (h : ndL (g.nodes.getD i nd0) (g.nodes.getD j nd0) = true) (hk : (g.nodes.getD i nd0).kind ≠ 1) : labE g (i : Int) (j : Int) := by
  simp only [ndL, Bool.and_eq_true, decide_eq_true_eq] at h
  obtain ⟨⟨⟨h1, h2⟩, h3⟩, h4⟩ := h
  exact ⟨h1, str_eq h2, h3, h4, fun e => absurd e hk⟩
end Go.Proofs.Ytfgpfcjepnfenaa

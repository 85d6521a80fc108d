/- Package cells: the words of a node. -/
import Derived.Deep.RegionHeld3
import Derived.Test.YtlibjdilicfcdaaGreatDoornb21Z
import Derived.Test.YtlibjdilicfcdaaGreatDoornb11Z
import Derived.Test.YtlibjdilicfcdaaGreatDoornb22Z
import Derived.Test.YtlibjdilicfcdaaGreatDoornb13Z
import Derived.Test.YtlibjdilicfcdaaGreatDoornb05Z
namespace Go.Proofs.YtlibjdilicfcdaaGreatDoor
set_option maxRecDepth 100000
open Go.RowKit
theorem fun_fitsC (a k : Int) (h : funB a k = true) : fitsB 4 (a * 16 + k) = true ∧ 0 ≤ a ∧ a < 1024 ∧ 1 ≤ k ∧ k ≤ 8 := by
  simp [funB] at h
  refine ⟨?_, h⟩
  simp [fitsB]; omega
set_option maxHeartbeats 400000 in
theorem fun_okC (a k : Int) (w : World) (h : funB a k = true) :
    Calls Tryz.prog 129 #[.int .i64 a, .int .i64 k] w fun e w' => e = .returned (.tuple #[.int .u64 (wordOf 4 (a * 16 + k)), .nilIface]) ∧ w' = w := by
  obtain ⟨hf, hb⟩ := fun_fitsC a k h
  go_enter Tryz.func129, Tryz.ntmps129
  go_wp2_with (first | (go_at_call 152; refine (isFunctor_any _ _ _).mono ?_; rintro e w' ⟨rfl, rfl⟩) | (go_at_call 125; refine (pack_ok _ _ _ hf).mono ?_; rintro e w' ⟨rfl, rfl⟩))
  go_ret2
  exact ⟨rfl, rfl⟩
def cwF (ns : List ByteArray) (nd : Nd) (pl : Nat) : Int := if nd.kind = 2 then wordOf 1 (num ns nd.name : Int) else if nd.kind = 3 then wordOf 2 nd.num else if nd.kind = 4 then wordOf 3 pl else wordOf 0 pl
theorem num_1024 {ns : List ByteArray} {s : ByteArray} (h : ns.length ≤ 1024) : num ns s < 1024 := by
  by_cases hi : inL ns s = true
  · have := num_lt hi
    omega
  · unfold num
    rw [if_neg hi]
    omega
section
variable {w : World} {B hb ab tb : Nat} {m : Int} {av : Value} {l : List Int} {tv : Value} {tq : Nat} {ns : List ByteArray} {trv ptv : Value} {n : Int}
set_option maxHeartbeats 4000000 in
theorem ccell_any (h : Hp w B hb ab tb m av l tv tq ns trv ptv n) (nd : Nd) (ao : Option Addr) (k c : Nat) (hs : nd.name.size ≤ 281474976710656) (h3 : nd.kind = 3 → fitsB 2 nd.num = true) (pl : Nat) (hp : nd.kind ≠ 2 → nd.kind ≠ 3 → pl < 65536) :
    Calls Tryz.prog 95 #[.pointer (some ⟨hb, 0, none⟩), .agg #[.int .i64 nd.kind, .string nd.name, .int .i64 nd.num, .slice ao k c], .int .i64 (pl : Int)] w fun e w' => e = .returned (.int .u64 (cwF ns nd pl)) ∧ Below w.heap.size w w' := by
  obtain ⟨kd, nm, nu, args⟩ := nd
  dsimp only at hs h3 hp ⊢
  have hR : Hid (cwF ns ⟨kd, nm, nu, args⟩ pl = if kd = 2 then wordOf 1 (num ns nm : Int) else if kd = 3 then wordOf 2 nu else if kd = 4 then wordOf 3 pl else wordOf 0 pl) := rfl
  generalize cwF ns ⟨kd, nm, nu, args⟩ pl = R at *
  have hb0 := hid (below_alloc w (.cells #[.int .i64 kd, .string nm, .int .i64 nu, .slice ao k c] 58))
  by_cases k2 : kd = 2
  · have hR1 : Hid (R = wordOf 1 (num ns nm : Int)) := show _ = _ by rw [hR.out, if_pos k2]
    have h1 := h.below hb0.out
    obtain ⟨⟨c0, c1, _⟩, c5⟩ := h1.cells
    have hnu := hid (fun w1 (hbb : Below (w.alloc (.cells #[.int .i64 kd, .string nm, .int .i64 nu, .slice ao k c] 58)).heap.size (w.alloc (.cells #[.int .i64 kd, .string nm, .int .i64 nu, .slice ao k c] 58)) w1) => number_tab (h1.below hbb).tb nm hs)
    have hpk := hid (fun w1 => packed_ok 1 (num ns nm : Int) w1 (by have := num_1024 (s := nm) h.tb.len; simp [fitsB]; omega))
    subst k2
    generalize num ns nm = N at *
    clear hR h h1 h3
    generalize wordOf 1 (N : Int) = X at *
    go_enter Tryz.func95, Tryz.ntmps95
    go_wp2
    go_region_with (first
      | (go_at_call 128; refine (hnu.out _ ?_).mono ?_; exact (Below.refl _ _).drew; rintro e w3 ⟨rfl, hb3⟩; have Hb3 := hid (Below.next hb0.out (Below.next (Below.refl _ _).drew hb3)); clear hb3)
      | (go_at_call 127; refine (hpk.out _).mono ?_; rintro e w2 ⟨rfl, hw⟩; replace hw := hw.symm; subst hw))
    all_goals go_wp2
    all_goals go_ret
    all_goals exact ⟨ret_int hR1.out.symm, Hb3.out⟩
  · have d2 : (kd == 2) = false := by simpa using k2
    by_cases k3 : kd = 3
    · have hR1 : Hid (R = wordOf 2 nu) := show _ = _ by rw [hR.out, if_neg k2, if_pos k3]
      have hpk := hid (fun w1 => packed_ok 2 nu w1 (h3 k3))
      subst k3
      clear hR h h3 k2
      generalize wordOf 2 nu = X at *
      go_enter Tryz.func95, Tryz.ntmps95
      go_wp2_with (go_at_call 127; refine (hpk.out _).mono ?_; rintro e w2 ⟨rfl, hw⟩; replace hw := hw.symm; subst hw)
      go_ret
      exact ⟨ret_int hR1.out.symm, hb0.out⟩
    · have d3 : (kd == 3) = false := by simpa using k3
      by_cases k4 : kd = 4
      · have hR1 : Hid (R = wordOf 3 pl) := show _ = _ by rw [hR.out, if_neg k2, if_neg k3, if_pos k4]
        have hpk := hid (fun w1 => packed_ok 3 (pl : Int) w1 (fits_str (hp k2 k3)))
        subst k4
        clear hR h h3 k2 k3
        generalize wordOf 3 (pl : Int) = X at *
        go_enter Tryz.func95, Tryz.ntmps95
        go_wp2_with (go_at_call 127; refine (hpk.out _).mono ?_; rintro e w2 ⟨rfl, hw⟩; replace hw := hw.symm; subst hw)
        go_ret
        exact ⟨ret_int hR1.out.symm, hb0.out⟩
      · have hR1 : Hid (R = wordOf 0 pl) := show _ = _ by rw [hR.out, if_neg k2, if_neg k3, if_neg k4]
        have d4 : (kd == 4) = false := by simpa using k4
        have hpk := hid (fun w1 => packed_ok 0 (pl : Int) w1 (by have := hp k2 k3; simp [fitsB]; omega))
        clear hR h h3 k2 k3 k4
        generalize wordOf 0 (pl : Int) = X at *
        go_enter Tryz.func95, Tryz.ntmps95
        go_wp2_with (go_at_call 127; refine (hpk.out _).mono ?_; rintro e w2 ⟨rfl, hw⟩; replace hw := hw.symm; subst hw)
        go_ret
        exact ⟨ret_int hR1.out.symm, hb0.out⟩
theorem nblk4 {w : World} {b : Nat} {u0 u1 u2 u3 : Value} {T : TypeId} (h : w.heap[b]? = some (.cells #[u0, u1, u2, u3] T)) : (w.cell? ⟨b, 0, none⟩ = some u0 ∧ w.cell? ⟨b, 1, none⟩ = some u1 ∧ w.cell? ⟨b, 2, none⟩ = some u2 ∧ w.cell? ⟨b, 3, none⟩ = some u3) ∧ b < w.heap.size := by
  refine ⟨⟨?_, ?_, ?_, ?_⟩, lt_of_block h⟩ <;> simp [World.cell?, h]
def fwF (ns : List ByteArray) (nd : Nd) : Int := wordOf 4 ((num ns nd.name : Int) * 16 + (nd.args.length : Int))
set_option maxHeartbeats 4000000 in
theorem functor_any (h : Hp w B hb ab tb m av l tv tq ns trv ptv n) (nd : Nd) (ao : Option Addr) (c : Nat) (hs : nd.name.size ≤ 281474976710656) (h1 : 1 ≤ nd.args.length) (h8 : nd.args.length ≤ 8) :
    Calls Tryz.prog 96 #[.pointer (some ⟨hb, 0, none⟩), .agg #[.int .i64 nd.kind, .string nd.name, .int .i64 nd.num, .slice ao nd.args.length c]] w fun e w' => e = .returned (.int .u64 (fwF ns nd)) ∧ Below w.heap.size w w' := by
  obtain ⟨kd, nm, nu, args⟩ := nd
  dsimp only at hs h1 h8 ⊢
  have hb0 := hid (below_alloc w (.cells #[.int .i64 kd, .string nm, .int .i64 nu, .slice ao args.length c] 58))
  have hh1 := h.below hb0.out
  obtain ⟨⟨c0, c1, _⟩, c5⟩ := hh1.cells
  have hnu := hid (fun w1 (hbb : Below (w.alloc (.cells #[.int .i64 kd, .string nm, .int .i64 nu, .slice ao args.length c] 58)).heap.size (w.alloc (.cells #[.int .i64 kd, .string nm, .int .i64 nu, .slice ao args.length c] 58)) w1) => number_tab (hh1.below hbb).tb nm hs)
  have hfn := hid (fun w1 => fun_okC (num ns nm : Int) (args.length : Int) w1 (by have := num_1024 (s := nm) h.tb.len; simp [funB]; omega))
  have hR : Hid (fwF ns ⟨kd, nm, nu, args⟩ = wordOf 4 ((num ns nm : Int) * 16 + (args.length : Int))) := rfl
  generalize fwF ns ⟨kd, nm, nu, args⟩ = R at *
  generalize num ns nm = N at *
  generalize wordOf 4 ((N : Int) * 16 + (args.length : Int)) = X at *
  have z0 : w.heap.size < (w.alloc (.cells #[.int .i64 kd, .string nm, .int .i64 nu, .slice ao args.length c] 58)).heap.size := by simp
  clear h hh1
  go_enter Tryz.func96, Tryz.ntmps96
  go_wp2
  have bx := heap_alloc_new w (.cells #[.int .i64 kd, .string nm, .int .i64 nu, .slice ao args.length c] 58)
  obtain ⟨⟨n0, n1, n2, n3⟩, _⟩ := nblk4 bx
  have HX := hid bx
  clear bx n0 n2
  go_region_held3 (fun w' => w'.cell? ⟨hb, 1, none⟩ = some (.pointer (some ⟨tb, 0, none⟩)) ∧ w'.cell? ⟨w.heap.size, 1, none⟩ = some (.string nm) ∧ w'.cell? ⟨w.heap.size, 3, none⟩ = some (.slice ao args.length c)) (first | exact ⟨c1, n1, n3⟩ | go_keep)
    (first
      | (go_at_call 128; refine (hnu.out _ ?_).mono ?_; exact (Below.refl _ _).drew; rintro e w3 ⟨rfl, hb3⟩; have hb4 := Below.next (Below.refl _ _).drew hb3; have Hb3 := hid (Below.next hb0.out hb4); replace c1 := (hb4.cell (p := ⟨hb, 1, none⟩) c5).trans c1; replace n1 := (hb4.cell (p := ⟨w.heap.size, 1, none⟩) z0).trans n1; replace n3 := (hb4.cell (p := ⟨w.heap.size, 3, none⟩) z0).trans n3; clear hb3 hb4)
      | (go_at_call 129; refine (hfn.out _).mono ?_; rintro e w2 ⟨rfl, hw⟩; replace hw := hw.symm; subst hw))
  all_goals go_wp2
  all_goals go_ret
  all_goals exact ⟨ret_int hR.out.symm, Hb3.out⟩
end
end Go.Proofs.YtlibjdilicfcdaaGreatDoor

namespace Go.Proofs.YtlibjdilicfcdaaGreatDoor
set_option maxRecDepth 100000
open Go.RowKit
theorem mod_an {ks : List Nat} {w w' : World} (h : a_Mod ks w w') : n_Mod ks w w' := ⟨h.os, h.tape, h.output, h.size, h.block⟩
section
variable {w w' : World} {B hb ab tb : Nat} {m : Int} {av : Value} {l : List Int} {tv : Value} {tq : Nat} {ns : List ByteArray} {trv ptv : Value} {n : Int}
theorem Hp.apart (h : Hp w B hb ab tb m av l tv tq ns trv ptv n) {k : Nat} (hk : k ∈ a_foot ab av) : k ≠ hb ∧ k ∉ n_foot tb tv tq := by
  have hT : ∃ cs T, w.heap[k]? = some (.cells cs T (0, 0)) ∧ (T = 159 ∨ T = 123) := by
    rcases a_mem_foot.1 hk with rfl | hk
    · exact ⟨_, _, h.ar.blk, Or.inl rfl⟩
    · obtain ⟨cur, hc, _⟩ := own_block_obj h.ar.own hk
      exact ⟨cur, _, hc, Or.inr rfl⟩
  obtain ⟨cs, T, hw, hTT⟩ := hT
  refine ⟨fun e => ?_, fun hf => ?_⟩
  · subst e
    have hq := h.blk
    rw [hw] at hq
    injection hq with hq
    injection hq with _ hq
    rcases hTT with rfl | rfl <;> exact absurd hq (by decide)
  · rcases n_mem_foot.1 hf with e | e | e
    · subst e
      have hq := h.tb.blk
      rw [hw] at hq
      injection hq with hq
      injection hq with _ hq
      rcases hTT with rfl | rfl <;> exact absurd hq (by decide)
    · subst e
      obtain ⟨D, ⟨es, clock, hq, _⟩, _⟩ := h.tb.map
      rw [hw] at hq
      simp at hq
    · obtain ⟨cur, hc, _⟩ := own_block_obj h.tb.own e
      rw [hw] at hc
      injection hc with hc
      injection hc with _ hc
      rcases hTT with rfl | rfl <;> exact absurd hc (by decide)
theorem Hp.words {av' : Value} {l' : List Int} (h : Hp w B hb ab tb m av l tv tq ns trv ptv n) (u : a_Upd 159 w w' B ab m av l' av') : Hp w' B hb ab tb m av' l' tv tq ns trv ptv n :=
  ⟨(u.mod.block hb (lt_of_block h.blk) (fun hk => (h.apart hk).1 rfl)).trans h.blk, h.base, u.ar, h.tb.keep (mod_an u.mod) (fun _ hk => (h.apart hk).2)⟩
end
section
variable {w : World} {B p : Nat} {m : Int} {v : Value} {l : List Int}
set_option maxHeartbeats 1000000 in
theorem blay_ok (h : Ar 159 w B p m v l) (k : Nat) (x : Int) (hk : k < l.length) (x0 : 0 ≤ x) (x1 : x ≤ 18446744073709551615) (hm : mayB x l.length = true) :
    Calls Tryz.prog 94 #[blkV p, .int .i64 (k : Int), .int .u64 x] w fun e w' => e = .returned (.tuple #[]) ∧ a_Upd 159 w w' B p m v (l.set k x) v := by
  have hb := hid (below_alloc w (.cells #[.pointer (some ⟨p, 0, none⟩)] 73))
  have hst := hid (store_ok (h.below hb.out) k x hk x0 x1 hm)
  have hu0 := hid (a_Upd.same h hb.out)
  clear h
  go_enter Tryz.func94, Tryz.ntmps94
  go_wp2_with (go_at_call 126; refine hst.out.mono ?_; rintro e w1 ⟨rfl, hu⟩; have Hu := hid hu; clear hu)
  go_end0
  exact ⟨rfl, hu0.out.trans Hu.out⟩
end
end Go.Proofs.YtlibjdilicfcdaaGreatDoor

namespace Go.Proofs.YtlibjdilicfcdaaGreatDoor
set_option maxRecDepth 100000
open Go.RowKit
theorem cblk2 {w : World} {q : Nat} {u0 u1 : Value} {T : TypeId} (h : w.heap[q]? = some (.cells #[u0, u1] T)) : (w.cell? ⟨q, 0, none⟩ = some u0 ∧ w.cell? ⟨q, 1, none⟩ = some u1) ∧ w.frozen? ⟨q, 0, none⟩ = false ∧ w.frozen? ⟨q, 1, none⟩ = false := by
  refine ⟨⟨?_, ?_⟩, ?_, ?_⟩ <;> simp [World.cell?, World.frozen?, h]
theorem gr_nd {W w : World} {na : Option Addr} {nc : Nat} {rv : Value} {g : Gf} (hG : Gr W (.slice na g.nodes.length nc) rv g) (hb : Below W.heap.size W w) {x : Nat} (hx : x < g.nodes.length) : ∃ b o aa ac, na = some ⟨b, o, none⟩ ∧ w.cell? ⟨b, o + x * 4, none⟩ = some (.int .i64 (g.nodes.getD x nd0).kind) ∧ w.cell? ⟨b, o + x * 4 + 1, none⟩ = some (.string (g.nodes.getD x nd0).name) ∧ w.cell? ⟨b, o + x * 4 + 2, none⟩ = some (.int .i64 (g.nodes.getD x nd0).num) ∧ w.cell? ⟨b, o + x * 4 + 3, none⟩ = some (.slice aa (g.nodes.getD x nd0).args.length ac) := by
  obtain ⟨na', nc', e, hc⟩ := hG.1
  injection e with e1 _ _
  subst e1
  obtain ⟨b, o, av, rfl, h0⟩ := hc x hx
  obtain ⟨p0, p1, p2, p3, _⟩ := h0.below hb
  obtain ⟨aa, ac, rfl, _⟩ := h0.2.2.2.2
  exact ⟨b, o, aa, ac, rfl, p0, p1, p2, p3⟩
def wantJ (g : Gf) (met : List Int) : Nat → Nat
  | 0 => g.roots.length
  | j + 1 => wantJ g met j + szN (g.nodes.getD (met.getD j 0).toNat nd0)
theorem sz_le {nd : Nd} (h : nd.args.length ≤ 8) : szN nd ≤ 9 := by
  unfold szN
  split
  · omega
  · split <;> omega
theorem want_le {g : Gf} (hg : Good g) {met : List Int} : ∀ j, wantJ g met j ≤ g.roots.length + 9 * j
  | 0 => Nat.le_refl _
  | j + 1 => by
    have ih := want_le hg (met := met) j
    have h8 : (g.nodes.getD (met.getD j 0).toNat nd0).args.length ≤ 8 := by
      generalize met.getD j 0 = y
      by_cases hx : y.toNat < g.nodes.length
      · exact (good_args (hg.node _ (by simp [List.getD, hx]))).2
      · rw [List.getD, List.getElem?_eq_none (by omega)]
        exact Nat.zero_le _
    have := sz_le h8
    show wantJ g met j + _ ≤ _
    omega
set_option maxHeartbeats 4000000 in
theorem wanted_any {W : World} {nv rv mv : Value} {g : Gf} {met : List Int} (hG : Gr W nv rv g) (hg : Good g) (hM : Ri W mv met) (hm : ∀ x ∈ met, 0 ≤ x ∧ x < (g.nodes.length : Int)) (hl : met.length ≤ 5000) :
    Calls Tryz.prog 58 #[.agg #[nv, rv], mv] W fun e w' => e = .returned (.int .i64 (wantJ g met met.length : Int)) ∧ Below W.heap.size W w' := by
  have hb0 := hid (below_alloc W (.cells #[nv, rv] 25))
  have hx0 := hid (heap_alloc_new W (.cells #[nv, rv] 25))
  have HG := hid hG
  have HM := hid hM
  have Hg := hid hg
  have Hm := hid hm
  have hR : g.roots.length ≤ 4096 := hg.roots
  obtain ⟨na, nc, rfl, _⟩ := hG.1
  obtain ⟨ra, rc, rfl, _⟩ := hG.2
  obtain ⟨ma, mc, rfl, _⟩ := hM
  clear hG hg hm
  go_enter Tryz.func58, Tryz.ntmps58
  go_wp2
  go_loopw [5, 7, 13] (fun s _ i wr => ∃ j : Nat, j ≤ met.length ∧ i = .int .i64 (j : Int) ∧ s = .int .i64 (wantJ g met j : Int) ∧ Hid (Below W.heap.size W wr) ∧ Hid (wr.heap[W.heap.size]? = some (.cells #[.slice na g.nodes.length nc, .slice ra g.roots.length rc] 25))) (fun _ _ i _ => met.length - (intOf i).toNat)
  case atStart => exact ⟨0, Nat.zero_le _, rfl, rfl, hb0, hx0⟩
  case round =>
    clear hb0 hx0
    obtain ⟨j, hj, rfl, rfl, hb, hx⟩ := hrel
    by_cases hlt : j < met.length
    · have hji : (j : Int) < (met.length : Int) := by omega
      obtain ⟨mb, mo, hma, m0⟩ := (HM.out.below hb.out).at hlt
      subst hma
      have zm := lt_of_cell m0
      have hmr := Hm.out _ (getD_mem hlt)
      have hst : Hid (wantJ g met (j + 1) = wantJ g met j + szN (g.nodes.getD (met.getD j 0).toNat nd0)) := rfl
      have hwl := want_le Hg.out (met := met) j
      generalize met.getD j 0 = y at *
      obtain ⟨yn, rfl⟩ : ∃ yn : Nat, y = (yn : Int) := ⟨y.toNat, by omega⟩
      rw [Int.toNat_natCast] at hst
      have hyn : yn < g.nodes.length := by omega
      have hyi : (yn : Int) < (g.nodes.length : Int) := by omega
      obtain ⟨⟨b0, b1⟩, _⟩ := cblk2 hx.out
      have zb := lt_of_block hx.out
      obtain ⟨nb, no, aa, ac, hna, p0, p1, p2, p3⟩ := gr_nd HG.out hb.out hyn
      subst hna
      have zn := lt_of_cell p0
      have h8 := (good_args (Hg.out.node (g.nodes.getD yn nd0) (by simp [List.getD, hyn]))).2
      have hsz := hid (fun w => size_any w (g.nodes.getD yn nd0) aa ac (by omega))
      have hs9 := sz_le h8
      generalize szN (g.nodes.getD yn nd0) = sz at *
      generalize wantJ g met j = wj at *
      generalize g.nodes.getD yn nd0 = nd at *
      obtain ⟨kd, nm, nu, args⟩ := nd
      dsimp only at p0 p1 p2 p3 hsz
      clear hmr
      go_wp2_with (go_at_call 92; refine (hsz.out _).mono ?_; rintro e w3 ⟨rfl, hb3⟩; have Hb3 := hid (Below.next hb.out hb3); have Hx3 := hid ((hb3.block _ zb).trans hx.out); clear hb3)
      go_roundw
      case rel => exact ⟨j + 1, by omega, by go_num, congrArg (Value.int .i64) (by rw [hst.out]; omega), Hb3, Hx3⟩
      case measure => simp [intOf]; omega
    · obtain rfl : j = met.length := by omega
      go_wp2
      go_ret
      exact ⟨rfl, hb.out⟩
end Go.Proofs.YtlibjdilicfcdaaGreatDoor

namespace Go.Proofs.YtlibjdilicfcdaaGreatDoor
set_option maxRecDepth 100000
open Go.RowKit
structure Crq (W w : World) (l cs : List Int) (sr sv mv : Nat) (M : List Int) (ao : Option Addr) (c : Nat) (i : Nat) : Prop where
  s : Sr W w l.length sr sv mv M ao c
  i : RcI l cs M i
theorem bk3_new (w : World) : Bk3 w w.heap.size (w.heap.size + 1) (w.heap.size + 1 + 1) := ⟨by simp; omega, fun k hk => by simp at hk; omega⟩
theorem rc_meet0 {W w1 : World} (l : List Int) (hN : l.length ≤ 5000) (hb1 : Below W.heap.size W w1) {ca : Option Addr} {cc : Nat} {cs : List Int} (hC : Ri W (.slice ca cs.length cc) cs) (hcs : ∀ x ∈ cs, 0 ≤ x ∧ x < (l.length : Int)) (hcl : cs.length ≤ 5000) :
    Calls Tryz.prog 64 #[.slice ca cs.length cc, .pointer (some ⟨w1.heap.size + 1, 0, none⟩), .pointer (some ⟨w1.heap.size + 1 + 1, 0, none⟩)]
      (((w1.alloc (.cells (seenArr l.length []) 4)).alloc (.cells #[.slice (some ⟨w1.heap.size, 0, none⟩) l.length l.length] 120)).alloc (.cells #[.slice none 0 0] 23))
      fun e w' => e = .returned (.tuple #[]) ∧ ∃ ao c, Crq w1 w' l cs w1.heap.size (w1.heap.size + 1) (w1.heap.size + 1 + 1) (mtL cs []) ao c 0 := by
  have hb : Below w1.heap.size w1 (((w1.alloc (.cells (seenArr l.length []) 4)).alloc (.cells #[.slice (some ⟨w1.heap.size, 0, none⟩) l.length l.length] 120)).alloc (.cells #[.slice none 0 0] 23)) := ((below_alloc w1 _).alloc (by simp) _).alloc (by simp; omega) _
  have hst : Sr w1 (((w1.alloc (.cells (seenArr l.length []) 4)).alloc (.cells #[.slice (some ⟨w1.heap.size, 0, none⟩) l.length l.length] 120)).alloc (.cells #[.slice none 0 0] 23)) l.length w1.heap.size (w1.heap.size + 1) (w1.heap.size + 1 + 1) [] none 0 := by
    refine ⟨hb, ?_, ?_, ?_, World.ownsRow_nil _ _ _ _, fun k e => by simp [Value.ownBlock] at e⟩
    · simp [go_sem]
    · rw [Below.heap_alloc _ _ _ (by simp; omega), Below.heap_alloc _ _ _ (by simp)]
      exact heap_alloc_new w1 _
    · simpa using heap_alloc_new ((w1.alloc (.cells (seenArr l.length []) 4)).alloc (.cells #[.slice (some ⟨w1.heap.size, 0, none⟩) l.length l.length] 120)) (.cells #[.slice none 0 0] 23)
  have hz := hb1.size
  obtain ⟨ao, c, e, hc⟩ := hC
  injection e with e1 _ _
  subst e1
  refine (mt_any (bk3_new w1) cs [] ca cc none 0 _ (fun j hj => ?_) hcs hcl hN (ok_nil _) hst).mono ?_
  · obtain ⟨b, o, rfl, hx⟩ := hc j hj
    have hlt := lt_of_cell hx
    have hlt' : b < W.heap.size := hlt
    refine ⟨b, o, rfl, ((Below.next hb1 hb).cell (p := ⟨b, o + j, none⟩) hlt).trans hx, fun h => ?_⟩
    rcases h with h | h | h
    · omega
    · omega
    · simp [Value.ownBlock] at h
  · rintro e w' ⟨rfl, ao', c', h⟩
    exact ⟨rfl, ao', c', h, RcI.start hcs⟩
theorem rch_short {l : List Int} {n : Nat} (hg : goodB (wdN l n) = true) : (rchN l (n : Int)).length ≤ 5000 := by
  unfold rchN rchL
  rw [Int.toNat_natCast]
  split
  · simp
  · split
    · rename_i h4
      have := fun_val (wdN l n) hg h4
      simp
      omega
    · simp
theorem rc_meet {w1 wd : World} {l cs M : List Int} {V : Nat → Bool} {g c k n : Nat} (h : Crq w1 wd l cs w1.heap.size (w1.heap.size + 1) (w1.heap.size + 1 + 1) M (some ⟨g, 0, none⟩) c k) (hs : Snd l V) (hN : l.length ≤ 5000) (hnl : n < l.length) (hI : RcI l cs (mtL (rchN l (n : Int)) M) (k + 1))
    (wz wx : World) (ra : Option Addr) (rc : Nat) (hb1 : Below wd.heap.size wd wz) (ho : wx.ownsRow wz.heap.size 3 1 (.slice ra (rchN l (n : Int)).length rc) (rchN l (n : Int)).length ((rchN l (n : Int)).map (Value.int .i64))) (hb2 : Below wz.heap.size wz wx) :
    Calls Tryz.prog 64 #[.slice ra (rchN l (n : Int)).length rc, .pointer (some ⟨w1.heap.size + 1, 0, none⟩), .pointer (some ⟨w1.heap.size + 1 + 1, 0, none⟩)] wx fun e w' => e = .returned (.tuple #[]) ∧ ∃ ao c, Crq w1 w' l cs w1.heap.size (w1.heap.size + 1) (w1.heap.size + 1 + 1) (mtL (rchN l (n : Int)) M) ao c (k + 1) := by
  have hz := hb1.size
  have hst := (h.s.next hb1).next hb2
  have hlt := h.s.lt
  refine (mt_any (bk3_new w1) (rchN l (n : Int)) M ra rc (some ⟨g, 0, none⟩) c wx (fun j hj => ?_) (rch_rng hs (by omega) (by omega)) (rch_short (hs.good n hnl)) hN h.i.ok hst).mono ?_
  · rcases ho.2 with ⟨_, h0⟩ | ⟨q, cap, cur, h1, hq, _⟩
    · omega
    · injection h1 with h1 _ _
      subst h1
      refine ⟨q, 0, rfl, ?_, fun hx => ?_⟩
      · rw [Nat.zero_add, ho.cellAt j (by simpa using hj)]
        simp [hj, List.getD]
      · rcases hx with hx | hx | hx
        · have := hlt w1.heap.size (by simp)
          omega
        · have := hlt (w1.heap.size + 1 + 1) (by simp)
          omega
        · have := (h.s.own.lt q hx).2
          omega
  · rintro e w' ⟨rfl, ao', c', h9⟩
    exact ⟨rfl, ao', c', h9, hI⟩
set_option maxHeartbeats 8000000 in
theorem reachable_any {W : World} {B ab : Nat} {m : Int} {av : Value} {l : List Int} {V : Nat → Bool} (hA : Ar 159 W B ab m av l) (hs : Snd l V) (hN : l.length ≤ 5000) {ca : Option Addr} {cc : Nat} {cs : List Int} (hC : Ri W (.slice ca cs.length cc) cs) (hcs : ∀ x ∈ cs, 0 ≤ x ∧ x < (l.length : Int)) (hcl : cs.length ≤ 5000) :
    Calls Tryz.prog 30 #[blkV ab, .slice ca cs.length cc] W fun e w' => (∃ M, e = .returned (.int .i64 (M.length : Int)) ∧ RcS l cs M) ∧ Below W.heap.size W w' := by
  have hmf : ∀ (fn : Fn) (first cap : Array Value) (w : World), (Instr.makeFunc fn first cap).run Tryz.prog w = .ok (.func fn first cap) w := fun _ _ _ _ => rfl
  have hmk := make_bools l.length hN
  have eg := crm_eg
  have htp := hid (top_any (hA.below (below_alloc W (.cells #[.pointer (some ⟨ab, 0, none⟩)] 73))))
  have hm0 := hid (fun w1 (hb1 : Below W.heap.size W w1) => rc_meet0 (W := W) (w1 := w1) l hN hb1 hC hcs hcl)
  have HA := hid hA
  have HS := hid hs
  have Hcs := hid hcs
  clear hA hs hC hcs hcl
  go_enter Tryz.func30, Tryz.ntmps30
  go_wp2_with (first
    | (go_at_call 63; refine htp.out.mono ?_; rintro e w1 ⟨rfl, hw⟩; have Hb1 : Hid (Below W.heap.size W w1) := (by rw [hw]; exact below_alloc W _); have hx1 : w1.heap[W.heap.size]? = some (.cells #[.pointer (some ⟨ab, 0, none⟩)] 73) := (by rw [hw]; exact heap_alloc_new W _); have HX1 := hid hx1; clear hw hx1)
    | (go_at_call 64; refine (hm0.out w1 Hb1.out).mono ?_; rintro e w2 ⟨rfl, ao1, c1, hQ⟩; have HQ := hid hQ; clear hQ))
  clear hm0 htp hmk
  go_loopw [8] (fun i wr => ∃ (k : Nat) (M : List Int) (ao : Option Addr) (c : Nat), k ≤ M.length ∧ i = .int .i64 (k : Int) ∧ Hid (Crq w1 wr l cs w1.heap.size (w1.heap.size + 1) (w1.heap.size + 1 + 1) M ao c k)) (fun i _ => l.length - (intOf i).toNat)
  case atStart => exact ⟨0, mtL cs [], ao1, c1, Nat.zero_le _, rfl, HQ⟩
  case round =>
    obtain ⟨k, M, ao, c, hk, rfl, hR⟩ := hrel
    have hMl := hR.out.i.ok.le
    have e0 := cell_of_one hR.out.s.met
    have z2 : w1.heap.size + 1 + 1 < wr.heap.size := hR.out.s.lt _ (by simp)
    by_cases hlt : k < M.length
    · have hki : (k : Int) < (M.length : Int) := by omega
      obtain ⟨n, hn⟩ : ∃ n : Nat, M.getD k 0 = (n : Int) := ⟨(M.getD k 0).toNat, by have := (hR.out.i.at' hlt).1; omega⟩
      have hnl : n < l.length := by have := (hR.out.i.at' hlt).2; omega
      obtain ⟨g, rfl⟩ : ∃ g, ao = some ⟨g, 0, none⟩ := by
        rcases hR.out.s.own.2 with ⟨h1, h2⟩ | ⟨g, cap, cur, h1, _⟩
        · omega
        · injection h1 with h1 _ _
          exact ⟨g, h1⟩
      have e1 : wr.cell? ⟨g, k, none⟩ = some (.int .i64 (n : Int)) := by
        have h9 := hR.out.s.own.cellAt k (by simpa using hlt)
        rw [h9]
        simp [hlt, ← hn, List.getD]
      go_wp2
      have hRd : Hid (Crq w1 wr.drew l cs w1.heap.size (w1.heap.size + 1) (w1.heap.size + 1 + 1) M (some ⟨g, 0, none⟩) c k) := ⟨hR.out.s.drew, hR.out.i⟩
      have Dc0 : Hid (wr.drew.cell? ⟨w1.heap.size + 1 + 1, 0, none⟩ = some (.slice (some ⟨g, 0, none⟩) M.length c)) := e0
      have Dc1 : Hid (wr.drew.cell? ⟨g, k, none⟩ = some (.int .i64 (n : Int))) := e1
      have Dc2 : Hid (wr.drew.cell? ⟨W.heap.size, 0, none⟩ = some (.pointer (some ⟨ab, 0, none⟩))) := cell_of_one ((hRd.out.s.b.block _ (lt_of_block HX1.out)).trans HX1.out)
      have zmv : w1.heap.size + 1 + 1 < wr.drew.heap.size := z2
      have zg : g < wr.drew.heap.size := lt_of_cell Dc1.out
      have hgd := HS.out.good n hnl
      have hrg := HS.out.rng (l.getD n 0) (by simp [List.getD, hnl])
      have hl6 : l.length ≤ 65536 := by omega
      have hwd := hid (bword_ok (HA.out.below (Below.next Hb1.out hRd.out.s.b)) n hnl)
      have hre : Hid (∀ wq, Calls Tryz.prog 65 #[.int .i64 (n : Int), .int .u64 (l.getD n 0)] wq fun e w' => (∃ ao c, e = .returned (.slice ao (rchN l (n : Int)).length c) ∧ w'.ownsRow wq.heap.size 3 1 (.slice ao (rchN l (n : Int)).length c) (rchN l (n : Int)).length ((rchN l (n : Int)).map (Value.int .i64))) ∧ Below wq.heap.size wq w') := fun wq => by
        have h9 := reached_any wq n (by omega) (l.getD n 0) hrg.1 hrg.2 hgd
        have e9 : rchN l (n : Int) = rchL n (l.getD n 0) := by unfold rchN wdN; rw [Int.toNat_natCast]
        rw [e9]
        exact h9
      have hmr : Hid (M.length ≤ (mtL (rchN l (n : Int)) M).length ∧ RcI l cs (mtL (rchN l (n : Int)) M) (k + 1)) := by
        rw [← hn]
        exact ⟨hR.out.i.more HS.out hlt, hR.out.i.step HS.out hlt⟩
      have hmx := hid (rc_meet hRd.out HS.out hN hnl hmr.out.2)
      clear hR hgd hrg
      obtain ⟨RR, hRR⟩ : ∃ RR, RR = rchN l (n : Int) := ⟨_, rfl⟩
      obtain ⟨X, hX⟩ : ∃ X, X = l.getD n 0 := ⟨_, rfl⟩
      rw [← hRR] at hre hmr hmx
      rw [← hX] at hwd hre
      clear hRR hX hn e1
      refine wp_region_any (by kernel_rfl) ?_
      change wpAny _ _ _ _ _ _ _ wr.drew
      clear e0
      generalize wr.drew = wd at *
      refine wpAny_invS (fun la a wx => la.size = 13 ∧ Clo (fun k => match k with | 3 => [1, 2] | 4 => [3] | 8 => [6, 7] | 9 => [8] | 10 => [5, 9] | 11 => [4, 10] | 12 => [0, 11] | _ => []) la ∧ ∃ ra : Option Addr, ∃ rc : Nat, a = (⟨#[blkV ab, .slice ca cs.length cc, .pointer (some ⟨W.heap.size, 0, none⟩), undef, .int .i64 0, .pointer (some ⟨w1.heap.size + 1, 0, none⟩), .pointer (some ⟨w1.heap.size + 1 + 1, 0, none⟩), .func (.func 64) #[] #[.pointer (some ⟨w1.heap.size + 1, 0, none⟩), .pointer (some ⟨w1.heap.size + 1 + 1, 0, none⟩)], .int .i64 (k : Int), .pointer (some ⟨W.heap.size, 0, none⟩), .pointer (some ⟨ab, 0, none⟩), .int .i64 (l.length : Int), .slice (some ⟨w1.heap.size, 0, none⟩) l.length l.length, .func (.func 64) #[] #[.pointer (some ⟨w1.heap.size + 1, 0, none⟩), .pointer (some ⟨w1.heap.size + 1 + 1, 0, none⟩)], .func (.func 64) #[] #[.pointer (some ⟨w1.heap.size + 1, 0, none⟩), .pointer (some ⟨w1.heap.size + 1 + 1, 0, none⟩)], .slice ca cs.length cc, .tuple #[], .int .i64 (k : Int), .slice (some ⟨g, 0, none⟩) M.length c, .int .i64 (M.length : Int), .bool true, u21, u22, (selV (bitA la 0) (.func (.func 64) #[] #[.pointer (some ⟨w1.heap.size + 1, 0, none⟩), .pointer (some ⟨w1.heap.size + 1 + 1, 0, none⟩)]) u23), (selV (bitA la 1) (.slice (some ⟨g, 0, none⟩) M.length c) u24), (selV (bitA la 2) (.int .i64 (k : Int)) u25), (selV (bitA la 3) (.pointer (some ⟨g, k, none⟩)) u26), (selV (bitA la 4) (.int .i64 (n : Int)) u27), (selV (bitA la 5) (blkV ab) u28), (selV (bitA la 6) (.slice (some ⟨g, 0, none⟩) M.length c) u29), (selV (bitA la 7) (.int .i64 (k : Int)) u30), (selV (bitA la 8) (.pointer (some ⟨g, k, none⟩)) u31), (selV (bitA la 9) (.int .i64 (n : Int)) u32), (selV (bitA la 10) (.int .u64 X) u33), (selV (bitA la 11) (.slice ra (RR).length rc) u34), (selV (bitA la 12) (.tuple #[]) u35), undef, undef], []⟩ : Act) ∧ (bitA la 10 = false → wx = wd) ∧ (bitA la 10 = true → bitA la 11 = false → Below wd.heap.size wd wx) ∧ (bitA la 11 = true → bitA la 12 = false → ∃ wz, Below wd.heap.size wd wz ∧ wx.ownsRow wz.heap.size 3 1 (.slice ra (RR).length rc) (RR).length ((RR).map (Value.int .i64)) ∧ Below wz.heap.size wz wx) ∧ (bitA la 12 = true → ∃ ao2 c2, Crq w1 wx l cs w1.heap.size (w1.heap.size + 1) (w1.heap.size + 1 + 1) (mtL (RR) M) ao2 c2 (k + 1))) ?_ ?_ _ _ _ _ (by decide) ?_
      case refine_3 =>
        exact ⟨by simp, Clo.start _ _, none, 0, rfl, fun _ => rfl, fun e => absurd e (by decide), fun e => absurd e (by decide), fun e => absurd e (by decide)⟩
      case refine_1 =>
        rintro la a wx ⟨hl, hcl, ra, rc, rfl, hs0, hs1, hs2, hs3⟩ i hi
        obtain ⟨i1, i2, i3⟩ := ready_spec hi
        have hiN : i < 13 := i1
        rw [← goppN hl hiN] at i2
        clear hi i1
        have hcs : i = 0 ∨ i = 1 ∨ i = 2 ∨ i = 3 ∨ i = 4 ∨ i = 5 ∨ i = 6 ∨ i = 7 ∨ i = 8 ∨ i = 9 ∨ i = 10 ∨ i = 11 ∨ i = 12 := by omega
        rcases hcs with rfl | rfl | rfl | rfl | rfl | rfl | rfl | rfl | rfl | rfl | rfl | rfl | rfl
        · have b12 : bitA la 12 = false := by cases e : bitA la 12 with | false => rfl | true => exact absurd (hcl 12 e 0 (by decide)) (by rw [i2]; simp)
          clear b12
          have HL := hid hl; clear hl
          refine wpOpS_step rfl (fun K hK => ?_)
          go_simp
          refine hK _ _ ⟨by simpa using HL.out, hcl.step HL.out (by decide) ?_, ra, rc, ?_, ?_, ?_, ?_, ?_⟩
          · intro d hd; cases hd
          · simp only [gsetN la 0 _ HL.out (by decide)]; rfl
          · intro e10; rw [gsetN la 0 10 HL.out (by decide), if_neg (by decide)] at e10; exact hs0 e10
          · intro e10 e11; rw [gsetN la 0 10 HL.out (by decide), if_neg (by decide)] at e10; rw [gsetN la 0 11 HL.out (by decide), if_neg (by decide)] at e11; exact hs1 e10 e11
          · intro e11 e12; rw [gsetN la 0 11 HL.out (by decide), if_neg (by decide)] at e11; rw [gsetN la 0 12 HL.out (by decide), if_neg (by decide)] at e12; exact hs2 e11 e12
          · intro e12; rw [gsetN la 0 12 HL.out (by decide), if_neg (by decide)] at e12; exact hs3 e12
        · have b11 : bitA la 11 = false := by cases e : bitA la 11 with | false => rfl | true => exact absurd (hcl 3 (hcl 4 (hcl 11 e 4 (by decide)) 3 (by decide)) 1 (by decide)) (by rw [i2]; simp)
          have b12 : bitA la 12 = false := by cases e : bitA la 12 with | false => rfl | true => exact absurd (hcl 3 (hcl 4 (hcl 11 (hcl 12 e 11 (by decide)) 4 (by decide)) 3 (by decide)) 1 (by decide)) (by rw [i2]; simp)
          have c0 : wx.cell? ⟨w1.heap.size + 1 + 1, 0, none⟩ = some (.slice (some ⟨g, 0, none⟩) M.length c) := by cases e10 : bitA la 10 with | false => rw [hs0 e10]; exact Dc0.out | true => exact ((hs1 e10 b11).cell (p := ⟨w1.heap.size + 1 + 1, 0, none⟩) zmv).trans Dc0.out
          clear b11 b12
          have HL := hid hl; clear hl
          refine wpOpS_step rfl (fun K hK => ?_)
          go_simp
          refine hK _ _ ⟨by simpa using HL.out, hcl.step HL.out (by decide) ?_, ra, rc, ?_, ?_, ?_, ?_, ?_⟩
          · intro d hd; cases hd
          · simp only [gsetN la 1 _ HL.out (by decide)]; rfl
          · intro e10; rw [gsetN la 1 10 HL.out (by decide), if_neg (by decide)] at e10; exact hs0 e10
          · intro e10 e11; rw [gsetN la 1 10 HL.out (by decide), if_neg (by decide)] at e10; rw [gsetN la 1 11 HL.out (by decide), if_neg (by decide)] at e11; exact hs1 e10 e11
          · intro e11 e12; rw [gsetN la 1 11 HL.out (by decide), if_neg (by decide)] at e11; rw [gsetN la 1 12 HL.out (by decide), if_neg (by decide)] at e12; exact hs2 e11 e12
          · intro e12; rw [gsetN la 1 12 HL.out (by decide), if_neg (by decide)] at e12; exact hs3 e12
        · have b11 : bitA la 11 = false := by cases e : bitA la 11 with | false => rfl | true => exact absurd (hcl 3 (hcl 4 (hcl 11 e 4 (by decide)) 3 (by decide)) 2 (by decide)) (by rw [i2]; simp)
          have b12 : bitA la 12 = false := by cases e : bitA la 12 with | false => rfl | true => exact absurd (hcl 3 (hcl 4 (hcl 11 (hcl 12 e 11 (by decide)) 4 (by decide)) 3 (by decide)) 2 (by decide)) (by rw [i2]; simp)
          clear b11 b12
          have HL := hid hl; clear hl
          refine wpOpS_step rfl (fun K hK => ?_)
          go_simp
          refine hK _ _ ⟨by simpa using HL.out, hcl.step HL.out (by decide) ?_, ra, rc, ?_, ?_, ?_, ?_, ?_⟩
          · intro d hd; cases hd
          · simp only [gsetN la 2 _ HL.out (by decide)]; rfl
          · intro e10; rw [gsetN la 2 10 HL.out (by decide), if_neg (by decide)] at e10; exact hs0 e10
          · intro e10 e11; rw [gsetN la 2 10 HL.out (by decide), if_neg (by decide)] at e10; rw [gsetN la 2 11 HL.out (by decide), if_neg (by decide)] at e11; exact hs1 e10 e11
          · intro e11 e12; rw [gsetN la 2 11 HL.out (by decide), if_neg (by decide)] at e11; rw [gsetN la 2 12 HL.out (by decide), if_neg (by decide)] at e12; exact hs2 e11 e12
          · intro e12; rw [gsetN la 2 12 HL.out (by decide), if_neg (by decide)] at e12; exact hs3 e12
        · have i4 : bitA la 1 = true ∧ bitA la 2 = true := by simpa [Region.binds, bitA] using i3
          have b11 : bitA la 11 = false := by cases e : bitA la 11 with | false => rfl | true => exact absurd (hcl 4 (hcl 11 e 4 (by decide)) 3 (by decide)) (by rw [i2]; simp)
          have b12 : bitA la 12 = false := by cases e : bitA la 12 with | false => rfl | true => exact absurd (hcl 4 (hcl 11 (hcl 12 e 11 (by decide)) 4 (by decide)) 3 (by decide)) (by rw [i2]; simp)
          clear b11 b12
          have HL := hid hl; clear hl
          refine wpOpS_step rfl (fun K hK => ?_)
          simp only [i4.1, i4.2, selV_t]
          go_simp
          refine hK _ _ ⟨by simpa using HL.out, hcl.step HL.out (by decide) ?_, ra, rc, ?_, ?_, ?_, ?_, ?_⟩
          · show ∀ d ∈ [1, 2], _; simp only [List.mem_cons, List.not_mem_nil, or_false]; rintro d (rfl | rfl) <;> first | exact i4.1 | exact i4.2
          · simp only [gsetN la 3 _ HL.out (by decide), i4.1, i4.2]; rfl
          · intro e10; rw [gsetN la 3 10 HL.out (by decide), if_neg (by decide)] at e10; exact hs0 e10
          · intro e10 e11; rw [gsetN la 3 10 HL.out (by decide), if_neg (by decide)] at e10; rw [gsetN la 3 11 HL.out (by decide), if_neg (by decide)] at e11; exact hs1 e10 e11
          · intro e11 e12; rw [gsetN la 3 11 HL.out (by decide), if_neg (by decide)] at e11; rw [gsetN la 3 12 HL.out (by decide), if_neg (by decide)] at e12; exact hs2 e11 e12
          · intro e12; rw [gsetN la 3 12 HL.out (by decide), if_neg (by decide)] at e12; exact hs3 e12
        · have i4 : bitA la 3 = true := by simpa [Region.binds, bitA] using i3
          have b11 : bitA la 11 = false := by cases e : bitA la 11 with | false => rfl | true => exact absurd (hcl 11 e 4 (by decide)) (by rw [i2]; simp)
          have b12 : bitA la 12 = false := by cases e : bitA la 12 with | false => rfl | true => exact absurd (hcl 11 (hcl 12 e 11 (by decide)) 4 (by decide)) (by rw [i2]; simp)
          have c1 : wx.cell? ⟨g, k, none⟩ = some (.int .i64 (n : Int)) := by cases e10 : bitA la 10 with | false => rw [hs0 e10]; exact Dc1.out | true => exact ((hs1 e10 b11).cell (p := ⟨g, k, none⟩) zg).trans Dc1.out
          clear b11 b12
          have HL := hid hl; clear hl
          refine wpOpS_step rfl (fun K hK => ?_)
          simp only [i4, selV_t]
          go_simp
          refine hK _ _ ⟨by simpa using HL.out, hcl.step HL.out (by decide) ?_, ra, rc, ?_, ?_, ?_, ?_, ?_⟩
          · show ∀ d ∈ [3], _; simp only [List.mem_singleton]; rintro d rfl; exact i4
          · simp only [gsetN la 4 _ HL.out (by decide), i4]; rfl
          · intro e10; rw [gsetN la 4 10 HL.out (by decide), if_neg (by decide)] at e10; exact hs0 e10
          · intro e10 e11; rw [gsetN la 4 10 HL.out (by decide), if_neg (by decide)] at e10; rw [gsetN la 4 11 HL.out (by decide), if_neg (by decide)] at e11; exact hs1 e10 e11
          · intro e11 e12; rw [gsetN la 4 11 HL.out (by decide), if_neg (by decide)] at e11; rw [gsetN la 4 12 HL.out (by decide), if_neg (by decide)] at e12; exact hs2 e11 e12
          · intro e12; rw [gsetN la 4 12 HL.out (by decide), if_neg (by decide)] at e12; exact hs3 e12
        · have b10 : bitA la 10 = false := by cases e : bitA la 10 with | false => rfl | true => exact absurd (hcl 10 e 5 (by decide)) (by rw [i2]; simp)
          have b11 : bitA la 11 = false := by cases e : bitA la 11 with | false => rfl | true => exact absurd (hcl 10 (hcl 11 e 10 (by decide)) 5 (by decide)) (by rw [i2]; simp)
          have b12 : bitA la 12 = false := by cases e : bitA la 12 with | false => rfl | true => exact absurd (hcl 10 (hcl 11 (hcl 12 e 11 (by decide)) 10 (by decide)) 5 (by decide)) (by rw [i2]; simp)
          have e0 := hs0 b10
          subst e0
          have c2 := Dc2.out
          have HL := hid hl; clear hl
          have Hb10 := hid b10; clear b10
          have Hb11 := hid b11; clear b11
          have Hb12 := hid b12; clear b12
          refine wpOpS_step rfl (fun K hK => ?_)
          go_simp
          refine hK _ _ ⟨by simpa using HL.out, hcl.step HL.out (by decide) ?_, ra, rc, ?_, ?_, ?_, ?_, ?_⟩
          · intro d hd; cases hd
          · simp only [gsetN la 5 _ HL.out (by decide)]; rfl
          · intro _; rfl
          · intro e; rw [gsetN la 5 10 HL.out (by decide), if_neg (by decide), Hb10.out] at e; cases e
          · intro e; rw [gsetN la 5 11 HL.out (by decide), if_neg (by decide), Hb11.out] at e; cases e
          · intro e; rw [gsetN la 5 12 HL.out (by decide), if_neg (by decide), Hb12.out] at e; cases e
        · have b10 : bitA la 10 = false := by cases e : bitA la 10 with | false => rfl | true => exact absurd (hcl 8 (hcl 9 (hcl 10 e 9 (by decide)) 8 (by decide)) 6 (by decide)) (by rw [i2]; simp)
          have b11 : bitA la 11 = false := by cases e : bitA la 11 with | false => rfl | true => exact absurd (hcl 8 (hcl 9 (hcl 10 (hcl 11 e 10 (by decide)) 9 (by decide)) 8 (by decide)) 6 (by decide)) (by rw [i2]; simp)
          have b12 : bitA la 12 = false := by cases e : bitA la 12 with | false => rfl | true => exact absurd (hcl 8 (hcl 9 (hcl 10 (hcl 11 (hcl 12 e 11 (by decide)) 10 (by decide)) 9 (by decide)) 8 (by decide)) 6 (by decide)) (by rw [i2]; simp)
          have e0 := hs0 b10
          subst e0
          have c0 := Dc0.out
          have HL := hid hl; clear hl
          have Hb10 := hid b10; clear b10
          have Hb11 := hid b11; clear b11
          have Hb12 := hid b12; clear b12
          refine wpOpS_step rfl (fun K hK => ?_)
          go_simp
          refine hK _ _ ⟨by simpa using HL.out, hcl.step HL.out (by decide) ?_, ra, rc, ?_, ?_, ?_, ?_, ?_⟩
          · intro d hd; cases hd
          · simp only [gsetN la 6 _ HL.out (by decide)]; rfl
          · intro _; rfl
          · intro e; rw [gsetN la 6 10 HL.out (by decide), if_neg (by decide), Hb10.out] at e; cases e
          · intro e; rw [gsetN la 6 11 HL.out (by decide), if_neg (by decide), Hb11.out] at e; cases e
          · intro e; rw [gsetN la 6 12 HL.out (by decide), if_neg (by decide), Hb12.out] at e; cases e
        · have b10 : bitA la 10 = false := by cases e : bitA la 10 with | false => rfl | true => exact absurd (hcl 8 (hcl 9 (hcl 10 e 9 (by decide)) 8 (by decide)) 7 (by decide)) (by rw [i2]; simp)
          have b11 : bitA la 11 = false := by cases e : bitA la 11 with | false => rfl | true => exact absurd (hcl 8 (hcl 9 (hcl 10 (hcl 11 e 10 (by decide)) 9 (by decide)) 8 (by decide)) 7 (by decide)) (by rw [i2]; simp)
          have b12 : bitA la 12 = false := by cases e : bitA la 12 with | false => rfl | true => exact absurd (hcl 8 (hcl 9 (hcl 10 (hcl 11 (hcl 12 e 11 (by decide)) 10 (by decide)) 9 (by decide)) 8 (by decide)) 7 (by decide)) (by rw [i2]; simp)
          have e0 := hs0 b10
          subst e0
          have HL := hid hl; clear hl
          have Hb10 := hid b10; clear b10
          have Hb11 := hid b11; clear b11
          have Hb12 := hid b12; clear b12
          refine wpOpS_step rfl (fun K hK => ?_)
          go_simp
          refine hK _ _ ⟨by simpa using HL.out, hcl.step HL.out (by decide) ?_, ra, rc, ?_, ?_, ?_, ?_, ?_⟩
          · intro d hd; cases hd
          · simp only [gsetN la 7 _ HL.out (by decide)]; rfl
          · intro _; rfl
          · intro e; rw [gsetN la 7 10 HL.out (by decide), if_neg (by decide), Hb10.out] at e; cases e
          · intro e; rw [gsetN la 7 11 HL.out (by decide), if_neg (by decide), Hb11.out] at e; cases e
          · intro e; rw [gsetN la 7 12 HL.out (by decide), if_neg (by decide), Hb12.out] at e; cases e
        · have i4 : bitA la 6 = true ∧ bitA la 7 = true := by simpa [Region.binds, bitA] using i3
          have b10 : bitA la 10 = false := by cases e : bitA la 10 with | false => rfl | true => exact absurd (hcl 9 (hcl 10 e 9 (by decide)) 8 (by decide)) (by rw [i2]; simp)
          have b11 : bitA la 11 = false := by cases e : bitA la 11 with | false => rfl | true => exact absurd (hcl 9 (hcl 10 (hcl 11 e 10 (by decide)) 9 (by decide)) 8 (by decide)) (by rw [i2]; simp)
          have b12 : bitA la 12 = false := by cases e : bitA la 12 with | false => rfl | true => exact absurd (hcl 9 (hcl 10 (hcl 11 (hcl 12 e 11 (by decide)) 10 (by decide)) 9 (by decide)) 8 (by decide)) (by rw [i2]; simp)
          have e0 := hs0 b10
          subst e0
          have HL := hid hl; clear hl
          have Hb10 := hid b10; clear b10
          have Hb11 := hid b11; clear b11
          have Hb12 := hid b12; clear b12
          refine wpOpS_step rfl (fun K hK => ?_)
          simp only [i4.1, i4.2, selV_t]
          go_simp
          refine hK _ _ ⟨by simpa using HL.out, hcl.step HL.out (by decide) ?_, ra, rc, ?_, ?_, ?_, ?_, ?_⟩
          · show ∀ d ∈ [6, 7], _; simp only [List.mem_cons, List.not_mem_nil, or_false]; rintro d (rfl | rfl) <;> first | exact i4.1 | exact i4.2
          · simp only [gsetN la 8 _ HL.out (by decide), i4.1, i4.2]; rfl
          · intro _; rfl
          · intro e; rw [gsetN la 8 10 HL.out (by decide), if_neg (by decide), Hb10.out] at e; cases e
          · intro e; rw [gsetN la 8 11 HL.out (by decide), if_neg (by decide), Hb11.out] at e; cases e
          · intro e; rw [gsetN la 8 12 HL.out (by decide), if_neg (by decide), Hb12.out] at e; cases e
        · have i4 : bitA la 8 = true := by simpa [Region.binds, bitA] using i3
          have b10 : bitA la 10 = false := by cases e : bitA la 10 with | false => rfl | true => exact absurd (hcl 10 e 9 (by decide)) (by rw [i2]; simp)
          have b11 : bitA la 11 = false := by cases e : bitA la 11 with | false => rfl | true => exact absurd (hcl 10 (hcl 11 e 10 (by decide)) 9 (by decide)) (by rw [i2]; simp)
          have b12 : bitA la 12 = false := by cases e : bitA la 12 with | false => rfl | true => exact absurd (hcl 10 (hcl 11 (hcl 12 e 11 (by decide)) 10 (by decide)) 9 (by decide)) (by rw [i2]; simp)
          have e0 := hs0 b10
          subst e0
          have c1 := Dc1.out
          have HL := hid hl; clear hl
          have Hb10 := hid b10; clear b10
          have Hb11 := hid b11; clear b11
          have Hb12 := hid b12; clear b12
          refine wpOpS_step rfl (fun K hK => ?_)
          simp only [i4, selV_t]
          go_simp
          refine hK _ _ ⟨by simpa using HL.out, hcl.step HL.out (by decide) ?_, ra, rc, ?_, ?_, ?_, ?_, ?_⟩
          · show ∀ d ∈ [8], _; simp only [List.mem_singleton]; rintro d rfl; exact i4
          · simp only [gsetN la 9 _ HL.out (by decide), i4]; rfl
          · intro _; rfl
          · intro e; rw [gsetN la 9 10 HL.out (by decide), if_neg (by decide), Hb10.out] at e; cases e
          · intro e; rw [gsetN la 9 11 HL.out (by decide), if_neg (by decide), Hb11.out] at e; cases e
          · intro e; rw [gsetN la 9 12 HL.out (by decide), if_neg (by decide), Hb12.out] at e; cases e
        · have i4 : bitA la 5 = true ∧ bitA la 9 = true := by simpa [Region.binds, bitA] using i3
          have b10 : bitA la 10 = false := i2
          have b11 : bitA la 11 = false := by cases e : bitA la 11 with | false => rfl | true => exact absurd (hcl 11 e 10 (by decide)) (by rw [i2]; simp)
          have b12 : bitA la 12 = false := by cases e : bitA la 12 with | false => rfl | true => exact absurd (hcl 11 (hcl 12 e 11 (by decide)) 10 (by decide)) (by rw [i2]; simp)
          have e0 := hs0 b10
          subst e0
          have HL := hid hl; clear hl
          have Hb10 := hid b10; clear b10
          have Hb11 := hid b11; clear b11
          have Hb12 := hid b12; clear b12
          refine wpOpS_step rfl (fun K hK => ?_)
          simp only [i4.1, i4.2, selV_t]
          go_simp
          go_at_call 66
          refine hwd.out.mono ?_
          rintro e wy ⟨rfl, hby⟩
          refine hK _ _ ⟨by simpa using HL.out, hcl.step HL.out (by decide) ?_, ra, rc, ?_, ?_, ?_, ?_, ?_⟩
          · show ∀ d ∈ [5, 9], _; simp only [List.mem_cons, List.not_mem_nil, or_false]; rintro d (rfl | rfl) <;> first | exact i4.1 | exact i4.2
          · simp only [gsetN la 10 _ HL.out (by decide), i4.1, i4.2]; rfl
          · intro e10; rw [gsetN la 10 10 HL.out (by decide), if_pos rfl] at e10; cases e10
          · intro _ _; exact hby
          · intro e; rw [gsetN la 10 11 HL.out (by decide), if_neg (by decide), Hb11.out] at e; cases e
          · intro e; rw [gsetN la 10 12 HL.out (by decide), if_neg (by decide), Hb12.out] at e; cases e
        · have j4 : bitA la 4 = true := dep_at i3 rfl (j := 0) rfl rfl
          have j10 : bitA la 10 = true := dep_at i3 rfl (j := 1) rfl rfl
          have b11 : bitA la 11 = false := i2
          have b12 : bitA la 12 = false := by cases e : bitA la 12 with | false => rfl | true => exact absurd (hcl 12 e 11 (by decide)) (by rw [i2]; simp)
          have e0 := hs1 j10 b11
          have HL := hid hl; clear hl
          have Hb11 := hid b11; clear b11
          have Hb12 := hid b12; clear b12
          refine wpOpS_step rfl (fun K hK => ?_)
          simp only [j4, j10, selV_t]
          go_simp
          go_at_call 65
          refine (hre.out wx).mono ?_
          rintro e wy ⟨⟨ra', rc', rfl, ho⟩, hby⟩
          refine hK _ _ ⟨by simpa using HL.out, hcl.step HL.out (by decide) ?_, ra', rc', ?_, ?_, ?_, ?_, ?_⟩
          · show ∀ d ∈ [4, 10], _; simp only [List.mem_cons, List.not_mem_nil, or_false]; rintro d (rfl | rfl) <;> first | exact j4 | exact j10
          · simp only [gsetN la 11 _ HL.out (by decide), j4, j10, Hb11.out]; rfl
          · intro e10; rw [gsetN la 11 10 HL.out (by decide), if_neg (by decide), j10] at e10; cases e10
          · intro e10 e11; rw [gsetN la 11 11 HL.out (by decide), if_pos rfl] at e11; cases e11
          · intro _ _; exact ⟨wx, e0, ho, hby⟩
          · intro e; rw [gsetN la 11 12 HL.out (by decide), if_neg (by decide), Hb12.out] at e; cases e
        · have j0 : bitA la 0 = true := dep_at i3 rfl (j := 0) rfl rfl
          have j11 : bitA la 11 = true := dep_at i3 rfl (j := 1) rfl rfl
          have b12 : bitA la 12 = false := i2
          have e0 := hs2 j11 b12
          obtain ⟨wz, hz1, hz2, hz3⟩ := e0
          have hmt := hid (hmx.out wz wx ra rc hz1 hz2 hz3)
          clear hz1 hz2 hz3
          have HL := hid hl; clear hl
          have Hb12 := hid b12; clear b12
          refine wpOpS_step rfl (fun K hK => ?_)
          simp only [j0, j11, selV_t]
          go_simp
          go_at_call 64
          refine hmt.out.mono ?_
          rintro e wy ⟨rfl, hQ⟩
          refine hK _ _ ⟨by simpa using HL.out, hcl.step HL.out (by decide) ?_, ra, rc, ?_, ?_, ?_, ?_, ?_⟩
          · show ∀ d ∈ [0, 11], _; simp only [List.mem_cons, List.not_mem_nil, or_false]; rintro d (rfl | rfl) <;> first | exact j0 | exact j11
          · simp only [gsetN la 12 _ HL.out (by decide), j0, j11]; rfl
          · intro e10; rw [gsetN la 12 10 HL.out (by decide), if_neg (by decide), (hcl 11 j11 10 (by decide))] at e10; cases e10
          · intro e10 e11; rw [gsetN la 12 11 HL.out (by decide), if_neg (by decide), j11] at e11; cases e11
          · intro e11 e12; rw [gsetN la 12 12 HL.out (by decide), if_pos rfl] at e12; cases e12
          · intro _; exact hQ
      case refine_2 =>
        rintro la a wx ⟨hl, hcl, ra, rc, rfl, hs0, hs1, hs2, hs3⟩ hr
        have n0 : bitA la 0 = true := by
          rw [goppN hl (by omega)]
          exact noneN hr (i := 0) (by decide) (by simp [Region.binds])
        have m0 : la[0]?.getD false = true := by simpa [bitA] using n0
        have n1 : bitA la 1 = true := by
          rw [goppN hl (by omega)]
          exact noneN hr (i := 1) (by decide) (by simp [Region.binds])
        have m1 : la[1]?.getD false = true := by simpa [bitA] using n1
        have n2 : bitA la 2 = true := by
          rw [goppN hl (by omega)]
          exact noneN hr (i := 2) (by decide) (by simp [Region.binds])
        have m2 : la[2]?.getD false = true := by simpa [bitA] using n2
        have n3 : bitA la 3 = true := by
          rw [goppN hl (by omega)]
          exact noneN hr (i := 3) (by decide) (by simp [Region.binds, m1, m2])
        have m3 : la[3]?.getD false = true := by simpa [bitA] using n3
        have n4 : bitA la 4 = true := by
          rw [goppN hl (by omega)]
          exact noneN hr (i := 4) (by decide) (by simp [Region.binds, m3])
        have m4 : la[4]?.getD false = true := by simpa [bitA] using n4
        have n5 : bitA la 5 = true := by
          rw [goppN hl (by omega)]
          exact noneN hr (i := 5) (by decide) (by simp [Region.binds])
        have m5 : la[5]?.getD false = true := by simpa [bitA] using n5
        have n6 : bitA la 6 = true := by
          rw [goppN hl (by omega)]
          exact noneN hr (i := 6) (by decide) (by simp [Region.binds])
        have m6 : la[6]?.getD false = true := by simpa [bitA] using n6
        have n7 : bitA la 7 = true := by
          rw [goppN hl (by omega)]
          exact noneN hr (i := 7) (by decide) (by simp [Region.binds])
        have m7 : la[7]?.getD false = true := by simpa [bitA] using n7
        have n8 : bitA la 8 = true := by
          rw [goppN hl (by omega)]
          exact noneN hr (i := 8) (by decide) (by simp [Region.binds, m6, m7])
        have m8 : la[8]?.getD false = true := by simpa [bitA] using n8
        have n9 : bitA la 9 = true := by
          rw [goppN hl (by omega)]
          exact noneN hr (i := 9) (by decide) (by simp [Region.binds, m8])
        have m9 : la[9]?.getD false = true := by simpa [bitA] using n9
        have n10 : bitA la 10 = true := by
          rw [goppN hl (by omega)]
          exact noneN hr (i := 10) (by decide) (by simp [Region.binds, m5, m9])
        have m10 : la[10]?.getD false = true := by simpa [bitA] using n10
        have n11 : bitA la 11 = true := by
          rw [goppN hl (by omega)]
          exact noneN hr (i := 11) (by decide) (by simp [Region.binds, m4, m10])
        have m11 : la[11]?.getD false = true := by simpa [bitA] using n11
        have n12 : bitA la 12 = true := by
          rw [goppN hl (by omega)]
          exact noneN hr (i := 12) (by decide) (by simp [Region.binds, m0, m11])
        have m12 : la[12]?.getD false = true := by simpa [bitA] using n12
        have hfin := hs3 n12
        simp only [n0, n1, n2, n3, n4, n5, n6, n7, n8, n9, n10, n11, n12, selV_t]
        clear n0 m0 n1 m1 n2 m2 n3 m3 n4 m4 n5 m5 n6 m6 n7 m7 n8 m8 n9 m9 n10 m10 n11 m11 n12 m12 hr hcl hs0 hs1 hs2 hs3
        obtain ⟨ao2, c2, hQ2⟩ := hfin
        have hMn := hid hmr.out.1
        go_wp2
        go_roundw
        case rel => ((repeat apply Exists.intro); refine ⟨?_, rfl⟩; exact ⟨k + 1, mtL (RR) M, ao2, c2, by have := hMn.out; omega, congrArg (Value.int .i64) (by omega), hQ2⟩)
        case measure => simp [intOf]; omega
    · obtain rfl : k = M.length := by omega
      have hfin := hid (hR.out.i.fin (Nat.le_refl _))
      have hbf := hid (Below.next Hb1.out hR.out.s.b)
      clear hR
      go_wp2
      go_ret
      exact ⟨⟨M, rfl, hfin.out⟩, hbf.out⟩
end Go.Proofs.YtlibjdilicfcdaaGreatDoor

/- CellsBack: one graph put down, and read. -/
import Derived.Test.YtnpopfmmebaihaaGreatDoorQRIZ
import Derived.Test.YtnpopfmmebaihaaGreatDoorQRCZ
import Derived.BigQuiet
import Derived.Test.YtnpopfmmebaihaaGreatDoorTie
import Derived.Test.YtnpopfmmebaihaaGreatDoorCards
import Derived.ProofKit
import Derived.LaidMore
import Derived.LaidHandle
import Derived.OpenShut
import Derived.Stop.Joined
import Derived.Stop.LaidErr
namespace Go.Proofs.YtnpopfmmebaihaaGreatDoor
open Go.RowKit

/-- The cells that Put answers. -/
def csL (b n : Nat) : List Int := (List.range n).map (fun i => ((b + i : Nat) : Int))
/-- The names behind a Put. -/
def nsP (ns : List ByteArray) (g : Gf) : List ByteArray := wthJ ns g (metF g) (metF g).length
/-- The words behind a Put. -/
def wdP (l : List Int) (ns : List ByteArray) (g : Gf) : List Int := l ++ putW (nsP ns g) g (metF g) l.length
/-- The heap between the calls. -/
def BkH (W w : World) (B hb : Nat) (F : List Nat) (l : List Int) (ns : List ByteArray) : Prop := ∃ ab tb av tv tq trv ptv n V, Hp w B hb ab tb 30000 av l tv tq ns trv ptv n ∧ F = hb :: a_foot ab av ∧ Snd l V ∧ NsB l ns.length ∧ Below W.heap.size W w ∧ B ≤ w.heap.size
theorem BkH.below {W w w' : World} {B hb : Nat} {F : List Nat} {l : List Int} {ns : List ByteArray} (h : BkH W w B hb F l ns) (hb' : Below w.heap.size w w') : BkH W w' B hb F l ns := by
  obtain ⟨ab, tb, av, tv, tq, trv, ptv, n, V, hH, e, hs, hn, hw, hB⟩ := h
  exact ⟨ab, tb, av, tv, tq, trv, ptv, n, V, hH.below hb', e, hs, hn, Below.next hw hb', Nat.le_trans hB hb'.size⟩
theorem wthJ_ge (ns : List ByteArray) (g : Gf) (met : List Int) : ∀ j, ns.length ≤ (wthJ ns g met j).length
  | 0 => Nat.le_refl _
  | j + 1 => by
    have h1 := wthJ_ge ns g met j
    show _ ≤ (wth1 _ _).length
    unfold wth1
    split
    · exact h1
    · simp
      omega
theorem names_in {g : Gf} (hg : Good g) (ns : List ByteArray) : ∀ x ∈ metF g, (g.nodes.getD x.toNat nd0).kind = 2 ∨ (g.nodes.getD x.toNat nd0).kind = 4 → inL (nsP ns g) (g.nodes.getD x.toNat nd0).name = true := fun x hx hk => by
  have hr := (met_ok hg).rng x hx
  have hgd := hg.node (g.nodes.getD x.toNat nd0) (by
    have : x.toNat < g.nodes.length := by omega
    simp [List.getD, this])
  have hs : (g.nodes.getD x.toNat nd0).name.size ≠ 0 := by
    have h1 : goodS (g.nodes.getD x.toNat nd0).name = true := by
      unfold goodNd at hgd
      rcases hk with k | k
      · rw [if_neg (by omega), if_pos k] at hgd
        simp only [Bool.and_eq_true] at hgd
        exact hgd.1.1
      · rw [if_neg (by omega), if_neg (by omega), if_neg (by omega), if_pos k] at hgd
        simp only [Bool.and_eq_true] at hgd
        exact hgd.1.1.1.1
    have := goodS_size h1
    omega
  have h2 := wthJ_in ns g (metF g) (pos_lt hx) (by rw [pos_at hx]; exact hs)
  rw [pos_at hx] at h2
  exact h2
/-- The sizes of one round. -/
theorem bk_sizes {g : Gf} (hg : Good g) (h2 : g.nodes.length ≤ 200) (h3 : g.roots.length ≤ 200) (ns : List ByteArray) (l : List Int) : (metF g).length ≤ 200 ∧ wantJ g (metF g) (metF g).length ≤ 2000 ∧ (nsP ns g).length ≤ ns.length + 200 ∧ (wdP l ns g).length = l.length + wantJ g (metF g) (metF g).length := by
  have h1 := (met_ok hg).le
  have h4 := want_le hg (met := metF g) (metF g).length
  have h5 := wthJ_len ns g (metF g) (metF g).length
  refine ⟨by omega, by omega, ?_, ?_⟩
  · unfold nsP; omega
  · unfold wdP; rw [List.length_append, putW_len]
section
variable {W w : World} {B hb : Nat} {F : List Nat} {l : List Int} {ns : List ByteArray} {g : Gf} {nv rv : Value}
theorem bput_ok (h : BkH W w B hb F l ns) (hWB : W.heap.size ≤ B) (hL : l.length ≤ 2000) (hN : ns.length ≤ 200) (hG : Gr W nv rv g) (hS : Sized g) (hck : one (chk g) = []) (h2 : g.nodes.length ≤ 200) (h3 : g.roots.length ≤ 200) :
    Calls Tryz.prog 10 #[.pointer (some ⟨hb, 0, none⟩), .agg #[nv, rv]] w fun e w' => ∃ ao c F', e = .returned (.tuple #[.slice ao g.roots.length c, .nilIface]) ∧ Ri w' (.slice ao g.roots.length c) (csL l.length g.roots.length) ∧ BkH W w' B hb F' (wdP l ns g) (nsP ns g) ∧ a_Mod F w w' ∧ (∀ k, k < w.heap.size → k ∉ F → k ∉ F') ∧ Below B w w' := by
  have hg := chk_good hck
  obtain ⟨s1, s2, s3, s4⟩ := bk_sizes hg h2 h3 ns l
  obtain ⟨ab, tb, av, tv, tq, trv, ptv, n, V, hH, rfl, hs, hn, hw, hB⟩ := h
  obtain ⟨avs, hA⟩ := gra_of hG
  have hF : ∀ k ∈ hb :: a_foot ab av, B ≤ k := fun k hk => by
    rcases List.mem_cons.1 hk with rfl | hk
    · exact hH.base
    · rcases a_mem_foot.1 hk with rfl | hk
      · exact hH.ar.base
      · exact (hH.ar.row hk).1
  have hpm := pmc_of (ns := ns) (b := l.length) hg (by omega) (by omega)
  have hGk : ∀ w', a_Mod (hb :: a_foot ab av) w w' → Gra w' nv rv g avs := fun w' hm => hA.below (hw.trans ((hm.below hF hB).mono hWB))
  refine (put_ok hH hB hGk hS hck (by omega) (by omega) (fun c hc => hpm.may hc)).mono ?_
  rintro e w' ⟨ao, c, av', tb', tv', tq', rfl, ho, hp, hm, hx, _⟩
  have hbB := hm.below hF hB
  refine ⟨ao, c, hb :: a_foot ab av', rfl, ?_, ⟨ab, tb', av', tv', tq', trv, ptv, n, _, hp, rfl, put_snd hs hpm, put_nsb hn (wthJ_ge _ _ _ _) hpm, hw.trans (hbB.mono hWB), Nat.le_trans hB hm.size⟩, hm, ?_, hbB⟩
  · have e : (csL l.length g.roots.length).length = g.roots.length := by simp [csL]
    have h0 := ri_own (w := w') (B := w.heap.size) (ao := ao) (c := c) (L := csL l.length g.roots.length) (by rw [e]; exact ho)
    rw [e] at h0
    exact h0
  · intro k hk hn hx'
    apply hn
    rcases List.mem_cons.1 hx' with rfl | hx'
    · exact List.mem_cons_self
    · refine List.mem_cons_of_mem _ (a_mem_foot.2 ?_)
      rcases a_mem_foot.1 hx' with rfl | e
      · exact Or.inl rfl
      · rcases hx k e with e | e
        · exact Or.inr e
        · omega
theorem bget_ok {Fo : List Nat} {w0 : World} (h0 : BkH W w0 B hb Fo l ns) (h : BkH W w B hb F (wdP l ns g) (nsP ns g)) (hL : l.length ≤ 2000) (hN : ns.length ≤ 200) (hg : Good g) (h2 : g.nodes.length ≤ 200) (h3 : g.roots.length ≤ 200) {cv : Value} (hC : Ri w cv (csL l.length g.roots.length)) (ee : Nat → Nat → Bool) (he : ∀ x y : Nat, (ee x y = true ↔ Al g (x : Int) (y : Int))) :
    Calls Tryz.prog 12 #[.pointer (some ⟨hb, 0, none⟩), cv] w fun e w' => (∃ nv rv, e = .returned (.tuple #[.agg #[nv, rv], .nilIface]) ∧ Gr w' nv rv (trimF (quoF ee g))) ∧ Below w.heap.size w w' := by
  obtain ⟨s1, s2, s3, s4⟩ := bk_sizes hg h2 h3 ns l
  obtain ⟨_, _, _, _, _, _, _, _, V0, _, _, hs0, _, _, _⟩ := h0
  obtain ⟨ab, tb, av, tv, tq, trv, ptv, n, V, hH, rfl, hs, hn, hw, hB⟩ := h
  have hpm := pmc_of (ns := ns) (b := l.length) hg (by omega) (by omega)
  have hpr := fun TS (hF : Rfi (wdP l ns g) (csL l.length g.roots.length) TS) => put_pr hs0 hpm (names_in hg ns) rfl hF
  have hcl : ∀ x ∈ csL l.length g.roots.length, cellB (wdP l ns g) x = true := fun x hx => by
    obtain ⟨i, hi, rfl⟩ := List.mem_map.1 hx
    have hi := List.mem_range.1 hi
    have hr := want_root (g := g) (met := metF g) (metF g).length
    have hpl := putW_len (ns := nsP ns g) (g := g) (met := metF g) (b := l.length)
    have e : (wdP l ns g).getD (l.length + i) 0 = cwX (nsP ns g) g (metF g) l.length (g.roots.getD i 0) := by
      have := wd_nw (l := l) (T := putW (nsP ns g) g (metF g) l.length) (k := l.length + i) (by omega)
      unfold wdN at this
      unfold wdP
      rw [this, show l.length + i - l.length = i by omega, putW_root hi]
    have ht := (hpm.cw (hpm.root _ (getD_mem hi))).tag
    unfold cellB inB
    rw [Int.toNat_natCast, e]
    unfold nsP at *
    simp only [Bool.and_eq_true, decide_eq_true_eq]
    omega
  refine (get_ok hH hs hn hC hcl (by simp [csL]; omega) (fun TS hF => by have := (hpr TS hF).2; omega)).mono ?_
  rintro e w' ⟨⟨nv', rv', avs, TS, ee', rfl, hF, hgd, he', ho⟩, hb'⟩
  refine ⟨⟨nv', rv', rfl, ?_⟩, hb'⟩
  rw [← (hpr TS hF).1.least hgd hg he' he]
  exact ho.gr
end
end Go.Proofs.YtnpopfmmebaihaaGreatDoor

/- CellsBack: the walk. -/
namespace Go.Proofs.YtnpopfmmebaihaaGreatDoor
open Go.RowKit

/-- Where the loop of CellsBack stands. -/
structure Bl (W w : World) (hb lb : Nat) (n0 r0 n1 r1 : Value) (F : List Nat) (l : List Int) (ns : List ByteArray) (j : Nat) : Prop where
  h : BkH W w (W.heap.size + 2) hb F l ns
  lz : l.length ≤ 2000 * j
  nz : ns.length ≤ 200 * j
  blk : w.heap[lb]? = some (.cells #[n0, r0, n1, r1] 25)
  out : lb ∉ F
theorem bl_cells {w : World} {lb : Nat} {n0 r0 n1 r1 : Value} {T : TypeId} (h : w.heap[lb]? = some (.cells #[n0, r0, n1, r1] T)) : w.cell? ⟨lb, 0, none⟩ = some n0 ∧ w.cell? ⟨lb, 1, none⟩ = some r0 ∧ w.cell? ⟨lb, 2, none⟩ = some n1 ∧ w.cell? ⟨lb, 3, none⟩ = some r1 := by
  refine ⟨?_, ?_, ?_, ?_⟩ <;> simp [World.cell?, h]
theorem BkH.bw {W w : World} {B hb : Nat} {F : List Nat} {l : List Int} {ns : List ByteArray} (h : BkH W w B hb F l ns) : Below W.heap.size W w := by
  obtain ⟨_, _, _, _, _, _, _, _, _, _, _, _, _, hw, _⟩ := h
  exact hw
theorem btop_any {W w : World} {B hb : Nat} {F : List Nat} {l : List Int} {ns : List ByteArray} (h : BkH W w B hb F l ns) : Calls Tryz.prog 8 #[.pointer (some ⟨hb, 0, none⟩)] w fun e w' => e = .returned (.int .i64 (l.length : Int)) ∧ w' = w := by
  obtain ⟨_, _, _, _, _, _, _, _, _, hH, _⟩ := h
  exact htop_any hH
theorem snd_nil : Snd [] (fun _ => false) := by constructor <;> intro k hk <;> simp at hk
theorem nsb_nil (n : Nat) : NsB [] n := by constructor <;> intro k hk <;> simp at hk
theorem BkH.lt {W w : World} {B hb : Nat} {F : List Nat} {l : List Int} {ns : List ByteArray} (h : BkH W w B hb F l ns) : ∀ k ∈ F, k < w.heap.size := by
  obtain ⟨ab, _, av, _, _, _, _, _, _, hH, rfl, _⟩ := h
  intro k hk
  rcases List.mem_cons.1 hk with rfl | hk
  · exact lt_of_block hH.blk
  · rcases a_mem_foot.1 hk with rfl | hk
    · exact hH.ar.lt
    · exact (hH.ar.row hk).2.1
theorem er_some {w : World} {ev : Value} {fs : Fs} (h : Er w ev fs) (hn : fs ≠ []) : ∃ b, ev = .iface 109 (.pointer (some ⟨b, 0, none⟩)) := (h.isNil.resolve_left (fun h => hn h.1)).2
theorem fitsC {g : Gf} (h : Good g) : Fits g := ⟨by have := h.nodes; omega, by have := h.roots; omega, fun n hn => by have := (good_args (h.node n hn)).2; omega⟩
theorem drewC (w : World) (n : Nat) : Below w.heap.size w (w.drewN n) := ⟨rfl, rfl, rfl, Nat.le_refl _, fun _ _ => rfl⟩
theorem gr_sl {w : World} {nv rv : Value} {g : Gf} (h : Gr w nv rv g) : (∃ a l c, nv = .slice a l c) ∧ ∃ a l c, rv = .slice a l c := by
  obtain ⟨na, nc, rfl, _⟩ := h.1
  obtain ⟨ra, rc, rfl, _⟩ := h.2
  exact ⟨⟨_, _, _, rfl⟩, ⟨_, _, _, rfl⟩⟩
set_option maxRecDepth 100000 in
set_option maxHeartbeats 8000000 in
theorem back_a {W : World} (hE : ErrC W) {n0 r0 n1 r1 : Value} {a b : Gf} (hA : Gr W n0 r0 a) (hB : Gr W n1 r1 b) (ka : smallK 200 a = false) :
    Calls Tryz.prog 3 #[.agg #[n0, r0], .agg #[n1, r1]] W fun e w' => e = .returned (.bool true) ∧ Below W.heap.size W w' := by
  have hb2 : Below W.heap.size W ((W.alloc (.cells #[n0, r0] 25)).alloc (.cells #[n1, r1] 25)) := (below_alloc W _).alloc (by simp) _
  have hnw := hid (hnew_ok 30000 ((W.alloc (.cells #[n0, r0] 25)).alloc (.cells #[n1, r1] 25)) (W.heap.size + 2) (by simp) (by decide) (by decide))
  have hx0 : Hid (((W.alloc (.cells #[n0, r0] 25)).alloc (.cells #[n1, r1] 25)).heap[W.heap.size]? = some (.cells #[n0, r0] 25)) := (Below.heap_alloc _ _ _ (by simp)).trans (heap_alloc_new W _)
  have hx1' : ((W.alloc (.cells #[n0, r0] 25)).alloc (.cells #[n1, r1] 25)).heap[W.heap.size + 1]? = some (.cells #[n1, r1] 25) := by
    have e : (W.alloc (.cells #[n0, r0] 25)).heap.size = W.heap.size + 1 := by simp
    rw [← e]
    exact heap_alloc_new _ _
  have hx1 := hid hx1'
  have hsa := hid (fun w (h : Below W.heap.size W w) => smallK_any (K := 200) (by decide) (hA.below h))
  have hsb := hid (fun w (h : Below W.heap.size W w) => smallK_any (K := 200) (by decide) (hB.below h))
  have hlv := hid (fun w => clives_any w)
  have HA := hid hA
  have HB := hid hB
  have Hb2 := hid hb2
  have HEr := hid hE
  obtain ⟨na, nc, rfl, _⟩ := hA.1
  obtain ⟨ra, rc, rfl, _⟩ := hA.2
  obtain ⟨ma, mc, rfl, _⟩ := hB.1
  obtain ⟨qa, qc, rfl, _⟩ := hB.2
  clear hA hB hb2 hE hx1'
  go_enter Tryz.func3, Tryz.ntmps3
  go_wp2_with (first | (go_at_call 5; refine hnw.out.mono ?_; rintro e w1 ⟨⟨hb, ab, tb, tq, rfl, hH1, z1, z2, z3, z4⟩, hb1⟩; have HH1 := hid hH1; have Hb1 := hid (Below.next Hb2.out hb1); have Hx0 := hid ((hb1.block _ (lt_of_block hx0.out)).trans hx0.out); have Hx1 := hid ((hb1.block _ (lt_of_block hx1.out)).trans hx1.out); clear hH1 hb1) | (go_at_call 6; refine (hlv.out _).mono ?_; rintro e w2 ⟨rfl, hb2⟩; have HH2 := hid (HH1.out.below hb2); have Hb3 := hid (Below.next Hb1.out hb2); have Hy0 := hid ((hb2.block _ (lt_of_block Hx0.out)).trans Hx0.out); have Hy1 := hid ((hb2.block _ (lt_of_block Hx1.out)).trans Hx1.out); obtain ⟨⟨x0, x1⟩, _⟩ := cblk2 Hy0.out; obtain ⟨⟨y0, y1⟩, _⟩ := cblk2 Hy1.out; clear hb2) | (go_at_call 7; refine (hsa.out _ Hb3.out).mono ?_; rw [ka]; rintro e w3 ⟨rfl, hb3⟩; have Hb4 := hid (Below.next Hb3.out hb3); have HH3 := hid (HH2.out.below hb3); have Hz0 := hid ((hb3.block _ (lt_of_block Hy0.out)).trans Hy0.out); have Hy2 := hid ((hb3.block _ (lt_of_block Hy1.out)).trans Hy1.out); obtain ⟨⟨v0, v1⟩, _⟩ := cblk2 Hy2.out; clear hb3))
  go_ret
  exact ⟨rfl, Hb4.out⟩
set_option maxRecDepth 100000 in
set_option maxHeartbeats 8000000 in
theorem back_b {W : World} (hE : ErrC W) {n0 r0 n1 r1 : Value} {a b : Gf} (hA : Gr W n0 r0 a) (hB : Gr W n1 r1 b) (ka : smallK 200 a = true) (kb : smallK 200 b = false) :
    Calls Tryz.prog 3 #[.agg #[n0, r0], .agg #[n1, r1]] W fun e w' => e = .returned (.bool true) ∧ Below W.heap.size W w' := by
  have hb2 : Below W.heap.size W ((W.alloc (.cells #[n0, r0] 25)).alloc (.cells #[n1, r1] 25)) := (below_alloc W _).alloc (by simp) _
  have hnw := hid (hnew_ok 30000 ((W.alloc (.cells #[n0, r0] 25)).alloc (.cells #[n1, r1] 25)) (W.heap.size + 2) (by simp) (by decide) (by decide))
  have hx0 : Hid (((W.alloc (.cells #[n0, r0] 25)).alloc (.cells #[n1, r1] 25)).heap[W.heap.size]? = some (.cells #[n0, r0] 25)) := (Below.heap_alloc _ _ _ (by simp)).trans (heap_alloc_new W _)
  have hx1' : ((W.alloc (.cells #[n0, r0] 25)).alloc (.cells #[n1, r1] 25)).heap[W.heap.size + 1]? = some (.cells #[n1, r1] 25) := by
    have e : (W.alloc (.cells #[n0, r0] 25)).heap.size = W.heap.size + 1 := by simp
    rw [← e]
    exact heap_alloc_new _ _
  have hx1 := hid hx1'
  have hsa := hid (fun w (h : Below W.heap.size W w) => smallK_any (K := 200) (by decide) (hA.below h))
  have hsb := hid (fun w (h : Below W.heap.size W w) => smallK_any (K := 200) (by decide) (hB.below h))
  have hlv := hid (fun w => clives_any w)
  have HA := hid hA
  have HB := hid hB
  have Hb2 := hid hb2
  have HEr := hid hE
  obtain ⟨na, nc, rfl, _⟩ := hA.1
  obtain ⟨ra, rc, rfl, _⟩ := hA.2
  obtain ⟨ma, mc, rfl, _⟩ := hB.1
  obtain ⟨qa, qc, rfl, _⟩ := hB.2
  clear hA hB hb2 hE hx1'
  go_enter Tryz.func3, Tryz.ntmps3
  go_wp2_with (first | (go_at_call 5; refine hnw.out.mono ?_; rintro e w1 ⟨⟨hb, ab, tb, tq, rfl, hH1, z1, z2, z3, z4⟩, hb1⟩; have HH1 := hid hH1; have Hb1 := hid (Below.next Hb2.out hb1); have Hx0 := hid ((hb1.block _ (lt_of_block hx0.out)).trans hx0.out); have Hx1 := hid ((hb1.block _ (lt_of_block hx1.out)).trans hx1.out); clear hH1 hb1) | (go_at_call 6; refine (hlv.out _).mono ?_; rintro e w2 ⟨rfl, hb2⟩; have HH2 := hid (HH1.out.below hb2); have Hb3 := hid (Below.next Hb1.out hb2); have Hy0 := hid ((hb2.block _ (lt_of_block Hx0.out)).trans Hx0.out); have Hy1 := hid ((hb2.block _ (lt_of_block Hx1.out)).trans Hx1.out); obtain ⟨⟨x0, x1⟩, _⟩ := cblk2 Hy0.out; obtain ⟨⟨y0, y1⟩, _⟩ := cblk2 Hy1.out; clear hb2) | (go_at_call 7; refine (hsb.out _ Hb4.out).mono ?_; rw [kb]; rintro e w4 ⟨rfl, hb4⟩; have Hb5 := hid (Below.next Hb4.out hb4); have HH4 := hid (HH3.out.below hb4); have Hz1 := hid ((hb4.block _ (lt_of_block Hz0.out)).trans Hz0.out); have Hy3 := hid ((hb4.block _ (lt_of_block Hy2.out)).trans Hy2.out); obtain ⟨⟨t0, t1⟩, _⟩ := cblk2 Hz1.out; obtain ⟨⟨u0, u1⟩, _⟩ := cblk2 Hy3.out; clear hb4) | (go_at_call 7; refine (hsa.out _ Hb3.out).mono ?_; rw [ka]; rintro e w3 ⟨rfl, hb3⟩; have Hb4 := hid (Below.next Hb3.out hb3); have HH3 := hid (HH2.out.below hb3); have Hz0 := hid ((hb3.block _ (lt_of_block Hy0.out)).trans Hy0.out); have Hy2 := hid ((hb3.block _ (lt_of_block Hy1.out)).trans Hy1.out); obtain ⟨⟨v0, v1⟩, _⟩ := cblk2 Hy2.out; clear hb3))
  go_ret
  exact ⟨rfl, Hb5.out⟩
set_option maxRecDepth 100000 in
set_option maxHeartbeats 8000000 in
theorem back_c {W : World} (hE : ErrC W) {n0 r0 n1 r1 : Value} {a b : Gf} (hA : Gr W n0 r0 a) (hB : Gr W n1 r1 b) (sA : Sized a) (sB : Sized b) (ka : smallK 200 a = true) (kb : smallK 200 b = true) :
    Calls Tryz.prog 3 #[.agg #[n0, r0], .agg #[n1, r1]] W fun e w' => e = .returned (.bool true) ∧ Below W.heap.size W w' := by
  have hb2 : Below W.heap.size W ((W.alloc (.cells #[n0, r0] 25)).alloc (.cells #[n1, r1] 25)) := (below_alloc W _).alloc (by simp) _
  have hnw := hid (hnew_ok 30000 ((W.alloc (.cells #[n0, r0] 25)).alloc (.cells #[n1, r1] 25)) (W.heap.size + 2) (by simp) (by decide) (by decide))
  have hx0 : Hid (((W.alloc (.cells #[n0, r0] 25)).alloc (.cells #[n1, r1] 25)).heap[W.heap.size]? = some (.cells #[n0, r0] 25)) := (Below.heap_alloc _ _ _ (by simp)).trans (heap_alloc_new W _)
  have hx1' : ((W.alloc (.cells #[n0, r0] 25)).alloc (.cells #[n1, r1] 25)).heap[W.heap.size + 1]? = some (.cells #[n1, r1] 25) := by
    have e : (W.alloc (.cells #[n0, r0] 25)).heap.size = W.heap.size + 1 := by simp
    rw [← e]
    exact heap_alloc_new _ _
  have hx1 := hid hx1'
  have hsa := hid (fun w (h : Below W.heap.size W w) => smallK_any (K := 200) (by decide) (hA.below h))
  have hsb := hid (fun w (h : Below W.heap.size W w) => smallK_any (K := 200) (by decide) (hB.below h))
  have hlv := hid (fun w => clives_any w)
  have HA := hid hA
  have HB := hid hB
  have Hb2 := hid hb2
  have HEr := hid hE
  obtain ⟨na, nc, rfl, _⟩ := hA.1
  obtain ⟨ra, rc, rfl, _⟩ := hA.2
  obtain ⟨ma, mc, rfl, _⟩ := hB.1
  obtain ⟨qa, qc, rfl, _⟩ := hB.2
  clear hA hB hb2 hE hx1'
  go_enter Tryz.func3, Tryz.ntmps3
  go_wp2_with (first | (go_at_call 5; refine hnw.out.mono ?_; rintro e w1 ⟨⟨hb, ab, tb, tq, rfl, hH1, z1, z2, z3, z4⟩, hb1⟩; have HH1 := hid hH1; have Hb1 := hid (Below.next Hb2.out hb1); have Hx0 := hid ((hb1.block _ (lt_of_block hx0.out)).trans hx0.out); have Hx1 := hid ((hb1.block _ (lt_of_block hx1.out)).trans hx1.out); clear hH1 hb1) | (go_at_call 6; refine (hlv.out _).mono ?_; rintro e w2 ⟨rfl, hb2⟩; have HH2 := hid (HH1.out.below hb2); have Hb3 := hid (Below.next Hb1.out hb2); have Hy0 := hid ((hb2.block _ (lt_of_block Hx0.out)).trans Hx0.out); have Hy1 := hid ((hb2.block _ (lt_of_block Hx1.out)).trans Hx1.out); obtain ⟨⟨x0, x1⟩, _⟩ := cblk2 Hy0.out; obtain ⟨⟨y0, y1⟩, _⟩ := cblk2 Hy1.out; clear hb2) | (go_at_call 7; refine (hsb.out _ Hb4.out).mono ?_; rw [kb]; rintro e w4 ⟨rfl, hb4⟩; have Hb5 := hid (Below.next Hb4.out hb4); have HH4 := hid (HH3.out.below hb4); have Hz1 := hid ((hb4.block _ (lt_of_block Hz0.out)).trans Hz0.out); have Hy3 := hid ((hb4.block _ (lt_of_block Hy2.out)).trans Hy2.out); obtain ⟨⟨t0, t1⟩, _⟩ := cblk2 Hz1.out; obtain ⟨⟨u0, u1⟩, _⟩ := cblk2 Hy3.out; clear hb4) | (go_at_call 7; refine (hsa.out _ Hb3.out).mono ?_; rw [ka]; rintro e w3 ⟨rfl, hb3⟩; have Hb4 := hid (Below.next Hb3.out hb3); have HH3 := hid (HH2.out.below hb3); have Hz0 := hid ((hb3.block _ (lt_of_block Hy0.out)).trans Hy0.out); have Hy2 := hid ((hb3.block _ (lt_of_block Hy1.out)).trans Hy1.out); obtain ⟨⟨v0, v1⟩, _⟩ := cblk2 Hy2.out; clear hb3))
  have hbl := below_alloc w4 (.cells #[.slice na a.nodes.length nc, .slice ra a.roots.length rc, .slice ma b.nodes.length mc, .slice qa b.roots.length qc] 25)
  have hxl := heap_alloc_new w4 (.cells #[.slice na a.nodes.length nc, .slice ra a.roots.length rc, .slice ma b.nodes.length mc, .slice qa b.roots.length qc] 25)
  have hz4 : W.heap.size + 2 ≤ w4.heap.size := by
    have h1 := HH4.out.base
    have h2 := lt_of_block HH4.out.blk
    omega
  have hst : Hid (Bl W (w4.alloc (.cells #[.slice na a.nodes.length nc, .slice ra a.roots.length rc, .slice ma b.nodes.length mc, .slice qa b.roots.length qc] 25)) hb w4.heap.size (.slice na a.nodes.length nc) (.slice ra a.roots.length rc) (.slice ma b.nodes.length mc) (.slice qa b.roots.length qc) (hb :: a_foot ab (.slice none 0 0)) [] [] 0) := by
    refine ⟨⟨ab, tb, _, _, tq, _, _, 0, _, HH4.out.below hbl, rfl, snd_nil, nsb_nil _, Below.next Hb5.out hbl, by simp; omega⟩, Nat.zero_le _, Nat.zero_le _, hxl, fun hx => ?_⟩
    rcases List.mem_cons.1 hx with e | hx
    · have := lt_of_block HH4.out.blk
      omega
    · rcases a_mem_foot.1 hx with e | e
      · have := HH4.out.ar.lt
        omega
      · cases e
  have HsA := hid sA
  have HsB := hid sB
  clear hbl hxl t0 t1 u0 u1 v0 v1 x0 x1 y0 y1 hlv hsa hsb hnw
  go_loopw [8, 9, 10, 11, 12, 13, 14, 15, 42] (fun _ _ _ _ _ _ _ _ i wr => ∃ (j : Nat) (F : List Nat) (l : List Int) (ns : List ByteArray), j ≤ 2 ∧ i = .int .i64 (j : Int) ∧ Hid (Bl W wr hb w4.heap.size (.slice na a.nodes.length nc) (.slice ra a.roots.length rc) (.slice ma b.nodes.length mc) (.slice qa b.roots.length qc) F l ns j)) (fun _ _ _ _ _ _ _ _ i _ => 2 - (intOf i).toNat)
  case atStart => exact ⟨0, _, _, _, Nat.zero_le _, rfl, hst⟩
  case round =>
    clear hst
    obtain ⟨j, F, l, ns, hj, rfl, HL⟩ := hrel
    by_cases hlt : j < 2
    · have hji : (j : Int) < 2 := by omega
      obtain ⟨na', ln, nc', ra', lr, rc', g, c0, c1, hG, hS, hk, hln, hlr⟩ : ∃ na' ln nc' ra' lr rc' g, wr.cell? ⟨w4.heap.size, j * 2, none⟩ = some (.slice na' ln nc') ∧ wr.cell? ⟨w4.heap.size, j * 2 + 1, none⟩ = some (.slice ra' lr rc') ∧ Gr W (.slice na' ln nc') (.slice ra' lr rc') g ∧ Sized g ∧ smallK 200 g = true ∧ ln = g.nodes.length ∧ lr = g.roots.length := by
        obtain ⟨c0, c1, c2, c3⟩ := bl_cells HL.out.blk
        rcases (show j = 0 ∨ j = 1 by omega) with rfl | rfl
        · exact ⟨_, _, _, _, _, _, a, c0, c1, HA.out, HsA.out, ka, rfl, rfl⟩
        · exact ⟨_, _, _, _, _, _, b, c2, c3, HB.out, HsB.out, kb, rfl, rfl⟩
      subst hln hlr
      have HG := hid hG
      have HS := hid hS
      clear hG hS
      obtain ⟨_, kn, kr⟩ := smallK_fits hk
      have HLb := hid (below_alloc wr (.cells #[.slice na' g.nodes.length nc', .slice ra' g.roots.length rc'] 25))
      have HK8 := hid (HL.out.h.below HLb.out)
      have HQ8 := hid (heap_alloc_new wr (.cells #[.slice na' g.nodes.length nc', .slice ra' g.roots.length rc'] 25))
      obtain ⟨⟨q0, q1⟩, _⟩ := cblk2 HQ8.out
      have zq := lt_of_block HQ8.out
      have hL : l.length ≤ 2000 := by
        have := HL.out.lz
        omega
      have hN : ns.length ≤ 200 := by
        have := HL.out.nz
        omega
      by_cases hck : one (chk g) = []
      · have hg := chk_good hck
        have Hg := hid hg
        have Hck := hid hck
        obtain ⟨ee, he⟩ := al_dec g
        have He := hid he
        obtain ⟨_, s2, s3, s4⟩ := bk_sizes hg kn kr ns l
        have Hs3 := hid s3
        have hnf : w4.heap.size ∉ F := HL.out.out
        have hqf : wr.heap.size ∉ F := fun hx => by
          have := HL.out.h.lt _ hx
          omega
        have HNF := hid hnf
        have HQF := hid hqf
        have HFi := hid (fitsC (trim_good0 (quo_good hg (al_eqv hg he))))
        obtain ⟨wj, hwj⟩ : ∃ wj, wj = wantJ g (metF g) (metF g).length := ⟨_, rfl⟩
        have hnd := hid (fun w h => need_ok (.pointer (some ⟨hb, 0, none⟩)) (W := w) (HG.out.below (w' := w) h) HS.out hck)
        rw [← hwj] at s2 s4 hnd
        replace hwj := hid hwj
        replace s4 : ((wdP l ns g).length : Int) = (l.length : Int) + (wj : Int) := by omega
        have Hs4 := hid s4
        clear hg hck he s3 hnf hqf s4
        go_wp2_with (first
          | (go_at_call 8; refine (btop_any HK8.out).mono ?_; rintro e w5 ⟨rfl, hw⟩; replace hw := hw.symm; subst hw)
          | (go_at_call 9; refine (hnd.out _ HK8.out.bw).mono ?_; rintro e w6 ⟨rfl, hb6⟩; have HK6 := hid (HK8.out.below hb6); have Hz6 := hid hb6.size; have HQ6 := hid ((hb6.block _ zq).trans HQ8.out); have HL6 := hid ((Below.next HLb.out hb6).block _ (lt_of_block HL.out.blk) |>.trans HL.out.blk); obtain ⟨⟨p0, p1⟩, _⟩ := cblk2 HQ6.out; clear hb6)
          | (go_at_call 10; refine (bput_ok HK6.out (Nat.le_add_right _ _) hL hN HG.out HS.out Hck.out kn kr).mono ?_; rintro e w7 ⟨ao, rc7, F7, rfl, hR7, hK7, hM7, hF7, _⟩; have HR7 := hid hR7; have HK7 := hid hK7; have HQ7 := hid ((hM7.block _ (lt_of_block HQ6.out) HQF.out).trans HQ6.out); have HL7 := hid ((hM7.block _ (lt_of_block HL6.out) HNF.out).trans HL6.out); have HF7 := hid (hF7 _ (lt_of_block HL6.out) HNF.out); obtain ⟨⟨o0, o1⟩, _⟩ := cblk2 HQ7.out; clear hR7 hK7 hM7 hF7))
        have htp : ∀ wk, (∃ k, wk = w7.drewN k) → Calls Tryz.prog 8 #[.pointer (some ⟨hb, 0, none⟩)] wk fun e w' => e = .returned (.int .i64 ((l.length : Int) + (wj : Int))) ∧ w' = wk := by
          rintro _ ⟨k, rfl⟩
          have := btop_any (HK7.out.below (drewC w7 k))
          rw [Hs4.out] at this
          exact this
        have Htp := hid htp
        clear htp
        have hsub : (l.length : Int) + (wj : Int) - (l.length : Int) = (wj : Int) := by omega
        go_quiet ((go_at_call 8; exact Calls.quiet_of_same (Htp.out _ (by first | assumption | exact ⟨_, rfl⟩))))
        have HBd := hid (drewC w7 nq)
        have HKd := hid (HK7.out.below HBd.out)
        have HQd := hid ((HBd.out.block _ (lt_of_block HQ7.out)).trans HQ7.out)
        have HLd := hid ((HBd.out.block _ (lt_of_block HL7.out)).trans HL7.out)
        have HRd := hid (HR7.out.below HBd.out)
        clear o0 o1 p0 p1 q0 q1
        go_wp2_with (first
          | (go_at_call 12; refine (bget_ok HL.out.h HKd.out hL hN Hg.out kn kr HRd.out ee He.out).mono ?_; rintro e w9 ⟨⟨gn, gr, rfl, hG9⟩, hb9⟩; obtain ⟨⟨ga, gl, gc, rfl⟩, ⟨ga', gl', gc', rfl⟩⟩ := gr_sl hG9; have hbA := Below.next hb9 (below_alloc w9 (.cells #[.slice ga gl gc, .slice ga' gl' gc'] 25)); have HKA := hid (HKd.out.below hbA); have HQA := hid ((hbA.block _ (lt_of_block HQd.out)).trans HQd.out); have HLA := hid ((hbA.block _ (lt_of_block HLd.out)).trans HLd.out); have HGA := hid (hG9.below (below_alloc w9 (.cells #[.slice ga gl gc, .slice ga' gl' gc'] 25))); have HXA := hid (heap_alloc_new w9 (.cells #[.slice ga gl gc, .slice ga' gl' gc'] 25)); obtain ⟨⟨d0, d1⟩, _⟩ := cblk2 HQA.out; clear hb9 hbA hG9)
          | (go_at_call 13; refine (quot_good (HG.out.below HKA.out.bw) HS.out Hck.out ee He.out).mono ?_; rintro e wb ⟨⟨qn, qr, qv, rfl, hOq⟩, hbb⟩; obtain ⟨⟨qa1, ql, qc1, rfl⟩, ⟨qa2, ql', qc2, rfl⟩⟩ := gr_sl hOq.gr; have hbC := Below.next hbb (below_alloc wb (.cells #[.slice qa1 ql qc1, .slice qa2 ql' qc2] 25)); have HKC := hid (HKA.out.below hbC); have HQC := hid ((hbC.block _ (lt_of_block HQA.out)).trans HQA.out); have HLC := hid ((hbC.block _ (lt_of_block HLA.out)).trans HLA.out); have HGC := hid (HGA.out.below hbC); have HXC := hid ((hbC.block _ (lt_of_block HXA.out)).trans HXA.out); have HYC := hid (heap_alloc_new wb (.cells #[.slice qa1 ql qc1, .slice qa2 ql' qc2] 25)); have HGq := hid (hOq.gr.below (below_alloc wb (.cells #[.slice qa1 ql qc1, .slice qa2 ql' qc2] 25))); obtain ⟨⟨f0, f1⟩, _⟩ := cblk2 HQC.out; obtain ⟨⟨g0, g1⟩, _⟩ := cblk2 HXC.out; obtain ⟨⟨i0, i1⟩, _⟩ := cblk2 HYC.out; clear hbb hbC hOq)
          | (go_at_call 14; refine (same_any HGC.out HGq.out HFi.out).mono ?_; rw [eqG_yes]; rintro e wd ⟨rfl, hbd⟩; have HKE := hid (HKC.out.below hbd); have HLE := hid ((hbd.block _ (lt_of_block HLC.out)).trans HLC.out); clear hbd))
        go_roundw
        case rel => exact ⟨j + 1, F7, wdP l ns g, nsP ns g, by omega, by go_num, HKE.out, by have := Hs4.out; have := HL.out.lz; omega, by have := Hs3.out; have := HL.out.nz; omega, HLE.out, HF7.out⟩
        case measure => simp [intOf]; omega
      · have Hck := hid hck
        go_wp2_with (first
          | (go_at_call 8; refine (btop_any HK8.out).mono ?_; rintro e w5 ⟨rfl, hw⟩; replace hw := hw.symm; subst hw)
          | (go_at_call 9; refine (need_bad _ (HEr.out.below HK8.out.bw) (HG.out.below HK8.out.bw) HS.out Hck.out).mono ?_; rintro e w6 ⟨⟨b6, rfl⟩, hb6⟩; have HK6 := hid (HK8.out.below hb6); have HQ6 := hid ((hb6.block _ zq).trans HQ8.out); obtain ⟨⟨p0, p1⟩, _⟩ := cblk2 HQ6.out; clear hb6)
          | (go_at_call 10; refine (hput_bad _ (HEr.out.below HK6.out.bw) (HG.out.below HK6.out.bw) HS.out Hck.out).mono ?_; rintro e w7 ⟨⟨b7, rfl⟩, hb7⟩; have HK7 := hid (HK6.out.below hb7); have HQ7 := hid ((hb7.block _ (lt_of_block HQ6.out)).trans HQ6.out); obtain ⟨⟨o0, o1⟩, _⟩ := cblk2 HQ7.out; clear hb7))
        go_quiet (fail)
        have HBd := hid (drewC w7 nq)
        have HKd := hid (HK7.out.below HBd.out)
        have HQd := hid ((HBd.out.block _ (lt_of_block HQ7.out)).trans HQ7.out)
        obtain ⟨⟨d0, d1⟩, _⟩ := cblk2 HQd.out
        go_wp2_with (first
          | (go_at_call 11; refine (check_any (HG.out.below HKd.out.bw) HS.out).mono ?_; rintro e w9 ⟨⟨ev, rfl, hEv⟩, hb9⟩; obtain ⟨b9, rfl⟩ := er_some hEv Hck.out; have HK9 := hid (HKd.out.below hb9); clear hb9 hEv)
          | (go_at_call 8; refine (btop_any HK9.out).mono ?_; rintro e w10 ⟨rfl, hw⟩; replace hw := hw.symm; subst hw))
        go_ret
        exact ⟨rfl, HK9.out.bw⟩
    · have hji : ¬ (j : Int) < 2 := by omega
      have hw := HL.out.h.bw
      go_wp2
      go_ret
      exact ⟨rfl, hw⟩
end Go.Proofs.YtnpopfmmebaihaaGreatDoor

/- CellsBack: the whole walk. -/
namespace Go.Proofs.YtnpopfmmebaihaaGreatDoor
open Go.RowKit

theorem back_any {W : World} (hE : ErrC W) {n0 r0 n1 r1 : Value} {a b : Gf} (hA : Gr W n0 r0 a) (sA : Sized a) (hB : Gr W n1 r1 b) (sB : Sized b) :
    Calls Tryz.prog 3 #[.agg #[n0, r0], .agg #[n1, r1]] W fun e w' => e = .returned (.bool true) ∧ Below W.heap.size W w' := by
  cases ka : smallK 200 a with
  | false => exact back_a hE hA hB ka
  | true =>
    cases kb : smallK 200 b with
    | false => exact back_b hE hA hB ka kb
    | true => exact back_c hE hA hB sA sB ka kb
end Go.Proofs.YtnpopfmmebaihaaGreatDoor

/- What the rows' condition on package-level variables gives package cells, and that the program's own start meets it. -/
namespace Go.Proofs.YtnpopfmmebaihaaGreatDoor
open Go.ChangeShapes Go.WideShapes Go.ChangeAt Go.RowKit

theorem globEt : Tryz.prog.globalNamed "errors.errorType" = some 0 := by kernel_rfl
theorem rtEt : (Tryz.prog.cutTypes.find? (·.1 == "internal/reflectlite.rtype")).map (·.2) = some 207 := by kernel_rfl
theorem oneEt : ((List.range 256).filter fun t => Tryz.prog.rowNamed t [101, 114, 114, 111, 114]) = [28] := by kernel_rfl
theorem sizeEt : Tryz.prog.types.size = 256 := by kernel_rfl
set_option maxRecDepth 100000 in
theorem ready_of_laid {W : World} (h : laidMetH Tryz.prog Rows.cellsBackRow.laid W) : ErrC W := by
  have h' : laidMet Tryz.prog [] W ∧ handlesMet Tryz.prog [("errors.errorType", Rows.laid_errors_errorType)] W := h
  obtain ⟨name, u, ty, e1, e2, e3, e4, e5⟩ := h'.2 _ (List.mem_singleton.2 rfl)
  have en : name = [101, 114, 114, 111, 114] := (Option.some.inj e1).symm
  subst en
  obtain rfl := Option.some.inj (rtEt.symm.trans e2)
  have hm : ty ∈ (List.range 256).filter fun t => Tryz.prog.rowNamed t [101, 114, 114, 111, 114] := List.mem_filter.2 ⟨List.mem_range.2 (by rw [← sizeEt]; exact e3), e4⟩
  rw [oneEt] at hm
  obtain rfl := List.mem_singleton.1 hm
  have hh : typeHandle Tryz.prog 28 = .pointer (some ⟨1, 28, none⟩) := by kernel_rfl
  rw [hh] at e5
  have := World.var?_cell globEt e5 0
  show W.cell? _ = _
  simpa using this
/-- The door's own heap meets the condition. -/
theorem door_met (os : Os) (args : Array Value) : laidMetH Tryz.prog Rows.cellsBackRow.laid ((World.doorLaid Tryz.prog 16 os).forCall (fun _ _ => 0) ⟨#[], args, []⟩).memory :=
  laidMetH_of_parts3 (fuel := 8) (laidMet_of_run' 8 (by kernel_rfl) (by kernel_rfl)) (by kernel_rfl) (by kernel_rfl)
end Go.Proofs.YtnpopfmmebaihaaGreatDoor

/- Tie of tendrilref08. -/
import Derived.BigQuiet
import Derived.Test.Ytjkcffcedbcjmaata48Z
import Derived.Test.Ytjkcffcedbcjmaata49Z
import Derived.Test.Ytjkcffcedbcjmaata46Z
namespace Go.Proofs.Ytjkcffcedbcjmaa
set_option maxRecDepth 100000
open Go.RowKit Go.Maps
set_option maxHeartbeats 400000 in
theorem rbad8_any (c a : Int) (s : ByteArray) (w : World) :
    Calls Try.prog 33 #[fV c a s] w fun e w' => e = .returned (.bool (c != 0)) ∧ Below w.heap.size w w' := by
  have hb := below_alloc w (fO c a s)
  obtain ⟨⟨z0, z1, z2, z3⟩, _⟩ := blk4 (heap_alloc_new w (fO c a s))
  go_enter Try.func33, Try.ntmps33
  go_wp2
  go_ret
  exact ⟨rfl, hb⟩
theorem prt_take_le : ∀ (xs : List Ex) (t : Nat), prtXs (xs.take t) ≤ prtXs xs
  | [], t => by rw [List.take_nil]; exact Nat.le_refl _
  | x :: r, 0 => by rw [List.take_zero]; simp [prtXs]
  | x :: r, t + 1 => by
    rw [List.take_succ_cons, prtXs, prtXs]
    have := prt_take_le r t
    omega
theorem prt_app : ∀ (xs ys : List Ex), prtXs (xs ++ ys) = prtXs xs + prtXs ys
  | [], ys => by rw [List.nil_append, prtXs]; omega
  | x :: r, ys => by rw [List.cons_append, prtXs, prtXs, prt_app r ys]; omega
theorem prt_qs : ∀ qs : List (ByteArray × Ex), prtXs (qs.map (·.2)) ≤ prtQ qs
  | [] => by simp [prtXs]
  | q :: r => by
    rw [List.map_cons, prtXs, prtQ]
    have := prt_qs r
    omega
theorem prt_ys (xs : List Ex) (qs : List (ByteArray × Ex)) : prtXs (ysF xs qs) ≤ prtXs xs + prtQ qs := by
  rw [prt_app]
  have := prt_qs qs
  omega
theorem prt_mem : ∀ {xs : List Ex} {x : Ex}, x ∈ xs → prtX x ≤ prtXs xs
  | y :: r, x, h => by
    rw [prtXs]
    rcases List.mem_cons.1 h with e | e
    · subst e; omega
    · have := prt_mem e
      omega
set_option maxHeartbeats 16000000 in
theorem rtie_ok {W0 : World} {xv qv : Value} {xs : List Ex} {qs : List (ByteArray × Ex)} (hX : Rxs W0 xv xs) (hQ : Rqs W0 qv qs) (hzx : szXs xs) (hzq : ∀ q ∈ qs, q.1.size ≤ 281474976710656 ∧ szX q.2) (hlx : xs.length ≤ 100) (hlq : qs.length ≤ 100) (hp : prtXs xs + prtQ qs ≤ 350) (hc : (chkT xs qs).1 = 0) (ee : Nat → Nat → Bool) (he : ∀ x y : Nat, (ee x y = true ↔ Al (smlG xs qs) (x : Int) (y : Int))) :
    Calls Try.prog 10 #[xv, qv] W0 fun r w' => (∃ nv' rv' mo mc, r = .returned (.tuple #[.agg #[nv', rv'], .slice mo (nmdF ee (smlG xs qs) (fun i => (posF (metF (allG xs qs)) (stdF xs qs i)).toNat) (namA xs qs) (namA xs qs).length).length mc, fV 0 0 ⟨#[]⟩]) ∧ Gr w' nv' rv' (trimF (quoF ee (smlG xs qs))) ∧ w'.ownsRow W0.heap.size 56 2 (.slice mo (nmdF ee (smlG xs qs) (fun i => (posF (metF (allG xs qs)) (stdF xs qs i)).toNat) (namA xs qs) (namA xs qs).length).length mc) (nmdF ee (smlG xs qs) (fun i => (posF (metF (allG xs qs)) (stdF xs qs i)).toNat) (namA xs qs) (namA xs qs).length).length (mcells (nmdF ee (smlG xs qs) (fun i => (posF (metF (allG xs qs)) (stdF xs qs i)).toNat) (namA xs qs) (namA xs qs).length))) ∧ Below W0.heap.size W0 w' := by
  obtain ⟨i0, hi, hz0, hz1, hz2⟩ := info_parts infoI
  obtain ⟨i1, hi1, hy0, hy1, hy2⟩ := info_parts infoN
  have hT := chkT_good hc
  have HX := hid hX
  have HQ := hid hQ
  obtain ⟨xo, xc, rfl, hXa0⟩ := hX
  obtain ⟨qo, qc, rfl, hQa0⟩ := hQ
  have b2 : Below W0.heap.size W0 ((W0.alloc (.cells #[.slice none 0 0, .slice none 0 0] 29)).alloc (.cells #[.int .i64 0, .int .i64 0, .string ⟨#[]⟩, .slice none 0 0] 37)) := (below_alloc W0 _).alloc (by simp) _
  have hx0 : ((W0.alloc (.cells #[.slice none 0 0, .slice none 0 0] 29)).alloc (.cells #[.int .i64 0, .int .i64 0, .string ⟨#[]⟩, .slice none 0 0] 37)).heap[W0.heap.size]? = some (.cells #[.slice none 0 0, .slice none 0 0] 29) := by
    rw [Below.heap_alloc _ _ _ (by simp)]
    exact heap_alloc_new W0 _
  have hx1 : ((W0.alloc (.cells #[.slice none 0 0, .slice none 0 0] 29)).alloc (.cells #[.int .i64 0, .int .i64 0, .string ⟨#[]⟩, .slice none 0 0] 37)).heap[W0.heap.size + 1]? = some (.cells #[.int .i64 0, .int .i64 0, .string ⟨#[]⟩, .slice none 0 0] 37) := by
    simpa using heap_alloc_new (W0.alloc (.cells #[.slice none 0 0, .slice none 0 0] 29)) (.cells #[.int .i64 0, .int .i64 0, .string ⟨#[]⟩, .slice none 0 0] 37)
  have hck := rtcheck_any (HX.out.next b2) (HQ.out.next b2) hzx hzq hlx hlq hp
  have hck2 := hid hck
  have hcd := hid hc
  clear hck hc
  have hcks : Calls Try.prog 32 #[.slice xo xs.length xc, .slice qo qs.length qc] ((W0.alloc (.cells #[.slice none 0 0, .slice none 0 0] 29)).alloc (.cells #[.int .i64 0, .int .i64 0, .string ⟨#[]⟩, .slice none 0 0] 37)) fun e w' => (∃ a c, e = .returned (.tuple #[.slice a (namA xs qs).length c, fV 0 0 ⟨#[]⟩]) ∧ Rsn w' (.slice a (namA xs qs).length c) (namA xs qs)) ∧ Hid (Below ((W0.alloc (.cells #[.slice none 0 0, .slice none 0 0] 29)).alloc (.cells #[.int .i64 0, .int .i64 0, .string ⟨#[]⟩, .slice none 0 0] 37)).heap.size ((W0.alloc (.cells #[.slice none 0 0, .slice none 0 0] 29)).alloc (.cells #[.int .i64 0, .int .i64 0, .string ⟨#[]⟩, .slice none 0 0] 37)) w') := by
    refine hck2.out.mono ?_
    rintro e w' ⟨h, hb⟩
    rcases h with ⟨_, a, c, rfl, ho⟩ | ⟨h1, _⟩
    · exact ⟨⟨a, c, rfl, Rsn.own ho⟩, hb⟩
    · exact absurd hcd.out h1
  clear hck2
  have hbx := hid (fun (w' : World) (h : Below ((W0.alloc (.cells #[.slice none 0 0, .slice none 0 0] 29)).alloc (.cells #[.int .i64 0, .int .i64 0, .string ⟨#[]⟩, .slice none 0 0] 37)).heap.size ((W0.alloc (.cells #[.slice none 0 0, .slice none 0 0] 29)).alloc (.cells #[.int .i64 0, .int .i64 0, .string ⟨#[]⟩, .slice none 0 0] 37)) w') => And.intro (Below.next b2 h) (And.intro ((h.block _ (lt_of_block hx0)).trans hx0) ((h.block _ (lt_of_block hx1)).trans hx1)))
  have hXa := hid hXa0
  have hQa := hid hQa0
  have HT := hid hT
  have HZX := hid hzx
  have HE := hid he
  have hnl : (namA xs qs).length ≤ 350 := by have := namA_len xs qs; omega
  have hprX := hid (fun j => prt_take xs j)
  clear hXa0 hQa0 hT hx0 hx1 b2 he hcd
  go_enter Try.func10, Try.ntmps10
  go_wp2_with (first
    | (go_at_call 33; refine (rbad8_any _ _ _ _).mono ?_; rintro e W ⟨rfl, hbW⟩; have hbW2 := hid (Below.next (below_alloc w2 (.cells #[.int .i64 0, .int .i64 0, .string ⟨#[]⟩, .slice none 0 0] 37)) hbW); clear hbW)
    | (go_at_call 32; refine hcks.mono ?_; clear hcks; rintro e w2 ⟨⟨so, sc, rfl, hns⟩, hb2⟩; have HNS := hid hns; clear hns))
  obtain ⟨hb0W2, hxw0, hxw1⟩ := hbx.out w2 hb2.out
  have hWb := Below.next hb0W2 hbW2.out
  have hz20 := hb0W2.size
  have hfx := hid (fun (w' : World) (h : Below W.heap.size W w') => And.intro ((Below.next hbW2.out h).block _ (lt_of_block hxw0) |>.trans hxw0) ((Below.next hbW2.out h).block _ (lt_of_block hxw1) |>.trans hxw1))
  have hzW1 : W0.heap.size + 1 < W.heap.size := by have := lt_of_block hxw1; have := hbW2.out.size; omega
  have HNW := hid (HNS.out.next hbW2.out)
  have HXW := hid (HX.out.next hWb)
  have HQW := hid (HQ.out.next hWb)
  have hT0 := hid (Tw.start W (.slice so (namA xs qs).length sc) (namA xs qs).length)
  have hyl : (ysF xs qs).length = xs.length + qs.length := by simp
  have hysx := hid (fun j (hj : j < xs.length) => (show (ysF xs qs).getD j x0 = xs.getD j x0 by simp [List.getD, List.getElem?_append_left hj]))
  have hysq := hid (fun j (hj : j < qs.length) => (show (ysF xs qs).getD (xs.length + j) x0 = (qs.getD j q0).2 by simp [List.getD, hj]))
  have hpr4 := hid (fun t => (show (putXs (namA xs qs) 0 ((ysF xs qs).take t)).2.length ≤ 350 by
    have h1 := putXs_prt (namA xs qs) 0 ((ysF xs qs).take t)
    have h2 := prt_ys xs qs
    have h3 := prt_take_le (ysF xs qs) t
    omega))
  have hprx := hid (fun x (hx : x ∈ ysF xs qs) => (show prtX x ≤ 350 by have h1 := prt_mem hx; have h2 := prt_ys xs qs; omega))
  have hput := hid (fun x (hx : x ∈ ysF xs qs) => rput_any (namA xs qs) x 0 (by
    rcases List.mem_append.1 hx with e | e
    · exact HT.out.ex x e
    · obtain ⟨q, hq, rfl⟩ := List.mem_map.1 e
      exact HT.out.q.ex q hq))
  have hl1 := hid (fun t => putXs_len1 (namA xs qs) 0 ((ysF xs qs).take t))
  clear hbx hb2 hb0W2 hxw0 hxw1 HNS
  go_loopw [10, 11, 12] (fun rv i _ wr => ∃ (j : Nat) (nv : Value) (avs : List Value) (ro : Option Addr) (rc : Nat), j ≤ xs.length ∧ i = .int .i64 (j : Int) ∧ rv = .slice ro j rc ∧ Hid (Tw W wr (W.heap.size + 1) W.heap.size (.slice so (namA xs qs).length sc) nv avs (putXs (namA xs qs) 0 ((ysF xs qs).take j)).2 (.slice ro j rc) (putXs (namA xs qs) 0 ((ysF xs qs).take j)).1 (namA xs qs).length [])) (fun _ i _ _ => xs.length - (intOf i).toNat)
  case atStart => exact ⟨0, _, _, _, _, Nat.zero_le _, rfl, rfl, by rw [List.take_zero, putXs]; exact hT0.out⟩
  case round =>
    clear hT0
    obtain ⟨j, nv, avs, ro, rc, hj, rfl, rfl, hTj⟩ := hrel
    have hjl : (putXs (namA xs qs) 0 ((ysF xs qs).take j)).1.length = j := by rw [hl1.out]; simp; omega
    have hpj := hpr4.out j
    by_cases hlt : j < xs.length
    · have hly : j < (ysF xs qs).length := by omega
      have hmy : (ysF xs qs).getD j x0 ∈ ysF xs qs := by simp only [List.getD, List.getElem?_eq_getElem hly, Option.getD_some]; exact List.getElem_mem hly
      obtain ⟨_, _, e1, hats⟩ := HXW.out
      injection e1 with e1 _ e2
      subst e1 e2
      obtain ⟨b, o, k', n', m', aa, al, ac, rfl, d0, d1, d2, d3, hx⟩ := hats j hlt
      have hbr := hTj.out.b
      have hz := lt_of_cell d0
      have c0 := ((bcell hbr).1 b _ hz).trans d0
      have c1 := ((bcell hbr).1 b _ hz).trans d1
      have c2 := ((bcell hbr).1 b _ hz).trans d2
      have c3 := ((bcell hbr).1 b _ hz).trans d3
      have hpx := hprx.out _ hmy
      have hcl := hput.out _ hmy
      have hst := hid (putXs_take (namA xs qs) 0 hly)
      rw [hysx.out j hlt] at hcl hpx hst
      have hcall := hcl W wr (W.heap.size + 1) W.heap.size _ _ nv avs _ hx hbr (Nat.le_refl _) HNW.out (by omega) hTj.out.pt hTj.out.hB (by omega)
      rw [Nat.zero_add] at hst
      have hstp := hid (fun w3 nv3 av3 (L3 : List Nd) h1 h2 h3 => hTj.out.put (w3 := w3) (nv3 := nv3) (avs3 := av3) (L3 := L3) h1 h2 h3)
      generalize hLd : (putXs (namA xs qs) 0 ((ysF xs qs).take j)).2 = L at hcall hst hTj hstp hpj
      generalize (putXs (namA xs qs) 0 ((ysF xs qs).take j)).1 = l at hTj hst hstp hjl
      generalize hyd : (putX (namA xs qs) L.length (xs.getD j x0)).1 = y at hcall hst
      subst hjl
      clear hLd hyd hcl hx d0 d1 d2 d3 hz hats hmy hbr hpx hTj
      go_wp2_with (first
        | (go_at_call 34; go_must (refine hcall.mono ?_; clear hcall; rintro e w3 ⟨nv3, av3, rfl, hP3, hS3, hb3⟩; have hT3 := hid (hstp.out w3 nv3 av3 _ hP3 hS3 hb3); clear hP3 hS3 hb3 hstp; have ho3 := World.ownsRow.alloc hT3.out.ro (.cells #[.int .i64 (y : Int)] 3); have hz3 := hT3.out.hB))
        | (at_builtin; go_must (refine wpList_append_lies _ rfl _ _ 27 rfl (W.heap.size + 1) 3 i0 (.int .i64 0) 1 8 Try.underlying27 hi hz0 hz1 hz2 rfl (by decide) (.slice ro l.length rc) l.length (l.map (Value.int .i64)) rfl ho3 ⟨w3.heap.size, 0, none⟩ 1 1 [.int .i64 (y : Int)] rfl (by rfl) (World.news_of_block (cs := #[.int .i64 (y : Int)]) (t := 3) (fr := (0, 0)) (heap_alloc_new w3 _)) (by simp [Value.oneCell']) (by omega) (by unfold maxLen; omega) (by omega) (by simp; omega) (w3.heap.size + 1) (by simp) ?_; intro g7 c7 w5 hown7 hg7 hat7 hlt7; have hT5 := hid (hT3.out.root hg7 hown7 hat7))))
      go_roundw
      case rel => exact ⟨l.length + 1, nv3, av3, some ⟨g7, 0, none⟩, c7, by omega, by go_num, rfl, by rw [hst.out]; exact hT5.out⟩
      case measure => simp [intOf]; omega
    · obtain rfl : j = xs.length := by omega
      have hmk := make_cls (namA xs qs).length (by omega)
      have hMk := hid hTj.out.make
      clear hTj
      obtain ⟨L1, hL1⟩ : ∃ L1, L1 = (putXs (namA xs qs) 0 ((ysF xs qs).take xs.length)).2 := ⟨_, rfl⟩
      obtain ⟨l1, hl1d⟩ : ∃ l1, l1 = (putXs (namA xs qs) 0 ((ysF xs qs).take xs.length)).1 := ⟨_, rfl⟩
      rw [← hL1, ← hl1d] at hMk
      have HL1 := hid hL1
      have Hl1 := hid hl1d
      clear hL1 hl1d hjl hpj
      go_wp2
      obtain ⟨rb, hrb⟩ : ∃ rb, rb = wr.heap.size := ⟨_, rfl⟩
      rw [← hrb] at hMk ⊢
      rw [List.nil_append] at hMk
      have hMk2 : Hid (Tw W (wr.alloc (irow (namA xs qs).length (fun _ => 0))) (W.heap.size + 1) W.heap.size (.slice so (namA xs qs).length sc) nv avs L1 (.slice ro xs.length rc) l1 (namA xs qs).length [(rb, upto (fun _ => -1) 0)]) := hMk.out.congr (A := []) (C := []) (fun i _ => by simp [upto])
      clear hMk hrb hmk
      go_loopw [14] (fun i wr2 => ∃ (j : Nat), j ≤ (namA xs qs).length ∧ i = .int .i64 (j : Int) ∧ Hid (Tw W wr2 (W.heap.size + 1) W.heap.size (.slice so (namA xs qs).length sc) nv avs L1 (.slice ro xs.length rc) l1 (namA xs qs).length [(rb, upto (fun _ => -1) j)])) (fun i _ => (namA xs qs).length - (intOf i).toNat)
      case atStart => exact ⟨0, Nat.zero_le _, rfl, hMk2.out⟩
      case round =>
        clear hMk2
        obtain ⟨j, hj, rfl, hTj⟩ := hrel
        by_cases hlt : j < (namA xs qs).length
        · obtain ⟨⟨x0, x1⟩, x2, _⟩ := hTj.out.cell (A := []) (C := []) hlt
          have hT2 := hid ((hTj.out.set (A := []) (C := []) j (-1)).congr (A := []) (C := []) (upto_one (F := fun _ => -1) (N := (namA xs qs).length) rfl))
          go_wp2
          go_roundw
          case rel => exact ⟨j + 1, by omega, by go_num, hT2.out⟩
          case measure => simp [intOf]; omega
        · obtain rfl : j = (namA xs qs).length := by omega
          have hT3 : Hid (Tw W wr (W.heap.size + 1) W.heap.size (.slice so (namA xs qs).length sc) nv avs (putXs (namA xs qs) 0 ((ysF xs qs).take (xs.length + 0))).2 (.slice ro xs.length rc) l1 (namA xs qs).length [(rb, rgtF (namA xs qs) (rawB xs qs) xs.length qs 0)]) := by
            have h9 := hTj.out.congr (A := []) (C := []) (g := rgtF (namA xs qs) (rawB xs qs) xs.length qs 0) (fun i hi => by rw [upto_last _ _ i hi]; rfl)
            rw [HL1.out] at h9
            exact h9
          clear hTj HL1
          go_wp2
          go_loopw [15, 16] (fun i _ wr2 => ∃ (j : Nat) (nv : Value) (avs : List Value), j ≤ qs.length ∧ i = .int .i64 (j : Int) ∧ Hid (Tw W wr2 (W.heap.size + 1) W.heap.size (.slice so (namA xs qs).length sc) nv avs (putXs (namA xs qs) 0 ((ysF xs qs).take (xs.length + j))).2 (.slice ro xs.length rc) l1 (namA xs qs).length [(rb, rgtF (namA xs qs) (rawB xs qs) xs.length qs j)])) (fun i _ _ => qs.length - (intOf i).toNat)
          case atStart => exact ⟨0, nv, avs, Nat.zero_le _, rfl, hT3.out⟩
          case round =>
            clear hT3
            obtain ⟨j, nv, avs, hj, rfl, hTj⟩ := hrel
            have hpj := hpr4.out (xs.length + j)
            by_cases hlt : j < qs.length
            · have hly : xs.length + j < (ysF xs qs).length := by omega
              have hmy : (ysF xs qs).getD (xs.length + j) x0 ∈ ysF xs qs := by simp only [List.getD, List.getElem?_eq_getElem hly, Option.getD_some]; exact List.getElem_mem hly
              obtain ⟨_, _, e1, hats⟩ := HQW.out
              injection e1 with e1 _ e2
              subst e1 e2
              obtain ⟨b, o, k', n', m', aa, al, ac, rfl, d0, d1, d2, d3, d4, hx⟩ := hats j hlt
              have hz := lt_of_cell d0
              have hcw : Hid (∀ w', Below W.heap.size W w' → (w'.cell? ⟨b, o + j * 5, none⟩ = some (.string (qs.getD j q0).1) ∧ w'.cell? ⟨b, o + j * 5 + 1, none⟩ = some (.int .i64 k') ∧ w'.cell? ⟨b, o + j * 5 + 2, none⟩ = some (.string n') ∧ w'.cell? ⟨b, o + j * 5 + 3, none⟩ = some (.int .i64 m') ∧ w'.cell? ⟨b, o + j * 5 + 4, none⟩ = some (.slice aa al ac))) := fun w' hb => ⟨((bcell hb).1 b _ hz).trans d0, ((bcell hb).1 b _ hz).trans d1, ((bcell hb).1 b _ hz).trans d2, ((bcell hb).1 b _ hz).trans d3, ((bcell hb).1 b _ hz).trans d4⟩
              obtain ⟨c0, c1, c2, c3, c4⟩ := hcw.out _ hTj.out.b
              have hpx := hprx.out _ hmy
              have hcl := hput.out _ hmy
              have hst := hid (putXs_take (namA xs qs) 0 hly)
              have hat := hid (putXs_at (namA xs qs) hly)
              rw [hysq.out j hlt] at hcl hpx hst hat
              have hcall := hcl W wr (W.heap.size + 1) W.heap.size _ _ nv avs _ hx hTj.out.b (Nat.le_refl _) HNW.out (by omega) hTj.out.pt hTj.out.hB (by omega)
              rw [Nat.zero_add] at hst
              have hstp := hid (fun w3 nv3 av3 (L3 : List Nd) h1 h2 h3 => hTj.out.put (w3 := w3) (nv3 := nv3) (avs3 := av3) (L3 := L3) h1 h2 h3)
              have hin := (okA_q xs qs (qs.getD j q0) (by simp [List.getD, hlt])).1
              have hixm := ixN_lt hin
              have hfd := hid (fun (w' : World) (hb : Below W.heap.size W w') => rfind_any (HNW.out.next hb) (by omega) (qs.getD j q0).1)
              have hfi : findI (namA xs qs) (qs.getD j q0).1 = (ixN (namA xs qs) (qs.getD j q0).1 : Int) := by unfold findI; rw [if_pos hin]
              rw [hfi] at hfd
              have hrn : Hid (∀ y : Nat, (rawB xs qs).getD (xs.length + j) 0 = (y : Int) → rgtF (namA xs qs) (rawB xs qs) xs.length qs (j + 1) = updI (rgtF (namA xs qs) (rawB xs qs) xs.length qs j) (ixN (namA xs qs) (qs.getD j q0).1) (y : Int)) := fun y h => by rw [rgtF, h]
              generalize hLd : (putXs (namA xs qs) 0 ((ysF xs qs).take (xs.length + j))).2 = L at hcall hst hTj hstp hpj hat
              generalize hyd : (putX (namA xs qs) L.length (qs.getD j q0).2).1 = y at hcall hst hat
              generalize hId : ixN (namA xs qs) (qs.getD j q0).1 = ix at hfd hixm hrn
              generalize (qs.getD j q0).1 = nm at hcw hfd c0
              have HRN := hid (hrn.out y hat.out)
              clear hLd hyd hId hcl hx d0 d1 d2 d3 d4 hz hats hmy hpx hTj hin hfi hrn hat
              go_wp2_with (first
                | (go_at_call 35; go_must (refine (hfd.out w3 hT3.out.b).mono ?_; clear hfd; rintro e w4 ⟨rfl, hb4⟩; have hT4 := hid (hT3.out.next hb4); clear hb4; obtain ⟨⟨x0, x1⟩, x2, _⟩ := hT4.out.cell (A := []) (C := []) hixm))
                | (go_at_call 34; go_must (refine hcall.mono ?_; clear hcall; rintro e w3 ⟨nv3, av3, rfl, hP3, hS3, hb3⟩; have hT3 := hid (hstp.out w3 nv3 av3 _ hP3 hS3 hb3); clear hP3 hS3 hb3 hstp; obtain ⟨v0, v1, v2, v3, v4⟩ := hcw.out _ hT3.out.b)))
              go_roundw
              case rel =>
                refine ⟨j + 1, nv3, av3, by omega, by go_num, ?_⟩
                rw [HRN.out, ← Nat.add_assoc, hst.out]
                exact hT4.out.set (A := []) (C := []) ix (y : Int)
              case measure => simp [intOf]; omega
            · obtain rfl : j = qs.length := by omega
              clear hpj
              have hTM := hTj.out
              rw [List.take_of_length_le (show (ysF xs qs).length ≤ xs.length + qs.length by omega)] at hTM
              have HMd := hid (rfl : rawN xs qs = rawN xs qs)
              have hrg := hid (rg_rng xs qs)
              have hrgd := hid (raw_good HT.out)
              have hraw : (rawN xs qs).length ≤ 350 := by
                have h9 := hpr4.out (ysF xs qs).length
                rw [List.take_length] at h9
                exact h9
              have hLdd := hid (rfl : ldA xs qs = ldF (rgtF (namA xs qs) (rawB xs qs) xs.length qs qs.length) (rawN xs qs))
              obtain ⟨M, hMd⟩ : ∃ M, M = rawN xs qs := ⟨_, rfl⟩
              obtain ⟨rg, hrgd2⟩ : ∃ rg, rg = rgtF (namA xs qs) (rawB xs qs) xs.length qs qs.length := ⟨_, rfl⟩
              rw [← hMd] at hraw hrgd hrg
              rw [← hrgd2] at hrg hTM
              have hLd2 : Hid (ldA xs qs = ldF rg M) := by rw [hMd, hrgd2]; rfl
              have hTM2 : Hid (Tw W (wr) (W.heap.size + 1) W.heap.size (.slice so (namA xs qs).length sc) nv avs M (.slice ro xs.length rc) l1 (namA xs qs).length [(rb, rg)]) := by rw [hMd]; exact hTM
              have HM := hid hMd
              clear hTj hTM HMd hLdd hrgd2 hMd
              have hmk := make_cls (namA xs qs).length (by omega)
              have hMk := hTM2.out.make.make
              simp only [World.size_alloc, List.cons_append, List.nil_append] at hMk
              go_wp2
              obtain ⟨gb, hgb⟩ : ∃ gb, gb = wr.heap.size + 1 := ⟨_, rfl⟩
              obtain ⟨sb, hsb⟩ : ∃ sb, sb = wr.heap.size := ⟨_, rfl⟩
              rw [← hgb, ← hsb] at hMk ⊢
              have hnd := hMk.nd
              simp only [List.map_cons, List.map_nil, List.nodup_cons, List.mem_cons, List.not_mem_nil, or_false, not_or] at hnd
              obtain ⟨⟨hn1, hn2⟩, hn3, _⟩ := hnd
              have hT4 : Hid (Tw W ((wr.alloc (irow (namA xs qs).length (fun _ => 0))).alloc (irow (namA xs qs).length (fun _ => 0))) (W.heap.size + 1) W.heap.size (.slice so (namA xs qs).length sc) nv avs M (.slice ro xs.length rc) l1 (namA xs qs).length [(rb, rg), (sb, upto (fun _ => -1) 0), (gb, upto (fun k => (k : Int)) 0)]) := by
                have h9 := hMk.congr (A := [(rb, rg)]) (C := [(gb, fun _ => 0)]) (q := sb) (f := fun _ => 0) (g := upto (fun _ => -1) 0) (fun i _ => by simp [upto])
                exact h9.congr (A := [(rb, rg), (sb, upto (fun _ => -1) 0)]) (C := []) (q := gb) (f := fun _ => 0) (g := upto (fun k => (k : Int)) 0) (fun i _ => by simp [upto])
              clear hMk hgb hsb hmk hTM2
              go_loopw [19] (fun i wr2 => ∃ (j : Nat), j ≤ (namA xs qs).length ∧ i = .int .i64 (j : Int) ∧ Hid (Tw W (wr2) (W.heap.size + 1) W.heap.size (.slice so (namA xs qs).length sc) nv avs M (.slice ro xs.length rc) l1 (namA xs qs).length [(rb, rg), (sb, upto (fun _ => -1) j), (gb, upto (fun k => (k : Int)) j)])) (fun i _ => (namA xs qs).length - (intOf i).toNat)
              case atStart => exact ⟨0, Nat.zero_le _, rfl, hT4.out⟩
              case round =>
                clear hT4
                obtain ⟨j, hj, rfl, hTj⟩ := hrel
                by_cases hlt : j < (namA xs qs).length
                · obtain ⟨⟨x0, x1⟩, x2, _⟩ := hTj.out.cell (A := [(rb, rg), (sb, upto (fun _ => -1) j)]) (C := []) hlt
                  obtain ⟨⟨x3, x4⟩, x5, _⟩ := hTj.out.cell (A := [(rb, rg)]) (C := [(gb, upto (fun k => (k : Int)) j)]) hlt
                  have hT2 := hid (((((hTj.out.set (A := [(rb, rg), (sb, upto (fun _ => -1) j)]) (C := []) j (j : Int)).congr (A := [(rb, rg), (sb, upto (fun _ => -1) j)]) (C := []) (upto_one (F := fun k => (k : Int)) (N := (namA xs qs).length) rfl)).set (A := [(rb, rg)]) (C := [(gb, upto (fun k => (k : Int)) (j + 1))]) j (-1)).congr (A := [(rb, rg)]) (C := [(gb, upto (fun k => (k : Int)) (j + 1))]) (upto_one (F := fun _ => -1) (N := (namA xs qs).length) rfl)))
                  go_wp2
                  go_roundw
                  case rel => exact ⟨j + 1, by omega, by go_num, hT2.out⟩
                  case measure => simp [intOf]; omega
                · obtain rfl : j = (namA xs qs).length := by omega
                  have hT5 : Hid (Tw W (wr) (W.heap.size + 1) W.heap.size (.slice so (namA xs qs).length sc) nv avs M (.slice ro xs.length rc) l1 (namA xs qs).length [(rb, rg), (sb, (iterS (rndS (ldF rg M) (namA xs qs).length) 0 ⟨fun _ => -1, fun i => i⟩).st), (gb, fun k => (((iterS (rndS (ldF rg M) (namA xs qs).length) 0 ⟨fun _ => -1, fun i => i⟩).gr k : Nat) : Int))]) := by
                    have h9 := hTj.out.congr (A := [(rb, rg)]) (C := [(gb, upto (fun k => (k : Int)) (namA xs qs).length)]) (upto_last (fun _ => -1) (namA xs qs).length)
                    exact h9.congr (A := [(rb, rg), (sb, fun _ => -1)]) (C := []) (upto_last (fun k => (k : Int)) (namA xs qs).length)
                  clear hTj
                  go_wp2
                  go_loopw [20] (fun i wr2 => ∃ (r : Nat), r ≤ (namA xs qs).length + 1 ∧ i = .int .i64 (r : Int) ∧ Hid (Tw W (wr2) (W.heap.size + 1) W.heap.size (.slice so (namA xs qs).length sc) nv avs M (.slice ro xs.length rc) l1 (namA xs qs).length [(rb, rg), (sb, (iterS (rndS (ldF rg M) (namA xs qs).length) r ⟨fun _ => -1, fun i => i⟩).st), (gb, fun k => (((iterS (rndS (ldF rg M) (namA xs qs).length) r ⟨fun _ => -1, fun i => i⟩).gr k : Nat) : Int))])) (fun i _ => (namA xs qs).length + 1 - (intOf i).toNat)
                  case atStart => exact ⟨0, Nat.zero_le _, rfl, hT5.out⟩
                  case round =>
                    clear hT5
                    obtain ⟨r, hr, rfl, hTr⟩ := hrel
                    by_cases hrl : r ≤ (namA xs qs).length
                    · have hit : Hid (iterS (rndS (ldF rg M) (namA xs qs).length) (r + 1) ⟨fun _ => -1, fun i => i⟩ = rndS (ldF rg M) (namA xs qs).length (iterS (rndS (ldF rg M) (namA xs qs).length) r ⟨fun _ => -1, fun i => i⟩)) := rfl
                      generalize iterS (rndS (ldF rg M) (namA xs qs).length) r ⟨fun _ => -1, fun i => i⟩ = S0 at hTr hit
                      have hT6 : Hid (Tw W (wr) (W.heap.size + 1) W.heap.size (.slice so (namA xs qs).length sc) nv avs M (.slice ro xs.length rc) l1 (namA xs qs).length [(rb, rg), (sb, (rndS (ldF rg M) 0 S0).st), (gb, fun k => (((rndS (ldF rg M) 0 S0).gr k : Nat) : Int))]) := hTr.out
                      clear hTr
                      go_wp2
                      go_loopw [21] (fun i wr2 => ∃ (j : Nat), j ≤ (namA xs qs).length ∧ i = .int .i64 (j : Int) ∧ Hid (Tw W (wr2) (W.heap.size + 1) W.heap.size (.slice so (namA xs qs).length sc) nv avs M (.slice ro xs.length rc) l1 (namA xs qs).length [(rb, rg), (sb, (rndS (ldF rg M) j S0).st), (gb, fun k => (((rndS (ldF rg M) j S0).gr k : Nat) : Int))])) (fun i _ => (namA xs qs).length - (intOf i).toNat)
                      case atStart => exact ⟨0, Nat.zero_le _, rfl, hT6.out⟩
                      case round =>
                        clear hT6
                        obtain ⟨j, hj, rfl, hTj⟩ := hrel
                        by_cases hlt : j < (namA xs qs).length
                        · have hsx : Hid (rndS (ldF rg M) (j + 1) S0 = stpS (ldF rg M) (rndS (ldF rg M) j S0) j) := rfl
                          generalize rndS (ldF rg M) j S0 = S at hTj hsx
                          obtain ⟨⟨x0, x1⟩, x2, _⟩ := hTj.out.cell (A := []) (C := [(sb, S.st), (gb, fun k => ((S.gr k : Nat) : Int))]) hlt
                          rcases hrg.out j with hneg | ⟨z, hz, hzM⟩
                          · have hT8 : Hid (Tw W (wr) (W.heap.size + 1) W.heap.size (.slice so (namA xs qs).length sc) nv avs M (.slice ro xs.length rc) l1 (namA xs qs).length [(rb, rg), (sb, (rndS (ldF rg M) (j + 1) S0).st), (gb, fun k => (((rndS (ldF rg M) (j + 1) S0).gr k : Nat) : Int))]) := by rw [hsx.out, stp_none hneg]; exact hTj.out
                            clear hTj hsx hit
                            go_wp2
                            go_roundw
                            case rel => exact ⟨j + 1, by omega, by go_num, hT8.out⟩
                            case measure => simp [intOf]; omega
                          · have hnn : ¬ rg j < 0 := by omega
                            rw [hz] at x0
                            obtain ⟨y0, y1, y2, y3⟩ := hTj.out.cells
                            obtain ⟨na, nc, rfl⟩ := own_sl hTj.out.pt.on.n
                            obtain ⟨_, _, e1, hnds⟩ := hTj.out.pt.on.rn
                            injection e1 with e1 _ e2
                            subst e1 e2
                            obtain ⟨nb, no, av, rfl, hndz⟩ := hnds z hzM
                            obtain ⟨n0, n1, n2, n3, hA⟩ := hndz
                            have hgz := hrgd.out (M.getD z nd0) (by simp [List.getD, hzM])
                            have hsn := hid (fun hk => stp_node (M := M) (S := S) hnn hk)
                            have hsm := hid (fun (q : Nat) hk hj => stp_name (M := M) (S := S) (j := q) hnn hk hj)
                            rw [hz, Int.toNat_natCast] at hsn hsm
                            generalize M.getD z nd0 = x at n0 n1 n2 n3 hA hgz hsn hsm
                            obtain ⟨kind, name, num, args⟩ := x
                            dsimp only at n0 n1 n2 n3 hA hgz hsn hsm
                            obtain ⟨aa0, ac0, rfl, _⟩ := hA
                            have zb := lt_of_cell n0
                            have HTj := hid hTj
                            clear hnds hTj hit
                            go_wp2
                            go_big_region
                            have hTd := hid (HTj.out.out.next ((below_alloc wr (.cells #[.int .i64 kind, .string name, .int .i64 num, .slice aa0 args.length ac0] 63)).drew))
                            have hnw : (wr.alloc (.cells #[.int .i64 kind, .string name, .int .i64 num, .slice aa0 args.length ac0] 63)).drew.heap[wr.heap.size]? = some (.cells #[.int .i64 kind, .string name, .int .i64 num, .slice aa0 args.length ac0] 63) := heap_alloc_new wr _
                            generalize (wr.alloc (.cells #[.int .i64 kind, .string name, .int .i64 num, .slice aa0 args.length ac0] 63)).drew = wd at hTd hnw ⊢
                            obtain ⟨⟨w0, w1, w2', w3'⟩, _⟩ := blk4 hnw
                            obtain ⟨_, hgb8, _⟩ := HTj.out.out.cell (A := [(rb, rg), (sb, S.st)]) (C := []) hlt
                            clear x0 x1 x2 y0 y1 y2 y3 n0 n1 n2 n3 hnw HTj
                            obtain ⟨⟨x0, x1⟩, x2, _⟩ := hTd.out.cell (A := []) (C := [(sb, S.st), (gb, fun k => ((S.gr k : Nat) : Int))]) hlt
                            rw [hz] at x0
                            obtain ⟨⟨s0, s1⟩, s2, _⟩ := hTd.out.cell (A := [(rb, rg)]) (C := [(gb, fun k => ((S.gr k : Nat) : Int))]) hlt
                            by_cases hk : kind ≠ 1 ∨ num = 0
                            · have hT8 : Hid (Tw W (wd.setCell ⟨sb, j, none⟩ (.int .i64 (z : Int))) (W.heap.size + 1) W.heap.size (.slice so (namA xs qs).length sc) (.slice (some ⟨nb, no, none⟩) M.length nc) avs M (.slice ro xs.length rc) l1 (namA xs qs).length [(rb, rg), (sb, (rndS (ldF rg M) (j + 1) S0).st), (gb, fun k => (((rndS (ldF rg M) (j + 1) S0).gr k : Nat) : Int))]) := by
                                have h9 := hTd.out.set (A := [(rb, rg)]) (C := [(gb, fun k => ((S.gr k : Nat) : Int))]) j (z : Int)
                                rw [hsx.out, hsn.out hk]
                                exact h9
                              clear hsx hsn hsm hTd
                              by_cases hk1 : kind = 1
                              · subst hk1
                                have hn0 : num = 0 := hk.elim (fun h => absurd rfl h) id
                                subst hn0
                                clear hk
                                go_wp2
                                go_roundw
                                case rel => exact ⟨j + 1, by omega, by go_num, hT8.out⟩
                                case measure => simp [intOf]; omega
                              · clear hk
                                go_wp2
                                go_roundw
                                case rel => exact ⟨j + 1, by omega, by go_num, hT8.out⟩
                                case measure => simp [intOf]; omega
                            · have hk1 : kind = 1 := Classical.byContradiction fun h => hk (Or.inl h)
                              have hn0 : num ≠ 0 := fun h => hk (Or.inr h)
                              subst hk1
                              have hnr : 0 ≤ num ∧ num ≤ ((namA xs qs).length : Int) := by
                                rcases hgz with ⟨_, _, _, g1, g2⟩ | ⟨g1, _⟩
                                · exact ⟨g1, g2⟩
                                · exact absurd rfl g1
                              obtain ⟨q, rfl⟩ : ∃ q : Nat, num = (q : Int) + 1 := ⟨(num - 1).toNat, by omega⟩
                              have hqm : q < (namA xs qs).length := by omega
                              have hsm2 := hid (hsm.out q hk rfl)
                              obtain ⟨⟨u0, u1⟩, u2, _⟩ := hTd.out.cell (A := [(rb, rg)]) (C := [(gb, fun k => ((S.gr k : Nat) : Int))]) hqm
                              clear hsm hsn hk hn0 hgz hnr
                              by_cases h0 : 0 ≤ S.st q
                              · have hT8 : Hid (Tw W (wd.setCell ⟨sb, j, none⟩ (.int .i64 (S.st q))) (W.heap.size + 1) W.heap.size (.slice so (namA xs qs).length sc) (.slice (some ⟨nb, no, none⟩) M.length nc) avs M (.slice ro xs.length rc) l1 (namA xs qs).length [(rb, rg), (sb, (rndS (ldF rg M) (j + 1) S0).st), (gb, fun k => (((rndS (ldF rg M) (j + 1) S0).gr k : Nat) : Int))]) := by
                                  have h9 := hTd.out.set (A := [(rb, rg)]) (C := [(gb, fun k => ((S.gr k : Nat) : Int))]) j (S.st q)
                                  rw [hsx.out, hsm2.out, if_pos h0]
                                  exact h9
                                clear hsx hsm2 hTd
                                generalize S.st q = sv at u0 h0 hT8
                                go_wp2
                                go_roundw
                                case rel => exact ⟨j + 1, by omega, by go_num, hT8.out⟩
                                case measure => simp [intOf]; omega
                              · obtain ⟨⟨g0, g1⟩, g2, _⟩ := hTd.out.cell (A := [(rb, rg), (sb, S.st)]) (C := []) hlt
                                obtain ⟨⟨g3, g4⟩, g5, _⟩ := hTd.out.cell (A := [(rb, rg), (sb, S.st)]) (C := []) hqm
                                have hmn : Hid (((min (S.gr j) (S.gr q) : Nat) : Int) = (min ((S.gr j : Nat) : Int) ((S.gr q : Nat) : Int))) := by show _ = _; omega
                                have hT8 : Hid (Tw W ((wd.drew.setCell ⟨gb, j, none⟩ (.int .i64 (min ((S.gr j : Nat) : Int) ((S.gr q : Nat) : Int)))).setCell ⟨gb, q, none⟩ (.int .i64 (min ((S.gr j : Nat) : Int) ((S.gr q : Nat) : Int)))) (W.heap.size + 1) W.heap.size (.slice so (namA xs qs).length sc) (.slice (some ⟨nb, no, none⟩) M.length nc) avs M (.slice ro xs.length rc) l1 (namA xs qs).length [(rb, rg), (sb, (rndS (ldF rg M) (j + 1) S0).st), (gb, fun k => (((rndS (ldF rg M) (j + 1) S0).gr k : Nat) : Int))]) := by
                                  have h9 := ((hTd.out.next ((Below.refl _ wd).drew)).set (A := [(rb, rg), (sb, S.st)]) (C := []) j (min ((S.gr j : Nat) : Int) ((S.gr q : Nat) : Int))).set (A := [(rb, rg), (sb, S.st)]) (C := []) q (min ((S.gr j : Nat) : Int) ((S.gr q : Nat) : Int))
                                  rw [← hmn.out, ← updN_int, ← updN_int] at h9
                                  rw [← hmn.out, hsx.out, hsm2.out, if_neg h0]
                                  exact h9
                                clear hsx hsm2 hTd hmn
                                by_cases hjq : j = q
                                · subst hjq
                                  go_wp2
                                  go_big_region
                                  go_wp2
                                  go_roundw
                                  case rel => exact ⟨j + 1, by omega, by go_num, (by have h9 := hT8.out; rw [Int.min_self] at h9; exact h9)⟩
                                  case measure => simp [intOf]; omega
                                · have hqj : q ≠ j := fun h => hjq h.symm
                                  go_wp2
                                  go_big_region
                                  go_wp2
                                  go_roundw
                                  case rel => exact ⟨j + 1, by omega, by go_num, hT8.out⟩
                                  case measure => simp [intOf]; omega
                        · obtain rfl : j = (namA xs qs).length := by omega
                          have hT7 : Hid (Tw W (wr) (W.heap.size + 1) W.heap.size (.slice so (namA xs qs).length sc) nv avs M (.slice ro xs.length rc) l1 (namA xs qs).length [(rb, rg), (sb, (iterS (rndS (ldF rg M) (namA xs qs).length) (r + 1) ⟨fun _ => -1, fun i => i⟩).st), (gb, fun k => (((iterS (rndS (ldF rg M) (namA xs qs).length) (r + 1) ⟨fun _ => -1, fun i => i⟩).gr k : Nat) : Int))]) := by rw [hit.out]; exact hTj.out
                          clear hTj
                          go_wp2
                          go_roundw
                          case rel => exact ⟨r + 1, by omega, by go_num, hT7.out⟩
                          case measure => simp [intOf]; omega
                    · obtain rfl : r = (namA xs qs).length + 1 := by omega
                      have hSd : Hid (iterS (rndS (ldF rg M) (namA xs qs).length) ((namA xs qs).length + 1) ⟨fun _ => -1, fun i => i⟩ = stdS xs qs) := by
                        show _ = _
                        rw [← hLd2.out]
                        rfl
                      have hjn : Hid (∀ i, i < (namA xs qs).length → (stdS xs qs).gr i < (namA xs qs).length) := fun i hi => ((all_jn (sys_nms HT.out)).gr i hi).1
                      have hrp : Hid (∀ i, i < (namA xs qs).length → (stdS xs qs).st i < 0 → repB (stdS xs qs) ((stdS xs qs).gr i) = true ∧ (stdS xs qs).gr i < (namA xs qs).length) := (fin_said (sys_nms HT.out) (rawN xs qs).length).2.2
                      have hSF : Hid (∀ k, stdF xs qs k = finS (stdS xs qs) M.length k) := fun k => by rw [HM.out]
                      have hNC : Hid (newC xs qs = cntB (repB (stdS xs qs)) (namA xs qs).length) := rfl
                      rw [hSd.out] at hTr
                      generalize stdS xs qs = S at hTr hjn hrp hSF hNC
                      have hcle := hid (cntB_le (repB S) (namA xs qs).length)
                      have hT9 : Hid (Tw W (wr) (W.heap.size + 1) W.heap.size (.slice so (namA xs qs).length sc) nv avs (M ++ List.replicate (cntB (repB S) 0) varN) (.slice ro xs.length rc) l1 (namA xs qs).length [(rb, rg), (sb, midS S M.length 0), (gb, fun k => ((S.gr k : Nat) : Int))]) := by
                        have h0 : M ++ List.replicate (cntB (repB S) 0) varN = M := by simp [cntB]
                        rw [h0, mid_zero]
                        exact hTr.out
                      clear hTr hSd hLd2
                      go_wp2
                      go_loopw [24] (fun i wr2 => ∃ (j : Nat) (nv : Value) (avs : List Value), j ≤ (namA xs qs).length ∧ i = .int .i64 (j : Int) ∧ Hid (Tw W (wr2) (W.heap.size + 1) W.heap.size (.slice so (namA xs qs).length sc) nv avs (M ++ List.replicate (cntB (repB S) j) varN) (.slice ro xs.length rc) l1 (namA xs qs).length [(rb, rg), (sb, midS S M.length j), (gb, fun k => ((S.gr k : Nat) : Int))])) (fun i _ => (namA xs qs).length - (intOf i).toNat)
                      case atStart => exact ⟨0, nv, avs, Nat.zero_le _, rfl, hT9.out⟩
                      case round =>
                        clear hT9
                        obtain ⟨j, nv, avs, hj, rfl, hTj⟩ := hrel
                        by_cases hlt : j < (namA xs qs).length
                        · obtain ⟨⟨x0, x1⟩, x2, _⟩ := hTj.out.cell (A := [(rb, rg)]) (C := [(gb, fun k => ((S.gr k : Nat) : Int))]) hlt
                          obtain ⟨⟨g0, g1⟩, g2, _⟩ := hTj.out.cell (A := [(rb, rg), (sb, midS S M.length j)]) (C := []) hlt
                          have hmj : midS S M.length j j = S.st j := by unfold midS; rw [if_neg (by omega)]
                          rw [hmj] at x0
                          have hcs := hid (cntB_succ (repB S) j)
                          by_cases hrj : repB S j = true
                          · have hR1 := (rep_iff (S := S) (i := j)).1 hrj
                            obtain ⟨hR2, hR3⟩ := hR1
                            have hcm : cntB (repB S) j ≤ 350 := by have := cntB_le (repB S) j; omega
                            have hLL : (M ++ List.replicate (cntB (repB S) j) varN).length = M.length + cntB (repB S) j := by simp
                            have hT8 := hid (fun (w6 : World) (nv6 : Value) (av6 : List Value) (h : Tw W (w6) (W.heap.size + 1) W.heap.size (.slice so (namA xs qs).length sc) nv6 av6 ((M ++ List.replicate (cntB (repB S) j) varN) ++ [varN]) (.slice ro xs.length rc) l1 (namA xs qs).length [(rb, rg), (sb, midS S M.length j), (gb, fun k => ((S.gr k : Nat) : Int))]) => (show Tw W (w6.setCell ⟨sb, j, none⟩ (.int .i64 (((M ++ List.replicate (cntB (repB S) j) varN).length : Nat) : Int))) (W.heap.size + 1) W.heap.size (.slice so (namA xs qs).length sc) nv6 av6 (M ++ List.replicate (cntB (repB S) (j + 1)) varN) (.slice ro xs.length rc) l1 (namA xs qs).length [(rb, rg), (sb, midS S M.length (j + 1)), (gb, fun k => ((S.gr k : Nat) : Int))] from by
                              have h9 := h.set (A := [(rb, rg)]) (C := [(gb, fun k => ((S.gr k : Nat) : Int))]) j (((M ++ List.replicate (cntB (repB S) j) varN).length : Nat) : Int)
                              rw [hLL, mid_hit hrj] at h9
                              rw [hcs.out, if_pos hrj, List.replicate_succ', ← List.append_assoc, hLL]
                              exact h9))
                            have HLL := hid hLL
                            have hL4 : (M ++ List.replicate (cntB (repB S) j) varN).length ≤ 700 := by omega
                            have hon := World.ownsRow.alloc hTj.out.pt.on.n (.cells #[.int .i64 1, .string ⟨#[]⟩, .int .i64 0, .slice none 0 0] 63)
                            obtain ⟨y0, y1, y2, y3⟩ := hTj.out.cells
                            have hnode := hid (fun w5 g c => hTj.out.node (o := .cells #[.int .i64 1, .string ⟨#[]⟩, .int .i64 0, .slice none 0 0] 63) (w5 := w5) (gg := g) (c := c))
                            have hnode0 := hid (fun w5 => hTj.out.node0 (o := .cells #[.int .i64 1, .string ⟨#[]⟩, .int .i64 0, .slice none 0 0] 63) (w5 := w5))
                            have hBz := hTj.out.hB
                            have hst8 : S.st j < 0 := hR2
                            rw [hR3] at g0
                            clear hcs hLL hrj hTj hR2 hR3 hmj
                            generalize S.st j = sv at x0 hst8
                            generalize M ++ List.replicate (cntB (repB S) j) varN = LL at hon hnode hnode0 hT8 HLL hL4
                            obtain ⟨na, nc, rfl⟩ := own_sl hon
                            go_wp2_with (at_builtin; refine wpList_append_lies _ rfl _ _ 26 rfl (W.heap.size + 1) 63 i1 (.agg #[.int .i64 0, .string ⟨#[]⟩, .int .i64 0, .slice none 0 0]) 4 56 Try.underlying26 hi1 hy0 hy1 hy2 rfl (by omega) (.slice na LL.length nc) LL.length (ncells LL avs) rfl hon ⟨wr.heap.size, 0, none⟩ 1 1 [.int .i64 1, .string ⟨#[]⟩, .int .i64 0, .slice none 0 0] rfl rfl (World.news_of_block (cs := #[.int .i64 1, .string ⟨#[]⟩, .int .i64 0, .slice none 0 0]) (t := 63) (fr := (0, 0)) (heap_alloc_new wr _)) (by simp [Value.oneCell']) (by omega) (by unfold maxLen; omega) (by omega) (by simp; omega) (wr.heap.size + 1) (by simp) ?_; intro g7 c7 w5 hown7 hg7 hat7 hlt7; have hT6 := hid (hnode.out w5 g7 c7 hg7 hown7 hat7); obtain ⟨hb5, hf5⟩ := hnode0.out w5 hg7; obtain ⟨⟨_, v1⟩, _, v3⟩ := blk2 hb5; obtain ⟨hf6, hf7⟩ := hf5 (sb, midS S M.length j) (by simp); obtain ⟨f0, f1⟩ := irow_cell hf6 hlt; have hz5 := lt_of_block hf6; have hz6 := lt_of_block hb5; dsimp only at f0 f1 hf7 hz5)
                            go_roundw
                            case rel => exact ⟨j + 1, by omega, by omega, .slice (some ⟨g7, 0, none⟩) (LL.length + 1) c7, avs ++ [.slice none 0 0], hT8.out _ _ _ hT6.out⟩
                            case measure => simp [intOf]; omega
                          · have hT8 : Hid (Tw W (wr) (W.heap.size + 1) W.heap.size (.slice so (namA xs qs).length sc) nv avs (M ++ List.replicate (cntB (repB S) (j + 1)) varN) (.slice ro xs.length rc) l1 (namA xs qs).length [(rb, rg), (sb, midS S M.length (j + 1)), (gb, fun k => ((S.gr k : Nat) : Int))]) := by
                              rw [hcs.out, if_neg hrj, Nat.add_zero, ← mid_miss hrj]
                              exact hTj.out
                            have hri := rep_iff (S := S) (i := j)
                            have hor : ¬ (S.st j < 0 ∧ S.gr j = j) := fun h => hrj (hri.2 h)
                            clear hri hrj hTj hcs hmj
                            generalize S.st j = sv at x0 hor
                            generalize S.gr j = gv at g0 hor
                            by_cases h0 : sv < 0
                            · have hgj : gv ≠ j := fun h => hor ⟨h0, h⟩
                              clear hor
                              go_wp2
                              go_roundw
                              case rel => exact ⟨j + 1, nv, avs, by omega, by go_num, hT8.out⟩
                              case measure => simp [intOf]; omega
                            · clear hor
                              go_wp2
                              go_roundw
                              case rel => exact ⟨j + 1, nv, avs, by omega, by go_num, hT8.out⟩
                              case measure => simp [intOf]; omega
                        · obtain rfl : j = (namA xs qs).length := by omega
                          rw [← hNC.out, ← end_zero] at hTj
                          clear hNC
                          go_wp2
                          go_loopw [25] (fun i wr2 => ∃ (j : Nat), j ≤ (namA xs qs).length ∧ i = .int .i64 (j : Int) ∧ Hid (Tw W (wr2) (W.heap.size + 1) W.heap.size (.slice so (namA xs qs).length sc) nv avs (M ++ List.replicate (newC xs qs) varN) (.slice ro xs.length rc) l1 (namA xs qs).length [(rb, rg), (sb, endS S M.length (namA xs qs).length j), (gb, fun k => ((S.gr k : Nat) : Int))])) (fun i _ => (namA xs qs).length - (intOf i).toNat)
                          case atStart => exact ⟨0, Nat.zero_le _, rfl, hTj.out⟩
                          case round =>
                            clear hTj
                            obtain ⟨j, hj, rfl, hTj⟩ := hrel
                            by_cases hlt : j < (namA xs qs).length
                            · obtain ⟨⟨x0, x1⟩, x2, _⟩ := hTj.out.cell (A := [(rb, rg)]) (C := [(gb, fun k => ((S.gr k : Nat) : Int))]) hlt
                              obtain ⟨⟨g0, g1⟩, g2, _⟩ := hTj.out.cell (A := [(rb, rg), (sb, endS S M.length (namA xs qs).length j)]) (C := []) hlt
                              rcases end_cases (K := M.length) hlt (hrp.out j hlt) with ⟨he0, he1⟩ | ⟨he0, he1, he2⟩
                              · have hT8 : Hid (Tw W (wr) (W.heap.size + 1) W.heap.size (.slice so (namA xs qs).length sc) nv avs (M ++ List.replicate (newC xs qs) varN) (.slice ro xs.length rc) l1 (namA xs qs).length [(rb, rg), (sb, endS S M.length (namA xs qs).length (j + 1)), (gb, fun k => ((S.gr k : Nat) : Int))]) := by
                                  rw [← end_keep he1]
                                  exact hTj.out
                                clear hTj he1
                                generalize endS S M.length (namA xs qs).length j j = sv at x0 he0
                                have he3 : ¬ sv < 0 := by omega
                                go_wp2
                                go_roundw
                                case rel => exact ⟨j + 1, by omega, by go_num, hT8.out⟩
                                case measure => simp [intOf]; omega
                              · obtain ⟨⟨v0, v1⟩, v2, _⟩ := hTj.out.cell (A := [(rb, rg)]) (C := [(gb, fun k => ((S.gr k : Nat) : Int))]) he1
                                have hT8 := hid (fun v (hv : v = finS S M.length j) => (show Tw W (wr.setCell ⟨sb, j, none⟩ (.int .i64 v)) (W.heap.size + 1) W.heap.size (.slice so (namA xs qs).length sc) nv avs (M ++ List.replicate (newC xs qs) varN) (.slice ro xs.length rc) l1 (namA xs qs).length [(rb, rg), (sb, endS S M.length (namA xs qs).length (j + 1)), (gb, fun k => ((S.gr k : Nat) : Int))] from by
                                  have h9 := hTj.out.set (A := [(rb, rg)]) (C := [(gb, fun k => ((S.gr k : Nat) : Int))]) j v
                                  rw [end_set hv] at h9
                                  exact h9))
                                have HE2 := hid he2
                                clear hTj he2
                                generalize endS S M.length (namA xs qs).length j j = sv at x0 he0
                                generalize endS S M.length (namA xs qs).length j (S.gr j) = sw at v0 HE2
                                generalize S.gr j = gv at g0 v0 v1 he1
                                go_wp2
                                go_roundw
                                case rel => exact ⟨j + 1, by omega, by go_num, hT8.out _ HE2.out⟩
                                case measure => simp [intOf]; omega
                            · obtain rfl : j = (namA xs qs).length := by omega
                              have hrl := raw_roots xs qs
                              rw [← Hl1.out] at hrl
                              obtain ⟨ra1, ra2, ra3⟩ := raw_all HT.out
                              have hrw : M ++ List.replicate (newC xs qs) varN = rawW xs qs := by rw [HM.out]
                              rw [hrw] at hTj
                              have hll : l1.length = xs.length := by
                                rw [hrl, List.length_take, putXs_len1]
                                simp
                              have hro : Ri wr (.slice ro xs.length rc) l1 := by
                                have h9 : wr.ownsRow (W.heap.size + 1) 3 1 (.slice ro l1.length rc) l1.length (l1.map (Value.int .i64)) := by
                                  rw [hll]
                                  have h8 := hTj.out.ro
                                  rw [hll] at h8
                                  exact h8
                                have h10 := Ri.ofOwn h9
                                rw [hll] at h10
                                exact h10
                              have hstd : Ri wr (.slice (some ⟨sb, 0, none⟩) (namA xs qs).length (namA xs qs).length) ((List.range (namA xs qs).length).map (stdF xs qs)) := by
                                have h9 := hTj.out.congr (A := [(rb, rg)]) (C := [(gb, fun k => ((S.gr k : Nat) : Int))]) (g := stdF xs qs) (fun i hi => by rw [hSF.out i]; unfold endS; rw [if_pos hi])
                                exact irow_ri (h9.f (sb, stdF xs qs) (by simp)).1
                              have hM8 : (rawN xs qs).length ≤ 350 := by rw [← HM.out]; exact hraw
                              have hag := all_good HT.out (by omega) (by omega)
                              have htd := rtied_any (M := rawW xs qs) (Sf := stdF xs qs) (B := l1) (ns := namA xs qs) hTj.out.pt (HNW.out.next hTj.out.b) hro hstd (by rw [hrl]; exact hag) ra1 ra2 (by rw [hrl]; exact ra3) ee (by rw [hrl]; exact HE.out)
                              rw [hrl] at htd
                              have hbw := hTj.out.b
                              have hlv := hfx.out _ hbw
                              have hfx2 := hid (fun (w' : World) (hb : Below wr.heap.size wr w') => hfx.out w' (Below.next hbw hb))
                              have hszw := hbw.size
                              have hWb2 := Below.next hWb hbw
                              rw [hrl] at hTj
                              clear hTj hro hstd hag ra1 ra2 ra3 hrw hlv hfx
                              go_wp2_with (go_at_call 36; refine htd.mono ?_; clear htd; rintro e w8 ⟨⟨nv8, rv8, mo8, mc8, rfl, ⟨av8, hG8⟩, hO8⟩, hb8⟩; obtain ⟨n8, m8, rfl⟩ := hG8.nsl; obtain ⟨r8, p8, rfl, _⟩ := hG8.r; obtain ⟨j1, j2⟩ := hfx2.out w8 hb8; obtain ⟨⟨y0, y1⟩, y2, y3⟩ := blk2 j1; obtain ⟨⟨z0, z1, z2, z3⟩, z4, z5, z6, z7⟩ := blk4 j2)
                              have hb9 := Below.next hWb2 hb8
                              have hz8 := hb8.size
                              refine bodyPost_ret (ret_gsF (u0 := .slice n8 (trimF (quoF ee (smlG xs qs))).nodes.length m8) (u1 := .slice r8 (trimF (quoF ee (smlG xs qs))).roots.length p8) (c := 0) (a := 0) (n := ⟨#[]⟩) Try.results10 (by rfl) (by rfl) (by rfl) ?_ ?_) rfl ?_
                              · rw [Below.heap_setCell _ _ _ _ (by show W0.heap.size ≠ W0.heap.size + 1; omega), Below.heap_setCell _ _ _ _ (by show W0.heap.size ≠ W0.heap.size + 1; omega), Below.heap_setCell _ _ _ _ (by show W0.heap.size ≠ W0.heap.size + 1; omega), Below.heap_setCell _ _ _ _ (by show W0.heap.size ≠ W0.heap.size + 1; omega)]
                                exact blk2_set j1
                              · refine set4 (u0 := .int .i64 0) (u1 := .int .i64 0) (u2 := .string ⟨#[]⟩) (u3 := .slice none 0 0) ?_
                                rw [Below.heap_setCell _ _ _ _ (by show W0.heap.size + 1 ≠ W0.heap.size; omega), Below.heap_setCell _ _ _ _ (by show W0.heap.size + 1 ≠ W0.heap.size; omega)]
                                exact j2
                              · refine ⟨⟨_, _, _, _, rfl, ?_, ?_⟩, ?_⟩
                                · exact (og_far (og_far (og_far (og_far (og_far (og_far hG8 (by omega)) (by omega)) (by omega)) (by omega)) (by omega)) (by omega)).gr
                                · refine own_base (row_keep hO8 (fun k ek => ?_)) (by omega)
                                  have hk := hO8.lt k ek
                                  rw [Below.heap_setCell _ _ _ _ (by show k ≠ W0.heap.size + 1; omega), Below.heap_setCell _ _ _ _ (by show k ≠ W0.heap.size + 1; omega), Below.heap_setCell _ _ _ _ (by show k ≠ W0.heap.size + 1; omega), Below.heap_setCell _ _ _ _ (by show k ≠ W0.heap.size + 1; omega), Below.heap_setCell _ _ _ _ (by show k ≠ W0.heap.size; omega), Below.heap_setCell _ _ _ _ (by show k ≠ W0.heap.size; omega)]
                                · exact (((((hb9.setCell (p := ⟨W0.heap.size, 0, none⟩) (Nat.le_refl _) _).setCell (p := ⟨W0.heap.size, 1, none⟩) (Nat.le_refl _) _).setCell (p := ⟨W0.heap.size + 1, 0, none⟩) (by show W0.heap.size ≤ W0.heap.size + 1; omega) _).setCell (p := ⟨W0.heap.size + 1, 1, none⟩) (by show W0.heap.size ≤ W0.heap.size + 1; omega) _).setCell (p := ⟨W0.heap.size + 1, 2, none⟩) (by show W0.heap.size ≤ W0.heap.size + 1; omega) _).setCell (p := ⟨W0.heap.size + 1, 3, none⟩) (by show W0.heap.size ≤ W0.heap.size + 1; omega) _
end Go.Proofs.Ytjkcffcedbcjmaa

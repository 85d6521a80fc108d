/- Equations in cells. -/
import Derived.Maps.OwnSet
import Derived.Maps.OwnOps
import Derived.DeepKeys4
import Derived.Test.Ytncileojdighnaaow15Z
import Derived.Test.Ytncileojdighnaaow14Z
import Derived.Test.Ytncileojdighnaaow10Z
import Derived.Test.Ytncileojdighnaaow13Z
namespace Go.Proofs.Ytncileojdighnaa
set_option maxRecDepth 100000
open Go.RowKit
theorem infoEq : (Try.prog.info? 51).map (fun i => (i.zero, i.size, i.bytes)) = some (some (.agg #[.string ⟨#[]⟩, .int .i64 0, .string ⟨#[]⟩, .int .i64 0, .slice none 0 0]), 5, 72) := by kernel_rfl
end Go.Proofs.Ytncileojdighnaa

namespace Go.Proofs.Ytncileojdighnaa
set_option maxRecDepth 100000
open Go.RowKit Go.Maps
theorem labRow : (157 : TypeId) < Try.prog.types.size := of_decide_eq_true (by kernel_rfl)
theorem labWide : (match Try.prog.underlying 157 with | some (.array _ _) | some (.struct _) => true | _ => false) = true := by kernel_rfl
theorem labLaid : laidOutB Try.prog = true := by kernel_rfl
theorem labLaw : Keyed Try.prog 157 := Keyed.of_law (deep_law_laid labLaid (m := 3) (by omega) labRow (by kernel_rfl) labWide)
theorem labKt : Try.prog.keyType 157 = true := by kernel_rfl
theorem labCells : Try.prog.cellsOf 157 = 5 := by kernel_rfl
theorem intCells : Try.prog.cellsOf 3 = 1 := by kernel_rfl
theorem strCells : Try.prog.cellsOf 9 = 1 := by kernel_rfl
theorem label_lits (d : Nat) (a b c e : Int) (s : ByteArray) (ha : (Lit.int .i64 a).wf = true) (hb : (Lit.int .i64 b).wf = true) (hc : (Lit.int .i64 c).wf = true) (he : (Lit.int .i64 e).wf = true) (hs : s.size ≤ maxLen) :
    Try.prog.keyLits (d + 1 + 1) 157 [.int .i64 a, .int .i64 b, .int .i64 c, .int .i64 e, .string s] = some [.int .i64 a, .int .i64 b, .int .i64 c, .int .i64 e, .string s.data.toList] := by
  simp [Program.keyLits, Try.underlying157, Try.underlying3, Try.underlying9, labCells, intCells, strCells, ha, hb, hc, he, hs]
theorem label_key (a b c e : Int) (s : ByteArray) (ha : (Lit.int .i64 a).wf = true) (hb : (Lit.int .i64 b).wf = true) (hc : (Lit.int .i64 c).wf = true) (he : (Lit.int .i64 e).wf = true) (hs : s.size ≤ maxLen) :
    ∃ kl, keyOf Try.prog 157 (.agg #[.int .i64 a, .int .i64 b, .int .i64 c, .int .i64 e, .string s]) = some kl := by
  obtain ⟨d, hd⟩ : ∃ d, Try.prog.types.size = d + 1 := Nat.exists_eq_add_one.2 (Nat.lt_of_le_of_lt (Nat.zero_le _) labRow)
  unfold keyOf
  simp only [Try.underlying157]
  have hf : (Value.agg #[.int .i64 a, .int .i64 b, .int .i64 c, .int .i64 e, .string s]).formed Try.prog 157 = true := by
    simp [Value.formed, Try.underlying157, labCells]
  rw [labKt, hf, hd]
  have := label_lits d a b c e s ha hb hc he hs
  exact ⟨.string (keyBytes [.int .i64 a, .int .i64 b, .int .i64 c, .int .i64 e, .string s.data.toList]), by simp [Value.cells, this]⟩
end Go.Proofs.Ytncileojdighnaa

namespace Go.Proofs.Ytncileojdighnaa
set_option maxRecDepth 100000
open Go.RowKit
theorem pos_of_getD : ∀ {m : List Int} {i : Nat}, m.Nodup → i < m.length → pos m (m.getD i 0) = i
  | [], i, _, h => absurd h (Nat.not_lt_zero _)
  | y :: r, 0, _, _ => by simp [pos]
  | y :: r, i + 1, hn, h => by
    have hr := List.nodup_cons.1 hn
    have hi : i < r.length := by simpa using h
    have h1 := pos_of_getD hr.2 hi
    have hne : ¬ y = r.getD i 0 := fun e => hr.1 (by rw [e]; exact getD_mem hi)
    simp only [List.getD_cons_succ, pos, if_neg hne, h1]
theorem list_ext0 {l m : List Int} (h : l.length = m.length) (he : ∀ j, j < l.length → l.getD j 0 = m.getD j 0) : l = m := by
  apply List.ext_getElem h
  intro i h1 h2
  have := he i h1
  simpa [List.getD, h1, h2] using this
theorem pos_rng {g : Gf} (_ : Good g) : ∀ x ∈ metF g, 0 ≤ posF (metF g) x ∧ posF (metF g) x < ((metF g).length : Int) := fun x hx => by
  have := pos_lt hx
  unfold posF
  rw [if_pos hx]
  omega
theorem trim_len {g : Gf} (_ : Good g) : (trimF g).nodes.length = (metF g).length := by simp [trimF]
theorem trim_node {g : Gf} (_ : Good g) : ∀ x ∈ metF g, (trimF g).nodes.getD (posF (metF g) x).toNat nd0 = renum (posF (metF g)) (g.nodes.getD x.toNat nd0) := fun x hx => by
  have h1 := pos_lt hx
  have h2 : (posF (metF g) x).toNat = pos (metF g) x := by
    unfold posF
    rw [if_pos hx]
    omega
  rw [h2]
  have h3 := pos_at hx
  simp only [List.getD] at h3
  simp only [trimF, List.getD, List.getElem?_map, h1, List.getElem?_eq_getElem, Option.map_some, Option.getD_some]
  rw [List.getElem?_eq_getElem h1, Option.getD_some] at h3
  rw [h3]
theorem trim_args {g : Gf} (hg : Good g) : ∀ x ∈ metF g, (trimF g).argsOf (posF (metF g) x) = (g.argsOf x).map (posF (metF g)) := fun x hx => by
  unfold Gf.argsOf
  rw [trim_node hg x hx]
  rfl
theorem trim_good0 {g : Gf} (hg : Good g) : Good (trimF g) := by
  have hml := (met_ok hg).le
  have h1 := hg.nodes
  have h2 := hg.roots
  refine ⟨by rw [trim_len hg]; omega, by simp [trimF]; omega, fun n hn => ?_, fun x hx => ?_⟩
  · obtain ⟨x, hx, rfl⟩ := List.mem_map.1 hn
    have hr := (met_ok hg).rng x hx
    have hgd := hg.node (g.nodes.getD x.toNat nd0) (by
      have : x.toNat < g.nodes.length := by omega
      simp [List.getD, this])
    have hst : ((g.nodes.getD x.toNat nd0).args.map (posF (metF g))).any (strange (trimF g).nodes.length) = false := by
      rw [List.any_eq_false]
      intro y hy
      obtain ⟨z, hz, rfl⟩ := List.mem_map.1 hy
      have := pos_rng hg z (met_arg hg x hx z hz)
      rw [trim_len hg]
      simp [strange]
      omega
    unfold goodNd at hgd ⊢
    simp only [renum, List.length_map, hst]
    split
    · rename_i hk
      rw [if_pos hk] at hgd
      exact hgd
    · rename_i hk
      rw [if_neg hk] at hgd
      split
      · rename_i hk2
        rw [if_pos hk2] at hgd
        exact hgd
      · rename_i hk2
        rw [if_neg hk2] at hgd
        split
        · rename_i hk3
          rw [if_pos hk3] at hgd
          exact hgd
        · rename_i hk3
          rw [if_neg hk3] at hgd
          split
          · rename_i hk4
            rw [if_pos hk4] at hgd
            simp only [Bool.and_eq_true] at hgd ⊢
            exact ⟨hgd.1, rfl⟩
          · rename_i hk4
            rw [if_neg hk4] at hgd
            exact hgd
  · obtain ⟨z, hz, rfl⟩ := List.mem_map.1 hx
    rw [trim_len hg]
    exact pos_rng hg z (met_root hg z hz)
end Go.Proofs.Ytncileojdighnaa

namespace Go.Proofs.Ytncileojdighnaa
set_option maxRecDepth 100000
open Go.RowKit
theorem own_obj7 {w : World} {B : Nat} {e : TypeId} {s n cap g : Nat} {xs : List Value} (h : w.ownsRow B e s (.slice (some ⟨g, 0, none⟩) n cap) n xs) : ∃ cur : Array Value, w.heap[g]? = some (.cells cur e (0, 0)) ∧ cur.toList.take (n * s) = xs := own_block_obj h rfl
def lenV : Value → Nat
  | .slice _ n _ => n
  | _ => 0
structure Af (W w : World) (vs : List Value) : Prop where
  os : w.os = W.os
  tape : w.tape = W.tape
  output : w.output = W.output
  size : W.heap.size ≤ w.heap.size
  far : ∀ q, q < W.heap.size → q ∉ blocks vs → w.heap[q]? = W.heap[q]?
theorem own_ri {w : World} {B n : Nat} {v : Value} {l : List Int} (hl : l.length = n) (h : w.ownsRow B 3 1 v n (l.map (Value.int .i64))) : Ri w v l := by
  obtain ⟨a, c, rfl⟩ := own_sl h
  subst hl
  exact Ri.ofOwn h
theorem wpList_append_row {w : World} {ops : Array Oper} {rest : List Oper} {o : Oper} {a : Act} {Q : Exit → Act → World → Prop} (hgd : o.guard = none) (x y : Operand)
    (ho : o.op = .call { callee := .builtin .append, args := #[x, y], argTypes := #[27, 27] }) {B : Nat} {v : Value} (k m : Nat) (hx : a.eval x = v) (hown : w.ownsRow B 3 1 v m ((rowK k m).map (Value.int .i64))) (ad : Addr) (c : Nat)
    (hy : a.eval y = .slice (some ad) 1 c) (hnews : ∀ j u, [Value.int .i64 (val k m)][j]? = some u → w.cell? (ad.add j) = some u) (hl : m ≤ 5000) (hB : B ≤ w.heap.size)
    (h : ∀ g cap w', w'.ownsRow B 3 1 (.slice (some ⟨g, 0, none⟩) (m + 1) cap) (m + 1) ((rowK k m ++ [val k m]).map (Value.int .i64)) → w.grownBy w' v.ownBlock → (v.ownBlock = some g ∨ (g = w.heap.size ∧ w.grownBy w' none)) →
      wpList Try.prog ops Q rest (a.put o.dst (.slice (some ⟨g, 0, none⟩) (m + 1) cap)) w') : wpList Try.prog ops Q (o :: rest) a w := by
  refine wpList_append_still hgd x y ho (l := rowK k m) hx (by rw [rowK_len]; exact hown) ad c (val k m) hy hnews (by rw [rowK_len]; exact hl) hB ?_
  rw [rowK_len]
  exact h
def mk (n : Nat → Nat) (k m : Nat) : Nat → Nat := fun i => if i < k then n i + 12 else if i = k then m else n i
theorem mk_self (n : Nat → Nat) (k m : Nat) : mk n k m k = m := by simp [mk]
theorem mk_next (n : Nat → Nat) (k m : Nat) : upd (mk n k m) k (m + 1) = mk n k (m + 1) := by
  funext i
  unfold upd mk
  by_cases e : i = k
  · subst e
    simp
  · simp [e]
theorem mk_zero (n : Nat → Nat) : mk n 0 (n 0) = n := by
  funext i
  unfold mk
  by_cases e : i = 0
  · subst e
    simp
  · simp [e]
theorem mk_step (n : Nat → Nat) (k : Nat) : mk n k (n k + 12) = mk n (k + 1) (n (k + 1)) := by
  funext i
  unfold mk
  by_cases e : i < k
  · rw [if_pos e, if_pos (by omega)]
  · by_cases e2 : i = k
    · subst e2
      simp
    · rw [if_neg e, if_neg e2, if_neg (by omega)]
      by_cases e3 : i = k + 1
      · subst e3
        simp
      · rw [if_neg e3]
theorem take_same {us us' : List Value} {k : Nat} (hl : us'.length = us.length) (h : ∀ i, i ≠ k → us'.getD i undef = us.getD i undef) : us'.take k = us.take k := by
  apply List.ext_getElem
  · simp [hl]
  · intro i h1 h2
    have hi : i < k := by simp at h1; omega
    have hi' : i < us.length := by simp at h2; omega
    have := h i (by omega)
    simp [List.getD, hi', hl] at this
    simp [this]
set_option maxHeartbeats 8000000 in
theorem hApart_any {W : World} {B lb lc : Nat} {vs : List Value} {n : Nat → Nat} {f0 : Nat → List Int} (hv : W.ownsRow B 27 1 (.slice (some ⟨lb, 0, none⟩) vs.length lc) vs.length vs) (hA0 : Ap W W B vs n f0) (hnd : ND vs) (hn : ∀ i, n i ≤ 4900) (hl : vs.length ≤ 5000) (hB : B ≤ W.heap.size) :
    Calls Try.prog 24 #[.slice (some ⟨lb, 0, none⟩) vs.length lc] W fun e w' => e = .returned (.bool true) ∧ Af W w' vs := by
  have hlb : lb ∉ blocks vs := fun h => by
    obtain ⟨v, hv1, hq⟩ := List.mem_filterMap.1 h
    obtain ⟨i, hi, rfl⟩ := List.getElem_of_mem hv1
    have e : vs.getD i undef = vs[i] := by simp [List.getD, hi]
    obtain ⟨cur, h1, _⟩ := own_block_obj (hA0.own i hi) (by rw [e]; exact hq)
    obtain ⟨cur', h2, _⟩ := own_obj7 hv
    rw [h1] at h2
    simp at h2
  have hlbs := (hv.lt lb rfl).2
  have hcellL : ∀ (w : World), (∀ q, q < W.heap.size → q ∉ blocks vs → w.heap[q]? = W.heap[q]?) → ∀ k, k < vs.length → w.cell? ⟨lb, k, none⟩ = some (vs.getD k undef) := fun w h k hk => by
    rw [World.cell?_of_block (a := ⟨lb, k, none⟩) (h lb hlbs hlb)]
    have := hv.cells (g := lb) rfl k (vs.getD k undef) (by simp [List.getD, hk])
    rw [Addr.add_lit, Nat.zero_add] at this
    exact this
  have hcl := hid hcellL
  have hval := hid (fun (k j : Nat) => (show val k j = -1000 * ((k : Int) + 1) - (j : Int) from rfl))
  clear hcellL
  go_enter Try.func24, Try.ntmps24
  go_wp2
  go_loopw [15] (fun i wr => ∃ (k : Nat) (f : Nat → List Int), k ≤ vs.length ∧ i = .int .i64 k ∧ Hid (Ap W wr B vs n f) ∧ Hid (∀ i t, i < k → i < vs.length → t < n i → (f i).getD t 0 = val i t)) (fun i _ => vs.length - (intOf i).toNat)
  case atStart => exact ⟨0, f0, Nat.zero_le _, rfl, hA0, fun i t h => absurd h (Nat.not_lt_zero _)⟩
  case round =>
    obtain ⟨k, f, hk, rfl, hA, hf⟩ := hrel
    by_cases hlt : k < vs.length
    · have c0 := hcl.out wr hA.out.far k hlt
      obtain ⟨sa, sc, hsv⟩ := own_sl (hA.out.own k hlt)
      rw [hsv] at c0
      have hA0' := hid hA.out
      have hf0' := hid hf.out
      have hnk := hn k
      go_wp2
      clear c0
      go_loopw [22] (fun i wr => ∃ (t : Nat) (f : Nat → List Int), t ≤ n k ∧ i = .int .i64 t ∧ Hid (Ap W wr B vs n f) ∧ Hid (∀ i t, i < k → i < vs.length → t < n i → (f i).getD t 0 = val i t) ∧ Hid (∀ j, j < t → (f k).getD j 0 = val k j)) (fun i _ => n k - (intOf i).toNat)
      case atStart => exact ⟨0, f, Nat.zero_le _, rfl, hA0', hf0', fun j h => absurd h (Nat.not_lt_zero _)⟩
      case round =>
        clear hA hf hA0' hf0'
        obtain ⟨t, f, ht, rfl, hA, hf, hg⟩ := hrel
        by_cases hlt2 : t < n k
        · have hown := hA.out.own k hlt
          have hlen := hA.out.len k hlt
          rcases own_form hown with ⟨_, h0⟩ | ⟨q, c, hq, hqb⟩
          · omega
          · have hsa : sa = some ⟨q, 0, none⟩ ∧ sc = c := by
              rw [hsv] at hq
              injection hq with e1 _ e3
              exact ⟨e1, e3⟩
            obtain ⟨rfl, rfl⟩ := hsa
            obtain ⟨_, _, hre, hrc⟩ := own_ri hlen hown
            obtain ⟨b', o', hbo, e0⟩ := hrc t (by omega)
            have hbq : b' = q ∧ o' = 0 := by
              rw [hsv] at hre
              injection hre with e1 _ _
              rw [hbo] at e1
              injection e1 with e1
              injection e1 with e1 e2 _
              exact ⟨e1.symm, e2.symm⟩
            obtain ⟨rfl, rfl⟩ := hbq
            rw [Nat.zero_add] at e0
            obtain ⟨cur, hcur, _⟩ := own_block_obj hown hqb
            have e1 : wr.frozen? ⟨b', t, none⟩ = false := by simp [World.frozen?, hcur]
            have hA' := hid (Ap.set (t := t) hA.out hnd hlt hsv (val k t))
            have hf' : Hid (∀ i j, i < k → i < vs.length → j < n i → (upd f k ((f k).set t (val k t)) i).getD j 0 = val i j) := fun i j h1 h2 h3 => by
              rw [upd_other _ _ (by omega)]
              exact hf.out i j h1 h2 h3
            have hg' : Hid (∀ j, j < t + 1 → (upd f k ((f k).set t (val k t)) k).getD j 0 = val k j) := fun j hj => by
              rw [upd_same]
              by_cases e : j = t
              · subst e
                simp [List.getD, hlen, hlt2]
              · have := hg.out j (by omega)
                simp only [List.getD] at this ⊢
                rw [List.getElem?_set_ne (fun e' => e e'.symm)]
                exact this
            generalize (f k).getD t 0 = y at e0
            clear hA hf hg hown hcur hre hrc hq
            go_wp2
            exact ⟨⟨t + 1, _, by omega, congrArg (Value.int .i64) (by omega), hA'.out, hf', hg'⟩, by simp [intOf]; omega⟩
        · have htl : t = n k := by omega
          subst htl
          have hA' := hid hA.out
          have hf' : Hid (∀ i t, i < k + 1 → i < vs.length → t < n i → (f i).getD t 0 = val i t) := fun i t h1 h2 h3 => by
            by_cases e : i = k
            · subst e
              exact hg.out t h3
            · exact hf.out i t (by omega) h2 h3
          clear hA hf hg
          go_wp2
          exact ⟨⟨k + 1, f, by omega, congrArg (Value.int .i64) (by omega), hA'.out, hf'⟩, by simp [intOf]; omega⟩
    · have hkl : k = vs.length := by omega
      subst hkl
      obtain ⟨W1, hW1⟩ : ∃ W1, W1 = wr := ⟨wr, rfl⟩
      subst hW1
      have hG0 : Hid (G0 W1 B vs n) := ⟨fun i hi => by
        rw [← rowK_of (hA.out.len i hi) (fun j hj => hf.out i j hi hi hj)]
        exact hA.out.own i hi, hnd⟩
      have hAf := hid hA.out
      have hW1s := hA.out.size
      have hfar := hid (fun (w : World) (us : List Value) (m : Nat → Nat) (h : Gn W1 w B vs us n m) => (show ∀ q, q < W.heap.size → q ∉ blocks vs → w.heap[q]? = W.heap[q]? from fun q hq hn => (h.far q (by omega) hn).trans (hAf.out.far q hq hn)))
      obtain ⟨i1, hi1, hy0, hy1, hy2⟩ := info_parts infoL
      have hg0 : Hid ((W1.alloc (.cells #[] 27)).ownsRow W1.heap.size 27 1 (.slice (some ⟨W1.heap.size, 0, none⟩) 0 0) 0 (vs.take 0)) := World.ownsRow_made W1 #[] 0 (Nat.le_refl _) (by unfold maxLen; omega) rfl
      have hGn0 : Hid (Gn W1 (W1.alloc (.cells #[] 27)) B vs vs n (mk n 0 (n 0))) := by
        show Gn _ _ _ _ _ _ _
        rw [mk_zero]
        exact hG0.out.start.keep hG0.out none rfl rfl rfl (by simp) (fun k hk _ => Below.heap_alloc _ _ _ hk) (fun r h => by cases h)
      clear hA hf hA0
      go_wp2
      go_loopw [6, 38] (fun x i wr => ∃ (k : Nat) (us : List Value) (ao : Option Addr) (c : Nat), k ≤ vs.length ∧ i = .int .i64 k ∧ x = .slice ao k c ∧ Hid (wr.ownsRow W1.heap.size 27 1 (.slice ao k c) k (us.take k)) ∧ Hid (Gn W1 wr B vs us n (mk n k (n k))) ∧ Hid (∀ i, k ≤ i → us.getD i undef = vs.getD i undef)) (fun _ i _ => vs.length - (intOf i).toNat)
      case atStart => exact ⟨0, vs, some ⟨W1.heap.size, 0, none⟩, 0, Nat.zero_le _, rfl, rfl, hg0, hGn0, fun _ _ => rfl⟩
      case round =>
        clear hg0 hGn0
        obtain ⟨k, us, ao, cc, hk, rfl, rfl, hgo, hG, hsame⟩ := hrel
        by_cases hlt2 : k < vs.length
        · have c0 := hcl.out wr (hfar.out wr us _ hG.out) k hlt2
          obtain ⟨sa, sc, hsv⟩ := own_sl (hG0.out.own k hlt2)
          have hus : us.getD k undef = .slice sa (n k) sc := by rw [hsame.out k (Nat.le_refl _), hsv]
          rw [hsv] at c0
          have hnk := hn k
          have hgo0 := hid hgo.out
          have hG0' := hid hG.out
          have husl := hid hG.out.len
          go_wp2
          clear c0
          go_loopw [8] (fun x wr => ∃ (m : Nat) (us' : List Value) (a : Option Addr) (c : Nat), n k ≤ m ∧ m ≤ n k + 12 ∧ x = .slice a m c ∧ Hid (us'.getD k undef = .slice a m c) ∧ Hid (Gn W1 wr B vs us' n (mk n k m)) ∧ Hid (∀ i, i ≠ k → us'.getD i undef = us.getD i undef) ∧ Hid (wr.ownsRow W1.heap.size 27 1 (.slice ao k cc) k (us.take k))) (fun x _ => n k + 12 - lenV x)
          case atStart => exact ⟨n k, us, sa, sc, Nat.le_refl _, by omega, rfl, hus, hG0', fun _ _ => rfl, hgo0⟩
          case round =>
            clear hgo hG hgo0 hG0'
            obtain ⟨m, us', a, c, hm1, hm2, rfl, hx, hG, hoth, hgo⟩ := hrel
            by_cases hlt3 : m < n k + 12
            · have hown := hG.out.own k hlt2
              rw [hx.out, mk_self] at hown
              have hoz := World.ownsRow.alloc hown (.cells #[.int .i64 (val k m)] 3)
              have hBw : B ≤ wr.heap.size := by have := hG.out.size; omega
              have hpush := hid (fun (w2 : World) (g cap : Nat) => Gn.push (w2 := w2) (g := g) (cap := cap) (o := .cells #[.int .i64 (val k m)] 3) hG.out hG0.out hlt2)
              rw [hx.out, mk_self, mk_next] at hpush
              have hgk : Hid (∀ w2 : World, (wr.alloc (.cells #[.int .i64 (val k m)] 3)).grownBy w2 (Value.ownBlock (.slice a m c)) → w2.ownsRow W1.heap.size 27 1 (.slice ao k cc) k (us.take k)) := fun w2 hg => by
                refine own_block hgo.out (fun q eq => ?_)
                rw [hg.block q (by have := (hgo.out.lt q eq).2; simp; omega) (fun e => ?_), Below.heap_alloc _ _ _ (hgo.out.lt q eq).2]
                obtain ⟨c1, h1, _⟩ := own_block_obj hgo.out eq
                obtain ⟨c2, h2, _⟩ := own_block_obj hown e.symm
                rw [h1] at h2
                simp at h2
              have hul := hG.out.len
              clear hgo hown
              go_wp2_with (at_builtin; refine wpList_append_row rfl _ _ rfl k m rfl hoz ⟨wr.heap.size, 0, none⟩ 1 rfl (World.news_of_block (cs := #[.int .i64 (val k m)]) (t := 3) (fr := (0, 0)) (heap_alloc_new wr _)) (by omega) (by simp; omega) ?_; intro g cap w2 hown2 hgr2 hat2)
              go_roundw
              case rel => exact ⟨m + 1, us'.set k (.slice (some ⟨g, 0, none⟩) (m + 1) cap), some ⟨g, 0, none⟩, cap, by omega, by omega, rfl, by simp [Hid, List.getD, hul, hlt2], hpush.out w2 g cap hown2 hgr2 hat2, fun i e => by rw [← hoth.out i e]; simp [List.getD, List.getElem?_set_ne (fun e' => e e'.symm)], hgk.out w2 hgr2⟩
              case measure => simp [lenV]; omega
            · have hml : m = n k + 12 := by omega
              subst hml
              have hoz2 := World.ownsRow.alloc hgo.out (.cells #[.slice a (n k + 12) c] 27)
              have hul := hG.out.len
              have hG' := hid hG.out
              have hgo' := hid hgo.out
              have hGs := hG.out.size
              have hul2 : Hid (us'.take (k + 1) = us.take k ++ [.slice a (n k + 12) c]) := by
                show _ = _
                rw [vtake_snoc (by rw [hul]; exact hlt2), take_same (by rw [hul, husl.out]) hoth.out, hx.out]
              have hkeep := hid (fun (w3 : World) (hg : (wr.alloc (.cells #[.slice a (n k + 12) c] 27)).grownBy w3 (Value.ownBlock (.slice ao k cc))) => hG'.out.keep (w' := w3) hG0.out (Value.ownBlock (.slice ao k cc)) hg.os hg.tape hg.output (by have := hg.size; simp at this; omega) (fun q hq hne => by rw [hg.block q (by simp; omega) hne, Below.heap_alloc _ _ _ hq]) (fun r hr => ⟨(hgo'.out.lt r hr).1, fun cur hc => by
                obtain ⟨c1, h1, _⟩ := own_block_obj hgo'.out hr
                rw [h1] at hc
                simp at hc⟩))
              rw [mk_step] at hkeep
              clear hgo hG hm1 hm2
              go_wp2_with (at_builtin; refine wpList_append_lies _ rfl _ _ _ rfl W1.heap.size 27 i1 (.slice none 0 0) 1 24 Try.underlying60 hi1 hy0 hy1 hy2 rfl (by decide) _ k (us.take k) rfl hoz2 ⟨wr.heap.size, 0, none⟩ 1 1 [.slice a (n k + 12) c] rfl rfl (World.news_of_block (cs := #[.slice a (n k + 12) c]) (t := 27) (fr := (0, 0)) (heap_alloc_new wr _)) (by simp [Value.oneCell']) (by omega) (by unfold maxLen; omega) (by omega) (by simp; omega) (wr.heap.size + 1) (by simp) ?_; intro g cap w3 hown3 hgr3 hat3 hlt4)
              exact ⟨⟨k + 1, us', some ⟨g, 0, none⟩, cap, by omega, congrArg (Value.int .i64) (by omega), rfl, by rw [hul2.out]; exact hown3, hkeep.out w3 hgr3, fun i hi => by rw [hoth.out i (by omega)]; exact hsame.out i (by omega)⟩, by simp [intOf]; omega⟩
        · have hkl : k = vs.length := by omega
          subst hkl
          obtain ⟨w3, hw3⟩ : ∃ w3, w3 = wr := ⟨wr, rfl⟩
          subst hw3
          have husl := hG.out.len
          have hgo' := hgo.out
          rw [List.take_of_length_le (by omega)] at hgo'
          have hend : Hid (Af W w3 vs) := ⟨hG.out.os.trans hAf.out.os, hG.out.tape.trans hAf.out.tape, hG.out.output.trans hAf.out.output, by have := hG.out.size; omega, hfar.out w3 us _ hG.out⟩
          have hgr : Hid (∀ i, i < vs.length → Ri w3 (us.getD i undef) (rowK i (n i + 12)) ∧ ∃ a c, us.getD i undef = .slice a (n i + 12) c) := fun i hi => by
            have h1 := hG.out.own i hi
            have e : mk n vs.length (n vs.length) i = n i + 12 := by simp [mk, hi]
            rw [e] at h1
            exact ⟨own_ri (rowK_len _ _) h1, own_sl h1⟩
          have hrd : Hid (∀ i, i < vs.length → Ri w3 (vs.getD i undef) (rowK i (n i)) ∧ ∃ a c, vs.getD i undef = .slice a (n i) c) := fun i hi => ⟨hG.out.read hG0.out i hi, own_sl (hG0.out.own i hi)⟩
          have hcL : Hid (∀ k, k < vs.length → w3.cell? ⟨lb, k, none⟩ = some (vs.getD k undef)) := fun k hk => hcl.out w3 (hfar.out w3 us _ hG.out) k hk
          have hcG : Hid (∀ k, k < vs.length → ∃ q, ao = some ⟨q, 0, none⟩ ∧ w3.cell? ⟨q, k, none⟩ = some (us.getD k undef)) := fun k hk => by
            rcases own_form hgo' with ⟨_, h0⟩ | ⟨q, c, h1, h2⟩
            · omega
            · injection h1 with h1 _ _
              have := hgo'.cells (g := q) h2 k (us.getD k undef) (by simp [List.getD, husl, hk])
              rw [Addr.add_lit, Nat.zero_add] at this
              exact ⟨q, h1, this⟩
          clear hgo hgo' hG hsame hfar hAf hcl hG0 hv hnd
          go_wp2
          go_loopw [66] (fun i wr => ∃ k : Nat, k ≤ vs.length ∧ i = .int .i64 k ∧ Hid (wr = w3)) (fun i _ => vs.length - (intOf i).toNat)
          case atStart => exact ⟨0, Nat.zero_le _, rfl, rfl⟩
          case round =>
            obtain ⟨k, hk, rfl, hwe⟩ := hrel
            have hwe' := hwe.out
            subst hwe'
            clear hwe
            by_cases hlt3 : k < vs.length
            · obtain ⟨gq, rfl, g0⟩ := hcG.out k hlt3
              obtain ⟨hgri, ga, gc, hgv⟩ := hgr.out k hlt3
              obtain ⟨hvri, va, vc, hvv⟩ := hrd.out k hlt3
              have l0 := hcL.out k hlt3
              rw [hgv] at g0 hgri
              rw [hvv] at l0 hvri
              have hnk := hn k
              generalize hMe : n k + 12 = M at g0 hgri hgv
              have hM1 : n k ≤ M := by omega
              have hM2 : M ≤ 5000 := by omega
              clear hMe
              go_wp2
              go_loopw [73] (fun i wr' => ∃ t : Nat, t ≤ M ∧ i = .int .i64 t ∧ Hid (wr' = wr)) (fun i _ => M - (intOf i).toNat)
              case atStart => exact ⟨0, Nat.zero_le _, rfl, rfl⟩
              case round =>
                obtain ⟨t, ht, rfl, hwe2⟩ := hrel
                have hwe3 := hwe2.out
                subst hwe3
                clear hwe2
                by_cases hlt4 : t < M
                · obtain ⟨_, _, he, hc⟩ := hgri
                  obtain ⟨gb, go, hgo2, hgc⟩ := hc t (by rw [rowK_len]; exact hlt4)
                  injection he with he1 he1n _
                  clear he1n
                  rw [hgo2] at he1
                  subst he1
                  obtain ⟨y, hy⟩ : ∃ y, -1000 * ((k : Int) + 1) - (t : Int) = y := ⟨_, rfl⟩
                  rw [rowK_getD hlt4, hval.out k t, hy] at hgc
                  by_cases hlt5 : t < n k
                  · obtain ⟨_, _, he2, hc2⟩ := hvri
                    obtain ⟨vb, vo, hvo2, hvc⟩ := hc2 t (by rw [rowK_len]; exact hlt5)
                    injection he2 with he3 he3n _
                    clear he3n
                    rw [hvo2] at he3
                    subst he3
                    rw [rowK_getD hlt5, hval.out k t, hy] at hvc
                    clear hc hc2 hgo2 hvo2 hn hval hgr hrd hcL hcG hgv hvv
                    go_wp2
                    go_roundw
                    case rel => exact ⟨t + 1, by omega, congrArg (Value.int .i64) (by omega), by first | rfl | exact trivial⟩
                    case measure => simp [intOf]; omega
                  · clear hc hgo2 hvri hn hval hgr hrd hcL hcG hgv hvv
                    go_wp2
                    go_roundw
                    case rel => exact ⟨t + 1, by omega, congrArg (Value.int .i64) (by omega), by first | rfl | exact trivial⟩
                    case measure => simp [intOf]; omega
                · go_wp2
                  exact ⟨⟨k + 1, by omega, congrArg (Value.int .i64) (by omega), by first | rfl | exact trivial⟩, by simp [intOf]; omega⟩
            · go_wp2
              go_ret
              exact ⟨rfl, hend.out⟩
end Go.Proofs.Ytncileojdighnaa

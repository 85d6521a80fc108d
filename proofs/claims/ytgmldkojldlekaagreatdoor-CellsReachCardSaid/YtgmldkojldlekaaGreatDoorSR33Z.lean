/- errors.As of package errors, at a *api.Fault as its target. -/
import Derived.LaidEql
import Derived.Stop.Asserts
import Derived.RowKitTokens
import Derived.Deep.RegionHeld3
import Derived.Test.YtgmldkojldlekaaGreatDoorSR32Z
import Derived.Test.YtgmldkojldlekaaGreatDoorSR06Z
import Derived.Test.YtgmldkojldlekaaGreatDoorSR11Z
import Derived.Test.YtgmldkojldlekaaGreatDoorSR30Z
import Derived.Test.YtgmldkojldlekaaGreatDoorSR28Z
import Derived.Test.YtgmldkojldlekaaGreatDoorSR25Z
namespace Go.Proofs.YtgmldkojldlekaaGreatDoor
set_option maxRecDepth 100000
open Go.RowKit Go.Extern.Stop Go.Stop Go.Extern
theorem asValueOfP (t : Addr) (w : World) : (ReflectliteValue.unpack (.iface 139 (.pointer (some t)))).run Tryz.prog w
    = .ok (.agg #[.pointer (some ⟨1, 139, none⟩), .pointer (some ⟨w.heap.size, 0, none⟩), .int .u64 150]) (w.alloc (.cells #[.pointer (some t)] 139)) := by kernel_rfl
theorem asTypeP (a : Addr) (w : World) : (ReflectliteValue.methodAny (ReflectliteValue.valueError "reflectlite.Value.Type" 0) (fun t _ _ _ => ReflectliteType.toType t) #[.agg #[.pointer (some ⟨1, 139, none⟩), .pointer (some a), .int .u64 150]]).run Tryz.prog w
    = .ok (.iface 200 (.agg #[.pointer (some ⟨1, 139, none⟩)])) w := by kernel_rfl
theorem asMethodKind (h : Value) (w : World) : (Go.method 354 200 (.agg #[h]) "Kind").run Tryz.prog w = .ok (150, h) w := by kernel_rfl
theorem asKindP (w : World) : ((ReflectliteType.abiMethod fun t => (fun a : Nat => Value.int IntKind.u8 (a : Int)) <$> Rtype.kind t) #[.pointer (some ⟨1, 139, none⟩)]).run Tryz.prog w = .ok (.int .u8 22) w := by kernel_rfl
theorem asKindF (w : World) : ((ReflectliteType.abiMethod fun t => (fun a : Nat => Value.int IntKind.u8 (a : Int)) <$> Rtype.kind t) #[.pointer (some ⟨1, 102, none⟩)]).run Tryz.prog w = .ok (.int .u8 22) w := by kernel_rfl
theorem lit10 (v : Value) {n : Nat} (h : (#[v] : Array Value).size = n) (k : 0 < n) : (#[v] : Array Value).getLit 0 h k = v := rfl
theorem lit20 (v x : Value) {n : Nat} (h : (#[v, x] : Array Value).size = n) (k : 0 < n) : (#[v, x] : Array Value).getLit 0 h k = v := rfl
theorem lit21 (v x : Value) {n : Nat} (h : (#[v, x] : Array Value).size = n) (k : 1 < n) : (#[v, x] : Array Value).getLit 1 h k = x := rfl
theorem asPartsP (a : Addr) (w : World) : (ReflectliteValue.parts (.agg #[.pointer (some ⟨1, 139, none⟩), .pointer (some a), .int .u64 150])).run Tryz.prog w = .ok (some (139, a, 150)) w := by kernel_rfl
theorem asIsNilP (a p : Addr) (W : World) (ha : W.cell? a = some (.pointer (some p))) :
    (ReflectliteValue.method (ReflectliteValue.valueError "reflectlite.Value.IsNil" 0) ReflectliteValue.isNil #[.agg #[.pointer (some ⟨1, 139, none⟩), .pointer (some a), .int .u64 150]]).run Tryz.prog W = .ok (.bool false) W := by
  change Sem.run Tryz.prog (_ >>= _) W = _
  simp only [lit10, Sem.run_bind, asPartsP, Result.andThen]
  simp [ReflectliteValue.isNil, loadVar, isAgg, underlying, Tryz.underlying139, ha, Result.andThen]
theorem asMethodElem (h : Value) (w : World) : (Go.method 354 200 (.agg #[h]) "Elem").run Tryz.prog w = .ok (165, .agg #[h]) w := by kernel_rfl
theorem asMethodImplements (h : Value) (w : World) : (Go.method 354 200 (.agg #[h]) "Implements").run Tryz.prog w = .ok (166, .agg #[h]) w := by kernel_rfl
theorem asMethodAssignableTo (h : Value) (w : World) : (Go.method 354 200 (.agg #[h]) "AssignableTo").run Tryz.prog w = .ok (163, .agg #[h]) w := by kernel_rfl
theorem asElemP (w : World) : (ReflectliteType.method ReflectliteType.elem #[.agg #[.pointer (some ⟨1, 139, none⟩)]]).run Tryz.prog w = .ok (.iface 200 (.agg #[.pointer (some ⟨1, 102, none⟩)])) w := by kernel_rfl
theorem asImplementsF (w : World) : (ReflectliteType.relation "Implements" ReflectliteType.implements_ #[.agg #[.pointer (some ⟨1, 102, none⟩)], .iface 200 (.agg #[.pointer (some ⟨1, 35, none⟩)])]).run Tryz.prog w = .ok (.bool true) w := by kernel_rfl
theorem asTypeOfF (v : Value) (w : World) : (ReflectliteType.typeOf #[.iface 102 v]).run Tryz.prog w = .ok (.iface 200 (.agg #[.pointer (some ⟨1, 102, none⟩)])) w := by kernel_rfl
theorem asAssignableF (w : World) : (ReflectliteType.relation "AssignableTo" ReflectliteType.assignableTo #[.agg #[.pointer (some ⟨1, 102, none⟩)], .iface 200 (.agg #[.pointer (some ⟨1, 102, none⟩)])]).run Tryz.prog w = .ok (.bool true) w := by kernel_rfl
theorem asValueOfF (e : Addr) (w : World) : (ReflectliteValue.unpack (.iface 102 (.pointer (some e)))).run Tryz.prog w
    = .ok (.agg #[.pointer (some ⟨1, 102, none⟩), .pointer (some ⟨w.heap.size, 0, none⟩), .int .u64 150]) (w.alloc (.cells #[.pointer (some e)] 102)) := by kernel_rfl
theorem asElemOfP (w : World) : (Rtype.elem? 139).run Tryz.prog w = .ok (some 102) w := by kernel_rfl
theorem asMkF (p : Addr) (w : World) : (ReflectliteValue.mk 102 p ReflectliteValue.flagAddr).run Tryz.prog w = .ok (.agg #[.pointer (some ⟨1, 102, none⟩), .pointer (some p), .int .u64 406]) w := by kernel_rfl
theorem asElemVP (a p : Addr) (W : World) (ha : W.cell? a = some (.pointer (some p))) :
    (ReflectliteValue.method (ReflectliteValue.valueError "reflectlite.Value.Elem" 0) ReflectliteValue.elem #[.agg #[.pointer (some ⟨1, 139, none⟩), .pointer (some a), .int .u64 150]]).run Tryz.prog W
      = .ok (.agg #[.pointer (some ⟨1, 102, none⟩), .pointer (some p), .int .u64 406]) W := by
  change Sem.run Tryz.prog (_ >>= _) W = _
  simp only [lit10, Sem.run_bind, asPartsP, Result.andThen]
  simp [ReflectliteValue.elem, loadVar, isAgg, underlying, Tryz.underlying139, ha, Result.andThen, asElemOfP, asMkF]
theorem asPartsFa (a : Addr) (w : World) : (ReflectliteValue.parts (.agg #[.pointer (some ⟨1, 102, none⟩), .pointer (some a), .int .u64 406])).run Tryz.prog w = .ok (some (102, a, 406)) w := by kernel_rfl
theorem asPartsF (a : Addr) (w : World) : (ReflectliteValue.parts (.agg #[.pointer (some ⟨1, 102, none⟩), .pointer (some a), .int .u64 150])).run Tryz.prog w = .ok (some (102, a, 150)) w := by kernel_rfl
theorem asDirectF (w : World) : (Rtype.directlyAssignable 102 102).run Tryz.prog w = .ok true w := by kernel_rfl
theorem asSetF (ta b e : Addr) (old : Value) (W : World) (hb : W.cell? b = some (.pointer (some e))) (ht : W.cell? ta = some old) (hf : W.frozen? ta = false) :
    (ReflectliteValue.set #[.agg #[.pointer (some ⟨1, 102, none⟩), .pointer (some ta), .int .u64 406], .agg #[.pointer (some ⟨1, 102, none⟩), .pointer (some b), .int .u64 150]]).run Tryz.prog W
      = .ok (.tuple #[]) (W.setCell ta (.pointer (some e))) := by
  change Sem.run Tryz.prog (_ >>= _) W = _
  simp only [lit20, lit21, Sem.run_bind, asPartsFa, asPartsF, Result.andThen]
  simp [ReflectliteValue.flagAddr, loadVar, isAgg, underlying, Tryz.underlying102, hb, Result.andThen, asDirectF, storeVar, Value.cells, storeCells, Addr.add]
  rw [run_store Tryz.prog W ta _ _ (by rfl)]
  simp [ht, hf]
set_option maxHeartbeats 4000000 in
theorem as_hit (e t : Addr) (old : Value) (w : World) (hg : w.cell? ⟨0, 0, none⟩ = some (.iface 200 (.agg #[.pointer (some ⟨1, 35, none⟩)]))) (ht0 : w.cell? t = some old) (hf0 : w.frozen? t = false) :
    Calls Tryz.prog 74 #[.iface 102 (.pointer (some e)), .iface 139 (.pointer (some t))] w fun ev w' => ev = .returned (.bool true) ∧ w' = ((((w.alloc (.cells #[.pointer (some t)] 139)).alloc (.cells #[.pointer (some ⟨1, 139, none⟩), .pointer (some ⟨w.heap.size, 0, none⟩), .int .u64 150] 168)).alloc (.cells #[.pointer (some ⟨1, 139, none⟩), .pointer (some ⟨w.heap.size, 0, none⟩), .int .u64 150] 168)).alloc (.cells #[.pointer (some e)] 102)).setCell t (.pointer (some e)) := by
  have h6 := @run_callFunc_extern Tryz.prog 95 _ (fun args => ReflectliteValue.unpack (args.getD 0 (.tuple #[]))) Tryz.func95 (by kernel_rfl) (by kernel_rfl) (by kernel_rfl) (by kernel_rfl)
  have h7 := @run_callFunc_extern Tryz.prog 96 _ (ReflectliteValue.methodAny (ReflectliteValue.valueError "reflectlite.Value.Type" 0) (fun t _ _ _ => ReflectliteType.toType t)) Tryz.func96 (by kernel_rfl) (by kernel_rfl) (by kernel_rfl) (by kernel_rfl)
  have h8 := @run_callFunc_extern Tryz.prog 97 _ (ReflectliteValue.method (ReflectliteValue.valueError "reflectlite.Value.IsNil" 0) ReflectliteValue.isNil) Tryz.func97 (by kernel_rfl) (by kernel_rfl) (by kernel_rfl) (by kernel_rfl)
  have h27 := @run_callFunc_extern Tryz.prog 150 _ (ReflectliteType.abiMethod fun t => do pure (.int .u8 (← Rtype.kind t))) Tryz.func150 (by kernel_rfl) (by kernel_rfl) (by kernel_rfl) (by kernel_rfl)
  have h37 := @run_callFunc_extern Tryz.prog 165 _ (ReflectliteType.method ReflectliteType.elem) Tryz.func165 (by kernel_rfl) (by kernel_rfl) (by kernel_rfl) (by kernel_rfl)
  have h38 := @run_callFunc_extern Tryz.prog 166 _ (ReflectliteType.relation "Implements" ReflectliteType.implements_) Tryz.func166 (by kernel_rfl) (by kernel_rfl) (by kernel_rfl) (by kernel_rfl)
  have h10 := @run_callFunc_extern Tryz.prog 120 _ ReflectliteType.typeOf Tryz.func120 (by kernel_rfl) (by kernel_rfl) (by kernel_rfl) (by kernel_rfl)
  have h35 := @run_callFunc_extern Tryz.prog 163 _ (ReflectliteType.relation "AssignableTo" ReflectliteType.assignableTo) Tryz.func163 (by kernel_rfl) (by kernel_rfl) (by kernel_rfl) (by kernel_rfl)
  have h11 := @run_callFunc_extern Tryz.prog 121 _ (ReflectliteValue.method (ReflectliteValue.valueError "reflectlite.Value.Elem" 0) ReflectliteValue.elem) Tryz.func121 (by kernel_rfl) (by kernel_rfl) (by kernel_rfl) (by kernel_rfl)
  have h12 := @run_callFunc_extern Tryz.prog 122 _ ReflectliteValue.set Tryz.func122 (by kernel_rfl) (by kernel_rfl) (by kernel_rfl) (by kernel_rfl)
  have tO := asTypeOfF
  have mA := asMethodAssignableTo
  have a25 := asAssignableF
  have v25 := asValueOfF
  have f6 := asValueOfP
  have f7 := asTypeP
  have mK := asMethodKind
  have mE := asMethodElem
  have mI := asMethodImplements
  have k27 := asKindP
  have k25 := asKindF
  have e27 := asElemP
  have i25 := asImplementsF
  have n8 := asIsNilP ⟨w.heap.size, 0, none⟩ t ((w.alloc (.cells #[.pointer (some t)] 139)).alloc (.cells #[.pointer (some ⟨1, 139, none⟩), .pointer (some ⟨w.heap.size, 0, none⟩), .int .u64 150] 168)) (by simp)
  have hlt : 0 < w.heap.size := by
    rcases Nat.eq_zero_or_pos w.heap.size with h0 | h
    · simp [World.cell?, h0] at hg
    · exact h
  have hg2 : ((w.alloc (.cells #[.pointer (some t)] 139)).alloc (.cells #[.pointer (some ⟨1, 139, none⟩), .pointer (some ⟨w.heap.size, 0, none⟩), .int .u64 150] 168)).cell? ⟨0, 0, none⟩ = some (.iface 200 (.agg #[.pointer (some ⟨1, 35, none⟩)])) := by
    rw [World.cell?_alloc_lt _ _ ⟨0, 0, none⟩ (by simp), World.cell?_alloc_lt _ _ ⟨0, 0, none⟩ hlt]; exact hg
  have htl : t.block < w.heap.size := by
    rcases Nat.lt_or_ge t.block w.heap.size with h | h
    · exact h
    · simp [World.cell?, Array.getElem?_eq_none h] at ht0
  have el := asElemVP ⟨w.heap.size, 0, none⟩ t (((w.alloc (.cells #[.pointer (some t)] 139)).alloc (.cells #[.pointer (some ⟨1, 139, none⟩), .pointer (some ⟨w.heap.size, 0, none⟩), .int .u64 150] 168)).alloc (.cells #[.pointer (some ⟨1, 139, none⟩), .pointer (some ⟨w.heap.size, 0, none⟩), .int .u64 150] 168)) (by rw [World.cell?_alloc_lt _ _ ⟨w.heap.size, 0, none⟩ (by simp; omega)]; simp)
  have st := asSetF t ⟨w.heap.size + 1 + 1 + 1, 0, none⟩ e old ((((w.alloc (.cells #[.pointer (some t)] 139)).alloc (.cells #[.pointer (some ⟨1, 139, none⟩), .pointer (some ⟨w.heap.size, 0, none⟩), .int .u64 150] 168)).alloc (.cells #[.pointer (some ⟨1, 139, none⟩), .pointer (some ⟨w.heap.size, 0, none⟩), .int .u64 150] 168)).alloc (.cells #[.pointer (some e)] 102))
    (by rw [World.cell?_alloc_at _ _ _ _ (by simp)]; rfl)
    (by rw [World.cell?_alloc_lt _ _ t (by simp; omega), World.cell?_alloc_lt _ _ t (by simp; omega), World.cell?_alloc_lt _ _ t (by simp; omega), World.cell?_alloc_lt _ _ t htl]; exact ht0)
    (by rw [World.frozen?_alloc_old _ _ t (by simp; omega), World.frozen?_alloc_old _ _ t (by simp; omega), World.frozen?_alloc_old _ _ t (by simp; omega), World.frozen?_alloc_old _ _ t (Nat.ne_of_lt htl)]; exact hf0)
  go_enter Tryz.func74, Tryz.ntmps74
  go_wp2
  refine wp_loop_rounds 1 ?_
  rw [rounds_succ]
  go_wp2
  go_ret
  exact ⟨rfl, rfl⟩
end Go.Proofs.YtgmldkojldlekaaGreatDoor

namespace Go.Proofs.YtgmldkojldlekaaGreatDoor
set_option maxRecDepth 100000
open Go.RowKit Go.Shelf
attribute [local go_sem] Oper.semAt_some
abbrev dmpO (a b c d e : Value) : Obj := .cells #[a, b, c, d, e] 44
abbrev dmp0 : Obj := dmpO (.slice none 0 0) (.slice none 0 0) (.slice none 0 0) (.slice none 0 0) (.slice none 0 0)
abbrev setD (w : World) (q : Nat) (a b c d e : Value) : World := ((((w.setCell ⟨q, 0, none⟩ a).setCell ⟨q, 1, none⟩ b).setCell ⟨q, 2, none⟩ c).setCell ⟨q, 3, none⟩ d).setCell ⟨q, 4, none⟩ e
theorem setD_at {w : World} {q : Nat} {u0 u1 u2 u3 u4 : Value} {T : TypeId} (h : w.heap[q]? = some (.cells #[u0, u1, u2, u3, u4] T)) (a b c d e : Value) : (setD w q a b c d e).heap[q]? = some (.cells #[a, b, c, d, e] T) :=
  heap_setCell_same _ q 4 _ _ e (heap_setCell_same _ q 3 _ _ d (heap_setCell_same _ q 2 _ _ c (heap_setCell_same _ q 1 _ _ b (heap_setCell_same w q 0 _ _ a h))))
theorem setD_far (w : World) {q k : Nat} (a b c d e : Value) (h : k ≠ q) : (setD w q a b c d e).heap[k]? = w.heap[k]? := by
  rw [Below.heap_setCell _ _ _ _ h, Below.heap_setCell _ _ _ _ h, Below.heap_setCell _ _ _ _ h, Below.heap_setCell _ _ _ _ h, Below.heap_setCell _ _ _ _ h]
theorem setD_below {W w : World} {n q : Nat} (hb : Below n W w) (hq : n ≤ q) (a b c d e : Value) : Below n W (setD w q a b c d e) := ((((hb.setCell (p := ⟨q, 0, none⟩) hq _).setCell (p := ⟨q, 1, none⟩) hq _).setCell (p := ⟨q, 2, none⟩) hq _).setCell (p := ⟨q, 3, none⟩) hq _).setCell (p := ⟨q, 4, none⟩) hq _
theorem ret_dmp {w : World} {fn : Func} {t : Tmp} (hfn : fn.results = #[.cell t 44]) {tmps : Array Value} {q : Nat} {u0 u1 u2 u3 u4 : Value} (h4 : tmps[t]?.getD undef = .pointer (some ⟨q, 0, none⟩)) (hq : w.heap[q]? = some (.cells #[u0, u1, u2, u3, u4] 44)) : (results fn tmps).run Tryz.prog w = .ok (.agg #[u0, u1, u2, u3, u4]) w := by
  obtain ⟨⟨z0, z1, z2, z3, z4⟩, _⟩ := cel_cells hq
  simp [results, hfn, go_sem, h4, z0, z1, z2, z3, z4]
structure Dk (w : World) (hb : Nat) (O : Obj) (W : World) : Prop where
  b : Below w.heap.size w W
  x : W.heap[w.heap.size]? = some dmp0
  n : W.heap[hb]? = some O
theorem Dk.next {w W W' : World} {hb : Nat} {O : Obj} (h : Dk w hb O W) (hb' : Below W.heap.size W W') : Dk w hb O W' := ⟨Below.next h.b hb', (hb'.block _ (lt_of_block h.x)).trans h.x, (hb'.block _ (lt_of_block h.n)).trans h.n⟩
theorem Dk.drew {w W : World} {hb : Nat} {O : Obj} (h : Dk w hb O W) : Dk w hb O W.drew := h.next (Below.refl _ W).drew
abbrev hpO (ap tp : Option Addr) (trv ptv : Value) (n : Int) : Obj := .cells #[.pointer ap, .pointer tp, trv, ptv, .int .i64 n] 83
theorem Dk.cells {w W : World} {hb : Nat} {ap tp : Option Addr} {trv ptv : Value} {n : Int} (h : Dk w hb (hpO ap tp trv ptv n) W) : W.cell? ⟨hb, 0, none⟩ = some (.pointer ap) ∧ W.cell? ⟨hb, 1, none⟩ = some (.pointer tp) ∧ W.cell? ⟨hb, 2, none⟩ = some trv ∧ W.cell? ⟨hb, 3, none⟩ = some ptv ∧ hb < W.heap.size := by
  obtain ⟨⟨c0, c1, c2, c3, _⟩, _, c5⟩ := cel_cells h.n
  exact ⟨c0, c1, c2, c3, c5⟩
theorem row_below {A A' : World} {B z : Nat} {e : TypeId} {v : Value} {n : Nat} {xs : List Value} (h : A.ownsRow B e z v n xs) (hb : Below A.heap.size A A') : A'.ownsRow B e z v n xs := row_keep h (fun k hk => hb.block k (h.lt k hk).2)
structure Dr (B : Nat) (v1 : Value) (k1 : Nat) (xs1 : List Value) (v2 : Value) (k2 : Nat) (xs2 : List Value) (v3 : Value) (k3 : Nat) (xs3 : List Value) (W : World) : Prop where
  r1 : W.ownsRow B 88 1 v1 k1 xs1
  r2 : W.ownsRow B 90 2 v2 k2 xs2
  r3 : W.ownsRow B 85 3 v3 k3 xs3
theorem Dr.keep {B : Nat} {v1 v2 v3 : Value} {k1 k2 k3 : Nat} {xs1 xs2 xs3 : List Value} {A A' : World} (h : Dr B v1 k1 xs1 v2 k2 xs2 v3 k3 xs3 A) (hk : ∀ (k : Nat) (o : Obj), A.heap[k]? = some o → (∀ (cs : Array Value) (x : Nat × Nat), o ≠ .cells cs 44 x) → o.isCells = true → A'.heap[k]? = some o) : Dr B v1 k1 xs1 v2 k2 xs2 v3 k3 xs3 A' := by
  have key : ∀ {z : Nat} {e : TypeId} {v : Value} {n : Nat} {xs : List Value}, A.ownsRow B e z v n xs → e ≠ 44 → A'.ownsRow B e z v n xs := fun {z e v n xs} hr hne => row_keep hr (fun k hk' => by
    obtain ⟨cur, hc⟩ := row_obj hr hk'
    rw [hc]
    exact hk k _ hc (fun cs x e' => by injection e' with _ e'; exact hne e') rfl)
  exact ⟨key h.r1 (by decide), key h.r2 (by decide), key h.r3 (by decide)⟩
structure Dc (w : World) (hb : Nat) (O : Obj) (k1 : Nat) (xs1 : List Value) (k2 : Nat) (xs2 : List Value) (k3 : Nat) (xs3 : List Value) (t3 : Nat) (W : World) : Prop where
  d : Dk w hb O W
  lt : w.heap.size < t3
  r : ∃ a1 c1 a2 c2 a3 c3, W.heap[t3]? = some (dmpO (.slice a1 k1 c1) (.slice a2 k2 c2) (.slice a3 k3 c3) (.slice none 0 0) (.slice none 0 0)) ∧ Dr w.heap.size (.slice a1 k1 c1) k1 xs1 (.slice a2 k2 c2) k2 xs2 (.slice a3 k3 c3) k3 xs3 W
theorem Dc.late {w : World} {hb : Nat} {O : Obj} {k1 k2 k3 : Nat} {xs1 xs2 xs3 : List Value} {W : World} {a1 a2 a3 : Option Addr} {c1 c2 c3 : Nat} (h : Dk w hb O W) (hz : w.heap.size < W.heap.size) (r1 : W.ownsRow w.heap.size 88 1 (.slice a1 k1 c1) k1 xs1) (r2 : W.ownsRow w.heap.size 90 2 (.slice a2 k2 c2) k2 xs2) (r3 : W.ownsRow w.heap.size 85 3 (.slice a3 k3 c3) k3 xs3) : Dc w hb O k1 xs1 k2 xs2 k3 xs3 W.heap.size (W.alloc (dmpO (.slice a1 k1 c1) (.slice a2 k2 c2) (.slice a3 k3 c3) (.slice none 0 0) (.slice none 0 0))) :=
  ⟨h.next (below_alloc W _), hz, a1, c1, a2, c2, a3, c3, heap_alloc_new W _, row_below r1 (below_alloc W _), row_below r2 (below_alloc W _), row_below r3 (below_alloc W _)⟩
theorem Dc.early {w : World} {hb t3 : Nat} {O : Obj} {k1 k2 k3 : Nat} {xs1 xs2 xs3 : List Value} {W : World} {a1 a2 a3 : Option Addr} {c1 c2 c3 : Nat} (h : Dk w hb O W) (hO : ∀ (cs : Array Value) (x : Nat × Nat), O ≠ .cells cs 44 x) (hz : w.heap.size < t3) (ht : W.heap[t3]? = some dmp0) (r1 : W.ownsRow w.heap.size 88 1 (.slice a1 k1 c1) k1 xs1) (r2 : W.ownsRow w.heap.size 90 2 (.slice a2 k2 c2) k2 xs2) (r3 : W.ownsRow w.heap.size 85 3 (.slice a3 k3 c3) k3 xs3) : Dc w hb O k1 xs1 k2 xs2 k3 xs3 t3 (setD W t3 (.slice a1 k1 c1) (.slice a2 k2 c2) (.slice a3 k3 c3) (.slice none 0 0) (.slice none 0 0)) := by
  have hne : hb ≠ t3 := fun e => by
    subst e
    rw [h.n] at ht
    exact hO _ _ (Option.some.inj ht)
  have hfar : ∀ k, k ≠ t3 → (setD W t3 (.slice a1 k1 c1) (.slice a2 k2 c2) (.slice a3 k3 c3) (.slice none 0 0) (.slice none 0 0)).heap[k]? = W.heap[k]? := fun k hk => setD_far W _ _ _ _ _ hk
  refine ⟨⟨setD_below h.b (by omega) _ _ _ _ _, (hfar _ (by omega)).trans h.x, (hfar _ hne).trans h.n⟩, hz, a1, c1, a2, c2, a3, c3, setD_at ht _ _ _ _ _, Dr.keep ⟨r1, r2, r3⟩ (fun k o hk hno _ => (hfar k (fun e => by subst e; rw [ht] at hk; exact hno _ _ (Option.some.inj hk).symm)).trans hk)⟩
structure Dl (w : World) (k1 : Nat) (xs1 : List Value) (k2 : Nat) (xs2 : List Value) (k3 : Nat) (xs3 : List Value) (t3 : Nat) (pre : List (Nat × ByteArray)) (W : World) : Prop where
  b : Below w.heap.size w W
  x : W.heap[w.heap.size]? = some dmp0
  lt : w.heap.size < t3
  r : ∃ a1 c1 a2 c2 a3 c3 ua uc, W.heap[t3]? = some (dmpO (.slice a1 k1 c1) (.slice a2 k2 c2) (.slice a3 k3 c3) (.slice ua pre.length uc) (.slice none 0 0)) ∧ Dr w.heap.size (.slice a1 k1 c1) k1 xs1 (.slice a2 k2 c2) k2 xs2 (.slice a3 k3 c3) k3 xs3 W ∧ W.ownsRow w.heap.size 9 1 (.slice ua pre.length uc) pre.length (pre.map fun x => Value.string x.2)
theorem Dl.nb {w W W' : World} {k1 k2 k3 t3 B : Nat} {xs1 xs2 xs3 : List Value} {pre : List (Nat × ByteArray)} (h : Dl w k1 xs1 k2 xs2 k3 xs3 t3 pre W) (hn : Nb B W W') (hB : w.heap.size ≤ B) : Dl w k1 xs1 k2 xs2 k3 xs3 t3 pre W' := by
  obtain ⟨a1, c1, a2, c2, a3, c3, ua, uc, h1, h2, h3⟩ := h.r
  refine ⟨hn.below h.b hB (Nat.le_refl _), hn.block _ _ h.x (Or.inr rfl), h.lt, a1, c1, a2, c2, a3, c3, ua, uc, hn.block _ _ h1 (Or.inr rfl), h2.keep (fun k o hk _ ho => hn.block k o hk (Or.inr ho)), row_keep h3 (fun k hk => ?_)⟩
  obtain ⟨cur, hc⟩ := row_obj h3 hk
  rw [hc]
  exact hn.block k _ hc (Or.inr rfl)
end Go.Proofs.YtgmldkojldlekaaGreatDoor

namespace Go.Proofs.YtgmldkojldlekaaGreatDoor
set_option maxRecDepth 100000
open Go.RowKit
abbrev oLa : Obj := .cells #[.int .i64 0, .int .i64 1] 3
abbrev oLb (q : Nat) : Obj := .cells #[.int .i64 4, .string fSC, .int .i64 0, .slice (some ⟨q, 0, none⟩) 2 2, .int .i64 1, .string ⟨#[]⟩, .int .i64 0, .slice none 0 0] 117
abbrev oLc : Obj := .cells #[.int .i64 0] 3
structure Lp (w : World) (a b c : Nat) : Prop where
  fa : w.heap[a]? = some oLa
  fb : w.heap[b]? = some (oLb a)
  fc : w.heap[c]? = some oLc
theorem lp_gra {w : World} {a b c : Nat} (h : Lp w a b c) : Gra w (.slice (some ⟨b, 0, none⟩) 2 2) (.slice (some ⟨c, 0, none⟩) 1 1) gL (fun x => if x = 0 then .slice (some ⟨a, 0, none⟩) 2 2 else .slice none 0 0) := by
  refine ⟨⟨some ⟨b, 0, none⟩, 2, rfl, fun j hj => ?_⟩, ri_lit1 h.fc⟩
  have hj2 : j = 0 ∨ j = 1 := by
    have : j < 2 := hj
    omega
  have hb := h.fb
  rcases hj2 with rfl | rfl
  · exact ⟨b, 0, rfl, by simp [World.cell?, hb, gL], by simp [World.cell?, hb, gL], by simp [World.cell?, hb, gL], by simp [World.cell?, hb], ri_lit2 h.fa⟩
  · exact ⟨b, 0, rfl, by simp [World.cell?, hb, gL], by simp [World.cell?, hb, gL], by simp [World.cell?, hb, gL], by simp [World.cell?, hb], Ri.nil _⟩
set_option maxHeartbeats 800000 in
theorem loop_any (w : World) :
    Calls Tryz.prog 22 #[] w fun e w' => (∃ a b c, e = .returned (.agg #[.slice (some ⟨b, 0, none⟩) 2 2, .slice (some ⟨c, 0, none⟩) 1 1]) ∧ Lp w' a b c ∧ w.heap.size ≤ a ∧ w.heap.size ≤ b ∧ w.heap.size ≤ c) ∧ Below w.heap.size w w' := by
  go_enter Tryz.func22, Tryz.ntmps22
  go_wp2
  obtain ⟨x0, x1, x2, x3⟩ := alloc4 w (.cells #[.slice (some ⟨w.heap.size + 1 + 1, 0, none⟩) 2 2, .slice (some ⟨w.heap.size + 1 + 1 + 1, 0, none⟩) 1 1] 30) oLa (oLb (w.heap.size + 1)) oLc
  exact bodyPost_ret (ret_gr1 Tryz.results22 (by rfl) x0) rfl ⟨⟨w.heap.size + 1, w.heap.size + 2, w.heap.size + 3, rfl, ⟨x1, x2, x3⟩, by omega, by omega, by omega⟩, Below.next (Below.next (Below.next (below_alloc _ _) (below_alloc _ _)) (below_alloc _ _)) (below_alloc _ _)⟩
section
variable {w : World} {B hb ab tb : Nat} {m : Int} {av : Value} {l : List Int} {tv : Value} {tq : Nat} {ns : List ByteArray} {trv ptv : Value} {n : Int}
set_option maxHeartbeats 800000 in
theorem htop_any (h : Hp w B hb ab tb m av l tv tq ns trv ptv n) :
    Calls Tryz.prog 23 #[.pointer (some ⟨hb, 0, none⟩)] w fun e w' => e = .returned (.int .i64 (l.length : Int)) ∧ w' = w := by
  obtain ⟨⟨c0, _⟩, c5⟩ := h.cells
  have ht := hid (top_any h.ar)
  clear h
  go_enter Tryz.func23, Tryz.ntmps23
  go_wp2_with (first
    | (go_at_call 31; refine (self_some _ _).mono ?_; rintro e w' ⟨rfl, rfl⟩)
    | (go_at_call 53; refine ht.out.mono ?_; rintro e w' ⟨rfl, rfl⟩))
  go_ret
  exact ⟨rfl, rfl⟩
end
section
variable {w : World} {B hb ab tb : Nat} {m : Int} {av : Value} {tv : Value} {tq : Nat} {ns : List ByteArray}
theorem lput_any {a b c : Nat} (hH : Hp w B hb ab tb 20 (.slice none 0 0) [] tv tq [] (.slice none 0 0) (.slice none 0 0) 0) (hB : B ≤ w.heap.size) (hL : Lp w a b c) (ha : a ≠ hb ∧ a ≠ ab) (hb' : b ≠ hb ∧ b ≠ ab) (hc : c ≠ hb ∧ c ≠ ab) :
    Calls Tryz.prog 21 #[.pointer (some ⟨hb, 0, none⟩), .agg #[.slice (some ⟨b, 0, none⟩) 2 2, .slice (some ⟨c, 0, none⟩) 1 1]] w fun e w' => (∃ rb c' av' tb' tv' tq', e = .returned (.tuple #[.slice (some ⟨rb, 0, none⟩) 1 c', .nilIface]) ∧ w'.cell? ⟨rb, 0, none⟩ = some (.int .i64 0) ∧ Hp w' B hb ab tb' 20 av' lL1 tv' tq' [fSC] (.slice none 0 0) (.slice none 0 0) 0) ∧ Below B w w' := by
  have hGk : ∀ w', a_Mod (hb :: a_foot ab (.slice none 0 0)) w w' → Gra w' (.slice (some ⟨b, 0, none⟩) 2 2) (.slice (some ⟨c, 0, none⟩) 1 1) gL (fun x => if x = 0 then .slice (some ⟨a, 0, none⟩) 2 2 else .slice none 0 0) := fun w' h => by
    have hn : ∀ k, k ≠ hb ∧ k ≠ ab → k ∉ hb :: a_foot ab (.slice none 0 0) := fun k hk hx => by
      rcases List.mem_cons.1 hx with e | hx
      · exact hk.1 e
      · rcases a_mem_foot.1 hx with e | e
        · exact hk.2 e
        · cases e
    exact lp_gra ⟨(h.block _ (lt_of_block hL.fa) (hn _ ha)).trans hL.fa, (h.block _ (lt_of_block hL.fb) (hn _ hb')).trans hL.fb, (h.block _ (lt_of_block hL.fc) (hn _ hc)).trans hL.fc⟩
  have hmay := fun c hc => gL_pm.may (c := c) hc
  refine (put_ok hH hB hGk (good_sized gL_good) (chk_of_good gL_good) (by rw [gL_want]; decide) (by rw [gL_met]; decide) (by simpa using hmay)).mono ?_
  rintro e w' ⟨ao, c', av', tb', tv', tq', rfl, ho, hp, hm, _, _⟩
  rw [gL_ns] at hp
  have hw : ([] : List Int) ++ putW [fSC] gL (metF gL) ([] : List Int).length = lL1 := gL_w
  rw [hw] at hp
  obtain ⟨rb, rfl⟩ : ∃ rb, ao = some ⟨rb, 0, none⟩ := by
    rcases ho.2 with ⟨_, hn0⟩ | ⟨g, cap, cur, e, _⟩
    · exact absurd hn0 (by decide)
    · injection e with e _ _
      exact ⟨g, e⟩
  refine ⟨⟨rb, c', av', tb', tv', tq', rfl, ?_, hp⟩, hm.below (fun k hk => ?_) hB⟩
  · rw [ho.cellAt 0 (by decide)]
    rfl
  · rcases List.mem_cons.1 hk with rfl | hk
    · exact hH.base
    · rcases a_mem_foot.1 hk with rfl | hk
      · exact hH.ar.base
      · cases hk
theorem lbind_any {n : Int} (hH : Hp w B hb ab tb m av lL1 tv tq ns (.slice none 0 0) (.slice none 0 0) n) (hB : B ≤ w.heap.size) (n0 : 0 ≤ n) (n1 : n ≤ 1000) :
    Calls Tryz.prog 24 #[.pointer (some ⟨hb, 0, none⟩), .int .i64 4, .int .i64 0] w fun e w' => e = .returned .nilIface ∧ Hp w' B hb ab tb m av lL2 tv tq ns (.slice none 0 0) (.slice none 0 0) (n + 1) ∧ Below B w w' := by
  refine (bind0_left hH sndL1 4 0 (by decide +kernel) (by decide +kernel) (by decide) (by decide) n0 (by omega) (by rw [trL14]; decide) (by rw [trL14, trL10]; decide) (by rw [trL14, trL10]; decide +kernel)).mono ?_
  rintro e w' ⟨rfl, hp, hm⟩
  rw [trL14, trL10, show lL1.set (valOf 32).toNat 11 = lL2 by decide +kernel] at hp
  refine ⟨rfl, hp, hm.below (fun k hk => ?_) hB⟩
  rcases List.mem_cons.1 hk with rfl | hk
  · exact hH.base
  · rcases a_mem_foot.1 hk with rfl | hk
    · exact hH.ar.base
    · exact (hH.ar.row hk).1
end
end Go.Proofs.YtgmldkojldlekaaGreatDoor

namespace Go.Proofs.YtgmldkojldlekaaGreatDoor
set_option maxRecDepth 100000
open Go.RowKit
theorem nodup_vals (f : Nat → Int) : ∀ (n : Nat) (L : List Int), L.Nodup → (∀ x ∈ L, ∃ k, k < n ∧ x = f k) → L.length ≤ n
  | 0, L, _, h => by
    cases L with
    | nil => exact Nat.le_refl _
    | cons x r =>
      obtain ⟨k, hk, _⟩ := h x (by simp)
      omega
  | n + 1, L, hn, h => by
    have h1 := nodup_vals f n (L.erase (f n)) (hn.erase _) (fun x hx => by
      have hx2 := (List.Nodup.mem_erase_iff hn).1 hx
      obtain ⟨k, hk, e⟩ := h x hx2.2
      refine ⟨k, ?_, e⟩
      rcases Nat.lt_or_ge k n with h3 | h3
      · exact h3
      · have e2 : k = n := by omega
        subst e2
        exact absurd e hx2.1)
    have h2 := List.length_erase (a := f n) (l := L)
    split at h2 <;> omega
theorem rfi_len {l cs TS : List Int} (h : Rfi l cs TS) : TS.length ≤ l.length := by
  refine nodup_vals (fun k => trmW l k) l.length TS h.nodup (fun x hx => ?_)
  obtain ⟨k, hk, e⟩ := h.inT x hx
  exact ⟨k, hk, e⟩
section
variable {W : World} {Bh hb ab tb : Nat} {m : Int} {av : Value} {l : List Int} {htv : Value} {tq : Nat} {ns : List ByteArray} {trv ptv : Value} {n : Int} {V : Nat → Bool}
set_option maxHeartbeats 4000000 in
theorem get_no (hH : Hp W Bh hb ab tb m av l htv tq ns trv ptv n) {cv : Value} {cs : List Int} (hC : Ri W cv cs) (hl : cs.length ≤ 5000) (hbd : badF l cs ≠ []) :
    Calls Tryz.prog 26 #[.pointer (some ⟨hb, 0, none⟩), cv] W fun e w' => (∃ q, e = .returned (.tuple #[.agg #[.slice none 0 0, .slice none 0 0], .iface 102 (.pointer (some ⟨q, 0, none⟩))])) ∧ Below W.heap.size W w' := by
  have hb0 := below_alloc W gr0
  have hx0 := hid (heap_alloc_new W gr0)
  have hck := hid (checkedC_any (hH.below hb0).ar (hC.below hb0) hl)
  have Hb0 := hid hb0
  obtain ⟨⟨c0, _⟩, c5⟩ := (hH.below hb0).cells
  obtain ⟨ca, cc, rfl, _⟩ := hC
  generalize badF l cs = fs at *
  generalize cs.length = len at *
  clear hH hb0
  go_enter Tryz.func26, Tryz.ntmps26
  go_wp2_with (first
    | (go_at_call 31; refine (self_some _ _).mono ?_; rintro e w2 ⟨rfl, hw⟩; replace hw := hw.symm; subst hw)
    | (go_at_call 41; refine hck.out.mono ?_; rintro e w1 ⟨⟨ev, rfl, hev⟩, hb1⟩; obtain ⟨q, hq⟩ := er_ptr hev hbd; subst hq; have Hb1 := hid (Below.next Hb0.out hb1); have HX1 := hid ((hb1.block _ (by simp)).trans hx0.out); obtain ⟨⟨y0, y1⟩, yf0, yf1⟩ := cblk2 HX1.out; clear hev hb1))
  have hfin := heap_setCell_same _ W.heap.size 1 _ _ (.slice none 0 0) (heap_setCell_same w1 W.heap.size 0 _ _ (.slice none 0 0) HX1.out)
  exact bodyPost_ret (ret_grE Tryz.results26 (by rfl) (by rfl) hfin) rfl ⟨⟨q, rfl⟩, (Hb1.out.setCell (p := ⟨W.heap.size, 0, none⟩) (Nat.le_refl _) _).setCell (p := ⟨W.heap.size, 1, none⟩) (Nat.le_refl _) _⟩
theorem bad_all {l cs : List Int} (h : badF l cs = []) : ∀ x ∈ cs, cellB l x = true := fun x hx => by
  have h1 := ixOf_any (fun x => !cellB l x) cs
  have h2 : ¬ (0 ≤ ixOf (fun x => !cellB l x) cs) := fun h3 => by
    unfold badF badC at h
    rw [if_pos h3] at h
    cases h
  rw [decide_eq_false h2] at h1
  have h3 := List.any_eq_false.1 h1.symm x hx
  simpa using h3
theorem get_any (hH : Hp W Bh hb ab tb m av l htv tq ns trv ptv n) (hs : Snd l V) (hn : NsB l ns.length) (hll : l.length ≤ 4096) {cv : Value} {cs : List Int} (hC : Ri W cv cs) (hl : cs.length ≤ 4096) :
    Calls Tryz.prog 26 #[.pointer (some ⟨hb, 0, none⟩), cv] W fun e w' => (∃ ev, e = .returned ev) ∧ Below W.heap.size W w' := by
  by_cases hbd : badF l cs = []
  · exact (get_ok hH hs hn hC (bad_all hbd) hl (fun TS h => Nat.le_trans (rfi_len h) hll)).mono fun e w' ⟨⟨_, _, _, _, _, e1, _⟩, e2⟩ => ⟨⟨_, e1⟩, e2⟩
  · exact (get_no hH hC (by omega) hbd).mono fun e w' ⟨⟨_, e1⟩, e2⟩ => ⟨⟨_, e1⟩, e2⟩
theorem look_any (hH : Hp W Bh hb ab tb m av l htv tq ns trv ptv n) (hs : Snd l V) (hn : NsB l ns.length) (x : Int) :
    Calls Tryz.prog 25 #[.pointer (some ⟨hb, 0, none⟩), .int .i64 x] W fun e w' => (∃ ev, e = .returned ev) ∧ Below W.heap.size W w' := by
  cases hc : cellB l x with
  | false => exact (look_no hH x hc).mono fun e w' ⟨⟨_, e1, _⟩, e2⟩ => ⟨⟨_, e1⟩, e2⟩
  | true =>
    have h1 := hc
    unfold cellB at h1
    simp only [Bool.and_eq_true] at h1
    have h2 : 0 ≤ x ∧ x < (l.length : Int) := by simpa [inB] using h1.1.1
    obtain ⟨k, rfl⟩ : ∃ k : Nat, x = (k : Int) := ⟨x.toNat, by omega⟩
    exact (look_ok hH hs hn k hc (by omega)).mono fun e w' ⟨⟨_, _, e1, _⟩, e2⟩ => ⟨⟨_, e1⟩, e2⟩
end
end Go.Proofs.YtgmldkojldlekaaGreatDoor

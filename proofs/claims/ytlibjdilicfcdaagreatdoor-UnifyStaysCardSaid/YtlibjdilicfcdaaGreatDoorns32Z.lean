/- errors.As of package errors, at a *api.Fault as its target. -/
import Derived.LaidEql
import Derived.Stop.Asserts
import Derived.RowKitTokens
import Derived.Deep.CutRange
import Derived.Test.YtlibjdilicfcdaaGreatDoorns28Z
import Derived.Test.YtlibjdilicfcdaaGreatDoorns26Z
namespace Go.Proofs.YtlibjdilicfcdaaGreatDoor
set_option maxRecDepth 100000
open Go.RowKit Go.Extern.Stop Go.Stop Go.Extern
theorem asValueOfP (t : Addr) (w : World) : (ReflectliteValue.unpack (.iface 126 (.pointer (some t)))).run Tryz.prog w
    = .ok (.agg #[.pointer (some ⟨1, 126, none⟩), .pointer (some ⟨w.heap.size, 0, none⟩), .int .u64 150]) (w.alloc (.cells #[.pointer (some t)] 126)) := by kernel_rfl
theorem asTypeP (a : Addr) (w : World) : (ReflectliteValue.methodAny (ReflectliteValue.valueError "reflectlite.Value.Type" 0) (fun t _ _ _ => ReflectliteType.toType t) #[.agg #[.pointer (some ⟨1, 126, none⟩), .pointer (some a), .int .u64 150]]).run Tryz.prog w
    = .ok (.iface 214 (.agg #[.pointer (some ⟨1, 126, none⟩)])) w := by kernel_rfl
theorem asMethodKind (h : Value) (w : World) : (Go.method 380 214 (.agg #[h]) "Kind").run Tryz.prog w = .ok (172, h) w := by kernel_rfl
theorem asKindP (w : World) : ((ReflectliteType.abiMethod fun t => (fun a : Nat => Value.int IntKind.u8 (a : Int)) <$> Rtype.kind t) #[.pointer (some ⟨1, 126, none⟩)]).run Tryz.prog w = .ok (.int .u8 22) w := by kernel_rfl
theorem asKindF (w : World) : ((ReflectliteType.abiMethod fun t => (fun a : Nat => Value.int IntKind.u8 (a : Int)) <$> Rtype.kind t) #[.pointer (some ⟨1, 84, none⟩)]).run Tryz.prog w = .ok (.int .u8 22) w := by kernel_rfl
theorem lit10 (v : Value) {n : Nat} (h : (#[v] : Array Value).size = n) (k : 0 < n) : (#[v] : Array Value).getLit 0 h k = v := rfl
theorem lit20 (v x : Value) {n : Nat} (h : (#[v, x] : Array Value).size = n) (k : 0 < n) : (#[v, x] : Array Value).getLit 0 h k = v := rfl
theorem lit21 (v x : Value) {n : Nat} (h : (#[v, x] : Array Value).size = n) (k : 1 < n) : (#[v, x] : Array Value).getLit 1 h k = x := rfl
theorem asPartsP (a : Addr) (w : World) : (ReflectliteValue.parts (.agg #[.pointer (some ⟨1, 126, none⟩), .pointer (some a), .int .u64 150])).run Tryz.prog w = .ok (some (126, a, 150)) w := by kernel_rfl
theorem asIsNilP (a p : Addr) (W : World) (ha : W.cell? a = some (.pointer (some p))) :
    (ReflectliteValue.method (ReflectliteValue.valueError "reflectlite.Value.IsNil" 0) ReflectliteValue.isNil #[.agg #[.pointer (some ⟨1, 126, none⟩), .pointer (some a), .int .u64 150]]).run Tryz.prog W = .ok (.bool false) W := by
  change Sem.run Tryz.prog (_ >>= _) W = _
  simp only [lit10, Sem.run_bind, asPartsP, Result.andThen]
  simp [ReflectliteValue.isNil, loadVar, isAgg, underlying, Tryz.underlying126, ha, Result.andThen]
theorem asMethodElem (h : Value) (w : World) : (Go.method 380 214 (.agg #[h]) "Elem").run Tryz.prog w = .ok (187, .agg #[h]) w := by kernel_rfl
theorem asMethodImplements (h : Value) (w : World) : (Go.method 380 214 (.agg #[h]) "Implements").run Tryz.prog w = .ok (188, .agg #[h]) w := by kernel_rfl
theorem asMethodAssignableTo (h : Value) (w : World) : (Go.method 380 214 (.agg #[h]) "AssignableTo").run Tryz.prog w = .ok (185, .agg #[h]) w := by kernel_rfl
theorem asElemP (w : World) : (ReflectliteType.method ReflectliteType.elem #[.agg #[.pointer (some ⟨1, 126, none⟩)]]).run Tryz.prog w = .ok (.iface 214 (.agg #[.pointer (some ⟨1, 84, none⟩)])) w := by kernel_rfl
theorem asImplementsF (w : World) : (ReflectliteType.relation "Implements" ReflectliteType.implements_ #[.agg #[.pointer (some ⟨1, 84, none⟩)], .iface 214 (.agg #[.pointer (some ⟨1, 29, none⟩)])]).run Tryz.prog w = .ok (.bool true) w := by kernel_rfl
theorem asTypeOfF (v : Value) (w : World) : (ReflectliteType.typeOf #[.iface 84 v]).run Tryz.prog w = .ok (.iface 214 (.agg #[.pointer (some ⟨1, 84, none⟩)])) w := by kernel_rfl
theorem asAssignableF (w : World) : (ReflectliteType.relation "AssignableTo" ReflectliteType.assignableTo #[.agg #[.pointer (some ⟨1, 84, none⟩)], .iface 214 (.agg #[.pointer (some ⟨1, 84, none⟩)])]).run Tryz.prog w = .ok (.bool true) w := by kernel_rfl
theorem asValueOfF (e : Addr) (w : World) : (ReflectliteValue.unpack (.iface 84 (.pointer (some e)))).run Tryz.prog w
    = .ok (.agg #[.pointer (some ⟨1, 84, none⟩), .pointer (some ⟨w.heap.size, 0, none⟩), .int .u64 150]) (w.alloc (.cells #[.pointer (some e)] 84)) := by kernel_rfl
theorem asElemOfP (w : World) : (Rtype.elem? 126).run Tryz.prog w = .ok (some 84) w := by kernel_rfl
theorem asMkF (p : Addr) (w : World) : (ReflectliteValue.mk 84 p ReflectliteValue.flagAddr).run Tryz.prog w = .ok (.agg #[.pointer (some ⟨1, 84, none⟩), .pointer (some p), .int .u64 406]) w := by kernel_rfl
theorem asElemVP (a p : Addr) (W : World) (ha : W.cell? a = some (.pointer (some p))) :
    (ReflectliteValue.method (ReflectliteValue.valueError "reflectlite.Value.Elem" 0) ReflectliteValue.elem #[.agg #[.pointer (some ⟨1, 126, none⟩), .pointer (some a), .int .u64 150]]).run Tryz.prog W
      = .ok (.agg #[.pointer (some ⟨1, 84, none⟩), .pointer (some p), .int .u64 406]) W := by
  change Sem.run Tryz.prog (_ >>= _) W = _
  simp only [lit10, Sem.run_bind, asPartsP, Result.andThen]
  simp [ReflectliteValue.elem, loadVar, isAgg, underlying, Tryz.underlying126, ha, Result.andThen, asElemOfP, asMkF]
theorem asPartsFa (a : Addr) (w : World) : (ReflectliteValue.parts (.agg #[.pointer (some ⟨1, 84, none⟩), .pointer (some a), .int .u64 406])).run Tryz.prog w = .ok (some (84, a, 406)) w := by kernel_rfl
theorem asPartsF (a : Addr) (w : World) : (ReflectliteValue.parts (.agg #[.pointer (some ⟨1, 84, none⟩), .pointer (some a), .int .u64 150])).run Tryz.prog w = .ok (some (84, a, 150)) w := by kernel_rfl
theorem asDirectF (w : World) : (Rtype.directlyAssignable 84 84).run Tryz.prog w = .ok true w := by kernel_rfl
theorem asSetF (ta b e : Addr) (old : Value) (W : World) (hb : W.cell? b = some (.pointer (some e))) (ht : W.cell? ta = some old) (hf : W.frozen? ta = false) :
    (ReflectliteValue.set #[.agg #[.pointer (some ⟨1, 84, none⟩), .pointer (some ta), .int .u64 406], .agg #[.pointer (some ⟨1, 84, none⟩), .pointer (some b), .int .u64 150]]).run Tryz.prog W
      = .ok (.tuple #[]) (W.setCell ta (.pointer (some e))) := by
  change Sem.run Tryz.prog (_ >>= _) W = _
  simp only [lit20, lit21, Sem.run_bind, asPartsFa, asPartsF, Result.andThen]
  simp [ReflectliteValue.flagAddr, loadVar, isAgg, underlying, Tryz.underlying84, hb, Result.andThen, asDirectF, storeVar, Value.cells, storeCells, Addr.add]
  rw [run_store Tryz.prog W ta _ _ (by rfl)]
  simp [ht, hf]
set_option maxHeartbeats 4000000 in
theorem as_hit (e t : Addr) (old : Value) (w : World) (hg : w.cell? ⟨0, 0, none⟩ = some (.iface 214 (.agg #[.pointer (some ⟨1, 29, none⟩)]))) (ht0 : w.cell? t = some old) (hf0 : w.frozen? t = false) :
    Calls Tryz.prog 68 #[.iface 84 (.pointer (some e)), .iface 126 (.pointer (some t))] w fun ev w' => ev = .returned (.bool true) ∧ w' = ((((w.alloc (.cells #[.pointer (some t)] 126)).alloc (.cells #[.pointer (some ⟨1, 126, none⟩), .pointer (some ⟨w.heap.size, 0, none⟩), .int .u64 150] 179)).alloc (.cells #[.pointer (some ⟨1, 126, none⟩), .pointer (some ⟨w.heap.size, 0, none⟩), .int .u64 150] 179)).alloc (.cells #[.pointer (some e)] 84)).setCell t (.pointer (some e)) := by
  have h6 := @run_callFunc_extern Tryz.prog 101 _ (fun args => ReflectliteValue.unpack (args.getD 0 (.tuple #[]))) Tryz.func101 (by kernel_rfl) (by kernel_rfl) (by kernel_rfl) (by kernel_rfl)
  have h7 := @run_callFunc_extern Tryz.prog 102 _ (ReflectliteValue.methodAny (ReflectliteValue.valueError "reflectlite.Value.Type" 0) (fun t _ _ _ => ReflectliteType.toType t)) Tryz.func102 (by kernel_rfl) (by kernel_rfl) (by kernel_rfl) (by kernel_rfl)
  have h8 := @run_callFunc_extern Tryz.prog 103 _ (ReflectliteValue.method (ReflectliteValue.valueError "reflectlite.Value.IsNil" 0) ReflectliteValue.isNil) Tryz.func103 (by kernel_rfl) (by kernel_rfl) (by kernel_rfl) (by kernel_rfl)
  have h27 := @run_callFunc_extern Tryz.prog 172 _ (ReflectliteType.abiMethod fun t => do pure (.int .u8 (← Rtype.kind t))) Tryz.func172 (by kernel_rfl) (by kernel_rfl) (by kernel_rfl) (by kernel_rfl)
  have h37 := @run_callFunc_extern Tryz.prog 187 _ (ReflectliteType.method ReflectliteType.elem) Tryz.func187 (by kernel_rfl) (by kernel_rfl) (by kernel_rfl) (by kernel_rfl)
  have h38 := @run_callFunc_extern Tryz.prog 188 _ (ReflectliteType.relation "Implements" ReflectliteType.implements_) Tryz.func188 (by kernel_rfl) (by kernel_rfl) (by kernel_rfl) (by kernel_rfl)
  have h10 := @run_callFunc_extern Tryz.prog 133 _ ReflectliteType.typeOf Tryz.func133 (by kernel_rfl) (by kernel_rfl) (by kernel_rfl) (by kernel_rfl)
  have h35 := @run_callFunc_extern Tryz.prog 185 _ (ReflectliteType.relation "AssignableTo" ReflectliteType.assignableTo) Tryz.func185 (by kernel_rfl) (by kernel_rfl) (by kernel_rfl) (by kernel_rfl)
  have h11 := @run_callFunc_extern Tryz.prog 134 _ (ReflectliteValue.method (ReflectliteValue.valueError "reflectlite.Value.Elem" 0) ReflectliteValue.elem) Tryz.func134 (by kernel_rfl) (by kernel_rfl) (by kernel_rfl) (by kernel_rfl)
  have h12 := @run_callFunc_extern Tryz.prog 135 _ ReflectliteValue.set Tryz.func135 (by kernel_rfl) (by kernel_rfl) (by kernel_rfl) (by kernel_rfl)
  have tO := asTypeOfF
  have mA := asMethodAssignableTo
  have a25 := asAssignableF
  have v25 := asValueOfF
  have f6 := asValueOfP
  have f7 := asTypeP
  have mK := asMethodKind
  have mE := asMethodElem
  have mI := asMethodImplements
  have k27 := asKindP
  have k25 := asKindF
  have e27 := asElemP
  have i25 := asImplementsF
  have n8 := asIsNilP ⟨w.heap.size, 0, none⟩ t ((w.alloc (.cells #[.pointer (some t)] 126)).alloc (.cells #[.pointer (some ⟨1, 126, none⟩), .pointer (some ⟨w.heap.size, 0, none⟩), .int .u64 150] 179)) (by simp)
  have hlt : 0 < w.heap.size := by
    rcases Nat.eq_zero_or_pos w.heap.size with h0 | h
    · simp [World.cell?, h0] at hg
    · exact h
  have hg2 : ((w.alloc (.cells #[.pointer (some t)] 126)).alloc (.cells #[.pointer (some ⟨1, 126, none⟩), .pointer (some ⟨w.heap.size, 0, none⟩), .int .u64 150] 179)).cell? ⟨0, 0, none⟩ = some (.iface 214 (.agg #[.pointer (some ⟨1, 29, none⟩)])) := by
    rw [World.cell?_alloc_lt _ _ ⟨0, 0, none⟩ (by simp), World.cell?_alloc_lt _ _ ⟨0, 0, none⟩ hlt]; exact hg
  have htl : t.block < w.heap.size := by
    rcases Nat.lt_or_ge t.block w.heap.size with h | h
    · exact h
    · simp [World.cell?, Array.getElem?_eq_none h] at ht0
  have el := asElemVP ⟨w.heap.size, 0, none⟩ t (((w.alloc (.cells #[.pointer (some t)] 126)).alloc (.cells #[.pointer (some ⟨1, 126, none⟩), .pointer (some ⟨w.heap.size, 0, none⟩), .int .u64 150] 179)).alloc (.cells #[.pointer (some ⟨1, 126, none⟩), .pointer (some ⟨w.heap.size, 0, none⟩), .int .u64 150] 179)) (by rw [World.cell?_alloc_lt _ _ ⟨w.heap.size, 0, none⟩ (by simp; omega)]; simp)
  have st := asSetF t ⟨w.heap.size + 1 + 1 + 1, 0, none⟩ e old ((((w.alloc (.cells #[.pointer (some t)] 126)).alloc (.cells #[.pointer (some ⟨1, 126, none⟩), .pointer (some ⟨w.heap.size, 0, none⟩), .int .u64 150] 179)).alloc (.cells #[.pointer (some ⟨1, 126, none⟩), .pointer (some ⟨w.heap.size, 0, none⟩), .int .u64 150] 179)).alloc (.cells #[.pointer (some e)] 84))
    (by rw [World.cell?_alloc_at _ _ _ _ (by simp)]; rfl)
    (by rw [World.cell?_alloc_lt _ _ t (by simp; omega), World.cell?_alloc_lt _ _ t (by simp; omega), World.cell?_alloc_lt _ _ t (by simp; omega), World.cell?_alloc_lt _ _ t htl]; exact ht0)
    (by rw [World.frozen?_alloc_old _ _ t (by simp; omega), World.frozen?_alloc_old _ _ t (by simp; omega), World.frozen?_alloc_old _ _ t (by simp; omega), World.frozen?_alloc_old _ _ t (Nat.ne_of_lt htl)]; exact hf0)
  go_enter Tryz.func68, Tryz.ntmps68
  go_wp2
  refine wp_loop_rounds 1 ?_
  rw [rounds_succ]
  go_wp2
  go_ret
  exact ⟨rfl, rfl⟩
end Go.Proofs.YtlibjdilicfcdaaGreatDoor

namespace Go.Proofs.YtlibjdilicfcdaaGreatDoor
set_option maxRecDepth 100000
open Go.RowKit
structure Wb (w1 wc : World) (B bx tb : Nat) (tv : Value) (tq : Nat) (ns' : List ByteArray) (tb' : Nat) (tv' : Value) (tq' : Nat) : Prop where
  b : Below w1.heap.size w1 wc
  x : wc.heap[bx]? = some (.cells #[.pointer (some ⟨tb', 0, none⟩)] 76)
  f : w1.heap.size ≤ bx
  t : Tb wc B tb' tv' tq' ns'
  o : (tb' = tb ∧ tv' = tv ∧ tq' = tq) ∨ ∀ k ∈ n_foot tb' tv' tq', w1.heap.size ≤ k
theorem tb_foot {w : World} {B p q : Nat} {v : Value} {l : List ByteArray} (h : Tb w B p v q l) : ∀ k ∈ n_foot p v q, B ≤ k := fun k hk => by
  rcases n_mem_foot.1 hk with rfl | rfl | hk
  · exact h.base
  · exact h.mbase
  · exact (h.row hk).1
theorem with_tb {w1 wq w3 : World} {B p q p' q' : Nat} {v v' : Value} {ns ns' : List ByteArray} (hT : Tb w1 B p v q ns) (hB : B ≤ w1.heap.size) (hb : Below w1.heap.size w1 wq) (hb3 : Below wq.heap.size wq w3) (h : (p' = p ∧ v' = v ∧ q' = q ∧ ns' = ns) ∨ Tb w3 wq.heap.size p' v' q' ns') : Tb w3 B p' v' q' ns' ∧ ((p' = p ∧ v' = v ∧ q' = q) ∨ ∀ k ∈ n_foot p' v' q', wq.heap.size ≤ k) := by
  rcases h with ⟨rfl, rfl, rfl, rfl⟩ | h
  · exact ⟨hT.below (Below.next hb hb3), Or.inl ⟨rfl, rfl, rfl⟩⟩
  · exact ⟨tb_base h (Nat.le_trans hB hb.size), Or.inr (tb_foot h)⟩
theorem wb_call {w1 wq w3 : World} {B p q p' q' : Nat} {v v' : Value} {ns ns' : List ByteArray} (hT : Tb w1 B p v q ns) (hB : B ≤ w1.heap.size) (hb : Below w1.heap.size w1 wq) (hb3 : Below wq.heap.size wq w3) (h : (p' = p ∧ v' = v ∧ q' = q ∧ ns' = ns) ∨ Tb w3 wq.heap.size p' v' q' ns') : Wb w1 (w3.alloc (.cells #[.pointer (some ⟨p', 0, none⟩)] 76)) B w3.heap.size p v q ns' p' v' q' := by
  obtain ⟨h1, h2⟩ := with_tb hT hB hb hb3 h
  have hz := hb.size
  have hz3 := hb3.size
  refine ⟨Below.next (Below.next hb hb3) (below_alloc _ _), heap_alloc_new _ _, by omega, h1.below (below_alloc _ _), ?_⟩
  rcases h2 with h2 | h2
  · exact Or.inl h2
  · exact Or.inr (fun k hk => Nat.le_trans hz (h2 k hk))
theorem wb_box {w1 wq w3 : World} {B p q p' q' bx : Nat} {v v' : Value} {ns ns' : List ByteArray} {u : Value} (hT : Tb w1 B p v q ns) (hB : B ≤ w1.heap.size) (hb : Below w1.heap.size w1 wq) (hx : wq.heap[bx]? = some (.cells #[u] 76)) (hf : w1.heap.size ≤ bx) (hb3 : Below wq.heap.size wq w3) (h : (p' = p ∧ v' = v ∧ q' = q ∧ ns' = ns) ∨ Tb w3 wq.heap.size p' v' q' ns') : Wb w1 (w3.setCell ⟨bx, 0, none⟩ (.pointer (some ⟨p', 0, none⟩))) B bx p v q ns' p' v' q' := by
  obtain ⟨h1, h2⟩ := with_tb hT hB hb hb3 h
  have hz := hb.size
  have hx3 := (hb3.block _ (lt_of_block hx)).trans hx
  refine ⟨(Below.next hb hb3).setCell (p := ⟨bx, 0, none⟩) hf _, heap_setCell_same w3 bx 0 _ _ _ hx3, hf, h1.keep (ks := [bx]) ((n_Mod.refl _ w3).setCell (p := ⟨bx, 0, none⟩) (Or.inl (by simp)) _) (fun k hk hf2 => ?_), ?_⟩
  · have e : k = bx := by simpa using hk
    subst e
    have hlt := lt_of_block hx
    rcases h2 with ⟨rfl, rfl, rfl⟩ | h2
    · rcases n_mem_foot.1 hf2 with e | e | e
      · have := hT.lt
        omega
      · have := hT.mlt
        omega
      · have := (hT.row e).2.1
        omega
    · have := h2 k hf2
      omega
  · rcases h2 with h2 | h2
    · exact Or.inl h2
    · exact Or.inr (fun k hk => Nat.le_trans hz (h2 k hk))
theorem set_far (w : World) (v : Value) {q i k o : Nat} (h : k ≠ q) : (w.setCell ⟨q, i, none⟩ v).cell? ⟨k, o, none⟩ = w.cell? ⟨k, o, none⟩ := World.cell?_of_block (w := w) (a := ⟨k, o, none⟩) (Below.heap_setCell _ _ _ _ h)
theorem box_cell {w1 w3 : World} (h : Below (w1.alloc (.cells #[.pointer none] 76)).drew.heap.size (w1.alloc (.cells #[.pointer none] 76)).drew w3) : w3.heap[w1.heap.size]? = some (.cells #[.pointer none] 76) ∧ w3.cell? ⟨w1.heap.size, 0, none⟩ = some (.pointer none) ∧ w3.frozen? ⟨w1.heap.size, 0, none⟩ = false := by
  have h0 : w3.heap[w1.heap.size]? = some (.cells #[.pointer none] 76) := (h.block _ (show w1.heap.size < (w1.alloc _).heap.size by simp)).trans (heap_alloc_new w1 _)
  exact ⟨h0, by simp [World.cell?, h0], by simp [World.frozen?, h0]⟩
theorem met_none {g : Gf} (h : g.roots = []) : metF g = [] := by
  unfold metF
  rw [h]
  cases g.nodes.length <;> rfl
section
variable {w1 wc w4 w5 : World} {B hb ab tb bx tb' tq' : Nat} {m : Int} {av av' : Value} {l l' : List Int} {tv tv' : Value} {tq : Nat} {ns ns' : List ByteArray} {trv ptv : Value} {n : Int}
theorem put_lay {W w1 wc w4 w5 : World} {B hb ab tb tb' : Nat} {m : Int} {av av' : Value} {l : List Int} {tv tv' : Value} {tq tq' : Nat} {ns NS : List ByteArray} {trv ptv : Value} {n : Int} {nv rv : Value} {g : Gf} {avs : Nat → Value} {MT : List Int} {CT mc : Nat} {mo : Option Addr}
    (HH : Hp W B hb ab tb m av l tv tq ns trv ptv n) (HGk : ∀ w', a_Mod (hb :: a_foot ab av) W w' → Gra w' nv rv g avs) (Hbw : Below W.heap.size W wc) (Hb4 : Below wc.heap.size wc w4) (HU : a_Upd 159 w4 w5 B ab m av (l ++ frsh l.length CT) av')
    (HP : Hp (w5.setCell ⟨hb, 1, none⟩ (.pointer (some ⟨tb', 0, none⟩))) B hb ab tb' m av' (l ++ frsh l.length CT) tv' tq' NS trv ptv n) {B1 : Nat} (Ho1 : w1.ownsRow B1 3 1 (.slice mo MT.length mc) MT.length (MT.map (Value.int .i64))) (Hb1 : Below W.heap.size W w1) (Hb2 : Below w1.heap.size w1 wc) (hB1 : W.heap.size ≤ B1)
    (Hg : Good g) (Hok : Ok g.nodes.length MT) (Hro : ∀ x ∈ g.roots, x ∈ MT) (Har : ∀ x ∈ MT, ∀ y ∈ g.argsOf x, y ∈ MT) (hTl : (putW NS g MT l.length).length = CT)
    (HTr : ∀ c, c < (putW NS g MT l.length).length → 0 ≤ (putW NS g MT l.length).getD c 0 ∧ (putW NS g MT l.length).getD c 0 ≤ 18446744073709551615 ∧ mayB ((putW NS g MT l.length).getD c 0) (l.length + (putW NS g MT l.length).length) = true) :
    Calls Tryz.prog 60 #[.pointer (some ⟨hb, 0, none⟩), .agg #[nv, rv], .slice mo MT.length mc, .int .i64 (l.length : Int)] (w5.setCell ⟨hb, 1, none⟩ (.pointer (some ⟨tb', 0, none⟩))) fun e w' => ∃ ao c, e = .returned (.slice ao g.roots.length c) ∧ w'.ownsRow W.heap.size 3 1 (.slice ao g.roots.length c) g.roots.length (((List.range g.roots.length).map (fun i => ((l.length + i : Nat) : Int))).map (Value.int .i64)) ∧ Hp w' B hb ab tb' m av' (l ++ putW NS g MT l.length) tv' tq' NS trv ptv n ∧ a_Mod (hb :: a_foot ab av) W w' ∧ a_Nx W av av' := by
  obtain ⟨z0, z1, z2⟩ := HH.ltz
  have hz1 := Hb1.size
  have hz2 := Hb2.size
  have hz4 := Hb4.size
  have hnx : a_Nx W av av' := fun k hk => by
    rcases HU.nx k hk with h | h
    · exact Or.inl h
    · exact Or.inr (by omega)
  have hm5 : a_Mod (hb :: a_foot ab av) W w5 := (a_Mod.ofBelow (Below.next Hbw Hb4)).trans HU.mod (fun x hx => Or.inl (List.mem_cons_of_mem _ hx))
  have hm6 : a_Mod (hb :: a_foot ab av) W (w5.setCell ⟨hb, 1, none⟩ (.pointer (some ⟨tb', 0, none⟩))) := hm5.setCell (p := ⟨hb, 1, none⟩) (Or.inl (by simp)) _
  have hm65 : a_Mod (hb :: a_foot ab av) w4 (w5.setCell ⟨hb, 1, none⟩ (.pointer (some ⟨tb', 0, none⟩))) := (HU.mod.ofMem _ (fun x hx => Or.inl (List.mem_cons_of_mem _ hx))).setCell (p := ⟨hb, 1, none⟩) (Or.inl (by simp)) _
  generalize w5.setCell ⟨hb, 1, none⟩ (.pointer (some ⟨tb', 0, none⟩)) = w6 at *
  have hfo : ∀ x ∈ a_foot ab av', x ∈ hb :: a_foot ab av ∨ w4.heap.size ≤ x := fun x hx => by
    rcases a_mem_foot.1 hx with rfl | hx
    · exact Or.inl (List.mem_cons_of_mem _ (a_mem_foot.2 (Or.inl rfl)))
    · rcases HU.nx x hx with h | h
      · exact Or.inl (List.mem_cons_of_mem _ (a_mem_foot.2 (Or.inr h)))
      · exact Or.inr h
  have hH6 : Hp w6 B hb ab tb' m av' (l ++ mixW (putW NS g MT l.length) l.length 0) tv' tq' NS trv ptv n := by
    rw [mix_zero, hTl]
    exact HP
  have hlw : ∀ w', a_Mod (a_foot ab av') w6 w' → a_Mod (hb :: a_foot ab av) w4 w' := fun w' h => hm65.trans h hfo
  have hal : ∀ w', a_Mod (a_foot ab av') w6 w' → a_Mod (hb :: a_foot ab av) W w' := fun w' h => hm6.trans h (fun x hx => by
    rcases hfo x hx with h1 | h1
    · exact Or.inl h1
    · exact Or.inr (by omega))
  have hri4 : ∀ w', a_Mod (hb :: a_foot ab av) w4 w' → Ri w' (.slice mo MT.length mc) MT := fun w' h => by
    have ho4 := row_keep Ho1 (fun k hk => (Below.next Hb2 Hb4).block k (Ho1.lt k hk).2)
    refine ri_own (row_keep ho4 (fun k hk => h.block k (ho4.lt k hk).2 (fun hx => ?_)))
    have h1 := (Ho1.lt k hk).1
    rcases List.mem_cons.1 hx with rfl | hx
    · omega
    · have := z1 _ hx
      omega
  refine (lay_ok (putW NS g MT l.length) hH6 (fun w' h => HGk w' (hal w' h)) (fun w' h => hri4 w' (hlw w' h)) Hg Hok.rng Hok.nodup Hro Har rfl HTr).mono ?_
  rintro e w7 ⟨⟨ao, c, rfl, ho⟩, hp, hm⟩
  exact ⟨ao, c, rfl, own_base ho (by have := hm6.size; omega), hp, hal _ hm, hnx⟩
theorem hp_named (H : Hp w1 B hb ab tb m av l tv tq ns trv ptv n) (hW : Wb w1 wc B bx tb tv tq ns' tb' tv' tq') (hb4 : Below wc.heap.size wc w4) (hu : a_Upd 159 w4 w5 B ab m av l' av') :
    Hp (w5.setCell ⟨hb, 1, none⟩ (.pointer (some ⟨tb', 0, none⟩))) B hb ab tb' m av' l' tv' tq' ns' trv ptv n ∧ w5.cell? ⟨bx, 0, none⟩ = some (.pointer (some ⟨tb', 0, none⟩)) ∧ w5.cell? ⟨hb, 1, none⟩ = some (.pointer (some ⟨tb, 0, none⟩)) ∧ w5.frozen? ⟨hb, 1, none⟩ = false ∧ bx < w5.heap.size := by
  have hb14 := Below.next hW.b hb4
  have H4 := H.below hb14
  obtain ⟨z0, z1, z2⟩ := H.ltz
  have h5 := H4.words hu
  have hbx4 := (hb4.block _ (lt_of_block hW.x)).trans hW.x
  have hbx : w5.heap[bx]? = some (.cells #[.pointer (some ⟨tb', 0, none⟩)] 76) := (hu.mod.block _ (lt_of_block hbx4) (fun hx => by have := z1 _ hx; have := hW.f; omega)).trans hbx4
  have hof : ∀ k ∈ n_foot tb' tv' tq', k ≠ hb ∧ k ∉ a_foot ab av := fun k hk => by
    rcases hW.o with ⟨rfl, rfl, rfl⟩ | h
    · exact ⟨fun e => H.self.2 (e ▸ hk), fun hx => (H.apart hx).2 hk⟩
    · have := h k hk
      exact ⟨by omega, fun hx => by have := z1 _ hx; omega⟩
  have hT5 : Tb w5 B tb' tv' tq' ns' := (hW.t.below hb4).keep (mod_an hu.mod) (fun k hk hf => (hof k hf).2 hk)
  have hm : a_Mod [hb] w5 (w5.setCell ⟨hb, 1, none⟩ (.pointer (some ⟨tb', 0, none⟩))) := (a_Mod.refl [hb] w5).setCell (p := ⟨hb, 1, none⟩) (Or.inl (by simp)) _
  refine ⟨⟨heap_setCell_same w5 hb 1 _ _ _ h5.blk, h5.base, h5.ar.keep hm (fun k hk => by
    have e : k = hb := by simpa using hk
    rw [e]; exact h5.self.1), hT5.keep (mod_an hm) (fun k hk hf => by
    have e : k = hb := by simpa using hk
    exact (hof k hf).1 e)⟩, by simp [World.cell?, hbx], h5.cells.1.2.1, by simp [World.frozen?, h5.blk], lt_of_block hbx⟩
end
section
variable {W : World} {B hb ab tb : Nat} {m : Int} {av : Value} {l : List Int} {tv : Value} {tq : Nat} {ns : List ByteArray} {trv ptv : Value} {n : Int}
set_option maxHeartbeats 16000000 in
theorem put_okG {nv rv : Value} {g : Gf} (hH : Hp W B hb ab tb m av l tv tq ns trv ptv n) (hB : B ≤ W.heap.size) {avs : Nat → Value}
    (hGk : ∀ w', a_Mod (hb :: a_foot ab av) W w' → Gra w' nv rv g avs) (hS : Sized g) (hck : one (chk g) = [])
    (hro : (l.length + wantJ g (metF g) (metF g).length : Int) ≤ m) (hna : (wthJ ns g (metF g) (metF g).length).length ≤ 1024)
    (hTr : ∀ c, c < (putW (wthJ ns g (metF g) (metF g).length) g (metF g) l.length).length → 0 ≤ (putW (wthJ ns g (metF g) (metF g).length) g (metF g) l.length).getD c 0 ∧ (putW (wthJ ns g (metF g) (metF g).length) g (metF g) l.length).getD c 0 ≤ 18446744073709551615 ∧ mayB ((putW (wthJ ns g (metF g) (metF g).length) g (metF g) l.length).getD c 0) (l.length + (putW (wthJ ns g (metF g) (metF g).length) g (metF g) l.length).length) = true) :
    Calls Tryz.prog 27 #[.pointer (some ⟨hb, 0, none⟩), .agg #[nv, rv]] W fun e w' => ∃ ao c av' tb' tv' tq', e = .returned (.tuple #[.slice ao g.roots.length c, .nilIface]) ∧ w'.ownsRow W.heap.size 3 1 (.slice ao g.roots.length c) g.roots.length (((List.range g.roots.length).map (fun i => ((l.length + i : Nat) : Int))).map (Value.int .i64)) ∧ Hp w' B hb ab tb' m av' (l ++ putW (wthJ ns g (metF g) (metF g).length) g (metF g) l.length) tv' tq' (wthJ ns g (metF g) (metF g).length) trv ptv n ∧ a_Mod (hb :: a_foot ab av) W w' ∧ a_Nx W av av' ∧ ((tb' = tb ∧ tv' = tv ∧ tq' = tq) ∨ ∀ k ∈ n_foot tb' tv' tq', W.heap.size ≤ k) := by
  have hg := chk_good hck
  have hok := met_ok hg
  have hml := hok.le
  have hN : g.nodes.length ≤ 4096 := hg.nodes
  have hGr : ∀ w', a_Mod (hb :: a_foot ab av) W w' → Gr w' nv rv g := fun w' h => (hGk w' h).gr
  have hb0 := below_alloc W (.cells #[nv, rv] 25)
  have hre := hid (reach_good (hGr _ (a_Mod.ofBelow hb0)) hS hck)
  have HGk := hid hGk
  have HGr := hid hGr
  have HH := hid hH
  have Hg := hid hg
  have Hro := hid (met_root hg)
  have Har := hid (met_arg hg)
  have Hok := hid hok
  have HTr := hid hTr
  obtain ⟨na, nc, rfl, _⟩ := (hGk W (a_Mod.refl _ _)).1
  obtain ⟨ra, rc, rfl, _⟩ := (hGk W (a_Mod.refl _ _)).2
  have hx0 := hid (heap_alloc_new W (.cells #[.slice na g.nodes.length nc, .slice ra g.roots.length rc] 25))
  have Hb0 := hid hb0
  obtain ⟨MT, hMT⟩ : ∃ MT, MT = metF g := ⟨_, rfl⟩
  rw [← hMT] at hre Hro Har Hok HTr hml hna hro
  rw [← hMT]
  obtain ⟨NS, hNS⟩ : ∃ NS, NS = wthJ ns g MT MT.length := ⟨_, rfl⟩
  rw [← hNS] at HTr
  rw [← hNS]
  replace hNS := hid hNS
  replace hMT := hid hMT
  clear hg hok hGr hGk hH hTr hb0 hS hck
  go_enter Tryz.func27, Tryz.ntmps27
  go_wp2_with (go_at_call 56; refine hre.out.mono ?_; rintro e w1 ⟨⟨mo, mc, rfl, ho1⟩, hb1⟩; have Hb1 := hid (Below.next Hb0.out hb1); have Ho1 := hid ho1; have Hx1 := hid ((hb1.block _ (by simp)).trans hx0.out); clear ho1 hb1)
  obtain ⟨⟨x0, x1⟩, _⟩ := cblk2 Hx1.out
  have HH1 := hid (HH.out.below Hb1.out)
  obtain ⟨⟨h0, h1, _⟩, zh⟩ := HH1.out.cells
  have zx := lt_of_block Hx1.out
  have hri : Hid (Ri w1 (.slice mo MT.length mc) MT) := ri_own Ho1.out
  have hwi := hid (fun wq (hbq : Below w1.heap.size w1 wq) => with_okG (HH1.out.tb.below hbq) (by have := Hb1.out.size; have := hbq.size; omega) (HGr.out wq (a_Mod.ofBelow (Below.next Hb1.out hbq))) Hg.out (hri.out.below hbq) Hok.out.rng (by omega) hna)
  rw [← hNS.out] at hwi
  have hBz : B ≤ w1.heap.size := by have := Hb1.out.size; omega
  go_cut [8, 7] from 24 to 32 (fun s8 s7 wc => ∃ bx tb' tv' tq', s8 = .pointer (some ⟨bx, 0, none⟩) ∧ s7 = .nilIface ∧ Hid (Wb w1 wc B bx tb tv tq NS tb' tv' tq'))
  case first =>
    go_region_held3 (fun w' => w'.cell? ⟨hb, 1, none⟩ = some (.pointer (some ⟨tb, 0, none⟩)) ∧ w'.cell? ⟨W.heap.size, 0, none⟩ = some (.slice na g.nodes.length nc) ∧ w'.cell? ⟨W.heap.size, 1, none⟩ = some (.slice ra g.roots.length rc)) (first | exact ⟨h1, x0, x1⟩ | exact ⟨(set_far _ _ (by omega)).trans h1, (set_far _ _ (by omega)).trans x0, (set_far _ _ (by omega)).trans x1⟩ | go_keep)
      (first
        | (go_at_call 57; refine (hwi.out _ ?_).mono ?_; exact (Below.refl _ _).drew; rintro e w3 ⟨⟨tb', tv', tq', rfl, ht⟩, hb3⟩; have HE := hid (wb_call HH1.out.tb hBz (Below.refl _ _).drew hb3 ht); have HB5 := hid (Below.next (Below.refl _ _).drew hb3); clear ht; replace h1 := (HB5.out.cell (p := ⟨hb, 1, none⟩) zh).trans h1; replace x0 := (HB5.out.cell (p := ⟨W.heap.size, 0, none⟩) zx).trans x0; replace x1 := (HB5.out.cell (p := ⟨W.heap.size, 1, none⟩) zx).trans x1; clear hb3)
        | (go_at_call 57; refine (hwi.out _ ?_).mono ?_; exact (below_alloc w1 _).drew; rintro e w3 ⟨⟨tb', tv', tq', rfl, ht⟩, hb3⟩; have HE := hid (wb_box HH1.out.tb hBz (below_alloc w1 _).drew (heap_alloc_new w1 _) (Nat.le_refl _) hb3 ht); obtain ⟨bx3, bx4, bx5⟩ := box_cell hb3; have HB5 := hid (Below.next (below_alloc w1 _).drew hb3); clear ht; replace h1 := (HB5.out.cell (p := ⟨hb, 1, none⟩) zh).trans h1; replace x0 := (HB5.out.cell (p := ⟨W.heap.size, 0, none⟩) zx).trans x0; replace x1 := (HB5.out.cell (p := ⟨W.heap.size, 1, none⟩) zx).trans x1; clear hb3))
    all_goals go_wp2_with fail
    all_goals go_meet
    all_goals exact ⟨_, tb', tv', tq', rfl, rfl, HE⟩
  case rest =>
    obtain ⟨bx, tb', tv', tq', rfl, rfl, hW⟩ := hcut
    have Hbw := hid (Below.next Hb1.out hW.out.b)
    obtain ⟨⟨y0, y1⟩, _⟩ := cblk2 ((hW.out.b.block _ zx).trans Hx1.out)
    have zy := lt_of_block ((hW.out.b.block _ zx).trans Hx1.out)
    obtain ⟨⟨k0, _⟩, zk⟩ := (HH1.out.below hW.out.b).cells
    have hric := hid (hri.out.below hW.out.b)
    have hwa := hid (wanted_any (HGr.out wc (a_Mod.ofBelow Hbw.out)) Hg.out hric.out Hok.out.rng (by omega))
    have hwle := want_le Hg.out (met := MT) MT.length
    have hrr := want_root (g := g) (met := MT) MT.length
    have hrl : g.roots.length ≤ 4096 := Hg.out.roots
    have HHc := hid (HH1.out.below hW.out.b)
    have hTl : Hid ((putW NS g MT l.length).length = wantJ g MT MT.length) := putW_len
    by_cases hc0 : wantJ g MT MT.length = 0
    · have hr0 : g.roots.length = 0 := by omega
      have hT0 : putW NS g MT l.length = [] := List.eq_nil_of_length_eq_zero (by rw [hTl.out]; exact hc0)
      have hM0 : NS = ns := by
        rw [hNS.out, hMT.out, met_none (List.eq_nil_of_length_eq_zero hr0)]
        rfl
      have HF : Hid (Hp wc B hb ab tb m av (l ++ putW NS g MT l.length) tv tq NS trv ptv n) := show Hp _ _ _ _ _ _ _ _ _ _ _ _ _ _ by
        rw [hT0, hM0, List.append_nil]
        exact HHc.out
      rw [hc0] at hwa
      have Hr0 := hid hr0
      clear hro hna hwle hrr hr0 hT0 hM0 hTl hc0
      go_wp2_with (go_at_call 58; refine hwa.out.mono ?_; rintro e w4 ⟨rfl, hb4⟩; have Hb4 := hid hb4; clear hb4)
      go_ret2
      exact ⟨none, 0, av, tb, tv, tq, by rw [Hr0.out]; rfl, by rw [Hr0.out]; exact World.ownsRow_nil _ _ _ _, HF.out.below Hb4.out, a_Mod.ofBelow (Below.next Hbw.out Hb4.out), a_Nx.refl _ _, Or.inl ⟨rfl, rfl, rfl⟩⟩
    · obtain ⟨CT, hCT⟩ : ∃ CT, CT = wantJ g MT MT.length := ⟨_, rfl⟩
      rw [← hCT] at hwa hc0 hro hwle hrr hTl
      have hci : ¬ (CT : Int) = 0 := by omega
      have hal := hid (fun w4 (hb4 : Below wc.heap.size wc w4) => alloc_ok (HHc.out.below hb4).ar (by have := hb4.size; have := hW.out.b.size; omega) CT (by omega) (by omega))
      clear hro hna hCT
      have d0 : ((CT : Int) == 0) = false := by simpa using hci
      have ne0 : W.heap.size ≠ hb := by have := HH.out.ltz.1; omega
      have ne1 : hb ≠ W.heap.size := by omega
      have ne2 : bx ≠ hb := by have := HH.out.ltz.1; have := hW.out.f; have := Hb1.out.size; omega
      go_wp2_with (first
        | (go_at_call 58; refine hwa.out.mono ?_; rintro e w4 ⟨rfl, hb4⟩; have Hb4 := hid hb4; obtain ⟨⟨j0, _⟩, zj⟩ := (HHc.out.below hb4).cells; clear hb4)
        | (go_at_call 59; refine (hal.out _ Hb4.out).mono ?_; rintro e w5 ⟨av', rfl, hu⟩; have HU := hid hu; obtain ⟨HP6, bc5, j1, jf, jz⟩ := hp_named HH1.out hW.out Hb4.out hu; have HP := hid HP6; have HX5 := hid ((hu.mod.block _ (Nat.lt_of_lt_of_le zy Hb4.out.size) (fun hx => by have := HH.out.ltz.2.1 _ hx; omega)).trans ((Hb4.out.block _ zy).trans ((hW.out.b.block _ zx).trans Hx1.out))); obtain ⟨⟨q0, q1⟩, _⟩ := cblk2 HX5.out; have zq := lt_of_block HX5.out; clear hu HP6))
      have hlay := hid (put_lay HH.out HGk.out Hbw.out Hb4.out HU.out HP.out Ho1.out Hb1.out hW.out.b (by simp) Hg.out Hok.out Hro.out Har.out hTl.out HTr.out)
      go_wp2_with (go_at_call 60; refine hlay.out.mono ?_; rintro e w7 ⟨ro, rc', rfl, hro7, hp7, hm7, hn7⟩; have H7 := hid (And.intro hro7 (And.intro hp7 (And.intro hm7 hn7))); clear hro7 hp7 hm7 hn7)
      go_ret2
      refine ⟨ro, rc', av', tb', tv', tq', rfl, H7.out.1, H7.out.2.1, H7.out.2.2.1, H7.out.2.2.2, ?_⟩
      rcases hW.out.o with h | h
      · exact Or.inl h
      · exact Or.inr (fun k hk => Nat.le_trans Hb1.out.size (h k hk))
end
end Go.Proofs.YtlibjdilicfcdaaGreatDoor

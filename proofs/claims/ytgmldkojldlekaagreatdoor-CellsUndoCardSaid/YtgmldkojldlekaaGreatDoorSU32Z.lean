/- Package cells: Get. -/
import Derived.LaidEql
import Derived.Stop.Asserts
import Derived.RowKitTokens
import Derived.Test.YtgmldkojldlekaaGreatDoorSU31Z
import Derived.Test.YtgmldkojldlekaaGreatDoorSU26Z
import Derived.Test.YtgmldkojldlekaaGreatDoorSU28Z
import Derived.Test.YtgmldkojldlekaaGreatDoorSU25Z
namespace Go.Proofs.YtgmldkojldlekaaGreatDoor
open Go.RowKit
theorem ret_grE {w : World} {fn : Func} {t s : Tmp} (hfn : fn.results = #[.cell t 30, .tmp s]) {tmps : Array Value} {q : Nat} {u0 u1 v1 : Value} (h4 : tmps[t]?.getD undef = .pointer (some ⟨q, 0, none⟩)) (h5 : tmps[s]?.getD undef = v1) (hq : w.heap[q]? = some (.cells #[u0, u1] 30)) : (results fn tmps).run Tryz.prog w = .ok (.tuple #[.agg #[u0, u1], v1]) w := by
  obtain ⟨⟨z0, z1⟩, _⟩ := cblk2 hq
  simp [results, hfn, go_sem, h4, h5, z0, z1]
abbrev gr0 : Obj := .cells #[.slice none 0 0, .slice none 0 0] 30
section
variable {W : World} {Bh hb ab tb : Nat} {m : Int} {av : Value} {l : List Int} {htv : Value} {tq : Nat} {ns : List ByteArray} {trv ptv : Value} {n : Int} {V : Nat → Bool}
set_option maxRecDepth 100000 in
set_option maxHeartbeats 4000000 in
theorem get_ok (hH : Hp W Bh hb ab tb m av l htv tq ns trv ptv n) (hs : Snd l V) (hn : NsB l ns.length) {cv : Value} {cs : List Int} (hC : Ri W cv cs) (hcs : ∀ x ∈ cs, cellB l x = true) (hl : cs.length ≤ 4096) (hT : ∀ TS, Rfi l cs TS → TS.length ≤ 4096) :
    Calls Tryz.prog 26 #[.pointer (some ⟨hb, 0, none⟩), cv] W fun e w' => (∃ nv rv avs TS ee, e = .returned (.tuple #[.agg #[nv, rv], .nilIface]) ∧ Rfi l cs TS ∧ Good (rdG l ns cs TS) ∧ (∀ x y : Nat, (ee x y = true ↔ Al (rdG l ns cs TS) (x : Int) (y : Int))) ∧ Og w' W.heap.size nv rv avs (trimF (quoF ee (rdG l ns cs TS)))) ∧ Below W.heap.size W w' := by
  have hl6 : l.length ≤ 65536 := by
    have h1 := hH.ar.len
    have h2 := hH.ar.m2
    omega
  have hb0 := below_alloc W gr0
  have hx0 := hid (heap_alloc_new W gr0)
  have hck := hid (checkedC_any (hH.below hb0).ar (hC.below hb0) (by omega))
  have hbf : badF l cs = [] := by
    unfold badF badC
    rw [if_neg (by rw [ixOf_miss 0 (fun x => !cellB l x) cs (fun j hj => by simp only [hcs _ (getD_mem hj), Bool.not_true])]; omega)]
  rw [hbf] at hck
  have hrg : ∀ x ∈ cs, 0 ≤ x ∧ x < (l.length : Int) := fun x hx => by
    have h1 := hcs x hx
    unfold cellB at h1
    simp only [Bool.and_eq_true] at h1
    simpa [inB] using h1.1.1
  have hrd := hid (fun w1 (hbb : Below W.heap.size W w1) => read_any (hH.below hbb) hs hn (hC.below hbb) hrg (by omega))
  have hgd := hid (fun TS (h : Rfi l cs TS) => rd_good hs hn hl6 hH.tb.good h (hT TS h) hl)
  have hTl := hid hT
  have HH := hid hH
  have Hb0 := hid hb0
  obtain ⟨⟨c0, _⟩, c5⟩ := (hH.below hb0).cells
  obtain ⟨ca, cc, rfl, _⟩ := hC
  clear hH hs hn hcs hT hb0 hbf hrg
  go_enter Tryz.func26, Tryz.ntmps26
  go_wp2_with (first
    | (go_at_call 31; refine (self_some _ _).mono ?_; rintro e w2 ⟨rfl, hw⟩; replace hw := hw.symm; subst hw)
    | (go_at_call 41; refine hck.out.mono ?_; rintro e w1 ⟨⟨ev, rfl, hev⟩, hb1⟩; have hev1 : ev = .nilIface := hev; subst hev1; have Hb1 := hid (Below.next Hb0.out hb1); have HX1 := hid ((hb1.block _ (by simp)).trans hx0.out); clear hev hb1)
    | (go_at_call 59; refine (hrd.out _ Hb1.out).mono ?_; rintro e w2 ⟨⟨nv, rv, TS, rfl, hG2, hF2⟩, hb2⟩; have HG2 := hid hG2; have HF2 := hid hF2; have hT2 := hTl.out TS hF2; have hnn : (rdG l ns cs TS).nodes.length = TS.length := rd_nodes hF2; obtain ⟨na, nc, rfl, _⟩ := hG2.1; obtain ⟨ra, rc, rfl, _⟩ := hG2.2; rw [hnn]; have Hb2 := hid (Below.next Hb1.out hb2); have HX2 := hid ((hb2.block _ (lt_of_block HX1.out)).trans HX1.out); have Hbx := hid (below_alloc w2 (.cells #[.slice na TS.length nc, .slice ra (rdG l ns cs TS).roots.length rc] 30)); have Hnx := hid (heap_alloc_new w2 (.cells #[.slice na TS.length nc, .slice ra (rdG l ns cs TS).roots.length rc] 30)); clear hG2 hF2 hb2))
  have hgq := hgd.out TS HF2.out
  obtain ⟨ee, hee⟩ := al_dec (rdG l ns cs TS)
  rw [hnn] at HG2
  refine (quot_good (HG2.out.below Hbx.out) (good_sized hgq) (chk_of_good hgq) ee hee).mono ?_
  rintro e w4 ⟨⟨nv', rv', avs, rfl, hO4⟩, hb4⟩
  have Hgq := hid hgq
  have Hee := hid hee
  have HO4 := hid hO4
  obtain ⟨na4, nc4, rfl⟩ := hO4.nsl
  obtain ⟨ra4, rc4, rfl, _⟩ := hO4.r
  have Hbf := hid (Below.next Hb2.out (Below.next Hbx.out hb4))
  have HX4 := hid ((hb4.block _ (by have := lt_of_block HX2.out; simp; omega)).trans ((Hbx.out.block _ (lt_of_block HX2.out)).trans HX2.out))
  obtain ⟨⟨y0, y1⟩, yf0, yf1⟩ := cblk2 HX4.out
  have zx := lt_of_block HX4.out
  have hz2 := lt_of_block HX2.out
  have hxe := heap_setCell_same _ W.heap.size 1 _ _ (.slice ra4 (trimF (quoF ee (rdG l ns cs TS))).roots.length rc4) (heap_setCell_same w4 W.heap.size 0 _ _ (.slice na4 (trimF (quoF ee (rdG l ns cs TS))).nodes.length nc4) HX4.out)
  have Hxe := hid hxe
  clear hO4 hb4 hgq hee hxe HG2 hnn
  have hqz : W.heap.size < (w2.alloc (.cells #[.slice na TS.length nc, .slice ra (rdG l ns cs TS).roots.length rc] 30)).heap.size := by simp; omega
  have HOf := hid (og_base (og_far (i := 1) (v := .slice ra4 (trimF (quoF ee (rdG l ns cs TS))).roots.length rc4) (og_far (i := 0) (v := .slice na4 (trimF (quoF ee (rdG l ns cs TS))).nodes.length nc4) HO4.out hqz) hqz) (Nat.le_of_lt hqz))
  clear HO4
  go_wp2
  exact bodyPost_ret (ret_grE Tryz.results26 (by rfl) (by rfl) Hxe.out) rfl ⟨⟨_, _, avs, TS, ee, rfl, HF2.out, Hgq.out, Hee.out, HOf.out⟩, (Hbf.out.setCell (p := ⟨W.heap.size, 0, none⟩) (Nat.le_refl _) _).setCell (p := ⟨W.heap.size, 1, none⟩) (Nat.le_refl _) _⟩
end
end Go.Proofs.YtgmldkojldlekaaGreatDoor

namespace Go.Proofs.YtgmldkojldlekaaGreatDoor
open Go.RowKit Go.Extern.Stop Go.Stop Go.Extern
theorem asValueOfP (t : Addr) (w : World) : (ReflectliteValue.unpack (.iface 139 (.pointer (some t)))).run Tryz.prog w
    = .ok (.agg #[.pointer (some ⟨1, 139, none⟩), .pointer (some ⟨w.heap.size, 0, none⟩), .int .u64 150]) (w.alloc (.cells #[.pointer (some t)] 139)) := by kernel_rfl
theorem asTypeP (a : Addr) (w : World) : (ReflectliteValue.methodAny (ReflectliteValue.valueError "reflectlite.Value.Type" 0) (fun t _ _ _ => ReflectliteType.toType t) #[.agg #[.pointer (some ⟨1, 139, none⟩), .pointer (some a), .int .u64 150]]).run Tryz.prog w
    = .ok (.iface 200 (.agg #[.pointer (some ⟨1, 139, none⟩)])) w := by kernel_rfl
theorem asMethodKind (h : Value) (w : World) : (Go.method 354 200 (.agg #[h]) "Kind").run Tryz.prog w = .ok (150, h) w := by kernel_rfl
theorem asKindP (w : World) : ((ReflectliteType.abiMethod fun t => (fun a : Nat => Value.int IntKind.u8 (a : Int)) <$> Rtype.kind t) #[.pointer (some ⟨1, 139, none⟩)]).run Tryz.prog w = .ok (.int .u8 22) w := by kernel_rfl
theorem asKindF (w : World) : ((ReflectliteType.abiMethod fun t => (fun a : Nat => Value.int IntKind.u8 (a : Int)) <$> Rtype.kind t) #[.pointer (some ⟨1, 102, none⟩)]).run Tryz.prog w = .ok (.int .u8 22) w := by kernel_rfl
theorem lit10 (v : Value) {n : Nat} (h : (#[v] : Array Value).size = n) (k : 0 < n) : (#[v] : Array Value).getLit 0 h k = v := rfl
theorem lit20 (v x : Value) {n : Nat} (h : (#[v, x] : Array Value).size = n) (k : 0 < n) : (#[v, x] : Array Value).getLit 0 h k = v := rfl
theorem lit21 (v x : Value) {n : Nat} (h : (#[v, x] : Array Value).size = n) (k : 1 < n) : (#[v, x] : Array Value).getLit 1 h k = x := rfl
theorem asPartsP (a : Addr) (w : World) : (ReflectliteValue.parts (.agg #[.pointer (some ⟨1, 139, none⟩), .pointer (some a), .int .u64 150])).run Tryz.prog w = .ok (some (139, a, 150)) w := by kernel_rfl
theorem asIsNilP (a p : Addr) (W : World) (ha : W.cell? a = some (.pointer (some p))) :
    (ReflectliteValue.method (ReflectliteValue.valueError "reflectlite.Value.IsNil" 0) ReflectliteValue.isNil #[.agg #[.pointer (some ⟨1, 139, none⟩), .pointer (some a), .int .u64 150]]).run Tryz.prog W = .ok (.bool false) W := by
  change Sem.run Tryz.prog (_ >>= _) W = _
  simp only [lit10, Sem.run_bind, asPartsP, Result.andThen]
  simp [ReflectliteValue.isNil, loadVar, isAgg, underlying, Tryz.underlying139, ha, Result.andThen]
theorem asMethodElem (h : Value) (w : World) : (Go.method 354 200 (.agg #[h]) "Elem").run Tryz.prog w = .ok (165, .agg #[h]) w := by kernel_rfl
theorem asMethodImplements (h : Value) (w : World) : (Go.method 354 200 (.agg #[h]) "Implements").run Tryz.prog w = .ok (166, .agg #[h]) w := by kernel_rfl
theorem asMethodAssignableTo (h : Value) (w : World) : (Go.method 354 200 (.agg #[h]) "AssignableTo").run Tryz.prog w = .ok (163, .agg #[h]) w := by kernel_rfl
theorem asElemP (w : World) : (ReflectliteType.method ReflectliteType.elem #[.agg #[.pointer (some ⟨1, 139, none⟩)]]).run Tryz.prog w = .ok (.iface 200 (.agg #[.pointer (some ⟨1, 102, none⟩)])) w := by kernel_rfl
theorem asImplementsF (w : World) : (ReflectliteType.relation "Implements" ReflectliteType.implements_ #[.agg #[.pointer (some ⟨1, 102, none⟩)], .iface 200 (.agg #[.pointer (some ⟨1, 35, none⟩)])]).run Tryz.prog w = .ok (.bool true) w := by kernel_rfl
theorem asTypeOfF (v : Value) (w : World) : (ReflectliteType.typeOf #[.iface 102 v]).run Tryz.prog w = .ok (.iface 200 (.agg #[.pointer (some ⟨1, 102, none⟩)])) w := by kernel_rfl
theorem asAssignableF (w : World) : (ReflectliteType.relation "AssignableTo" ReflectliteType.assignableTo #[.agg #[.pointer (some ⟨1, 102, none⟩)], .iface 200 (.agg #[.pointer (some ⟨1, 102, none⟩)])]).run Tryz.prog w = .ok (.bool true) w := by kernel_rfl
theorem asValueOfF (e : Addr) (w : World) : (ReflectliteValue.unpack (.iface 102 (.pointer (some e)))).run Tryz.prog w
    = .ok (.agg #[.pointer (some ⟨1, 102, none⟩), .pointer (some ⟨w.heap.size, 0, none⟩), .int .u64 150]) (w.alloc (.cells #[.pointer (some e)] 102)) := by kernel_rfl
theorem asElemOfP (w : World) : (Rtype.elem? 139).run Tryz.prog w = .ok (some 102) w := by kernel_rfl
theorem asMkF (p : Addr) (w : World) : (ReflectliteValue.mk 102 p ReflectliteValue.flagAddr).run Tryz.prog w = .ok (.agg #[.pointer (some ⟨1, 102, none⟩), .pointer (some p), .int .u64 406]) w := by kernel_rfl
theorem asElemVP (a p : Addr) (W : World) (ha : W.cell? a = some (.pointer (some p))) :
    (ReflectliteValue.method (ReflectliteValue.valueError "reflectlite.Value.Elem" 0) ReflectliteValue.elem #[.agg #[.pointer (some ⟨1, 139, none⟩), .pointer (some a), .int .u64 150]]).run Tryz.prog W
      = .ok (.agg #[.pointer (some ⟨1, 102, none⟩), .pointer (some p), .int .u64 406]) W := by
  change Sem.run Tryz.prog (_ >>= _) W = _
  simp only [lit10, Sem.run_bind, asPartsP, Result.andThen]
  simp [ReflectliteValue.elem, loadVar, isAgg, underlying, Tryz.underlying139, ha, Result.andThen, asElemOfP, asMkF]
theorem asPartsFa (a : Addr) (w : World) : (ReflectliteValue.parts (.agg #[.pointer (some ⟨1, 102, none⟩), .pointer (some a), .int .u64 406])).run Tryz.prog w = .ok (some (102, a, 406)) w := by kernel_rfl
theorem asPartsF (a : Addr) (w : World) : (ReflectliteValue.parts (.agg #[.pointer (some ⟨1, 102, none⟩), .pointer (some a), .int .u64 150])).run Tryz.prog w = .ok (some (102, a, 150)) w := by kernel_rfl
theorem asDirectF (w : World) : (Rtype.directlyAssignable 102 102).run Tryz.prog w = .ok true w := by kernel_rfl
theorem asSetF (ta b e : Addr) (old : Value) (W : World) (hb : W.cell? b = some (.pointer (some e))) (ht : W.cell? ta = some old) (hf : W.frozen? ta = false) :
    (ReflectliteValue.set #[.agg #[.pointer (some ⟨1, 102, none⟩), .pointer (some ta), .int .u64 406], .agg #[.pointer (some ⟨1, 102, none⟩), .pointer (some b), .int .u64 150]]).run Tryz.prog W
      = .ok (.tuple #[]) (W.setCell ta (.pointer (some e))) := by
  change Sem.run Tryz.prog (_ >>= _) W = _
  simp only [lit20, lit21, Sem.run_bind, asPartsFa, asPartsF, Result.andThen]
  simp [ReflectliteValue.flagAddr, loadVar, isAgg, underlying, Tryz.underlying102, hb, Result.andThen, asDirectF, storeVar, Value.cells, storeCells, Addr.add]
  rw [run_store Tryz.prog W ta _ _ (by rfl)]
  simp [ht, hf]
set_option maxRecDepth 100000 in
set_option maxHeartbeats 4000000 in
theorem as_hit (e t : Addr) (old : Value) (w : World) (hg : w.cell? ⟨0, 0, none⟩ = some (.iface 200 (.agg #[.pointer (some ⟨1, 35, none⟩)]))) (ht0 : w.cell? t = some old) (hf0 : w.frozen? t = false) :
    Calls Tryz.prog 74 #[.iface 102 (.pointer (some e)), .iface 139 (.pointer (some t))] w fun ev w' => ev = .returned (.bool true) ∧ w' = ((((w.alloc (.cells #[.pointer (some t)] 139)).alloc (.cells #[.pointer (some ⟨1, 139, none⟩), .pointer (some ⟨w.heap.size, 0, none⟩), .int .u64 150] 168)).alloc (.cells #[.pointer (some ⟨1, 139, none⟩), .pointer (some ⟨w.heap.size, 0, none⟩), .int .u64 150] 168)).alloc (.cells #[.pointer (some e)] 102)).setCell t (.pointer (some e)) := by
  have h6 := @run_callFunc_extern Tryz.prog 95 _ (fun args => ReflectliteValue.unpack (args.getD 0 (.tuple #[]))) Tryz.func95 (by kernel_rfl) (by kernel_rfl) (by kernel_rfl) (by kernel_rfl)
  have h7 := @run_callFunc_extern Tryz.prog 96 _ (ReflectliteValue.methodAny (ReflectliteValue.valueError "reflectlite.Value.Type" 0) (fun t _ _ _ => ReflectliteType.toType t)) Tryz.func96 (by kernel_rfl) (by kernel_rfl) (by kernel_rfl) (by kernel_rfl)
  have h8 := @run_callFunc_extern Tryz.prog 97 _ (ReflectliteValue.method (ReflectliteValue.valueError "reflectlite.Value.IsNil" 0) ReflectliteValue.isNil) Tryz.func97 (by kernel_rfl) (by kernel_rfl) (by kernel_rfl) (by kernel_rfl)
  have h27 := @run_callFunc_extern Tryz.prog 150 _ (ReflectliteType.abiMethod fun t => do pure (.int .u8 (← Rtype.kind t))) Tryz.func150 (by kernel_rfl) (by kernel_rfl) (by kernel_rfl) (by kernel_rfl)
  have h37 := @run_callFunc_extern Tryz.prog 165 _ (ReflectliteType.method ReflectliteType.elem) Tryz.func165 (by kernel_rfl) (by kernel_rfl) (by kernel_rfl) (by kernel_rfl)
  have h38 := @run_callFunc_extern Tryz.prog 166 _ (ReflectliteType.relation "Implements" ReflectliteType.implements_) Tryz.func166 (by kernel_rfl) (by kernel_rfl) (by kernel_rfl) (by kernel_rfl)
  have h10 := @run_callFunc_extern Tryz.prog 120 _ ReflectliteType.typeOf Tryz.func120 (by kernel_rfl) (by kernel_rfl) (by kernel_rfl) (by kernel_rfl)
  have h35 := @run_callFunc_extern Tryz.prog 163 _ (ReflectliteType.relation "AssignableTo" ReflectliteType.assignableTo) Tryz.func163 (by kernel_rfl) (by kernel_rfl) (by kernel_rfl) (by kernel_rfl)
  have h11 := @run_callFunc_extern Tryz.prog 121 _ (ReflectliteValue.method (ReflectliteValue.valueError "reflectlite.Value.Elem" 0) ReflectliteValue.elem) Tryz.func121 (by kernel_rfl) (by kernel_rfl) (by kernel_rfl) (by kernel_rfl)
  have h12 := @run_callFunc_extern Tryz.prog 122 _ ReflectliteValue.set Tryz.func122 (by kernel_rfl) (by kernel_rfl) (by kernel_rfl) (by kernel_rfl)
  have tO := asTypeOfF
  have mA := asMethodAssignableTo
  have a25 := asAssignableF
  have v25 := asValueOfF
  have f6 := asValueOfP
  have f7 := asTypeP
  have mK := asMethodKind
  have mE := asMethodElem
  have mI := asMethodImplements
  have k27 := asKindP
  have k25 := asKindF
  have e27 := asElemP
  have i25 := asImplementsF
  have n8 := asIsNilP ⟨w.heap.size, 0, none⟩ t ((w.alloc (.cells #[.pointer (some t)] 139)).alloc (.cells #[.pointer (some ⟨1, 139, none⟩), .pointer (some ⟨w.heap.size, 0, none⟩), .int .u64 150] 168)) (by simp)
  have hlt : 0 < w.heap.size := by
    rcases Nat.eq_zero_or_pos w.heap.size with h0 | h
    · simp [World.cell?, h0] at hg
    · exact h
  have hg2 : ((w.alloc (.cells #[.pointer (some t)] 139)).alloc (.cells #[.pointer (some ⟨1, 139, none⟩), .pointer (some ⟨w.heap.size, 0, none⟩), .int .u64 150] 168)).cell? ⟨0, 0, none⟩ = some (.iface 200 (.agg #[.pointer (some ⟨1, 35, none⟩)])) := by
    rw [World.cell?_alloc_lt _ _ ⟨0, 0, none⟩ (by simp), World.cell?_alloc_lt _ _ ⟨0, 0, none⟩ hlt]; exact hg
  have htl : t.block < w.heap.size := by
    rcases Nat.lt_or_ge t.block w.heap.size with h | h
    · exact h
    · simp [World.cell?, Array.getElem?_eq_none h] at ht0
  have el := asElemVP ⟨w.heap.size, 0, none⟩ t (((w.alloc (.cells #[.pointer (some t)] 139)).alloc (.cells #[.pointer (some ⟨1, 139, none⟩), .pointer (some ⟨w.heap.size, 0, none⟩), .int .u64 150] 168)).alloc (.cells #[.pointer (some ⟨1, 139, none⟩), .pointer (some ⟨w.heap.size, 0, none⟩), .int .u64 150] 168)) (by rw [World.cell?_alloc_lt _ _ ⟨w.heap.size, 0, none⟩ (by simp; omega)]; simp)
  have st := asSetF t ⟨w.heap.size + 1 + 1 + 1, 0, none⟩ e old ((((w.alloc (.cells #[.pointer (some t)] 139)).alloc (.cells #[.pointer (some ⟨1, 139, none⟩), .pointer (some ⟨w.heap.size, 0, none⟩), .int .u64 150] 168)).alloc (.cells #[.pointer (some ⟨1, 139, none⟩), .pointer (some ⟨w.heap.size, 0, none⟩), .int .u64 150] 168)).alloc (.cells #[.pointer (some e)] 102))
    (by rw [World.cell?_alloc_at _ _ _ _ (by simp)]; rfl)
    (by rw [World.cell?_alloc_lt _ _ t (by simp; omega), World.cell?_alloc_lt _ _ t (by simp; omega), World.cell?_alloc_lt _ _ t (by simp; omega), World.cell?_alloc_lt _ _ t htl]; exact ht0)
    (by rw [World.frozen?_alloc_old _ _ t (by simp; omega), World.frozen?_alloc_old _ _ t (by simp; omega), World.frozen?_alloc_old _ _ t (by simp; omega), World.frozen?_alloc_old _ _ t (Nat.ne_of_lt htl)]; exact hf0)
  go_enter Tryz.func74, Tryz.ntmps74
  go_wp2
  refine wp_loop_rounds 1 ?_
  rw [rounds_succ]
  go_wp2
  go_ret
  exact ⟨rfl, rfl⟩
end Go.Proofs.YtgmldkojldlekaaGreatDoor

namespace Go.Proofs.YtgmldkojldlekaaGreatDoor
open Go.RowKit
abbrev oLa : Obj := .cells #[.int .i64 0, .int .i64 1] 3
abbrev oLb (q : Nat) : Obj := .cells #[.int .i64 4, .string fSC, .int .i64 0, .slice (some ⟨q, 0, none⟩) 2 2, .int .i64 1, .string ⟨#[]⟩, .int .i64 0, .slice none 0 0] 117
abbrev oLc : Obj := .cells #[.int .i64 0] 3
structure Lp (w : World) (a b c : Nat) : Prop where
  fa : w.heap[a]? = some oLa
  fb : w.heap[b]? = some (oLb a)
  fc : w.heap[c]? = some oLc
theorem lp_gra {w : World} {a b c : Nat} (h : Lp w a b c) : Gra w (.slice (some ⟨b, 0, none⟩) 2 2) (.slice (some ⟨c, 0, none⟩) 1 1) gL (fun x => if x = 0 then .slice (some ⟨a, 0, none⟩) 2 2 else .slice none 0 0) := by
  refine ⟨⟨some ⟨b, 0, none⟩, 2, rfl, fun j hj => ?_⟩, ri_lit1 h.fc⟩
  have hj2 : j = 0 ∨ j = 1 := by
    have : j < 2 := hj
    omega
  have hb := h.fb
  rcases hj2 with rfl | rfl
  · exact ⟨b, 0, rfl, by simp [World.cell?, hb, gL], by simp [World.cell?, hb, gL], by simp [World.cell?, hb, gL], by simp [World.cell?, hb], ri_lit2 h.fa⟩
  · exact ⟨b, 0, rfl, by simp [World.cell?, hb, gL], by simp [World.cell?, hb, gL], by simp [World.cell?, hb, gL], by simp [World.cell?, hb], Ri.nil _⟩
set_option maxHeartbeats 800000 in
theorem loop_any (w : World) :
    Calls Tryz.prog 22 #[] w fun e w' => (∃ a b c, e = .returned (.agg #[.slice (some ⟨b, 0, none⟩) 2 2, .slice (some ⟨c, 0, none⟩) 1 1]) ∧ Lp w' a b c ∧ w.heap.size ≤ a ∧ w.heap.size ≤ b ∧ w.heap.size ≤ c) ∧ Below w.heap.size w w' := by
  go_enter Tryz.func22, Tryz.ntmps22
  go_wp2
  obtain ⟨x0, x1, x2, x3⟩ := alloc4 w (.cells #[.slice (some ⟨w.heap.size + 1 + 1, 0, none⟩) 2 2, .slice (some ⟨w.heap.size + 1 + 1 + 1, 0, none⟩) 1 1] 30) oLa (oLb (w.heap.size + 1)) oLc
  exact bodyPost_ret (ret_gr1 Tryz.results22 (by rfl) x0) rfl ⟨⟨w.heap.size + 1, w.heap.size + 2, w.heap.size + 3, rfl, ⟨x1, x2, x3⟩, by omega, by omega, by omega⟩, Below.next (Below.next (Below.next (below_alloc _ _) (below_alloc _ _)) (below_alloc _ _)) (below_alloc _ _)⟩
section
variable {w : World} {B hb ab tb : Nat} {m : Int} {av : Value} {l : List Int} {tv : Value} {tq : Nat} {ns : List ByteArray} {trv ptv : Value} {n : Int}
set_option maxHeartbeats 800000 in
theorem htop_any (h : Hp w B hb ab tb m av l tv tq ns trv ptv n) :
    Calls Tryz.prog 23 #[.pointer (some ⟨hb, 0, none⟩)] w fun e w' => e = .returned (.int .i64 (l.length : Int)) ∧ w' = w := by
  obtain ⟨⟨c0, _⟩, c5⟩ := h.cells
  have ht := hid (top_any h.ar)
  clear h
  go_enter Tryz.func23, Tryz.ntmps23
  go_wp2_with (first
    | (go_at_call 31; refine (self_some _ _).mono ?_; rintro e w' ⟨rfl, rfl⟩)
    | (go_at_call 53; refine ht.out.mono ?_; rintro e w' ⟨rfl, rfl⟩))
  go_ret
  exact ⟨rfl, rfl⟩
end
section
variable {w : World} {B hb ab tb : Nat} {m : Int} {av : Value} {tv : Value} {tq : Nat} {ns : List ByteArray}
theorem lput_any {a b c : Nat} (hH : Hp w B hb ab tb 20 (.slice none 0 0) [] tv tq [] (.slice none 0 0) (.slice none 0 0) 0) (hB : B ≤ w.heap.size) (hL : Lp w a b c) (ha : a ≠ hb ∧ a ≠ ab) (hb' : b ≠ hb ∧ b ≠ ab) (hc : c ≠ hb ∧ c ≠ ab) :
    Calls Tryz.prog 21 #[.pointer (some ⟨hb, 0, none⟩), .agg #[.slice (some ⟨b, 0, none⟩) 2 2, .slice (some ⟨c, 0, none⟩) 1 1]] w fun e w' => (∃ rb c' av' tb' tv' tq', e = .returned (.tuple #[.slice (some ⟨rb, 0, none⟩) 1 c', .nilIface]) ∧ w'.cell? ⟨rb, 0, none⟩ = some (.int .i64 0) ∧ Hp w' B hb ab tb' 20 av' lL1 tv' tq' [fSC] (.slice none 0 0) (.slice none 0 0) 0) ∧ Below B w w' := by
  have hGk : ∀ w', a_Mod (hb :: a_foot ab (.slice none 0 0)) w w' → Gra w' (.slice (some ⟨b, 0, none⟩) 2 2) (.slice (some ⟨c, 0, none⟩) 1 1) gL (fun x => if x = 0 then .slice (some ⟨a, 0, none⟩) 2 2 else .slice none 0 0) := fun w' h => by
    have hn : ∀ k, k ≠ hb ∧ k ≠ ab → k ∉ hb :: a_foot ab (.slice none 0 0) := fun k hk hx => by
      rcases List.mem_cons.1 hx with e | hx
      · exact hk.1 e
      · rcases a_mem_foot.1 hx with e | e
        · exact hk.2 e
        · cases e
    exact lp_gra ⟨(h.block _ (lt_of_block hL.fa) (hn _ ha)).trans hL.fa, (h.block _ (lt_of_block hL.fb) (hn _ hb')).trans hL.fb, (h.block _ (lt_of_block hL.fc) (hn _ hc)).trans hL.fc⟩
  have hmay := fun c hc => gL_pm.may (c := c) hc
  refine (put_ok hH hB hGk (good_sized gL_good) (chk_of_good gL_good) (by rw [gL_want]; decide) (by rw [gL_met]; decide) (by simpa using hmay)).mono ?_
  rintro e w' ⟨ao, c', av', tb', tv', tq', rfl, ho, hp, hm, _, _⟩
  rw [gL_ns] at hp
  have hw : ([] : List Int) ++ putW [fSC] gL (metF gL) ([] : List Int).length = lL1 := gL_w
  rw [hw] at hp
  obtain ⟨rb, rfl⟩ : ∃ rb, ao = some ⟨rb, 0, none⟩ := by
    rcases ho.2 with ⟨_, hn0⟩ | ⟨g, cap, cur, e, _⟩
    · exact absurd hn0 (by decide)
    · injection e with e _ _
      exact ⟨g, e⟩
  refine ⟨⟨rb, c', av', tb', tv', tq', rfl, ?_, hp⟩, hm.below (fun k hk => ?_) hB⟩
  · rw [ho.cellAt 0 (by decide)]
    rfl
  · rcases List.mem_cons.1 hk with rfl | hk
    · exact hH.base
    · rcases a_mem_foot.1 hk with rfl | hk
      · exact hH.ar.base
      · cases hk
theorem lbind_any {n : Int} (hH : Hp w B hb ab tb m av lL1 tv tq ns (.slice none 0 0) (.slice none 0 0) n) (hB : B ≤ w.heap.size) (n0 : 0 ≤ n) (n1 : n ≤ 1000) :
    Calls Tryz.prog 24 #[.pointer (some ⟨hb, 0, none⟩), .int .i64 4, .int .i64 0] w fun e w' => e = .returned .nilIface ∧ Hp w' B hb ab tb m av lL2 tv tq ns (.slice none 0 0) (.slice none 0 0) (n + 1) ∧ Below B w w' := by
  refine (bind0_left hH sndL1 4 0 (by decide +kernel) (by decide +kernel) (by decide) (by decide) n0 (by omega) (by rw [trL14]; decide) (by rw [trL14, trL10]; decide) (by rw [trL14, trL10]; decide +kernel)).mono ?_
  rintro e w' ⟨rfl, hp, hm⟩
  rw [trL14, trL10, show lL1.set (valOf 32).toNat 11 = lL2 by decide +kernel] at hp
  refine ⟨rfl, hp, hm.below (fun k hk => ?_) hB⟩
  rcases List.mem_cons.1 hk with rfl | hk
  · exact hH.base
  · rcases a_mem_foot.1 hk with rfl | hk
    · exact hH.ar.base
    · exact (hH.ar.row hk).1
end
end Go.Proofs.YtgmldkojldlekaaGreatDoor

namespace Go.Proofs.YtgmldkojldlekaaGreatDoor
open Go.RowKit
theorem nodup_vals (f : Nat → Int) : ∀ (n : Nat) (L : List Int), L.Nodup → (∀ x ∈ L, ∃ k, k < n ∧ x = f k) → L.length ≤ n
  | 0, L, _, h => by
    cases L with
    | nil => exact Nat.le_refl _
    | cons x r =>
      obtain ⟨k, hk, _⟩ := h x (by simp)
      omega
  | n + 1, L, hn, h => by
    have h1 := nodup_vals f n (L.erase (f n)) (hn.erase _) (fun x hx => by
      have hx2 := (List.Nodup.mem_erase_iff hn).1 hx
      obtain ⟨k, hk, e⟩ := h x hx2.2
      refine ⟨k, ?_, e⟩
      rcases Nat.lt_or_ge k n with h3 | h3
      · exact h3
      · have e2 : k = n := by omega
        subst e2
        exact absurd e hx2.1)
    have h2 := List.length_erase (a := f n) (l := L)
    split at h2 <;> omega
theorem rfi_len {l cs TS : List Int} (h : Rfi l cs TS) : TS.length ≤ l.length := by
  refine nodup_vals (fun k => trmW l k) l.length TS h.nodup (fun x hx => ?_)
  obtain ⟨k, hk, e⟩ := h.inT x hx
  exact ⟨k, hk, e⟩
section
variable {W : World} {Bh hb ab tb : Nat} {m : Int} {av : Value} {l : List Int} {htv : Value} {tq : Nat} {ns : List ByteArray} {trv ptv : Value} {n : Int} {V : Nat → Bool}
set_option maxRecDepth 100000 in
set_option maxHeartbeats 4000000 in
theorem get_no (hH : Hp W Bh hb ab tb m av l htv tq ns trv ptv n) {cv : Value} {cs : List Int} (hC : Ri W cv cs) (hl : cs.length ≤ 5000) (hbd : badF l cs ≠ []) :
    Calls Tryz.prog 26 #[.pointer (some ⟨hb, 0, none⟩), cv] W fun e w' => (∃ q, e = .returned (.tuple #[.agg #[.slice none 0 0, .slice none 0 0], .iface 102 (.pointer (some ⟨q, 0, none⟩))])) ∧ Below W.heap.size W w' := by
  have hb0 := below_alloc W gr0
  have hx0 := hid (heap_alloc_new W gr0)
  have hck := hid (checkedC_any (hH.below hb0).ar (hC.below hb0) hl)
  have Hb0 := hid hb0
  obtain ⟨⟨c0, _⟩, c5⟩ := (hH.below hb0).cells
  obtain ⟨ca, cc, rfl, _⟩ := hC
  generalize badF l cs = fs at *
  generalize cs.length = len at *
  clear hH hb0
  go_enter Tryz.func26, Tryz.ntmps26
  go_wp2_with (first
    | (go_at_call 31; refine (self_some _ _).mono ?_; rintro e w2 ⟨rfl, hw⟩; replace hw := hw.symm; subst hw)
    | (go_at_call 41; refine hck.out.mono ?_; rintro e w1 ⟨⟨ev, rfl, hev⟩, hb1⟩; obtain ⟨q, hq⟩ := er_ptr hev hbd; subst hq; have Hb1 := hid (Below.next Hb0.out hb1); have HX1 := hid ((hb1.block _ (by simp)).trans hx0.out); obtain ⟨⟨y0, y1⟩, yf0, yf1⟩ := cblk2 HX1.out; clear hev hb1))
  have hfin := heap_setCell_same _ W.heap.size 1 _ _ (.slice none 0 0) (heap_setCell_same w1 W.heap.size 0 _ _ (.slice none 0 0) HX1.out)
  exact bodyPost_ret (ret_grE Tryz.results26 (by rfl) (by rfl) hfin) rfl ⟨⟨q, rfl⟩, (Hb1.out.setCell (p := ⟨W.heap.size, 0, none⟩) (Nat.le_refl _) _).setCell (p := ⟨W.heap.size, 1, none⟩) (Nat.le_refl _) _⟩
theorem bad_all {l cs : List Int} (h : badF l cs = []) : ∀ x ∈ cs, cellB l x = true := fun x hx => by
  have h1 := ixOf_any (fun x => !cellB l x) cs
  have h2 : ¬ (0 ≤ ixOf (fun x => !cellB l x) cs) := fun h3 => by
    unfold badF badC at h
    rw [if_pos h3] at h
    cases h
  rw [decide_eq_false h2] at h1
  have h3 := List.any_eq_false.1 h1.symm x hx
  simpa using h3
theorem get_any (hH : Hp W Bh hb ab tb m av l htv tq ns trv ptv n) (hs : Snd l V) (hn : NsB l ns.length) (hll : l.length ≤ 4096) {cv : Value} {cs : List Int} (hC : Ri W cv cs) (hl : cs.length ≤ 4096) :
    Calls Tryz.prog 26 #[.pointer (some ⟨hb, 0, none⟩), cv] W fun e w' => (∃ ev, e = .returned ev) ∧ Below W.heap.size W w' := by
  by_cases hbd : badF l cs = []
  · exact (get_ok hH hs hn hC (bad_all hbd) hl (fun TS h => Nat.le_trans (rfi_len h) hll)).mono fun e w' ⟨⟨_, _, _, _, _, e1, _⟩, e2⟩ => ⟨⟨_, e1⟩, e2⟩
  · exact (get_no hH hC (by omega) hbd).mono fun e w' ⟨⟨_, e1⟩, e2⟩ => ⟨⟨_, e1⟩, e2⟩
theorem look_any (hH : Hp W Bh hb ab tb m av l htv tq ns trv ptv n) (hs : Snd l V) (hn : NsB l ns.length) (x : Int) :
    Calls Tryz.prog 25 #[.pointer (some ⟨hb, 0, none⟩), .int .i64 x] W fun e w' => (∃ ev, e = .returned ev) ∧ Below W.heap.size W w' := by
  cases hc : cellB l x with
  | false => exact (look_no hH x hc).mono fun e w' ⟨⟨_, e1, _⟩, e2⟩ => ⟨⟨_, e1⟩, e2⟩
  | true =>
    have h1 := hc
    unfold cellB at h1
    simp only [Bool.and_eq_true] at h1
    have h2 : 0 ≤ x ∧ x < (l.length : Int) := by simpa [inB] using h1.1.1
    obtain ⟨k, rfl⟩ : ∃ k : Nat, x = (k : Int) := ⟨x.toNat, by omega⟩
    exact (look_ok hH hs hn k hc (by omega)).mono fun e w' ⟨⟨_, _, e1, _⟩, e2⟩ => ⟨⟨_, e1⟩, e2⟩
end
end Go.Proofs.YtgmldkojldlekaaGreatDoor

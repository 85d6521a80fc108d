/- errors.As of package errors, at a *api.Fault as its target. -/
import Derived.LaidEql
import Derived.Stop.Asserts
import Derived.RowKitTokens
import Derived.Deep.RegionHeld3
import Derived.Test.YtbfbkmkjcekpaaaGreatDoorow44Z
import Derived.Test.YtbfbkmkjcekpaaaGreatDoorow32Z
import Derived.Test.YtbfbkmkjcekpaaaGreatDoorow42Z
import Derived.Test.YtbfbkmkjcekpaaaGreatDoorow10Z
import Derived.Test.YtbfbkmkjcekpaaaGreatDoorow16Z
import Derived.Test.YtbfbkmkjcekpaaaGreatDoorow33Z
import Derived.Test.YtbfbkmkjcekpaaaGreatDoorow26Z
import Derived.Test.YtbfbkmkjcekpaaaGreatDoorow39Z
namespace Go.Proofs.YtbfbkmkjcekpaaaGreatDoor
set_option maxRecDepth 100000
open Go.RowKit Go.Extern.Stop Go.Stop Go.Extern
theorem asValueOfP (t:Addr) (w:World):(ReflectliteValue.unpack (.iface 132 (.pointer (some t)))).run Tryz.prog w
  = .ok (.agg #[.pointer (some ⟨1,132,none⟩),.pointer (some ⟨w.heap.size,0,none⟩),.int .u64 150]) (w.alloc (.cells #[.pointer (some t)] 132)):=by kernel_rfl
theorem asTypeP (a : Addr) (w : World) : (ReflectliteValue.methodAny (ReflectliteValue.valueError "reflectlite.Value.Type" 0) (fun t _ _ _ => ReflectliteType.toType t) #[.agg #[.pointer (some ⟨1, 132, none⟩), .pointer (some a), .int .u64 150]]).run Tryz.prog w
  = .ok (.iface 205 (.agg #[.pointer (some ⟨1,132,none⟩)])) w:=by kernel_rfl
theorem asMethodKind (h : Value) (w : World) : (Go.method 354 205 (.agg #[h]) "Kind").run Tryz.prog w = .ok (154, h) w := by kernel_rfl
theorem asKindP (w:World):((ReflectliteType.abiMethod fun t=>(fun a:Nat=>Value.int IntKind.u8 (a:Int)) <$> Rtype.kind t) #[.pointer (some ⟨1,132,none⟩)]).run Tryz.prog w=.ok (.int .u8 22) w:=by kernel_rfl
theorem asKindF (w:World):((ReflectliteType.abiMethod fun t=>(fun a:Nat=>Value.int IntKind.u8 (a:Int)) <$> Rtype.kind t) #[.pointer (some ⟨1,125,none⟩)]).run Tryz.prog w=.ok (.int .u8 22) w:=by kernel_rfl
theorem lit10 (v:Value) {n:Nat} (h:(#[v]:Array Value).size=n) (k:0<n):(#[v]:Array Value).getLit 0 h k=v:=rfl
theorem lit20 (v x:Value) {n:Nat} (h:(#[v,x]:Array Value).size=n) (k:0<n):(#[v,x]:Array Value).getLit 0 h k=v:=rfl
theorem lit21 (v x:Value) {n:Nat} (h:(#[v,x]:Array Value).size=n) (k:1<n):(#[v,x]:Array Value).getLit 1 h k=x:=rfl
theorem asPartsP (a:Addr) (w:World):(ReflectliteValue.parts (.agg #[.pointer (some ⟨1,132,none⟩),.pointer (some a),.int .u64 150])).run Tryz.prog w=.ok (some (132,a,150)) w:=by kernel_rfl
theorem asIsNilP (a p:Addr) (W:World) (ha:W.cell? a=some (.pointer (some p))) :
  (ReflectliteValue.method (ReflectliteValue.valueError "reflectlite.Value.IsNil" 0) ReflectliteValue.isNil #[.agg #[.pointer (some ⟨1, 132, none⟩), .pointer (some a), .int .u64 150]]).run Tryz.prog W = .ok (.bool false) W := by
 change Sem.run Tryz.prog (_ >>= _) W=_
 simp only[lit10,Sem.run_bind,asPartsP,Result.andThen]
 simp[ReflectliteValue.isNil,loadVar,isAgg,underlying,Tryz.underlying132,ha,Result.andThen]
theorem asMethodElem (h : Value) (w : World) : (Go.method 354 205 (.agg #[h]) "Elem").run Tryz.prog w = .ok (168, .agg #[h]) w := by kernel_rfl
theorem asMethodImplements (h : Value) (w : World) : (Go.method 354 205 (.agg #[h]) "Implements").run Tryz.prog w = .ok (169, .agg #[h]) w := by kernel_rfl
theorem asMethodAssignableTo (h : Value) (w : World) : (Go.method 354 205 (.agg #[h]) "AssignableTo").run Tryz.prog w = .ok (166, .agg #[h]) w := by kernel_rfl
theorem asElemP (w:World):(ReflectliteType.method ReflectliteType.elem #[.agg #[.pointer (some ⟨1,132,none⟩)]]).run Tryz.prog w=.ok (.iface 205 (.agg #[.pointer (some ⟨1,125,none⟩)])) w:=by kernel_rfl
theorem asImplementsF (w : World) : (ReflectliteType.relation "Implements" ReflectliteType.implements_ #[.agg #[.pointer (some ⟨1, 125, none⟩)], .iface 205 (.agg #[.pointer (some ⟨1, 37, none⟩)])]).run Tryz.prog w = .ok (.bool true) w := by kernel_rfl
theorem asTypeOfF (v:Value) (w:World):(ReflectliteType.typeOf #[.iface 125 v]).run Tryz.prog w=.ok (.iface 205 (.agg #[.pointer (some ⟨1,125,none⟩)])) w:=by kernel_rfl
theorem asAssignableF (w : World) : (ReflectliteType.relation "AssignableTo" ReflectliteType.assignableTo #[.agg #[.pointer (some ⟨1, 125, none⟩)], .iface 205 (.agg #[.pointer (some ⟨1, 125, none⟩)])]).run Tryz.prog w = .ok (.bool true) w := by kernel_rfl
theorem asValueOfF (e:Addr) (w:World):(ReflectliteValue.unpack (.iface 125 (.pointer (some e)))).run Tryz.prog w
  = .ok (.agg #[.pointer (some ⟨1,125,none⟩),.pointer (some ⟨w.heap.size,0,none⟩),.int .u64 150]) (w.alloc (.cells #[.pointer (some e)] 125)):=by kernel_rfl
theorem asElemOfP (w:World):(Rtype.elem? 132).run Tryz.prog w=.ok (some 125) w:=by kernel_rfl
theorem asMkF (p:Addr) (w:World):(ReflectliteValue.mk 125 p ReflectliteValue.flagAddr).run Tryz.prog w=.ok (.agg #[.pointer (some ⟨1,125,none⟩),.pointer (some p),.int .u64 406]) w:=by kernel_rfl
theorem asElemVP (a p:Addr) (W:World) (ha:W.cell? a=some (.pointer (some p))) :
  (ReflectliteValue.method (ReflectliteValue.valueError "reflectlite.Value.Elem" 0) ReflectliteValue.elem #[.agg #[.pointer (some ⟨1, 132, none⟩), .pointer (some a), .int .u64 150]]).run Tryz.prog W
   = .ok (.agg #[.pointer (some ⟨1,125,none⟩),.pointer (some p),.int .u64 406]) W:=by
 change Sem.run Tryz.prog (_ >>= _) W=_
 simp only[lit10,Sem.run_bind,asPartsP,Result.andThen]
 simp[ReflectliteValue.elem,loadVar,isAgg,underlying,Tryz.underlying132,ha,Result.andThen,asElemOfP,asMkF]
theorem asPartsFa (a:Addr) (w:World):(ReflectliteValue.parts (.agg #[.pointer (some ⟨1,125,none⟩),.pointer (some a),.int .u64 406])).run Tryz.prog w=.ok (some (125,a,406)) w:=by kernel_rfl
theorem asPartsF (a:Addr) (w:World):(ReflectliteValue.parts (.agg #[.pointer (some ⟨1,125,none⟩),.pointer (some a),.int .u64 150])).run Tryz.prog w=.ok (some (125,a,150)) w:=by kernel_rfl
theorem asDirectF (w:World):(Rtype.directlyAssignable 125 125).run Tryz.prog w=.ok true w:=by kernel_rfl
theorem asSetF (ta b e:Addr) (old:Value) (W:World) (hb:W.cell? b=some (.pointer (some e))) (ht:W.cell? ta=some old) (hf:W.frozen? ta=false) :
  (ReflectliteValue.set #[.agg #[.pointer (some ⟨1,125,none⟩),.pointer (some ta),.int .u64 406],.agg #[.pointer (some ⟨1,125,none⟩),.pointer (some b),.int .u64 150]]).run Tryz.prog W
   = .ok (.tuple #[]) (W.setCell ta (.pointer (some e))):=by
 change Sem.run Tryz.prog (_ >>= _) W=_
 simp only[lit20,lit21,Sem.run_bind,asPartsFa,asPartsF,Result.andThen]
 simp[ReflectliteValue.flagAddr,loadVar,isAgg,underlying,Tryz.underlying125,hb,Result.andThen,asDirectF,storeVar,Value.cells,storeCells,Addr.add]
 rw[run_store Tryz.prog W ta _ _ (by rfl)]
 simp[ht,hf]
set_option maxHeartbeats 4000000 in
theorem as_hit (e t:Addr) (old:Value) (w:World) (hg:w.cell? ⟨0,0,none⟩=some (.iface 205 (.agg #[.pointer (some ⟨1,37,none⟩)]))) (ht0:w.cell? t=some old) (hf0:w.frozen? t=false) :
  Calls Tryz.prog 71 #[.iface 125 (.pointer (some e)),.iface 132 (.pointer (some t))] w fun ev w'=>ev=.returned (.bool true)/\w'=((((w.alloc (.cells #[.pointer (some t)] 132)).alloc (.cells #[.pointer (some ⟨1,132,none⟩),.pointer (some ⟨w.heap.size,0,none⟩),.int .u64 150] 173)).alloc (.cells #[.pointer (some ⟨1,132,none⟩),.pointer (some ⟨w.heap.size,0,none⟩),.int .u64 150] 173)).alloc (.cells #[.pointer (some e)] 125)).setCell t (.pointer (some e)):=by
 have h6:=@run_callFunc_extern Tryz.prog 103 _ (fun args=>ReflectliteValue.unpack (args.getD 0 (.tuple #[]))) Tryz.func103 (by kernel_rfl) (by kernel_rfl) (by kernel_rfl) (by kernel_rfl)
 have h7 := @run_callFunc_extern Tryz.prog 104 _ (ReflectliteValue.methodAny (ReflectliteValue.valueError "reflectlite.Value.Type" 0) (fun t _ _ _ => ReflectliteType.toType t)) Tryz.func104 (by kernel_rfl) (by kernel_rfl) (by kernel_rfl) (by kernel_rfl)
 have h8 := @run_callFunc_extern Tryz.prog 105 _ (ReflectliteValue.method (ReflectliteValue.valueError "reflectlite.Value.IsNil" 0) ReflectliteValue.isNil) Tryz.func105 (by kernel_rfl) (by kernel_rfl) (by kernel_rfl) (by kernel_rfl)
 have h27:=@run_callFunc_extern Tryz.prog 154 _ (ReflectliteType.abiMethod fun t=>do pure (.int .u8 (←Rtype.kind t))) Tryz.func154 (by kernel_rfl) (by kernel_rfl) (by kernel_rfl) (by kernel_rfl)
 have h37:=@run_callFunc_extern Tryz.prog 168 _ (ReflectliteType.method ReflectliteType.elem) Tryz.func168 (by kernel_rfl) (by kernel_rfl) (by kernel_rfl) (by kernel_rfl)
 have h38 := @run_callFunc_extern Tryz.prog 169 _ (ReflectliteType.relation "Implements" ReflectliteType.implements_) Tryz.func169 (by kernel_rfl) (by kernel_rfl) (by kernel_rfl) (by kernel_rfl)
 have h10:=@run_callFunc_extern Tryz.prog 129 _ ReflectliteType.typeOf Tryz.func129 (by kernel_rfl) (by kernel_rfl) (by kernel_rfl) (by kernel_rfl)
 have h35 := @run_callFunc_extern Tryz.prog 166 _ (ReflectliteType.relation "AssignableTo" ReflectliteType.assignableTo) Tryz.func166 (by kernel_rfl) (by kernel_rfl) (by kernel_rfl) (by kernel_rfl)
 have h11 := @run_callFunc_extern Tryz.prog 130 _ (ReflectliteValue.method (ReflectliteValue.valueError "reflectlite.Value.Elem" 0) ReflectliteValue.elem) Tryz.func130 (by kernel_rfl) (by kernel_rfl) (by kernel_rfl) (by kernel_rfl)
 have h12:=@run_callFunc_extern Tryz.prog 131 _ ReflectliteValue.set Tryz.func131 (by kernel_rfl) (by kernel_rfl) (by kernel_rfl) (by kernel_rfl)
 have tO:=asTypeOfF
 have mA:=asMethodAssignableTo
 have a25:=asAssignableF
 have v25:=asValueOfF
 have f6:=asValueOfP
 have f7:=asTypeP
 have mK:=asMethodKind
 have mE:=asMethodElem
 have mI:=asMethodImplements
 have k27:=asKindP
 have k25:=asKindF
 have e27:=asElemP
 have i25:=asImplementsF
 have n8:=asIsNilP ⟨w.heap.size,0,none⟩ t ((w.alloc (.cells #[.pointer (some t)] 132)).alloc (.cells #[.pointer (some ⟨1,132,none⟩),.pointer (some ⟨w.heap.size,0,none⟩),.int .u64 150] 173)) (by simp)
 have hlt:0<w.heap.size:=by
  rcases Nat.eq_zero_or_pos w.heap.size with h0 | h
  ·simp[World.cell?,h0] at hg
  ·exact h
 have hg2:((w.alloc (.cells #[.pointer (some t)] 132)).alloc (.cells #[.pointer (some ⟨1,132,none⟩),.pointer (some ⟨w.heap.size,0,none⟩),.int .u64 150] 173)).cell? ⟨0,0,none⟩=some (.iface 205 (.agg #[.pointer (some ⟨1,37,none⟩)])):=by
  rw[World.cell?_alloc_lt _ _ ⟨0,0,none⟩ (by simp),World.cell?_alloc_lt _ _ ⟨0,0,none⟩ hlt];exact hg
 have htl:t.block<w.heap.size:=by
  rcases Nat.lt_or_ge t.block w.heap.size with h | h
  ·exact h
  ·simp[World.cell?,Array.getElem?_eq_none h] at ht0
 have el:=asElemVP ⟨w.heap.size,0,none⟩ t (((w.alloc (.cells #[.pointer (some t)] 132)).alloc (.cells #[.pointer (some ⟨1,132,none⟩),.pointer (some ⟨w.heap.size,0,none⟩),.int .u64 150] 173)).alloc (.cells #[.pointer (some ⟨1,132,none⟩),.pointer (some ⟨w.heap.size,0,none⟩),.int .u64 150] 173)) (by rw[World.cell?_alloc_lt _ _ ⟨w.heap.size,0,none⟩ (by simp;omega)];simp)
 have st:=asSetF t ⟨w.heap.size+1+1+1,0,none⟩ e old ((((w.alloc (.cells #[.pointer (some t)] 132)).alloc (.cells #[.pointer (some ⟨1,132,none⟩),.pointer (some ⟨w.heap.size,0,none⟩),.int .u64 150] 173)).alloc (.cells #[.pointer (some ⟨1,132,none⟩),.pointer (some ⟨w.heap.size,0,none⟩),.int .u64 150] 173)).alloc (.cells #[.pointer (some e)] 125))
  (by rw[World.cell?_alloc_at _ _ _ _ (by simp)];rfl)
  (by rw[World.cell?_alloc_lt _ _ t (by simp;omega),World.cell?_alloc_lt _ _ t (by simp;omega),World.cell?_alloc_lt _ _ t (by simp;omega),World.cell?_alloc_lt _ _ t htl];exact ht0)
  (by rw[World.frozen?_alloc_old _ _ t (by simp;omega),World.frozen?_alloc_old _ _ t (by simp;omega),World.frozen?_alloc_old _ _ t (by simp;omega),World.frozen?_alloc_old _ _ t (Nat.ne_of_lt htl)];exact hf0)
 go_enter Tryz.func71,Tryz.ntmps71
 go_wp2
 refine wp_loop_rounds 1 ?_
 rw[rounds_succ]
 go_wp2
 go_ret
 exact⟨rfl,rfl⟩
end Go.Proofs.YtbfbkmkjcekpaaaGreatDoor
namespace Go.Proofs.YtbfbkmkjcekpaaaGreatDoor
set_option maxRecDepth 100000
open Go.RowKit
theorem nodup_vals (f:Nat->Int):∀(n:Nat) (L:List Int),L.Nodup->(∀x∈L,∃k,k<n/\x=f k)->L.length<=n
 | 0,L,_,h=>by
  cases L with
  | nil=>exact Nat.le_refl _
  | cons x r=>
   obtain⟨k,hk,_⟩:=h x (by simp)
   omega
 | n+1,L,hn,h=>by
  have h1:=nodup_vals f n (L.erase (f n)) (hn.erase _) (fun x hx=>by
   have hx2:=(List.Nodup.mem_erase_iff hn).1 hx
   obtain⟨k,hk,e⟩:=h x hx2.2
   refine⟨k,?_,e⟩
   rcases Nat.lt_or_ge k n with h3 | h3
   ·exact h3
   ·have e2:k=n:=by omega
    subst e2
    exact absurd e hx2.1)
  have h2:=List.length_erase (a:=f n) (l:=L)
  split at h2 <;> omega
theorem rfi_len {l cs TS:List Int} (h:Rfi l cs TS):TS.length<=l.length:=by
 refine nodup_vals (fun k=>trmW l k) l.length TS h.nodup (fun x hx=>?_)
 obtain⟨k,hk,e⟩:=h.inT x hx
 exact⟨k,hk,e⟩
section
variable {W:World} {Bh hb ab tb:Nat} {m:Int} {av:Value} {l:List Int} {htv:Value} {tq:Nat} {ns:List ByteArray} {trv ptv:Value} {n:Int} {V:Nat->Bool}
set_option maxHeartbeats 4000000 in
theorem get_no (hH:Hp W Bh hb ab tb m av l htv tq ns trv ptv n) {cv:Value} {cs:List Int} (hC:Ri W cv cs) (hl:cs.length<=5000) (hbd:badF l cs≠[]) :
  Calls Tryz.prog 13 #[.pointer (some ⟨hb,0,none⟩),cv] W fun e w'=>(∃q,e=.returned (.tuple #[.agg #[.slice none 0 0,.slice none 0 0],.iface 125 (.pointer (some ⟨q,0,none⟩))]))/\Below W.heap.size W w':=by
 have hb0:=below_alloc W gr0
 have hx0:=hid (heap_alloc_new W gr0)
 have hck:=hid (checkedC_any (hH.below hb0).ar (hC.below hb0) hl)
 have Hb0:=hid hb0
 obtain⟨⟨c0,_⟩,c5⟩:=(hH.below hb0).cells
 obtain⟨ca,cc,rfl,_⟩:=hC
 generalize badF l cs=fs at *
 generalize cs.length=len at *
 clear hH hb0
 go_enter Tryz.func13,Tryz.ntmps13
 go_wp2_with (first
  | (go_at_call 40;refine (self_some _ _).mono ?_;rintro e w2 ⟨rfl,hw⟩;replace hw:=hw.symm;subst hw)
  | (go_at_call 41;refine hck.out.mono ?_;rintro e w1 ⟨⟨ev,rfl,hev⟩,hb1⟩;obtain⟨q,hq⟩:=er_ptr hev hbd;subst hq;have Hb1:=hid (Below.next Hb0.out hb1);have HX1:=hid ((hb1.block _ (by simp)).trans hx0.out);obtain⟨⟨y0,y1⟩,yf0,yf1⟩:=cblk2 HX1.out;clear hev hb1))
 have hfin:=heap_setCell_same _ W.heap.size 1 _ _ (.slice none 0 0) (heap_setCell_same w1 W.heap.size 0 _ _ (.slice none 0 0) HX1.out)
 exact bodyPost_ret (ret_grE Tryz.results13 (by rfl) (by rfl) hfin) rfl ⟨⟨q,rfl⟩,(Hb1.out.setCell (p:=⟨W.heap.size,0,none⟩) (Nat.le_refl _) _).setCell (p:=⟨W.heap.size,1,none⟩) (Nat.le_refl _) _⟩
theorem bad_all {l cs:List Int} (h:badF l cs=[]):∀x∈cs,cellB l x=true:=fun x hx=>by
 have h1:=ixOf_any (fun x=>!cellB l x) cs
 have h2:¬(0<=ixOf (fun x=>!cellB l x) cs):=fun h3=>by
  unfold badF badC at h
  rw[if_pos h3] at h
  cases h
 rw[decide_eq_false h2] at h1
 have h3:=List.any_eq_false.1 h1.symm x hx
 simpa using h3
theorem get_any (hH:Hp W Bh hb ab tb m av l htv tq ns trv ptv n) (hs:Snd l V) (hn:NsB l ns.length) (hll:l.length<=4096) {cv:Value} {cs:List Int} (hC:Ri W cv cs) (hl:cs.length<=4096) :
  Calls Tryz.prog 13 #[.pointer (some ⟨hb,0,none⟩),cv] W fun e w'=>(∃ev,e=.returned ev)/\Below W.heap.size W w':=by
 by_cases hbd:badF l cs=[]
 ·exact (get_ok hH hs hn hC (bad_all hbd) hl (fun TS h=>Nat.le_trans (rfi_len h) hll)).mono fun e w' ⟨⟨_,_,_,_,_,e1,_⟩,e2⟩=>⟨⟨_,e1⟩,e2⟩
 ·exact (get_no hH hC (by omega) hbd).mono fun e w' ⟨⟨_,e1⟩,e2⟩=>⟨⟨_,e1⟩,e2⟩
theorem look_any (hH:Hp W Bh hb ab tb m av l htv tq ns trv ptv n) (hs:Snd l V) (hn:NsB l ns.length) (x:Int) :
  Calls Tryz.prog 14 #[.pointer (some ⟨hb,0,none⟩),.int .i64 x] W fun e w'=>(∃ev,e=.returned ev)/\Below W.heap.size W w':=by
 cases hc:cellB l x with
 | false=>exact (look_no hH x hc).mono fun e w' ⟨⟨_,e1,_⟩,e2⟩=>⟨⟨_,e1⟩,e2⟩
 | true=>
  have h1:=hc
  unfold cellB at h1
  simp only[Bool.and_eq_true] at h1
  have h2:0<=x/\x<(l.length:Int):=by simpa[inB] using h1.1.1
  obtain⟨k,rfl⟩:∃k:Nat,x=(k:Int):=⟨x.toNat,by omega⟩
  exact (look_ok hH hs hn k hc (by omega)).mono fun e w' ⟨⟨_,_,e1,_⟩,e2⟩=>⟨⟨_,e1⟩,e2⟩
end
end Go.Proofs.YtbfbkmkjcekpaaaGreatDoor
namespace Go.Proofs.YtbfbkmkjcekpaaaGreatDoor
set_option maxRecDepth 100000
open Go.RowKit
section
variable {l T:List Int} {V V':Nat->Bool} {ns ms:List ByteArray}
theorem nx_old {k:Nat} (hk:k<l.length):nxN (l++T) k=nxN l k:=by
 obtain⟨h1,h2⟩:=tg_old (T:=T) hk
 unfold nxN
 rw[h1,h2]
theorem trm_old (hs:Snd l V) (hs':Snd (l++T) V'):∀(r k:Nat),k<l.length->rkN l V k<=r->trmW (l++T) k=trmW l k
 | 0,k,hk,hr=>by
  cases e:nxN l k with
  | none=>
   rw[trm_end e,trm_end ((nx_old hk).trans e)]
   unfold endW
   rw[(tg_old hk).1,wd_old hk]
  | some j=>exact absurd (nx_rk hs hk e).2 (by omega)
 | r+1,k,hk,hr=>by
  have hk':k<(l++T).length:=by rw[List.length_append];omega
  cases e:nxN l k with
  | none=>
   rw[trm_end e,trm_end ((nx_old hk).trans e)]
   unfold endW
   rw[(tg_old hk).1,wd_old hk]
  | some j=>
   obtain⟨h1,h2⟩:=nx_rk hs hk e
   rw[trm_next hs hk e,trm_next hs' hk' ((nx_old hk).trans e)]
   exact trm_old hs hs' r j h1 (by omega)
theorem tm_old (hs:Snd l V) (hs':Snd (l++T) V') {k:Nat} (hk:k<l.length):trmW (l++T) k=trmW l k:=trm_old hs hs' _ k hk (Nat.le_refl _)
theorem tmC_old (hs:Snd l V) (hs':Snd (l++T) V') {c:Int} (hc:0<=c/\c<(l.length:Int)):tmC (l++T) c=tmC l c:=tm_old hs hs' (by omega)
theorem td_old {t:Int} (ht:Tw l ns t) (hp:ns <+: ms):tdL (l++T) t=tdL l t/\tdS (l++T) ms t=tdS l ns t:=by
 unfold tdL tdS
 by_cases h3:t % 8=3
 ·obtain⟨_,hy,h4,_,hn⟩:=ht.str h3
  have h1:¬t % 8=1:=by omega
  simp only[if_pos h3,if_neg h1,wd_old hy]
  exact⟨trivial,pre_getD hp hn⟩
 ·simp only[if_neg h3]
  refine⟨trivial,?_⟩
  by_cases h1:t % 8=1
  ·simp only[if_pos h1]
   exact pre_getD hp (ht.atom h1).2
  ·simp only[if_neg h1]
theorem rfi_old (hs:Snd l V) (hs':Snd (l++T) V') (hn:NsB l ns.length) (hl:l.length<=65536) {cs TS:List Int} (hcs:∀c∈cs,0<=c/\c<(l.length:Int)) (h:Rfi (l++T) cs TS):Rfi l cs TS/\∀t∈TS,Tw l ns t:=by
 have hall:∀t∈TS,∃k,k<l.length/\t=trmW l k:=h.mn (fun t=>∃k,k<l.length/\t=trmW l k) (fun c hc=>⟨c.toNat,by have:=hcs c hc;omega,tmC_old hs hs' (hcs c hc)⟩) (fun t ht c hc=>by
  obtain⟨k,hk,rfl⟩:=ht
  have hTw:Tw l ns (trmW l k):=trm_tw hs hn hl hk
  rw[(td_old hTw (List.prefix_refl _)).1] at hc
  have hr:=args_ok hs hTw c hc
  exact⟨c.toNat,by omega,tmC_old hs hs' hr⟩)
 have htw:∀t∈TS,Tw l ns t:=fun t ht=>by
  obtain⟨k,hk,rfl⟩:=hall t ht
  exact trm_tw hs hn hl hk
 refine⟨⟨h.nodup,fun i hi c hc=>?_,hall,fun P h1 h2=>?_,fun c hc=>?_⟩,htw⟩
 ·have ht:=htw _ (getD_mem hi)
  rw[←tmC_old hs hs' (args_ok hs ht c hc)]
  exact h.cl i hi c (by rw[(td_old ht (List.prefix_refl _)).1];exact hc)
 ·have h3:=h.mn (fun t=>P t/\∃k,k<l.length/\t=trmW l k) (fun c hc=>by
   rw[tmC_old hs hs' (hcs c hc)]
   exact⟨h1 c hc,c.toNat,by have:=hcs c hc;omega,rfl⟩) (fun t ht c hc=>by
   obtain⟨hP,k,hk,rfl⟩:=ht
   have hTw:Tw l ns (trmW l k):=trm_tw hs hn hl hk
   rw[(td_old hTw (List.prefix_refl _)).1] at hc
   have hr:=args_ok hs hTw c hc
   rw[tmC_old hs hs' hr]
   exact⟨h2 _ hP c hc,c.toNat,by omega,rfl⟩)
  exact fun t ht=>(h3 t ht).1
 ·rw[←tmC_old hs hs' (hcs c hc)]
  exact h.root c hc
theorem rdG_old (hs:Snd l V) (hs':Snd (l++T) V') (hp:ns <+: ms) {cs TS:List Int} (hcs:∀c∈cs,0<=c/\c<(l.length:Int)) (htw:∀t∈TS,Tw l ns t):rdG (l++T) ms cs TS=rdG l ns cs TS:=by
 unfold rdG rdN
 rw[List.take_length]
 congr 1
 ·refine List.map_congr_left (fun t ht=>?_)
  have hT:=htw t ht
  obtain⟨e1,e2⟩:=td_old (T:=T) hT hp
  unfold ndT
  rw[e1,e2]
  congr 1
  refine List.map_congr_left (fun c hc=>?_)
  rw[tmC_old hs hs' (args_ok hs hT c hc)]
 ·refine List.map_congr_left (fun c hc=>?_)
  rw[tmC_old hs hs' (hcs c hc)]
end
end Go.Proofs.YtbfbkmkjcekpaaaGreatDoor
namespace Go.Proofs.YtbfbkmkjcekpaaaGreatDoor
set_option maxRecDepth 100000
open Go.RowKit Go.Shelf
attribute [local go_sem] Oper.semAt_some
abbrev dmpO (a b c d e:Value):Obj:=.cells #[a,b,c,d,e] 54
abbrev dmp0:Obj:=dmpO (.slice none 0 0) (.slice none 0 0) (.slice none 0 0) (.slice none 0 0) (.slice none 0 0)
abbrev setD (w:World) (q:Nat) (a b c d e:Value):World:=((((w.setCell ⟨q,0,none⟩ a).setCell ⟨q,1,none⟩ b).setCell ⟨q,2,none⟩ c).setCell ⟨q,3,none⟩ d).setCell ⟨q,4,none⟩ e
theorem setD_at {w:World} {q:Nat} {u0 u1 u2 u3 u4:Value} {T:TypeId} (h:w.heap[q]?=some (.cells #[u0,u1,u2,u3,u4] T)) (a b c d e:Value):(setD w q a b c d e).heap[q]?=some (.cells #[a,b,c,d,e] T):=
 heap_setCell_same _ q 4 _ _ e (heap_setCell_same _ q 3 _ _ d (heap_setCell_same _ q 2 _ _ c (heap_setCell_same _ q 1 _ _ b (heap_setCell_same w q 0 _ _ a h))))
theorem setD_far (w:World) {q k:Nat} (a b c d e:Value) (h:k≠q):(setD w q a b c d e).heap[k]?=w.heap[k]?:=by
 rw[Below.heap_setCell _ _ _ _ h,Below.heap_setCell _ _ _ _ h,Below.heap_setCell _ _ _ _ h,Below.heap_setCell _ _ _ _ h,Below.heap_setCell _ _ _ _ h]
theorem setD_below {W w:World} {n q:Nat} (hb:Below n W w) (hq:n<=q) (a b c d e:Value):Below n W (setD w q a b c d e):=((((hb.setCell (p:=⟨q,0,none⟩) hq _).setCell (p:=⟨q,1,none⟩) hq _).setCell (p:=⟨q,2,none⟩) hq _).setCell (p:=⟨q,3,none⟩) hq _).setCell (p:=⟨q,4,none⟩) hq _
theorem ret_dmp {w:World} {fn:Func} {t:Tmp} (hfn:fn.results=#[.cell t 54]) {tmps:Array Value} {q:Nat} {u0 u1 u2 u3 u4:Value} (h4:tmps[t]?.getD undef=.pointer (some ⟨q,0,none⟩)) (hq:w.heap[q]?=some (.cells #[u0,u1,u2,u3,u4] 54)):(results fn tmps).run Tryz.prog w=.ok (.agg #[u0,u1,u2,u3,u4]) w:=by
 obtain⟨⟨z0,z1,z2,z3,z4⟩,_⟩:=cel_cells hq
 simp[results,hfn,go_sem,h4,z0,z1,z2,z3,z4]
structure Dk (w:World) (hb:Nat) (O:Obj) (W:World):Prop where
 b:Below w.heap.size w W
 x:W.heap[w.heap.size]?=some dmp0
 n:W.heap[hb]?=some O
theorem Dk.next {w W W':World} {hb:Nat} {O:Obj} (h:Dk w hb O W) (hb':Below W.heap.size W W'):Dk w hb O W':=⟨Below.next h.b hb',(hb'.block _ (lt_of_block h.x)).trans h.x,(hb'.block _ (lt_of_block h.n)).trans h.n⟩
theorem Dk.drew {w W:World} {hb:Nat} {O:Obj} (h:Dk w hb O W):Dk w hb O W.drew:=h.next (Below.refl _ W).drew
abbrev hpO (ap tp:Option Addr) (trv ptv:Value) (n:Int):Obj:=.cells #[.pointer ap,.pointer tp,trv,ptv,.int .i64 n] 91
theorem Dk.cells {w W:World} {hb:Nat} {ap tp:Option Addr} {trv ptv:Value} {n:Int} (h:Dk w hb (hpO ap tp trv ptv n) W):W.cell? ⟨hb,0,none⟩=some (.pointer ap)/\W.cell? ⟨hb,1,none⟩=some (.pointer tp)/\W.cell? ⟨hb,2,none⟩=some trv/\W.cell? ⟨hb,3,none⟩=some ptv/\hb<W.heap.size:=by
 obtain⟨⟨c0,c1,c2,c3,_⟩,_,c5⟩:=cel_cells h.n
 exact⟨c0,c1,c2,c3,c5⟩
theorem row_below {A A':World} {B z:Nat} {e:TypeId} {v:Value} {n:Nat} {xs:List Value} (h:A.ownsRow B e z v n xs) (hb:Below A.heap.size A A'):A'.ownsRow B e z v n xs:=row_keep h (fun k hk=>hb.block k (h.lt k hk).2)
structure Dr (B:Nat) (v1:Value) (k1:Nat) (xs1:List Value) (v2:Value) (k2:Nat) (xs2:List Value) (v3:Value) (k3:Nat) (xs3:List Value) (W:World):Prop where
 r1:W.ownsRow B 57 1 v1 k1 xs1
 r2:W.ownsRow B 59 2 v2 k2 xs2
 r3:W.ownsRow B 61 3 v3 k3 xs3
theorem Dr.keep {B:Nat} {v1 v2 v3:Value} {k1 k2 k3:Nat} {xs1 xs2 xs3:List Value} {A A':World} (h:Dr B v1 k1 xs1 v2 k2 xs2 v3 k3 xs3 A) (hk:∀(k:Nat) (o:Obj),A.heap[k]?=some o->(∀(cs:Array Value) (x:Nat×Nat),o≠.cells cs 54 x)->o.isCells=true->A'.heap[k]?=some o):Dr B v1 k1 xs1 v2 k2 xs2 v3 k3 xs3 A':=by
 have key:∀{z:Nat} {e:TypeId} {v:Value} {n:Nat} {xs:List Value},A.ownsRow B e z v n xs->e≠54->A'.ownsRow B e z v n xs:=fun {z e v n xs} hr hne=>row_keep hr (fun k hk'=>by
  obtain⟨cur,hc⟩:=row_obj hr hk'
  rw[hc]
  exact hk k _ hc (fun cs x e'=>by injection e' with _ e';exact hne e') rfl)
 exact⟨key h.r1 (by decide),key h.r2 (by decide),key h.r3 (by decide)⟩
structure Dc (w:World) (hb:Nat) (O:Obj) (k1:Nat) (xs1:List Value) (k2:Nat) (xs2:List Value) (k3:Nat) (xs3:List Value) (t3:Nat) (W:World):Prop where
 d:Dk w hb O W
 lt:w.heap.size<t3
 r:∃a1 c1 a2 c2 a3 c3,W.heap[t3]?=some (dmpO (.slice a1 k1 c1) (.slice a2 k2 c2) (.slice a3 k3 c3) (.slice none 0 0) (.slice none 0 0))/\Dr w.heap.size (.slice a1 k1 c1) k1 xs1 (.slice a2 k2 c2) k2 xs2 (.slice a3 k3 c3) k3 xs3 W
theorem Dc.late {w:World} {hb:Nat} {O:Obj} {k1 k2 k3:Nat} {xs1 xs2 xs3:List Value} {W:World} {a1 a2 a3:Option Addr} {c1 c2 c3:Nat} (h:Dk w hb O W) (hz:w.heap.size<W.heap.size) (r1:W.ownsRow w.heap.size 57 1 (.slice a1 k1 c1) k1 xs1) (r2:W.ownsRow w.heap.size 59 2 (.slice a2 k2 c2) k2 xs2) (r3:W.ownsRow w.heap.size 61 3 (.slice a3 k3 c3) k3 xs3):Dc w hb O k1 xs1 k2 xs2 k3 xs3 W.heap.size (W.alloc (dmpO (.slice a1 k1 c1) (.slice a2 k2 c2) (.slice a3 k3 c3) (.slice none 0 0) (.slice none 0 0))):=
 ⟨h.next (below_alloc W _),hz,a1,c1,a2,c2,a3,c3,heap_alloc_new W _,row_below r1 (below_alloc W _),row_below r2 (below_alloc W _),row_below r3 (below_alloc W _)⟩
theorem Dc.early {w:World} {hb t3:Nat} {O:Obj} {k1 k2 k3:Nat} {xs1 xs2 xs3:List Value} {W:World} {a1 a2 a3:Option Addr} {c1 c2 c3:Nat} (h:Dk w hb O W) (hO:∀(cs:Array Value) (x:Nat×Nat),O≠.cells cs 54 x) (hz:w.heap.size<t3) (ht:W.heap[t3]?=some dmp0) (r1:W.ownsRow w.heap.size 57 1 (.slice a1 k1 c1) k1 xs1) (r2:W.ownsRow w.heap.size 59 2 (.slice a2 k2 c2) k2 xs2) (r3:W.ownsRow w.heap.size 61 3 (.slice a3 k3 c3) k3 xs3):Dc w hb O k1 xs1 k2 xs2 k3 xs3 t3 (setD W t3 (.slice a1 k1 c1) (.slice a2 k2 c2) (.slice a3 k3 c3) (.slice none 0 0) (.slice none 0 0)):=by
 have hne:hb≠t3:=fun e=>by
  subst e
  rw[h.n] at ht
  exact hO _ _ (Option.some.inj ht)
 have hfar:∀k,k≠t3->(setD W t3 (.slice a1 k1 c1) (.slice a2 k2 c2) (.slice a3 k3 c3) (.slice none 0 0) (.slice none 0 0)).heap[k]?=W.heap[k]?:=fun k hk=>setD_far W _ _ _ _ _ hk
 refine⟨⟨setD_below h.b (by omega) _ _ _ _ _,(hfar _ (by omega)).trans h.x,(hfar _ hne).trans h.n⟩,hz,a1,c1,a2,c2,a3,c3,setD_at ht _ _ _ _ _,Dr.keep ⟨r1,r2,r3⟩ (fun k o hk hno _=>(hfar k (fun e=>by subst e;rw[ht] at hk;exact hno _ _ (Option.some.inj hk).symm)).trans hk)⟩
structure Dl (w:World) (k1:Nat) (xs1:List Value) (k2:Nat) (xs2:List Value) (k3:Nat) (xs3:List Value) (t3:Nat) (pre:List (Nat×ByteArray)) (W:World):Prop where
 b:Below w.heap.size w W
 x:W.heap[w.heap.size]?=some dmp0
 lt:w.heap.size<t3
 r:∃a1 c1 a2 c2 a3 c3 ua uc,W.heap[t3]?=some (dmpO (.slice a1 k1 c1) (.slice a2 k2 c2) (.slice a3 k3 c3) (.slice ua pre.length uc) (.slice none 0 0))/\Dr w.heap.size (.slice a1 k1 c1) k1 xs1 (.slice a2 k2 c2) k2 xs2 (.slice a3 k3 c3) k3 xs3 W/\W.ownsRow w.heap.size 9 1 (.slice ua pre.length uc) pre.length (pre.map fun x=>Value.string x.2)
theorem Dl.nb {w W W':World} {k1 k2 k3 t3 B:Nat} {xs1 xs2 xs3:List Value} {pre:List (Nat×ByteArray)} (h:Dl w k1 xs1 k2 xs2 k3 xs3 t3 pre W) (hn:Nb B W W') (hB:w.heap.size<=B):Dl w k1 xs1 k2 xs2 k3 xs3 t3 pre W':=by
 obtain⟨a1,c1,a2,c2,a3,c3,ua,uc,h1,h2,h3⟩:=h.r
 refine⟨hn.below h.b hB (Nat.le_refl _),hn.block _ _ h.x (Or.inr rfl),h.lt,a1,c1,a2,c2,a3,c3,ua,uc,hn.block _ _ h1 (Or.inr rfl),h2.keep (fun k o hk _ ho=>hn.block k o hk (Or.inr ho)),row_keep h3 (fun k hk=>?_)⟩
 obtain⟨cur,hc⟩:=row_obj h3 hk
 rw[hc]
 exact hn.block k _ hc (Or.inr rfl)
end Go.Proofs.YtbfbkmkjcekpaaaGreatDoor
namespace Go.Proofs.YtbfbkmkjcekpaaaGreatDoor
set_option maxRecDepth 100000
open Go.RowKit
section
variable {W:World} {Bh hb ab tb:Nat} {m:Int} {av:Value} {l:List Int} {htv:Value} {tq:Nat} {ns:List ByteArray} {trv ptv:Value} {n:Int} {V:Nat->Bool}
set_option maxHeartbeats 2000000 in
theorem hreach_no (hH:Hp W Bh hb ab tb m av l htv tq ns trv ptv n) {cv:Value} {cs:List Int} (hC:Ri W cv cs) (hl:cs.length<=5000) (hbd:badF l cs≠[]) :
  Calls Tryz.prog 30 #[.pointer (some ⟨hb,0,none⟩),cv] W fun e w'=>(∃q,e=.returned (.tuple #[.int .i64 0,.iface 125 (.pointer (some ⟨q,0,none⟩))])/\Er w' (.iface 125 (.pointer (some ⟨q,0,none⟩))) (badF l cs))/\Below W.heap.size W w':=by
 have hck:=hid (checkedC_any hH.ar hC hl)
 obtain⟨⟨c0,_⟩,c5⟩:=hH.cells
 obtain⟨ca,cc,rfl,_⟩:=hC
 generalize badF l cs=fs at *
 generalize cs.length=len at *
 clear hH
 go_enter Tryz.func30,Tryz.ntmps30
 go_wp2_with (first
  | (go_at_call 40;refine (self_some _ _).mono ?_;rintro e w2 ⟨rfl,hw⟩;replace hw:=hw.symm;subst hw)
  | (go_at_call 41;refine hck.out.mono ?_;rintro e w1 ⟨⟨ev,rfl,hev⟩,hb1⟩;obtain⟨q,hq⟩:=er_ptr hev hbd;subst hq;have Hb1:=hid hb1;have HE:=hid hev;clear hev hb1))
 go_ret2
 exact⟨⟨q,rfl,HE.out⟩,Hb1.out⟩
set_option maxHeartbeats 2000000 in
theorem hreach_ok (hH:Hp W Bh hb ab tb m av l htv tq ns trv ptv n) (hs:Snd l V) (hll:l.length<=5000) {cv:Value} {cs:List Int} (hC:Ri W cv cs) (hl:cs.length<=5000) (hbd:badF l cs=[]) :
  Calls Tryz.prog 30 #[.pointer (some ⟨hb,0,none⟩),cv] W fun e w'=>(∃M,e=.returned (.tuple #[.int .i64 (M.length:Int),.nilIface])/\RcS l cs M)/\Below W.heap.size W w':=by
 have hck:=hid (checkedC_any hH.ar hC hl)
 rw[hbd] at hck
 have hrg:∀x∈cs,0<=x/\x<(l.length:Int):=fun x hx=>by
  obtain⟨k,rfl,hk⟩:=cell_nat (bad_all hbd x hx)
  omega
 obtain⟨⟨c0,_⟩,c5⟩:=hH.cells
 have HH:=hid hH
 obtain⟨ca,cc,rfl,hc9⟩:=hC
 have hC':Ri W (.slice ca cs.length cc) cs:=⟨ca,cc,rfl,hc9⟩
 have hrc:=hid (fun w1 (hb1:Below W.heap.size W w1)=>reachable_any (hH.below hb1).ar hs hll (hC'.below hb1) hrg hl)
 clear hH hs hc9 hC' hrg hbd
 go_enter Tryz.func30,Tryz.ntmps30
 go_wp2_with (first
  | (go_at_call 40;refine (self_some _ _).mono ?_;rintro e w2 ⟨rfl,hw⟩;replace hw:=hw.symm;subst hw)
  | (go_at_call 41;refine hck.out.mono ?_;rintro e w1 ⟨⟨ev,rfl,hev⟩,hb1⟩;have hev1:ev=.nilIface:=hev;subst hev1;have Hb1:=hid hb1;clear c0 c5 hev;obtain⟨⟨c0,_⟩,c5⟩:=(HH.out.below hb1).cells;clear hb1)
  | (go_at_call 68;refine (hrc.out _ Hb1.out).mono ?_;rintro e w3 ⟨⟨M,rfl,hM⟩,hb3⟩;have HM:=hid hM;have Hb3:=hid (Below.next Hb1.out hb3);clear hM hb3))
 go_ret2
 exact⟨⟨M,rfl,HM.out⟩,Hb3.out⟩
theorem hreach_any (hH:Hp W Bh hb ab tb m av l htv tq ns trv ptv n) (hs:Snd l V) (hll:l.length<=5000) {cv:Value} {cs:List Int} (hC:Ri W cv cs) (hl:cs.length<=5000) :
  Calls Tryz.prog 30 #[.pointer (some ⟨hb,0,none⟩),cv] W fun e w'=>(∃ev,e=.returned ev)/\Below W.heap.size W w':=by
 by_cases hbd:badF l cs=[]
 ·exact (hreach_ok hH hs hll hC hl hbd).mono fun e w' ⟨⟨_,e1,_⟩,e2⟩=>⟨⟨_,e1⟩,e2⟩
 ·exact (hreach_no hH hC hl hbd).mono fun e w' ⟨⟨_,e1,_⟩,e2⟩=>⟨⟨_,e1⟩,e2⟩
end
end Go.Proofs.YtbfbkmkjcekpaaaGreatDoor

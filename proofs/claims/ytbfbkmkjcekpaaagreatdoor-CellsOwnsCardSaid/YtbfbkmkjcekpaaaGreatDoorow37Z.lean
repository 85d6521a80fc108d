/- Package cells: whether two words tell compounds of one functor. -/
import Derived.Deep.RegionHeld3
import Derived.Test.YtbfbkmkjcekpaaaGreatDoorow31Z
import Derived.Test.YtbfbkmkjcekpaaaGreatDoorow32Z
import Derived.Test.YtbfbkmkjcekpaaaGreatDoorow30Z
namespace Go.Proofs.YtbfbkmkjcekpaaaGreatDoor
set_option maxRecDepth 100000
open Go.RowKit
theorem cell_blk1 {w:World} {b:Nat} {u:Value} {T:TypeId} (h:w.heap[b]?=some (.cells #[u] T)):w.cell? ⟨b,0,none⟩=some u:=by simp[World.cell?,h]
section
variable {w:World} {B p:Nat} {m:Int} {v:Value} {l:List Int}
set_option maxHeartbeats 2000000 in
theorem alike_not (x y:Int) (w:World) (x0:0<=x) (x1:x<=18446744073709551615) (y0:0<=y) (y1:y<=18446744073709551615) (hn:x % 8≠3∨y % 8≠3) (p:Nat) :
  Calls Tryz.prog 62 #[blkV p,.int .u64 x,.int .u64 y] w fun e w'=>e=.returned (.bool false)/\Below w.heap.size w w':=by
 have hb:=hid (below_alloc w (.cells #[.pointer (some ⟨p,0,none⟩)] 89))
 have hx:=hid (fun w=>tag_any x w x0 x1)
 have hy:=hid (fun w=>tag_any y w y0 y1)
 by_cases h1:x % 8=3
 ·have h2:(y % 8 != 3)=true:=by
   rcases hn with h | h
   ·exact absurd h1 h
   ·simpa using h
  have h1':(x % 8 != 3)=false:=by simp[h1]
  generalize x % 8=tx at *
  generalize y % 8=ty at *
  clear hn h1
  have m1:True:=trivial
  go_enter Tryz.func62,Tryz.ntmps62
  go_wp2_with (first
   | (go_at_call 59;have _u:=m1;refine (hx.out _).mono ?_;clear m1 _u;rintro e w6 ⟨rfl,hw⟩;replace hw:=hw.symm;subst hw)
   | (go_at_call 59;refine (hy.out _).mono ?_;rintro e w6 ⟨rfl,hw⟩;replace hw:=hw.symm;subst hw))
  go_ret
  exact⟨rfl,hb.out⟩
 ·have h1':(x % 8 != 3)=true:=by simpa using h1
  generalize x % 8=tx at *
  clear hn h1
  go_enter Tryz.func62,Tryz.ntmps62
  go_wp2_with (go_at_call 59;refine (hx.out _).mono ?_;rintro e w6 ⟨rfl,hw⟩;replace hw:=hw.symm;subst hw)
  go_ret
  exact⟨rfl,hb.out⟩
set_option maxHeartbeats 2000000 in
theorem alike_str (h:Ar 138 w B p m v l) (x y:Int) (x0:0<=x) (x1:x<=18446744073709551615) (y0:0<=y) (y1:y<=18446744073709551615) (hx3:x % 8=3) (hy3:y % 8=3) (i j:Nat) (hi:i<l.length) (hj:j<l.length) (vi:valOf x=(i:Int)) (vj:valOf y=(j:Int)) :
  Calls Tryz.prog 62 #[blkV p,.int .u64 x,.int .u64 y] w fun e w'=>e=.returned (.bool (wdN l i == wdN l j))/\Below w.heap.size w w':=by
 have hb:=hid (below_alloc w (.cells #[.pointer (some ⟨p,0,none⟩)] 89))
 have hbx:=heap_alloc_new w (.cells #[.pointer (some ⟨p,0,none⟩)] 89)
 have d0:(w.alloc (.cells #[.pointer (some ⟨p,0,none⟩)] 89)).cell? ⟨w.heap.size,0,none⟩=some (.pointer (some ⟨p,0,none⟩)):=cell_blk1 hbx
 have z0:=lt_of_block hbx
 have hx:=hid (fun w=>tag_any x w x0 x1)
 have hy:=hid (fun w=>tag_any y w y0 y1)
 have hvx:=hid (fun w=>value_any x w)
 have hvy:=hid (fun w=>value_any y w)
 rw[hx3] at hx
 rw[hy3] at hy
 rw[vi] at hvx
 rw[vj] at hvy
 have hwi:=hid (fun w1 (hbb:Below w.heap.size w w1)=>bword_ok (h.below hbb) i hi)
 have hwj:=hid (fun w1 (hbb:Below w.heap.size w w1)=>bword_ok (h.below hbb) j hj)
 have ei:l.getD i 0=wdN l i:=rfl
 have ej:l.getD j 0=wdN l j:=rfl
 rw[ei] at hwi
 rw[ej] at hwj
 generalize wdN l i=X at *
 generalize wdN l j=Y at *
 have m1:True:=trivial
 have m2:True:=trivial
 have m3:True:=trivial
 have HB:=hid hb.out
 clear h hi hj vi vj hx3 hy3 ei ej hb
 go_enter Tryz.func62,Tryz.ntmps62
 go_wp2_with (first
  | (go_at_call 59;have _u:=m1;refine (hx.out _).mono ?_;clear m1 _u;rintro e w6 ⟨rfl,hw⟩;replace hw:=hw.symm;subst hw)
  | (go_at_call 59;refine (hy.out _).mono ?_;rintro e w6 ⟨rfl,hw⟩;replace hw:=hw.symm;subst hw))
 have HX:=hid hbx
 clear hbx
 go_region_held3 (fun w'=>w'.cell? ⟨w.heap.size,0,none⟩=some (.pointer (some ⟨p,0,none⟩))) (first | exact d0 | go_keep)
  (first
   | (go_at_call_of 60 (Value.int IntKind.u64 x);refine (hvx.out _).mono ?_;rintro e w6 ⟨rfl,hw⟩;replace hw:=hw.symm;subst hw)
   | (go_at_call_of 60 (Value.int IntKind.u64 y);refine (hvy.out _).mono ?_;rintro e w6 ⟨rfl,hw⟩;replace hw:=hw.symm;subst hw)
   | (go_at_call_of 85 (Value.int IntKind.i64 (i:Int));refine (hwi.out _ ?_).mono ?_;(first | exact HB.out | exact HB.out.drew);rintro e w4 ⟨rfl,hb4⟩;replace HX:=hid ((hb4.block _ (lt_of_block HX.out)).trans HX.out);replace HB:=hid (Below.next (by first | exact HB.out | exact HB.out.drew) hb4);clear d0 hb4;have d0:=cell_blk1 HX.out)
   | (go_at_call_of 85 (Value.int IntKind.i64 (j:Int));refine (hwj.out _ ?_).mono ?_;(first | exact HB.out | exact HB.out.drew);rintro e w4 ⟨rfl,hb4⟩;replace HX:=hid ((hb4.block _ (lt_of_block HX.out)).trans HX.out);replace HB:=hid (Below.next (by first | exact HB.out | exact HB.out.drew) hb4);clear d0 hb4;have d0:=cell_blk1 HX.out))
 all_goals go_wp2
 all_goals go_ret
 all_goals exact⟨rfl,HB.out⟩
end
end Go.Proofs.YtbfbkmkjcekpaaaGreatDoor
namespace Go.Proofs.YtbfbkmkjcekpaaaGreatDoor
set_option maxRecDepth 100000
open Go.RowKit
section
variable {w:World} {B hb ab tb:Nat} {m:Int} {av:Value} {l:List Int} {tv:Value} {tq:Nat} {ns:List ByteArray} {trv ptv:Value} {n:Int} {V:Nat->Bool} {Q:World->Prop}
set_option maxHeartbeats 4000000 in
theorem mergeq_bad (h:Hp w B hb ab tb m av l tv tq ns trv ptv n) (a b:Int) (hbd:badF l [a,b]≠[]) :
  Calls Tryz.prog 26 #[.pointer (some ⟨hb,0,none⟩),.int .i64 a,.int .i64 b] w fun e w'=>(∃ev,e=.returned ev/\Er w' ev (badF l [a,b]))/\Below w.heap.size w w':=by
 have hb1:=below_alloc w (.cells #[.int .i64 a,.int .i64 b] 3)
 have hri:=ri_lit2 (heap_alloc_new w (.cells #[.int .i64 a,.int .i64 b] 3))
 have hck:=hid (checkedC_any (h.below hb1).ar hri (by simp))
 have Hb1:=hid hb1
 obtain⟨⟨c0,c1,_,_,_⟩,c5⟩:=h.cells
 generalize badF l [a,b]=fs at *
 clear h hb1 hri
 go_enter Tryz.func26,Tryz.ntmps26
 go_wp2_with (go_at_call 41;refine hck.out.mono ?_;rintro e w3 ⟨⟨ev,rfl,hev⟩,hb3⟩;have Hev:=hid hev;have HB:=hid (Below.next Hb1.out hb3);obtain⟨fb,hfb⟩:=er_ptr hev hbd;subst hfb;clear hev hb3)
 go_ret
 exact⟨⟨_,rfl,Hev.out⟩,HB.out⟩
set_option maxHeartbeats 4000000 in
theorem mergeq_lt (h:Hp w B hb ab tb m av l tv tq ns trv ptv n) (hs:Snd l V) (a b:Nat) (ca:cellB l (a:Int)=true) (cb:cellB l (b:Int)=true) (ha:a<l.length) (hb':b<l.length) (hx3:trmW l a % 8=3) (hy3:trmW l b % 8=3) (i j:Nat) (hi:i<l.length) (hj:j<l.length) (vi:valOf (trmW l a)=(i:Int)) (vj:valOf (trmW l b)=(j:Int)) (hw:wdN l i=wdN l j) (hij:i<j) (hwr0:∀w1,Below w.heap.size w w1->Calls Tryz.prog 61 #[.pointer (some ⟨hb,0,none⟩),.int .i64 (j:Int),.int .u64 (wordOf 5 (i:Int))] w1 fun e w'=>e=.returned (.tuple #[])/\Q w') :
  Calls Tryz.prog 26 #[.pointer (some ⟨hb,0,none⟩),.int .i64 (a:Int),.int .i64 (b:Int)] w fun e w'=>e=.returned .nilIface/\Q w':=by
 have hl6:l.length<=65536:=by
  have h1:=h.ar.len
  have h2:=h.ar.m2
  omega
 obtain⟨⟨xa0,xa1⟩,ma,va⟩:=trm_may hs hl6 ha
 obtain⟨⟨xb0,xb1⟩,mb,vb⟩:=trm_may hs hl6 hb'
 have hb1:=below_alloc w (.cells #[.int .i64 (a:Int),.int .i64 (b:Int)] 3)
 have hri:=ri_lit2 (heap_alloc_new w (.cells #[.int .i64 (a:Int),.int .i64 (b:Int)] 3))
 have hck:=hid (checkedC_any (h.below hb1).ar hri (by simp))
 rw[bad2 ca cb] at hck
 have Hb1:=hid hb1
 obtain⟨⟨c0,c1,_,_,_⟩,c5⟩:=h.cells
 have hta:=hid (fun w1 (hbb:Below w.heap.size w w1)=>term_any (h.below hbb).ar hs a ha)
 have htb:=hid (fun w1 (hbb:Below w.heap.size w w1)=>term_any (h.below hbb).ar hs b hb')
 have HH:=hid h
 have dne:(trmW l a == trmW l b)=false:=by
  rw[beq_eq_false_iff_ne]
  intro e
  have vi2:=vi
  rw[e] at vi2
  omega
 have hal:=hid (fun w1 (hbb:Below w.heap.size w w1)=>alike_str (h.below hbb).ar (trmW l a) (trmW l b) xa0 xa1 xb0 xb1 hx3 hy3 i j hi hj vi vj)
 rw[hw,beq_self_eq_true] at hal
 have hva:=hid (fun w=>value_any (trmW l a) w)
 have hvb:=hid (fun w=>value_any (trmW l b) w)
 rw[vi] at hva
 rw[vj] at hvb
 have hf5:fitsB 5 (i:Int)=true:=by
  simp[fitsB]
  omega
 have hpk:=hid (fun w=>packed_ok 5 (i:Int) w hf5)
 have hwr:=hid hwr0
 have hij':(i:Int)<(j:Int):=by omega
 have hmn:min (i:Int) (j:Int)=(i:Int):=by omega
 have hmx:max (i:Int) (j:Int)=(j:Int):=by omega
 clear hwr0
 generalize wordOf 5 (i:Int)=X5 at *
 generalize trmW l a=XA at *
 generalize trmW l b=XB at *
 clear h hs ca cb ha hb' hb1 hri va vb ma mb hx3 hy3 hi hj vi vj hw hf5 hij
 generalize (i:Int)=I at *
 generalize (j:Int)=J at *
 go_enter Tryz.func26,Tryz.ntmps26
 go_wp2_with (go_at_call 41;refine hck.out.mono ?_;rintro e w3 ⟨⟨ev,rfl,hev⟩,hb3⟩;have hev1:ev=.nilIface:=hev;subst hev1;have HB:=hid (Below.next Hb1.out hb3);obtain⟨⟨d0,_⟩,d5⟩:=(HH.out.below HB.out).cells;clear hev hb3)
 go_region_held3 (fun w'=>w'.cell? ⟨hb,0,none⟩=some (.pointer (some ⟨ab,0,none⟩))) (first | exact d0 | go_keep)
  (first
   | (go_at_call_of 44 (Value.int IntKind.i64 (a:Int));refine (hta.out _ ?_).mono ?_;(first | exact HB.out | exact HB.out.drew);rintro e w4 ⟨rfl,hb4⟩;replace HB:=hid (Below.next (by first | exact HB.out | exact HB.out.drew) hb4);clear d0 d5 hb4;obtain⟨⟨d0,_⟩,d5⟩:=(HH.out.below HB.out).cells)
   | (go_at_call_of 44 (Value.int IntKind.i64 (b:Int));refine (htb.out _ ?_).mono ?_;(first | exact HB.out | exact HB.out.drew);rintro e w4 ⟨rfl,hb4⟩;replace HB:=hid (Below.next (by first | exact HB.out | exact HB.out.drew) hb4);clear d0 d5 hb4;obtain⟨⟨d0,_⟩,d5⟩:=(HH.out.below HB.out).cells))
 all_goals go_wp2_with (first
  | (go_at_call 62;refine (hal.out _ HB.out).mono ?_;rintro e w5 ⟨rfl,hb5⟩;replace HB:=hid (Below.next HB.out hb5);clear hb5 d0 d5;obtain⟨⟨d0,_⟩,d5⟩:=(HH.out.below HB.out).cells)
  | (go_at_call_of 60 (Value.int IntKind.u64 XA);refine (hva.out _).mono ?_;rintro e w6 ⟨rfl,hw⟩;replace hw:=hw.symm;subst hw)
  | (go_at_call_of 60 (Value.int IntKind.u64 XB);refine (hvb.out _).mono ?_;rintro e w6 ⟨rfl,hw⟩;replace hw:=hw.symm;subst hw)
  | (go_at_call 63;refine (hpk.out _).mono ?_;rintro e w6 ⟨rfl,hw⟩;replace hw:=hw.symm;subst hw)
  | (go_at_call 61;refine (hwr.out _ HB.out).mono ?_;rintro e w7 ⟨rfl,hq7⟩;have HQ7:=hid hq7;clear hq7))
 all_goals go_ret
 all_goals exact⟨rfl,HQ7.out⟩
set_option maxHeartbeats 4000000 in
theorem mergeq_gt (h:Hp w B hb ab tb m av l tv tq ns trv ptv n) (hs:Snd l V) (a b:Nat) (ca:cellB l (a:Int)=true) (cb:cellB l (b:Int)=true) (ha:a<l.length) (hb':b<l.length) (hx3:trmW l a % 8=3) (hy3:trmW l b % 8=3) (i j:Nat) (hi:i<l.length) (hj:j<l.length) (vi:valOf (trmW l a)=(i:Int)) (vj:valOf (trmW l b)=(j:Int)) (hw:wdN l i=wdN l j) (hij:j<i) (hwr0:∀w1,Below w.heap.size w w1->Calls Tryz.prog 61 #[.pointer (some ⟨hb,0,none⟩),.int .i64 (i:Int),.int .u64 (wordOf 5 (j:Int))] w1 fun e w'=>e=.returned (.tuple #[])/\Q w') :
  Calls Tryz.prog 26 #[.pointer (some ⟨hb,0,none⟩),.int .i64 (a:Int),.int .i64 (b:Int)] w fun e w'=>e=.returned .nilIface/\Q w':=by
 have hl6:l.length<=65536:=by
  have h1:=h.ar.len
  have h2:=h.ar.m2
  omega
 obtain⟨⟨xa0,xa1⟩,ma,va⟩:=trm_may hs hl6 ha
 obtain⟨⟨xb0,xb1⟩,mb,vb⟩:=trm_may hs hl6 hb'
 have hb1:=below_alloc w (.cells #[.int .i64 (a:Int),.int .i64 (b:Int)] 3)
 have hri:=ri_lit2 (heap_alloc_new w (.cells #[.int .i64 (a:Int),.int .i64 (b:Int)] 3))
 have hck:=hid (checkedC_any (h.below hb1).ar hri (by simp))
 rw[bad2 ca cb] at hck
 have Hb1:=hid hb1
 obtain⟨⟨c0,c1,_,_,_⟩,c5⟩:=h.cells
 have hta:=hid (fun w1 (hbb:Below w.heap.size w w1)=>term_any (h.below hbb).ar hs a ha)
 have htb:=hid (fun w1 (hbb:Below w.heap.size w w1)=>term_any (h.below hbb).ar hs b hb')
 have HH:=hid h
 have dne:(trmW l a == trmW l b)=false:=by
  rw[beq_eq_false_iff_ne]
  intro e
  have vi2:=vi
  rw[e] at vi2
  omega
 have hal:=hid (fun w1 (hbb:Below w.heap.size w w1)=>alike_str (h.below hbb).ar (trmW l a) (trmW l b) xa0 xa1 xb0 xb1 hx3 hy3 i j hi hj vi vj)
 rw[hw,beq_self_eq_true] at hal
 have hva:=hid (fun w=>value_any (trmW l a) w)
 have hvb:=hid (fun w=>value_any (trmW l b) w)
 rw[vi] at hva
 rw[vj] at hvb
 have hf5:fitsB 5 (j:Int)=true:=by
  simp[fitsB]
  omega
 have hpk:=hid (fun w=>packed_ok 5 (j:Int) w hf5)
 have hwr:=hid hwr0
 have hij':(j:Int)<(i:Int):=by omega
 have hmn:min (i:Int) (j:Int)=(j:Int):=by omega
 have hmx:max (i:Int) (j:Int)=(i:Int):=by omega
 clear hwr0
 generalize wordOf 5 (j:Int)=X5 at *
 generalize trmW l a=XA at *
 generalize trmW l b=XB at *
 clear h hs ca cb ha hb' hb1 hri va vb ma mb hx3 hy3 hi hj vi vj hw hf5 hij
 generalize (i:Int)=I at *
 generalize (j:Int)=J at *
 go_enter Tryz.func26,Tryz.ntmps26
 go_wp2_with (go_at_call 41;refine hck.out.mono ?_;rintro e w3 ⟨⟨ev,rfl,hev⟩,hb3⟩;have hev1:ev=.nilIface:=hev;subst hev1;have HB:=hid (Below.next Hb1.out hb3);obtain⟨⟨d0,_⟩,d5⟩:=(HH.out.below HB.out).cells;clear hev hb3)
 go_region_held3 (fun w'=>w'.cell? ⟨hb,0,none⟩=some (.pointer (some ⟨ab,0,none⟩))) (first | exact d0 | go_keep)
  (first
   | (go_at_call_of 44 (Value.int IntKind.i64 (a:Int));refine (hta.out _ ?_).mono ?_;(first | exact HB.out | exact HB.out.drew);rintro e w4 ⟨rfl,hb4⟩;replace HB:=hid (Below.next (by first | exact HB.out | exact HB.out.drew) hb4);clear d0 d5 hb4;obtain⟨⟨d0,_⟩,d5⟩:=(HH.out.below HB.out).cells)
   | (go_at_call_of 44 (Value.int IntKind.i64 (b:Int));refine (htb.out _ ?_).mono ?_;(first | exact HB.out | exact HB.out.drew);rintro e w4 ⟨rfl,hb4⟩;replace HB:=hid (Below.next (by first | exact HB.out | exact HB.out.drew) hb4);clear d0 d5 hb4;obtain⟨⟨d0,_⟩,d5⟩:=(HH.out.below HB.out).cells))
 all_goals go_wp2_with (first
  | (go_at_call 62;refine (hal.out _ HB.out).mono ?_;rintro e w5 ⟨rfl,hb5⟩;replace HB:=hid (Below.next HB.out hb5);clear hb5 d0 d5;obtain⟨⟨d0,_⟩,d5⟩:=(HH.out.below HB.out).cells)
  | (go_at_call_of 60 (Value.int IntKind.u64 XA);refine (hva.out _).mono ?_;rintro e w6 ⟨rfl,hw⟩;replace hw:=hw.symm;subst hw)
  | (go_at_call_of 60 (Value.int IntKind.u64 XB);refine (hvb.out _).mono ?_;rintro e w6 ⟨rfl,hw⟩;replace hw:=hw.symm;subst hw)
  | (go_at_call 63;refine (hpk.out _).mono ?_;rintro e w6 ⟨rfl,hw⟩;replace hw:=hw.symm;subst hw)
  | (go_at_call 61;refine (hwr.out _ HB.out).mono ?_;rintro e w7 ⟨rfl,hq7⟩;have HQ7:=hid hq7;clear hq7))
 all_goals go_ret
 all_goals exact⟨rfl,HQ7.out⟩
set_option maxHeartbeats 4000000 in
theorem mergeq_same (h:Hp w B hb ab tb m av l tv tq ns trv ptv n) (hs:Snd l V) (a b:Nat) (ca:cellB l (a:Int)=true) (cb:cellB l (b:Int)=true) (ha:a<l.length) (hb':b<l.length) (hx3:trmW l a % 8=3) (i:Nat) (hi:i<l.length) (vi:valOf (trmW l a)=(i:Int)) (he:trmW l a=trmW l b) :
  Calls Tryz.prog 26 #[.pointer (some ⟨hb,0,none⟩),.int .i64 (a:Int),.int .i64 (b:Int)] w fun e w'=>e=.returned .nilIface/\Below w.heap.size w w':=by
 have hl6:l.length<=65536:=by
  have h1:=h.ar.len
  have h2:=h.ar.m2
  omega
 obtain⟨⟨xa0,xa1⟩,ma,va⟩:=trm_may hs hl6 ha
 obtain⟨⟨xb0,xb1⟩,mb,vb⟩:=trm_may hs hl6 hb'
 have hb1:=below_alloc w (.cells #[.int .i64 (a:Int),.int .i64 (b:Int)] 3)
 have hri:=ri_lit2 (heap_alloc_new w (.cells #[.int .i64 (a:Int),.int .i64 (b:Int)] 3))
 have hck:=hid (checkedC_any (h.below hb1).ar hri (by simp))
 rw[bad2 ca cb] at hck
 have Hb1:=hid hb1
 obtain⟨⟨c0,c1,_,_,_⟩,c5⟩:=h.cells
 have hta:=hid (fun w1 (hbb:Below w.heap.size w w1)=>term_any (h.below hbb).ar hs a ha)
 have htb:=hid (fun w1 (hbb:Below w.heap.size w w1)=>term_any (h.below hbb).ar hs b hb')
 have HH:=hid h
 have hal:=hid (fun w1 (hbb:Below w.heap.size w w1)=>alike_str (h.below hbb).ar (trmW l a) (trmW l a) xa0 xa1 xa0 xa1 hx3 hx3 i i hi hi vi vi)
 rw[beq_self_eq_true] at hal
 rw[←he] at htb
 generalize trmW l a=XA at *
 generalize trmW l b=XB at *
 clear h hs ca cb ha hb' hb1 hri va vb ma mb hx3 hi vi he
 go_enter Tryz.func26,Tryz.ntmps26
 go_wp2_with (go_at_call 41;refine hck.out.mono ?_;rintro e w3 ⟨⟨ev,rfl,hev⟩,hb3⟩;have hev1:ev=.nilIface:=hev;subst hev1;have HB:=hid (Below.next Hb1.out hb3);obtain⟨⟨d0,_⟩,d5⟩:=(HH.out.below HB.out).cells;clear hev hb3)
 go_region_held3 (fun w'=>w'.cell? ⟨hb,0,none⟩=some (.pointer (some ⟨ab,0,none⟩))) (first | exact d0 | go_keep)
  (first
   | (go_at_call_of 44 (Value.int IntKind.i64 (a:Int));refine (hta.out _ ?_).mono ?_;(first | exact HB.out | exact HB.out.drew);rintro e w4 ⟨rfl,hb4⟩;replace HB:=hid (Below.next (by first | exact HB.out | exact HB.out.drew) hb4);clear d0 d5 hb4;obtain⟨⟨d0,_⟩,d5⟩:=(HH.out.below HB.out).cells)
   | (go_at_call_of 44 (Value.int IntKind.i64 (b:Int));refine (htb.out _ ?_).mono ?_;(first | exact HB.out | exact HB.out.drew);rintro e w4 ⟨rfl,hb4⟩;replace HB:=hid (Below.next (by first | exact HB.out | exact HB.out.drew) hb4);clear d0 d5 hb4;obtain⟨⟨d0,_⟩,d5⟩:=(HH.out.below HB.out).cells))
 all_goals go_wp2_with (first
  | (go_at_call 62;refine (hal.out _ HB.out).mono ?_;rintro e w5 ⟨rfl,hb5⟩;replace HB:=hid (Below.next HB.out hb5);clear hb5 d0 d5;obtain⟨⟨d0,_⟩,d5⟩:=(HH.out.below HB.out).cells)
  | (go_at_call 32;refine (cfault_any _ _ _).mono ?_;rintro e w6 ⟨rfl,hw⟩;subst hw))
 all_goals go_ret
 all_goals exact⟨rfl,HB.out⟩
set_option maxHeartbeats 4000000 in
theorem mergeq_no (h:Hp w B hb ab tb m av l tv tq ns trv ptv n) (hs:Snd l V) (a b:Nat) (ca:cellB l (a:Int)=true) (cb:cellB l (b:Int)=true) (ha:a<l.length) (hb':b<l.length) (hal0:∀w1,Below w.heap.size w w1->Calls Tryz.prog 62 #[blkV ab,.int .u64 (trmW l a),.int .u64 (trmW l b)] w1 fun e w'=>e=.returned (.bool false)/\Below w1.heap.size w1 w') :
  Calls Tryz.prog 26 #[.pointer (some ⟨hb,0,none⟩),.int .i64 (a:Int),.int .i64 (b:Int)] w fun e w'=>(∃fb,e=.returned (.iface 125 (.pointer (some ⟨fb,0,none⟩)))/\w'.heap[fb]?=some (faultAtObj 115 (-1)))/\Below w.heap.size w w':=by
 have hl6:l.length<=65536:=by
  have h1:=h.ar.len
  have h2:=h.ar.m2
  omega
 obtain⟨⟨xa0,xa1⟩,ma,va⟩:=trm_may hs hl6 ha
 obtain⟨⟨xb0,xb1⟩,mb,vb⟩:=trm_may hs hl6 hb'
 have hb1:=below_alloc w (.cells #[.int .i64 (a:Int),.int .i64 (b:Int)] 3)
 have hri:=ri_lit2 (heap_alloc_new w (.cells #[.int .i64 (a:Int),.int .i64 (b:Int)] 3))
 have hck:=hid (checkedC_any (h.below hb1).ar hri (by simp))
 rw[bad2 ca cb] at hck
 have Hb1:=hid hb1
 obtain⟨⟨c0,c1,_,_,_⟩,c5⟩:=h.cells
 have hta:=hid (fun w1 (hbb:Below w.heap.size w w1)=>term_any (h.below hbb).ar hs a ha)
 have htb:=hid (fun w1 (hbb:Below w.heap.size w w1)=>term_any (h.below hbb).ar hs b hb')
 have HH:=hid h
 have hal:=hid hal0
 generalize trmW l a=XA at *
 generalize trmW l b=XB at *
 clear h hs ca cb ha hb' hb1 hri va vb ma mb hal0
 go_enter Tryz.func26,Tryz.ntmps26
 go_wp2_with (go_at_call 41;refine hck.out.mono ?_;rintro e w3 ⟨⟨ev,rfl,hev⟩,hb3⟩;have hev1:ev=.nilIface:=hev;subst hev1;have HB:=hid (Below.next Hb1.out hb3);obtain⟨⟨d0,_⟩,d5⟩:=(HH.out.below HB.out).cells;clear hev hb3)
 go_region_held3 (fun w'=>w'.cell? ⟨hb,0,none⟩=some (.pointer (some ⟨ab,0,none⟩))) (first | exact d0 | go_keep)
  (first
   | (go_at_call_of 44 (Value.int IntKind.i64 (a:Int));refine (hta.out _ ?_).mono ?_;(first | exact HB.out | exact HB.out.drew);rintro e w4 ⟨rfl,hb4⟩;replace HB:=hid (Below.next (by first | exact HB.out | exact HB.out.drew) hb4);clear d0 d5 hb4;obtain⟨⟨d0,_⟩,d5⟩:=(HH.out.below HB.out).cells)
   | (go_at_call_of 44 (Value.int IntKind.i64 (b:Int));refine (htb.out _ ?_).mono ?_;(first | exact HB.out | exact HB.out.drew);rintro e w4 ⟨rfl,hb4⟩;replace HB:=hid (Below.next (by first | exact HB.out | exact HB.out.drew) hb4);clear d0 d5 hb4;obtain⟨⟨d0,_⟩,d5⟩:=(HH.out.below HB.out).cells))
 all_goals go_wp2_with (first
  | (go_at_call 62;refine (hal.out _ HB.out).mono ?_;rintro e w5 ⟨rfl,hb5⟩;replace HB:=hid (Below.next HB.out hb5);clear hb5 d0 d5;obtain⟨⟨d0,_⟩,d5⟩:=(HH.out.below HB.out).cells)
  | (go_at_call 32;refine (cfault_any _ _ _).mono ?_;rintro e w6 ⟨rfl,hw⟩;subst hw))
 all_goals go_ret
 all_goals exact⟨⟨_,rfl,heap_alloc_new _ _⟩,HB.out.alloc HB.out.size _⟩
end
end Go.Proofs.YtbfbkmkjcekpaaaGreatDoor
namespace Go.Proofs.YtbfbkmkjcekpaaaGreatDoor
set_option maxRecDepth 100000
open Go.RowKit
theorem trm_kinds {l:List Int} {V:Nat->Bool} {N:Nat} (h:Snd l V) (hn:NsB l N) (hl:l.length<=65536) {k:Nat} (hk:k<l.length):((0<=trmW l k/\trmW l k<=18446744073709551615)/\goodB (trmW l k)=true)/\
  ((trmW l k % 8=0/\∃j:Nat,j<l.length/\valOf (trmW l k)=(j:Int)/\V j=true)∨(trmW l k % 8=3/\∃j:Nat,j<l.length/\valOf (trmW l k)=(j:Int)/\tgN l j=4)∨(trmW l k % 8=1/\(valOf (trmW l k)).toNat<N)∨trmW l k % 8=2):=by
 obtain⟨j,hj,e,e2⟩:=trm_ends h _ k hk (Nat.le_refl _)
 rw[e2]
 have hg:=h.good j hj
 have hr:=h.rng (wdN l j) (by unfold wdN;simp[List.getD,hj])
 unfold endW
 by_cases h4:tgN l j=4
 ·rw[if_pos h4]
  obtain⟨s1,s2,s3,s4⟩:=word_str (j:=j) (by omega)
  refine⟨⟨⟨s3,s4⟩,?_⟩,Or.inr (Or.inl ⟨s1,j,hj,s2,h4⟩)⟩
  unfold goodB
  rw[s1,s2]
  exact fits_str (by omega)
 ·rw[if_neg h4]
  have htc:=tag_cases hg
  have ht:wdN l j % 8=tgN l j:=rfl
  have hne:¬(tgN l j=3∨tgN l j=5):=fun h3=>by
   unfold nxN at e
   rw[if_neg (by omega),if_pos h3] at e
   cases e
  refine⟨⟨hr,hg⟩,?_⟩
  by_cases h0:tgN l j=0
  ·have hself:vlN l j=j:=by
    unfold nxN at e
    rw[if_pos h0] at e
    by_cases hs:vlN l j=j
    ·exact hs
    ·rw[if_neg hs] at e
     cases e
   have hv:=val_place hg (Or.inl (ht ▸ h0))
   have hV:=(h.ref j hj h0).2.1
   rw[hself] at hV
   unfold vlN at hself
   exact Or.inl ⟨ht ▸ h0,j,hj,by omega,hV⟩
  ·by_cases h1:tgN l j=1
   ·exact Or.inr (Or.inr (Or.inl ⟨ht ▸ h1,hn.atom j hj h1⟩))
   ·exact Or.inr (Or.inr (Or.inr (by omega)))
theorem nsb_set {l:List Int} {N:Nat} (hn:NsB l N) {j:Nat} {x:Int} (hj:j<l.length) (h1:x % 8=1->(valOf x).toNat<N) (h4:x % 8≠4):NsB (l.set j x) N:=by
 refine⟨fun k hk ht=>?_,fun k hk ht=>?_⟩
 ·rw[List.length_set] at hk
  by_cases e:k=j
  ·subst e
   rw[(tg_new hj).1] at ht
   rw[(tg_new hj).2]
   exact h1 ht
  ·rw[(tg_set hj e).1] at ht
   rw[(tg_set hj e).2]
   exact hn.atom k hk ht
 ·rw[List.length_set] at hk
  by_cases e:k=j
  ·subst e
   rw[(tg_new hj).1] at ht
   exact absurd ht h4
  ·rw[(tg_set hj e).1] at ht
   rw[wd_set hj,if_neg e]
   exact hn.func k hk ht
theorem bind_sndn {l:List Int} {N:Nat} (h:SndN l N) (hl:l.length<=65536) {a b:Nat} (ha:a<l.length) (hb:b<l.length) (hv:trmW l a % 8=0) (hle:trmW l b % 8=0->valOf (trmW l b)<=valOf (trmW l a)):(valOf (trmW l a)).toNat<l.length/\SndN (l.set (valOf (trmW l a)).toNat (trmW l b)) N:=by
 obtain⟨⟨V,hV⟩,hn⟩:=h
 obtain⟨_,ka⟩:=trm_kinds hV hn hl ha
 obtain⟨⟨rb,gb⟩,kb⟩:=trm_kinds hV hn hl hb
 obtain⟨j,hj,vj,Vj⟩:∃j:Nat,j<l.length/\valOf (trmW l a)=(j:Int)/\V j=true:=by
  rcases ka with⟨_,h⟩ | ⟨e,_⟩ | ⟨e,_⟩ | e
  ·exact h
  ·omega
  ·omega
  ·omega
 rw[vj,Int.toNat_natCast]
 rw[vj] at hle
 refine⟨hj,⟨V,snd_bind hV hj Vj rb gb (by rcases kb with⟨e,_⟩ | ⟨e,_⟩ | ⟨e,_⟩ | e <;> omega) (fun e=>?_) (fun e=>?_)⟩,nsb_set hn hj (fun e=>?_) (by rcases kb with⟨e,_⟩ | ⟨e,_⟩ | ⟨e,_⟩ | e <;> omega)⟩
 ·rcases kb with⟨_,i,hi,vi,Vi⟩ | ⟨e',_⟩ | ⟨e',_⟩ | e'
  ·have:=hle e
   rw[vi] at this
   rw[vi,Int.toNat_natCast]
   exact⟨by omega,Vi⟩
  all_goals omega
 ·rcases kb with⟨e',_⟩ | ⟨_,i,hi,vi,ti⟩ | ⟨e',_⟩ | e'
  ·omega
  ·rw[vi,Int.toNat_natCast]
   exact⟨hi,Or.inl ti⟩
  all_goals omega
 ·rcases kb with⟨e',_⟩ | ⟨e',_⟩ | ⟨_,h⟩ | e'
  ·omega
  ·omega
  ·exact h
  ·omega
theorem merge_sndn {l:List Int} {N:Nat} (h:SndN l N) (hl:l.length<=65536) {i j:Nat} (hj:j<l.length) (hij:i<j) (ti:tgN l i=4) (tj:tgN l j=4):SndN (l.set j (wordOf 5 (i:Int))) N:=by
 obtain⟨⟨V,hV⟩,hn⟩:=h
 have hf:fitsB 5 (i:Int)=true:=by
  simp[fitsB]
  omega
 have ht:wordOf 5 (i:Int) % 8=5:=wordOf_tag 5 (i:Int) (by omega) (by omega)
 have hv:valOf (wordOf 5 (i:Int))=(i:Int):=wordOf_val 5 (i:Int) hf
 have hg:goodB (wordOf 5 (i:Int))=true:=by
  unfold goodB
  rw[ht,hv]
  exact hf
 exact⟨⟨V,snd_fwd hV hj (Or.inl tj) hij (Or.inl ti) (wordOf_bd 5 (i:Int)) hg ht hv⟩,nsb_set hn hj (by omega) (by omega)⟩
end Go.Proofs.YtbfbkmkjcekpaaaGreatDoor

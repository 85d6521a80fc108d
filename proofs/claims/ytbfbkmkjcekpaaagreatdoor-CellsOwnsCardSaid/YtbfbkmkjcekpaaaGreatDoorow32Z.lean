/- Package cells: Bind at any two places, over whatever a write leaves. -/
import Derived.Deep.RegionHeld3
import Derived.Test.YtbfbkmkjcekpaaaGreatDoorow27Z
namespace Go.Proofs.YtbfbkmkjcekpaaaGreatDoor
set_option maxRecDepth 100000
open Go.RowKit
theorem er_ptr {w:World} {ev:Value} {fs:Fs} (h:Er w ev fs) (h0:fs≠[]):∃fb,ev=.iface 125 (.pointer (some ⟨fb,0,none⟩)):=by
 cases fs with
 | nil=>exact absurd rfl h0
 | cons x r=>
  obtain⟨_,b,_,e,_⟩:=h
  exact⟨b,e⟩
section
variable {w:World} {B hb ab tb:Nat} {m:Int} {av:Value} {l:List Int} {tv:Value} {tq:Nat} {ns:List ByteArray} {trv ptv:Value} {n:Int} {V:Nat->Bool} {Q:World->Prop}
set_option maxHeartbeats 4000000 in
theorem bindq_bad (h:Hp w B hb ab tb m av l tv tq ns trv ptv n) (a b:Int) (hbd:badF l [a,b]≠[]) :
  Calls Tryz.prog 25 #[.pointer (some ⟨hb,0,none⟩),.int .i64 a,.int .i64 b] w fun e w'=>(∃ev,e=.returned ev/\Er w' ev (badF l [a,b]))/\Below w.heap.size w w':=by
 have hb1:=below_alloc w (.cells #[.int .i64 a,.int .i64 b] 3)
 have hri:=ri_lit2 (heap_alloc_new w (.cells #[.int .i64 a,.int .i64 b] 3))
 have hck:=hid (checkedC_any (h.below hb1).ar hri (by simp))
 have Hb1:=hid hb1
 obtain⟨⟨c0,c1,_,_,_⟩,c5⟩:=h.cells
 generalize badF l [a,b]=fs at *
 clear h hb1 hri
 go_enter Tryz.func25,Tryz.ntmps25
 go_wp2_with (go_at_call 41;refine hck.out.mono ?_;rintro e w3 ⟨⟨ev,rfl,hev⟩,hb3⟩;have Hev:=hid hev;have HB:=hid (Below.next Hb1.out hb3);obtain⟨fb,hfb⟩:=er_ptr hev hbd;subst hfb;clear hev hb3)
 go_ret
 exact⟨⟨_,rfl,Hev.out⟩,HB.out⟩
set_option maxHeartbeats 4000000 in
theorem bindq_bound (h:Hp w B hb ab tb m av l tv tq ns trv ptv n) (hs:Snd l V) (a b:Nat) (ca:cellB l (a:Int)=true) (cb:cellB l (b:Int)=true) (ha:a<l.length) (hb':b<l.length) (hne:trmW l a % 8≠0) :
  Calls Tryz.prog 25 #[.pointer (some ⟨hb,0,none⟩),.int .i64 (a:Int),.int .i64 (b:Int)] w fun e w'=>(∃fb,e=.returned (.iface 125 (.pointer (some ⟨fb,0,none⟩)))/\w'.heap[fb]?=some (faultAtObj 114 0))/\Below w.heap.size w w':=by
 have hl6:l.length<=65536:=by
  have h1:=h.ar.len
  have h2:=h.ar.m2
  omega
 obtain⟨⟨xa0,xa1⟩,ma,va⟩:=trm_may hs hl6 ha
 obtain⟨⟨xb0,xb1⟩,mb,vb⟩:=trm_may hs hl6 hb'
 have hb1:=below_alloc w (.cells #[.int .i64 (a:Int),.int .i64 (b:Int)] 3)
 have hri:=ri_lit2 (heap_alloc_new w (.cells #[.int .i64 (a:Int),.int .i64 (b:Int)] 3))
 have hck:=hid (checkedC_any (h.below hb1).ar hri (by simp))
 rw[bad2 ca cb] at hck
 have Hb1:=hid hb1
 obtain⟨⟨c0,c1,_,_,_⟩,c5⟩:=h.cells
 have hta:=hid (fun w1 (hbb:Below w.heap.size w w1)=>term_any (h.below hbb).ar hs a ha)
 have htb:=hid (fun w1 (hbb:Below w.heap.size w w1)=>term_any (h.below hbb).ar hs b hb')
 have HH:=hid h
 have htg:=hid (fun w=>tag_any (trmW l a) w xa0 xa1)
 have d9:(trmW l a % 8 != 0)=true:=by simpa using hne
 generalize trmW l a=XA at *
 generalize trmW l b=XB at *
 generalize XA % 8=tA at *
 clear h hs ca cb ha hb' hb1 hri va vb ma mb hne
 go_enter Tryz.func25,Tryz.ntmps25
 go_wp2_with (go_at_call 41;refine hck.out.mono ?_;rintro e w3 ⟨⟨ev,rfl,hev⟩,hb3⟩;have hev1:ev=.nilIface:=hev;subst hev1;have HB:=hid (Below.next Hb1.out hb3);obtain⟨⟨d0,_⟩,d5⟩:=(HH.out.below HB.out).cells;clear hev hb3)
 go_region_held3 (fun w'=>w'.cell? ⟨hb,0,none⟩=some (.pointer (some ⟨ab,0,none⟩))) (first | exact d0 | go_keep)
  (first
   | (go_at_call_of 44 (Value.int IntKind.i64 (a:Int));refine (hta.out _ ?_).mono ?_;(first | exact HB.out | exact HB.out.drew);rintro e w4 ⟨rfl,hb4⟩;replace HB:=hid (Below.next (by first | exact HB.out | exact HB.out.drew) hb4);clear d0 d5 hb4;obtain⟨⟨d0,_⟩,d5⟩:=(HH.out.below HB.out).cells)
   | (go_at_call_of 44 (Value.int IntKind.i64 (b:Int));refine (htb.out _ ?_).mono ?_;(first | exact HB.out | exact HB.out.drew);rintro e w4 ⟨rfl,hb4⟩;replace HB:=hid (Below.next (by first | exact HB.out | exact HB.out.drew) hb4);clear d0 d5 hb4;obtain⟨⟨d0,_⟩,d5⟩:=(HH.out.below HB.out).cells))
 all_goals go_wp2_with (first
  | (go_at_call 59;refine (htg.out _).mono ?_;rintro e w6 ⟨rfl,hw⟩;replace hw:=hw.symm;subst hw)
  | (go_at_call 32;refine (cfault_any _ _ _).mono ?_;rintro e w6 ⟨rfl,hw⟩;subst hw))
 all_goals go_ret
 all_goals exact⟨⟨_,rfl,heap_alloc_new _ _⟩,HB.out.alloc HB.out.size _⟩
set_option maxHeartbeats 4000000 in
theorem bindq_same (h:Hp w B hb ab tb m av l tv tq ns trv ptv n) (hs:Snd l V) (a b:Nat) (ca:cellB l (a:Int)=true) (cb:cellB l (b:Int)=true) (ha:a<l.length) (hb':b<l.length) (hv:trmW l a % 8=0) (he:trmW l a=trmW l b) :
  Calls Tryz.prog 25 #[.pointer (some ⟨hb,0,none⟩),.int .i64 (a:Int),.int .i64 (b:Int)] w fun e w'=>e=.returned .nilIface/\Below w.heap.size w w':=by
 have hl6:l.length<=65536:=by
  have h1:=h.ar.len
  have h2:=h.ar.m2
  omega
 obtain⟨⟨xa0,xa1⟩,ma,va⟩:=trm_may hs hl6 ha
 obtain⟨⟨xb0,xb1⟩,mb,vb⟩:=trm_may hs hl6 hb'
 have hb1:=below_alloc w (.cells #[.int .i64 (a:Int),.int .i64 (b:Int)] 3)
 have hri:=ri_lit2 (heap_alloc_new w (.cells #[.int .i64 (a:Int),.int .i64 (b:Int)] 3))
 have hck:=hid (checkedC_any (h.below hb1).ar hri (by simp))
 rw[bad2 ca cb] at hck
 have Hb1:=hid hb1
 obtain⟨⟨c0,c1,_,_,_⟩,c5⟩:=h.cells
 have hta:=hid (fun w1 (hbb:Below w.heap.size w w1)=>term_any (h.below hbb).ar hs a ha)
 have htb:=hid (fun w1 (hbb:Below w.heap.size w w1)=>term_any (h.below hbb).ar hs b hb')
 have HH:=hid h
 have htg:=hid (fun w=>tag_any (trmW l a) w xa0 xa1)
 rw[hv] at htg
 rw[←he] at htb
 generalize trmW l a=XA at *
 generalize trmW l b=XB at *
 clear h hs ca cb ha hb' hb1 hri va vb ma mb hv he
 go_enter Tryz.func25,Tryz.ntmps25
 go_wp2_with (go_at_call 41;refine hck.out.mono ?_;rintro e w3 ⟨⟨ev,rfl,hev⟩,hb3⟩;have hev1:ev=.nilIface:=hev;subst hev1;have HB:=hid (Below.next Hb1.out hb3);obtain⟨⟨d0,_⟩,d5⟩:=(HH.out.below HB.out).cells;clear hev hb3)
 go_region_held3 (fun w'=>w'.cell? ⟨hb,0,none⟩=some (.pointer (some ⟨ab,0,none⟩))) (first | exact d0 | go_keep)
  (first
   | (go_at_call_of 44 (Value.int IntKind.i64 (a:Int));refine (hta.out _ ?_).mono ?_;(first | exact HB.out | exact HB.out.drew);rintro e w4 ⟨rfl,hb4⟩;replace HB:=hid (Below.next (by first | exact HB.out | exact HB.out.drew) hb4);clear d0 d5 hb4;obtain⟨⟨d0,_⟩,d5⟩:=(HH.out.below HB.out).cells)
   | (go_at_call_of 44 (Value.int IntKind.i64 (b:Int));refine (htb.out _ ?_).mono ?_;(first | exact HB.out | exact HB.out.drew);rintro e w4 ⟨rfl,hb4⟩;replace HB:=hid (Below.next (by first | exact HB.out | exact HB.out.drew) hb4);clear d0 d5 hb4;obtain⟨⟨d0,_⟩,d5⟩:=(HH.out.below HB.out).cells))
 all_goals go_wp2_with (go_at_call 59;refine (htg.out _).mono ?_;rintro e w6 ⟨rfl,hw⟩;replace hw:=hw.symm;subst hw)
 all_goals go_ret
 all_goals exact⟨rfl,HB.out⟩
set_option maxHeartbeats 4000000 in
theorem bindq_left (h:Hp w B hb ab tb m av l tv tq ns trv ptv n) (hs:Snd l V) (a b:Nat) (ca:cellB l (a:Int)=true) (cb:cellB l (b:Int)=true) (ha:a<l.length) (hb':b<l.length) (hv:trmW l a % 8=0) (hne:trmW l a≠trmW l b) (hsw:¬(trmW l b % 8=0/\valOf (trmW l a)<valOf (trmW l b))) (hwr0:∀w1,Below w.heap.size w w1->Calls Tryz.prog 61 #[.pointer (some ⟨hb,0,none⟩),.int .i64 ((valOf (trmW l a)).toNat:Int),.int .u64 (trmW l b)] w1 fun e w'=>e=.returned (.tuple #[])/\Q w') :
  Calls Tryz.prog 25 #[.pointer (some ⟨hb,0,none⟩),.int .i64 (a:Int),.int .i64 (b:Int)] w fun e w'=>e=.returned .nilIface/\Q w':=by
 have hl6:l.length<=65536:=by
  have h1:=h.ar.len
  have h2:=h.ar.m2
  omega
 obtain⟨⟨xa0,xa1⟩,ma,va⟩:=trm_may hs hl6 ha
 obtain⟨⟨xb0,xb1⟩,mb,vb⟩:=trm_may hs hl6 hb'
 have hb1:=below_alloc w (.cells #[.int .i64 (a:Int),.int .i64 (b:Int)] 3)
 have hri:=ri_lit2 (heap_alloc_new w (.cells #[.int .i64 (a:Int),.int .i64 (b:Int)] 3))
 have hck:=hid (checkedC_any (h.below hb1).ar hri (by simp))
 rw[bad2 ca cb] at hck
 have Hb1:=hid hb1
 obtain⟨⟨c0,c1,_,_,_⟩,c5⟩:=h.cells
 have hta:=hid (fun w1 (hbb:Below w.heap.size w w1)=>term_any (h.below hbb).ar hs a ha)
 have htb:=hid (fun w1 (hbb:Below w.heap.size w w1)=>term_any (h.below hbb).ar hs b hb')
 have HH:=hid h
 have htg:=hid (fun w=>tag_any (trmW l a) w xa0 xa1)
 have htg2:=hid (fun w=>tag_any (trmW l b) w xb0 xb1)
 rw[hv] at htg
 obtain⟨j,hj,hjj,vj⟩:=va hv
 clear hjj
 have hvl:=hid (fun w=>value_any (trmW l a) w)
 rw[vj] at hvl
 have dne:(trmW l a == trmW l b)=false:=by simpa using hne
 have hwr:=hid hwr0
 rw[show (valOf (trmW l a)).toNat=j by rw[vj,Int.toNat_natCast]] at hwr
 have hvl2:=hid (fun w=>value_any (trmW l b) w)
 rw[vj] at hsw
 have dsw:trmW l b % 8=0/\decide ((j:Int)<valOf (trmW l b))=false∨(trmW l b % 8 == 0)=false:=by
  by_cases h0:trmW l b % 8=0
  ·exact Or.inl ⟨h0,decide_eq_false (fun h1=>hsw ⟨h0,h1⟩)⟩
  ·exact Or.inr (by simpa using h0)
 clear hwr0
 generalize trmW l a=XA at *
 generalize trmW l b=XB at *
 generalize valOf XB=vB at *
 generalize XB % 8=tB at *
 clear h hs ca cb ha hb' hb1 hri va vb ma mb hv hne hj vj hsw
 rcases dsw with⟨rfl,dsw⟩ | dsw
 ·go_enter Tryz.func25,Tryz.ntmps25
  go_wp2_with (go_at_call 41;refine hck.out.mono ?_;rintro e w3 ⟨⟨ev,rfl,hev⟩,hb3⟩;have hev1:ev=.nilIface:=hev;subst hev1;have HB:=hid (Below.next Hb1.out hb3);obtain⟨⟨d0,_⟩,d5⟩:=(HH.out.below HB.out).cells;clear hev hb3)
  go_region_held3 (fun w'=>w'.cell? ⟨hb,0,none⟩=some (.pointer (some ⟨ab,0,none⟩))) (first | exact d0 | go_keep)
   (first
    | (go_at_call_of 44 (Value.int IntKind.i64 (a:Int));refine (hta.out _ ?_).mono ?_;(first | exact HB.out | exact HB.out.drew);rintro e w4 ⟨rfl,hb4⟩;replace HB:=hid (Below.next (by first | exact HB.out | exact HB.out.drew) hb4);clear d0 d5 hb4;obtain⟨⟨d0,_⟩,d5⟩:=(HH.out.below HB.out).cells)
    | (go_at_call_of 44 (Value.int IntKind.i64 (b:Int));refine (htb.out _ ?_).mono ?_;(first | exact HB.out | exact HB.out.drew);rintro e w4 ⟨rfl,hb4⟩;replace HB:=hid (Below.next (by first | exact HB.out | exact HB.out.drew) hb4);clear d0 d5 hb4;obtain⟨⟨d0,_⟩,d5⟩:=(HH.out.below HB.out).cells))
  all_goals go_wp2_with (first
   | (go_at_call_of 59 (Value.int IntKind.u64 XA);refine (htg.out _).mono ?_;rintro e w6 ⟨rfl,hw⟩;replace hw:=hw.symm;subst hw)
   | (go_at_call_of 59 (Value.int IntKind.u64 XB);refine (htg2.out _).mono ?_;rintro e w6 ⟨rfl,hw⟩;replace hw:=hw.symm;subst hw)
   | (go_at_call_of 60 (Value.int IntKind.u64 XA);refine (hvl.out _).mono ?_;rintro e w6 ⟨rfl,hw⟩;replace hw:=hw.symm;subst hw)
   | (go_at_call_of 60 (Value.int IntKind.u64 XB);refine (hvl2.out _).mono ?_;rintro e w6 ⟨rfl,hw⟩;replace hw:=hw.symm;subst hw)
   | (go_at_call 61;refine (hwr.out _ HB.out).mono ?_;rintro e w7 ⟨rfl,hq7⟩;have HQ7:=hid hq7;clear hq7))
  all_goals go_ret
  all_goals exact⟨rfl,HQ7.out⟩
 ·go_enter Tryz.func25,Tryz.ntmps25
  go_wp2_with (go_at_call 41;refine hck.out.mono ?_;rintro e w3 ⟨⟨ev,rfl,hev⟩,hb3⟩;have hev1:ev=.nilIface:=hev;subst hev1;have HB:=hid (Below.next Hb1.out hb3);obtain⟨⟨d0,_⟩,d5⟩:=(HH.out.below HB.out).cells;clear hev hb3)
  go_region_held3 (fun w'=>w'.cell? ⟨hb,0,none⟩=some (.pointer (some ⟨ab,0,none⟩))) (first | exact d0 | go_keep)
   (first
    | (go_at_call_of 44 (Value.int IntKind.i64 (a:Int));refine (hta.out _ ?_).mono ?_;(first | exact HB.out | exact HB.out.drew);rintro e w4 ⟨rfl,hb4⟩;replace HB:=hid (Below.next (by first | exact HB.out | exact HB.out.drew) hb4);clear d0 d5 hb4;obtain⟨⟨d0,_⟩,d5⟩:=(HH.out.below HB.out).cells)
    | (go_at_call_of 44 (Value.int IntKind.i64 (b:Int));refine (htb.out _ ?_).mono ?_;(first | exact HB.out | exact HB.out.drew);rintro e w4 ⟨rfl,hb4⟩;replace HB:=hid (Below.next (by first | exact HB.out | exact HB.out.drew) hb4);clear d0 d5 hb4;obtain⟨⟨d0,_⟩,d5⟩:=(HH.out.below HB.out).cells))
  all_goals go_wp2_with (first
   | (go_at_call_of 59 (Value.int IntKind.u64 XA);refine (htg.out _).mono ?_;rintro e w6 ⟨rfl,hw⟩;replace hw:=hw.symm;subst hw)
   | (go_at_call_of 59 (Value.int IntKind.u64 XB);refine (htg2.out _).mono ?_;rintro e w6 ⟨rfl,hw⟩;replace hw:=hw.symm;subst hw)
   | (go_at_call_of 60 (Value.int IntKind.u64 XA);refine (hvl.out _).mono ?_;rintro e w6 ⟨rfl,hw⟩;replace hw:=hw.symm;subst hw)
   | (go_at_call_of 60 (Value.int IntKind.u64 XB);refine (hvl2.out _).mono ?_;rintro e w6 ⟨rfl,hw⟩;replace hw:=hw.symm;subst hw)
   | (go_at_call 61;refine (hwr.out _ HB.out).mono ?_;rintro e w7 ⟨rfl,hq7⟩;have HQ7:=hid hq7;clear hq7))
  all_goals go_ret
  all_goals exact⟨rfl,HQ7.out⟩
set_option maxHeartbeats 4000000 in
theorem bindq_swap (h:Hp w B hb ab tb m av l tv tq ns trv ptv n) (hs:Snd l V) (a b:Nat) (ca:cellB l (a:Int)=true) (cb:cellB l (b:Int)=true) (ha:a<l.length) (hb':b<l.length) (hv:trmW l a % 8=0) (hne:trmW l a≠trmW l b) (hv2:trmW l b % 8=0) (hsw:valOf (trmW l a)<valOf (trmW l b)) (hwr0:∀w1,Below w.heap.size w w1->Calls Tryz.prog 61 #[.pointer (some ⟨hb,0,none⟩),.int .i64 ((valOf (trmW l b)).toNat:Int),.int .u64 (trmW l a)] w1 fun e w'=>e=.returned (.tuple #[])/\Q w') :
  Calls Tryz.prog 25 #[.pointer (some ⟨hb,0,none⟩),.int .i64 (a:Int),.int .i64 (b:Int)] w fun e w'=>e=.returned .nilIface/\Q w':=by
 have hl6:l.length<=65536:=by
  have h1:=h.ar.len
  have h2:=h.ar.m2
  omega
 obtain⟨⟨xa0,xa1⟩,ma,va⟩:=trm_may hs hl6 ha
 obtain⟨⟨xb0,xb1⟩,mb,vb⟩:=trm_may hs hl6 hb'
 have hb1:=below_alloc w (.cells #[.int .i64 (a:Int),.int .i64 (b:Int)] 3)
 have hri:=ri_lit2 (heap_alloc_new w (.cells #[.int .i64 (a:Int),.int .i64 (b:Int)] 3))
 have hck:=hid (checkedC_any (h.below hb1).ar hri (by simp))
 rw[bad2 ca cb] at hck
 have Hb1:=hid hb1
 obtain⟨⟨c0,c1,_,_,_⟩,c5⟩:=h.cells
 have hta:=hid (fun w1 (hbb:Below w.heap.size w w1)=>term_any (h.below hbb).ar hs a ha)
 have htb:=hid (fun w1 (hbb:Below w.heap.size w w1)=>term_any (h.below hbb).ar hs b hb')
 have HH:=hid h
 have htg:=hid (fun w=>tag_any (trmW l a) w xa0 xa1)
 have htg2:=hid (fun w=>tag_any (trmW l b) w xb0 xb1)
 rw[hv] at htg
 obtain⟨j,hj,hjj,vj⟩:=va hv
 clear hjj
 have hvl:=hid (fun w=>value_any (trmW l a) w)
 rw[vj] at hvl
 have dne:(trmW l a == trmW l b)=false:=by simpa using hne
 obtain⟨j2,hj2,hjj2,vj2⟩:=vb hv2
 clear hjj2
 have hwr:=hid hwr0
 rw[show (valOf (trmW l b)).toNat=j2 by rw[vj2,Int.toNat_natCast]] at hwr
 have hvl2:=hid (fun w=>value_any (trmW l b) w)
 rw[vj2] at hvl2
 rw[hv2] at htg2
 rw[vj,vj2] at hsw
 have dsw:decide ((j:Int)<(j2:Int))=true:=decide_eq_true hsw
 clear hwr0
 generalize trmW l a=XA at *
 generalize trmW l b=XB at *
 clear h hs ca cb ha hb' hb1 hri va vb ma mb hv hne hj vj hv2 hj2 vj2
 go_enter Tryz.func25,Tryz.ntmps25
 go_wp2_with (go_at_call 41;refine hck.out.mono ?_;rintro e w3 ⟨⟨ev,rfl,hev⟩,hb3⟩;have hev1:ev=.nilIface:=hev;subst hev1;have HB:=hid (Below.next Hb1.out hb3);obtain⟨⟨d0,_⟩,d5⟩:=(HH.out.below HB.out).cells;clear hev hb3)
 go_region_held3 (fun w'=>w'.cell? ⟨hb,0,none⟩=some (.pointer (some ⟨ab,0,none⟩))) (first | exact d0 | go_keep)
  (first
   | (go_at_call_of 44 (Value.int IntKind.i64 (a:Int));refine (hta.out _ ?_).mono ?_;(first | exact HB.out | exact HB.out.drew);rintro e w4 ⟨rfl,hb4⟩;replace HB:=hid (Below.next (by first | exact HB.out | exact HB.out.drew) hb4);clear d0 d5 hb4;obtain⟨⟨d0,_⟩,d5⟩:=(HH.out.below HB.out).cells)
   | (go_at_call_of 44 (Value.int IntKind.i64 (b:Int));refine (htb.out _ ?_).mono ?_;(first | exact HB.out | exact HB.out.drew);rintro e w4 ⟨rfl,hb4⟩;replace HB:=hid (Below.next (by first | exact HB.out | exact HB.out.drew) hb4);clear d0 d5 hb4;obtain⟨⟨d0,_⟩,d5⟩:=(HH.out.below HB.out).cells))
 all_goals go_wp2_with (first
  | (go_at_call_of 59 (Value.int IntKind.u64 XA);refine (htg.out _).mono ?_;rintro e w6 ⟨rfl,hw⟩;replace hw:=hw.symm;subst hw)
  | (go_at_call_of 59 (Value.int IntKind.u64 XB);refine (htg2.out _).mono ?_;rintro e w6 ⟨rfl,hw⟩;replace hw:=hw.symm;subst hw)
  | (go_at_call_of 60 (Value.int IntKind.u64 XA);refine (hvl.out _).mono ?_;rintro e w6 ⟨rfl,hw⟩;replace hw:=hw.symm;subst hw)
  | (go_at_call_of 60 (Value.int IntKind.u64 XB);refine (hvl2.out _).mono ?_;rintro e w6 ⟨rfl,hw⟩;replace hw:=hw.symm;subst hw)
  | (go_at_call 61;refine (hwr.out _ HB.out).mono ?_;rintro e w7 ⟨rfl,hq7⟩;have HQ7:=hid hq7;clear hq7))
 all_goals go_ret
 all_goals exact⟨rfl,HQ7.out⟩
end
end Go.Proofs.YtbfbkmkjcekpaaaGreatDoor

/- Package cells: Bind at any two places, over whatever a write leaves. -/
import Derived.Deep.RegionHeld3
import Derived.Test.YtpkojcfdkkjmcaaGreatDoorso24Z
namespace Go.Proofs.YtpkojcfdkkjmcaaGreatDoor
set_option maxRecDepth 100000
open Go.RowKit
section
variable {w:World} {B hb ab tb:Nat} {m:Int} {av:Value} {l:List Int} {tv:Value} {tq:Nat} {ns:List ByteArray} {trv ptv:Value} {n:Int} {V:Nat->Bool} {Q:World->Prop}
set_option maxHeartbeats 4000000 in
theorem bindq_bound (h:Hp w B hb ab tb m av l tv tq ns trv ptv n) (hs:Snd l V) (a b:Nat) (ca:cellB l (a:Int)=true) (cb:cellB l (b:Int)=true) (ha:a<l.length) (hb':b<l.length) (hne:trmW l a % 8≠0) :
  Calls Tryz.prog 157 #[.pointer (some ⟨hb,0,none⟩),.int .i64 (a:Int),.int .i64 (b:Int)] w fun e w'=>(∃fb,e=.returned (.iface 130 (.pointer (some ⟨fb,0,none⟩)))/\w'.heap[fb]?=some (faultAtObj 114 0))/\Below w.heap.size w w':=by
 have hl6:l.length<=65536:=by
  have h1:=h.ar.len
  have h2:=h.ar.m2
  omega
 obtain⟨⟨xa0,xa1⟩,ma,va⟩:=trm_may hs hl6 ha
 obtain⟨⟨xb0,xb1⟩,mb,vb⟩:=trm_may hs hl6 hb'
 have hb1:=below_alloc w (.cells #[.int .i64 (a:Int),.int .i64 (b:Int)] 3)
 have hri:=ri_lit2 (heap_alloc_new w (.cells #[.int .i64 (a:Int),.int .i64 (b:Int)] 3))
 have hck:=hid (checkedC_any (h.below hb1).ar hri (by simp))
 rw[bad2 ca cb] at hck
 have Hb1:=hid hb1
 obtain⟨⟨c0,c1,_,_,_⟩,c5⟩:=h.cells
 have hta:=hid (fun w1 (hbb:Below w.heap.size w w1)=>term_any (h.below hbb).ar hs a ha)
 have htb:=hid (fun w1 (hbb:Below w.heap.size w w1)=>term_any (h.below hbb).ar hs b hb')
 have HH:=hid h
 have htg:=hid (fun w=>tag_any (trmW l a) w xa0 xa1)
 have d9:(trmW l a % 8 != 0)=true:=by simpa using hne
 generalize trmW l a=XA at *
 generalize trmW l b=XB at *
 generalize XA % 8=tA at *
 clear h hs ca cb ha hb' hb1 hri va vb ma mb hne
 go_enter Tryz.func157,Tryz.ntmps157
 go_wp2_with (go_at_call 58;refine hck.out.mono ?_;rintro e w3 ⟨⟨ev,rfl,hev⟩,hb3⟩;have hev1:ev=.nilIface:=hev;subst hev1;have HB:=hid (Below.next Hb1.out hb3);obtain⟨⟨d0,_⟩,d5⟩:=(HH.out.below HB.out).cells;clear hev hb3)
 go_region_held3 (fun w'=>w'.cell? ⟨hb,0,none⟩=some (.pointer (some ⟨ab,0,none⟩))) (first | exact d0 | go_keep)
  (first
   | (go_at_call_of 142 (Value.int IntKind.i64 (a:Int));refine (hta.out _ ?_).mono ?_;(first | exact HB.out | exact HB.out.drew);rintro e w4 ⟨rfl,hb4⟩;replace HB:=hid (Below.next (by first | exact HB.out | exact HB.out.drew) hb4);clear d0 d5 hb4;obtain⟨⟨d0,_⟩,d5⟩:=(HH.out.below HB.out).cells)
   | (go_at_call_of 142 (Value.int IntKind.i64 (b:Int));refine (htb.out _ ?_).mono ?_;(first | exact HB.out | exact HB.out.drew);rintro e w4 ⟨rfl,hb4⟩;replace HB:=hid (Below.next (by first | exact HB.out | exact HB.out.drew) hb4);clear d0 d5 hb4;obtain⟨⟨d0,_⟩,d5⟩:=(HH.out.below HB.out).cells))
 all_goals go_wp2_with (first
  | (go_at_call 141;refine (htg.out _).mono ?_;rintro e w6 ⟨rfl,hw⟩;replace hw:=hw.symm;subst hw)
  | (go_at_call 42;refine (cfault_any _ _ _).mono ?_;rintro e w6 ⟨rfl,hw⟩;subst hw))
 all_goals go_ret
 all_goals exact⟨⟨_,rfl,heap_alloc_new _ _⟩,HB.out.alloc HB.out.size _⟩
set_option maxHeartbeats 4000000 in
theorem bindq_left (h:Hp w B hb ab tb m av l tv tq ns trv ptv n) (hs:Snd l V) (a b:Nat) (ca:cellB l (a:Int)=true) (cb:cellB l (b:Int)=true) (ha:a<l.length) (hb':b<l.length) (hv:trmW l a % 8=0) (hne:trmW l a≠trmW l b) (hsw:¬(trmW l b % 8=0/\valOf (trmW l a)<valOf (trmW l b))) (hwr0:∀w1,Below w.heap.size w w1->Calls Tryz.prog 181 #[.pointer (some ⟨hb,0,none⟩),.int .i64 ((valOf (trmW l a)).toNat:Int),.int .u64 (trmW l b)] w1 fun e w'=>e=.returned (.tuple #[])/\Q w') :
  Calls Tryz.prog 157 #[.pointer (some ⟨hb,0,none⟩),.int .i64 (a:Int),.int .i64 (b:Int)] w fun e w'=>e=.returned .nilIface/\Q w':=by
 have hl6:l.length<=65536:=by
  have h1:=h.ar.len
  have h2:=h.ar.m2
  omega
 obtain⟨⟨xa0,xa1⟩,ma,va⟩:=trm_may hs hl6 ha
 obtain⟨⟨xb0,xb1⟩,mb,vb⟩:=trm_may hs hl6 hb'
 have hb1:=below_alloc w (.cells #[.int .i64 (a:Int),.int .i64 (b:Int)] 3)
 have hri:=ri_lit2 (heap_alloc_new w (.cells #[.int .i64 (a:Int),.int .i64 (b:Int)] 3))
 have hck:=hid (checkedC_any (h.below hb1).ar hri (by simp))
 rw[bad2 ca cb] at hck
 have Hb1:=hid hb1
 obtain⟨⟨c0,c1,_,_,_⟩,c5⟩:=h.cells
 have hta:=hid (fun w1 (hbb:Below w.heap.size w w1)=>term_any (h.below hbb).ar hs a ha)
 have htb:=hid (fun w1 (hbb:Below w.heap.size w w1)=>term_any (h.below hbb).ar hs b hb')
 have HH:=hid h
 have htg:=hid (fun w=>tag_any (trmW l a) w xa0 xa1)
 have htg2:=hid (fun w=>tag_any (trmW l b) w xb0 xb1)
 rw[hv] at htg
 obtain⟨j,hj,hjj,vj⟩:=va hv
 clear hjj
 have hvl:=hid (fun w=>value_any (trmW l a) w)
 rw[vj] at hvl
 have dne:(trmW l a == trmW l b)=false:=by simpa using hne
 have hwr:=hid hwr0
 rw[show (valOf (trmW l a)).toNat=j by rw[vj,Int.toNat_natCast]] at hwr
 have hvl2:=hid (fun w=>value_any (trmW l b) w)
 rw[vj] at hsw
 have dsw:trmW l b % 8=0/\decide ((j:Int)<valOf (trmW l b))=false∨(trmW l b % 8 == 0)=false:=by
  by_cases h0:trmW l b % 8=0
  ·exact Or.inl ⟨h0,decide_eq_false (fun h1=>hsw ⟨h0,h1⟩)⟩
  ·exact Or.inr (by simpa using h0)
 clear hwr0
 generalize trmW l a=XA at *
 generalize trmW l b=XB at *
 generalize valOf XB=vB at *
 generalize XB % 8=tB at *
 clear h hs ca cb ha hb' hb1 hri va vb ma mb hv hne hj vj hsw
 rcases dsw with⟨rfl,dsw⟩ | dsw
 ·go_enter Tryz.func157,Tryz.ntmps157
  go_wp2_with (go_at_call 58;refine hck.out.mono ?_;rintro e w3 ⟨⟨ev,rfl,hev⟩,hb3⟩;have hev1:ev=.nilIface:=hev;subst hev1;have HB:=hid (Below.next Hb1.out hb3);obtain⟨⟨d0,_⟩,d5⟩:=(HH.out.below HB.out).cells;clear hev hb3)
  go_region_held3 (fun w'=>w'.cell? ⟨hb,0,none⟩=some (.pointer (some ⟨ab,0,none⟩))) (first | exact d0 | go_keep)
   (first
    | (go_at_call_of 142 (Value.int IntKind.i64 (a:Int));refine (hta.out _ ?_).mono ?_;(first | exact HB.out | exact HB.out.drew);rintro e w4 ⟨rfl,hb4⟩;replace HB:=hid (Below.next (by first | exact HB.out | exact HB.out.drew) hb4);clear d0 d5 hb4;obtain⟨⟨d0,_⟩,d5⟩:=(HH.out.below HB.out).cells)
    | (go_at_call_of 142 (Value.int IntKind.i64 (b:Int));refine (htb.out _ ?_).mono ?_;(first | exact HB.out | exact HB.out.drew);rintro e w4 ⟨rfl,hb4⟩;replace HB:=hid (Below.next (by first | exact HB.out | exact HB.out.drew) hb4);clear d0 d5 hb4;obtain⟨⟨d0,_⟩,d5⟩:=(HH.out.below HB.out).cells))
  all_goals go_wp2_with (first
   | (go_at_call_of 141 (Value.int IntKind.u64 XA);refine (htg.out _).mono ?_;rintro e w6 ⟨rfl,hw⟩;replace hw:=hw.symm;subst hw)
   | (go_at_call_of 141 (Value.int IntKind.u64 XB);refine (htg2.out _).mono ?_;rintro e w6 ⟨rfl,hw⟩;replace hw:=hw.symm;subst hw)
   | (go_at_call_of 143 (Value.int IntKind.u64 XA);refine (hvl.out _).mono ?_;rintro e w6 ⟨rfl,hw⟩;replace hw:=hw.symm;subst hw)
   | (go_at_call_of 143 (Value.int IntKind.u64 XB);refine (hvl2.out _).mono ?_;rintro e w6 ⟨rfl,hw⟩;replace hw:=hw.symm;subst hw)
   | (go_at_call 181;refine (hwr.out _ HB.out).mono ?_;rintro e w7 ⟨rfl,hq7⟩;have HQ7:=hid hq7;clear hq7))
  all_goals go_ret
  all_goals exact⟨rfl,HQ7.out⟩
 ·go_enter Tryz.func157,Tryz.ntmps157
  go_wp2_with (go_at_call 58;refine hck.out.mono ?_;rintro e w3 ⟨⟨ev,rfl,hev⟩,hb3⟩;have hev1:ev=.nilIface:=hev;subst hev1;have HB:=hid (Below.next Hb1.out hb3);obtain⟨⟨d0,_⟩,d5⟩:=(HH.out.below HB.out).cells;clear hev hb3)
  go_region_held3 (fun w'=>w'.cell? ⟨hb,0,none⟩=some (.pointer (some ⟨ab,0,none⟩))) (first | exact d0 | go_keep)
   (first
    | (go_at_call_of 142 (Value.int IntKind.i64 (a:Int));refine (hta.out _ ?_).mono ?_;(first | exact HB.out | exact HB.out.drew);rintro e w4 ⟨rfl,hb4⟩;replace HB:=hid (Below.next (by first | exact HB.out | exact HB.out.drew) hb4);clear d0 d5 hb4;obtain⟨⟨d0,_⟩,d5⟩:=(HH.out.below HB.out).cells)
    | (go_at_call_of 142 (Value.int IntKind.i64 (b:Int));refine (htb.out _ ?_).mono ?_;(first | exact HB.out | exact HB.out.drew);rintro e w4 ⟨rfl,hb4⟩;replace HB:=hid (Below.next (by first | exact HB.out | exact HB.out.drew) hb4);clear d0 d5 hb4;obtain⟨⟨d0,_⟩,d5⟩:=(HH.out.below HB.out).cells))
  all_goals go_wp2_with (first
   | (go_at_call_of 141 (Value.int IntKind.u64 XA);refine (htg.out _).mono ?_;rintro e w6 ⟨rfl,hw⟩;replace hw:=hw.symm;subst hw)
   | (go_at_call_of 141 (Value.int IntKind.u64 XB);refine (htg2.out _).mono ?_;rintro e w6 ⟨rfl,hw⟩;replace hw:=hw.symm;subst hw)
   | (go_at_call_of 143 (Value.int IntKind.u64 XA);refine (hvl.out _).mono ?_;rintro e w6 ⟨rfl,hw⟩;replace hw:=hw.symm;subst hw)
   | (go_at_call_of 143 (Value.int IntKind.u64 XB);refine (hvl2.out _).mono ?_;rintro e w6 ⟨rfl,hw⟩;replace hw:=hw.symm;subst hw)
   | (go_at_call 181;refine (hwr.out _ HB.out).mono ?_;rintro e w7 ⟨rfl,hq7⟩;have HQ7:=hid hq7;clear hq7))
  all_goals go_ret
  all_goals exact⟨rfl,HQ7.out⟩
end
end Go.Proofs.YtpkojcfdkkjmcaaGreatDoor
namespace Go.Proofs.YtpkojcfdkkjmcaaGreatDoor
set_option maxRecDepth 100000
open Go.RowKit
theorem cell_blk1 {w:World} {b:Nat} {u:Value} {T:TypeId} (h:w.heap[b]?=some (.cells #[u] T)):w.cell? ⟨b,0,none⟩=some u:=by simp[World.cell?,h]
section
variable {w:World} {B p:Nat} {m:Int} {v:Value} {l:List Int}
set_option maxHeartbeats 2000000 in
theorem alike_str (h:Ar 153 w B p m v l) (x y:Int) (x0:0<=x) (x1:x<=18446744073709551615) (y0:0<=y) (y1:y<=18446744073709551615) (hx3:x % 8=3) (hy3:y % 8=3) (i j:Nat) (hi:i<l.length) (hj:j<l.length) (vi:valOf x=(i:Int)) (vj:valOf y=(j:Int)) :
  Calls Tryz.prog 182 #[blkV p,.int .u64 x,.int .u64 y] w fun e w'=>e=.returned (.bool (wdN l i == wdN l j))/\Below w.heap.size w w':=by
 have hb:=hid (below_alloc w (.cells #[.pointer (some ⟨p,0,none⟩)] 92))
 have hbx:=heap_alloc_new w (.cells #[.pointer (some ⟨p,0,none⟩)] 92)
 have d0:(w.alloc (.cells #[.pointer (some ⟨p,0,none⟩)] 92)).cell? ⟨w.heap.size,0,none⟩=some (.pointer (some ⟨p,0,none⟩)):=cell_blk1 hbx
 have z0:=lt_of_block hbx
 have hx:=hid (fun w=>tag_any x w x0 x1)
 have hy:=hid (fun w=>tag_any y w y0 y1)
 have hvx:=hid (fun w=>value_any x w)
 have hvy:=hid (fun w=>value_any y w)
 rw[hx3] at hx
 rw[hy3] at hy
 rw[vi] at hvx
 rw[vj] at hvy
 have hwi:=hid (fun w1 (hbb:Below w.heap.size w w1)=>bword_ok (h.below hbb) i hi)
 have hwj:=hid (fun w1 (hbb:Below w.heap.size w w1)=>bword_ok (h.below hbb) j hj)
 have ei:l.getD i 0=wdN l i:=rfl
 have ej:l.getD j 0=wdN l j:=rfl
 rw[ei] at hwi
 rw[ej] at hwj
 generalize wdN l i=X at *
 generalize wdN l j=Y at *
 have m1:True:=trivial
 have m2:True:=trivial
 have m3:True:=trivial
 have HB:=hid hb.out
 clear h hi hj vi vj hx3 hy3 ei ej hb
 go_enter Tryz.func182,Tryz.ntmps182
 go_wp2_with (first
  | (go_at_call 141;have _u:=m1;refine (hx.out _).mono ?_;clear m1 _u;rintro e w6 ⟨rfl,hw⟩;replace hw:=hw.symm;subst hw)
  | (go_at_call 141;refine (hy.out _).mono ?_;rintro e w6 ⟨rfl,hw⟩;replace hw:=hw.symm;subst hw))
 have HX:=hid hbx
 clear hbx
 go_region_held3 (fun w'=>w'.cell? ⟨w.heap.size,0,none⟩=some (.pointer (some ⟨p,0,none⟩))) (first | exact d0 | go_keep)
  (first
   | (go_at_call_of 143 (Value.int IntKind.u64 x);refine (hvx.out _).mono ?_;rintro e w6 ⟨rfl,hw⟩;replace hw:=hw.symm;subst hw)
   | (go_at_call_of 143 (Value.int IntKind.u64 y);refine (hvy.out _).mono ?_;rintro e w6 ⟨rfl,hw⟩;replace hw:=hw.symm;subst hw)
   | (go_at_call_of 145 (Value.int IntKind.i64 (i:Int));refine (hwi.out _ ?_).mono ?_;(first | exact HB.out | exact HB.out.drew);rintro e w4 ⟨rfl,hb4⟩;replace HX:=hid ((hb4.block _ (lt_of_block HX.out)).trans HX.out);replace HB:=hid (Below.next (by first | exact HB.out | exact HB.out.drew) hb4);clear d0 hb4;have d0:=cell_blk1 HX.out)
   | (go_at_call_of 145 (Value.int IntKind.i64 (j:Int));refine (hwj.out _ ?_).mono ?_;(first | exact HB.out | exact HB.out.drew);rintro e w4 ⟨rfl,hb4⟩;replace HX:=hid ((hb4.block _ (lt_of_block HX.out)).trans HX.out);replace HB:=hid (Below.next (by first | exact HB.out | exact HB.out.drew) hb4);clear d0 hb4;have d0:=cell_blk1 HX.out))
 all_goals go_wp2
 all_goals go_ret
 all_goals exact⟨rfl,HB.out⟩
end
end Go.Proofs.YtpkojcfdkkjmcaaGreatDoor

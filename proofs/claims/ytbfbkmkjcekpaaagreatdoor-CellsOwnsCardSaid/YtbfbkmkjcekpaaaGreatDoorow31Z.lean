/- Package cells: Bind, walked where there is no point. -/
import Derived.Deep.RegionHeld3
import Derived.Test.YtbfbkmkjcekpaaaGreatDoorow27Z
namespace Go.Proofs.YtbfbkmkjcekpaaaGreatDoor
set_option maxRecDepth 100000
open Go.RowKit
section
variable {w:World} {B hb ab tb:Nat} {m:Int} {av:Value} {l:List Int} {tv:Value} {tq:Nat} {ns:List ByteArray} {trv:Value} {n:Int} {V:Nat->Bool}
set_option maxHeartbeats 4000000 in
theorem bind0_left (h:Hp w B hb ab tb m av l tv tq ns trv (.slice none 0 0) n) (hs:Snd l V) (a b:Nat) (ca:cellB l (a:Int)=true) (cb:cellB l (b:Int)=true) (ha:a<l.length) (hb':b<l.length) (n0:0<=n) (n1:n<=4611686018427387904) (hv:trmW l a % 8=0) (hne:trmW l a≠trmW l b) (hsw:¬(trmW l b % 8=0/\valOf (trmW l a)<valOf (trmW l b))) :
  Calls Tryz.prog 25 #[.pointer (some ⟨hb,0,none⟩),.int .i64 (a:Int),.int .i64 (b:Int)] w fun e w'=>e=.returned .nilIface/\Hp w' B hb ab tb m av (l.set (valOf (trmW l a)).toNat (trmW l b)) tv tq ns trv (.slice none 0 0) (n+1)/\a_Mod (hb::a_foot ab av) w w':=by
 have hl6:l.length<=65536:=by
  have h1:=h.ar.len
  have h2:=h.ar.m2
  omega
 obtain⟨⟨xa0,xa1⟩,ma,va⟩:=trm_may hs hl6 ha
 obtain⟨⟨xb0,xb1⟩,mb,vb⟩:=trm_may hs hl6 hb'
 have hb1:=below_alloc w (.cells #[.int .i64 (a:Int),.int .i64 (b:Int)] 3)
 have hri:=ri_lit2 (heap_alloc_new w (.cells #[.int .i64 (a:Int),.int .i64 (b:Int)] 3))
 have hck:=hid (checkedC_any (h.below hb1).ar hri (by simp))
 rw[bad2 ca cb] at hck
 have Hb1:=hid hb1
 obtain⟨⟨c0,c1,_,_,_⟩,c5⟩:=h.cells
 have hta:=hid (fun w1 (hbb:Below w.heap.size w w1)=>term_any (h.below hbb).ar hs a ha)
 have htb:=hid (fun w1 (hbb:Below w.heap.size w w1)=>term_any (h.below hbb).ar hs b hb')
 have HH:=hid h
 have htg:=hid (fun w=>tag_any (trmW l a) w xa0 xa1)
 have htg2:=hid (fun w=>tag_any (trmW l b) w xb0 xb1)
 rw[hv] at htg
 obtain⟨j,hj,hjj,vj⟩:=va hv
 clear hjj
 have hvl:=hid (fun w=>value_any (trmW l a) w)
 rw[vj] at hvl
 have dne:(trmW l a == trmW l b)=false:=by simpa using hne
 have hwr:=hid (fun w1 (hbb:Below w.heap.size w w1)=>write0_ok (h.below hbb) j (trmW l b) hj xb0 xb1 mb n0 n1)
 have hvl2:=hid (fun w=>value_any (trmW l b) w)
 rw[vj] at hsw
 rw[show (valOf (trmW l a)).toNat=j by rw[vj,Int.toNat_natCast]]
 have dsw:trmW l b % 8=0/\decide ((j:Int)<valOf (trmW l b))=false∨(trmW l b % 8 == 0)=false:=by
  by_cases h0:trmW l b % 8=0
  ·exact Or.inl ⟨h0,decide_eq_false (fun h1=>hsw ⟨h0,h1⟩)⟩
  ·exact Or.inr (by simpa using h0)
 generalize hRS:l.set j (trmW l b)=LS at *
 generalize trmW l a=XA at *
 generalize trmW l b=XB at *
 generalize valOf XB=vB at *
 generalize XB % 8=tB at *
 clear h hs ca cb ha hb' hb1 hri va vb ma mb hv hne hj vj hsw hRS
 rcases dsw with⟨rfl,dsw⟩ | dsw
 ·go_enter Tryz.func25,Tryz.ntmps25
  go_wp2_with (go_at_call 41;refine hck.out.mono ?_;rintro e w3 ⟨⟨ev,rfl,hev⟩,hb3⟩;have hev1:ev=.nilIface:=hev;subst hev1;have HB:=hid (Below.next Hb1.out hb3);obtain⟨⟨d0,_⟩,d5⟩:=(HH.out.below HB.out).cells;clear hev hb3)
  go_region_held3 (fun w'=>w'.cell? ⟨hb,0,none⟩=some (.pointer (some ⟨ab,0,none⟩))) (first | exact d0 | go_keep)
   (first
    | (go_at_call_of 44 (Value.int IntKind.i64 (a:Int));refine (hta.out _ ?_).mono ?_;(first | exact HB.out | exact HB.out.drew);rintro e w4 ⟨rfl,hb4⟩;replace HB:=hid (Below.next (by first | exact HB.out | exact HB.out.drew) hb4);clear d0 d5 hb4;obtain⟨⟨d0,_⟩,d5⟩:=(HH.out.below HB.out).cells)
    | (go_at_call_of 44 (Value.int IntKind.i64 (b:Int));refine (htb.out _ ?_).mono ?_;(first | exact HB.out | exact HB.out.drew);rintro e w4 ⟨rfl,hb4⟩;replace HB:=hid (Below.next (by first | exact HB.out | exact HB.out.drew) hb4);clear d0 d5 hb4;obtain⟨⟨d0,_⟩,d5⟩:=(HH.out.below HB.out).cells))
  all_goals go_wp2_with (first
   | (go_at_call_of 59 (Value.int IntKind.u64 XA);refine (htg.out _).mono ?_;rintro e w6 ⟨rfl,hw⟩;replace hw:=hw.symm;subst hw)
   | (go_at_call_of 59 (Value.int IntKind.u64 XB);refine (htg2.out _).mono ?_;rintro e w6 ⟨rfl,hw⟩;replace hw:=hw.symm;subst hw)
   | (go_at_call_of 60 (Value.int IntKind.u64 XA);refine (hvl.out _).mono ?_;rintro e w6 ⟨rfl,hw⟩;replace hw:=hw.symm;subst hw)
   | (go_at_call_of 60 (Value.int IntKind.u64 XB);refine (hvl2.out _).mono ?_;rintro e w6 ⟨rfl,hw⟩;replace hw:=hw.symm;subst hw)
   | (go_at_call 61;refine (hwr.out _ HB.out).mono ?_;rintro e w7 ⟨rfl,hp7,hm7⟩;have HP7:=hid hp7;have HM7:=hid (hm7.ofMem (hb::a_foot ab av) (fun y hy=>Or.inl hy));clear hp7 hm7))
  all_goals go_ret
  all_goals exact⟨rfl,HP7.out,(a_Mod.ofBelow HB.out).trans HM7.out (fun y hy=>Or.inl hy)⟩
 ·go_enter Tryz.func25,Tryz.ntmps25
  go_wp2_with (go_at_call 41;refine hck.out.mono ?_;rintro e w3 ⟨⟨ev,rfl,hev⟩,hb3⟩;have hev1:ev=.nilIface:=hev;subst hev1;have HB:=hid (Below.next Hb1.out hb3);obtain⟨⟨d0,_⟩,d5⟩:=(HH.out.below HB.out).cells;clear hev hb3)
  go_region_held3 (fun w'=>w'.cell? ⟨hb,0,none⟩=some (.pointer (some ⟨ab,0,none⟩))) (first | exact d0 | go_keep)
   (first
    | (go_at_call_of 44 (Value.int IntKind.i64 (a:Int));refine (hta.out _ ?_).mono ?_;(first | exact HB.out | exact HB.out.drew);rintro e w4 ⟨rfl,hb4⟩;replace HB:=hid (Below.next (by first | exact HB.out | exact HB.out.drew) hb4);clear d0 d5 hb4;obtain⟨⟨d0,_⟩,d5⟩:=(HH.out.below HB.out).cells)
    | (go_at_call_of 44 (Value.int IntKind.i64 (b:Int));refine (htb.out _ ?_).mono ?_;(first | exact HB.out | exact HB.out.drew);rintro e w4 ⟨rfl,hb4⟩;replace HB:=hid (Below.next (by first | exact HB.out | exact HB.out.drew) hb4);clear d0 d5 hb4;obtain⟨⟨d0,_⟩,d5⟩:=(HH.out.below HB.out).cells))
  all_goals go_wp2_with (first
   | (go_at_call_of 59 (Value.int IntKind.u64 XA);refine (htg.out _).mono ?_;rintro e w6 ⟨rfl,hw⟩;replace hw:=hw.symm;subst hw)
   | (go_at_call_of 59 (Value.int IntKind.u64 XB);refine (htg2.out _).mono ?_;rintro e w6 ⟨rfl,hw⟩;replace hw:=hw.symm;subst hw)
   | (go_at_call_of 60 (Value.int IntKind.u64 XA);refine (hvl.out _).mono ?_;rintro e w6 ⟨rfl,hw⟩;replace hw:=hw.symm;subst hw)
   | (go_at_call_of 60 (Value.int IntKind.u64 XB);refine (hvl2.out _).mono ?_;rintro e w6 ⟨rfl,hw⟩;replace hw:=hw.symm;subst hw)
   | (go_at_call 61;refine (hwr.out _ HB.out).mono ?_;rintro e w7 ⟨rfl,hp7,hm7⟩;have HP7:=hid hp7;have HM7:=hid (hm7.ofMem (hb::a_foot ab av) (fun y hy=>Or.inl hy));clear hp7 hm7))
  all_goals go_ret
  all_goals exact⟨rfl,HP7.out,(a_Mod.ofBelow HB.out).trans HM7.out (fun y hy=>Or.inl hy)⟩
end
end Go.Proofs.YtbfbkmkjcekpaaaGreatDoor

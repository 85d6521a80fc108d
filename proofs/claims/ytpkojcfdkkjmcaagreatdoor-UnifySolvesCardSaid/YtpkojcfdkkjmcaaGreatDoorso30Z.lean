/- Package cells: Merge at any two places, over whatever a write leaves. -/
import Derived.Deep.RegionHeld3
import Derived.Test.YtpkojcfdkkjmcaaGreatDoorso25Z
import Derived.Test.YtpkojcfdkkjmcaaGreatDoorso22Z
import Derived.Test.YtpkojcfdkkjmcaaGreatDoorso26Z
import Derived.Test.YtpkojcfdkkjmcaaGreatDoorso23Z
import Derived.Test.YtpkojcfdkkjmcaaGreatDoorso21Z
import Derived.Test.YtpkojcfdkkjmcaaGreatDoorso11Z
import Derived.Test.YtpkojcfdkkjmcaaGreatDoorso12Z
import Derived.Test.YtpkojcfdkkjmcaaGreatDoorso05Z
namespace Go.Proofs.YtpkojcfdkkjmcaaGreatDoor
set_option maxRecDepth 100000
open Go.RowKit
section
variable {w:World} {B hb ab tb:Nat} {m:Int} {av:Value} {l:List Int} {tv:Value} {tq:Nat} {ns:List ByteArray} {trv ptv:Value} {n:Int} {V:Nat->Bool} {Q:World->Prop}
set_option maxHeartbeats 4000000 in
theorem mergeq_lt (h:Hp w B hb ab tb m av l tv tq ns trv ptv n) (hs:Snd l V) (a b:Nat) (ca:cellB l (a:Int)=true) (cb:cellB l (b:Int)=true) (ha:a<l.length) (hb':b<l.length) (hx3:trmW l a % 8=3) (hy3:trmW l b % 8=3) (i j:Nat) (hi:i<l.length) (hj:j<l.length) (vi:valOf (trmW l a)=(i:Int)) (vj:valOf (trmW l b)=(j:Int)) (hw:wdN l i=wdN l j) (hij:i<j) (hwr0:∀w1,Below w.heap.size w w1->Calls Tryz.prog 181 #[.pointer (some ⟨hb,0,none⟩),.int .i64 (j:Int),.int .u64 (wordOf 5 (i:Int))] w1 fun e w'=>e=.returned (.tuple #[])/\Q w') :
  Calls Tryz.prog 158 #[.pointer (some ⟨hb,0,none⟩),.int .i64 (a:Int),.int .i64 (b:Int)] w fun e w'=>e=.returned .nilIface/\Q w':=by
 have hl6:l.length<=65536:=by
  have h1:=h.ar.len
  have h2:=h.ar.m2
  omega
 obtain⟨⟨xa0,xa1⟩,ma,va⟩:=trm_may hs hl6 ha
 obtain⟨⟨xb0,xb1⟩,mb,vb⟩:=trm_may hs hl6 hb'
 have hb1:=below_alloc w (.cells #[.int .i64 (a:Int),.int .i64 (b:Int)] 3)
 have hri:=ri_lit2 (heap_alloc_new w (.cells #[.int .i64 (a:Int),.int .i64 (b:Int)] 3))
 have hck:=hid (checkedC_any (h.below hb1).ar hri (by simp))
 rw[bad2 ca cb] at hck
 have Hb1:=hid hb1
 obtain⟨⟨c0,c1,_,_,_⟩,c5⟩:=h.cells
 have hta:=hid (fun w1 (hbb:Below w.heap.size w w1)=>term_any (h.below hbb).ar hs a ha)
 have htb:=hid (fun w1 (hbb:Below w.heap.size w w1)=>term_any (h.below hbb).ar hs b hb')
 have HH:=hid h
 have dne:(trmW l a == trmW l b)=false:=by
  rw[beq_eq_false_iff_ne]
  intro e
  have vi2:=vi
  rw[e] at vi2
  omega
 have hal:=hid (fun w1 (hbb:Below w.heap.size w w1)=>alike_str (h.below hbb).ar (trmW l a) (trmW l b) xa0 xa1 xb0 xb1 hx3 hy3 i j hi hj vi vj)
 rw[hw,beq_self_eq_true] at hal
 have hva:=hid (fun w=>value_any (trmW l a) w)
 have hvb:=hid (fun w=>value_any (trmW l b) w)
 rw[vi] at hva
 rw[vj] at hvb
 have hf5:fitsB 5 (i:Int)=true:=by
  simp[fitsB]
  omega
 have hpk:=hid (fun w=>packed_ok 5 (i:Int) w hf5)
 have hwr:=hid hwr0
 have hij':(i:Int)<(j:Int):=by omega
 have hmn:min (i:Int) (j:Int)=(i:Int):=by omega
 have hmx:max (i:Int) (j:Int)=(j:Int):=by omega
 clear hwr0
 generalize wordOf 5 (i:Int)=X5 at *
 generalize trmW l a=XA at *
 generalize trmW l b=XB at *
 clear h hs ca cb ha hb' hb1 hri va vb ma mb hx3 hy3 hi hj vi vj hw hf5 hij
 generalize (i:Int)=I at *
 generalize (j:Int)=J at *
 go_enter Tryz.func158,Tryz.ntmps158
 go_wp2_with (go_at_call 58;refine hck.out.mono ?_;rintro e w3 ⟨⟨ev,rfl,hev⟩,hb3⟩;have hev1:ev=.nilIface:=hev;subst hev1;have HB:=hid (Below.next Hb1.out hb3);obtain⟨⟨d0,_⟩,d5⟩:=(HH.out.below HB.out).cells;clear hev hb3)
 go_region_held3 (fun w'=>w'.cell? ⟨hb,0,none⟩=some (.pointer (some ⟨ab,0,none⟩))) (first | exact d0 | go_keep)
  (first
   | (go_at_call_of 142 (Value.int IntKind.i64 (a:Int));refine (hta.out _ ?_).mono ?_;(first | exact HB.out | exact HB.out.drew);rintro e w4 ⟨rfl,hb4⟩;replace HB:=hid (Below.next (by first | exact HB.out | exact HB.out.drew) hb4);clear d0 d5 hb4;obtain⟨⟨d0,_⟩,d5⟩:=(HH.out.below HB.out).cells)
   | (go_at_call_of 142 (Value.int IntKind.i64 (b:Int));refine (htb.out _ ?_).mono ?_;(first | exact HB.out | exact HB.out.drew);rintro e w4 ⟨rfl,hb4⟩;replace HB:=hid (Below.next (by first | exact HB.out | exact HB.out.drew) hb4);clear d0 d5 hb4;obtain⟨⟨d0,_⟩,d5⟩:=(HH.out.below HB.out).cells))
 all_goals go_wp2_with (first
  | (go_at_call 182;refine (hal.out _ HB.out).mono ?_;rintro e w5 ⟨rfl,hb5⟩;replace HB:=hid (Below.next HB.out hb5);clear hb5 d0 d5;obtain⟨⟨d0,_⟩,d5⟩:=(HH.out.below HB.out).cells)
  | (go_at_call_of 143 (Value.int IntKind.u64 XA);refine (hva.out _).mono ?_;rintro e w6 ⟨rfl,hw⟩;replace hw:=hw.symm;subst hw)
  | (go_at_call_of 143 (Value.int IntKind.u64 XB);refine (hvb.out _).mono ?_;rintro e w6 ⟨rfl,hw⟩;replace hw:=hw.symm;subst hw)
  | (go_at_call 134;refine (hpk.out _).mono ?_;rintro e w6 ⟨rfl,hw⟩;replace hw:=hw.symm;subst hw)
  | (go_at_call 181;refine (hwr.out _ HB.out).mono ?_;rintro e w7 ⟨rfl,hq7⟩;have HQ7:=hid hq7;clear hq7))
 all_goals go_ret
 all_goals exact⟨rfl,HQ7.out⟩
set_option maxHeartbeats 4000000 in
theorem mergeq_gt (h:Hp w B hb ab tb m av l tv tq ns trv ptv n) (hs:Snd l V) (a b:Nat) (ca:cellB l (a:Int)=true) (cb:cellB l (b:Int)=true) (ha:a<l.length) (hb':b<l.length) (hx3:trmW l a % 8=3) (hy3:trmW l b % 8=3) (i j:Nat) (hi:i<l.length) (hj:j<l.length) (vi:valOf (trmW l a)=(i:Int)) (vj:valOf (trmW l b)=(j:Int)) (hw:wdN l i=wdN l j) (hij:j<i) (hwr0:∀w1,Below w.heap.size w w1->Calls Tryz.prog 181 #[.pointer (some ⟨hb,0,none⟩),.int .i64 (i:Int),.int .u64 (wordOf 5 (j:Int))] w1 fun e w'=>e=.returned (.tuple #[])/\Q w') :
  Calls Tryz.prog 158 #[.pointer (some ⟨hb,0,none⟩),.int .i64 (a:Int),.int .i64 (b:Int)] w fun e w'=>e=.returned .nilIface/\Q w':=by
 have hl6:l.length<=65536:=by
  have h1:=h.ar.len
  have h2:=h.ar.m2
  omega
 obtain⟨⟨xa0,xa1⟩,ma,va⟩:=trm_may hs hl6 ha
 obtain⟨⟨xb0,xb1⟩,mb,vb⟩:=trm_may hs hl6 hb'
 have hb1:=below_alloc w (.cells #[.int .i64 (a:Int),.int .i64 (b:Int)] 3)
 have hri:=ri_lit2 (heap_alloc_new w (.cells #[.int .i64 (a:Int),.int .i64 (b:Int)] 3))
 have hck:=hid (checkedC_any (h.below hb1).ar hri (by simp))
 rw[bad2 ca cb] at hck
 have Hb1:=hid hb1
 obtain⟨⟨c0,c1,_,_,_⟩,c5⟩:=h.cells
 have hta:=hid (fun w1 (hbb:Below w.heap.size w w1)=>term_any (h.below hbb).ar hs a ha)
 have htb:=hid (fun w1 (hbb:Below w.heap.size w w1)=>term_any (h.below hbb).ar hs b hb')
 have HH:=hid h
 have dne:(trmW l a == trmW l b)=false:=by
  rw[beq_eq_false_iff_ne]
  intro e
  have vi2:=vi
  rw[e] at vi2
  omega
 have hal:=hid (fun w1 (hbb:Below w.heap.size w w1)=>alike_str (h.below hbb).ar (trmW l a) (trmW l b) xa0 xa1 xb0 xb1 hx3 hy3 i j hi hj vi vj)
 rw[hw,beq_self_eq_true] at hal
 have hva:=hid (fun w=>value_any (trmW l a) w)
 have hvb:=hid (fun w=>value_any (trmW l b) w)
 rw[vi] at hva
 rw[vj] at hvb
 have hf5:fitsB 5 (j:Int)=true:=by
  simp[fitsB]
  omega
 have hpk:=hid (fun w=>packed_ok 5 (j:Int) w hf5)
 have hwr:=hid hwr0
 have hij':(j:Int)<(i:Int):=by omega
 have hmn:min (i:Int) (j:Int)=(j:Int):=by omega
 have hmx:max (i:Int) (j:Int)=(i:Int):=by omega
 clear hwr0
 generalize wordOf 5 (j:Int)=X5 at *
 generalize trmW l a=XA at *
 generalize trmW l b=XB at *
 clear h hs ca cb ha hb' hb1 hri va vb ma mb hx3 hy3 hi hj vi vj hw hf5 hij
 generalize (i:Int)=I at *
 generalize (j:Int)=J at *
 go_enter Tryz.func158,Tryz.ntmps158
 go_wp2_with (go_at_call 58;refine hck.out.mono ?_;rintro e w3 ⟨⟨ev,rfl,hev⟩,hb3⟩;have hev1:ev=.nilIface:=hev;subst hev1;have HB:=hid (Below.next Hb1.out hb3);obtain⟨⟨d0,_⟩,d5⟩:=(HH.out.below HB.out).cells;clear hev hb3)
 go_region_held3 (fun w'=>w'.cell? ⟨hb,0,none⟩=some (.pointer (some ⟨ab,0,none⟩))) (first | exact d0 | go_keep)
  (first
   | (go_at_call_of 142 (Value.int IntKind.i64 (a:Int));refine (hta.out _ ?_).mono ?_;(first | exact HB.out | exact HB.out.drew);rintro e w4 ⟨rfl,hb4⟩;replace HB:=hid (Below.next (by first | exact HB.out | exact HB.out.drew) hb4);clear d0 d5 hb4;obtain⟨⟨d0,_⟩,d5⟩:=(HH.out.below HB.out).cells)
   | (go_at_call_of 142 (Value.int IntKind.i64 (b:Int));refine (htb.out _ ?_).mono ?_;(first | exact HB.out | exact HB.out.drew);rintro e w4 ⟨rfl,hb4⟩;replace HB:=hid (Below.next (by first | exact HB.out | exact HB.out.drew) hb4);clear d0 d5 hb4;obtain⟨⟨d0,_⟩,d5⟩:=(HH.out.below HB.out).cells))
 all_goals go_wp2_with (first
  | (go_at_call 182;refine (hal.out _ HB.out).mono ?_;rintro e w5 ⟨rfl,hb5⟩;replace HB:=hid (Below.next HB.out hb5);clear hb5 d0 d5;obtain⟨⟨d0,_⟩,d5⟩:=(HH.out.below HB.out).cells)
  | (go_at_call_of 143 (Value.int IntKind.u64 XA);refine (hva.out _).mono ?_;rintro e w6 ⟨rfl,hw⟩;replace hw:=hw.symm;subst hw)
  | (go_at_call_of 143 (Value.int IntKind.u64 XB);refine (hvb.out _).mono ?_;rintro e w6 ⟨rfl,hw⟩;replace hw:=hw.symm;subst hw)
  | (go_at_call 134;refine (hpk.out _).mono ?_;rintro e w6 ⟨rfl,hw⟩;replace hw:=hw.symm;subst hw)
  | (go_at_call 181;refine (hwr.out _ HB.out).mono ?_;rintro e w7 ⟨rfl,hq7⟩;have HQ7:=hid hq7;clear hq7))
 all_goals go_ret
 all_goals exact⟨rfl,HQ7.out⟩
end
end Go.Proofs.YtpkojcfdkkjmcaaGreatDoor
namespace Go.Proofs.YtpkojcfdkkjmcaaGreatDoor
set_option maxRecDepth 100000
open Go.RowKit
abbrev fSC:ByteArray:=⟨#[102]⟩
end Go.Proofs.YtpkojcfdkkjmcaaGreatDoor
namespace Go.Proofs.YtpkojcfdkkjmcaaGreatDoor
set_option maxRecDepth 100000
open Go.RowKit
section
variable {g:Gf}
theorem least_pair (hg:Good g) {e:Nat->Nat->Bool} (hd:∀x y:Nat,(e x y=true↔Al g (x:Int) (y:Int))):Pr (trimF (quoF e g)) g (fun u x=>x∈metF g/\u=lstI e g x):=by
 refine⟨fun u x ⟨hx,hu⟩=>⟨by rw[hu];exact least_rng hg hd hx,(met_ok hg).rng x hx⟩,fun u x ⟨hx,hu⟩=>?_,fun u x ⟨hx,hu⟩ k hk=>?_,fun u x x' ⟨hx,hu⟩ ⟨hx',hu'⟩ hk=>?_,fun u u' x ⟨_,hu⟩ ⟨_,hu'⟩ _=>hu.trans hu'.symm,?_,fun i hi=>?_⟩
 ·subst hu
  rw[least_nd hg hd hx]
  exact⟨rfl,rfl,rfl,by simp[renum]⟩
 ·subst hu
  rw[least_nd hg hd hx] at hk
  have hk':k<(g.nd x).args.length:=by simpa[renum] using hk
  refine⟨met_argk hg hx hk',?_⟩
  unfold Gf.arg
  rw[least_nd hg hd hx]
  simp[renum,List.getD,hk']
 ·subst hu
  have hal:=(least_al hg hd hx hx').1 hu'
  rw[least_nd hg hd hx] at hk
  exact (al_sim g x x' hal).2.2.1.2.2.2.2 hk
 ·rw[least_root]
  simp
 ·rw[least_root] at hi ⊢
  have hi':i<g.roots.length:=by simpa using hi
  exact⟨metF_root hg hi',by simp[List.getD,hi']⟩
end
end Go.Proofs.YtpkojcfdkkjmcaaGreatDoor

/- The law's play: one call of a script, at any heap. -/
import Derived.Test.YtbfbkmkjcekpaaaGreatDoorow51Z
import Derived.Test.YtbfbkmkjcekpaaaGreatDoorow46Z
import Derived.Test.YtbfbkmkjcekpaaaGreatDoorow09Z
import Derived.Test.YtbfbkmkjcekpaaaGreatDoorow44Z
import Derived.Test.YtbfbkmkjcekpaaaGreatDoorow16Z
import Derived.Test.YtbfbkmkjcekpaaaGreatDoorow23Z
namespace Go.Proofs.YtbfbkmkjcekpaaaGreatDoor
set_option maxRecDepth 100000
open Go.RowKit
theorem Lv.from {w w1 w':World} {B hb:Nat} {m:Int} {F:Nat->Prop} {kd a:Int} {s:Hst} (hb1:Below w.heap.size w w1) (h:Lv w1 w' B hb m F kd a s):Lv w w' B hb m F kd a s:=by
 obtain⟨s',h1,h2,h3⟩:=h
 refine⟨s',h1,h2.weak (fun k hk=>?_),(Mo.ofBelow hb1).trans h3 (fun x hx=>Or.inl hx)⟩
 rcases hk with hk | hk
 ·exact Or.inl hk
 ·exact Or.inr (Nat.le_trans hb1.size hk)
theorem reach_lv {w:World} {B hb:Nat} {m:Int} {F:Nat->Prop} {s:Hst} (h:Hs w B hb m F s) {j:Nat} (hs:Sj s j) (hm:m<=4096) (kd a:Int) {cv:Value} {cs:List Int} (hC:Ri w cv cs) (hl:cs.length<=5000) :
  Calls Tryz.prog 30 #[.pointer (some ⟨hb,0,none⟩),cv] w fun e w'=>(∃ev,e=.returned ev)/\Lv w w' B hb m F kd a s:=by
 have h0:=h
 obtain⟨ab,tb,av,tv,tq,trv,ptv,hq,hf⟩:=h
 obtain⟨V,hV⟩:=hs.si.now.1
 have:=hq.hp.ar.len
 exact (hreach_any hq.hp hV (by omega) hC hl).mono fun e w' ⟨e1,e2⟩=>⟨e1,Lv.same h0 e2⟩
structure PlH (w W0:World) (B hb:Nat) (F:Nat->Prop) (s:Hst) (j:Nat) (nv rv:Value) (g:Gf):Prop where
 hE:ErrC w
 h:Hs w B hb 400 F s
 hB:B<=w.heap.size
 hF:∀k,F k->B<=k
 hs:Sj s j
 hj:j<=1000
 hW:Below W0.heap.size W0 w
 hWB:W0.heap.size<=B
 hG:Gr W0 nv rv g
 hS:Sized g
section
variable {w W0:World} {B hb:Nat} {F:Nat->Prop} {s:Hst} {j:Nat} {nv rv:Value} {g:Gf}
set_option maxHeartbeats 2000000 in
theorem play_0 (H:PlH w W0 B hb F s j nv rv g) (a b:Int) :
  Calls Tryz.prog 8 #[.pointer (some ⟨hb,0,none⟩),opV 0 nv rv a b] w fun e w'=>e=.returned (.tuple #[])/\Lv w w' B hb 400 F 0 a s:=by
 obtain⟨hE,h,hB,hF,hs,hj,hW,hWB,hG,hS⟩:=H
 have hb0:=below_alloc w (.cells #[.int .i64 0,nv,rv,.int .i64 a,.int .i64 b] 33)
 have hB0:=Nat.le_trans hB hb0.size
 have hc:=hid (put_lv (hE.below hb0) (h.below hb0) hB0 hF hs 0 a (Below.next hW hb0) hWB hG hS)
 have Hb0:=hid hb0
 have HH:=hid h
 obtain⟨na,nc,rfl,_⟩:=hG.1
 obtain⟨ra,rc,rfl,_⟩:=hG.2
 clear hE h hB hF hs hj hW hWB hG hS hb0 hB0
 go_enter Tryz.func8,Tryz.ntmps8
 go_wp2_with (go_at_call 10;refine hc.out.mono ?_;rintro e w1 ⟨⟨ev,rfl⟩,hL⟩;have HL:=hid hL;clear hL)
 go_end0
 exact⟨rfl,HL.out.from Hb0.out⟩
set_option maxHeartbeats 2000000 in
theorem play_2 (H:PlH w W0 B hb F s j nv rv g) (a b:Int) :
  Calls Tryz.prog 8 #[.pointer (some ⟨hb,0,none⟩),opV 2 nv rv a b] w fun e w'=>e=.returned (.tuple #[])/\Lv w w' B hb 400 F 2 a s:=by
 obtain⟨hE,h,hB,hF,hs,hj,hW,hWB,hG,hS⟩:=H
 have hb0:=below_alloc w (.cells #[.int .i64 2,nv,rv,.int .i64 a,.int .i64 b] 33)
 have hB0:=Nat.le_trans hB hb0.size
 have hc:=hid (look_lv (h.below hb0) hs 2 a a)
 have Hb0:=hid hb0
 have HH:=hid h
 obtain⟨na,nc,rfl,_⟩:=hG.1
 obtain⟨ra,rc,rfl,_⟩:=hG.2
 clear hE h hB hF hs hj hW hWB hG hS hb0 hB0
 go_enter Tryz.func8,Tryz.ntmps8
 go_wp2_with (go_at_call 14;refine hc.out.mono ?_;rintro e w1 ⟨⟨ev,rfl⟩,hL⟩;have HL:=hid hL;clear hL)
 go_end0
 exact⟨rfl,HL.out.from Hb0.out⟩
set_option maxHeartbeats 2000000 in
theorem play_3 (H:PlH w W0 B hb F s j nv rv g) (a b:Int) :
  Calls Tryz.prog 8 #[.pointer (some ⟨hb,0,none⟩),opV 3 nv rv a b] w fun e w'=>e=.returned (.tuple #[])/\Lv w w' B hb 400 F 3 a s:=by
 obtain⟨hE,h,hB,hF,hs,hj,hW,hWB,hG,hS⟩:=H
 have hb0:=below_alloc w (.cells #[.int .i64 3,nv,rv,.int .i64 a,.int .i64 b] 33)
 have hB0:=Nat.le_trans hB hb0.size
 have hc:=hid (bind_lv (h.below hb0) hB0 hs hj 3 a a b)
 have Hb0:=hid hb0
 have HH:=hid h
 obtain⟨na,nc,rfl,_⟩:=hG.1
 obtain⟨ra,rc,rfl,_⟩:=hG.2
 clear hE h hB hF hs hj hW hWB hG hS hb0 hB0
 go_enter Tryz.func8,Tryz.ntmps8
 go_wp2_with (go_at_call 25;refine hc.out.mono ?_;rintro e w1 ⟨⟨ev,rfl⟩,hL⟩;have HL:=hid hL;clear hL)
 go_end0
 exact⟨rfl,HL.out.from Hb0.out⟩
set_option maxHeartbeats 2000000 in
theorem play_4 (H:PlH w W0 B hb F s j nv rv g) (a b:Int) :
  Calls Tryz.prog 8 #[.pointer (some ⟨hb,0,none⟩),opV 4 nv rv a b] w fun e w'=>e=.returned (.tuple #[])/\Lv w w' B hb 400 F 4 a s:=by
 obtain⟨hE,h,hB,hF,hs,hj,hW,hWB,hG,hS⟩:=H
 have hb0:=below_alloc w (.cells #[.int .i64 4,nv,rv,.int .i64 a,.int .i64 b] 33)
 have hB0:=Nat.le_trans hB hb0.size
 have hc:=hid (merge_lv (h.below hb0) hB0 hs hj 4 a a b)
 have Hb0:=hid hb0
 have HH:=hid h
 obtain⟨na,nc,rfl,_⟩:=hG.1
 obtain⟨ra,rc,rfl,_⟩:=hG.2
 clear hE h hB hF hs hj hW hWB hG hS hb0 hB0
 go_enter Tryz.func8,Tryz.ntmps8
 go_wp2_with (go_at_call 26;refine hc.out.mono ?_;rintro e w1 ⟨⟨ev,rfl⟩,hL⟩;have HL:=hid hL;clear hL)
 go_end0
 exact⟨rfl,HL.out.from Hb0.out⟩
set_option maxHeartbeats 2000000 in
theorem play_5 (H:PlH w W0 B hb F s j nv rv g) (a b:Int) :
  Calls Tryz.prog 8 #[.pointer (some ⟨hb,0,none⟩),opV 5 nv rv a b] w fun e w'=>e=.returned (.tuple #[])/\Lv w w' B hb 400 F 5 a s:=by
 obtain⟨hE,h,hB,hF,hs,hj,hW,hWB,hG,hS⟩:=H
 have hb0:=below_alloc w (.cells #[.int .i64 5,nv,rv,.int .i64 a,.int .i64 b] 33)
 have hB0:=Nat.le_trans hB hb0.size
 have hc:=hid (point_lv (h.below hb0) hB0 hs hj)
 have Hb0:=hid hb0
 have HH:=hid h
 obtain⟨na,nc,rfl,_⟩:=hG.1
 obtain⟨ra,rc,rfl,_⟩:=hG.2
 clear hE h hB hF hs hj hW hWB hG hS hb0 hB0
 go_enter Tryz.func8,Tryz.ntmps8
 go_wp2_with (go_at_call 27;refine hc.out.mono ?_;rintro e w1 ⟨rfl,hL⟩;have HL:=hid hL;clear hL)
 go_end0
 exact⟨rfl,Lv.from Hb0.out ⟨_,.point,HL.out.1,HL.out.2⟩⟩
set_option maxHeartbeats 2000000 in
theorem play_6 (H:PlH w W0 B hb F s j nv rv g) (a b:Int) :
  Calls Tryz.prog 8 #[.pointer (some ⟨hb,0,none⟩),opV 6 nv rv a b] w fun e w'=>e=.returned (.tuple #[])/\Lv w w' B hb 400 F 6 a s:=by
 obtain⟨hE,h,hB,hF,hs,hj,hW,hWB,hG,hS⟩:=H
 have hb0:=below_alloc w (.cells #[.int .i64 6,nv,rv,.int .i64 a,.int .i64 b] 33)
 have hB0:=Nat.le_trans hB hb0.size
 have hc:=hid (undo_any (h.below hb0) hs hj a)
 have Hb0:=hid hb0
 have HH:=hid h
 obtain⟨na,nc,rfl,_⟩:=hG.1
 obtain⟨ra,rc,rfl,_⟩:=hG.2
 clear hE h hB hF hs hj hW hWB hG hS hb0 hB0
 go_enter Tryz.func8,Tryz.ntmps8
 go_wp2_with (go_at_call 28;refine hc.out.mono ?_;rintro e w1 ⟨⟨ev,rfl⟩,hL⟩;have HL:=hid hL;clear hL)
 go_end0
 exact⟨rfl,HL.out.from Hb0.out⟩
set_option maxHeartbeats 2000000 in
theorem play_7 (H:PlH w W0 B hb F s j nv rv g) (a b:Int) :
  Calls Tryz.prog 8 #[.pointer (some ⟨hb,0,none⟩),opV 7 nv rv a b] w fun e w'=>e=.returned (.tuple #[])/\Lv w w' B hb 400 F 7 a s:=by
 obtain⟨hE,h,hB,hF,hs,hj,hW,hWB,hG,hS⟩:=H
 have hb0:=below_alloc w (.cells #[.int .i64 7,nv,rv,.int .i64 a,.int .i64 b] 33)
 have hB0:=Nat.le_trans hB hb0.size
 have hc:=hid (release_any (h.below hb0) a)
 have Hb0:=hid hb0
 have HH:=hid h
 obtain⟨na,nc,rfl,_⟩:=hG.1
 obtain⟨ra,rc,rfl,_⟩:=hG.2
 clear hE h hB hF hs hj hW hWB hG hS hb0 hB0
 go_enter Tryz.func8,Tryz.ntmps8
 go_wp2_with (go_at_call 29;refine hc.out.mono ?_;rintro e w1 ⟨⟨ev,rfl⟩,hL⟩;have HL:=hid hL;clear hL)
 go_end0
 exact⟨rfl,HL.out.from Hb0.out⟩
set_option maxHeartbeats 2000000 in
theorem play_1 (H:PlH w W0 B hb F s j nv rv g) (a b:Int) :
  Calls Tryz.prog 8 #[.pointer (some ⟨hb,0,none⟩),opV 1 nv rv a b] w fun e w'=>e=.returned (.tuple #[])/\Lv w w' B hb 400 F 1 a s:=by
 obtain⟨hE,h,hB,hF,hs,hj,hW,hWB,hG,hS⟩:=H
 have hb0:=below_alloc w (.cells #[.int .i64 1,nv,rv,.int .i64 a,.int .i64 b] 33)
 have hB0:=Nat.le_trans hB hb0.size
 have hb1:=Below.next hb0 (below_alloc (w.alloc (.cells #[.int .i64 1,nv,rv,.int .i64 a,.int .i64 b] 33)) (.cells #[.int .i64 a,.int .i64 b] 3))
 have hri:=ri_lit2 (heap_alloc_new (w.alloc (.cells #[.int .i64 1,nv,rv,.int .i64 a,.int .i64 b] 33)) (.cells #[.int .i64 a,.int .i64 b] 3))
 rw[World.size_alloc] at hri
 have hc:=hid (get_lv (h.below hb1) hs (by omega) 1 a hri (by simp))
 have Hb1:=hid hb1
 clear hri hb1
 have Hb0:=hid hb0
 have HH:=hid h
 obtain⟨na,nc,rfl,_⟩:=hG.1
 obtain⟨ra,rc,rfl,_⟩:=hG.2
 clear hE h hB hF hs hj hW hWB hG hS hb0 hB0
 go_enter Tryz.func8,Tryz.ntmps8
 go_wp2_with (go_at_call 13;refine hc.out.mono ?_;rintro e w1 ⟨⟨ev,rfl⟩,hL⟩;have HL:=hid hL;clear hL)
 go_end0
 exact⟨rfl,HL.out.from Hb1.out⟩
set_option maxHeartbeats 2000000 in
theorem play_8 (H:PlH w W0 B hb F s j nv rv g) (a b:Int) :
  Calls Tryz.prog 8 #[.pointer (some ⟨hb,0,none⟩),opV 8 nv rv a b] w fun e w'=>e=.returned (.tuple #[])/\Lv w w' B hb 400 F 8 a s:=by
 obtain⟨hE,h,hB,hF,hs,hj,hW,hWB,hG,hS⟩:=H
 have hb0:=below_alloc w (.cells #[.int .i64 8,nv,rv,.int .i64 a,.int .i64 b] 33)
 have hB0:=Nat.le_trans hB hb0.size
 have hb1:=Below.next hb0 (below_alloc (w.alloc (.cells #[.int .i64 8,nv,rv,.int .i64 a,.int .i64 b] 33)) (.cells #[.int .i64 a] 3))
 have hri:=ri_lit1 (heap_alloc_new (w.alloc (.cells #[.int .i64 8,nv,rv,.int .i64 a,.int .i64 b] 33)) (.cells #[.int .i64 a] 3))
 rw[World.size_alloc] at hri
 have hc:=hid (reach_lv (h.below hb1) hs (by omega) 8 a hri (by simp))
 have Hb1:=hid hb1
 clear hri hb1
 have Hb0:=hid hb0
 have HH:=hid h
 obtain⟨na,nc,rfl,_⟩:=hG.1
 obtain⟨ra,rc,rfl,_⟩:=hG.2
 clear hE h hB hF hs hj hW hWB hG hS hb0 hB0
 go_enter Tryz.func8,Tryz.ntmps8
 go_wp2_with (go_at_call 30;refine hc.out.mono ?_;rintro e w1 ⟨⟨ev,rfl⟩,hL⟩;have HL:=hid hL;clear hL)
 go_end0
 exact⟨rfl,HL.out.from Hb1.out⟩
set_option maxHeartbeats 2000000 in
theorem play_no (H:PlH w W0 B hb F s j nv rv g) (a b:Int) (kd:Int) (hk0:kd≠0) (hk1:kd≠1) (hk2:kd≠2) (hk3:kd≠3) (hk4:kd≠4) (hk5:kd≠5) (hk6:kd≠6) (hk7:kd≠7) (hk8:kd≠8) :
  Calls Tryz.prog 8 #[.pointer (some ⟨hb,0,none⟩),opV kd nv rv a b] w fun e w'=>e=.returned (.tuple #[])/\Lv w w' B hb 400 F kd a s:=by
 obtain⟨hE,h,hB,hF,hs,hj,hW,hWB,hG,hS⟩:=H
 have hb0:=below_alloc w (.cells #[.int .i64 kd,nv,rv,.int .i64 a,.int .i64 b] 33)
 have hB0:=Nat.le_trans hB hb0.size
 have k0:(kd == 0)=false:=by simpa using hk0
 have k1:(kd == 1)=false:=by simpa using hk1
 have k2:(kd == 2)=false:=by simpa using hk2
 have k3:(kd == 3)=false:=by simpa using hk3
 have k4:(kd == 4)=false:=by simpa using hk4
 have k5:(kd == 5)=false:=by simpa using hk5
 have k6:(kd == 6)=false:=by simpa using hk6
 have k7:(kd == 7)=false:=by simpa using hk7
 have k8:(kd == 8)=false:=by simpa using hk8
 have Hb0:=hid hb0
 have HH:=hid h
 obtain⟨na,nc,rfl,_⟩:=hG.1
 obtain⟨ra,rc,rfl,_⟩:=hG.2
 clear hE h hB hF hs hj hW hWB hG hS hb0 hB0
 go_enter Tryz.func8,Tryz.ntmps8
 go_wp2_with (fail)
 go_end0
 exact⟨rfl,Lv.same HH.out Hb0.out⟩
theorem play_any (H:PlH w W0 B hb F s j nv rv g) (kd a b:Int) :
  Calls Tryz.prog 8 #[.pointer (some ⟨hb,0,none⟩),opV kd nv rv a b] w fun e w'=>e=.returned (.tuple #[])/\Lv w w' B hb 400 F kd a s:=by
 by_cases h0:kd=0
 ·subst h0;exact play_0 H a b
 by_cases h1:kd=1
 ·subst h1;exact play_1 H a b
 by_cases h2:kd=2
 ·subst h2;exact play_2 H a b
 by_cases h3:kd=3
 ·subst h3;exact play_3 H a b
 by_cases h4:kd=4
 ·subst h4;exact play_4 H a b
 by_cases h5:kd=5
 ·subst h5;exact play_5 H a b
 by_cases h6:kd=6
 ·subst h6;exact play_6 H a b
 by_cases h7:kd=7
 ·subst h7;exact play_7 H a b
 by_cases h8:kd=8
 ·subst h8;exact play_8 H a b
 exact play_no H a b kd h0 h1 h2 h3 h4 h5 h6 h7 h8
end
end Go.Proofs.YtbfbkmkjcekpaaaGreatDoor
namespace Go.Proofs.YtbfbkmkjcekpaaaGreatDoor
set_option maxRecDepth 100000
open Go.RowKit
def longB (os:List Opd):Bool:=decide (60<os.length) || os.any (fun o=>!smallK 40 o.g)
theorem longB_no {os:List Opd} (h:longB os=false):os.length<=60/\∀j,j<os.length->smallK 40 (os.getD j od0).g=true:=by
 unfold longB at h
 rw[Bool.or_eq_false_iff] at h
 refine⟨by have:=of_decide_eq_false h.1;omega,fun j hj=>?_⟩
 have h2:=List.any_eq_false.1 h.2 (os.getD j od0) (by simp[List.getD,hj])
 simpa using h2
theorem longB_yes {os:List Opd} {j:Nat} (hj:j<os.length) (h:smallK 40 (os.getD j od0).g=false):longB os=true:=by
 unfold longB
 rw[Bool.or_eq_true]
 exact Or.inr (List.any_eq_true.2 ⟨os.getD j od0,by simp[List.getD,hj],by show (!smallK 40 (os.getD j od0).g)=true;rw[h];rfl⟩)
theorem longB_end {os:List Opd} (hl:os.length<=60) (h:∀j,j<os.length->smallK 40 (os.getD j od0).g=true):longB os=false:=by
 unfold longB
 rw[Bool.or_eq_false_iff]
 refine⟨decide_eq_false (by omega),List.any_eq_false.2 (fun o ho=>?_)⟩
 obtain⟨j,hj,e⟩:=List.getElem_of_mem ho
 have:=h j hj
 rw[show os.getD j od0=o by simp[List.getD,hj,e]] at this
 simp[this]
set_option maxHeartbeats 4000000 in
theorem long_any {w:World} {v:Value} {os:List Opd} (hR:Rop w v os) :
  Calls Tryz.prog 6 #[v] w fun e w'=>e=.returned (.bool (longB os))/\Below w.heap.size w w':=by
 obtain⟨ao,c,rfl,hc⟩:=hR
 by_cases hl:60<os.length
 ·have hb:longB os=true:=by unfold longB;rw[decide_eq_true hl];rfl
  rw[hb]
  have hli:(60:Int)<(os.length:Int):=by omega
  go_enter Tryz.func6,Tryz.ntmps6
  go_wp2
  go_ret
  exact⟨rfl,Below.refl _ _⟩
 ·have hli:¬(60:Int)<(os.length:Int):=by omega
  obtain⟨bl,hbl⟩:∃bl,bl=longB os:=⟨_,rfl⟩
  rw[←hbl]
  replace hbl:=hid hbl
  go_enter Tryz.func6,Tryz.ntmps6
  go_wp2
  go_loopw [10] (fun i wr=>∃k:Nat,k<=os.length/\i=.int .i64 (k:Int)/\Hid (Below w.heap.size w wr/\∀j,j<k->smallK 40 (os.getD j od0).g=true)) (fun i _=>os.length-(intOf i).toNat)
  case atStart=>exact⟨0,Nat.zero_le _,rfl,Below.refl _ _,fun j hj=>absurd hj (Nat.not_lt_zero _)⟩
  case round=>
   obtain⟨k,hk,rfl,hS⟩:=hrel
   by_cases hlt:k<os.length
   ·have hki:(k:Int)<(os.length:Int):=by omega
    obtain⟨b,o,nv,rv,rfl,hat⟩:=hc k hlt
    obtain⟨c0,c1,c2,c3,c4,hG,hZ⟩:=hat.below hS.out.1
    have hsm:=hid (fun w1 (hb1:Below wr.heap.size wr w1)=>smallK_any (K:=40) (by decide) (hG.below hb1))
    obtain⟨na,nc,rfl,_⟩:=hG.1
    obtain⟨ra,rc,rfl,_⟩:=hG.2
    have hb0:=hid (below_alloc wr (.cells #[.int .i64 (os.getD k od0).kd,.slice na (os.getD k od0).g.nodes.length nc,.slice ra (os.getD k od0).g.roots.length rc,.int .i64 (os.getD k od0).a,.int .i64 (os.getD k od0).b] 33))
    have Hy:=hid (longB_yes hlt)
    generalize hod:os.getD k od0=od at *
    have hod':=hid hod
    clear hod hc hG hat
    cases hsk:smallK 40 od.g with
    | true=>
     rw[hsk] at hsm
     go_wp2_with (go_at_call 7;refine (hsm.out _ hb0.out).mono ?_;rintro e w2 ⟨rfl,hb2⟩;have Hb2:=hid (Below.next hb0.out hb2);clear hb2)
     go_roundw
     case rel=>exact⟨k+1,by omega,congrArg (Value.int .i64) (by omega),Below.next hS.out.1 Hb2.out,fun j hj=>by
      rcases Nat.lt_or_ge j k with h1 | h1
      ·exact hS.out.2 j h1
      ·have e:j=k:=by omega
       rw[e,hod'.out]
       exact hsk⟩
     case measure=>simp[intOf];omega
    | false=>
     rw[hsk] at hsm
     have hy:=hid (Hy.out (by exact hsk))
     go_wp2_with (go_at_call 7;refine (hsm.out _ hb0.out).mono ?_;rintro e w2 ⟨rfl,hb2⟩;have Hb2:=hid (Below.next hb0.out hb2);clear hb2)
     go_ret
     exact⟨congrArg (fun b=>Ending.returned (.bool b)) (hy.out.symm.trans hbl.out.symm),Below.next hS.out.1 Hb2.out⟩
   ·obtain rfl:k=os.length:=by omega
    have hend:=hid (longB_end (by omega) hS.out.2)
    go_wp2
    go_ret
    exact⟨congrArg (fun b=>Ending.returned (.bool b)) (hend.out.symm.trans hbl.out.symm),hS.out.1⟩
def hs0:Hst:=⟨[],[],[],[],0⟩
theorem sndN_nil (N:Nat):SndN [] N:=⟨⟨fun _=>false,⟨fun k hk=>absurd hk (Nat.not_lt_zero _),fun x hx=>(by cases hx),fun k hk=>absurd hk (Nat.not_lt_zero _),fun k hk=>absurd hk (Nat.not_lt_zero _),fun k hk=>absurd hk (Nat.not_lt_zero _),fun k hk=>absurd hk (Nat.not_lt_zero _),fun k hk=>absurd hk (Nat.not_lt_zero _)⟩⟩,⟨fun k hk=>absurd hk (Nat.not_lt_zero _),fun k hk=>absurd hk (Nat.not_lt_zero _)⟩⟩
theorem sj0:Sj hs0 0:=⟨⟨sndN_nil _,fun e he=>(by cases he),fun p hp=>(by cases hp),fun p hp=>(by cases hp),fun p hp=>(by cases hp),List.Pairwise.nil⟩,Int.le_refl _,Int.le_refl _,Nat.le_refl _,Nat.le_refl _⟩
set_option maxHeartbeats 1000000 in
theorem freshH_any (w:World) :
  Calls Tryz.prog 4 #[] w fun e w'=>(∃hb,e=.returned (.pointer (some ⟨hb,0,none⟩))/\Hs w' w.heap.size hb 400 (fun k=>w.heap.size<=k) hs0)/\Below w.heap.size w w':=by
 have hnw:=hid (hnew_ok 400 w w.heap.size (Nat.le_refl _) (by decide) (by decide))
 go_enter Tryz.func4,Tryz.ntmps4
 go_wp2_with (go_at_call 22;refine hnw.out.mono ?_;rintro e w1 ⟨⟨hb,ab,tb,tq,rfl,hH,z1,z2,z3,z4⟩,hb1⟩;have HH:=hid hH;have Hb1:=hid hb1;clear hH hb1)
 go_ret
 refine⟨⟨hb,rfl,ab,tb,.slice none 0 0,.slice none 0 0,tq,.slice none 0 0,.slice none 0 0,⟨HH.out,World.ownsRow_nil _ _ _ _,World.ownsRow_nil _ _ _ _⟩,fun k hk=>?_⟩,Hb1.out⟩
 rcases mem_qfoot.1 hk with rfl | hk | hk | hk
 ·exact z1
 ·rcases a_mem_foot.1 hk with rfl | hk
  ·exact z2
  ·simp[Value.ownBlock] at hk
 ·simp[Value.ownBlock] at hk
 ·simp[Value.ownBlock] at hk
end Go.Proofs.YtbfbkmkjcekpaaaGreatDoor

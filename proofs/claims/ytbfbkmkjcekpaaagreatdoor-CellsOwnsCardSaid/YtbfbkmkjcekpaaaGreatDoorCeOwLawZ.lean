/- CellsOwns of layer 11 holds at every graph and script: what is handed in stays, answers are new memory. -/
import Derived.Test.YtbfbkmkjcekpaaaGreatDoorow49Z
import Derived.Test.YtbfbkmkjcekpaaaGreatDoorow10Z
import Derived.Test.YtbfbkmkjcekpaaaGreatDoorow02Z
import Derived.Test.YtbfbkmkjcekpaaaGreatDoorow09Z
import Derived.Test.YtbfbkmkjcekpaaaGreatDoorow51Z
import Derived.Deep.LoopGhost
import Derived.BigQuiet
import Derived.Deep.RegionHeldLaw
import Derived.Test.YtbfbkmkjcekpaaaGreatDoorow52Z
import Derived.Test.YtbfbkmkjcekpaaaGreatDoorow44Z
import Derived.Test.YtbfbkmkjcekpaaaGreatDoorow16Z
import Derived.Test.YtbfbkmkjcekpaaaGreatDoorow23Z
import Derived.Test.YtbfbkmkjcekpaaaGreatDoorow30Z
import Derived.Test.YtbfbkmkjcekpaaaGreatDoorow08Z
import Derived.Test.YtbfbkmkjcekpaaaGreatDoorow46Z
import Derived.Test.YtbfbkmkjcekpaaaGreatDoorow48Z
import Derived.Test.YtbfbkmkjcekpaaaGreatDoorow20Z
import Derived.Test.YtbfbkmkjcekpaaaGreatDoorow42Z
namespace Go.Proofs.YtbfbkmkjcekpaaaGreatDoor
set_option maxRecDepth 100000
open Go.RowKit Go.Shelf
attribute [local go_sem] Oper.semAt_some
theorem wanted_if {o:Oper} {ys:Nat->Option Bool} {A E:Prop} (h:Region.wanted o ys=true) (ha:A):if Region.wanted o ys=true then A else E:=by
 rw[if_pos h]
 exact ha
structure DF (w W':World) (k1:Nat) (xs1:List Value) (k2:Nat) (xs2:List Value) (k3:Nat) (xs3:List Value) (t3:Nat) (pre:List (Nat×ByteArray)) (bx:Nat) (bv:Value) (Ks:Nat->Prop) (W:World):Prop where
 k:KeptK Ks W' W
 d:Dl w k1 xs1 k2 xs2 k3 xs3 t3 pre W
 b:W.heap[bx]?=some (.cells #[bv] 51)
section
variable {w W':World} {k1 k2 k3 t3:Nat} {xs1 xs2 xs3:List Value} {pre:List (Nat×ByteArray)} {a1 a2 a3 ua:Option Addr} {c1 c2 c3 uc xi:Nat} {xt:ByteArray}
theorem dl_far {wd wy wx:World} {o:Obj} {gg cp:Nat} (hd:wd.heap=W'.heap) (hby:Below wd.heap.size wd wy) (hg:(wy.alloc o).grownBy wx (Value.ownBlock (.slice ua pre.length uc))) {k:Nat} (hk:k<W'.heap.size) (h1:k≠t3) (h2:Value.ownBlock (.slice ua pre.length uc)≠some k):(wx.setCell ⟨t3,3,none⟩ (.slice (some ⟨gg,0,none⟩) (pre.length+1) cp)).heap[k]?=W'.heap[k]?:=by
 have hk':k<wd.heap.size:=by rw[hd];exact hk
 have hz:=hby.size
 rw[Below.heap_setCell _ _ _ _ h1,hg.block k (by simp;omega) (fun e=>h2 e.symm),Below.heap_alloc _ _ _ (by omega),hby.block k hk',hd]
theorem dl_cell (h1:W'.heap[t3]?=some (dmpO (.slice a1 k1 c1) (.slice a2 k2 c2) (.slice a3 k3 c3) (.slice ua pre.length uc) (.slice none 0 0))) (h3:W'.ownsRow w.heap.size 9 1 (.slice ua pre.length uc) pre.length (pre.map fun x=>Value.string x.2)) (wy wx:World) (hby:Below W'.drew.heap.size W'.drew wy) (hg:(wy.alloc (.cells #[.string xt] 9)).grownBy wx (Value.ownBlock (.slice ua pre.length uc))):wx.cell? ⟨t3,3,none⟩=some (.slice ua pre.length uc)/\wx.frozen? ⟨t3,3,none⟩=false/\t3<wx.heap.size:=by
 have hlt:=lt_of_block h1
 have hz:=hby.size
 have hzd:W'.drew.heap.size=W'.heap.size:=rfl
 have hne:Value.ownBlock (.slice ua pre.length uc)≠some t3:=fun e=>by
  obtain⟨cur,hc⟩:=row_obj h3 e
  exact obj_ne hc h1 (by decide) rfl
 have hx:wx.heap[t3]?=some (dmpO (.slice a1 k1 c1) (.slice a2 k2 c2) (.slice a3 k3 c3) (.slice ua pre.length uc) (.slice none 0 0)):=by
  rw[hg.block t3 (by simp;omega) (fun e=>hne e.symm),Below.heap_alloc _ _ _ (by omega),hby.block t3 hlt]
  exact h1
 obtain⟨⟨_,_,_,c,_⟩,⟨_,_,_,f,_⟩,z⟩:=cel_cells hx
 exact⟨c,f,z⟩
theorem dl_step {bx nb B0:Nat} {bv:Value} {L:List ByteArray} (hi:Dl w k1 xs1 k2 xs2 k3 xs3 t3 pre W') (h1:W'.heap[t3]?=some (dmpO (.slice a1 k1 c1) (.slice a2 k2 c2) (.slice a3 k3 c3) (.slice ua pre.length uc) (.slice none 0 0))) (h2:Dr w.heap.size (.slice a1 k1 c1) k1 xs1 (.slice a2 k2 c2) k2 xs2 (.slice a3 k3 c3) k3 xs3 W') (h3:W'.ownsRow w.heap.size 9 1 (.slice ua pre.length uc) pre.length (pre.map fun x=>Value.string x.2))
  (hix:W'.heap[bx]?=some (.cells #[bv] 51)) (hlp:LpB B0 W') (hnb:nb<w.heap.size) (_:w.heap.size<B0) (_:bx<W'.heap.size) (wy wx:World) (gg cp:Nat) (hby:Below W'.drew.heap.size W'.drew wy)
  (hown:wx.ownsRow w.heap.size 9 1 (.slice (some ⟨gg,0,none⟩) (pre.length+1) cp) (pre.length+1) ((pre.map fun x=>Value.string x.2)++[.string xt])) (hg:(wy.alloc (.cells #[.string xt] 9)).grownBy wx (Value.ownBlock (.slice ua pre.length uc))) (_:Value.ownBlock (.slice ua pre.length uc)=some gg∨gg=wy.heap.size+1) :
  DF w W' k1 xs1 k2 xs2 k3 xs3 t3 (pre++[(xi,xt)]) bx bv (fun k=>(k=bx∨(L≠[]/\k=nb))∨k=B0∨k=B0+1) (wx.setCell ⟨t3,3,none⟩ (.slice (some ⟨gg,0,none⟩) (pre.length+1) cp)):=by
 have hzd:W'.drew.heap.size=W'.heap.size:=rfl
 have hz:=hby.size
 have hgz:=hg.size
 have hza:(wy.alloc (.cells #[.string xt] 9)).heap.size=wy.heap.size+1:=by simp
 have hrw:∀k,Value.ownBlock (.slice ua pre.length uc)=some k->w.heap.size<=k/\∃cur,W'.heap[k]?=some (.cells cur 9):=fun k e=>by
  obtain⟨cur,hc⟩:=row_obj h3 e
  exact⟨(h3.lt k e).1,cur,hc⟩
 have far:∀{k:Nat} {o:Obj},W'.heap[k]?=some o->(∀(cs:Array Value) (x:Nat×Nat),o≠.cells cs 54 x)->(∀(cs:Array Value) (x:Nat×Nat),o≠.cells cs 9 x)->(wx.setCell ⟨t3,3,none⟩ (.slice (some ⟨gg,0,none⟩) (pre.length+1) cp)).heap[k]?=some o:=fun {k o} hk n1 n2=>
  (dl_far (W':=W') (wd:=W'.drew) (t3:=t3) (gg:=gg) (cp:=cp) rfl hby hg (lt_of_block hk) (fun e=>by subst e;rw[h1] at hk;exact n1 _ _ (Option.some.inj hk).symm) (fun e=>by
   obtain⟨_,cur,hc⟩:=hrw k e
   rw[hc] at hk
   exact n2 _ _ (Option.some.inj hk).symm)).trans hk
 have hx3:wx.heap[t3]?=some (dmpO (.slice a1 k1 c1) (.slice a2 k2 c2) (.slice a3 k3 c3) (.slice ua pre.length uc) (.slice none 0 0)):=by
  have hlt:=lt_of_block h1
  rw[hg.block t3 (by omega) (fun e=>by
   obtain⟨_,cur,hc⟩:=hrw t3 e.symm
   exact obj_ne hc h1 (by decide) rfl),Below.heap_alloc _ _ _ (by omega),hby.block t3 hlt]
  exact h1
 have hbw:Below w.heap.size w wx:=(((Below.next hi.b (Below.next (Below.refl _ W').drew hby)).alloc (by have:=hi.b.size;omega) (.cells #[.string xt] 9))).grown hg (by have:=hi.b.size;omega) (fun k e=>(hrw k e).1)
 have hne:∀{o:Obj},o=dmp0->(∀(cs:Array Value) (x:Nat×Nat),o≠.cells cs 9 x):=fun {o} e cs x e'=>by
  rw[e] at e'
  injection e' with _ e'
  exact absurd e' (by decide)
 refine⟨⟨by simp;omega,fun k hk hkl=>?_⟩,⟨hbw.setCell (p:=⟨t3,3,none⟩) (Nat.le_of_lt hi.lt) _,?_,hi.lt,a1,c1,a2,c2,a3,c3,some ⟨gg,0,none⟩,cp,?_,?_,?_⟩,?_⟩
 ·rcases hk with (rfl | ⟨_,rfl⟩) | hk
  ·rw[hix]
   exact far hix (fun cs x e=>by injection e with _ e;exact absurd e (by decide)) (fun cs x e=>by injection e with _ e;exact absurd e (by decide))
  ·refine dl_far (W':=W') (wd:=W'.drew) rfl hby hg hkl (by have:=hi.lt;omega) (fun e=>?_)
   have:=(hrw _ e).1
   omega
  ·obtain⟨o,ho,hc⟩:=hlp k hk
   rw[ho]
   exact far ho (fun cs x e=>by rw[e] at hc;cases hc) (fun cs x e=>by rw[e] at hc;cases hc)
 ·refine (dl_far (W':=W') (wd:=W'.drew) rfl hby hg (lt_of_block hi.x) (by have:=hi.lt;omega) (fun e=>?_)).trans hi.x
  obtain⟨_,cur,hc⟩:=hrw _ e
  exact obj_ne hc hi.x (by decide) rfl
 ·have h9:=heap_setCell_same wx t3 3 _ _ (.slice (some ⟨gg,0,none⟩) (pre.length+1) cp) hx3
  simpa using h9
 ·have key:∀{z:Nat} {e:TypeId} {v:Value} {n:Nat} {xs:List Value},W'.ownsRow w.heap.size e z v n xs->e≠54->e≠9->(wx.setCell ⟨t3,3,none⟩ (.slice (some ⟨gg,0,none⟩) (pre.length+1) cp)).ownsRow w.heap.size e z v n xs:=fun {z e v n xs} hr n1 n2=>row_keep hr (fun k hk'=>by
   obtain⟨cur,hc⟩:=row_obj hr hk'
   rw[hc]
   exact far hc (fun cs x e'=>by injection e' with _ e';exact n1 e') (fun cs x e'=>by injection e' with _ e';exact n2 e'))
  exact⟨key h2.r1 (by decide) (by decide),key h2.r2 (by decide) (by decide),key h2.r3 (by decide) (by decide)⟩
 ·have h9:(wx.setCell ⟨t3,3,none⟩ (.slice (some ⟨gg,0,none⟩) (pre.length+1) cp)).ownsRow w.heap.size 9 1 (.slice (some ⟨gg,0,none⟩) (pre.length+1) cp) (pre.length+1) ((pre.map fun x=>Value.string x.2)++[.string xt]):=row_keep hown (fun k hk=>Below.heap_setCell _ _ _ _ (fun e=>by
   obtain⟨cur,hc⟩:=row_obj hown hk
   exact obj_ne hc hx3 (by decide) e))
  simpa using h9
 ·exact far hix (fun cs x e=>by injection e with _ e;exact absurd e (by decide)) (fun cs x e=>by injection e with _ e;exact absurd e (by decide))
end
set_option maxHeartbeats 8000000 in
theorem dump_some (hv:Value) (ap tp:Option Addr) (nb no vc:Nat) (L:List ByteArray) (_:L≠[]) (hL1:L.length<=1024) (hLs:∀s∈L,s.size<=281474976710656) (ta:Option Addr) (tn tc:Nat) (pa:Option Addr) (pn pc:Nat) (n:Int) (k1:Nat) (xs1:List Value) (k2:Nat) (xs2:List Value) (k3:Nat) (xs3:List Value) (w:World) (hnb:nb<w.heap.size) (hrow:∀j,j<L.length->w.cell? ⟨nb,no+j,none⟩=some (.string (L.getD j ⟨#[]⟩)))
  (hself:∀w1,Below w.heap.size w w1->Calls Tryz.prog 40 #[hv] w1 fun e w'=>∃hb,e=.returned (.pointer (some ⟨hb,0,none⟩))/\w'.heap[hb]?=some (hpO ap tp (.slice ta tn tc) (.slice pa pn pc) n)/\Below w1.heap.size w1 w')
  (hwd:∀w1,Below w.heap.size w w1->Calls Tryz.prog 45 #[.pointer ap] w1 fun e w'=>∃ao c,e=.returned (.slice ao k1 c)/\w'.ownsRow w.heap.size 57 1 (.slice ao k1 c) k1 xs1/\Below w1.heap.size w1 w')
  (hc2:∀w1,Below w.heap.size w w1->Calls Tryz.prog 46 #[.slice ta tn tc] w1 fun e w'=>∃ao c,e=.returned (.slice ao k2 c)/\w'.ownsRow w.heap.size 59 2 (.slice ao k2 c) k2 xs2/\Below w1.heap.size w1 w')
  (hc3:∀w1,Below w.heap.size w w1->Calls Tryz.prog 47 #[.slice pa pn pc] w1 fun e w'=>∃ao c,e=.returned (.slice ao k3 c)/\w'.ownsRow w.heap.size 61 3 (.slice ao k3 c) k3 xs3/\Below w1.heap.size w1 w')
  (hall:∀w1,Below w.heap.size w w1->Calls Tryz.prog 48 #[.pointer tp] w1 fun e w'=>e=.returned (.func (.func 119) #[] #[.pointer (some ⟨w1.heap.size,0,none⟩)])/\w'=w1.alloc (.cells #[.slice (some ⟨nb,no,none⟩) L.length vc] 51)) :
  Calls Tryz.prog 15 #[hv] w fun e w'=>(∃a1 c1 a2 c2 a3 c3 ua uc,e=.returned (.agg #[.slice a1 k1 c1,.slice a2 k2 c2,.slice a3 k3 c3,.slice ua L.length uc,.slice none 0 0])/\Dr w.heap.size (.slice a1 k1 c1) k1 xs1 (.slice a2 k2 c2) k2 xs2 (.slice a3 k3 c3) k3 xs3 w'/\w'.ownsRow w.heap.size 9 1 (.slice ua L.length uc) L.length (L.map Value.string))/\Below w.heap.size w w':=by
 have hb0:=hid (below_alloc w dmp0)
 have hx0:=hid (heap_alloc_new w dmp0)
 have Hself:=hid hself
 have Hwd:=hid hwd
 have Hc2:=hid hc2
 have Hc3:=hid hc3
 have Hall:=hid hall
 have Hrow:=hid hrow
 have HLs:=hid hLs
 obtain⟨i0,hi0,hy0,hy1,hy2⟩:=info_parts infoS
 clear hself hwd hc2 hc3 hall hrow hLs
 refine (callsIn_wide (n:=4)).1 ?_
 refine callsIn_of_wp_marks Tryz.func15 rfl trivial ?_ rfl
 simp only[Tryz.ntmps15,List.size_toArray,List.length_cons,List.length_nil,Nat.reduceAdd,Nat.reduceSub,Array.replicate_succ,Array.replicate_zero,List.push_toArray,List.append_toArray,List.nil_append,List.cons_append]
 refine wpIn_wide.2 ?_
 go_wp2_with (go_at_call 40;refine (Hself.out _ hb0.out).mono ?_;rintro e w1 ⟨hb,rfl,hx,hb1⟩;have HD:Hid (Dk w hb (hpO ap tp (.slice ta tn tc) (.slice pa pn pc) n) w1):=⟨Below.next hb0.out hb1,(hb1.block _ (by simp)).trans hx0.out,hx⟩;obtain⟨c0,c1,c2,c3,c5⟩:=HD.out.cells;have z1:=lt_of_block HD.out.x;clear hx hb1)
 go_cut [3] from 8 to 24 (fun s3 wc=>∃t3,s3=.pointer (some ⟨t3,0,none⟩)/\Hid (Dc w hb (hpO ap tp (.slice ta tn tc) (.slice pa pn pc) n) k1 xs1 k2 xs2 k3 xs3 t3 wc))
 case first=>
  have hO:Hid (∀(cs:Array Value) (x:Nat×Nat),hpO ap tp (.slice ta tn tc) (.slice pa pn pc) n≠.cells cs 54 x):=fun cs x e=>by injection e with _ e;exact absurd e (by decide)
  go_region_held3 (fun w'=>w'.cell? ⟨hb,0,none⟩=some (.pointer ap)/\w'.cell? ⟨hb,2,none⟩=some (.slice ta tn tc)/\w'.cell? ⟨hb,3,none⟩=some (.slice pa pn pc)) (first | (with_reducible exact⟨c0,c2,c3⟩) | (with_reducible exact sk_al ⟨c0,c2,c3⟩) | (with_reducible exact sk_dr ⟨c0,c2,c3⟩) | (with_reducible exact sk_dr (sk_al ⟨c0,c2,c3⟩)) | (with_reducible exact sk_set hne ⟨c0,c2,c3⟩))
   (first
    | (go_at_call 45;refine (Hwd.out _ (by first | (with_reducible exact HD.out.drew.b) | (with_reducible exact (HD.out.next (below_alloc w1 dmp0)).drew.b))).mono ?_;rintro e w2 ⟨ao1,cc1,rfl,hr1,hb2⟩;have hb3:Below w1.heap.size w1 w2:=(by first | (with_reducible exact Below.next (Below.refl _ w1).drew hb2) | (with_reducible exact Below.next (Below.next (below_alloc w1 dmp0) (Below.refl _ (w1.alloc dmp0)).drew) hb2));have zb2:=hb3.size;have HR1:=hid hr1;(try (have hbT:Below (World.alloc w1 dmp0).drew.heap.size (World.alloc w1 dmp0).drew w2:=(by with_reducible exact hb2);have HT:=hid ((hbT.block _ (by show w1.heap.size<(w1.alloc dmp0).heap.size;simp)).trans (heap_alloc_new w1 dmp0));clear hbT;obtain⟨⟨y0,y1,y2,y3,y4⟩,⟨f0,f1,f2,f3,f4⟩,yz⟩:=cel_cells HT.out));replace HD:=hid (HD.out.next hb3);(try (have hne:=HD.out.ne HT.out));clear hb2 hr1 hb3 c0 c1 c2 c3 c5;obtain⟨c0,c1,c2,c3,c5⟩:=HD.out.cells)
    | (go_at_call 46;refine (Hc2.out _ (by first | (with_reducible exact HD.out.b) | (with_reducible exact (HD.out.next (below_alloc w2 dmp0)).b))).mono ?_;rintro e w3 ⟨ao2,cc2,rfl,hr1,hb2⟩;have hb3:Below w2.heap.size w2 w3:=(by first | (with_reducible exact hb2) | (with_reducible exact Below.next (below_alloc w2 dmp0) hb2));have zb3:=hb3.size;have HR2:=hid hr1;replace HR1:=hid (row_below HR1.out hb3);(try (replace HT:=hid ((hb3.block _ (lt_of_block HT.out)).trans HT.out);clear y0 y1 y2 y3 y4 f0 f1 f2 f3 f4 yz;obtain⟨⟨y0,y1,y2,y3,y4⟩,⟨f0,f1,f2,f3,f4⟩,yz⟩:=cel_cells HT.out));(try (have hbT:Below (World.alloc w2 dmp0).heap.size (World.alloc w2 dmp0) w3:=(by with_reducible exact hb2);have HT:=hid ((hbT.block _ (by simp)).trans (heap_alloc_new w2 dmp0));clear hbT;obtain⟨⟨y0,y1,y2,y3,y4⟩,⟨f0,f1,f2,f3,f4⟩,yz⟩:=cel_cells HT.out));replace HD:=hid (HD.out.next hb3);(try (have hne:=HD.out.ne HT.out));clear hb2 hr1 hb3 c0 c1 c2 c3 c5;obtain⟨c0,c1,c2,c3,c5⟩:=HD.out.cells)
    | (go_at_call 47;refine (Hc3.out _ (by first | (with_reducible exact HD.out.b) | (with_reducible exact (HD.out.next (below_alloc w3 dmp0)).b))).mono ?_;rintro e w4 ⟨ao3,cc3,rfl,hr1,hb2⟩;have hb3:Below w3.heap.size w3 w4:=(by first | (with_reducible exact hb2) | (with_reducible exact Below.next (below_alloc w3 dmp0) hb2));have zb4:=hb3.size;have HR3:=hid hr1;replace HR1:=hid (row_below HR1.out hb3);replace HR2:=hid (row_below HR2.out hb3);(try (replace HT:=hid ((hb3.block _ (lt_of_block HT.out)).trans HT.out);clear y0 y1 y2 y3 y4 f0 f1 f2 f3 f4 yz;obtain⟨⟨y0,y1,y2,y3,y4⟩,⟨f0,f1,f2,f3,f4⟩,yz⟩:=cel_cells HT.out));(try (have hbT:Below (World.alloc w3 dmp0).heap.size (World.alloc w3 dmp0) w4:=(by with_reducible exact hb2);have HT:=hid ((hbT.block _ (by simp)).trans (heap_alloc_new w3 dmp0));clear hbT;obtain⟨⟨y0,y1,y2,y3,y4⟩,⟨f0,f1,f2,f3,f4⟩,yz⟩:=cel_cells HT.out));replace HD:=hid (HD.out.next hb3);(try (have hne:=HD.out.ne HT.out));clear hb2 hr1 hb3 c0 c1 c2 c3 c5;obtain⟨c0,c1,c2,c3,c5⟩:=HD.out.cells))
  all_goals go_wp2_with fail
  all_goals go_meet
  all_goals first
   | exact⟨_,rfl,Dc.late HD.out (by have:=lt_of_block HD.out.x;omega) HR1.out HR2.out HR3.out⟩
   | exact⟨_,rfl,Dc.early HD.out hO.out (by omega) HT.out HR1.out HR2.out HR3.out⟩
 case rest=>
  obtain⟨t3,rfl,hW⟩:=hcut
  obtain⟨c0',c1',c2',c3',c5'⟩:=hW.out.d.cells
  go_wp2_with (go_at_call 48;refine (Hall.out _ hW.out.d.b).mono ?_;rintro e w6 ⟨rfl,hw⟩;subst hw)
  refine (wpIn_wide (n:=4)).1 ?_
  obtain⟨W0,hW0⟩:∃W0,wc.alloc (.cells #[.slice (some ⟨nb,no,none⟩) L.length vc] 51)=W0:=⟨_,rfl⟩
  have hbx:W0.heap[wc.heap.size]?=some (.cells #[.slice (some ⟨nb,no,none⟩) L.length vc] 51):=by rw[←hW0];exact heap_alloc_new wc _
  have hb6:Below wc.heap.size wc W0:=by rw[←hW0];exact below_alloc wc _
  have hz0:W0.heap.size=wc.heap.size+1:=by rw[←hW0];simp
  have hI0:Hid (Dl w k1 xs1 k2 xs2 k3 xs3 t3 [] W0):=by
   obtain⟨a1,e1,a2,e2,a3,e3,h1,h2⟩:=hW.out.r
   refine⟨Below.next hW.out.d.b hb6,(hb6.block _ (lt_of_block hW.out.d.x)).trans hW.out.d.x,hW.out.lt,a1,e1,a2,e2,a3,e3,none,0,(hb6.block _ (lt_of_block h1)).trans h1,⟨row_below h2.r1 hb6,row_below h2.r2 hb6,row_below h2.r3 hb6⟩,World.ownsRow_nil _ _ _ _⟩
  have hzx:w.heap.size<W0.heap.size:=lt_of_block hI0.out.x
  have hzw:w.heap.size<=W0.heap.size:=hI0.out.b.size
  have hrow0:∀j,j<L.length->W0.cell? ⟨nb,no+j,none⟩=some (.string (L.getD j ⟨#[]⟩)):=fun j hj=>(hI0.out.b.cell (p:=⟨nb,no+j,none⟩) hnb).trans (Hrow.out j hj)
  rw[hW0]
  clear hW0 hW c0' c1' c2' c3' c5' c0 c1 c2 c3 c5
  refine range_toldK (Ks:=fun k=>k=wc.heap.size∨(L≠[]/\k=nb)) (encs:=encA) rfl (enters_of Tryz.func119 (by kernel_rfl) rfl) (fun _=>rfl) (by omega) (fun k hk=>by rcases hk with rfl | ⟨_,rfl⟩ <;> omega) (sallK_tells L nb no vc 3 wc.heap.size W0 (by omega) (by omega) hbx hrow0)
   (I:=fun pre W=>Dl w k1 xs1 k2 xs2 k3 xs3 t3 pre W/\W.heap[wc.heap.size]?=some (.cells #[.slice (some ⟨nb,no,none⟩) L.length vc] 51)) (Ix:=fun _ _ _=>False) (fun pre A A' h hn=>⟨h.1.nb hn hzw,hn.block _ _ h.2 (Or.inr rfl)⟩) (fun c pre A A' h hn=>h) (fun pre x A A' h hn=>h) ⟨hI0.out,hbx⟩
   (Ax:=fun x a' _=>a'={ tmps:=#[.pointer (some ⟨hb,0,none⟩),undef,.pointer (some ⟨w.heap.size,0,none⟩),.pointer (some ⟨t3,0,none⟩),undef,.string x.2,hv,.pointer (some ⟨hb,0,none⟩),u8,u9,u10,u11,u12,u13,u14,u15,u16,u17,u18,u19,u20,u21,u22,u23,u24,.pointer (some ⟨hb,0,none⟩),.pointer (some ⟨hb,0,none⟩),.pointer (some ⟨hb,1,none⟩),.pointer (some ⟨hb,1,none⟩),.pointer tp,.func (.func 119) #[] #[.pointer (some ⟨wc.heap.size,0,none⟩)],.int .i64 (x.1:Int),.string x.2,undef,undef,undef,undef,undef,undef,undef,undef],defers:=[] }) (fun _ _ _ _ h _=>h) ?assign ?body ?done ?stop
  case assign=>
   intro l x W' K hzl hK
   simp only[encA]
   gi_wp2
   exact hK _ _ (Below.refl _ _) rfl
  case body=>
   rintro l pre x a' W' ⟨hi,hix⟩ ⟨hp1,hp2,hp3⟩ rfl hlp
   obtain⟨a1,e1,a2,e2,a3,e3,ua,uc,h1,h2,h3⟩:=hi.r
   have hxs:x.2.size<=281474976710656:=by
    rw[hp3]
    exact HLs.out _ (by simp[List.getD,hp2])
   obtain⟨xi,xt⟩:=x
   dsimp only at *
   have hClo:=hid (fun w=>n_clone_any xt w hxs)
   have Hst:=hid (dl_step (L:=L) (xi:=xi) (xt:=xt) hi h1 h2 h3 hix hlp hnb hzx (by have:=lt_of_block hix;omega))
   have Hc3:=hid (dl_cell (xt:=xt) (w:=w) h1 h3)
   have D3:Hid (W'.drew.cell? ⟨t3,3,none⟩=some (.slice ua pre.length uc)):=(cel_cells h1).1.2.2.2.1
   have zt:t3<W'.drew.heap.size:=lt_of_block h1
   have H3:Hid (W'.drew.ownsRow w.heap.size 9 1 (.slice ua pre.length uc) pre.length (pre.map fun x=>Value.string x.2)):=row_below h3 (Below.refl _ W').drew
   have hzd:w.heap.size<=W'.drew.heap.size:=hi.b.size
   have hpl:pre.length<1024:=by omega
   clear hi h1 h2 h3 hix hlp hp1 hp3 hxs
   gi_wp2
   refine wpIn_region_any (by kernel_rfl) ?_
   change wpAnyIn _ _ _ _ _ _ _ _ _ W'.drew
   generalize W'.drew=wd at *
   refine wpAnyIn_inv (fun i o hi=>noDefer_at (by kernel_rfl) hi) (fun la a wx=>la.size=8/\Clo (fun k=>match k with | 1=>[0] | 3=>[2] | 4=>[3] | 5=>[1,4,3] | 6=>[0,1,2,3,4,5] | 7=>[6,5,0,1,2,3,4] | _=>[]) la/\∃qq:Nat,∃gg:Nat,∃cp:Nat,a=(⟨#[.pointer (some ⟨hb,0,none⟩),undef,.pointer (some ⟨w.heap.size,0,none⟩),.pointer (some ⟨t3,0,none⟩),undef,.string xt,hv,.pointer (some ⟨hb,0,none⟩),u8,u9,u10,u11,u12,u13,u14,u15,u16,u17,u18,u19,u20,u21,u22,u23,u24,.pointer (some ⟨hb,0,none⟩),.pointer (some ⟨hb,0,none⟩),.pointer (some ⟨hb,1,none⟩),.pointer (some ⟨hb,1,none⟩),.pointer tp,.func (.func 119) #[] #[.pointer (some ⟨wc.heap.size,0,none⟩)],.int .i64 (xi:Int),.string xt,(selV (bitA la 0) (.pointer (some ⟨t3,3,none⟩)) undef),(selV (bitA la 1) (.slice ua pre.length uc) undef),(selV (bitA la 2) (.string xt) undef),(selV (bitA la 3) (.string xt) undef),(selV (bitA la 4) (.slice (some ⟨qq,0,none⟩) 1 1) undef),(selV (bitA la 5) (.slice (some ⟨gg,0,none⟩) (pre.length+1) cp) undef),(selV (bitA la 6) (.pointer (some ⟨t3,3,none⟩)) undef),undef],[]⟩:Act)/\(bitA la 3=false->wx=wd)/\(bitA la 3=true->bitA la 4=false->Below wd.heap.size wd wx)/\(bitA la 4=true->bitA la 5=false->∃wy,Below wd.heap.size wd wy/\qq=wy.heap.size/\wx=wy.alloc (.cells #[.string xt] 9))/\(bitA la 5=true->bitA la 7=false->∃wy,Below wd.heap.size wd wy/\wx.ownsRow w.heap.size 9 1 (.slice (some ⟨gg,0,none⟩) (pre.length+1) cp) (pre.length+1) ((pre.map fun x=>Value.string x.2)++[.string xt])/\(wy.alloc (.cells #[.string xt] 9)).grownBy wx (Value.ownBlock (.slice ua pre.length uc))/\(Value.ownBlock (.slice ua pre.length uc)=some gg∨gg=wy.heap.size+1))/\(bitA la 7=true->DF w W' k1 xs1 k2 xs2 k3 xs3 t3 (pre++[(xi,xt)]) wc.heap.size (.slice (some ⟨nb,no,none⟩) L.length vc) (fun k=>(k=wc.heap.size∨(L≠[]/\k=nb))∨k=W0.heap.size∨k=W0.heap.size+1) wx)) ?_ ?_ _ _ _ _ (by decide) ?_
   case refine_3=>
    exact⟨by simp,Clo.start _ _,0,0,0,rfl,fun _=>rfl,fun e=>absurd e (by decide),fun e=>absurd e (by decide),fun e=>absurd e (by decide),fun e=>absurd e (by decide)⟩
   case refine_1=>
    rintro la a wx ⟨hl,hcl,qq,gg,cp,rfl,hs0,hs1,hs2,hs3,hs4⟩ i hi
    obtain⟨i1,i2,i3⟩:=ready_spec hi
    have hiN:i<8:=i1
    rw[←goppN hl hiN] at i2
    clear hi i1
    have hcs:i=0∨i=1∨i=2∨i=3∨i=4∨i=5∨i=6∨i=7:=by omega
    rcases hcs with rfl | rfl | rfl | rfl | rfl | rfl | rfl | rfl
    ·have b5:bitA la 5=false:=by cases e:bitA la 5 with | false=>rfl | true=>exact absurd (hcl 1 (hcl 5 e 1 (by decide)) 0 (by decide)) (by rw[i2];simp)
     have b7:bitA la 7=false:=by cases e:bitA la 7 with | false=>rfl | true=>exact absurd (hcl 7 e 0 (by decide)) (by rw[i2];simp)
     clear b5 b7
     have HL:=hid hl;clear hl
     refine wpOpS_step rfl (fun K hK=>?_)
     go_simp
     refine hK _ _ ⟨by simpa using HL.out,hcl.step HL.out (by decide) ?_,qq,gg,cp,?_,?_,?_,?_,?_,?_⟩
     ·intro d hd;cases hd
     ·simp only[gsetN la 0 _ HL.out (by decide)];rfl
     ·intro e3;rw[gsetN la 0 3 HL.out (by decide),if_neg (by decide)] at e3;exact hs0 e3
     ·intro e3 e4;rw[gsetN la 0 3 HL.out (by decide),if_neg (by decide)] at e3;rw[gsetN la 0 4 HL.out (by decide),if_neg (by decide)] at e4;exact hs1 e3 e4
     ·intro e4 e5;rw[gsetN la 0 4 HL.out (by decide),if_neg (by decide)] at e4;rw[gsetN la 0 5 HL.out (by decide),if_neg (by decide)] at e5;exact hs2 e4 e5
     ·intro e5 e7;rw[gsetN la 0 5 HL.out (by decide),if_neg (by decide)] at e5;rw[gsetN la 0 7 HL.out (by decide),if_neg (by decide)] at e7;exact hs3 e5 e7
     ·intro e7;rw[gsetN la 0 7 HL.out (by decide),if_neg (by decide)] at e7;exact hs4 e7
    ·have i4:bitA la 0=true:=by simpa[Region.binds,bitA] using i3
     have b5:bitA la 5=false:=by cases e:bitA la 5 with | false=>rfl | true=>exact absurd (hcl 5 e 1 (by decide)) (by rw[i2];simp)
     have b7:bitA la 7=false:=by cases e:bitA la 7 with | false=>rfl | true=>exact absurd (hcl 7 e 1 (by decide)) (by rw[i2];simp)
     have c3:wx.cell? ⟨t3,3,none⟩=some (.slice ua pre.length uc):=by cases e3:bitA la 3 with | false=>rw[hs0 e3];exact D3.out | true=>cases e4:bitA la 4 with | false=>exact ((hs1 e3 e4).cell (p:=⟨t3,3,none⟩) zt).trans D3.out | true=>obtain⟨wy,hby,_,hwx⟩:=hs2 e4 b5;rw[hwx];exact ((Below.next hby (below_alloc wy _)).cell (p:=⟨t3,3,none⟩) zt).trans D3.out
     clear b5 b7
     have HL:=hid hl;clear hl
     refine wpOpS_step rfl (fun K hK=>?_)
     simp only[i4,selV_t]
     go_simp
     refine hK _ _ ⟨by simpa using HL.out,hcl.step HL.out (by decide) ?_,qq,gg,cp,?_,?_,?_,?_,?_,?_⟩
     ·show ∀d∈[0],_;simp only[List.mem_singleton];rintro d rfl;exact i4
     ·simp only[gsetN la 1 _ HL.out (by decide),i4];rfl
     ·intro e3;rw[gsetN la 1 3 HL.out (by decide),if_neg (by decide)] at e3;exact hs0 e3
     ·intro e3 e4;rw[gsetN la 1 3 HL.out (by decide),if_neg (by decide)] at e3;rw[gsetN la 1 4 HL.out (by decide),if_neg (by decide)] at e4;exact hs1 e3 e4
     ·intro e4 e5;rw[gsetN la 1 4 HL.out (by decide),if_neg (by decide)] at e4;rw[gsetN la 1 5 HL.out (by decide),if_neg (by decide)] at e5;exact hs2 e4 e5
     ·intro e5 e7;rw[gsetN la 1 5 HL.out (by decide),if_neg (by decide)] at e5;rw[gsetN la 1 7 HL.out (by decide),if_neg (by decide)] at e7;exact hs3 e5 e7
     ·intro e7;rw[gsetN la 1 7 HL.out (by decide),if_neg (by decide)] at e7;exact hs4 e7
    ·have b3:bitA la 3=false:=by cases e:bitA la 3 with | false=>rfl | true=>exact absurd (hcl 3 e 2 (by decide)) (by rw[i2];simp)
     have b4:bitA la 4=false:=by cases e:bitA la 4 with | false=>rfl | true=>exact absurd (hcl 3 (hcl 4 e 3 (by decide)) 2 (by decide)) (by rw[i2];simp)
     have b5:bitA la 5=false:=by cases e:bitA la 5 with | false=>rfl | true=>exact absurd (hcl 3 (hcl 5 e 3 (by decide)) 2 (by decide)) (by rw[i2];simp)
     have b7:bitA la 7=false:=by cases e:bitA la 7 with | false=>rfl | true=>exact absurd (hcl 7 e 2 (by decide)) (by rw[i2];simp)
     have e0:=hs0 b3
     subst e0
     have HL:=hid hl;clear hl
     have Hb3:=hid b3;clear b3
     have Hb4:=hid b4;clear b4
     have Hb5:=hid b5;clear b5
     have Hb7:=hid b7;clear b7
     refine wpOpS_step rfl (fun K hK=>?_)
     go_simp
     refine hK _ _ ⟨by simpa using HL.out,hcl.step HL.out (by decide) ?_,qq,gg,cp,?_,?_,?_,?_,?_,?_⟩
     ·intro d hd;cases hd
     ·simp only[gsetN la 2 _ HL.out (by decide)];rfl
     ·intro _;rfl
     ·intro e;rw[gsetN la 2 3 HL.out (by decide),if_neg (by decide),Hb3.out] at e;cases e
     ·intro e;rw[gsetN la 2 4 HL.out (by decide),if_neg (by decide),Hb4.out] at e;cases e
     ·intro e;rw[gsetN la 2 5 HL.out (by decide),if_neg (by decide),Hb5.out] at e;cases e
     ·intro e;rw[gsetN la 2 7 HL.out (by decide),if_neg (by decide),Hb7.out] at e;cases e
    ·have i4:bitA la 2=true:=by simpa[Region.binds,bitA] using i3
     have b3:bitA la 3=false:=i2
     have b4:bitA la 4=false:=by cases e:bitA la 4 with | false=>rfl | true=>exact absurd (hcl 4 e 3 (by decide)) (by rw[i2];simp)
     have b5:bitA la 5=false:=by cases e:bitA la 5 with | false=>rfl | true=>exact absurd (hcl 5 e 3 (by decide)) (by rw[i2];simp)
     have b7:bitA la 7=false:=by cases e:bitA la 7 with | false=>rfl | true=>exact absurd (hcl 7 e 3 (by decide)) (by rw[i2];simp)
     have e0:=hs0 b3
     subst e0
     have HL:=hid hl;clear hl
     have Hb3:=hid b3;clear b3
     have Hb4:=hid b4;clear b4
     have Hb5:=hid b5;clear b5
     have Hb7:=hid b7;clear b7
     refine wpOpS_step rfl (fun K hK=>?_)
     simp only[i4,selV_t]
     go_simp
     go_at_call 49
     refine (hClo.out _).mono ?_
     rintro e wy ⟨rfl,hby⟩
     refine hK _ _ ⟨by simpa using HL.out,hcl.step HL.out (by decide) ?_,qq,gg,cp,?_,?_,?_,?_,?_,?_⟩
     ·show ∀d∈[2],_;simp only[List.mem_singleton];rintro d rfl;exact i4
     ·simp only[gsetN la 3 _ HL.out (by decide),i4];rfl
     ·intro e3;rw[gsetN la 3 3 HL.out (by decide),if_pos rfl] at e3;cases e3
     ·intro _ _;exact hby
     ·intro e;rw[gsetN la 3 4 HL.out (by decide),if_neg (by decide),Hb4.out] at e;cases e
     ·intro e;rw[gsetN la 3 5 HL.out (by decide),if_neg (by decide),Hb5.out] at e;cases e
     ·intro e;rw[gsetN la 3 7 HL.out (by decide),if_neg (by decide),Hb7.out] at e;cases e
    ·have i4:bitA la 3=true:=by simpa[Region.binds,bitA] using i3
     have b4:bitA la 4=false:=i2
     have b5:bitA la 5=false:=by cases e:bitA la 5 with | false=>rfl | true=>exact absurd (hcl 5 e 4 (by decide)) (by rw[i2];simp)
     have b7:bitA la 7=false:=by cases e:bitA la 7 with | false=>rfl | true=>exact absurd (hcl 7 e 4 (by decide)) (by rw[i2];simp)
     have e0:=hs1 i4 b4
     have HL:=hid hl;clear hl
     have Hb4:=hid b4;clear b4
     have Hb5:=hid b5;clear b5
     have Hb7:=hid b7;clear b7
     refine wpOpS_step rfl (fun K hK=>?_)
     simp only[i4,selV_t]
     go_simp
     refine hK _ _ ⟨by simpa using HL.out,hcl.step HL.out (by decide) ?_,wx.heap.size,gg,cp,?_,?_,?_,?_,?_,?_⟩
     ·show ∀d∈[3],_;simp only[List.mem_singleton];rintro d rfl;exact i4
     ·simp only[gsetN la 4 _ HL.out (by decide),i4,Hb4.out];rfl
     ·intro e3;rw[gsetN la 4 3 HL.out (by decide),if_neg (by decide),i4] at e3;cases e3
     ·intro e3 e4;rw[gsetN la 4 4 HL.out (by decide),if_pos rfl] at e4;cases e4
     ·intro _ _;exact⟨wx,e0,rfl,rfl⟩
     ·intro e;rw[gsetN la 4 5 HL.out (by decide),if_neg (by decide),Hb5.out] at e;cases e
     ·intro e;rw[gsetN la 4 7 HL.out (by decide),if_neg (by decide),Hb7.out] at e;cases e
    ·have j1:bitA la 1=true:=dep_at i3 rfl (j:=0) rfl rfl
     have j4:bitA la 4=true:=dep_at i3 rfl (j:=1) rfl rfl
     have j3:bitA la 3=true:=dep_at i3 rfl (j:=2) rfl rfl
     have b5:bitA la 5=false:=i2
     have b7:bitA la 7=false:=by cases e:bitA la 7 with | false=>rfl | true=>exact absurd (hcl 7 e 5 (by decide)) (by rw[i2];simp)
     have e0:=hs2 j4 b5
     obtain⟨wy,hby,rfl,rfl⟩:=e0
     have hown5:=(row_below H3.out (Below.next hby (below_alloc wy (.cells #[.string xt] 9))))
     have hzy:w.heap.size<=wy.heap.size:=by have:=hby.size;omega
     have HL:=hid hl;clear hl
     have Hb5:=hid b5;clear b5
     have Hb7:=hid b7;clear b7
     refine wpOpS_step rfl (fun K hK=>?_)
     simp only[j1,j4,selV_t]
     refine wanted_if rfl ?_
     refine wp_append_lies _ _ _ _ (by rfl) w.heap.size 9 i0 (.string ⟨#[]⟩) 1 16 Tryz.underlying51 hi0 hy0 hy1 hy2 rfl (by omega) _ pre.length (pre.map fun x=>Value.string x.2) (by rfl) hown5 ⟨wy.heap.size,0,none⟩ 1 1 [.string xt] (by rfl) (by rfl) (World.news_of_block (cs:=#[.string xt]) (t:=9) (fr:=(0,0)) (heap_alloc_new wy _)) (by simp[Value.oneCell']) (by omega) (by unfold maxLen;omega) (by omega) (by simp;omega) (wy.heap.size+1) (by simp) ?_
     intro g' cp' wv hown' hg' hat' hlt'
     refine hK _ _ ⟨by simpa using HL.out,hcl.step HL.out (by decide) ?_,wy.heap.size,g',cp',?_,?_,?_,?_,?_,?_⟩
     ·show ∀d∈[1,4,3],_;simp only[List.mem_cons,List.not_mem_nil,or_false];rintro d (rfl | rfl | rfl) <;> first | exact j1 | exact j4 | exact j3
     ·simp only[gsetN la 5 _ HL.out (by decide),j1,j4,j3,Hb5.out];rfl
     ·intro e3;rw[gsetN la 5 3 HL.out (by decide),if_neg (by decide),j3] at e3;cases e3
     ·intro e3 e4;rw[gsetN la 5 4 HL.out (by decide),if_neg (by decide),j4] at e4;cases e4
     ·intro e4 e5;rw[gsetN la 5 5 HL.out (by decide),if_pos rfl] at e5;cases e5
     ·intro _ _;exact⟨wy,hby,hown',hg',hat'⟩
     ·intro e;rw[gsetN la 5 7 HL.out (by decide),if_neg (by decide),Hb7.out] at e;cases e
    ·have j0:bitA la 0=true:=dep_at i3 rfl (j:=0) rfl rfl
     have j1:bitA la 1=true:=dep_at i3 rfl (j:=1) rfl rfl
     have j2:bitA la 2=true:=dep_at i3 rfl (j:=2) rfl rfl
     have j3:bitA la 3=true:=dep_at i3 rfl (j:=3) rfl rfl
     have j4:bitA la 4=true:=dep_at i3 rfl (j:=4) rfl rfl
     have j5:bitA la 5=true:=dep_at i3 rfl (j:=5) rfl rfl
     have b7:bitA la 7=false:=by cases e:bitA la 7 with | false=>rfl | true=>exact absurd (hcl 7 e 6 (by decide)) (by rw[i2];simp)
     clear b7
     have HL:=hid hl;clear hl
     refine wpOpS_step rfl (fun K hK=>?_)
     go_simp
     refine hK _ _ ⟨by simpa using HL.out,hcl.step HL.out (by decide) ?_,qq,gg,cp,?_,?_,?_,?_,?_,?_⟩
     ·show ∀d∈[0,1,2,3,4,5],_;simp only[List.mem_cons,List.not_mem_nil,or_false];rintro d (rfl | rfl | rfl | rfl | rfl | rfl) <;> first | exact j0 | exact j1 | exact j2 | exact j3 | exact j4 | exact j5
     ·simp only[gsetN la 6 _ HL.out (by decide),j0,j1,j2,j3,j4,j5];rfl
     ·intro e3;rw[gsetN la 6 3 HL.out (by decide),if_neg (by decide)] at e3;exact hs0 e3
     ·intro e3 e4;rw[gsetN la 6 3 HL.out (by decide),if_neg (by decide)] at e3;rw[gsetN la 6 4 HL.out (by decide),if_neg (by decide)] at e4;exact hs1 e3 e4
     ·intro e4 e5;rw[gsetN la 6 4 HL.out (by decide),if_neg (by decide)] at e4;rw[gsetN la 6 5 HL.out (by decide),if_neg (by decide)] at e5;exact hs2 e4 e5
     ·intro e5 e7;rw[gsetN la 6 5 HL.out (by decide),if_neg (by decide)] at e5;rw[gsetN la 6 7 HL.out (by decide),if_neg (by decide)] at e7;exact hs3 e5 e7
     ·intro e7;rw[gsetN la 6 7 HL.out (by decide),if_neg (by decide)] at e7;exact hs4 e7
    ·have j6:bitA la 6=true:=dep_at i3 rfl (j:=0) rfl rfl
     have j5:bitA la 5=true:=dep_at i3 rfl (j:=1) rfl rfl
     have j0:bitA la 0=true:=dep_at i3 rfl (j:=3) rfl rfl
     have j1:bitA la 1=true:=dep_at i3 rfl (j:=4) rfl rfl
     have j2:bitA la 2=true:=dep_at i3 rfl (j:=5) rfl rfl
     have j3:bitA la 3=true:=dep_at i3 rfl (j:=6) rfl rfl
     have j4:bitA la 4=true:=dep_at i3 rfl (j:=7) rfl rfl
     have b7:bitA la 7=false:=i2
     have e0:=hs3 j5 b7
     obtain⟨wy,hby,hown,hg,hat⟩:=e0
     have hfi:=hid (Hst.out wy wx gg cp hby hown hg hat)
     obtain⟨c3,f3,z3⟩:=Hc3.out wy wx hby hg
     clear hby hown hg hat
     have HL:=hid hl;clear hl
     have Hb7:=hid b7;clear b7
     refine wpOpS_step rfl (fun K hK=>?_)
     simp only[j6,j5,selV_t]
     go_simp
     refine hK _ _ ⟨by simpa using HL.out,hcl.step HL.out (by decide) ?_,qq,gg,cp,?_,?_,?_,?_,?_,?_⟩
     ·show ∀d∈[6,5,0,1,2,3,4],_;simp only[List.mem_cons,List.not_mem_nil,or_false];rintro d (rfl | rfl | rfl | rfl | rfl | rfl | rfl) <;> first | exact j6 | exact j5 | exact j0 | exact j1 | exact j2 | exact j3 | exact j4
     ·simp only[gsetN la 7 _ HL.out (by decide),j6,j5,j0,j1,j2,j3,j4];rfl
     ·intro e3;rw[gsetN la 7 3 HL.out (by decide),if_neg (by decide),j3] at e3;cases e3
     ·intro e3 e4;rw[gsetN la 7 4 HL.out (by decide),if_neg (by decide),j4] at e4;cases e4
     ·intro e4 e5;rw[gsetN la 7 5 HL.out (by decide),if_neg (by decide),j5] at e5;cases e5
     ·intro e5 e7;rw[gsetN la 7 7 HL.out (by decide),if_pos rfl] at e7;cases e7
     ·intro _;exact hfi.out
   case refine_2=>
    rintro la a wx ⟨hl,hcl,qq,gg,cp,rfl,hs0,hs1,hs2,hs3,hs4⟩ hr
    have n0:bitA la 0=true:=by
     rw[goppN hl (by omega)]
     exact noneN hr (i:=0) (by decide) (by simp[Region.binds])
    have m0:la[0]?.getD false=true:=by simpa[bitA] using n0
    have n1:bitA la 1=true:=by
     rw[goppN hl (by omega)]
     exact noneN hr (i:=1) (by decide) (by simp[Region.binds,m0])
    have m1:la[1]?.getD false=true:=by simpa[bitA] using n1
    have n2:bitA la 2=true:=by
     rw[goppN hl (by omega)]
     exact noneN hr (i:=2) (by decide) (by simp[Region.binds])
    have m2:la[2]?.getD false=true:=by simpa[bitA] using n2
    have n3:bitA la 3=true:=by
     rw[goppN hl (by omega)]
     exact noneN hr (i:=3) (by decide) (by simp[Region.binds,m2])
    have m3:la[3]?.getD false=true:=by simpa[bitA] using n3
    have n4:bitA la 4=true:=by
     rw[goppN hl (by omega)]
     exact noneN hr (i:=4) (by decide) (by simp[Region.binds,m3])
    have m4:la[4]?.getD false=true:=by simpa[bitA] using n4
    have n5:bitA la 5=true:=by
     rw[goppN hl (by omega)]
     exact noneN hr (i:=5) (by decide) (by simp[Region.binds,m1,m4,m3])
    have m5:la[5]?.getD false=true:=by simpa[bitA] using n5
    have n6:bitA la 6=true:=by
     rw[goppN hl (by omega)]
     exact noneN hr (i:=6) (by decide) (by simp[Region.binds,m0,m1,m2,m3,m4,m5])
    have m6:la[6]?.getD false=true:=by simpa[bitA] using n6
    have n7:bitA la 7=true:=by
     rw[goppN hl (by omega)]
     exact noneN hr (i:=7) (by decide) (by simp[Region.binds,m6,m5,m0,m1,m2,m3,m4])
    have m7:la[7]?.getD false=true:=by simpa[bitA] using n7
    have hfin:=hs4 n7
    simp only[n0,n1,n2,n3,n4,n5,n6,selV_t]
    clear n0 m0 n1 m1 n2 m2 n3 m3 n4 m4 n5 m5 n6 m6 n7 m7 hr hcl hs0 hs1 hs2 hs3 hs4
    exact⟨hfin.k,hfin.d,hfin.b⟩
  case done=>
   rintro D2 xs W' hD hS ⟨hi,_⟩ hK
   subst hS
   obtain⟨a1,e1,a2,e2,a3,e3,ua,uc,h1,h2,h3⟩:=hi.r
   rw[upto_rows L (Nat.le_refl _),List.take_length] at h3
   rw[upto_length] at h1 h3
   obtain⟨⟨q0,q1,q2,q3,q4⟩,_,qz⟩:=cel_cells h1
   obtain⟨⟨x0,x1,x2,x3,x4⟩,⟨y0,y1,y2,y3,y4⟩,xz⟩:=cel_cells hi.x
   have HF:=hid (dump_fin hi h1 h2 h3 hK (by omega))
   clear hi h1 h2 h3 hK
   go_wp2
   obtain⟨m9,q9,r9,b9⟩:=HF.out
   exact⟨by simp,.inl ⟨_,_,rfl,run_takeDeferred m9,_,ret_dmp Tryz.results15 (by rfl) q9,⟨_,_,_,_,_,_,_,_,rfl,r9⟩,b9⟩⟩
  case stop=>
   rintro D2 c pre W' _ h _
   exact h.elim
section
variable {w:World} {B hb ab tb:Nat} {m:Int} {av:Value} {l:List Int} {tv:Value} {tq:Nat} {ns:List ByteArray} {trv:Value} {tr:List Te} {ptv:Value} {pt:List Pe} {n:Int}
theorem dump_hq (h:Hq w B hb ab tb m av l tv tq ns trv tr ptv pt n) (ht:tr.length<=100000) (hp:pt.length<=100000) :
  Calls Tryz.prog 15 #[.pointer (some ⟨hb,0,none⟩)] w fun e w'=>(∃a1 c1 a2 c2 a3 c3 ua uc,e=.returned (.agg #[.slice a1 l.length c1,.slice a2 tr.length c2,.slice a3 pt.length c3,.slice ua ns.length uc,.slice none 0 0])/\Dr w.heap.size (.slice a1 l.length c1) l.length (l.map (Value.int .u64)) (.slice a2 tr.length c2) tr.length (svC tr) (.slice a3 pt.length c3) pt.length (mkC pt) w'/\w'.ownsRow w.heap.size 9 1 (.slice ua ns.length uc) ns.length (ns.map Value.string))/\Below w.heap.size w w':=by
 have hself:∀(trv' ptv':Value),trv=trv'->ptv=ptv'->∀w1,Below w.heap.size w w1->Calls Tryz.prog 40 #[.pointer (some ⟨hb,0,none⟩)] w1 fun e w'=>∃hb',e=.returned (.pointer (some ⟨hb',0,none⟩))/\w'.heap[hb']?=some (hpO (some ⟨ab,0,none⟩) (some ⟨tb,0,none⟩) trv' ptv' n)/\Below w1.heap.size w1 w':=fun trv' ptv' e1 e2 w1 hb1=>(self_some hb w1).mono fun e w' ⟨e3,e4⟩=>⟨hb,e3,by rw[e4,←e1,←e2];exact (h.below hb1).hp.blk,by rw[e4];exact Below.refl _ _⟩
 have hwd:∀w1,Below w.heap.size w w1->Calls Tryz.prog 45 #[.pointer (some ⟨ab,0,none⟩)] w1 fun e w'=>∃ao c,e=.returned (.slice ao l.length c)/\w'.ownsRow w.heap.size 57 1 (.slice ao l.length c) l.length (l.map (Value.int .u64))/\Below w1.heap.size w1 w':=fun w1 hb1=>(words_any (h.below hb1).hp.ar).mono fun e w' ⟨e3,e4,e5⟩=>⟨_,_,e3,own_base e4 hb1.size,e5⟩
 obtain⟨ta,tc,e1,_⟩:=own_slq h.tr
 obtain⟨pa,pc,e2,_⟩:=own_slq h.pt
 have hc2:∀w1,Below w.heap.size w w1->Calls Tryz.prog 46 #[.slice ta tr.length tc] w1 fun e w'=>∃ao c,e=.returned (.slice ao tr.length c)/\w'.ownsRow w.heap.size 59 2 (.slice ao tr.length c) tr.length (svC tr)/\Below w1.heap.size w1 w':=fun w1 hb1=>by
  rw[←e1]
  exact (svclone_any (h.below hb1).tr (svC_one tr) ht).mono fun e w' ⟨ao,c,e3,e4,e5⟩=>⟨ao,c,e3,own_base e4 hb1.size,e5⟩
 have hc3:∀w1,Below w.heap.size w w1->Calls Tryz.prog 47 #[.slice pa pt.length pc] w1 fun e w'=>∃ao c,e=.returned (.slice ao pt.length c)/\w'.ownsRow w.heap.size 61 3 (.slice ao pt.length c) pt.length (mkC pt)/\Below w1.heap.size w1 w':=fun w1 hb1=>by
  rw[←e2]
  exact (mkclone_any (h.below hb1).pt (mkC_one pt) hp).mono fun e w' ⟨ao,c,e3,e4,e5⟩=>⟨ao,c,e3,own_base e4 hb1.size,e5⟩
 have hrs:=h.hp.tb.own
 rcases hrs.2 with⟨e3,e4⟩ | ⟨g,cap,cur,e3,_⟩
 ·have e5:ns=[]:=List.eq_nil_of_length_eq_zero e4
  subst e5
  exact dump_none _ _ _ none 0 ta tr.length tc pa pt.length pc n _ _ _ _ _ _ w (hself _ _ e1 e2) hwd hc2 hc3 (fun w1 hb1=>by
   have:=n_all_any (h.below hb1).hp.tb
   rw[e3] at this
   exact this)
 ·by_cases e5:ns=[]
  ·subst e5
   exact dump_none _ _ _ _ _ ta tr.length tc pa pt.length pc n _ _ _ _ _ _ w (hself _ _ e1 e2) hwd hc2 hc3 (fun w1 hb1=>by
    have:=n_all_any (h.below hb1).hp.tb
    rw[e3] at this
    exact this)
  ·rw[e3] at hrs
   refine dump_some _ _ _ g 0 cap ns e5 h.hp.tb.len (fun s hs=>?_) ta tr.length tc pa pt.length pc n _ _ _ _ _ _ w (hrs.lt g rfl).2 (fun j hj=>?_) (hself _ _ e1 e2) hwd hc2 hc3 (fun w1 hb1=>by
    have:=n_all_any (h.below hb1).hp.tb
    rw[e3] at this
    exact this)
   ·have:=n_goodS_size (h.hp.tb.good s hs)
    omega
   ·rw[Nat.zero_add,hrs.cellAt j (by simpa using hj)]
    simp[hj,List.getD]
end
end Go.Proofs.YtbfbkmkjcekpaaaGreatDoor
namespace Go.Proofs.YtbfbkmkjcekpaaaGreatDoor
set_option maxRecDepth 100000
open Go.RowKit
theorem Hs.tight {w:World} {B hb:Nat} {m:Int} {F:Nat->Prop} {s:Hst} (h:Hs w B hb m F s):Hs w B hb m (fun k=>F k/\k<w.heap.size) s:=by
 obtain⟨ab,tb,av,tv,tq,trv,ptv,hq,hf⟩:=h
 refine⟨ab,tb,av,tv,tq,trv,ptv,hq,fun k hk=>⟨hf k hk,?_⟩⟩
 rcases mem_qfoot.1 hk with rfl | hk | hk | hk
 ·exact lt_of_block hq.hp.blk
 ·rcases a_mem_foot.1 hk with rfl | hk
  ·exact hq.hp.ar.lt
  ·exact (hq.hp.ar.row hk).2.1
 ·exact (hq.tr.lt k hk).2
 ·exact (hq.pt.lt k hk).2
structure Ua1 (W w:World) (hb:Nat) (s:Hst) (k:Nat):Prop where
 b:Below W.heap.size W w
 h:Hs w W.heap.size hb 400 (fun q=>W.heap.size<=q) s
 j:Sj s k
theorem Ua1.next {W w w':World} {hb:Nat} {s:Hst} {k:Nat} (h:Ua1 W w hb s k) (hb':Below w.heap.size w w'):Ua1 W w' hb s k:=⟨Below.next h.b hb',h.h.below hb',h.j⟩
theorem Ua1.play {W w:World} {hb:Nat} {s:Hst} {k:Nat} (hE:ErrC W) (h:Ua1 W w hb s k) (hk:k<=1000) {nv rv:Value} {g:Gf} (hG:Gr W nv rv g) (hS:Sized g) (kd a b:Int) :
  Calls Tryz.prog 8 #[.pointer (some ⟨hb,0,none⟩),opV kd nv rv a b] w fun e w'=>e=.returned (.tuple #[])/\∃s',Ua1 W w' hb s' (k+1):=by
 refine (play_any ⟨hE.below h.b,h.h,h.b.size,fun _ hq=>hq,h.j,hk,h.b,Nat.le_refl _,hG,hS⟩ kd a b).mono ?_
 rintro e w' ⟨rfl,s',h1,h2,h3⟩
 refine⟨rfl,s',Below.trans h.b (h3.below (fun _ hq=>hq) h.b.size),h2.weak (fun q hq=>?_),h1.sj h.j⟩
 rcases hq with hq | hq
 ·exact hq
 ·have:=h.b.size
  omega
theorem si_rng {s:Hst} {k:Nat} (h:Sj s k):∀x∈s.l,0<=x/\x<=18446744073709551615:=by
 obtain⟨V,hV⟩:=h.si.now.1
 exact hV.rng
theorem dump_hs {w:World} {B hb:Nat} {m:Int} {F:Nat->Prop} {s:Hst} {k:Nat} (h:Hs w B hb m F s) (hj:Sj s k) (hk:k<=1000) :
  Calls Tryz.prog 15 #[.pointer (some ⟨hb,0,none⟩)] w fun e w'=>(∃a1 c1 a2 c2 a3 c3 ua uc,e=.returned (.agg #[.slice a1 s.l.length c1,.slice a2 s.tr.length c2,.slice a3 s.pt.length c3,.slice ua s.ns.length uc,.slice none 0 0])/\Dr w.heap.size (.slice a1 s.l.length c1) s.l.length (s.l.map (Value.int .u64)) (.slice a2 s.tr.length c2) s.tr.length (svC s.tr) (.slice a3 s.pt.length c3) s.pt.length (mkC s.pt) w'/\w'.ownsRow w.heap.size 9 1 (.slice ua s.ns.length uc) s.ns.length (s.ns.map Value.string))/\Below w.heap.size w w':=by
 obtain⟨ab,tb,av,tv,tq,trv,ptv,hq,hf⟩:=h
 have h1:=hj.t1
 have h2:=hj.p1
 exact dump_hq hq (by omega) (by omega)
end Go.Proofs.YtbfbkmkjcekpaaaGreatDoor
namespace Go.Proofs.YtbfbkmkjcekpaaaGreatDoor
set_option maxRecDepth 100000
open Go.RowKit
section
variable {w:World} {B hb:Nat} {m:Int} {F:Nat->Prop} {s:Hst} {j:Nat}
theorem hs_len (h:Hs w B hb m F s):(s.l.length:Int)<=m:=by
 obtain⟨ab,tb,av,tv,tq,trv,ptv,hq,hf⟩:=h
 exact hq.hp.ar.len
end
end Go.Proofs.YtbfbkmkjcekpaaaGreatDoor
namespace Go.Proofs.YtbfbkmkjcekpaaaGreatDoor
set_option maxRecDepth 100000
open Go.RowKit
section
variable {w:World} {B hb:Nat} {m:Int} {F:Nat->Prop} {s:Hst} {j:Nat}
def PutC (s:Hst) (g:Gf) (m:Int):Prop:=one (chk g)=[]/\(nsP s.ns g).length<=1024/\(s.l.length+wantJ g (metF g) (metF g).length:Int)<=m
def putHs (s:Hst) (g:Gf):Hst:=⟨wdP s.l s.ns g,nsP s.ns g,s.tr,s.pt,s.n⟩
theorem putc_no (hE:ErrC w) (h:Hs w B hb m F s) (hB:B<=w.heap.size) {nv rv:Value} {g:Gf} (hG:Gr w nv rv g) (hS:Sized g) (hc:¬PutC s g m) :
  Calls Tryz.prog 10 #[.pointer (some ⟨hb,0,none⟩),.agg #[nv,rv]] w fun e w'=>(∃b,e=.returned (.tuple #[.slice none 0 0,.iface 125 (.pointer (some ⟨b,0,none⟩))]))/\Below w.heap.size w w':=by
 obtain⟨ab,tb,av,tv,tq,trv,ptv,hq,hf⟩:=h
 by_cases hck:one (chk g)=[]
 ·by_cases hna:(wthJ s.ns g (metF g) (metF g).length).length<=1024
  ·exact hput_full hE hq.hp hB hG hS hck (Int.not_le.1 (fun hro=>hc ⟨hck,hna,hro⟩)) hna
  ·exact put_names hE hq.hp hB hG hS hck (by omega)
 ·exact hput_bad hb hE hG hS hck
theorem putc_yes (h:Hs w B hb m F s) (hB:B<=w.heap.size) (hs:Sj s j) {nv rv:Value} {g:Gf} {avs:Nat->Value} (hGk:∀w',Mo F w w'->Gra w' nv rv g avs) (hS:Sized g) (hc:PutC s g m) :
  Calls Tryz.prog 10 #[.pointer (some ⟨hb,0,none⟩),.agg #[nv,rv]] w fun e w'=>∃ao c,e=.returned (.tuple #[.slice ao g.roots.length c,.nilIface])/\w'.ownsRow w.heap.size 3 1 (.slice ao g.roots.length c) g.roots.length ((csL s.l.length g.roots.length).map (Value.int .i64))/\PmC (nsP s.ns g) g (metF g) s.l.length/\Sj (putHs s g) (j+1)/\Hs w' B hb m (fun k=>F k∨w.heap.size<=k) (putHs s g)/\Mo F w w':=by
 obtain⟨ab,tb,av,tv,tq,trv,ptv,hq,hf⟩:=h
 obtain⟨hck,hna,hro⟩:=hc
 have hg:=chk_good hck
 have hm2:=hq.hp.ar.m2
 have hpm:=pmc_ofG (ns:=s.ns) (b:=s.l.length) hg hna (by omega)
 have hfa:∀k∈hb::a_foot ab av,F k:=fun k hk=>by
  rcases List.mem_cons.1 hk with rfl | hk
  ·exact hf _ (mem_qfoot.2 (Or.inl rfl))
  ·exact hf _ (mem_qfoot.2 (Or.inr (Or.inl hk)))
 obtain⟨V,hV⟩:=hs.si.now.1
 refine (put_okG hq.hp hB (fun w' hm=>hGk w' (mo_of hm hfa)) hS hck hro hna (fun c hc=>hpm.may hc)).mono ?_
 rintro e w' ⟨ao,c,av',tb',tv',tq',rfl,ho,hp,hm,hx,ht⟩
 obtain⟨r1,r2⟩:=hq.rows hm (fun k hk hx=>by
  have:=hq.apart hx
  rcases List.mem_cons.1 hk with rfl | hk
  ·exact this.1 rfl
  ·exact this.2.1 hk)
 refine⟨ao,c,rfl,ho,hpm,?_,⟨ab,tb',av',tv',tq',trv,ptv,⟨hp,r1,r2⟩,foot_new hf hx (a_Nx.refl _ _) (a_Nx.refl _ _)⟩,mo_of hm hfa⟩
 exact (Stp.put (kd:=0) (a:=0) (s:=s) _ _ (wthJ_ge _ _ _ _) ⟨⟨_,put_snd hV hpm⟩,put_nsb hs.si.now.2 (wthJ_ge _ _ _ _) hpm⟩).sj hs
theorem cell_old {l T:List Int} {x:Int} (h:cellB l x=true):cellB (l++T) x=true:=by
 unfold cellB inB at *
 simp only[Bool.and_eq_true,decide_eq_true_eq] at *
 obtain⟨⟨h1,h2⟩,h3⟩:=h
 have hk:x.toNat<l.length:=by omega
 have e:(l++T).getD x.toNat 0=l.getD x.toNat 0:=by
  simp only[List.getD,List.getElem?_append_left hk]
 rw[e,List.length_append]
 exact⟨⟨by omega,h2⟩,h3⟩
theorem csl_cell {l:List Int} {ns:List ByteArray} {g:Gf} (hpm:PmC (nsP ns g) g (metF g) l.length):∀x∈csL l.length g.roots.length,cellB (wdP l ns g) x=true:=fun x hx=>by
 obtain⟨i,hi,rfl⟩:=List.mem_map.1 hx
 have hi:=List.mem_range.1 hi
 have hr:=want_root (g:=g) (met:=metF g) (metF g).length
 have hpl:=putW_len (ns:=nsP ns g) (g:=g) (met:=metF g) (b:=l.length)
 have e:(wdP l ns g).getD (l.length+i) 0=cwX (nsP ns g) g (metF g) l.length (g.roots.getD i 0):=by
  have:=wd_nw (l:=l) (T:=putW (nsP ns g) g (metF g) l.length) (k:=l.length+i) (by omega)
  unfold wdN at this
  unfold wdP
  rw[this,show l.length+i-l.length=i by omega,putW_root hi]
 have ht:=(hpm.cw (hpm.root _ (getD_mem hi))).tag
 have hwl:(wdP l ns g).length=l.length+wantJ g (metF g) (metF g).length:=by unfold wdP;rw[List.length_append,putW_len]
 unfold cellB inB
 rw[Int.toNat_natCast,e]
 simp only[Bool.and_eq_true,decide_eq_true_eq]
 omega
theorem get_hs {l:List Int} {ns:List ByteArray} {V:Nat->Bool} {T:List Int} {g:Gf} (h:Hs w B hb m F s) (hs:Sj s j) (hm:m<=4096) (hl:s.l=wdP l ns g++T) (hp:nsP ns g <+: s.ns) (hV:Snd l V) (hn:NsB l ns.length) (hpm:PmC (nsP ns g) g (metF g) l.length) (hg:Good g) {cv:Value} (hC:Ri w cv (csL l.length g.roots.length)) (ee:Nat->Nat->Bool) (he:∀x y:Nat,(ee x y=true↔Al g (x:Int) (y:Int))) :
  Calls Tryz.prog 13 #[.pointer (some ⟨hb,0,none⟩),cv] w fun e w'=>(∃nv rv avs,e=.returned (.tuple #[.agg #[nv,rv],.nilIface])/\Og w' w.heap.size nv rv avs (trimF (quoF ee g)))/\Below w.heap.size w w':=by
 obtain⟨ab,tb,av,tv,tq,trv,ptv,hq,hf⟩:=h
 obtain⟨V',hV'⟩:=hs.si.now.1
 have hlen:=hq.hp.ar.len
 have hr:=hg.roots
 have hcl0:=csl_cell hpm
 rw[hl] at hV'
 have hsn:=put_snd hV hpm
 have hnb:=put_nsb hn (wthJ_ge ns g (metF g) (metF g).length) hpm
 have hwl:(wdP l ns g).length<=65536:=by
  rw[hl,List.length_append] at hlen
  omega
 have hcr:∀c∈csL l.length g.roots.length,0<=c/\c<((wdP l ns g).length:Int):=fun c hc=>by
  have h1:=hcl0 c hc
  unfold cellB at h1
  simp only[Bool.and_eq_true] at h1
  simpa[inB] using h1.1.1
 have hcl:∀x∈csL l.length g.roots.length,cellB s.l x=true:=fun x hx=>by
  rw[hl]
  exact cell_old (hcl0 x hx)
 have hpr:=fun TS (hF:Rfi s.l (csL l.length g.roots.length) TS)=>by
  rw[hl] at hF
  have h1:=rfi_old hsn hV' hnb hwl hcr hF
  exact And.intro (put_pr hV hpm (names_in hg ns) rfl h1.1) (rdG_old hsn hV' hp hcr h1.2)
 have hml:=(met_ok hg).le
 have hgn:=hg.nodes
 rw[←hl] at hV'
 refine (get_ok hq.hp hV' hs.si.now.2 hC hcl (by simp[csL];omega) (fun TS hF=>by have:=(hpr TS hF).1.2;omega)).mono ?_
 rintro e w' ⟨⟨nv',rv',avs,TS,ee',rfl,hF,hgd,he',ho⟩,hb'⟩
 refine⟨⟨nv',rv',avs,rfl,?_⟩,hb'⟩
 obtain⟨h1,h2⟩:=hpr TS hF
 have h3:rdG (wdP l ns g++T) s.ns (csL l.length g.roots.length) TS=rdG (wdP l ns g) (nsP ns g) (csL l.length g.roots.length) TS:=h2
 rw[hl,h3] at hgd he' ho
 have h4:trimF (quoF ee' (rdG (wdP l ns g) (nsP ns g) (csL l.length g.roots.length) TS))=trimF (quoF ee g):=h1.1.least hgd hg he' he
 rw[←h4]
 exact ho
theorem look_hs (h:Hs w B hb m F s) (hs:Sj s j) (k:Nat) (hc:cellB s.l (k:Int)=true) :
  Calls Tryz.prog 14 #[.pointer (some ⟨hb,0,none⟩),.int .i64 (k:Int)] w fun e w'=>(∃ao c,e=.returned (.tuple #[.agg #[.int .i64 (tdK (trmW s.l k)),.int .i64 (tdA (trmW s.l k)),.string (tdS s.l s.ns (trmW s.l k)),.int .i64 (tdN (trmW s.l k)),.slice ao (tdL s.l (trmW s.l k)).length c],.nilIface])/\w'.ownsRow w.heap.size 3 1 (.slice ao (tdL s.l (trmW s.l k)).length c) (tdL s.l (trmW s.l k)).length ((tdL s.l (trmW s.l k)).map (Value.int .i64)))/\Below w.heap.size w w'/\(tdL s.l (trmW s.l k)).length<=8:=by
 obtain⟨ab,tb,av,tv,tq,trv,ptv,hq,hf⟩:=h
 obtain⟨V,hV⟩:=hs.si.now.1
 have h1:=hc
 unfold cellB at h1
 simp only[Bool.and_eq_true] at h1
 have h2:0<=(k:Int)/\(k:Int)<(s.l.length:Int):=by simpa[inB] using h1.1.1
 have hlen:=hq.hp.ar.len
 have hm2:=hq.hp.ar.m2
 have h8:=args_eight (trm_tw hV hs.si.now.2 (by omega) (show k<s.l.length by omega))
 exact (look_ok hq.hp hV hs.si.now.2 k hc (by omega)).mono fun e w' ⟨h3,h4⟩=>⟨h3,h4,h8⟩
end
theorem Hr.mo {F:Nat->Prop} {w w':World} {B:Nat} {v:Value} {l:List Int} (h:Hr w B v l) (hm:Mo F w w') (hF:∀k,v.ownBlock=some k->¬F k):Hr w' B v l:=h.keep (fun k e=>hm.block k (h.lt k e).2 (hF k e))
theorem Hg.mo {F:Nat->Prop} {w w':World} {B gb cap:Nat} {rv:Value} {avs:List Value} {g:Gf} (h:Hg w B gb cap rv avs g) (hm:Mo F w w') (hF:∀k∈blocks (.slice (some ⟨gb,0,none⟩) 0 0::rv::avs),¬F k):Hg w' B gb cap rv avs g:=by
 refine⟨own_block h.n (fun k e=>?_),h.len,fun j hj=>(h.a j hj).mo hm (fun k e=>hF k (List.mem_filterMap.2 ⟨avs.getD j undef,?_,e⟩)),h.r.mo hm (fun k e=>hF k (List.mem_filterMap.2 ⟨rv,by simp,e⟩))⟩
 ·have e1:gb=k:=by simpa[Value.ownBlock] using e
  exact hm.block k (h.n.lt k e).2 (hF k (List.mem_filterMap.2 ⟨.slice (some ⟨gb,0,none⟩) 0 0,by simp,by rw[←e1];rfl⟩))
 ·have:=h.len
  exact List.mem_cons_of_mem _ (List.mem_cons_of_mem _ (by simp[List.getD,show j<avs.length by omega]))
theorem Hg.gra {w:World} {B gb cap:Nat} {rv:Value} {avs:List Value} {g:Gf} (h:Hg w B gb cap rv avs g):Gra w (.slice (some ⟨gb,0,none⟩) g.nodes.length cap) rv g (fun i=>avs.getD i undef):=by
 refine⟨⟨_,_,rfl,fun j hj=>⟨gb,0,rfl,?_⟩⟩,h.r.ri⟩
 obtain⟨h0,h1,h2,h3⟩:=h.node j hj
 exact⟨by rw[Nat.zero_add];exact h0,by rw[Nat.zero_add];exact h1,by rw[Nat.zero_add];exact h2,by rw[Nat.zero_add];exact h3,(h.a j hj).ri⟩
end Go.Proofs.YtbfbkmkjcekpaaaGreatDoor
namespace Go.Proofs.YtbfbkmkjcekpaaaGreatDoor
set_option maxRecDepth 100000
open Go.RowKit
section
variable {w w':World} {B hb:Nat} {m:Int} {F:Nat->Prop} {s:Hst}
theorem Hs.avoid (h:Hs w B hb m F s) {B0 n:Nat} {v:Value} {xs:List Value} (hr:w.ownsRow B0 3 1 v n xs):Hs w B hb m (fun k=>F k/\v.ownBlock≠some k) s:=by
 obtain⟨ab,tb,av,tv,tq,trv,ptv,hq,hf⟩:=h
 refine⟨ab,tb,av,tv,tq,trv,ptv,hq,fun k hk=>⟨hf k hk,fun hv=>?_⟩⟩
 obtain⟨cs,hp⟩:=row_obj hr hv
 rcases mem_qfoot.1 hk with rfl | hk | hk | hk
 ·exact obj_ne hq.hp.blk hp (by decide) rfl
 ·rcases a_mem_foot.1 hk with rfl | hk
  ·exact obj_ne hq.hp.ar.blk hp (by decide) rfl
  ·obtain⟨cur,hc⟩:=row_obj hq.hp.ar.own hk
   exact obj_ne hc hp (by decide) rfl
 ·obtain⟨cur,hc⟩:=row_obj hq.tr hk
  exact obj_ne hc hp (by decide) rfl
 ·obtain⟨cur,hc⟩:=row_obj hq.pt hk
  exact obj_ne hc hp (by decide) rfl
end
structure Tk (w w':World):Prop where
 os:w'.os=w.os
 tape:w'.tape=w.tape
 output:w'.output=w.output
 size:w.heap.size<=w'.heap.size
 obj:∀(k:Nat) (o:Obj),w.heap[k]?=some o->(∀(cs:Array Value) (fr:Nat×Nat),o≠Obj.cells cs 3 fr)->(∀(cs:Array Value) (fr:Nat×Nat),o≠Obj.cells cs 74 fr)->w'.heap[k]?=some o
section
variable {w w':World}
theorem Tk.row (h:Tk w w') {B z n:Nat} {e:TypeId} {v:Value} {xs:List Value} (hr:w.ownsRow B e z v n xs) (h1:e≠3) (h2:e≠74):w'.ownsRow B e z v n xs:=row_keep hr (fun k hk=>by
 obtain⟨cs,hp⟩:=row_obj hr hk
 rw[hp]
 exact h.obj k _ hp (fun cs fr e=>by injection e with _ e;exact h1 e) (fun cs fr e=>by injection e with _ e;exact h2 e))
theorem Tk.blk (h:Tk w w') {k:Nat} {cs:Array Value} {e:TypeId} {fr:Nat×Nat} (hp:w.heap[k]?=some (.cells cs e fr)) (h1:e≠3) (h2:e≠74):w'.heap[k]?=some (.cells cs e fr):=
 h.obj k _ hp (fun cs fr e=>by injection e with _ e;exact h1 e) (fun cs fr e=>by injection e with _ e;exact h2 e)
end
theorem Hs.tk {w w':World} {B hb:Nat} {m:Int} {F:Nat->Prop} {s:Hst} (h:Hs w B hb m F s) (k:Tk w w'):Hs w' B hb m F s:=by
 obtain⟨ab,tb,av,tv,tq,trv,ptv,hq,hf⟩:=h
 have ha:=hq.hp.ar
 have ht:=hq.hp.tb
 refine⟨ab,tb,av,tv,tq,trv,ptv,⟨⟨k.blk hq.hp.blk (by decide) (by decide),hq.hp.base,⟨ha.ty,k.blk ha.blk (by decide) (by decide),ha.base,k.row ha.own (by decide) (by decide),ha.m1,ha.m2,ha.len,ha.rng⟩,⟨k.blk ht.blk (by decide) (by decide),ht.base,k.row ht.own (by decide) (by decide),ht.mbase,?_,ht.len,ht.good,ht.nodup⟩⟩,k.row hq.tr (by decide) (by decide),k.row hq.pt (by decide) (by decide)⟩,hf⟩
 obtain⟨D,⟨es,clock,hb,h1⟩,h2⟩:=ht.map
 exact⟨D,⟨es,clock,k.obj _ _ hb (fun cs fr e=>by cases e) (fun cs fr e=>by cases e),h1⟩,h2⟩
theorem Hg.obj {w:World} {B gb cap:Nat} {rv:Value} {avs:List Value} {g:Gf} (h:Hg w B gb cap rv avs g) {k:Nat} (hk:k∈blocks (.slice (some ⟨gb,0,none⟩) 0 0::rv::avs)):∃cs,w.heap[k]?=some (.cells cs 3)∨w.heap[k]?=some (.cells cs 74):=by
 have hrow:∀v l,Hr w B v l->v.ownBlock=some k->∃cs,w.heap[k]?=some (.cells cs 3):=fun v l hr e=>by
  obtain⟨q,c,cur,rfl,hq,_⟩:=hr.obj
  have e':q=k:=by simpa[Value.ownBlock] using e
  subst e'
  exact⟨cur,hq⟩
 obtain⟨v,hv,e⟩:=List.mem_filterMap.1 hk
 rcases List.mem_cons.1 hv with rfl | hv
 ·have e':gb=k:=by simpa[Value.ownBlock] using e
  subst e'
  obtain⟨cur,hc,_⟩:=own_obj h.n
  exact⟨cur,Or.inr hc⟩
 ·rcases List.mem_cons.1 hv with rfl | hv
  ·obtain⟨cs,hc⟩:=hrow _ _ h.r e
   exact⟨cs,Or.inl hc⟩
  ·obtain⟨j,hj,rfl⟩:=List.getElem_of_mem hv
   obtain⟨cs,hc⟩:=hrow _ _ (h.a j (by rw[←h.len];exact hj)) (by
    have:avs.getD j undef=avs[j]:=by simp[List.getD,hj]
    rw[this]
    exact e)
   exact⟨cs,Or.inl hc⟩
theorem over_tk {w z:World} {B gb cap:Nat} {rv:Value} {avs:List Value} {g:Gf} {o:Obj} {C N:Nat} (h:Hg w B gb cap rv avs g) (hO:Ov (w.alloc o) z gb (blocks (.slice (some ⟨gb,0,none⟩) 0 0::rv::avs)) C N avs):Tk w z:=by
 obtain⟨⟨o1,o2,o3,o4⟩,hfar⟩:=over_far hO
 refine⟨o1,o2,o3,o4,fun k ob hk h1 h2=>(hfar k (by rcases Nat.lt_or_ge k w.heap.size with h | h;exact h;rw[Array.getElem?_eq_none h] at hk;cases hk) (fun hx=>?_)).trans hk⟩
 obtain⟨cs,hc | hc⟩:=h.obj hx
 ·rw[hk] at hc
  exact h1 _ _ (Option.some.inj hc)
 ·rw[hk] at hc
  exact h2 _ _ (Option.some.inj hc)
theorem af_tk {z z':World} {E0:Nat} {VS:List Value} (ro:∀v∈VS,Rov z E0 v) (hA:Af z z' VS):Tk z z':=by
 refine⟨hA.os,hA.tape,hA.output,hA.size,fun k ob hk h1 h2=>(hA.far k (by rcases Nat.lt_or_ge k z.heap.size with h | h;exact h;rw[Array.getElem?_eq_none h] at hk;cases hk) (fun hx=>?_)).trans hk⟩
 obtain⟨v,hv,e⟩:=List.mem_filterMap.1 hx
 obtain⟨l,_,ho⟩:=ro v hv
 obtain⟨cur,hc⟩:=row_obj ho e
 rw[hk] at hc
 exact h1 _ _ (Option.some.inj hc)
structure Pb (W1:World) (n5 n7 m hb gb cap mq mc:Nat) (avs:List Value) (g:Gf) (F:Nat->Prop) (s:Hst) (k:Nat) (w:World):Prop where
 b:Below W1.heap.size W1 w
 h:Hs w W1.heap.size hb 400 F s
 j:Sj s k
 hm:Hg w n5 gb cap (.slice (some ⟨mq,0,none⟩) g.roots.length mc) avs g
 mb:w.heap[m]?=some (.cells #[.slice (some ⟨gb,0,none⟩) g.nodes.length cap,.slice (some ⟨mq,0,none⟩) g.roots.length mc] 25)
 f:∀q,F q->W1.heap.size<=q/\¬(n5<=q/\q<n7)
 lim:(n5<=m/\m<n7)/\∀q∈blocks (.slice (some ⟨gb,0,none⟩) 0 0 :: .slice (some ⟨mq,0,none⟩) g.roots.length mc::avs),q<n7
 z:n7<=w.heap.size
 n:W1.heap.size<=n5
section
variable {W1 w w':World} {n5 n7 m hb gb cap mq mc:Nat} {avs:List Value} {g:Gf} {F:Nat->Prop} {s:Hst} {k:Nat}
theorem Pb.mo {F':Nat->Prop} {s':Hst} {k':Nat} (h:Pb W1 n5 n7 m hb gb cap mq mc avs g F s k w) (hm:Mo F w w') (hh:Hs w' W1.heap.size hb 400 F' s') (hj:Sj s' k') (hF:∀q,F' q->F q∨w.heap.size<=q):Pb W1 n5 n7 m hb gb cap mq mc avs g F' s' k' w':=by
 have hz:=h.z
 have hn:=h.n
 have h57:=h.lim.1
 refine⟨Below.trans h.b (hm.below (fun q hq=>(h.f q hq).1) h.b.size),hh,hj,h.hm.mo hm (fun q hq hx=>(h.f q hx).2 ⟨(h.hm.rng q hq).1,h.lim.2 q hq⟩),(hm.block m (lt_of_block h.mb) (fun hx=>(h.f m hx).2 h.lim.1)).trans h.mb,fun q hq=>?_,h.lim,Nat.le_trans h.z hm.size,h.n⟩
 rcases hF q hq with hq | hq
 ·exact h.f q hq
 ·exact⟨by omega,by omega⟩
theorem Pb.next (h:Pb W1 n5 n7 m hb gb cap mq mc avs g F s k w) (hb':Below w.heap.size w w'):Pb W1 n5 n7 m hb gb cap mq mc avs g F s k w':=h.mo (Mo.ofBelow hb') (h.h.below hb') h.j (fun _ hq=>Or.inl hq)
theorem Pb.cells (h:Pb W1 n5 n7 m hb gb cap mq mc avs g F s k w):(w.cell? ⟨m,0,none⟩=some (.slice (some ⟨gb,0,none⟩) g.nodes.length cap)/\w.cell? ⟨m,1,none⟩=some (.slice (some ⟨mq,0,none⟩) g.roots.length mc))/\m<w.heap.size:=by
 obtain⟨b,_⟩:=cblk2 h.mb
 exact⟨b,lt_of_block h.mb⟩
theorem Pb.no (hE:ErrC W1) (h:Pb W1 n5 n7 m hb gb cap mq mc avs g F s k w) (hS:Sized g) (hc:¬PutC s g 400) :
  Calls Tryz.prog 10 #[.pointer (some ⟨hb,0,none⟩),.agg #[.slice (some ⟨gb,0,none⟩) g.nodes.length cap,.slice (some ⟨mq,0,none⟩) g.roots.length mc]] w fun e w'=>(∃b,e=.returned (.tuple #[.slice none 0 0,.iface 125 (.pointer (some ⟨b,0,none⟩))]))/\Pb W1 n5 n7 m hb gb cap mq mc avs g F s k w':=
 (putc_no (hE.below h.b) h.h h.b.size h.hm.gr hS hc).mono fun _ _ ⟨h1,h2⟩=>⟨h1,h.next h2⟩
theorem Pb.yes (h:Pb W1 n5 n7 m hb gb cap mq mc avs g F s k w) (hS:Sized g) (hc:PutC s g 400) :
  Calls Tryz.prog 10 #[.pointer (some ⟨hb,0,none⟩),.agg #[.slice (some ⟨gb,0,none⟩) g.nodes.length cap,.slice (some ⟨mq,0,none⟩) g.roots.length mc]] w fun e w'=>∃ao c,e=.returned (.tuple #[.slice ao g.roots.length c,.nilIface])/\w'.ownsRow w.heap.size 3 1 (.slice ao g.roots.length c) g.roots.length ((csL s.l.length g.roots.length).map (Value.int .i64))/\PmC (nsP s.ns g) g (metF g) s.l.length/\Pb W1 n5 n7 m hb gb cap mq mc avs g (fun q=>(F q∨w.heap.size<=q)/\(Value.slice ao g.roots.length c).ownBlock≠some q) (putHs s g) (k+1) w'/\Mo F w w':=by
 refine (putc_yes h.h h.b.size h.j (fun w' hm=>(h.hm.mo hm (fun q hq hx=>(h.f q hx).2 ⟨(h.hm.rng q hq).1,h.lim.2 q hq⟩)).gra) hS hc).mono ?_
 rintro e w' ⟨ao,c,rfl,ho,hp,hj,hh,hm⟩
 exact⟨ao,c,rfl,ho,hp,h.mo hm (hh.avoid ho) hj (fun q hq=>hq.1),hm⟩
theorem Pb.over {z:World} {o:Obj} {C N:Nat} (h:Pb W1 n5 n7 m hb gb cap mq mc avs g F s k w) (hO:Ov (w.alloc o) z gb (blocks (.slice (some ⟨gb,0,none⟩) 0 0 :: .slice (some ⟨mq,0,none⟩) g.roots.length mc::avs)) C N avs):Below W1.heap.size W1 z/\Hs z W1.heap.size hb 400 F s/\Sbl n7 w z:=by
 obtain⟨⟨o1,o2,o3,o4⟩,hfar⟩:=over_far hO
 have hz:=h.b.size
 have hn:=h.n
 refine⟨⟨o1.trans h.b.os,o2.trans h.b.tape,o3.trans h.b.output,Nat.le_trans h.b.size o4,fun q hq=>(hfar q (by omega) (fun hx=>by have:=(h.hm.rng q hx).1;omega)).trans (h.b.block q hq)⟩,h.h.tk (over_tk h.hm hO),o4,fun q h1 h2=>hfar q h2 (fun hx=>by have:=h.lim.2 q hx;omega)⟩
theorem Pb.start {w0 w1:World} (h:Ua1 W1 w0 hb s k) (hm:Hg w1 w0.heap.size gb cap (.slice (some ⟨mq,0,none⟩) g.roots.length mc) avs g) (hb1:Below w0.heap.size w0 w1):Pb W1 w0.heap.size (w1.heap.size+1) w1.heap.size hb gb cap mq mc avs g (fun q=>W1.heap.size<=q/\q<w0.heap.size) s k (w1.alloc (.cells #[.slice (some ⟨gb,0,none⟩) g.nodes.length cap,.slice (some ⟨mq,0,none⟩) g.roots.length mc] 25)):=by
 have hbx:=below_alloc w1 (.cells #[.slice (some ⟨gb,0,none⟩) g.nodes.length cap,.slice (some ⟨mq,0,none⟩) g.roots.length mc] 25)
 have hb2:=Below.next hb1 hbx
 refine⟨Below.next h.b hb2,h.h.tight.below hb2,h.j,hm.below hbx,heap_alloc_new w1 _,fun q hq=>⟨hq.1,by omega⟩,⟨⟨hb1.size,by omega⟩,fun q hq=>?_⟩,by simp,h.b.size⟩
 have:=(hm.rng q hq).2
 omega
end
structure Pc (W1:World) (hb:Nat) (s:Hst) (k:Nat) (v1:Value) (n:Nat) (l1:List Int) (w:World):Prop where
 b:Below W1.heap.size W1 w
 h:∃F,Hs w W1.heap.size hb 400 F s
 j:Sj s k
 r:∃B1,w.ownsRow B1 3 1 v1 n (l1.map (Value.int .i64))
section
variable {W1 w w':World} {hb:Nat} {s:Hst} {k:Nat} {v1:Value} {n:Nat} {l1:List Int}
theorem Pc.next (h:Pc W1 hb s k v1 n l1 w) (hb':Below w.heap.size w w'):Pc W1 hb s k v1 n l1 w':=by
 obtain⟨b,⟨F,hh⟩,j,B1,r⟩:=h
 exact⟨Below.next b hb',⟨F,hh.below hb'⟩,j,B1,row_below r hb'⟩
theorem Pc.tk (h:Pc W1 hb s k v1 n l1 w) (ht:Tk w w') (hb':Below W1.heap.size W1 w') (hk:∀q,v1.ownBlock=some q->w'.heap[q]?=w.heap[q]?):Pc W1 hb s k v1 n l1 w':=by
 obtain⟨b,⟨F,hh⟩,j,B1,r⟩:=h
 exact⟨hb',⟨F,hh.tk ht⟩,j,B1,row_keep r hk⟩
theorem Pc.ri (h:Pc W1 hb s k v1 n l1 w) (hl:l1.length=n):Ri w v1 l1:=by
 obtain⟨B1,r⟩:=h.r
 exact own_ri hl r
end
abbrev celO (k a:Int) (s:ByteArray) (n:Int) (v:Value):Obj:=.cells #[.int .i64 k,.int .i64 a,.string s,.int .i64 n,v] 45
def Cx (E0:Nat) (k a:Int) (s:ByteArray) (n:Int) (L q:Nat) (ao:Option Addr) (c:Nat) (w:World):Prop:=E0<=q/\w.heap[q]?=some (celO k a s n (.slice ao L c))
theorem Cx.keep {E0:Nat} {k a:Int} {s:ByteArray} {n:Int} {L q:Nat} {ao:Option Addr} {c:Nat} {w w':World} (h:Cx E0 k a s n L q ao c w) (hs:Sbl E0 w w'):Cx E0 k a s n L q ao c w':=⟨h.1,(hs.2 q h.1 (lt_of_block h.2)).trans h.2⟩
theorem Ph.addC {E0:Nat} {F:World->Prop} {vs:List Value} {w w1:World} {k a:Int} {s:ByteArray} {n:Int} {L:List Int} {ao:Option Addr} {c:Nat} (h:Ph E0 F vs w) (hE:E0<=w.heap.size) (hb:Below w.heap.size w w1) (ho:w1.ownsRow w.heap.size 3 1 (.slice ao L.length c) L.length (L.map (Value.int .i64))) (hL:L.length<=4900) :
  Ph E0 (fun w=>F w/\Cx E0 k a s n L.length w1.heap.size ao c w) (vs++[.slice ao L.length c]) (w1.alloc (celO k a s n (.slice ao L.length c))):=by
 have hb2:=below_alloc w1 (celO k a s n (.slice ao L.length c))
 have hb3:=Below.next hb hb2
 have hs:=hb.size
 refine⟨⟨h.st _ _ h.f (sblB hb3),by omega,heap_alloc_new w1 _⟩,fun w w' hf hs=>⟨h.st w w' hf.1 hs,hf.2.keep hs⟩,?_⟩
 refine (Ob.add h.ob hE hb (fun v hv=>?_) (fun q hq=>?_) (nd_one _)).keep hb2.size (fun k _ hk=>hb2.block k hk)
 ·have e:v=.slice ao L.length c:=by simpa using hv
  rw[e]
  exact⟨L,hL,own_base ho hE⟩
 ·obtain⟨v,hv,e⟩:=List.mem_filterMap.1 hq
  have e2:v=.slice ao L.length c:=by simpa using hv
  rw[e2] at e
  exact ho.lt q e
theorem Ob.one {w:World} {E0 B n:Nat} {v:Value} {l:List Int} (h:w.ownsRow B 3 1 v n (l.map (Value.int .i64))) (hn:l.length=n) (hB:E0<=B) (hl:n<=4900):Ob w E0 [v]:=by
 subst hn
 refine⟨fun u hu=>?_,fun q hq=>?_,nd_one v⟩
 ·have e:u=v:=by simpa using hu
  rw[e]
  exact⟨l,hl,own_base h hB⟩
 ·obtain⟨u,hu,e⟩:=List.mem_filterMap.1 hq
  have e2:u=v:=by simpa using hu
  rw[e2] at e
  have:=h.lt q e
  exact⟨by omega,this.2⟩
theorem Ob.perm {w:World} {E0:Nat} {vs us:List Value} (h:Ob w E0 vs) (hp:vs.Perm us):Ob w E0 us:=
 ⟨fun v hv=>h.ro v (hp.mem_iff.2 hv),fun k hk=>h.rng k ((hp.filterMap _).mem_iff.2 hk),(hp.filterMap _).nodup_iff.1 h.nd⟩
end Go.Proofs.YtbfbkmkjcekpaaaGreatDoor
namespace Go.Proofs.YtbfbkmkjcekpaaaGreatDoor
set_option maxRecDepth 100000
open Go.RowKit
structure Rz (n10 n11:Nat) (e:TypeId) (z:Nat) (v:Value) (n:Nat) (w:World):Prop where
 o:∃xs,xs.length=n*z/\w.ownsRow n10 e z v n xs
 hi:∀k,v.ownBlock=some k->k<n11
structure Lo (w10:World) (n11:Nat) (q1 q2 q3:Nat) (v1 v2 v3 v4 u1 u2 u3 u4:Value) (k2 k3:Nat) (A:List Int) (NS:List ByteArray) (na ra:Value) (av:List Value) (T:Gf) (w:World):Prop where
 b:Below w10.heap.size w10 w
 n:w10.heap.size<=n11
 d1:w.heap[q1]?=some (dmpO v1 v2 v3 v4 (.slice none 0 0))
 d2:w.heap[q2]?=some (dmpO u1 u2 u3 u4 (.slice none 0 0))
 d3:w.heap[q3]?=some (.cells #[na,ra] 25)
 a1:Rz w10.heap.size n11 57 1 v1 A.length w
 a2:Rz w10.heap.size n11 59 2 v2 k2 w
 a3:Rz w10.heap.size n11 61 3 v3 k3 w
 a4:Rz w10.heap.size n11 9 1 v4 NS.length w
 r1:w.ownsRow n11 57 1 u1 A.length (A.map (Value.int .u64))
 r4:w.ownsRow n11 9 1 u4 NS.length (NS.map Value.string)
 rng:∀x∈A,0<=x/\x<=18446744073709551615
 t:Og w n11 na ra av T
section
variable {w10 w w':World} {n11 q1 q2 q3:Nat} {v1 v2 v3 v4 u1 u2 u3 u4:Value} {k2 k3:Nat} {A:List Int} {NS:List ByteArray} {na ra:Value} {av:List Value} {T:Gf}
theorem Rz.keep {n10 n:Nat} {e:TypeId} {z:Nat} {v:Value} (h:Rz n10 n11 e z v n w) (hk:∀k,v.ownBlock=some k->w'.heap[k]?=w.heap[k]?):Rz n10 n11 e z v n w':=by
 obtain⟨⟨xs,hl,ho⟩,hi⟩:=h
 exact⟨⟨xs,hl,row_keep ho hk⟩,hi⟩
theorem Rz.set {n10 n:Nat} {e:TypeId} {z:Nat} {v:Value} (h:Rz n10 n11 e z v n w) {p:Nat} {cs:Array Value} {e':TypeId} {fr:Nat×Nat} (hp:w.heap[p]?=some (.cells cs e' fr)) (i:Nat) (x:Value) (hv:e'=e->v.ownBlock=some p):Rz n10 n11 e z v n (w.setCell ⟨p,i,none⟩ x):=by
 by_cases hv1:v.ownBlock=some p
 ·obtain⟨⟨xs,hl,ho⟩,hi⟩:=h
  obtain⟨ao,c,rfl,_⟩:=own_slq ho
  rcases ho.2 with⟨h0,_⟩ | ⟨g,cap,cur,h0,_⟩
  ·injection h0 with h0 _ _
   subst h0
   cases hv1
  ·injection h0 with h0 _ h2
   subst h0 h2
   have e2:g=p:=by simpa[Value.ownBlock] using hv1
   subst e2
   exact⟨⟨xs.set i x,by simpa using hl,(World.ownsRow.stored ho i x).1⟩,hi⟩
 ·refine h.keep (fun k hk=>Below.heap_setCell _ _ _ _ (fun e2=>?_))
  subst e2
  exact hv1 hk
theorem Lo.next (h:Lo w10 n11 q1 q2 q3 v1 v2 v3 v4 u1 u2 u3 u4 k2 k3 A NS na ra av T w) (hb:Below w.heap.size w w'):Lo w10 n11 q1 q2 q3 v1 v2 v3 v4 u1 u2 u3 u4 k2 k3 A NS na ra av T w':=by
 have key:∀{e:TypeId} {z:Nat} {v:Value} {n:Nat},Rz w10.heap.size n11 e z v n w->Rz w10.heap.size n11 e z v n w':=fun {e z v n} hr=>hr.keep (fun k hk=>by
  obtain⟨⟨xs,_,ho⟩,_⟩:=hr
  exact hb.block k (ho.lt k hk).2)
 exact⟨Below.next h.b hb,h.n,(hb.block _ (lt_of_block h.d1)).trans h.d1,(hb.block _ (lt_of_block h.d2)).trans h.d2,(hb.block _ (lt_of_block h.d3)).trans h.d3,key h.a1,key h.a2,key h.a3,key h.a4,row_below h.r1 hb,row_below h.r4 hb,h.rng,h.t.below hb⟩
theorem Lo.set (h:Lo w10 n11 q1 q2 q3 v1 v2 v3 v4 u1 u2 u3 u4 k2 k3 A NS na ra av T w) {p:Nat} {cs:Array Value} {e:TypeId} {fr:Nat×Nat} (hp:w.heap[p]?=some (.cells cs e fr)) (hn:w10.heap.size<=p/\p<n11) (hd:e≠54/\e≠25) (h1:e=57->v1.ownBlock=some p) (h2:e=59->v2.ownBlock=some p) (h3:e=61->v3.ownBlock=some p) (h4:e=9->v4.ownBlock=some p) (i:Nat) (x:Value):Lo w10 n11 q1 q2 q3 v1 v2 v3 v4 u1 u2 u3 u4 k2 k3 A NS na ra av T (w.setCell ⟨p,i,none⟩ x):=by
 refine⟨h.b.setCell (p:=⟨p,i,none⟩) hn.1 _,h.n,?_,?_,?_,h.a1.set hp i x h1,h.a2.set hp i x h2,h.a3.set hp i x h3,h.a4.set hp i x h4,?_,?_,h.rng,?_⟩
 ·exact (Below.heap_setCell _ _ _ _ (obj_ne h.d1 hp (Ne.symm hd.1))).trans h.d1
 ·exact (Below.heap_setCell _ _ _ _ (obj_ne h.d2 hp (Ne.symm hd.1))).trans h.d2
 ·exact (Below.heap_setCell _ _ _ _ (obj_ne h.d3 hp (Ne.symm hd.2))).trans h.d3
 ·exact row_keep h.r1 (fun k hk=>Below.heap_setCell _ _ _ _ (by have:=(h.r1.lt k hk).1;show k≠p;omega))
 ·exact row_keep h.r4 (fun k hk=>Below.heap_setCell _ _ _ _ (by have:=(h.r4.lt k hk).1;show k≠p;omega))
 ·exact h.t.keep (fun k hk _=>Below.heap_setCell _ _ _ _ (by show k≠p;omega))
theorem Lo.cells (h:Lo w10 n11 q1 q2 q3 v1 v2 v3 v4 u1 u2 u3 u4 k2 k3 A NS na ra av T w):(w.cell? ⟨q1,0,none⟩=some v1/\w.cell? ⟨q1,1,none⟩=some v2/\w.cell? ⟨q1,2,none⟩=some v3/\w.cell? ⟨q1,3,none⟩=some v4)/\(w.cell? ⟨q3,0,none⟩=some na/\w.cell? ⟨q3,1,none⟩=some ra)/\q1<w.heap.size/\q3<w.heap.size:=by
 obtain⟨⟨c0,c1,c2,c3,_⟩,_,c5⟩:=cel_cells h.d1
 obtain⟨g0,_⟩:=cblk2 h.d3
 exact⟨⟨c0,c1,c2,c3⟩,g0,c5,lt_of_block h.d3⟩
theorem Rz.cell {n10 n i:Nat} {e:TypeId} {z:Nat} {ao:Option Addr} {c:Nat} (h:Rz n10 n11 e z (.slice ao n c) n w) (hi:i<n):∃p cs,ao=some ⟨p,0,none⟩/\w.heap[p]?=some (.cells cs e (0,0))/\(n10<=p/\p<n11)/\(∀j,j<n*z->∃x,w.cell? ⟨p,j,none⟩=some x/\w.frozen? ⟨p,j,none⟩=false):=by
 obtain⟨⟨xs,hl,ho⟩,hh⟩:=h
 rcases ho.2 with⟨_,h0⟩ | ⟨g,cap,cur,h0,_,hg,_⟩
 ·omega
 ·injection h0 with h0 _ h2
  subst h0 h2
  refine⟨g,cur,rfl,hg,⟨(ho.lt g rfl).1,hh g rfl⟩,fun j hj=>⟨xs[j]'(by omega),?_,ho.frozenAt _⟩⟩
  rw[ho.cellAt j (by omega)]
  simp
theorem lo_start {w11 w12 w14:World} {xs2 xs3:List Value} (hA:∀x∈A,0<=x/\x<=18446744073709551615) (hb1:Below w10.heap.size w10 w11) (h2:xs2.length=k2*2) (h3:xs3.length=k3*3)
  (hr:Dr w10.heap.size v1 A.length (A.map (Value.int .u64)) v2 k2 xs2 v3 k3 xs3 w11) (hn:w11.ownsRow w10.heap.size 9 1 v4 NS.length (NS.map Value.string)) (hb2:Below w11.heap.size w11 w12)
  (hr2:w12.ownsRow w11.heap.size 57 1 u1 A.length (A.map (Value.int .u64))) (hn2:w12.ownsRow w11.heap.size 9 1 u4 NS.length (NS.map Value.string))
  (hb4:Below ((w12.alloc (dmpO v1 v2 v3 v4 (.slice none 0 0))).alloc (dmpO u1 u2 u3 u4 (.slice none 0 0))).heap.size ((w12.alloc (dmpO v1 v2 v3 v4 (.slice none 0 0))).alloc (dmpO u1 u2 u3 u4 (.slice none 0 0))) w14) (hO:Og w14 ((w12.alloc (dmpO v1 v2 v3 v4 (.slice none 0 0))).alloc (dmpO u1 u2 u3 u4 (.slice none 0 0))).heap.size na ra av T) :
  Lo w10 w11.heap.size w12.heap.size (w12.heap.size+1) w14.heap.size v1 v2 v3 v4 u1 u2 u3 u4 k2 k3 A NS na ra av T (w14.alloc (.cells #[na,ra] 25)):=by
 have z1:=hb1.size
 have z2:=hb2.size
 have z4:=hb4.size
 have hbx:Below w12.heap.size w12 ((w12.alloc (dmpO v1 v2 v3 v4 (.slice none 0 0))).alloc (dmpO u1 u2 u3 u4 (.slice none 0 0))):=(below_alloc w12 _).alloc (by simp) _
 have hby:=Below.next hb4 (below_alloc w14 (.cells #[na,ra] 25))
 have hbz:=Below.next hbx hby
 have hbw:=Below.next hb2 hbz
 have hz:((w12.alloc (dmpO v1 v2 v3 v4 (.slice none 0 0))).alloc (dmpO u1 u2 u3 u4 (.slice none 0 0))).heap.size=w12.heap.size+2:=by simp
 rw[hz] at z4
 have e1:(w12.alloc (dmpO v1 v2 v3 v4 (.slice none 0 0))).heap.size=w12.heap.size+1:=by simp
 have x2:=heap_alloc_new (w12.alloc (dmpO v1 v2 v3 v4 (.slice none 0 0))) (dmpO u1 u2 u3 u4 (.slice none 0 0))
 rw[e1] at x2
 have x1:=(Below.heap_alloc (w12.alloc (dmpO v1 v2 v3 v4 (.slice none 0 0))) (dmpO u1 u2 u3 u4 (.slice none 0 0)) w12.heap.size (by simp)).trans (heap_alloc_new w12 _)
 exact⟨Below.next hb1 hbw,z1,(hby.block _ (by rw[hz];omega)).trans x1,(hby.block _ (by rw[hz];omega)).trans x2,heap_alloc_new w14 _,
  ⟨⟨_,by simp,row_below hr.r1 hbw⟩,fun k hk=>(hr.r1.lt k hk).2⟩,⟨⟨_,h2,row_below hr.r2 hbw⟩,fun k hk=>(hr.r2.lt k hk).2⟩,⟨⟨_,h3,row_below hr.r3 hbw⟩,fun k hk=>(hr.r3.lt k hk).2⟩,⟨⟨_,by simp,row_below hn hbw⟩,fun k hk=>(hn.lt k hk).2⟩,
  row_below hr2 hbz,row_below hn2 hbz,hA,(og_base hO (by rw[hz];omega)).below (below_alloc w14 _)⟩
end
structure Fz (W1:World) (hb:Nat) (s:Hst) (k:Nat) (v1:Value) (n:Nat) (l1:List Int) (q2 q3:Nat) (u1 u2 u3 u4 na ra:Value) (T:Gf) (w:World):Prop where
 c:Pc W1 hb s k v1 n l1 w
 d2:w.heap[q2]?=some (dmpO u1 u2 u3 u4 (.slice none 0 0))
 d3:w.heap[q3]?=some (.cells #[na,ra] 25)
 r1:Rd w u1 s.l
 r4:Rs w u4 s.ns
 t:Gr w na ra T
section
variable {W1 w w':World} {hb:Nat} {s:Hst} {k:Nat} {v1:Value} {n:Nat} {l1:List Int} {q2 q3:Nat} {u1 u2 u3 u4 na ra:Value} {T:Gf}
theorem Fz.next (h:Fz W1 hb s k v1 n l1 q2 q3 u1 u2 u3 u4 na ra T w) (hb':Below w.heap.size w w'):Fz W1 hb s k v1 n l1 q2 q3 u1 u2 u3 u4 na ra T w':=
 ⟨h.c.next hb',(hb'.block _ (lt_of_block h.d2)).trans h.d2,(hb'.block _ (lt_of_block h.d3)).trans h.d3,h.r1.below hb',h.r4.below hb',h.t.below hb'⟩
theorem Fz.cells (h:Fz W1 hb s k v1 n l1 q2 q3 u1 u2 u3 u4 na ra T w):(w.cell? ⟨q2,0,none⟩=some u1/\w.cell? ⟨q2,1,none⟩=some u2/\w.cell? ⟨q2,3,none⟩=some u4)/\(w.cell? ⟨q3,0,none⟩=some na/\w.cell? ⟨q3,1,none⟩=some ra)/\q2<w.heap.size/\q3<w.heap.size:=by
 obtain⟨⟨c0,c1,c2,c3,_⟩,_,c5⟩:=cel_cells h.d2
 obtain⟨g0,_⟩:=cblk2 h.d3
 exact⟨⟨c0,c1,c3⟩,g0,c5,lt_of_block h.d3⟩
theorem Fz.of {w10 x z4 z5:World} {n11 q1:Nat} {y1 y2 y3 y4:Value} {k2 k3:Nat} {av VS:List Value} {E0:Nat} (hC:Pc W1 hb s k v1 n l1 w10) (hL:Lo w10 n11 q1 q2 q3 y1 y2 y3 y4 u1 u2 u3 u4 k2 k3 s.l s.ns na ra av T x) (hE:W1.heap.size<=E0) (hx:Below x.heap.size x z4) (ro:∀v∈VS,Rov z4 E0 v) (h1:∀q,v1.ownBlock=some q->q<E0) (hv:∀q∈blocks VS,E0<=q/\q<w10.heap.size) (hA:Af z4 z5 VS):Fz W1 hb s k v1 n l1 q2 q3 u1 u2 u3 u4 na ra T z5:=by
 have hk:=af_tk ro hA
 have hL4:=hL.next hx
 have hC4:Pc W1 hb s k v1 n l1 z4:=hC.next hL4.b
 have hn:=hL.n
 refine⟨hC4.tk hk ⟨hA.os.trans hC4.b.os,hA.tape.trans hC4.b.tape,hA.output.trans hC4.b.output,Nat.le_trans hC4.b.size hA.size,fun q hq=>(hA.far q (by have:=hC4.b.size;omega) (fun hx=>by have:=(hv q hx).1;omega)).trans (hC4.b.block q hq)⟩ (fun q hq=>?_),hk.blk hL4.d2 (by decide) (by decide),hk.blk hL4.d3 (by decide) (by decide),Rd.ofOwn (hk.row hL4.r1 (by decide) (by decide)) hL4.rng,Rs.ofOwn (hk.row hL4.r4 (by decide) (by decide)),(hL4.t.keep (fun q h1 h2=>hA.far q h2 (fun hx=>by have:=(hv q hx).2;omega))).gr⟩
 obtain⟨B1,hr⟩:=hC4.r
 exact hA.far q (hr.lt q hq).2 (fun hx=>by have:=(hv q hx).1;have:=h1 q hq;omega)
end
structure Bq (T:Gf) (q1 q2 p3 p4:Nat) (a1 r1 a2 r2 a3 a4:Option Addr) (k1 d1 k2 d2 c3 c4:Nat) (K3 A3 N3 K4 A4 N4:Int) (S3 S4:ByteArray) (L3 L4:Nat) (w:World):Prop where
 x1:w.heap[q1]?=some (.cells #[.slice a1 T.nodes.length k1,.slice r1 T.roots.length d1] 25)
 x2:w.heap[q2]?=some (.cells #[.slice a2 T.nodes.length k2,.slice r2 T.roots.length d2] 25)
 y3:w.heap[p3]?=some (celO K3 A3 S3 N3 (.slice a3 L3 c3))
 y4:w.heap[p4]?=some (celO K4 A4 S4 N4 (.slice a4 L4 c4))
section
variable {T:Gf} {q1 q2 p3 p4:Nat} {a1 r1 a2 r2 a3 a4:Option Addr} {k1 d1 k2 d2 c3 c4:Nat} {K3 A3 N3 K4 A4 N4:Int} {S3 S4:ByteArray} {L3 L4:Nat} {w w':World}
theorem Bq.next (h:Bq T q1 q2 p3 p4 a1 r1 a2 r2 a3 a4 k1 d1 k2 d2 c3 c4 K3 A3 N3 K4 A4 N4 S3 S4 L3 L4 w) (hb:Below w.heap.size w w'):Bq T q1 q2 p3 p4 a1 r1 a2 r2 a3 a4 k1 d1 k2 d2 c3 c4 K3 A3 N3 K4 A4 N4 S3 S4 L3 L4 w':=
 ⟨(hb.block _ (lt_of_block h.x1)).trans h.x1,(hb.block _ (lt_of_block h.x2)).trans h.x2,(hb.block _ (lt_of_block h.y3)).trans h.y3,(hb.block _ (lt_of_block h.y4)).trans h.y4⟩
theorem Bq.cells (h:Bq T q1 q2 p3 p4 a1 r1 a2 r2 a3 a4 k1 d1 k2 d2 c3 c4 K3 A3 N3 K4 A4 N4 S3 S4 L3 L4 w):w.cell? ⟨q1,0,none⟩=some (.slice a1 T.nodes.length k1)/\w.cell? ⟨q1,1,none⟩=some (.slice r1 T.roots.length d1)/\w.cell? ⟨q2,0,none⟩=some (.slice a2 T.nodes.length k2)/\w.cell? ⟨q2,1,none⟩=some (.slice r2 T.roots.length d2)/\w.cell? ⟨p3,4,none⟩=some (.slice a3 L3 c3)/\w.cell? ⟨p4,4,none⟩=some (.slice a4 L4 c4):=by
 obtain⟨⟨z1,z1'⟩,_⟩:=cblk2 h.x1
 obtain⟨⟨z2,z2'⟩,_⟩:=cblk2 h.x2
 obtain⟨⟨_,_,_,_,z3⟩,_⟩:=cel_cells h.y3
 obtain⟨⟨_,_,_,_,z4⟩,_⟩:=cel_cells h.y4
 exact⟨z1,z1',z2,z2',z3,z4⟩
theorem Bq.fin (h:Bq T q1 q2 p3 p4 a1 r1 a2 r2 a3 a4 k1 d1 k2 d2 c3 c4 K3 A3 N3 K4 A4 N4 S3 S4 L3 L4 w) (ht:Tk w w'):Bq T q1 q2 p3 p4 a1 r1 a2 r2 a3 a4 k1 d1 k2 d2 c3 c4 K3 A3 N3 K4 A4 N4 S3 S4 L3 L4 w':=
 ⟨ht.blk h.x1 (by decide) (by decide),ht.blk h.x2 (by decide) (by decide),ht.blk h.y3 (by decide) (by decide),ht.blk h.y4 (by decide) (by decide)⟩
end
theorem Lo.set2 {w10 w:World} {n11 q1 q2 q3:Nat} {v1 v2 v3 v4 u1 u2 u3 u4:Value} {k2 k3:Nat} {A:List Int} {NS:List ByteArray} {na ra:Value} {av:List Value} {T:Gf} (h:Lo w10 n11 q1 q2 q3 v1 v2 v3 v4 u1 u2 u3 u4 k2 k3 A NS na ra av T w) {p:Nat} {cs:Array Value} (hp:w.heap[p]?=some (.cells cs 59 (0,0))) (hn:w10.heap.size<=p/\p<n11) (hv:v2.ownBlock=some p) (i j:Nat) (x y:Value):Lo w10 n11 q1 q2 q3 v1 v2 v3 v4 u1 u2 u3 u4 k2 k3 A NS na ra av T ((w.setCell ⟨p,i,none⟩ x).setCell ⟨p,j,none⟩ y):=
 (h.set hp hn (by decide) (fun e=>absurd e (by decide)) (fun _=>hv) (fun e=>absurd e (by decide)) (fun e=>absurd e (by decide)) i x).set (heap_setCell_same w p i _ _ x hp) hn (by decide) (fun e=>absurd e (by decide)) (fun _=>hv) (fun e=>absurd e (by decide)) (fun e=>absurd e (by decide)) j y
theorem Lo.set3 {w10 w:World} {n11 q1 q2 q3:Nat} {v1 v2 v3 v4 u1 u2 u3 u4:Value} {k2 k3:Nat} {A:List Int} {NS:List ByteArray} {na ra:Value} {av:List Value} {T:Gf} (h:Lo w10 n11 q1 q2 q3 v1 v2 v3 v4 u1 u2 u3 u4 k2 k3 A NS na ra av T w) {p:Nat} {cs:Array Value} (hp:w.heap[p]?=some (.cells cs 61 (0,0))) (hn:w10.heap.size<=p/\p<n11) (hv:v3.ownBlock=some p) (i j k:Nat) (x y z:Value):Lo w10 n11 q1 q2 q3 v1 v2 v3 v4 u1 u2 u3 u4 k2 k3 A NS na ra av T (((w.setCell ⟨p,i,none⟩ x).setCell ⟨p,j,none⟩ y).setCell ⟨p,k,none⟩ z):=
 ((h.set hp hn (by decide) (fun e=>absurd e (by decide)) (fun e=>absurd e (by decide)) (fun _=>hv) (fun e=>absurd e (by decide)) i x).set (heap_setCell_same w p i _ _ x hp) hn (by decide) (fun e=>absurd e (by decide)) (fun e=>absurd e (by decide)) (fun _=>hv) (fun e=>absurd e (by decide)) j y).set (heap_setCell_same _ p j _ _ y (heap_setCell_same w p i _ _ x hp)) hn (by decide) (fun e=>absurd e (by decide)) (fun e=>absurd e (by decide)) (fun _=>hv) (fun e=>absurd e (by decide)) k z
theorem Lo.set1 {w10 w:World} {n11 q1 q2 q3:Nat} {v1 v2 v3 v4 u1 u2 u3 u4:Value} {k2 k3:Nat} {A:List Int} {NS:List ByteArray} {na ra:Value} {av:List Value} {T:Gf} (h:Lo w10 n11 q1 q2 q3 v1 v2 v3 v4 u1 u2 u3 u4 k2 k3 A NS na ra av T w) {p:Nat} {cs:Array Value} (hp:w.heap[p]?=some (.cells cs 57 (0,0))) (hn:w10.heap.size<=p/\p<n11) (hv:v1.ownBlock=some p) (i:Nat) (x:Value):Lo w10 n11 q1 q2 q3 v1 v2 v3 v4 u1 u2 u3 u4 k2 k3 A NS na ra av T (w.setCell ⟨p,i,none⟩ x):=
 h.set hp hn (by decide) (fun _=>hv) (fun e=>absurd e (by decide)) (fun e=>absurd e (by decide)) (fun e=>absurd e (by decide)) i x
theorem Lo.set4 {w10 w:World} {n11 q1 q2 q3:Nat} {v1 v2 v3 v4 u1 u2 u3 u4:Value} {k2 k3:Nat} {A:List Int} {NS:List ByteArray} {na ra:Value} {av:List Value} {T:Gf} (h:Lo w10 n11 q1 q2 q3 v1 v2 v3 v4 u1 u2 u3 u4 k2 k3 A NS na ra av T w) {p:Nat} {cs:Array Value} (hp:w.heap[p]?=some (.cells cs 9 (0,0))) (hn:w10.heap.size<=p/\p<n11) (hv:v4.ownBlock=some p) (i:Nat) (x:Value):Lo w10 n11 q1 q2 q3 v1 v2 v3 v4 u1 u2 u3 u4 k2 k3 A NS na ra av T (w.setCell ⟨p,i,none⟩ x):=
 h.set hp hn (by decide) (fun e=>absurd e (by decide)) (fun e=>absurd e (by decide)) (fun e=>absurd e (by decide)) (fun _=>hv) i x
section
variable {W1 w:World} {hb:Nat} {s:Hst} {k:Nat} {n:Nat} {l1:List Int}
theorem Pc.dump {v1:Value} (h:Pc W1 hb s k v1 n l1 w) (hk:k<=1000) :
  Calls Tryz.prog 15 #[.pointer (some ⟨hb,0,none⟩)] w fun e w'=>(∃a1 c1 a2 c2 a3 c3 ua uc,e=.returned (.agg #[.slice a1 s.l.length c1,.slice a2 s.tr.length c2,.slice a3 s.pt.length c3,.slice ua s.ns.length uc,.slice none 0 0])/\Dr w.heap.size (.slice a1 s.l.length c1) s.l.length (s.l.map (Value.int .u64)) (.slice a2 s.tr.length c2) s.tr.length (svC s.tr) (.slice a3 s.pt.length c3) s.pt.length (mkC s.pt) w'/\w'.ownsRow w.heap.size 9 1 (.slice ua s.ns.length uc) s.ns.length (s.ns.map Value.string))/\Below w.heap.size w w':=by
 obtain⟨F,hh⟩:=h.h
 exact dump_hs hh h.j hk
theorem Pc.get {s0:Hst} {k0:Nat} {T:List Int} {g:Gf} {v1:Value} (h:Pc W1 hb s k v1 g.roots.length (csL s0.l.length g.roots.length) w) (h0:Sj s0 k0) (hl:s.l=wdP s0.l s0.ns g++T) (hp:nsP s0.ns g <+: s.ns) (hpm:PmC (nsP s0.ns g) g (metF g) s0.l.length) (hg:Good g) (ee:Nat->Nat->Bool) (he:∀x y:Nat,(ee x y=true↔Al g (x:Int) (y:Int))) :
  Calls Tryz.prog 13 #[.pointer (some ⟨hb,0,none⟩),v1] w fun e w'=>(∃a k r d av,e=.returned (.tuple #[.agg #[.slice a (trimF (quoF ee g)).nodes.length k,.slice r (trimF (quoF ee g)).roots.length d],.nilIface])/\Og w' w.heap.size (.slice a (trimF (quoF ee g)).nodes.length k) (.slice r (trimF (quoF ee g)).roots.length d) av (trimF (quoF ee g)))/\Below w.heap.size w w':=by
 obtain⟨F,hh⟩:=h.h
 obtain⟨V,hV⟩:=h0.si.now.1
 refine (get_hs hh h.j (by decide) hl hp hV h0.si.now.2 hpm hg (h.ri (by simp[csL])) ee he).mono ?_
 rintro e w' ⟨⟨nv,rv,av,rfl,ho⟩,hb'⟩
 obtain⟨a,c,rfl⟩:=ho.nsl
 obtain⟨r,d,rfl,_⟩:=ho.r
 exact⟨⟨a,c,r,d,av,rfl,ho⟩,hb'⟩
theorem Pc.look {v1:Value} (h:Pc W1 hb s k v1 n l1 w) (x:Nat) (hc:cellB s.l (x:Int)=true) :
  Calls Tryz.prog 14 #[.pointer (some ⟨hb,0,none⟩),.int .i64 (x:Int)] w fun e w'=>(∃K A S N ao c,e=.returned (.tuple #[.agg #[.int .i64 K,.int .i64 A,.string S,.int .i64 N,.slice ao (tdL s.l (trmW s.l x)).length c],.nilIface])/\w'.ownsRow w.heap.size 3 1 (.slice ao (tdL s.l (trmW s.l x)).length c) (tdL s.l (trmW s.l x)).length ((tdL s.l (trmW s.l x)).map (Value.int .i64)))/\Below w.heap.size w w'/\(tdL s.l (trmW s.l x)).length<=8:=by
 obtain⟨F,hh⟩:=h.h
 exact (look_hs hh h.j x hc).mono fun e w' ⟨⟨ao,c,h1,h2⟩,h3,h4⟩=>⟨⟨_,_,_,_,ao,c,h1,h2⟩,h3,h4⟩
theorem Pc.at0 {p1 c1 b:Nat} (h:Pc W1 hb s k (.slice (some ⟨p1,0,none⟩) n c1) n (csL b n) w) (hn:0<n):w.cell? ⟨p1,0,none⟩=some (.int .i64 (b:Int))/\p1<w.heap.size:=by
 obtain⟨B1,hr⟩:=h.r
 have e:=hr.cellAt 0 (by omega)
 refine⟨?_,(hr.lt p1 rfl).2⟩
 rw[e]
 simp[csL,hn]
end
structure Fy (W1:World) (hb:Nat) (s:Hst) (k:Nat) (v1:Value) (n:Nat) (l1:List Int) (q2 q3 q4:Nat) (u1 u2 u3 u4 z1 z2 z3 z4 na ra:Value) (T:Gf) (w:World):Prop where
 f:Fz W1 hb s k v1 n l1 q2 q3 u1 u2 u3 u4 na ra T w
 d:w.heap[q4]?=some (dmpO z1 z2 z3 z4 (.slice none 0 0))
 r1:Rd w z1 s.l
 r4:Rs w z4 s.ns
theorem Fy.next {W1 w w':World} {hb:Nat} {s:Hst} {k:Nat} {v1:Value} {n:Nat} {l1:List Int} {q2 q3 q4:Nat} {u1 u2 u3 u4 z1 z2 z3 z4 na ra:Value} {T:Gf} (h:Fy W1 hb s k v1 n l1 q2 q3 q4 u1 u2 u3 u4 z1 z2 z3 z4 na ra T w) (hb':Below w.heap.size w w'):Fy W1 hb s k v1 n l1 q2 q3 q4 u1 u2 u3 u4 z1 z2 z3 z4 na ra T w':=
 ⟨h.f.next hb',(hb'.block _ (lt_of_block h.d)).trans h.d,h.r1.below hb',h.r4.below hb'⟩
theorem Fy.start {W1 w w1:World} {hb:Nat} {s:Hst} {k:Nat} {v1:Value} {n:Nat} {l1:List Int} {q2 q3:Nat} {u1 u2 u3 u4 z1 z2 z3 z4 na ra:Value} {T:Gf} {k2 k3:Nat} {xs2 xs3:List Value} (h:Fz W1 hb s k v1 n l1 q2 q3 u1 u2 u3 u4 na ra T w) (hb1:Below w.heap.size w w1) (hr:Dr w.heap.size z1 s.l.length (s.l.map (Value.int .u64)) z2 k2 xs2 z3 k3 xs3 w1) (hn:w1.ownsRow w.heap.size 9 1 z4 s.ns.length (s.ns.map Value.string)):Fy W1 hb s k v1 n l1 q2 q3 w1.heap.size u1 u2 u3 u4 z1 z2 z3 z4 na ra T (w1.alloc (dmpO z1 z2 z3 z4 (.slice none 0 0))):=
 ⟨h.next (Below.next hb1 (below_alloc w1 _)),heap_alloc_new w1 _,(Rd.ofOwn hr.r1 (si_rng h.c.j)).below (below_alloc w1 _),(Rs.ofOwn hn).below (below_alloc w1 _)⟩
theorem Fy.cells {W1 w:World} {hb:Nat} {s:Hst} {k:Nat} {v1:Value} {n:Nat} {l1:List Int} {q2 q3 q4:Nat} {u1 u2 u3 u4 z1 z2 z3 z4 na ra:Value} {T:Gf} (h:Fy W1 hb s k v1 n l1 q2 q3 q4 u1 u2 u3 u4 z1 z2 z3 z4 na ra T w):((w.cell? ⟨q2,0,none⟩=some u1/\w.cell? ⟨q2,1,none⟩=some u2/\w.cell? ⟨q2,3,none⟩=some u4)/\(w.cell? ⟨q3,0,none⟩=some na/\w.cell? ⟨q3,1,none⟩=some ra)/\q2<w.heap.size/\q3<w.heap.size)/\(w.cell? ⟨q4,0,none⟩=some z1/\w.cell? ⟨q4,1,none⟩=some z2/\w.cell? ⟨q4,3,none⟩=some z4)/\q4<w.heap.size:=by
 obtain⟨⟨c0,c1,c2,c3,_⟩,_,c5⟩:=cel_cells h.d
 exact⟨h.f.cells,⟨c0,c1,c3⟩,c5⟩
theorem a_sameB {w:World} {u u':Value} {l:List Int} (h:Rd w u l) (h':Rd w u' l) (hl:l.length<=100000) :
  Calls Tryz.prog 20 #[u,u'] w fun e w'=>e=.returned (.bool true)/\Below w.heap.size w w':=
 (a_same_any h h' (by omega)).mono fun e w' ⟨h1,d,h2⟩=>⟨h1,h2 ▸ below_drewN (Below.refl _ w) d⟩
theorem own_some {w:World} {B z n c:Nat} {e:TypeId} {ao:Option Addr} {xs:List Value} (h:w.ownsRow B e z (.slice ao n c) n xs) (hn:0<n):∃p,ao=some ⟨p,0,none⟩:=by
 rcases h.2 with⟨_,h0⟩ | ⟨g,cap,cur,h0,_⟩
 ·omega
 ·injection h0 with h0 _ _
  exact⟨g,h0⟩
theorem row_some_lt {w:World} {B z n c:Nat} {e:TypeId} {ao:Option Addr} {xs:List Value} (h:w.ownsRow B e z (.slice ao n c) n xs) (hn:0<n):B<w.heap.size:=by
 obtain⟨p,rfl⟩:=own_some h hn
 have:=h.lt p rfl
 omega
theorem own_perm (a b c d e:Value) (x y:List Value):List.Perm (a::b::(x++c::(y++[d,e]))) (b::(x++c::(y++[d,e,a]))):=by
 have h:∀l:List Value,List.Perm (a::l) (l++[a]):=fun l=>(List.perm_append_singleton a l).symm
 simpa using h (b::(x++c::(y++[d,e])))
theorem gcell {W1 w:World} {q:Nat} {u0 u1:Value} {T:TypeId} (h:W1.heap[q]?=some (.cells #[u0,u1] T)) (hb:Below W1.heap.size W1 w):(w.cell? ⟨q,0,none⟩=some u0/\w.cell? ⟨q,1,none⟩=some u1)/\q<w.heap.size:=by
 have h2:=(hb.block _ (lt_of_block h)).trans h
 exact⟨(cblk2 h2).1,lt_of_block h2⟩
end Go.Proofs.YtbfbkmkjcekpaaaGreatDoor
namespace Go.Proofs.YtbfbkmkjcekpaaaGreatDoor
set_option maxRecDepth 100000
open Go.RowKit
set_option maxHeartbeats 16000000 in
theorem owns_l1 {W:World} (hE:ErrC W) {nv rv v1:Value} {g:Gf} {os:List Opd} (hG:Gr W nv rv g) (hR:Rop W v1 os) (h0:longB os=true) :
  Calls Tryz.prog 3 #[.agg #[nv,rv],v1] W fun e w'=>e=.returned (.bool true)/\Below W.heap.size W w':=by
 have hb0:=below_alloc W (.cells #[nv,rv] 25)
 have hG1:=hid (hG.below hb0)
 have hR1:=hid (hR.below hb0)
 have HE1:=hid (hE.below hb0)
 obtain⟨na,nc,rfl,_⟩:=hG.1
 obtain⟨ra,rc,rfl,_⟩:=hG.2
 obtain⟨ao0,c0,rfl,_⟩:=hR
 have hfr:=hid (freshH_any (W.alloc (.cells #[.slice na g.nodes.length nc,.slice ra g.roots.length rc] 25)))
 have HX:=hid (heap_alloc_new W (.cells #[.slice na g.nodes.length nc,.slice ra g.roots.length rc] 25))
 have HBW:=hid (fun (w:World) (h:Below (W.alloc (.cells #[.slice na g.nodes.length nc,.slice ra g.roots.length rc] 25)).heap.size (W.alloc (.cells #[.slice na g.nodes.length nc,.slice ra g.roots.length rc] 25)) w)=>Below.next hb0 h)
 obtain⟨W1,hW1⟩:∃W1,W1=W.alloc (.cells #[.slice na g.nodes.length nc,.slice ra g.roots.length rc] 25):=⟨_,rfl⟩
 rw[←hW1] at hG1 hR1 HE1 HX HBW
 have HW1:=hid hW1
 have hlo:=hid (fun w (hb:Below W1.heap.size W1 w)=>long_any (hR1.out.below hb))
 have hsm:=hid (fun w (hb:Below W1.heap.size W1 w)=>smallK_any (K:=30) (by decide) (hG1.out.below hb))
 clear hW1 hb0 hG hE
 rw[h0] at hlo
 clear h0
 go_enter Tryz.func3,Tryz.ntmps3
 go_wp2_with (first
  | (go_at_call 4;refine hfr.out.mono ?_;rintro e w1 ⟨⟨hb,rfl,hH⟩,hb1⟩;rw[←HW1.out] at hH hb1;have HU:Hid (Ua1 W1 w1 hb hs0 0):=⟨hb1,hH,sj0⟩;clear hH hb1)
  | (go_at_call 5;refine (clives_any _).mono ?_;rintro e w2 ⟨rfl,hb2⟩;replace HU:=hid (HU.out.next hb2);clear hb2;(try clear g0 g1 g2);obtain⟨⟨g0,g1⟩,g2⟩:=gcell HX.out HU.out.b)
  | (go_at_call 6;refine (hlo.out _ HU.out.b).mono ?_;rintro e w3 ⟨rfl,hb3⟩;replace HU:=hid (HU.out.next hb3);clear hb3;(try clear g0 g1 g2);obtain⟨⟨g0,g1⟩,g2⟩:=gcell HX.out HU.out.b)
  | (go_at_call 7;refine (hsm.out _ HU.out.b).mono ?_;rintro e w4 ⟨rfl,hb4⟩;replace HU:=hid (HU.out.next hb4);clear hb4;(try clear g0 g1 g2);obtain⟨⟨g0,g1⟩,g2⟩:=gcell HX.out HU.out.b))
 go_ret
 exact⟨rfl,HBW.out _ HU.out.b⟩
set_option maxHeartbeats 16000000 in
theorem owns_l2 {W:World} (hE:ErrC W) {nv rv v1:Value} {g:Gf} {os:List Opd} (hG:Gr W nv rv g) (hR:Rop W v1 os) (h0:longB os=false) (h1:smallK 30 g=false) :
  Calls Tryz.prog 3 #[.agg #[nv,rv],v1] W fun e w'=>e=.returned (.bool true)/\Below W.heap.size W w':=by
 have hb0:=below_alloc W (.cells #[nv,rv] 25)
 have hG1:=hid (hG.below hb0)
 have hR1:=hid (hR.below hb0)
 have HE1:=hid (hE.below hb0)
 obtain⟨na,nc,rfl,_⟩:=hG.1
 obtain⟨ra,rc,rfl,_⟩:=hG.2
 obtain⟨ao0,c0,rfl,_⟩:=hR
 have hfr:=hid (freshH_any (W.alloc (.cells #[.slice na g.nodes.length nc,.slice ra g.roots.length rc] 25)))
 have HX:=hid (heap_alloc_new W (.cells #[.slice na g.nodes.length nc,.slice ra g.roots.length rc] 25))
 have HBW:=hid (fun (w:World) (h:Below (W.alloc (.cells #[.slice na g.nodes.length nc,.slice ra g.roots.length rc] 25)).heap.size (W.alloc (.cells #[.slice na g.nodes.length nc,.slice ra g.roots.length rc] 25)) w)=>Below.next hb0 h)
 obtain⟨W1,hW1⟩:∃W1,W1=W.alloc (.cells #[.slice na g.nodes.length nc,.slice ra g.roots.length rc] 25):=⟨_,rfl⟩
 rw[←hW1] at hG1 hR1 HE1 HX HBW
 have HW1:=hid hW1
 have hlo:=hid (fun w (hb:Below W1.heap.size W1 w)=>long_any (hR1.out.below hb))
 have hsm:=hid (fun w (hb:Below W1.heap.size W1 w)=>smallK_any (K:=30) (by decide) (hG1.out.below hb))
 clear hW1 hb0 hG hE
 rw[h0] at hlo
 rw[h1] at hsm
 clear h0 h1
 go_enter Tryz.func3,Tryz.ntmps3
 go_wp2_with (first
  | (go_at_call 4;refine hfr.out.mono ?_;rintro e w1 ⟨⟨hb,rfl,hH⟩,hb1⟩;rw[←HW1.out] at hH hb1;have HU:Hid (Ua1 W1 w1 hb hs0 0):=⟨hb1,hH,sj0⟩;clear hH hb1)
  | (go_at_call 5;refine (clives_any _).mono ?_;rintro e w2 ⟨rfl,hb2⟩;replace HU:=hid (HU.out.next hb2);clear hb2;(try clear g0 g1 g2);obtain⟨⟨g0,g1⟩,g2⟩:=gcell HX.out HU.out.b)
  | (go_at_call 6;refine (hlo.out _ HU.out.b).mono ?_;rintro e w3 ⟨rfl,hb3⟩;replace HU:=hid (HU.out.next hb3);clear hb3;(try clear g0 g1 g2);obtain⟨⟨g0,g1⟩,g2⟩:=gcell HX.out HU.out.b)
  | (go_at_call 7;refine (hsm.out _ HU.out.b).mono ?_;rintro e w4 ⟨rfl,hb4⟩;replace HU:=hid (HU.out.next hb4);clear hb4;(try clear g0 g1 g2);obtain⟨⟨g0,g1⟩,g2⟩:=gcell HX.out HU.out.b))
 go_ret
 exact⟨rfl,HBW.out _ HU.out.b⟩
set_option maxHeartbeats 16000000 in
theorem owns_go {W:World} (hE:ErrC W) {nv rv v1:Value} {g:Gf} {os:List Opd} (hG:Gr W nv rv g) (hS:Sized g) (hR:Rop W v1 os) (h0:longB os=false) (h1:smallK 30 g=true) :
  Calls Tryz.prog 3 #[.agg #[nv,rv],v1] W fun e w'=>e=.returned (.bool true)/\Below W.heap.size W w':=by
 have hb0:=below_alloc W (.cells #[nv,rv] 25)
 have hG1:=hid (hG.below hb0)
 have hR1:=hid (hR.below hb0)
 have HE1:=hid (hE.below hb0)
 obtain⟨na,nc,rfl,_⟩:=hG.1
 obtain⟨ra,rc,rfl,_⟩:=hG.2
 obtain⟨ao0,c0,rfl,_⟩:=hR
 have hfr:=hid (freshH_any (W.alloc (.cells #[.slice na g.nodes.length nc,.slice ra g.roots.length rc] 25)))
 have HX:=hid (heap_alloc_new W (.cells #[.slice na g.nodes.length nc,.slice ra g.roots.length rc] 25))
 have HBW:=hid (fun (w:World) (h:Below (W.alloc (.cells #[.slice na g.nodes.length nc,.slice ra g.roots.length rc] 25)).heap.size (W.alloc (.cells #[.slice na g.nodes.length nc,.slice ra g.roots.length rc] 25)) w)=>Below.next hb0 h)
 obtain⟨W1,hW1⟩:∃W1,W1=W.alloc (.cells #[.slice na g.nodes.length nc,.slice ra g.roots.length rc] 25):=⟨_,rfl⟩
 rw[←hW1] at hG1 hR1 HE1 HX HBW
 have HW1:=hid hW1
 have hlo:=hid (fun w (hb:Below W1.heap.size W1 w)=>long_any (hR1.out.below hb))
 have hsm:=hid (fun w (hb:Below W1.heap.size W1 w)=>smallK_any (K:=30) (by decide) (hG1.out.below hb))
 clear hW1 hb0 hG hE
 rw[h0] at hlo
 rw[h1] at hsm
 obtain⟨l0,_⟩:=longB_no h0
 obtain⟨ha,hn0,hr0⟩:=smallK_fits h1
 have hfa:=hid ha
 have hn3:g.nodes.length<=300:=by omega
 have hr3:g.roots.length<=300:=by omega
 have hgr:=hid (fun (w:World) (hb:Below W1.heap.size W1 w)=>hgraph_any (hG1.out.below hb) hn3 hr3 ha)
 have HSz:=hid hS
 obtain⟨_,_,hvv,hc0⟩:=hR1.out
 injection hvv with e1 _ e3
 subst e1 e3
 have Hc0:=hid hc0
 clear h0 h1 hc0 hS ha
 go_enter Tryz.func3,Tryz.ntmps3
 go_wp2_with (first
  | (go_at_call 4;refine hfr.out.mono ?_;rintro e w1 ⟨⟨hb,rfl,hH⟩,hb1⟩;rw[←HW1.out] at hH hb1;have HU:Hid (Ua1 W1 w1 hb hs0 0):=⟨hb1,hH,sj0⟩;clear hH hb1)
  | (go_at_call 5;refine (clives_any _).mono ?_;rintro e w2 ⟨rfl,hb2⟩;replace HU:=hid (HU.out.next hb2);clear hb2;(try clear g0 g1 g2);obtain⟨⟨g0,g1⟩,g2⟩:=gcell HX.out HU.out.b)
  | (go_at_call 6;refine (hlo.out _ HU.out.b).mono ?_;rintro e w3 ⟨rfl,hb3⟩;replace HU:=hid (HU.out.next hb3);clear hb3;(try clear g0 g1 g2);obtain⟨⟨g0,g1⟩,g2⟩:=gcell HX.out HU.out.b)
  | (go_at_call 7;refine (hsm.out _ HU.out.b).mono ?_;rintro e w4 ⟨rfl,hb4⟩;replace HU:=hid (HU.out.next hb4);clear hb4;(try clear g0 g1 g2);obtain⟨⟨g0,g1⟩,g2⟩:=gcell HX.out HU.out.b))
 clear hfr hlo hsm
 (try clear g0 g1 g2)
 go_loopw [47] (fun i wr=>∃(k:Nat) (s:Hst),k<=os.length/\i=.int .i64 (k:Int)/\Hid (Ua1 W1 wr hb s k)) (fun i _=>os.length-(intOf i).toNat)
 case atStart=>exact⟨0,hs0,Nat.zero_le _,rfl,HU⟩
 case round=>
  obtain⟨k,s,hk,rfl,hS⟩:=hrel
  clear HU
  by_cases hlt:k<os.length
  ·have hki:(k:Int)<(os.length:Int):=by omega
   obtain⟨b,o,nv,rv,hao,hat⟩:=Hc0.out k hlt
   subst hao
   obtain⟨x0,x1,x2,x3,x4,_,_⟩:=hat.below hS.out.b
   have hG:=hat.2.2.2.2.2.1
   have hZ:=hat.2.2.2.2.2.2
   clear hat
   generalize os.getD k od0=od at *
   obtain⟨kd,g9,a,bb⟩:=od
   dsimp only at *
   have hpl:=hid (fun w1 (hb1:Below wr.heap.size wr w1)=>(hS.out.next hb1).play HE1.out (by omega) hG hZ kd a bb)
   obtain⟨na9,nc9,rfl,_⟩:=hG.1
   obtain⟨ra9,rc9,rfl,_⟩:=hG.2
   have hb0:=hid (below_alloc wr (.cells #[.int .i64 kd,.slice na9 g9.nodes.length nc9,.slice ra9 g9.roots.length rc9,.int .i64 a,.int .i64 bb] 33))
   clear hG hZ hS
   go_wp2_with (go_at_call 8;refine (hpl.out _ hb0.out).mono ?_;rintro e w2 ⟨rfl,s',hU⟩;have HU2:=hid hU;clear hU)
   go_roundw
   case rel=>exact⟨k+1,s',by omega,congrArg (Value.int .i64) (by omega),HU2⟩
   case measure=>simp[intOf];omega
  ·obtain rfl:k=os.length:=by omega
   clear Hc0
   obtain⟨⟨g0,g1⟩,g2⟩:=gcell HX.out hS.out.b
   by_cases hc1:PutC s g 400
   ·by_cases hc2:PutC (putHs s g) g 400
    ·by_cases hr1:0<g.roots.length
     ·have d0:((g.roots.length:Int) == 0)=false:=by rw[beq_eq_false_iff_ne];omega
      have u1:True:=trivial
      have u2:True:=trivial
      have u3:True:=trivial
      have u4:True:=trivial
      have hgd:=chk_good hc1.1
      have hpm:PmC (nsP s.ns g) g (metF g) s.l.length:=pmc_ofG hgd hc1.2.1 (by have:=hc1.2.2;omega)
      obtain⟨ee,hee⟩:=al_dec g
      have hj0:=hS.out.j
      have hpre:nsP s.ns g <+: nsP (nsP s.ns g) g:=by
       have:=wthJ_pre (nsP s.ns g) g (metF g) 0 (metF g).length
       rw[Nat.zero_add] at this
       exact this
      have hmem:((s.l.length:Nat):Int)∈csL s.l.length g.roots.length:=List.mem_map.2 ⟨0,List.mem_range.2 hr1,by simp⟩
      have hq:=trim_good0 (quo_good hgd (al_eqv hgd hee))
      have hfit:=fits_good hq
      have hTn:(trimF (quoF ee g)).nodes.length<=30:=by
       have h1:=trim_len (quo_good hgd (al_eqv hgd hee))
       have h2:=(met_ok (quo_good hgd (al_eqv hgd hee))).le
       have h3:=quo_len ee g
       have h4:=lsF_le ee g.nodes.length
       omega
      have hTr:(trimF (quoF ee g)).roots.length<=4900:=by rw[least_root];simp;omega
      have hTa:Hid (∀n∈(trimF (quoF ee g)).nodes,n.args.length<=4900):=fun n hx=>by have:=(good_args (hq.node n hx)).2;omega
      have hns:(putHs (putHs s g) g).ns.length<=1024:=hc2.2.1
      have hcl:=cell_old (T:=putW (nsP (nsP s.ns g) g) g (metF g) (wdP s.l s.ns g).length) (csl_cell hpm _ hmem)
      obtain⟨s2,hs2⟩:∃s2,s2=putHs (putHs s g) g:=⟨_,rfl⟩
      have hget:=hid (fun (w:World) (v1:Value) (K:Nat) (h:Pc W1 hb s2 K v1 g.roots.length (csL s.l.length g.roots.length) w)=>h.get (T:=putW (nsP (nsP s.ns g) g) g (metF g) (wdP s.l s.ns g).length) hj0 (by rw[hs2];rfl) (by rw[hs2];exact hpre) hpm hgd ee hee)
      have hlook:=hid (fun (w:World) (v1:Value) (K:Nat) (h:Pc W1 hb s2 K v1 g.roots.length (csL s.l.length g.roots.length) w)=>h.look s.l.length (by rw[hs2];exact hcl))
      have hquo:=hid (fun (w:World) (hb:Below W1.heap.size W1 w)=>quot_good (hG1.out.below hb) HSz.out hc1.1 ee hee)
      have hsame:=hid (fun (w:World) (n r m q:Value) (h1:Gr w n r (trimF (quoF ee g))) (h2:Gr w m q (trimF (quoF ee g)))=>same_any h1 h2 hfit)
      rw[eqG_yes] at hsame
      generalize trimF (quoF ee g)=T at *
      generalize (tdL s2.l (trmW s2.l s.l.length))=LA at *
      have hK:os.length+1+1<=1000:=by omega
      rw[←hs2] at hns
      have HS2:=hid hs2
      clear hs2 hpm hee hpre hmem hq hfit hcl hj0 hgd
      have hK1:=hK
      go_wp2_with (first
       | (go_at_call 9;refine (hgr.out _ hS.out.b).mono ?_;rintro e w3 ⟨⟨gb,cap,mrv,avs,rfl,hM⟩,hb3⟩;obtain⟨mq,mc,rfl⟩:∃mq mc,mrv=.slice (some ⟨mq,0,none⟩) g.roots.length mc:=(by obtain⟨q,c,h,_⟩:=hM.r;exact⟨q,c,h⟩);have HP:=hid (Pb.start hS.out hM hb3);clear hM hb3;(try clear m0 m1 m2);obtain⟨⟨m0,m1⟩,m2⟩:=HP.out.cells;(try clear g0 g1 g2);obtain⟨⟨g0,g1⟩,g2⟩:=gcell HX.out HP.out.b)
       | (go_at_call 10;have _u:=u1;clear u1 _u;refine (HP.out.yes HSz.out hc1).mono ?_;rintro e w4 ⟨ao1,c1,rfl,ho1,_,hP,hm4⟩;obtain⟨p1,rfl⟩:=own_some ho1 hr1;have HR1:=hid ho1;have Hl1:=hid (fun q (hq:(Value.slice (some ⟨p1,0,none⟩) g.roots.length c1).ownBlock=some q)=>(ho1.lt q hq).2);have Hz4:=hid (Nat.le_trans HP.out.z hm4.size);have Hz3:=hid (Nat.le_trans HP.out.n HP.out.lim.1.1);have HP4:=hid hP;clear HP ho1 hP hm4;(try clear m0 m1 m2);obtain⟨⟨m0,m1⟩,m2⟩:=HP4.out.cells;(try clear g0 g1 g2);obtain⟨⟨g0,g1⟩,g2⟩:=gcell HX.out HP4.out.b)
       | (go_at_call 10;refine (HP4.out.yes HSz.out hc2).mono ?_;rintro e w5 ⟨ao2,c2,rfl,ho2,_,hP,hm5⟩;replace HR1:=hid (row_keep HR1.out (fun q hq=>hm5.block q (HR1.out.lt q hq).2 (fun hx=>hx.2 hq)));have HR2:=hid ho2;have HP:=hid hP;clear HP4 ho2 hP hm5;(try clear m0 m1 m2);obtain⟨⟨m0,m1⟩,m2⟩:=HP.out.cells;(try clear g0 g1 g2);obtain⟨⟨g0,g1⟩,g2⟩:=gcell HX.out HP.out.b)
       | (go_at_call 11;refine (hKept_any HP.out.hm (hG1.out.below HP.out.b) hn3 hr3 hfa.out).mono ?_;rintro e w6 ⟨rfl,hb6⟩;replace HP:=hid (HP.out.next hb6);replace HR1:=hid (row_below HR1.out hb6);replace HR2:=hid (row_below HR2.out hb6);clear hb6;(try clear m0 m1 m2);obtain⟨⟨m0,m1⟩,m2⟩:=HP.out.cells;(try clear g0 g1 g2);obtain⟨⟨g0,g1⟩,g2⟩:=gcell HX.out HP.out.b)
       | (go_at_call 12;refine (hOver_any HP.out.hm hn3 hr3 hfa.out).mono ?_;rintro e w7 ⟨rfl,hO⟩;obtain⟨b7,h7,s7⟩:=HP.out.over hO;have hj7:=HP.out.j;rw[←HS2.out] at h7 hj7;have HC:Hid (Pc W1 hb s2 (os.length+1+1) (.slice (some ⟨p1,0,none⟩) g.roots.length c1) g.roots.length (csL s.l.length g.roots.length) w7):=⟨b7,⟨_,h7⟩,hj7,_,row_keep HR1.out (fun q hq=>s7.2 q (by have:=(HR1.out.lt q hq).1;simp at this;omega) (HR1.out.lt q hq).2)⟩;have HPh:Hid (Ph w4.heap.size (fun _=>True) [.slice ao2 g.roots.length c2] w7):=⟨trivial,fun _ _ _ _=>trivial,(Ob.one HR2.out (by simp[csL]) (Nat.le_refl _) (by omega)).keep s7.1 (fun q h1 h2=>s7.2 q (by have:=Hz4.out;omega) h2)⟩;have He0:=hid (Nat.le_trans (Nat.le_of_lt (row_some_lt HR2.out hr1)) (Nat.le_trans s7.1 (Nat.le_refl _)));clear hO b7 h7 s7 hj7 HP m0 m1 m2;(try clear g0 g1 g2);(try clear q0 q1);obtain⟨q0,q1⟩:=HC.out.at0 hr1)
       | (go_at_call 13;have _u:=u2;clear u2 _u;refine (hget.out _ _ _ HC.out).mono ?_;rintro e w8 ⟨⟨a1,k1,r1,d1,av1,rfl,ho⟩,hbq⟩;have hb2:=Below.next hbq (below_alloc w8 (.cells #[.slice a1 T.nodes.length k1,.slice r1 T.roots.length d1] 25));replace HPh:=hid (Ph.addX HPh.out He0.out hbq ho ⟨hTr,hTa.out⟩);replace He0:=hid (Nat.le_trans He0.out hb2.size);replace HC:=hid (HC.out.next hb2);clear ho hbq hb2;(try clear q0 q1);obtain⟨q0,q1⟩:=HC.out.at0 hr1)
       | (go_at_call 13;refine (hget.out _ _ _ HC.out).mono ?_;rintro e w9 ⟨⟨a2,k2,r2,d2,av2,rfl,ho⟩,hbq⟩;have hb2:=Below.next hbq (below_alloc w9 (.cells #[.slice a2 T.nodes.length k2,.slice r2 T.roots.length d2] 25));replace HPh:=hid (Ph.addX HPh.out He0.out hbq ho ⟨hTr,hTa.out⟩);replace He0:=hid (Nat.le_trans He0.out hb2.size);replace HC:=hid (HC.out.next hb2);clear ho hbq hb2;(try clear q0 q1);obtain⟨q0,q1⟩:=HC.out.at0 hr1)
       | (go_at_call 14;have _u:=u3;clear u3 _u;refine (hlook.out _ _ _ HC.out).mono ?_;rintro e wA ⟨⟨K3,A3,S3,N3,a3,c3,rfl,ho⟩,hbq,h8⟩;have hb2:=Below.next hbq (below_alloc wA (celO K3 A3 S3 N3 (.slice a3 LA.length c3)));replace HPh:=hid (Ph.addC (k:=K3) (a:=A3) (s:=S3) (n:=N3) HPh.out He0.out hbq ho (by omega));replace He0:=hid (Nat.le_trans He0.out hb2.size);replace HC:=hid (HC.out.next hb2);clear ho hbq hb2 h8;(try clear q0 q1);obtain⟨q0,q1⟩:=HC.out.at0 hr1)
       | (go_at_call 14;refine (hlook.out _ _ _ HC.out).mono ?_;rintro e wB ⟨⟨K4,A4,S4,N4,a4,c4,rfl,ho⟩,hbq,h8⟩;have hb2:=Below.next hbq (below_alloc wB (celO K4 A4 S4 N4 (.slice a4 LA.length c4)));replace HPh:=hid (Ph.addC (k:=K4) (a:=A4) (s:=S4) (n:=N4) HPh.out He0.out hbq ho (by omega));replace He0:=hid (Nat.le_trans He0.out hb2.size);replace HC:=hid (HC.out.next hb2);clear ho hbq hb2 h8;(try clear q0 q1);obtain⟨q0,q1⟩:=HC.out.at0 hr1;have HBq:Hid (Bq T w8.heap.size w9.heap.size wA.heap.size wB.heap.size a1 r1 a2 r2 a3 a4 k1 d1 k2 d2 c3 c4 K3 A3 N3 K4 A4 N4 S3 S4 LA.length LA.length (wB.alloc (celO K4 A4 S4 N4 (.slice a4 LA.length c4)))):=⟨HPh.out.f.1.1.1.2.2.1,HPh.out.f.1.1.2.2.1,HPh.out.f.1.2.2,HPh.out.f.2.2⟩;have hg1:=hid (fun (w:World) (h:Below (wB.alloc (celO K4 A4 S4 N4 (.slice a4 LA.length c4))).heap.size (wB.alloc (celO K4 A4 S4 N4 (.slice a4 LA.length c4))) w)=>(HPh.out.f.1.1.1.2.keep (sblB h)).gr);have hg2:=hid (fun (w:World) (h:Below (wB.alloc (celO K4 A4 S4 N4 (.slice a4 LA.length c4))).heap.size (wB.alloc (celO K4 A4 S4 N4 (.slice a4 LA.length c4))) w)=>(HPh.out.f.1.1.2.keep (sblB h)).gr))
       | (go_at_call 15;have _u:=u4;clear u4 _u;refine (HC.out.dump hK).mono ?_;rintro e w11 ⟨⟨x1,y1,x2,y2,x3,y3,x4,y4,rfl,hD,hN⟩,hb11⟩;have HD:=hid hD;have HN:=hid hN;have Hb11:=hid hb11;have HC1:=hid (HC.out.next hb11);clear hD hN hb11 q0 q1)
       | (go_at_call 15;refine (HC1.out.dump hK).mono ?_;rintro e w12 ⟨⟨z1,t1,z2,t2,z3,t3,z4,t4,rfl,hD,hN⟩,hb12⟩;have HD2:=hid hD;have HN2:=hid hN;have Hb12:=hid hb12;have Hbd:Hid (Below w12.heap.size w12 ((w12.alloc (dmpO (.slice x1 s2.l.length y1) (.slice x2 s2.tr.length y2) (.slice x3 s2.pt.length y3) (.slice x4 s2.ns.length y4) (.slice none 0 0))).alloc (dmpO (.slice z1 s2.l.length t1) (.slice z2 s2.tr.length t2) (.slice z3 s2.pt.length t3) (.slice z4 s2.ns.length t4) (.slice none 0 0)))):=(below_alloc w12 _).alloc (by simp) _;have HC2:=hid (HC1.out.next (Below.next hb12 Hbd.out));clear hD hN hb12;(try clear g0 g1 g2);obtain⟨⟨g0,g1⟩,g2⟩:=gcell HX.out HC2.out.b)
       | (go_at_call 16;refine (hquo.out _ HC2.out.b).mono ?_;rintro e w14 ⟨⟨nv5,rv5,av3,rfl,hO⟩,hb14⟩;obtain⟨a5,k5,rfl⟩:=hO.nsl;obtain⟨r5,d5,rfl,_⟩:=hO.r;have HL:=hid (lo_start (si_rng HC.out.j) Hb11.out (svC_len s2.tr) (mkC_len s2.pt) HD.out HN.out Hb12.out HD2.out.r1 HN2.out hb14 hO);clear HD HN Hb11 Hb12 HD2 HN2 HC1 HC2 Hbd hO hb14 g0 g1 g2;have HB:=hid (HBq.out.next HL.out.b);obtain⟨e0,e1,e2,e3,_,_⟩:=HB.out.cells;have f1:=lt_of_block HB.out.x1;have f2:=lt_of_block HB.out.x2;obtain⟨⟨b0,b1,b2,b3⟩,⟨b4,b5⟩,b6,b7⟩:=HL.out.cells)
       | (go_at_call 17;refine (hsame.out _ _ _ _ _ (by first | exact (hg1.out _ HL.out.b) | exact (hg2.out _ HL.out.b)) HL.out.t.gr).mono ?_;rintro e x9 ⟨rfl,hbq⟩;replace HL:=hid (HL.out.next hbq);clear hbq HB e0 e1 e2 e3 f1 f2 b0 b1 b2 b3 b4 b5 b6 b7;have HB:=hid (HBq.out.next HL.out.b);obtain⟨e0,e1,e2,e3,_,_⟩:=HB.out.cells;have f1:=lt_of_block HB.out.x1;have f2:=lt_of_block HB.out.x2;obtain⟨⟨b0,b1,b2,b3⟩,⟨b4,b5⟩,b6,b7⟩:=HL.out.cells))
      have hls:s2.l.length<=100000:=by
       obtain⟨F,hh⟩:=HC.out.h
       have:=hs_len hh
       omega
      have htr:=HC.out.j.t1
      have hpt:=HC.out.j.p1
      clear hquo hlook hgr
      go_loopw [25,149] (fun _ i wr=>∃j:Nat,j<=s2.l.length/\i=.int .i64 (j:Int)/\Hid (Lo (wB.alloc (celO K4 A4 S4 N4 (.slice a4 LA.length c4))) w11.heap.size w12.heap.size (w12.heap.size+1) w14.heap.size (.slice x1 s2.l.length y1) (.slice x2 s2.tr.length y2) (.slice x3 s2.pt.length y3) (.slice x4 s2.ns.length y4) (.slice z1 s2.l.length t1) (.slice z2 s2.tr.length t2) (.slice z3 s2.pt.length t3) (.slice z4 s2.ns.length t4) s2.tr.length s2.pt.length s2.l s2.ns (.slice a5 T.nodes.length k5) (.slice r5 T.roots.length d5) av3 T wr)) (fun _ i _=>s2.l.length-(intOf i).toNat)
      case atStart=>exact⟨0,Nat.zero_le _,rfl,HL⟩
      case round=>
       clear HL HB e0 e1 e2 e3 f1 f2 b0 b1 b2 b3 b4 b5 b6 b7
       obtain⟨j,hj,rfl,HL⟩:=hrel
       obtain⟨⟨b0,b1,b2,b3⟩,_,b6,_⟩:=HL.out.cells
       by_cases hlt:j<s2.l.length
       ·have hji:(j:Int)<(s2.l.length:Int):=by omega
        obtain⟨p,cs,hao,hp,hn,hc⟩:=HL.out.a1.cell hlt
        subst hao
        obtain⟨v0,p0,p1'⟩:=hc j (by omega)
        have hset:=hid (HL.out.set1 hp hn rfl j (.int .u64 7))
        have zp:=lt_of_block hp
        clear hp hc
        have Hlt:=hid hlt
        go_wp2
        go_roundw
        case rel=>exact⟨j+1,by have:=Hlt.out;omega,by go_num,hset⟩
        case measure=>have:=Hlt.out;simp[intOf];omega
       ·obtain rfl:j=s2.l.length:=by omega
        go_wp2
        go_loopw [26,160] (fun _ i wr=>∃j:Nat,j<=s2.tr.length/\i=.int .i64 (j:Int)/\Hid (Lo (wB.alloc (celO K4 A4 S4 N4 (.slice a4 LA.length c4))) w11.heap.size w12.heap.size (w12.heap.size+1) w14.heap.size (.slice x1 s2.l.length y1) (.slice x2 s2.tr.length y2) (.slice x3 s2.pt.length y3) (.slice x4 s2.ns.length y4) (.slice z1 s2.l.length t1) (.slice z2 s2.tr.length t2) (.slice z3 s2.pt.length t3) (.slice z4 s2.ns.length t4) s2.tr.length s2.pt.length s2.l s2.ns (.slice a5 T.nodes.length k5) (.slice r5 T.roots.length d5) av3 T wr)) (fun _ i _=>s2.tr.length-(intOf i).toNat)
        case atStart=>exact⟨0,Nat.zero_le _,rfl,HL⟩
        case round=>
         clear HL b0 b1 b2 b3 b6 hlt hj
         obtain⟨j,hj,rfl,HL⟩:=hrel
         obtain⟨⟨b0,b1,b2,b3⟩,_,b6,_⟩:=HL.out.cells
         by_cases hlt:j<s2.tr.length
         ·have hji:(j:Int)<(s2.tr.length:Int):=by omega
          obtain⟨p,cs,hao,hp,hn,hc⟩:=HL.out.a2.cell hlt
          subst hao
          obtain⟨v0,p0',f0'⟩:=hc (j*2) (by omega)
          obtain⟨v1,p1',f1'⟩:=hc (j*2+1) (by omega)
          have hset:=hid (HL.out.set2 hp hn rfl (j*2) (j*2+1) (.int .i64 0) (.int .u64 0))
          have zp:=lt_of_block hp
          clear hp hc
          have Hlt:=hid hlt
          go_wp2
          go_roundw
          case rel=>exact⟨j+1,by have:=Hlt.out;omega,by go_num,hset⟩
          case measure=>have:=Hlt.out;simp[intOf];omega
         ·obtain rfl:j=s2.tr.length:=by omega
          go_wp2
          go_loopw [27,172] (fun _ i wr=>∃j:Nat,j<=s2.ns.length/\i=.int .i64 (j:Int)/\Hid (Lo (wB.alloc (celO K4 A4 S4 N4 (.slice a4 LA.length c4))) w11.heap.size w12.heap.size (w12.heap.size+1) w14.heap.size (.slice x1 s2.l.length y1) (.slice x2 s2.tr.length y2) (.slice x3 s2.pt.length y3) (.slice x4 s2.ns.length y4) (.slice z1 s2.l.length t1) (.slice z2 s2.tr.length t2) (.slice z3 s2.pt.length t3) (.slice z4 s2.ns.length t4) s2.tr.length s2.pt.length s2.l s2.ns (.slice a5 T.nodes.length k5) (.slice r5 T.roots.length d5) av3 T wr)) (fun _ i _=>s2.ns.length-(intOf i).toNat)
          case atStart=>exact⟨0,Nat.zero_le _,rfl,HL⟩
          case round=>
           clear HL b0 b1 b2 b3 b6 hlt hj
           obtain⟨j,hj,rfl,HL⟩:=hrel
           obtain⟨⟨b0,b1,b2,b3⟩,_,b6,_⟩:=HL.out.cells
           by_cases hlt:j<s2.ns.length
           ·have hji:(j:Int)<(s2.ns.length:Int):=by omega
            obtain⟨p,cs,hao,hp,hn,hc⟩:=HL.out.a4.cell hlt
            subst hao
            obtain⟨v0,p0,p1'⟩:=hc j (by omega)
            have hset:=hid (HL.out.set4 hp hn rfl j (.string ⟨#[111,118,101,114]⟩))
            have zp:=lt_of_block hp
            clear hp hc
            have Hlt:=hid hlt
            go_wp2
            go_roundw
            case rel=>exact⟨j+1,by have:=Hlt.out;omega,by go_num,hset⟩
            case measure=>have:=Hlt.out;simp[intOf];omega
           ·obtain rfl:j=s2.ns.length:=by omega
            go_wp2
            go_loopw [28,183] (fun _ i wr=>∃j:Nat,j<=s2.pt.length/\i=.int .i64 (j:Int)/\Hid (Lo (wB.alloc (celO K4 A4 S4 N4 (.slice a4 LA.length c4))) w11.heap.size w12.heap.size (w12.heap.size+1) w14.heap.size (.slice x1 s2.l.length y1) (.slice x2 s2.tr.length y2) (.slice x3 s2.pt.length y3) (.slice x4 s2.ns.length y4) (.slice z1 s2.l.length t1) (.slice z2 s2.tr.length t2) (.slice z3 s2.pt.length t3) (.slice z4 s2.ns.length t4) s2.tr.length s2.pt.length s2.l s2.ns (.slice a5 T.nodes.length k5) (.slice r5 T.roots.length d5) av3 T wr)) (fun _ i _=>s2.pt.length-(intOf i).toNat)
            case atStart=>exact⟨0,Nat.zero_le _,rfl,HL⟩
            case round=>
             clear HL b0 b1 b2 b3 b6 hlt hj
             obtain⟨j,hj,rfl,HL⟩:=hrel
             obtain⟨⟨b0,b1,b2,b3⟩,_,b6,_⟩:=HL.out.cells
             by_cases hlt:j<s2.pt.length
             ·have hji:(j:Int)<(s2.pt.length:Int):=by omega
              obtain⟨p,cs,hao,hp,hn,hc⟩:=HL.out.a3.cell hlt
              subst hao
              obtain⟨v0,p0',f0'⟩:=hc (j*3) (by omega)
              obtain⟨v1,p1',f1'⟩:=hc (j*3+1) (by omega)
              obtain⟨v2,p2',f2'⟩:=hc (j*3+2) (by omega)
              have hset:=hid (HL.out.set3 hp hn rfl (j*3) (j*3+1) (j*3+2) (.int .i64 0) (.int .i64 0) (.slice none 0 0))
              have zp:=lt_of_block hp
              clear hp hc
              have Hlt:=hid hlt
              go_wp2
              go_roundw
              case rel=>exact⟨j+1,by have:=Hlt.out;omega,by go_num,hset⟩
              case measure=>have:=Hlt.out;simp[intOf];omega
             ·obtain rfl:j=s2.pt.length:=by omega
              clear hlt
              obtain⟨i1,hi1,hy0,hy1,hy2⟩:=info_parts infoL
              obtain⟨FL,hFL⟩:∃FL,FL=flat [(Value.slice r1 T.roots.length d1,av1),(Value.slice r2 T.roots.length d2,av2)]:=⟨_,rfl⟩
              have X1:=HPh.out.f.1.1.1.2.keep (sblB HL.out.b)
              have X2:=HPh.out.f.1.1.2.keep (sblB HL.out.b)
              have hfl:FL.length<=4900:=by
               obtain⟨_,_,_,_,_,o1⟩:=X1
               obtain⟨_,_,_,_,_,o2⟩:=X2
               have e1:=o1.on.len
               have e2:=o2.on.len
               rw[hFL]
               simp[flat]
               omega
              have hpm:List.Perm ((((([.slice ao2 g.roots.length c2]++(.slice r1 T.roots.length d1::av1))++(.slice r2 T.roots.length d2::av2))++[.slice a3 LA.length c3])++[.slice a4 LA.length c4])) (FL++[.slice a3 LA.length c3,.slice a4 LA.length c4,.slice ao2 g.roots.length c2]):=by
               rw[hFL]
               simp only[flat,List.flatMap_cons,List.flatMap_nil,List.append_nil,List.append_assoc,List.cons_append,List.nil_append]
               exact own_perm _ _ _ _ _ _ _
              have hob:=(HPh.out.ob).perm hpm
              have Hrng:=hid hob.rng
              have hobx:=hob.keep HL.out.b.size (fun k _ hk=>HL.out.b.block k hk)
              have hE0:w4.heap.size<=wr.heap.size:=Nat.le_trans He0.out HL.out.b.size
              have hW1:W1.heap.size<w4.heap.size:=by have:=Hz4.out;have:=Hz3.out;omega
              have bWx:Below W1.heap.size W1 wr:=Below.trans HC.out.b (HL.out.b.mono HC.out.b.size)
              have HOb:=hid (fun (z:World) (row:Option Nat) (z4:World) (hbz:Below wr.heap.size wr z) (hrow:∀k,row=some k->wr.heap.size<=k) (hg:z.grownBy z4 row)=>Ob.grown hobx bWx ⟨hW1,hE0⟩ hbz hrow hg)
              have bA:Below wr.heap.size wr (wr.alloc (.cells #[.slice a1 T.nodes.length k1,.slice r1 T.roots.length d1,.slice a2 T.nodes.length k2,.slice r2 T.roots.length d2] 25)).drew:=(below_alloc wr _).drew
              have bB:Below wr.heap.size wr ((wr.alloc (.cells #[.slice a1 T.nodes.length k1,.slice r1 T.roots.length d1,.slice a2 T.nodes.length k2,.slice r2 T.roots.length d2] 25)).alloc (.cells #[.slice a3 LA.length c3,.slice a4 LA.length c4,.slice ao2 g.roots.length c2] 23)).drew:=((below_alloc wr _).alloc (by simp) _).drew
              have bC:Below wr.heap.size wr ((wr.alloc (.cells #[.slice a3 LA.length c3,.slice a4 LA.length c4,.slice ao2 g.roots.length c2] 23)).alloc (.cells #[.slice a1 T.nodes.length k1,.slice r1 T.roots.length d1,.slice a2 T.nodes.length k2,.slice r2 T.roots.length d2] 25)).drew:=((below_alloc wr _).alloc (by simp) _).drew
              have sA:(wr.alloc (.cells #[.slice a1 T.nodes.length k1,.slice r1 T.roots.length d1,.slice a2 T.nodes.length k2,.slice r2 T.roots.length d2] 25)).drew.heap[wr.heap.size]?=some (.cells #[.slice a1 T.nodes.length k1,.slice r1 T.roots.length d1,.slice a2 T.nodes.length k2,.slice r2 T.roots.length d2] 25):=heap_alloc_new wr _
              have sB:((wr.alloc (.cells #[.slice a1 T.nodes.length k1,.slice r1 T.roots.length d1,.slice a2 T.nodes.length k2,.slice r2 T.roots.length d2] 25)).alloc (.cells #[.slice a3 LA.length c3,.slice a4 LA.length c4,.slice ao2 g.roots.length c2] 23)).drew.heap[wr.heap.size]?=some (.cells #[.slice a1 T.nodes.length k1,.slice r1 T.roots.length d1,.slice a2 T.nodes.length k2,.slice r2 T.roots.length d2] 25):=(Below.heap_alloc _ _ _ (by simp)).trans (heap_alloc_new wr _)
              have sC:((wr.alloc (.cells #[.slice a3 LA.length c3,.slice a4 LA.length c4,.slice ao2 g.roots.length c2] 23)).alloc (.cells #[.slice a1 T.nodes.length k1,.slice r1 T.roots.length d1,.slice a2 T.nodes.length k2,.slice r2 T.roots.length d2] 25)).drew.heap[wr.heap.size+1]?=some (.cells #[.slice a1 T.nodes.length k1,.slice r1 T.roots.length d1,.slice a2 T.nodes.length k2,.slice r2 T.roots.length d2] 25):=by
               have h:=heap_alloc_new (wr.alloc (.cells #[.slice a3 LA.length c3,.slice a4 LA.length c4,.slice ao2 g.roots.length c2] 23)) (.cells #[.slice a1 T.nodes.length k1,.slice r1 T.roots.length d1,.slice a2 T.nodes.length k2,.slice r2 T.roots.length d2] 25)
               rw[show (wr.alloc (.cells #[.slice a3 LA.length c3,.slice a4 LA.length c4,.slice ao2 g.roots.length c2] 23)).heap.size=wr.heap.size+1 by simp] at h
               exact h
              have nB:Hid (((wr.alloc (.cells #[.slice a1 T.nodes.length k1,.slice r1 T.roots.length d1,.slice a2 T.nodes.length k2,.slice r2 T.roots.length d2] 25)).alloc (.cells #[.slice a3 LA.length c3,.slice a4 LA.length c4,.slice ao2 g.roots.length c2] 23)).drew.heap[wr.heap.size+1]?=some (.cells #[.slice a3 LA.length c3,.slice a4 LA.length c4,.slice ao2 g.roots.length c2] 23)):=show _=_ by
               have h:=heap_alloc_new (wr.alloc (.cells #[.slice a1 T.nodes.length k1,.slice r1 T.roots.length d1,.slice a2 T.nodes.length k2,.slice r2 T.roots.length d2] 25)) (.cells #[.slice a3 LA.length c3,.slice a4 LA.length c4,.slice ao2 g.roots.length c2] 23)
               rw[show (wr.alloc (.cells #[.slice a1 T.nodes.length k1,.slice r1 T.roots.length d1,.slice a2 T.nodes.length k2,.slice r2 T.roots.length d2] 25)).heap.size=wr.heap.size+1 by simp] at h
               exact h
              have nC:Hid (((wr.alloc (.cells #[.slice a3 LA.length c3,.slice a4 LA.length c4,.slice ao2 g.roots.length c2] 23)).alloc (.cells #[.slice a1 T.nodes.length k1,.slice r1 T.roots.length d1,.slice a2 T.nodes.length k2,.slice r2 T.roots.length d2] 25)).drew.heap[wr.heap.size]?=some (.cells #[.slice a3 LA.length c3,.slice a4 LA.length c4,.slice ao2 g.roots.length c2] 23)):=(Below.heap_alloc _ _ _ (by simp)).trans (heap_alloc_new wr _)
              have hcA:=hid (listsAt hFL bA hE0 sA X1 X2 (by omega))
              have hcB:=hid (listsAt hFL bB hE0 sB X1 X2 (by omega))
              have hcC:=hid (listsAt hFL bC hE0 sC X1 X2 (by omega))
              have HB0:=hid (HBq.out.next HL.out.b)
              obtain⟨t0,t1',t2',t3',t4',t5⟩:=HB0.out.cells
              have zz1:=lt_of_block HB0.out.x1
              have zz2:=lt_of_block HB0.out.x2
              have zz3:=lt_of_block HB0.out.y3
              have zz4:=lt_of_block HB0.out.y4
              have HW1:=hid hW1
              clear X1 X2 bA bB bC sA sB sC hFL hpm hob hobx hW1 bWx b0 b1 b2 b3 b6
              go_wp2
              go_cut [204] from 192 to 204 (fun s204 wc=>s204=.bool false/\Hid (Fz W1 hb s2 (os.length+1+1) (.slice (some ⟨p1,0,none⟩) g.roots.length c1) g.roots.length (csL s.l.length g.roots.length) (w12.heap.size+1) w14.heap.size (.slice z1 s2.l.length t1) (.slice z2 s2.tr.length t2) (.slice z3 s2.pt.length t3) (.slice z4 s2.ns.length t4) (.slice a5 T.nodes.length k5) (.slice r5 T.roots.length d5) T wc))
              case first=>
               go_region_held_law (fun w'=>w'.cell? ⟨w8.heap.size,0,none⟩=some (.slice a1 T.nodes.length k1)/\w'.cell? ⟨w8.heap.size,1,none⟩=some (.slice r1 T.roots.length d1)/\w'.cell? ⟨w9.heap.size,0,none⟩=some (.slice a2 T.nodes.length k2)/\w'.cell? ⟨w9.heap.size,1,none⟩=some (.slice r2 T.roots.length d2)/\w'.cell? ⟨wA.heap.size,4,none⟩=some (.slice a3 LA.length c3)/\w'.cell? ⟨wB.heap.size,4,none⟩=some (.slice a4 LA.length c4)) (first | exact⟨t0,t1',t2',t3',t4',t5⟩ | go_keep)
                (first
                 | (refine step_append_lies _ (by rfl) _ _ _ (by rfl) w4.heap.size 23 i1 (.slice none 0 0) 1 24 Tryz.underlying63 hi1 hy0 hy1 hy2 rfl (by omega) _ FL.length FL (by rfl) (HRA.out) ⟨z3'.heap.size,0,none⟩ 3 3 [.slice a3 LA.length c3,.slice a4 LA.length c4,.slice ao2 g.roots.length c2] (by rfl) (by rfl) (World.news_of_block (cs:=#[.slice a3 LA.length c3,.slice a4 LA.length c4,.slice ao2 g.roots.length c2]) (t:=23) (fr:=(0,0)) (heap_alloc_new z3' _)) (by simp[Value.oneCell']) (by omega) (by unfold maxLen;omega) (by omega) (by first | omega | (simp;omega)) _ (by rfl) ?_;intro g9 cap9 z4' hown9 hgr9 hat9 hlt9;obtain⟨ro4,nd4,bk4,bx4,bw4,e4⟩:=HOb.out _ _ z4' HbA.out Hk3.out hgr9;have HRo:=hid ro4;have HNd:=hid nd4;have Hx4:=hid bx4;have HE4:=hid e4;have HOw:=hid hown9;have HB4:=hid (HB0.out.next bx4);clear ro4 nd4 bk4 bx4 bw4 e4 hown9 hgr9 hat9 hlt9 t0 t1' t2' t3' t4' t5;obtain⟨t0,t1',t2',t3',t4',t5⟩:=HB4.out.cells)
                 | (refine step_append_lies _ (by rfl) _ _ _ (by rfl) w4.heap.size 23 i1 (.slice none 0 0) 1 24 Tryz.underlying63 hi1 hy0 hy1 hy2 rfl (by omega) _ FL.length FL (by rfl) (HRB.out) ⟨wr.heap.size+1,0,none⟩ 3 3 [.slice a3 LA.length c3,.slice a4 LA.length c4,.slice ao2 g.roots.length c2] (by rfl) (by rfl) (World.news_of_block (cs:=#[.slice a3 LA.length c3,.slice a4 LA.length c4,.slice ao2 g.roots.length c2]) (t:=23) (fr:=(0,0)) HNB.out) (by simp[Value.oneCell']) (by omega) (by unfold maxLen;omega) (by omega) (by first | omega | (simp;omega)) _ (by rfl) ?_;intro g9 cap9 z4' hown9 hgr9 hat9 hlt9;obtain⟨ro4,nd4,bk4,bx4,bw4,e4⟩:=HOb.out _ _ z4' Hbx.out Hk3.out hgr9;have HRo:=hid ro4;have HNd:=hid nd4;have Hx4:=hid bx4;have HE4:=hid e4;have HOw:=hid hown9;have HB4:=hid (HB0.out.next bx4);clear ro4 nd4 bk4 bx4 bw4 e4 hown9 hgr9 hat9 hlt9 t0 t1' t2' t3' t4' t5;obtain⟨t0,t1',t2',t3',t4',t5⟩:=HB4.out.cells)
                 | (refine step_append_lies _ (by rfl) _ _ _ (by rfl) w4.heap.size 23 i1 (.slice none 0 0) 1 24 Tryz.underlying63 hi1 hy0 hy1 hy2 rfl (by omega) _ FL.length FL (by rfl) (HRC.out) ⟨wr.heap.size,0,none⟩ 3 3 [.slice a3 LA.length c3,.slice a4 LA.length c4,.slice ao2 g.roots.length c2] (by rfl) (by rfl) (World.news_of_block (cs:=#[.slice a3 LA.length c3,.slice a4 LA.length c4,.slice ao2 g.roots.length c2]) (t:=23) (fr:=(0,0)) HNC.out) (by simp[Value.oneCell']) (by omega) (by unfold maxLen;omega) (by omega) (by first | omega | (simp;omega)) _ (by rfl) ?_;intro g9 cap9 z4' hown9 hgr9 hat9 hlt9;obtain⟨ro4,nd4,bk4,bx4,bw4,e4⟩:=HOb.out _ _ z4' Hbx.out Hk3.out hgr9;have HRo:=hid ro4;have HNd:=hid nd4;have Hx4:=hid bx4;have HE4:=hid e4;have HOw:=hid hown9;have HB4:=hid (HB0.out.next bx4);clear ro4 nd4 bk4 bx4 bw4 e4 hown9 hgr9 hat9 hlt9 t0 t1' t2' t3' t4' t5;obtain⟨t0,t1',t2',t3',t4',t5⟩:=HB4.out.cells)
                 | (go_at_call 19;with_reducible refine hcA.out.mono ?_;rintro e z3' ⟨⟨lo,lk,rfl,hL,hk⟩,hbx,hbw⟩;have Hk3:=hid hk;have Hbx:=hid hbx;have HbA:=hid (hbx.alloc hbx.size (.cells #[.slice a3 LA.length c3,.slice a4 LA.length c4,.slice ao2 g.roots.length c2] 23));have HRA:=hid (World.ownsRow.alloc hL (.cells #[.slice a3 LA.length c3,.slice a4 LA.length c4,.slice ao2 g.roots.length c2] 23));have hz3:=hbx.size;have HB3:=hid (HB0.out.next hbx);clear hL hk hbx hbw t0 t1' t2' t3' t4' t5;obtain⟨t0,t1',t2',t3',t4',t5⟩:=HB3.out.cells)
                 | (go_at_call 19;with_reducible refine hcB.out.mono ?_;rintro e z3' ⟨⟨lo,lk,rfl,hL,hk⟩,hbx,hbw⟩;have Hk3:=hid hk;have Hbx:=hid hbx;have HRB:=hid hL;have HNB:=hid ((hbw.block _ (lt_of_block nB.out)).trans nB.out);have hz3:=hbx.size;have HB3:=hid (HB0.out.next hbx);clear hL hk hbx hbw t0 t1' t2' t3' t4' t5;obtain⟨t0,t1',t2',t3',t4',t5⟩:=HB3.out.cells)
                 | (go_at_call 19;with_reducible refine hcC.out.mono ?_;rintro e z3' ⟨⟨lo,lk,rfl,hL,hk⟩,hbx,hbw⟩;have Hk3:=hid hk;have Hbx:=hid hbx;have HRC:=hid hL;have HNC:=hid ((hbw.block _ (lt_of_block nC.out)).trans nC.out);have hz3:=hbx.size;have HB3:=hid (HB0.out.next hbx);clear hL hk hbx hbw t0 t1' t2' t3' t4' t5;obtain⟨t0,t1',t2',t3',t4',t5⟩:=HB3.out.cells)
                 | (go_at_call 18;refine (apart_own (B:=w4.heap.size) (vs:=FL++[.slice a3 LA.length c3,.slice a4 LA.length c4,.slice ao2 g.roots.length c2]) (by simp) HOw.out HRo.out HNd.out (by simp;omega) HE4.out).mono ?_;rintro e z5 ⟨rfl,hAf⟩;have HFz:=hid (Fz.of HC.out HL.out (Nat.le_of_lt HW1.out) Hx4.out HRo.out Hl1.out Hrng.out hAf);have HB5:=hid (HB4.out.fin (af_tk HRo.out hAf));clear hAf t0 t1' t2' t3' t4' t5;obtain⟨t0,t1',t2',t3',t4',t5⟩:=HB5.out.cells))
               all_goals go_wp2_with fail
               all_goals go_meet
               all_goals exact⟨rfl,HFz⟩
              case rest=>
               obtain⟨rfl,HFz⟩:=hcut
               clear t0 t1' t2' t3' t4' t5 zz1 zz2 zz3 zz4 HB0 HL hcA hcB hcC HOb nB nC
               obtain⟨⟨j0,j1,j2⟩,⟨j3,j4⟩,j5,j6⟩:=HFz.out.cells
               go_wp2_with (first
                | (go_at_call 15;refine (HFz.out.c.dump hK).mono ?_;rintro e y9 ⟨⟨o1,o2,o3,o4,o5,o6,o7,o8,rfl,hD,hN⟩,hbq⟩;have HY:=hid (Fy.start HFz.out hbq hD hN);clear HFz hD hN hbq;(try clear j0 j1 j2 j3 j4 j5 j6);(try clear j7 j8 j9 jA);obtain⟨⟨⟨j0,j1,j2⟩,⟨j3,j4⟩,j5,j6⟩,⟨j7,j8,j9⟩,jA⟩:=HY.out.cells)
                | (go_at_call 13;refine (hget.out _ _ _ HY.out.f.c).mono ?_;rintro e y8 ⟨⟨a6,k6,r6,d6,av6,rfl,ho⟩,hbq⟩;have hb2:=Below.next hbq (below_alloc y8 (.cells #[.slice a6 T.nodes.length k6,.slice r6 T.roots.length d6] 25));have HG6:=hid (ho.gr.below (below_alloc y8 (.cells #[.slice a6 T.nodes.length k6,.slice r6 T.roots.length d6] 25)));replace HY:=hid (HY.out.next hb2);clear ho hbq hb2;(try clear j0 j1 j2 j3 j4 j5 j6);(try clear j7 j8 j9 jA);obtain⟨⟨⟨j0,j1,j2⟩,⟨j3,j4⟩,j5,j6⟩,⟨j7,j8,j9⟩,jA⟩:=HY.out.cells)
                | (go_at_call 17;refine (hsame.out _ _ _ _ _ HG6.out HY.out.f.t).mono ?_;rintro e y7 ⟨rfl,hbq⟩;replace HY:=hid (HY.out.next hbq);clear HG6 hbq;(try clear j0 j1 j2 j3 j4 j5 j6);(try clear j7 j8 j9 jA);obtain⟨⟨⟨j0,j1,j2⟩,⟨j3,j4⟩,j5,j6⟩,⟨j7,j8,j9⟩,jA⟩:=HY.out.cells)
                | (go_at_call 20;refine (a_sameB HY.out.f.r1 HY.out.r1 hls).mono ?_;rintro e y7 ⟨rfl,hbq⟩;replace HY:=hid (HY.out.next hbq);clear hbq;(try clear j0 j1 j2 j3 j4 j5 j6);(try clear j7 j8 j9 jA);obtain⟨⟨⟨j0,j1,j2⟩,⟨j3,j4⟩,j5,j6⟩,⟨j7,j8,j9⟩,jA⟩:=HY.out.cells)
                | (go_at_call 21;refine (n_same_any HY.out.f.r4 HY.out.r4 (by omega)).mono ?_;rintro e y7 ⟨rfl,hbq⟩;replace HY:=hid (HY.out.next hbq);clear hbq;(try clear j0 j1 j2 j3 j4 j5 j6);(try clear j7 j8 j9 jA);obtain⟨⟨⟨j0,j1,j2⟩,⟨j3,j4⟩,j5,j6⟩,⟨j7,j8,j9⟩,jA⟩:=HY.out.cells))
               go_ret
               exact⟨rfl,HBW.out _ HY.out.f.c.b⟩
     ·have d0:((g.roots.length:Int) == 0)=true:=by rw[beq_iff_eq];omega
      have u1:True:=trivial
      go_wp2_with (first
       | (go_at_call 9;refine (hgr.out _ hS.out.b).mono ?_;rintro e w3 ⟨⟨gb,cap,mrv,avs,rfl,hM⟩,hb3⟩;obtain⟨mq,mc,rfl⟩:∃mq mc,mrv=.slice (some ⟨mq,0,none⟩) g.roots.length mc:=(by obtain⟨q,c,h,_⟩:=hM.r;exact⟨q,c,h⟩);have HP:=hid (Pb.start hS.out hM hb3);clear hM hb3;(try clear m0 m1 m2);obtain⟨⟨m0,m1⟩,m2⟩:=HP.out.cells;(try clear g0 g1 g2);obtain⟨⟨g0,g1⟩,g2⟩:=gcell HX.out HP.out.b)
       | (go_at_call 10;have _u:=u1;clear u1 _u;refine (HP.out.yes HSz.out hc1).mono ?_;rintro e w4 ⟨ao1,c1,rfl,ho1,hp1,hP,hm4⟩;clear HP;have HP:=hid hP;clear hP ho1 hp1 hm4;(try clear m0 m1 m2);obtain⟨⟨m0,m1⟩,m2⟩:=HP.out.cells;(try clear g0 g1 g2);obtain⟨⟨g0,g1⟩,g2⟩:=gcell HX.out HP.out.b)
       | (go_at_call 10;refine (HP.out.yes HSz.out hc2).mono ?_;rintro e w4 ⟨ao1,c1,rfl,ho1,hp1,hP,hm4⟩;clear HP;have HP:=hid hP;clear hP ho1 hp1 hm4;(try clear m0 m1 m2);obtain⟨⟨m0,m1⟩,m2⟩:=HP.out.cells;(try clear g0 g1 g2);obtain⟨⟨g0,g1⟩,g2⟩:=gcell HX.out HP.out.b)
       | (go_at_call 11;refine (hKept_any HP.out.hm (hG1.out.below HP.out.b) hn3 hr3 hfa.out).mono ?_;rintro e w6 ⟨rfl,hb6⟩;replace HP:=hid (HP.out.next hb6);clear hb6;(try clear m0 m1 m2);obtain⟨⟨m0,m1⟩,m2⟩:=HP.out.cells;(try clear g0 g1 g2);obtain⟨⟨g0,g1⟩,g2⟩:=gcell HX.out HP.out.b)
       | (go_at_call 12;refine (hOver_any HP.out.hm hn3 hr3 hfa.out).mono ?_;rintro e w7 ⟨rfl,hO⟩;have HF:=hid (HP.out.over hO).1;clear hO))
      go_ret
      exact⟨rfl,HBW.out _ HF.out⟩
    ·have u1:True:=trivial
     go_wp2_with (first
      | (go_at_call 9;refine (hgr.out _ hS.out.b).mono ?_;rintro e w3 ⟨⟨gb,cap,mrv,avs,rfl,hM⟩,hb3⟩;obtain⟨mq,mc,rfl⟩:∃mq mc,mrv=.slice (some ⟨mq,0,none⟩) g.roots.length mc:=(by obtain⟨q,c,h,_⟩:=hM.r;exact⟨q,c,h⟩);have HP:=hid (Pb.start hS.out hM hb3);clear hM hb3;(try clear m0 m1 m2);obtain⟨⟨m0,m1⟩,m2⟩:=HP.out.cells;(try clear g0 g1 g2);obtain⟨⟨g0,g1⟩,g2⟩:=gcell HX.out HP.out.b)
      | (go_at_call 10;have _u:=u1;clear u1 _u;refine (HP.out.yes HSz.out hc1).mono ?_;rintro e w4 ⟨ao1,c1,rfl,ho1,hp1,hP,hm4⟩;clear HP;have HP:=hid hP;clear hP ho1 hp1 hm4;(try clear m0 m1 m2);obtain⟨⟨m0,m1⟩,m2⟩:=HP.out.cells;(try clear g0 g1 g2);obtain⟨⟨g0,g1⟩,g2⟩:=gcell HX.out HP.out.b)
      | (go_at_call 10;refine (HP.out.no HE1.out HSz.out hc2).mono ?_;rintro e w4 ⟨⟨b4,rfl⟩,hP⟩;replace HP:=hid hP;clear hP;(try clear m0 m1 m2);obtain⟨⟨m0,m1⟩,m2⟩:=HP.out.cells;(try clear g0 g1 g2);obtain⟨⟨g0,g1⟩,g2⟩:=gcell HX.out HP.out.b)
      | (go_at_call 11;refine (hKept_any HP.out.hm (hG1.out.below HP.out.b) hn3 hr3 hfa.out).mono ?_;rintro e w6 ⟨rfl,hb6⟩;replace HP:=hid (HP.out.next hb6);clear hb6;(try clear m0 m1 m2);obtain⟨⟨m0,m1⟩,m2⟩:=HP.out.cells;(try clear g0 g1 g2);obtain⟨⟨g0,g1⟩,g2⟩:=gcell HX.out HP.out.b)
      | (go_at_call 12;refine (hOver_any HP.out.hm hn3 hr3 hfa.out).mono ?_;rintro e w7 ⟨rfl,hO⟩;have HF:=hid (HP.out.over hO).1;clear hO))
     go_ret
     exact⟨rfl,HBW.out _ HF.out⟩
   ·have u1:True:=trivial
    go_wp2_with (first
     | (go_at_call 9;refine (hgr.out _ hS.out.b).mono ?_;rintro e w3 ⟨⟨gb,cap,mrv,avs,rfl,hM⟩,hb3⟩;obtain⟨mq,mc,rfl⟩:∃mq mc,mrv=.slice (some ⟨mq,0,none⟩) g.roots.length mc:=(by obtain⟨q,c,h,_⟩:=hM.r;exact⟨q,c,h⟩);have HP:=hid (Pb.start hS.out hM hb3);clear hM hb3;(try clear m0 m1 m2);obtain⟨⟨m0,m1⟩,m2⟩:=HP.out.cells;(try clear g0 g1 g2);obtain⟨⟨g0,g1⟩,g2⟩:=gcell HX.out HP.out.b)
     | (go_at_call 10;refine (HP.out.no HE1.out HSz.out hc1).mono ?_;rintro e w4 ⟨⟨b4,rfl⟩,hP⟩;replace HP:=hid hP;clear hP;(try clear m0 m1 m2);obtain⟨⟨m0,m1⟩,m2⟩:=HP.out.cells;(try clear g0 g1 g2);obtain⟨⟨g0,g1⟩,g2⟩:=gcell HX.out HP.out.b)
     | (go_at_call 11;refine (hKept_any HP.out.hm (hG1.out.below HP.out.b) hn3 hr3 hfa.out).mono ?_;rintro e w6 ⟨rfl,hb6⟩;replace HP:=hid (HP.out.next hb6);clear hb6;(try clear m0 m1 m2);obtain⟨⟨m0,m1⟩,m2⟩:=HP.out.cells;(try clear g0 g1 g2);obtain⟨⟨g0,g1⟩,g2⟩:=gcell HX.out HP.out.b)
     | (go_at_call 12;refine (hOver_any HP.out.hm hn3 hr3 hfa.out).mono ?_;rintro e w7 ⟨rfl,hO⟩;have HF:=hid (HP.out.over hO).1;clear hO))
    go_ret
    exact⟨rfl,HBW.out _ HF.out⟩
end Go.Proofs.YtbfbkmkjcekpaaaGreatDoor
namespace Go.Proofs.YtbfbkmkjcekpaaaGreatDoor
set_option maxRecDepth 100000
open Go.RowKit
theorem cellsOwns_walk {W:World} (hE:ErrC W) {nv rv v1:Value} {g:Gf} {os:List Opd} (hG:Gr W nv rv g) (hS:Sized g) (hR:Rop W v1 os) :
  Calls Tryz.prog 3 #[.agg #[nv,rv],v1] W fun e w'=>e=.returned (.bool true)/\Below W.heap.size W w':=by
 cases h0:longB os with
 | true=>exact owns_l1 hE hG hR h0
 | false=>
  cases h1:smallK 30 g with
  | false=>exact owns_l2 hE hG hR h0 h1
  | true=>exact owns_go hE hG hS hR h0 h1
end Go.Proofs.YtbfbkmkjcekpaaaGreatDoor
namespace Go.Proofs.YtbfbkmkjcekpaaaGreatDoor
set_option maxRecDepth 100000
open Go.ChangeShapes Go.WideShapes Go.ChangeAt Go.RowKit
theorem cellsOwns_lifted (os:Os) (started:os.Started) (H:Type) (enc:TypeId×Value->H) :
  ReturnsInHanded {} Tryz.checked os 3 .any (fun w args=>(Rows.cellsOwnsSpec.pre enc Tryz.prog Tryz.f3 [] false w args/\laidMetH Tryz.prog Rows.cellsOwnsRow.laid w)/\sizedMet enc Tryz.prog Tryz.f3 (OpenSpec.ofChange Rows.cellsOwnsSpec) false w args)
   (Rows.cellsOwnsSpec.post enc Tryz.prog Tryz.f3 false true false false):=by
 refine returnsInHanded_of_change_and (C:=Tryz.checked) (X:=fun w _=>laidMetH Tryz.prog Rows.cellsOwnsRow.laid w) (fun _ _ _ hh h=>h.of_heap hh) own started (by kernel_rfl) Tryz.func3
  (ChangeSpec.witness_shaped (enc:=enc) (C:=Tryz.checked) (os:=os) (X:=fun w _=>laidMetH Tryz.prog Rows.cellsOwnsRow.laid w) false (World.doorLaid Tryz.prog 16 os) #[.agg #[.slice none 0 0,.slice none 0 0],.slice none 0 0] 8 rfl (World.shaped_of_RefB (by kernel_rfl) (by kernel_rfl)) (by kernel_rfl) (by kernel_rfl) (by kernel_rfl) (door_met os _)) ?_
 intro W base args ds gs before hval0 hW _ _ hL _
 have hval:∀(j:Nat) t v,Tryz.f3.params[j]?=some t->args[j]?=some v->Value.okWide Tryz.prog W .any base t v:=hval0
 have hW':=hW
 obtain⟨p,q,hA0,hV,rfl,hfz,hnd⟩:=hW
 have hA:DataW.TrodAll enc Tryz.prog W 0 (fun _=>true) true Tryz.f3.params.toList args.toList ds p:=hA0
 rw[Tryz.params3] at hA hval
 obtain⟨v0,vs0,d0,ds0,p0,q0,hargs,rfl,rfl,h0,r0⟩:=trodAll_cons hA
 obtain⟨v1,vs1,d1,ds1,p1,q1,rfl,rfl,rfl,h1,r1⟩:=trodAll_cons r0
 obtain⟨rfl,rfl,rfl⟩:=trodAll_nil r1
 obtain rfl:args=#[v0,v1]:=by cases args;simp_all
 obtain⟨rfl,rfl⟩:=trodVars_none hV
 clear hA0 hval0
 simp only[List.append_nil] at hW'
 have hlt0:∀x∈p0,x.block<W.heap.size:=fun x hx=>by simpa using hW'.lt x (by simp[hx])
 have hargs0:∀(W':World),Below W.heap.size W W'->DataW.Trod enc Tryz.prog W' 0 (fun b=>decide (b<W.heap.size)) true 25 v0 d0 p0:=
  fun W' hn=>Below.trod laidOut (by kernel_rfl) (of_decide_eq_true (by kernel_rfl)) h0 hn hlt0
 have hlt1:∀x∈p1,x.block<W.heap.size:=fun x hx=>by simpa using hW'.lt x (by simp[hx])
 have hargs1:∀(W':World),Below W.heap.size W W'->DataW.Trod enc Tryz.prog W' 0 (fun b=>decide (b<W.heap.size)) true 26 v1 d1 p1:=
  fun W' hn=>Below.trod laidOut (by kernel_rfl) (of_decide_eq_true (by kernel_rfl)) h1 hn hlt1
 obtain⟨nv0,rv0,g0,rfl,hG0,hS0⟩:=graph_of (hval 0 25 v0 rfl rfl) h0
 obtain⟨os1,hR1⟩:=cops_of (hval 1 26 v1 rfl rfl) h1
 refine (cellsOwns_walk (ready_of_laid hL) hG0 hS0 hR1).mono fun e W' ⟨he,hg⟩=>?_
 subst he
 refine⟨_,rfl,_,_,_,[],p0++(p1++([])),[],hW',?_,?_,rfl,hg.frame _,fun h=>by cases h⟩
 ·exact trodAll_cons_mk (shut_bool Tryz.underlying4 _) trodAll_mk0
 ·exact (trodAll_cons_mk (hargs0 _ hg) (trodAll_cons_mk (hargs1 _ hg) trodAll_mk0))
theorem cellsOwns_said:Rows.CellsOwnsSaid:=
 OpenClaim.holds_of_wide 3 Tryz.f3 rfl rfl rfl rfl rfl rfl rfl ⟨rfl,rfl,rfl,rfl,rfl⟩ rfl rfl rfl rfl rfl (by kernel_rfl) Tryz.func3 (by kernel_rfl)
  (of_decide_eq_true (by kernel_rfl)) (by unfold Func.isWrapper;first | (rw[if_pos (by decide +kernel)];kernel_rfl) | (rw[if_neg (by decide +kernel)];exact⟨rfl,rfl⟩))
  (fun os started H enc _=>cellsOwns_lifted os started H enc)
theorem cellsOwns_card:Rows.CellsOwnsCardSaid:=
 Claim7.holds_tied_plain_at .later [] [.handle] true (true, "c4b856b0384bab2471e7b591bc376960ae3575aa445e55b218f45efd760ce990") true
  cellsOwns_said (fun _ h=>by cases h) (by kernel_rfl) (fun _ h=>by cases h) cellsOwns_row_tie rfl ⟨rfl,rfl⟩ (by kernel_rfl) rfl
  (fun f fn hf hfn=>by
   obtain rfl:f=3:=Option.some.inj ((show Tryz.prog.funcNamed Rows.cellsOwnsRow.func=some 3 by kernel_rfl).symm.trans hf) |>.symm
   obtain rfl:fn=Tryz.f3:=(Option.some.inj (Tryz.func3.symm.trans hfn)).symm
   exact⟨by kernel_rfl,fun j t ht=>by
    rw[Tryz.params3] at ht
    have hm:t∈[25,26]:=by simpa using Array.mem_of_getElem? ht
    have hall:([25,26].all fun u=>!Tryz.prog.wantsStandIn u)=true:=by kernel_rfl
    exact (show Tryz.prog.wantsStandIn t=false by simpa using List.all_eq_true.1 hall t hm)⟩)
  (by kernel_rfl)
#print axioms cellsOwns_card
end Go.Proofs.YtbfbkmkjcekpaaaGreatDoor

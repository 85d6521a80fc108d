/- Package cells: Dump where there are no names; Dump of a nil heap. -/
import Derived.Deep.DeepCutAuto
import Derived.Test.YtbfbkmkjcekpaaaGreatDoorow46Z
namespace Go.Proofs.YtbfbkmkjcekpaaaGreatDoor
set_option maxRecDepth 100000
open Go.RowKit Go.Shelf
attribute [local go_sem] Oper.semAt_some
abbrev Sk (hb:Nat) (v0 v2 v3:Value) (w:World):Prop:=w.cell? ⟨hb,0,none⟩=some v0/\w.cell? ⟨hb,2,none⟩=some v2/\w.cell? ⟨hb,3,none⟩=some v3
theorem sk_dr {hb:Nat} {v0 v2 v3:Value} {w:World} (h:Sk hb v0 v2 v3 w):Sk hb v0 v2 v3 w.drew:=h
theorem sk_al {hb:Nat} {v0 v2 v3:Value} {w:World} {o:Obj} (h:Sk hb v0 v2 v3 w):Sk hb v0 v2 v3 (w.alloc o):=
 ⟨((below_alloc w o).cell (p:=⟨hb,0,none⟩) (lt_of_cell h.1)).trans h.1,((below_alloc w o).cell (p:=⟨hb,2,none⟩) (lt_of_cell h.1)).trans h.2.1,((below_alloc w o).cell (p:=⟨hb,3,none⟩) (lt_of_cell h.1)).trans h.2.2⟩
theorem sk_set {hb t3:Nat} {v0 v2 v3:Value} {w:World} {a b c d e:Value} (hne:hb≠t3) (h:Sk hb v0 v2 v3 w):Sk hb v0 v2 v3 (setD w t3 a b c d e):=by
 have hf:∀o,(setD w t3 a b c d e).cell? ⟨hb,o,none⟩=w.cell? ⟨hb,o,none⟩:=fun o=>World.cell?_of_block (w:=w) (a:=⟨hb,o,none⟩) (setD_far w _ _ _ _ _ hne)
 exact⟨(hf 0).trans h.1,(hf 2).trans h.2.1,(hf 3).trans h.2.2⟩
theorem Dk.ne {w W:World} {hb t3:Nat} {ap tp:Option Addr} {trv ptv:Value} {n:Int} {cs:Array Value} (h:Dk w hb (hpO ap tp trv ptv n) W) (ht:W.heap[t3]?=some (.cells cs 54)):hb≠t3:=obj_ne h.n ht (by decide)
theorem dump_fin {w W:World} {k1 k2 k3 t3 D kn:Nat} {xs1 xs2 xs3:List Value} {pre:List (Nat×ByteArray)} {a1 a2 a3 ua:Option Addr} {c1 c2 c3 uc:Nat} {xn:List Value} (h:Dl w k1 xs1 k2 xs2 k3 xs3 t3 pre W) (_:W.heap[t3]?=some (dmpO (.slice a1 k1 c1) (.slice a2 k2 c2) (.slice a3 k3 c3) (.slice ua kn uc) (.slice none 0 0))) (h2:Dr w.heap.size (.slice a1 k1 c1) k1 xs1 (.slice a2 k2 c2) k2 xs2 (.slice a3 k3 c3) k3 xs3 W) (h3:W.ownsRow w.heap.size 9 1 (.slice ua kn uc) kn xn) (hK:W.heap[D]?=some (.deferred (some []))) (hD:w.heap.size<D) :
  (setD W w.heap.size (.slice a1 k1 c1) (.slice a2 k2 c2) (.slice a3 k3 c3) (.slice ua kn uc) (.slice none 0 0)).heap[D]?=some (.deferred (some []))/\
  ((setD W w.heap.size (.slice a1 k1 c1) (.slice a2 k2 c2) (.slice a3 k3 c3) (.slice ua kn uc) (.slice none 0 0)).putObj D (.deferred none)).heap[w.heap.size]?=some (dmpO (.slice a1 k1 c1) (.slice a2 k2 c2) (.slice a3 k3 c3) (.slice ua kn uc) (.slice none 0 0))/\
  (Dr w.heap.size (.slice a1 k1 c1) k1 xs1 (.slice a2 k2 c2) k2 xs2 (.slice a3 k3 c3) k3 xs3 ((setD W w.heap.size (.slice a1 k1 c1) (.slice a2 k2 c2) (.slice a3 k3 c3) (.slice ua kn uc) (.slice none 0 0)).putObj D (.deferred none))/\((setD W w.heap.size (.slice a1 k1 c1) (.slice a2 k2 c2) (.slice a3 k3 c3) (.slice ua kn uc) (.slice none 0 0)).putObj D (.deferred none)).ownsRow w.heap.size 9 1 (.slice ua kn uc) kn xn)/\
  Below w.heap.size w ((setD W w.heap.size (.slice a1 k1 c1) (.slice a2 k2 c2) (.slice a3 k3 c3) (.slice ua kn uc) (.slice none 0 0)).putObj D (.deferred none)):=by
 have hfar:∀k,k≠w.heap.size->(setD W w.heap.size (.slice a1 k1 c1) (.slice a2 k2 c2) (.slice a3 k3 c3) (.slice ua kn uc) (.slice none 0 0)).heap[k]?=W.heap[k]?:=fun k hk=>setD_far W _ _ _ _ _ hk
 have hat:=setD_at h.x (.slice a1 k1 c1) (.slice a2 k2 c2) (.slice a3 k3 c3) (.slice ua kn uc) (.slice none 0 0)
 have hbb:=setD_below h.b (Nat.le_refl _) (.slice a1 k1 c1) (.slice a2 k2 c2) (.slice a3 k3 c3) (.slice ua kn uc) (.slice none 0 0)
 have hd2:Dr w.heap.size (.slice a1 k1 c1) k1 xs1 (.slice a2 k2 c2) k2 xs2 (.slice a3 k3 c3) k3 xs3 (setD W w.heap.size (.slice a1 k1 c1) (.slice a2 k2 c2) (.slice a3 k3 c3) (.slice ua kn uc) (.slice none 0 0)):=h2.keep (fun k o hk hno _=>(hfar k (fun e=>by subst e;rw[h.x] at hk;exact hno _ _ (Option.some.inj hk).symm)).trans hk)
 have hd3:(setD W w.heap.size (.slice a1 k1 c1) (.slice a2 k2 c2) (.slice a3 k3 c3) (.slice ua kn uc) (.slice none 0 0)).ownsRow w.heap.size 9 1 (.slice ua kn uc) kn xn:=row_keep h3 (fun k hk=>hfar k (fun e=>by
  subst e
  obtain⟨cur,hc⟩:=row_obj h3 hk
  exact obj_ne h.x hc (by decide) rfl))
 generalize setD W w.heap.size (.slice a1 k1 c1) (.slice a2 k2 c2) (.slice a3 k3 c3) (.slice ua kn uc) (.slice none 0 0)=X at *
 have m9:X.heap[D]?=some (.deferred (some [])):=(hfar D (by omega)).trans hK
 have n9:Nb w.heap.size X (X.putObj D (.deferred none)):=Nb.put (.deferred none) (by omega) m9 rfl
 refine⟨m9,n9.block _ _ hat (Or.inr rfl),⟨hd2.keep (fun k o hk _ ho=>n9.block k o hk (Or.inr ho)),row_keep hd3 (fun k hk=>?_)⟩,n9.below hbb (Nat.le_refl _) (Nat.le_refl _)⟩
 obtain⟨cur,hc⟩:=row_obj hd3 hk
 rw[hc]
 exact n9.block k _ hc (Or.inr rfl)
set_option maxHeartbeats 8000000 in
theorem dump_none (hv:Value) (ap tp va:Option Addr) (vc:Nat) (ta:Option Addr) (tn tc:Nat) (pa:Option Addr) (pn pc:Nat) (n:Int) (k1:Nat) (xs1:List Value) (k2:Nat) (xs2:List Value) (k3:Nat) (xs3:List Value) (w:World)
  (hself:∀w1,Below w.heap.size w w1->Calls Tryz.prog 40 #[hv] w1 fun e w'=>∃hb,e=.returned (.pointer (some ⟨hb,0,none⟩))/\w'.heap[hb]?=some (hpO ap tp (.slice ta tn tc) (.slice pa pn pc) n)/\Below w1.heap.size w1 w')
  (hwd:∀w1,Below w.heap.size w w1->Calls Tryz.prog 45 #[.pointer ap] w1 fun e w'=>∃ao c,e=.returned (.slice ao k1 c)/\w'.ownsRow w.heap.size 57 1 (.slice ao k1 c) k1 xs1/\Below w1.heap.size w1 w')
  (hc2:∀w1,Below w.heap.size w w1->Calls Tryz.prog 46 #[.slice ta tn tc] w1 fun e w'=>∃ao c,e=.returned (.slice ao k2 c)/\w'.ownsRow w.heap.size 59 2 (.slice ao k2 c) k2 xs2/\Below w1.heap.size w1 w')
  (hc3:∀w1,Below w.heap.size w w1->Calls Tryz.prog 47 #[.slice pa pn pc] w1 fun e w'=>∃ao c,e=.returned (.slice ao k3 c)/\w'.ownsRow w.heap.size 61 3 (.slice ao k3 c) k3 xs3/\Below w1.heap.size w1 w')
  (hall:∀w1,Below w.heap.size w w1->Calls Tryz.prog 48 #[.pointer tp] w1 fun e w'=>e=.returned (.func (.func 119) #[] #[.pointer (some ⟨w1.heap.size,0,none⟩)])/\w'=w1.alloc (.cells #[.slice va 0 vc] 51)) :
  Calls Tryz.prog 15 #[hv] w fun e w'=>(∃a1 c1 a2 c2 a3 c3 ua uc,e=.returned (.agg #[.slice a1 k1 c1,.slice a2 k2 c2,.slice a3 k3 c3,.slice ua 0 uc,.slice none 0 0])/\Dr w.heap.size (.slice a1 k1 c1) k1 xs1 (.slice a2 k2 c2) k2 xs2 (.slice a3 k3 c3) k3 xs3 w'/\w'.ownsRow w.heap.size 9 1 (.slice ua 0 uc) 0 [])/\Below w.heap.size w w':=by
 have hb0:=hid (below_alloc w dmp0)
 have hx0:=hid (heap_alloc_new w dmp0)
 have Hself:=hid hself
 have Hwd:=hid hwd
 have Hc2:=hid hc2
 have Hc3:=hid hc3
 have Hall:=hid hall
 clear hself hwd hc2 hc3 hall
 refine (callsIn_wide (n:=4)).1 ?_
 refine callsIn_of_wp_marks Tryz.func15 rfl trivial ?_ rfl
 simp only[Tryz.ntmps15,List.size_toArray,List.length_cons,List.length_nil,Nat.reduceAdd,Nat.reduceSub,Array.replicate_succ,Array.replicate_zero,List.push_toArray,List.append_toArray,List.nil_append,List.cons_append]
 refine wpIn_wide.2 ?_
 go_wp2_with (go_at_call 40;refine (Hself.out _ hb0.out).mono ?_;rintro e w1 ⟨hb,rfl,hx,hb1⟩;have HD:Hid (Dk w hb (hpO ap tp (.slice ta tn tc) (.slice pa pn pc) n) w1):=⟨Below.next hb0.out hb1,(hb1.block _ (by simp)).trans hx0.out,hx⟩;obtain⟨c0,c1,c2,c3,c5⟩:=HD.out.cells;have z1:=lt_of_block HD.out.x;clear hx hb1)
 go_cut [3] from 8 to 24 (fun s3 wc=>∃t3,s3=.pointer (some ⟨t3,0,none⟩)/\Hid (Dc w hb (hpO ap tp (.slice ta tn tc) (.slice pa pn pc) n) k1 xs1 k2 xs2 k3 xs3 t3 wc))
 case first=>
  have hO:Hid (∀(cs:Array Value) (x:Nat×Nat),hpO ap tp (.slice ta tn tc) (.slice pa pn pc) n≠.cells cs 54 x):=fun cs x e=>by injection e with _ e;exact absurd e (by decide)
  go_region_held3 (fun w'=>w'.cell? ⟨hb,0,none⟩=some (.pointer ap)/\w'.cell? ⟨hb,2,none⟩=some (.slice ta tn tc)/\w'.cell? ⟨hb,3,none⟩=some (.slice pa pn pc)) (first | (with_reducible exact⟨c0,c2,c3⟩) | (with_reducible exact sk_al ⟨c0,c2,c3⟩) | (with_reducible exact sk_dr ⟨c0,c2,c3⟩) | (with_reducible exact sk_dr (sk_al ⟨c0,c2,c3⟩)) | (with_reducible exact sk_set hne ⟨c0,c2,c3⟩))
   (first
    | (go_at_call 45;refine (Hwd.out _ (by first | (with_reducible exact HD.out.drew.b) | (with_reducible exact (HD.out.next (below_alloc w1 dmp0)).drew.b))).mono ?_;rintro e w2 ⟨ao1,cc1,rfl,hr1,hb2⟩;have hb3:Below w1.heap.size w1 w2:=(by first | (with_reducible exact Below.next (Below.refl _ w1).drew hb2) | (with_reducible exact Below.next (Below.next (below_alloc w1 dmp0) (Below.refl _ (w1.alloc dmp0)).drew) hb2));have zb2:=hb3.size;have HR1:=hid hr1;(try (have hbT:Below (World.alloc w1 dmp0).drew.heap.size (World.alloc w1 dmp0).drew w2:=(by with_reducible exact hb2);have HT:=hid ((hbT.block _ (by show w1.heap.size<(w1.alloc dmp0).heap.size;simp)).trans (heap_alloc_new w1 dmp0));clear hbT;obtain⟨⟨y0,y1,y2,y3,y4⟩,⟨f0,f1,f2,f3,f4⟩,yz⟩:=cel_cells HT.out));replace HD:=hid (HD.out.next hb3);(try (have hne:=HD.out.ne HT.out));clear hb2 hr1 hb3 c0 c1 c2 c3 c5;obtain⟨c0,c1,c2,c3,c5⟩:=HD.out.cells)
    | (go_at_call 46;refine (Hc2.out _ (by first | (with_reducible exact HD.out.b) | (with_reducible exact (HD.out.next (below_alloc w2 dmp0)).b))).mono ?_;rintro e w3 ⟨ao2,cc2,rfl,hr1,hb2⟩;have hb3:Below w2.heap.size w2 w3:=(by first | (with_reducible exact hb2) | (with_reducible exact Below.next (below_alloc w2 dmp0) hb2));have zb3:=hb3.size;have HR2:=hid hr1;replace HR1:=hid (row_below HR1.out hb3);(try (replace HT:=hid ((hb3.block _ (lt_of_block HT.out)).trans HT.out);clear y0 y1 y2 y3 y4 f0 f1 f2 f3 f4 yz;obtain⟨⟨y0,y1,y2,y3,y4⟩,⟨f0,f1,f2,f3,f4⟩,yz⟩:=cel_cells HT.out));(try (have hbT:Below (World.alloc w2 dmp0).heap.size (World.alloc w2 dmp0) w3:=(by with_reducible exact hb2);have HT:=hid ((hbT.block _ (by simp)).trans (heap_alloc_new w2 dmp0));clear hbT;obtain⟨⟨y0,y1,y2,y3,y4⟩,⟨f0,f1,f2,f3,f4⟩,yz⟩:=cel_cells HT.out));replace HD:=hid (HD.out.next hb3);(try (have hne:=HD.out.ne HT.out));clear hb2 hr1 hb3 c0 c1 c2 c3 c5;obtain⟨c0,c1,c2,c3,c5⟩:=HD.out.cells)
    | (go_at_call 47;refine (Hc3.out _ (by first | (with_reducible exact HD.out.b) | (with_reducible exact (HD.out.next (below_alloc w3 dmp0)).b))).mono ?_;rintro e w4 ⟨ao3,cc3,rfl,hr1,hb2⟩;have hb3:Below w3.heap.size w3 w4:=(by first | (with_reducible exact hb2) | (with_reducible exact Below.next (below_alloc w3 dmp0) hb2));have zb4:=hb3.size;have HR3:=hid hr1;replace HR1:=hid (row_below HR1.out hb3);replace HR2:=hid (row_below HR2.out hb3);(try (replace HT:=hid ((hb3.block _ (lt_of_block HT.out)).trans HT.out);clear y0 y1 y2 y3 y4 f0 f1 f2 f3 f4 yz;obtain⟨⟨y0,y1,y2,y3,y4⟩,⟨f0,f1,f2,f3,f4⟩,yz⟩:=cel_cells HT.out));(try (have hbT:Below (World.alloc w3 dmp0).heap.size (World.alloc w3 dmp0) w4:=(by with_reducible exact hb2);have HT:=hid ((hbT.block _ (by simp)).trans (heap_alloc_new w3 dmp0));clear hbT;obtain⟨⟨y0,y1,y2,y3,y4⟩,⟨f0,f1,f2,f3,f4⟩,yz⟩:=cel_cells HT.out));replace HD:=hid (HD.out.next hb3);(try (have hne:=HD.out.ne HT.out));clear hb2 hr1 hb3 c0 c1 c2 c3 c5;obtain⟨c0,c1,c2,c3,c5⟩:=HD.out.cells))
  all_goals go_wp2_with fail
  all_goals go_meet
  all_goals first
   | exact⟨_,rfl,Dc.late HD.out (by have:=lt_of_block HD.out.x;omega) HR1.out HR2.out HR3.out⟩
   | exact⟨_,rfl,Dc.early HD.out hO.out (by omega) HT.out HR1.out HR2.out HR3.out⟩
 case rest=>
  obtain⟨t3,rfl,hW⟩:=hcut
  obtain⟨c0',c1',c2',c3',c5'⟩:=hW.out.d.cells
  go_wp2_with (go_at_call 48;refine (Hall.out _ hW.out.d.b).mono ?_;rintro e w6 ⟨rfl,hw⟩;subst hw)
  refine (wpIn_wide (n:=4)).1 ?_
  obtain⟨W0,hW0⟩:∃W0,wc.alloc (.cells #[.slice va 0 vc] 51)=W0:=⟨_,rfl⟩
  have hbx:W0.heap[wc.heap.size]?=some (.cells #[.slice va 0 vc] 51):=by rw[←hW0];exact heap_alloc_new wc _
  have hb6:Below wc.heap.size wc W0:=by rw[←hW0];exact below_alloc wc _
  have hz0:W0.heap.size=wc.heap.size+1:=by rw[←hW0];simp
  have hI0:Hid (Dl w k1 xs1 k2 xs2 k3 xs3 t3 [] W0):=by
   obtain⟨a1,e1,a2,e2,a3,e3,h1,h2⟩:=hW.out.r
   refine⟨Below.next hW.out.d.b hb6,(hb6.block _ (lt_of_block hW.out.d.x)).trans hW.out.d.x,hW.out.lt,a1,e1,a2,e2,a3,e3,none,0,(hb6.block _ (lt_of_block h1)).trans h1,⟨row_below h2.r1 hb6,row_below h2.r2 hb6,row_below h2.r3 hb6⟩,World.ownsRow_nil _ _ _ _⟩
  have hzx:w.heap.size<W0.heap.size:=lt_of_block hI0.out.x
  have hzw:w.heap.size<=W0.heap.size:=hI0.out.b.size
  rw[hW0]
  clear hW0 hW c0' c1' c2' c3' c5' c0 c1 c2 c3 c5
  refine range_toldP (Ks:=fun k=>k=wc.heap.size) (encs:=encA) rfl (enters_of Tryz.func119 (by kernel_rfl) rfl) (fun _=>rfl) (by omega) (fun k hk=>by subst hk;omega) (sall_tells0 va vc 3 _ wc.heap.size W0 hbx)
   (I:=Dl w k1 xs1 k2 xs2 k3 xs3 t3) (Ix:=fun _ _ _=>False) (fun pre A A' h hn=>h.nb hn hzw) (fun c pre A A' h hn=>h) (fun pre x A A' h hn=>h) hI0.out
   (Ax:=fun _ _ _=>True) (fun _ _ _ _ h _=>h) ?assign ?body ?done ?stop
  case assign=>
   intro l x W' K hzl hK
   simp only[encA]
   gi_wp2
   exact hK _ _ (Below.refl _ _) trivial
  case body=>
   rintro l pre x a' W' hi ht _
   exact absurd ht.2.1 (by simp)
  case done=>
   rintro D2 xs W' hD hS hi hK
   subst hS
   obtain⟨a1,e1,a2,e2,a3,e3,ua,uc,h1,h2,h3⟩:=hi.r
   simp only[List.length_nil,List.map_nil] at h1 h3
   obtain⟨⟨q0,q1,q2,q3,q4⟩,_,qz⟩:=cel_cells h1
   obtain⟨⟨x0,x1,x2,x3,x4⟩,⟨y0,y1,y2,y3,y4⟩,xz⟩:=cel_cells hi.x
   have HF:=hid (dump_fin hi h1 h2 h3 hK (by omega))
   clear hi h1 h2 h3 hK
   go_wp2
   obtain⟨m9,q9,r9,b9⟩:=HF.out
   exact⟨by simp,.inl ⟨_,_,rfl,run_takeDeferred m9,_,ret_dmp Tryz.results15 (by rfl) q9,⟨_,_,_,_,_,_,_,_,rfl,r9⟩,b9⟩⟩
  case stop=>
   rintro D2 c pre W' _ h _
   exact h.elim
end Go.Proofs.YtbfbkmkjcekpaaaGreatDoor

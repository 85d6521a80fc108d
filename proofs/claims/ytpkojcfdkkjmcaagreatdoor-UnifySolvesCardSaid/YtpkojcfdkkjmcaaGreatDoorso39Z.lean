/- Package unify: held, and lead. -/
import Derived.Deep.RegionHeldLaw
import Derived.Test.YtpkojcfdkkjmcaaGreatDoorso35Z
import Derived.Test.YtpkojcfdkkjmcaaGreatDoorso37Z
namespace Go.Proofs.YtpkojcfdkkjmcaaGreatDoor
set_option maxRecDepth 100000
open Go.RowKit Go.Maps
structure Uh (W:World) (B hb:Nat) (l:List Int) (nm:List ByteArray):Prop where
 h:∃(m:Int) (F:Nat->Prop) (s:Hst),Hs W B hb m F s/\s.l=l/\s.ns=nm
 s:∃V,Snd l V
 n:NsB l nm.length
 l6:l.length<=65536
theorem Uh.below {W w:World} {B hb:Nat} {l:List Int} {nm:List ByteArray} (h:Uh W B hb l nm) (hb':Below W.heap.size W w):Uh w B hb l nm:=by
 obtain⟨⟨m,F,s,h1,h2,h3⟩,h4,h5,h6⟩:=h
 exact⟨⟨m,F,s,h1.below hb',h2,h3⟩,h4,h5,h6⟩
theorem Uh.look {W:World} {B hb:Nat} {l:List Int} {nm:List ByteArray} (h:Uh W B hb l nm) {c:Nat} (hc:c<l.length) (hcl:cellB l (c:Int)=true) :
  Calls Tryz.prog 180 #[.pointer (some ⟨hb,0,none⟩),.int .i64 (c:Int)] W fun e w'=>(∃ao d,e=.returned (.tuple #[.agg #[.int .i64 (tdK (trmW l c)),.int .i64 (tdA (trmW l c)),.string (tdS l nm (trmW l c)),.int .i64 (tdN (trmW l c)),.slice ao (tdL l (trmW l c)).length d],.nilIface])/\w'.ownsRow W.heap.size 3 1 (.slice ao (tdL l (trmW l c)).length d) (tdL l (trmW l c)).length ((tdL l (trmW l c)).map (Value.int .i64)))/\Below W.heap.size W w':=by
 obtain⟨⟨m,F,s,⟨ab,tb,av,tv,tq,trv,ptv,hq,hf⟩,rfl,rfl⟩,⟨V,hV⟩,hn,_⟩:=h
 exact look_ok hq.hp hV hn c hcl hc
abbrev celB (l:List Int) (nm:List ByteArray) (c:Nat) (v:Value):Obj:=.cells #[.int .i64 (tdK (trmW l c)),.int .i64 (tdA (trmW l c)),.string (tdS l nm (trmW l c)),.int .i64 (tdN (trmW l c)),v] 183
section
variable {W w0:World} {l:List Int} {nm:List ByteArray} {B hb ub mq:Nat} {ledv tdv:Value} {ls:List (Nat×Value)} {td:List (Nat×Nat)} {E:Nat->Nat} {c:Nat}
set_option maxHeartbeats 4000000 in
theorem uheld_any {L:List Nat} (hH:Uh W B hb l nm) (h:Um W l nm hb ub mq ledv tdv ls td L w0) (hE:Ld L E) (hc:c<l.length) (hcl:cellB l (c:Int)=true) :
  Calls Tryz.prog 155 #[.pointer (some ⟨ub,0,none⟩),.int .i64 (c:Int)] w0 fun e w'=>∃L' d u,e=.returned (tmU l nm d u)/\Tv w' l d u/\utI l d=E (utI l c)/\Um W l nm hb ub mq ledv tdv ls td L' w'/\Ld L' E/\Ik w0 w'/\Mo (fun q=>q=mq) w0 w':=by
 have hb1:=below_alloc w0 zTmO
 have hx0:=hid (heap_alloc_new w0 zTmO)
 have hbd:=hid h.bd
 have hW0:=hid h.b.size
 have h1:=h.next hb1
 obtain⟨⟨z0,z1,z2,z3⟩,_,z6⟩:=h1.cells
 have hlk:=hid ((hH.below h1.b).look hc hcl)
 have HH:=hid h1
 have HE:=hid hE
 have HU:=hid hH
 have Hb1:=hid hb1
 clear h h1 hE hb1 hH
 go_enter Tryz.func155,Tryz.ntmps155
 go_wp2_with (first
  | (go_at_call 180;refine hlk.out.mono ?_;rintro e w1 ⟨⟨ao,d0,rfl,ho⟩,hb2⟩;have hb3:=Below.next hb2 (below_alloc w1 (celB l nm c (.slice ao (tdL l (trmW l c)).length d0)));have H2:=hid (HH.out.next hb3);have hT2:Hid (Tv (w1.alloc (celB l nm c (.slice ao (tdL l (trmW l c)).length d0))) l c (.slice ao (tdL l (trmW l c)).length d0)):=⟨hc,hcl,ao,d0,rfl,_,row_keep ho (fun k hk=>(below_alloc w1 (celB l nm c (.slice ao (tdL l (trmW l c)).length d0))).block k (ho.lt k hk).2)⟩;have HX2:=hid ((hb3.block _ (by simp)).trans hx0.out);have HB2:=hid (Below.next Hb1.out hb3);clear ho hb2 hb3 z0 z1 z2 z3 z6)
  | (go_at_call 156;refine (uend_any (HU.out.s.choose_spec) HU.out.n HU.out.l6 H2.out HE.out hT2.out).mono ?_;rintro e w2 ⟨L',d,u,rfl,hT,hu,hm,hd,hk,hmo⟩;obtain⟨ao2,d2,rfl,_⟩:=id hT.args;have hx2:w2.heap[w0.heap.size]?=some zTmO:=(hmo.block _ (lt_of_block HX2.out) (fun h9=>by have:=hbd.out.m;omega)).trans HX2.out;obtain⟨⟨y0,y1,y2,y3,y4,y5⟩,⟨g0,g1,g2,g3,g4,g5⟩,g6⟩:=tm_cells hx2;have HX3:=hid hx2;have HR:=hid (And.intro hT (And.intro hu (And.intro hm (And.intro hd (And.intro hk hmo)))));clear hT hu hm hd hk hmo hx2))
 have hq:=set6U_at HX3.out (.int .i64 (tdK (trmW l d))) (.int .i64 (tdA (trmW l d))) (.string (tdS l nm (trmW l d))) (.int .i64 (tdN (trmW l d))) (.slice ao2 (tdL l (trmW l d)).length d2) (.int .i64 (d:Int))
 obtain⟨hT,hu,hm,hd,hk,hmo⟩:=HR.out
 have b9:Below w0.heap.size w2 (set6U w2 w0.heap.size (.int .i64 (tdK (trmW l d))) (.int .i64 (tdA (trmW l d))) (.string (tdS l nm (trmW l d))) (.int .i64 (tdN (trmW l d))) (.slice ao2 (tdL l (trmW l d)).length d2) (.int .i64 (d:Int))):=set6U_below ((Below.refl _ w2).mono (Nat.le_of_lt g6)) (Nat.le_refl _) _ _ _ _ _ _
 have k9:Ik w2 (set6U w2 w0.heap.size (.int .i64 (tdK (trmW l d))) (.int .i64 (tdA (trmW l d))) (.string (tdS l nm (trmW l d))) (.int .i64 (tdN (trmW l d))) (.slice ao2 (tdL l (trmW l d)).length d2) (.int .i64 (d:Int))):=Ik.set6 HX3.out (by decide) _ _ _ _ _ _
 exact bodyPost_ret (ret_tm1 Tryz.results155 (by rfl) hq) rfl ⟨L',d,_,rfl,hT.keep k9,hu,hm.far hbd.out hW0.out b9 k9,hd,((Ik.below HB2.out).trans hk).trans k9,set6U_mo ((Mo.ofBelow HB2.out).trans hmo (fun x hx=>Or.inl hx)) (Or.inr (Nat.le_refl _)) _ _ _ _ _ _⟩
end
end Go.Proofs.YtpkojcfdkkjmcaaGreatDoor
namespace Go.Proofs.YtpkojcfdkkjmcaaGreatDoor
set_option maxRecDepth 100000
open Go.RowKit Go.Maps
abbrev uSt (ub mq:Nat) (ledv tdv:Value) (q:Nat):Prop:=q=ub∨q=mq∨ledv.ownBlock=some q∨tdv.ownBlock=some q
section
variable {W w w6:World} {l:List Int} {nm:List ByteArray} {hb ub mq:Nat} {ledv tdv:Value} {ls:List (Nat×Value)} {td:List (Nat×Nat)} {L:List Nat}
theorem Um.ne (h:Um W l nm hb ub mq ledv tdv ls td L w):ub≠mq/\ledv.ownBlock≠some ub/\ledv.ownBlock≠some mq/\tdv.ownBlock≠some ub/\tdv.ownBlock≠some mq/\∀q,ledv.ownBlock=some q->tdv.ownBlock≠some q:=by
 obtain⟨D,⟨es,clock,hq,_⟩,_⟩:=h.map
 have hm:∀{k:Nat} {cs:Array Value} {e:TypeId} {fr:Nat×Nat},w.heap[k]?=some (.cells cs e fr)->k≠mq:=fun {k cs e fr} hk e2=>by
  rw[e2,hq] at hk
  cases hk
 refine⟨hm h.blk,fun e=>?_,fun e=>?_,fun e=>?_,fun e=>?_,fun q e1 e2=>?_⟩
 ·obtain⟨cs,hc⟩:=row_obj h.led e
  exact obj_ne hc h.blk (by decide) rfl
 ·obtain⟨cs,hc⟩:=row_obj h.led e
  exact hm hc rfl
 ·obtain⟨cs,hc⟩:=row_obj h.td e
  exact obj_ne hc h.blk (by decide) rfl
 ·obtain⟨cs,hc⟩:=row_obj h.td e
  exact hm hc rfl
 ·obtain⟨cs,hc⟩:=row_obj h.led e1
  obtain⟨cs2,hc2⟩:=row_obj h.td e2
  exact obj_ne hc hc2 (by decide) rfl
theorem Um.push {o:Obj} {g6 cap6 c:Nat} {u:Value} (h:Um W l nm hb ub mq ledv tdv ls td L w) (hT:Tv w l c u) (hown:w6.ownsRow W.heap.size 242 6 (.slice (some ⟨g6,0,none⟩) (ls.length+1) cap6) (ls.length+1) ((ls.flatMap (fun p=>tmc l nm p.1 p.2))++tmc l nm c u)) (hg:(w.alloc o).drew.grownBy w6 ledv.ownBlock) :
  (Um W l nm hb ub mq (.slice (some ⟨g6,0,none⟩) (ls.length+1) cap6) tdv (ls++[(c,u)]) td L (w6.setCell ⟨ub,1,none⟩ (.slice (some ⟨g6,0,none⟩) (ls.length+1) cap6))/\Ik w (w6.setCell ⟨ub,1,none⟩ (.slice (some ⟨g6,0,none⟩) (ls.length+1) cap6))/\Mo (uSt ub mq ledv tdv) w (w6.setCell ⟨ub,1,none⟩ (.slice (some ⟨g6,0,none⟩) (ls.length+1) cap6)))/\(w6.cell? ⟨ub,1,none⟩=some ledv/\w6.frozen? ⟨ub,1,none⟩=false)/\ub<w6.heap.size:=by
 obtain⟨n1,n2,n3,n4,n5,n6⟩:=h.ne
 have hba:=below_alloc w o
 have hsz:w.heap.size<=w6.heap.size:=by have:(w.alloc o).heap.size<=w6.heap.size:=hg.size;simp at this;omega
 have hblk:∀k,k<w.heap.size->ledv.ownBlock≠some k->w6.heap[k]?=w.heap[k]?:=fun k hk hn=>(hg.block k (by show k<(w.alloc o).heap.size;simp;omega) (fun e=>hn e.symm)).trans (hba.block k hk)
 have hub6:w6.heap[ub]?=some (.cells #[.pointer (some ⟨hb,0,none⟩),ledv,.map (some mq),tdv] 195):=(hblk ub (lt_of_block h.blk) n2).trans h.blk
 have hmo6:Mo (uSt ub mq ledv tdv) w w6:=((Mo.refl _ w).alloc o).drew.grown hg (fun k e=>Or.inl (Or.inr (Or.inr (Or.inl e))))
 have hik6:Ik w w6:=(Ik.below hba).drew.trans (Ik.grown hg (fun q cs fr e hc=>by
  obtain⟨cs2,hc2⟩:=row_obj (World.ownsRow.alloc h.led o) e
  exact obj_ne (w:=w.alloc o) hc hc2 (by decide) rfl))
 have hik:=hik6.trans (Ik.set hub6 (by decide) (i:=1) (.slice (some ⟨g6,0,none⟩) (ls.length+1) cap6))
 have hmo:=hmo6.setCell (p:=⟨ub,1,none⟩) (Or.inl (Or.inl rfl)) (.slice (some ⟨g6,0,none⟩) (ls.length+1) cap6)
 have hgu:g6≠ub:=fun e=>by
  obtain⟨cs,hc⟩:=row_obj hown (show (Value.slice (some ⟨g6,0,none⟩) (ls.length+1) cap6).ownBlock=some g6 from rfl)
  rw[e] at hc
  exact obj_ne hc hub6 (by decide) rfl
 obtain⟨D,⟨es,clock,hq,hD1⟩,hM⟩:=h.map
 refine⟨⟨⟨?_,heap_setCell_same w6 ub 1 _ _ _ hub6,h.ub0,h.mq0,⟨D,⟨es,clock,?_,hD1⟩,hM.keep hik⟩,?_,fun p hp=>?_,?_,h.ll,h.l0⟩,hik,hmo⟩,⟨by simp[World.cell?,hub6],by simp[World.frozen?,hub6]⟩,lt_of_block hub6⟩
 ·refine Below.trans h.b (hmo.below (fun q hq=>?_) h.b.size)
  rcases hq with hq | hq | hq | hq
  ·rw[hq];exact h.ub0
  ·rw[hq];exact h.mq0
  ·exact (h.led.lt q hq).1
  ·exact (h.td.lt q hq).1
 ·rw[Below.heap_setCell _ _ _ _ (Ne.symm n1),hblk mq h.mlt n3]
  exact hq
 ·have h9:(ls++[(c,u)]).length=ls.length+1:=by simp
  rw[h9,List.flatMap_append]
  have h10:([(c,u)]:List (Nat×Value)).flatMap (fun p=>tmc l nm p.1 p.2)=tmc l nm c u:=by simp
  rw[h10]
  exact row_keep hown (fun q hq=>Below.heap_setCell _ _ _ _ (by
   have e:g6=q:=by simpa[Value.ownBlock] using hq
   rw[←e]
   exact hgu))
 ·rcases List.mem_append.1 hp with hp | hp
  ·exact (h.lt p hp).keep hik
  ·have e:p=(c,u):=by simpa using hp
   rw[e]
   exact hT.keep hik
 ·exact row_keep h.td (fun q hq=>by
   rw[Below.heap_setCell _ _ _ _ (fun e=>n4 (by have e':q=ub:=e;rw[←e'];exact hq)),hblk q (h.td.lt q hq).2 (fun e=>n6 q e hq)])
end
section
variable {W w0:World} {l:List Int} {nm:List ByteArray} {B hb ub mq:Nat} {ledv tdv:Value} {ls:List (Nat×Value)} {td:List (Nat×Nat)} {L:List Nat} {c d:Nat} {u x:Value}
set_option maxHeartbeats 4000000 in
theorem ulead_any {V:Nat->Bool} (hs:Snd l V) (hn:NsB l nm.length) (hl:l.length<=65536) (h:Um W l nm hb ub mq ledv tdv ls td L w0) (hc:Tv w0 l c u) (hd:Tv w0 l d x) (h0:0<=tdA (trmW l c)) (hne:utI l d≠utI l c) (hls:ls.length<=100000) :
  Calls Tryz.prog 178 #[.pointer (some ⟨ub,0,none⟩),tmU l nm c u,tmU l nm d x] w0 fun e w'=>∃ledv',e=.returned (.tuple #[])/\Um W l nm hb ub mq ledv' tdv (ls++[(c,u)]) td (L.set (utI l c) (utI l d)) w'/\Ik w0 w'/\Mo (uSt ub mq ledv tdv) w0 w'/\(∀q,ledv'.ownBlock=some q->ledv.ownBlock=some q∨w0.heap.size<=q):=by
 obtain⟨i0,hi,hz0,hz1,hz2⟩:=info_parts infoTm
 obtain⟨au,du,rfl,_⟩:=id hc.args
 obtain⟨ax,dx,rfl,_⟩:=id hd.args
 have hb2:Below w0.heap.size w0 ((w0.alloc (tmB l nm c (.slice au (tdL l (trmW l c)).length du))).alloc (tmB l nm d (.slice ax (tdL l (trmW l d)).length dx))):=(below_alloc w0 _).alloc (by simp) _
 have x1:((w0.alloc (tmB l nm c (.slice au (tdL l (trmW l c)).length du))).alloc (tmB l nm d (.slice ax (tdL l (trmW l d)).length dx))).heap[w0.heap.size]?=some (tmB l nm c (.slice au (tdL l (trmW l c)).length du)):=(Below.heap_alloc _ _ _ (by simp)).trans (heap_alloc_new w0 _)
 have x2:((w0.alloc (tmB l nm c (.slice au (tdL l (trmW l c)).length du))).alloc (tmB l nm d (.slice ax (tdL l (trmW l d)).length dx))).heap[w0.heap.size+1]?=some (tmB l nm d (.slice ax (tdL l (trmW l d)).length dx)):=by
  have h9:=heap_alloc_new (w0.alloc (tmB l nm c (.slice au (tdL l (trmW l c)).length du))) (tmB l nm d (.slice ax (tdL l (trmW l d)).length dx))
  rw[show (w0.alloc (tmB l nm c (.slice au (tdL l (trmW l c)).length du))).heap.size=w0.heap.size+1 by simp] at h9
  exact h9
 have hbd:=hid h.bd
 have h1:=h.next hb2
 have hc1:=hid (hc.keep (Ik.below hb2))
 have hd1:=hid (hd.keep (Ik.below hb2))
 have hi9:utI l c<L.length:=by rw[h.ll];exact utI_lt hc.lt
 obtain⟨la,lc',rfl,hlc1,hlc2,_,_⟩:=own_slq h.led
 have hsz0:((w0.alloc (tmB l nm c (.slice au (tdL l (trmW l c)).length du))).alloc (tmB l nm d (.slice ax (tdL l (trmW l d)).length dx))).heap.size=w0.heap.size+1+1:=by simp
 have hW0:=h.b.size
 have Hsz:=hid hsz0
 clear hsz0
 go_enter Tryz.func178,Tryz.ntmps178
 go_wp2
 generalize (w0.alloc (tmB l nm c (.slice au (tdL l (trmW l c)).length du))).alloc (tmB l nm d (.slice ax (tdL l (trmW l d)).length dx))=w1 at *
 obtain⟨⟨z0,z1,z2,z3⟩,⟨z4,z5⟩,z6⟩:=h1.cells
 obtain⟨⟨c0,c1,c2,c3,c4,c5⟩,_,c6⟩:=tm_cells x1
 have hown:(w1.alloc (tmB l nm c (.slice au (tdL l (trmW l c)).length du))).drew.ownsRow W.heap.size 242 6 (.slice la ls.length lc') ls.length (ls.flatMap (fun p=>tmc l nm p.1 p.2)):=World.ownsRow.alloc h1.led (tmB l nm c (.slice au (tdL l (trmW l c)).length du))
 have hnw:=heap_alloc_new w1 (tmB l nm c (.slice au (tdL l (trmW l c)).length du))
 have H1:=hid h1
 have Hb2:=hid hb2
 have HL0:=hid h.led
 have HN:=hid hn
 have HS:=hid hs
 clear h h1 hc hd hb2 hs hn
 go_region_law
  (refine step_append_lies _ (by rfl) _ _ _ (by rfl) W.heap.size 242 i0 (.agg #[.int .i64 0,.int .i64 0,.string ⟨#[]⟩,.int .i64 0,.slice none 0 0,.int .i64 0]) 6 72 Tryz.underlying193 hi hz0 hz1 hz2 rfl (by omega) _ ls.length (ls.flatMap (fun p=>tmc l nm p.1 p.2)) (by rfl) hown ⟨w1.heap.size,0,none⟩ 1 1 (tmc l nm c (.slice au (tdL l (trmW l c)).length du)) (by rfl) (by rfl) (World.news_of_block (cs:=#[.int .i64 (tdK (trmW l c)),.int .i64 (tdA (trmW l c)),.string (tdS l nm (trmW l c)),.int .i64 (tdN (trmW l c)),.slice au (tdL l (trmW l c)).length du,.int .i64 (c:Int)]) (t:=242) (fr:=(0,0)) hnw) (by simp[Value.oneCell',tmc]) (by omega) (by unfold maxLen;omega) (by omega) (by simp;omega) _ (by rfl) ?_;intro g6 cap6 w6 hown6 hg6 hat6 hlt6;have hP:=hid (H1.out.push hc1.out hown6 hg6);have hAt:=hid hat6;have hG:=hid hg6;obtain⟨⟨k2,k2f⟩,k5⟩:=hP.out.2;clear hown hown6 hg6 hat6 hlt6)
 all_goals
  obtain⟨⟨U7,k7,m7⟩,_,_⟩:=hP.out
  have hno:∀q,w0.heap.size<=q->¬uSt ub mq (.slice la ls.length lc') tdv q:=fun q hq h9=>by
   rcases h9 with h9 | h9 | h9 | h9
   ·have:=hbd.out.u;omega
   ·have:=hbd.out.m;omega
   ·have:=hbd.out.l q h9;omega
   ·have:=hbd.out.t q h9;omega
  have x7:=(m7.block _ (lt_of_block x1) (hno _ (Nat.le_refl _))).trans x1
  have y7:=(m7.block _ (lt_of_block x2) (hno _ (Nat.le_succ _))).trans x2
  obtain⟨⟨a0,a1,a2,a3⟩,⟨a4,a5⟩,a6⟩:=U7.cells
  obtain⟨⟨e0,e1,e2,e3,e4,e5⟩,_,e6⟩:=tm_cells x7
  obtain⟨⟨f0,f1,f2,f3,f4,f5⟩,_,f6⟩:=tm_cells y7
  obtain⟨D,hD,hM⟩:=U7.map
  obtain⟨w9,hr9,hm9,hg9⟩:=hD.drew.update (t:=192) (e:=242) (key:=.int .i64 (tdA (trmW l c))) (val:=tmU l nm d (.slice ax (tdL l (trmW l d)).length dx)) (int_keyed Tryz.underlying3) Tryz.underlying192 (by unfold maxLen;omega) (keyOf_int_mk (P:=Tryz.prog) Tryz.underlying3 (tdA_wf HS.out HN.out hl hc1.out.lt)) rfl
  have hm9':w9.ownsMap Tryz.prog 3 RU mq (l.length+1) (D.put (.int .i64 (tdA ((utT l).getD (utI l c) 0))) (.held (tmU l nm d (.slice ax (tdL l (trmW l d)).length dx)))):=by
   rw[utI_at hc1.out.lt]
   exact hm9
  have hp9:=(U7.far U7.bd U7.b.size ((Below.refl _ _).drew) (Ik.refl _).drew).put hi9 (by rw[utI_at hc1.out.lt];exact h0) (hd1.out.keep k7.drew) hne hD.drew (hM.keep (Ik.refl _).drew) hm9' hg9 (utA_lt HS.out HN.out hl)
  have mo9:=((((Mo.ofBelow Hb2.out).trans m7 (fun x hx=>Or.inl hx)).drew).grown hg9 (fun k h9=>by injection h9 with h9;exact Or.inl (Or.inr (Or.inl h9.symm))))
  have Hfin:=hid (And.intro hp9.1 (And.intro ((((Ik.below Hb2.out).trans k7).drew).trans hp9.2) mo9))
  have Hat:Hid (∀q,(Value.slice (some ⟨g6,0,none⟩) (ls.length+1) cap6).ownBlock=some q->(Value.slice la ls.length lc').ownBlock=some q∨w0.heap.size<=q):=fun q hq=>by
   have e9:g6=q:=by simpa[Value.ownBlock] using hq
   rw[←e9]
   rcases hAt.out with h9 | h9
   ·exact Or.inl h9
   ·refine Or.inr ?_
    have:=Hsz.out
    simp at h9
    omega
  clear U7 k7 m7 hno x7 y7 hD hM hm9 hg9 hm9' hp9 mo9 hAt hG hP k5 k2 k2f z0 z1 z2 z3 z4 z5 z6 c0 c1 c2 c3 c4 c5 c6 hnw x1 x2
 all_goals go_wp2
 all_goals go_region
 all_goals go_wp2
 all_goals refine bodyPost_end (results_none rfl _ _ _) rfl ?_
 all_goals exact⟨_,rfl,Hfin.out.1,Hfin.out.2.1,Hfin.out.2.2,Hat.out⟩
end
end Go.Proofs.YtpkojcfdkkjmcaaGreatDoor

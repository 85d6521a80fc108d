/- Package cells: Undo where no entry is to be laid. -/
import Derived.Deep.RegionHeld3
import Derived.BigRegion
import Derived.Test.YtbfbkmkjcekpaaaGreatDoorow47Z
import Derived.Test.YtbfbkmkjcekpaaaGreatDoorow06Z
import Derived.Test.YtbfbkmkjcekpaaaGreatDoorow02Z
import Derived.Test.YtbfbkmkjcekpaaaGreatDoorow01Z
namespace Go.Proofs.YtbfbkmkjcekpaaaGreatDoor
set_option maxRecDepth 100000
open Go.RowKit Go.Shelf
attribute [local go_sem] Oper.semAt_some
section
variable {w w':World} {B hb ab tb:Nat} {m:Int} {av:Value} {l:List Int} {tv:Value} {tq:Nat} {ns:List ByteArray} {trv:Value} {tr:List Te} {ptv:Value} {pt:List Pe} {n:Int}
set_option maxHeartbeats 8000000 in
theorem undo_full {tg:Nat} (h:Hq w B hb ab tb m av l tv tq ns (.slice (some ⟨tg,0,none⟩) tr.length tr.length) tr ptv pt n) (i:Nat) (hi:i<pt.length) (K:Nat) (hTK:pt.getD i (0,0)=(tr.length,K)) (hK:K<=l.length) (htl:tr.length<=1000000) (hpl:pt.length<=1000000) (hent:∀e∈tr,e.1<l.length/\(0<=e.2/\e.2<=18446744073709551615)/\mayB e.2 l.length=true) :
  Calls Tryz.prog 28 #[.pointer (some ⟨hb,0,none⟩),.int .i64 (i:Int)] w fun e w'=>e=.returned .nilIface/\∃av' trv' ptv',Hq w' B hb ab tb m av' (atP l tr (tr.length,K)) tv tq ns trv' (tr.take tr.length) ptv' (pt.take (i+1)) n/\a_Mod (qfoot hb ab av (.slice (some ⟨tg,0,none⟩) tr.length tr.length) ptv) w w'/\a_Nx w av av'/\a_Nx w (.slice (some ⟨tg,0,none⟩) tr.length tr.length) trv'/\a_Nx w ptv ptv':=by
 have HB2:=hid (ud_start h tr.length K)
 have h1:=h.below (below_alloc w (hbxO hb))
 have hhp:=hid (haspoint_yes h1 i hi)
 obtain⟨⟨c0,c1,c2,c3,c4⟩,c5⟩:=h1.hp.cells
 have HH:=hid h
 obtain⟨po,pc,rfl,hpc,_,hp0,hpa⟩:=own_slq h.pt
 obtain⟨g,rfl⟩:∃g,po=some ⟨g,0,none⟩:=by
  cases po with
  | none=>exact absurd (hp0 rfl).1 (by omega)
  | some a=>exact⟨a.block,by rw[←hpa a rfl]⟩
 have hla:=mkC_at pt i hi
 rw[hTK] at hla
 have g0:(w.alloc (hbxO hb)).cell? ⟨g,i*3,none⟩=some (.int .i64 (tr.length:Int)):=by rw[h1.pt.cellAt _ (by omega)];exact hla.1
 have g1:(w.alloc (hbxO hb)).cell? ⟨g,i*3+1,none⟩=some (.int .i64 (K:Int)):=by rw[h1.pt.cellAt _ (by omega)];exact hla.2.1
 have g2:(w.alloc (hbxO hb)).cell? ⟨g,i*3+2,none⟩=some (.slice none 0 0):=by rw[h1.pt.cellAt _ (by omega)];exact hla.2.2
 have z0:w.heap.size<(w.alloc (hbxO hb)).heap.size:=by simp
 have hii:(i:Int)<(pt.length:Int):=by omega
 have hx1:=cell1q (heap_alloc_new w (hbxO hb))
 have d0:=cell1q HB2.out.x
 obtain⟨⟨_,_,d1,_,_⟩,d5⟩:=HB2.out.q.hp.cells
 obtain⟨d2,_,_⟩:=cell3q HB2.out.p
 have d3:(tr.length:Int)<=(tr.length:Int):=by omega
 have d4:(0:Int)<=(tr.length:Int):=by omega
 have htc:tr.length<=tr.length:=by
  obtain⟨_,_,e,h2,_⟩:=own_slq h.tr
  injection e with _ _ e
  omega
 have d6:(tr.length:Int)<=(tr.length:Int):=by omega
 have Hent:=hid hent
 clear hla hpa hp0 h1 hent h
 refine (callsIn_wide (n:=4)).1 ?_
 refine callsIn_of_wp_marks Tryz.func28 rfl trivial ?_ rfl
 simp only[Tryz.ntmps28,List.size_toArray,List.length_cons,List.length_nil,Nat.reduceAdd,Nat.reduceSub,Array.replicate_succ,Array.replicate_zero,List.push_toArray,List.append_toArray,List.nil_append,List.cons_append]
 refine wpIn_wide.2 ?_
 go_wp2_with (go_at_call 64;refine hhp.out.mono ?_;rintro e w1 ⟨rfl,hw⟩;subst hw)
 clear c0 c1 c2 c3 c4 c5 g0 g1 g2 hhp hx1
 have hz2:((w.alloc (hbxO hb)).alloc (mkO tr.length K)).heap.size=w.heap.size+2:=by simp
 generalize (w.alloc (hbxO hb)).alloc (mkO tr.length K)=w2 at *
 go_region_held3 (fun w'=>w'.cell? ⟨w.heap.size,0,none⟩=some (.pointer (some ⟨hb,0,none⟩))/\w'.cell? ⟨hb,2,none⟩=some (.slice (some ⟨tg,0,none⟩) tr.length tr.length)/\w'.cell? ⟨w.heap.size+1,0,none⟩=some (.int .i64 (tr.length:Int))) (first | (with_reducible exact⟨d0,d1,d2⟩) | (with_reducible exact su_dr ⟨d0,d1,d2⟩) | go_keep)
  (first
   | (go_at_call 65;refine (backS_any _ _ _ _).mono ?_;rintro e w3 ⟨rfl,hw⟩;subst hw))
 go_wp2
 refine (wpIn_wide (n:=4)).1 ?_
 obtain⟨W0,hW0⟩:∃W0,(w2.alloc (.cells #[.slice (some ⟨tg,0,none⟩) 0 0] 49)).drew=W0:=⟨_,rfl⟩
 have hb6:Below w2.heap.size w2 W0:=by rw[←hW0];exact (below_alloc w2 _).drew
 have hbx:W0.heap[w2.heap.size]?=some (.cells #[.slice (some ⟨tg,0,none⟩) 0 0] 49):=by rw[←hW0];exact heap_alloc_new w2 _
 have hz0:W0.heap.size=w2.heap.size+1:=by rw[←hW0];simp
 have htq:tq<w.heap.size:=by
  obtain⟨D,⟨es,clock,hq,_⟩,_⟩:=HH.out.hp.tb.map
  exact lt_heap hq
 have hU0:=hid (HB2.out.nb (Bq:=W0.heap.size) (Nb.ofBelow hb6) (by omega) (by omega))
 rw[show w.heap.size+2=w2.heap.size from hz2.symm,hW0]
 clear hW0 d0 d1 d2 d5
 have hfoot:∀k∈a_foot ab av,k≠w.heap.size+1/\k≠w.heap.size:=fun k hk=>by
  have:=(HH.out.hp.ar).lt
  rcases a_mem_foot.1 hk with rfl | hk
  ·omega
  ·have:=(HH.out.hp.ar.row hk).2.1
   omega
 obtain⟨es,hes⟩:∃es,tr.drop tr.length=es:=⟨_,rfl⟩
 have hen:es=[]:=by rw[←hes];simp
 have hz2a:w.heap.size+2<=w2.heap.size:=by omega
 have hz0a:w2.heap.size<W0.heap.size:=by omega
 clear hz2 hz0
 refine range_toldP (Ks:=fun k=>k=w2.heap.size) (encs:=encS) rfl (enters_of Tryz.func95 (by kernel_rfl) rfl) (fun _=>rfl) (by omega) (fun k hk=>by subst hk;omega) (backS_tells0 (some ⟨tg,0,none⟩) 0 3 _ w2.heap.size W0 hbx)
  (I:=Ud w B hb ab tb m av l tv tq ns (.slice (some ⟨tg,0,none⟩) tr.length tr.length) tr (.slice (some ⟨g,0,none⟩) pt.length pc) pt n tr.length K (w.heap.size+1)) (Ix:=fun _ _ _=>False) (fun pre A A' h hn=>h.nb hn (by omega) (by omega)) (fun c pre A A' h hn=>h) (fun pre x A A' h hn=>h) hU0.out
  (Ax:=fun _ _ _=>True) (fun _ _ _ _ h _=>h) ?assign ?body ?done ?stop
 case assign=>
  intro l0 x W' K0 hzl hK0
  simp only[encS]
  gi_wp2
  exact hK0 _ _ (below_alloc W' _) trivial
 case body=>
  rintro l0 pre x a' W' hu ⟨hlt,hx⟩ _
  exact absurd hlt (by simp)
 case done=>
  rintro D2 xs W' hD hS hu hKd
  have hpre:xs.length=(tr.drop tr.length).length:=by rw[hes,hen,hS];rfl
  have hul:=undW_len l ((tr.drop tr.length).drop ((tr.drop tr.length).length-xs.length))
  have hwz:=lt_of_block hu.x
  have hud:=hu.nb (Bq:=W'.heap.size) (Nb.ofBelow (Below.refl _ W').drew) (by omega) (by omega)
  have hcu:=hid (cut_ok hud.q.hp.ar K (by rw[hul];exact hK))
  have hcf:=hid (fun w5 v5 hU=>ud_cut (w5:=w5) (v5:=v5) hud hpre hfoot hU)
  have hkd:Hid (∀w5 v5,a_Upd 138 W'.drew w5 B ab m av ((undW l ((tr.drop tr.length).drop ((tr.drop tr.length).length-xs.length))).take K) v5->w5.heap[D2]?=some (.deferred (some []))):=fun w5 v5 hU=>(hU.mod.block D2 (lt_heap hKd) (fun hf=>by
   have:D2<w.heap.size:=by
    rcases a_mem_foot.1 hf with e9 | e9
    ·rw[e9]
     exact HH.out.hp.ar.lt
    ·exact (HH.out.hp.ar.row e9).2.1
   omega)).trans hKd
  have x0:=cell1q hu.x
  obtain⟨⟨q0,_,_,_,_⟩,q5⟩:=hu.q.hp.cells
  obtain⟨_,p1,_⟩:=cell3q hu.p
  generalize undW l ((tr.drop tr.length).drop ((tr.drop tr.length).length-xs.length))=LL at *
  clear hu hud hKd
  go_wp2
  go_region_held3 (fun w'=>w'.cell? ⟨w.heap.size,0,none⟩=some (.pointer (some ⟨hb,0,none⟩))/\w'.cell? ⟨hb,0,none⟩=some (.pointer (some ⟨ab,0,none⟩))/\w'.cell? ⟨w.heap.size+1,1,none⟩=some (.int .i64 (K:Int))) (first | (with_reducible exact⟨x0,q0,p1⟩) | (with_reducible exact sv_dr ⟨x0,q0,p1⟩))
   (first
    | (go_at_call 67;refine hcu.out.mono ?_;rintro e w5 ⟨v5,rfl,hU⟩;have HC:=hid (hcf.out w5 v5 hU);have HK5:=hid (hkd.out w5 v5 hU);have HN5:=hid hU.nx;clear x0 q0 p1 q5 hU;have x0:=cell1q HC.out.2.2.1;obtain⟨⟨q0,_,q2,q3,_⟩,q5⟩:=HC.out.1.hp.cells;obtain⟨p0,p1,_⟩:=cell3q HC.out.2.2.2))
  have f2:w5.frozen? ⟨hb,2,none⟩=false:=by simp[World.frozen?,HC.out.1.hp.blk]
  have f3:w5.frozen? ⟨hb,3,none⟩=false:=by simp[World.frozen?,HC.out.1.hp.blk]
  have y1:IntKind.i64.wrap ((i:Int)+1)=(i:Int)+1:=by rw[IntKind.wrap_i64];omega
  have y2:(i:Int)+1<=(pc:Int):=by omega
  have y3:(tr.length:Int)<=(tr.length:Int):=by omega
  have y4:(0:Int)<=(i:Int)+1:=by omega
  have y6:((i:Int)+1).toNat=i+1:=by omega
  have hfn:=hid (ud_fin (w5:=w5.drew) (T:=tr.length) (i:=i) HC.out.1.drew HC.out.2.1.drew (Nat.le_refl _) hi HK5.out (by omega) htq)
  have hfz:Hid ((w5.drew.setCell ⟨hb,2,none⟩ (.slice (some ⟨tg,0,none⟩) tr.length tr.length)).frozen? ⟨hb,3,none⟩=false):=ud_frz HC.out.1.drew
  have hc3:Hid ((w5.drew.setCell ⟨hb,2,none⟩ (.slice (some ⟨tg,0,none⟩) tr.length tr.length)).cell? ⟨hb,3,none⟩=some (.slice (some ⟨g,0,none⟩) pt.length pc)):=ud_c3 HC.out.1.drew
  have hnx:Hid (a_Nx w av v5):=fun q hq=>by
   rcases HN5.out q hq with h9 | h9
   ·exact Or.inl h9
   ·have h9':W'.heap.size<=q:=h9
    exact Or.inr (by omega)
  go_wp2
  refine wp_region_any (by kernel_rfl) ?_
  change wpAny _ _ _ _ _ _ _ w5.drew
  have x0':w5.drew.cell? ⟨w.heap.size,0,none⟩=some (.pointer (some ⟨hb,0,none⟩)):=x0
  have q2':w5.drew.cell? ⟨hb,2,none⟩=some (.slice (some ⟨tg,0,none⟩) tr.length tr.length):=q2
  have q3':w5.drew.cell? ⟨hb,3,none⟩=some (.slice (some ⟨g,0,none⟩) pt.length pc):=q3
  have p0':w5.drew.cell? ⟨w.heap.size+1,0,none⟩=some (.int .i64 (tr.length:Int)):=p0
  have f2':w5.drew.frozen? ⟨hb,2,none⟩=false:=f2
  have f3':w5.drew.frozen? ⟨hb,3,none⟩=false:=f3
  have q5':hb<w5.drew.heap.size:=q5
  have hne1:w.heap.size≠hb:=by have:=lt_of_block HH.out.hp.blk;omega
  clear x0 q2 q3 p0 f2 f3 q5 p1 q0
  generalize w5.drew=wd at *
  have X0:=hid x0'
  have X1:Hid ((wd.setCell ⟨hb,2,none⟩ (.slice (some ⟨tg,0,none⟩) tr.length tr.length)).cell? ⟨w.heap.size,0,none⟩=some (.pointer (some ⟨hb,0,none⟩))):=(set_far _ _ hne1).trans x0'
  have X2:Hid (((wd.setCell ⟨hb,2,none⟩ (.slice (some ⟨tg,0,none⟩) tr.length tr.length)).setCell ⟨hb,3,none⟩ (.slice (some ⟨g,0,none⟩) (i+1) pc)).cell? ⟨w.heap.size,0,none⟩=some (.pointer (some ⟨hb,0,none⟩))):=(set_far _ _ hne1).trans X1.out
  have X3:Hid ((wd.setCell ⟨hb,2,none⟩ (.slice (some ⟨tg,0,none⟩) tr.length tr.length)).frozen? ⟨hb,3,none⟩=false):=hfz.out
  have X4:Hid ((wd.setCell ⟨hb,2,none⟩ (.slice (some ⟨tg,0,none⟩) tr.length tr.length)).cell? ⟨hb,3,none⟩=some (.slice (some ⟨g,0,none⟩) pt.length pc)):=hc3.out
  refine wpAny_invS (fun la a wx=>la.size=22/\Clo (fun k=>match k with | 3=>[2] | 4=>[3] | 5=>[4] | 7=>[6] | 8=>[5,7] | 10=>[9] | 11=>[10] | 12=>[11] | 14=>[13] | 15=>[12,14] | 16=>[0,8,12] | 17=>[16] | 18=>[17,8] | 19=>[1,15,18] | 20=>[19] | 21=>[20,15,18] | _=>[]) la/\a=(⟨#[.pointer (some ⟨hb,0,none⟩),.int .i64 (i:Int),.pointer (some ⟨w.heap.size,0,none⟩),undef,.nilIface,.nilIface,.pointer (some ⟨w.heap.size+1,0,none⟩),undef,undef,.pointer (some ⟨hb,0,none⟩),.int .i64 (i:Int),.nilIface,.nilIface,.bool false,undef,.pointer (some ⟨hb,0,none⟩),.pointer (some ⟨hb,0,none⟩),.pointer (some ⟨hb,3,none⟩),.slice (some ⟨g,0,none⟩) pt.length pc,.int .i64 (i:Int),.pointer (some ⟨g,i*3,none⟩),.agg #[.int .i64 (tr.length:Int),.int .i64 (K:Int),.slice none 0 0],.pointer (some ⟨hb,0,none⟩),.pointer (some ⟨hb,0,none⟩),.pointer (some ⟨hb,2,none⟩),.slice (some ⟨tg,0,none⟩) tr.length tr.length,.pointer (some ⟨w.heap.size+1,0,none⟩),.int .i64 (tr.length:Int),.slice (some ⟨tg,0,none⟩) 0 0,.func (.func 95) #[] #[.pointer (some ⟨w2.heap.size,0,none⟩)],undef,undef,undef,undef,undef,undef,undef,undef,undef,undef,undef,.pointer (some ⟨hb,0,none⟩),.pointer (some ⟨hb,0,none⟩),.pointer (some ⟨hb,0,none⟩),.pointer (some ⟨hb,0,none⟩),.pointer (some ⟨ab,0,none⟩),.pointer (some ⟨w.heap.size+1,1,none⟩),.int .i64 (K:Int),.nilIface,(selV (bitA la 0) (.pointer (some ⟨hb,0,none⟩)) (undef)),(selV (bitA la 1) (.pointer (some ⟨hb,0,none⟩)) (undef)),(selV (bitA la 2) (.pointer (some ⟨hb,0,none⟩)) (undef)),(selV (bitA la 3) (.pointer (some ⟨hb,0,none⟩)) (undef)),(selV (bitA la 4) (.pointer (some ⟨hb,2,none⟩)) (undef)),(selV (bitA la 5) (.slice (some ⟨tg,0,none⟩) tr.length tr.length) (undef)),(selV (bitA la 6) (.pointer (some ⟨w.heap.size+1,0,none⟩)) (undef)),(selV (bitA la 7) (.int .i64 (tr.length:Int)) (undef)),(selV (bitA la 8) (.slice (some ⟨tg,0,none⟩) tr.length tr.length) (undef)),(selV (bitA la 9) (.pointer (some ⟨hb,0,none⟩)) (undef)),(selV (bitA la 10) (.pointer (some ⟨hb,0,none⟩)) (undef)),(selV (bitA la 11) (.pointer (some ⟨hb,3,none⟩)) (undef)),(selV (bitA la 12) (.slice (some ⟨g,0,none⟩) pt.length pc) (undef)),(selV (bitA la 13) (.int .i64 (i:Int)) (undef)),(selV (bitA la 14) (.int .i64 ((i:Int)+1)) (undef)),(selV (bitA la 15) (.slice (some ⟨g,0,none⟩) (i+1) pc) (undef)),(selV (bitA la 16) (.pointer (some ⟨hb,0,none⟩)) (undef)),(selV (bitA la 17) (.pointer (some ⟨hb,2,none⟩)) (undef)),(selV (bitA la 19) (.pointer (some ⟨hb,0,none⟩)) (undef)),(selV (bitA la 20) (.pointer (some ⟨hb,3,none⟩)) (undef))],[{ target:=.collected D2,args:=#[] }]⟩:Act)/\(bitA la 18=false->wx=wd)/\(bitA la 18=true->bitA la 21=false->wx=wd.setCell ⟨hb,2,none⟩ (.slice (some ⟨tg,0,none⟩) tr.length tr.length))/\(bitA la 21=true->wx=(wd.setCell ⟨hb,2,none⟩ (.slice (some ⟨tg,0,none⟩) tr.length tr.length)).setCell ⟨hb,3,none⟩ (.slice (some ⟨g,0,none⟩) (i+1) pc))) ?_ ?_ _ _ _ _ (by decide) ?_
  case refine_3=>
   exact⟨by simp,Clo.start _ _,rfl,fun _=>rfl,fun e=>absurd e (by decide),fun e=>absurd e (by decide)⟩
  case refine_1=>
   rintro la a wx ⟨hl,hcl,rfl,hs0,hs1,hs2⟩ i hi
   obtain⟨i1,i2,i3⟩:=ready_spec hi
   have hiN:i<22:=i1
   rw[←goppN hl hiN] at i2
   clear hi i1
   have hcs:i=0∨i=1∨i=2∨i=3∨i=4∨i=5∨i=6∨i=7∨i=8∨i=9∨i=10∨i=11∨i=12∨i=13∨i=14∨i=15∨i=16∨i=17∨i=18∨i=19∨i=20∨i=21:=by omega
   rcases hcs with rfl | rfl | rfl | rfl | rfl | rfl | rfl | rfl | rfl | rfl | rfl | rfl | rfl | rfl | rfl | rfl | rfl | rfl | rfl | rfl | rfl | rfl
   ·have b18:bitA la 18=false:=bny i2 (fun e=>(hcl 16 (hcl 17 (hcl 18 e 17 (by decide)) 16 (by decide)) 0 (by decide)))
    have b21:bitA la 21=false:=bny i2 (fun e=>(hcl 16 (hcl 17 (hcl 18 (hcl 21 e 18 (by decide)) 17 (by decide)) 16 (by decide)) 0 (by decide)))
    have e0:=hs0 b18
    subst e0
    have HL:=hid hl;clear hl
    have Hb18:=hid b18;clear b18
    have Hb21:=hid b21;clear b21
    refine wpOpS_step rfl (fun K hK=>?_)
    go_simp
    refine hK _ _ ⟨by simpa using HL.out,hcl.step HL.out (by decide) ?_,?_,?_,?_,?_⟩
    ·intro d hd;cases hd
    ·simp only[gsetN la 0 _ HL.out (by decide)];rfl
    ·intro _;rfl
    ·exact fun e _=>bff Hb18.out (gneN HL.out e)
    ·exact fun e=>bff Hb21.out (gneN HL.out e)
   ·have y0:wx.cell? ⟨w.heap.size,0,none⟩=some (.pointer (some ⟨hb,0,none⟩)):=by cases e18:bitA la 18 with | false=>rw[hs0 e18];exact X0.out | true=>cases e21:bitA la 21 with | false=>rw[hs1 e18 e21];exact X1.out | true=>rw[hs2 e21];exact X2.out
    have HL:=hid hl;clear hl
    refine wpOpS_step rfl (fun K hK=>?_)
    go_simp
    refine hK _ _ ⟨by simpa using HL.out,hcl.step HL.out (by decide) ?_,?_,?_,?_,?_⟩
    ·intro d hd;cases hd
    ·simp only[gsetN la 1 _ HL.out (by decide)];rfl
    ·exact fun e18=>hs0 (gneN HL.out e18)
    ·exact fun e18 e21=>hs1 (gneN HL.out e18) (gneN HL.out e21)
    ·exact fun e21=>hs2 (gneN HL.out e21)
   ·have b18:bitA la 18=false:=bny i2 (fun e=>(hcl 3 (hcl 4 (hcl 5 (hcl 8 (hcl 18 e 8 (by decide)) 5 (by decide)) 4 (by decide)) 3 (by decide)) 2 (by decide)))
    have b21:bitA la 21=false:=bny i2 (fun e=>(hcl 3 (hcl 4 (hcl 5 (hcl 8 (hcl 18 (hcl 21 e 18 (by decide)) 8 (by decide)) 5 (by decide)) 4 (by decide)) 3 (by decide)) 2 (by decide)))
    have e0:=hs0 b18
    subst e0
    have HL:=hid hl;clear hl
    have Hb18:=hid b18;clear b18
    have Hb21:=hid b21;clear b21
    refine wpOpS_step rfl (fun K hK=>?_)
    go_simp
    refine hK _ _ ⟨by simpa using HL.out,hcl.step HL.out (by decide) ?_,?_,?_,?_,?_⟩
    ·intro d hd;cases hd
    ·simp only[gsetN la 2 _ HL.out (by decide)];rfl
    ·intro _;rfl
    ·exact fun e _=>bff Hb18.out (gneN HL.out e)
    ·exact fun e=>bff Hb21.out (gneN HL.out e)
   ·have j2:bitA la 2=true:=dep_at i3 rfl (j:=0) rfl rfl
    have b18:bitA la 18=false:=bny i2 (fun e=>(hcl 4 (hcl 5 (hcl 8 (hcl 18 e 8 (by decide)) 5 (by decide)) 4 (by decide)) 3 (by decide)))
    have b21:bitA la 21=false:=bny i2 (fun e=>(hcl 4 (hcl 5 (hcl 8 (hcl 18 (hcl 21 e 18 (by decide)) 8 (by decide)) 5 (by decide)) 4 (by decide)) 3 (by decide)))
    have e0:=hs0 b18
    subst e0
    have HL:=hid hl;clear hl
    have Hb18:=hid b18;clear b18
    have Hb21:=hid b21;clear b21
    refine wpOpS_step rfl (fun K hK=>?_)
    simp only[j2,selV_t]
    go_simp
    refine hK _ _ ⟨by simpa using HL.out,hcl.step HL.out (by decide) ?_,?_,?_,?_,?_⟩
    ·show ∀d∈[2],_;simp only[List.mem_singleton];rintro d rfl;exact j2
    ·simp only[gsetN la 3 _ HL.out (by decide),j2];rfl
    ·intro _;rfl
    ·exact fun e _=>bff Hb18.out (gneN HL.out e)
    ·exact fun e=>bff Hb21.out (gneN HL.out e)
   ·have j3:bitA la 3=true:=dep_at i3 rfl (j:=0) rfl rfl
    have b18:bitA la 18=false:=bny i2 (fun e=>(hcl 5 (hcl 8 (hcl 18 e 8 (by decide)) 5 (by decide)) 4 (by decide)))
    have b21:bitA la 21=false:=bny i2 (fun e=>(hcl 5 (hcl 8 (hcl 18 (hcl 21 e 18 (by decide)) 8 (by decide)) 5 (by decide)) 4 (by decide)))
    have e0:=hs0 b18
    subst e0
    have HL:=hid hl;clear hl
    have Hb18:=hid b18;clear b18
    have Hb21:=hid b21;clear b21
    refine wpOpS_step rfl (fun K hK=>?_)
    simp only[j3,selV_t]
    go_simp
    refine hK _ _ ⟨by simpa using HL.out,hcl.step HL.out (by decide) ?_,?_,?_,?_,?_⟩
    ·show ∀d∈[3],_;simp only[List.mem_singleton];rintro d rfl;exact j3
    ·simp only[gsetN la 4 _ HL.out (by decide),j3];rfl
    ·intro _;rfl
    ·exact fun e _=>bff Hb18.out (gneN HL.out e)
    ·exact fun e=>bff Hb21.out (gneN HL.out e)
   ·have j4:bitA la 4=true:=dep_at i3 rfl (j:=0) rfl rfl
    have b18:bitA la 18=false:=bny i2 (fun e=>(hcl 8 (hcl 18 e 8 (by decide)) 5 (by decide)))
    have b21:bitA la 21=false:=bny i2 (fun e=>(hcl 8 (hcl 18 (hcl 21 e 18 (by decide)) 8 (by decide)) 5 (by decide)))
    have e0:=hs0 b18
    subst e0
    have HL:=hid hl;clear hl
    have Hb18:=hid b18;clear b18
    have Hb21:=hid b21;clear b21
    refine wpOpS_step rfl (fun K hK=>?_)
    simp only[j4,selV_t]
    go_simp
    refine hK _ _ ⟨by simpa using HL.out,hcl.step HL.out (by decide) ?_,?_,?_,?_,?_⟩
    ·show ∀d∈[4],_;simp only[List.mem_singleton];rintro d rfl;exact j4
    ·simp only[gsetN la 5 _ HL.out (by decide),j4];rfl
    ·intro _;rfl
    ·exact fun e _=>bff Hb18.out (gneN HL.out e)
    ·exact fun e=>bff Hb21.out (gneN HL.out e)
   ·have b18:bitA la 18=false:=bny i2 (fun e=>(hcl 7 (hcl 8 (hcl 18 e 8 (by decide)) 7 (by decide)) 6 (by decide)))
    have b21:bitA la 21=false:=bny i2 (fun e=>(hcl 7 (hcl 8 (hcl 18 (hcl 21 e 18 (by decide)) 8 (by decide)) 7 (by decide)) 6 (by decide)))
    have e0:=hs0 b18
    subst e0
    have HL:=hid hl;clear hl
    have Hb18:=hid b18;clear b18
    have Hb21:=hid b21;clear b21
    refine wpOpS_step rfl (fun K hK=>?_)
    go_simp
    refine hK _ _ ⟨by simpa using HL.out,hcl.step HL.out (by decide) ?_,?_,?_,?_,?_⟩
    ·intro d hd;cases hd
    ·simp only[gsetN la 6 _ HL.out (by decide)];rfl
    ·intro _;rfl
    ·exact fun e _=>bff Hb18.out (gneN HL.out e)
    ·exact fun e=>bff Hb21.out (gneN HL.out e)
   ·have j6:bitA la 6=true:=dep_at i3 rfl (j:=0) rfl rfl
    have b18:bitA la 18=false:=bny i2 (fun e=>(hcl 8 (hcl 18 e 8 (by decide)) 7 (by decide)))
    have b21:bitA la 21=false:=bny i2 (fun e=>(hcl 8 (hcl 18 (hcl 21 e 18 (by decide)) 8 (by decide)) 7 (by decide)))
    have e0:=hs0 b18
    subst e0
    have HL:=hid hl;clear hl
    have Hb18:=hid b18;clear b18
    have Hb21:=hid b21;clear b21
    refine wpOpS_step rfl (fun K hK=>?_)
    simp only[j6,selV_t]
    go_simp
    refine hK _ _ ⟨by simpa using HL.out,hcl.step HL.out (by decide) ?_,?_,?_,?_,?_⟩
    ·show ∀d∈[6],_;simp only[List.mem_singleton];rintro d rfl;exact j6
    ·simp only[gsetN la 7 _ HL.out (by decide),j6];rfl
    ·intro _;rfl
    ·exact fun e _=>bff Hb18.out (gneN HL.out e)
    ·exact fun e=>bff Hb21.out (gneN HL.out e)
   ·have j5:bitA la 5=true:=dep_at i3 rfl (j:=0) rfl rfl
    have j7:bitA la 7=true:=dep_at i3 rfl (j:=1) rfl rfl
    have b18:bitA la 18=false:=bny i2 (fun e=>(hcl 18 e 8 (by decide)))
    have b21:bitA la 21=false:=bny i2 (fun e=>(hcl 18 (hcl 21 e 18 (by decide)) 8 (by decide)))
    have e0:=hs0 b18
    subst e0
    have HL:=hid hl;clear hl
    have Hb18:=hid b18;clear b18
    have Hb21:=hid b21;clear b21
    refine wpOpS_step rfl (fun K hK=>?_)
    simp only[j5,j7,selV_t]
    go_simp
    refine hK _ _ ⟨by simpa using HL.out,hcl.step HL.out (by decide) ?_,?_,?_,?_,?_⟩
    ·show ∀d∈[5,7],_;simp only[List.mem_cons,List.not_mem_nil,or_false];rintro d (rfl | rfl) <;> first | exact j5 | exact j7
    ·simp only[gsetN la 8 _ HL.out (by decide),j5,j7];rfl
    ·intro _;rfl
    ·exact fun e _=>bff Hb18.out (gneN HL.out e)
    ·exact fun e=>bff Hb21.out (gneN HL.out e)
   ·have b18:bitA la 18=false:=bny i2 (fun e=>(hcl 10 (hcl 11 (hcl 12 (hcl 16 (hcl 17 (hcl 18 e 17 (by decide)) 16 (by decide)) 12 (by decide)) 11 (by decide)) 10 (by decide)) 9 (by decide)))
    have b21:bitA la 21=false:=bny i2 (fun e=>(hcl 10 (hcl 11 (hcl 12 (hcl 15 (hcl 21 e 15 (by decide)) 12 (by decide)) 11 (by decide)) 10 (by decide)) 9 (by decide)))
    have e0:=hs0 b18
    subst e0
    have HL:=hid hl;clear hl
    have Hb18:=hid b18;clear b18
    have Hb21:=hid b21;clear b21
    refine wpOpS_step rfl (fun K hK=>?_)
    go_simp
    refine hK _ _ ⟨by simpa using HL.out,hcl.step HL.out (by decide) ?_,?_,?_,?_,?_⟩
    ·intro d hd;cases hd
    ·simp only[gsetN la 9 _ HL.out (by decide)];rfl
    ·intro _;rfl
    ·exact fun e _=>bff Hb18.out (gneN HL.out e)
    ·exact fun e=>bff Hb21.out (gneN HL.out e)
   ·have j9:bitA la 9=true:=dep_at i3 rfl (j:=0) rfl rfl
    have b18:bitA la 18=false:=bny i2 (fun e=>(hcl 11 (hcl 12 (hcl 16 (hcl 17 (hcl 18 e 17 (by decide)) 16 (by decide)) 12 (by decide)) 11 (by decide)) 10 (by decide)))
    have b21:bitA la 21=false:=bny i2 (fun e=>(hcl 11 (hcl 12 (hcl 15 (hcl 21 e 15 (by decide)) 12 (by decide)) 11 (by decide)) 10 (by decide)))
    have e0:=hs0 b18
    subst e0
    have HL:=hid hl;clear hl
    have Hb18:=hid b18;clear b18
    have Hb21:=hid b21;clear b21
    refine wpOpS_step rfl (fun K hK=>?_)
    simp only[j9,selV_t]
    go_simp
    refine hK _ _ ⟨by simpa using HL.out,hcl.step HL.out (by decide) ?_,?_,?_,?_,?_⟩
    ·show ∀d∈[9],_;simp only[List.mem_singleton];rintro d rfl;exact j9
    ·simp only[gsetN la 10 _ HL.out (by decide),j9];rfl
    ·intro _;rfl
    ·exact fun e _=>bff Hb18.out (gneN HL.out e)
    ·exact fun e=>bff Hb21.out (gneN HL.out e)
   ·have j10:bitA la 10=true:=dep_at i3 rfl (j:=0) rfl rfl
    have b18:bitA la 18=false:=bny i2 (fun e=>(hcl 12 (hcl 16 (hcl 17 (hcl 18 e 17 (by decide)) 16 (by decide)) 12 (by decide)) 11 (by decide)))
    have b21:bitA la 21=false:=bny i2 (fun e=>(hcl 12 (hcl 15 (hcl 21 e 15 (by decide)) 12 (by decide)) 11 (by decide)))
    have e0:=hs0 b18
    subst e0
    have HL:=hid hl;clear hl
    have Hb18:=hid b18;clear b18
    have Hb21:=hid b21;clear b21
    refine wpOpS_step rfl (fun K hK=>?_)
    simp only[j10,selV_t]
    go_simp
    refine hK _ _ ⟨by simpa using HL.out,hcl.step HL.out (by decide) ?_,?_,?_,?_,?_⟩
    ·show ∀d∈[10],_;simp only[List.mem_singleton];rintro d rfl;exact j10
    ·simp only[gsetN la 11 _ HL.out (by decide),j10];rfl
    ·intro _;rfl
    ·exact fun e _=>bff Hb18.out (gneN HL.out e)
    ·exact fun e=>bff Hb21.out (gneN HL.out e)
   ·have j11:bitA la 11=true:=dep_at i3 rfl (j:=0) rfl rfl
    have b18:bitA la 18=false:=bny i2 (fun e=>(hcl 16 (hcl 17 (hcl 18 e 17 (by decide)) 16 (by decide)) 12 (by decide)))
    have b21:bitA la 21=false:=bny i2 (fun e=>(hcl 15 (hcl 21 e 15 (by decide)) 12 (by decide)))
    have e0:=hs0 b18
    subst e0
    have HL:=hid hl;clear hl
    have Hb18:=hid b18;clear b18
    have Hb21:=hid b21;clear b21
    refine wpOpS_step rfl (fun K hK=>?_)
    simp only[j11,selV_t]
    go_simp
    refine hK _ _ ⟨by simpa using HL.out,hcl.step HL.out (by decide) ?_,?_,?_,?_,?_⟩
    ·show ∀d∈[11],_;simp only[List.mem_singleton];rintro d rfl;exact j11
    ·simp only[gsetN la 12 _ HL.out (by decide),j11];rfl
    ·intro _;rfl
    ·exact fun e _=>bff Hb18.out (gneN HL.out e)
    ·exact fun e=>bff Hb21.out (gneN HL.out e)
   ·have HL:=hid hl;clear hl
    refine wpOpS_step rfl (fun K hK=>?_)
    go_simp
    refine hK _ _ ⟨by simpa using HL.out,hcl.step HL.out (by decide) ?_,?_,?_,?_,?_⟩
    ·intro d hd;cases hd
    ·simp only[gsetN la 13 _ HL.out (by decide)];rfl
    ·exact fun e18=>hs0 (gneN HL.out e18)
    ·exact fun e18 e21=>hs1 (gneN HL.out e18) (gneN HL.out e21)
    ·exact fun e21=>hs2 (gneN HL.out e21)
   ·have j13:bitA la 13=true:=dep_at i3 rfl (j:=0) rfl rfl
    have HL:=hid hl;clear hl
    refine wpOpS_step rfl (fun K hK=>?_)
    simp only[j13,selV_t]
    go_simp
    refine hK _ _ ⟨by simpa using HL.out,hcl.step HL.out (by decide) ?_,?_,?_,?_,?_⟩
    ·show ∀d∈[13],_;simp only[List.mem_singleton];rintro d rfl;exact j13
    ·simp only[gsetN la 14 _ HL.out (by decide),j13];rfl
    ·exact fun e18=>hs0 (gneN HL.out e18)
    ·exact fun e18 e21=>hs1 (gneN HL.out e18) (gneN HL.out e21)
    ·exact fun e21=>hs2 (gneN HL.out e21)
   ·have j12:bitA la 12=true:=dep_at i3 rfl (j:=0) rfl rfl
    have j14:bitA la 14=true:=dep_at i3 rfl (j:=1) rfl rfl
    have HL:=hid hl;clear hl
    refine wpOpS_step rfl (fun K hK=>?_)
    simp only[j12,j14,selV_t]
    go_simp
    refine hK _ _ ⟨by simpa using HL.out,hcl.step HL.out (by decide) ?_,?_,?_,?_,?_⟩
    ·show ∀d∈[12,14],_;simp only[List.mem_cons,List.not_mem_nil,or_false];rintro d (rfl | rfl) <;> first | exact j12 | exact j14
    ·simp only[gsetN la 15 _ HL.out (by decide),j12,j14];rfl
    ·exact fun e18=>hs0 (gneN HL.out e18)
    ·exact fun e18 e21=>hs1 (gneN HL.out e18) (gneN HL.out e21)
    ·exact fun e21=>hs2 (gneN HL.out e21)
   ·have j0:bitA la 0=true:=dep_at i3 rfl (j:=0) rfl rfl
    have j8:bitA la 8=true:=dep_at i3 rfl (j:=9) rfl rfl
    have j12:bitA la 12=true:=dep_at i3 rfl (j:=13) rfl rfl
    have b18:bitA la 18=false:=bny i2 (fun e=>(hcl 17 (hcl 18 e 17 (by decide)) 16 (by decide)))
    have b21:bitA la 21=false:=bny i2 (fun e=>(hcl 17 (hcl 18 (hcl 21 e 18 (by decide)) 17 (by decide)) 16 (by decide)))
    have e0:=hs0 b18
    subst e0
    have HL:=hid hl;clear hl
    have Hb18:=hid b18;clear b18
    have Hb21:=hid b21;clear b21
    refine wpOpS_step rfl (fun K hK=>?_)
    simp only[j0,selV_t]
    go_simp
    refine hK _ _ ⟨by simpa using HL.out,hcl.step HL.out (by decide) ?_,?_,?_,?_,?_⟩
    ·show ∀d∈[0,8,12],_;simp only[List.mem_cons,List.not_mem_nil,or_false];rintro d (rfl | rfl | rfl) <;> first | exact j0 | exact j8 | exact j12
    ·simp only[gsetN la 16 _ HL.out (by decide),j0,j8,j12];rfl
    ·intro _;rfl
    ·exact fun e _=>bff Hb18.out (gneN HL.out e)
    ·exact fun e=>bff Hb21.out (gneN HL.out e)
   ·have j16:bitA la 16=true:=dep_at i3 rfl (j:=0) rfl rfl
    have b18:bitA la 18=false:=bny i2 (fun e=>(hcl 18 e 17 (by decide)))
    have b21:bitA la 21=false:=bny i2 (fun e=>(hcl 18 (hcl 21 e 18 (by decide)) 17 (by decide)))
    have e0:=hs0 b18
    subst e0
    have HL:=hid hl;clear hl
    have Hb18:=hid b18;clear b18
    have Hb21:=hid b21;clear b21
    refine wpOpS_step rfl (fun K hK=>?_)
    simp only[j16,selV_t]
    go_simp
    refine hK _ _ ⟨by simpa using HL.out,hcl.step HL.out (by decide) ?_,?_,?_,?_,?_⟩
    ·show ∀d∈[16],_;simp only[List.mem_singleton];rintro d rfl;exact j16
    ·simp only[gsetN la 17 _ HL.out (by decide),j16];rfl
    ·intro _;rfl
    ·exact fun e _=>bff Hb18.out (gneN HL.out e)
    ·exact fun e=>bff Hb21.out (gneN HL.out e)
   ·have j17:bitA la 17=true:=dep_at i3 rfl (j:=0) rfl rfl
    have j8:bitA la 8=true:=dep_at i3 rfl (j:=1) rfl rfl
    have b18:bitA la 18=false:=i2
    have b21:bitA la 21=false:=bny i2 (fun e=>(hcl 21 e 18 (by decide)))
    have e0:=hs0 b18
    subst e0
    have HL:=hid hl;clear hl
    have Hb18:=hid b18;clear b18
    have Hb21:=hid b21;clear b21
    refine wpOpS_step rfl (fun K hK=>?_)
    simp only[j17,j8,selV_t]
    go_simp
    refine hK _ _ ⟨by simpa using HL.out,hcl.step HL.out (by decide) ?_,?_,?_,?_,?_⟩
    ·show ∀d∈[17,8],_;simp only[List.mem_cons,List.not_mem_nil,or_false];rintro d (rfl | rfl) <;> first | exact j17 | exact j8
    ·simp only[gsetN la 18 _ HL.out (by decide),j17,j8];rfl
    ·intro e;rw[gsetN la 18 18 HL.out (by decide),if_pos rfl] at e;cases e
    ·intro _ _;rfl
    ·exact fun e=>bff Hb21.out (gneN HL.out e)
   ·have j1:bitA la 1=true:=dep_at i3 rfl (j:=0) rfl rfl
    have j15:bitA la 15=true:=dep_at i3 rfl (j:=16) rfl rfl
    have j18:bitA la 18=true:=dep_at i3 rfl (j:=19) rfl rfl
    have HL:=hid hl;clear hl
    refine wpOpS_step rfl (fun K hK=>?_)
    simp only[j1,selV_t]
    go_simp
    refine hK _ _ ⟨by simpa using HL.out,hcl.step HL.out (by decide) ?_,?_,?_,?_,?_⟩
    ·show ∀d∈[1,15,18],_;simp only[List.mem_cons,List.not_mem_nil,or_false];rintro d (rfl | rfl | rfl) <;> first | exact j1 | exact j15 | exact j18
    ·simp only[gsetN la 19 _ HL.out (by decide),j1,j15];rfl
    ·exact fun e18=>hs0 (gneN HL.out e18)
    ·exact fun e18 e21=>hs1 (gneN HL.out e18) (gneN HL.out e21)
    ·exact fun e21=>hs2 (gneN HL.out e21)
   ·have j19:bitA la 19=true:=dep_at i3 rfl (j:=0) rfl rfl
    have HL:=hid hl;clear hl
    refine wpOpS_step rfl (fun K hK=>?_)
    simp only[j19,selV_t]
    go_simp
    refine hK _ _ ⟨by simpa using HL.out,hcl.step HL.out (by decide) ?_,?_,?_,?_,?_⟩
    ·show ∀d∈[19],_;simp only[List.mem_singleton];rintro d rfl;exact j19
    ·simp only[gsetN la 20 _ HL.out (by decide),j19];rfl
    ·exact fun e18=>hs0 (gneN HL.out e18)
    ·exact fun e18 e21=>hs1 (gneN HL.out e18) (gneN HL.out e21)
    ·exact fun e21=>hs2 (gneN HL.out e21)
   ·have j20:bitA la 20=true:=dep_at i3 rfl (j:=0) rfl rfl
    have j15:bitA la 15=true:=dep_at i3 rfl (j:=1) rfl rfl
    have j18:bitA la 18=true:=dep_at i3 rfl (j:=2) rfl rfl
    have b21:bitA la 21=false:=i2
    have e0:=hs1 j18 b21
    subst e0
    have y3:=X3.out
    have y4:=X4.out
    have HL:=hid hl;clear hl
    have Hb21:=hid b21;clear b21
    refine wpOpS_step rfl (fun K hK=>?_)
    simp only[j20,j15,selV_t]
    go_simp
    refine hK _ _ ⟨by simpa using HL.out,hcl.step HL.out (by decide) ?_,?_,?_,?_,?_⟩
    ·show ∀d∈[20,15,18],_;simp only[List.mem_cons,List.not_mem_nil,or_false];rintro d (rfl | rfl | rfl) <;> first | exact j20 | exact j15 | exact j18
    ·simp only[gsetN la 21 _ HL.out (by decide),j20,j15];rfl
    ·intro e;rw[gsetN la 21 18 HL.out (by decide),if_neg (by decide),j18] at e;cases e
    ·intro e1 e2;rw[gsetN la 21 21 HL.out (by decide),if_pos rfl] at e2;cases e2
    ·intro _;rfl
  case refine_2=>
   rintro la a wx ⟨hl,hcl,rfl,hs0,hs1,hs2⟩ hr
   have n0:bitA la 0=true:=by
    rw[goppN hl (by omega)]
    exact noneN hr (i:=0) (by decide) (by simp[Region.binds])
   have m0:la[0]?.getD false=true:=by simpa[bitA] using n0
   have n1:bitA la 1=true:=by
    rw[goppN hl (by omega)]
    exact noneN hr (i:=1) (by decide) (by simp[Region.binds])
   have m1:la[1]?.getD false=true:=by simpa[bitA] using n1
   have n2:bitA la 2=true:=by
    rw[goppN hl (by omega)]
    exact noneN hr (i:=2) (by decide) (by simp[Region.binds])
   have m2:la[2]?.getD false=true:=by simpa[bitA] using n2
   have n3:bitA la 3=true:=by
    rw[goppN hl (by omega)]
    exact noneN hr (i:=3) (by decide) (by simp[Region.binds,m2])
   have m3:la[3]?.getD false=true:=by simpa[bitA] using n3
   have n4:bitA la 4=true:=by
    rw[goppN hl (by omega)]
    exact noneN hr (i:=4) (by decide) (by simp[Region.binds,m3])
   have m4:la[4]?.getD false=true:=by simpa[bitA] using n4
   have n5:bitA la 5=true:=by
    rw[goppN hl (by omega)]
    exact noneN hr (i:=5) (by decide) (by simp[Region.binds,m4])
   have m5:la[5]?.getD false=true:=by simpa[bitA] using n5
   have n6:bitA la 6=true:=by
    rw[goppN hl (by omega)]
    exact noneN hr (i:=6) (by decide) (by simp[Region.binds])
   have m6:la[6]?.getD false=true:=by simpa[bitA] using n6
   have n7:bitA la 7=true:=by
    rw[goppN hl (by omega)]
    exact noneN hr (i:=7) (by decide) (by simp[Region.binds,m6])
   have m7:la[7]?.getD false=true:=by simpa[bitA] using n7
   have n8:bitA la 8=true:=by
    rw[goppN hl (by omega)]
    exact noneN hr (i:=8) (by decide) (by simp[Region.binds,m5,m7])
   have m8:la[8]?.getD false=true:=by simpa[bitA] using n8
   have n9:bitA la 9=true:=by
    rw[goppN hl (by omega)]
    exact noneN hr (i:=9) (by decide) (by simp[Region.binds])
   have m9:la[9]?.getD false=true:=by simpa[bitA] using n9
   have n10:bitA la 10=true:=by
    rw[goppN hl (by omega)]
    exact noneN hr (i:=10) (by decide) (by simp[Region.binds,m9])
   have m10:la[10]?.getD false=true:=by simpa[bitA] using n10
   have n11:bitA la 11=true:=by
    rw[goppN hl (by omega)]
    exact noneN hr (i:=11) (by decide) (by simp[Region.binds,m10])
   have m11:la[11]?.getD false=true:=by simpa[bitA] using n11
   have n12:bitA la 12=true:=by
    rw[goppN hl (by omega)]
    exact noneN hr (i:=12) (by decide) (by simp[Region.binds,m11])
   have m12:la[12]?.getD false=true:=by simpa[bitA] using n12
   have n13:bitA la 13=true:=by
    rw[goppN hl (by omega)]
    exact noneN hr (i:=13) (by decide) (by simp[Region.binds])
   have m13:la[13]?.getD false=true:=by simpa[bitA] using n13
   have n14:bitA la 14=true:=by
    rw[goppN hl (by omega)]
    exact noneN hr (i:=14) (by decide) (by simp[Region.binds,m13])
   have m14:la[14]?.getD false=true:=by simpa[bitA] using n14
   have n15:bitA la 15=true:=by
    rw[goppN hl (by omega)]
    exact noneN hr (i:=15) (by decide) (by simp[Region.binds,m12,m14])
   have m15:la[15]?.getD false=true:=by simpa[bitA] using n15
   have n16:bitA la 16=true:=by
    rw[goppN hl (by omega)]
    exact noneN hr (i:=16) (by decide) (by simp[Region.binds,m0,m2,m3,m4,m5,m6,m7,m8,m12])
   have m16:la[16]?.getD false=true:=by simpa[bitA] using n16
   have n17:bitA la 17=true:=by
    rw[goppN hl (by omega)]
    exact noneN hr (i:=17) (by decide) (by simp[Region.binds,m16,m0,m2,m3,m4,m5,m6,m7,m8,m12])
   have m17:la[17]?.getD false=true:=by simpa[bitA] using n17
   have n18:bitA la 18=true:=by
    rw[goppN hl (by omega)]
    exact noneN hr (i:=18) (by decide) (by simp[Region.binds,m17,m8,m0,m2,m3,m4,m5,m6,m7,m12])
   have m18:la[18]?.getD false=true:=by simpa[bitA] using n18
   have n19:bitA la 19=true:=by
    rw[goppN hl (by omega)]
    exact noneN hr (i:=19) (by decide) (by simp[Region.binds,m1,m0,m2,m3,m4,m5,m6,m7,m8,m9,m10,m11,m12,m13,m14,m15,m16,m17,m18])
   have m19:la[19]?.getD false=true:=by simpa[bitA] using n19
   have n20:bitA la 20=true:=by
    rw[goppN hl (by omega)]
    exact noneN hr (i:=20) (by decide) (by simp[Region.binds,m19,m0,m1,m2,m3,m4,m5,m6,m7,m8,m9,m10,m11,m12,m13,m14,m15,m16,m17,m18])
   have m20:la[20]?.getD false=true:=by simpa[bitA] using n20
   have n21:bitA la 21=true:=by
    rw[goppN hl (by omega)]
    exact noneN hr (i:=21) (by decide) (by simp[Region.binds,m20,m15,m18,m0,m1,m2,m3,m4,m5,m6,m7,m8,m9,m10,m11,m12,m13,m14,m16,m17])
   have m21:la[21]?.getD false=true:=by simpa[bitA] using n21
   have hfin:=hs2 n21
   simp only[n0,n1,n2,n3,n4,n5,n6,n7,n8,n9,n10,n11,n12,n13,n14,n15,n16,n17,n19,n20,selV_t]
   clear n0 m0 n1 m1 n2 m2 n3 m3 n4 m4 n5 m5 n6 m6 n7 m7 n8 m8 n9 m9 n10 m10 n11 m11 n12 m12 n13 m13 n14 m14 n15 m15 n16 m16 n17 m17 n18 m18 n19 m19 n20 m20 n21 m21 hr hcl hs0 hs1 hs2
   subst hfin
   clear X0 X1 X2 X3 X4
   go_wp2
   obtain⟨m9,q9,mm9,nx1,nx2⟩:=hfn.out
   exact⟨by simp,.inl ⟨_,_,rfl,run_takeDeferred m9,.nilIface,by simp[results,Tryz.results28,go_sem],rfl,_,_,_,q9,mm9,hnx.out,nx1,nx2⟩⟩
 case stop=>
  rintro D2 c pre W' _ h _
  exact h.elim
set_option maxHeartbeats 8000000 in
theorem undo_nil  (h:Hq w B hb ab tb m av l tv tq ns (.slice none 0 0) ([]:List Te) ptv pt n) (i:Nat) (hi:i<pt.length) (K:Nat) (hTK:pt.getD i (0,0)=(0,K)) (hK:K<=l.length) (hpl:pt.length<=1000000) (hent:∀e∈([]:List Te),e.1<l.length/\(0<=e.2/\e.2<=18446744073709551615)/\mayB e.2 l.length=true) :
  Calls Tryz.prog 28 #[.pointer (some ⟨hb,0,none⟩),.int .i64 (i:Int)] w fun e w'=>e=.returned .nilIface/\∃av' trv' ptv',Hq w' B hb ab tb m av' (atP l ([]:List Te) (0,K)) tv tq ns trv' (([]:List Te).take 0) ptv' (pt.take (i+1)) n/\a_Mod (qfoot hb ab av (.slice none 0 0) ptv) w w'/\a_Nx w av av'/\a_Nx w (.slice none 0 0) trv'/\a_Nx w ptv ptv':=by
 have HB2:=hid (ud_start h 0 K)
 have h1:=h.below (below_alloc w (hbxO hb))
 have hhp:=hid (haspoint_yes h1 i hi)
 obtain⟨⟨c0,c1,c2,c3,c4⟩,c5⟩:=h1.hp.cells
 have HH:=hid h
 obtain⟨po,pc,rfl,hpc,_,hp0,hpa⟩:=own_slq h.pt
 obtain⟨g,rfl⟩:∃g,po=some ⟨g,0,none⟩:=by
  cases po with
  | none=>exact absurd (hp0 rfl).1 (by omega)
  | some a=>exact⟨a.block,by rw[←hpa a rfl]⟩
 have hla:=mkC_at pt i hi
 rw[hTK] at hla
 have g0:(w.alloc (hbxO hb)).cell? ⟨g,i*3,none⟩=some (.int .i64 (0:Int)):=by rw[h1.pt.cellAt _ (by omega)];exact hla.1
 have g1:(w.alloc (hbxO hb)).cell? ⟨g,i*3+1,none⟩=some (.int .i64 (K:Int)):=by rw[h1.pt.cellAt _ (by omega)];exact hla.2.1
 have g2:(w.alloc (hbxO hb)).cell? ⟨g,i*3+2,none⟩=some (.slice none 0 0):=by rw[h1.pt.cellAt _ (by omega)];exact hla.2.2
 have z0:w.heap.size<(w.alloc (hbxO hb)).heap.size:=by simp
 have hii:(i:Int)<(pt.length:Int):=by omega
 have hx1:=cell1q (heap_alloc_new w (hbxO hb))
 have d0:=cell1q HB2.out.x
 obtain⟨⟨_,_,d1,_,_⟩,d5⟩:=HB2.out.q.hp.cells
 obtain⟨d2,_,_⟩:=cell3q HB2.out.p
 have d3:(0:Int)<=(0:Int):=by omega
 have d4:(0:Int)<=(0:Int):=by omega
 have d6:(0:Int)<=(0:Int):=by omega
 have Hent:=hid hent
 clear hla hpa hp0 h1 hent h
 refine (callsIn_wide (n:=4)).1 ?_
 refine callsIn_of_wp_marks Tryz.func28 rfl trivial ?_ rfl
 simp only[Tryz.ntmps28,List.size_toArray,List.length_cons,List.length_nil,Nat.reduceAdd,Nat.reduceSub,Array.replicate_succ,Array.replicate_zero,List.push_toArray,List.append_toArray,List.nil_append,List.cons_append]
 refine wpIn_wide.2 ?_
 go_wp2_with (go_at_call 64;refine hhp.out.mono ?_;rintro e w1 ⟨rfl,hw⟩;subst hw)
 clear c0 c1 c2 c3 c4 c5 g0 g1 g2 hhp hx1
 have hz2:((w.alloc (hbxO hb)).alloc (mkO 0 K)).heap.size=w.heap.size+2:=by simp
 generalize (w.alloc (hbxO hb)).alloc (mkO 0 K)=w2 at *
 go_region_held3 (fun w'=>w'.cell? ⟨w.heap.size,0,none⟩=some (.pointer (some ⟨hb,0,none⟩))/\w'.cell? ⟨hb,2,none⟩=some (.slice none 0 0)/\w'.cell? ⟨w.heap.size+1,0,none⟩=some (.int .i64 (0:Int))) (first | (with_reducible exact⟨d0,d1,d2⟩) | (with_reducible exact su_dr ⟨d0,d1,d2⟩) | go_keep)
  (first
   | (go_at_call 65;refine (backS_any _ _ _ _).mono ?_;rintro e w3 ⟨rfl,hw⟩;subst hw))
 go_wp2
 refine (wpIn_wide (n:=4)).1 ?_
 obtain⟨W0,hW0⟩:∃W0,(w2.alloc (.cells #[.slice none 0 0] 49)).drew=W0:=⟨_,rfl⟩
 have hb6:Below w2.heap.size w2 W0:=by rw[←hW0];exact (below_alloc w2 _).drew
 have hbx:W0.heap[w2.heap.size]?=some (.cells #[.slice none 0 0] 49):=by rw[←hW0];exact heap_alloc_new w2 _
 have hz0:W0.heap.size=w2.heap.size+1:=by rw[←hW0];simp
 have htq:tq<w.heap.size:=by
  obtain⟨D,⟨es,clock,hq,_⟩,_⟩:=HH.out.hp.tb.map
  exact lt_heap hq
 have hU0:=hid (HB2.out.nb (Bq:=W0.heap.size) (Nb.ofBelow hb6) (by omega) (by omega))
 rw[show w.heap.size+2=w2.heap.size from hz2.symm,hW0]
 clear hW0 d0 d1 d2 d5
 have hfoot:∀k∈a_foot ab av,k≠w.heap.size+1/\k≠w.heap.size:=fun k hk=>by
  have:=(HH.out.hp.ar).lt
  rcases a_mem_foot.1 hk with rfl | hk
  ·omega
  ·have:=(HH.out.hp.ar.row hk).2.1
   omega
 obtain⟨es,hes⟩:∃es,([]:List Te).drop 0=es:=⟨_,rfl⟩
 have hen:es=[]:=by rw[←hes];simp
 have hz2a:w.heap.size+2<=w2.heap.size:=by omega
 have hz0a:w2.heap.size<W0.heap.size:=by omega
 clear hz2 hz0
 refine range_toldP (Ks:=fun k=>k=w2.heap.size) (encs:=encS) rfl (enters_of Tryz.func95 (by kernel_rfl) rfl) (fun _=>rfl) (by omega) (fun k hk=>by subst hk;omega) (backS_tells0 none 0 3 _ w2.heap.size W0 hbx)
  (I:=Ud w B hb ab tb m av l tv tq ns (.slice none 0 0) ([]:List Te) (.slice (some ⟨g,0,none⟩) pt.length pc) pt n 0 K (w.heap.size+1)) (Ix:=fun _ _ _=>False) (fun pre A A' h hn=>h.nb hn (by omega) (by omega)) (fun c pre A A' h hn=>h) (fun pre x A A' h hn=>h) hU0.out
  (Ax:=fun _ _ _=>True) (fun _ _ _ _ h _=>h) ?assign ?body ?done ?stop
 case assign=>
  intro l0 x W' K0 hzl hK0
  simp only[encS]
  gi_wp2
  exact hK0 _ _ (below_alloc W' _) trivial
 case body=>
  rintro l0 pre x a' W' hu ⟨hlt,hx⟩ _
  exact absurd hlt (by simp)
 case done=>
  rintro D2 xs W' hD hS hu hKd
  have hpre:xs.length=(([]:List Te).drop 0).length:=by rw[hes,hen,hS];rfl
  have hul:=undW_len l ((([]:List Te).drop 0).drop ((([]:List Te).drop 0).length-xs.length))
  have hwz:=lt_of_block hu.x
  have hud:=hu.nb (Bq:=W'.heap.size) (Nb.ofBelow (Below.refl _ W').drew) (by omega) (by omega)
  have hcu:=hid (cut_ok hud.q.hp.ar K (by rw[hul];exact hK))
  have hcf:=hid (fun w5 v5 hU=>ud_cut (w5:=w5) (v5:=v5) hud hpre hfoot hU)
  have hkd:Hid (∀w5 v5,a_Upd 138 W'.drew w5 B ab m av ((undW l ((([]:List Te).drop 0).drop ((([]:List Te).drop 0).length-xs.length))).take K) v5->w5.heap[D2]?=some (.deferred (some []))):=fun w5 v5 hU=>(hU.mod.block D2 (lt_heap hKd) (fun hf=>by
   have:D2<w.heap.size:=by
    rcases a_mem_foot.1 hf with e9 | e9
    ·rw[e9]
     exact HH.out.hp.ar.lt
    ·exact (HH.out.hp.ar.row e9).2.1
   omega)).trans hKd
  have x0:=cell1q hu.x
  obtain⟨⟨q0,_,_,_,_⟩,q5⟩:=hu.q.hp.cells
  obtain⟨_,p1,_⟩:=cell3q hu.p
  generalize undW l ((([]:List Te).drop 0).drop ((([]:List Te).drop 0).length-xs.length))=LL at *
  clear hu hud hKd
  go_wp2
  go_region_held3 (fun w'=>w'.cell? ⟨w.heap.size,0,none⟩=some (.pointer (some ⟨hb,0,none⟩))/\w'.cell? ⟨hb,0,none⟩=some (.pointer (some ⟨ab,0,none⟩))/\w'.cell? ⟨w.heap.size+1,1,none⟩=some (.int .i64 (K:Int))) (first | (with_reducible exact⟨x0,q0,p1⟩) | (with_reducible exact sv_dr ⟨x0,q0,p1⟩))
   (first
    | (go_at_call 67;refine hcu.out.mono ?_;rintro e w5 ⟨v5,rfl,hU⟩;have HC:=hid (hcf.out w5 v5 hU);have HK5:=hid (hkd.out w5 v5 hU);have HN5:=hid hU.nx;clear x0 q0 p1 q5 hU;have x0:=cell1q HC.out.2.2.1;obtain⟨⟨q0,_,q2,q3,_⟩,q5⟩:=HC.out.1.hp.cells;obtain⟨p0,p1,_⟩:=cell3q HC.out.2.2.2))
  have f2:w5.frozen? ⟨hb,2,none⟩=false:=by simp[World.frozen?,HC.out.1.hp.blk]
  have f3:w5.frozen? ⟨hb,3,none⟩=false:=by simp[World.frozen?,HC.out.1.hp.blk]
  have y1:IntKind.i64.wrap ((i:Int)+1)=(i:Int)+1:=by rw[IntKind.wrap_i64];omega
  have y2:(i:Int)+1<=(pc:Int):=by omega
  have y3:(0:Int)<=(0:Int):=by omega
  have y4:(0:Int)<=(i:Int)+1:=by omega
  have y6:((i:Int)+1).toNat=i+1:=by omega
  have hfn:=hid (ud_fin (w5:=w5.drew) (T:=0) (i:=i) HC.out.1.drew HC.out.2.1.drew (Nat.le_refl _) hi HK5.out (by omega) htq)
  have hfz:Hid ((w5.drew.setCell ⟨hb,2,none⟩ (.slice none 0 0)).frozen? ⟨hb,3,none⟩=false):=ud_frz HC.out.1.drew
  have hc3:Hid ((w5.drew.setCell ⟨hb,2,none⟩ (.slice none 0 0)).cell? ⟨hb,3,none⟩=some (.slice (some ⟨g,0,none⟩) pt.length pc)):=ud_c3 HC.out.1.drew
  have hnx:Hid (a_Nx w av v5):=fun q hq=>by
   rcases HN5.out q hq with h9 | h9
   ·exact Or.inl h9
   ·have h9':W'.heap.size<=q:=h9
    exact Or.inr (by omega)
  go_wp2
  refine wp_region_any (by kernel_rfl) ?_
  change wpAny _ _ _ _ _ _ _ w5.drew
  have x0':w5.drew.cell? ⟨w.heap.size,0,none⟩=some (.pointer (some ⟨hb,0,none⟩)):=x0
  have q2':w5.drew.cell? ⟨hb,2,none⟩=some (.slice none 0 0):=q2
  have q3':w5.drew.cell? ⟨hb,3,none⟩=some (.slice (some ⟨g,0,none⟩) pt.length pc):=q3
  have p0':w5.drew.cell? ⟨w.heap.size+1,0,none⟩=some (.int .i64 (0:Int)):=p0
  have f2':w5.drew.frozen? ⟨hb,2,none⟩=false:=f2
  have f3':w5.drew.frozen? ⟨hb,3,none⟩=false:=f3
  have q5':hb<w5.drew.heap.size:=q5
  have hne1:w.heap.size≠hb:=by have:=lt_of_block HH.out.hp.blk;omega
  clear x0 q2 q3 p0 f2 f3 q5 p1 q0
  generalize w5.drew=wd at *
  have X0:=hid x0'
  have X1:Hid ((wd.setCell ⟨hb,2,none⟩ (.slice none 0 0)).cell? ⟨w.heap.size,0,none⟩=some (.pointer (some ⟨hb,0,none⟩))):=(set_far _ _ hne1).trans x0'
  have X2:Hid (((wd.setCell ⟨hb,2,none⟩ (.slice none 0 0)).setCell ⟨hb,3,none⟩ (.slice (some ⟨g,0,none⟩) (i+1) pc)).cell? ⟨w.heap.size,0,none⟩=some (.pointer (some ⟨hb,0,none⟩))):=(set_far _ _ hne1).trans X1.out
  have X3:Hid ((wd.setCell ⟨hb,2,none⟩ (.slice none 0 0)).frozen? ⟨hb,3,none⟩=false):=hfz.out
  have X4:Hid ((wd.setCell ⟨hb,2,none⟩ (.slice none 0 0)).cell? ⟨hb,3,none⟩=some (.slice (some ⟨g,0,none⟩) pt.length pc)):=hc3.out
  refine wpAny_invS (fun la a wx=>la.size=22/\Clo (fun k=>match k with | 3=>[2] | 4=>[3] | 5=>[4] | 7=>[6] | 8=>[5,7] | 10=>[9] | 11=>[10] | 12=>[11] | 14=>[13] | 15=>[12,14] | 16=>[0,8,12] | 17=>[16] | 18=>[17,8] | 19=>[1,15,18] | 20=>[19] | 21=>[20,15,18] | _=>[]) la/\a=(⟨#[.pointer (some ⟨hb,0,none⟩),.int .i64 (i:Int),.pointer (some ⟨w.heap.size,0,none⟩),undef,.nilIface,.nilIface,.pointer (some ⟨w.heap.size+1,0,none⟩),undef,undef,.pointer (some ⟨hb,0,none⟩),.int .i64 (i:Int),.nilIface,.nilIface,.bool false,undef,.pointer (some ⟨hb,0,none⟩),.pointer (some ⟨hb,0,none⟩),.pointer (some ⟨hb,3,none⟩),.slice (some ⟨g,0,none⟩) pt.length pc,.int .i64 (i:Int),.pointer (some ⟨g,i*3,none⟩),.agg #[.int .i64 (0:Int),.int .i64 (K:Int),.slice none 0 0],.pointer (some ⟨hb,0,none⟩),.pointer (some ⟨hb,0,none⟩),.pointer (some ⟨hb,2,none⟩),.slice none 0 0,.pointer (some ⟨w.heap.size+1,0,none⟩),.int .i64 (0:Int),.slice none 0 0,.func (.func 95) #[] #[.pointer (some ⟨w2.heap.size,0,none⟩)],undef,undef,undef,undef,undef,undef,undef,undef,undef,undef,undef,.pointer (some ⟨hb,0,none⟩),.pointer (some ⟨hb,0,none⟩),.pointer (some ⟨hb,0,none⟩),.pointer (some ⟨hb,0,none⟩),.pointer (some ⟨ab,0,none⟩),.pointer (some ⟨w.heap.size+1,1,none⟩),.int .i64 (K:Int),.nilIface,(selV (bitA la 0) (.pointer (some ⟨hb,0,none⟩)) (undef)),(selV (bitA la 1) (.pointer (some ⟨hb,0,none⟩)) (undef)),(selV (bitA la 2) (.pointer (some ⟨hb,0,none⟩)) (undef)),(selV (bitA la 3) (.pointer (some ⟨hb,0,none⟩)) (undef)),(selV (bitA la 4) (.pointer (some ⟨hb,2,none⟩)) (undef)),(selV (bitA la 5) (.slice none 0 0) (undef)),(selV (bitA la 6) (.pointer (some ⟨w.heap.size+1,0,none⟩)) (undef)),(selV (bitA la 7) (.int .i64 (0:Int)) (undef)),(selV (bitA la 8) (.slice none 0 0) (undef)),(selV (bitA la 9) (.pointer (some ⟨hb,0,none⟩)) (undef)),(selV (bitA la 10) (.pointer (some ⟨hb,0,none⟩)) (undef)),(selV (bitA la 11) (.pointer (some ⟨hb,3,none⟩)) (undef)),(selV (bitA la 12) (.slice (some ⟨g,0,none⟩) pt.length pc) (undef)),(selV (bitA la 13) (.int .i64 (i:Int)) (undef)),(selV (bitA la 14) (.int .i64 ((i:Int)+1)) (undef)),(selV (bitA la 15) (.slice (some ⟨g,0,none⟩) (i+1) pc) (undef)),(selV (bitA la 16) (.pointer (some ⟨hb,0,none⟩)) (undef)),(selV (bitA la 17) (.pointer (some ⟨hb,2,none⟩)) (undef)),(selV (bitA la 19) (.pointer (some ⟨hb,0,none⟩)) (undef)),(selV (bitA la 20) (.pointer (some ⟨hb,3,none⟩)) (undef))],[{ target:=.collected D2,args:=#[] }]⟩:Act)/\(bitA la 18=false->wx=wd)/\(bitA la 18=true->bitA la 21=false->wx=wd.setCell ⟨hb,2,none⟩ (.slice none 0 0))/\(bitA la 21=true->wx=(wd.setCell ⟨hb,2,none⟩ (.slice none 0 0)).setCell ⟨hb,3,none⟩ (.slice (some ⟨g,0,none⟩) (i+1) pc))) ?_ ?_ _ _ _ _ (by decide) ?_
  case refine_3=>
   exact⟨by simp,Clo.start _ _,rfl,fun _=>rfl,fun e=>absurd e (by decide),fun e=>absurd e (by decide)⟩
  case refine_1=>
   rintro la a wx ⟨hl,hcl,rfl,hs0,hs1,hs2⟩ i hi
   obtain⟨i1,i2,i3⟩:=ready_spec hi
   have hiN:i<22:=i1
   rw[←goppN hl hiN] at i2
   clear hi i1
   have hcs:i=0∨i=1∨i=2∨i=3∨i=4∨i=5∨i=6∨i=7∨i=8∨i=9∨i=10∨i=11∨i=12∨i=13∨i=14∨i=15∨i=16∨i=17∨i=18∨i=19∨i=20∨i=21:=by omega
   rcases hcs with rfl | rfl | rfl | rfl | rfl | rfl | rfl | rfl | rfl | rfl | rfl | rfl | rfl | rfl | rfl | rfl | rfl | rfl | rfl | rfl | rfl | rfl
   ·have b18:bitA la 18=false:=bny i2 (fun e=>(hcl 16 (hcl 17 (hcl 18 e 17 (by decide)) 16 (by decide)) 0 (by decide)))
    have b21:bitA la 21=false:=bny i2 (fun e=>(hcl 16 (hcl 17 (hcl 18 (hcl 21 e 18 (by decide)) 17 (by decide)) 16 (by decide)) 0 (by decide)))
    have e0:=hs0 b18
    subst e0
    have HL:=hid hl;clear hl
    have Hb18:=hid b18;clear b18
    have Hb21:=hid b21;clear b21
    refine wpOpS_step rfl (fun K hK=>?_)
    go_simp
    refine hK _ _ ⟨by simpa using HL.out,hcl.step HL.out (by decide) ?_,?_,?_,?_,?_⟩
    ·intro d hd;cases hd
    ·simp only[gsetN la 0 _ HL.out (by decide)];rfl
    ·intro _;rfl
    ·exact fun e _=>bff Hb18.out (gneN HL.out e)
    ·exact fun e=>bff Hb21.out (gneN HL.out e)
   ·have y0:wx.cell? ⟨w.heap.size,0,none⟩=some (.pointer (some ⟨hb,0,none⟩)):=by cases e18:bitA la 18 with | false=>rw[hs0 e18];exact X0.out | true=>cases e21:bitA la 21 with | false=>rw[hs1 e18 e21];exact X1.out | true=>rw[hs2 e21];exact X2.out
    have HL:=hid hl;clear hl
    refine wpOpS_step rfl (fun K hK=>?_)
    go_simp
    refine hK _ _ ⟨by simpa using HL.out,hcl.step HL.out (by decide) ?_,?_,?_,?_,?_⟩
    ·intro d hd;cases hd
    ·simp only[gsetN la 1 _ HL.out (by decide)];rfl
    ·exact fun e18=>hs0 (gneN HL.out e18)
    ·exact fun e18 e21=>hs1 (gneN HL.out e18) (gneN HL.out e21)
    ·exact fun e21=>hs2 (gneN HL.out e21)
   ·have b18:bitA la 18=false:=bny i2 (fun e=>(hcl 3 (hcl 4 (hcl 5 (hcl 8 (hcl 18 e 8 (by decide)) 5 (by decide)) 4 (by decide)) 3 (by decide)) 2 (by decide)))
    have b21:bitA la 21=false:=bny i2 (fun e=>(hcl 3 (hcl 4 (hcl 5 (hcl 8 (hcl 18 (hcl 21 e 18 (by decide)) 8 (by decide)) 5 (by decide)) 4 (by decide)) 3 (by decide)) 2 (by decide)))
    have e0:=hs0 b18
    subst e0
    have HL:=hid hl;clear hl
    have Hb18:=hid b18;clear b18
    have Hb21:=hid b21;clear b21
    refine wpOpS_step rfl (fun K hK=>?_)
    go_simp
    refine hK _ _ ⟨by simpa using HL.out,hcl.step HL.out (by decide) ?_,?_,?_,?_,?_⟩
    ·intro d hd;cases hd
    ·simp only[gsetN la 2 _ HL.out (by decide)];rfl
    ·intro _;rfl
    ·exact fun e _=>bff Hb18.out (gneN HL.out e)
    ·exact fun e=>bff Hb21.out (gneN HL.out e)
   ·have j2:bitA la 2=true:=dep_at i3 rfl (j:=0) rfl rfl
    have b18:bitA la 18=false:=bny i2 (fun e=>(hcl 4 (hcl 5 (hcl 8 (hcl 18 e 8 (by decide)) 5 (by decide)) 4 (by decide)) 3 (by decide)))
    have b21:bitA la 21=false:=bny i2 (fun e=>(hcl 4 (hcl 5 (hcl 8 (hcl 18 (hcl 21 e 18 (by decide)) 8 (by decide)) 5 (by decide)) 4 (by decide)) 3 (by decide)))
    have e0:=hs0 b18
    subst e0
    have HL:=hid hl;clear hl
    have Hb18:=hid b18;clear b18
    have Hb21:=hid b21;clear b21
    refine wpOpS_step rfl (fun K hK=>?_)
    simp only[j2,selV_t]
    go_simp
    refine hK _ _ ⟨by simpa using HL.out,hcl.step HL.out (by decide) ?_,?_,?_,?_,?_⟩
    ·show ∀d∈[2],_;simp only[List.mem_singleton];rintro d rfl;exact j2
    ·simp only[gsetN la 3 _ HL.out (by decide),j2];rfl
    ·intro _;rfl
    ·exact fun e _=>bff Hb18.out (gneN HL.out e)
    ·exact fun e=>bff Hb21.out (gneN HL.out e)
   ·have j3:bitA la 3=true:=dep_at i3 rfl (j:=0) rfl rfl
    have b18:bitA la 18=false:=bny i2 (fun e=>(hcl 5 (hcl 8 (hcl 18 e 8 (by decide)) 5 (by decide)) 4 (by decide)))
    have b21:bitA la 21=false:=bny i2 (fun e=>(hcl 5 (hcl 8 (hcl 18 (hcl 21 e 18 (by decide)) 8 (by decide)) 5 (by decide)) 4 (by decide)))
    have e0:=hs0 b18
    subst e0
    have HL:=hid hl;clear hl
    have Hb18:=hid b18;clear b18
    have Hb21:=hid b21;clear b21
    refine wpOpS_step rfl (fun K hK=>?_)
    simp only[j3,selV_t]
    go_simp
    refine hK _ _ ⟨by simpa using HL.out,hcl.step HL.out (by decide) ?_,?_,?_,?_,?_⟩
    ·show ∀d∈[3],_;simp only[List.mem_singleton];rintro d rfl;exact j3
    ·simp only[gsetN la 4 _ HL.out (by decide),j3];rfl
    ·intro _;rfl
    ·exact fun e _=>bff Hb18.out (gneN HL.out e)
    ·exact fun e=>bff Hb21.out (gneN HL.out e)
   ·have j4:bitA la 4=true:=dep_at i3 rfl (j:=0) rfl rfl
    have b18:bitA la 18=false:=bny i2 (fun e=>(hcl 8 (hcl 18 e 8 (by decide)) 5 (by decide)))
    have b21:bitA la 21=false:=bny i2 (fun e=>(hcl 8 (hcl 18 (hcl 21 e 18 (by decide)) 8 (by decide)) 5 (by decide)))
    have e0:=hs0 b18
    subst e0
    have HL:=hid hl;clear hl
    have Hb18:=hid b18;clear b18
    have Hb21:=hid b21;clear b21
    refine wpOpS_step rfl (fun K hK=>?_)
    simp only[j4,selV_t]
    go_simp
    refine hK _ _ ⟨by simpa using HL.out,hcl.step HL.out (by decide) ?_,?_,?_,?_,?_⟩
    ·show ∀d∈[4],_;simp only[List.mem_singleton];rintro d rfl;exact j4
    ·simp only[gsetN la 5 _ HL.out (by decide),j4];rfl
    ·intro _;rfl
    ·exact fun e _=>bff Hb18.out (gneN HL.out e)
    ·exact fun e=>bff Hb21.out (gneN HL.out e)
   ·have b18:bitA la 18=false:=bny i2 (fun e=>(hcl 7 (hcl 8 (hcl 18 e 8 (by decide)) 7 (by decide)) 6 (by decide)))
    have b21:bitA la 21=false:=bny i2 (fun e=>(hcl 7 (hcl 8 (hcl 18 (hcl 21 e 18 (by decide)) 8 (by decide)) 7 (by decide)) 6 (by decide)))
    have e0:=hs0 b18
    subst e0
    have HL:=hid hl;clear hl
    have Hb18:=hid b18;clear b18
    have Hb21:=hid b21;clear b21
    refine wpOpS_step rfl (fun K hK=>?_)
    go_simp
    refine hK _ _ ⟨by simpa using HL.out,hcl.step HL.out (by decide) ?_,?_,?_,?_,?_⟩
    ·intro d hd;cases hd
    ·simp only[gsetN la 6 _ HL.out (by decide)];rfl
    ·intro _;rfl
    ·exact fun e _=>bff Hb18.out (gneN HL.out e)
    ·exact fun e=>bff Hb21.out (gneN HL.out e)
   ·have j6:bitA la 6=true:=dep_at i3 rfl (j:=0) rfl rfl
    have b18:bitA la 18=false:=bny i2 (fun e=>(hcl 8 (hcl 18 e 8 (by decide)) 7 (by decide)))
    have b21:bitA la 21=false:=bny i2 (fun e=>(hcl 8 (hcl 18 (hcl 21 e 18 (by decide)) 8 (by decide)) 7 (by decide)))
    have e0:=hs0 b18
    subst e0
    have HL:=hid hl;clear hl
    have Hb18:=hid b18;clear b18
    have Hb21:=hid b21;clear b21
    refine wpOpS_step rfl (fun K hK=>?_)
    simp only[j6,selV_t]
    go_simp
    refine hK _ _ ⟨by simpa using HL.out,hcl.step HL.out (by decide) ?_,?_,?_,?_,?_⟩
    ·show ∀d∈[6],_;simp only[List.mem_singleton];rintro d rfl;exact j6
    ·simp only[gsetN la 7 _ HL.out (by decide),j6];rfl
    ·intro _;rfl
    ·exact fun e _=>bff Hb18.out (gneN HL.out e)
    ·exact fun e=>bff Hb21.out (gneN HL.out e)
   ·have j5:bitA la 5=true:=dep_at i3 rfl (j:=0) rfl rfl
    have j7:bitA la 7=true:=dep_at i3 rfl (j:=1) rfl rfl
    have b18:bitA la 18=false:=bny i2 (fun e=>(hcl 18 e 8 (by decide)))
    have b21:bitA la 21=false:=bny i2 (fun e=>(hcl 18 (hcl 21 e 18 (by decide)) 8 (by decide)))
    have e0:=hs0 b18
    subst e0
    have HL:=hid hl;clear hl
    have Hb18:=hid b18;clear b18
    have Hb21:=hid b21;clear b21
    refine wpOpS_step rfl (fun K hK=>?_)
    simp only[j5,j7,selV_t]
    go_simp
    refine hK _ _ ⟨by simpa using HL.out,hcl.step HL.out (by decide) ?_,?_,?_,?_,?_⟩
    ·show ∀d∈[5,7],_;simp only[List.mem_cons,List.not_mem_nil,or_false];rintro d (rfl | rfl) <;> first | exact j5 | exact j7
    ·simp only[gsetN la 8 _ HL.out (by decide),j5,j7];rfl
    ·intro _;rfl
    ·exact fun e _=>bff Hb18.out (gneN HL.out e)
    ·exact fun e=>bff Hb21.out (gneN HL.out e)
   ·have b18:bitA la 18=false:=bny i2 (fun e=>(hcl 10 (hcl 11 (hcl 12 (hcl 16 (hcl 17 (hcl 18 e 17 (by decide)) 16 (by decide)) 12 (by decide)) 11 (by decide)) 10 (by decide)) 9 (by decide)))
    have b21:bitA la 21=false:=bny i2 (fun e=>(hcl 10 (hcl 11 (hcl 12 (hcl 15 (hcl 21 e 15 (by decide)) 12 (by decide)) 11 (by decide)) 10 (by decide)) 9 (by decide)))
    have e0:=hs0 b18
    subst e0
    have HL:=hid hl;clear hl
    have Hb18:=hid b18;clear b18
    have Hb21:=hid b21;clear b21
    refine wpOpS_step rfl (fun K hK=>?_)
    go_simp
    refine hK _ _ ⟨by simpa using HL.out,hcl.step HL.out (by decide) ?_,?_,?_,?_,?_⟩
    ·intro d hd;cases hd
    ·simp only[gsetN la 9 _ HL.out (by decide)];rfl
    ·intro _;rfl
    ·exact fun e _=>bff Hb18.out (gneN HL.out e)
    ·exact fun e=>bff Hb21.out (gneN HL.out e)
   ·have j9:bitA la 9=true:=dep_at i3 rfl (j:=0) rfl rfl
    have b18:bitA la 18=false:=bny i2 (fun e=>(hcl 11 (hcl 12 (hcl 16 (hcl 17 (hcl 18 e 17 (by decide)) 16 (by decide)) 12 (by decide)) 11 (by decide)) 10 (by decide)))
    have b21:bitA la 21=false:=bny i2 (fun e=>(hcl 11 (hcl 12 (hcl 15 (hcl 21 e 15 (by decide)) 12 (by decide)) 11 (by decide)) 10 (by decide)))
    have e0:=hs0 b18
    subst e0
    have HL:=hid hl;clear hl
    have Hb18:=hid b18;clear b18
    have Hb21:=hid b21;clear b21
    refine wpOpS_step rfl (fun K hK=>?_)
    simp only[j9,selV_t]
    go_simp
    refine hK _ _ ⟨by simpa using HL.out,hcl.step HL.out (by decide) ?_,?_,?_,?_,?_⟩
    ·show ∀d∈[9],_;simp only[List.mem_singleton];rintro d rfl;exact j9
    ·simp only[gsetN la 10 _ HL.out (by decide),j9];rfl
    ·intro _;rfl
    ·exact fun e _=>bff Hb18.out (gneN HL.out e)
    ·exact fun e=>bff Hb21.out (gneN HL.out e)
   ·have j10:bitA la 10=true:=dep_at i3 rfl (j:=0) rfl rfl
    have b18:bitA la 18=false:=bny i2 (fun e=>(hcl 12 (hcl 16 (hcl 17 (hcl 18 e 17 (by decide)) 16 (by decide)) 12 (by decide)) 11 (by decide)))
    have b21:bitA la 21=false:=bny i2 (fun e=>(hcl 12 (hcl 15 (hcl 21 e 15 (by decide)) 12 (by decide)) 11 (by decide)))
    have e0:=hs0 b18
    subst e0
    have HL:=hid hl;clear hl
    have Hb18:=hid b18;clear b18
    have Hb21:=hid b21;clear b21
    refine wpOpS_step rfl (fun K hK=>?_)
    simp only[j10,selV_t]
    go_simp
    refine hK _ _ ⟨by simpa using HL.out,hcl.step HL.out (by decide) ?_,?_,?_,?_,?_⟩
    ·show ∀d∈[10],_;simp only[List.mem_singleton];rintro d rfl;exact j10
    ·simp only[gsetN la 11 _ HL.out (by decide),j10];rfl
    ·intro _;rfl
    ·exact fun e _=>bff Hb18.out (gneN HL.out e)
    ·exact fun e=>bff Hb21.out (gneN HL.out e)
   ·have j11:bitA la 11=true:=dep_at i3 rfl (j:=0) rfl rfl
    have b18:bitA la 18=false:=bny i2 (fun e=>(hcl 16 (hcl 17 (hcl 18 e 17 (by decide)) 16 (by decide)) 12 (by decide)))
    have b21:bitA la 21=false:=bny i2 (fun e=>(hcl 15 (hcl 21 e 15 (by decide)) 12 (by decide)))
    have e0:=hs0 b18
    subst e0
    have HL:=hid hl;clear hl
    have Hb18:=hid b18;clear b18
    have Hb21:=hid b21;clear b21
    refine wpOpS_step rfl (fun K hK=>?_)
    simp only[j11,selV_t]
    go_simp
    refine hK _ _ ⟨by simpa using HL.out,hcl.step HL.out (by decide) ?_,?_,?_,?_,?_⟩
    ·show ∀d∈[11],_;simp only[List.mem_singleton];rintro d rfl;exact j11
    ·simp only[gsetN la 12 _ HL.out (by decide),j11];rfl
    ·intro _;rfl
    ·exact fun e _=>bff Hb18.out (gneN HL.out e)
    ·exact fun e=>bff Hb21.out (gneN HL.out e)
   ·have HL:=hid hl;clear hl
    refine wpOpS_step rfl (fun K hK=>?_)
    go_simp
    refine hK _ _ ⟨by simpa using HL.out,hcl.step HL.out (by decide) ?_,?_,?_,?_,?_⟩
    ·intro d hd;cases hd
    ·simp only[gsetN la 13 _ HL.out (by decide)];rfl
    ·exact fun e18=>hs0 (gneN HL.out e18)
    ·exact fun e18 e21=>hs1 (gneN HL.out e18) (gneN HL.out e21)
    ·exact fun e21=>hs2 (gneN HL.out e21)
   ·have j13:bitA la 13=true:=dep_at i3 rfl (j:=0) rfl rfl
    have HL:=hid hl;clear hl
    refine wpOpS_step rfl (fun K hK=>?_)
    simp only[j13,selV_t]
    go_simp
    refine hK _ _ ⟨by simpa using HL.out,hcl.step HL.out (by decide) ?_,?_,?_,?_,?_⟩
    ·show ∀d∈[13],_;simp only[List.mem_singleton];rintro d rfl;exact j13
    ·simp only[gsetN la 14 _ HL.out (by decide),j13];rfl
    ·exact fun e18=>hs0 (gneN HL.out e18)
    ·exact fun e18 e21=>hs1 (gneN HL.out e18) (gneN HL.out e21)
    ·exact fun e21=>hs2 (gneN HL.out e21)
   ·have j12:bitA la 12=true:=dep_at i3 rfl (j:=0) rfl rfl
    have j14:bitA la 14=true:=dep_at i3 rfl (j:=1) rfl rfl
    have HL:=hid hl;clear hl
    refine wpOpS_step rfl (fun K hK=>?_)
    simp only[j12,j14,selV_t]
    go_simp
    refine hK _ _ ⟨by simpa using HL.out,hcl.step HL.out (by decide) ?_,?_,?_,?_,?_⟩
    ·show ∀d∈[12,14],_;simp only[List.mem_cons,List.not_mem_nil,or_false];rintro d (rfl | rfl) <;> first | exact j12 | exact j14
    ·simp only[gsetN la 15 _ HL.out (by decide),j12,j14];rfl
    ·exact fun e18=>hs0 (gneN HL.out e18)
    ·exact fun e18 e21=>hs1 (gneN HL.out e18) (gneN HL.out e21)
    ·exact fun e21=>hs2 (gneN HL.out e21)
   ·have j0:bitA la 0=true:=dep_at i3 rfl (j:=0) rfl rfl
    have j8:bitA la 8=true:=dep_at i3 rfl (j:=9) rfl rfl
    have j12:bitA la 12=true:=dep_at i3 rfl (j:=13) rfl rfl
    have b18:bitA la 18=false:=bny i2 (fun e=>(hcl 17 (hcl 18 e 17 (by decide)) 16 (by decide)))
    have b21:bitA la 21=false:=bny i2 (fun e=>(hcl 17 (hcl 18 (hcl 21 e 18 (by decide)) 17 (by decide)) 16 (by decide)))
    have e0:=hs0 b18
    subst e0
    have HL:=hid hl;clear hl
    have Hb18:=hid b18;clear b18
    have Hb21:=hid b21;clear b21
    refine wpOpS_step rfl (fun K hK=>?_)
    simp only[j0,selV_t]
    go_simp
    refine hK _ _ ⟨by simpa using HL.out,hcl.step HL.out (by decide) ?_,?_,?_,?_,?_⟩
    ·show ∀d∈[0,8,12],_;simp only[List.mem_cons,List.not_mem_nil,or_false];rintro d (rfl | rfl | rfl) <;> first | exact j0 | exact j8 | exact j12
    ·simp only[gsetN la 16 _ HL.out (by decide),j0,j8,j12];rfl
    ·intro _;rfl
    ·exact fun e _=>bff Hb18.out (gneN HL.out e)
    ·exact fun e=>bff Hb21.out (gneN HL.out e)
   ·have j16:bitA la 16=true:=dep_at i3 rfl (j:=0) rfl rfl
    have b18:bitA la 18=false:=bny i2 (fun e=>(hcl 18 e 17 (by decide)))
    have b21:bitA la 21=false:=bny i2 (fun e=>(hcl 18 (hcl 21 e 18 (by decide)) 17 (by decide)))
    have e0:=hs0 b18
    subst e0
    have HL:=hid hl;clear hl
    have Hb18:=hid b18;clear b18
    have Hb21:=hid b21;clear b21
    refine wpOpS_step rfl (fun K hK=>?_)
    simp only[j16,selV_t]
    go_simp
    refine hK _ _ ⟨by simpa using HL.out,hcl.step HL.out (by decide) ?_,?_,?_,?_,?_⟩
    ·show ∀d∈[16],_;simp only[List.mem_singleton];rintro d rfl;exact j16
    ·simp only[gsetN la 17 _ HL.out (by decide),j16];rfl
    ·intro _;rfl
    ·exact fun e _=>bff Hb18.out (gneN HL.out e)
    ·exact fun e=>bff Hb21.out (gneN HL.out e)
   ·have j17:bitA la 17=true:=dep_at i3 rfl (j:=0) rfl rfl
    have j8:bitA la 8=true:=dep_at i3 rfl (j:=1) rfl rfl
    have b18:bitA la 18=false:=i2
    have b21:bitA la 21=false:=bny i2 (fun e=>(hcl 21 e 18 (by decide)))
    have e0:=hs0 b18
    subst e0
    have HL:=hid hl;clear hl
    have Hb18:=hid b18;clear b18
    have Hb21:=hid b21;clear b21
    refine wpOpS_step rfl (fun K hK=>?_)
    simp only[j17,j8,selV_t]
    go_simp
    refine hK _ _ ⟨by simpa using HL.out,hcl.step HL.out (by decide) ?_,?_,?_,?_,?_⟩
    ·show ∀d∈[17,8],_;simp only[List.mem_cons,List.not_mem_nil,or_false];rintro d (rfl | rfl) <;> first | exact j17 | exact j8
    ·simp only[gsetN la 18 _ HL.out (by decide),j17,j8];rfl
    ·intro e;rw[gsetN la 18 18 HL.out (by decide),if_pos rfl] at e;cases e
    ·intro _ _;rfl
    ·exact fun e=>bff Hb21.out (gneN HL.out e)
   ·have j1:bitA la 1=true:=dep_at i3 rfl (j:=0) rfl rfl
    have j15:bitA la 15=true:=dep_at i3 rfl (j:=16) rfl rfl
    have j18:bitA la 18=true:=dep_at i3 rfl (j:=19) rfl rfl
    have HL:=hid hl;clear hl
    refine wpOpS_step rfl (fun K hK=>?_)
    simp only[j1,selV_t]
    go_simp
    refine hK _ _ ⟨by simpa using HL.out,hcl.step HL.out (by decide) ?_,?_,?_,?_,?_⟩
    ·show ∀d∈[1,15,18],_;simp only[List.mem_cons,List.not_mem_nil,or_false];rintro d (rfl | rfl | rfl) <;> first | exact j1 | exact j15 | exact j18
    ·simp only[gsetN la 19 _ HL.out (by decide),j1,j15];rfl
    ·exact fun e18=>hs0 (gneN HL.out e18)
    ·exact fun e18 e21=>hs1 (gneN HL.out e18) (gneN HL.out e21)
    ·exact fun e21=>hs2 (gneN HL.out e21)
   ·have j19:bitA la 19=true:=dep_at i3 rfl (j:=0) rfl rfl
    have HL:=hid hl;clear hl
    refine wpOpS_step rfl (fun K hK=>?_)
    simp only[j19,selV_t]
    go_simp
    refine hK _ _ ⟨by simpa using HL.out,hcl.step HL.out (by decide) ?_,?_,?_,?_,?_⟩
    ·show ∀d∈[19],_;simp only[List.mem_singleton];rintro d rfl;exact j19
    ·simp only[gsetN la 20 _ HL.out (by decide),j19];rfl
    ·exact fun e18=>hs0 (gneN HL.out e18)
    ·exact fun e18 e21=>hs1 (gneN HL.out e18) (gneN HL.out e21)
    ·exact fun e21=>hs2 (gneN HL.out e21)
   ·have j20:bitA la 20=true:=dep_at i3 rfl (j:=0) rfl rfl
    have j15:bitA la 15=true:=dep_at i3 rfl (j:=1) rfl rfl
    have j18:bitA la 18=true:=dep_at i3 rfl (j:=2) rfl rfl
    have b21:bitA la 21=false:=i2
    have e0:=hs1 j18 b21
    subst e0
    have y3:=X3.out
    have y4:=X4.out
    have HL:=hid hl;clear hl
    have Hb21:=hid b21;clear b21
    refine wpOpS_step rfl (fun K hK=>?_)
    simp only[j20,j15,selV_t]
    go_simp
    refine hK _ _ ⟨by simpa using HL.out,hcl.step HL.out (by decide) ?_,?_,?_,?_,?_⟩
    ·show ∀d∈[20,15,18],_;simp only[List.mem_cons,List.not_mem_nil,or_false];rintro d (rfl | rfl | rfl) <;> first | exact j20 | exact j15 | exact j18
    ·simp only[gsetN la 21 _ HL.out (by decide),j20,j15];rfl
    ·intro e;rw[gsetN la 21 18 HL.out (by decide),if_neg (by decide),j18] at e;cases e
    ·intro e1 e2;rw[gsetN la 21 21 HL.out (by decide),if_pos rfl] at e2;cases e2
    ·intro _;rfl
  case refine_2=>
   rintro la a wx ⟨hl,hcl,rfl,hs0,hs1,hs2⟩ hr
   have n0:bitA la 0=true:=by
    rw[goppN hl (by omega)]
    exact noneN hr (i:=0) (by decide) (by simp[Region.binds])
   have m0:la[0]?.getD false=true:=by simpa[bitA] using n0
   have n1:bitA la 1=true:=by
    rw[goppN hl (by omega)]
    exact noneN hr (i:=1) (by decide) (by simp[Region.binds])
   have m1:la[1]?.getD false=true:=by simpa[bitA] using n1
   have n2:bitA la 2=true:=by
    rw[goppN hl (by omega)]
    exact noneN hr (i:=2) (by decide) (by simp[Region.binds])
   have m2:la[2]?.getD false=true:=by simpa[bitA] using n2
   have n3:bitA la 3=true:=by
    rw[goppN hl (by omega)]
    exact noneN hr (i:=3) (by decide) (by simp[Region.binds,m2])
   have m3:la[3]?.getD false=true:=by simpa[bitA] using n3
   have n4:bitA la 4=true:=by
    rw[goppN hl (by omega)]
    exact noneN hr (i:=4) (by decide) (by simp[Region.binds,m3])
   have m4:la[4]?.getD false=true:=by simpa[bitA] using n4
   have n5:bitA la 5=true:=by
    rw[goppN hl (by omega)]
    exact noneN hr (i:=5) (by decide) (by simp[Region.binds,m4])
   have m5:la[5]?.getD false=true:=by simpa[bitA] using n5
   have n6:bitA la 6=true:=by
    rw[goppN hl (by omega)]
    exact noneN hr (i:=6) (by decide) (by simp[Region.binds])
   have m6:la[6]?.getD false=true:=by simpa[bitA] using n6
   have n7:bitA la 7=true:=by
    rw[goppN hl (by omega)]
    exact noneN hr (i:=7) (by decide) (by simp[Region.binds,m6])
   have m7:la[7]?.getD false=true:=by simpa[bitA] using n7
   have n8:bitA la 8=true:=by
    rw[goppN hl (by omega)]
    exact noneN hr (i:=8) (by decide) (by simp[Region.binds,m5,m7])
   have m8:la[8]?.getD false=true:=by simpa[bitA] using n8
   have n9:bitA la 9=true:=by
    rw[goppN hl (by omega)]
    exact noneN hr (i:=9) (by decide) (by simp[Region.binds])
   have m9:la[9]?.getD false=true:=by simpa[bitA] using n9
   have n10:bitA la 10=true:=by
    rw[goppN hl (by omega)]
    exact noneN hr (i:=10) (by decide) (by simp[Region.binds,m9])
   have m10:la[10]?.getD false=true:=by simpa[bitA] using n10
   have n11:bitA la 11=true:=by
    rw[goppN hl (by omega)]
    exact noneN hr (i:=11) (by decide) (by simp[Region.binds,m10])
   have m11:la[11]?.getD false=true:=by simpa[bitA] using n11
   have n12:bitA la 12=true:=by
    rw[goppN hl (by omega)]
    exact noneN hr (i:=12) (by decide) (by simp[Region.binds,m11])
   have m12:la[12]?.getD false=true:=by simpa[bitA] using n12
   have n13:bitA la 13=true:=by
    rw[goppN hl (by omega)]
    exact noneN hr (i:=13) (by decide) (by simp[Region.binds])
   have m13:la[13]?.getD false=true:=by simpa[bitA] using n13
   have n14:bitA la 14=true:=by
    rw[goppN hl (by omega)]
    exact noneN hr (i:=14) (by decide) (by simp[Region.binds,m13])
   have m14:la[14]?.getD false=true:=by simpa[bitA] using n14
   have n15:bitA la 15=true:=by
    rw[goppN hl (by omega)]
    exact noneN hr (i:=15) (by decide) (by simp[Region.binds,m12,m14])
   have m15:la[15]?.getD false=true:=by simpa[bitA] using n15
   have n16:bitA la 16=true:=by
    rw[goppN hl (by omega)]
    exact noneN hr (i:=16) (by decide) (by simp[Region.binds,m0,m2,m3,m4,m5,m6,m7,m8,m12])
   have m16:la[16]?.getD false=true:=by simpa[bitA] using n16
   have n17:bitA la 17=true:=by
    rw[goppN hl (by omega)]
    exact noneN hr (i:=17) (by decide) (by simp[Region.binds,m16,m0,m2,m3,m4,m5,m6,m7,m8,m12])
   have m17:la[17]?.getD false=true:=by simpa[bitA] using n17
   have n18:bitA la 18=true:=by
    rw[goppN hl (by omega)]
    exact noneN hr (i:=18) (by decide) (by simp[Region.binds,m17,m8,m0,m2,m3,m4,m5,m6,m7,m12])
   have m18:la[18]?.getD false=true:=by simpa[bitA] using n18
   have n19:bitA la 19=true:=by
    rw[goppN hl (by omega)]
    exact noneN hr (i:=19) (by decide) (by simp[Region.binds,m1,m0,m2,m3,m4,m5,m6,m7,m8,m9,m10,m11,m12,m13,m14,m15,m16,m17,m18])
   have m19:la[19]?.getD false=true:=by simpa[bitA] using n19
   have n20:bitA la 20=true:=by
    rw[goppN hl (by omega)]
    exact noneN hr (i:=20) (by decide) (by simp[Region.binds,m19,m0,m1,m2,m3,m4,m5,m6,m7,m8,m9,m10,m11,m12,m13,m14,m15,m16,m17,m18])
   have m20:la[20]?.getD false=true:=by simpa[bitA] using n20
   have n21:bitA la 21=true:=by
    rw[goppN hl (by omega)]
    exact noneN hr (i:=21) (by decide) (by simp[Region.binds,m20,m15,m18,m0,m1,m2,m3,m4,m5,m6,m7,m8,m9,m10,m11,m12,m13,m14,m16,m17])
   have m21:la[21]?.getD false=true:=by simpa[bitA] using n21
   have hfin:=hs2 n21
   simp only[n0,n1,n2,n3,n4,n5,n6,n7,n8,n9,n10,n11,n12,n13,n14,n15,n16,n17,n19,n20,selV_t]
   clear n0 m0 n1 m1 n2 m2 n3 m3 n4 m4 n5 m5 n6 m6 n7 m7 n8 m8 n9 m9 n10 m10 n11 m11 n12 m12 n13 m13 n14 m14 n15 m15 n16 m16 n17 m17 n18 m18 n19 m19 n20 m20 n21 m21 hr hcl hs0 hs1 hs2
   subst hfin
   clear X0 X1 X2 X3 X4
   go_wp2
   obtain⟨m9,q9,mm9,nx1,nx2⟩:=hfn.out
   exact⟨by simp,.inl ⟨_,_,rfl,run_takeDeferred m9,.nilIface,by simp[results,Tryz.results28,go_sem],rfl,_,_,_,q9,mm9,hnx.out,nx1,nx2⟩⟩
 case stop=>
  rintro D2 c pre W' _ h _
  exact h.elim
theorem undo_yes (h:Hq w B hb ab tb m av l tv tq ns trv tr ptv pt n) (i:Nat) (hi:i<pt.length) (T K:Nat) (hTK:pt.getD i (0,0)=(T,K)) (hT:T<=tr.length) (hK:K<=l.length) (htl:tr.length<=1000000) (hpl:pt.length<=1000000) (hent:∀e∈tr,e.1<l.length/\(0<=e.2/\e.2<=18446744073709551615)/\mayB e.2 l.length=true) :
  Calls Tryz.prog 28 #[.pointer (some ⟨hb,0,none⟩),.int .i64 (i:Int)] w fun e w'=>e=.returned .nilIface/\∃av' trv' ptv',Hq w' B hb ab tb m av' (atP l tr (T,K)) tv tq ns trv' (tr.take T) ptv' (pt.take (i+1)) n/\a_Mod (qfoot hb ab av trv ptv) w w'/\a_Nx w av av'/\a_Nx w trv trv'/\a_Nx w ptv ptv':=by
 obtain⟨ta,tc,rfl,htc,_,ht0,hta⟩:=own_slq h.tr
 cases ta with
 | none=>
  obtain⟨e1,e2⟩:=ht0 rfl
  have e3:tr=[]:=List.eq_nil_of_length_eq_zero e1
  subst e2 e3
  have e4:T=0:=by simpa using hT
  subst e4
  exact undo_nil h i hi K hTK hK hpl hent
 | some a=>
  have e1:=hta a rfl
  rw[e1] at h ⊢
  by_cases e2:tc=T
  ·have e3:T=tr.length:=by omega
   subst e2
   subst e3
   exact undo_full h i hi K hTK hK htl hpl hent
  ·exact undo_some h i hi T K hTK hT hK htl hpl hent e2
end
end Go.Proofs.YtbfbkmkjcekpaaaGreatDoor

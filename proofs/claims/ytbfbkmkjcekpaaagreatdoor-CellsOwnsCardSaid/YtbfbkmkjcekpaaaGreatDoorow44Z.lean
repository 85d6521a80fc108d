/- Package cells: Get. -/
import Derived.Test.YtbfbkmkjcekpaaaGreatDoorow43Z
import Derived.Test.YtbfbkmkjcekpaaaGreatDoorow42Z
import Derived.Test.YtbfbkmkjcekpaaaGreatDoorow31Z
namespace Go.Proofs.YtbfbkmkjcekpaaaGreatDoor
set_option maxRecDepth 100000
open Go.RowKit
theorem ret_grE {w:World} {fn:Func} {t s:Tmp} (hfn:fn.results=#[.cell t 25,.tmp s]) {tmps:Array Value} {q:Nat} {u0 u1 v1:Value} (h4:tmps[t]?.getD undef=.pointer (some ⟨q,0,none⟩)) (h5:tmps[s]?.getD undef=v1) (hq:w.heap[q]?=some (.cells #[u0,u1] 25)):(results fn tmps).run Tryz.prog w=.ok (.tuple #[.agg #[u0,u1],v1]) w:=by
 obtain⟨⟨z0,z1⟩,_⟩:=cblk2 hq
 simp[results,hfn,go_sem,h4,h5,z0,z1]
abbrev gr0:Obj:=.cells #[.slice none 0 0,.slice none 0 0] 25
section
variable {W:World} {Bh hb ab tb:Nat} {m:Int} {av:Value} {l:List Int} {htv:Value} {tq:Nat} {ns:List ByteArray} {trv ptv:Value} {n:Int} {V:Nat->Bool}
set_option maxHeartbeats 4000000 in
theorem get_ok (hH:Hp W Bh hb ab tb m av l htv tq ns trv ptv n) (hs:Snd l V) (hn:NsB l ns.length) {cv:Value} {cs:List Int} (hC:Ri W cv cs) (hcs:∀x∈cs,cellB l x=true) (hl:cs.length<=4096) (hT:∀TS,Rfi l cs TS->TS.length<=4096) :
  Calls Tryz.prog 13 #[.pointer (some ⟨hb,0,none⟩),cv] W fun e w'=>(∃nv rv avs TS ee,e=.returned (.tuple #[.agg #[nv,rv],.nilIface])/\Rfi l cs TS/\Good (rdG l ns cs TS)/\(∀x y:Nat,(ee x y=true↔Al (rdG l ns cs TS) (x:Int) (y:Int)))/\Og w' W.heap.size nv rv avs (trimF (quoF ee (rdG l ns cs TS))))/\Below W.heap.size W w':=by
 have hl6:l.length<=65536:=by
  have h1:=hH.ar.len
  have h2:=hH.ar.m2
  omega
 have hb0:=below_alloc W gr0
 have hx0:=hid (heap_alloc_new W gr0)
 have hck:=hid (checkedC_any (hH.below hb0).ar (hC.below hb0) (by omega))
 have hbf:badF l cs=[]:=by
  unfold badF badC
  rw[if_neg (by rw[ixOf_miss 0 (fun x=>!cellB l x) cs (fun j hj=>by simp only[hcs _ (getD_mem hj),Bool.not_true])];omega)]
 rw[hbf] at hck
 have hrg:∀x∈cs,0<=x/\x<(l.length:Int):=fun x hx=>by
  have h1:=hcs x hx
  unfold cellB at h1
  simp only[Bool.and_eq_true] at h1
  simpa[inB] using h1.1.1
 have hrd:=hid (fun w1 (hbb:Below W.heap.size W w1)=>read_any (hH.below hbb) hs hn (hC.below hbb) hrg (by omega))
 have hgd:=hid (fun TS (h:Rfi l cs TS)=>rd_good hs hn hl6 hH.tb.good h (hT TS h) hl)
 have hTl:=hid hT
 have HH:=hid hH
 have Hb0:=hid hb0
 obtain⟨⟨c0,_⟩,c5⟩:=(hH.below hb0).cells
 obtain⟨ca,cc,rfl,_⟩:=hC
 clear hH hs hn hcs hT hb0 hbf hrg
 go_enter Tryz.func13,Tryz.ntmps13
 go_wp2_with (first
  | (go_at_call 40;refine (self_some _ _).mono ?_;rintro e w2 ⟨rfl,hw⟩;replace hw:=hw.symm;subst hw)
  | (go_at_call 41;refine hck.out.mono ?_;rintro e w1 ⟨⟨ev,rfl,hev⟩,hb1⟩;have hev1:ev=.nilIface:=hev;subst hev1;have Hb1:=hid (Below.next Hb0.out hb1);have HX1:=hid ((hb1.block _ (by simp)).trans hx0.out);clear hev hb1)
  | (go_at_call 42;refine (hrd.out _ Hb1.out).mono ?_;rintro e w2 ⟨⟨nv,rv,TS,rfl,hG2,hF2⟩,hb2⟩;have HG2:=hid hG2;have HF2:=hid hF2;have hT2:=hTl.out TS hF2;have hnn:(rdG l ns cs TS).nodes.length=TS.length:=rd_nodes hF2;obtain⟨na,nc,rfl,_⟩:=hG2.1;obtain⟨ra,rc,rfl,_⟩:=hG2.2;rw[hnn];have Hb2:=hid (Below.next Hb1.out hb2);have HX2:=hid ((hb2.block _ (lt_of_block HX1.out)).trans HX1.out);have Hbx:=hid (below_alloc w2 (.cells #[.slice na TS.length nc,.slice ra (rdG l ns cs TS).roots.length rc] 25));have Hnx:=hid (heap_alloc_new w2 (.cells #[.slice na TS.length nc,.slice ra (rdG l ns cs TS).roots.length rc] 25));clear hG2 hF2 hb2))
 have hgq:=hgd.out TS HF2.out
 obtain⟨ee,hee⟩:=al_dec (rdG l ns cs TS)
 rw[hnn] at HG2
 refine (quot_good (HG2.out.below Hbx.out) (good_sized hgq) (chk_of_good hgq) ee hee).mono ?_
 rintro e w4 ⟨⟨nv',rv',avs,rfl,hO4⟩,hb4⟩
 have Hgq:=hid hgq
 have Hee:=hid hee
 have HO4:=hid hO4
 obtain⟨na4,nc4,rfl⟩:=hO4.nsl
 obtain⟨ra4,rc4,rfl,_⟩:=hO4.r
 have Hbf:=hid (Below.next Hb2.out (Below.next Hbx.out hb4))
 have HX4:=hid ((hb4.block _ (by have:=lt_of_block HX2.out;simp;omega)).trans ((Hbx.out.block _ (lt_of_block HX2.out)).trans HX2.out))
 obtain⟨⟨y0,y1⟩,yf0,yf1⟩:=cblk2 HX4.out
 have zx:=lt_of_block HX4.out
 have hz2:=lt_of_block HX2.out
 have hxe:=heap_setCell_same _ W.heap.size 1 _ _ (.slice ra4 (trimF (quoF ee (rdG l ns cs TS))).roots.length rc4) (heap_setCell_same w4 W.heap.size 0 _ _ (.slice na4 (trimF (quoF ee (rdG l ns cs TS))).nodes.length nc4) HX4.out)
 have Hxe:=hid hxe
 clear hO4 hb4 hgq hee hxe HG2 hnn
 have hqz:W.heap.size<(w2.alloc (.cells #[.slice na TS.length nc,.slice ra (rdG l ns cs TS).roots.length rc] 25)).heap.size:=by simp;omega
 have HOf:=hid (og_base (og_far (i:=1) (v:=.slice ra4 (trimF (quoF ee (rdG l ns cs TS))).roots.length rc4) (og_far (i:=0) (v:=.slice na4 (trimF (quoF ee (rdG l ns cs TS))).nodes.length nc4) HO4.out hqz) hqz) (Nat.le_of_lt hqz))
 clear HO4
 go_wp2
 exact bodyPost_ret (ret_grE Tryz.results13 (by rfl) (by rfl) Hxe.out) rfl ⟨⟨_,_,avs,TS,ee,rfl,HF2.out,Hgq.out,Hee.out,HOf.out⟩,(Hbf.out.setCell (p:=⟨W.heap.size,0,none⟩) (Nat.le_refl _) _).setCell (p:=⟨W.heap.size,1,none⟩) (Nat.le_refl _) _⟩
end
end Go.Proofs.YtbfbkmkjcekpaaaGreatDoor
namespace Go.Proofs.YtbfbkmkjcekpaaaGreatDoor
set_option maxRecDepth 100000
open Go.RowKit
abbrev oLa:Obj:=.cells #[.int .i64 0,.int .i64 1] 3
abbrev oLb (q:Nat):Obj:=.cells #[.int .i64 4,.string fSC,.int .i64 0,.slice (some ⟨q,0,none⟩) 2 2,.int .i64 1,.string ⟨#[]⟩,.int .i64 0,.slice none 0 0] 74
abbrev oLc:Obj:=.cells #[.int .i64 0] 3
structure Lp (w:World) (a b c:Nat):Prop where
 fa:w.heap[a]?=some oLa
 fb:w.heap[b]?=some (oLb a)
 fc:w.heap[c]?=some oLc
theorem lp_gra {w:World} {a b c:Nat} (h:Lp w a b c):Gra w (.slice (some ⟨b,0,none⟩) 2 2) (.slice (some ⟨c,0,none⟩) 1 1) gL (fun x=>if x=0 then .slice (some ⟨a,0,none⟩) 2 2 else .slice none 0 0):=by
 refine⟨⟨some ⟨b,0,none⟩,2,rfl,fun j hj=>?_⟩,ri_lit1 h.fc⟩
 have hj2:j=0∨j=1:=by
  have:j<2:=hj
  omega
 have hb:=h.fb
 rcases hj2 with rfl | rfl
 ·exact⟨b,0,rfl,by simp[World.cell?,hb,gL],by simp[World.cell?,hb,gL],by simp[World.cell?,hb,gL],by simp[World.cell?,hb],ri_lit2 h.fa⟩
 ·exact⟨b,0,rfl,by simp[World.cell?,hb,gL],by simp[World.cell?,hb,gL],by simp[World.cell?,hb,gL],by simp[World.cell?,hb],Ri.nil _⟩
set_option maxHeartbeats 800000 in
theorem loop_any (w:World) :
  Calls Tryz.prog 23 #[] w fun e w'=>(∃a b c,e=.returned (.agg #[.slice (some ⟨b,0,none⟩) 2 2,.slice (some ⟨c,0,none⟩) 1 1])/\Lp w' a b c/\w.heap.size<=a/\w.heap.size<=b/\w.heap.size<=c)/\Below w.heap.size w w':=by
 go_enter Tryz.func23,Tryz.ntmps23
 go_wp2
 obtain⟨x0,x1,x2,x3⟩:=alloc4 w (.cells #[.slice (some ⟨w.heap.size+1+1,0,none⟩) 2 2,.slice (some ⟨w.heap.size+1+1+1,0,none⟩) 1 1] 25) oLa (oLb (w.heap.size+1)) oLc
 exact bodyPost_ret (ret_gr1 Tryz.results23 (by rfl) x0) rfl ⟨⟨w.heap.size+1,w.heap.size+2,w.heap.size+3,rfl,⟨x1,x2,x3⟩,by omega,by omega,by omega⟩,Below.next (Below.next (Below.next (below_alloc _ _) (below_alloc _ _)) (below_alloc _ _)) (below_alloc _ _)⟩
section
variable {w:World} {B hb ab tb:Nat} {m:Int} {av:Value} {l:List Int} {tv:Value} {tq:Nat} {ns:List ByteArray} {trv ptv:Value} {n:Int}
set_option maxHeartbeats 800000 in
theorem htop_any (h:Hp w B hb ab tb m av l tv tq ns trv ptv n) :
  Calls Tryz.prog 24 #[.pointer (some ⟨hb,0,none⟩)] w fun e w'=>e=.returned (.int .i64 (l.length:Int))/\w'=w:=by
 obtain⟨⟨c0,_⟩,c5⟩:=h.cells
 have ht:=hid (top_any h.ar)
 clear h
 go_enter Tryz.func24,Tryz.ntmps24
 go_wp2_with (first
  | (go_at_call 40;refine (self_some _ _).mono ?_;rintro e w' ⟨rfl,rfl⟩)
  | (go_at_call 58;refine ht.out.mono ?_;rintro e w' ⟨rfl,rfl⟩))
 go_ret
 exact⟨rfl,rfl⟩
end
section
variable {w:World} {B hb ab tb:Nat} {m:Int} {av:Value} {tv:Value} {tq:Nat} {ns:List ByteArray}
theorem lput_any {a b c:Nat} (hH:Hp w B hb ab tb 20 (.slice none 0 0) [] tv tq [] (.slice none 0 0) (.slice none 0 0) 0) (hB:B<=w.heap.size) (hL:Lp w a b c) (ha:a≠hb/\a≠ab) (hb':b≠hb/\b≠ab) (hc:c≠hb/\c≠ab) :
  Calls Tryz.prog 10 #[.pointer (some ⟨hb,0,none⟩),.agg #[.slice (some ⟨b,0,none⟩) 2 2,.slice (some ⟨c,0,none⟩) 1 1]] w fun e w'=>(∃rb c' av' tb' tv' tq',e=.returned (.tuple #[.slice (some ⟨rb,0,none⟩) 1 c',.nilIface])/\w'.cell? ⟨rb,0,none⟩=some (.int .i64 0)/\Hp w' B hb ab tb' 20 av' lL1 tv' tq' [fSC] (.slice none 0 0) (.slice none 0 0) 0)/\Below B w w':=by
 have hGk:∀w',a_Mod (hb::a_foot ab (.slice none 0 0)) w w'->Gra w' (.slice (some ⟨b,0,none⟩) 2 2) (.slice (some ⟨c,0,none⟩) 1 1) gL (fun x=>if x=0 then .slice (some ⟨a,0,none⟩) 2 2 else .slice none 0 0):=fun w' h=>by
  have hn:∀k,k≠hb/\k≠ab->k∉hb::a_foot ab (.slice none 0 0):=fun k hk hx=>by
   rcases List.mem_cons.1 hx with e | hx
   ·exact hk.1 e
   ·rcases a_mem_foot.1 hx with e | e
    ·exact hk.2 e
    ·cases e
  exact lp_gra ⟨(h.block _ (lt_of_block hL.fa) (hn _ ha)).trans hL.fa,(h.block _ (lt_of_block hL.fb) (hn _ hb')).trans hL.fb,(h.block _ (lt_of_block hL.fc) (hn _ hc)).trans hL.fc⟩
 have hmay:=fun c hc=>gL_pm.may (c:=c) hc
 refine (put_ok hH hB hGk (good_sized gL_good) (chk_of_good gL_good) (by rw[gL_want];decide) (by rw[gL_met];decide) (by simpa using hmay)).mono ?_
 rintro e w' ⟨ao,c',av',tb',tv',tq',rfl,ho,hp,hm,_,_⟩
 rw[gL_ns] at hp
 have hw:([]:List Int)++putW [fSC] gL (metF gL) ([]:List Int).length=lL1:=gL_w
 rw[hw] at hp
 obtain⟨rb,rfl⟩:∃rb,ao=some ⟨rb,0,none⟩:=by
  rcases ho.2 with⟨_,hn0⟩ | ⟨g,cap,cur,e,_⟩
  ·exact absurd hn0 (by decide)
  ·injection e with e _ _
   exact⟨g,e⟩
 refine⟨⟨rb,c',av',tb',tv',tq',rfl,?_,hp⟩,hm.below (fun k hk=>?_) hB⟩
 ·rw[ho.cellAt 0 (by decide)]
  rfl
 ·rcases List.mem_cons.1 hk with rfl | hk
  ·exact hH.base
  ·rcases a_mem_foot.1 hk with rfl | hk
   ·exact hH.ar.base
   ·cases hk
theorem lbind_any {n:Int} (hH:Hp w B hb ab tb m av lL1 tv tq ns (.slice none 0 0) (.slice none 0 0) n) (hB:B<=w.heap.size) (n0:0<=n) (n1:n<=1000) :
  Calls Tryz.prog 25 #[.pointer (some ⟨hb,0,none⟩),.int .i64 4,.int .i64 0] w fun e w'=>e=.returned .nilIface/\Hp w' B hb ab tb m av lL2 tv tq ns (.slice none 0 0) (.slice none 0 0) (n+1)/\Below B w w':=by
 refine (bind0_left hH sndL1 4 0 (by decide +kernel) (by decide +kernel) (by decide) (by decide) n0 (by omega) (by rw[trL14];decide) (by rw[trL14,trL10];decide) (by rw[trL14,trL10];decide +kernel)).mono ?_
 rintro e w' ⟨rfl,hp,hm⟩
 rw[trL14,trL10,show lL1.set (valOf 32).toNat 11=lL2 by decide +kernel] at hp
 refine⟨rfl,hp,hm.below (fun k hk=>?_) hB⟩
 rcases List.mem_cons.1 hk with rfl | hk
 ·exact hH.base
 ·rcases a_mem_foot.1 hk with rfl | hk
  ·exact hH.ar.base
  ·exact (hH.ar.row hk).1
end
end Go.Proofs.YtbfbkmkjcekpaaaGreatDoor
namespace Go.Proofs.YtbfbkmkjcekpaaaGreatDoor
set_option maxRecDepth 100000
open Go.RowKit
section
variable {w:World} {B hb ab tb:Nat} {m:Int} {av:Value} {tv:Value} {tq:Nat} {trv ptv:Value} {n:Int}
theorem llook_any (hH:Hp w B hb ab tb m av lL2 tv tq [fSC] trv ptv n) :
  Calls Tryz.prog 14 #[.pointer (some ⟨hb,0,none⟩),.int .i64 3] w fun e w'=>(∃s ao k c,e=.returned (.tuple #[.agg #[.int .i64 4,.int .i64 1,.string s,.int .i64 0,.slice ao k c],.nilIface]))/\Below w.heap.size w w':=by
 refine (look_ok hH sndL2 nsL2 3 (by decide +kernel) (by decide)).mono ?_
 rintro e w' ⟨⟨ao,c,rfl,_⟩,hb'⟩
 rw[trL23,show tdK 11=4 by decide +kernel,show tdA 11=1 by decide +kernel,show tdN 11=0 by decide +kernel]
 exact⟨⟨_,_,_,_,rfl⟩,hb'⟩
theorem lget_any (hH:Hp w B hb ab tb m av lL2 tv tq [fSC] trv ptv n) {cv:Value} (hC:Ri w cv [0]) :
  Calls Tryz.prog 13 #[.pointer (some ⟨hb,0,none⟩),cv] w fun e w'=>(∃na nc ra rl rc,e=.returned (.tuple #[.agg #[.slice na 1 nc,.slice ra rl rc],.nilIface]))/\Below w.heap.size w w':=by
 refine (get_ok hH sndL2 nsL2 hC (fun x hx=>?_) (by decide) (fun TS h=>by rw[oneL h];decide)).mono ?_
 ·have e:x=0:=by simpa using hx
  subst e
  decide +kernel
 ·rintro e w' ⟨⟨nv,rv,avs,TS,ee,rfl,hF,hg,he,hO⟩,hb'⟩
  obtain⟨na,nc,rfl⟩:=hO.nsl
  obtain⟨ra,rc,rfl,_⟩:=hO.r
  rw[lenL hF hg he]
  exact⟨⟨_,_,_,_,_,rfl⟩,hb'⟩
end
set_option maxHeartbeats 8000000 in
theorem clives_any (w:World):Calls Tryz.prog 5 #[] w fun e w'=>e=.returned (.bool true)/\Below w.heap.size w w':=by
 have hnw:=hid (hnew_ok 20 w w.heap.size (Nat.le_refl _) (by decide) (by decide))
 go_enter Tryz.func5,Tryz.ntmps5
 go_wp2_with (first
  | (go_at_call 22;refine hnw.out.mono ?_;rintro e w1 ⟨⟨hb,ab,tb,tq,rfl,hH1,z1,z2,z3,z4⟩,hb1⟩;have HH1:=hid hH1;have Hb1:=hid hb1;have zb:=lt_of_block hH1.blk;have za:=hH1.ar.lt;clear hH1 hb1)
  | (go_at_call 23;refine (loop_any _).mono ?_;rintro e w2 ⟨⟨a,b,c,rfl,hL2,ya,yb,yc⟩,hb2⟩;have HL2:=hid hL2;have HH2:=hid (HH1.out.below hb2);have Hb2:=hid (Below.next Hb1.out hb2);have hpt:=hid (lput_any HH2.out Hb2.out.size hL2 ⟨by omega,by omega⟩ ⟨by omega,by omega⟩ ⟨by omega,by omega⟩);clear hL2 hb2)
  | (go_at_call 10;refine hpt.out.mono ?_;rintro e w3 ⟨⟨rb,rc,av3,tb3,tv3,tq3,rfl,r0,hH3⟩,hb3⟩;have HH3:=hid hH3;have Hb3:=hid (Hb2.out.trans hb3);have zr:=lt_of_cell r0;clear hH3 hb3)
  | (go_at_call 24;refine (htop_any HH3.out).mono ?_;rintro e w4 ⟨rfl,hw⟩;replace hw:=hw.symm;subst hw)
  | (go_at_call 25;refine (lbind_any HH3.out Hb3.out.size (by decide) (by decide)).mono ?_;rintro e w5 ⟨rfl,hH5,hb5⟩;have HH5:=hid hH5;have Hb5:=hid (Hb3.out.trans hb5);clear hH5 hb5)
  | (go_at_call 14;refine (llook_any HH5.out).mono ?_;rintro e w6 ⟨⟨ls,la,lk,lc,rfl⟩,hb6⟩;have HH6:=hid (HH5.out.below hb6);have Hb6:=hid (Below.next Hb5.out hb6);clear hb6))
 have hbc:=below_alloc w6 (.cells #[.int .i64 4,.int .i64 1,.string ls,.int .i64 0,.slice la lk lc] 45)
 have hbg:=Below.next hbc (below_alloc _ oLc)
 have hri:Ri ((w6.alloc (.cells #[.int .i64 4,.int .i64 1,.string ls,.int .i64 0,.slice la lk lc] 45)).alloc oLc) (.slice (some ⟨w6.heap.size+1,0,none⟩) 1 1) [0]:=ri_lit1 (by
  have h9:=heap_alloc_new (w6.alloc (.cells #[.int .i64 4,.int .i64 1,.string ls,.int .i64 0,.slice la lk lc] 45)) oLc
  rw[show (w6.alloc (.cells #[.int .i64 4,.int .i64 1,.string ls,.int .i64 0,.slice la lk lc] 45)).heap.size=w6.heap.size+1 by simp] at h9
  exact h9)
 have hcb:((w6.alloc (.cells #[.int .i64 4,.int .i64 1,.string ls,.int .i64 0,.slice la lk lc] 45)).alloc oLc).heap[w6.heap.size]?=some (.cells #[.int .i64 4,.int .i64 1,.string ls,.int .i64 0,.slice la lk lc] 45):=(Below.heap_alloc _ _ _ (by simp)).trans (heap_alloc_new w6 _)
 refine (lget_any (HH6.out.below hbg) hri).mono ?_
 rintro e w7 ⟨⟨na,nc,ra,rl,rc7,rfl⟩,hb7⟩
 have hc7:=(hb7.block _ (lt_of_block hcb)).trans hcb
 obtain⟨⟨c0,c1,c2,c3,c4⟩,_,cz⟩:=cel_cells hc7
 have Hb7:=hid (Below.next Hb6.out (Below.next hbg hb7))
 have Hb8:=hid (Below.next Hb7.out (below_alloc w7 (.cells #[.slice na 1 nc,.slice ra rl rc7] 25)))
 clear hb7 hcb hri hbg hbc hc7
 go_wp2
 go_ret
 exact⟨rfl,Hb8.out⟩
end Go.Proofs.YtbfbkmkjcekpaaaGreatDoor

/- Package cells: a fault of a lower layer, wrapped. -/
import Derived.Test.YtbfbkmkjcekpaaaGreatDoorTie
import Derived.Test.YtbfbkmkjcekpaaaGreatDoorCards
import Derived.ProofKit
import Derived.LaidMore
import Derived.LaidHandle
import Derived.OpenShut
import Derived.Stop.Joined
import Derived.Stop.LaidErr
import Derived.Deep.DeepCutAuto
import Derived.Test.YtbfbkmkjcekpaaaGreatDoorow46Z
import Derived.Test.YtbfbkmkjcekpaaaGreatDoorow10Z
import Derived.Test.YtbfbkmkjcekpaaaGreatDoorow42Z
import Derived.Test.YtbfbkmkjcekpaaaGreatDoorow41Z
import Derived.Test.YtbfbkmkjcekpaaaGreatDoorow44Z
import Derived.Test.YtbfbkmkjcekpaaaGreatDoorow16Z
namespace Go.Proofs.YtbfbkmkjcekpaaaGreatDoor
set_option maxRecDepth 100000
open Go.RowKit
def ErrC (w:World):Prop:=w.cell? ⟨0,0,none⟩=some (.iface 205 (.agg #[.pointer (some ⟨1,37,none⟩)]))
theorem ErrC.below {w w':World} (h:ErrC w) (hb:Below w.heap.size w w'):ErrC w':=(hb.cell (p:=⟨0,0,none⟩) (lt_of_cell h)).trans h
theorem one_cellC {w:World} {q:Nat} {u:Value} {T:TypeId} (h:w.heap[q]?=some (.cells #[u] T)):w.cell? ⟨q,0,none⟩=some u/\w.frozen? ⟨q,0,none⟩=false:=by
 constructor <;> simp[World.cell?,World.frozen?,h]
theorem asC_new (fb:Nat) (w:World) (n:Nat) (hn:n=w.heap.size) (hG:ErrC w) :
  Calls Tryz.prog 71 #[.iface 125 (.pointer (some ⟨fb,0,none⟩)),.iface 132 (.pointer (some ⟨n,0,none⟩))] (w.alloc (.cells #[.pointer none] 125)) fun e w'=>e=.returned (.bool true)/\Below w.heap.size w w'/\w'.heap[n]?=some (.cells #[.pointer (some ⟨fb,0,none⟩)] 125):=by
 subst hn
 have hG1:ErrC (w.alloc (.cells #[.pointer none] 125)):=hG.below (below_alloc w _)
 have hq:=heap_alloc_new w (.cells #[.pointer none] 125)
 obtain⟨c0,f0⟩:=one_cellC hq
 refine (as_hit ⟨fb,0,none⟩ ⟨w.heap.size,0,none⟩ _ (w.alloc (.cells #[.pointer none] 125)) hG1 c0 f0).mono ?_
 rintro e w' ⟨rfl,rfl⟩
 refine⟨rfl,?_,?_⟩
 ·refine Below.setCell ?_ (p:=⟨w.heap.size,0,none⟩) (Nat.le_refl _) _
  exact ((((((Below.refl _ w).alloc (Nat.le_refl _) _).alloc (by simp) _).alloc (by simp;omega) _).alloc (by simp;omega) _).alloc (by simp;omega) _)
 ·exact heap_setCell_same _ w.heap.size 0 _ _ _ ((Below.heap_alloc _ _ _ (by simp;omega)).trans ((Below.heap_alloc _ _ _ (by simp;omega)).trans ((Below.heap_alloc _ _ _ (by simp;omega)).trans ((Below.heap_alloc _ _ _ (by simp)).trans hq))))
theorem flt_cells {w:World} {q:Nat} {u0 u1 u2 u3:Value} {T:TypeId} (h:w.heap[q]?=some (.cells #[u0,u1,u2,u3] T)):(w.cell? ⟨q,0,none⟩=some u0/\w.cell? ⟨q,1,none⟩=some u1/\w.cell? ⟨q,2,none⟩=some u2/\w.cell? ⟨q,3,none⟩=some u3)/\(w.frozen? ⟨q,0,none⟩=false/\w.frozen? ⟨q,1,none⟩=false/\w.frozen? ⟨q,2,none⟩=false/\w.frozen? ⟨q,3,none⟩=false)/\q<w.heap.size:=by
 refine⟨⟨?_,?_,?_,?_⟩,⟨?_,?_,?_,?_⟩,lt_of_block h⟩ <;> simp[World.cell?,World.frozen?,h]
set_option maxHeartbeats 4000000 in
theorem wrapped_any (w:World) (hG:ErrC w) (c:Int) (fb:Nat) {c1 a1:Int} {s1 ev:Value} (hf:w.heap[fb]?=some (.cells #[.int .i64 c1,.int .i64 a1,s1,ev] 127)) :
  Calls Tryz.prog 34 #[.int .i64 c,.iface 125 (.pointer (some ⟨fb,0,none⟩))] w fun e w'=>(∃b,e=.returned (.iface 125 (.pointer (some ⟨b,0,none⟩)))/\w'.heap[b]?=some (.cells #[.int .i64 c,.int .i64 a1,.string ⟨#[]⟩,.iface 125 (.pointer (some ⟨fb,0,none⟩))] 127))/\Below w.heap.size w w':=by
 have hb0:=below_alloc w (.cells #[.int .i64 c,.int .i64 (-1),.string ⟨#[]⟩,.nilIface] 127)
 have hx0:=heap_alloc_new w (.cells #[.int .i64 c,.int .i64 (-1),.string ⟨#[]⟩,.nilIface] 127)
 have has:=hid (asC_new fb _ (w.heap.size+1) (by simp) (hG.below hb0))
 have zf:=lt_of_block hf
 have HF:=hid hf
 have Hb0:=hid hb0
 have HX0:=hid hx0
 clear hb0 hx0 hf
 go_enter Tryz.func34,Tryz.ntmps34
 go_wp2_with (go_at_call 71;refine has.out.mono ?_;rintro e w2 ⟨rfl,hb2,hq2⟩;have Hb2:=hid (Below.next Hb0.out hb2);have HX2:=hid ((hb2.block _ (lt_of_block HX0.out)).trans HX0.out);have HF2:=hid ((Hb2.out.block _ zf).trans HF.out);have HQ2:=hid hq2;obtain⟨k0,_⟩:=one_cellC hq2;have zk:=lt_of_cell k0;obtain⟨⟨f0,f1,f2,f3⟩,_,fz⟩:=flt_cells HF2.out;obtain⟨⟨x0,x1,x2,x3⟩,⟨y0,y1,y2,y3⟩,xz⟩:=flt_cells HX2.out;clear hb2 hq2)
 have ne1:fb≠w.heap.size:=by omega
 have ne2:w.heap.size≠w.heap.size+1:=by omega
 have hE:=heap_setCell_same _ w.heap.size 3 _ _ (.iface 125 (.pointer (some ⟨fb,0,none⟩))) (heap_setCell_same w2 w.heap.size 1 _ _ (.int .i64 a1) HX2.out)
 have hE':=heap_setCell_same _ w.heap.size 1 _ _ (.int .i64 a1) (heap_setCell_same w2 w.heap.size 3 _ _ (.iface 125 (.pointer (some ⟨fb,0,none⟩))) HX2.out)
 have e1:(if fb=w.heap.size then 1 else 0)=(0:Nat):=by simp[ne1]
 have ne3:w.heap.size+1≠w.heap.size:=by omega
 go_region
 go_wp2
 go_ret
 exact⟨⟨_,rfl,hE⟩,((Hb2.out.setCell (p:=⟨w.heap.size,1,none⟩) (Nat.le_refl _) _).setCell (p:=⟨w.heap.size,3,none⟩) (Nat.le_refl _) _).drew⟩
end Go.Proofs.YtbfbkmkjcekpaaaGreatDoor
namespace Go.Proofs.YtbfbkmkjcekpaaaGreatDoor
set_option maxRecDepth 100000
open Go.ChangeShapes Go.WideShapes Go.ChangeAt Go.RowKit
theorem globEt : Tryz.prog.globalNamed "errors.errorType" = some 0 := by kernel_rfl
theorem rtEt : (Tryz.prog.cutTypes.find? (·.1 == "internal/reflectlite.rtype")).map (·.2) = some 205 := by kernel_rfl
theorem oneEt:((List.range 254).filter fun t=>Tryz.prog.rowNamed t [101,114,114,111,114])=[37]:=by kernel_rfl
theorem sizeEt:Tryz.prog.types.size=254:=by kernel_rfl
theorem ready_of_laid {W:World} (h:laidMetH Tryz.prog Rows.cellsOwnsRow.laid W):ErrC W:=by
 have h' : laidMet Tryz.prog [] W ∧ handlesMet Tryz.prog [("errors.errorType", Rows.laid_errors_errorType)] W := h
 obtain⟨name,u,ty,e1,e2,e3,e4,e5⟩:=h'.2 _ (List.mem_singleton.2 rfl)
 have en:name=[101,114,114,111,114]:=(Option.some.inj e1).symm
 subst en
 obtain rfl:=Option.some.inj (rtEt.symm.trans e2)
 have hm:ty∈(List.range 254).filter fun t=>Tryz.prog.rowNamed t [101,114,114,111,114]:=List.mem_filter.2 ⟨List.mem_range.2 (by rw[←sizeEt];exact e3),e4⟩
 rw[oneEt] at hm
 obtain rfl:=List.mem_singleton.1 hm
 have hh:typeHandle Tryz.prog 37=.pointer (some ⟨1,37,none⟩):=by kernel_rfl
 rw[hh] at e5
 have:=World.var?_cell globEt e5 0
 show W.cell? _=_
 simpa using this
theorem door_met (os:Os) (args:Array Value):laidMetH Tryz.prog Rows.cellsOwnsRow.laid ((World.doorLaid Tryz.prog 16 os).forCall (fun _ _=>0) ⟨#[],args,[]⟩).memory:=
 laidMetH_of_parts3 (fuel:=8) (laidMet_of_run' 8 (by kernel_rfl) (by kernel_rfl)) (by kernel_rfl) (by kernel_rfl)
end Go.Proofs.YtbfbkmkjcekpaaaGreatDoor
namespace Go.Proofs.YtbfbkmkjcekpaaaGreatDoor
set_option maxRecDepth 100000
open Go.RowKit
theorem er_block {w:World} {b:Nat} {fs:Fs} (h:Er w (.iface 125 (.pointer (some ⟨b,0,none⟩))) fs):∃c a ev,w.heap[b]?=some (.cells #[.int .i64 c,.int .i64 a,.string ⟨#[]⟩,ev] 127):=by
 cases fs with
 | nil=>simp[Er] at h
 | cons x r=>
  obtain⟨_,b',ev,he,hb,_⟩:=h
  injection he with _ he
  injection he with he
  injection he with he
  injection he with he
  subst he
  exact⟨x.1,x.2,ev,hb⟩
set_option maxHeartbeats 4000000 in
theorem hput_bad (hb:Nat) {W:World} (hE:ErrC W) {nv rv:Value} {g:Gf} (hG:Gr W nv rv g) (hS:Sized g) (hck:one (chk g)≠[]) :
  Calls Tryz.prog 10 #[.pointer (some ⟨hb,0,none⟩),.agg #[nv,rv]] W fun e w'=>(∃b,e=.returned (.tuple #[.slice none 0 0,.iface 125 (.pointer (some ⟨b,0,none⟩))]))/\Below W.heap.size W w':=by
 have hb0:=below_alloc W (.cells #[nv,rv] 25)
 have hre:=hid (reach_bad (hG.below hb0) hS hck)
 have hwr:=hid (fun w1 (hb:Below W.heap.size W w1) (c:Int) (fb:Nat) (c1 a1:Int) (s1 ev:Value) h=>wrapped_any w1 (hE.below hb) c fb (c1:=c1) (a1:=a1) (s1:=s1) (ev:=ev) h)
 have Hb0:=hid hb0
 clear hb0 hS hck hG hE
 go_enter Tryz.func10,Tryz.ntmps10
 go_wp2_with (go_at_call 33;refine hre.out.mono ?_;rintro e w1 ⟨⟨b,rfl,he⟩,hb1⟩;have Hb1:=hid (Below.next Hb0.out hb1);have He:=hid (er_block he);clear he hb1)
 obtain⟨c1,a1,ev,hf⟩:=He.out
 have Hf:=hid hf
 clear hf He
 go_wp2_with (go_at_call 34;refine (hwr.out _ Hb1.out _ _ _ _ _ _ Hf.out).mono ?_;rintro e w2 ⟨⟨b2,rfl,_⟩,hb2⟩;have Hb2:=hid (Below.next Hb1.out hb2);clear hb2)
 go_ret2
 exact⟨⟨b2,rfl⟩,Hb2.out⟩
end Go.Proofs.YtbfbkmkjcekpaaaGreatDoor
namespace Go.Proofs.YtbfbkmkjcekpaaaGreatDoor
set_option maxRecDepth 100000
open Go.RowKit
section
variable {W:World} {B hb ab tb:Nat} {m:Int} {av:Value} {l:List Int} {tv:Value} {tq:Nat} {ns:List ByteArray} {trv ptv:Value} {n:Int}
abbrev SkP (hb tb gb:Nat) (v0 v1:Value) (w:World):Prop:=w.cell? ⟨hb,1,none⟩=some (.pointer (some ⟨tb,0,none⟩))/\w.cell? ⟨gb,0,none⟩=some v0/\w.cell? ⟨gb,1,none⟩=some v1
theorem skp_dr {hb tb gb:Nat} {v0 v1:Value} {w:World} (h:SkP hb tb gb v0 v1 w):SkP hb tb gb v0 v1 w.drew:=h
theorem skp_al {hb tb gb:Nat} {v0 v1:Value} {w:World} {o:Obj} (h:SkP hb tb gb v0 v1 w):SkP hb tb gb v0 v1 (w.alloc o):=
 ⟨((below_alloc w o).cell (p:=⟨hb,1,none⟩) (lt_of_cell h.1)).trans h.1,((below_alloc w o).cell (p:=⟨gb,0,none⟩) (lt_of_cell h.2.1)).trans h.2.1,((below_alloc w o).cell (p:=⟨gb,1,none⟩) (lt_of_cell h.2.2)).trans h.2.2⟩
theorem skp_set {hb tb gb q:Nat} {v0 v1 u:Value} {w:World} (h1:hb≠q) (h2:gb≠q) (h:SkP hb tb gb v0 v1 w):SkP hb tb gb v0 v1 (w.setCell ⟨q,0,none⟩ u):=
 ⟨(set_far _ _ h1).trans h.1,(set_far _ _ h2).trans h.2.1,(set_far _ _ h2).trans h.2.2⟩
set_option maxHeartbeats 8000000 in
theorem put_names {nv rv:Value} {g:Gf} (hE:ErrC W) (hH:Hp W B hb ab tb m av l tv tq ns trv ptv n) (hB:B<=W.heap.size) (hG:Gr W nv rv g) (hS:Sized g) (hck:one (chk g)=[]) (hna:1024<(wthJ ns g (metF g) (metF g).length).length) :
  Calls Tryz.prog 10 #[.pointer (some ⟨hb,0,none⟩),.agg #[nv,rv]] W fun e w'=>(∃b,e=.returned (.tuple #[.slice none 0 0,.iface 125 (.pointer (some ⟨b,0,none⟩))]))/\Below W.heap.size W w':=by
 have hg:=chk_good hck
 have hok:=met_ok hg
 have hml:=hok.le
 have hN:g.nodes.length<=4096:=hg.nodes
 have hb0:=below_alloc W (.cells #[nv,rv] 25)
 have hre:=hid (reach_good (hG.below hb0) hS hck)
 have HG:=hid hG
 have HH:=hid hH
 have Hg:=hid hg
 have Hok:=hid hok
 have HE:=hid hE
 have Hna:=hid hna
 obtain⟨na,nc,rfl,_⟩:=hG.1
 obtain⟨ra,rc,rfl,_⟩:=hG.2
 have hx0:=hid (heap_alloc_new W (.cells #[.slice na g.nodes.length nc,.slice ra g.roots.length rc] 25))
 have Hb0:=hid hb0
 clear hg hok hH hb0 hS hck hG hE hna
 go_enter Tryz.func10,Tryz.ntmps10
 go_wp2_with (go_at_call 33;refine hre.out.mono ?_;rintro e w1 ⟨⟨mo,mc,rfl,ho1⟩,hb1⟩;have Hb1:=hid (Below.next Hb0.out hb1);have Ho1:=hid ho1;have Hx1:=hid ((hb1.block _ (by simp)).trans hx0.out);clear ho1 hb1)
 obtain⟨⟨x0,x1⟩,_⟩:=cblk2 Hx1.out
 have HH1:=hid (HH.out.below Hb1.out)
 obtain⟨⟨_,h1,_⟩,zh⟩:=HH1.out.cells
 have zx:=lt_of_block Hx1.out
 have hri:Hid (Ri w1 (.slice mo (metF g).length mc) (metF g)):=ri_own Ho1.out
 have hwi:=hid (fun wq (hbq:Below w1.heap.size w1 wq)=>with_bad (HH1.out.tb.below hbq) (by have:=Hb1.out.size;have:=hbq.size;omega) (HG.out.below (Below.next Hb1.out hbq)) Hg.out (hri.out.below hbq) Hok.out.rng (by omega) Hna.out)
 generalize (metF g).length=ML at *
 go_cut [8,7] from 23 to 32 (fun s8 s7 wc=>∃bx fb s,s8=.pointer (some ⟨bx,0,none⟩)/\s7=.iface 125 (.pointer (some ⟨fb,0,none⟩))/\Hid (Below w1.heap.size w1 wc/\wc.heap[fb]?=some (n_faultObj 31 (-1) s)))
 case first=>
  go_region_held3 (fun w'=>w'.cell? ⟨hb,1,none⟩=some (.pointer (some ⟨tb,0,none⟩))/\w'.cell? ⟨W.heap.size,0,none⟩=some (.slice na g.nodes.length nc)/\w'.cell? ⟨W.heap.size,1,none⟩=some (.slice ra g.roots.length rc)) (first | (with_reducible exact⟨h1,x0,x1⟩) | (with_reducible exact skp_al ⟨h1,x0,x1⟩) | (with_reducible exact skp_dr ⟨h1,x0,x1⟩) | (with_reducible exact skp_dr (skp_al ⟨h1,x0,x1⟩)) | (with_reducible exact skp_set (by omega) (by omega) ⟨h1,x0,x1⟩))
   (first
    | (go_at_call 35;with_reducible refine (hwi.out _ (Below.refl _ w1).drew).mono ?_;rintro e w3 ⟨⟨fb,sn,rfl,hf⟩,hb3⟩;have HF:=hid hf;have HB5:=hid (Below.next (Below.refl _ w1).drew hb3);replace h1:=(HB5.out.cell (p:=⟨hb,1,none⟩) zh).trans h1;replace x0:=(HB5.out.cell (p:=⟨W.heap.size,0,none⟩) zx).trans x0;replace x1:=(HB5.out.cell (p:=⟨W.heap.size,1,none⟩) zx).trans x1;clear hb3 hf)
    | (go_at_call 35;with_reducible refine (hwi.out _ (below_alloc w1 (.cells #[.pointer none] 85)).drew).mono ?_;rintro e w3 ⟨⟨fb,sn,rfl,hf⟩,hb3⟩;have HF:=hid hf;obtain⟨bx3,bx4,bx5⟩:=box_cell hb3;have HB5:=hid (Below.next (below_alloc w1 (.cells #[.pointer none] 85)).drew hb3);replace h1:=(HB5.out.cell (p:=⟨hb,1,none⟩) zh).trans h1;replace x0:=(HB5.out.cell (p:=⟨W.heap.size,0,none⟩) zx).trans x0;replace x1:=(HB5.out.cell (p:=⟨W.heap.size,1,none⟩) zx).trans x1;clear hb3 hf))
  all_goals go_wp2_with fail
  all_goals go_meet
  all_goals first
   | exact⟨_,fb,sn,rfl,rfl,Below.next HB5.out (below_alloc w3 _),((below_alloc w3 _).block _ (lt_of_block HF.out)).trans HF.out⟩
   | exact⟨_,fb,sn,rfl,rfl,HB5.out.setCell (p:=⟨w1.heap.size,0,none⟩) (Nat.le_refl _) _,(Below.heap_setCell _ _ _ _ (by exact obj_ne HF.out bx3 (by decide))).trans HF.out⟩
 case rest=>
  obtain⟨bx,fb,sn,rfl,rfl,hW⟩:=hcut
  have hwr:=hid (wrapped_any wc (HE.out.below (Below.next Hb1.out hW.out.1)) 111 fb hW.out.2)
  have Hbw:=hid (Below.next Hb1.out hW.out.1)
  clear h1 x0 x1
  go_wp2_with (go_at_call 34;refine hwr.out.mono ?_;rintro e w9 ⟨⟨b9,rfl,_⟩,hb9⟩;have Hb9:=hid (Below.next Hbw.out hb9);clear hb9)
  go_ret2
  exact⟨⟨_,rfl⟩,Hb9.out⟩
end
end Go.Proofs.YtbfbkmkjcekpaaaGreatDoor
namespace Go.Proofs.YtbfbkmkjcekpaaaGreatDoor
set_option maxRecDepth 100000
open Go.RowKit
section
variable {W:World} {B hb ab tb:Nat} {m:Int} {av:Value} {l:List Int} {tv:Value} {tq:Nat} {ns:List ByteArray} {trv ptv:Value} {n:Int}
set_option maxHeartbeats 16000000 in
theorem hput_full {nv rv:Value} {g:Gf} (hE:ErrC W) (hH:Hp W B hb ab tb m av l tv tq ns trv ptv n) (hB:B<=W.heap.size) (hG:Gr W nv rv g) (hS:Sized g) (hck:one (chk g)=[])
  (hro:m<(l.length+wantJ g (metF g) (metF g).length:Int)) (hna:(wthJ ns g (metF g) (metF g).length).length<=1024) :
  Calls Tryz.prog 10 #[.pointer (some ⟨hb,0,none⟩),.agg #[nv,rv]] W fun e w'=>(∃b,e=.returned (.tuple #[.slice none 0 0,.iface 125 (.pointer (some ⟨b,0,none⟩))]))/\Below W.heap.size W w':=by
 have hg:=chk_good hck
 have hok:=met_ok hg
 have hml:=hok.le
 have hN:g.nodes.length<=4096:=hg.nodes
 have hb0:=below_alloc W (.cells #[nv,rv] 25)
 have hre:=hid (reach_good (hG.below hb0) hS hck)
 have HGr:=hid hG
 have HE:=hid hE
 have HH:=hid hH
 have Hg:=hid hg
 have Hok:=hid hok
 obtain⟨na,nc,rfl,_⟩:=hG.1
 obtain⟨ra,rc,rfl,_⟩:=hG.2
 have hx0:=hid (heap_alloc_new W (.cells #[.slice na g.nodes.length nc,.slice ra g.roots.length rc] 25))
 have Hb0:=hid hb0
 obtain⟨MT,hMT⟩:∃MT,MT=metF g:=⟨_,rfl⟩
 rw[←hMT] at hre Hok hml hna hro
 obtain⟨NS,hNS⟩:∃NS,NS=wthJ ns g MT MT.length:=⟨_,rfl⟩
 replace hNS:=hid hNS
 replace hMT:=hid hMT
 clear hg hok hG hH hb0 hS hck hE
 go_enter Tryz.func10,Tryz.ntmps10
 go_wp2_with (go_at_call 33;refine hre.out.mono ?_;rintro e w1 ⟨⟨mo,mc,rfl,ho1⟩,hb1⟩;have Hb1:=hid (Below.next Hb0.out hb1);have Ho1:=hid ho1;have Hx1:=hid ((hb1.block _ (by simp)).trans hx0.out);clear ho1 hb1)
 obtain⟨⟨x0,x1⟩,_⟩:=cblk2 Hx1.out
 have HH1:=hid (HH.out.below Hb1.out)
 obtain⟨⟨h0,h1,_⟩,zh⟩:=HH1.out.cells
 have zx:=lt_of_block Hx1.out
 have hri:Hid (Ri w1 (.slice mo MT.length mc) MT):=ri_own Ho1.out
 have hwi:=hid (fun wq (hbq:Below w1.heap.size w1 wq)=>with_okG (HH1.out.tb.below hbq) (by have:=Hb1.out.size;have:=hbq.size;omega) (HGr.out.below (Below.next Hb1.out hbq)) Hg.out (hri.out.below hbq) Hok.out.rng (by omega) hna)
 rw[←hNS.out] at hwi
 have hBz:B<=w1.heap.size:=by have:=Hb1.out.size;omega
 go_cut [8,7] from 24 to 32 (fun s8 s7 wc=>∃bx tb' tv' tq',s8=.pointer (some ⟨bx,0,none⟩)/\s7=.nilIface/\Hid (Wb w1 wc B bx tb tv tq NS tb' tv' tq'))
 case first=>
  go_region_held3 (fun w'=>w'.cell? ⟨hb,1,none⟩=some (.pointer (some ⟨tb,0,none⟩))/\w'.cell? ⟨W.heap.size,0,none⟩=some (.slice na g.nodes.length nc)/\w'.cell? ⟨W.heap.size,1,none⟩=some (.slice ra g.roots.length rc)) (first | exact⟨h1,x0,x1⟩ | exact⟨(set_far _ _ (by omega)).trans h1,(set_far _ _ (by omega)).trans x0,(set_far _ _ (by omega)).trans x1⟩ | go_keep)
   (first
    | (go_at_call 35;refine (hwi.out _ ?_).mono ?_;exact (Below.refl _ _).drew;rintro e w3 ⟨⟨tb',tv',tq',rfl,ht⟩,hb3⟩;have HE2:=hid (wb_call HH1.out.tb hBz (Below.refl _ _).drew hb3 ht);have HB5:=hid (Below.next (Below.refl _ _).drew hb3);clear ht;replace h1:=(HB5.out.cell (p:=⟨hb,1,none⟩) zh).trans h1;replace x0:=(HB5.out.cell (p:=⟨W.heap.size,0,none⟩) zx).trans x0;replace x1:=(HB5.out.cell (p:=⟨W.heap.size,1,none⟩) zx).trans x1;clear hb3)
    | (go_at_call 35;refine (hwi.out _ ?_).mono ?_;exact (below_alloc w1 _).drew;rintro e w3 ⟨⟨tb',tv',tq',rfl,ht⟩,hb3⟩;have HE2:=hid (wb_box HH1.out.tb hBz (below_alloc w1 _).drew (heap_alloc_new w1 _) (Nat.le_refl _) hb3 ht);obtain⟨bx3,bx4,bx5⟩:=box_cell hb3;have HB5:=hid (Below.next (below_alloc w1 _).drew hb3);clear ht;replace h1:=(HB5.out.cell (p:=⟨hb,1,none⟩) zh).trans h1;replace x0:=(HB5.out.cell (p:=⟨W.heap.size,0,none⟩) zx).trans x0;replace x1:=(HB5.out.cell (p:=⟨W.heap.size,1,none⟩) zx).trans x1;clear hb3))
  all_goals go_wp2_with fail
  all_goals go_meet
  all_goals exact⟨_,tb',tv',tq',rfl,rfl,HE2⟩
 case rest=>
  obtain⟨bx,tb',tv',tq',rfl,rfl,hW⟩:=hcut
  have Hbw:=hid (Below.next Hb1.out hW.out.b)
  obtain⟨⟨y0,y1⟩,_⟩:=cblk2 ((hW.out.b.block _ zx).trans Hx1.out)
  have zy:=lt_of_block ((hW.out.b.block _ zx).trans Hx1.out)
  obtain⟨⟨k0,_⟩,zk⟩:=(HH1.out.below hW.out.b).cells
  have hric:=hid (hri.out.below hW.out.b)
  have hwa:=hid (wanted_any (HGr.out.below Hbw.out) Hg.out hric.out Hok.out.rng (by omega))
  have hwle:=want_le Hg.out (met:=MT) MT.length
  have hrl:g.roots.length<=4096:=Hg.out.roots
  have HHc:=hid (HH1.out.below hW.out.b)
  have hlm:=HH.out.ar.len
  obtain⟨CT,hCT⟩:∃CT,CT=wantJ g MT MT.length:=⟨_,rfl⟩
  rw[←hCT] at hwa hro hwle
  have hci:¬(CT:Int)=0:=by omega
  have hal:=hid (fun w4 (hb4:Below wc.heap.size wc w4)=>alloc_full (HHc.out.below hb4).ar (CT:Int) (by omega) (by omega))
  clear hro hna hCT hlm
  have d0:((CT:Int) == 0)=false:=by simpa using hci
  go_wp2_with (first
   | (go_at_call 36;refine hwa.out.mono ?_;rintro e w4 ⟨rfl,hb4⟩;have Hb4:=hid hb4;obtain⟨⟨j0,_⟩,zj⟩:=(HHc.out.below hb4).cells;clear hb4)
   | (go_at_call 37;refine (hal.out _ Hb4.out).mono ?_;rintro e w5 ⟨rfl,hw5⟩;have HF5:Hid (w5.heap[w4.heap.size]?=some (faultAtObj 22 (CT:Int))):=(by rw[hw5];exact heap_alloc_new w4 _);have Hb5:Hid (Below W.heap.size W w5):=(by rw[hw5];exact Below.next (Below.next Hbw.out Hb4.out) (below_alloc w4 _));have hwr:=hid (wrapped_any w5 (HE.out.below Hb5.out) 112 w4.heap.size HF5.out);clear hw5)
   | (go_at_call 34;refine hwr.out.mono ?_;rintro e w9 ⟨⟨b9,rfl,_⟩,hb9⟩;have Hb9:=hid (Below.next Hb5.out hb9);clear hb9))
  go_ret2
  exact⟨⟨_,rfl⟩,Hb9.out⟩
end
end Go.Proofs.YtbfbkmkjcekpaaaGreatDoor
namespace Go.Proofs.YtbfbkmkjcekpaaaGreatDoor
set_option maxRecDepth 100000
open Go.RowKit
def csL (b n:Nat):List Int:=(List.range n).map (fun i=>((b+i:Nat):Int))
def nsP (ns:List ByteArray) (g:Gf):List ByteArray:=wthJ ns g (metF g) (metF g).length
def wdP (l:List Int) (ns:List ByteArray) (g:Gf):List Int:=l++putW (nsP ns g) g (metF g) l.length
theorem wthJ_ge (ns:List ByteArray) (g:Gf) (met:List Int):∀j,ns.length<=(wthJ ns g met j).length
 | 0=>Nat.le_refl _
 | j+1=>by
  have h1:=wthJ_ge ns g met j
  show _<=(wth1 _ _).length
  unfold wth1
  split
  ·exact h1
  ·simp
   omega
theorem names_in {g:Gf} (hg:Good g) (ns:List ByteArray):∀x∈metF g,(g.nodes.getD x.toNat nd0).kind=2∨(g.nodes.getD x.toNat nd0).kind=4->inL (nsP ns g) (g.nodes.getD x.toNat nd0).name=true:=fun x hx hk=>by
 have hr:=(met_ok hg).rng x hx
 have hgd:=hg.node (g.nodes.getD x.toNat nd0) (by
  have:x.toNat<g.nodes.length:=by omega
  simp[List.getD,this])
 have hs:(g.nodes.getD x.toNat nd0).name.size≠0:=by
  have h1:goodS (g.nodes.getD x.toNat nd0).name=true:=by
   unfold goodNd at hgd
   rcases hk with k | k
   ·rw[if_neg (by omega),if_pos k] at hgd
    simp only[Bool.and_eq_true] at hgd
    exact hgd.1.1
   ·rw[if_neg (by omega),if_neg (by omega),if_neg (by omega),if_pos k] at hgd
    simp only[Bool.and_eq_true] at hgd
    exact hgd.1.1.1.1
  have:=goodS_size h1
  omega
 have h2:=wthJ_in ns g (metF g) (pos_lt hx) (by rw[pos_at hx];exact hs)
 rw[pos_at hx] at h2
 exact h2
end Go.Proofs.YtbfbkmkjcekpaaaGreatDoor

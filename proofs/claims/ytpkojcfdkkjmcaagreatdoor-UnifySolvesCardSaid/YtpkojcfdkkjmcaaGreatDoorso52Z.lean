/- UnifyBound where it asks: walked. -/
import Derived.Deep.RegionHeld3
import Derived.Deep.DeepCutAuto
import Derived.Test.YtpkojcfdkkjmcaaGreatDoorso50Z
import Derived.Test.YtpkojcfdkkjmcaaGreatDoorso51Z
import Derived.Test.YtpkojcfdkkjmcaaGreatDoorso09Z
import Derived.Test.YtpkojcfdkkjmcaaGreatDoorso37Z
import Derived.Test.YtpkojcfdkkjmcaaGreatDoorso11Z
namespace Go.Proofs.YtpkojcfdkkjmcaaGreatDoor
set_option maxRecDepth 100000
open Go.RowKit Go.Maps
theorem fewS0 (g:Gf):Few (putHs hs0 (gAll g)):=⟨by show (0:Int)<=0;decide,by show (0:Int)<=_;decide,by show 0<=_;omega,by show 0<=_;omega⟩
abbrev grO (nv rv:Value):Obj:=.cells #[nv,rv] 38
end Go.Proofs.YtpkojcfdkkjmcaaGreatDoor
namespace Go.Proofs.YtpkojcfdkkjmcaaGreatDoor
set_option maxRecDepth 100000
open Go.RowKit Go.Maps
theorem nosol_nil {ns:List Nd}:¬NoSol ns []:=fun h=>h _ (Un.init ns).done.1 (fun p hp=>(by cases hp))
theorem gall_good {g:Gf} (hc:one (chk g)=[]):Good (gAll g):=by
 have hg:=chk_good hc
 have hn:=hg.nodes
 exact⟨hg.nodes,by rw[gAll_len];omega,hg.node,fun x hx=>by
  obtain⟨k,hk,rfl⟩:=List.mem_map.1 hx
  have:=List.mem_range.1 hk
  show 0<=(k:Int)/\(k:Int)<(g.nodes.length:Int)
  omega⟩
theorem gall_chk {g:Gf} (hc:one (chk g)=[]) {i j:Nat} (hi:i<g.nodes.length) (hj:j<g.nodes.length):chkS (gAll g) [((i:Int),(j:Int))]=[]/\chkS (gAll g) []=[]:=by
 have h1:=chk_of_good (gall_good hc)
 have h2:badP (gAll g).nodes.length ((i:Int),(j:Int))=false:=by
  have e:(gAll g).nodes.length=g.nodes.length:=rfl
  rw[e]
  simp[badP,strange]
  omega
 unfold chkS
 rw[if_pos h1,if_pos h1]
 refine⟨?_,by simp[ixOf]⟩
 simp[ixOf,h2]
section
variable {W w w4 w5:World} {B C hb q n hc p:Nat} {m:Int} {s s2:Hst} {X:Nat->Prop}
theorem b2_of (h:Bs W B hb q n m s w4) (h2:Bs w4 C hc p n m s2 w5) (hX:∀k,X k->k<w5.heap.size/\¬Tyh w5 k):B2 W m hb s hc s2 X w5:=by
 obtain⟨F,f1,f2⟩:=h.h
 obtain⟨G,g1,g2⟩:=h2.h
 have hb5:=h2.b
 have hz:=hb5.size
 have hW:=h.b.size
 exact⟨Below.next h.b hb5,⟨B,C,_,_,(f1.lt.below hb5).sharp,g1.sharp,fun k hk=>⟨hk.2.2,(f2 k hk.1.1).1,fun hx=>(hX k hx).2 hk.2.1,fun hG=>by have:=(g2 k hG.1).1;have:=hk.1.2;omega⟩,fun k hk=>⟨hk.2.2,Nat.le_trans hW (g2 k hk.1).1,fun hx=>(hX k hx).2 hk.2.1⟩,Nat.le_trans h.B2 hz,h2.B2⟩,fun k hk=>(hX k hk).1,h.sn,h.nd,h.l4,h2.sn,h2.nd,h2.l4⟩
def Xo (w:World) (k:Nat):Prop:=k<w.heap.size/\¬Tyh w k
theorem xo_of {w:World} {k:Nat} {cs:Array Value} {T:TypeId} (h:w.heap[k]?=some (.cells cs T)) (hT:T=3∨T=38):Xo w k:=by
 refine⟨lt_of_block h,fun⟨cs',T',e,ht⟩=>?_⟩
 rw[h] at e
 injection e with e
 injection e with _ e
 subst e
 rcases hT with rfl | rfl <;> revert ht <;> decide
theorem ri_cells {w:World} {q n c:Nat} (h:∀k,k<n->w.cell? ⟨q,k,none⟩=some (.int .i64 (k:Int))):Ri w (.slice (some ⟨q,0,none⟩) n c) ((List.range n).map (fun (k:Nat)=>(k:Int))):=by
 refine⟨some ⟨q,0,none⟩,c,by simp,fun j hj=>⟨q,0,rfl,?_⟩⟩
 have hj':j<n:=by simpa using hj
 rw[Nat.zero_add,h j hj']
 simp[List.getD,hj']
end
end Go.Proofs.YtpkojcfdkkjmcaaGreatDoor
namespace Go.Proofs.YtpkojcfdkkjmcaaGreatDoor
set_option maxRecDepth 100000
open Go.RowKit Go.Maps
theorem nosol_swap {ns:List Nd} {i j:Nat}:NoSol ns [(i,j)]↔NoSol ns [(j,i)]:=
 ⟨fun h R hR hp=>h R hR (fun p hq=>by
  have e:p=(i,j):=by simpa using hq
  rw[e]
  exact hR.symm _ _ (hp (j,i) (by simp))),fun h R hR hp=>h R hR (fun p hq=>by
  have e:p=(j,i):=by simpa using hq
  rw[e]
  exact hR.symm _ _ (hp (i,j) (by simp)))⟩
structure Ry (g:Gf) (i j:Nat) (s1:Hst):Prop where
 e:∃E,Un (utN (wdP [] [] (gAll g)) (nsP [] (gAll g))) [(utI (wdP [] [] (gAll g)) i,utI (wdP [] [] (gAll g)) j)] E []/\Wf (wdP [] [] (gAll g)) (nsP [] (gAll g)).length E s1.l
 ns:s1.ns=nsP [] (gAll g)
theorem Ry.swap {g:Gf} {i j:Nat} {s1:Hst} (h:Ry g i j s1):Ry g j i s1:=by
 obtain⟨E,h1,h2⟩:=h.e
 refine⟨⟨E,h1.other (fun R hR=>⟨fun hp p hq=>?_,fun hp p hq=>?_⟩),h2⟩,h.ns⟩
 ·have e:p=(utI (wdP [] [] (gAll g)) j,utI (wdP [] [] (gAll g)) i):=by simpa using hq
  rw[e]
  exact hR.symm _ _ (hp (utI (wdP [] [] (gAll g)) i,utI (wdP [] [] (gAll g)) j) (by simp))
 ·have e:p=(utI (wdP [] [] (gAll g)) i,utI (wdP [] [] (gAll g)) j):=by simpa using hq
  rw[e]
  exact hR.symm _ _ (hp (utI (wdP [] [] (gAll g)) j,utI (wdP [] [] (gAll g)) i) (by simp))
section
variable {W w:World} {hb hc:Nat} {m:Int} {s1 s2:Hst} {X:Nat->Prop} {g:Gf} {i j:Nat}
theorem lay_cell (hpm:PmC (nsP [] (gAll g)) (gAll g) (metF (gAll g)) 0) (hi:i<g.nodes.length):cellB (putHs hs0 (gAll g)).l (i:Int)=true:=by
 have hcl:=csl_cell (l:=[]) (ns:=[]) (g:=gAll g) hpm
 rw[gAll_len] at hcl
 exact hcl _ (List.mem_map.2 ⟨i,List.mem_range.2 hi,by simp⟩)
theorem B2.yes (h:B2 W m hb (putHs hs0 (gAll g)) hc s2 X w) (hpm:PmC (nsP [] (gAll g)) (gAll g) (metF (gAll g)) 0) (hi:i<g.nodes.length) (hj:j<g.nodes.length) (hN:¬NoSol (gAll g).nodes [(i,j)]) :
  Calls Tryz.prog 38 #[.pointer (some ⟨hb,0,none⟩),.int .i64 (i:Int),.int .i64 (j:Int)] w fun e w'=>∃s1,e=.returned (.tuple #[.bool true,.nilIface])/\Ry g i j s1/\B2 W m hb s1 hc s2 X w'/\(∀k,X k->w'.heap[k]?=w.heap[k]?):=by
 obtain⟨⟨V,hV⟩,hn⟩:=h.sn
 have hno:=solves_no (g:=g) hV hn h.l4 hpm hi hj
 refine (h.unify (fewS0 g) (lay_cell hpm hi) (lay_cell hpm hj)).mono ?_
 rintro e w' ⟨ok,s1,rfl,hy,hf,hns,hB,hx⟩
 cases ok with
 | false=>exact absurd (hno.1 (hf rfl).2) hN
 | true=>
  obtain⟨E,n,hR⟩:=hy rfl
  exact⟨s1,rfl,⟨⟨E,hR.un,hR.wf⟩,hns⟩,hB,hx⟩
theorem B2.no (h:B2 W m hb (putHs hs0 (gAll g)) hc s2 X w) (hpm:PmC (nsP [] (gAll g)) (gAll g) (metF (gAll g)) 0) (hi:i<g.nodes.length) (hj:j<g.nodes.length) (hN:NoSol (gAll g).nodes [(i,j)]) :
  Calls Tryz.prog 38 #[.pointer (some ⟨hb,0,none⟩),.int .i64 (i:Int),.int .i64 (j:Int)] w fun e w'=>e=.returned (.tuple #[.bool false,.nilIface])/\B2 W m hb (putHs hs0 (gAll g)) hc s2 X w'/\(∀k,X k->w'.heap[k]?=w.heap[k]?):=by
 obtain⟨⟨V,hV⟩,hn⟩:=h.sn
 have hno:=solves_no (g:=g) hV hn h.l4 hpm hi hj
 refine (h.unify (fewS0 g) (lay_cell hpm hi) (lay_cell hpm hj)).mono ?_
 rintro e w' ⟨ok,s1,rfl,hy,hf,hns,hB,hx⟩
 cases ok with
 | false=>
  obtain⟨rfl,_⟩:=hf rfl
  exact⟨rfl,hB,hx⟩
 | true=>
  obtain⟨E,n,hR⟩:=hy rfl
  have hdone:=hR.un.done
  exact (hno.2 hN _ hdone.1 hdone.2.1).elim
theorem B2.good (h:B2 W m hb s1 hc s2 X w):∀z∈s1.ns,n_goodS z=true:=by
 obtain⟨B,C,F,G,⟨ab,tb,av,tv,tq,trv,ptv,hq,_⟩,_⟩:=h.h
 exact hq.hp.tb.good
theorem B2.getY (h:B2 W m hb s1 hc s2 X w) (hR:Ry g i j s1) (h0:SndN (wdP [] [] (gAll g)) (nsP [] (gAll g)).length) (hl0:(wdP [] [] (gAll g)).length<=4000) (hpm:PmC (nsP [] (gAll g)) (gAll g) (metF (gAll g)) 0) (hz:g.nodes.length<=2000) (hi:i<g.nodes.length) (hj:j<g.nodes.length) {t:Gf} (ht:LeastS (gAll g) [((i:Int),(j:Int))] t) {cv:Value} (hC:Ri w cv ((List.range g.nodes.length).map (fun (k:Nat)=>(k:Int)))) :
  Calls Tryz.prog 21 #[.pointer (some ⟨hb,0,none⟩),cv] w fun e w'=>(∃nv rv avs,e=.returned (.tuple #[.agg #[nv,rv],.nilIface])/\Og w' w.heap.size nv rv avs t)/\Below w.heap.size w w':=by
 obtain⟨⟨V,hV⟩,hn⟩:=h0
 obtain⟨E,hU,hW⟩:=hR.e
 have hg:=h.good
 rw[hR.ns] at hg
 have hlen:g.nodes.length<=(wdP [] [] (gAll g)).length:=Nat.le_of_not_lt (fun hlt=>by
  have:=(lay_trm hpm hlt).2.1
  omega)
 refine (h.get hC (fun x hx=>?_) (by simp;omega)).mono ?_
 ·obtain⟨k,hk,rfl⟩:=List.mem_map.1 hx
  rw[hW.cel]
  exact lay_cell hpm (List.mem_range.1 hk)
 ·rintro e w' ⟨⟨nv,rv,avs,TS,ee,rfl,hT,hgd,he,ho⟩,hb'⟩
  rw[hR.ns] at hgd he ho
  rw[solves_eq hV hn hl0 hg hpm hz hlen hi hj hU hW rfl hT hgd he ht] at ho
  exact⟨⟨nv,rv,avs,rfl,ho⟩,hb'⟩
theorem B2.getN (h:B2 W m hb (putHs hs0 (gAll g)) hc s2 X w) (hpm:PmC (nsP [] (gAll g)) (gAll g) (metF (gAll g)) 0) (hz:g.nodes.length<=2000) {t:Gf} (ht:LeastS (gAll g) [] t) {cv:Value} (hC:Ri w cv ((List.range g.nodes.length).map (fun (k:Nat)=>(k:Int)))) :
  Calls Tryz.prog 21 #[.pointer (some ⟨hb,0,none⟩),cv] w fun e w'=>(∃nv rv avs,e=.returned (.tuple #[.agg #[nv,rv],.nilIface])/\Og w' w.heap.size nv rv avs t)/\Below w.heap.size w w':=by
 obtain⟨⟨V,hV⟩,hn⟩:=h.sn
 have hg:=h.good
 have hlen:g.nodes.length<=(wdP [] [] (gAll g)).length:=Nat.le_of_not_lt (fun hlt=>by
  have:=(lay_trm hpm hlt).2.1
  omega)
 refine (h.get hC (fun x hx=>?_) (by simp;omega)).mono ?_
 ·obtain⟨k,hk,rfl⟩:=List.mem_map.1 hx
  exact lay_cell hpm (List.mem_range.1 hk)
 ·rintro e w' ⟨⟨nv,rv,avs,TS,ee,rfl,hT,hgd,he,ho⟩,hb'⟩
  have ho':Og w' w.heap.size nv rv avs (trimF (quoF ee (rdG (wdP [] [] (gAll g)) (nsP [] (gAll g)) ((List.range g.nodes.length).map (fun (k:Nat)=>(k:Int))) TS))):=ho
  rw[solves_nil hV hn h.l4 hg hpm hz hlen rfl hT hgd he ht] at ho'
  exact⟨⟨nv,rv,avs,rfl,ho'⟩,hb'⟩
end
end Go.Proofs.YtpkojcfdkkjmcaaGreatDoor
namespace Go.Proofs.YtpkojcfdkkjmcaaGreatDoor
set_option maxRecDepth 100000
open Go.RowKit Go.Maps
theorem Hs.graph {w w':World} {B hb:Nat} {m:Int} {F:Nat->Prop} {s:Hst} {q:Nat} {cs:Array Value} (h:Hs w B hb m F s) (hq:w.heap[q]?=some (.cells cs 38)) (hm:Mo (fun k=>k=q) w w'):Hs w' B hb m F s:=by
 obtain⟨ab,tb,av,tv,tq,trv,ptv,hH,hf⟩:=h
 have ha:a_Mod [q] w w':=⟨hm.os,hm.tape,hm.output,hm.size,fun k hk hx=>hm.block k hk (fun e=>hx (by simp[e]))⟩
 refine⟨ab,tb,av,tv,tq,trv,ptv,hH.keep ha (fun k hk=>?_),hf⟩
 obtain rfl:k=q:=by simpa using hk
 refine⟨fun hx=>?_,fun hx=>?_⟩
 ·rcases mem_qfoot.1 hx with e | hx | hx | hx
  ·rw[e] at hq
   exact obj_ne hq hH.hp.blk (by decide) rfl
  ·obtain⟨cs',T,e,hT⟩:=hH.aty hx
   exact obj_ne hq e (by rcases hT with rfl | rfl <;> decide) rfl
  ·obtain⟨cur,hc⟩:=row_obj hH.tr hx
   exact obj_ne hq hc (by decide) rfl
  ·obtain⟨cur,hc⟩:=row_obj hH.pt hx
   exact obj_ne hq hc (by decide) rfl
 ·rcases n_mem_foot.1 hx with e | e | hx
  ·rw[e] at hq
   exact obj_ne hq hH.hp.tb.blk (by decide) rfl
  ·obtain⟨D,⟨es,clock,hq2,_⟩,_⟩:=hH.hp.tb.map
   rw[←e,hq] at hq2
   simp at hq2
  ·obtain⟨cur,hc⟩:=row_obj hH.hp.tb.own hx
   exact obj_ne hq hc (by decide) rfl
section
variable {W w w':World} {hb hc:Nat} {m:Int} {s s2:Hst} {X:Nat->Prop}
theorem B2.graph (h:B2 W m hb s hc s2 X w) {q:Nat} {cs:Array Value} (hW:W.heap.size<=q) (hq:w.heap[q]?=some (.cells cs 38)) (hm:Mo (fun k=>k=q) w w'):B2 W m hb s hc s2 X w':=by
 obtain⟨B,C,F,G,h1,h2,h3,h4,h5,h6⟩:=h.h
 have hz:=hm.size
 exact⟨Below.trans h.b (hm.below (fun k hk=>by omega) h.b.size),⟨B,C,F,G,h1.graph hq hm,h2.graph hq hm,fun k hk=>⟨Nat.lt_of_lt_of_le (h3 k hk).1 hz,(h3 k hk).2⟩,fun k hk=>⟨Nat.lt_of_lt_of_le (h4 k hk).1 hz,(h4 k hk).2⟩,Nat.le_trans h5 hz,Nat.le_trans h6 hz⟩,fun k hk=>Nat.lt_of_lt_of_le (h.xz k hk) hz,h.sn,h.nd,h.l4,h.sn2,h.nd2,h.l42⟩
end
theorem set2_mo (w:World) (q:Nat) (u v:Value):Mo (fun k=>k=q) w ((w.setCell ⟨q,0,none⟩ u).setCell ⟨q,1,none⟩ v):=by
 have h:Mo (fun k=>k=q) w w:=Mo.refl _ w
 have h1:=h.setCell (p:=⟨q,0,none⟩) (Or.inl rfl) u
 exact h1.setCell (p:=⟨q,1,none⟩) (Or.inl rfl) v
theorem set2_at {w:World} {q:Nat} {a b u v:Value} {T:TypeId} (h:w.heap[q]?=some (.cells #[a,b] T)):((w.setCell ⟨q,0,none⟩ u).setCell ⟨q,1,none⟩ v).heap[q]?=some (.cells #[u,v] T):=by
 have h1:=heap_setCell_same w q 0 _ _ u h
 have h2:=heap_setCell_same _ q 1 _ _ v h1
 exact h2
theorem all_gr {W w':World} {nv rv:Value} {g:Gf} {B c:Nat} {ao:Option Addr} (hG:Gr W nv rv g) (hb:Below W.heap.size W w') (ho:w'.ownsRow B 3 1 (.slice ao g.nodes.length c) g.nodes.length (((List.range g.nodes.length).map (fun (i:Nat)=>(i:Int))).map (Value.int .i64))):Gr w' nv (.slice ao g.nodes.length c) (gAll g):=by
 refine⟨(hG.below hb).1,?_⟩
 have hl:=gAll_len (g:=g)
 have ho':w'.ownsRow B 3 1 (.slice ao g.nodes.length c) g.nodes.length ((gAll g).roots.map (Value.int .i64)):=ho
 rw[←hl] at ho' ⊢
 exact Ri.ofOwn ho'
end Go.Proofs.YtpkojcfdkkjmcaaGreatDoor

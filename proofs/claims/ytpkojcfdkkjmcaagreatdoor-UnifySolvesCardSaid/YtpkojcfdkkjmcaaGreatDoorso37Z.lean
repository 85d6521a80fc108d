/- Package cells: a heap between calls, and what a call makes of it. -/
import Derived.Deep.RegionHeld3
import Derived.BigRegion
import Derived.Sort.BigQuietIn
import Derived.OwnWalkIn
import Derived.WalkKit
import Derived.Deep.DeepCutAuto
import Derived.Test.YtpkojcfdkkjmcaaGreatDoorso34Z
import Derived.Test.YtpkojcfdkkjmcaaGreatDoorso29Z
import Derived.Test.YtpkojcfdkkjmcaaGreatDoorso30Z
import Derived.Test.YtpkojcfdkkjmcaaGreatDoorso27Z
import Derived.Test.YtpkojcfdkkjmcaaGreatDoorso32Z
import Derived.Test.YtpkojcfdkkjmcaaGreatDoorso24Z
import Derived.Test.YtpkojcfdkkjmcaaGreatDoorso33Z
import Derived.Test.YtpkojcfdkkjmcaaGreatDoorso08Z
import Derived.Test.YtpkojcfdkkjmcaaGreatDoorso25Z
import Derived.Test.YtpkojcfdkkjmcaaGreatDoorso36Z
import Derived.Test.YtpkojcfdkkjmcaaGreatDoorso31Z
namespace Go.Proofs.YtpkojcfdkkjmcaaGreatDoor
set_option maxRecDepth 100000
open Go.RowKit
structure Hst where
 l:List Int
 ns:List ByteArray
 tr:List Te
 pt:List Pe
 n:Int
def Hs (w:World) (B hb:Nat) (m:Int) (F:Nat->Prop) (s:Hst):Prop:=
 ∃ab tb av tv tq trv ptv,Hq w B hb ab tb m av s.l tv tq s.ns trv s.tr ptv s.pt s.n/\∀k,k∈qfoot hb ab av trv ptv->F k
theorem Hs.below {w w':World} {B hb:Nat} {m:Int} {F:Nat->Prop} {s:Hst} (h:Hs w B hb m F s) (hb':Below w.heap.size w w'):Hs w' B hb m F s:=by
 obtain⟨ab,tb,av,tv,tq,trv,ptv,h,hf⟩:=h
 exact⟨ab,tb,av,tv,tq,trv,ptv,h.below hb',hf⟩
theorem Hs.weak {w:World} {B hb:Nat} {m:Int} {F F':Nat->Prop} {s:Hst} (h:Hs w B hb m F s) (hF:∀k,F k->F' k):Hs w B hb m F' s:=by
 obtain⟨ab,tb,av,tv,tq,trv,ptv,h,hf⟩:=h
 exact⟨ab,tb,av,tv,tq,trv,ptv,h,fun k hk=>hF k (hf k hk)⟩
structure Sj (s:Hst) (j:Nat):Prop where
 si:SI s.l s.ns.length s.tr s.pt
 n0:0<=s.n
 n1:s.n<=j
 t1:s.tr.length<=j
 p1:s.pt.length<=j
theorem Sj.more {s:Hst} {j k:Nat} (h:Sj s j) (hk:j<=k):Sj s k:=⟨h.si,h.n0,Int.le_trans h.n1 (by omega),Nat.le_trans h.t1 hk,Nat.le_trans h.p1 hk⟩
inductive Stp (kd a:Int) (s:Hst):Hst->Prop
 | same:Stp kd a s s
 | write (k:Nat) (x:Int) (hk:k<s.l.length) (h:SndN (s.l.set k x) s.ns.length):Stp kd a s ⟨s.l.set k x,s.ns,trW s.l s.tr s.pt k,s.pt,s.n+1⟩
 | put (m:List Int) (ns':List ByteArray) (h1:s.ns.length<=ns'.length) (h:SndN (s.l++m) ns'.length):Stp kd a s ⟨s.l++m,ns',s.tr,s.pt,s.n⟩
 | point:Stp kd a s ⟨s.l,s.ns,s.tr,s.pt++[(s.tr.length,s.l.length)],s.n⟩
 | release (j:Nat) (hj:j<s.pt.length) (hk:kd=7) (ha:a=(j:Int)):Stp kd a s ⟨s.l,s.ns,s.tr,s.pt.take j,s.n⟩
 | undo (j:Nat) (hj:j<s.pt.length) (hk:kd=6) (ha:a=(j:Int)):Stp kd a s ⟨atP s.l s.tr s.pt[j],s.ns,s.tr.take s.pt[j].1,s.pt.take (j+1),s.n⟩
theorem trW_len (l:List Int) (tr:List Te) (pt:List Pe) (k:Nat):(trW l tr pt k).length<=tr.length+1:=by
 unfold trW
 split <;> simp
theorem Stp.sj {kd a:Int} {s s':Hst} {j:Nat} (h:Stp kd a s s') (hs:Sj s j):Sj s' (j+1):=by
 have hn:=hs.n1
 have h0:=hs.n0
 have ht:=hs.t1
 have hp:=hs.p1
 cases h with
 | same=>exact hs.more (by omega)
 | write k x hk h=>
  have:=trW_len s.l s.tr s.pt k
  exact⟨hs.si.write hk h,by show 0<=s.n+1;omega,by show s.n+1<=_;omega,by show (trW s.l s.tr s.pt k).length<=_;omega,by show s.pt.length<=_;omega⟩
 | put m ns' h1 h=>exact⟨hs.si.put h1 h,h0,by show s.n<=_;omega,by show s.tr.length<=_;omega,by show s.pt.length<=_;omega⟩
 | point=>exact⟨hs.si.point,h0,by show s.n<=_;omega,by show s.tr.length<=_;omega,by show (s.pt++[_]).length<=_;simp;omega⟩
 | release i hj hk ha=>exact⟨hs.si.release i,h0,by show s.n<=_;omega,by show s.tr.length<=_;omega,by show (s.pt.take i).length<=_;simp;omega⟩
 | undo i hj hk ha=>exact⟨hs.si.undo i hj,h0,by show s.n<=_;omega,by show (s.tr.take _).length<=_;simp;omega,by show (s.pt.take _).length<=_;simp;omega⟩
section
variable {w w':World} {B hb ab tb:Nat} {m:Int} {av:Value} {l:List Int} {tv:Value} {tq:Nat} {ns:List ByteArray} {trv:Value} {tr:List Te} {ptv:Value} {pt:List Pe} {n:Int} {F:Nat->Prop}
theorem mo_of {ks:List Nat} (h:a_Mod ks w w') (hk:∀k∈ks,F k):Mo F w w':=⟨h.os,h.tape,h.output,h.size,fun k hk' hn=>h.block k hk' (fun hx=>hn (hk k hx))⟩
theorem foot_new {av' trv' ptv':Value} (hf:∀k,k∈qfoot hb ab av trv ptv->F k) (h1:a_Nx w av av') (h2:a_Nx w trv trv') (h3:a_Nx w ptv ptv'):∀k,k∈qfoot hb ab av' trv' ptv'->F k∨w.heap.size<=k:=fun k hk=>by
 rcases mem_qfoot.1 hk with rfl | hk | hk | hk
 ·exact Or.inl (hf _ (mem_qfoot.2 (Or.inl rfl)))
 ·rcases a_mem_foot.1 hk with rfl | hk
  ·exact Or.inl (hf _ (mem_qfoot.2 (Or.inr (Or.inl (a_mem_foot.2 (Or.inl rfl))))))
  ·rcases h1 k hk with h | h
   ·exact Or.inl (hf _ (mem_qfoot.2 (Or.inr (Or.inl (a_mem_foot.2 (Or.inr h))))))
   ·exact Or.inr h
 ·rcases h2 k hk with h | h
  ·exact Or.inl (hf _ (mem_qfoot.2 (Or.inr (Or.inr (Or.inl h)))))
  ·exact Or.inr h
 ·rcases h3 k hk with h | h
  ·exact Or.inl (hf _ (mem_qfoot.2 (Or.inr (Or.inr (Or.inr h)))))
  ·exact Or.inr h
end
end Go.Proofs.YtpkojcfdkkjmcaaGreatDoor
namespace Go.Proofs.YtpkojcfdkkjmcaaGreatDoor
set_option maxRecDepth 100000
open Go.RowKit
theorem goodA_of {g:Gf} (hg:Good g):GoodA g.nodes:=by
 have hin:∀x,x<g.nodes.length->goodNd g.nodes.length (ndN g.nodes x)=true:=fun x hx=>hg.node _ (by simp[ndN,List.getD,hx])
 have hout:∀x,¬x<g.nodes.length->ndN g.nodes x=nd0:=fun x hx=>by
  unfold ndN
  rw[List.getD,List.getElem?_eq_none (by omega)]
  rfl
 refine⟨fun x hx k hk=>?_,fun x hk=>?_,fun x=>?_⟩
 ·have:=(good_args (hin x hx)).1 _ (getD_mem hk)
  unfold argN
  omega
 ·by_cases hx:x<g.nodes.length
  ·have h:=hin x hx
   unfold goodNd at h
   rw[if_pos hk] at h
   simp at h
   exact h.2
  ·rw[hout x hx]
 ·by_cases hx:x<g.nodes.length
  ·exact (good_args (hin x hx)).2
  ·rw[hout x hx];exact Nat.zero_le _
def PsG (g:Gf) (ps:List (Int×Int)):Prop:=∀p∈ps,(0<=p.1/\p.1<(g.nodes.length:Int))/\0<=p.2/\p.2<(g.nodes.length:Int)
theorem chkS_good {g:Gf} {ps:List (Int×Int)} (h:chkS g ps=[]):Good g/\PsG g ps:=by
 unfold chkS at h
 split at h
 ·rename_i h1
  split at h
  ·cases h
  ·rename_i h2
   refine⟨chk_good h1,fun p hp=>?_⟩
   have:=ixOf_all _ _ h2 p hp
   simp[badP,strange] at this
   omega
 ·rename_i h1
  exact absurd h h1
theorem gE_good {g:Gf} (hg:Good g) {E:Nat->Nat} (hE:∀x,x<g.nodes.length->E x<g.nodes.length):Good (gE g.nodes g.roots E):=by
 have hEI:∀z:Int,0<=z/\z<(g.nodes.length:Int)->0<=EI E z/\EI E z<(g.nodes.length:Int):=fun z hz=>by
  have:=hE z.toNat (by omega)
  unfold EI
  omega
 have hl:(gE g.nodes g.roots E).nodes.length=g.nodes.length:=by simp[gE]
 refine⟨by rw[hl];exact hg.nodes,by simp[gE];exact hg.roots,fun n hn=>?_,fun z hz=>?_⟩
 ·obtain⟨y,hy,rfl⟩:=List.mem_map.1 hn
  rw[hl]
  have hgd:=hg.node y hy
  exact renum_good hgd (fun z hz=>hEI z ((good_args hgd).1 z hz))
 ·obtain⟨y,hy,rfl⟩:=List.mem_map.1 hz
  rw[hl]
  exact hEI y (hg.root y hy)
def LeastS (g:Gf) (ps:List (Int×Int)) (t:Gf):Prop:=∃(E:Nat->Nat) (ee:Nat->Nat->Bool),Un g.nodes (ps.map natP) E []/\(∀x y:Nat,(ee x y=true↔Al (gE g.nodes g.roots E) (x:Int) (y:Int)))/\t=trimF (quoF ee (gE g.nodes g.roots E))
theorem ret_gbe {w:World} {fn:Func} {t s r:Tmp} (hfn:fn.results=#[.cell t 38,.tmp s,.tmp r]) {tmps:Array Value} {q:Nat} {u0 u1 v1 v2:Value} (h4:tmps[t]?.getD undef=.pointer (some ⟨q,0,none⟩)) (h5:tmps[s]?.getD undef=v1) (h6:tmps[r]?.getD undef=v2) (hq:w.heap[q]?=some (.cells #[u0,u1] 38)):(results fn tmps).run Tryz.prog w=.ok (.tuple #[.agg #[u0,u1],v1,v2]) w:=by
 obtain⟨⟨z0,z1⟩,_⟩:=blk2y hq
 simp[results,hfn,go_sem,h4,h5,h6,z0,z1]
abbrev grZ:Obj:=.cells #[.slice none 0 0,.slice none 0 0] 38
structure Sb (W:World) (nv rv:Value) (w:World):Prop where
 g:w.heap[W.heap.size]?=some (.cells #[nv,rv] 38)
 r:w.heap[W.heap.size+1]?=some grZ
 b:Below W.heap.size W w
theorem Sb.new (W:World) (nv rv:Value):Sb W nv rv ((W.alloc (.cells #[nv,rv] 38)).alloc grZ):=by
 have h1:=heap_alloc_new (W.alloc (.cells #[nv,rv] 38)) grZ
 rw[show (W.alloc (.cells #[nv,rv] 38)).heap.size=W.heap.size+1 by simp] at h1
 exact⟨(Below.heap_alloc _ _ _ (by simp)).trans (heap_alloc_new W _),h1,(below_alloc W _).alloc (by simp) _⟩
theorem Sb.next {W w w':World} {nv rv:Value} (h:Sb W nv rv w) (hb:Below w.heap.size w w'):Sb W nv rv w':=
 ⟨(hb.block _ (lt_of_block h.g)).trans h.g,(hb.block _ (lt_of_block h.r)).trans h.r,Below.next h.b hb⟩
theorem Sb.fin {W w:World} {nv rv:Value} (h:Sb W nv rv w) (u0 u1:Value):((w.setCell ⟨W.heap.size+1,0,none⟩ u0).setCell ⟨W.heap.size+1,1,none⟩ u1).heap[W.heap.size+1]?=some (.cells #[u0,u1] 38)/\Below W.heap.size W ((w.setCell ⟨W.heap.size+1,0,none⟩ u0).setCell ⟨W.heap.size+1,1,none⟩ u1):=
 ⟨blk2_set h.r,(h.b.setCell (p:=⟨W.heap.size+1,0,none⟩) (Nat.le_succ _) _).setCell (p:=⟨W.heap.size+1,1,none⟩) (Nat.le_succ _) _⟩
set_option maxHeartbeats 8000000 in
theorem solve_no {W:World} {nv rv pv:Value} {g:Gf} {ps:List (Int×Int)} (hG:Gr W nv rv g) (hS:Sized g) (hP:Rp W pv ps) (hl:ps.length<=5000) (hc:chkS g ps=[]) (hn:NoSol g.nodes (ps.map natP)) :
  Calls Tryz.prog 37 #[.agg #[nv,rv],pv] W fun e w'=>e=.returned (.tuple #[.agg #[.slice none 0 0,.slice none 0 0],.bool false,.nilIface])/\Below W.heap.size W w':=by
 obtain⟨hg,hpg⟩:=chkS_good hc
 have hA:=goodA_of hg
 obtain⟨na,nc,rfl,_⟩:=hG.1
 obtain⟨ra,rc,rfl,_⟩:=hG.2
 have hB:=Sb.new W (.slice na g.nodes.length nc) (.slice ra g.roots.length rc)
 have hck:=checked_any (hG.below hB.b) hS (hP.below hB.b) hl
 rw[hc] at hck
 have hN:g.nodes.length<=10000:=by have:=hg.nodes;omega
 have hap:=hid (fun w1 (hb:Below W.heap.size W w1)=>apart_any (w:=w1) (hG.below hb).1 hN)
 have hal:Hid (∀(w1 w2:World) (mb:Nat) (lv:Value) (L:List Nat),Below W.heap.size W w1->Mg w1 w2 mb (.slice na g.nodes.length nc) lv g.nodes L->Ld L id->Calls Tryz.prog 82 #[.pointer (some ⟨mb,0,none⟩),pv] w2 fun e w'=>e=.returned (.bool false)/\Below w1.heap.size w1 w'):=fun w1 w2 mb lv L hb hm hl'=>by
  refine (all_any hm hl' hA hN (Un.init _) (hP.below hb) hpg hl).mono ?_
  rintro e w' (⟨rfl,E,hU,_⟩ | ⟨rfl,_,hb',_⟩)
  ·obtain⟨h1,h2,_⟩:=hU.done
   exact absurd (hn _ h1 h2) (fun h=>h)
  ·exact⟨rfl,hb'⟩
 have HB:=hid hB
 clear hG hP hS hc hB hg hpg hA hn
 go_enter Tryz.func37,Tryz.ntmps37
 go_wp2_with (first
  | (go_at_call 80;go_must (refine hck.mono ?_;clear hck;rintro e w1 ⟨⟨ev,rfl,hev⟩,hb1⟩;have hev1:ev=.nilIface:=hev;subst hev1;have HB1:=hid (HB.out.next hb1);have hg1:=HB1.out.g;have zg1:=lt_of_block hg1;obtain⟨⟨s0,s1⟩,_⟩:=blk2y hg1;clear hev hb1 hg1))
  | (go_at_call 81;go_must (refine (hap.out _ HB1.out.b).mono ?_;rintro e w2 ⟨mb,lv,L,rfl,hm,hld⟩;have hcall:=hid (hal.out w1 w2 mb lv L HB1.out.b hm hld);clear hm hld))
  | (go_at_call 82;go_must (refine hcall.out.mono ?_;rintro e w3 ⟨rfl,hb3⟩;have HB3:=hid (HB1.out.next hb3);have hr3:=HB3.out.r;have zr3:=lt_of_block hr3;obtain⟨⟨t0,t1⟩,t2,t3⟩:=blk2y hr3;clear hr3 hb3)))
 obtain⟨g1,g2⟩:=HB3.out.fin (.slice none 0 0) (.slice none 0 0)
 exact bodyPost_ret (ret_gbe Tryz.results37 (by rfl) (by rfl) (by rfl) g1) rfl ⟨rfl,g2⟩
set_option maxHeartbeats 8000000 in
theorem solve_yes {W:World} {nv rv pv:Value} {g:Gf} {ps:List (Int×Int)} (hG:Gr W nv rv g) (hS:Sized g) (hP:Rp W pv ps) (hl:ps.length<=5000) (hc:chkS g ps=[]) (hn:¬NoSol g.nodes (ps.map natP)) :
  Calls Tryz.prog 37 #[.agg #[nv,rv],pv] W fun e w'=>(∃t na nc ra rc avs,e=.returned (.tuple #[.agg #[.slice na t.nodes.length nc,.slice ra t.roots.length rc],.bool true,.nilIface])/\LeastS g ps t/\Og w' W.heap.size (.slice na t.nodes.length nc) (.slice ra t.roots.length rc) avs t)/\Below W.heap.size W w':=by
 obtain⟨hg,hpg⟩:=chkS_good hc
 have hA:=goodA_of hg
 obtain⟨na,nc,rfl,_⟩:=hG.1
 obtain⟨ra,rc,rfl,_⟩:=hG.2
 have hB:=Sb.new W (.slice na g.nodes.length nc) (.slice ra g.roots.length rc)
 have hck:=checked_any (hG.below hB.b) hS (hP.below hB.b) hl
 rw[hc] at hck
 have hN:g.nodes.length<=10000:=by have:=hg.nodes;omega
 have hR5:g.roots.length<=5000:=by have:=hg.roots;omega
 have hap:=hid (fun w1 (hb:Below W.heap.size W w1)=>apart_any (w:=w1) (hG.below hb).1 hN)
 have hal:Hid (∀(w1 w2:World) (mb:Nat) (lv:Value) (L:List Nat),Below W.heap.size W w1->Mg w1 w2 mb (.slice na g.nodes.length nc) lv g.nodes L->Ld L id->Calls Tryz.prog 82 #[.pointer (some ⟨mb,0,none⟩),pv] w2 fun e w'=>e=.returned (.bool true)/\Below w1.heap.size w1 w'/\∃E,Un g.nodes (ps.map natP) E []/\∃L,Mg w1 w' mb (.slice na g.nodes.length nc) lv g.nodes L/\Ld L E):=fun w1 w2 mb lv L hb hm hl'=>by
  refine (all_any hm hl' hA hN (Un.init _) (hP.below hb) hpg hl).mono ?_
  rintro e w' (⟨rfl,E,hU,hL⟩ | ⟨rfl,h1,_,_⟩)
  ·obtain⟨L2,h3,h4⟩:=hL.mg
   exact⟨rfl,h3.bel,E,hU,L2,h3,h4⟩
  ·exact absurd h1 hn
 have hgr:Hid (∀(w1 w2:World) (mb:Nat) (lv:Value) (L:List Nat) (E:Nat->Nat),Below W.heap.size W w1->Un g.nodes (ps.map natP) E []->Mg w1 w2 mb (.slice na g.nodes.length nc) lv g.nodes L->Ld L E->Calls Tryz.prog 83 #[.pointer (some ⟨mb,0,none⟩),.slice ra g.roots.length rc] w2 fun e w'=>(∃na' nc' ra' rc',e=.returned (.agg #[.slice na' g.nodes.length nc',.slice ra' g.roots.length rc'])/\Gr w' (.slice na' g.nodes.length nc') (.slice ra' g.roots.length rc') (gE g.nodes g.roots E))/\Below w1.heap.size w1 w'):=fun w1 w2 mb lv L E hb hU hm hl'=>sgraph_any hm hl' (hG.below hb).2 hg.root (fun j hj x hx=>(good_args (hg.node (g.nodes.getD j nd0) (by simp[List.getD,hj]))).1 x hx) (fun j hj=>(good_args (hg.node (g.nodes.getD j nd0) (by simp[List.getD,hj]))).2) hR5 hN
 have hqu:Hid (∀(w1:World) (E:Nat->Nat) (na':Option Addr) (nc':Nat) (ra':Option Addr) (rc':Nat),Un g.nodes (ps.map natP) E []->Gr w1 (.slice na' g.nodes.length nc') (.slice ra' g.roots.length rc') (gE g.nodes g.roots E)->Calls Tryz.prog 60 #[.agg #[.slice na' g.nodes.length nc',.slice ra' g.roots.length rc']] w1 fun r w'=>(∃t na nc ra rc avs,r=.returned (.tuple #[.agg #[.slice na t.nodes.length nc,.slice ra t.roots.length rc],.nilIface])/\LeastS g ps t/\Og w' w1.heap.size (.slice na t.nodes.length nc) (.slice ra t.roots.length rc) avs t)/\Below w1.heap.size w1 w'):=fun w1 E na' nc' ra' rc' hU hGr=>by
  obtain⟨ee,hd⟩:=al_dec (gE g.nodes g.roots E)
  have hgd:=gE_good hg hU.rng
  refine (quot_good hGr (good_sized hgd) (chk_of_good hgd) ee hd).mono ?_
  rintro e w' ⟨⟨nv',rv',avs,rfl,hO⟩,hb⟩
  obtain⟨a1,c1,rfl⟩:=hO.nsl
  obtain⟨a2,c2,rfl,_⟩:=hO.r
  exact⟨⟨_,a1,c1,a2,c2,avs,rfl,⟨E,ee,hU,hd,rfl⟩,hO⟩,hb⟩
 have HB:=hid hB
 clear hG hP hS hc hB hg hpg hA hn
 go_enter Tryz.func37,Tryz.ntmps37
 go_wp2_with (first
  | (go_at_call 80;go_must (refine hck.mono ?_;clear hck;rintro e w1 ⟨⟨ev,rfl,hev⟩,hb1⟩;have hev1:ev=.nilIface:=hev;subst hev1;have HB1:=hid (HB.out.next hb1);have hg1:=HB1.out.g;have zg1:=lt_of_block hg1;obtain⟨⟨s0,s1⟩,_⟩:=blk2y hg1;clear hev hb1 hg1))
  | (go_at_call 81;go_must (refine (hap.out _ HB1.out.b).mono ?_;rintro e w2 ⟨mb,lv,L,rfl,hm,hld⟩;have hcall:=hid (hal.out w1 w2 mb lv L HB1.out.b hm hld);clear hm hld))
  | (go_at_call 82;go_must (refine hcall.out.mono ?_;rintro e w3 ⟨rfl,hb3,E,hU,L3,hm3,hl3⟩;have HB3:=hid (HB1.out.next hb3);have hg3:=HB3.out.g;have zg3:=lt_of_block hg3;obtain⟨⟨v0,v1⟩,_⟩:=blk2y hg3;have hU3:=hid hU;have hcg:=hid (hgr.out w1 w3 mb lv L3 E HB1.out.b hU hm3 hl3);clear hb3 hg3 hU hm3 hl3))
  | (go_at_call 83;go_must (refine hcg.out.mono ?_;rintro e w4 ⟨⟨na',nc',ra',rc',rfl,hGr⟩,hb4⟩;have HB4:=hid (HB1.out.next hb4);have hcq:=hid (hqu.out w4 E na' nc' ra' rc' hU3.out hGr);clear hGr hb4))
  | (go_at_call 60;go_must (refine hcq.out.mono ?_;rintro e w5 ⟨⟨t,n5,c5,r5,d5,avs5,rfl,hLS,hO5⟩,hb5⟩;have HB5:=hid (HB4.out.next hb5);have hLS':=hid hLS;have hO5':=hid hO5;have hs4:=hid HB4.out.b.size;have hr5:=HB5.out.r;have zr5:=lt_of_block hr5;obtain⟨⟨t0,t1⟩,t2,t3⟩:=blk2y hr5;have hzz:=hid (lt_of_block HB4.out.r);clear hLS hO5 hb5 hr5)))
 obtain⟨g1,g2⟩:=HB5.out.fin (.slice n5 t.nodes.length c5) (.slice r5 t.roots.length d5)
 have g3:=(Below.heap_alloc _ (.cells #[.slice n5 t.nodes.length c5,.slice r5 t.roots.length d5] 38) _ (lt_of_block g1)).trans g1
 have hsz:W.heap.size<=((w5.setCell ⟨W.heap.size+1,0,none⟩ (.slice n5 t.nodes.length c5)).setCell ⟨W.heap.size+1,1,none⟩ (.slice r5 t.roots.length d5)).heap.size:=g2.size
 have g4:=g2.alloc hsz (.cells #[.slice n5 t.nodes.length c5,.slice r5 t.roots.length d5] 38)
 have hO6:=og_base (og_keep (w':=((w5.setCell ⟨W.heap.size+1,0,none⟩ (.slice n5 t.nodes.length c5)).setCell ⟨W.heap.size+1,1,none⟩ (.slice r5 t.roots.length d5)).alloc (.cells #[.slice n5 t.nodes.length c5,.slice r5 t.roots.length d5] 38)) hO5'.out (fun k h1 h2=>by
  have h3:=hzz.out
  rw[Below.heap_alloc _ _ _ (by simpa using h2),Below.heap_setCell _ _ _ _ (by show k≠W.heap.size+1;omega),Below.heap_setCell _ _ _ _ (by show k≠W.heap.size+1;omega)])) hs4.out
 exact bodyPost_ret (ret_gbe Tryz.results37 (by rfl) (by rfl) (by rfl) g3) rfl ⟨⟨t,n5,c5,r5,d5,avs5,rfl,hLS'.out,hO6⟩,g4⟩
end Go.Proofs.YtpkojcfdkkjmcaaGreatDoor

/- What was handed in stays: kept and Kept of package tendrilhand. -/
import Derived.Test.YtbfbkmkjcekpaaaGreatDoorow15Z
import Derived.Test.YtbfbkmkjcekpaaaGreatDoorow18Z
import Derived.Test.YtbfbkmkjcekpaaaGreatDoorow16Z
import Derived.Test.YtbfbkmkjcekpaaaGreatDoorow05Z
namespace Go.Proofs.YtbfbkmkjcekpaaaGreatDoor
set_option maxRecDepth 100000
open Go.RowKit
theorem keepH {w w':World} {q:Nat} {o:Obj} (h:w.heap[q]?=some o) (hb:Below w.heap.size w w'):w'.heap[q]?=some o:=by
 rw[hb.block q (lt_of_block h)]
 exact h
set_option maxHeartbeats 2000000 in
theorem hkept_any {W:World} {B:Nat} {mv lv:Value} {l:List Int} (hm:Hr W B mv l) (hv:Ri W lv l) (hl:l.length<=5000) :
  Calls Tryz.prog 39 #[mv,lv] W fun e w'=>e=.returned (.bool true)/\Below W.heap.size W w':=by
 have hmr:=hm.ri
 obtain⟨q,c,cur,rfl,hq,hle,hs,ht⟩:=hm.obj
 obtain⟨la,lc,rfl,hlc⟩:=hv
 obtain⟨_,_,hme,hmc⟩:=hmr
 injection hme with h1 _ h3
 subst h1 h3
 have m0:W.cell? ⟨q,l.length,none⟩=some (.int .i64 (-77)):=by
  rw[cell_of_row W q _ _ _ _ hq]
  have h1:(cur.toList.take (l.length+2))[l.length]?=(l.map (Value.int .i64)++marks)[l.length]?:=by rw[ht]
  rw[List.getElem?_take_of_lt (by omega),List.getElem?_append_right (by simp)] at h1
  have h2:cur[l.length]?=cur.toList[l.length]?:=by simp
  rw[h2,h1]
  simp
 have m1:W.cell? ⟨q,l.length+1,none⟩=some (.int .i64 (-78)):=by
  rw[cell_of_row W q _ _ _ _ hq]
  have h1:(cur.toList.take (l.length+2))[l.length+1]?=(l.map (Value.int .i64)++marks)[l.length+1]?:=by rw[ht]
  rw[List.getElem?_take_of_lt (by omega),List.getElem?_append_right (by simp)] at h1
  have h2:cur[l.length+1]?=cur.toList[l.length+1]?:=by simp
  rw[h2,h1]
  simp
 have hcl:¬((c:Int)<(l.length:Int)+2):=by omega
 clear hm hq hs ht
 go_enter Tryz.func39,Tryz.ntmps39
 go_wp2
 go_loopw [22] (fun i wr=>∃k:Nat,k<=l.length/\i=.int .i64 k/\Hid (Below W.heap.size W wr)) (fun i _=>l.length-(intOf i).toNat)
 case atStart=>exact⟨0,Nat.zero_le _,rfl,Below.refl _ _⟩
 case round=>
  obtain⟨k,hk,rfl,hb⟩:=hrel
  by_cases hlt:k<l.length
  ·obtain⟨lb,lo,rfl,h1⟩:=hlc k hlt
   obtain⟨_,_,he,h2⟩:=hmc k hlt
   injection he with he
   injection he with e1 e2 _
   subst e1 e2
   have d1:wr.cell? ⟨lb,lo+k,none⟩=some (.int .i64 (l.getD k 0)):=by rw[hb.out.cell (p:=⟨lb,lo+k,none⟩) (lt_of_cell h1)];exact h1
   have d2:wr.cell? ⟨q,k,none⟩=some (.int .i64 (l.getD k 0)):=by rw[hb.out.cell (p:=⟨q,k,none⟩) (lt_of_cell m0)];simpa using h2
   generalize l.getD k 0=y at d1 d2
   clear h1 h2 hmc hlc
   go_wp2
   go_quiet (fail)
   go_wp2
   go_roundw
   case rel=>exact⟨k+1,by omega,congrArg (Value.int .i64) (by omega),below_drewN hb.out _⟩
   case measure=>simp[intOf];omega
  ·have hkl:k=l.length:=by omega
   subst hkl
   have d0:wr.cell? ⟨q,l.length,none⟩=some (.int .i64 (-77)):=by rw[hb.out.cell (p:=⟨q,l.length,none⟩) (lt_of_cell m0)];exact m0
   have d1:wr.cell? ⟨q,l.length+1,none⟩=some (.int .i64 (-78)):=by rw[hb.out.cell (p:=⟨q,l.length+1,none⟩) (lt_of_cell m0)];exact m1
   have hw2:IntKind.i64.wrap ((l.length:Int)+2)=(l.length:Int)+2:=by rw[IntKind.wrap_i64];omega
   have hw1:IntKind.i64.wrap ((l.length:Int)+1)=(l.length:Int)+1:=by rw[IntKind.wrap_i64];omega
   have hi1:((l.length:Int))<(l.length:Int)+2:=by omega
   have hi2:((l.length:Int)+1)<(l.length:Int)+2:=by omega
   have ht1:((l.length:Int)+1).toNat=l.length+1:=by omega
   clear hmc hlc
   go_wp2
   go_ret
   exact⟨rfl,hb.out⟩
theorem Hg.node {w:World} {B gb cap:Nat} {rv:Value} {avs:List Value} {g:Gf} (h:Hg w B gb cap rv avs g):∀j,j<g.nodes.length->(w.cell? ⟨gb,j*4,none⟩=some (.int .i64 (g.nodes.getD j nd0).kind)/\w.cell? ⟨gb,j*4+1,none⟩=some (.string (g.nodes.getD j nd0).name)/\w.cell? ⟨gb,j*4+2,none⟩=some (.int .i64 (g.nodes.getD j nd0).num)/\w.cell? ⟨gb,j*4+3,none⟩=some (avs.getD j undef)):=fun j hj=>by
 have hc:∀i u,(ncells g.nodes avs)[i]?=some u->w.cell? ⟨gb,i,none⟩=some u:=fun i u hu=>by
  have hi:i<(ncells g.nodes avs).length:=by
   rcases Nat.lt_or_ge i (ncells g.nodes avs).length with h | h
   ·exact h
   ·rw[List.getElem?_eq_none h] at hu
    cases hu
  have:=h.n.cells (g:=gb) (by rfl) i u (by rw[List.getElem?_append_left hi];exact hu)
  rw[Addr.add_lit,Nat.zero_add] at this
  exact this
 obtain⟨e0,e1,e2,e3⟩:=ncells_at g.nodes avs j h.len hj
 exact⟨hc _ _ e0,hc _ _ e1,hc _ _ e2,hc _ _ e3⟩
theorem Hg.last {w:World} {B gb cap:Nat} {rv:Value} {avs:List Value} {g:Gf} (h:Hg w B gb cap rv avs g):w.cell? ⟨gb,g.nodes.length*4,none⟩=some (.int .i64 (-77)):=by
 have hl:=ncells_len g.nodes avs h.len
 have:=h.n.cells (g:=gb) (by rfl) (g.nodes.length*4) (.int .i64 (-77)) (by rw[List.getElem?_append_right (by omega),hl];simp)
 rw[Addr.add_lit,Nat.zero_add] at this
 exact this
set_option maxHeartbeats 4000000 in
theorem hKept_any {W:World} {B gb cap:Nat} {mrv nv rv:Value} {avs:List Value} {g:Gf} (hm:Hg W B gb cap mrv avs g) (hG:Gr W nv rv g) (hn:g.nodes.length<=300) (hr:g.roots.length<=300) (ha:∀n∈g.nodes,n.args.length<=40) :
  Calls Tryz.prog 11 #[.agg #[.slice (some ⟨gb,0,none⟩) g.nodes.length cap,mrv],.agg #[nv,rv]] W fun e w'=>e=.returned (.bool true)/\Below W.heap.size W w':=by
 have hnode:=hm.node
 have hlast:=hm.last
 have hcap:=own_cap hm.n
 have hkr:=hid (fun (w:World) (hb:Below W.heap.size W w)=>hkept_any (hm.r.below hb) (hG.2.below hb) (by omega))
 have hka:=hid (fun (w:World) (hb:Below W.heap.size W w) (j:Nat) (hj:j<g.nodes.length) (v:Value) (hv:Ri w v (g.nodes.getD j nd0).args)=>hkept_any ((hm.a j hj).below hb) hv (by have:=ha (g.nodes.getD j nd0) (by simp[List.getD,hj]);omega))
 have hb2:Below W.heap.size W ((W.alloc (.cells #[.slice (some ⟨gb,0,none⟩) g.nodes.length cap,mrv] 25)).alloc (.cells #[nv,rv] 25)):=(below_alloc W _).alloc (by simp) _
 have b0:((W.alloc (.cells #[.slice (some ⟨gb,0,none⟩) g.nodes.length cap,mrv] 25)).alloc (.cells #[nv,rv] 25)).heap[W.heap.size]?=some (.cells #[.slice (some ⟨gb,0,none⟩) g.nodes.length cap,mrv] 25):=by
  rw[Below.heap_alloc _ _ _ (by simp)]
  exact heap_alloc_new W _
 have b1:((W.alloc (.cells #[.slice (some ⟨gb,0,none⟩) g.nodes.length cap,mrv] 25)).alloc (.cells #[nv,rv] 25)).heap[W.heap.size+1]?=some (.cells #[nv,rv] 25):=by
  simpa using heap_alloc_new (W.alloc (.cells #[.slice (some ⟨gb,0,none⟩) g.nodes.length cap,mrv] 25)) (.cells #[nv,rv] 25)
 obtain⟨na,nc,rfl,hNc⟩:=hG.1
 obtain⟨ra,rc,rfl,_⟩:=hG.2
 have hrr:=hm.r
 obtain⟨mq,mcc,rfl,_⟩:=hrr
 obtain⟨⟨c0,c1⟩,_⟩:=blk2 b0
 obtain⟨⟨d0,d1⟩,_⟩:=blk2 b1
 have hav:Hid (∀j,j<g.nodes.length->∃q c,avs.getD j undef=.slice (some ⟨q,0,none⟩) (g.nodes.getD j nd0).args.length c):=fun j hj=>by
  obtain⟨q,c,h,_⟩:=hm.a j hj
  exact⟨q,c,h⟩
 clear hG ha hm
 go_enter Tryz.func11,Tryz.ntmps11
 go_wp2_with (go_at_call 39;refine (hkr.out _ hb2).mono ?_;clear hkr;rintro e w1 ⟨rfl,hb1⟩;replace hb2:=Below.next hb2 hb1;replace b0:=keepH b0 hb1;replace b1:=keepH b1 hb1;clear c0 c1 d0 d1;obtain⟨⟨c0,c1⟩,_⟩:=blk2 b0;obtain⟨⟨d0,d1⟩,_⟩:=blk2 b1;clear hb1)
 have hz1:=hb2.size
 go_loopw [26] (fun i wr=>∃k:Nat,k<=g.nodes.length/\i=.int .i64 k/\Hid (Below w1.heap.size w1 wr)) (fun i _=>g.nodes.length-(intOf i).toNat)
 case atStart=>exact⟨0,Nat.zero_le _,rfl,Below.refl _ _⟩
 case round=>
  obtain⟨k,hk,rfl,hb⟩:=hrel
  have hbx:=Below.next hb2 hb.out
  have b0':=keepH b0 hb.out
  have b1':=keepH b1 hb.out
  clear c0 c1 d0 d1
  obtain⟨⟨c0,c1⟩,_⟩:=blk2 b0'
  obtain⟨⟨d0,d1⟩,_⟩:=blk2 b1'
  by_cases hlt:k<g.nodes.length
  ·obtain⟨p0,p1,p2,p3⟩:=hnode k hlt
   have hl0:=lt_of_cell p0
   replace p1:=(hbx.cell (p:=⟨gb,k*4+1,none⟩) hl0).trans p1
   replace p2:=(hbx.cell (p:=⟨gb,k*4+2,none⟩) hl0).trans p2
   replace p3:=(hbx.cell (p:=⟨gb,k*4+3,none⟩) hl0).trans p3
   replace p0:=(hbx.cell (p:=⟨gb,k*4,none⟩) hl0).trans p0
   obtain⟨nb,no,gv,rfl,hnd⟩:=hNc k hlt
   obtain⟨q0,q1,q2,q3,hA⟩:=hnd.below hbx
   obtain⟨aq,ac,hav⟩:=hav.out k hlt
   have hcall:∀w:World,Below wr.heap.size wr w->_:=fun w hb=>hka.out w (Below.next hbx hb) k hlt gv (hA.below hb)
   rw[hav] at hcall p3
   generalize g.nodes.getD k nd0=x at p0 p1 p2 p3 q0 q1 q2 q3 hA hcall
   obtain⟨kind,name,num,args⟩:=x
   dsimp only at p0 p1 p2 p3 q0 q1 q2 q3 hA hcall
   obtain⟨ga,gc,rfl,_⟩:=hA
   have r0:=cell1 q0
   have r1:=cell1 q1
   have r2:=cell1 q2
   have r3:=cell1 q3
   have s0:=cell1 d0
   have hb4:Below wr.heap.size wr ((wr.alloc (.cells #[.int .i64 kind,.string name,.int .i64 num,.slice (some ⟨aq,0,none⟩) args.length ac] 74)).alloc (.cells #[.int .i64 kind,.string name,.int .i64 num,.slice ga args.length gc] 74)):=(below_alloc wr _).alloc (by simp) _
   have hcl:=hcall _ hb4
   clear hcall hnd hav hka hnode hNc
   go_wp2_with (go_at_call 39;refine hcl.mono ?_;clear hcl;rintro e w4 ⟨rfl,hb5⟩;replace hb5:=Below.next hb4 hb5)
   go_roundw
   case rel=>exact⟨k+1,by omega,congrArg (Value.int .i64) (by omega),Below.next hb.out hb5⟩
   case measure=>simp[intOf];omega
  ·have hkl:k=g.nodes.length:=by omega
   subst hkl
   have l0:wr.cell? ⟨gb,g.nodes.length*4,none⟩=some (.int .i64 (-77)):=by rw[hbx.cell (p:=⟨gb,g.nodes.length*4,none⟩) (lt_of_cell hlast)];exact hlast
   have hw1:IntKind.i64.wrap ((g.nodes.length:Int)+1)=(g.nodes.length:Int)+1:=by rw[IntKind.wrap_i64];omega
   have hi1:(g.nodes.length:Int)<(g.nodes.length:Int)+1:=by omega
   have ht1:((g.nodes.length:Int)+1).toNat=g.nodes.length+1:=by omega
   have hc1:(g.nodes.length:Int)+1<=(cap:Int):=by omega
   clear hnode hNc hka hav
   go_wp2
   go_quiet (fail)
   go_wp2
   go_ret
   exact⟨rfl,below_drewN hbx _⟩
end Go.Proofs.YtbfbkmkjcekpaaaGreatDoor
namespace Go.Proofs.YtbfbkmkjcekpaaaGreatDoor
set_option maxRecDepth 100000
open Go.RowKit
structure Ov (W w:World) (gb:Nat) (K:List Nat) (C N:Nat) (avs:List Value):Prop where
 os:w.os=W.os
 tape:w.tape=W.tape
 output:w.output=W.output
 size:W.heap.size<=w.heap.size
 far:∀k,k<W.heap.size->k∉K->w.heap[k]?=W.heap[k]?
 ints:∀(q:Nat) (cur:Array Value),W.heap[q]?=some (.cells cur 3 (0,0))->∃cur':Array Value,w.heap[q]?=some (.cells cur' 3 (0,0))/\cur'.size=cur.size
 nodes:∃cur:Array Value,w.heap[gb]?=some (.cells cur 74 (0,0))/\cur.size=C/\∀j,j<N->cur[j*4+3]?=some (avs.getD j undef)
theorem Ov.drew {W w:World} {gb:Nat} {K:List Nat} {C N:Nat} {avs:List Value} (h:Ov W w gb K C N avs):Ov W w.drew gb K C N avs:=⟨h.os,h.tape,h.output,h.size,h.far,h.ints,h.nodes⟩
theorem Ov.setI {W w:World} {gb:Nat} {K:List Nat} {C N q i:Nat} {avs:List Value} {cur:Array Value} (h:Ov W w gb K C N avs) (hq:q∈K) (hc:W.heap[q]?=some (.cells cur 3 (0,0))) (v:Value):Ov W (w.setCell ⟨q,i,none⟩ v) gb K C N avs:=by
 obtain⟨cur',h1,h2⟩:=h.ints q cur hc
 have hs:=heap_setCell_same w q i _ _ v h1
 refine⟨h.os,h.tape,h.output,by simpa using h.size,fun k hk hn=>?_,fun q' c' hc'=>?_,?_⟩
 ·rw[Below.heap_setCell _ _ _ _ (fun e=>hn (by
   have e':k=q:=e
   rw[e']
   exact hq))]
  exact h.far k hk hn
 ·by_cases e:q'=q
  ·subst e
   rw[hc] at hc'
   simp at hc'
   exact⟨_,hs,by rw[←hc'];simp[h2]⟩
  ·rw[Below.heap_setCell _ _ _ _ (fun e'=>e e')]
   exact h.ints q' c' hc'
 ·obtain⟨c,h3,h4⟩:=h.nodes
  refine⟨c,?_,h4⟩
  rw[Below.heap_setCell _ _ _ _ (fun e=>by
   have e':gb=q:=e
   subst e'
   rw[h1] at h3
   simp at h3)]
  exact h3
theorem set4_at (cur:Array Value) (i j:Nat) (a b c d:Value):((((cur.setIfInBounds (i*4) a).setIfInBounds (i*4+1) b).setIfInBounds (i*4+2) c).setIfInBounds (i*4+3) d)[j*4+3]?=if i=j/\j*4+3<cur.size then some d else cur[j*4+3]?:=by
 simp only[Array.getElem?_setIfInBounds,Array.size_setIfInBounds]
 by_cases e:i=j
 ·subst e
  rw[if_pos rfl]
  by_cases hs:i*4+3<cur.size
  ·rw[if_pos hs,if_pos ⟨rfl,hs⟩]
  ·rw[if_neg hs,if_neg (fun h=>hs h.2),Array.getElem?_eq_none (by omega)]
 ·rw[if_neg (by omega),if_neg (by omega),if_neg (by omega),if_neg (by omega),if_neg (fun h=>e h.1)]
theorem Ov.setN {W w:World} {gb:Nat} {K:List Nat} {C N i:Nat} {avs:List Value} (h:Ov W w gb K C N avs) (hg:gb∈K) (a b c:Value):Ov W ((((w.setCell ⟨gb,i*4,none⟩ a).setCell ⟨gb,i*4+1,none⟩ b).setCell ⟨gb,i*4+2,none⟩ c).setCell ⟨gb,i*4+3,none⟩ (avs.getD i undef)) gb K C N avs:=by
 obtain⟨cur,h1,h2,h3⟩:=h.nodes
 have s1:=heap_setCell_same w gb (i*4) _ _ a h1
 have s2:=heap_setCell_same _ gb (i*4+1) _ _ b s1
 have s3:=heap_setCell_same _ gb (i*4+2) _ _ c s2
 have s4:=heap_setCell_same _ gb (i*4+3) _ _ (avs.getD i undef) s3
 have hne:∀k,k≠gb->((((w.setCell ⟨gb,i*4,none⟩ a).setCell ⟨gb,i*4+1,none⟩ b).setCell ⟨gb,i*4+2,none⟩ c).setCell ⟨gb,i*4+3,none⟩ (avs.getD i undef)).heap[k]?=w.heap[k]?:=fun k hk=>by
  rw[Below.heap_setCell _ _ _ _ hk,Below.heap_setCell _ _ _ _ hk,Below.heap_setCell _ _ _ _ hk,Below.heap_setCell _ _ _ _ hk]
 refine⟨h.os,h.tape,h.output,by simpa using h.size,fun k hk hn=>?_,fun q' c' hc'=>?_,⟨_,s4,by simp[h2],fun j hj=>?_⟩⟩
 ·rw[hne k (fun e=>hn (by rw[e];exact hg))]
  exact h.far k hk hn
 ·obtain⟨cc,h4,h5⟩:=h.ints q' c' hc'
  refine⟨cc,?_,h5⟩
  rw[hne q' (fun e=>by
   subst e
   rw[h1] at h4
   simp at h4)]
  exact h4
 ·rw[set4_at]
  split
  ·rename_i e
   rw[e.1]
  ·exact h3 j hj
set_option maxHeartbeats 4000000 in
theorem hOver_any {W:World} {B gb cap:Nat} {mrv:Value} {avs:List Value} {g:Gf} (hm:Hg W B gb cap mrv avs g) (hn:g.nodes.length<=300) (hr:g.roots.length<=300) (ha:∀n∈g.nodes,n.args.length<=40) :
  Calls Tryz.prog 12 #[.agg #[.slice (some ⟨gb,0,none⟩) g.nodes.length cap,mrv]] W fun e w'=>e=.returned (.tuple #[])/\Ov (W.alloc (.cells #[.slice (some ⟨gb,0,none⟩) g.nodes.length cap,mrv] 25)) w' gb (blocks (.slice (some ⟨gb,0,none⟩) 0 0::mrv::avs)) (cap*4) g.nodes.length avs:=by
 have hrr:=hm.r.obj
 obtain⟨mq,mcc,rc0,rfl,hrq,hrle,hrs,_⟩:=hrr
 have hb0:=below_alloc W (.cells #[.slice (some ⟨gb,0,none⟩) g.nodes.length cap,.slice (some ⟨mq,0,none⟩) g.roots.length mcc] 25)
 have bx:=heap_alloc_new W (.cells #[.slice (some ⟨gb,0,none⟩) g.nodes.length cap,.slice (some ⟨mq,0,none⟩) g.roots.length mcc] 25)
 have hsz:(W.alloc (.cells #[.slice (some ⟨gb,0,none⟩) g.nodes.length cap,.slice (some ⟨mq,0,none⟩) g.roots.length mcc] 25)).heap.size=W.heap.size+1:=by simp
 have hrq1:=(hb0.block mq (lt_of_block hrq)).trans hrq
 have hargs:Hid (∀j,j<g.nodes.length->∃q c cur,avs.getD j undef=.slice (some ⟨q,0,none⟩) (g.nodes.getD j nd0).args.length c/\(W.alloc (.cells #[.slice (some ⟨gb,0,none⟩) g.nodes.length cap,.slice (some ⟨mq,0,none⟩) g.roots.length mcc] 25)).heap[q]?=some (.cells cur 3 (0,0))/\(g.nodes.getD j nd0).args.length<=cur.size/\q∈blocks (.slice (some ⟨gb,0,none⟩) 0 0 :: .slice (some ⟨mq,0,none⟩) g.roots.length mcc::avs)/\(g.nodes.getD j nd0).args.length<=40):=fun j hj=>by
  obtain⟨q,c,cur,h1,h2,h3,h4,_⟩:=(hm.a j hj).obj
  have hj':j<avs.length:=by rw[hm.len];exact hj
  refine⟨q,c,cur,h1,(hb0.block q (lt_of_block h2)).trans h2,by omega,List.mem_filterMap.2 ⟨avs.getD j undef,by simp[List.getD,hj'],by rw[h1];rfl⟩,ha (g.nodes.getD j nd0) (by simp[List.getD,hj])⟩
 have hbx:W.heap.size∉blocks (.slice (some ⟨gb,0,none⟩) 0 0 :: .slice (some ⟨mq,0,none⟩) g.roots.length mcc::avs):=fun h=>by
  obtain⟨v,hv,e⟩:=List.mem_filterMap.1 h
  rcases List.mem_cons.1 hv with rfl | hv
  ·have:=(hm.n.lt gb rfl).2
   have e':gb=W.heap.size:=by simpa[Value.ownBlock] using e
   omega
  ·rcases List.mem_cons.1 hv with rfl | hv
   ·have:=lt_of_block hrq
    have e':mq=W.heap.size:=by simpa[Value.ownBlock] using e
    omega
   ·obtain⟨j,hj,rfl⟩:=List.getElem_of_mem hv
    have h1:=(hm.a j (by rw[←hm.len];exact hj)).lt W.heap.size (by
     have:avs.getD j undef=avs[j]:=by simp[List.getD,hj]
     rw[this]
     exact e)
    omega
 have hgK:gb∈blocks (.slice (some ⟨gb,0,none⟩) 0 0 :: .slice (some ⟨mq,0,none⟩) g.roots.length mcc::avs):=List.mem_filterMap.2 ⟨.slice (some ⟨gb,0,none⟩) 0 0,by simp,rfl⟩
 have hqK:mq∈blocks (.slice (some ⟨gb,0,none⟩) 0 0 :: .slice (some ⟨mq,0,none⟩) g.roots.length mcc::avs):=List.mem_filterMap.2 ⟨.slice (some ⟨mq,0,none⟩) g.roots.length mcc,by simp,rfl⟩
 have hcap:=own_cap hm.n
 have h0:Hid (Ov (W.alloc (.cells #[.slice (some ⟨gb,0,none⟩) g.nodes.length cap,.slice (some ⟨mq,0,none⟩) g.roots.length mcc] 25)) (W.alloc (.cells #[.slice (some ⟨gb,0,none⟩) g.nodes.length cap,.slice (some ⟨mq,0,none⟩) g.roots.length mcc] 25)) gb (blocks (.slice (some ⟨gb,0,none⟩) 0 0 :: .slice (some ⟨mq,0,none⟩) g.roots.length mcc::avs)) (cap*4) g.nodes.length avs):=by
  obtain⟨cur,h1,h2,h3,_⟩:=own_obj hm.n
  refine⟨rfl,rfl,rfl,Nat.le_refl _,fun _ _ _=>rfl,fun q c h=>⟨c,h,rfl⟩,cur,(hb0.block gb (lt_of_block h1)).trans h1,h3,fun j hj=>?_⟩
  have h4:=(hm.node j hj).2.2.2
  rw[cell_of_row W gb _ _ _ _ h1] at h4
  exact h4
 generalize blocks (.slice (some ⟨gb,0,none⟩) 0 0 :: .slice (some ⟨mq,0,none⟩) g.roots.length mcc::avs)=K at hargs hbx hgK hqK h0 ⊢
 clear hm ha
 go_enter Tryz.func12,Tryz.ntmps12
 go_wp2
 obtain⟨W1,hW1⟩:∃W1,W1=W.alloc (.cells #[.slice (some ⟨gb,0,none⟩) g.nodes.length cap,.slice (some ⟨mq,0,none⟩) g.roots.length mcc] 25):=⟨_,rfl⟩
 rw[←hW1] at hb0 bx hsz hrq1 hargs h0 ⊢
 have hW1':=hid hW1
 clear hW1
 have hbox:Hid (∀w:World,Ov W1 w gb K (cap*4) g.nodes.length avs->w.heap[W.heap.size]?=some (.cells #[.slice (some ⟨gb,0,none⟩) g.nodes.length cap,.slice (some ⟨mq,0,none⟩) g.roots.length mcc] 25)):=fun w h=>(h.far _ (by omega) hbx).trans bx
 have hcell:Hid (∀(w:World) (j:Nat),Ov W1 w gb K (cap*4) g.nodes.length avs->j<g.nodes.length->w.cell? ⟨gb,j*4+3,none⟩=some (avs.getD j undef)):=fun w j h hj=>by
  obtain⟨cur,h1,_,h3⟩:=h.nodes
  rw[cell_of_row w gb _ _ _ _ h1]
  exact h3 j hj
 go_loopw [8] (fun i wr=>∃k:Nat,k<=g.nodes.length/\i=.int .i64 k/\Hid (Ov W1 wr gb K (cap*4) g.nodes.length avs)) (fun i _=>g.nodes.length-(intOf i).toNat)
 case atStart=>exact⟨0,Nat.zero_le _,rfl,h0⟩
 case round=>
  obtain⟨k,hk,rfl,hO⟩:=hrel
  clear h0
  by_cases hlt:k<g.nodes.length
  ·obtain⟨q,c,cur,hav,hq,hqs,hqK2,hq40⟩:=hargs.out k hlt
   obtain⟨⟨c0,c1⟩,_⟩:=blk2 (hbox.out wr hO.out)
   have d0:=hcell.out wr k hO.out hlt
   rw[hav] at d0
   generalize (g.nodes.getD k nd0).args.length=m at hav hqs d0 hq40
   have hO0:=hid hO
   go_wp2
   clear c0 c1 d0
   go_loopw [18] (fun i wr=>∃t:Nat,t<=m/\i=.int .i64 t/\Hid (Ov W1 wr gb K (cap*4) g.nodes.length avs)) (fun i _=>m-(intOf i).toNat)
   case atStart=>exact⟨0,Nat.zero_le _,rfl,hO0.out⟩
   case round=>
    clear hO hO0
    obtain⟨t,ht,rfl,hO⟩:=hrel
    obtain⟨⟨c0,c1⟩,_⟩:=blk2 (hbox.out wr hO.out)
    have d0:=hcell.out wr k hO.out hlt
    rw[hav] at d0
    by_cases hlt2:t<m
    ·obtain⟨cur',hq',hqs'⟩:=hO.out.ints q cur hq
     have e0:wr.cell? ⟨q,t,none⟩=some (cur'[t]'(by omega)):=by
      rw[cell_of_row wr q t _ _ _ hq',Array.getElem?_eq_getElem (by omega)]
     have e1:wr.frozen? ⟨q,t,none⟩=false:=by simp[World.frozen?,hq']
     have hO':=hid (Ov.setI (i:=t) hO.out hqK2 hq (.int .i64 (-9)))
     generalize cur'[t]'(by omega)=y at e0
     clear hO hq'
     go_wp2
     go_roundw
     case rel=>exact⟨t+1,by omega,congrArg (Value.int .i64) (by omega),hO'⟩
     case measure=>simp[intOf];omega
    ·obtain⟨ncur,hg1,hg2,_⟩:=hO.out.nodes
     have hcc:∀o,o<4->∃y,wr.cell? ⟨gb,k*4+o,none⟩=some y:=fun o ho=>by
      rw[cell_of_row wr gb _ _ _ _ hg1]
      exact⟨ncur[k*4+o]'(by omega),Array.getElem?_eq_getElem (by omega)⟩
     obtain⟨y0,x0⟩:=hcc 0 (by omega)
     obtain⟨y1,x1⟩:=hcc 1 (by omega)
     obtain⟨y2,x2⟩:=hcc 2 (by omega)
     rw[Nat.add_zero] at x0
     have z0:wr.frozen? ⟨gb,k*4,none⟩=false:=by simp[World.frozen?,hg1]
     have z1:wr.frozen? ⟨gb,k*4+1,none⟩=false:=by simp[World.frozen?,hg1]
     have z2:wr.frozen? ⟨gb,k*4+2,none⟩=false:=by simp[World.frozen?,hg1]
     have z3:wr.frozen? ⟨gb,k*4+3,none⟩=false:=by simp[World.frozen?,hg1]
     have hO':=hid (Ov.setN (i:=k) hO.out hgK (.int .i64 (-9)) (.string ⟨#[111,118,101,114]⟩) (.int .i64 0))
     rw[hav] at hO'
     clear hO hg1 hcc hargs
     go_wp2
     go_big_region
     go_wp2
     exact⟨⟨k+1,by omega,congrArg (Value.int .i64) (by omega),hO'.out.drew⟩,by simp[intOf];omega⟩
  ·obtain⟨⟨c0,c1⟩,_⟩:=blk2 (hbox.out wr hO.out)
   have hO0:=hid hO
   clear hargs hcell
   go_wp2
   clear c0 c1
   go_loopw [45] (fun i wr=>∃t:Nat,t<=g.roots.length/\i=.int .i64 t/\Hid (Ov W1 wr gb K (cap*4) g.nodes.length avs)) (fun i _=>g.roots.length-(intOf i).toNat)
   case atStart=>exact⟨0,Nat.zero_le _,rfl,hO0.out⟩
   case round=>
    clear hO hO0
    obtain⟨t,ht,rfl,hO⟩:=hrel
    by_cases hlt2:t<g.roots.length
    ·obtain⟨⟨c0,c1⟩,_⟩:=blk2 (hbox.out wr hO.out)
     obtain⟨cur',hq',hqs'⟩:=hO.out.ints mq rc0 hrq1
     have e0:wr.cell? ⟨mq,t,none⟩=some (cur'[t]'(by omega)):=by
      rw[cell_of_row wr mq t _ _ _ hq',Array.getElem?_eq_getElem (by omega)]
     have e1:wr.frozen? ⟨mq,t,none⟩=false:=by simp[World.frozen?,hq']
     have hO':=hid (Ov.setI (i:=t) hO.out hqK hrq1 (.int .i64 (-9)))
     generalize cur'[t]'(by omega)=y at e0
     clear hO hq'
     go_wp2
     go_roundw
     case rel=>exact⟨t+1,by omega,congrArg (Value.int .i64) (by omega),hO'⟩
     case measure=>simp[intOf];omega
    ·go_wp2
     go_end0
     exact⟨rfl,by rw[←hW1'.out];exact hO.out⟩
end Go.Proofs.YtbfbkmkjcekpaaaGreatDoor
namespace Go.Proofs.YtbfbkmkjcekpaaaGreatDoor
set_option maxRecDepth 100000
open Go.RowKit
theorem Hg.gr {w:World} {B gb cap:Nat} {rv:Value} {avs:List Value} {g:Gf} (h:Hg w B gb cap rv avs g):Gr w (.slice (some ⟨gb,0,none⟩) g.nodes.length cap) rv g:=by
 refine⟨⟨_,_,rfl,fun j hj=>?_⟩,h.r.ri⟩
 obtain⟨h0,h1,h2,h3⟩:=h.node j hj
 exact⟨gb,0,avs.getD j undef,rfl,by rw[Nat.zero_add];exact h0,by rw[Nat.zero_add];exact h1,by rw[Nat.zero_add];exact h2,by rw[Nat.zero_add];exact h3,(h.a j hj).ri⟩
theorem Hg.below {w w':World} {B gb cap:Nat} {rv:Value} {avs:List Value} {g:Gf} (h:Hg w B gb cap rv avs g) (hb:Below w.heap.size w w'):Hg w' B gb cap rv avs g:=
 ⟨own_below h.n hb,h.len,fun j hj=>(h.a j hj).below hb,h.r.below hb⟩
structure Ow (w:World) (B E:Nat) (nv rv:Value) (avs:List Value) (g:Gf):Prop where
 og:Og w B nv rv avs g
 be:B<=E
 hi:∀k∈blocks (rv::avs),k<E
theorem Ow.of {w:World} {B:Nat} {nv rv:Value} {avs:List Value} {g:Gf} (h:Og w B nv rv avs g) (hB:B<=w.heap.size):Ow w B w.heap.size nv rv avs g:=by
 refine⟨h,hB,fun k hk=>?_⟩
 obtain⟨v,hv,e⟩:=List.mem_filterMap.1 hk
 rcases List.mem_cons.1 hv with rfl | hv
 ·obtain⟨ro,rc,rfl,hr⟩:=h.r
  exact (hr.lt k e).2
 ·exact (h.on.lt k (List.mem_filterMap.2 ⟨v,by simp[hv],e⟩)).2
theorem Ow.lo {w:World} {B E:Nat} {nv rv:Value} {avs:List Value} {g:Gf} (h:Ow w B E nv rv avs g):∀k∈blocks (rv::avs),B<=k:=fun k hk=>by
 obtain⟨v,hv,e⟩:=List.mem_filterMap.1 hk
 rcases List.mem_cons.1 hv with rfl | hv
 ·obtain⟨ro,rc,rfl,hr⟩:=h.og.r
  exact (hr.lt k e).1
 ·exact (h.og.on.lt k (List.mem_filterMap.2 ⟨v,by simp[hv],e⟩)).1
theorem blocks_cons (v:Value) (l:List Value):blocks (v::l)=(match v.ownBlock with | some k=>[k] | none=>[])++blocks l:=by
 unfold blocks
 rw[List.filterMap_cons]
 split <;> rename_i h <;> simp[h]
theorem Ow.nd {w:World} {B E:Nat} {nv rv:Value} {avs:List Value} {g:Gf} (h:Ow w B E nv rv avs g):(blocks (rv::avs)).Nodup:=by
 have h1:=h.og.on.nd
 rw[blocks_cons,List.nodup_append] at h1
 rw[blocks_cons,List.nodup_append]
 refine⟨by split <;> simp,h1.2.1,fun a ha b hb e=>?_⟩
 subst e
 cases hr:rv.ownBlock with
 | none=>
  rw[hr] at ha
  simp at ha
 | some k=>
  rw[hr] at ha
  have e:a=k:=by simpa using ha
  subst e
  refine h.og.ap a hr ?_
  rw[blocks_cons]
  exact List.mem_append_right _ hb
theorem blocks_app (a b:List Value):blocks (a++b)=blocks a++blocks b:=by simp[blocks]
def Rov (w:World) (B:Nat) (v:Value):Prop:=∃l:List Int,l.length<=4900/\w.ownsRow B 3 1 v l.length (l.map (Value.int .i64))
theorem ap_of {w:World} {B:Nat} {vs:List Value} (h:∀v∈vs,Rov w B v):∃(n:Nat->Nat) (f:Nat->List Int),Ap w w B vs n f/\∀i,n i<=4900:=by
 have h1:∀i,∃l:List Int,l.length<=4900/\(i<vs.length->w.ownsRow B 3 1 (vs.getD i undef) l.length (l.map (Value.int .i64))):=fun i=>by
  by_cases hi:i<vs.length
  ·obtain⟨l,h2,h3⟩:=h (vs.getD i undef) (by simp[List.getD,hi])
   exact⟨l,h2,fun _=>h3⟩
  ·exact⟨[],by simp,fun h=>absurd h hi⟩
 refine⟨fun i=>(Classical.choose (h1 i)).length,fun i=>Classical.choose (h1 i),⟨rfl,rfl,rfl,Nat.le_refl _,fun _ _ _=>rfl,fun _ _=>rfl,fun i hi=>(Classical.choose_spec (h1 i)).2 hi⟩,fun i=>(Classical.choose_spec (h1 i)).1⟩
theorem Ow.ro {w:World} {B B' E:Nat} {nv rv:Value} {avs:List Value} {g:Gf} (h:Ow w B E nv rv avs g) (hB:B'<=B) (hr:g.roots.length<=4900) (ha:∀n∈g.nodes,n.args.length<=4900):∀v∈rv::avs,Rov w B' v:=fun v hv=>by
 rcases List.mem_cons.1 hv with rfl | hv
 ·obtain⟨ro,rc,rfl,h1⟩:=h.og.r
  exact⟨g.roots,hr,own_base h1 hB⟩
 ·obtain⟨j,hj,rfl⟩:=List.getElem_of_mem hv
  have hj':j<g.nodes.length:=by rw[←h.og.on.len];exact hj
  obtain⟨ao,c,h1,h2⟩:=h.og.on.a j hj'
  have e:avs.getD j undef=avs[j]:=by simp[List.getD,hj]
  rw[←e,h1]
  exact⟨(g.nodes.getD j nd0).args,ha _ (by simp[List.getD,hj']),own_base h2 hB⟩
theorem Ow.cells {w:World} {B E:Nat} {na:Option Addr} {N nc:Nat} {rv:Value} {avs:List Value} {g:Gf} (h:Ow w B E (.slice na N nc) rv avs g):Sl rv/\N=avs.length/\∀i,i<avs.length->Sl (avs.getD i undef)/\∃nb no k s n,na=some ⟨nb,no,none⟩/\w.cell? ⟨nb,no+i*4,none⟩=some (.int .i64 k)/\w.cell? ⟨nb,no+i*4+1,none⟩=some (.string s)/\w.cell? ⟨nb,no+i*4+2,none⟩=some (.int .i64 n)/\w.cell? ⟨nb,no+i*4+3,none⟩=some (avs.getD i undef):=by
 obtain⟨ro,rc,hrv,_⟩:=h.og.r
 obtain⟨ao,c,hn⟩:=h.og.nsl
 injection hn with e1 e2 e3
 subst e1 e2 e3
 have hl:=h.og.on.len
 refine⟨⟨ro,_,rc,hrv⟩,hl.symm,fun i hi=>?_⟩
 have hi':i<g.nodes.length:=by omega
 obtain⟨aa,ac,h1,_⟩:=h.og.on.a i hi'
 refine⟨⟨aa,_,ac,h1⟩,?_⟩
 rcases own_form h.og.on.n with⟨_,h0⟩ | ⟨q,cc,h2,h3⟩
 ·omega
 ·injection h2 with h2 _ _
  have hc:∀j u,(ncells g.nodes avs)[j]?=some u->w.cell? ⟨q,j,none⟩=some u:=fun j u hu=>by
   have:=h.og.on.n.cells (g:=q) h3 j u hu
   rw[Addr.add_lit,Nat.zero_add] at this
   exact this
  obtain⟨e0,e1,e2,e3⟩:=ncells_at g.nodes avs i hl hi'
  exact⟨q,0,_,_,_,h2,by rw[Nat.zero_add];exact hc _ _ e0,by rw[Nat.zero_add];exact hc _ _ e1,by rw[Nat.zero_add];exact hc _ _ e2,by rw[Nat.zero_add];exact hc _ _ e3⟩
theorem Hg.rng {w:World} {B gb cap:Nat} {rv:Value} {avs:List Value} {g:Gf} (h:Hg w B gb cap rv avs g):∀k∈blocks (.slice (some ⟨gb,0,none⟩) 0 0::rv::avs),B<=k/\k<w.heap.size:=fun k hk=>by
 obtain⟨v,hv,e⟩:=List.mem_filterMap.1 hk
 rcases List.mem_cons.1 hv with rfl | hv
 ·exact h.n.lt k e
 ·rcases List.mem_cons.1 hv with rfl | hv
  ·exact h.r.lt k e
  ·obtain⟨j,hj,rfl⟩:=List.getElem_of_mem hv
   exact (h.a j (by rw[←h.len];exact hj)).lt k (by
    have:avs.getD j undef=avs[j]:=by simp[List.getD,hj]
    rw[this]
    exact e)
theorem over_far {cur z:World} {o:Obj} {gb C N:Nat} {K:List Nat} {avs:List Value} (hO:Ov (cur.alloc o) z gb K C N avs):(z.os=cur.os/\z.tape=cur.tape/\z.output=cur.output/\cur.heap.size<=z.heap.size)/\∀k,k<cur.heap.size->k∉K->z.heap[k]?=cur.heap[k]?:=by
 have h1:=hO.size
 simp at h1
 refine⟨⟨hO.os,hO.tape,hO.output,by omega⟩,fun k hk hn=>?_⟩
 rw[hO.far k (by simp;omega) hn,Below.heap_alloc _ _ _ hk]
theorem apart_own {w:World} {B g z cap:Nat} {vs:List Value} (hz:vs.length=z) (hv:w.ownsRow B 23 1 (.slice (some ⟨g,0,none⟩) z cap) z vs) (hr:∀v∈vs,Rov w B v) (hnd:(blocks vs).Nodup) (hl:vs.length<=5000) (hB:B<=w.heap.size) :
  Calls Tryz.prog 18 #[.slice (some ⟨g,0,none⟩) z cap] w fun e w'=>e=.returned (.bool true)/\Af w w' vs:=by
 subst hz
 obtain⟨n,f,hA,hn⟩:=ap_of hr
 exact hApart_any hv hA (nd_of hnd) hn hl hB
theorem nd_one (v:Value):(blocks [v]).Nodup:=by
 unfold blocks
 rw[List.filterMap_cons]
 split <;> simp
theorem Rov.keep {w w':World} {B:Nat} {v:Value} (h:Rov w B v) (hk:∀k,v.ownBlock=some k->w'.heap[k]?=w.heap[k]?):Rov w' B v:=by
 obtain⟨l,hl,ho⟩:=h
 exact⟨l,hl,own_block ho hk⟩
end Go.Proofs.YtbfbkmkjcekpaaaGreatDoor
namespace Go.Proofs.YtbfbkmkjcekpaaaGreatDoor
set_option maxRecDepth 100000
open Go.RowKit
structure Ob (w:World) (E0:Nat) (vs:List Value):Prop where
 ro:∀v∈vs,Rov w E0 v
 rng:∀k∈blocks vs,E0<=k/\k<w.heap.size
 nd:(blocks vs).Nodup
theorem Ob.keep {w w':World} {E0:Nat} {vs:List Value} (h:Ob w E0 vs) (hs:w.heap.size<=w'.heap.size) (hk:∀k,E0<=k->k<w.heap.size->w'.heap[k]?=w.heap[k]?):Ob w' E0 vs:=
 ⟨fun v hv=>(h.ro v hv).keep (fun k ek=>by
  have:=h.rng k (List.mem_filterMap.2 ⟨v,hv,ek⟩)
  exact hk k this.1 this.2),fun k hk'=>⟨(h.rng k hk').1,by have:=(h.rng k hk').2;omega⟩,h.nd⟩
theorem nd_disS {a b:List Value} (ha:(blocks a).Nodup) (hb:(blocks b).Nodup) (h:∀x∈blocks a,∀y∈blocks b,x≠y):(blocks (a++b)).Nodup:=by
 rw[blocks_app,List.nodup_append]
 exact⟨ha,hb,h⟩
theorem Ob.add {w w':World} {E0:Nat} {vs us:List Value} (h:Ob w E0 vs) (hE:E0<=w.heap.size) (hb:Below w.heap.size w w') (ro:∀v∈us,Rov w' E0 v) (rng:∀k∈blocks us,w.heap.size<=k/\k<w'.heap.size) (nd:(blocks us).Nodup):Ob w' E0 (vs++us):=by
 have h':=h.keep hb.size (fun k _ hk=>hb.block k hk)
 refine⟨fun v hv=>?_,fun k hk=>?_,nd_disS h.nd nd (fun x hx y hy=>by have:=(h.rng x hx).2;have:=(rng y hy).1;omega)⟩
 ·rcases List.mem_append.1 hv with hv | hv
  ·exact h'.ro v hv
  ·exact ro v hv
 ·rw[blocks_app] at hk
  rcases List.mem_append.1 hk with hk | hk
  ·exact h'.rng k hk
  ·have:=rng k hk
   exact⟨by omega,this.2⟩
def Xg (E0:Nat) (T:Gf) (q:Nat) (a r:Option Addr) (k d:Nat) (av:List Value) (w:World):Prop:=
 E0<=q/\w.heap[q]?=some (.cells #[.slice a T.nodes.length k,.slice r T.roots.length d] 25)/\∃B,E0<=B/\B<=w.heap.size/\Og w B (.slice a T.nodes.length k) (.slice r T.roots.length d) av T
def Sbl (E0:Nat) (w w':World):Prop:=w.heap.size<=w'.heap.size/\∀k,E0<=k->k<w.heap.size->w'.heap[k]?=w.heap[k]?
theorem sblB {E0:Nat} {w w':World} (hb:Below w.heap.size w w'):Sbl E0 w w':=⟨hb.size,fun k _ hk=>hb.block k hk⟩
theorem Xg.keep {E0:Nat} {T:Gf} {q:Nat} {a r:Option Addr} {k d:Nat} {av:List Value} {w w':World} (h:Xg E0 T q a r k d av w) (hs:Sbl E0 w w'):Xg E0 T q a r k d av w':=by
 obtain⟨h1,h2,B,h3,h4,h5⟩:=h
 refine⟨h1,(hs.2 q h1 (lt_of_block h2)).trans h2,B,h3,Nat.le_trans h4 hs.1,h5.keep (fun k hk hk2=>hs.2 k (by omega) hk2)⟩
theorem Xg.gr {E0:Nat} {T:Gf} {q:Nat} {a r:Option Addr} {k d:Nat} {av:List Value} {w:World} (h:Xg E0 T q a r k d av w):Gr w (.slice a T.nodes.length k) (.slice r T.roots.length d) T:=by
 obtain⟨_,_,B,_,_,h5⟩:=h
 exact h5.gr
structure Ph (E0:Nat) (F:World->Prop) (vs:List Value) (w:World):Prop where
 f:F w
 st:∀w w',F w->Sbl E0 w w'->F w'
 ob:Ob w E0 vs
theorem Ph.addX {E0:Nat} {F:World->Prop} {vs:List Value} {w w1:World} {T:Gf} {a r:Option Addr} {k d:Nat} {av:List Value} (h:Ph E0 F vs w) (hE:E0<=w.heap.size) (hb:Below w.heap.size w w1) (ho:Og w1 w.heap.size (.slice a T.nodes.length k) (.slice r T.roots.length d) av T) (hT:T.roots.length<=4900/\∀n∈T.nodes,n.args.length<=4900) :
  Ph E0 (fun w=>F w/\Xg E0 T w1.heap.size a r k d av w) (vs++(.slice r T.roots.length d::av)) (w1.alloc (.cells #[.slice a T.nodes.length k,.slice r T.roots.length d] 25)):=by
 have hb2:=below_alloc w1 (.cells #[.slice a T.nodes.length k,.slice r T.roots.length d] 25)
 have hb3:=Below.next hb hb2
 have hs:=hb.size
 have hO:=Ow.of ho hs
 refine⟨⟨h.st _ _ h.f (sblB hb3),by omega,heap_alloc_new w1 _,w.heap.size,hE,by simp;omega,ho.below hb2⟩,fun w w' hf hs=>⟨h.st w w' hf.1 hs,hf.2.keep hs⟩,?_⟩
 refine (Ob.add h.ob hE hb (fun v hv=>hO.ro hE hT.1 hT.2 v hv) (fun k hk=>⟨hO.lo k hk,hO.hi k hk⟩) hO.nd).keep hb2.size (fun k _ hk=>hb2.block k hk)
abbrev lst1 (a1:Option Addr) (n1 k1:Nat) (r1:Option Addr) (m1 d1:Nat) (a2:Option Addr) (n2 k2:Nat) (r2:Option Addr) (m2 d2:Nat):Obj:=.cells #[.slice a1 n1 k1,.slice r1 m1 d1,.slice a2 n2 k2,.slice r2 m2 d2] 25
theorem lists2S {w:World} {s E0 q1 q2:Nat} {T:Gf} {a1 r1 a2 r2:Option Addr} {k1 d1 k2 d2:Nat} {v1 v2:List Value} (hs:w.heap[s]?=some (lst1 a1 T.nodes.length k1 r1 T.roots.length d1 a2 T.nodes.length k2 r2 T.roots.length d2)) (X1:Xg E0 T q1 a1 r1 k1 d1 v1 w) (X2:Xg E0 T q2 a2 r2 k2 d2 v2 w) (hT:T.nodes.length<=2000) :
  Calls Tryz.prog 19 #[.slice (some ⟨s,0,none⟩) 2 2] w fun e w'=>(∃ao c,e=.returned (.slice ao (flat [(.slice r1 T.roots.length d1,v1),(.slice r2 T.roots.length d2,v2)]).length c)/\w'.ownsRow w.heap.size 23 1 (.slice ao (flat [(.slice r1 T.roots.length d1,v1),(.slice r2 T.roots.length d2,v2)]).length c) (flat [(.slice r1 T.roots.length d1,v1),(.slice r2 T.roots.length d2,v2)]).length (flat [(.slice r1 T.roots.length d1,v1),(.slice r2 T.roots.length d2,v2)]))/\Below w.heap.size w w':=by
 obtain⟨_,_,B1,_,hB1,O1⟩:=X1
 obtain⟨_,_,B2,_,hB2,O2⟩:=X2
 have T1:=Ow.of O1 hB1
 have T2:=Ow.of O2 hB2
 have q1:=O1.on.len
 have q2:=O2.on.len
 obtain⟨l1,e1,n1⟩:=T1.cells
 obtain⟨l2,e2,n2⟩:=T2.cells
 have hfl:(flat [(.slice r1 T.roots.length d1,v1),(.slice r2 T.roots.length d2,v2)]).length<=5000:=by simp[flat];omega
 rw[e1] at hs
 have e3:v1.length=v2.length:=by omega
 refine hLists_any (L:=[(.slice r1 T.roots.length d1,v1),(.slice r2 T.roots.length d2,v2)]) ⟨_,_,_,rfl,fun j hj=>?_⟩ hfl (by simp)
 have hj':j=0∨j=1:=by simp at hj;omega
 rcases hj' with rfl | rfl
 ·exact⟨l1,by simp[World.cell?,hs],a1,k1,by simp[World.cell?,hs],n1⟩
 ·exact⟨l2,by simp[World.cell?,hs],a2,k2,by simp[World.cell?,hs,e3],n2⟩
theorem Ob.grown {W x z z4:World} {E0:Nat} {VS:List Value} {row:Option Nat} (ob:Ob x E0 VS) (hb:Below W.heap.size W x) (hE:W.heap.size<E0/\E0<=x.heap.size) (hbz:Below x.heap.size x z) (hrow:∀k,row=some k->x.heap.size<=k) (hg:z.grownBy z4 row):(∀v∈VS,Rov z4 E0 v)/\(blocks VS).Nodup/\(∀k∈blocks VS,E0<=k)/\Below x.heap.size x z4/\Below W.heap.size W z4/\E0<=z4.heap.size:=by
 have h1:Below x.heap.size x z4:=hbz.grown hg hbz.size hrow
 have h2:=ob.keep h1.size (fun k _ hk=>h1.block k hk)
 exact⟨h2.ro,h2.nd,fun k hk=>(h2.rng k hk).1,h1,Below.next hb h1,Nat.le_trans hE.2 h1.size⟩
theorem listsAt {x w:World} {s E0 q1 q2:Nat} {T:Gf} {a1 r1 a2 r2:Option Addr} {k1 d1 k2 d2:Nat} {v1 v2:List Value} {FL:List Value} (hFL:FL=flat [(.slice r1 T.roots.length d1,v1),(.slice r2 T.roots.length d2,v2)]) (hb:Below x.heap.size x w) (hE:E0<=x.heap.size) (hs:w.heap[s]?=some (lst1 a1 T.nodes.length k1 r1 T.roots.length d1 a2 T.nodes.length k2 r2 T.roots.length d2)) (X1:Xg E0 T q1 a1 r1 k1 d1 v1 x) (X2:Xg E0 T q2 a2 r2 k2 d2 v2 x) (hT:T.nodes.length<=2000) :
  Calls Tryz.prog 19 #[.slice (some ⟨s,0,none⟩) 2 2] w fun e w'=>(∃ao c,e=.returned (.slice ao FL.length c)/\w'.ownsRow E0 23 1 (.slice ao FL.length c) FL.length FL/\∀k,(Value.slice ao FL.length c).ownBlock=some k->x.heap.size<=k)/\Below x.heap.size x w'/\Below w.heap.size w w':=by
 subst hFL
 refine (lists2S hs (X1.keep (sblB hb)) (X2.keep (sblB hb)) hT).mono ?_
 rintro e w' ⟨⟨ao,c,rfl,h⟩,hb'⟩
 have hsz:=hb.size
 exact⟨⟨ao,c,rfl,own_base h (by omega),fun k ek=>by have:=(h.lt k ek).1;omega⟩,Below.next hb hb',hb'⟩
end Go.Proofs.YtbfbkmkjcekpaaaGreatDoor

/- CellsOwns: Put, Get and Look between calls, with what they answer. -/
import Derived.Deep.LoopGhost
import Derived.Deep.RegionHeld3
import Derived.WalkKit
import Derived.RangeFuncBox
import Derived.RangeFuncNested
import Derived.RangeFuncCalls
import Derived.RangeFuncLeaves
import Derived.Shelf.Abstract
import Derived.OwnWalkIn
import Derived.TacticsInMore
import Derived.LoopNIn
import Derived.LoopIn
import Derived.Deep.DeepCutAuto
import Derived.Test.YtpkojcfdkkjmcaaGreatDoorso31Z
import Derived.Test.YtpkojcfdkkjmcaaGreatDoorso32Z
import Derived.Test.YtpkojcfdkkjmcaaGreatDoorso25Z
import Derived.Test.YtpkojcfdkkjmcaaGreatDoorso17Z
import Derived.Test.YtpkojcfdkkjmcaaGreatDoorso05Z
import Derived.Test.YtpkojcfdkkjmcaaGreatDoorso27Z
import Derived.Test.YtpkojcfdkkjmcaaGreatDoorso08Z
import Derived.Test.YtpkojcfdkkjmcaaGreatDoorso29Z
import Derived.Test.YtpkojcfdkkjmcaaGreatDoorso03Z
import Derived.Test.YtpkojcfdkkjmcaaGreatDoorso01Z
import Derived.Test.YtpkojcfdkkjmcaaGreatDoorso15Z
import Derived.Test.YtpkojcfdkkjmcaaGreatDoorso37Z
import Derived.Test.YtpkojcfdkkjmcaaGreatDoorso11Z
import Derived.Test.YtpkojcfdkkjmcaaGreatDoorso34Z
import Derived.Test.YtpkojcfdkkjmcaaGreatDoorso02Z
import Derived.Test.YtpkojcfdkkjmcaaGreatDoorso06Z
import Derived.Test.YtpkojcfdkkjmcaaGreatDoorso38Z
import Derived.Test.YtpkojcfdkkjmcaaGreatDoorso30Z
import Derived.Test.YtpkojcfdkkjmcaaGreatDoorso24Z
import Derived.Test.YtpkojcfdkkjmcaaGreatDoorso36Z
import Derived.Test.YtpkojcfdkkjmcaaGreatDoorso12Z
import Derived.Test.YtpkojcfdkkjmcaaGreatDoorso10Z
import Derived.Test.YtpkojcfdkkjmcaaGreatDoorso07Z
namespace Go.Proofs.YtpkojcfdkkjmcaaGreatDoor
set_option maxRecDepth 100000
open Go.RowKit
section
variable {w:World} {B hb:Nat} {m:Int} {F:Nat->Prop} {s:Hst} {j:Nat}
def PutC (s:Hst) (g:Gf) (m:Int):Prop:=one (chk g)=[]/\(nsP s.ns g).length<=1024/\(s.l.length+wantJ g (metF g) (metF g).length:Int)<=m
def putHs (s:Hst) (g:Gf):Hst:=⟨wdP s.l s.ns g,nsP s.ns g,s.tr,s.pt,s.n⟩
theorem putc_yes (h:Hs w B hb m F s) (hB:B<=w.heap.size) (hs:Sj s j) {nv rv:Value} {g:Gf} {avs:Nat->Value} (hGk:∀w',Mo F w w'->Gra w' nv rv g avs) (hS:Sized g) (hc:PutC s g m) :
  Calls Tryz.prog 10 #[.pointer (some ⟨hb,0,none⟩),.agg #[nv,rv]] w fun e w'=>∃ao c,e=.returned (.tuple #[.slice ao g.roots.length c,.nilIface])/\w'.ownsRow w.heap.size 3 1 (.slice ao g.roots.length c) g.roots.length ((csL s.l.length g.roots.length).map (Value.int .i64))/\PmC (nsP s.ns g) g (metF g) s.l.length/\Sj (putHs s g) (j+1)/\Hs w' B hb m (fun k=>F k∨w.heap.size<=k) (putHs s g)/\Mo F w w':=by
 obtain⟨ab,tb,av,tv,tq,trv,ptv,hq,hf⟩:=h
 obtain⟨hck,hna,hro⟩:=hc
 have hg:=chk_good hck
 have hm2:=hq.hp.ar.m2
 have hpm:=pmc_ofG (ns:=s.ns) (b:=s.l.length) hg hna (by omega)
 have hfa:∀k∈hb::a_foot ab av,F k:=fun k hk=>by
  rcases List.mem_cons.1 hk with rfl | hk
  ·exact hf _ (mem_qfoot.2 (Or.inl rfl))
  ·exact hf _ (mem_qfoot.2 (Or.inr (Or.inl hk)))
 obtain⟨V,hV⟩:=hs.si.now.1
 refine (put_okG hq.hp hB (fun w' hm=>hGk w' (mo_of hm hfa)) hS hck hro hna (fun c hc=>hpm.may hc)).mono ?_
 rintro e w' ⟨ao,c,av',tb',tv',tq',rfl,ho,hp,hm,hx,ht⟩
 obtain⟨r1,r2⟩:=hq.rows hm (fun k hk hx=>by
  have:=hq.apart hx
  rcases List.mem_cons.1 hk with rfl | hk
  ·exact this.1 rfl
  ·exact this.2.1 hk)
 refine⟨ao,c,rfl,ho,hpm,?_,⟨ab,tb',av',tv',tq',trv,ptv,⟨hp,r1,r2⟩,foot_new hf hx (a_Nx.refl _ _) (a_Nx.refl _ _)⟩,mo_of hm hfa⟩
 exact (Stp.put (kd:=0) (a:=0) (s:=s) _ _ (wthJ_ge _ _ _ _) ⟨⟨_,put_snd hV hpm⟩,put_nsb hs.si.now.2 (wthJ_ge _ _ _ _) hpm⟩).sj hs
theorem csl_cell {l:List Int} {ns:List ByteArray} {g:Gf} (hpm:PmC (nsP ns g) g (metF g) l.length):∀x∈csL l.length g.roots.length,cellB (wdP l ns g) x=true:=fun x hx=>by
 obtain⟨i,hi,rfl⟩:=List.mem_map.1 hx
 have hi:=List.mem_range.1 hi
 have hr:=want_root (g:=g) (met:=metF g) (metF g).length
 have hpl:=putW_len (ns:=nsP ns g) (g:=g) (met:=metF g) (b:=l.length)
 have e:(wdP l ns g).getD (l.length+i) 0=cwX (nsP ns g) g (metF g) l.length (g.roots.getD i 0):=by
  have:=wd_nw (l:=l) (T:=putW (nsP ns g) g (metF g) l.length) (k:=l.length+i) (by omega)
  unfold wdN at this
  unfold wdP
  rw[this,show l.length+i-l.length=i by omega,putW_root hi]
 have ht:=(hpm.cw (hpm.root _ (getD_mem hi))).tag
 have hwl:(wdP l ns g).length=l.length+wantJ g (metF g) (metF g).length:=by unfold wdP;rw[List.length_append,putW_len]
 unfold cellB inB
 rw[Int.toNat_natCast,e]
 simp only[Bool.and_eq_true,decide_eq_true_eq]
 omega
end
end Go.Proofs.YtpkojcfdkkjmcaaGreatDoor
namespace Go.Proofs.YtpkojcfdkkjmcaaGreatDoor
set_option maxRecDepth 100000
open Go.RowKit
section
variable {w w':World} {B hb:Nat} {m:Int} {F:Nat->Prop} {s:Hst}
theorem Hs.avoid (h:Hs w B hb m F s) {B0 n:Nat} {v:Value} {xs:List Value} (hr:w.ownsRow B0 3 1 v n xs):Hs w B hb m (fun k=>F k/\v.ownBlock≠some k) s:=by
 obtain⟨ab,tb,av,tv,tq,trv,ptv,hq,hf⟩:=h
 refine⟨ab,tb,av,tv,tq,trv,ptv,hq,fun k hk=>⟨hf k hk,fun hv=>?_⟩⟩
 obtain⟨cs,hp⟩:=row_obj hr hv
 rcases mem_qfoot.1 hk with rfl | hk | hk | hk
 ·exact obj_ne hq.hp.blk hp (by decide) rfl
 ·rcases a_mem_foot.1 hk with rfl | hk
  ·exact obj_ne hq.hp.ar.blk hp (by decide) rfl
  ·obtain⟨cur,hc⟩:=row_obj hq.hp.ar.own hk
   exact obj_ne hc hp (by decide) rfl
 ·obtain⟨cur,hc⟩:=row_obj hq.tr hk
  exact obj_ne hc hp (by decide) rfl
 ·obtain⟨cur,hc⟩:=row_obj hq.pt hk
  exact obj_ne hc hp (by decide) rfl
end
end Go.Proofs.YtpkojcfdkkjmcaaGreatDoor
namespace Go.Proofs.YtpkojcfdkkjmcaaGreatDoor
set_option maxRecDepth 100000
open Go.RowKit
def gAll (g:Gf):Gf:=⟨g.nodes,(List.range g.nodes.length).map (fun (k:Nat)=>(k:Int))⟩
theorem gAll_len {g:Gf}:(gAll g).roots.length=g.nodes.length:=by simp[gAll]
structure Lai (nv:Value) (w1 wr:World) (k:Nat) (ao:Option Addr) (c:Nat):Prop where
 b:Below w1.heap.size w1 wr
 x:wr.heap[w1.heap.size]?=some (.cells #[nv,.slice ao k c] 38)
 o:wr.ownsRow (w1.heap.size+1) 3 1 (.slice ao k c) k (((List.range k).map (fun (i:Nat)=>(i:Int))).map (Value.int .i64))
theorem lai_start (nv:Value) (w1:World):Lai nv w1 (w1.alloc (.cells #[nv,.slice none 0 0] 38)) 0 none 0:=⟨below_alloc w1 _,heap_alloc_new w1 _,World.ownsRow_nil _ _ _ _⟩
theorem Lai.step {nv:Value} {w1 wr w6:World} {k c g6 cap6:Nat} {ao:Option Addr} {o:Obj} (h:Lai nv w1 wr k ao c) (hown:w6.ownsRow (w1.heap.size+1) 3 1 (.slice (some ⟨g6,0,none⟩) (k+1) cap6) (k+1) ((((List.range k).map (fun (i:Nat)=>(i:Int))).map (Value.int .i64))++[.int .i64 (k:Int)])) (hg:(wr.alloc o).grownBy w6 (Value.slice ao k c).ownBlock) :
  (w6.cell? ⟨w1.heap.size,1,none⟩=some (.slice ao k c)/\w6.frozen? ⟨w1.heap.size,1,none⟩=false/\w1.heap.size<w6.heap.size)/\Lai nv w1 (w6.setCell ⟨w1.heap.size,1,none⟩ (.slice (some ⟨g6,0,none⟩) (k+1) cap6)) (k+1) (some ⟨g6,0,none⟩) cap6:=by
 have hlt:=lt_of_block h.x
 have hx:w6.heap[w1.heap.size]?=some (.cells #[nv,.slice ao k c] 38):=(hg.block _ (by simp;omega) (fun e=>by have:=(h.o.lt _ e.symm).1;omega)).trans ((Below.heap_alloc _ _ _ hlt).trans h.x)
 have hb6:Below w1.heap.size w1 w6:=(h.b.alloc (by omega) o).grown hg (by simp;omega) (fun q e=>by have:=(h.o.lt q e).1;omega)
 refine⟨⟨by simp[World.cell?,hx],by simp[World.frozen?,hx],lt_of_block hx⟩,hb6.setCell (p:=⟨w1.heap.size,1,none⟩) (Nat.le_refl _) _,heap_setCell_same w6 w1.heap.size 1 _ _ _ hx,?_⟩
 rw[List.range_succ,List.map_append,List.map_append]
 refine row_keep hown (fun q hq=>Below.heap_setCell _ _ _ _ (fun e=>?_))
 have:=(hown.lt q hq).1
 have e':q=w1.heap.size:=e
 omega
theorem Lai.gra {W w1 wr w':World} {nv rv:Value} {g:Gf} {avs:Nat->Value} {ao:Option Addr} {c:Nat} {F:Nat->Prop} (h:Lai nv w1 wr g.nodes.length ao c) (hG:Gra W nv rv g avs) (hW:Below W.heap.size W w1) (hm:Mo F wr w') (hF:∀k,F k->W.heap.size<=k/\k<w1.heap.size):Gra w' nv (.slice ao g.nodes.length c) (gAll g) avs:=by
 have hb:Below W.heap.size W w':=(Below.trans hW (h.b.mono hW.size)).trans (hm.below (fun k hk=>(hF k hk).1) (Nat.le_trans hW.size h.b.size))
 obtain⟨⟨na,nc,e,hc⟩,_⟩:=hG.below hb
 refine⟨⟨na,nc,e,hc⟩,?_⟩
 have ho:w'.ownsRow (w1.heap.size+1) 3 1 (.slice ao g.nodes.length c) g.nodes.length ((gAll g).roots.map (Value.int .i64)):=row_keep h.o (fun q hq=>hm.block q (h.o.lt q hq).2 (fun hx=>by
  have:=(hF q hx).2
  have:=(h.o.lt q hq).1
  omega))
 have hl:=gAll_len (g:=g)
 rw[←hl] at ho ⊢
 exact Ri.ofOwn ho
section
variable {W:World} {nv rv:Value} {g:Gf}
set_option maxHeartbeats 8000000 in
theorem laid_ok (hG:Gr W nv rv g) (hS:Sized g) (hn:g.nodes.length<=4096) (z:Int) (z1:1<=z) (z2:z<=65536) (hc:PutC hs0 (gAll g) z) :
  Calls Tryz.prog 29 #[.agg #[nv,rv],.int .i64 z] W fun e w'=>(∃(hb:Nat) (F:Nat->Prop) (ao:Option Addr) (c:Nat),e=.returned (.tuple #[.pointer (some ⟨hb,0,none⟩),.slice ao g.nodes.length c])/\w'.ownsRow W.heap.size 3 1 (.slice ao g.nodes.length c) g.nodes.length ((csL 0 g.nodes.length).map (Value.int .i64))/\Hs w' W.heap.size hb z F (putHs hs0 (gAll g))/\(∀k,F k->W.heap.size<=k/\(Value.slice ao g.nodes.length c).ownBlock≠some k)/\Sj (putHs hs0 (gAll g)) 1/\PmC (nsP [] (gAll g)) (gAll g) (metF (gAll g)) 0)/\Below W.heap.size W w':=by
 obtain⟨i0,hi,hz0,hz1,hz2⟩:=info_parts infoI
 obtain⟨avs,hA⟩:=gra_of hG
 have hbx:=hid (below_alloc W (.cells #[nv,rv] 38))
 have hx0:=hid (heap_alloc_new W (.cells #[nv,rv] 38))
 have hnw:=hid (hnew_ok z (W.alloc (.cells #[nv,rv] 38)) W.heap.size (by simp) z1 z2)
 have HA:=hid hA
 have HC:=hid hc
 have HSz:Hid (Sized (gAll g)):=hS
 obtain⟨na,nc,hnv,_⟩:=hG.1
 obtain⟨ra,rc,hrv,_⟩:=hG.2
 subst hnv hrv
 clear hG hS hc hA
 go_enter Tryz.func29,Tryz.ntmps29
 go_wp2_with (go_at_call 7;refine hnw.out.mono ?_;rintro e w1 ⟨⟨hb,ab,tb,tq,rfl,hH,y1,y2,y3,y4⟩,hb1⟩;have HH:=hid hH;have Hb1:=hid (Below.next hbx.out hb1);have HX1:=hid ((hb1.block _ (by simp)).trans hx0.out);have Hy:=hid (And.intro y1 (And.intro y2 y3));obtain⟨⟨x0,x1⟩,_⟩:=cblk2 HX1.out;have x2:=lt_of_block HX1.out;clear hH hb1 y1 y2 y3 y4)
 have HL0:=hid (lai_start (.slice na g.nodes.length nc) w1)
 have hns:g.nodes.length<=4096:=hn
 clear x0 x1 x2
 go_loopw [9,28] (fun _ s28 wr=>∃(k:Nat) (ao:Option Addr) (c:Nat),s28=.int .i64 (k:Int)/\k<=g.nodes.length/\Hid (Lai (.slice na g.nodes.length nc) w1 wr k ao c)) (fun _ s28 _=>g.nodes.length-(intOf s28).toNat)
 case atStart=>exact⟨0,none,0,rfl,Nat.zero_le _,HL0⟩
 case round=>
  obtain⟨k,ao,c,rfl,hk,hL⟩:=hrel
  clear HL0
  by_cases hlt:k<g.nodes.length
  ·have hkz:(k:Int)<(g.nodes.length:Int):=by omega
   obtain⟨⟨x0,x1⟩,_⟩:=cblk2 hL.out.x
   have x2:=lt_of_block hL.out.x
   have hown:=World.ownsRow.alloc hL.out.o (.cells #[.int .i64 (k:Int)] 3)
   have hnw2:=heap_alloc_new wr (.cells #[.int .i64 (k:Int)] 3)
   have hkm:k+1<=maxLen:=by unfold maxLen;omega
   have hws:w1.heap.size+1<=wr.heap.size:=x2
   go_wp2_with (at_builtin;refine wpList_append_lies _ rfl _ _ 36 rfl (w1.heap.size+1) 3 i0 (.int .i64 0) 1 8 Tryz.underlying36 hi hz0 hz1 hz2 rfl (by decide) _ k _ rfl hown ⟨wr.heap.size,0,none⟩ 1 1 [.int .i64 (k:Int)] rfl rfl (World.news_of_block (cs:=#[.int .i64 (k:Int)]) (t:=3) (fr:=(0,0)) hnw2) (by simp[Value.oneCell']) (by decide) (by omega) (by omega) (by simp;omega) _ rfl ?_;intro g6 cap6 w6 hown6 hg6 hat6 hlt6;obtain⟨⟨q0,q1,q2⟩,hN⟩:=hL.out.step hown6 hg6;have HN:=hid hN;clear hown6 hg6 hat6 hlt6 hN)
   go_roundw
   case rel=>exact⟨k+1,some ⟨g6,0,none⟩,cap6,congrArg (Value.int .i64) (by omega),by omega,HN⟩
   case measure=>simp[intOf];omega
  ·obtain rfl:k=g.nodes.length:=by omega
   obtain⟨⟨x0,x1⟩,_⟩:=cblk2 hL.out.x
   have x2:=lt_of_block hL.out.x
   have hz1w:W.heap.size+1<=w1.heap.size:=by
    have:=Hb1.out.size
    have:=lt_of_block HX1.out
    omega
   have hF0:∀k,(W.heap.size+1<=k/\k<w1.heap.size)->W.heap.size<=k/\k<w1.heap.size:=fun k hk=>⟨by omega,hk.2⟩
   have HS0:Hid (Hs wr W.heap.size hb z (fun k=>W.heap.size+1<=k/\k<w1.heap.size) hs0):=Hs.below ⟨ab,tb,.slice none 0 0,.slice none 0 0,tq,.slice none 0 0,.slice none 0 0,⟨HH.out,World.ownsRow_nil _ _ _ _,World.ownsRow_nil _ _ _ _⟩,fun k hk=>by
    have y9:(W.alloc (.cells #[.slice na g.nodes.length nc,.slice ra g.roots.length rc] 38)).heap.size=W.heap.size+1:=by simp
    have y1:=Hy.out.1
    have y2:=Hy.out.2.1
    rw[y9] at y1 y2
    rcases mem_qfoot.1 hk with rfl | hk | hk | hk
    ·exact⟨y1,lt_of_block HH.out.blk⟩
    ·rcases a_mem_foot.1 hk with rfl | hk
     ·exact⟨y2,lt_of_block HH.out.ar.blk⟩
     ·simp[Value.ownBlock] at hk
    ·simp[Value.ownBlock] at hk
    ·simp[Value.ownBlock] at hk⟩ hL.out.b
   have hput:=hid (putc_yes HS0.out (by have:=hL.out.b.size;omega) sj0 (fun w' hm=>hL.out.gra HA.out Hb1.out hm hF0) HSz.out HC.out)
   have hbz:=hid (Below.trans Hb1.out (hL.out.b.mono Hb1.out.size))
   have hbx:Hid (wr.heap[W.heap.size]?=some (.cells #[.slice na g.nodes.length nc,.slice ra g.roots.length rc] 38)):=(hL.out.b.block _ (lt_of_block HX1.out)).trans HX1.out
   rw[gAll_len] at hput
   clear hL HA HC HSz HX1
   go_wp2_with (go_at_call 10;refine hput.out.mono ?_;rintro e w5 ⟨ao5,c5,rfl,ho5,hpm,hsj,hh5,hm5⟩;have HX5:=hid ((hm5.block _ (lt_of_block hbx.out) (fun h9=>by have h9':W.heap.size+1<=W.heap.size:=h9.1;omega)).trans hbx.out);have HR:=hid (And.intro ho5 (And.intro hpm (And.intro hsj (And.intro hh5 hm5))));clear ho5 hpm hsj hh5 hm5 x0 x1 x2;obtain⟨⟨x0,x1⟩,_⟩:=cblk2 HX5.out;have x2:=lt_of_block HX5.out)
   go_ret2
   obtain⟨ho5,hpm,hsj,hh5,hm5⟩:=HR.out
   have hzw:=hbz.out.size
   refine⟨⟨hb,_,ao5,c5,rfl,own_base ho5 hzw,hh5.avoid ho5,fun k hk=>⟨?_,hk.2⟩,hsj,hpm⟩,Below.trans hbz.out (hm5.below (fun k hk=>by have h9:=hk.1;omega) hzw)⟩
   rcases hk.1 with h9 | h9
   ·have h8:=h9.1
    omega
   ·omega
end
end Go.Proofs.YtpkojcfdkkjmcaaGreatDoor
namespace Go.Proofs.YtpkojcfdkkjmcaaGreatDoor
set_option maxRecDepth 100000
open Go.RowKit
structure Rts (N:Nat) (rs:List Int) (A:Gf) (r:Nat->Nat):Prop where
 len:A.roots.length=N+rs.length
 nd:∀x,x<N->A.roots.getD x 0=((r x:Nat):Int)
 rt:∀i,i<rs.length->A.roots.getD (N+i) 0=((r (rs.getD i 0).toNat:Nat):Int)
theorem var_lab {N:Nat} {m n:Nd} (hm:goodNd N m=true) {M:Nat} (hn:goodNd M n=true) (h1:m.kind=1) (h2:n.kind=1):labS m n:=by
 unfold goodNd at hm hn
 rw[if_pos h1] at hm
 rw[if_pos h2] at hn
 simp only[Bool.and_eq_true,decide_eq_true_eq] at hm hn
 exact⟨h1.trans h2.symm,str_eq (hm.1.1.trans hn.1.1.symm),hm.1.2.trans hn.1.2.symm,hm.2.trans hn.2.symm⟩
theorem good_nd {g:Gf} (hg:Good g) {x:Nat} (hx:x<g.nodes.length):goodNd g.nodes.length (ndN g.nodes x)=true:=hg.node _ (by simp[ndN,List.getD,hx])
theorem rst_var {ns:List Nd} {P:List (Nat×Nat)} {E:Nat->Nat} (hU:Un ns P E []) {x y:Nat} (hv:(ndN ns (E x)).kind=1) (h:Rst ns (fun x y=>E x=E y) x y):E x=E y:=by
 rcases rst_bs ns _ x y h with h1 | ⟨u1,v1,a1,a2,a3,a4,a5,a6,_⟩
 ·exact h1
 ·obtain⟨b,_⟩:=hU.rep u1 a1 a5
  have a3':E x=E u1:=a3
  rw[←a3'] at b
  exact absurd hv b
theorem Hm.step {g:Gf} (hg:Good g) {P:List (Nat×Nat)} {E E':Nat->Nat} (hU:Un g.nodes P E []) {A:Gf} (hAg:Good A) {r:Nat->Nat} (h:Hm g.nodes E A r) (hPn:∀p∈P,p.1<g.nodes.length/\p.2<g.nodes.length) {rs:List Int} (hrs:∀z∈rs,0<=z/\z<(g.nodes.length:Int)) (hR:Rts g.nodes.length rs A r) {a b:Nat} (ha:a<g.nodes.length) (hb:b<g.nodes.length)
  (hU':Un g.nodes (P++[(a,b)]) E' []) {F:Nat->Nat} (hF:Un A.nodes [(r a,r b)] F []) {ee:Nat->Nat->Bool} (hd:∀x y:Nat,(ee x y=true↔Al (gE A.nodes A.roots F) (x:Int) (y:Int))) :
  ∃r',Hm g.nodes E' (trimF (quoF ee (gE A.nodes A.roots F))) r'/\Rts g.nodes.length rs (trimF (quoF ee (gE A.nodes A.roots F))) r':=by
 have hA:=goodA_of hg
 have hAA:=goodA_of hAg
 have hB:=gE_good hAg hF.rng
 have hlB:(gE A.nodes A.roots F).nodes.length=A.nodes.length:=by simp[gE]
 obtain⟨hC',hp',hm'⟩:=hU'.done
 obtain⟨hCF,hpF,hmF⟩:=hF.done
  -- what is one by E' is one by F
 have M2:∀x y,x<g.nodes.length->y<g.nodes.length->E' x=E' y->F (r x)=F (r y):=fun x y hx hy e=>by
  obtain⟨c1,c2⟩:=h.dn hA hU hCF hPn
  have h3:=hm' _ c1 (fun p hq=>by
   rcases List.mem_append.1 hq with e | e
   ·exact c2 p e
   ·have e1:p=(a,b):=by simpa using e
    subst e1
    exact Or.inr ⟨ha,hb,hpF (r a,r b) (by simp)⟩) x y e
  rcases h3 with e | ⟨_,_,e⟩
  ·rw[e]
  ·exact e
  -- what is one by F is so by E'
 have hup:=h.up hA hU hC' (fun p hq=>hp' p (by simp[hq]))
 have M1:∀y z,F y=F z->upR g.nodes (fun x y=>E' x=E' y) r y z:=fun y z e=>hmF _ hup (fun p hq=>by
  have e1:p=(r a,r b):=by simpa using hq
  subst e1
  exact Or.inr ⟨a,b,ha,hb,rfl,rfl,Rst.of (hp' (a,b) (by simp))⟩) y z e
 have hEE:∀x y,E x=E y->E' x=E' y:=fun x y e=>hU.done.2.2 _ hC' (fun p hq=>hp' p (by simp[hq])) x y e
  -- variables stay variables
 have hvar:∀x,x<g.nodes.length->(ndN g.nodes (E' x)).kind=1->(ndN A.nodes (F (r x))).kind=1:=fun x hx hv=>by
  apply Classical.byContradiction
  intro hnv
  have hFr:=hF.rng _ (h.rng x hx)
  have hz:∃w,w<g.nodes.length/\F (r x)=r w/\Rst g.nodes (fun x y=>E' x=E' y) x w:=by
   rcases M1 (r x) (F (r x)) (hF.idem _).symm with e | ⟨x1,x2,b1,b2,b3,b4,b5⟩
   ·exact⟨x,hx,e.symm,Rst.of rfl⟩
   ·exact⟨x2,b2,b4,(rst_cg hC').trans _ _ _ (h.rst hA hU hC' (fun p hq=>hp' p (by simp[hq])) hx b1 b3) b5⟩
  obtain⟨w,hw,e,hst⟩:=hz
  have e1:=rst_var hU' hv hst
  have lw:=h.lab w hw
  rw[e,←lw.1] at hnv
  obtain⟨c,_⟩:=hU'.rep (E w) (hU.rng w hw) hnv
  have e2:E' (E w)=E' w:=hEE _ _ (hU.idem w)
  rw[e2,←e1] at c
  exact c hv
  -- labels and arguments
 have hnon:∀x,x<g.nodes.length->(ndN g.nodes (E' x)).kind≠1->labS (ndN g.nodes (E' x)) (ndN A.nodes (F (r x)))/\∀k,k<(ndN g.nodes (E' x)).args.length->F (argN A.nodes (F (r x)) k)=F (r (argN g.nodes (E' x) k)):=fun x hx hnv=>by
  have hX:=hU'.rng x hx
  have e1:F (r x)=F (r (E' x)):=M2 x (E' x) hx hX (hU'.idem x).symm
  obtain⟨c1,c2,_⟩:=hU.rep (E' x) hX hnv
  have l1:=h.lab (E' x) hX
  have hrX:=h.rng (E' x) hX
  have k1:(ndN A.nodes (r (E' x))).kind≠1:=by rw[←l1.1];exact c1
  obtain⟨d1,d2,_⟩:=hF.rep (r (E' x)) hrX k1
  refine⟨(c2.trans l1).trans (by rw[e1];exact d2),fun k hk=>?_⟩
  have hk1:k<(ndN g.nodes (E (E' x))).args.length:=by rw[←c2.2.2.2];exact hk
  have hk2:k<(ndN A.nodes (r (E' x))).args.length:=by rw[←l1.2.2.2];exact hk1
  have s1:=(hCF.lab (r (E' x)) (F (r (E' x))) hrX (hF.rng _ hrX) (hF.idem _).symm k1 d1).2 k hk2
  rw[e1,←s1,h.arg (E' x) hX k hk1]
  have hEX:=hU.rng _ hX
  refine M2 _ _ (hA.arg _ hEX k hk1).2 (hA.arg _ hX k hk).2 ?_
  exact (hC'.lab (E (E' x)) (E' x) hEX hX (hEE _ _ (hU.idem _)) c1 hnv).2 k hk1
 have hroot:∀x,x<g.nodes.length->((F (r x):Nat):Int)∈metF (gE A.nodes A.roots F):=fun x hx=>by
  have hi:x<(gE A.nodes A.roots F).roots.length:=by simp[gE];rw[hR.len];omega
  have:=metF_root hB hi
  have e:(gE A.nodes A.roots F).roots.getD x 0=((F (r x):Nat):Int):=by
   have hi':x<A.roots.length:=by rw[hR.len];omega
   have h2:=hR.nd x hx
   simp[gE,List.getD,hi'] at h2 ⊢
   rw[h2]
   simp[EI]
  rw[e] at this
  exact this
 have hnn:∀x,x<g.nodes.length->0<=lstI ee (gE A.nodes A.roots F) ((F (r x):Nat):Int)/\lstI ee (gE A.nodes A.roots F) ((F (r x):Nat):Int)<((trimF (quoF ee (gE A.nodes A.roots F))).nodes.length:Int):=fun x hx=>least_rng hB hd (hroot x hx)
 have hcast:∀x,x<g.nodes.length->(((lstI ee (gE A.nodes A.roots F) ((F (r x):Nat):Int)).toNat:Nat):Int)=lstI ee (gE A.nodes A.roots F) ((F (r x):Nat):Int):=fun x hx=>by have:=(hnn x hx).1;omega
 have hnd:∀x,x<g.nodes.length->ndN (trimF (quoF ee (gE A.nodes A.roots F))).nodes (lstI ee (gE A.nodes A.roots F) ((F (r x):Nat):Int)).toNat=renum (lstI ee (gE A.nodes A.roots F)) (renum (EI F) (ndN A.nodes (F (r x)))):=fun x hx=>by
  rw[←nd_N,hcast x hx,least_nd hB hd (hroot x hx),gE_nd (hF.rng _ (h.rng x hx))]
 have hlab:∀x,x<g.nodes.length->labS (ndN g.nodes (E' x)) (ndN A.nodes (F (r x))):=fun x hx=>by
  by_cases hv:(ndN g.nodes (E' x)).kind=1
  ·exact var_lab (good_nd hg (hU'.rng x hx)) (good_nd hAg (hF.rng _ (h.rng x hx))) hv (hvar x hx hv)
  ·exact (hnon x hx hv).1
 refine⟨fun x=>(lstI ee (gE A.nodes A.roots F) ((F (r x):Nat):Int)).toNat,⟨fun x hx=>?_,fun x y hx hy e=>?_,fun x hx=>?_,fun x hx k hk=>?_,fun x y hx hy hv e=>?_⟩,⟨?_,fun x hx=>?_,fun i hi=>?_⟩⟩
 ·have:=hnn x hx
  show (lstI ee (gE A.nodes A.roots F) ((F (r x):Nat):Int)).toNat<_
  omega
 ·show Int.toNat _=Int.toNat _
  rw[M2 x y hx hy e]
 ·show labS _ (ndN _ (Int.toNat _))
  rw[hnd x hx]
  obtain⟨l1,l2,l3,l4⟩:=hlab x hx
  exact⟨l1,l2,l3,by simpa[renum] using l4⟩
 ·show argN _ (Int.toNat _) k=Int.toNat _
  have hnv:(ndN g.nodes (E' x)).kind≠1:=fun hv=>by rw[hA.var _ hv] at hk;simp at hk
  have hk2:k<(ndN A.nodes (F (r x))).args.length:=by rw[←(hlab x hx).2.2.2];exact hk
  have h2:=(hnon x hx hnv).2 k hk
  have h3:=(hAA.arg _ (hF.rng _ (h.rng x hx)) k hk2)
  unfold argN at h2 ⊢
  rw[hnd x hx]
  simp[renum,List.getD,hk2,EI] at h2 ⊢
  rw[h2]
 ·have e1:lstI ee (gE A.nodes A.roots F) ((F (r x):Nat):Int)=lstI ee (gE A.nodes A.roots F) ((F (r y):Nat):Int):=by
   have e':(lstI ee (gE A.nodes A.roots F) ((F (r x):Nat):Int)).toNat=(lstI ee (gE A.nodes A.roots F) ((F (r y):Nat):Int)).toNat:=e
   have:=(hnn x hx).1
   have:=(hnn y hy).1
   omega
  have hal:=(least_al hB hd (hroot x hx) (hroot y hy)).1 e1
  have hkv:((gE A.nodes A.roots F).nd ((F (r x):Nat):Int)).kind=1:=by
   rw[gE_nd (hF.rng _ (h.rng x hx))]
   exact hvar x hx hv
  have e2:=(al_sim _ _ _ hal).2.2.1.2.2.2.2 hkv
  have e3:F (r x)=F (r y):=by omega
  rcases M1 (r x) (r y) e3 with e4 | ⟨x1,x2,b1,b2,b3,b4,b5⟩
  ·exact rst_var hU' hv (h.rst hA hU hC' (fun p hq=>hp' p (by simp[hq])) hx hy e4)
  ·have q1:=h.rst hA hU hC' (fun p hq=>hp' p (by simp[hq])) hx b1 b3
   have q2:=h.rst hA hU hC' (fun p hq=>hp' p (by simp[hq])) b2 hy b4.symm
   exact rst_var hU' hv ((rst_cg hC').trans _ _ _ q1 ((rst_cg hC').trans _ _ _ b5 q2))
 ·rw[least_root]
  simp[gE]
  exact hR.len
 ·have hi':x<A.roots.length:=by rw[hR.len];omega
  have h2:=hR.nd x hx
  rw[hcast x hx,least_root]
  simp[gE,List.getD,hi'] at h2 ⊢
  rw[h2]
  simp[EI]
 ·have hi':g.nodes.length+i<A.roots.length:=by rw[hR.len];omega
  have h2:=hR.rt i hi
  have hz:=hrs (rs.getD i 0) (getD_mem hi)
  rw[hcast _ (by omega),least_root]
  simp[gE,List.getD,hi'] at h2 ⊢
  rw[h2]
  simp[EI]
theorem Hm.fin {g:Gf} (hg:Good g) {ps:List (Int×Int)} {E:Nat->Nat} (hU:Un g.nodes (ps.map natP) E []) {A:Gf} (hAg:Good A) {r:Nat->Nat} (h:Hm g.nodes E A r) (hR:Rts g.nodes.length g.roots A r) {t:Gf} (ht:LeastS g ps t) {e2:Nat->Nat->Bool} (hd2:∀x y:Nat,(e2 x y=true↔Al ⟨A.nodes,A.roots.drop g.nodes.length⟩ (x:Int) (y:Int))):trimF (quoF e2 ⟨A.nodes,A.roots.drop g.nodes.length⟩)=t:=by
 obtain⟨ee,hd⟩:=al_dec (gE g.nodes g.roots E)
 have hu:=leastS_uniq hg (qs:=ps) (fun R hR=>Iff.rfl) ht ⟨E,ee,hU,hd,rfl⟩
 rw[hu]
 have hA:=goodA_of hg
 have hgE:=gE_good hg hU.rng
 have hlE:(gE g.nodes g.roots E).nodes.length=g.nodes.length:=by simp[gE]
 have hgD:Good ⟨A.nodes,A.roots.drop g.nodes.length⟩:=⟨hAg.nodes,by have:=hAg.roots;simp;omega,hAg.node,fun z hz=>hAg.root z (List.mem_of_mem_drop hz)⟩
 refine (Pr.least hgE hgD hd hd2 (R:=fun u v=>∃x,x<g.nodes.length/\u=((E x:Nat):Int)/\v=((r x:Nat):Int)) ⟨?_,?_,?_,?_,?_,?_,?_⟩).symm
 ·rintro u v ⟨x,hx,rfl,rfl⟩
  have:=hU.rng x hx
  have:=h.rng x hx
  exact⟨⟨by omega,by rw[hlE];omega⟩,by omega,by show _<(A.nodes.length:Int);omega⟩
 ·rintro u v ⟨x,hx,rfl,rfl⟩
  rw[gE_nd (hU.rng x hx),nd_N]
  obtain⟨l1,l2,l3,l4⟩:=h.lab x hx
  exact⟨l1,l2,l3,by simpa[renum] using l4⟩
 ·rintro u v ⟨x,hx,rfl,rfl⟩ k hk
  have hEx:=hU.rng x hx
  rw[gE_nd hEx] at hk
  have hk1:k<(ndN g.nodes (E x)).args.length:=by simpa[renum] using hk
  have hk2:k<(ndN A.nodes (r x)).args.length:=by rw[←(h.lab x hx).2.2.2];exact hk1
  refine⟨argN g.nodes (E x) k,(hA.arg _ hEx k hk1).2,?_,?_⟩
  ·unfold Gf.arg
   rw[gE_nd hEx]
   simp[renum,List.getD,hk1,EI,argN]
  ·rw[←h.arg x hx k hk1]
   unfold Gf.arg argN
   rw[nd_N]
   have:=((goodA_of hAg).arg _ (h.rng x hx) k hk2).1
   show (ndN A.nodes (r x)).args.getD k 0=_
   omega
 ·rintro u v v' ⟨x,hx,rfl,rfl⟩ ⟨x',hx',e,rfl⟩ _
  rw[h.ker x x' hx hx' (by omega)]
 ·rintro u u' v ⟨x,hx,rfl,rfl⟩ ⟨x',hx',rfl,e⟩ hk
  have e1:r x=r x':=by omega
  rw[nd_N] at hk
  have hkv:(ndN g.nodes (E x)).kind=1:=by rw[(h.lab x hx).1];exact hk
  rw[h.var x x' hx hx' hkv e1]
 ·have:=hR.len
  simp[gE]
  omega
 ·intro i hi
  have hi':i<g.roots.length:=by simpa[gE] using hi
  have hr:=hg.root (g.roots.getD i 0) (getD_mem hi')
  refine⟨(g.roots.getD i 0).toNat,by omega,?_,?_⟩
  ·simp[gE,List.getD,hi',EI]
  ·rw[←hR.rt i hi']
   simp[List.getD]
end Go.Proofs.YtpkojcfdkkjmcaaGreatDoor

/- What the reference of layer 3 does, each at every argument: Find, Put, Same, and the question whether an error is just a fault. -/
import Derived.Shelf.Abstract
import Derived.Test.YtpkojcfdkkjmcaaGreatDoorso03Z
import Derived.Test.YtpkojcfdkkjmcaaGreatDoorso02Z
namespace Go.Proofs.YtpkojcfdkkjmcaaGreatDoor
set_option maxRecDepth 100000
open Go.RowKit Go.Maps
theorem n_own_below {w w':World} {B:Nat} {e:TypeId} {v:Value} {n:Nat} {xs:List Value} (h:w.ownsRow B e 1 v n xs) (hm:Below w.heap.size w w'):w'.ownsRow B e 1 v n xs:=own_keep (ks:=[]) h (n_Mod.ofBelow hm) (by simp)
end Go.Proofs.YtpkojcfdkkjmcaaGreatDoor
namespace Go.Proofs.YtpkojcfdkkjmcaaGreatDoor
set_option maxRecDepth 100000
open Go.RowKit
def Rp (w:World) (v:Value) (l:List (Int×Int)):Prop:=
 ∃ao c,v=.slice ao l.length c/\∀j,j<l.length->∃b o,ao=some ⟨b,o,none⟩/\w.cell? ⟨b,o+j*2,none⟩=some (.int .i64 (l.getD j (0,0)).1)/\w.cell? ⟨b,o+j*2+1,none⟩=some (.int .i64 (l.getD j (0,0)).2)
theorem Rp.below {w w':World} {v:Value} {l:List (Int×Int)} (h:Rp w v l) (hb:Below w.heap.size w w'):Rp w' v l:=by
 obtain⟨ao,c,rfl,h⟩:=h
 refine⟨ao,c,rfl,fun j hj=>?_⟩
 obtain⟨b,o,e,h0,h1⟩:=h j hj
 exact⟨b,o,e,(hb.cell (p:=⟨b,o+j*2,none⟩) (lt_of_cell h0)).trans h0,(hb.cell (p:=⟨b,o+j*2+1,none⟩) (lt_of_cell h1)).trans h1⟩
theorem Rp.below' {w w':World} {v:Value} {l:List (Int×Int)} (h:Rp w v l) (hb:Below w.heap.size w w'):Rp w' v l:=h.below hb
def badP (N:Nat) (p:Int×Int):Bool:=strange N p.1 || strange N p.2
def chkS (g:Gf) (ps:List (Int×Int)):Fs:=if one (chk g)=[] then (if 0<=ixOf (badP g.nodes.length) ps then [(100,ixOf (badP g.nodes.length) ps)] else []) else one (chk g)
set_option maxHeartbeats 1000000 in
theorem strangeS_any {W:World} {B:Nat} {ao:Option Addr} {N c:Nat} {rv:Value} (h:W.heap[B]?=some (.cells #[.slice ao N c,rv] 38)) (x:Int) :
  Calls Tryz.prog 119 #[.int .i64 x,.pointer (some ⟨B,0,none⟩)] W fun e w'=>e=.returned (.bool (strange N x))/\w'=W:=by
 have c0:W.cell? ⟨B,0,none⟩=some (.slice ao N c):=by simp[World.cell?,h]
 have z0:=lt_of_block h
 clear h
 by_cases h0:x<0
 ·have hG:Hid (strange N x=true):=show strange N x=true by simp[strange];omega
  have d0:decide (x<0)=true:=decide_eq_true h0
  go_enter Tryz.func119,Tryz.ntmps119
  go_wp2
  go_ret
  exact⟨ret_bool hG.out.symm,rfl⟩
 ·have d0:decide (x<0)=false:=decide_eq_false h0
  have hG:Hid (strange N x=decide ((N:Int)<=x)):=show strange N x=_ by simp[strange];omega
  go_enter Tryz.func119,Tryz.ntmps119
  go_wp2
  go_ret
  exact⟨ret_bool hG.out.symm,rfl⟩
theorem strangeS_eg:∀args w,(callFunc 119 args).run Tryz.prog w=.ok (.enter 119 args) w:=enters_of Tryz.func119 (by kernel_rfl) rfl
theorem badS_eg:∀args w,(callFunc 120 args).run Tryz.prog w=.ok (.enter 120 args) w:=enters_of Tryz.func120 (by kernel_rfl) rfl
set_option maxHeartbeats 2000000 in
theorem badS_any {W:World} {B q:Nat} {ao:Option Addr} {N c:Nat} {rv:Value} (h:W.heap[B]?=some (.cells #[.slice ao N c,rv] 38)) (hq:W.cell? ⟨q,0,none⟩=some (.func (.func 119) #[] #[.pointer (some ⟨B,0,none⟩)])) (x y:Int) :
  Calls Tryz.prog 120 #[.agg #[.int .i64 x,.int .i64 y],.pointer (some ⟨q,0,none⟩)] W fun e w'=>e=.returned (.bool (badP N (x,y)))/\Below W.heap.size W w':=by
 have hb:=below_alloc W (.cells #[.int .i64 x,.int .i64 y] 72)
 have hc:=hid (fun z=>strangeS_any ((hb.block B (lt_of_block h)).trans h) z)
 have zq:=lt_of_cell hq
 have heg:=strangeS_eg
 unfold badP
 cases hx:strange N x with
 | true=>
  have hcx:=hc.out x
  rw[hx] at hcx
  clear h hc
  go_enter Tryz.func120,Tryz.ntmps120
  go_wp2_with (go_at_fn 119;refine hcx.mono ?_;rintro e w1 ⟨rfl,rfl⟩)
  go_ret
  exact⟨rfl,hb⟩
 | false=>
  have hcx:=hc.out x
  have hcy:=hc.out y
  rw[hx] at hcx
  have m1:True:=trivial
  clear h hc
  generalize strange N y=r at *
  go_enter Tryz.func120,Tryz.ntmps120
  go_wp2_with (first
   | (have _m:=m1;go_at_fn 119;refine hcx.mono ?_;clear m1 _m;rintro e w1 ⟨rfl,rfl⟩)
   | (go_at_fn 119;refine hcy.mono ?_;rintro e w1 ⟨rfl,rfl⟩))
  go_ret
  exact⟨by first | rfl | simp,hb⟩
set_option maxHeartbeats 1000000 in
theorem index_pairs (f:Nat) (cb:Array Value) (eg:∀args w,(callFunc f args).run Tryz.prog w=.ok (.enter f args) w) (v:Value) (l:List (Int×Int)) (p:Int×Int->Bool) (W:World) (hl:l.length<=5000) (hv:Rp W v l)
  (hs:∀n w,n∈l->Below W.heap.size W w->Calls Tryz.prog f (#[.agg #[.int .i64 n.1,.int .i64 n.2]]++cb) w fun e w'=>e=.returned (.bool (p n))/\Below w.heap.size w w') :
  Calls Tryz.prog 121 #[v,.func (.func f) #[] cb] W fun e w'=>e=.returned (.int .i64 (ixOf p l))/\Below W.heap.size W w':=by
 obtain⟨ao,c,rfl,hr⟩:=hv
 go_enter Tryz.func121,Tryz.ntmps121
 go_wp2
 go_loopw [5,8] (fun _ i wr=>∃k:Nat,k<=l.length/\i=.int .i64 k/\Hid (Below W.heap.size W wr)/\Hid (∀j,j<k->p (l.getD j (0,0))=false)) (fun _ i _=>l.length-(intOf i).toNat)
 case atStart=>exact⟨0,Nat.zero_le _,rfl,Below.refl _ _,fun j hj=>absurd hj (Nat.not_lt_zero _)⟩
 case round=>
  obtain⟨k,hk,rfl,hI,hp⟩:=hrel
  by_cases hlt:k<l.length
  ·obtain⟨b,o,rfl,h0,h1⟩:=hr k hlt
   have c0:=(hI.out.cell (p:=⟨b,o+k*2,none⟩) (lt_of_cell h0)).trans h0
   have c1:=(hI.out.cell (p:=⟨b,o+k*2+1,none⟩) (lt_of_cell h1)).trans h1
   have hcall:=hs (l.getD k (0,0)) wr (by simp[List.getD,hlt]) hI.out
   cases hq:p (l.getD k (0,0)) with
   | true=>
    have hq':=hid (ixOf_hit (0,0) p l k hlt hp.out hq)
    rw[hq] at hcall
    clear hq hs hr h0 h1
    generalize l.getD k (0,0)=x at c0 c1 hcall
    obtain⟨x0,x1⟩:=x
    dsimp only at c0 c1 hcall
    go_wp2_with (go_at_fn f;refine hcall.mono ?_;rintro e w' ⟨rfl,hb⟩)
    go_ret
    exact⟨ret_int hq'.out.symm,Below.next hI.out hb⟩
   | false=>
    have hq':Hid (∀j,j<k+1->p (l.getD j (0,0))=false):=fun j hj=>by
     rcases Nat.lt_or_eq_of_le (Nat.le_of_lt_succ hj) with h | h
     ·exact hp.out j h
     ·subst h;exact hq
    rw[hq] at hcall
    clear hq hs hr h0 h1
    generalize l.getD k (0,0)=x at c0 c1 hcall
    obtain⟨x0,x1⟩:=x
    dsimp only at c0 c1 hcall
    go_wp2_with (go_at_fn f;refine hcall.mono ?_;rintro e w' ⟨rfl,hb⟩)
    go_roundw
    case rel=>exact⟨k+1,by omega,congrArg (Value.int .i64) (by omega),Below.next hI.out hb,hq'⟩
    case measure=>simp[intOf];omega
  ·have hm:=hid (ixOf_miss (0,0) p l (fun j hj=>hp.out j (by omega)))
   go_wp2
   go_ret
   exact⟨ret_int hm.out.symm,hI.out⟩
set_option maxHeartbeats 4000000 in
theorem checked_any {W:World} {nv rv pv:Value} {g:Gf} {ps:List (Int×Int)} (hG:Gr W nv rv g) (hS:Sized g) (hP:Rp W pv ps) (hl:ps.length<=5000) :
  Calls Tryz.prog 80 #[.agg #[nv,rv],pv] W fun e w'=>(∃ev,e=.returned ev/\Er w' ev (chkS g ps))/\Below W.heap.size W w':=by
 obtain⟨na,nc,rfl,_⟩:=hG.1
 obtain⟨ra,rc,rfl,_⟩:=hG.2
 have hb0:=below_alloc W (.cells #[.slice na g.nodes.length nc,.slice ra g.roots.length rc] 38)
 have hq0:=hid (heap_alloc_new W (.cells #[.slice na g.nodes.length nc,.slice ra g.roots.length rc] 38))
 have hck:=check_any (hG.below hb0) hS
 have hmf:∀(fn:Fn) (first cap:Array Value) (w:World),(Instr.makeFunc fn first cap).run Tryz.prog w=.ok (.func fn first cap) w:=fun _ _ _ _=>rfl
 unfold chkS
 by_cases hg:one (chk g)=[]
 ·rw[if_pos hg]
  rw[hg] at hck
  have hix:Hid (∀w1,Below W.heap.size W w1->w1.heap[W.heap.size]?=some (.cells #[.slice na g.nodes.length nc,.slice ra g.roots.length rc] 38)->Calls Tryz.prog 121 #[pv,.func (.func 120) #[] #[.pointer (some ⟨w1.heap.size,0,none⟩)]] (w1.alloc (.cells #[.func (.func 119) #[] #[.pointer (some ⟨W.heap.size,0,none⟩)]] 73)) fun e w'=>e=.returned (.int .i64 (ixOf (badP g.nodes.length) ps))/\Below (w1.alloc (.cells #[.func (.func 119) #[] #[.pointer (some ⟨W.heap.size,0,none⟩)]] 73)).heap.size (w1.alloc (.cells #[.func (.func 119) #[] #[.pointer (some ⟨W.heap.size,0,none⟩)]] 73)) w'):=fun w1 hb1 hq1=>by
   have hb2:=below_alloc w1 (.cells #[.func (.func 119) #[] #[.pointer (some ⟨W.heap.size,0,none⟩)]] 73)
   have hn:=heap_alloc_new w1 (.cells #[.func (.func 119) #[] #[.pointer (some ⟨W.heap.size,0,none⟩)]] 73)
   refine index_pairs _ _ badS_eg pv ps (badP g.nodes.length) _ hl (hP.below (Below.next hb1 hb2)) (fun n w3 _ hb3=>?_)
   have hq3:=((Below.next hb2 hb3).block _ (lt_of_block hq1)).trans hq1
   exact badS_any hq3 (by
    have h9:=(hb3.block _ (lt_of_block hn)).trans hn
    simp[World.cell?,h9]) n.1 n.2
  have hsz:=hid hb0
  clear hG hP hS hg
  generalize hX:ixOf (badP g.nodes.length) ps=X at *
  by_cases h0:0<=X
  ·rw[if_pos h0]
   have d0:decide (0<=X)=true:=decide_eq_true h0
   go_enter Tryz.func80,Tryz.ntmps80
   go_wp2_with (first
    | (go_at_call 28;go_must (refine hck.mono ?_;clear hck;rintro e w1 ⟨⟨ev,rfl,hev⟩,hb1⟩;have hev1:ev=.nilIface:=hev;subst hev1;have hB1:=hid (Below.next hsz.out hb1);have hq1:=hid ((hb1.block W.heap.size (by simp)).trans hq0.out);have hs1:=hb1.size;clear hev hb1))
    | (go_at_call 121;go_must (refine (hix.out w1 hB1.out hq1.out).mono ?_;clear hix;rintro e w2 ⟨rfl,hb2⟩)))
   have hB2:=Below.next (hB1.out.alloc (by have:=hB1.out.size;omega) _) hb2
   have hb3:=hB2.alloc hB2.size (.cells #[.int .i64 100,.int .i64 X,.string ⟨#[]⟩,.nilIface] 133)
   go_ret
   exact⟨⟨_,rfl,by show (100:Int)≠0;decide,w2.heap.size,.nilIface,rfl,heap_alloc_new w2 _,rfl⟩,hb3⟩
  ·rw[if_neg h0]
   have d0:decide (0<=X)=false:=decide_eq_false h0
   go_enter Tryz.func80,Tryz.ntmps80
   go_wp2_with (first
    | (go_at_call 28;go_must (refine hck.mono ?_;clear hck;rintro e w1 ⟨⟨ev,rfl,hev⟩,hb1⟩;have hev1:ev=.nilIface:=hev;subst hev1;have hB1:=hid (Below.next hsz.out hb1);have hq1:=hid ((hb1.block W.heap.size (by simp)).trans hq0.out);have hs1:=hb1.size;clear hev hb1))
    | (go_at_call 121;go_must (refine (hix.out w1 hB1.out hq1.out).mono ?_;clear hix;rintro e w2 ⟨rfl,hb2⟩)))
   have hB2:=Below.next (hB1.out.alloc (by have:=hB1.out.size;omega) _) hb2
   go_ret
   exact⟨⟨_,rfl,rfl⟩,hB2⟩
 ·rw[if_neg hg]
  have hnil:Hid (∀(w1:World) (ev:Value),Er w1 ev (one (chk g))->∃b,ev=.iface 130 (.pointer (some ⟨b,0,none⟩))):=fun w1 ev h=>by
   rcases h.isNil with⟨h1,_⟩ | ⟨_,h2⟩
   ·exact absurd h1 hg
   ·exact h2
  clear hG hP hS hg
  go_enter Tryz.func80,Tryz.ntmps80
  go_wp2_with (go_at_call 28;go_must (refine hck.mono ?_;clear hck;rintro e w1 ⟨⟨ev,rfl,hev⟩,hb1⟩;obtain⟨fb,rfl⟩:=hnil.out w1 ev hev;have hB1:=hid (Below.next hb0 hb1);have hE1:=hid hev;clear hev hb1))
  go_ret
  exact⟨⟨_,rfl,hE1.out⟩,hB1.out⟩
end Go.Proofs.YtpkojcfdkkjmcaaGreatDoor

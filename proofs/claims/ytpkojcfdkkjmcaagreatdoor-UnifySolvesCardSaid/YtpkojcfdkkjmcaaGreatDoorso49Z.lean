/- Package unify: pairs of cells are made one. -/
import Derived.Test.YtpkojcfdkkjmcaaGreatDoorso43Z
import Derived.Test.YtpkojcfdkkjmcaaGreatDoorso48Z
import Derived.Test.YtpkojcfdkkjmcaaGreatDoorso46Z
import Derived.Test.YtpkojcfdkkjmcaaGreatDoorso40Z
namespace Go.Proofs.YtpkojcfdkkjmcaaGreatDoor
set_option maxRecDepth 100000
open Go.RowKit Go.Maps
abbrev unO (hb mq:Nat):Obj:=.cells #[.pointer (some ⟨hb,0,none⟩),.slice none 0 0,.map (some mq),.slice none 0 0] 195
section
variable {w:World} {B hb:Nat} {m:Int} {F:Nat->Prop} {s:Hst} {V:Nat->Bool}
theorem um_new (w:World):Um w s.l s.ns hb (w.heap.size+1) w.heap.size (.slice none 0 0) (.slice none 0 0) [] [] (List.range (utT s.l).length) ((w.alloc (.map #[] 0)).alloc (unO hb w.heap.size)):=by
 have h1:=below_alloc w (.map #[] 0)
 have h2:Below w.heap.size w ((w.alloc (.map #[] 0)).alloc (unO hb w.heap.size)):=h1.alloc (by simp) _
 refine⟨h2,?_,by omega,Nat.le_refl _,⟨.map [],((World.ownsMap_made w Tryz.prog 3 RU).alloc _).mono (Nat.zero_le _),MpU.nil⟩,World.ownsRow_nil _ _ _ _,fun p hp=>(by cases hp),World.ownsRow_nil _ _ _ _,by simp,fun i hi hne=>absurd (by
  have hi':i<(utT s.l).length:=by simpa using hi
  simp[List.getD,hi']) hne⟩
 have h9:=heap_alloc_new (w.alloc (.map #[] 0)) (unO hb w.heap.size)
 rw[show (w.alloc (.map #[] 0)).heap.size=w.heap.size+1 by simp] at h9
 exact h9
theorem ld_start:∀n:Nat,Ld (List.range n) id
 | 0=>Ld.nil
 | n+1=>by
  have h9:=(ld_start n).add
  rw[List.length_range,←List.range_succ] at h9
  exact h9
set_option maxHeartbeats 8000000 in
theorem unified_any {ps:List (Int×Int)} {pv:Value} (h:Hs w B hb m F s) (hS:SndN s.l s.ns.length) (hl:s.l.length<=65536) (hnd:s.ns.Nodup) (hf:Few s) (hB:B<=w.heap.size) (hP:Rp w pv ps) (hpl:ps.length<=1000000) (hc:∀p∈ps,cellB s.l p.1=true/\cellB s.l p.2=true) :
  Calls Tryz.prog 74 #[.pointer (some ⟨hb,0,none⟩),pv] w fun e w'=>∃ok,e=.returned (.bool ok)/\(ok=true->∃E n s',UnR s (ndP s.l ps) E n s'/\Hs w' B hb m (fun k=>F k∨w.heap.size<=k) s'/\Mo F w w')/\(ok=false->NoSol (utN s.l s.ns) (ndP s.l ps)/\Below w.heap.size w w'):=by
 obtain⟨pa,pc,rfl,hp⟩:=hP
 obtain⟨⟨V,hV⟩,hN⟩:=id hS
 have HH:=hid h
 have HU:Hid (Uh w B hb s.l s.ns):=⟨⟨m,F,s,h,rfl,rfl⟩,⟨V,hV⟩,hN,hl⟩
 have hmm:=@run_makeMap Tryz.prog
 have hum:=hid (um_new (hb:=hb) (s:=s) w)
 have HPs:=hid hp
 have HC:=hid hc
 have HS:=hid hS
 clear h hp hc hS
 go_enter Tryz.func74,Tryz.ntmps74
 go_wp2
 clear hmm
 go_loopw [7,14] (fun _ s14 wr=>∃(j:Nat) (ledv tdv:Value) (ls:List (Nat×Value)) (td:List (Nat×Nat)) (L:List Nat) (E:Nat->Nat),s14=.int .i64 (j:Int)/\j<=ps.length/\Hid (Um w s.l s.ns hb (w.heap.size+1) w.heap.size ledv tdv ls td L wr)/\Hid (Ld L E)/\Hid (Jn s.l s.ns (ndP s.l (ps.take j)) E ls [] 0)) (fun _ s14 _=>ps.length-(intOf s14).toNat)
 case atStart=>exact⟨0,_,_,[],[],_,id,rfl,Nat.zero_le _,hum,hid (ld_start _),hid Jn.start⟩
 case round=>
  obtain⟨j,ledv,tdv,ls,td,L,E,rfl,hj,hm,hd,hJ⟩:=hrel
  clear hum
  by_cases hlt:j<ps.length
  ·have hjz:(j:Int)<(ps.length:Int):=by omega
   obtain⟨pb,po,rfl,c0,c1⟩:=HPs.out j hlt
   obtain⟨g1,g2⟩:=HC.out (ps.getD j (0,0)) (by rw[show ps.getD j (0,0)=ps[j] by simp[List.getD,hlt]];exact List.getElem_mem hlt)
   have d0:=(hm.out.b.cell (p:=⟨pb,po+j*2,none⟩) (lt_of_cell c0)).trans c0
   have d1:=(hm.out.b.cell (p:=⟨pb,po+j*2+1,none⟩) (lt_of_cell c1)).trans c1
   have hnx:Hid (ndP s.l (ps.take (j+1))=ndP s.l (ps.take j)++[(utI s.l (ps.getD j (0,0)).1.toNat,utI s.l (ps.getD j (0,0)).2.toNat)]):=ndP_take hlt
   obtain⟨ka,ea,hka⟩:=cell_nat g1
   obtain⟨kb,eb,hkb⟩:=cell_nat g2
   rw[ea] at g1 d0 hnx
   rw[eb] at g2 d1 hnx
   rw[Int.toNat_natCast,Int.toNat_natCast] at hnx
   have hb1:=below_alloc wr (.cells #[.int .i64 (ka:Int),.int .i64 (kb:Int)] 72)
   have hjoin:=hid (ujoin_any HU.out hnd (hm.out.next hb1) hd.out hJ.out ⟨hka,g1⟩ ⟨hkb,g2⟩)
   clear c0 c1 ea eb hm hd hJ hb1 g1 g2
   go_wp2_with (go_at_call 115;refine hjoin.out.mono ?_;rintro e w2 ⟨ok,ledv',tdv',ls',td',L',E',rfl,hU,hL',hy,hn⟩;have R:=hid (And.intro hU (And.intro hL' (And.intro hy hn)));clear hU hL' hy hn)
   ·rename_i h9
    have h8:ok=false:=by simpa using h9
    subst h8
    have hno:NoSol (utN s.l s.ns) (ndP s.l ps):=by
     have h7:=R.out.2.2.2 rfl
     rw[←hnx.out] at h7
     refine h7.more (fun p hp=>?_)
     obtain⟨q,hq,rfl⟩:=List.mem_map.1 hp
     exact List.mem_map.2 ⟨q,List.mem_of_mem_take hq,rfl⟩
    have hbl:=R.out.1.m.b
    go_ret
    first
     | exact⟨false,rfl,fun e=>(by cases e),fun _=>⟨hno,hbl⟩⟩
     | exact Or.inl ⟨rfl,hno,hbl⟩
   ·rename_i h9
    have h8:ok=true:=by simpa using h9
    subst h8
    refine⟨⟨j+1,ledv',tdv',ls',td',L',E',congrArg (Value.int .i64) (by omega),by omega,hid R.out.1.m,hid R.out.2.1,hid (by rw[hnx.out];exact R.out.2.2.1 rfl)⟩,?_⟩
    simp[intOf]
    omega
  ·obtain rfl:j=ps.length:=by omega
   obtain⟨ab,tb,av,tv,tq,trv,ptv,hq,hfo⟩:=HH.out
   have hJ':Hid (Jn s.l s.ns (ndP s.l ps) E ls [] 0):=by
    have h9:=hJ.out
    rw[List.take_length] at h9
    exact h9
   have hwr:=hid (uwrite_any (Uw.begin hq HS.out hm.out hd.out) rfl hnd hf hB hV hN hl hJ'.out)
   have hbm:=hid hm.out.b
   have hfo':=hid hfo
   clear hq hfo hm hd hJ
   go_wp2_with (go_at_call 116;refine hwr.out.mono ?_;rintro e w3 ⟨rfl,hw3⟩;have HW3:=hid hw3;clear hw3)
   go_ret
   obtain⟨s',h1,h2,h3⟩:=HW3.out.done hJ'.out hbm.out (Nat.le_refl _) hfo'.out
   exact⟨true,rfl,fun _=>⟨E,ls.length,s',h1,h2,h3⟩,fun e=>(by cases e)⟩
end
end Go.Proofs.YtpkojcfdkkjmcaaGreatDoor
namespace Go.Proofs.YtpkojcfdkkjmcaaGreatDoor
set_option maxRecDepth 100000
open Go.RowKit Go.Maps
section
variable {w:World} {B hb:Nat} {m:Int} {F:Nat->Prop} {s:Hst}
theorem Hs.cell_any (h:Hs w B hb m F s) (x:Int) :
  Calls Tryz.prog 114 #[.pointer (some ⟨hb,0,none⟩),.int .i64 x] w fun e w'=>e=.returned (.bool (cellB s.l x))/\Below w.heap.size w w':=by
 obtain⟨ab,tb,av,tv,tq,trv,ptv,hq,hf⟩:=h
 exact hcell_any hq.hp x
set_option maxHeartbeats 800000 in
theorem ustrange_no (h:Hs w B hb m F s) {a b:Int} (ha:cellB s.l a=true) (hb':cellB s.l b=true) :
  Calls Tryz.prog 72 #[.pointer (some ⟨hb,0,none⟩),.int .i64 a,.int .i64 b] w fun e w'=>e=.returned (.pointer none)/\Below w.heap.size w w':=by
 have h1:=hid (fun w1 (hb1:Below w.heap.size w w1)=>(h.below hb1).cell_any a)
 have h2:=hid (fun w1 (hb1:Below w.heap.size w w1)=>(h.below hb1).cell_any b)
 rw[ha] at h1
 rw[hb'] at h2
 have hb0:=hid (Below.refl w.heap.size w)
 clear h ha hb'
 go_enter Tryz.func72,Tryz.ntmps72
 go_wp2_with (first
  | (have m1:=hb0;go_at_call 114;refine (h1.out _ hb0.out).mono ?_;clear m1 hb0;rintro e w1 ⟨rfl,hb1⟩;have Hb1:=hid hb1;clear hb1)
  | (go_at_call 114;refine (h2.out _ Hb1.out).mono ?_;rintro e w2 ⟨rfl,hb2⟩;have Hb2:=hid (Below.next Hb1.out hb2);clear hb2))
 go_ret
 exact⟨rfl,Hb2.out⟩
set_option maxHeartbeats 800000 in
theorem unify_any (h:Hs w B hb m F s) (hS:SndN s.l s.ns.length) (hl:s.l.length<=65536) (hnd:s.ns.Nodup) (hf:Few s) (hB:B<=w.heap.size) {a b:Int} (ha:cellB s.l a=true) (hb':cellB s.l b=true) :
  Calls Tryz.prog 38 #[.pointer (some ⟨hb,0,none⟩),.int .i64 a,.int .i64 b] w fun e w'=>∃ok,e=.returned (.tuple #[.bool ok,.nilIface])/\(ok=true->∃E n s',UnR s [(utI s.l a.toNat,utI s.l b.toNat)] E n s'/\Hs w' B hb m (fun k=>F k∨w.heap.size<=k) s'/\Mo F w w')/\(ok=false->NoSol (utN s.l s.ns) [(utI s.l a.toNat,utI s.l b.toNat)]/\Below w.heap.size w w'):=by
 have hst:=hid (ustrange_no h ha hb')
 have hun:=hid (fun w1 (hb1:Below w.heap.size w w1)=>unified_any (ps:=[(a,b)]) (pv:=.slice (some ⟨w1.heap.size,0,none⟩) 1 1) (w:=w1.alloc (.cells #[.int .i64 a,.int .i64 b] 72)) (h.below (Below.next hb1 (below_alloc w1 _))) hS hl hnd hf (by have:=hb1.size;simp;omega) ⟨_,1,rfl,fun j hj=>by
  have e:j=0:=by simp at hj;omega
  subst e
  obtain⟨⟨x2,x3⟩,_⟩:=blk2y (heap_alloc_new w1 (.cells #[.int .i64 a,.int .i64 b] 72))
  exact⟨w1.heap.size,0,rfl,x2,x3⟩⟩ (by simp) (fun p hp=>by
   have e:p=(a,b):=by simpa using hp
   rw[e]
   exact⟨ha,hb'⟩))
 have hfin:Hid (∀w1 w',Below w.heap.size w w1->Mo F (w1.alloc (.cells #[.int .i64 a,.int .i64 b] 72)) w'->Mo F w w'):=fun w1 w' h1 h2=>(Mo.ofBelow (Below.next h1 (below_alloc w1 _))).trans h2 (fun x hx=>Or.inl hx)
 clear h hS hl hnd hf hB ha hb'
 go_enter Tryz.func38,Tryz.ntmps38
 go_wp2_with (first
  | (go_at_call 72;refine hst.out.mono ?_;rintro e w1 ⟨rfl,hb1⟩;have Hb1:=hid hb1;clear hb1)
  | (go_at_call 74;refine (hun.out _ Hb1.out).mono ?_;rintro e w2 ⟨ok,rfl,hy,hn⟩;have Hy:=hid hy;have Hn:=hid hn;clear hy hn))
 go_ret2
 refine⟨ok,rfl,fun e=>?_,fun e=>?_⟩
 ·obtain⟨E,n,s',h1,h2,h3⟩:=Hy.out e
  exact⟨E,n,s',h1,h2.weak (fun k hk=>hk.elim Or.inl (fun h9=>Or.inr (by have:=Hb1.out.size;simp at h9;omega))),hfin.out _ _ Hb1.out h3⟩
 ·obtain⟨h1,h2⟩:=Hn.out e
  exact⟨h1,Below.next Hb1.out (Below.next (below_alloc w1 _) h2)⟩
end
end Go.Proofs.YtpkojcfdkkjmcaaGreatDoor
namespace Go.Proofs.YtpkojcfdkkjmcaaGreatDoor
set_option maxRecDepth 100000
open Go.RowKit
theorem nosol_var {ns:List Nd} {x y:Nat} (hx:(ndN ns x).kind=1) (h:NoSol ns [(x,y)]):False:=by
 refine h (fun u v=>u=v∨((u=x∨u=y)/\(v=x∨v=y))) ⟨⟨fun _=>Or.inl rfl,fun u v h=>?_,fun u v z h k=>?_⟩,fun u v _ _ h hu hv=>?_⟩ (fun p hp=>?_)
 ·rcases h with h | ⟨h,k⟩
  ·exact Or.inl h.symm
  ·exact Or.inr ⟨k,h⟩
 ·rcases h with rfl | ⟨h1,h2⟩
  ·exact k
  ·rcases k with rfl | ⟨k1,k2⟩
   ·exact Or.inr ⟨h1,h2⟩
   ·exact Or.inr ⟨h1,k2⟩
 ·have e:u=v:=by
   rcases h with h | ⟨h1,h2⟩
   ·exact h
   ·have n1:u≠x:=fun e=>hu (by rw[e];exact hx)
    have n2:v≠x:=fun e=>hv (by rw[e];exact hx)
    rw[h1.resolve_left n1,h2.resolve_left n2]
  subst e
  exact⟨labS.refl _,fun _ _=>Or.inl rfl⟩
 ·have e:p=(x,y):=by simpa using hp
  subst e
  exact Or.inr ⟨Or.inl rfl,Or.inr rfl⟩
theorem UnR.lab {s s':Hst} {x y n:Nat} {E:Nat->Nat} (h:UnR s [(x,y)] E n s') (hx:x<(utN s.l s.ns).length) (hy:y<(utN s.l s.ns).length) (kx:(ndN (utN s.l s.ns) x).kind≠1) (ky:(ndN (utN s.l s.ns) y).kind≠1):labS (ndN (utN s.l s.ns) x) (ndN (utN s.l s.ns) y):=
 (h.un.done.1.lab x y hx hy (h.un.done.2.1 (x,y) (by simp)) kx ky).1
abbrev aSC:ByteArray:=⟨#[97]⟩
abbrev bSC:ByteArray:=⟨#[98]⟩
def gV:Gf:=⟨[⟨1,⟨#[]⟩,0,[]⟩,⟨4,fSC,0,[0]⟩,⟨2,aSC,0,[]⟩,⟨2,bSC,0,[]⟩],[]⟩
theorem gV_all:gAll gV=⟨gV.nodes,[0,1,2,3]⟩:=rfl
theorem gV_met:metF (gAll gV)=[0,1,2,3]:=by
 rw[gV_all]
 simp[metF,gV,meetF,Gf.argsOf]
abbrev nV:List ByteArray:=[fSC,aSC,bSC]
abbrev lV:List Int:=[32,43,9,17,32,12,32]
theorem gV_ns:nsP [] (gAll gV)=nV:=by
 unfold nsP
 rw[gV_met]
 decide
theorem gV_want:wantJ (gAll gV) (metF (gAll gV)) (metF (gAll gV)).length=7:=by
 rw[gV_met]
 decide
theorem gV_w:wdP [] [] (gAll gV)=lV:=by
 unfold wdP
 rw[gV_ns,gV_met]
 decide
theorem gV_good:Good (gAll gV):=by
 have hf:goodS fSC=true:=by decide
 have ha:goodS aSC=true:=by decide
 have hb:goodS bSC=true:=by decide
 rw[gV_all]
 refine⟨by decide,by decide,fun n hn=>?_,fun x hx=>?_⟩
 ·have h:n=⟨1,⟨#[]⟩,0,[]⟩∨n=⟨4,fSC,0,[0]⟩∨n=⟨2,aSC,0,[]⟩∨n=⟨2,bSC,0,[]⟩:=by simpa[gV] using hn
  rcases h with rfl | rfl | rfl | rfl
  ·simp[goodNd,ByteArray.toList_eq]
  ·simp[goodNd,hf,strange,gV]
  ·simp[goodNd,ha]
  ·simp[goodNd,hb]
 ·have h:x=0∨x=1∨x=2∨x=3:=by simpa using hx
  rcases h with rfl | rfl | rfl | rfl <;> decide
theorem gV_hs:putHs hs0 (gAll gV)=⟨lV,nV,[],[],0⟩:=by
 unfold putHs hs0
 rw[gV_w,gV_ns]
theorem gV_put:PutC hs0 (gAll gV) 50:=by
 refine⟨chk_of_good gV_good,?_,?_⟩
 ·show (nsP [] (gAll gV)).length<=1024
  rw[gV_ns]
  decide
 ·show (([]:List Int).length+wantJ (gAll gV) (metF (gAll gV)) (metF (gAll gV)).length:Int)<=50
  rw[gV_want]
  decide
theorem trV0:trmW lV 0=32:=by decide +kernel
theorem trV2:trmW lV 2=9:=by decide +kernel
theorem trV3:trmW lV 3=17:=by decide +kernel
theorem cbV:cellB lV 0=true/\cellB lV 1=true/\cellB lV 2=true/\cellB lV 3=true:=by decide +kernel
theorem noV {s':Hst} {n:Nat} {E:Nat->Nat} (h:UnR ⟨lV,nV,[],[],0⟩ [(utI lV 2,utI lV 3)] E n s'):False:=by
 have l2:utI lV 2<(utN lV nV).length:=by rw[utN_len];exact utI_lt (by decide)
 have l3:utI lV 3<(utN lV nV).length:=by rw[utN_len];exact utI_lt (by decide)
 have k2:=utN_of (l:=lV) (nm:=nV) (k:=2) (by decide)
 have k3:=utN_of (l:=lV) (nm:=nV) (k:=3) (by decide)
 rw[trV2] at k2
 rw[trV3] at k3
 have h9:=(h.lab l2 l3 (by rw[k2];show tdK 9≠1;decide) (by rw[k3];show tdK 17≠1;decide)).2.1
 rw[k2,k3] at h9
 have h8:tdS lV nV 9=tdS lV nV 17:=h9
 exact absurd h8 (by decide +kernel)
theorem yesV (h:NoSol (utN lV nV) [(utI lV 0,utI lV 1)]):False:=by
 refine nosol_var ?_ h
 rw[utN_of (l:=lV) (nm:=nV) (k:=0) (by decide),trV0]
 show tdK 32=1
 decide
end Go.Proofs.YtpkojcfdkkjmcaaGreatDoor

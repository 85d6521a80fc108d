/- Package cells: Bind at any two numbers, as a step of the heap's words, trail and points. -/
import Derived.OwnWalk
import Derived.Test.YtpkojcfdkkjmcaaGreatDoorso29Z
import Derived.Test.YtpkojcfdkkjmcaaGreatDoorso30Z
import Derived.Test.YtpkojcfdkkjmcaaGreatDoorso31Z
import Derived.Test.YtpkojcfdkkjmcaaGreatDoorso07Z
namespace Go.Proofs.YtpkojcfdkkjmcaaGreatDoor
set_option maxRecDepth 100000
open Go.RowKit
theorem may_fwdQ {i n:Nat} (h:i<n) (h6:i<65536):mayB (wordOf 5 (i:Int)) (n:Int)=true:=by
 have hf:fitsB 5 (i:Int)=true:=by
  simp[fitsB]
  omega
 unfold mayB
 rw[Bool.and_eq_true]
 refine⟨?_,?_⟩
 ·unfold goodB
  rw[wordOf_tag 5 (i:Int) (by omega) (by omega),wordOf_val 5 (i:Int) hf]
  exact hf
 ·rw[wordOf_val 5 (i:Int) hf,Bool.or_eq_true]
  exact Or.inr (decide_eq_true (by omega))
section
variable {w w1 w':World} {B hb ab tb:Nat} {m:Int} {av:Value} {l:List Int} {tv:Value} {tq:Nat} {ns:List ByteArray} {trv:Value} {tr:List Te} {ptv:Value} {pt:List Pe} {n:Int}
theorem write_any (h:Hq w B hb ab tb m av l tv tq ns trv tr ptv pt n) (hB:B<=w.heap.size) (k:Nat) (x:Int) (hk:k<l.length) (x0:0<=x) (x1:x<=18446744073709551615) (hm:mayB x l.length=true) (n0:0<=n) (n1:n<=4611686018427387904) (hp:pt.length<=1000000) (htl:tr.length<=1000000) :
  Calls Tryz.prog 181 #[.pointer (some ⟨hb,0,none⟩),.int .i64 (k:Int),.int .u64 x] w fun e w'=>e=.returned (.tuple #[])/\Wrq w w' B hb ab tb m av (l.set k x) tv tq ns trv (trW l tr pt k) ptv pt (n+1):=by
 unfold trW
 cases hs:seesB pt k with
 | false=>
  rw[if_neg (by simp)]
  exact write_not h k x hk x0 x1 hm n0 n1 hs hp
 | true=>
  rw[if_pos rfl]
  exact write_seen h hB k x hk x0 x1 hm n0 n1 hs hp htl
theorem cell_nat {l:List Int} {x:Int} (h:cellB l x=true):∃k:Nat,x=(k:Int)/\k<l.length:=by
 unfold cellB at h
 simp only[Bool.and_eq_true] at h
 have h1:0<=x/\x<(l.length:Int):=by simpa[inB] using h.1.1
 exact⟨x.toNat,by omega,by omega⟩
end
end Go.Proofs.YtpkojcfdkkjmcaaGreatDoor
namespace Go.Proofs.YtpkojcfdkkjmcaaGreatDoor
set_option maxRecDepth 100000
open Go.RowKit
def ldJ (N j:Nat):List Nat:=(List.range N).map (fun i=>if i<j then i else 0)
theorem ldJ_len (N j:Nat):(ldJ N j).length=N:=by simp[ldJ]
theorem ldJ_get {N j i:Nat} (h:i<N):(ldJ N j).getD i 0=if i<j then i else 0:=by simp[ldJ,List.getD,h]
theorem ldJ_zero (N:Nat):(ints (ldJ N 0)).map (Value.int .i64)=List.replicate N (.int .i64 0):=by
 apply List.ext_getElem?
 intro i
 by_cases h:i<N
 ·simp[ints,ldJ,h]
 ·simp[ints,ldJ,h]
theorem ldJ_step {N j:Nat} (h:j<N):(ldJ N j).set j j=ldJ N (j+1):=by
 apply List.ext_getElem?
 intro i
 by_cases hi:i<N
 ·by_cases e:i=j
  ·subst e
   simp[ldJ,h]
  ·simp[ldJ,hi,Ne.symm e]
   by_cases h1:i<j
   ·rw[if_pos h1,if_pos (by omega)]
   ·rw[if_neg h1,if_neg (by omega)]
 ·have h1:(ldJ N j).length<=i:=by rw[ldJ_len];omega
  have h2:(ldJ N (j+1)).length<=i:=by rw[ldJ_len];omega
  rw[List.getElem?_eq_none (by simpa using h1),List.getElem?_eq_none h2]
theorem ldJ_ld (N:Nat):Ld (ldJ N N) id:=by
 have hg:∀n,n<(ldJ N N).length->(ldJ N N).getD n 0=n:=fun n hn=>by
  rw[ldJ_len] at hn
  rw[ldJ_get hn,if_pos hn]
 exact⟨fun n hn=>by rw[hg n hn];exact hn,fun n hn=>by rw[hg n hn],fun n hn=>by rw[hg n hn];exact⟨fun _=>rfl,fun _=>rfl⟩,fun _ _=>rfl,fun _ h=>h,fun _=>rfl,fun _=>0,0,fun _=>Nat.le_refl _,fun n hn hne=>absurd (hg n hn) hne⟩
set_option maxHeartbeats 4000000 in
theorem apart_any {w:World} {nv:Value} {ns:List Nd} (hn:Rn w nv ns) (hN:ns.length<=10000) :
  Calls Tryz.prog 81 #[nv] w fun e w'=>∃mb lv L,e=.returned (.pointer (some ⟨mb,0,none⟩))/\Mg w w' mb nv lv ns L/\Ld L id:=by
 obtain⟨i0,hi,hz0,hz1,hz2⟩:=info_parts infoI
 have HN:=hid hn
 obtain⟨na,nc,rfl,_⟩:=hn
 go_enter Tryz.func81,Tryz.ntmps81
 go_wp2_with (at_make;refine wpList_make_full _ rfl _ _ 36 rfl w.heap.size 3 i0 (.int .i64 0) 1 Tryz.underlying36 hi hz0 hz1 .i64 .i64 _ _ ns.length rfl rfl rfl rfl (by rw[hz2];omega) (by unfold maxLen;omega) (Nat.le_refl _) ?_;intro w1 hown1 hgrow1;have hb1:=hid ((Below.refl w.heap.size w).grown hgrow1 (Nat.le_refl _) (fun _ e=>by cases e));have ho1:=hid hown1;have hs1:=(hown1.lt w.heap.size rfl).2;clear hown1 hgrow1)
 have hM0:Hid (Mg w (w1.alloc (.cells #[.slice na ns.length nc,.slice (some ⟨w.heap.size,0,none⟩) ns.length ns.length] 200)) w1.heap.size (.slice na ns.length nc) (.slice (some ⟨w.heap.size,0,none⟩) ns.length ns.length) ns (ldJ ns.length 0)):=by
  refine⟨HN.out,hb1.out.alloc (by omega) _,heap_alloc_new w1 _,by omega,?_,ldJ_len _ _⟩
  rw[ldJ_len,ldJ_zero]
  have h9:=World.ownsRow.alloc ho1.out (.cells #[.slice na ns.length nc,.slice (some ⟨w.heap.size,0,none⟩) ns.length ns.length] 200)
  rw[show (madeCells (Value.int .i64 0).cells (ns.length*1)).toList=List.replicate ns.length (.int .i64 0) by rw[Nat.mul_one];simp[Value.cells,toList_madeCells_one]] at h9
  exact h9
 clear ho1 hb1
 go_loopw [4,13] (fun _ i wr=>∃j:Nat,j<=ns.length/\i=.int .i64 (j:Int)/\Hid (Mg w wr w1.heap.size (.slice na ns.length nc) (.slice (some ⟨w.heap.size,0,none⟩) ns.length ns.length) ns (ldJ ns.length j))) (fun _ i _=>ns.length-(intOf i).toNat)
 case atStart=>exact⟨0,Nat.zero_le _,rfl,hM0⟩
 case round=>
  clear hM0
  obtain⟨j,hj,rfl,hM⟩:=hrel
  by_cases hlt:j<ns.length
  ·have hji:(j:Int)<(ns.length:Int):=by omega
   obtain⟨⟨c0,c1⟩,_⟩:=blk2y hM.out.blk
   have zc:=lt_of_block hM.out.blk
   obtain⟨d0,d1⟩:=hM.out.lcell hlt
   have zd:=lt_of_cell d0
   have hne:=hM.out.lne (k:=w.heap.size) rfl
   have hM2:=hid (hM.out.led j j)
   rw[ldJ_step hlt] at hM2
   clear hM
   go_wp2
   go_roundw
   case rel=>exact⟨j+1,by omega,by go_num,hM2⟩
   case measure=>simp[intOf];omega
  ·obtain rfl:j=ns.length:=by omega
   go_wp2
   go_ret
   exact⟨_,_,_,rfl,hM.out,ldJ_ld _⟩
def natP (p:Int×Int):Nat×Nat:=(p.1.toNat,p.2.toNat)
set_option maxHeartbeats 4000000 in
theorem all_any {W0 w:World} {mb:Nat} {nv lv:Value} {ns:List Nd} {L:List Nat} {E0:Nat->Nat} (h:Mg W0 w mb nv lv ns L) (hE:Ld L E0) (hA:GoodA ns) (hN:ns.length<=10000) (hU:Un ns [] E0 []) {pv:Value} {ps:List (Int×Int)} (hP:Rp W0 pv ps) (hr:∀p∈ps,(0<=p.1/\p.1<(ns.length:Int))/\0<=p.2/\p.2<(ns.length:Int)) (hl:ps.length<=5000) :
  Calls Tryz.prog 82 #[.pointer (some ⟨mb,0,none⟩),pv] w (OneR W0 w mb nv lv ns (ps.map natP)):=by
 have hS:Hid (∃E,Un ns ((ps.take 0).map natP) E []/\MgL W0 w w mb nv lv ns E):=⟨E0,hU,L,h,hE,Mo.refl _ _⟩
 have HP:=hid hP
 have HA:=hid hA
 have HR:=hid hr
 obtain⟨pa,pc,rfl,_⟩:=hP
 clear h hE hU hA hr
 go_enter Tryz.func82,Tryz.ntmps82
 go_wp2
 go_loopw [6,9] (fun _ i wr=>∃j:Nat,j<=ps.length/\i=.int .i64 (j:Int)/\Hid (∃E,Un ns ((ps.take j).map natP) E []/\MgL W0 w wr mb nv lv ns E)) (fun _ i _=>ps.length-(intOf i).toNat)
 case atStart=>exact⟨0,Nat.zero_le _,rfl,hS⟩
 case round=>
  clear hS
  obtain⟨j,hj,rfl,hS⟩:=hrel
  by_cases hlt:j<ps.length
  ·have hji:(j:Int)<(ps.length:Int):=by omega
   obtain⟨E,hU,hL⟩:=hS.out
   obtain⟨L1,hm1,hl1⟩:=hL.mg
   obtain⟨pa',pc',e,hpc⟩:=HP.out.below' hm1.bel
   injection e with e1 _ e3
   subst e1 e3
   obtain⟨b,o,rfl,p0,p1⟩:=hpc j hlt
   have zb:=lt_of_cell p0
   have hrj:=HR.out (ps.getD j (0,0)) (by simp[List.getD,hlt])
   have htk:Hid ((ps.take (j+1)).map natP=(ps.take j).map natP++[natP (ps.getD j (0,0))]):=show _=_ by
    rw[List.take_add_one,List.map_append]
    simp[List.getD,hlt]
   have hno:Hid (NoSol ns ((ps.take j).map natP++[natP (ps.getD j (0,0))])->NoSol ns (ps.map natP)):=fun hn=>hn.more (fun p hp=>by
    rw[←htk.out] at hp
    obtain⟨q,hq,rfl⟩:=List.mem_map.1 hp
    exact List.mem_map.2 ⟨q,List.mem_of_mem_take hq,rfl⟩)
   generalize ps.getD j (0,0)=pr at *
   obtain⟨x,y⟩:=pr
   dsimp only at p0 p1 hrj
   obtain⟨xn,rfl⟩:∃xn:Nat,x=(xn:Int):=⟨x.toNat,by omega⟩
   obtain⟨yn,rfl⟩:∃yn:Nat,y=(yn:Int):=⟨y.toNat,by omega⟩
   have hone:=hid (one_any (hm1.next (below_alloc wr (.cells #[.int .i64 (xn:Int),.int .i64 (yn:Int)] 72))) hl1 HA.out hN hU (i:=xn) (j:=yn) (by omega) (by omega))
   have hn2:natP ((xn:Int),(yn:Int))=(xn,yn):=rfl
   rw[hn2] at htk hno
   have hmo:=hid hL.mo
   have hfin:Hid (∀w',MgL W0 (wr.alloc (.cells #[.int .i64 (xn:Int),.int .i64 (yn:Int)] 72)) w' mb nv lv ns E->True):=fun _ _=>trivial
   clear hU hL hm1 hl1 hS hpc hn2 hfin
   have hlast:Hid (∀(e:Ending) (w':World),OneR W0 (wr.alloc (.cells #[.int .i64 (xn:Int),.int .i64 (yn:Int)] 72)) mb nv lv ns ((ps.take j).map natP++[(xn,yn)]) e w'->(e=.returned (.bool true)/\∃E,Un ns ((ps.take (j+1)).map natP) E []/\MgL W0 w w' mb nv lv ns E)∨(e=.returned (.bool false)/\OneR W0 w mb nv lv ns (ps.map natP) (.returned (.bool false)) w')):=fun e w' hO=>by
    rcases hO with⟨e1,E',hU',hL'⟩ | ⟨e1,hn,hb,hm⟩
    ·exact Or.inl ⟨e1,E',by rw[htk.out];exact hU',MgL.trans (hmo.out.alloc _) hL'⟩
    ·exact Or.inr ⟨e1,Or.inr ⟨rfl,hno.out hn,hb,(hmo.out.alloc _).trans hm (fun _ h=>Or.inl h)⟩⟩
   have hsp:Hid (∀(Q:Ending->World->Prop),(∀w',(∃E,Un ns ((ps.take (j+1)).map natP) E []/\MgL W0 w w' mb nv lv ns E)->Q (.returned (.bool true)) w')->(∀w',OneR W0 w mb nv lv ns (ps.map natP) (.returned (.bool false)) w'->Q (.returned (.bool false)) w')->Calls Tryz.prog 122 #[.pointer (some ⟨mb,0,none⟩),.int .i64 (xn:Int),.int .i64 (yn:Int)] (wr.alloc (.cells #[.int .i64 (xn:Int),.int .i64 (yn:Int)] 72)) Q):=fun Q h1 h2=>hone.out.mono (fun e w' hO=>by
    rcases hlast.out e w' hO with⟨rfl,h⟩ | ⟨rfl,h⟩
    ·exact h1 w' h
    ·exact h2 w' h)
   go_wp2_with (go_at_call 122;go_must (refine hsp.out _ (fun w2 h2=>?_) (fun w2 h2=>?_)))
   ·go_wp2
    go_roundw
    case rel=>exact⟨j+1,by omega,by go_num,h2⟩
    case measure=>simp[intOf];omega
   ·go_wp2
    go_ret
    exact h2
  ·obtain rfl:j=ps.length:=by omega
   have h9:=hid hS.out
   rw[List.take_length] at h9
   go_wp2
   go_ret
   exact Or.inl ⟨rfl,h9.out⟩
end Go.Proofs.YtpkojcfdkkjmcaaGreatDoor

/- Package cells: the word by which the term of a cell is told. -/
import Derived.Deep.RegionLaw
import Derived.Deep.DrawnRows
import Derived.Maps.OwnSet
import Derived.Maps.OwnOps
import Derived.DeepKeys4
import Derived.Test.YtpkojcfdkkjmcaaGreatDoorso11Z
import Derived.Test.YtpkojcfdkkjmcaaGreatDoorso03Z
import Derived.Test.YtpkojcfdkkjmcaaGreatDoorso12Z
namespace Go.Proofs.YtpkojcfdkkjmcaaGreatDoor
set_option maxRecDepth 100000
open Go.RowKit
theorem tag_cases {x:Int} (h:goodB x=true):x % 8=0∨x % 8=1∨x % 8=2∨x % 8=3∨x % 8=4∨x % 8=5:=by
 have:=fits_tag _ _ h
 omega
theorem val_place {x:Int} (h:goodB x=true) (ht:x % 8=0∨x % 8=3∨x % 8=5):0<=valOf x:=by
 unfold goodB at h
 rcases ht with e | e | e <;> rw[e] at h <;> simp[fitsB] at h <;> omega
theorem fits_str {k:Nat} (h:k<65536):fitsB 3 (k:Int)=true:=by
 simp[fitsB]
 omega
section
variable {w:World} {B p:Nat} {m:Int} {v:Value} {l:List Int} {V:Nat->Bool}
set_option maxHeartbeats 4000000 in
theorem term_any (h:Ar 153 w B p m v l) (hs:Snd l V) (k:Nat) (hk:k<l.length) :
  Calls Tryz.prog 142 #[blkV p,.int .i64 (k:Int)] w fun e w'=>e=.returned (.int .u64 (trmW l k))/\Below w.heap.size w w':=by
 have hb0:=hid (below_alloc w (.cells #[.pointer (some ⟨p,0,none⟩)] 92))
 have hx0:=hid (heap_alloc_new w (.cells #[.pointer (some ⟨p,0,none⟩)] 92))
 have hlen:Hid (l.length<=65536):=show _<=_ by
  have h1:=h.len
  have h2:=h.m2
  omega
 have HA:=hid h
 have HS:=hid hs
 have HR:Hid (∀R,R=trmW l k->True):=fun _ _=>trivial
 obtain⟨R,hR⟩:∃R,R=trmW l k:=⟨_,rfl⟩
 rw[←hR]
 replace hR:=hid hR
 clear h hs HR
 go_enter Tryz.func142,Tryz.ntmps142
 go_wp2
 go_loopw [1] (fun a wr=>∃j:Nat,j<l.length/\a=.int .i64 (j:Int)/\Hid (R=trmW l j)/\Hid (Below w.heap.size w wr)/\Hid (wr.heap[w.heap.size]?=some (.cells #[.pointer (some ⟨p,0,none⟩)] 92))) (fun a _=>rkN l V (intOf a).toNat)
 case atStart=>exact⟨k,hk,rfl,hR,hb0,hx0⟩
 case round=>
  clear hb0 hx0 hR hk
  obtain⟨j,hj,rfl,hR,hb,hx⟩:=hrel
  have hbx:=hx.out
  have z0:=lt_of_block hbx
  have c0:wr.cell? ⟨w.heap.size,0,none⟩=some (.pointer (some ⟨p,0,none⟩)):=by simp[World.cell?,hbx]
  have hwd:=hid (bword_ok (HA.out.below hb.out) j hj)
  have hg:=HS.out.good j hj
  have hr:=HS.out.rng (l.getD j 0) (by simp[List.getD,hj])
  have hnx:Hid (∀i,nxN l j=some i->i<l.length/\rkN l V i<rkN l V j/\R=trmW l i):=fun i e=>by
   obtain⟨h1,h2⟩:=nx_rk HS.out hj e
   exact⟨h1,h2,hR.out.trans (trm_next HS.out hj e)⟩
  have hen:Hid (nxN l j=none->R=endW l j):=fun e=>hR.out.trans (trm_end e)
  have ew:Hid (wdN l j=l.getD j 0):=rfl
  have hdef:Hid (tgN l j=l.getD j 0 % 8/\vlN l j=(valOf (l.getD j 0)).toNat):=⟨rfl,rfl⟩
  rw[show wdN l j=l.getD j 0 from rfl] at hg
  have htc:=tag_cases hg
  have hvp:=hid (fun h=>val_place hg h)
  generalize l.getD j 0=x at *
  have htg:=hid (fun w=>tag_any x w hr.1 hr.2)
  have hva:=hid (fun w=>value_any x w)
  have hpk:=hid (fun w=>packed_ok 3 (j:Int) w (fits_str (by have:=hlen.out;omega)))
  rcases htc with ht | ht | ht | ht | ht | ht
  ·skip
   have hj2:Hid (tgN l j=0):=show _=_ by rw[hdef.out.1];exact ht
   rw[ht] at htg
   by_cases hself:valOf x=(j:Int)
   ·have hRx:Hid (R=x):=show _=_ by
     have h1:vlN l j=j:=by rw[hdef.out.2,hself,Int.toNat_natCast]
     have h2:nxN l j=none:=by unfold nxN;rw[if_pos hj2.out,if_pos h1]
     rw[hen.out h2]
     unfold endW
     rw[if_neg (by rw[hj2.out];decide),ew.out]
    rw[hself] at hva
    clear hnx hen hdef hvp hpk ht
    go_wp2_with (first
    | (go_at_call 145;refine hwd.out.mono ?_;rintro e w1 ⟨rfl,hb1⟩;have hb2:=hid (Below.next hb.out hb1);have hx2:=hid ((hb1.block _ z0).trans hx.out);clear hb1)
    | (go_at_call 141;refine (htg.out _).mono ?_;rintro e w2 ⟨rfl,rfl⟩)
    | (go_at_call 143;refine (hva.out _).mono ?_;rintro e w2 ⟨rfl,rfl⟩)
    | (go_at_call 134;refine (hpk.out _).mono ?_;rintro e w2 ⟨rfl,rfl⟩))
    go_ret
    exact⟨ret_int hRx.out.symm,hb2.out⟩
   ·have hv0:=hvp.out (Or.inl ht)
    obtain⟨i,hvi⟩:∃i:Nat,valOf x=(i:Int):=⟨(valOf x).toNat,by omega⟩
    obtain⟨hi,hrk,hRi⟩:=hnx.out i (by
     have h1:vlN l j=i:=by rw[hdef.out.2,hvi,Int.toNat_natCast]
     unfold nxN
     rw[if_pos hj2.out,if_neg (by omega),h1])
    have d0:((i:Int) == (j:Int))=false:=by simp;omega
    have Hrk:=hid hrk
    have HRi:=hid hRi
    rw[hvi] at hva
    clear hnx hen hdef hvp hpk ht hrk hRi hself hv0 hvi
    go_wp2_with (first
    | (go_at_call 145;refine hwd.out.mono ?_;rintro e w1 ⟨rfl,hb1⟩;have hb2:=hid (Below.next hb.out hb1);have hx2:=hid ((hb1.block _ z0).trans hx.out);clear hb1)
    | (go_at_call 141;refine (htg.out _).mono ?_;rintro e w2 ⟨rfl,rfl⟩)
    | (go_at_call 143;refine (hva.out _).mono ?_;rintro e w2 ⟨rfl,rfl⟩)
    | (go_at_call 134;refine (hpk.out _).mono ?_;rintro e w2 ⟨rfl,rfl⟩))
    go_roundw
    case rel=>exact⟨i,hi,rfl,HRi,hb2,hx2⟩
    case measure=>simp only[intOf,Int.toNat_natCast];exact Hrk.out
  ·have hRx:Hid (R=x):=show _=_ by
    have h2:nxN l j=none:=by unfold nxN;rw[hdef.out.1,if_neg (by omega),if_neg (by omega)]
    rw[hen.out h2]
    unfold endW
    rw[if_neg (by rw[hdef.out.1];omega),ew.out]
   rw[ht] at htg
   clear hnx hen hdef hvp hpk ht
   go_wp2_with (first
    | (go_at_call 145;refine hwd.out.mono ?_;rintro e w1 ⟨rfl,hb1⟩;have hb2:=hid (Below.next hb.out hb1);have hx2:=hid ((hb1.block _ z0).trans hx.out);clear hb1)
    | (go_at_call 141;refine (htg.out _).mono ?_;rintro e w2 ⟨rfl,rfl⟩)
    | (go_at_call 143;refine (hva.out _).mono ?_;rintro e w2 ⟨rfl,rfl⟩)
    | (go_at_call 134;refine (hpk.out _).mono ?_;rintro e w2 ⟨rfl,rfl⟩))
   go_ret
   exact⟨ret_int hRx.out.symm,hb2.out⟩
  ·have hRx:Hid (R=x):=show _=_ by
    have h2:nxN l j=none:=by unfold nxN;rw[hdef.out.1,if_neg (by omega),if_neg (by omega)]
    rw[hen.out h2]
    unfold endW
    rw[if_neg (by rw[hdef.out.1];omega),ew.out]
   rw[ht] at htg
   clear hnx hen hdef hvp hpk ht
   go_wp2_with (first
    | (go_at_call 145;refine hwd.out.mono ?_;rintro e w1 ⟨rfl,hb1⟩;have hb2:=hid (Below.next hb.out hb1);have hx2:=hid ((hb1.block _ z0).trans hx.out);clear hb1)
    | (go_at_call 141;refine (htg.out _).mono ?_;rintro e w2 ⟨rfl,rfl⟩)
    | (go_at_call 143;refine (hva.out _).mono ?_;rintro e w2 ⟨rfl,rfl⟩)
    | (go_at_call 134;refine (hpk.out _).mono ?_;rintro e w2 ⟨rfl,rfl⟩))
   go_ret
   exact⟨ret_int hRx.out.symm,hb2.out⟩
  ·have hv0:=hvp.out (Or.inr (Or.inl ht))
   obtain⟨i,hvi⟩:∃i:Nat,valOf x=(i:Int):=⟨(valOf x).toNat,by omega⟩
   obtain⟨hi,hrk,hRi⟩:=hnx.out i (by
    have h1:vlN l j=i:=by rw[hdef.out.2,hvi,Int.toNat_natCast]
    unfold nxN
    rw[hdef.out.1,if_neg (by omega),if_pos (Or.inl ht),h1])
   have Hrk:=hid hrk
   have HRi:=hid hRi
   rw[hvi] at hva
   rw[ht] at htg
   clear hnx hen hdef hvp hpk ht hrk hRi hv0 hvi
   go_wp2_with (first
    | (go_at_call 145;refine hwd.out.mono ?_;rintro e w1 ⟨rfl,hb1⟩;have hb2:=hid (Below.next hb.out hb1);have hx2:=hid ((hb1.block _ z0).trans hx.out);clear hb1)
    | (go_at_call 141;refine (htg.out _).mono ?_;rintro e w2 ⟨rfl,rfl⟩)
    | (go_at_call 143;refine (hva.out _).mono ?_;rintro e w2 ⟨rfl,rfl⟩)
    | (go_at_call 134;refine (hpk.out _).mono ?_;rintro e w2 ⟨rfl,rfl⟩))
   go_roundw
   case rel=>exact⟨i,hi,rfl,HRi,hb2,hx2⟩
   case measure=>simp only[intOf,Int.toNat_natCast];exact Hrk.out
  ·have hRx:Hid (R=wordOf 3 (j:Int)):=show _=_ by
    have h2:nxN l j=none:=by unfold nxN;rw[hdef.out.1,if_neg (by omega),if_neg (by omega)]
    rw[hen.out h2]
    unfold endW
    rw[if_pos (by rw[hdef.out.1];omega)]
   rw[ht] at htg
   clear hnx hen hdef hvp ht
   generalize wordOf 3 (j:Int)=y at *
   go_wp2_with (first
    | (go_at_call 145;refine hwd.out.mono ?_;rintro e w1 ⟨rfl,hb1⟩;have hb2:=hid (Below.next hb.out hb1);have hx2:=hid ((hb1.block _ z0).trans hx.out);clear hb1)
    | (go_at_call 141;refine (htg.out _).mono ?_;rintro e w2 ⟨rfl,rfl⟩)
    | (go_at_call 143;refine (hva.out _).mono ?_;rintro e w2 ⟨rfl,rfl⟩)
    | (go_at_call 134;refine (hpk.out _).mono ?_;rintro e w2 ⟨rfl,rfl⟩))
   go_ret
   exact⟨ret_int hRx.out.symm,hb2.out⟩
  ·have hv0:=hvp.out (Or.inr (Or.inr ht))
   obtain⟨i,hvi⟩:∃i:Nat,valOf x=(i:Int):=⟨(valOf x).toNat,by omega⟩
   obtain⟨hi,hrk,hRi⟩:=hnx.out i (by
    have h1:vlN l j=i:=by rw[hdef.out.2,hvi,Int.toNat_natCast]
    unfold nxN
    rw[hdef.out.1,if_neg (by omega),if_pos (Or.inr ht),h1])
   have Hrk:=hid hrk
   have HRi:=hid hRi
   rw[hvi] at hva
   rw[ht] at htg
   clear hnx hen hdef hvp hpk ht hrk hRi hv0 hvi
   go_wp2_with (first
    | (go_at_call 145;refine hwd.out.mono ?_;rintro e w1 ⟨rfl,hb1⟩;have hb2:=hid (Below.next hb.out hb1);have hx2:=hid ((hb1.block _ z0).trans hx.out);clear hb1)
    | (go_at_call 141;refine (htg.out _).mono ?_;rintro e w2 ⟨rfl,rfl⟩)
    | (go_at_call 143;refine (hva.out _).mono ?_;rintro e w2 ⟨rfl,rfl⟩)
    | (go_at_call 134;refine (hpk.out _).mono ?_;rintro e w2 ⟨rfl,rfl⟩))
   go_roundw
   case rel=>exact⟨i,hi,rfl,HRi,hb2,hx2⟩
   case measure=>simp only[intOf,Int.toNat_natCast];exact Hrk.out
end
end Go.Proofs.YtpkojcfdkkjmcaaGreatDoor
namespace Go.Proofs.YtpkojcfdkkjmcaaGreatDoor
set_option maxRecDepth 100000
open Go.RowKit
attribute [local go_sem ↓] Go.wp_at_zero Go.wp_at_succ
def frsh (s k:Nat):List Int:=(List.range k).map (fun i=>8*((s+i:Nat):Int))
theorem frsh_len (s k:Nat):(frsh s k).length=k:=by simp[frsh]
theorem frsh_succ (s k:Nat):frsh s (k+1)=frsh s k++[8*((s+k:Nat):Int)]:=by simp[frsh,List.range_succ]
section
variable {w:World} {B p:Nat} {m:Int} {v:Value} {l:List Int}
theorem a_Upd.push {T:TypeId} {w1:World} {l':List Int} {v':Value} (h:Ar T w B p m v l) (hg:a_Mod (a_foot p v) w w1) (hp:w1.heap[p]?=w.heap[p]?) (ho:w1.ownsRow B 120 1 v' l'.length (l'.map (Value.int .u64)))
  (hn:a_Nx w v v') (hl:(l'.length:Int)<=m) (hr:∀x∈l',0<=x/\x<=18446744073709551615):a_Upd T w (w1.setCell ⟨p,1,none⟩ v') B p m v l' v':=by
 have hb:w1.heap[p]?=some (.cells #[.int .i64 m,v] T (0,0)):=by rw[hp];exact h.blk
 have hne:v'.ownBlock≠some p:=fun e=>by
  rcases hn p e with h1 | h1
  ·exact (h.row h1).2.2 rfl
  ·have:=h.lt;omega
 refine⟨⟨h.ty,?_,h.base,ownsRow_setCell_other ho (by simpa using hne) _,h.m1,h.m2,hl,hr⟩,hg.setCell (p:=⟨p,1,none⟩) (Or.inl (a_mem_foot.2 (Or.inl rfl))) v',hn⟩
 rw[heap_setCell_same w1 p 1 _ T v' hb]
 rfl
theorem push_one {T:TypeId} {w1:World} {x:Int} {g cap:Nat} (h:Ar T w B p m v l) (o:Obj) (hg:(w.alloc o).grownBy w1 v.ownBlock) (ho:w1.ownsRow B 120 1 (.slice (some ⟨g,0,none⟩) (l.length+1) cap) (l.length+1) (l.map (Value.int .u64)++[.int .u64 x]))
  (hat:v.ownBlock=some g∨g=w.heap.size+1) (hl:(l.length:Int)<m) (hx:0<=x/\x<=18446744073709551615) :
  a_Upd T w (w1.setCell ⟨p,1,none⟩ (.slice (some ⟨g,0,none⟩) (l.length+1) cap)) B p m v (l++[x]) (.slice (some ⟨g,0,none⟩) (l.length+1) cap):=by
 have hm:a_Mod (a_foot p v) w w1:=((a_Mod.refl (a_foot p v) w).alloc o).grown hg (fun k e=>Or.inl (a_mem_foot.2 (Or.inr e)))
 have hlt:=h.lt
 refine a_Upd.push h hm ?_ (by simpa using ho) (fun k e=>?_) (by simp;omega) (fun y hy=>?_)
 ·rw[hg.block p (by simp;omega) (fun e=>(h.row e.symm).2.2 rfl)]
  exact Below.heap_alloc w o p hlt
 ·simp[Value.ownBlock] at e
  subst e
  rcases hat with h1 | h1
  ·exact Or.inl h1
  ·exact Or.inr (by omega)
 ·rcases List.mem_append.1 hy with h1 | h1
  ·exact h.rng y h1
  ·simp at h1;subst h1;exact hx
theorem undrew {w w':World} {r:Option Nat} (h:w.drew.grownBy w' r):w.grownBy w' r:=⟨h.os,h.tape,h.output,h.size,h.block⟩
theorem far_field {w w1:World} {o:Obj} {r:Option Nat} {p:Nat} {v:Value} (h:(w.alloc o).drew.grownBy w1 r) (hp:p<w.heap.size) (hne:r≠some p) (hc:w.cell? ⟨p,1,none⟩=some v) (hf:w.frozen? ⟨p,1,none⟩=false) :
  w1.cell? ⟨p,1,none⟩=some v/\w1.frozen? ⟨p,1,none⟩=false:=by
 have h':=undrew h
 have hb:=h'.block p (by simp;omega) (Ne.symm hne)
 have hb2:=hb.trans (Below.heap_alloc w o p hp)
 exact⟨(World.cell?_of_block (w:=w) (a:=⟨p,1,none⟩) hb2).trans hc,(World.frozen?_of_block (w:=w) (a:=⟨p,1,none⟩) hb2).trans hf⟩
set_option maxHeartbeats 400000 in
theorem alloc_few (h:Ar 153 w B p m v l) (n:Int) (hn:n<1) :
  Calls Tryz.prog 46 #[.pointer (some ⟨p,0,none⟩),.int .i64 n] w fun e w'=>e=.returned (.tuple #[.int .i64 0,.iface 130 (.pointer (some ⟨w.heap.size,0,none⟩))])/\w'=w.alloc (faultAtObj 21 n):=by
 have hx:=h.c0
 go_enter Tryz.func46,Tryz.ntmps46
 go_wp2_with (go_at_call 84;refine (afault_any _ _ _).mono ?_;rintro e w' ⟨rfl,rfl⟩)
 go_ret2
 exact⟨rfl,rfl⟩
set_option maxHeartbeats 400000 in
theorem alloc_full (h:Ar 153 w B p m v l) (n:Int) (hn:1<=n) (hf:m-l.length<n) :
  Calls Tryz.prog 46 #[.pointer (some ⟨p,0,none⟩),.int .i64 n] w fun e w'=>e=.returned (.tuple #[.int .i64 0,.iface 130 (.pointer (some ⟨w.heap.size,0,none⟩))])/\w'=w.alloc (faultAtObj 22 n):=by
 have c0:=h.c0
 have h1:=h.m1
 have h2:=h.m2
 have h3:=h.len
 go_enter Tryz.func46,Tryz.ntmps46
 go_wp2_with (first | (go_at_call 64;refine (top_any h).mono ?_;rintro e w' ⟨rfl,rfl⟩) | (go_at_call 84;refine (afault_any _ _ _).mono ?_;rintro e w' ⟨rfl,rfl⟩))
 go_ret2
 exact⟨rfl,rfl⟩
set_option maxHeartbeats 3200000 in
theorem alloc_ok (h:Ar 153 w B p m v l) (hB:B<=w.heap.size) (n:Nat) (hn:1<=n) (hf:(l.length:Int)+n<=m) :
  Calls Tryz.prog 46 #[.pointer (some ⟨p,0,none⟩),.int .i64 (n:Int)] w fun e w'=>∃v',e=.returned (.tuple #[.int .i64 (l.length:Int),.nilIface])/\a_Upd 153 w w' B p m v (l++frsh l.length n) v':=by
 obtain⟨i0,hi,hz0,hz1,hz2⟩:=info_parts Tryz.infoU
 have c0:=h.c0
 have h1:=h.m1
 have h2:=h.m2
 have h3:=h.len
 have hn':(1:Int)<=(n:Int):=by omega
 go_enter Tryz.func46,Tryz.ntmps46
 go_wp2_with (go_at_call 64;refine (top_any h).mono ?_;rintro e w ⟨rfl,rfl⟩)
 go_loopw [7,28] (fun _ i wr=>∃k:Nat,k<=n/\i=.int .i64 k/\∃v1,a_Upd 153 w wr B p m v (l++frsh l.length k) v1) (fun _ i _=>n-(intOf i).toNat)
 case atStart=>exact⟨0,Nat.zero_le _,rfl,v,by simpa[frsh] using a_Upd.refl h⟩
 case round=>
  obtain⟨k,hk,rfl,v1,hU⟩:=hrel
  by_cases hlt:k<n
  ·have hA:=hU.ar
   have hlen:(l++frsh l.length k).length=l.length+k:=by simp[frsh_len]
   obtain⟨L,hL⟩:∃L,L=l++frsh l.length k:=⟨_,rfl⟩
   rw[←hL] at hA hlen
   have hsz:w.heap.size<=wr.heap.size:=hU.mod.size
   have HL:Hid (L=l++frsh l.length k):=hL
   have HU:Hid (a_Upd 153 w wr B p m v L v1):=by rw[hL];exact hU
   clear hL hU
   have hown:=hA.own
   rw[hlen] at hown
   have hp:=hA.lt
   have hrow:v1.ownBlock≠some p:=fun e=>(hA.row e).2.2 rfl
   have a1:=hA.c1
   have af:=hA.f1
   have hlt':(k:Int)<(n:Int):=by omega
   obtain⟨ao,cap0,hv1,_⟩:=hA.val
   rw[hlen] at hv1
   have HA:Hid (Ar 153 wr B p m v1 L):=hA
   clear hA hlen
   subst hv1
   have hwr:IntKind.i64.wrap ((l.length:Int)+k)=(l.length:Int)+k:=by rw[IntKind.wrap_i64];omega
   go_wp2
   go_region_law
    (first
     | (go_simp;go_at_call 92;refine (fresh_any _ _ (by omega) (by omega)).mono ?_;rintro e wq ⟨rfl,hwq⟩;subst hwq)
     | (refine step_append_lies _ (by rfl) _ _ _ (by rfl) B 120 i0 (.int .u64 0) 1 8 Tryz.underlying151 hi hz0 hz1 hz2 rfl (by omega) _ (l.length+k) (L.map (Value.int .u64)) (by rfl) ((hown.alloc _).drew) ⟨wr.heap.size,0,none⟩ 1 1 [.int .u64 (8*((l.length:Int)+k))] (by rfl) (by rfl) (World.news_of_block (cs:=#[.int .u64 (8*((l.length:Int)+k))]) (t:=120) (fr:=(0,0)) (heap_alloc_new wr _)) (by simp[Value.oneCell']) (by omega) (by unfold maxLen;omega) (by omega) (by simp;omega) (wr.heap.size+1) (by simp) ?_;intro g cap w1 hown1 hgrow hat hlt1;obtain⟨hc1,hf1⟩:=far_field hgrow hp hrow a1 af))
   all_goals go_wp2
   all_goals
    go_roundw
    case rel=>
     have hA:=HA.out
     have hLl:L.length=l.length+k:=by rw[HL.out];simp[frsh_len]
     have R:=push_one (w1:=w1) (x:=8*((l.length:Int)+k)) (g:=g) (cap:=cap) hA _ (undrew hgrow) (by rw[hLl];exact hown1) hat (by rw[hLl];omega) (by omega)
     rw[hLl] at R
     have HU':=HU.out.trans R
     rw[HL.out,List.append_assoc,←Int.natCast_add,←frsh_succ] at HU'
     exact⟨k+1,by omega,by go_num,_,HU'⟩
    case measure=>simp[intOf];omega
  ·have hlt':¬(k:Int)<(n:Int):=by omega
   obtain rfl:k=n:=by omega
   have HU:Hid (a_Upd 153 w wr B p m v (l++frsh l.length k) v1):=hU
   clear hU
   go_wp2
   go_ret2
   exact⟨rfl,v1,HU.out⟩
end
end Go.Proofs.YtpkojcfdkkjmcaaGreatDoor
namespace Go.Proofs.YtpkojcfdkkjmcaaGreatDoor
set_option maxRecDepth 100000
open Go.RowKit
structure Hp (w:World) (B hb ab tb:Nat) (m:Int) (av:Value) (l:List Int) (tv:Value) (tq:Nat) (ns:List ByteArray) (trv ptv:Value) (n:Int):Prop where
 blk:w.heap[hb]?=some (.cells #[.pointer (some ⟨ab,0,none⟩),.pointer (some ⟨tb,0,none⟩),trv,ptv,.int .i64 n] 100)
 base:B<=hb
 ar:Ar 153 w B ab m av l
 tb:Tb w B tb tv tq ns
section
variable {w w':World} {B hb ab tb:Nat} {m:Int} {av:Value} {l:List Int} {tv:Value} {tq:Nat} {ns:List ByteArray} {trv ptv:Value} {n:Int}
theorem Hp.below (h:Hp w B hb ab tb m av l tv tq ns trv ptv n) (hm:Below w.heap.size w w'):Hp w' B hb ab tb m av l tv tq ns trv ptv n:=
 ⟨(hm.block _ (lt_of_block h.blk)).trans h.blk,h.base,h.ar.below hm,h.tb.below hm⟩
theorem Hp.cells (h:Hp w B hb ab tb m av l tv tq ns trv ptv n):(w.cell? ⟨hb,0,none⟩=some (.pointer (some ⟨ab,0,none⟩))/\w.cell? ⟨hb,1,none⟩=some (.pointer (some ⟨tb,0,none⟩))/\w.cell? ⟨hb,2,none⟩=some trv/\w.cell? ⟨hb,3,none⟩=some ptv/\w.cell? ⟨hb,4,none⟩=some (.int .i64 n))/\hb<w.heap.size:=by
 have e:=h.blk
 refine⟨⟨?_,?_,?_,?_,?_⟩,lt_of_block e⟩ <;> simp[World.cell?,e]
end
set_option maxHeartbeats 400000 in
theorem self_some (hb:Nat) (w:World) :
  Calls Tryz.prog 57 #[.pointer (some ⟨hb,0,none⟩)] w fun e w'=>e=.returned (.pointer (some ⟨hb,0,none⟩))/\w'=w:=by
 go_enter Tryz.func57,Tryz.ntmps57
 go_wp2
 go_ret
 exact⟨rfl,rfl⟩
section
variable {w:World} {B hb ab tb:Nat} {m:Int} {av:Value} {l:List Int} {tv:Value} {tq:Nat} {ns:List ByteArray} {trv ptv:Value} {n:Int}
set_option maxHeartbeats 800000 in
theorem hcell_any (h:Hp w B hb ab tb m av l tv tq ns trv ptv n) (x:Int) :
  Calls Tryz.prog 114 #[.pointer (some ⟨hb,0,none⟩),.int .i64 x] w fun e w'=>e=.returned (.bool (cellB l x))/\Below w.heap.size w w':=by
 obtain⟨⟨c0,_⟩,c5⟩:=h.cells
 have hc:=hid (iscell_any h.ar x)
 clear h
 go_enter Tryz.func114,Tryz.ntmps114
 go_wp2_with (first
  | (go_at_call 57;refine (self_some _ _).mono ?_;rintro e w' ⟨rfl,rfl⟩)
  | (go_at_call 104;refine hc.out.mono ?_;rintro e w1 ⟨rfl,hb1⟩))
 go_ret
 exact⟨rfl,hb1⟩
end
theorem cstr_eg:∀args w,(callFunc 103 args).run Tryz.prog w=.ok (.enter 103 args) w:=enters_of Tryz.func103 (by kernel_rfl) rfl
section
variable {w:World} {B p:Nat} {m:Int} {v:Value} {l:List Int}
set_option maxHeartbeats 800000 in
theorem cstr_any (h:Ar 153 w B p m v l) {b:Nat} (hx:w.heap[b]?=some (.cells #[.pointer (some ⟨p,0,none⟩)] 92)) (x:Int) :
  Calls Tryz.prog 103 #[.int .i64 x,.pointer (some ⟨b,0,none⟩)] w fun e w'=>e=.returned (.bool (!cellB l x))/\Below w.heap.size w w':=by
 have c0:w.cell? ⟨b,0,none⟩=some (.pointer (some ⟨p,0,none⟩)):=by simp[World.cell?,hx]
 have z0:=lt_of_block hx
 have hc:=hid (iscell_any h x)
 clear h hx
 go_enter Tryz.func103,Tryz.ntmps103
 go_wp2_with (go_at_call 104;refine hc.out.mono ?_;rintro e w1 ⟨rfl,hb1⟩)
 go_ret
 exact⟨rfl,hb1⟩
def badC (l:List Int) (cs:List Int):Int:=ixOf (fun x=>!cellB l x) cs
def badF (l:List Int) (cs:List Int):Fs:=if 0<=badC l cs then [(113,badC l cs)] else []
set_option maxHeartbeats 2000000 in
theorem checkedC_any (h:Ar 153 w B p m v l) {cv:Value} {cs:List Int} (hc:Ri w cv cs) (hl:cs.length<=5000) :
  Calls Tryz.prog 58 #[blkV p,cv] w fun e w'=>(∃ev,e=.returned ev/\Er w' ev (badF l cs))/\Below w.heap.size w w':=by
 have hb0:=below_alloc w (.cells #[.pointer (some ⟨p,0,none⟩)] 92)
 have hx0:=heap_alloc_new w (.cells #[.pointer (some ⟨p,0,none⟩)] 92)
 have hmf:∀(fn:Fn) (first cap:Array Value) (w:World),(Instr.makeFunc fn first cap).run Tryz.prog w=.ok (.func fn first cap) w:=fun _ _ _ _=>rfl
 have hix:=hid (index_ints 103 #[.pointer (some ⟨w.heap.size,0,none⟩)] cstr_eg cv cs (fun k=>!cellB l (cs.getD k 0)) (fun _ w1=>Below w.heap.size w w1/\w1.heap[w.heap.size]?=some (.cells #[.pointer (some ⟨p,0,none⟩)] 92)) (fun _ w1=>Below w.heap.size w w1) (w.alloc (.cells #[.pointer (some ⟨p,0,none⟩)] 92)) hl (fun k w1 h1=>hc.below h1.1) (fun k w1 hk h1=>by
  refine (cstr_any (h.below h1.1) h1.2 (cs.getD k 0)).mono ?_
  rintro e w2 ⟨rfl,hb2⟩
  exact⟨rfl,fun _=>Below.next h1.1 hb2,fun _=>⟨Below.next h1.1 hb2,(hb2.block _ (lt_of_block h1.2)).trans h1.2⟩⟩) ⟨hb0,hx0⟩)
 have hhit:Hid (∀k,k<cs.length->(∀j,j<k->(!cellB l (cs.getD j 0))=false)->(!cellB l (cs.getD k 0))=true->badC l cs=(k:Int)):=fun k hk h1 h2=>ixOf_hit 0 (fun x=>!cellB l x) cs k hk h1 h2
 have hmis:Hid ((∀j,j<cs.length->(!cellB l (cs.getD j 0))=false)->badC l cs = -1):=fun h1=>ixOf_miss 0 (fun x=>!cellB l x) cs h1
 have hFS:Hid (badF l cs=if 0<=badC l cs then [(113,badC l cs)] else []):=rfl
 generalize badF l cs=FS at *
 generalize badC l cs=R at *
 obtain⟨ao,cc,rfl,_⟩:=hc
 clear h hb0 hx0
 go_enter Tryz.func58,Tryz.ntmps58
 go_wp2_with (first
  | (go_at_call 70;refine hix.out.mono ?_;clear hix;rintro e w1 (⟨k,hk,h1,h2,rfl,hT⟩ | ⟨h1,rfl,hI,_⟩))
  | (go_at_call 42;refine (cfault_any _ _ _).mono ?_;rintro e w2 ⟨rfl,rfl⟩))
 ·have e0:=hhit.out k hk h1 h2
  have e1:FS=[(113,(k:Int))]:=by rw[hFS.out,e0,if_pos (by omega)]
  go_ret
  refine⟨⟨_,rfl,?_⟩,hT.alloc hT.size _⟩
  rw[e1]
  exact⟨show (113:Int)≠0 by decide,w1.heap.size,.nilIface,rfl,heap_alloc_new w1 _,rfl⟩
 ·have e0:=hmis.out h1
  have e1:FS=[]:=by rw[hFS.out,e0,if_neg (by omega)]
  go_ret
  refine⟨⟨_,rfl,?_⟩,hI⟩
  rw[e1]
  rfl
end
end Go.Proofs.YtpkojcfdkkjmcaaGreatDoor
namespace Go.Proofs.YtpkojcfdkkjmcaaGreatDoor
set_option maxRecDepth 100000
open Go.RowKit Go.Maps
theorem labRow:(283:TypeId)<Tryz.prog.types.size:=of_decide_eq_true (by kernel_rfl)
theorem labWide:(match Tryz.prog.underlying 283 with | some (.array _ _) | some (.struct _)=>true | _=>false)=true:=by kernel_rfl
theorem labLaid:laidOutB Tryz.prog=true:=by kernel_rfl
theorem labLaw:Keyed Tryz.prog 283:=Keyed.of_law (deep_law_laid labLaid (m:=3) (by omega) labRow (by kernel_rfl) labWide)
theorem labKt:Tryz.prog.keyType 283=true:=by kernel_rfl
theorem labCells:Tryz.prog.cellsOf 283=5:=by kernel_rfl
theorem intCells:Tryz.prog.cellsOf 3=1:=by kernel_rfl
theorem strCells:Tryz.prog.cellsOf 9=1:=by kernel_rfl
theorem label_lits (d:Nat) (a b c e:Int) (s:ByteArray) (ha:(Lit.int .i64 a).wf=true) (hb:(Lit.int .i64 b).wf=true) (hc:(Lit.int .i64 c).wf=true) (he:(Lit.int .i64 e).wf=true) (hs:s.size<=maxLen) :
  Tryz.prog.keyLits (d+1+1) 283 [.int .i64 a,.int .i64 b,.int .i64 c,.int .i64 e,.string s]=some [.int .i64 a,.int .i64 b,.int .i64 c,.int .i64 e,.string s.data.toList]:=by
 simp[Program.keyLits,Tryz.underlying283,Tryz.underlying3,Tryz.underlying9,labCells,intCells,strCells,ha,hb,hc,he,hs]
theorem label_key (a b c e:Int) (s:ByteArray) (ha:(Lit.int .i64 a).wf=true) (hb:(Lit.int .i64 b).wf=true) (hc:(Lit.int .i64 c).wf=true) (he:(Lit.int .i64 e).wf=true) (hs:s.size<=maxLen) :
  ∃kl,keyOf Tryz.prog 283 (.agg #[.int .i64 a,.int .i64 b,.int .i64 c,.int .i64 e,.string s])=some kl:=by
 obtain⟨d,hd⟩:∃d,Tryz.prog.types.size=d+1:=Nat.exists_eq_add_one.2 (Nat.lt_of_le_of_lt (Nat.zero_le _) labRow)
 unfold keyOf
 simp only[Tryz.underlying283]
 have hf:(Value.agg #[.int .i64 a,.int .i64 b,.int .i64 c,.int .i64 e,.string s]).formed Tryz.prog 283=true:=by
  simp[Value.formed,Tryz.underlying283,labCells]
 rw[labKt,hf,hd]
 have:=label_lits d a b c e s ha hb hc he hs
 exact⟨.string (keyBytes [.int .i64 a,.int .i64 b,.int .i64 c,.int .i64 e,.string s.data.toList]),by simp[Value.cells,this]⟩
end Go.Proofs.YtpkojcfdkkjmcaaGreatDoor

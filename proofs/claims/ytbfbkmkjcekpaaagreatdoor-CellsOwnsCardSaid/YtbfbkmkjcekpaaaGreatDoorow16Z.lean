/- Package cells: the word by which the term of a cell is told. -/
import Derived.Test.YtbfbkmkjcekpaaaGreatDoorow06Z
import Derived.Test.YtbfbkmkjcekpaaaGreatDoorow13Z
import Derived.Test.YtbfbkmkjcekpaaaGreatDoorow04Z
import Derived.Test.YtbfbkmkjcekpaaaGreatDoorow14Z
import Derived.Test.YtbfbkmkjcekpaaaGreatDoorow09Z
import Derived.Test.YtbfbkmkjcekpaaaGreatDoorow10Z
namespace Go.Proofs.YtbfbkmkjcekpaaaGreatDoor
set_option maxRecDepth 100000
open Go.RowKit
theorem tag_cases {x:Int} (h:goodB x=true):x % 8=0∨x % 8=1∨x % 8=2∨x % 8=3∨x % 8=4∨x % 8=5:=by
 have:=fits_tag _ _ h
 omega
theorem val_place {x:Int} (h:goodB x=true) (ht:x % 8=0∨x % 8=3∨x % 8=5):0<=valOf x:=by
 unfold goodB at h
 rcases ht with e | e | e <;> rw[e] at h <;> simp[fitsB] at h <;> omega
theorem fits_str {k:Nat} (h:k<65536):fitsB 3 (k:Int)=true:=by
 simp[fitsB]
 omega
section
variable {w:World} {B p:Nat} {m:Int} {v:Value} {l:List Int} {V:Nat->Bool}
set_option maxHeartbeats 4000000 in
theorem term_any (h:Ar 138 w B p m v l) (hs:Snd l V) (k:Nat) (hk:k<l.length) :
  Calls Tryz.prog 44 #[blkV p,.int .i64 (k:Int)] w fun e w'=>e=.returned (.int .u64 (trmW l k))/\Below w.heap.size w w':=by
 have hb0:=hid (below_alloc w (.cells #[.pointer (some ⟨p,0,none⟩)] 89))
 have hx0:=hid (heap_alloc_new w (.cells #[.pointer (some ⟨p,0,none⟩)] 89))
 have hlen:Hid (l.length<=65536):=show _<=_ by
  have h1:=h.len
  have h2:=h.m2
  omega
 have HA:=hid h
 have HS:=hid hs
 have HR:Hid (∀R,R=trmW l k->True):=fun _ _=>trivial
 obtain⟨R,hR⟩:∃R,R=trmW l k:=⟨_,rfl⟩
 rw[←hR]
 replace hR:=hid hR
 clear h hs HR
 go_enter Tryz.func44,Tryz.ntmps44
 go_wp2
 go_loopw [1] (fun a wr=>∃j:Nat,j<l.length/\a=.int .i64 (j:Int)/\Hid (R=trmW l j)/\Hid (Below w.heap.size w wr)/\Hid (wr.heap[w.heap.size]?=some (.cells #[.pointer (some ⟨p,0,none⟩)] 89))) (fun a _=>rkN l V (intOf a).toNat)
 case atStart=>exact⟨k,hk,rfl,hR,hb0,hx0⟩
 case round=>
  clear hb0 hx0 hR hk
  obtain⟨j,hj,rfl,hR,hb,hx⟩:=hrel
  have hbx:=hx.out
  have z0:=lt_of_block hbx
  have c0:wr.cell? ⟨w.heap.size,0,none⟩=some (.pointer (some ⟨p,0,none⟩)):=by simp[World.cell?,hbx]
  have hwd:=hid (bword_ok (HA.out.below hb.out) j hj)
  have hg:=HS.out.good j hj
  have hr:=HS.out.rng (l.getD j 0) (by simp[List.getD,hj])
  have hnx:Hid (∀i,nxN l j=some i->i<l.length/\rkN l V i<rkN l V j/\R=trmW l i):=fun i e=>by
   obtain⟨h1,h2⟩:=nx_rk HS.out hj e
   exact⟨h1,h2,hR.out.trans (trm_next HS.out hj e)⟩
  have hen:Hid (nxN l j=none->R=endW l j):=fun e=>hR.out.trans (trm_end e)
  have ew:Hid (wdN l j=l.getD j 0):=rfl
  have hdef:Hid (tgN l j=l.getD j 0 % 8/\vlN l j=(valOf (l.getD j 0)).toNat):=⟨rfl,rfl⟩
  rw[show wdN l j=l.getD j 0 from rfl] at hg
  have htc:=tag_cases hg
  have hvp:=hid (fun h=>val_place hg h)
  generalize l.getD j 0=x at *
  have htg:=hid (fun w=>tag_any x w hr.1 hr.2)
  have hva:=hid (fun w=>value_any x w)
  have hpk:=hid (fun w=>packed_ok 3 (j:Int) w (fits_str (by have:=hlen.out;omega)))
  rcases htc with ht | ht | ht | ht | ht | ht
  ·skip
   have hj2:Hid (tgN l j=0):=show _=_ by rw[hdef.out.1];exact ht
   rw[ht] at htg
   by_cases hself:valOf x=(j:Int)
   ·have hRx:Hid (R=x):=show _=_ by
     have h1:vlN l j=j:=by rw[hdef.out.2,hself,Int.toNat_natCast]
     have h2:nxN l j=none:=by unfold nxN;rw[if_pos hj2.out,if_pos h1]
     rw[hen.out h2]
     unfold endW
     rw[if_neg (by rw[hj2.out];decide),ew.out]
    rw[hself] at hva
    clear hnx hen hdef hvp hpk ht
    go_wp2_with (first
    | (go_at_call 85;refine hwd.out.mono ?_;rintro e w1 ⟨rfl,hb1⟩;have hb2:=hid (Below.next hb.out hb1);have hx2:=hid ((hb1.block _ z0).trans hx.out);clear hb1)
    | (go_at_call 59;refine (htg.out _).mono ?_;rintro e w2 ⟨rfl,rfl⟩)
    | (go_at_call 60;refine (hva.out _).mono ?_;rintro e w2 ⟨rfl,rfl⟩)
    | (go_at_call 63;refine (hpk.out _).mono ?_;rintro e w2 ⟨rfl,rfl⟩))
    go_ret
    exact⟨ret_int hRx.out.symm,hb2.out⟩
   ·have hv0:=hvp.out (Or.inl ht)
    obtain⟨i,hvi⟩:∃i:Nat,valOf x=(i:Int):=⟨(valOf x).toNat,by omega⟩
    obtain⟨hi,hrk,hRi⟩:=hnx.out i (by
     have h1:vlN l j=i:=by rw[hdef.out.2,hvi,Int.toNat_natCast]
     unfold nxN
     rw[if_pos hj2.out,if_neg (by omega),h1])
    have d0:((i:Int) == (j:Int))=false:=by simp;omega
    have Hrk:=hid hrk
    have HRi:=hid hRi
    rw[hvi] at hva
    clear hnx hen hdef hvp hpk ht hrk hRi hself hv0 hvi
    go_wp2_with (first
    | (go_at_call 85;refine hwd.out.mono ?_;rintro e w1 ⟨rfl,hb1⟩;have hb2:=hid (Below.next hb.out hb1);have hx2:=hid ((hb1.block _ z0).trans hx.out);clear hb1)
    | (go_at_call 59;refine (htg.out _).mono ?_;rintro e w2 ⟨rfl,rfl⟩)
    | (go_at_call 60;refine (hva.out _).mono ?_;rintro e w2 ⟨rfl,rfl⟩)
    | (go_at_call 63;refine (hpk.out _).mono ?_;rintro e w2 ⟨rfl,rfl⟩))
    go_roundw
    case rel=>exact⟨i,hi,rfl,HRi,hb2,hx2⟩
    case measure=>simp only[intOf,Int.toNat_natCast];exact Hrk.out
  ·have hRx:Hid (R=x):=show _=_ by
    have h2:nxN l j=none:=by unfold nxN;rw[hdef.out.1,if_neg (by omega),if_neg (by omega)]
    rw[hen.out h2]
    unfold endW
    rw[if_neg (by rw[hdef.out.1];omega),ew.out]
   rw[ht] at htg
   clear hnx hen hdef hvp hpk ht
   go_wp2_with (first
    | (go_at_call 85;refine hwd.out.mono ?_;rintro e w1 ⟨rfl,hb1⟩;have hb2:=hid (Below.next hb.out hb1);have hx2:=hid ((hb1.block _ z0).trans hx.out);clear hb1)
    | (go_at_call 59;refine (htg.out _).mono ?_;rintro e w2 ⟨rfl,rfl⟩)
    | (go_at_call 60;refine (hva.out _).mono ?_;rintro e w2 ⟨rfl,rfl⟩)
    | (go_at_call 63;refine (hpk.out _).mono ?_;rintro e w2 ⟨rfl,rfl⟩))
   go_ret
   exact⟨ret_int hRx.out.symm,hb2.out⟩
  ·have hRx:Hid (R=x):=show _=_ by
    have h2:nxN l j=none:=by unfold nxN;rw[hdef.out.1,if_neg (by omega),if_neg (by omega)]
    rw[hen.out h2]
    unfold endW
    rw[if_neg (by rw[hdef.out.1];omega),ew.out]
   rw[ht] at htg
   clear hnx hen hdef hvp hpk ht
   go_wp2_with (first
    | (go_at_call 85;refine hwd.out.mono ?_;rintro e w1 ⟨rfl,hb1⟩;have hb2:=hid (Below.next hb.out hb1);have hx2:=hid ((hb1.block _ z0).trans hx.out);clear hb1)
    | (go_at_call 59;refine (htg.out _).mono ?_;rintro e w2 ⟨rfl,rfl⟩)
    | (go_at_call 60;refine (hva.out _).mono ?_;rintro e w2 ⟨rfl,rfl⟩)
    | (go_at_call 63;refine (hpk.out _).mono ?_;rintro e w2 ⟨rfl,rfl⟩))
   go_ret
   exact⟨ret_int hRx.out.symm,hb2.out⟩
  ·have hv0:=hvp.out (Or.inr (Or.inl ht))
   obtain⟨i,hvi⟩:∃i:Nat,valOf x=(i:Int):=⟨(valOf x).toNat,by omega⟩
   obtain⟨hi,hrk,hRi⟩:=hnx.out i (by
    have h1:vlN l j=i:=by rw[hdef.out.2,hvi,Int.toNat_natCast]
    unfold nxN
    rw[hdef.out.1,if_neg (by omega),if_pos (Or.inl ht),h1])
   have Hrk:=hid hrk
   have HRi:=hid hRi
   rw[hvi] at hva
   rw[ht] at htg
   clear hnx hen hdef hvp hpk ht hrk hRi hv0 hvi
   go_wp2_with (first
    | (go_at_call 85;refine hwd.out.mono ?_;rintro e w1 ⟨rfl,hb1⟩;have hb2:=hid (Below.next hb.out hb1);have hx2:=hid ((hb1.block _ z0).trans hx.out);clear hb1)
    | (go_at_call 59;refine (htg.out _).mono ?_;rintro e w2 ⟨rfl,rfl⟩)
    | (go_at_call 60;refine (hva.out _).mono ?_;rintro e w2 ⟨rfl,rfl⟩)
    | (go_at_call 63;refine (hpk.out _).mono ?_;rintro e w2 ⟨rfl,rfl⟩))
   go_roundw
   case rel=>exact⟨i,hi,rfl,HRi,hb2,hx2⟩
   case measure=>simp only[intOf,Int.toNat_natCast];exact Hrk.out
  ·have hRx:Hid (R=wordOf 3 (j:Int)):=show _=_ by
    have h2:nxN l j=none:=by unfold nxN;rw[hdef.out.1,if_neg (by omega),if_neg (by omega)]
    rw[hen.out h2]
    unfold endW
    rw[if_pos (by rw[hdef.out.1];omega)]
   rw[ht] at htg
   clear hnx hen hdef hvp ht
   generalize wordOf 3 (j:Int)=y at *
   go_wp2_with (first
    | (go_at_call 85;refine hwd.out.mono ?_;rintro e w1 ⟨rfl,hb1⟩;have hb2:=hid (Below.next hb.out hb1);have hx2:=hid ((hb1.block _ z0).trans hx.out);clear hb1)
    | (go_at_call 59;refine (htg.out _).mono ?_;rintro e w2 ⟨rfl,rfl⟩)
    | (go_at_call 60;refine (hva.out _).mono ?_;rintro e w2 ⟨rfl,rfl⟩)
    | (go_at_call 63;refine (hpk.out _).mono ?_;rintro e w2 ⟨rfl,rfl⟩))
   go_ret
   exact⟨ret_int hRx.out.symm,hb2.out⟩
  ·have hv0:=hvp.out (Or.inr (Or.inr ht))
   obtain⟨i,hvi⟩:∃i:Nat,valOf x=(i:Int):=⟨(valOf x).toNat,by omega⟩
   obtain⟨hi,hrk,hRi⟩:=hnx.out i (by
    have h1:vlN l j=i:=by rw[hdef.out.2,hvi,Int.toNat_natCast]
    unfold nxN
    rw[hdef.out.1,if_neg (by omega),if_pos (Or.inr ht),h1])
   have Hrk:=hid hrk
   have HRi:=hid hRi
   rw[hvi] at hva
   rw[ht] at htg
   clear hnx hen hdef hvp hpk ht hrk hRi hv0 hvi
   go_wp2_with (first
    | (go_at_call 85;refine hwd.out.mono ?_;rintro e w1 ⟨rfl,hb1⟩;have hb2:=hid (Below.next hb.out hb1);have hx2:=hid ((hb1.block _ z0).trans hx.out);clear hb1)
    | (go_at_call 59;refine (htg.out _).mono ?_;rintro e w2 ⟨rfl,rfl⟩)
    | (go_at_call 60;refine (hva.out _).mono ?_;rintro e w2 ⟨rfl,rfl⟩)
    | (go_at_call 63;refine (hpk.out _).mono ?_;rintro e w2 ⟨rfl,rfl⟩))
   go_roundw
   case rel=>exact⟨i,hi,rfl,HRi,hb2,hx2⟩
   case measure=>simp only[intOf,Int.toNat_natCast];exact Hrk.out
end
end Go.Proofs.YtbfbkmkjcekpaaaGreatDoor
namespace Go.Proofs.YtbfbkmkjcekpaaaGreatDoor
set_option maxRecDepth 100000
open Go.RowKit
structure Hp (w:World) (B hb ab tb:Nat) (m:Int) (av:Value) (l:List Int) (tv:Value) (tq:Nat) (ns:List ByteArray) (trv ptv:Value) (n:Int):Prop where
 blk:w.heap[hb]?=some (.cells #[.pointer (some ⟨ab,0,none⟩),.pointer (some ⟨tb,0,none⟩),trv,ptv,.int .i64 n] 91)
 base:B<=hb
 ar:Ar 138 w B ab m av l
 tb:Tb w B tb tv tq ns
section
variable {w w':World} {B hb ab tb:Nat} {m:Int} {av:Value} {l:List Int} {tv:Value} {tq:Nat} {ns:List ByteArray} {trv ptv:Value} {n:Int}
theorem Hp.below (h:Hp w B hb ab tb m av l tv tq ns trv ptv n) (hm:Below w.heap.size w w'):Hp w' B hb ab tb m av l tv tq ns trv ptv n:=
 ⟨(hm.block _ (lt_of_block h.blk)).trans h.blk,h.base,h.ar.below hm,h.tb.below hm⟩
theorem Hp.cells (h:Hp w B hb ab tb m av l tv tq ns trv ptv n):(w.cell? ⟨hb,0,none⟩=some (.pointer (some ⟨ab,0,none⟩))/\w.cell? ⟨hb,1,none⟩=some (.pointer (some ⟨tb,0,none⟩))/\w.cell? ⟨hb,2,none⟩=some trv/\w.cell? ⟨hb,3,none⟩=some ptv/\w.cell? ⟨hb,4,none⟩=some (.int .i64 n))/\hb<w.heap.size:=by
 have e:=h.blk
 refine⟨⟨?_,?_,?_,?_,?_⟩,lt_of_block e⟩ <;> simp[World.cell?,e]
end
set_option maxHeartbeats 400000 in
theorem self_some (hb:Nat) (w:World) :
  Calls Tryz.prog 40 #[.pointer (some ⟨hb,0,none⟩)] w fun e w'=>e=.returned (.pointer (some ⟨hb,0,none⟩))/\w'=w:=by
 go_enter Tryz.func40,Tryz.ntmps40
 go_wp2
 go_ret
 exact⟨rfl,rfl⟩
theorem cstr_eg:∀args w,(callFunc 80 args).run Tryz.prog w=.ok (.enter 80 args) w:=enters_of Tryz.func80 (by kernel_rfl) rfl
section
variable {w:World} {B p:Nat} {m:Int} {v:Value} {l:List Int}
set_option maxHeartbeats 800000 in
theorem cstr_any (h:Ar 138 w B p m v l) {b:Nat} (hx:w.heap[b]?=some (.cells #[.pointer (some ⟨p,0,none⟩)] 89)) (x:Int) :
  Calls Tryz.prog 80 #[.int .i64 x,.pointer (some ⟨b,0,none⟩)] w fun e w'=>e=.returned (.bool (!cellB l x))/\Below w.heap.size w w':=by
 have c0:w.cell? ⟨b,0,none⟩=some (.pointer (some ⟨p,0,none⟩)):=by simp[World.cell?,hx]
 have z0:=lt_of_block hx
 have hc:=hid (iscell_any h x)
 clear h hx
 go_enter Tryz.func80,Tryz.ntmps80
 go_wp2_with (go_at_call 81;refine hc.out.mono ?_;rintro e w1 ⟨rfl,hb1⟩)
 go_ret
 exact⟨rfl,hb1⟩
def badC (l:List Int) (cs:List Int):Int:=ixOf (fun x=>!cellB l x) cs
def badF (l:List Int) (cs:List Int):Fs:=if 0<=badC l cs then [(113,badC l cs)] else []
set_option maxHeartbeats 2000000 in
theorem checkedC_any (h:Ar 138 w B p m v l) {cv:Value} {cs:List Int} (hc:Ri w cv cs) (hl:cs.length<=5000) :
  Calls Tryz.prog 41 #[blkV p,cv] w fun e w'=>(∃ev,e=.returned ev/\Er w' ev (badF l cs))/\Below w.heap.size w w':=by
 have hb0:=below_alloc w (.cells #[.pointer (some ⟨p,0,none⟩)] 89)
 have hx0:=heap_alloc_new w (.cells #[.pointer (some ⟨p,0,none⟩)] 89)
 have hmf:∀(fn:Fn) (first cap:Array Value) (w:World),(Instr.makeFunc fn first cap).run Tryz.prog w=.ok (.func fn first cap) w:=fun _ _ _ _=>rfl
 have hix:=hid (index_ints 80 #[.pointer (some ⟨w.heap.size,0,none⟩)] cstr_eg cv cs (fun k=>!cellB l (cs.getD k 0)) (fun _ w1=>Below w.heap.size w w1/\w1.heap[w.heap.size]?=some (.cells #[.pointer (some ⟨p,0,none⟩)] 89)) (fun _ w1=>Below w.heap.size w w1) (w.alloc (.cells #[.pointer (some ⟨p,0,none⟩)] 89)) hl (fun k w1 h1=>hc.below h1.1) (fun k w1 hk h1=>by
  refine (cstr_any (h.below h1.1) h1.2 (cs.getD k 0)).mono ?_
  rintro e w2 ⟨rfl,hb2⟩
  exact⟨rfl,fun _=>Below.next h1.1 hb2,fun _=>⟨Below.next h1.1 hb2,(hb2.block _ (lt_of_block h1.2)).trans h1.2⟩⟩) ⟨hb0,hx0⟩)
 have hhit:Hid (∀k,k<cs.length->(∀j,j<k->(!cellB l (cs.getD j 0))=false)->(!cellB l (cs.getD k 0))=true->badC l cs=(k:Int)):=fun k hk h1 h2=>ixOf_hit 0 (fun x=>!cellB l x) cs k hk h1 h2
 have hmis:Hid ((∀j,j<cs.length->(!cellB l (cs.getD j 0))=false)->badC l cs = -1):=fun h1=>ixOf_miss 0 (fun x=>!cellB l x) cs h1
 have hFS:Hid (badF l cs=if 0<=badC l cs then [(113,badC l cs)] else []):=rfl
 generalize badF l cs=FS at *
 generalize badC l cs=R at *
 obtain⟨ao,cc,rfl,_⟩:=hc
 clear h hb0 hx0
 go_enter Tryz.func41,Tryz.ntmps41
 go_wp2_with (first
  | (go_at_call 82;refine hix.out.mono ?_;clear hix;rintro e w1 (⟨k,hk,h1,h2,rfl,hT⟩ | ⟨h1,rfl,hI,_⟩))
  | (go_at_call 32;refine (cfault_any _ _ _).mono ?_;rintro e w2 ⟨rfl,rfl⟩))
 ·have e0:=hhit.out k hk h1 h2
  have e1:FS=[(113,(k:Int))]:=by rw[hFS.out,e0,if_pos (by omega)]
  go_ret
  refine⟨⟨_,rfl,?_⟩,hT.alloc hT.size _⟩
  rw[e1]
  exact⟨show (113:Int)≠0 by decide,w1.heap.size,.nilIface,rfl,heap_alloc_new w1 _,rfl⟩
 ·have e0:=hmis.out h1
  have e1:FS=[]:=by rw[hFS.out,e0,if_neg (by omega)]
  go_ret
  refine⟨⟨_,rfl,?_⟩,hI⟩
  rw[e1]
  rfl
end
end Go.Proofs.YtbfbkmkjcekpaaaGreatDoor
namespace Go.Proofs.YtbfbkmkjcekpaaaGreatDoor
set_option maxRecDepth 100000
open Go.RowKit
theorem len_le_of_subset:∀(S l:List Int),l.Nodup->(∀x∈l,x∈S)->l.length<=S.length
 | [],l,_,h=>by
  cases l with
  | nil=>simp
  | cons a r=>exact absurd (h a (by simp)) (by simp)
 | a::S,l,hn,h=>by
  by_cases hm:a∈l
  ·have h1:=len_le_of_subset S (l.erase a) (hn.erase _) (fun x hx=>by
    have h2:=(hn.mem_erase_iff).1 hx
    rcases List.mem_cons.1 (h x h2.2) with e | e
    ·exact absurd e h2.1
    ·exact e)
   rw[List.length_erase_of_mem hm] at h1
   simp only[List.length_cons]
   omega
  ·have:=len_le_of_subset S l hn (fun x hx=>by
    rcases List.mem_cons.1 (h x hx) with e | e
    ·exact absurd (by rw[←e];exact hx) hm
    ·exact e)
   simp only[List.length_cons]
   omega
structure In (S m:List Int):Prop where
 nodup:m.Nodup
 sub:∀x∈m,x∈S
theorem In.snoc {S m:List Int} {n:Int} (h:In S m) (hn:n∉m) (hS:n∈S):In S (m++[n]):=by
 refine⟨List.nodup_append.2 ⟨h.nodup,by simp,?_⟩,fun x hx=>?_⟩
 ·intro a ha b hb e
  simp at hb
  subst e hb
  exact hn ha
 ·rcases List.mem_append.1 hx with hx | hx
  ·exact h.sub x hx
  ·simp at hx
   subst hx
   exact hS
theorem In.full {S m:List Int} (h:In S m) (hl:S.length<=m.length) {x:Int} (hx:x∈S):x∈m:=by
 by_cases hm:x∈m
 ·exact hm
 ·have h1:=h.snoc hm hx
  have:=len_le_of_subset S (m++[x]) h1.nodup h1.sub
  simp at this
  omega
theorem meet_still {g:Gf} (f:Nat) (l m:List Int) (h:∀x∈l,x∈m):meetF g f l m=m:=by
 cases f with
 | zero=>rfl
 | succ f=>
  rw[meetF_succ]
  induction l with
  | nil=>rfl
  | cons n r ih=>
   rw[List.foldl_cons]
   have:stepF g f m n=m:=if_pos (h n (by simp))
   rw[this]
   exact ih (fun x hx=>h x (by simp[hx]))
theorem meet_inS {g:Gf} {S:List Int} (hc:∀x∈S,∀y∈g.argsOf x,y∈S):∀(f:Nat) (l m:List Int),(∀x∈l,x∈S)->In S m->In S (meetF g f l m)/\m.length<=(meetF g f l m).length
 | 0,_,m,_,h=>⟨h,Nat.le_refl _⟩
 | f+1,l,m,hl,h=>by
  rw[meetF_succ]
  induction l generalizing m with
  | nil=>exact⟨h,Nat.le_refl _⟩
  | cons n r ih=>
   rw[List.foldl_cons]
   have hn:=hl n (by simp)
   have hs:In S (stepF g f m n)/\m.length<=(stepF g f m n).length:=by
    unfold stepF
    split
    ·exact⟨h,Nat.le_refl _⟩
    ·rename_i hm
     have h1:=meet_inS hc f (g.argsOf n) (m++[n]) (hc n hn) (h.snoc hm hn)
     refine⟨h1.1,?_⟩
     have:=h1.2
     simp at this
     omega
   have h2:=ih (stepF g f m n) (fun x hx=>hl x (by simp[hx])) hs.1
   exact⟨h2.1,Nat.le_trans hs.2 h2.2⟩
theorem meet_fuel {g:Gf} {S:List Int} (hc:∀x∈S,∀y∈g.argsOf x,y∈S):∀(f f':Nat) (l m:List Int),(∀x∈l,x∈S)->In S m->S.length<=m.length+f->S.length<=m.length+f'->meetF g f l m=meetF g f' l m
 | 0,f',l,m,hl,h,hf,_=>by
  rw[meet_still f' l m (fun x hx=>h.full (by omega) (hl x hx))]
  rfl
 | f+1,0,l,m,hl,h,_,hf'=>by
  rw[meet_still (f+1) l m (fun x hx=>h.full (by omega) (hl x hx))]
  rfl
 | f+1,f'+1,l,m,hl,h,hf,hf'=>by
  rw[meetF_succ,meetF_succ]
  induction l generalizing m with
  | nil=>rfl
  | cons n r ih=>
   rw[List.foldl_cons,List.foldl_cons]
   have hn:=hl n (by simp)
   have hs:stepF g f m n=stepF g f' m n:=by
    unfold stepF
    split
    ·rfl
    ·rename_i hm
     exact meet_fuel hc f f' (g.argsOf n) (m++[n]) (hc n hn) (h.snoc hm hn) (by simp;omega) (by simp;omega)
   rw[←hs]
   have hk:In S (stepF g f m n)/\m.length<=(stepF g f m n).length:=by
    have:=meet_inS hc (f+1) [n] m (by simpa using hn) h
    exact this
   exact ih (stepF g f m n) (fun x hx=>hl x (by simp[hx])) hk.1 (by omega) (by omega)
theorem meet_map {g t:Gf} {S:List Int} {F:Int->Int} (hc:∀x∈S,∀y∈g.argsOf x,y∈S) (hF:∀x∈S,∀y∈S,F x=F y->x=y) (ht:∀x∈S,t.argsOf (F x)=(g.argsOf x).map F) :
  ∀(f:Nat) (l m:List Int),(∀x∈l,x∈S)->In S m->meetF t f (l.map F) (m.map F)=(meetF g f l m).map F
 | 0,_,_,_,_=>rfl
 | f+1,l,m,hl,h=>by
  rw[meetF_succ,meetF_succ]
  induction l generalizing m with
  | nil=>rfl
  | cons n r ih=>
   rw[List.map_cons,List.foldl_cons,List.foldl_cons]
   have hn:=hl n (by simp)
   have hs:stepF t f (m.map F) (F n)=(stepF g f m n).map F:=by
    unfold stepF
    by_cases hm:n∈m
    ·rw[if_pos hm,if_pos (List.mem_map.2 ⟨n,hm,rfl⟩)]
    ·have hm':F n∉m.map F:=fun hx=>by
      obtain⟨y,hy,e⟩:=List.mem_map.1 hx
      exact hm (by rw[←hF y (h.sub y hy) n hn e];exact hy)
     rw[if_neg hm,if_neg hm',ht n hn]
     have:=meet_map hc hF ht f (g.argsOf n) (m++[n]) (hc n hn) (h.snoc hm hn)
     rw[List.map_append] at this
     exact this
   rw[hs]
   have hk:=(meet_inS hc (f+1) [n] m (by simpa using hn) h).1
   exact ih (stepF g f m n) (fun x hx=>hl x (by simp[hx])) hk
theorem pos_of_getD:∀{m:List Int} {i:Nat},m.Nodup->i<m.length->pos m (m.getD i 0)=i
 | [],i,_,h=>absurd h (Nat.not_lt_zero _)
 | y::r,0,_,_=>by simp[pos]
 | y::r,i+1,hn,h=>by
  have hr:=List.nodup_cons.1 hn
  have hi:i<r.length:=by simpa using h
  have h1:=pos_of_getD hr.2 hi
  have hne:¬y=r.getD i 0:=fun e=>hr.1 (by rw[e];exact getD_mem hi)
  simp only[List.getD_cons_succ,pos,if_neg hne,h1]
theorem list_ext0 {l m:List Int} (h:l.length=m.length) (he:∀j,j<l.length->l.getD j 0=m.getD j 0):l=m:=by
 apply List.ext_getElem h
 intro i h1 h2
 have:=he i h1
 simpa[List.getD,h1,h2] using this
theorem pos_rng {g:Gf} (_:Good g):∀x∈metF g,0<=posF (metF g) x/\posF (metF g) x<((metF g).length:Int):=fun x hx=>by
 have:=pos_lt hx
 unfold posF
 rw[if_pos hx]
 omega
theorem trim_len {g:Gf} (_:Good g):(trimF g).nodes.length=(metF g).length:=by simp[trimF]
theorem trim_good0 {g:Gf} (hg:Good g):Good (trimF g):=by
 have hml:=(met_ok hg).le
 have h1:=hg.nodes
 have h2:=hg.roots
 refine⟨by rw[trim_len hg];omega,by simp[trimF];omega,fun n hn=>?_,fun x hx=>?_⟩
 ·obtain⟨x,hx,rfl⟩:=List.mem_map.1 hn
  have hr:=(met_ok hg).rng x hx
  have hgd:=hg.node (g.nodes.getD x.toNat nd0) (by
   have:x.toNat<g.nodes.length:=by omega
   simp[List.getD,this])
  have hst:((g.nodes.getD x.toNat nd0).args.map (posF (metF g))).any (strange (trimF g).nodes.length)=false:=by
   rw[List.any_eq_false]
   intro y hy
   obtain⟨z,hz,rfl⟩:=List.mem_map.1 hy
   have:=pos_rng hg z (met_arg hg x hx z hz)
   rw[trim_len hg]
   simp[strange]
   omega
  unfold goodNd at hgd ⊢
  simp only[renum,List.length_map,hst]
  split
  ·rename_i hk
   rw[if_pos hk] at hgd
   exact hgd
  ·rename_i hk
   rw[if_neg hk] at hgd
   split
   ·rename_i hk2
    rw[if_pos hk2] at hgd
    exact hgd
   ·rename_i hk2
    rw[if_neg hk2] at hgd
    split
    ·rename_i hk3
     rw[if_pos hk3] at hgd
     exact hgd
    ·rename_i hk3
     rw[if_neg hk3] at hgd
     split
     ·rename_i hk4
      rw[if_pos hk4] at hgd
      simp only[Bool.and_eq_true] at hgd ⊢
      exact⟨hgd.1,rfl⟩
     ·rename_i hk4
      rw[if_neg hk4] at hgd
      exact hgd
 ·obtain⟨z,hz,rfl⟩:=List.mem_map.1 hx
  rw[trim_len hg]
  exact pos_rng hg z (met_root hg z hz)
end Go.Proofs.YtbfbkmkjcekpaaaGreatDoor
namespace Go.Proofs.YtbfbkmkjcekpaaaGreatDoor
set_option maxRecDepth 100000
open Go.RowKit
theorem islice_nil_in {P:Program} (w:World) (d:Nat) (t:TypeId) {e:TypeId} (h:P.underlying t=some (.slice e)) (ao:Option Addr) (n c:Nat):(Op.equalIn (d+1) t (.slice ao n c) (.slice none 0 0)).run P w=.ok ao.isNone w:=by
 cases ao <;> simp[Op.equalIn,run_underlying h]
theorem islice_nil (w:World) (ao:Option Addr) (n c:Nat):(binOp .eql 23 (.slice ao n c) (.slice none 0 0)).run Tryz.prog w=.ok (.bool ao.isNone) w:=by
 simp only[binOp]
 simp[show Op.equal 23 (.slice ao n c) (.slice none 0 0)=Op.equalIn (9999+1) 23 (.slice ao n c) (.slice none 0 0) from rfl,islice_nil_in w 9999 23 Tryz.underlying23]
theorem ints_one (l:List Int):∀u∈l.map (Value.int .i64),u.oneCell'=true:=fun u hu=>by
 obtain⟨s,_,rfl⟩:=List.mem_map.1 hu
 simp[Value.oneCell']
set_option maxHeartbeats 1000000 in
theorem iclone_any {w:World} {b o c:Nat} {l:List Int} (h:∀j,j<l.length->w.cell? ⟨b,o+j,none⟩=some (.int .i64 (l.getD j 0))) (hl:l.length<=5000) :
  Calls Tryz.prog 122 #[.slice (some ⟨b,o,none⟩) l.length c] w fun e w'=>∃v',e=.returned v'/\w'.ownsRow w.heap.size 3 1 v' l.length (l.map (Value.int .i64))/\Below w.heap.size w w':=by
 obtain⟨i0,hi,hz0,hz1,hz2⟩:=info_parts infoI
 have hnews:∀j u,(l.map (Value.int .i64))[j]?=some u->(w.alloc (.cells #[] 3)).cell? ((⟨b,o,none⟩:Addr).add j)=some u:=fun j u hj=>by
  have hjl:j<l.length:=by
   by_cases e:j<l.length
   ·exact e
   ·have:(l.map (Value.int .i64))[j]?=none:=by simp;omega
    rw[this] at hj
    cases hj
  have h1:=h j hjl
  have h2:u=.int .i64 (l.getD j 0):=by
   simp[hjl] at hj
   simp[List.getD,hjl,hj]
  rw[h2,Addr.add_lit,(below_alloc w _).cell (p:=⟨b,o+j,none⟩) (lt_of_cell h1)]
  exact h1
 have hown:(w.alloc (.cells #[] 3)).ownsRow w.heap.size 3 1 (.slice (some ⟨w.heap.size,0,none⟩) 0 0) 0 []:=⟨rfl,Or.inr ⟨w.heap.size,0,#[],rfl,Nat.le_refl _,heap_alloc_new w _,Nat.le_refl _,Nat.zero_le _,rfl,rfl⟩⟩
 have hsn:=fun w:World=>islice_nil w (some ⟨b,o,none⟩) l.length c
 clear h
 go_enter Tryz.func122,Tryz.ntmps122
 go_wp2_with (at_builtin;refine wpList_append_own _ rfl _ _ 23 rfl w.heap.size 3 i0 (.int .i64 0) 1 8 Tryz.underlying23 hi hz0 hz1 hz2 rfl (by decide) (.slice (some ⟨w.heap.size,0,none⟩) 0 0) 0 [] rfl hown ⟨b,o,none⟩ l.length c (l.map (Value.int .i64)) rfl (by simp) hnews (ints_one l) (by unfold maxLen;omega) (by omega) (by simp) ?_;intro v' w1 hown' hgrow _)
 go_ret
 refine⟨v',rfl,by simpa using hown',?_⟩
 exact (below_alloc w _).grown hgrow (by simp) (fun k e=>by
  have e':k=w.heap.size:=by simpa[Value.ownBlock] using e.symm
  omega)
end Go.Proofs.YtbfbkmkjcekpaaaGreatDoor
namespace Go.Proofs.YtbfbkmkjcekpaaaGreatDoor
set_option maxRecDepth 100000
open Go.RowKit
set_option maxHeartbeats 1000000 in
theorem a_same_some (b o c b' o' c':Nat) (l:List Int) (w:World) (hl:l.length<=4611686018427387904) (hc:∀j,j<l.length->w.cell? ⟨b,o+j,none⟩=some (.int .u64 (l.getD j 0))) (hc':∀j,j<l.length->w.cell? ⟨b',o'+j,none⟩=some (.int .u64 (l.getD j 0))) :
  Calls Tryz.prog 20 #[.slice (some ⟨b,o,none⟩) l.length c,.slice (some ⟨b',o',none⟩) l.length c'] w fun e w'=>e=.returned (.bool true)/\∃d,w'=w.drewN d:=by
 go_enter Tryz.func20,Tryz.ntmps20
 go_wp2
 go_loopw [5] (fun i wr=>∃k:Nat,k<=l.length/\i=.int .i64 k/\∃d,wr=w.drewN d) (fun i _=>l.length-(intOf i).toNat)
 case atStart=>exact⟨0,Nat.zero_le _,rfl,0,rfl⟩
 case round=>
  obtain⟨k,hk,rfl,d,rfl⟩:=hrel
  by_cases hlt:k<l.length
  ·have h1:=hc k hlt
   have h2:=hc' k hlt
   obtain⟨x,hx⟩:∃x,x=l.getD k 0:=⟨_,rfl⟩
   rw[←hx] at h1 h2
   clear hc hc' hx
   have hk0:(0:Int)<=(k:Int):=by omega
   have hlt':(k:Int)<(l.length:Int):=by omega
   go_wp2
   go_quiet (fail)
   go_wp2
   go_roundw
   case rel=>exact⟨k+1,by omega,by go_num,_,rfl⟩
   case measure=>simp[intOf];omega
  ·have hlt':¬(k:Int)<(l.length:Int):=by omega
   go_wp2
   go_ret
   exact⟨rfl,d,rfl⟩
set_option maxHeartbeats 400000 in
theorem a_same_none (ao ao':Option Addr) (c c':Nat) (w:World) :
  Calls Tryz.prog 20 #[.slice ao 0 c,.slice ao' 0 c'] w fun e w'=>e=.returned (.bool true)/\w'=w:=by
 go_enter Tryz.func20,Tryz.ntmps20
 go_wp2
 refine wp_loop_rounds 1 ?_
 rw[rounds_succ]
 go_wp2
 go_ret
 exact⟨rfl,rfl⟩
theorem a_same_any {w:World} {u u':Value} {l:List Int} (h:Rd w u l) (h':Rd w u' l) (hl:l.length<=4611686018427387904) :
  Calls Tryz.prog 20 #[u,u'] w fun e w'=>e=.returned (.bool true)/\∃d,w'=w.drewN d:=by
 by_cases h0:l=[]
 ·subst h0
  obtain⟨ao,c,rfl⟩:=h.shape
  obtain⟨ao',c',rfl⟩:=h'.shape
  exact (a_same_none ao ao' c c' w).mono fun e w' ⟨he,hw⟩=>⟨he,0,hw⟩
 ·rcases h.2 with⟨_,h1⟩ | ⟨_,_,_,h1⟩ | ⟨b,o,c,rfl,hc⟩
  ·exact absurd h1 h0
  ·exact absurd h1 h0
  ·rcases h'.2 with⟨_,h1⟩ | ⟨_,_,_,h1⟩ | ⟨b',o',c',rfl,hc'⟩
   ·exact absurd h1 h0
   ·exact absurd h1 h0
   ·exact a_same_some b o c b' o' c' l w hl hc hc'
end Go.Proofs.YtbfbkmkjcekpaaaGreatDoor
namespace Go.Proofs.YtbfbkmkjcekpaaaGreatDoor
set_option maxRecDepth 100000
open Go.RowKit
def smallK (K:Nat) (g:Gf):Bool:=decide (g.nodes.length<=K) && decide (g.roots.length<=K) && g.nodes.all (fun n=>decide (n.args.length<=40))
theorem smallK_fits {K:Nat} {g:Gf} (h:smallK K g=true):(∀n∈g.nodes,n.args.length<=40)/\g.nodes.length<=K/\g.roots.length<=K:=by
 simp only[smallK,Bool.and_eq_true,decide_eq_true_eq,List.all_eq_true] at h
 obtain⟨⟨h1,h2⟩,h3⟩:=h
 exact⟨fun n hn=>h3 n hn,h1,h2⟩
set_option maxHeartbeats 2000000 in
theorem smallK_any {K:Nat} (hK:K<=5000) {W:World} {nv rv:Value} {g:Gf} (hG:Gr W nv rv g) :
  Calls Tryz.prog 7 #[.agg #[nv,rv],.int .i64 (K:Int)] W fun e w'=>e=.returned (.bool (smallK K g))/\Below W.heap.size W w':=by
 obtain⟨l,lr⟩:=g
 obtain⟨ua,uc,rfl,hu⟩:=hG.1
 obtain⟨ra,rc,rfl,_⟩:=hG.2
 dsimp only at hu ⊢
 have hE:=hid (show smallK K ⟨l,lr⟩=(decide (l.length<=K) && decide (lr.length<=K) && l.all (fun n=>decide (n.args.length<=40))) from rfl)
 generalize smallK K ⟨l,lr⟩=R at hE ⊢
 by_cases h1:K<l.length
 ·have h1':(K:Int)<(l.length:Int):=by omega
  have hR:=hid (show R=false by rw[hE.out,decide_eq_false (by omega:¬l.length<=K)];rfl)
  clear hE hu hG
  go_enter Tryz.func7,Tryz.ntmps7
  go_wp2
  go_ret
  exact⟨ret_bool hR.out.symm,below_alloc _ _⟩
 ·by_cases h2:K<lr.length
  ·have h1':¬(K:Int)<(l.length:Int):=by omega
   have h2':(K:Int)<(lr.length:Int):=by omega
   have hR:=hid (show R=false by rw[hE.out,decide_eq_false (by omega:¬lr.length<=K)];simp)
   clear hE hu hG
   go_enter Tryz.func7,Tryz.ntmps7
   go_wp2
   go_ret
   exact⟨ret_bool hR.out.symm,below_alloc _ _⟩
  ·have h1':¬(K:Int)<(l.length:Int):=by omega
   have h2':¬(K:Int)<(lr.length:Int):=by omega
   go_enter Tryz.func7,Tryz.ntmps7
   go_wp2
   go_loopw [22] (fun i wr=>∃k:Nat,k<=l.length/\i=.int .i64 k/\Hid (Below W.heap.size W wr)/\Hid (∀j,j<k->(l.getD j nd0).args.length<=40)) (fun i _=>l.length-(intOf i).toNat)
   case atStart=>exact⟨0,Nat.zero_le _,rfl,below_alloc _ _,fun j hj=>absurd hj (Nat.not_lt_zero _)⟩
   case round=>
    obtain⟨k,hk,rfl,hb,hp⟩:=hrel
    by_cases hlt:k<l.length
    ·obtain⟨ub,uo,uav,rfl,hcu⟩:=hu k hlt
     obtain⟨p0,p1,p2,p3,hA⟩:=hcu.below hb.out
     obtain⟨aa,ac,rfl,_⟩:=hA
     have hin:l.getD k nd0∈l:=by simp[List.getD,hlt]
     have hlp:=lt_of_cell p0
     by_cases h40:40<(l.getD k nd0).args.length
     ·have hR:=hid (show R=false by
       rw[hE.out]
       have:l.all (fun n=>decide (n.args.length<=40))=false:=List.all_eq_false.2 ⟨_,hin,by simpa using h40⟩
       rw[this]
       simp)
      clear hin hcu hu hp hE hG
      generalize l.getD k nd0=x at p0 p1 p2 p3 h40
      obtain⟨xk,xs,xn,xl⟩:=x
      dsimp only at p0 p1 p2 p3 h40
      have h40':(40:Int)<(xl.length:Int):=by omega
      go_wp2
      go_ret
      exact⟨ret_bool hR.out.symm,hb.out.alloc hb.out.size _⟩
     ·have hp':Hid (∀j,j<k+1->(l.getD j nd0).args.length<=40):=fun j hj=>by
       rcases Nat.lt_or_eq_of_le (Nat.le_of_lt_succ hj) with h | h
       ·exact hp.out j h
       ·subst h;omega
      clear hin hcu hu hp hE hG
      generalize l.getD k nd0=x at p0 p1 p2 p3 h40
      obtain⟨xk,xs,xn,xl⟩:=x
      dsimp only at p0 p1 p2 p3 h40
      have h40':¬(40:Int)<(xl.length:Int):=by omega
      go_wp2
      go_roundw
      case rel=>exact⟨k+1,by omega,congrArg (Value.int .i64) (by omega),hb.out.alloc hb.out.size _,hp'⟩
      case measure=>simp[intOf];omega
    ·have hR:=hid (show R=true by
      rw[hE.out,decide_eq_true (by omega:l.length<=K),decide_eq_true (by omega:lr.length<=K)]
      simp only[Bool.true_and,List.all_eq_true,decide_eq_true_eq]
      intro n hn
      obtain⟨i,hi,rfl⟩:=List.getElem_of_mem hn
      have:=hp.out i (by omega)
      simpa[List.getD,hi] using this)
     clear hE hu hG hp
     go_wp2
     go_ret
     exact⟨ret_bool hR.out.symm,hb.out⟩
end Go.Proofs.YtbfbkmkjcekpaaaGreatDoor
namespace Go.Proofs.YtbfbkmkjcekpaaaGreatDoor
set_option maxRecDepth 100000
open Go.RowKit
theorem Ri.shape {w:World} {v:Value} {l:List Int} (h:Ri w v l):∃ao n c,v=.slice ao n c:=by
 obtain⟨ao,c,rfl,_⟩:=h
 exact⟨_,_,_,rfl⟩
structure Fits (g:Gf):Prop where
 nodes:g.nodes.length<=5000
 roots:g.roots.length<=5000
 args:∀n∈g.nodes,n.args.length<=5000
theorem same_eg:∀args w,(callFunc 54 args).run Tryz.prog w=.ok (.enter 54 args) w:=enters_of Tryz.func54 (by kernel_rfl) rfl
set_option maxHeartbeats 2000000 in
theorem equal_nodes {W:World} {u v:Value} {l m:List Nd} (hu:Rn W u l) (hv:Rn W v m) (hl:l.length<=5000) (ha:∀n∈l,n.args.length<=5000) :
  Calls Tryz.prog 53 #[u,v,.func (.func 54) #[] #[]] W fun e w'=>e=.returned (.bool (eqNds l m))/\Below W.heap.size W w':=by
 obtain⟨ua,uc,rfl,hu⟩:=hu
 obtain⟨va,vc,rfl,hv⟩:=hv
 have eg:=same_eg
 by_cases hlen:l.length=m.length
 ·rw[←hlen]
  have hlm:=hid hlen
  clear hlen
  go_enter Tryz.func53,Tryz.ntmps53
  go_wp2
  go_loopw [17] (fun i wr=>∃k:Nat,k<=l.length/\i=.int .i64 k/\Hid (Below W.heap.size W wr)/\Hid (∀j,j<k->l.getD j nd0=m.getD j nd0)) (fun i _=>l.length-(intOf i).toNat)
  case atStart=>exact⟨0,Nat.zero_le _,rfl,Below.refl _ _,fun j hj=>absurd hj (Nat.not_lt_zero _)⟩
  case round=>
   obtain⟨k,hk,rfl,hb,hp⟩:=hrel
   by_cases hlt:k<l.length
   ·obtain⟨ub,uo,uav,rfl,hcu⟩:=hu k hlt
    obtain⟨vb,vo,vav,rfl,hcv⟩:=hv k (by rw[←hlm.out];exact hlt)
    obtain⟨p0,p1,p2,p3,hA⟩:=hcu.below hb.out
    obtain⟨q0,q1,q2,q3,hB⟩:=hcv.below hb.out
    have hlp:=lt_of_cell p0
    have hlq:=lt_of_cell q0
    obtain⟨ax,ay,az,rfl⟩:=hA.shape
    obtain⟨bx,bz,bw,rfl⟩:=hB.shape
    have hcall:∀w1:World,Below wr.heap.size wr w1->_:=fun w1 hb=>sameNode_any (W:=w1) (a:=l.getD k nd0) (b:=m.getD k nd0) (hA.below hb) (hB.below hb) (ha _ (by simp[List.getD,hlt]))
    have hb2:∀o1 o2:Obj,Below wr.heap.size wr ((wr.alloc o1).alloc o2):=fun o1 o2=>(below_alloc wr _).alloc (by simp) _
    by_cases he:l.getD k nd0=m.getD k nd0
    ·have hp':Hid (∀j,j<k+1->l.getD j nd0=m.getD j nd0):=fun j hj=>by
      rcases Nat.lt_or_eq_of_le (Nat.le_of_lt_succ hj) with h | h
      ·exact hp.out j h
      ·subst h;exact he
     rw[eqNd_yes he] at hcall
     generalize l.getD k nd0=x at p0 p1 p2 p3 hcall
     generalize m.getD k nd0=y at q0 q1 q2 q3 hcall
     obtain⟨xk,xs,xn,xl⟩:=x
     obtain⟨yk,ys,yn,yl⟩:=y
     dsimp only at p0 p1 p2 p3 q0 q1 q2 q3 hcall
     clear hcu hcv hu hv he hp hA hB ha
     go_wp2_with (go_at_call 54;refine (hcall _ (hb2 _ _)).mono ?_;rintro e w1 ⟨rfl,hb1⟩)
     go_roundw
     case rel=>exact⟨k+1,by omega,congrArg (Value.int .i64) (by omega),Below.next (Below.next hb.out (hb2 _ _)) hb1,hp'⟩
     case measure=>simp[intOf];omega
    ·have hF:=hid (show eqNds l m=false from eqNds_no (fun e=>he (by rw[e])))
     rw[eqNd_no he] at hcall
     clear he
     generalize l.getD k nd0=x at p0 p1 p2 p3 hcall
     generalize m.getD k nd0=y at q0 q1 q2 q3 hcall
     obtain⟨xk,xs,xn,xl⟩:=x
     obtain⟨yk,ys,yn,yl⟩:=y
     dsimp only at p0 p1 p2 p3 q0 q1 q2 q3 hcall
     clear hcu hcv hu hv hp hA hB ha
     go_wp2_with (go_at_call 54;refine (hcall _ (hb2 _ _)).mono ?_;rintro e w1 ⟨rfl,hb1⟩)
     go_ret
     exact⟨ret_bool hF.out.symm,Below.next (Below.next hb.out (hb2 _ _)) hb1⟩
   ·have hT:=hid (show eqNds l m=true from eqNds_yes (nds_ext hlm.out (fun j hj=>hp.out j (by omega))))
    clear hu hv hp
    go_wp2
    go_ret
    exact⟨ret_bool hT.out.symm,hb.out⟩
 ·have hF:=hid (show eqNds l m=false from eqNds_no (fun e=>hlen (by rw[e])))
  have hln:((l.length:Int) == (m.length:Int))=false:=by simpa using (by omega:¬(l.length:Int)=(m.length:Int))
  clear hu hv
  go_enter Tryz.func53,Tryz.ntmps53
  go_wp2
  go_ret
  exact⟨ret_bool hF.out.symm,Below.refl _ _⟩
theorem gf_eq (a b:Gf):eqG a b=(eqNds a.nodes b.nodes && decide (a.roots=b.roots)):=rfl
set_option maxHeartbeats 2000000 in
theorem same_any {W:World} {nv rv mv sv:Value} {g h:Gf} (hG:Gr W nv rv g) (hH:Gr W mv sv h) (hF:Fits g) :
  Calls Tryz.prog 17 #[.agg #[nv,rv],.agg #[mv,sv]] W fun e w'=>e=.returned (.bool (eqG g h))/\Below W.heap.size W w':=by
 have hb2:Below W.heap.size W ((W.alloc (.cells #[nv,rv] 25)).alloc (.cells #[mv,sv] 25)):=(below_alloc W _).alloc (by simp) _
 have hN:=equal_nodes (hG.1.below hb2) (hH.1.below hb2) hF.nodes hF.args
 have hI:∀w1:World,Below ((W.alloc (.cells #[nv,rv] 25)).alloc (.cells #[mv,sv] 25)).heap.size ((W.alloc (.cells #[nv,rv] 25)).alloc (.cells #[mv,sv] 25)) w1->
   (w1.cell? ⟨W.heap.size,1,none⟩=some rv/\w1.cell? ⟨W.heap.size+1,1,none⟩=some sv)/\Calls Tryz.prog 55 #[rv,sv] w1 fun e w'=>e=.returned (.bool (decide (g.roots=h.roots)))/\Below w1.heap.size w1 w':=fun w1 hb=>
  ⟨⟨by rw[hb.cell (p:=⟨W.heap.size,1,none⟩) (by simp;omega)];simp[go_sem],by rw[hb.cell (p:=⟨W.heap.size+1,1,none⟩) (by simp)];simp[go_sem]⟩,equal_ints ((hG.2.below hb2).below hb) ((hH.2.below hb2).below hb) hF.roots⟩
 have hE:=hid (gf_eq g h)
 generalize eqG g h=R at hE ⊢
 generalize eqNds g.nodes h.nodes=r1 at hN hE
 generalize decide (g.roots=h.roots)=r2 at hI hE
 clear hG hH hF
 cases r1 with
 | true=>
  go_enter Tryz.func17,Tryz.ntmps17
  go_wp2_with (first | (go_at_call 53;refine hN.mono ?_;rintro e w1 ⟨rfl,hb1⟩;obtain⟨⟨d1,d2⟩,hI'⟩:=hI w1 hb1) | (go_at_call 55;refine hI'.mono ?_;rintro e w2 ⟨rfl,hb3⟩))
  go_ret
  exact⟨ret_bool (by rw[hE.out];rfl),Below.next (Below.next hb2 hb1) hb3⟩
 | false=>
  go_enter Tryz.func17,Tryz.ntmps17
  go_wp2_with (go_at_call 53;refine hN.mono ?_;rintro e w1 ⟨rfl,hb1⟩)
  go_ret
  exact⟨ret_bool (by rw[hE.out];rfl),Below.next hb2 hb1⟩
end Go.Proofs.YtbfbkmkjcekpaaaGreatDoor
namespace Go.Proofs.YtbfbkmkjcekpaaaGreatDoor
set_option maxRecDepth 100000
open Go.RowKit
theorem infoL:(Tryz.prog.info? 23).map (fun i=>(i.zero,i.size,i.bytes))=some (some (.slice none 0 0),1,24):=by kernel_rfl
def Sl (v:Value):Prop:=∃a n c,v=.slice a n c
abbrev lg0:Value×List Value:=(.slice none 0 0,[])
def Lg (w:World) (v:Value) (L:List (Value×List Value)):Prop:=
 ∃b o c,v=.slice (some ⟨b,o,none⟩) L.length c/\∀j,j<L.length->Sl (L.getD j lg0).1/\w.cell? ⟨b,o+j*2+1,none⟩=some (L.getD j lg0).1/\∃na nc,w.cell? ⟨b,o+j*2,none⟩=some (.slice na (L.getD j lg0).2.length nc)/\
  ∀i,i<(L.getD j lg0).2.length->Sl ((L.getD j lg0).2.getD i undef)/\∃nb no k s n,na=some ⟨nb,no,none⟩/\w.cell? ⟨nb,no+i*4,none⟩=some (.int .i64 k)/\w.cell? ⟨nb,no+i*4+1,none⟩=some (.string s)/\w.cell? ⟨nb,no+i*4+2,none⟩=some (.int .i64 n)/\w.cell? ⟨nb,no+i*4+3,none⟩=some ((L.getD j lg0).2.getD i undef)
def flat (L:List (Value×List Value)):List Value:=L.flatMap (fun x=>x.1::x.2)
theorem flat_snoc (L:List (Value×List Value)) (x:Value×List Value):flat (L++[x])=flat L++x.1::x.2:=by simp[flat]
theorem ltake_snoc {L:List (Value×List Value)} {k:Nat} (h:k<L.length):L.take (k+1)=L.take k++[L.getD k lg0]:=by
 rw[List.take_succ_eq_append_getElem h]
 simp[List.getD,h]
theorem vtake_snoc {l:List Value} {k:Nat} (h:k<l.length):l.take (k+1)=l.take k++[l.getD k undef]:=by
 rw[List.take_succ_eq_append_getElem h]
 simp[List.getD,h]
theorem flat_le {L:List (Value×List Value)}:∀k,(flat (L.take k)).length<=(flat L).length:=fun k=>by
 have h:L=L.take k++L.drop k:=(List.take_append_drop k L).symm
 have e:(flat L).length=(flat (L.take k)).length+(flat (L.drop k)).length:=by
  have:flat L=flat (L.take k)++flat (L.drop k):=by
   rw[flat,flat,flat,←List.flatMap_append,List.take_append_drop]
  rw[this,List.length_append]
 omega
set_option maxHeartbeats 4000000 in
theorem hLists_any {W:World} {v:Value} {L:List (Value×List Value)} (hL:Lg W v L) (hl:(flat L).length<=5000) (hn:L.length<=1000) :
  Calls Tryz.prog 19 #[v] W fun e w'=>(∃ao c,e=.returned (.slice ao (flat L).length c)/\w'.ownsRow W.heap.size 23 1 (.slice ao (flat L).length c) (flat L).length (flat L))/\Below W.heap.size W w':=by
 obtain⟨i0,hi,hz0,hz1,hz2⟩:=info_parts infoL
 obtain⟨b,o,c,rfl,hLc⟩:=hL
 go_enter Tryz.func19,Tryz.ntmps19
 go_wp2
 have h0:Hid ((W.alloc (.cells #[] 23)).ownsRow W.heap.size 23 1 (.slice (some ⟨W.heap.size,0,none⟩) 0 0) 0 []):=World.ownsRow_made W #[] 0 (Nat.le_refl _) (by unfold maxLen;omega) rfl
 go_loopw [3,11] (fun x i wr=>∃(k:Nat) (ao:Option Addr) (c:Nat),k<=L.length/\i=.int .i64 k/\x=.slice ao (flat (L.take k)).length c/\Hid (Below W.heap.size W wr)/\Hid (wr.ownsRow W.heap.size 23 1 (.slice ao (flat (L.take k)).length c) (flat (L.take k)).length (flat (L.take k)))) (fun _ i _=>L.length-(intOf i).toNat)
 case atStart=>exact⟨0,some ⟨W.heap.size,0,none⟩,0,Nat.zero_le _,rfl,rfl,below_alloc _ _,h0⟩
 case round=>
  clear h0
  obtain⟨k,ao,cc,hk,rfl,rfl,hb,ho⟩:=hrel
  by_cases hlt:k<L.length
  ·obtain⟨⟨ra,rn,rc,hrv⟩,hr1,na,nc,hn1,hnode⟩:=hLc k hlt
   have hfk:=flat_le (L:=L) (k+1)
   rw[ltake_snoc hlt,flat_snoc,hrv] at hfk
   have hnext:Hid (flat (L.take (k+1))=flat (L.take k)++(L.getD k lg0).1::(L.getD k lg0).2):=by
    show _=_
    rw[ltake_snoc hlt,flat_snoc]
   rw[hrv] at hr1 hnext
   generalize (L.getD k lg0).2=A at hn1 hnode hfk hnext
   clear hrv
   have d0:wr.cell? ⟨b,o+k*2,none⟩=some (.slice na A.length nc):=by rw[hb.out.cell (p:=⟨b,o+k*2,none⟩) (lt_of_cell hn1)];exact hn1
   have d1:wr.cell? ⟨b,o+k*2+1,none⟩=some (.slice ra rn rc):=by rw[hb.out.cell (p:=⟨b,o+k*2+1,none⟩) (lt_of_cell hr1)];exact hr1
   have hbs:=hb.out.size
   have hbA:Below W.heap.size W (wr.alloc (.cells #[.slice na A.length nc,.slice ra rn rc] 25)):=hb.out.alloc hbs _
   have hoA:=World.ownsRow.alloc (World.ownsRow.alloc ho.out (.cells #[.slice na A.length nc,.slice ra rn rc] 25)) (.cells #[.slice ra rn rc] 23)
   have hgA:=heap_alloc_new wr (.cells #[.slice na A.length nc,.slice ra rn rc] 25)
   have hoz:=hid ho.out
   have hfl2:(flat (L.take k)).length<=5000/\A.length<=5000:=by
    simp at hfk
    omega
   have hfar:=hid (fun (w5:World) (hg:((wr.alloc (.cells #[.slice na A.length nc,.slice ra rn rc] 25)).alloc (.cells #[.slice ra rn rc] 23)).grownBy w5 (Value.ownBlock (.slice ao (flat (L.take k)).length cc)))=>(show w5.heap[wr.heap.size]?=some (.cells #[.slice na A.length nc,.slice ra rn rc] 25)/\Below W.heap.size W w5 from
    ⟨by rw[hg.block _ (by simp;omega) (fun e=>by have:=(hoz.out.lt _ e.symm).2;omega),Below.heap_alloc _ _ _ (by simp)];exact hgA,(hbA.alloc hbA.size _).grown hg (by simp;omega) (fun j e=>(hoz.out.lt j e).1)⟩))
   generalize flat (L.take k)=F at hoA hoz hfl2 hfar hnext hfk
   clear hb ho hr1 hn1
   go_wp2_with (at_builtin;refine wpList_append_lies _ rfl _ _ _ rfl W.heap.size 23 i0 (.slice none 0 0) 1 24 Tryz.underlying63 hi hz0 hz1 hz2 rfl (by decide) _ F.length F rfl hoA ⟨wr.heap.size+1,0,none⟩ 1 1 [.slice ra rn rc] rfl rfl (World.news_of_block (cs:=#[.slice ra rn rc]) (t:=23) (fr:=(0,0)) (by simpa using heap_alloc_new (wr.alloc (.cells #[.slice na A.length nc,.slice ra rn rc] 25)) (.cells #[.slice ra rn rc] 23))) (by simp[Value.oneCell']) (by omega) (by unfold maxLen;omega) (by omega) (by simp;omega) (wr.heap.size+1+1) (by simp) ?_;intro g1 cap1 w5 hown5 hgr5 hat5 hlt5;obtain⟨hg5,hb5⟩:=hfar.out w5 hgr5;obtain⟨⟨f0,f1⟩,_⟩:=blk2 hg5)
   have hbs5:=hb5.size
   have h5:Hid (w5.ownsRow W.heap.size 23 1 (.slice (some ⟨g1,0,none⟩) (F.length+1+0) cap1) (F.length+1+0) ((F++[.slice ra rn rc])++A.take 0)):=by simpa[Hid] using hown5
   have hb5':=hid hb5
   clear hown5 hgr5 hfar hoA hgA d0 d1 f1 hg5
   go_loopw [3,23] (fun x i wr=>∃(t:Nat) (ao:Option Addr) (c:Nat),t<=A.length/\i=.int .i64 t/\x=.slice ao (F.length+1+t) c/\Hid (Below W.heap.size W wr)/\Hid (wr.ownsRow W.heap.size 23 1 (.slice ao (F.length+1+t) c) (F.length+1+t) ((F++[.slice ra rn rc])++A.take t))) (fun _ i _=>A.length-(intOf i).toNat)
   case atStart=>exact⟨0,some ⟨g1,0,none⟩,cap1,Nat.zero_le _,rfl,rfl,hb5',h5⟩
   case round=>
    clear h5 hb5' f0 hb5 hbs5 hbs hbA
    obtain⟨t,ao,cc,ht,rfl,rfl,hb,ho⟩:=hrel
    by_cases hlt2:t<A.length
    ·obtain⟨⟨aa,an,ac,hav⟩,nb,no,kk,ss,nn,rfl,n0,n1,n2,n3⟩:=hnode t hlt2
     have hst:Hid ((F++[.slice ra rn rc])++A.take (t+1)=((F++[.slice ra rn rc])++A.take t)++[A.getD t undef]):=by
      show _=_
      rw[vtake_snoc hlt2]
      simp
     rw[hav] at n3 hst
     have e0:wr.cell? ⟨nb,no+t*4,none⟩=some (.int .i64 kk):=by rw[hb.out.cell (p:=⟨nb,no+t*4,none⟩) (lt_of_cell n0)];exact n0
     have e1:wr.cell? ⟨nb,no+t*4+1,none⟩=some (.string ss):=by rw[hb.out.cell (p:=⟨nb,no+t*4+1,none⟩) (lt_of_cell n0)];exact n1
     have e2:wr.cell? ⟨nb,no+t*4+2,none⟩=some (.int .i64 nn):=by rw[hb.out.cell (p:=⟨nb,no+t*4+2,none⟩) (lt_of_cell n0)];exact n2
     have e3:wr.cell? ⟨nb,no+t*4+3,none⟩=some (.slice aa an ac):=by rw[hb.out.cell (p:=⟨nb,no+t*4+3,none⟩) (lt_of_cell n0)];exact n3
     have hbs:=hb.out.size
     have hbA:Below W.heap.size W ((wr.alloc (.cells #[.int .i64 kk,.string ss,.int .i64 nn,.slice aa an ac] 74)).alloc (.cells #[.slice aa an ac] 23)):=(hb.out.alloc hbs _).alloc (by simp;omega) _
     have hoA:=World.ownsRow.alloc (World.ownsRow.alloc ho.out (.cells #[.int .i64 kk,.string ss,.int .i64 nn,.slice aa an ac] 74)) (.cells #[.slice aa an ac] 23)
     have hoz:=hid ho.out
     generalize (F++[.slice ra rn rc])++A.take t=XS at hoA hoz hst
     clear ho hb n0 n1 n2 n3 hav hnode
     go_wp2_with (at_builtin;refine wpList_append_lies _ rfl _ _ _ rfl W.heap.size 23 i0 (.slice none 0 0) 1 24 Tryz.underlying63 hi hz0 hz1 hz2 rfl (by decide) _ (F.length+1+t) XS rfl hoA ⟨wr.heap.size+1,0,none⟩ 1 1 [.slice aa an ac] rfl rfl (World.news_of_block (cs:=#[.slice aa an ac]) (t:=23) (fr:=(0,0)) (by simpa using heap_alloc_new (wr.alloc (.cells #[.int .i64 kk,.string ss,.int .i64 nn,.slice aa an ac] 74)) (.cells #[.slice aa an ac] 23))) (by simp[Value.oneCell']) (by omega) (by unfold maxLen;omega) (by omega) (by simp;omega) (wr.heap.size+1+1) (by simp) ?_;intro g2 cap2 w6 hown6 hgr6 hat6 hlt6)
     go_roundw
     case rel=>
      refine⟨t+1,some ⟨g2,0,none⟩,cap2,by omega,congrArg (Value.int .i64) (by omega),rfl,?_,?_⟩
      ·exact hbA.grown hgr6 (by simp;omega) (fun j e=>(hoz.out.lt j e).1)
      ·show World.ownsRow _ _ _ _ _ _ _
       rw[hst.out]
       exact hown6
     case measure=>simp[intOf];omega
    ·have htl:t=A.length:=by omega
     subst htl
     have ho':=ho.out
     rw[List.take_of_length_le (Nat.le_refl _)] at ho'
     have hln:(flat (L.take (k+1))).length=F.length+1+A.length:=by rw[hnext.out];simp;omega
     have hln':=hid hln
     have hbb:=hid hb.out
     have hoo:Hid (wr.ownsRow W.heap.size 23 1 (.slice ao (flat (L.take (k+1))).length cc) (flat (L.take (k+1))).length (flat (L.take (k+1)))):=by
      show World.ownsRow _ _ _ _ _ _ _
      rw[hln,hnext.out]
      have e:F++Value.slice ra rn rc::A=(F++[.slice ra rn rc])++A:=by simp
      rw[e]
      exact ho'
     clear ho ho' hb hln hnode
     go_wp2
     exact⟨⟨k+1,ao,cc,by omega,congrArg (Value.int .i64) (by omega),by rw[hln'.out],hbb,hoo⟩,by simp[intOf];omega⟩
  ·have ho':=ho.out
   rw[List.take_of_length_le (by omega)] at ho' ⊢
   go_wp2
   go_ret
   exact⟨⟨ao,cc,rfl,ho'⟩,hb.out⟩
end Go.Proofs.YtbfbkmkjcekpaaaGreatDoor
namespace Go.Proofs.YtbfbkmkjcekpaaaGreatDoor
set_option maxRecDepth 100000
open Go.RowKit
theorem Og.keep {w w':World} {B:Nat} {nv rv:Value} {avs:List Value} {g:Gf} (h:Og w B nv rv avs g) (hb:∀k,B<=k->k<w.heap.size->w'.heap[k]?=w.heap[k]?):Og w' B nv rv avs g:=by
 obtain⟨ro,rc,rfl,hr⟩:=h.r
 exact⟨h.on.keep (fun k hk=>hb k (h.on.lt k hk).1 (h.on.lt k hk).2),h.nsl,⟨ro,rc,rfl,own_block hr (fun k e=>hb k (hr.lt k e).1 (hr.lt k e).2)⟩,h.ap⟩
theorem Og.below {w w':World} {B:Nat} {nv rv:Value} {avs:List Value} {g:Gf} (h:Og w B nv rv avs g) (hb:Below w.heap.size w w'):Og w' B nv rv avs g:=h.keep (fun k _ hk=>hb.block k hk)
end Go.Proofs.YtbfbkmkjcekpaaaGreatDoor
namespace Go.Proofs.YtbfbkmkjcekpaaaGreatDoor
set_option maxRecDepth 100000
open Go.ChangeShapes Go.WideShapes Go.ChangeAt Go.RowKit Go.Deep
theorem cellsOpC:Tryz.prog.cellsOf 33=5:=by kernel_rfl
theorem cop_of_cells {H:Type} {enc:TypeId×Value->H} {W:World} {fuel:Nat} {cs:List Value} {x:DataW H×List MemPlace} (h:DataW.trod enc Tryz.prog W 0 (fun _=>true) true fuel 33 cs=some x) :
  ∃(kd:Int) (nv rv:Value) (g:Gf) (a b:Int),cs=[.int .i64 kd,nv,rv,.int .i64 a,.int .i64 b]/\Gr W nv rv g/\Sized g:=by
 obtain⟨xs,n,_,hx,hl,hlen,hF⟩:=DataW.trod_struct Tryz.underlying33 h
 rw[cellsOpC] at hl
 match cs,hl with
 | [c0,c1,c2,c3,c4],_=>
  match xs,hlen with
  | [y0,y1,y2,y3],_=>
   have h0:=hF 0 _ rfl
   have h1:=hF 1 _ rfl
   have h2:=hF 2 _ rfl
   have h3:=hF 3 _ rfl
   simp[cellsI] at h0
   simp[cellsG] at h1
   simp[cellsI] at h2
   simp[cellsI] at h3
   obtain⟨a0,e0,_,w0⟩:=DataW.trod_int Tryz.underlying3 h0
   obtain⟨nv,rv,g,e1,hg,hs⟩:=graph_of_cells h1
   obtain⟨a2,e2,_,w2⟩:=DataW.trod_int Tryz.underlying3 h2
   obtain⟨a3,e3,_,w3⟩:=DataW.trod_int Tryz.underlying3 h3
   simp at e0 e1 e2 e3
   obtain⟨rfl,rfl⟩:=e1
   subst e0 e2 e3
   exact⟨a0,_,_,g,a2,a3,rfl,hg,hs⟩
theorem cops_of_cells {H:Type} {enc:TypeId×Value->H} {W:World} {fuel:Nat} {u:Value} {x:DataW H×List MemPlace} (h:DataW.trod enc Tryz.prog W 0 (fun _=>true) true fuel 26 [u]=some x) :
  ∃l:List Opd,Rop W u l:=by
 rcases Go.Deep.open_slice Tryz.underlying26 h with⟨hcs,_⟩ | ⟨ad,len,cap,m,n,D,Pl,hcs,_,hl,hm,hmm,_,hel⟩
 ·simp at hcs
  subst hcs
  exact⟨[],none,0,rfl,fun _ h=>absurd h (Nat.not_lt_zero _)⟩
 ·simp at hcs
  subst hcs
  simp only[if_true] at hmm
  rw[cellsOpC] at hel
  have each:∀i,∃(x:Opd) (nv rv:Value),i<len->(Gr W nv rv x.g/\Sized x.g)/\W.cells? 0 (ad.add (i*5)) 5=some [.int .i64 x.kd,nv,rv,.int .i64 x.a,.int .i64 x.b]:=fun i=>by
   by_cases hi:i<len
   ·obtain⟨cs',hc,ht⟩:=hel i (by omega)
    obtain⟨kd,nv,rv,g,a,b,rfl,h1,h2⟩:=cop_of_cells ht
    exact⟨⟨kd,g,a,b⟩,nv,rv,fun _=>⟨⟨h1,h2⟩,hc⟩⟩
   ·exact⟨od0,.nilIface,.nilIface,fun h=>absurd h hi⟩
  obtain⟨ns,hns⟩:∃ns:Nat->Opd,∀i,∃nv rv:Value,i<len->(Gr W nv rv (ns i).g/\Sized (ns i).g)/\W.cells? 0 (ad.add (i*5)) 5=some [.int .i64 (ns i).kd,nv,rv,.int .i64 (ns i).a,.int .i64 (ns i).b]:=
   ⟨fun i=>Classical.choose (each i),fun i=>Classical.choose_spec (each i)⟩
  refine⟨(List.range len).map ns,some ad,cap,by simp,fun j hj=>?_⟩
  have hj':j<len:=by simpa using hj
  obtain⟨b,off,spot⟩:=ad
  obtain⟨nv,rv,hav⟩:=hns j
  obtain⟨⟨h1,h2⟩,h3⟩:=hav hj'
  have hcj:=(World.cells?_some h3).2.2
  have hspot:spot=none:=by
   obtain⟨nv0,rv0,hav0⟩:=hns 0
   have:=(World.cells?_some (hav0 (by omega)).2).2.2 0 (by omega)
   simp at this
   simpa[Addr.add] using World.cell?_spot this
  subst hspot
  have e:∀i,((⟨b,off,none⟩:Addr).add (j*5)).add i=⟨b,off+j*5+i,none⟩:=fun i=>by rw[add_plain,add_plain]
  have hg:((List.range len).map ns).getD j od0=ns j:=by simp[List.getD,hj']
  refine⟨b,off,nv,rv,rfl,?_⟩
  rw[hg]
  refine⟨?_,?_,?_,?_,?_,h1,h2⟩
  ·have:=hcj 0 (by omega);rw[e] at this;simpa using this
  ·have:=hcj 1 (by omega);rw[e] at this;simpa using this
  ·have:=hcj 2 (by omega);rw[e] at this;simpa using this
  ·have:=hcj 3 (by omega);rw[e] at this;simpa using this
  ·have:=hcj 4 (by omega);rw[e] at this;simpa using this
theorem cops_of {H:Type} {enc:TypeId×Value->H} {W:World} {base:Nat} {u:Value} {d:DataW H} {p:List MemPlace} (hv:Value.okWide Tryz.prog W .any base 26 u) (h:DataW.Trod enc Tryz.prog W 0 (fun _=>true) true 26 u d p) :
  ∃l:List Opd,Rop W u l:=by
 obtain⟨a,len,cap,rfl⟩:=okWide_slice Tryz.underlying26 hv
 obtain⟨fuel,hf⟩:=h
 have hf':DataW.trod enc Tryz.prog W 0 (fun _=>true) true fuel 26 [.slice a len cap]=some (d,p):=by simpa[Value.cells] using hf
 exact cops_of_cells hf'
end Go.Proofs.YtbfbkmkjcekpaaaGreatDoor

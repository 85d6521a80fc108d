/- Package cells: the words of a heap, read. -/
import Derived.Deep.RegionLaw
import Derived.Deep.DrawnRows
import Derived.Test.YtbfbkmkjcekpaaaGreatDoorow06Z
import Derived.Test.YtbfbkmkjcekpaaaGreatDoorow03Z
import Derived.Test.YtbfbkmkjcekpaaaGreatDoorow09Z
namespace Go.Proofs.YtbfbkmkjcekpaaaGreatDoor
set_option maxRecDepth 100000
open Go.RowKit
abbrev blkV (p:Nat):Value:=.agg #[.pointer (some ⟨p,0,none⟩)]
def cellB (l:List Int) (n:Int):Bool:=inB n l.length && decide (l.getD n.toNat 0 % 8≠4) && decide (l.getD n.toNat 0 % 8≠5)
section
variable {w:World} {B p:Nat} {m:Int} {v:Value} {l:List Int}
set_option maxHeartbeats 800000 in
theorem bword_ok (h:Ar 138 w B p m v l) (k:Nat) (hk:k<l.length) :
  Calls Tryz.prog 85 #[blkV p,.int .i64 (k:Int)] w fun e w'=>e=.returned (.int .u64 (l.getD k 0))/\Below w.heap.size w w':=by
 have hb:=hid (below_alloc w (.cells #[.pointer (some ⟨p,0,none⟩)] 89))
 have hld:=hid (load_ok (h.below hb.out) k hk)
 generalize l.getD k 0=x at *
 clear h hk
 go_enter Tryz.func85,Tryz.ntmps85
 go_wp2_with (go_at_call 114;refine hld.out.mono ?_;rintro e w1 ⟨rfl,rfl⟩)
 go_ret
 exact⟨rfl,hb.out⟩
set_option maxHeartbeats 800000 in
theorem iscell_any (h:Ar 138 w B p m v l) (n:Int) :
  Calls Tryz.prog 81 #[blkV p,.int .i64 n] w fun e w'=>e=.returned (.bool (cellB l n))/\Below w.heap.size w w':=by
 have hb:=hid (below_alloc w (.cells #[.pointer (some ⟨p,0,none⟩)] 89))
 by_cases hi:inB n l.length=true
 ·have hn:0<=n/\n<(l.length:Int):=by simpa[inB] using hi
  obtain⟨k,rfl⟩:∃k:Nat,n=(k:Int):=⟨n.toNat,by omega⟩
  have hk:k<l.length:=by omega
  have hld:=hid (load_ok (h.below hb.out) k hk)
  have hr:=h.rng (l.getD k 0) (by simp[List.getD,hk])
  have hc:Hid (cellB l (k:Int)=(decide (l.getD k 0 % 8≠4) && decide (l.getD k 0 % 8≠5))):=show _=_ by
   unfold cellB
   rw[hi,Bool.true_and,Int.toNat_natCast]
  generalize cellB l (k:Int)=C at *
  generalize l.getD k 0=x at *
  have htg:=hid (fun w=>tag_any x w hr.1 hr.2)
  clear hi hn hk h
  by_cases h4:x % 8=4
  ·have hC:Hid (C=false):=show _=_ by rw[hc.out];simp[h4]
   have d0:(x % 8 != 4)=false:=by simp[h4]
   clear hc
   generalize x % 8=y at *
   go_enter Tryz.func81,Tryz.ntmps81
   go_wp2_with (first
    | (go_at_call 114;refine hld.out.mono ?_;rintro e w1 ⟨rfl,rfl⟩)
    | (go_at_call 59;refine (htg.out _).mono ?_;rintro e w1 ⟨rfl,rfl⟩))
   go_ret
   exact⟨ret_bool hC.out.symm,hb.out⟩
  ·by_cases h5:x % 8=5
   ·have hC:Hid (C=false):=show _=_ by rw[hc.out];simp[h5]
    have d0:(x % 8 != 4)=true:=by simp[h4]
    have d1:(x % 8 != 5)=false:=by simp[h5]
    clear hc
    generalize x % 8=y at *
    go_enter Tryz.func81,Tryz.ntmps81
    go_wp2_with (first
     | (go_at_call 114;refine hld.out.mono ?_;rintro e w1 ⟨rfl,rfl⟩)
     | (go_at_call 59;refine (htg.out _).mono ?_;rintro e w1 ⟨rfl,rfl⟩))
    go_ret
    exact⟨ret_bool hC.out.symm,hb.out⟩
   ·have hC:Hid (C=true):=show _=_ by rw[hc.out];simp[h4,h5]
    have d0:(x % 8 != 4)=true:=by simp[h4]
    have d1:(x % 8 != 5)=true:=by simp[h5]
    clear hc
    generalize x % 8=y at *
    go_enter Tryz.func81,Tryz.ntmps81
    go_wp2_with (first
     | (go_at_call 114;refine hld.out.mono ?_;rintro e w1 ⟨rfl,rfl⟩)
     | (go_at_call 59;refine (htg.out _).mono ?_;rintro e w1 ⟨rfl,rfl⟩))
    go_ret
    exact⟨ret_bool hC.out.symm,hb.out⟩
 ·have hi':inB n l.length=false:=by simpa using hi
  have hld:=hid (load_no (h.below hb.out) n hi')
  have hC:Hid (cellB l n=false):=show _=_ by unfold cellB;rw[hi',Bool.false_and,Bool.false_and]
  have hb2:=hid (hb.out.alloc (by simp) (faultAtObj 23 n))
  clear h hi hi'
  go_enter Tryz.func81,Tryz.ntmps81
  go_wp2_with (go_at_call 114;refine hld.out.mono ?_;rintro e w1 ⟨rfl,rfl⟩)
  go_ret
  exact⟨ret_bool hC.out.symm,hb2.out⟩
end
set_option maxHeartbeats 400000 in
theorem packed_ok (a b:Int) (w:World) (hf:fitsB a b=true) :
  Calls Tryz.prog 63 #[.int .i64 a,.int .i64 b] w fun e w'=>e=.returned (.int .u64 (wordOf a b))/\w'=w:=by
 go_enter Tryz.func63,Tryz.ntmps63
 go_wp2_with (go_at_call 94;refine (pack_ok a b _ hf).mono ?_;rintro e w' ⟨rfl,rfl⟩)
 go_ret
 exact⟨rfl,rfl⟩
set_option maxHeartbeats 400000 in
theorem cfault_any (c a:Int) (w:World) :
  Calls Tryz.prog 32 #[.int .i64 c,.int .i64 a] w fun e w'=>e=.returned (.iface 125 (.pointer (some ⟨w.heap.size,0,none⟩)))/\w'=w.alloc (faultAtObj c a):=by
 go_enter Tryz.func32,Tryz.ntmps32
 go_wp2
 go_ret
 exact⟨rfl,rfl⟩
end Go.Proofs.YtbfbkmkjcekpaaaGreatDoor
namespace Go.Proofs.YtbfbkmkjcekpaaaGreatDoor
set_option maxRecDepth 100000
open Go.RowKit
attribute [local go_sem ↓] Go.wp_at_zero Go.wp_at_succ
def frsh (s k:Nat):List Int:=(List.range k).map (fun i=>8*((s+i:Nat):Int))
theorem frsh_len (s k:Nat):(frsh s k).length=k:=by simp[frsh]
theorem frsh_succ (s k:Nat):frsh s (k+1)=frsh s k++[8*((s+k:Nat):Int)]:=by simp[frsh,List.range_succ]
section
variable {w:World} {B p:Nat} {m:Int} {v:Value} {l:List Int}
theorem a_Upd.push {T:TypeId} {w1:World} {l':List Int} {v':Value} (h:Ar T w B p m v l) (hg:a_Mod (a_foot p v) w w1) (hp:w1.heap[p]?=w.heap[p]?) (ho:w1.ownsRow B 57 1 v' l'.length (l'.map (Value.int .u64)))
  (hn:a_Nx w v v') (hl:(l'.length:Int)<=m) (hr:∀x∈l',0<=x/\x<=18446744073709551615):a_Upd T w (w1.setCell ⟨p,1,none⟩ v') B p m v l' v':=by
 have hb:w1.heap[p]?=some (.cells #[.int .i64 m,v] T (0,0)):=by rw[hp];exact h.blk
 have hne:v'.ownBlock≠some p:=fun e=>by
  rcases hn p e with h1 | h1
  ·exact (h.row h1).2.2 rfl
  ·have:=h.lt;omega
 refine⟨⟨h.ty,?_,h.base,ownsRow_setCell_other ho (by simpa using hne) _,h.m1,h.m2,hl,hr⟩,hg.setCell (p:=⟨p,1,none⟩) (Or.inl (a_mem_foot.2 (Or.inl rfl))) v',hn⟩
 rw[heap_setCell_same w1 p 1 _ T v' hb]
 rfl
theorem push_one {T:TypeId} {w1:World} {x:Int} {g cap:Nat} (h:Ar T w B p m v l) (o:Obj) (hg:(w.alloc o).grownBy w1 v.ownBlock) (ho:w1.ownsRow B 57 1 (.slice (some ⟨g,0,none⟩) (l.length+1) cap) (l.length+1) (l.map (Value.int .u64)++[.int .u64 x]))
  (hat:v.ownBlock=some g∨g=w.heap.size+1) (hl:(l.length:Int)<m) (hx:0<=x/\x<=18446744073709551615) :
  a_Upd T w (w1.setCell ⟨p,1,none⟩ (.slice (some ⟨g,0,none⟩) (l.length+1) cap)) B p m v (l++[x]) (.slice (some ⟨g,0,none⟩) (l.length+1) cap):=by
 have hm:a_Mod (a_foot p v) w w1:=((a_Mod.refl (a_foot p v) w).alloc o).grown hg (fun k e=>Or.inl (a_mem_foot.2 (Or.inr e)))
 have hlt:=h.lt
 refine a_Upd.push h hm ?_ (by simpa using ho) (fun k e=>?_) (by simp;omega) (fun y hy=>?_)
 ·rw[hg.block p (by simp;omega) (fun e=>(h.row e.symm).2.2 rfl)]
  exact Below.heap_alloc w o p hlt
 ·simp[Value.ownBlock] at e
  subst e
  rcases hat with h1 | h1
  ·exact Or.inl h1
  ·exact Or.inr (by omega)
 ·rcases List.mem_append.1 hy with h1 | h1
  ·exact h.rng y h1
  ·simp at h1;subst h1;exact hx
theorem undrew {w w':World} {r:Option Nat} (h:w.drew.grownBy w' r):w.grownBy w' r:=⟨h.os,h.tape,h.output,h.size,h.block⟩
theorem far_field {w w1:World} {o:Obj} {r:Option Nat} {p:Nat} {v:Value} (h:(w.alloc o).drew.grownBy w1 r) (hp:p<w.heap.size) (hne:r≠some p) (hc:w.cell? ⟨p,1,none⟩=some v) (hf:w.frozen? ⟨p,1,none⟩=false) :
  w1.cell? ⟨p,1,none⟩=some v/\w1.frozen? ⟨p,1,none⟩=false:=by
 have h':=undrew h
 have hb:=h'.block p (by simp;omega) (Ne.symm hne)
 have hb2:=hb.trans (Below.heap_alloc w o p hp)
 exact⟨(World.cell?_of_block (w:=w) (a:=⟨p,1,none⟩) hb2).trans hc,(World.frozen?_of_block (w:=w) (a:=⟨p,1,none⟩) hb2).trans hf⟩
set_option maxHeartbeats 400000 in
theorem alloc_few (h:Ar 138 w B p m v l) (n:Int) (hn:n<1) :
  Calls Tryz.prog 37 #[.pointer (some ⟨p,0,none⟩),.int .i64 n] w fun e w'=>e=.returned (.tuple #[.int .i64 0,.iface 125 (.pointer (some ⟨w.heap.size,0,none⟩))])/\w'=w.alloc (faultAtObj 21 n):=by
 have hx:=h.c0
 go_enter Tryz.func37,Tryz.ntmps37
 go_wp2_with (go_at_call 76;refine (afault_any _ _ _).mono ?_;rintro e w' ⟨rfl,rfl⟩)
 go_ret2
 exact⟨rfl,rfl⟩
set_option maxHeartbeats 400000 in
theorem alloc_full (h:Ar 138 w B p m v l) (n:Int) (hn:1<=n) (hf:m-l.length<n) :
  Calls Tryz.prog 37 #[.pointer (some ⟨p,0,none⟩),.int .i64 n] w fun e w'=>e=.returned (.tuple #[.int .i64 0,.iface 125 (.pointer (some ⟨w.heap.size,0,none⟩))])/\w'=w.alloc (faultAtObj 22 n):=by
 have c0:=h.c0
 have h1:=h.m1
 have h2:=h.m2
 have h3:=h.len
 go_enter Tryz.func37,Tryz.ntmps37
 go_wp2_with (first | (go_at_call 58;refine (top_any h).mono ?_;rintro e w' ⟨rfl,rfl⟩) | (go_at_call 76;refine (afault_any _ _ _).mono ?_;rintro e w' ⟨rfl,rfl⟩))
 go_ret2
 exact⟨rfl,rfl⟩
set_option maxHeartbeats 3200000 in
theorem alloc_ok (h:Ar 138 w B p m v l) (hB:B<=w.heap.size) (n:Nat) (hn:1<=n) (hf:(l.length:Int)+n<=m) :
  Calls Tryz.prog 37 #[.pointer (some ⟨p,0,none⟩),.int .i64 (n:Int)] w fun e w'=>∃v',e=.returned (.tuple #[.int .i64 (l.length:Int),.nilIface])/\a_Upd 138 w w' B p m v (l++frsh l.length n) v':=by
 obtain⟨i0,hi,hz0,hz1,hz2⟩:=info_parts Tryz.infoU
 have c0:=h.c0
 have h1:=h.m1
 have h2:=h.m2
 have h3:=h.len
 have hn':(1:Int)<=(n:Int):=by omega
 go_enter Tryz.func37,Tryz.ntmps37
 go_wp2_with (go_at_call 58;refine (top_any h).mono ?_;rintro e w ⟨rfl,rfl⟩)
 go_loopw [7,28] (fun _ i wr=>∃k:Nat,k<=n/\i=.int .i64 k/\∃v1,a_Upd 138 w wr B p m v (l++frsh l.length k) v1) (fun _ i _=>n-(intOf i).toNat)
 case atStart=>exact⟨0,Nat.zero_le _,rfl,v,by simpa[frsh] using a_Upd.refl h⟩
 case round=>
  obtain⟨k,hk,rfl,v1,hU⟩:=hrel
  by_cases hlt:k<n
  ·have hA:=hU.ar
   have hlen:(l++frsh l.length k).length=l.length+k:=by simp[frsh_len]
   obtain⟨L,hL⟩:∃L,L=l++frsh l.length k:=⟨_,rfl⟩
   rw[←hL] at hA hlen
   have hsz:w.heap.size<=wr.heap.size:=hU.mod.size
   have HL:Hid (L=l++frsh l.length k):=hL
   have HU:Hid (a_Upd 138 w wr B p m v L v1):=by rw[hL];exact hU
   clear hL hU
   have hown:=hA.own
   rw[hlen] at hown
   have hp:=hA.lt
   have hrow:v1.ownBlock≠some p:=fun e=>(hA.row e).2.2 rfl
   have a1:=hA.c1
   have af:=hA.f1
   have hlt':(k:Int)<(n:Int):=by omega
   obtain⟨ao,cap0,hv1,_⟩:=hA.val
   rw[hlen] at hv1
   have HA:Hid (Ar 138 wr B p m v1 L):=hA
   clear hA hlen
   subst hv1
   have hwr:IntKind.i64.wrap ((l.length:Int)+k)=(l.length:Int)+k:=by rw[IntKind.wrap_i64];omega
   go_wp2
   go_region_law
    (first
     | (go_simp;go_at_call 77;refine (fresh_any _ _ (by omega) (by omega)).mono ?_;rintro e wq ⟨rfl,hwq⟩;subst hwq)
     | (refine step_append_lies _ (by rfl) _ _ _ (by rfl) B 57 i0 (.int .u64 0) 1 8 Tryz.underlying48 hi hz0 hz1 hz2 rfl (by omega) _ (l.length+k) (L.map (Value.int .u64)) (by rfl) ((hown.alloc _).drew) ⟨wr.heap.size,0,none⟩ 1 1 [.int .u64 (8*((l.length:Int)+k))] (by rfl) (by rfl) (World.news_of_block (cs:=#[.int .u64 (8*((l.length:Int)+k))]) (t:=57) (fr:=(0,0)) (heap_alloc_new wr _)) (by simp[Value.oneCell']) (by omega) (by unfold maxLen;omega) (by omega) (by simp;omega) (wr.heap.size+1) (by simp) ?_;intro g cap w1 hown1 hgrow hat hlt1;obtain⟨hc1,hf1⟩:=far_field hgrow hp hrow a1 af))
   all_goals go_wp2
   all_goals
    go_roundw
    case rel=>
     have hA:=HA.out
     have hLl:L.length=l.length+k:=by rw[HL.out];simp[frsh_len]
     have R:=push_one (w1:=w1) (x:=8*((l.length:Int)+k)) (g:=g) (cap:=cap) hA _ (undrew hgrow) (by rw[hLl];exact hown1) hat (by rw[hLl];omega) (by omega)
     rw[hLl] at R
     have HU':=HU.out.trans R
     rw[HL.out,List.append_assoc,←Int.natCast_add,←frsh_succ] at HU'
     exact⟨k+1,by omega,by go_num,_,HU'⟩
    case measure=>simp[intOf];omega
  ·have hlt':¬(k:Int)<(n:Int):=by omega
   obtain rfl:k=n:=by omega
   have HU:Hid (a_Upd 138 w wr B p m v (l++frsh l.length k) v1):=hU
   clear hU
   go_wp2
   go_ret2
   exact⟨rfl,v1,HU.out⟩
end
end Go.Proofs.YtbfbkmkjcekpaaaGreatDoor
namespace Go.Proofs.YtbfbkmkjcekpaaaGreatDoor
set_option maxRecDepth 100000
open Go.RowKit
theorem list_ext {l m:List Int} (h:l.length=m.length) (he:∀j,j<l.length->l.getD j 0=m.getD j 0):l=m:=by
 apply List.ext_getElem h
 intro i h1 h2
 have:=he i h1
 simpa[List.getD,h1,h2] using this
theorem nds_ext {l m:List Nd} (h:l.length=m.length) (he:∀j,j<l.length->l.getD j nd0=m.getD j nd0):l=m:=by
 apply List.ext_getElem h
 intro i h1 h2
 have:=he i h1
 simpa[List.getD,h1,h2] using this
theorem text_eq {a b:ByteArray} (h:a.toList=b.toList):a=b:=by
 rw[ByteArray.toList_eq,ByteArray.toList_eq] at h
 exact ByteArray.ext (Array.toList_inj.1 h)
set_option maxHeartbeats 1000000 in
theorem equal_ints {W:World} {u v:Value} {l m:List Int} (hu:Ri W u l) (hv:Ri W v m) (hl:l.length<=5000) :
  Calls Tryz.prog 55 #[u,v] W fun e w'=>e=.returned (.bool (decide (l=m)))/\Below W.heap.size W w':=by
 obtain⟨ua,uc,rfl,hu⟩:=hu
 obtain⟨va,vc,rfl,hv⟩:=hv
 by_cases hlen:l.length=m.length
 ·have hln:(l.length:Int)=(m.length:Int):=by omega
  go_enter Tryz.func55,Tryz.ntmps55
  go_wp2
  go_loopw [5,13] (fun _ i wr=>∃k:Nat,k<=l.length/\i=.int .i64 k/\Hid (Below W.heap.size W wr)/\Hid (∀j,j<k->l.getD j 0=m.getD j 0)) (fun _ i _=>l.length-(intOf i).toNat)
  case atStart=>exact⟨0,Nat.zero_le _,rfl,Below.refl _ _,fun j hj=>absurd hj (Nat.not_lt_zero _)⟩
  case round=>
   obtain⟨k,hk,rfl,hb,hp⟩:=hrel
   by_cases hlt:k<l.length
   ·obtain⟨ub,uo,rfl,hcu⟩:=hu k hlt
    obtain⟨vb,vo,rfl,hcv⟩:=hv k (by omega)
    have du:wr.cell? ⟨ub,uo+k,none⟩=some (.int .i64 (l.getD k 0)):=by rw[hb.out.cell (p:=⟨ub,uo+k,none⟩) (lt_of_cell hcu)];exact hcu
    have dv:wr.cell? ⟨vb,vo+k,none⟩=some (.int .i64 (m.getD k 0)):=by rw[hb.out.cell (p:=⟨vb,vo+k,none⟩) (lt_of_cell hcv)];exact hcv
    by_cases he:l.getD k 0=m.getD k 0
    ·have hp':Hid (∀j,j<k+1->l.getD j 0=m.getD j 0):=fun j hj=>by
      rcases Nat.lt_or_eq_of_le (Nat.le_of_lt_succ hj) with h | h
      ·exact hp.out j h
      ·subst h;exact he
     rw[←he] at dv
     generalize l.getD k 0=x at du dv
     clear hcu hcv hu hv he hp
     go_wp2
     go_quiet (fail)
     go_wp2
     go_roundw
     case rel=>exact⟨k+1,by omega,congrArg (Value.int .i64) (by omega),below_drewN hb.out _,hp'⟩
     case measure=>simp[intOf];omega
    ·have hF:=hid (show decide (l=m)=false from decide_eq_false (fun e=>he (by rw[e])))
     have he':(l.getD k 0 == m.getD k 0)=false:=by simpa using he
     generalize l.getD k 0=x at du he he'
     generalize m.getD k 0=y at dv he he'
     clear hcu hcv hu hv hp
     go_wp2
     go_quiet (fail)
     go_wp2
     go_ret
     exact⟨ret_bool hF.out.symm,below_drewN hb.out _⟩
   ·have hT:=hid (show decide (l=m)=true from decide_eq_true (list_ext hlen (fun j hj=>hp.out j (by omega))))
    clear hu hv hp
    go_wp2
    go_ret
    exact⟨ret_bool hT.out.symm,hb.out⟩
 ·have hF:=hid (show decide (l=m)=false from decide_eq_false (fun e=>hlen (by rw[e])))
  have hln:((l.length:Int) == (m.length:Int))=false:=by simpa using (by omega:¬(l.length:Int)=(m.length:Int))
  clear hu hv
  go_enter Tryz.func55,Tryz.ntmps55
  go_wp2
  go_ret
  exact⟨ret_bool hF.out.symm,Below.refl _ _⟩
def eqNd (a b:Nd):Bool:=decide (a.kind=b.kind) && decide (a.name.toList=b.name.toList) && decide (a.num=b.num) && decide (a.args=b.args)
theorem eqNd_yes {a b:Nd} (h:a=b):eqNd a b=true:=by
 subst h
 simp[eqNd]
theorem eqNd_no {a b:Nd} (h:a≠b):eqNd a b=false:=by
 cases he:eqNd a b with
 | false=>rfl
 | true=>
  obtain⟨k,s,n,l⟩:=a
  obtain⟨k',s',n',l'⟩:=b
  simp only[eqNd,Bool.and_eq_true,decide_eq_true_eq] at he
  obtain⟨⟨⟨h1,h2⟩,h3⟩,h4⟩:=he
  exact absurd (by rw[h1,text_eq h2,h3,h4]) h
def eqNds:List Nd->List Nd->Bool
 | [],[]=>true
 | a::l,b::m=>eqNd a b && eqNds l m
 | _,_=>false
theorem eqNds_yes:∀{l m:List Nd},l=m->eqNds l m=true
 | [],_,h=>by subst h;rfl
 | a::l,_,h=>by
  subst h
  simp only[eqNds,eqNd_yes rfl,eqNds_yes (rfl:l=l),Bool.and_self]
theorem eqNds_no:∀{l m:List Nd},l≠m->eqNds l m=false
 | [],[],h=>absurd rfl h
 | [],b::m,_=>rfl
 | a::l,[],_=>rfl
 | a::l,b::m,h=>by
  simp only[eqNds]
  by_cases e:a=b
  ·rw[eqNds_no (fun e'=>h (by rw[e,e']))]
   simp
  ·rw[eqNd_no e]
   rfl
def eqG (a b:Gf):Bool:=eqNds a.nodes b.nodes && decide (a.roots=b.roots)
theorem eqG_yes (a:Gf):eqG a a=true:=by simp[eqG,eqNds_yes (rfl:a.nodes=a.nodes)]
theorem nd_eq (k k' n n':Int) (s s':ByteArray) (l l':List Int):eqNd ⟨k,s,n,l⟩ ⟨k',s',n',l'⟩=(decide (k=k') && decide (s.toList=s'.toList) && decide (n=n') && decide (l=l')):=rfl
set_option maxHeartbeats 2000000 in
theorem sameNode_any {W:World} {u v:Value} {a b:Nd} (hu:Ri W u a.args) (hv:Ri W v b.args) (hl:a.args.length<=5000) :
  Calls Tryz.prog 54 #[.agg #[.int .i64 a.kind,.string a.name,.int .i64 a.num,u],.agg #[.int .i64 b.kind,.string b.name,.int .i64 b.num,v]] W fun e w'=>e=.returned (.bool (eqNd a b))/\Below W.heap.size W w':=by
 obtain⟨k,s,n,l⟩:=a
 obtain⟨k',s',n',l'⟩:=b
 dsimp only at hu hv hl ⊢
 have hb2:Below W.heap.size W ((W.alloc (.cells #[.int .i64 k,.string s,.int .i64 n,u] 74)).alloc (.cells #[.int .i64 k',.string s',.int .i64 n',v] 74)):=(below_alloc W _).alloc (by simp) _
 have hE:=equal_ints (hu.below hb2) (hv.below hb2) hl
 have hG:=hid (nd_eq k k' n n' s s' l l')
 generalize eqNd ⟨k,s,n,l⟩ ⟨k',s',n',l'⟩=R at hG ⊢
 generalize decide (l=l')=r at hE hG
 clear hu hv
 by_cases hk:k=k'
 ·subst hk
  by_cases hn:n=n'
  ·subst hn
   go_enter Tryz.func54,Tryz.ntmps54
   go_wp2_with (go_at_call 55;refine hE.mono ?_;rintro e w' ⟨rfl,hb⟩)
   ·go_ret
    refine⟨ret_bool ?_,Below.next hb2 hb⟩
    rw[hG.out]
    simp[*]
   ·go_ret
    refine⟨ret_bool ?_,hb2⟩
    rw[hG.out]
    simp[*]
  ·go_enter Tryz.func54,Tryz.ntmps54
   go_wp2
   all_goals
    go_ret
    refine⟨ret_bool ?_,hb2⟩
    rw[hG.out]
    simp[*]
 ·go_enter Tryz.func54,Tryz.ntmps54
  go_wp2
  all_goals
   go_ret
   refine⟨ret_bool ?_,hb2⟩
   rw[hG.out]
   simp[*]
end Go.Proofs.YtbfbkmkjcekpaaaGreatDoor

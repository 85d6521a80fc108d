/- What Pack of package word does where the tag may have the value. -/
import Derived.Laws.CopyOwn
import Derived.Laws.AppendOwnNone
import Derived.Maps.AppendAt
import Derived.Deep.AppendLies
import Derived.OneCell
import Derived.Deep.QuietTactic
import Derived.BigQuiet
import Derived.RangeFuncBox
import Derived.RangeFuncLeaves
import Derived.RangeFuncCalls
import Derived.Shelf.Abstract
import Derived.OwnWalkIn
import Derived.TacticsInMore
import Derived.LoopNIn
import Derived.LoopIn
import Derived.Test.YtbfbkmkjcekpaaaGreatDoorow05Z
import Derived.Test.YtbfbkmkjcekpaaaGreatDoorow04Z
import Derived.Test.YtbfbkmkjcekpaaaGreatDoorow02Z
namespace Go.Proofs.YtbfbkmkjcekpaaaGreatDoor
set_option maxRecDepth 100000
open Go.RowKit
theorem ret_pair {a b:Int} {v:Value} (h:a=b):Ending.returned (.tuple #[.int .u64 a,v])=.returned (.tuple #[.int .u64 b,v]):=by rw[h]
theorem or_word (a b:Int) (h0:0<=a) (h1:a<=5):bits .or .u64 (IntKind.u64.wrap (IntKind.u64.wrap b*8)) a=wordOf a b:=by
 have hw:IntKind.u64.wrap (IntKind.u64.wrap b*8)=(b*8) % 18446744073709551616:=by
  rw[IntKind.wrap_u64,IntKind.wrap_u64];omega
 rw[hw,bits_join .u64 64 (by decide) wraps64u 3 _ a (by omega) (by omega) (by omega) h0 (by omega) (by omega)]
 unfold wordOf;omega
set_option maxHeartbeats 400000 in
theorem pack_ok (a b:Int) (w:World) (hf:fitsB a b=true) :
  Calls Tryz.prog 94 #[.int .i64 a,.int .i64 b] w fun e w'=>e=.returned (.tuple #[.int .u64 (wordOf a b),.nilIface])/\w'=w:=by
 have hb:=fits_bd a b hf
 have ht:=fits_tag a b hf
 have H:Hid (bits .or .u64 (IntKind.u64.wrap (IntKind.u64.wrap b*8)) a=wordOf a b):=or_word a b ht.1 ht.2
 go_enter Tryz.func94,Tryz.ntmps94
 go_wp2_with (go_at_call 125;refine (fits_any _ _ _ (by omega) (by omega)).mono ?_;rintro e w' ⟨rfl,rfl⟩)
 go_ret2
 exact⟨ret_pair H.out,rfl⟩
end Go.Proofs.YtbfbkmkjcekpaaaGreatDoor
namespace Go.Proofs.YtbfbkmkjcekpaaaGreatDoor
set_option maxRecDepth 100000
open Go.RowKit
structure a_Mod (ks:List Nat) (w w':World):Prop where
 os:w'.os=w.os
 tape:w'.tape=w.tape
 output:w'.output=w.output
 size:w.heap.size<=w'.heap.size
 block:∀k,k<w.heap.size->k∉ks->w'.heap[k]?=w.heap[k]?
theorem a_Mod.refl (ks:List Nat) (w:World):a_Mod ks w w:=⟨rfl,rfl,rfl,Nat.le_refl _,fun _ _ _=>rfl⟩
theorem a_Mod.trans {ks ks':List Nat} {a b c:World} (h:a_Mod ks a b) (k:a_Mod ks' b c) (hs:∀x∈ks',x∈ks∨a.heap.size<=x):a_Mod ks a c:=
 ⟨k.os.trans h.os,k.tape.trans h.tape,k.output.trans h.output,Nat.le_trans h.size k.size,fun i hi hn=>
  (k.block i (Nat.lt_of_lt_of_le hi h.size) (fun hx=>by rcases hs i hx with h1 | h1;exact hn h1;omega)).trans (h.block i hi hn)⟩
theorem a_Mod.below {ks:List Nat} {w w':World} {B:Nat} (h:a_Mod ks w w') (hk:∀k∈ks,B<=k) (hB:B<=w.heap.size):Below B w w':=
 ⟨h.os,h.tape,h.output,h.size,fun k hkB=>h.block k (by omega) (fun hx=>by have:=hk k hx;omega)⟩
theorem a_Mod.ofBelow {ks:List Nat} {w w':World} (h:Below w.heap.size w w'):a_Mod ks w w':=
 ⟨h.os,h.tape,h.output,h.size,fun k hk _=>h.block k hk⟩
theorem a_Mod.grown {ks:List Nat} {a w w':World} {row:Option Nat} (h:a_Mod ks a w) (hg:w.grownBy w' row) (hr:∀k,row=some k->k∈ks∨a.heap.size<=k):a_Mod ks a w':=
 ⟨hg.os.trans h.os,hg.tape.trans h.tape,hg.output.trans h.output,Nat.le_trans h.size hg.size,fun k hk hn=>
  (hg.block k (Nat.lt_of_lt_of_le hk h.size) (fun e=>by rcases hr k e.symm with h1 | h1;exact hn h1;omega)).trans (h.block k hk hn)⟩
theorem a_Mod.alloc {ks:List Nat} {a w:World} (h:a_Mod ks a w) (o:Obj):a_Mod ks a (w.alloc o):=
 h.grown (World.grownBy_alloc w o none) (fun _ e=>by cases e)
theorem a_Mod.setCell {ks:List Nat} {a w:World} (h:a_Mod ks a w) {p:Addr} (hp:p.block∈ks∨a.heap.size<=p.block) (u:Value):a_Mod ks a (w.setCell p u):=
 ⟨h.os,h.tape,h.output,by simpa using h.size,fun k hk hn=>
  (Below.heap_setCell w p u k (fun e=>by subst e;rcases hp with h1 | h1;exact hn h1;omega)).trans (h.block k hk hn)⟩
theorem a_Mod.drew {ks:List Nat} {a w:World} (h:a_Mod ks a w):a_Mod ks a w.drew:=⟨h.os,h.tape,h.output,h.size,h.block⟩
theorem a_Mod.cell {ks:List Nat} {w w':World} (h:a_Mod ks w w') {k o:Nat} (hk:k<w.heap.size) (hn:k∉ks):w'.cell? ⟨k,o,none⟩=w.cell? ⟨k,o,none⟩:=
 World.cell?_of_block (w:=w) (a:=⟨k,o,none⟩) (h.block k hk hn)
theorem a_Mod.ofMem {ks:List Nat} {w w':World} (h:a_Mod ks w w') (ks':List Nat) (hs:∀x∈ks,x∈ks'∨w.heap.size<=x):a_Mod ks' w w':=(a_Mod.refl ks' w).trans h hs
def Rd (w:World) (v:Value) (l:List Int):Prop:=
 (∀x∈l,0<=x/\x<=18446744073709551615)/\
 ((v=.slice none 0 0/\l=[])∨(∃a c,v=.slice (some a) 0 c/\l=[])∨∃b o c,v=.slice (some ⟨b,o,none⟩) l.length c/\∀j,j<l.length->w.cell? ⟨b,o+j,none⟩=some (.int .u64 (l.getD j 0)))
theorem a_lt_of_cell {w:World} {b o:Nat} {u:Value} (h:w.cell? ⟨b,o,none⟩=some u):b<w.heap.size:=World.block_lt_of_cell? w ⟨b,o,none⟩ h
def Value.a_inBlock:Value->Option Nat
 | .slice (some a) _ _=>some a.block
 | _=>none
theorem Rd.keep {w w':World} {v:Value} {l:List Int} {ks:List Nat} (h:Rd w v l) (hm:a_Mod ks w w') (hk:∀k∈ks,Value.a_inBlock v≠some k):Rd w' v l:=by
 refine⟨h.1,?_⟩
 rcases h.2 with h0 | h0 | ⟨b,o,c,rfl,hc⟩
 ·exact Or.inl h0
 ·exact Or.inr (Or.inl h0)
 ·refine Or.inr (Or.inr ⟨b,o,c,rfl,fun j hj=>?_⟩)
  rw[hm.cell (a_lt_of_cell (hc j hj)) (fun hx=>hk b hx rfl)]
  exact hc j hj
theorem Rd.below {w w':World} {v:Value} {l:List Int} (h:Rd w v l) (hm:Below w.heap.size w w'):Rd w' v l:=
 h.keep (ks:=[]) (a_Mod.ofBelow hm) (fun _ hx=>by cases hx)
theorem Rd.ofOwn {w:World} {B:Nat} {v:Value} {l:List Int} (h:w.ownsRow B 57 1 v l.length (l.map (Value.int .u64))) (hr:∀x∈l,0<=x/\x<=18446744073709551615):Rd w v l:=by
 refine⟨hr,?_⟩
 have h0:=h
 rcases h.2 with⟨rfl,hn⟩ | ⟨g,cap,cur,rfl,_⟩
 ·exact Or.inl ⟨rfl,List.eq_nil_of_length_eq_zero hn⟩
 ·refine Or.inr (Or.inr ⟨g,0,cap,rfl,fun j hj=>?_⟩)
  rw[Nat.zero_add,h0.cellAt j (by omega)]
  simp[List.getD,List.getElem?_eq_getElem hj]
structure Ar (T:TypeId) (w:World) (B p:Nat) (m:Int) (v:Value) (l:List Int):Prop where
 ty:T≠57
 blk:w.heap[p]?=some (.cells #[.int .i64 m,v] T (0,0))
 base:B<=p
 own:w.ownsRow B 57 1 v l.length (l.map (Value.int .u64))
 m1:1<=m
 m2:m<=65536
 len:(l.length:Int)<=m
 rng:∀x∈l,0<=x/\x<=18446744073709551615
section
variable {T:TypeId} {w:World} {B p:Nat} {m:Int} {v:Value} {l:List Int}
theorem Ar.lt (h:Ar T w B p m v l):p<w.heap.size:=lt_of_block h.blk
theorem Ar.c0 (h:Ar T w B p m v l):w.cell? ⟨p,0,none⟩=some (.int .i64 m):=by simp[World.cell?,h.blk]
theorem Ar.c1 (h:Ar T w B p m v l):w.cell? ⟨p,1,none⟩=some v:=by simp[World.cell?,h.blk]
theorem Ar.f1 (h:Ar T w B p m v l):w.frozen? ⟨p,1,none⟩=false:=by simp[World.frozen?,h.blk]
theorem Ar.rd (h:Ar T w B p m v l):Rd w v l:=Rd.ofOwn h.own h.rng
theorem Ar.val (h:Ar T w B p m v l):∃ao cap,v=.slice ao l.length cap/\l.length<=cap/\(ao=none->l=[]/\cap=0):=by
 rcases h.own.2 with⟨rfl,hn⟩ | ⟨g,cap,cur,rfl,_,_,hc,_⟩
 ·exact⟨none,0,by rw[hn],by omega,fun _=>⟨List.eq_nil_of_length_eq_zero hn,rfl⟩⟩
 ·exact⟨_,cap,rfl,hc,fun e=>by cases e⟩
theorem Ar.row (h:Ar T w B p m v l) {k:Nat} (hk:v.ownBlock=some k):B<=k/\k<w.heap.size/\k≠p:=by
 obtain⟨h1,h2⟩:=h.own.lt k hk
 refine⟨h1,h2,fun e=>?_⟩
 subst e
 have hb:=h.blk
 rcases h.own.2 with⟨rfl,hn⟩ | ⟨g,cap,cur,rfl,_,hg,_⟩
 ·simp[Value.ownBlock] at hk
 ·simp[Value.ownBlock] at hk
  subst hk
  rw[hg] at hb
  simp at hb
  exact h.ty hb.2.symm
end
def a_foot (p:Nat) (v:Value):List Nat:=p::v.ownBlock.toList
theorem a_mem_foot {p k:Nat} {v:Value}:k∈a_foot p v↔k=p∨v.ownBlock=some k:=by simp[a_foot]
theorem Ar.keep {T:TypeId} {w w':World} {B p:Nat} {m:Int} {v:Value} {l:List Int} {ks:List Nat} (h:Ar T w B p m v l) (hm:a_Mod ks w w') (hk:∀k∈ks,k∉a_foot p v):Ar T w' B p m v l:=by
 refine⟨h.ty,?_,h.base,?_,h.m1,h.m2,h.len,h.rng⟩
 ·rw[hm.block p h.lt (fun hx=>hk p hx (a_mem_foot.2 (Or.inl rfl)))];exact h.blk
 ·refine⟨h.own.1,?_⟩
  rcases h.own.2 with h0 | ⟨g,cap,cur,rfl,hb,hg,rest⟩
  ·exact Or.inl h0
  ·refine Or.inr ⟨g,cap,cur,rfl,hb,?_,rest⟩
   rw[hm.block g (lt_of_block hg) (fun hx=>hk g hx (a_mem_foot.2 (Or.inr rfl)))];exact hg
theorem Ar.below {T:TypeId} {w w':World} {B p:Nat} {m:Int} {v:Value} {l:List Int} (h:Ar T w B p m v l) (hm:Below w.heap.size w w'):Ar T w' B p m v l:=
 h.keep (ks:=[]) (a_Mod.ofBelow hm) (fun _ hx=>by cases hx)
def a_Nx (w:World) (v v':Value):Prop:=∀k,v'.ownBlock=some k->v.ownBlock=some k∨w.heap.size<=k
theorem a_Nx.refl (w:World) (v:Value):a_Nx w v v:=fun _ h=>Or.inl h
theorem a_Nx.trans {w w1:World} {v v1 v2:Value} (h:a_Nx w v v1) (h1:a_Nx w1 v1 v2) (hs:w.heap.size<=w1.heap.size):a_Nx w v v2:=fun k hk=>by
 rcases h1 k hk with h2 | h2
 ·exact h k h2
 ·exact Or.inr (by omega)
structure a_Upd (T:TypeId) (w w':World) (B p:Nat) (m:Int) (v:Value) (l':List Int) (v':Value):Prop where
 ar:Ar T w' B p m v' l'
 mod:a_Mod (a_foot p v) w w'
 nx:a_Nx w v v'
theorem a_Upd.trans {T:TypeId} {w w1 w2:World} {B p:Nat} {m:Int} {v v1 v2:Value} {l1 l2:List Int} (h:a_Upd T w w1 B p m v l1 v1) (k:a_Upd T w1 w2 B p m v1 l2 v2):a_Upd T w w2 B p m v l2 v2:=
 ⟨k.ar,h.mod.trans k.mod (fun x hx=>by
  rcases a_mem_foot.1 hx with rfl | hx
  ·exact Or.inl (a_mem_foot.2 (Or.inl rfl))
  ·rcases h.nx x hx with h1 | h1
   ·exact Or.inl (a_mem_foot.2 (Or.inr h1))
   ·exact Or.inr h1),h.nx.trans k.nx h.mod.size⟩
theorem a_Upd.same {T:TypeId} {w w':World} {B p:Nat} {m:Int} {v:Value} {l:List Int} (h:Ar T w B p m v l) (hb:Below w.heap.size w w'):a_Upd T w w' B p m v l v:=
 ⟨h.below hb,a_Mod.ofBelow hb,a_Nx.refl _ _⟩
theorem a_Upd.refl {T:TypeId} {w:World} {B p:Nat} {m:Int} {v:Value} {l:List Int} (h:Ar T w B p m v l):a_Upd T w w B p m v l v:=a_Upd.same h (Below.refl _ _)
def faultAtObj (c a:Int):Obj:=.cells #[.int .i64 c,.int .i64 a,.string ⟨#[]⟩,.nilIface] 127
theorem Rd.src {w:World} {u:Value} {l:List Int} (h:Rd w u l):(u=.slice none 0 0/\l=[])∨∃ad c,u=.slice (some ad) l.length c/\∀j x,(l.map (Value.int .u64))[j]?=some x->w.cell? (ad.add j)=some x:=by
 rcases h.2 with h0 | ⟨a,c,rfl,rfl⟩ | ⟨b,o,c,rfl,hc⟩
 ·exact Or.inl h0
 ·exact Or.inr ⟨a,c,rfl,fun j x hx=>by simp at hx⟩
 ·refine Or.inr ⟨_,c,rfl,fun j x hx=>?_⟩
  have hj:j<l.length:=by have:=(List.getElem?_eq_some_iff.1 hx).1;simpa using this
  have ha:(⟨b,o,none⟩:Addr).add j=⟨b,o+j,none⟩:=by unfold Addr.add;split <;> simp_all
  rw[ha,hc j hj]
  simp[hj] at hx
  simp[List.getD,hj,hx]
theorem Rd.shape {w:World} {u:Value} {l:List Int} (h:Rd w u l):∃ao c,u=.slice ao l.length c:=by
 rcases h.src with⟨rfl,rfl⟩ | ⟨a,c,rfl,_⟩
 ·exact⟨none,0,rfl⟩
 ·exact⟨_,c,rfl⟩
theorem a_below_alloc (w:World) (o:Obj):Below w.heap.size w (w.alloc o):=(Below.refl _ _).alloc (Nat.le_refl _) o
end Go.Proofs.YtbfbkmkjcekpaaaGreatDoor
namespace Go.Proofs.YtbfbkmkjcekpaaaGreatDoor
set_option maxRecDepth 100000
open Go.RowKit
def tellsB (n:Int):Bool:=decide (n % 8=0∨n % 8=3∨n % 8=5)
def mayB (n t:Int):Bool:=goodB n && (!tellsB n || decide (valOf n<t))
set_option maxHeartbeats 400000 in
theorem afault_any (c a:Int) (w:World) :
  Calls Tryz.prog 76 #[.int .i64 c,.int .i64 a] w fun e w'=>e=.returned (.iface 125 (.pointer (some ⟨w.heap.size,0,none⟩)))/\w'=w.alloc (faultAtObj c a):=by
 go_enter Tryz.func76,Tryz.ntmps76
 go_wp2
 go_ret
 exact⟨rfl,rfl⟩
set_option maxHeartbeats 1000000 in
theorem may_any (n t:Int) (w:World) (h0:0<=n) (h1:n<=18446744073709551615) :
  Calls Tryz.prog 127 #[.int .u64 n,.int .i64 t] w fun e w'=>e=.returned (.bool (mayB n t))/\w'=w:=by
 by_cases hg:goodB n=true
 ·by_cases ht:n % 8=0∨n % 8=3∨n % 8=5
  ·have hB:Hid (mayB n t=decide (valOf n<t)):=by simp[Hid,mayB,hg,tellsB,ht]
   go_enter Tryz.func127,Tryz.ntmps127
   go_wp2_with (first | (go_at_call 118;refine (place_yes _ _ h0 h1 hg ht).mono ?_;rintro e w' ⟨rfl,rfl⟩) | (go_at_call 116;refine (w_good_any _ _ h0 h1).mono ?_;rintro e w' ⟨rfl,rfl⟩))
   go_ret
   exact⟨w_ret_bool hB.out.symm,rfl⟩
  ·have hB:Hid (mayB n t=true):=by simp[Hid,mayB,hg,tellsB,ht]
   have ht':goodB n=false∨(n % 8≠0/\n % 8≠3/\n % 8≠5):=Or.inr (by omega)
   have HT:Hid (goodB n=false∨(n % 8≠0/\n % 8≠3/\n % 8≠5)):=ht'
   clear ht ht'
   go_enter Tryz.func127,Tryz.ntmps127
   go_wp2_with (first | (go_at_call 118;refine (place_no _ _ h0 h1 HT.out).mono ?_;rintro e w' ⟨rfl,rfl⟩) | (go_at_call 116;refine (w_good_any _ _ h0 h1).mono ?_;rintro e w' ⟨rfl,rfl⟩))
   go_ret
   exact⟨w_ret_bool hB.out.symm,rfl⟩
 ·have hg':goodB n=false:=by simpa using hg
  have hB:Hid (mayB n t=false):=by simp[Hid,mayB,hg']
  clear hg
  go_enter Tryz.func127,Tryz.ntmps127
  go_wp2_with (first | (go_at_call 118;refine (place_no _ _ h0 h1 (Or.inl hg')).mono ?_;rintro e w' ⟨rfl,rfl⟩) | (go_at_call 116;refine (w_good_any _ _ h0 h1).mono ?_;rintro e w' ⟨rfl,rfl⟩))
  go_ret
  exact⟨w_ret_bool hB.out.symm,rfl⟩
set_option maxHeartbeats 400000 in
theorem fresh_any (n:Int) (w:World) (h0:0<=n) (h1:n<65536) :
  Calls Tryz.prog 77 #[.int .i64 n] w fun e w'=>e=.returned (.int .u64 (8*n))/\w'=w:=by
 have hf:fitsB 0 n=true:=by simp[fitsB];omega
 have HW:Hid (wordOf 0 n=8*n):=by show _=_;unfold wordOf;omega
 go_enter Tryz.func77,Tryz.ntmps77
 go_wp2_with (go_at_call 94;refine (pack_ok _ _ _ hf).mono ?_;rintro e w' ⟨rfl,rfl⟩)
 go_ret
 exact⟨w_ret_int HW.out,rfl⟩
set_option maxHeartbeats 400000 in
theorem new_ok (m:Int) (w:World) (B:Nat) (hB:B<=w.heap.size) (h1:1<=m) (h2:m<=65536) :
  Calls Tryz.prog 56 #[.int .i64 m] w fun e w'=>e=.returned (.tuple #[.pointer (some ⟨w.heap.size,0,none⟩),.nilIface])/\Ar 138 w' B w.heap.size m (.slice none 0 0) []/\Below w.heap.size w w':=by
 go_enter Tryz.func56,Tryz.ntmps56
 go_wp2
 go_ret2
 exact⟨rfl,⟨by decide,heap_alloc_new w _,hB,World.ownsRow_nil _ _ _ _,h1,h2,by simp;omega,by simp⟩,a_below_alloc _ _⟩
set_option maxHeartbeats 400000 in
theorem top_any {w:World} {B p:Nat} {m:Int} {v:Value} {l:List Int} (h:Ar 138 w B p m v l) :
  Calls Tryz.prog 58 #[.pointer (some ⟨p,0,none⟩)] w fun e w'=>e=.returned (.int .i64 (l.length:Int))/\w'=w:=by
 obtain⟨ao,cap,rfl,_⟩:=h.val
 have c1:=h.c1
 go_enter Tryz.func58,Tryz.ntmps58
 go_wp2
 go_ret
 exact⟨rfl,rfl⟩
def inB (n k:Int):Bool:=decide (0<=n/\n<k)
set_option maxHeartbeats 400000 in
theorem holds_any {w:World} {B p:Nat} {m:Int} {v:Value} {l:List Int} (h:Ar 138 w B p m v l) (n:Int) :
  Calls Tryz.prog 126 #[.pointer (some ⟨p,0,none⟩),.int .i64 n] w fun e w'=>e=.returned (.bool (inB n l.length))/\w'=w:=by
 by_cases hn:0<=n
 ·go_enter Tryz.func126,Tryz.ntmps126
  go_wp2_with (go_at_call 58;refine (top_any h).mono ?_;rintro e w' ⟨rfl,rfl⟩)
  go_ret
  exact⟨w_ret_bool (by simp[inB,hn]),rfl⟩
 ·have hB:Hid (inB n l.length=false):=by show _=_;simp[inB];omega
  go_enter Tryz.func126,Tryz.ntmps126
  go_wp2_with (go_at_call 58;refine (top_any h).mono ?_;rintro e w' ⟨rfl,rfl⟩)
  go_ret
  exact⟨w_ret_bool hB.out.symm,rfl⟩
end Go.Proofs.YtbfbkmkjcekpaaaGreatDoor
namespace Go.Proofs.YtbfbkmkjcekpaaaGreatDoor
set_option maxRecDepth 100000
open Go.RowKit
def wdN (l:List Int) (k:Nat):Int:=l.getD k 0
def tgN (l:List Int) (k:Nat):Int:=wdN l k % 8
def vlN (l:List Int) (k:Nat):Nat:=(valOf (wdN l k)).toNat
def hdN (l:List Int) (k:Nat):Prop:=tgN l k=4∨tgN l k=5
def arN' (l:List Int) (k:Nat):Nat:=vlN l k % 16
structure Snd (l:List Int) (V:Nat->Bool):Prop where
 good:∀k,k<l.length->goodB (wdN l k)=true
 rng:∀x∈l,0<=x/\x<=18446744073709551615
 ref:∀k,k<l.length->tgN l k=0->vlN l k<l.length/\V (vlN l k)=true/\(V k=true->vlN l k<=k)
 own:∀k,k<l.length->V k=true->¬hdN l k
 str:∀k,k<l.length->tgN l k=3->vlN l k<l.length/\hdN l (vlN l k)
 fwd:∀k,k<l.length->tgN l k=5->vlN l k<k/\hdN l (vlN l k)
 args:∀k,k<l.length->tgN l k=4->k+arN' l k<l.length/\∀i,1<=i->i<=arN' l k->¬hdN l (k+i)
def rkN (l:List Int) (V:Nat->Bool) (k:Nat):Nat:=if tgN l k=4∨tgN l k=5 then k else if V k=true then l.length+k else 2*l.length
def nxN (l:List Int) (k:Nat):Option Nat:=
 if tgN l k=0 then (if vlN l k=k then none else some (vlN l k)) else if tgN l k=3∨tgN l k=5 then some (vlN l k) else none
def endW (l:List Int) (k:Nat):Int:=if tgN l k=4 then wordOf 3 k else wdN l k
def trmF (l:List Int):Nat->Nat->Int
 | 0,k=>endW l k
 | f+1,k=>match nxN l k with
  | none=>endW l k
  | some j=>trmF l f j
theorem nx_rk {l:List Int} {V:Nat->Bool} (h:Snd l V) {k j:Nat} (hk:k<l.length) (e:nxN l k=some j):j<l.length/\rkN l V j<rkN l V k:=by
 unfold nxN at e
 by_cases h0:tgN l k=0
 ·rw[if_pos h0] at e
  by_cases h1:vlN l k=k
  ·rw[if_pos h1] at e
   cases e
  ·rw[if_neg h1] at e
   injection e with e
   obtain⟨r1,r2,r3⟩:=h.ref k hk h0
   rw[e] at r1 r2 r3 h1
   refine⟨r1,?_⟩
   have nj:¬(tgN l j=4∨tgN l j=5):=h.own j r1 r2
   have nk:¬(tgN l k=4∨tgN l k=5):=by omega
   unfold rkN
   rw[if_neg nj,if_neg nk,if_pos r2]
   by_cases hV:V k=true
   ·rw[if_pos hV]
    have:=r3 hV
    omega
   ·rw[if_neg hV]
    omega
 ·rw[if_neg h0] at e
  by_cases h1:tgN l k=3∨tgN l k=5
  ·rw[if_pos h1] at e
   injection e with e
   rcases h1 with h1 | h1
   ·obtain⟨r1,r2⟩:=h.str k hk h1
    rw[e] at r1 r2
    refine⟨r1,?_⟩
    have nk:¬(tgN l k=4∨tgN l k=5):=by omega
    unfold rkN
    rw[if_pos (show tgN l j=4∨tgN l j=5 from r2),if_neg nk]
    split <;> omega
   ·obtain⟨r1,r2⟩:=h.fwd k hk h1
    rw[e] at r1 r2
    refine⟨by omega,?_⟩
    unfold rkN
    rw[if_pos (show tgN l j=4∨tgN l j=5 from r2),if_pos (Or.inr h1)]
    exact r1
  ·rw[if_neg h1] at e
   cases e
theorem trm_more {l:List Int} {V:Nat->Bool} (h:Snd l V):∀(f k:Nat),k<l.length->rkN l V k<f->∀g,f<=g->trmF l g k=trmF l f k
 | 0,_,_,hf,_,_=>absurd hf (Nat.not_lt_zero _)
 | f+1,k,hk,hf,g,hg=>by
  obtain⟨g,rfl⟩:∃g',g=g'+1:=⟨g-1,by omega⟩
  show (match nxN l k with | none=>endW l k | some j=>trmF l g j)=(match nxN l k with | none=>endW l k | some j=>trmF l f j)
  cases e:nxN l k with
  | none=>rfl
  | some j=>
   obtain⟨h1,h2⟩:=nx_rk h hk e
   exact trm_more h f j h1 (by omega) g (by omega)
def trmW (l:List Int) (k:Nat):Int:=trmF l (2*l.length+1) k
theorem rk_le {l:List Int} {V:Nat->Bool} {k:Nat} (hk:k<l.length):rkN l V k<=2*l.length:=by
 unfold rkN
 split
 ·omega
 ·split <;> omega
theorem trm_next {l:List Int} {V:Nat->Bool} (h:Snd l V) {k j:Nat} (hk:k<l.length) (e:nxN l k=some j):trmW l k=trmW l j:=by
 obtain⟨h1,h2⟩:=nx_rk h hk e
 have h3:=rk_le (V:=V) hk
 have h4:trmW l k=trmF l (2*l.length) j:=by
  unfold trmW
  show (match nxN l k with | none=>endW l k | some j=>trmF l (2*l.length) j)=_
  rw[e]
 rw[h4]
 exact ((trm_more h (2*l.length) j h1 (by omega) (2*l.length+1) (by omega))).symm
theorem trm_end {l:List Int} {k:Nat} (e:nxN l k=none):trmW l k=endW l k:=by
 unfold trmW
 show (match nxN l k with | none=>endW l k | some j=>trmF l (2*l.length) j)=_
 rw[e]
end Go.Proofs.YtbfbkmkjcekpaaaGreatDoor
namespace Go.Proofs.YtbfbkmkjcekpaaaGreatDoor
set_option maxRecDepth 100000
open Go.RowKit
section
variable {w:World} {B p:Nat} {m:Int} {v:Value} {l:List Int}
theorem Ar.form {T:TypeId} (h:Ar T w B p m v l) {k:Nat} (hk:k<l.length):∃g cap,v=.slice (some ⟨g,0,none⟩) l.length cap/\l.length<=cap/\g<w.heap.size/\g≠p/\B<=g/\w.cell? ⟨g,k,none⟩=some (.int .u64 (l.getD k 0))/\w.frozen? ⟨g,k,none⟩=false:=by
 obtain⟨g,cap,rfl,hb,hg⟩:=h.own.form (by omega)
 have hr:=h.row (k:=g) rfl
 obtain⟨ao,cap',he,hc,_⟩:=h.val
 simp at he
 refine⟨g,cap,rfl,by rw[he.2];exact hc,hg,hr.2.2,hb,?_,h.own.frozenAt k⟩
 rw[h.own.cellAt k (by omega)]
 simp[List.getD,List.getElem?_eq_getElem hk]
set_option maxHeartbeats 400000 in
theorem load_ok (h:Ar 138 w B p m v l) (k:Nat) (hk:k<l.length) :
  Calls Tryz.prog 114 #[.pointer (some ⟨p,0,none⟩),.int .i64 (k:Int)] w fun e w'=>e=.returned (.tuple #[.int .u64 (l.getD k 0),.nilIface])/\w'=w:=by
 obtain⟨g,cap,rfl,hcap,hg,hne,_,hc,_⟩:=h.form hk
 have c1:=h.c1
 have hi:inB (k:Int) l.length=true:=by simp[inB];omega
 have hk':(k:Int)<(l.length:Int):=by omega
 go_enter Tryz.func114,Tryz.ntmps114
 go_wp2_with (go_at_call 126;refine (holds_any h _).mono ?_;rintro e w' ⟨rfl,rfl⟩)
 go_ret2
 exact⟨ret_pair (by simp[List.getD,hk]),rfl⟩
set_option maxHeartbeats 400000 in
theorem load_no (h:Ar 138 w B p m v l) (n:Int) (hi:inB n l.length=false) :
  Calls Tryz.prog 114 #[.pointer (some ⟨p,0,none⟩),.int .i64 n] w fun e w'=>e=.returned (.tuple #[.int .u64 0,.iface 125 (.pointer (some ⟨w.heap.size,0,none⟩))])/\w'=w.alloc (faultAtObj 23 n):=by
 go_enter Tryz.func114,Tryz.ntmps114
 go_wp2_with (first | (go_at_call 126;refine (holds_any h _).mono ?_;rintro e w' ⟨rfl,rfl⟩) | (go_at_call 76;refine (afault_any _ _ _).mono ?_;rintro e w' ⟨rfl,rfl⟩))
 go_ret2
 exact⟨rfl,rfl⟩
theorem set_rng {l:List Int} (h:∀x∈l,0<=x/\x<=18446744073709551615) (k:Nat) (u:Int) (hu:0<=u/\u<=18446744073709551615):∀x∈l.set k u,0<=x/\x<=18446744073709551615:=fun x hx=>by
 rcases List.mem_or_eq_of_mem_set hx with h1 | rfl
 ·exact h x h1
 ·exact hu
theorem Ar.stored {T:TypeId} {g cap:Nat} (h:Ar T w B p m (.slice (some ⟨g,0,none⟩) l.length cap) l) (k:Nat) (u:Int) (hu:0<=u/\u<=18446744073709551615) :
  a_Upd T w (w.setCell ⟨g,k,none⟩ (.int .u64 u)) B p m (.slice (some ⟨g,0,none⟩) l.length cap) (l.set k u) (.slice (some ⟨g,0,none⟩) l.length cap):=by
 have hr:=h.row (k:=g) rfl
 obtain⟨h1,_⟩:=h.own.stored k (.int .u64 u)
 refine⟨⟨h.ty,?_,h.base,?_,h.m1,h.m2,by simpa using h.len,set_rng h.rng k u hu⟩,(a_Mod.refl _ w).setCell (p:=⟨g,k,none⟩) (Or.inl (a_mem_foot.2 (Or.inr rfl))) _,a_Nx.refl _ _⟩
 ·rw[Below.heap_setCell w ⟨g,k,none⟩ _ p (by simpa using hr.2.2.symm)];exact h.blk
 ·rw[List.map_set,List.length_set];exact h1
set_option maxHeartbeats 400000 in
theorem store_ok (h:Ar 138 w B p m v l) (k:Nat) (u:Int) (hk:k<l.length) (u0:0<=u) (u1:u<=18446744073709551615) (hm:mayB u l.length=true) :
  Calls Tryz.prog 96 #[.pointer (some ⟨p,0,none⟩),.int .i64 (k:Int),.int .u64 u] w fun e w'=>e=.returned .nilIface/\a_Upd 138 w w' B p m v (l.set k u) v:=by
 obtain⟨g,cap,rfl,hcap,hg,hne,_,hc,hf⟩:=h.form hk
 have c1:=h.c1
 have hi:inB (k:Int) l.length=true:=by simp[inB];omega
 have hk':(k:Int)<(l.length:Int):=by omega
 go_enter Tryz.func96,Tryz.ntmps96
 go_wp2_with (first | (go_at_call 126;refine (holds_any h _).mono ?_;rintro e w' ⟨rfl,rfl⟩) | (go_at_call 58;refine (top_any h).mono ?_;rintro e w' ⟨rfl,rfl⟩) | (go_at_call 127;refine (may_any _ _ _ u0 u1).mono ?_;rintro e w' ⟨rfl,rfl⟩))
 go_ret
 exact⟨rfl,h.stored k u ⟨u0,u1⟩⟩
theorem Ar.setVal {T:TypeId} {v':Value} {l':List Int} (h:Ar T w B p m v l) (ho:w.ownsRow B 57 1 v' l'.length (l'.map (Value.int .u64))) (hl:(l'.length:Int)<=m) (hr:∀x∈l',0<=x/\x<=18446744073709551615) (hp:v'.ownBlock≠some p) :
  Ar T (w.setCell ⟨p,1,none⟩ v') B p m v' l':=by
 refine⟨h.ty,?_,h.base,ownsRow_setCell_other ho (by simpa using hp) _,h.m1,h.m2,hl,hr⟩
 have:=heap_setCell_same w p 1 _ T v' h.blk
 rw[this]
 rfl
theorem mod_field (w:World) (p:Nat) (v v':Value):a_Mod (a_foot p v) w (w.setCell ⟨p,1,none⟩ v'):=(a_Mod.refl (a_foot p v) w).setCell (p:=⟨p,1,none⟩) (Or.inl (a_mem_foot.2 (Or.inl rfl))) v'
theorem own_take {e:TypeId} {g n cap k:Nat} {xs:List Value} (h:w.ownsRow B e 1 (.slice (some ⟨g,0,none⟩) n cap) n xs) (hk:k<=n):w.ownsRow B e 1 (.slice (some ⟨g,0,none⟩) k cap) k (xs.take k):=by
 rcases h.2 with⟨h',_⟩ | ⟨g',cap',cur,h',hb,hg,hnc,hcm,hcs,htake⟩
 ·simp at h'
 ·simp only[Value.slice.injEq,Option.some.injEq,Addr.mk.injEq,and_true,true_and] at h'
  obtain⟨rfl,rfl⟩:=h'
  have h1:=h.1
  refine⟨by simp;omega,Or.inr ⟨g,cap,cur,rfl,hb,hg,by omega,hcm,hcs,?_⟩⟩
  rw[←htake,List.take_take]
  congr 1
  omega
set_option maxHeartbeats 400000 in
theorem cut_ok (h:Ar 138 w B p m v l) (k:Nat) (hk:k<=l.length) :
  Calls Tryz.prog 67 #[.pointer (some ⟨p,0,none⟩),.int .i64 (k:Int)] w fun e w'=>∃v',e=.returned .nilIface/\a_Upd 138 w w' B p m v (l.take k) v':=by
 have c1:=h.c1
 have f1:=h.f1
 have hk':(k:Int)<=(l.length:Int):=by omega
 have hk0:(0:Int)<=(k:Int):=by omega
 have hlen:=h.len
 have hm2:=h.m2
 rcases h.own.2 with⟨rfl,hn⟩ | ⟨g,cap,cur,rfl,hb,hg,hc,hm,_⟩
 ·obtain rfl:l=[]:=List.eq_nil_of_length_eq_zero hn
  obtain rfl:k=0:=by simpa using hk
  go_enter Tryz.func67,Tryz.ntmps67
  go_wp2_with (first | (go_at_call 58;refine (top_any h).mono ?_;rintro e w' ⟨rfl,rfl⟩))
  go_ret
  exact⟨_,rfl,h.setVal (World.ownsRow_nil _ _ _ _) h.len h.rng (by simp[Value.ownBlock]),mod_field _ _ _ _,a_Nx.refl _ _⟩
 ·have hr:=h.row (k:=g) rfl
  have HO:=own_take h.own hk
  have HO':Hid (w.ownsRow B 57 1 (.slice (some ⟨g,0,none⟩) k cap) k ((l.map (Value.int .u64)).take k)):=HO
  clear HO
  have hkc:(k:Int)<=(cap:Int):=by omega
  have hcm:cap<=9223372036854775807:=by simpa[maxLen] using hm
  go_enter Tryz.func67,Tryz.ntmps67
  go_wp2_with (first | (go_at_call 58;refine (top_any h).mono ?_;rintro e w' ⟨rfl,rfl⟩))
  go_ret
  have ht:(l.take k).length=k:=by simp;omega
  refine⟨_,rfl,h.setVal (v':=.slice (some ⟨g,0,none⟩) k cap) (l':=l.take k) ?_ (by rw[ht];omega) (fun x hx=>h.rng x (List.mem_of_mem_take hx)) (by simpa[Value.ownBlock] using hr.2.2),mod_field _ _ _ _,fun _ e=>Or.inl e⟩
  rw[ht,List.map_take]
  exact HO'.out
end
end Go.Proofs.YtbfbkmkjcekpaaaGreatDoor
namespace Go.Proofs.YtbfbkmkjcekpaaaGreatDoor
set_option maxRecDepth 100000
open Go.RowKit
theorem wd_set {l:List Int} {j:Nat} {x:Int} (hj:j<l.length) (k:Nat):wdN (l.set j x) k=if k=j then x else wdN l k:=by
 unfold wdN
 by_cases e:k=j
 ·subst e
  rw[if_pos rfl]
  simp[List.getD,hj]
 ·rw[if_neg e]
  simp[List.getD,List.getElem?_set_ne (fun h=>e h.symm)]
section
variable {l:List Int} {V:Nat->Bool} {j:Nat} {x:Int}
theorem tg_set (hj:j<l.length) {k:Nat} (e:k≠j):tgN (l.set j x) k=tgN l k/\vlN (l.set j x) k=vlN l k:=by
 unfold tgN vlN
 rw[wd_set hj,if_neg e]
 exact⟨rfl,rfl⟩
theorem tg_new (hj:j<l.length):tgN (l.set j x) j=x % 8/\vlN (l.set j x) j=(valOf x).toNat:=by
 unfold tgN vlN
 rw[wd_set hj,if_pos rfl]
 exact⟨rfl,rfl⟩
theorem snd_set (h:Snd l V) (hj:j<l.length) (hx:0<=x/\x<=18446744073709551615) (hg:goodB x=true)
  (hhd:(x % 8=4∨x % 8=5)↔hdN l j)
  (h0:x % 8=0->(valOf x).toNat<l.length/\V (valOf x).toNat=true/\(V j=true->(valOf x).toNat<=j))
  (h3:x % 8=3->(valOf x).toNat<l.length/\hdN l (valOf x).toNat)
  (h5:x % 8=5->(valOf x).toNat<j/\hdN l (valOf x).toNat)
  (h4:x % 8≠4):Snd (l.set j x) V:=by
 have hd:∀k,hdN (l.set j x) k↔hdN l k:=fun k=>by
  by_cases e:k=j
  ·subst e
   rw[←hhd]
   unfold hdN
   rw[(tg_new hj).1]
  ·unfold hdN
   rw[(tg_set hj e).1]
 have hl:(l.set j x).length=l.length:=by simp
 refine⟨fun k hk=>?_,fun y hy=>?_,fun k hk ht=>?_,fun k hk hv=>?_,fun k hk ht=>?_,fun k hk ht=>?_,fun k hk ht=>?_⟩
 ·rw[hl] at hk
  rw[wd_set hj]
  split
  ·exact hg
  ·exact h.good k hk
 ·rcases List.mem_or_eq_of_mem_set hy with h1 | rfl
  ·exact h.rng y h1
  ·exact hx
 ·rw[hl] at hk ⊢
  by_cases e:k=j
  ·subst e
   rw[(tg_new hj).1] at ht
   rw[(tg_new hj).2]
   exact h0 ht
  ·rw[(tg_set hj e).1] at ht
   rw[(tg_set hj e).2]
   exact h.ref k hk ht
 ·rw[hl] at hk
  rw[hd]
  exact h.own k hk hv
 ·rw[hl] at hk ⊢
  rw[hd]
  by_cases e:k=j
  ·subst e
   rw[(tg_new hj).1] at ht
   rw[(tg_new hj).2]
   exact h3 ht
  ·rw[(tg_set hj e).1] at ht
   rw[(tg_set hj e).2]
   exact h.str k hk ht
 ·rw[hl] at hk
  rw[hd]
  by_cases e:k=j
  ·subst e
   rw[(tg_new hj).1] at ht
   rw[(tg_new hj).2]
   exact h5 ht
  ·rw[(tg_set hj e).1] at ht
   rw[(tg_set hj e).2]
   exact h.fwd k hk ht
 ·rw[hl] at hk ⊢
  have e:k≠j:=fun e=>by
   subst e
   rw[(tg_new hj).1] at ht
   exact h4 ht
  rw[(tg_set hj e).1] at ht
  have e2:arN' (l.set j x) k=arN' l k:=by
   unfold arN'
   rw[(tg_set hj e).2]
  rw[e2]
  obtain⟨a1,a2⟩:=h.args k hk ht
  exact⟨a1,fun i hi1 hi2 hh=>a2 i hi1 hi2 ((hd _).1 hh)⟩
theorem snd_bind (h:Snd l V) (hj:j<l.length) (hV:V j=true) (hx:0<=x/\x<=18446744073709551615) (hg:goodB x=true) (h45:x % 8≠4/\x % 8≠5) (h0:x % 8=0->(valOf x).toNat<=j/\V (valOf x).toNat=true) (h3:x % 8=3->(valOf x).toNat<l.length/\hdN l (valOf x).toNat):Snd (l.set j x) V:=
 snd_set h hj hx hg (iff_of_false (by omega) (h.own j hj hV)) (fun e=>⟨by have:=(h0 e).1;omega,(h0 e).2,fun _=>(h0 e).1⟩) h3 (fun e=>absurd e h45.2) h45.1
theorem snd_fwd (h:Snd l V) (hj:j<l.length) (hh:hdN l j) {i:Nat} (hi:i<j) (hi2:hdN l i) (hx:0<=x/\x<=18446744073709551615) (hg:goodB x=true) (ht:x % 8=5) (hv:valOf x=(i:Int)):Snd (l.set j x) V:=
 snd_set h hj hx hg (iff_of_true (Or.inr ht) hh) (fun e=>by omega) (fun e=>by omega) (fun _=>by rw[hv,Int.toNat_natCast];exact⟨hi,hi2⟩) (by omega)
end
end Go.Proofs.YtbfbkmkjcekpaaaGreatDoor
namespace Go.Proofs.YtbfbkmkjcekpaaaGreatDoor
set_option maxRecDepth 100000
open Go.RowKit Go.Shelf
attribute [local go_sem] Oper.semAt_some
def upto (l:List ByteArray) (k:Nat):List (Nat×ByteArray):=(List.range k).map (fun j=>(j,l.getD j ⟨#[]⟩))
theorem upto_succ (l:List ByteArray) (k:Nat):upto l (k+1)=upto l k++[(k,l.getD k ⟨#[]⟩)]:=by simp[upto,List.range_succ]
theorem upto_length (l:List ByteArray) (k:Nat):(upto l k).length=k:=by simp[upto]
theorem upto_texts (l:List ByteArray) {k:Nat} (hk:k<=l.length):(upto l k).map Prod.snd=l.take k:=by
 apply List.ext_getElem
 ·simp[upto,hk]
 ·intro i h1 h2
  have:i<l.length:=by simp[upto] at h1;omega
  simp[upto,List.getD,this]
set_option maxHeartbeats 1000000 in
theorem sall_any (v:Value) (w:World) (hv:∃ao n c,v=.slice ao n c) :
  Calls Tryz.prog 88 #[v] w fun e w'=>e=.returned (.func (.func 119) #[] #[.pointer (some ⟨w.heap.size,0,none⟩)])/\w'=w.alloc (.cells #[v] 51):=by
 obtain⟨ao,n,c,rfl⟩:=hv
 go_enter Tryz.func88,Tryz.ntmps88
 go_wp2
 go_ret
 exact⟨rfl,rfl⟩
set_option maxHeartbeats 1000000 in
theorem n_all_any {w:World} {B p q:Nat} {v:Value} {l:List ByteArray} (h:Tb w B p v q l) :
  Calls Tryz.prog 48 #[.pointer (some ⟨p,0,none⟩)] w fun e w'=>e=.returned (.func (.func 119) #[] #[.pointer (some ⟨w.heap.size,0,none⟩)])/\w'=w.alloc (.cells #[v] 51):=by
 obtain⟨ao,cap,rfl,_⟩:=h.val
 have c0:=h.c0
 go_enter Tryz.func48,Tryz.ntmps48
 go_wp2_with (go_at_call 88;refine (sall_any _ _ ⟨_,_,_,rfl⟩).mono ?_;rintro e w' ⟨rfl,rfl⟩)
 go_ret
 exact⟨rfl,rfl⟩
end Go.Proofs.YtbfbkmkjcekpaaaGreatDoor
namespace Go.Proofs.YtbfbkmkjcekpaaaGreatDoor
set_option maxRecDepth 100000
open Go.RowKit
theorem gneN {N:Nat} {l:Array Bool} {i j:Nat} {b:Bool} (hl:l.size=N) (h:bitA (l.setIfInBounds i true) j=b) (hi:i<N:=by decide) (hne:i≠j:=by decide):bitA l j=b:=by
 rw[gsetN l i j hl hi,if_neg hne] at h
 exact h
theorem bff {a:Bool} {p:Prop} (h:a=false) (e:a=true):p:=by
 rw[h] at e
 cases e
theorem bny {a b:Bool} (hb:b=false) (h:a=true->b=true):a=false:=by
 cases a with
 | false=>rfl
 | true=>exact bff hb (h rfl)
end Go.Proofs.YtbfbkmkjcekpaaaGreatDoor

/- Memory of an arena: what may change ('Mod'), an arena that lies at a block ('Ar'), a row of words that can be read ('Rd'), an error that is just a fault ('Err'). -/
import Derived.Laws.CopyOwn
import Derived.Laws.AppendOwnNone
import Derived.Maps.AppendAt
import Derived.Deep.AppendLies
import Derived.OneCell
import Derived.Deep.QuietTactic
import Derived.BigQuiet
import Derived.Shelf.SlMaps.Clone
import Derived.Deep.RegionHeld3
import Derived.Deep.DrawnRows
import Derived.Test.YtpkojcfdkkjmcaaGreatDoorso06Z
import Derived.Test.YtpkojcfdkkjmcaaGreatDoorso01Z
import Derived.Test.YtpkojcfdkkjmcaaGreatDoorso07Z
import Derived.Test.YtpkojcfdkkjmcaaGreatDoorso09Z
namespace Go.Proofs.YtpkojcfdkkjmcaaGreatDoor
set_option maxRecDepth 100000
open Go.RowKit
structure a_Mod (ks:List Nat) (w w':World):Prop where
 os:w'.os=w.os
 tape:w'.tape=w.tape
 output:w'.output=w.output
 size:w.heap.size<=w'.heap.size
 block:∀k,k<w.heap.size->k∉ks->w'.heap[k]?=w.heap[k]?
theorem a_Mod.refl (ks:List Nat) (w:World):a_Mod ks w w:=⟨rfl,rfl,rfl,Nat.le_refl _,fun _ _ _=>rfl⟩
theorem a_Mod.trans {ks ks':List Nat} {a b c:World} (h:a_Mod ks a b) (k:a_Mod ks' b c) (hs:∀x∈ks',x∈ks∨a.heap.size<=x):a_Mod ks a c:=
 ⟨k.os.trans h.os,k.tape.trans h.tape,k.output.trans h.output,Nat.le_trans h.size k.size,fun i hi hn=>
  (k.block i (Nat.lt_of_lt_of_le hi h.size) (fun hx=>by rcases hs i hx with h1 | h1;exact hn h1;omega)).trans (h.block i hi hn)⟩
theorem a_Mod.below {ks:List Nat} {w w':World} {B:Nat} (h:a_Mod ks w w') (hk:∀k∈ks,B<=k) (hB:B<=w.heap.size):Below B w w':=
 ⟨h.os,h.tape,h.output,h.size,fun k hkB=>h.block k (by omega) (fun hx=>by have:=hk k hx;omega)⟩
theorem a_Mod.ofBelow {ks:List Nat} {w w':World} (h:Below w.heap.size w w'):a_Mod ks w w':=
 ⟨h.os,h.tape,h.output,h.size,fun k hk _=>h.block k hk⟩
theorem a_Mod.grown {ks:List Nat} {a w w':World} {row:Option Nat} (h:a_Mod ks a w) (hg:w.grownBy w' row) (hr:∀k,row=some k->k∈ks∨a.heap.size<=k):a_Mod ks a w':=
 ⟨hg.os.trans h.os,hg.tape.trans h.tape,hg.output.trans h.output,Nat.le_trans h.size hg.size,fun k hk hn=>
  (hg.block k (Nat.lt_of_lt_of_le hk h.size) (fun e=>by rcases hr k e.symm with h1 | h1;exact hn h1;omega)).trans (h.block k hk hn)⟩
theorem a_Mod.alloc {ks:List Nat} {a w:World} (h:a_Mod ks a w) (o:Obj):a_Mod ks a (w.alloc o):=
 h.grown (World.grownBy_alloc w o none) (fun _ e=>by cases e)
theorem a_Mod.setCell {ks:List Nat} {a w:World} (h:a_Mod ks a w) {p:Addr} (hp:p.block∈ks∨a.heap.size<=p.block) (u:Value):a_Mod ks a (w.setCell p u):=
 ⟨h.os,h.tape,h.output,by simpa using h.size,fun k hk hn=>
  (Below.heap_setCell w p u k (fun e=>by subst e;rcases hp with h1 | h1;exact hn h1;omega)).trans (h.block k hk hn)⟩
theorem a_Mod.ofMem {ks:List Nat} {w w':World} (h:a_Mod ks w w') (ks':List Nat) (hs:∀x∈ks,x∈ks'∨w.heap.size<=x):a_Mod ks' w w':=(a_Mod.refl ks' w).trans h hs
structure Ar (T:TypeId) (w:World) (B p:Nat) (m:Int) (v:Value) (l:List Int):Prop where
 ty:T≠120
 blk:w.heap[p]?=some (.cells #[.int .i64 m,v] T (0,0))
 base:B<=p
 own:w.ownsRow B 120 1 v l.length (l.map (Value.int .u64))
 m1:1<=m
 m2:m<=65536
 len:(l.length:Int)<=m
 rng:∀x∈l,0<=x/\x<=18446744073709551615
section
variable {T:TypeId} {w:World} {B p:Nat} {m:Int} {v:Value} {l:List Int}
theorem Ar.lt (h:Ar T w B p m v l):p<w.heap.size:=lt_of_block h.blk
theorem Ar.c0 (h:Ar T w B p m v l):w.cell? ⟨p,0,none⟩=some (.int .i64 m):=by simp[World.cell?,h.blk]
theorem Ar.c1 (h:Ar T w B p m v l):w.cell? ⟨p,1,none⟩=some v:=by simp[World.cell?,h.blk]
theorem Ar.f1 (h:Ar T w B p m v l):w.frozen? ⟨p,1,none⟩=false:=by simp[World.frozen?,h.blk]
theorem Ar.val (h:Ar T w B p m v l):∃ao cap,v=.slice ao l.length cap/\l.length<=cap/\(ao=none->l=[]/\cap=0):=by
 rcases h.own.2 with⟨rfl,hn⟩ | ⟨g,cap,cur,rfl,_,_,hc,_⟩
 ·exact⟨none,0,by rw[hn],by omega,fun _=>⟨List.eq_nil_of_length_eq_zero hn,rfl⟩⟩
 ·exact⟨_,cap,rfl,hc,fun e=>by cases e⟩
theorem Ar.row (h:Ar T w B p m v l) {k:Nat} (hk:v.ownBlock=some k):B<=k/\k<w.heap.size/\k≠p:=by
 obtain⟨h1,h2⟩:=h.own.lt k hk
 refine⟨h1,h2,fun e=>?_⟩
 subst e
 have hb:=h.blk
 rcases h.own.2 with⟨rfl,hn⟩ | ⟨g,cap,cur,rfl,_,hg,_⟩
 ·simp[Value.ownBlock] at hk
 ·simp[Value.ownBlock] at hk
  subst hk
  rw[hg] at hb
  simp at hb
  exact h.ty hb.2.symm
end
def a_foot (p:Nat) (v:Value):List Nat:=p::v.ownBlock.toList
theorem a_mem_foot {p k:Nat} {v:Value}:k∈a_foot p v↔k=p∨v.ownBlock=some k:=by simp[a_foot]
theorem Ar.keep {T:TypeId} {w w':World} {B p:Nat} {m:Int} {v:Value} {l:List Int} {ks:List Nat} (h:Ar T w B p m v l) (hm:a_Mod ks w w') (hk:∀k∈ks,k∉a_foot p v):Ar T w' B p m v l:=by
 refine⟨h.ty,?_,h.base,?_,h.m1,h.m2,h.len,h.rng⟩
 ·rw[hm.block p h.lt (fun hx=>hk p hx (a_mem_foot.2 (Or.inl rfl)))];exact h.blk
 ·refine⟨h.own.1,?_⟩
  rcases h.own.2 with h0 | ⟨g,cap,cur,rfl,hb,hg,rest⟩
  ·exact Or.inl h0
  ·refine Or.inr ⟨g,cap,cur,rfl,hb,?_,rest⟩
   rw[hm.block g (lt_of_block hg) (fun hx=>hk g hx (a_mem_foot.2 (Or.inr rfl)))];exact hg
theorem Ar.below {T:TypeId} {w w':World} {B p:Nat} {m:Int} {v:Value} {l:List Int} (h:Ar T w B p m v l) (hm:Below w.heap.size w w'):Ar T w' B p m v l:=
 h.keep (ks:=[]) (a_Mod.ofBelow hm) (fun _ hx=>by cases hx)
def a_Nx (w:World) (v v':Value):Prop:=∀k,v'.ownBlock=some k->v.ownBlock=some k∨w.heap.size<=k
theorem a_Nx.refl (w:World) (v:Value):a_Nx w v v:=fun _ h=>Or.inl h
theorem a_Nx.trans {w w1:World} {v v1 v2:Value} (h:a_Nx w v v1) (h1:a_Nx w1 v1 v2) (hs:w.heap.size<=w1.heap.size):a_Nx w v v2:=fun k hk=>by
 rcases h1 k hk with h2 | h2
 ·exact h k h2
 ·exact Or.inr (by omega)
structure a_Upd (T:TypeId) (w w':World) (B p:Nat) (m:Int) (v:Value) (l':List Int) (v':Value):Prop where
 ar:Ar T w' B p m v' l'
 mod:a_Mod (a_foot p v) w w'
 nx:a_Nx w v v'
theorem a_Upd.trans {T:TypeId} {w w1 w2:World} {B p:Nat} {m:Int} {v v1 v2:Value} {l1 l2:List Int} (h:a_Upd T w w1 B p m v l1 v1) (k:a_Upd T w1 w2 B p m v1 l2 v2):a_Upd T w w2 B p m v l2 v2:=
 ⟨k.ar,h.mod.trans k.mod (fun x hx=>by
  rcases a_mem_foot.1 hx with rfl | hx
  ·exact Or.inl (a_mem_foot.2 (Or.inl rfl))
  ·rcases h.nx x hx with h1 | h1
   ·exact Or.inl (a_mem_foot.2 (Or.inr h1))
   ·exact Or.inr h1),h.nx.trans k.nx h.mod.size⟩
theorem a_Upd.same {T:TypeId} {w w':World} {B p:Nat} {m:Int} {v:Value} {l:List Int} (h:Ar T w B p m v l) (hb:Below w.heap.size w w'):a_Upd T w w' B p m v l v:=
 ⟨h.below hb,a_Mod.ofBelow hb,a_Nx.refl _ _⟩
theorem a_Upd.refl {T:TypeId} {w:World} {B p:Nat} {m:Int} {v:Value} {l:List Int} (h:Ar T w B p m v l):a_Upd T w w B p m v l v:=a_Upd.same h (Below.refl _ _)
def faultAtObj (c a:Int):Obj:=.cells #[.int .i64 c,.int .i64 a,.string ⟨#[]⟩,.nilIface] 133
theorem a_below_alloc (w:World) (o:Obj):Below w.heap.size w (w.alloc o):=(Below.refl _ _).alloc (Nat.le_refl _) o
end Go.Proofs.YtpkojcfdkkjmcaaGreatDoor
namespace Go.Proofs.YtpkojcfdkkjmcaaGreatDoor
set_option maxRecDepth 100000
open Go.RowKit
def tellsB (n:Int):Bool:=decide (n % 8=0∨n % 8=3∨n % 8=5)
def mayB (n t:Int):Bool:=goodB n && (!tellsB n || decide (valOf n<t))
set_option maxHeartbeats 400000 in
theorem afault_any (c a:Int) (w:World) :
  Calls Tryz.prog 84 #[.int .i64 c,.int .i64 a] w fun e w'=>e=.returned (.iface 130 (.pointer (some ⟨w.heap.size,0,none⟩)))/\w'=w.alloc (faultAtObj c a):=by
 go_enter Tryz.func84,Tryz.ntmps84
 go_wp2
 go_ret
 exact⟨rfl,rfl⟩
set_option maxHeartbeats 1000000 in
theorem may_any (n t:Int) (w:World) (h0:0<=n) (h1:n<=18446744073709551615) :
  Calls Tryz.prog 139 #[.int .u64 n,.int .i64 t] w fun e w'=>e=.returned (.bool (mayB n t))/\w'=w:=by
 by_cases hg:goodB n=true
 ·by_cases ht:n % 8=0∨n % 8=3∨n % 8=5
  ·have hB:Hid (mayB n t=decide (valOf n<t)):=by simp[Hid,mayB,hg,tellsB,ht]
   go_enter Tryz.func139,Tryz.ntmps139
   go_wp2_with (first | (go_at_call 168;refine (place_yes _ _ h0 h1 hg ht).mono ?_;rintro e w' ⟨rfl,rfl⟩) | (go_at_call 169;refine (w_good_any _ _ h0 h1).mono ?_;rintro e w' ⟨rfl,rfl⟩))
   go_ret
   exact⟨w_ret_bool hB.out.symm,rfl⟩
  ·have hB:Hid (mayB n t=true):=by simp[Hid,mayB,hg,tellsB,ht]
   have ht':goodB n=false∨(n % 8≠0/\n % 8≠3/\n % 8≠5):=Or.inr (by omega)
   have HT:Hid (goodB n=false∨(n % 8≠0/\n % 8≠3/\n % 8≠5)):=ht'
   clear ht ht'
   go_enter Tryz.func139,Tryz.ntmps139
   go_wp2_with (first | (go_at_call 168;refine (place_no _ _ h0 h1 HT.out).mono ?_;rintro e w' ⟨rfl,rfl⟩) | (go_at_call 169;refine (w_good_any _ _ h0 h1).mono ?_;rintro e w' ⟨rfl,rfl⟩))
   go_ret
   exact⟨w_ret_bool hB.out.symm,rfl⟩
 ·have hg':goodB n=false:=by simpa using hg
  have hB:Hid (mayB n t=false):=by simp[Hid,mayB,hg']
  clear hg
  go_enter Tryz.func139,Tryz.ntmps139
  go_wp2_with (first | (go_at_call 168;refine (place_no _ _ h0 h1 (Or.inl hg')).mono ?_;rintro e w' ⟨rfl,rfl⟩) | (go_at_call 169;refine (w_good_any _ _ h0 h1).mono ?_;rintro e w' ⟨rfl,rfl⟩))
  go_ret
  exact⟨w_ret_bool hB.out.symm,rfl⟩
set_option maxHeartbeats 400000 in
theorem fresh_any (n:Int) (w:World) (h0:0<=n) (h1:n<65536) :
  Calls Tryz.prog 92 #[.int .i64 n] w fun e w'=>e=.returned (.int .u64 (8*n))/\w'=w:=by
 have hf:fitsB 0 n=true:=by simp[fitsB];omega
 have HW:Hid (wordOf 0 n=8*n):=by show _=_;unfold wordOf;omega
 go_enter Tryz.func92,Tryz.ntmps92
 go_wp2_with (go_at_call 133;refine (pack_ok _ _ _ hf).mono ?_;rintro e w' ⟨rfl,rfl⟩)
 go_ret
 exact⟨w_ret_int HW.out,rfl⟩
set_option maxHeartbeats 400000 in
theorem new_ok (m:Int) (w:World) (B:Nat) (hB:B<=w.heap.size) (h1:1<=m) (h2:m<=65536) :
  Calls Tryz.prog 39 #[.int .i64 m] w fun e w'=>e=.returned (.tuple #[.pointer (some ⟨w.heap.size,0,none⟩),.nilIface])/\Ar 153 w' B w.heap.size m (.slice none 0 0) []/\Below w.heap.size w w':=by
 go_enter Tryz.func39,Tryz.ntmps39
 go_wp2
 go_ret2
 exact⟨rfl,⟨by decide,heap_alloc_new w _,hB,World.ownsRow_nil _ _ _ _,h1,h2,by simp;omega,by simp⟩,a_below_alloc _ _⟩
set_option maxHeartbeats 400000 in
theorem top_any {w:World} {B p:Nat} {m:Int} {v:Value} {l:List Int} (h:Ar 153 w B p m v l) :
  Calls Tryz.prog 64 #[.pointer (some ⟨p,0,none⟩)] w fun e w'=>e=.returned (.int .i64 (l.length:Int))/\w'=w:=by
 obtain⟨ao,cap,rfl,_⟩:=h.val
 have c1:=h.c1
 go_enter Tryz.func64,Tryz.ntmps64
 go_wp2
 go_ret
 exact⟨rfl,rfl⟩
def inB (n k:Int):Bool:=decide (0<=n/\n<k)
set_option maxHeartbeats 400000 in
theorem holds_any {w:World} {B p:Nat} {m:Int} {v:Value} {l:List Int} (h:Ar 153 w B p m v l) (n:Int) :
  Calls Tryz.prog 138 #[.pointer (some ⟨p,0,none⟩),.int .i64 n] w fun e w'=>e=.returned (.bool (inB n l.length))/\w'=w:=by
 by_cases hn:0<=n
 ·go_enter Tryz.func138,Tryz.ntmps138
  go_wp2_with (go_at_call 64;refine (top_any h).mono ?_;rintro e w' ⟨rfl,rfl⟩)
  go_ret
  exact⟨w_ret_bool (by simp[inB,hn]),rfl⟩
 ·have hB:Hid (inB n l.length=false):=by show _=_;simp[inB];omega
  go_enter Tryz.func138,Tryz.ntmps138
  go_wp2_with (go_at_call 64;refine (top_any h).mono ?_;rintro e w' ⟨rfl,rfl⟩)
  go_ret
  exact⟨w_ret_bool hB.out.symm,rfl⟩
end Go.Proofs.YtpkojcfdkkjmcaaGreatDoor
namespace Go.Proofs.YtpkojcfdkkjmcaaGreatDoor
set_option maxRecDepth 100000
open Go.RowKit
def wdN (l:List Int) (k:Nat):Int:=l.getD k 0
def tgN (l:List Int) (k:Nat):Int:=wdN l k % 8
def vlN (l:List Int) (k:Nat):Nat:=(valOf (wdN l k)).toNat
def hdN (l:List Int) (k:Nat):Prop:=tgN l k=4∨tgN l k=5
def arN' (l:List Int) (k:Nat):Nat:=vlN l k % 16
structure Snd (l:List Int) (V:Nat->Bool):Prop where
 good:∀k,k<l.length->goodB (wdN l k)=true
 rng:∀x∈l,0<=x/\x<=18446744073709551615
 ref:∀k,k<l.length->tgN l k=0->vlN l k<l.length/\V (vlN l k)=true/\(V k=true->vlN l k<=k)
 own:∀k,k<l.length->V k=true->¬hdN l k
 str:∀k,k<l.length->tgN l k=3->vlN l k<l.length/\hdN l (vlN l k)
 fwd:∀k,k<l.length->tgN l k=5->vlN l k<k/\hdN l (vlN l k)
 args:∀k,k<l.length->tgN l k=4->k+arN' l k<l.length/\∀i,1<=i->i<=arN' l k->¬hdN l (k+i)
def rkN (l:List Int) (V:Nat->Bool) (k:Nat):Nat:=if tgN l k=4∨tgN l k=5 then k else if V k=true then l.length+k else 2*l.length
def nxN (l:List Int) (k:Nat):Option Nat:=
 if tgN l k=0 then (if vlN l k=k then none else some (vlN l k)) else if tgN l k=3∨tgN l k=5 then some (vlN l k) else none
def endW (l:List Int) (k:Nat):Int:=if tgN l k=4 then wordOf 3 k else wdN l k
def trmF (l:List Int):Nat->Nat->Int
 | 0,k=>endW l k
 | f+1,k=>match nxN l k with
  | none=>endW l k
  | some j=>trmF l f j
theorem nx_rk {l:List Int} {V:Nat->Bool} (h:Snd l V) {k j:Nat} (hk:k<l.length) (e:nxN l k=some j):j<l.length/\rkN l V j<rkN l V k:=by
 unfold nxN at e
 by_cases h0:tgN l k=0
 ·rw[if_pos h0] at e
  by_cases h1:vlN l k=k
  ·rw[if_pos h1] at e
   cases e
  ·rw[if_neg h1] at e
   injection e with e
   obtain⟨r1,r2,r3⟩:=h.ref k hk h0
   rw[e] at r1 r2 r3 h1
   refine⟨r1,?_⟩
   have nj:¬(tgN l j=4∨tgN l j=5):=h.own j r1 r2
   have nk:¬(tgN l k=4∨tgN l k=5):=by omega
   unfold rkN
   rw[if_neg nj,if_neg nk,if_pos r2]
   by_cases hV:V k=true
   ·rw[if_pos hV]
    have:=r3 hV
    omega
   ·rw[if_neg hV]
    omega
 ·rw[if_neg h0] at e
  by_cases h1:tgN l k=3∨tgN l k=5
  ·rw[if_pos h1] at e
   injection e with e
   rcases h1 with h1 | h1
   ·obtain⟨r1,r2⟩:=h.str k hk h1
    rw[e] at r1 r2
    refine⟨r1,?_⟩
    have nk:¬(tgN l k=4∨tgN l k=5):=by omega
    unfold rkN
    rw[if_pos (show tgN l j=4∨tgN l j=5 from r2),if_neg nk]
    split <;> omega
   ·obtain⟨r1,r2⟩:=h.fwd k hk h1
    rw[e] at r1 r2
    refine⟨by omega,?_⟩
    unfold rkN
    rw[if_pos (show tgN l j=4∨tgN l j=5 from r2),if_pos (Or.inr h1)]
    exact r1
  ·rw[if_neg h1] at e
   cases e
theorem trm_more {l:List Int} {V:Nat->Bool} (h:Snd l V):∀(f k:Nat),k<l.length->rkN l V k<f->∀g,f<=g->trmF l g k=trmF l f k
 | 0,_,_,hf,_,_=>absurd hf (Nat.not_lt_zero _)
 | f+1,k,hk,hf,g,hg=>by
  obtain⟨g,rfl⟩:∃g',g=g'+1:=⟨g-1,by omega⟩
  show (match nxN l k with | none=>endW l k | some j=>trmF l g j)=(match nxN l k with | none=>endW l k | some j=>trmF l f j)
  cases e:nxN l k with
  | none=>rfl
  | some j=>
   obtain⟨h1,h2⟩:=nx_rk h hk e
   exact trm_more h f j h1 (by omega) g (by omega)
def trmW (l:List Int) (k:Nat):Int:=trmF l (2*l.length+1) k
theorem rk_le {l:List Int} {V:Nat->Bool} {k:Nat} (hk:k<l.length):rkN l V k<=2*l.length:=by
 unfold rkN
 split
 ·omega
 ·split <;> omega
theorem trm_next {l:List Int} {V:Nat->Bool} (h:Snd l V) {k j:Nat} (hk:k<l.length) (e:nxN l k=some j):trmW l k=trmW l j:=by
 obtain⟨h1,h2⟩:=nx_rk h hk e
 have h3:=rk_le (V:=V) hk
 have h4:trmW l k=trmF l (2*l.length) j:=by
  unfold trmW
  show (match nxN l k with | none=>endW l k | some j=>trmF l (2*l.length) j)=_
  rw[e]
 rw[h4]
 exact ((trm_more h (2*l.length) j h1 (by omega) (2*l.length+1) (by omega))).symm
theorem trm_end {l:List Int} {k:Nat} (e:nxN l k=none):trmW l k=endW l k:=by
 unfold trmW
 show (match nxN l k with | none=>endW l k | some j=>trmF l (2*l.length) j)=_
 rw[e]
end Go.Proofs.YtpkojcfdkkjmcaaGreatDoor
namespace Go.Proofs.YtpkojcfdkkjmcaaGreatDoor
set_option maxRecDepth 100000
open Go.RowKit
section
variable {w:World} {B p:Nat} {m:Int} {v:Value} {l:List Int}
theorem Ar.form {T:TypeId} (h:Ar T w B p m v l) {k:Nat} (hk:k<l.length):∃g cap,v=.slice (some ⟨g,0,none⟩) l.length cap/\l.length<=cap/\g<w.heap.size/\g≠p/\B<=g/\w.cell? ⟨g,k,none⟩=some (.int .u64 (l.getD k 0))/\w.frozen? ⟨g,k,none⟩=false:=by
 obtain⟨g,cap,rfl,hb,hg⟩:=h.own.form (by omega)
 have hr:=h.row (k:=g) rfl
 obtain⟨ao,cap',he,hc,_⟩:=h.val
 simp at he
 refine⟨g,cap,rfl,by rw[he.2];exact hc,hg,hr.2.2,hb,?_,h.own.frozenAt k⟩
 rw[h.own.cellAt k (by omega)]
 simp[List.getD,List.getElem?_eq_getElem hk]
set_option maxHeartbeats 400000 in
theorem load_ok (h:Ar 153 w B p m v l) (k:Nat) (hk:k<l.length) :
  Calls Tryz.prog 140 #[.pointer (some ⟨p,0,none⟩),.int .i64 (k:Int)] w fun e w'=>e=.returned (.tuple #[.int .u64 (l.getD k 0),.nilIface])/\w'=w:=by
 obtain⟨g,cap,rfl,hcap,hg,hne,_,hc,_⟩:=h.form hk
 have c1:=h.c1
 have hi:inB (k:Int) l.length=true:=by simp[inB];omega
 have hk':(k:Int)<(l.length:Int):=by omega
 go_enter Tryz.func140,Tryz.ntmps140
 go_wp2_with (go_at_call 138;refine (holds_any h _).mono ?_;rintro e w' ⟨rfl,rfl⟩)
 go_ret2
 exact⟨ret_pair (by simp[List.getD,hk]),rfl⟩
set_option maxHeartbeats 400000 in
theorem load_no (h:Ar 153 w B p m v l) (n:Int) (hi:inB n l.length=false) :
  Calls Tryz.prog 140 #[.pointer (some ⟨p,0,none⟩),.int .i64 n] w fun e w'=>e=.returned (.tuple #[.int .u64 0,.iface 130 (.pointer (some ⟨w.heap.size,0,none⟩))])/\w'=w.alloc (faultAtObj 23 n):=by
 go_enter Tryz.func140,Tryz.ntmps140
 go_wp2_with (first | (go_at_call 138;refine (holds_any h _).mono ?_;rintro e w' ⟨rfl,rfl⟩) | (go_at_call 84;refine (afault_any _ _ _).mono ?_;rintro e w' ⟨rfl,rfl⟩))
 go_ret2
 exact⟨rfl,rfl⟩
theorem set_rng {l:List Int} (h:∀x∈l,0<=x/\x<=18446744073709551615) (k:Nat) (u:Int) (hu:0<=u/\u<=18446744073709551615):∀x∈l.set k u,0<=x/\x<=18446744073709551615:=fun x hx=>by
 rcases List.mem_or_eq_of_mem_set hx with h1 | rfl
 ·exact h x h1
 ·exact hu
theorem Ar.stored {T:TypeId} {g cap:Nat} (h:Ar T w B p m (.slice (some ⟨g,0,none⟩) l.length cap) l) (k:Nat) (u:Int) (hu:0<=u/\u<=18446744073709551615) :
  a_Upd T w (w.setCell ⟨g,k,none⟩ (.int .u64 u)) B p m (.slice (some ⟨g,0,none⟩) l.length cap) (l.set k u) (.slice (some ⟨g,0,none⟩) l.length cap):=by
 have hr:=h.row (k:=g) rfl
 obtain⟨h1,_⟩:=h.own.stored k (.int .u64 u)
 refine⟨⟨h.ty,?_,h.base,?_,h.m1,h.m2,by simpa using h.len,set_rng h.rng k u hu⟩,(a_Mod.refl _ w).setCell (p:=⟨g,k,none⟩) (Or.inl (a_mem_foot.2 (Or.inr rfl))) _,a_Nx.refl _ _⟩
 ·rw[Below.heap_setCell w ⟨g,k,none⟩ _ p (by simpa using hr.2.2.symm)];exact h.blk
 ·rw[List.map_set,List.length_set];exact h1
set_option maxHeartbeats 400000 in
theorem store_ok (h:Ar 153 w B p m v l) (k:Nat) (u:Int) (hk:k<l.length) (u0:0<=u) (u1:u<=18446744073709551615) (hm:mayB u l.length=true) :
  Calls Tryz.prog 102 #[.pointer (some ⟨p,0,none⟩),.int .i64 (k:Int),.int .u64 u] w fun e w'=>e=.returned .nilIface/\a_Upd 153 w w' B p m v (l.set k u) v:=by
 obtain⟨g,cap,rfl,hcap,hg,hne,_,hc,hf⟩:=h.form hk
 have c1:=h.c1
 have hi:inB (k:Int) l.length=true:=by simp[inB];omega
 have hk':(k:Int)<(l.length:Int):=by omega
 go_enter Tryz.func102,Tryz.ntmps102
 go_wp2_with (first | (go_at_call 138;refine (holds_any h _).mono ?_;rintro e w' ⟨rfl,rfl⟩) | (go_at_call 64;refine (top_any h).mono ?_;rintro e w' ⟨rfl,rfl⟩) | (go_at_call 139;refine (may_any _ _ _ u0 u1).mono ?_;rintro e w' ⟨rfl,rfl⟩))
 go_ret
 exact⟨rfl,h.stored k u ⟨u0,u1⟩⟩
end
end Go.Proofs.YtpkojcfdkkjmcaaGreatDoor
namespace Go.Proofs.YtpkojcfdkkjmcaaGreatDoor
set_option maxRecDepth 100000
open Go.RowKit
abbrev blkV (p:Nat):Value:=.agg #[.pointer (some ⟨p,0,none⟩)]
def cellB (l:List Int) (n:Int):Bool:=inB n l.length && decide (l.getD n.toNat 0 % 8≠4) && decide (l.getD n.toNat 0 % 8≠5)
section
variable {w:World} {B p:Nat} {m:Int} {v:Value} {l:List Int}
set_option maxHeartbeats 800000 in
theorem bword_ok (h:Ar 153 w B p m v l) (k:Nat) (hk:k<l.length) :
  Calls Tryz.prog 145 #[blkV p,.int .i64 (k:Int)] w fun e w'=>e=.returned (.int .u64 (l.getD k 0))/\Below w.heap.size w w':=by
 have hb:=hid (below_alloc w (.cells #[.pointer (some ⟨p,0,none⟩)] 92))
 have hld:=hid (load_ok (h.below hb.out) k hk)
 generalize l.getD k 0=x at *
 clear h hk
 go_enter Tryz.func145,Tryz.ntmps145
 go_wp2_with (go_at_call 140;refine hld.out.mono ?_;rintro e w1 ⟨rfl,rfl⟩)
 go_ret
 exact⟨rfl,hb.out⟩
set_option maxHeartbeats 800000 in
theorem iscell_any (h:Ar 153 w B p m v l) (n:Int) :
  Calls Tryz.prog 104 #[blkV p,.int .i64 n] w fun e w'=>e=.returned (.bool (cellB l n))/\Below w.heap.size w w':=by
 have hb:=hid (below_alloc w (.cells #[.pointer (some ⟨p,0,none⟩)] 92))
 by_cases hi:inB n l.length=true
 ·have hn:0<=n/\n<(l.length:Int):=by simpa[inB] using hi
  obtain⟨k,rfl⟩:∃k:Nat,n=(k:Int):=⟨n.toNat,by omega⟩
  have hk:k<l.length:=by omega
  have hld:=hid (load_ok (h.below hb.out) k hk)
  have hr:=h.rng (l.getD k 0) (by simp[List.getD,hk])
  have hc:Hid (cellB l (k:Int)=(decide (l.getD k 0 % 8≠4) && decide (l.getD k 0 % 8≠5))):=show _=_ by
   unfold cellB
   rw[hi,Bool.true_and,Int.toNat_natCast]
  generalize cellB l (k:Int)=C at *
  generalize l.getD k 0=x at *
  have htg:=hid (fun w=>tag_any x w hr.1 hr.2)
  clear hi hn hk h
  by_cases h4:x % 8=4
  ·have hC:Hid (C=false):=show _=_ by rw[hc.out];simp[h4]
   have d0:(x % 8 != 4)=false:=by simp[h4]
   clear hc
   generalize x % 8=y at *
   go_enter Tryz.func104,Tryz.ntmps104
   go_wp2_with (first
    | (go_at_call 140;refine hld.out.mono ?_;rintro e w1 ⟨rfl,rfl⟩)
    | (go_at_call 141;refine (htg.out _).mono ?_;rintro e w1 ⟨rfl,rfl⟩))
   go_ret
   exact⟨ret_bool hC.out.symm,hb.out⟩
  ·by_cases h5:x % 8=5
   ·have hC:Hid (C=false):=show _=_ by rw[hc.out];simp[h5]
    have d0:(x % 8 != 4)=true:=by simp[h4]
    have d1:(x % 8 != 5)=false:=by simp[h5]
    clear hc
    generalize x % 8=y at *
    go_enter Tryz.func104,Tryz.ntmps104
    go_wp2_with (first
     | (go_at_call 140;refine hld.out.mono ?_;rintro e w1 ⟨rfl,rfl⟩)
     | (go_at_call 141;refine (htg.out _).mono ?_;rintro e w1 ⟨rfl,rfl⟩))
    go_ret
    exact⟨ret_bool hC.out.symm,hb.out⟩
   ·have hC:Hid (C=true):=show _=_ by rw[hc.out];simp[h4,h5]
    have d0:(x % 8 != 4)=true:=by simp[h4]
    have d1:(x % 8 != 5)=true:=by simp[h5]
    clear hc
    generalize x % 8=y at *
    go_enter Tryz.func104,Tryz.ntmps104
    go_wp2_with (first
     | (go_at_call 140;refine hld.out.mono ?_;rintro e w1 ⟨rfl,rfl⟩)
     | (go_at_call 141;refine (htg.out _).mono ?_;rintro e w1 ⟨rfl,rfl⟩))
    go_ret
    exact⟨ret_bool hC.out.symm,hb.out⟩
 ·have hi':inB n l.length=false:=by simpa using hi
  have hld:=hid (load_no (h.below hb.out) n hi')
  have hC:Hid (cellB l n=false):=show _=_ by unfold cellB;rw[hi',Bool.false_and,Bool.false_and]
  have hb2:=hid (hb.out.alloc (by simp) (faultAtObj 23 n))
  clear h hi hi'
  go_enter Tryz.func104,Tryz.ntmps104
  go_wp2_with (go_at_call 140;refine hld.out.mono ?_;rintro e w1 ⟨rfl,rfl⟩)
  go_ret
  exact⟨ret_bool hC.out.symm,hb2.out⟩
end
set_option maxHeartbeats 400000 in
theorem packed_ok (a b:Int) (w:World) (hf:fitsB a b=true) :
  Calls Tryz.prog 134 #[.int .i64 a,.int .i64 b] w fun e w'=>e=.returned (.int .u64 (wordOf a b))/\w'=w:=by
 go_enter Tryz.func134,Tryz.ntmps134
 go_wp2_with (go_at_call 133;refine (pack_ok a b _ hf).mono ?_;rintro e w' ⟨rfl,rfl⟩)
 go_ret
 exact⟨rfl,rfl⟩
set_option maxHeartbeats 400000 in
theorem cfault_any (c a:Int) (w:World) :
  Calls Tryz.prog 42 #[.int .i64 c,.int .i64 a] w fun e w'=>e=.returned (.iface 130 (.pointer (some ⟨w.heap.size,0,none⟩)))/\w'=w.alloc (faultAtObj c a):=by
 go_enter Tryz.func42,Tryz.ntmps42
 go_wp2
 go_ret
 exact⟨rfl,rfl⟩
end Go.Proofs.YtpkojcfdkkjmcaaGreatDoor
namespace Go.Proofs.YtpkojcfdkkjmcaaGreatDoor
set_option maxRecDepth 100000
open Go.RowKit
theorem Tryz.infoU:(Tryz.prog.info? 120).map (fun i=>(i.zero,i.size,i.bytes))=some (some (.int .u64 0),1,8):=by kernel_rfl
end Go.Proofs.YtpkojcfdkkjmcaaGreatDoor
namespace Go.Proofs.YtpkojcfdkkjmcaaGreatDoor
set_option maxRecDepth 100000
open Go.RowKit Go.Maps
def mcRen:Go.Shelf.Ren:=⟨fun n=>if n=5 then 129 else 164,fun n=>if n=23 then 156 else if n=25 then 9 else n,fun n=>n⟩
theorem mcLays:SlLaysW.n5 Tryz.prog mcRen:=
 ⟨(by kernel_rfl),⟨Tryz.f129.name,(by kernel_rfl),(by kernel_rfl)⟩,(by kernel_rfl),(by kernel_rfl),(fun _=>by kernel_rfl),(fun _=>by kernel_rfl),(fun _=>by kernel_rfl),(by kernel_rfl),(fun _=>by kernel_rfl),(fun _=>by kernel_rfl),
  (fun _=>by kernel_rfl),(by kernel_rfl),(fun _=>by kernel_rfl),(fun _=>by kernel_rfl),(fun _=>by kernel_rfl)⟩
theorem mclone_any {w:World} {q n:Nat} {D:DataW Unit} (h:w.ownsMap Tryz.prog 9 (plainElem Tryz.prog 3) q n D) :
  Calls Tryz.prog 129 #[.map (some q)] w fun e w'=>e=.returned (.map (some w.heap.size))/\w'.ownsMap Tryz.prog 9 (plainElem Tryz.prog 3) w.heap.size n D/\Below w.heap.size w w':=
 (AnyW.maps_Clone_owns mcLays 9 (plainElem Tryz.prog 3) q n D w h).mono fun _ _ ⟨h1,h2,_,h4⟩=>⟨h1,h2,h4⟩
theorem strs_one (l:List ByteArray):∀u∈l.map Value.string,u.oneCell'=true:=fun u hu=>by
 obtain⟨s,_,rfl⟩:=List.mem_map.1 hu
 simp[Value.oneCell']
theorem slice_nil_in {P:Program} (w:World) (d:Nat) (t:TypeId) {e:TypeId} (h:P.underlying t=some (.slice e)) (ao:Option Addr) (n c:Nat):(Op.equalIn (d+1) t (.slice ao n c) (.slice none 0 0)).run P w=.ok ao.isNone w:=by
 cases ao <;> simp[Op.equalIn,run_underlying h]
theorem slice_nil (w:World) (ao:Option Addr) (n c:Nat):(binOp .eql 44 (.slice ao n c) (.slice none 0 0)).run Tryz.prog w=.ok (.bool ao.isNone) w:=by
 simp only[binOp]
 simp[show Op.equal 44 (.slice ao n c) (.slice none 0 0)=Op.equalIn (9999+1) 44 (.slice ao n c) (.slice none 0 0) from rfl,slice_nil_in w 9999 44 Tryz.underlying44]
set_option maxHeartbeats 1000000 in
theorem slclone_any {w:World} {B:Nat} {v:Value} {l:List ByteArray} (h:w.ownsRow B 9 1 v l.length (l.map Value.string)) (hl:l.length<=1024) :
  Calls Tryz.prog 128 #[v] w fun e w'=>∃v',e=.returned v'/\w'.ownsRow w.heap.size 9 1 v' l.length (l.map Value.string)/\Below w.heap.size w w':=by
 obtain⟨i0,hi,hz0,hz1,hz2⟩:=info_parts infoS
 have h0:=h
 rcases h.2 with⟨rfl,hn⟩ | ⟨g,cap,cur,rfl,_⟩
 ·have hl0:l=[]:=List.eq_nil_of_length_eq_zero hn
  subst hl0
  have hsn:=fun w:World=>slice_nil w none 0 0
  go_enter Tryz.func128,Tryz.ntmps128
  go_wp2
  go_ret
  exact⟨_,rfl,World.ownsRow_nil _ _ _ _,Below.refl _ _⟩
 ·have hnews:∀j u,(l.map Value.string)[j]?=some u->(w.alloc (.cells #[] 9)).cell? ((⟨g,0,none⟩:Addr).add j)=some u:=fun j u hj=>by
   exact ((h0.alloc (.cells #[] 9)).cells (g:=g) rfl) j u hj
  have hown:(w.alloc (.cells #[] 9)).ownsRow w.heap.size 9 1 (.slice (some ⟨w.heap.size,0,none⟩) 0 0) 0 []:=⟨rfl,Or.inr ⟨w.heap.size,0,#[],rfl,Nat.le_refl _,heap_alloc_new w _,Nat.le_refl _,Nat.zero_le _,rfl,rfl⟩⟩
  have hsn:=fun w:World=>slice_nil w (some ⟨g,0,none⟩) l.length cap
  clear h h0
  go_enter Tryz.func128,Tryz.ntmps128
  go_wp2_with (at_builtin;refine wpList_append_own _ rfl _ _ 44 rfl w.heap.size 9 i0 (.string ⟨#[]⟩) 1 16 Tryz.underlying44 hi hz0 hz1 hz2 rfl (by decide) (.slice (some ⟨w.heap.size,0,none⟩) 0 0) 0 [] rfl hown ⟨g,0,none⟩ l.length cap (l.map Value.string) rfl (by simp) hnews (strs_one l) (by unfold maxLen;omega) (by omega) (by simp) ?_;intro v' w1 hown' hgrow _)
  go_ret
  refine⟨v',rfl,by simpa using hown',?_⟩
  exact (n_below_alloc w _).grown hgrow (by simp) (fun k e=>by
   have e':k=w.heap.size:=by simpa[Value.ownBlock] using e.symm
   omega)
theorem map_below {w w':World} {q n:Nat} {D:DataW Unit} (h:w.ownsMap Tryz.prog 9 (plainElem Tryz.prog 3) q n D) (hm:Below w.heap.size w w'):w'.ownsMap Tryz.prog 9 (plainElem Tryz.prog 3) q n D:=map_keep (ks:=[]) h (n_Mod.ofBelow hm) (by simp)
theorem n_undr {w w':World} (h:Below w.drew.heap.size w.drew w'):Below w.heap.size w w':=⟨h.os,h.tape,h.output,h.size,h.block⟩
theorem copy_tb {w w3:World} {B B1 B2 p q q':Nat} {v v':Value} {l:List ByteArray} {D:DataW Unit} (h:Tb w B p v q l) (ho:w3.ownsRow B1 9 1 v' l.length (l.map Value.string)) (hm:w3.ownsMap Tryz.prog 9 (plainElem Tryz.prog 3) q' l.length D) (hO:MapOf l D) (h1:B2<=B1) (h2:B2<=q') (h3:B2<=w3.heap.size) :
  Tb (w3.alloc (.cells #[v',.map (some q')] 158)) B2 w3.heap.size v' q' l:=
 ⟨heap_alloc_new w3 _,h3,n_own_base (n_own_below ho (n_below_alloc _ _)) h1,h2,⟨D,hm.alloc _,hO⟩,h.len,h.good,h.nodup⟩
set_option maxHeartbeats 2000000 in
theorem copy_any {w:World} {B p q:Nat} {v:Value} {l:List ByteArray} (h:Tb w B p v q l) :
  Calls Tryz.prog 88 #[.pointer (some ⟨p,0,none⟩)] w fun e w'=>∃p' v' q',e=.returned (.pointer (some ⟨p',0,none⟩))/\Tb w' w.heap.size p' v' q' l/\Below w.heap.size w w':=by
 have c0:=h.c0
 have c1:=h.c1
 have hlen:=h.len
 obtain⟨D,hD,hO⟩:=h.map
 have hown:=h.own
 obtain⟨ao,c,rfl⟩:=own_shape hown
 have hp:=h.lt
 have hb:Below w.heap.size w w:=Below.refl _ _
 go_enter Tryz.func88,Tryz.ntmps88
 go_wp2
 go_region_held3 (fun w'=>w'.cell? ⟨p,0,none⟩=some (.slice ao l.length c)/\w'.cell? ⟨p,1,none⟩=some (.map (some q))) (first | exact⟨c0,c1⟩ | go_keep)
  (first
   | (go_at_call 128;refine Calls.mono (slclone_any (B:=B) (by exact hown) hlen) ?_;rintro e w4 ⟨v',rfl,ho,hN⟩;(try replace hN:=n_undr hN);replace c0:=(hN.cell (p:=⟨p,0,none⟩) (Nat.lt_of_lt_of_le hp hb.size)).trans c0;replace c1:=(hN.cell (p:=⟨p,1,none⟩) (Nat.lt_of_lt_of_le hp hb.size)).trans c1;have z4:=hb.size;replace hb:=hb.trans (hN.mono z4);(try replace hD:=map_below hD hN);(try replace hm:=map_below hm hN);obtain⟨ao',c',rfl⟩:=own_shape ho)
   | (go_at_call 129;refine Calls.mono (mclone_any (n:=l.length) (D:=D) (by exact hD)) ?_;rintro e w5 ⟨rfl,hm,hN⟩;(try replace hN:=n_undr hN);replace c0:=(hN.cell (p:=⟨p,0,none⟩) (Nat.lt_of_lt_of_le hp hb.size)).trans c0;replace c1:=(hN.cell (p:=⟨p,1,none⟩) (Nat.lt_of_lt_of_le hp hb.size)).trans c1;have z5:=hb.size;replace hb:=hb.trans (hN.mono z5);(try replace hown:=n_own_below hown hN);(try replace ho:=n_own_below ho hN)))
 all_goals go_wp2
 all_goals go_ret
 all_goals exact⟨_,_,_,rfl,copy_tb h ho hm hO (by first | omega | (simp;done) | (simp;omega)) (by first | omega | (simp;done) | (simp;omega)) hb.size,hb.alloc hb.size _⟩
end Go.Proofs.YtpkojcfdkkjmcaaGreatDoor
namespace Go.Proofs.YtpkojcfdkkjmcaaGreatDoor
set_option maxRecDepth 100000
open Go.RowKit
theorem Ri.shape {w:World} {v:Value} {l:List Int} (h:Ri w v l):∃ao n c,v=.slice ao n c:=by
 obtain⟨ao,c,rfl,_⟩:=h
 exact⟨_,_,_,rfl⟩
structure Fits (g:Gf):Prop where
 nodes:g.nodes.length<=5000
 roots:g.roots.length<=5000
 args:∀n∈g.nodes,n.args.length<=5000
theorem same_eg:∀args w,(callFunc 78 args).run Tryz.prog w=.ok (.enter 78 args) w:=enters_of Tryz.func78 (by kernel_rfl) rfl
set_option maxHeartbeats 2000000 in
theorem equal_nodes {W:World} {u v:Value} {l m:List Nd} (hu:Rn W u l) (hv:Rn W v m) (hl:l.length<=5000) (ha:∀n∈l,n.args.length<=5000) :
  Calls Tryz.prog 77 #[u,v,.func (.func 78) #[] #[]] W fun e w'=>e=.returned (.bool (eqNds l m))/\Below W.heap.size W w':=by
 obtain⟨ua,uc,rfl,hu⟩:=hu
 obtain⟨va,vc,rfl,hv⟩:=hv
 have eg:=same_eg
 by_cases hlen:l.length=m.length
 ·rw[←hlen]
  have hlm:=hid hlen
  clear hlen
  go_enter Tryz.func77,Tryz.ntmps77
  go_wp2
  go_loopw [17] (fun i wr=>∃k:Nat,k<=l.length/\i=.int .i64 k/\Hid (Below W.heap.size W wr)/\Hid (∀j,j<k->l.getD j nd0=m.getD j nd0)) (fun i _=>l.length-(intOf i).toNat)
  case atStart=>exact⟨0,Nat.zero_le _,rfl,Below.refl _ _,fun j hj=>absurd hj (Nat.not_lt_zero _)⟩
  case round=>
   obtain⟨k,hk,rfl,hb,hp⟩:=hrel
   by_cases hlt:k<l.length
   ·obtain⟨ub,uo,uav,rfl,hcu⟩:=hu k hlt
    obtain⟨vb,vo,vav,rfl,hcv⟩:=hv k (by rw[←hlm.out];exact hlt)
    obtain⟨p0,p1,p2,p3,hA⟩:=hcu.below hb.out
    obtain⟨q0,q1,q2,q3,hB⟩:=hcv.below hb.out
    have hlp:=lt_of_cell p0
    have hlq:=lt_of_cell q0
    obtain⟨ax,ay,az,rfl⟩:=hA.shape
    obtain⟨bx,bz,bw,rfl⟩:=hB.shape
    have hcall:∀w1:World,Below wr.heap.size wr w1->_:=fun w1 hb=>sameNode_any (W:=w1) (a:=l.getD k nd0) (b:=m.getD k nd0) (hA.below hb) (hB.below hb) (ha _ (by simp[List.getD,hlt]))
    have hb2:∀o1 o2:Obj,Below wr.heap.size wr ((wr.alloc o1).alloc o2):=fun o1 o2=>(below_alloc wr _).alloc (by simp) _
    by_cases he:l.getD k nd0=m.getD k nd0
    ·have hp':Hid (∀j,j<k+1->l.getD j nd0=m.getD j nd0):=fun j hj=>by
      rcases Nat.lt_or_eq_of_le (Nat.le_of_lt_succ hj) with h | h
      ·exact hp.out j h
      ·subst h;exact he
     rw[eqNd_yes he] at hcall
     generalize l.getD k nd0=x at p0 p1 p2 p3 hcall
     generalize m.getD k nd0=y at q0 q1 q2 q3 hcall
     obtain⟨xk,xs,xn,xl⟩:=x
     obtain⟨yk,ys,yn,yl⟩:=y
     dsimp only at p0 p1 p2 p3 q0 q1 q2 q3 hcall
     clear hcu hcv hu hv he hp hA hB ha
     go_wp2_with (go_at_call 78;refine (hcall _ (hb2 _ _)).mono ?_;rintro e w1 ⟨rfl,hb1⟩)
     go_roundw
     case rel=>exact⟨k+1,by omega,congrArg (Value.int .i64) (by omega),Below.next (Below.next hb.out (hb2 _ _)) hb1,hp'⟩
     case measure=>simp[intOf];omega
    ·have hF:=hid (show eqNds l m=false from eqNds_no (fun e=>he (by rw[e])))
     rw[eqNd_no he] at hcall
     clear he
     generalize l.getD k nd0=x at p0 p1 p2 p3 hcall
     generalize m.getD k nd0=y at q0 q1 q2 q3 hcall
     obtain⟨xk,xs,xn,xl⟩:=x
     obtain⟨yk,ys,yn,yl⟩:=y
     dsimp only at p0 p1 p2 p3 q0 q1 q2 q3 hcall
     clear hcu hcv hu hv hp hA hB ha
     go_wp2_with (go_at_call 78;refine (hcall _ (hb2 _ _)).mono ?_;rintro e w1 ⟨rfl,hb1⟩)
     go_ret
     exact⟨ret_bool hF.out.symm,Below.next (Below.next hb.out (hb2 _ _)) hb1⟩
   ·have hT:=hid (show eqNds l m=true from eqNds_yes (nds_ext hlm.out (fun j hj=>hp.out j (by omega))))
    clear hu hv hp
    go_wp2
    go_ret
    exact⟨ret_bool hT.out.symm,hb.out⟩
 ·have hF:=hid (show eqNds l m=false from eqNds_no (fun e=>hlen (by rw[e])))
  have hln:((l.length:Int) == (m.length:Int))=false:=by simpa using (by omega:¬(l.length:Int)=(m.length:Int))
  clear hu hv
  go_enter Tryz.func77,Tryz.ntmps77
  go_wp2
  go_ret
  exact⟨ret_bool hF.out.symm,Below.refl _ _⟩
theorem gf_eq (a b:Gf):eqG a b=(eqNds a.nodes b.nodes && decide (a.roots=b.roots)):=rfl
set_option maxHeartbeats 2000000 in
theorem same_any {W:World} {nv rv mv sv:Value} {g h:Gf} (hG:Gr W nv rv g) (hH:Gr W mv sv h) (hF:Fits g) :
  Calls Tryz.prog 36 #[.agg #[nv,rv],.agg #[mv,sv]] W fun e w'=>e=.returned (.bool (eqG g h))/\Below W.heap.size W w':=by
 have hb2:Below W.heap.size W ((W.alloc (.cells #[nv,rv] 38)).alloc (.cells #[mv,sv] 38)):=(below_alloc W _).alloc (by simp) _
 have hN:=equal_nodes (hG.1.below hb2) (hH.1.below hb2) hF.nodes hF.args
 have hI:∀w1:World,Below ((W.alloc (.cells #[nv,rv] 38)).alloc (.cells #[mv,sv] 38)).heap.size ((W.alloc (.cells #[nv,rv] 38)).alloc (.cells #[mv,sv] 38)) w1->
   (w1.cell? ⟨W.heap.size,1,none⟩=some rv/\w1.cell? ⟨W.heap.size+1,1,none⟩=some sv)/\Calls Tryz.prog 79 #[rv,sv] w1 fun e w'=>e=.returned (.bool (decide (g.roots=h.roots)))/\Below w1.heap.size w1 w':=fun w1 hb=>
  ⟨⟨by rw[hb.cell (p:=⟨W.heap.size,1,none⟩) (by simp;omega)];simp[go_sem],by rw[hb.cell (p:=⟨W.heap.size+1,1,none⟩) (by simp)];simp[go_sem]⟩,equal_ints ((hG.2.below hb2).below hb) ((hH.2.below hb2).below hb) hF.roots⟩
 have hE:=hid (gf_eq g h)
 generalize eqG g h=R at hE ⊢
 generalize eqNds g.nodes h.nodes=r1 at hN hE
 generalize decide (g.roots=h.roots)=r2 at hI hE
 clear hG hH hF
 cases r1 with
 | true=>
  go_enter Tryz.func36,Tryz.ntmps36
  go_wp2_with (first | (go_at_call 77;refine hN.mono ?_;rintro e w1 ⟨rfl,hb1⟩;obtain⟨⟨d1,d2⟩,hI'⟩:=hI w1 hb1) | (go_at_call 79;refine hI'.mono ?_;rintro e w2 ⟨rfl,hb3⟩))
  go_ret
  exact⟨ret_bool (by rw[hE.out];rfl),Below.next (Below.next hb2 hb1) hb3⟩
 | false=>
  go_enter Tryz.func36,Tryz.ntmps36
  go_wp2_with (go_at_call 77;refine hN.mono ?_;rintro e w1 ⟨rfl,hb1⟩)
  go_ret
  exact⟨ret_bool (by rw[hE.out];rfl),Below.next hb2 hb1⟩
end Go.Proofs.YtpkojcfdkkjmcaaGreatDoor

/- Plain arithmetic of words: tags, values, which words are good. No program stands in it. -/
import Derived.IntWalk
import Derived.RowKit
import Derived.Laws.BitsLemmas
import Derived.Laws.Bits64b
import Derived.Test.YtpkojcfdkkjmcaaGreatDoorProg
import Derived.WalkKit
import Derived.WalkSpells
import Derived.WalkLawsBesides
import Derived.Laws.CopyOwn
import Derived.Laws.AppendOwnNone
import Derived.Maps.OwnSet
import Derived.Maps.AppendAt
import Derived.OneCell
namespace Go.Proofs.YtpkojcfdkkjmcaaGreatDoor
set_option maxRecDepth 100000
open Go.RowKit
theorem wraps64u (n:Int) (h₀:0<=n) (h₁:n<2 ^ 64):IntKind.u64.wrap n=n:=by
 rw[IntKind.wrap_u64];omega
theorem and7 (n:Int) (h0:0<=n) (h1:n<=18446744073709551615):bits .and .u64 n 7=n % 8:=
 bits_mask .u64 64 (by decide) wraps64u 3 (by decide) n h0 (by omega)
theorem wrap_and7 (n:Int) (h0:0<=n) (h1:n<=18446744073709551615):wrap64 (bits .and .u64 n 7)=n % 8:=by
 rw[and7 n h0 h1];unfold wrap64;omega
def valOf (n:Int):Int:=wrap64 n / 8
theorem valOf_bd (n:Int):-1152921504606846976<=valOf n/\valOf n<=1152921504606846975:=by
 unfold valOf wrap64;omega
theorem valOf_back (n:Int) (h0:0<=n) (h1:n<=18446744073709551615):(valOf n*8+n % 8) % 18446744073709551616=n:=by
 unfold valOf wrap64;omega
def fitsB (t v:Int):Bool:=
 if t=0∨t=3∨t=5 then decide (0<=v/\v<65536)
 else if t=1 then decide (0<=v/\v<1024)
 else if t=2 then decide (-1125899906842624<=v/\v<=1125899906842624)
 else if t=4 then decide (0<=v/\v / 16<1024/\1<=v % 16/\v % 16<=8)
 else false
def goodB (n:Int):Bool:=fitsB (n % 8) (valOf n)
def funB (a k:Int):Bool:=decide (0<=a/\a<1024/\1<=k/\k<=8)
def wordOf (t v:Int):Int:=(v*8+t) % 18446744073709551616
theorem wordOf_bd (t v:Int):0<=wordOf t v/\wordOf t v<=18446744073709551615:=by unfold wordOf;omega
theorem fits_tag (t v:Int) (h:fitsB t v=true):0<=t/\t<=5:=by
 unfold fitsB at h;(repeat' split at h) <;> first | omega | (simp at h)
theorem fits_bd (t v:Int) (h:fitsB t v=true):-1125899906842624<=v/\v<=1125899906842624:=by
 unfold fitsB at h;(repeat' split at h) <;> simp at h <;> omega
theorem wordOf_tag (t v:Int) (h0:0<=t) (h1:t<=7):wordOf t v % 8=t:=by unfold wordOf;omega
theorem wordOf_val (t v:Int) (h:fitsB t v=true):valOf (wordOf t v)=v:=by
 have:=fits_tag t v h;have:=fits_bd t v h
 unfold valOf wordOf wrap64;omega
theorem wordOf_good (t v:Int) (h:fitsB t v=true):goodB (wordOf t v)=true:=by
 have h':=fits_tag t v h
 unfold goodB;rw[wordOf_tag t v (by omega) (by omega),wordOf_val t v h,h]
theorem wordOf_back (n:Int) (h0:0<=n) (h1:n<=18446744073709551615):wordOf (n % 8) (valOf n)=n:=valOf_back n h0 h1
end Go.Proofs.YtpkojcfdkkjmcaaGreatDoor
namespace Go.Proofs.YtpkojcfdkkjmcaaGreatDoor
set_option maxRecDepth 100000
open Go.RowKit Go.Maps
theorem n_ret_bool {a b:Bool} (h:a=b):Ending.returned (.bool a)=.returned (.bool b):=by rw[h]
structure n_Mod (ks:List Nat) (w w':World):Prop where
 os:w'.os=w.os
 tape:w'.tape=w.tape
 output:w'.output=w.output
 size:w.heap.size<=w'.heap.size
 block:∀k,k<w.heap.size->k∉ks->w'.heap[k]?=w.heap[k]?
theorem n_Mod.refl (ks:List Nat) (w:World):n_Mod ks w w:=⟨rfl,rfl,rfl,Nat.le_refl _,fun _ _ _=>rfl⟩
theorem n_Mod.trans {ks ks':List Nat} {a b c:World} (h:n_Mod ks a b) (k:n_Mod ks' b c) (hs:∀x∈ks',x∈ks∨a.heap.size<=x):n_Mod ks a c:=
 ⟨k.os.trans h.os,k.tape.trans h.tape,k.output.trans h.output,Nat.le_trans h.size k.size,fun i hi hn=>
  (k.block i (Nat.lt_of_lt_of_le hi h.size) (fun hx=>by rcases hs i hx with h1 | h1;exact hn h1;omega)).trans (h.block i hi hn)⟩
theorem n_Mod.below {ks:List Nat} {w w':World} {B:Nat} (h:n_Mod ks w w') (hk:∀k∈ks,B<=k) (hB:B<=w.heap.size):Below B w w':=
 ⟨h.os,h.tape,h.output,h.size,fun k hkB=>h.block k (by omega) (fun hx=>by have:=hk k hx;omega)⟩
theorem n_Mod.ofBelow {ks:List Nat} {w w':World} (h:Below w.heap.size w w'):n_Mod ks w w':=
 ⟨h.os,h.tape,h.output,h.size,fun k hk _=>h.block k hk⟩
theorem n_Mod.grown {ks:List Nat} {a w w':World} {row:Option Nat} (h:n_Mod ks a w) (hg:w.grownBy w' row) (hr:∀k,row=some k->k∈ks∨a.heap.size<=k):n_Mod ks a w':=
 ⟨hg.os.trans h.os,hg.tape.trans h.tape,hg.output.trans h.output,Nat.le_trans h.size hg.size,fun k hk hn=>
  (hg.block k (Nat.lt_of_lt_of_le hk h.size) (fun e=>by rcases hr k e.symm with h1 | h1;exact hn h1;omega)).trans (h.block k hk hn)⟩
theorem n_Mod.alloc {ks:List Nat} {a w:World} (h:n_Mod ks a w) (o:Obj):n_Mod ks a (w.alloc o):=
 h.grown (World.grownBy_alloc w o none) (fun _ e=>by cases e)
theorem n_Mod.setCell {ks:List Nat} {a w:World} (h:n_Mod ks a w) {p:Addr} (hp:p.block∈ks∨a.heap.size<=p.block) (u:Value):n_Mod ks a (w.setCell p u):=
 ⟨h.os,h.tape,h.output,by simpa using h.size,fun k hk hn=>
  (Below.heap_setCell w p u k (fun e=>by subst e;rcases hp with h1 | h1;exact hn h1;omega)).trans (h.block k hk hn)⟩
theorem n_Mod.cell {ks:List Nat} {w w':World} (h:n_Mod ks w w') {k o:Nat} (hk:k<w.heap.size) (hn:k∉ks):w'.cell? ⟨k,o,none⟩=w.cell? ⟨k,o,none⟩:=
 World.cell?_of_block (w:=w) (a:=⟨k,o,none⟩) (h.block k hk hn)
def n_goodS (s:ByteArray):Bool:=decide (1<=s.size) && decide (s.size<=32) && s.data.toList.all (fun b=>decide (33<=b.toNat) && decide (b.toNat<=126))
theorem n_goodS_size {s:ByteArray} (h:n_goodS s=true):1<=s.size/\s.size<=32:=by
 simp only[n_goodS,Bool.and_eq_true,decide_eq_true_eq] at h
 exact h.1
theorem n_lt_of_cell {w:World} {b o:Nat} {u:Value} (h:w.cell? ⟨b,o,none⟩=some u):b<w.heap.size:=World.block_lt_of_cell? w ⟨b,o,none⟩ h
def Value.n_inBlock:Value->Option Nat
 | .slice (some a) _ _=>some a.block
 | _=>none
def Rs (w:World) (v:Value) (l:List ByteArray):Prop:=
 (v=.slice none 0 0/\l=[])∨(∃a c,v=.slice (some a) 0 c/\l=[])∨∃b o c,v=.slice (some ⟨b,o,none⟩) l.length c/\∀j,j<l.length->w.cell? ⟨b,o+j,none⟩=some (.string (l.getD j ⟨#[]⟩))
theorem Rs.keep {w w':World} {v:Value} {l:List ByteArray} {ks:List Nat} (h:Rs w v l) (hm:n_Mod ks w w') (hk:∀k∈ks,Value.n_inBlock v≠some k):Rs w' v l:=by
 rcases h with h0 | h0 | ⟨b,o,c,rfl,hc⟩
 ·exact Or.inl h0
 ·exact Or.inr (Or.inl h0)
 ·refine Or.inr (Or.inr ⟨b,o,c,rfl,fun j hj=>?_⟩)
  rw[hm.cell (n_lt_of_cell (hc j hj)) (fun hx=>hk b hx rfl)]
  exact hc j hj
theorem Rs.ofOwn {w:World} {B:Nat} {v:Value} {l:List ByteArray} (h:w.ownsRow B 9 1 v l.length (l.map Value.string)):Rs w v l:=by
 have h0:=h
 rcases h.2 with⟨rfl,hn⟩ | ⟨g,cap,cur,rfl,_⟩
 ·exact Or.inl ⟨rfl,List.eq_nil_of_length_eq_zero hn⟩
 ·refine Or.inr (Or.inr ⟨g,0,cap,rfl,fun j hj=>?_⟩)
  rw[Nat.zero_add,h0.cellAt j (by omega)]
  simp[List.getD,List.getElem?_eq_getElem hj]
theorem n_own_base {w:World} {B B':Nat} {e:TypeId} {v:Value} {n:Nat} {xs:List Value} (h:w.ownsRow B e 1 v n xs) (hB:B'<=B):w.ownsRow B' e 1 v n xs:=by
 refine⟨h.1,?_⟩
 rcases h.2 with h0 | ⟨g,cap,cur,rfl,hb,rest⟩
 ·exact Or.inl h0
 ·exact Or.inr ⟨g,cap,cur,rfl,by omega,rest⟩
theorem own_keep {w w':World} {B:Nat} {e:TypeId} {v:Value} {n:Nat} {xs:List Value} {ks:List Nat} (h:w.ownsRow B e 1 v n xs) (hm:n_Mod ks w w') (hk:∀k∈ks,v.ownBlock≠some k):w'.ownsRow B e 1 v n xs:=by
 refine⟨h.1,?_⟩
 rcases h.2 with h0 | ⟨g,cap,cur,rfl,hb,hg,rest⟩
 ·exact Or.inl h0
 ·exact Or.inr ⟨g,cap,cur,rfl,hb,by rw[hm.block g (lt_of_block hg) (fun hx=>hk g hx rfl)];exact hg,rest⟩
theorem map_keep {w w':World} {q n:Nat} {D:DataW Unit} {ks:List Nat} (h:w.ownsMap Tryz.prog 9 (plainElem Tryz.prog 3) q n D) (hm:n_Mod ks w w') (hk:q∉ks):w'.ownsMap Tryz.prog 9 (plainElem Tryz.prog 3) q n D:=by
 obtain⟨es,clock,hb,rest⟩:=h
 exact⟨es,clock,by rw[hm.block q (lt_of_block hb) hk];exact hb,rest⟩
def inL (l:List ByteArray) (s:ByteArray):Bool:=l.any (fun x=>decide (x=s))
theorem inL_iff {l:List ByteArray} {s:ByteArray}:inL l s=true↔s∈l:=by simp[inL]
theorem inL_snoc (l:List ByteArray) (s x:ByteArray):inL (l++[s]) x=(inL l x || decide (s=x)):=by simp[inL]
def idx:List ByteArray->ByteArray->Nat
 | [],_=>0
 | x::r,s=>if x=s then 0 else idx r s+1
def num (l:List ByteArray) (s:ByteArray):Nat:=if inL l s=true then idx l s else 0
theorem idx_new:∀{l:List ByteArray} {s:ByteArray},inL l s=false->idx (l++[s]) s=l.length
 | [],s,_=>by simp[idx]
 | x::r,s,h=>by
  simp only[inL,List.any_cons,Bool.or_eq_false_iff,decide_eq_false_iff_not] at h
  simp only[List.cons_append,idx,if_neg h.1,List.length_cons]
  rw[idx_new (l:=r) (s:=s) h.2]
theorem idx_old:∀{l:List ByteArray} {s x:ByteArray},inL l x=true->idx (l++[s]) x=idx l x
 | [],s,x,h=>by simp[inL] at h
 | y::r,s,x,h=>by
  by_cases e:y=x
  ·simp[idx,e]
  ·simp only[inL,List.any_cons,e,decide_false,Bool.false_or] at h
   simp only[List.cons_append,idx,if_neg e]
   rw[idx_old (l:=r) (s:=s) (x:=x) h]
theorem idx_lt:∀{l:List ByteArray} {s:ByteArray},inL l s=true->idx l s<l.length
 | [],s,h=>by simp[inL] at h
 | y::r,s,h=>by
  by_cases e:y=s
  ·simp[idx,e]
  ·simp only[inL,List.any_cons,e,decide_false,Bool.false_or] at h
   have:=idx_lt (l:=r) (s:=s) h
   simp only[idx,if_neg e,List.length_cons]
   omega
theorem idx_at:∀{l:List ByteArray} {s:ByteArray},inL l s=true->l.getD (idx l s) ⟨#[]⟩=s
 | [],s,h=>by simp[inL] at h
 | y::r,s,h=>by
  by_cases e:y=s
  ·simp[idx,e]
  ·simp only[inL,List.any_cons,e,decide_false,Bool.false_or] at h
   have:=idx_at (l:=r) (s:=s) h
   simp only[idx,if_neg e]
   simpa using this
def MapOf (l:List ByteArray) (D:DataW Unit):Prop:=
 (∀s:ByteArray,Maps.has D (.string s.data.toList)=inL l s)/\∀s:ByteArray,D.atKey (.string s.data.toList) (.lit (.int .i64 0))=.lit (.int .i64 (num l s:Int))
theorem key_ne {s s':ByteArray} (h:s'≠s):Lit.string s'.data.toList≠Lit.string s.data.toList:=fun e=>h (by
 have e':s'.data.toList=s.data.toList:=by injection e
 exact ByteArray.ext (Array.toList_inj.1 e'))
theorem key_is (s:ByteArray):WideAt.IsKeyLit (.string s.data.toList):=trivial
theorem mapOf_nil:MapOf [] (.map []):=⟨fun s=>by simp[Maps.has,inL],fun s=>by simp[num,inL];rfl⟩
theorem num_new {l:List ByteArray} {s:ByteArray} (h:inL l s=false):num (l++[s]) s=l.length:=by
 unfold num
 rw[if_pos (by simp[inL_snoc]),idx_new h]
theorem num_old {l:List ByteArray} {s x:ByteArray} (h:s≠x):num (l++[s]) x=num l x:=by
 unfold num
 rw[inL_snoc]
 cases hx:inL l x with
 | true=>simp[idx_old hx]
 | false=>simp[h]
theorem mapOf_put {l:List ByteArray} {s:ByteArray} {D:DataW Unit} (h:MapOf l D) (hD:Maps.IsMap D) (hs:inL l s=false):MapOf (l++[s]) (D.put (.string s.data.toList) (.lit (.int .i64 (l.length:Int)))):=by
 refine⟨fun x=>?_,fun x=>?_⟩
 ·rw[inL_snoc]
  by_cases e:x=s
  ·subst e
   rw[Maps.has_put_same hD (key_is x)]
   simp
  ·rw[Maps.has_put_other (key_ne e),h.1]
   rw[decide_eq_false (fun h:s=x=>e h.symm),Bool.or_false]
 ·by_cases e:x=s
  ·subst e
   rw[Maps.atKey_put_same hD (key_is x),num_new hs]
  ·rw[Maps.atKey_put_other (key_ne e),h.2,num_old (fun h:s=x=>e h.symm)]
theorem num_lt {l:List ByteArray} {s:ByteArray} (h:inL l s=true):num l s<l.length:=by
 unfold num
 rw[if_pos h]
 exact idx_lt h
theorem num_at {l:List ByteArray} {s:ByteArray} (h:inL l s=true):l.getD (num l s) ⟨#[]⟩=s:=by
 unfold num
 rw[if_pos h]
 exact idx_at h
structure Tb (w:World) (B p:Nat) (v:Value) (q:Nat) (l:List ByteArray):Prop where
 blk:w.heap[p]?=some (.cells #[v,.map (some q)] 158 (0,0))
 base:B<=p
 own:w.ownsRow B 9 1 v l.length (l.map Value.string)
 mbase:B<=q
 map:∃D,w.ownsMap Tryz.prog 9 (plainElem Tryz.prog 3) q l.length D/\MapOf l D
 len:l.length<=1024
 good:∀s∈l,n_goodS s=true
 nodup:l.Nodup
def n_foot (p:Nat) (v:Value) (q:Nat):List Nat:=p::q::v.ownBlock.toList
theorem n_mem_foot {p q k:Nat} {v:Value}:k∈n_foot p v q↔k=p∨k=q∨v.ownBlock=some k:=by simp[n_foot]
section
variable {w:World} {B p q:Nat} {v:Value} {l:List ByteArray}
theorem Tb.lt (h:Tb w B p v q l):p<w.heap.size:=lt_of_block h.blk
theorem Tb.c0 (h:Tb w B p v q l):w.cell? ⟨p,0,none⟩=some v:=by simp[World.cell?,h.blk]
theorem Tb.c1 (h:Tb w B p v q l):w.cell? ⟨p,1,none⟩=some (.map (some q)):=by simp[World.cell?,h.blk]
theorem Tb.rs (h:Tb w B p v q l):Rs w v l:=Rs.ofOwn h.own
theorem Tb.mlt (h:Tb w B p v q l):q<w.heap.size:=by
 obtain⟨D,hD,_⟩:=h.map
 exact hD.lt
theorem Tb.val (h:Tb w B p v q l):∃ao cap,v=.slice ao l.length cap/\l.length<=cap/\(ao=none->l=[]/\cap=0):=by
 rcases h.own.2 with⟨rfl,hn⟩ | ⟨g,cap,cur,rfl,_,_,hc,_⟩
 ·exact⟨none,0,by rw[hn],by omega,fun _=>⟨List.eq_nil_of_length_eq_zero hn,rfl⟩⟩
 ·exact⟨_,cap,rfl,hc,fun e=>by cases e⟩
theorem Tb.row (h:Tb w B p v q l) {k:Nat} (hk:v.ownBlock=some k):B<=k/\k<w.heap.size/\k≠p/\k≠q:=by
 obtain⟨h1,h2⟩:=h.own.lt k hk
 have hb:=h.blk
 obtain⟨D,⟨es,clock,hq,_⟩,_⟩:=h.map
 rcases h.own.2 with⟨rfl,hn⟩ | ⟨g,cap,cur,rfl,_,hg,_⟩
 ·simp[Value.ownBlock] at hk
 ·simp[Value.ownBlock] at hk
  subst hk
  refine⟨h1,h2,fun e=>?_,fun e=>?_⟩
  ·subst e
   rw[hg] at hb
   simp at hb
  ·subst e
   rw[hg] at hq
   simp at hq
theorem Tb.pq (h:Tb w B p v q l):p≠q:=fun e=>by
 subst e
 have hb:=h.blk
 obtain⟨D,⟨es,clock,hq,_⟩,_⟩:=h.map
 rw[hq] at hb
 simp at hb
theorem Tb.keep {w':World} {ks:List Nat} (h:Tb w B p v q l) (hm:n_Mod ks w w') (hk:∀k∈ks,k∉n_foot p v q):Tb w' B p v q l:=by
 obtain⟨D,hD,hO⟩:=h.map
 refine⟨?_,h.base,own_keep h.own hm (fun k hx e=>hk k hx (n_mem_foot.2 (Or.inr (Or.inr e)))),h.mbase,⟨D,map_keep hD hm (fun hx=>hk q hx (n_mem_foot.2 (Or.inr (Or.inl rfl)))),hO⟩,h.len,h.good,h.nodup⟩
 rw[hm.block p h.lt (fun hx=>hk p hx (n_mem_foot.2 (Or.inl rfl)))];exact h.blk
theorem Tb.below {w':World} (h:Tb w B p v q l) (hm:Below w.heap.size w w'):Tb w' B p v q l:=
 h.keep (ks:=[]) (n_Mod.ofBelow hm) (fun _ hx=>by cases hx)
theorem Tb.alloc (h:Tb w B p v q l) (o:Obj):Tb (w.alloc o) B p v q l:=
 h.keep (ks:=[]) ((n_Mod.refl [] w).alloc o) (fun _ hx=>by cases hx)
end
def n_Nx (w:World) (v v':Value):Prop:=∀k,v'.ownBlock=some k->v.ownBlock=some k∨w.heap.size<=k
structure n_Upd (w w':World) (B p:Nat) (v:Value) (q:Nat) (l':List ByteArray) (v':Value):Prop where
 tb:Tb w' B p v' q l'
 mod:n_Mod (n_foot p v q) w w'
 nx:n_Nx w v v'
theorem n_Upd.below {w w':World} {B p q:Nat} {v v':Value} {l l':List ByteArray} (h:n_Upd w w' B p v q l' v') (hA:Tb w B p v q l) (hB:B<=w.heap.size):Below B w w':=
 h.mod.below (fun k hk=>by
  rcases n_mem_foot.1 hk with rfl | rfl | hk
  ·exact hA.base
  ·exact hA.mbase
  ·exact (hA.row hk).1) hB
theorem n_below_alloc (w:World) (o:Obj):Below w.heap.size w (w.alloc o):=(Below.refl _ _).alloc (Nat.le_refl _) o
end Go.Proofs.YtpkojcfdkkjmcaaGreatDoor

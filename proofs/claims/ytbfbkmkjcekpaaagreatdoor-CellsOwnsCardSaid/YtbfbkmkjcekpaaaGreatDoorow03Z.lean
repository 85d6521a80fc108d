/- The small functions of layer 4: names, faults, and the first place at which a function says yes. -/
import Derived.Deep.QuietTactic
import Derived.BigQuiet
import Derived.Shelf.Abstract
import Derived.Test.YtbfbkmkjcekpaaaGreatDoorow00Z
namespace Go.Proofs.YtbfbkmkjcekpaaaGreatDoor
set_option maxRecDepth 100000
open Go.RowKit
theorem byte_at (s:ByteArray) (k:Nat) (h:k<s.size):s.data.toList[k]?=some s[k]:=by
 rw[List.getElem?_eq_getElem (by simpa using h)]
 rfl
theorem goodS_byte {s:ByteArray} (h:goodS s=true) (k:Nat) (hk:k<s.size):33<=(s[k].toNat:Int)/\(s[k].toNat:Int)<=126:=by
 simp only[goodS,Bool.and_eq_true,List.all_eq_true,decide_eq_true_eq] at h
 have:=h.2 s[k] (List.mem_of_getElem? (byte_at s k hk))
 omega
theorem goodS_of {s:ByteArray} (h1:1<=s.size) (h2:s.size<=32) (h:∀k (hk:k<s.size),33<=(s[k].toNat:Int)/\(s[k].toNat:Int)<=126):goodS s=true:=by
 simp only[goodS,Bool.and_eq_true,List.all_eq_true,decide_eq_true_eq]
 refine⟨⟨h1,h2⟩,fun x hx=>?_⟩
 obtain⟨k,hk,rfl⟩:=List.getElem_of_mem hx
 have hk':k<s.size:=by simpa using hk
 have:=h k hk'
 have e:s.data.toList[k]=s[k]:=rfl
 rw[e]
 omega
theorem goodS_no {s:ByteArray} (k:Nat) (hk:k<s.size) (h:¬(33<=(s[k].toNat:Int)/\(s[k].toNat:Int)<=126)):goodS s=false:=by
 cases hg:goodS s with
 | false=>rfl
 | true=>exact absurd (goodS_byte hg k hk) h
theorem goodS_short {s:ByteArray} (h:s.size<1∨32<s.size):goodS s=false:=by
 cases hg:goodS s with
 | false=>rfl
 | true=>have:=goodS_size hg;omega
set_option maxHeartbeats 1000000 in
theorem good_any (s:ByteArray) (w:World) (hs:s.size<=9223372036854775807) :
  Calls Tryz.prog 110 #[.string s] w fun e w'=>e=.returned (.bool (goodS s))/\w'=w:=by
 by_cases h1:s.size<1
 ·have hG:Hid (goodS s=false):=goodS_short (Or.inl h1)
  go_enter Tryz.func110,Tryz.ntmps110
  go_wp2
  go_ret
  exact⟨ret_bool hG.out.symm,rfl⟩
 ·by_cases h2:32<s.size
  ·have hG:Hid (goodS s=false):=goodS_short (Or.inr h2)
   go_enter Tryz.func110,Tryz.ntmps110
   go_wp2
   go_ret
   exact⟨ret_bool hG.out.symm,rfl⟩
  ·go_enter Tryz.func110,Tryz.ntmps110
   go_wp2
   go_loop [14] (fun i=>∃k:Nat,k<=s.size/\i=.int .i64 k/\Hid (∀j (hj:j<s.size),j<k->33<=(s[j].toNat:Int)/\(s[j].toNat:Int)<=126)) (fun i=>s.size-(intOf i).toNat)
   case atStart=>exact⟨0,by omega,rfl,fun j hj h0=>by omega⟩
   case round=>
    obtain⟨k,hk,rfl,hm⟩:=hrel
    by_cases hlt:k<s.size
    ·by_cases hd:33<=(s[k].toNat:Int)
     ·by_cases hd':(s[k].toNat:Int)<=126
      ·have hst:Hid (∀j (hj:j<s.size),j<k+1->33<=(s[j].toNat:Int)/\(s[j].toNat:Int)<=126):=fun j hj h0=>by
        rcases Nat.lt_or_eq_of_le (Nat.le_of_lt_succ h0) with h3 | h3
        ·exact hm.out j hj h3
        ·subst h3
         exact⟨hd,hd'⟩
       go_wp2
       exact⟨⟨k+1,by omega,congrArg (Value.int .i64) (by omega),hst⟩,by simp[intOf];omega⟩
      ·have hG:Hid (goodS s=false):=goodS_no k hlt (by omega)
       go_wp2
       go_ret
       exact⟨ret_bool hG.out.symm,rfl⟩
     ·have hG:Hid (goodS s=false):=goodS_no k hlt (by omega)
      go_wp2
      go_ret
      exact⟨ret_bool hG.out.symm,rfl⟩
    ·have hG:Hid (goodS s=true):=goodS_of (by omega) (by omega) (fun j hj=>hm.out j hj (by omega))
     go_wp2
     go_ret
     exact⟨ret_bool hG.out.symm,rfl⟩
set_option maxHeartbeats 400000 in
theorem fault_any (c a:Int) (w:World) :
  Calls Tryz.prog 98 #[.int .i64 c,.int .i64 a] w fun e w'=>e=.returned (.iface 125 (.pointer (some ⟨w.heap.size,0,none⟩)))/\w'=w.alloc (faultObj c a .nilIface):=by
 go_enter Tryz.func98,Tryz.ntmps98
 go_wp2
 go_ret
 exact⟨rfl,rfl⟩
theorem fault_er (c a:Int) (hc:c≠0) (w:World) :
  Calls Tryz.prog 98 #[.int .i64 c,.int .i64 a] w fun e w'=>(∃ev b,e=.returned ev/\ev=.iface 125 (.pointer (some ⟨b,0,none⟩))/\Er w' ev [(c,a)])/\Below w.heap.size w w':=by
 refine (fault_any c a w).mono ?_
 rintro e w' ⟨rfl,rfl⟩
 exact⟨⟨_,_,rfl,rfl,hc,_,_,rfl,heap_alloc_new w _,rfl⟩,below_alloc _ _⟩
set_option maxHeartbeats 1000000 in
theorem index_ints (f:Nat) (cb:Array Value) (eg:∀args w,(callFunc f args).run Tryz.prog w=.ok (.enter f args) w) (v:Value) (l:List Int) (p:Nat->Bool) (I T:Nat->World->Prop) (W:World) (hl:l.length<=5000)
  (hr:∀k w,I k w->Ri w v l) (hs:∀k w,k<l.length->I k w->Calls Tryz.prog f (#[.int .i64 (l.getD k 0)]++cb) w fun e w'=>e=.returned (.bool (p k))/\(p k=true->T k w')/\(p k=false->I (k+1) w')) (h0:I 0 W) :
  Calls Tryz.prog 82 #[v,.func (.func f) #[] cb] W fun e w'=>(∃k:Nat,k<l.length/\(∀j,j<k->p j=false)/\p k=true/\e=.returned (.int .i64 k)/\T k w')∨((∀j,j<l.length->p j=false)/\e=.returned (.int .i64 (-1))/\I l.length w'):=by
 obtain⟨ao,c,rfl,_⟩:=hr 0 W h0
 go_enter Tryz.func82,Tryz.ntmps82
 go_wp2
 go_loopw [5,8] (fun _ i wr=>∃k:Nat,k<=l.length/\i=.int .i64 k/\Hid (I k wr)/\Hid (∀j,j<k->p j=false)) (fun _ i _=>l.length-(intOf i).toNat)
 case atStart=>exact⟨0,Nat.zero_le _,rfl,h0,fun j hj=>absurd hj (Nat.not_lt_zero _)⟩
 case round=>
  obtain⟨k,hk,rfl,hI,hp⟩:=hrel
  by_cases hlt:k<l.length
  ·obtain⟨b,o,hc⟩:∃b o,ao=some ⟨b,o,none⟩/\wr.cell? ⟨b,o+k,none⟩=some (.int .i64 (l.getD k 0)):=by
    obtain⟨ao',c',h1,h2⟩:=hr k wr hI.out
    obtain⟨b,o,h3,h4⟩:=h2 k hlt
    injection h1 with h1 _ _
    exact⟨b,o,h1.trans h3,h4⟩
   obtain⟨rfl,hc⟩:=hc
   have hcall:=hs k wr hlt hI.out
   generalize l.getD k 0=x at hc hcall
   clear hs hr h0
   cases hq:p k with
   | true=>
    have hq':Hid (p k=true):=hq
    rw[hq] at hcall
    clear hq
    go_wp2_with (go_at_fn f;refine hcall.mono ?_;rintro e w' ⟨rfl,hT,_⟩)
    go_ret
    exact Or.inl ⟨k,hlt,hp.out,hq'.out,rfl,hT (by trivial)⟩
   | false=>
    have hq':Hid (p k=false):=hq
    rw[hq] at hcall
    clear hq
    go_wp2_with (go_at_fn f;refine hcall.mono ?_;rintro e w' ⟨rfl,_,hT⟩)
    go_roundw
    case rel=>
     refine⟨k+1,by omega,congrArg (Value.int .i64) (by omega),hT (by trivial),(show Hid _ from fun j hj=>?_)⟩
     rcases Nat.lt_or_eq_of_le (Nat.le_of_lt_succ hj) with h | h
     ·exact hp.out j h
     ·subst h;exact hq'.out
    case measure=>simp[intOf];omega
  ·have hkl:Hid (k=l.length):=show k=l.length by omega
   clear hs hr h0
   go_wp2
   go_ret
   refine Or.inr ⟨?_,rfl,?_⟩
   ·rw[←hkl.out];exact hp.out
   ·rw[←hkl.out];exact hI.out
end Go.Proofs.YtbfbkmkjcekpaaaGreatDoor
namespace Go.Proofs.YtbfbkmkjcekpaaaGreatDoor
set_option maxRecDepth 100000
open Go.RowKit
theorem len_zero (l:List Int):((l.length:Int) == 0)=decide (l=[]):=by cases l <;> simp <;> omega
set_option maxHeartbeats 400000 in
theorem contains_ints (f:Nat) (cb:Array Value) (eg:∀args w,(callFunc f args).run Tryz.prog w=.ok (.enter f args) w) (v:Value) (l:List Int) (p:Nat->Bool) (I T:Nat->World->Prop) (W:World) (hl:l.length<=5000)
  (hr:∀k w,I k w->Ri w v l) (hs:∀k w,k<l.length->I k w->Calls Tryz.prog f (#[.int .i64 (l.getD k 0)]++cb) w fun e w'=>e=.returned (.bool (p k))/\(p k=true->T k w')/\(p k=false->I (k+1) w')) (h0:I 0 W) :
  Calls Tryz.prog 139 #[v,.func (.func f) #[] cb] W fun e w'=>(∃k:Nat,k<l.length/\(∀j,j<k->p j=false)/\p k=true/\e=.returned (.bool true)/\T k w')∨((∀j,j<l.length->p j=false)/\e=.returned (.bool false)/\I l.length w'):=by
 have hc:=index_ints f cb eg v l p I T W hl hr hs h0
 clear hr hs h0
 go_enter Tryz.func139,Tryz.ntmps139
 go_wp2_with (go_at_call 82;refine hc.mono ?_;rintro e w' (⟨k,h1,h2,h3,rfl,h4⟩ | ⟨h1,rfl,h2⟩))
 ·go_ret
  exact Or.inl ⟨k,h1,h2,h3,rfl,h4⟩
 ·go_ret
  exact Or.inr ⟨h1,rfl,h2⟩
theorem index_pure (f:Nat) (cb:Array Value) (eg:∀args w,(callFunc f args).run Tryz.prog w=.ok (.enter f args) w) (v:Value) (l:List Int) (p:Int->Bool) (W:World) (hl:l.length<=5000) (hv:Ri W v l)
  (hs:∀x w,Below W.heap.size W w->Calls Tryz.prog f (#[.int .i64 x]++cb) w fun e w'=>e=.returned (.bool (p x))/\Below w.heap.size w w') :
  Calls Tryz.prog 82 #[v,.func (.func f) #[] cb] W fun e w'=>e=.returned (.int .i64 (ixOf p l))/\Below W.heap.size W w':=by
 refine (index_ints f cb eg v l (fun k=>p (l.getD k 0)) (fun _ w=>Below W.heap.size W w) (fun _ w=>Below W.heap.size W w) W hl (fun _ _ h=>hv.below h) (fun k w _ h=>?_) (Below.refl _ _)).mono ?_
 ·refine (hs (l.getD k 0) w h).mono ?_
  rintro e w' ⟨rfl,hb⟩
  exact⟨rfl,fun _=>Below.next h hb,fun _=>Below.next h hb⟩
 ·rintro e w' (⟨k,h1,h2,h3,rfl,h4⟩ | ⟨h1,rfl,h2⟩)
  ·exact⟨by rw[ixOf_hit 0 p l k h1 h2 h3],h4⟩
  ·exact⟨by rw[ixOf_miss 0 p l h1],h2⟩
theorem contains_pure (f:Nat) (cb:Array Value) (eg:∀args w,(callFunc f args).run Tryz.prog w=.ok (.enter f args) w) (v:Value) (l:List Int) (p:Int->Bool) (W:World) (hl:l.length<=5000) (hv:Ri W v l)
  (hs:∀x w,Below W.heap.size W w->Calls Tryz.prog f (#[.int .i64 x]++cb) w fun e w'=>e=.returned (.bool (p x))/\Below w.heap.size w w') :
  Calls Tryz.prog 139 #[v,.func (.func f) #[] cb] W fun e w'=>e=.returned (.bool (l.any p))/\Below W.heap.size W w':=by
 refine (contains_ints f cb eg v l (fun k=>p (l.getD k 0)) (fun _ w=>Below W.heap.size W w) (fun _ w=>Below W.heap.size W w) W hl (fun _ _ h=>hv.below h) (fun k w _ h=>?_) (Below.refl _ _)).mono ?_
 ·refine (hs (l.getD k 0) w h).mono ?_
  rintro e w' ⟨rfl,hb⟩
  exact⟨rfl,fun _=>Below.next h hb,fun _=>Below.next h hb⟩
 ·rintro e w' (⟨k,h1,h2,h3,rfl,h4⟩ | ⟨h1,rfl,h2⟩)
  ·refine⟨?_,h4⟩
   rw[←ixOf_any,ixOf_hit 0 p l k h1 h2 h3]
   simp
  ·refine⟨?_,h2⟩
   rw[←ixOf_any,ixOf_miss 0 p l h1]
   simp
theorem strange_eg:∀args w,(callFunc 99 args).run Tryz.prog w=.ok (.enter 99 args) w:=enters_of Tryz.func99 (by kernel_rfl) rfl
theorem bad_eg:∀args w,(callFunc 100 args).run Tryz.prog w=.ok (.enter 100 args) w:=enters_of Tryz.func100 (by kernel_rfl) rfl
set_option maxHeartbeats 400000 in
theorem strange_any {w:World} {B:Nat} {ao:Option Addr} {N c:Nat} (hc:w.cell? ⟨B,0,none⟩=some (.slice ao N c)) (x:Int) :
  Calls Tryz.prog 99 #[.int .i64 x,.pointer (some ⟨B,0,none⟩)] w fun e w'=>e=.returned (.bool (strange N x))/\w'=w:=by
 by_cases h0:x<0
 ·have hG:Hid (strange N x=true):=show strange N x=true by simp[strange,h0]
  go_enter Tryz.func99,Tryz.ntmps99
  go_wp2
  go_ret
  exact⟨ret_bool hG.out.symm,rfl⟩
 ·by_cases h1:(N:Int)<=x
  ·have hG:Hid (strange N x=true):=show strange N x=true by simp[strange,h1]
   go_enter Tryz.func99,Tryz.ntmps99
   go_wp2
   go_ret
   exact⟨ret_bool hG.out.symm,rfl⟩
  ·have hG:Hid (strange N x=false):=show strange N x=false by simp[strange];omega
   go_enter Tryz.func99,Tryz.ntmps99
   go_wp2
   go_ret
   exact⟨ret_bool hG.out.symm,rfl⟩
def Strange (w:World) (f:Value) (N:Nat):Prop:=∃B ao c,f=.func (.func 99) #[] #[.pointer (some ⟨B,0,none⟩)]/\w.cell? ⟨B,0,none⟩=some (.slice ao N c)
theorem Strange.below {w w':World} {f:Value} {N:Nat} (h:Strange w f N) (hb:Below w.heap.size w w'):Strange w' f N:=by
 obtain⟨B,ao,c,rfl,hc⟩:=h
 exact⟨B,ao,c,rfl,by rw[hb.cell (p:=⟨B,0,none⟩) (lt_of_cell hc)];exact hc⟩
theorem contains_strange {W:World} {f v:Value} {N:Nat} {l:List Int} (hf:Strange W f N) (hv:Ri W v l) (hl:l.length<=5000) :
  Calls Tryz.prog 139 #[v,f] W fun e w'=>e=.returned (.bool (l.any (strange N)))/\Below W.heap.size W w':=by
 obtain⟨B,ao,c,rfl,hc⟩:=hf
 refine contains_pure _ _ strange_eg v l (strange N) W hl hv (fun x w hb=>?_)
 refine (strange_any (w:=w) (by rw[hb.cell (p:=⟨B,0,none⟩) (lt_of_cell hc)];exact hc) x).mono ?_
 rintro e w' ⟨rfl,rfl⟩
 exact⟨rfl,Below.refl _ _⟩
theorem index_strange {W:World} {f v:Value} {N:Nat} {l:List Int} (hf:Strange W f N) (hv:Ri W v l) (hl:l.length<=5000) :
  Calls Tryz.prog 82 #[v,f] W fun e w'=>e=.returned (.int .i64 (ixOf (strange N) l))/\Below W.heap.size W w':=by
 obtain⟨B,ao,c,rfl,hc⟩:=hf
 refine index_pure _ _ strange_eg v l (strange N) W hl hv (fun x w hb=>?_)
 refine (strange_any (w:=w) (by rw[hb.cell (p:=⟨B,0,none⟩) (lt_of_cell hc)];exact hc) x).mono ?_
 rintro e w' ⟨rfl,rfl⟩
 exact⟨rfl,Below.refl _ _⟩
def goodAs (N:Nat) (l:List Int):Bool:=decide (1<=l.length) && decide (l.length<=8) && !l.any (strange N)
set_option maxHeartbeats 400000 in
theorem goodArgs_any {W:World} {f v:Value} {N:Nat} {l:List Int} (hf:Strange W f N) (hv:Ri W v l) :
  Calls Tryz.prog 128 #[v,f] W fun e w'=>e=.returned (.bool (goodAs N l))/\Below W.heap.size W w':=by
 have hv':=hv
 obtain⟨ao,c,rfl,_⟩:=hv'
 by_cases h1:1<=l.length
 ·by_cases h8:l.length<=8
  ·have hc:=contains_strange hf hv (by omega)
   have hG:Hid (goodAs N l = !l.any (strange N)):=show goodAs N l = !l.any (strange N) by simp[goodAs,h1,h8]
   generalize l.any (strange N)=r at hc hG
   clear hf hv
   go_enter Tryz.func128,Tryz.ntmps128
   go_wp2_with (go_at_call 139;refine hc.mono ?_;rintro e w' ⟨rfl,hb⟩)
   go_ret
   exact⟨ret_bool hG.out.symm,hb⟩
  ·have hG:Hid (goodAs N l=false):=show goodAs N l=false by simp[goodAs,h8]
   clear hf hv
   go_enter Tryz.func128,Tryz.ntmps128
   go_wp2
   go_ret
   exact⟨ret_bool hG.out.symm,Below.refl _ _⟩
 ·have hG:Hid (goodAs N l=false):=show goodAs N l=false by simp[goodAs,h1]
  clear hf hv
  go_enter Tryz.func128,Tryz.ntmps128
  go_wp2
  go_ret
  exact⟨ret_bool hG.out.symm,Below.refl _ _⟩
set_option maxHeartbeats 1000000 in
theorem goodNode_any {W:World} {f av:Value} {N:Nat} {n:Nd} (hf:Strange W f N) (hv:Ri W av n.args) (hs:n.name.size<=9223372036854775807) :
  Calls Tryz.prog 101 #[.agg #[.int .i64 n.kind,.string n.name,.int .i64 n.num,av],f] W fun e w'=>e=.returned (.bool (goodNd N n))/\Below W.heap.size W w':=by
 obtain⟨kind,name,num,args⟩:=n
 dsimp only at hv hs ⊢
 have hv':=hv
 obtain⟨ao,c,rfl,_⟩:=hv'
 by_cases k1:kind=1
 ·subst k1
  have hG:=hid (show goodNd N ⟨1,name,num,args⟩=(decide (name.toList=[]) && decide (num=0) && decide (args.length=0)) by simp[goodNd])
  clear hf hv
  go_enter Tryz.func101,Tryz.ntmps101
  go_wp2
  all_goals
   go_ret
   refine⟨ret_bool ?_,below_alloc _ _⟩
   rw[hG.out]
   first | (simp[*,len_zero];done) | (simp[*];omega)
 ·by_cases k2:kind=2
  ·subst k2
   have hG:=hid (show goodNd N ⟨2,name,num,args⟩=(goodS name && decide (num=0) && decide (args.length=0)) by simp[goodNd])
   clear hf hv k1
   go_enter Tryz.func101,Tryz.ntmps101
   go_wp2_with (go_at_call 110;refine (good_any _ _ hs).mono ?_;rintro e w ⟨rfl,rfl⟩)
   all_goals
    go_ret
    refine⟨ret_bool ?_,below_alloc _ _⟩
    rw[hG.out]
    first | (simp[*,len_zero];done) | (simp[*];omega)
  ·by_cases k3:kind=3
   ·subst k3
    have hG:=hid (show goodNd N ⟨3,name,num,args⟩=(decide (name.toList=[]) && decide (-1125899906842624<=num) && decide (num<=1125899906842624) && decide (args.length=0)) by simp[goodNd])
    clear hf hv k1 k2
    go_enter Tryz.func101,Tryz.ntmps101
    go_wp2
    all_goals
     go_ret
     refine⟨ret_bool ?_,below_alloc _ _⟩
     rw[hG.out]
     first | (simp[*,len_zero];done) | (simp[*];omega)
   ·by_cases k4:kind=4
    ·subst k4
     have hG:=hid (show goodNd N ⟨4,name,num,args⟩=(goodS name && decide (num=0) && goodAs N args) by simp[goodNd,goodAs,Bool.and_assoc])
     have hA:=goodArgs_any (W:=W.alloc (.cells #[.int .i64 4,.string name,.int .i64 num,.slice ao args.length c] 74)) (hf.below (below_alloc _ _)) (hv.below (below_alloc _ _))
     generalize goodAs N args=r at hA hG
     clear hf hv k1 k2 k3
     by_cases hn:num=0
     ·subst hn
      go_enter Tryz.func101,Tryz.ntmps101
      go_wp2_with (first | (go_at_call 110;refine (good_any _ _ hs).mono ?_;rintro e w ⟨rfl,rfl⟩) | (go_at_call 128;refine hA.mono ?_;rintro e w' ⟨rfl,hb⟩))
      ·go_ret
       refine⟨ret_bool ?_,Below.next (below_alloc _ _) hb⟩
       rw[hG.out]
       simp[*]
      ·go_ret
       refine⟨ret_bool ?_,below_alloc _ _⟩
       rw[hG.out]
       simp[*]
     ·go_enter Tryz.func101,Tryz.ntmps101
      go_wp2_with (go_at_call 110;refine (good_any _ _ hs).mono ?_;rintro e w ⟨rfl,rfl⟩)
      all_goals
       go_ret
       refine⟨ret_bool ?_,below_alloc _ _⟩
       rw[hG.out]
       simp[*]
    ·have hG:=hid (show goodNd N ⟨kind,name,num,args⟩=false by simp[goodNd,k1,k2,k3,k4])
     clear hf hv
     go_enter Tryz.func101,Tryz.ntmps101
     go_wp2
     go_ret
     exact⟨ret_bool hG.out.symm,below_alloc _ _⟩
set_option maxHeartbeats 400000 in
theorem bad_any {W:World} {f av:Value} {B N:Nat} {n:Nd} (hf:Strange W f N) (hB:W.cell? ⟨B,0,none⟩=some f) (hv:Ri W av n.args) (hs:n.name.size<=9223372036854775807) :
  Calls Tryz.prog 100 #[.agg #[.int .i64 n.kind,.string n.name,.int .i64 n.num,av],.pointer (some ⟨B,0,none⟩)] W fun e w'=>e=.returned (.bool (!goodNd N n))/\Below W.heap.size W w':=by
 have hG:=goodNode_any (W:=W.alloc (.cells #[.int .i64 n.kind,.string n.name,.int .i64 n.num,av] 74)) (hf.below (below_alloc _ _)) (hv.below (below_alloc _ _)) hs
 have hB':(W.alloc (.cells #[.int .i64 n.kind,.string n.name,.int .i64 n.num,av] 74)).cell? ⟨B,0,none⟩=some f:=by
  rw[(below_alloc W _).cell (p:=⟨B,0,none⟩) (lt_of_cell hB)];exact hB
 obtain⟨hl,_⟩:B<W.heap.size/\True:=⟨lt_of_cell hB,trivial⟩
 generalize goodNd N n=r at hG ⊢
 obtain⟨kind,name,num,args⟩:=n
 dsimp only at hG hB' ⊢
 clear hf hv hs
 go_enter Tryz.func100,Tryz.ntmps100
 go_wp2_with (go_at_call 101;refine hG.mono ?_;rintro e w' ⟨rfl,hb⟩)
 go_ret
 exact⟨rfl,Below.next (below_alloc _ _) hb⟩
end Go.Proofs.YtbfbkmkjcekpaaaGreatDoor

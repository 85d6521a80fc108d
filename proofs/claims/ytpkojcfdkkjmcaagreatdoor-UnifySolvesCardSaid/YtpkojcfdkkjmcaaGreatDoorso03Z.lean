/- What the inner functions of package word do, each at every argument: contracts, the leaves first. -/
import Derived.Test.YtpkojcfdkkjmcaaGreatDoorProg
import Derived.WalkKit
import Derived.WalkSpells
import Derived.WalkLawsBesides
import Derived.Deep.QuietTactic
import Derived.BigQuiet
import Derived.StringKeys
import Derived.Shelf.Pu.Clone
import Derived.Orders
import Derived.Test.YtpkojcfdkkjmcaaGreatDoorso00Z
import Derived.Test.YtpkojcfdkkjmcaaGreatDoorso01Z
namespace Go.Proofs.YtpkojcfdkkjmcaaGreatDoor
set_option maxRecDepth 100000
open Go.RowKit
theorem w_ret_int {k:IntKind} {a b:Int} (h:a=b):Ending.returned (.int k a)=.returned (.int k b):=by rw[h]
theorem w_ret_bool {a b:Bool} (h:a=b):Ending.returned (.bool a)=.returned (.bool b):=by rw[h]
set_option maxHeartbeats 400000 in
theorem tag_any (n:Int) (w:World) (h0:0<=n) (h1:n<=18446744073709551615) :
  Calls Tryz.prog 141 #[.int .u64 n] w fun e w'=>e=.returned (.int .i64 (n % 8))/\w'=w:=by
 go_enter Tryz.func141,Tryz.ntmps141
 go_wp2
 go_ret
 exact⟨w_ret_int (wrap_and7 n h0 h1),rfl⟩
set_option maxHeartbeats 400000 in
theorem value_any (n:Int) (w:World) :
  Calls Tryz.prog 143 #[.int .u64 n] w fun e w'=>e=.returned (.int .i64 (valOf n))/\w'=w:=by
 go_enter Tryz.func143,Tryz.ntmps143
 go_wp2
 go_ret
 exact⟨w_ret_int rfl,rfl⟩
set_option maxHeartbeats 400000 in
theorem isName_any (a:Int) (w:World) :
  Calls Tryz.prog 183 #[.int .i64 a] w fun e w'=>e=.returned (.bool (decide (0<=a/\a<1024)))/\w'=w:=by
 by_cases h:0<=a
 ·go_enter Tryz.func183,Tryz.ntmps183
  go_wp2
  go_ret
  exact⟨w_ret_bool (by simp[h]),rfl⟩
 ·go_enter Tryz.func183,Tryz.ntmps183
  go_wp2
  go_ret
  exact⟨w_ret_bool (by simp;omega),rfl⟩
set_option maxHeartbeats 400000 in
theorem isFunctor_any (a k:Int) (w:World) :
  Calls Tryz.prog 167 #[.int .i64 a,.int .i64 k] w fun e w'=>e=.returned (.bool (funB a k))/\w'=w:=by
 by_cases h:0<=a/\a<1024
 ·have hd:decide (0<=a/\a<1024)=true:=by simpa using h
  by_cases h1:1<=k
  all_goals
   go_enter Tryz.func167,Tryz.ntmps167
   go_wp2_with (go_at_call 183;refine (isName_any _ _).mono ?_;rintro e w' ⟨rfl,rfl⟩)
   go_ret
   exact⟨w_ret_bool (by unfold funB;first | (rw[decide_eq_decide];omega) | (symm;rw[decide_eq_false_iff_not];omega)),rfl⟩
 ·have hd:decide (0<=a/\a<1024)=false:=by simpa using h
  go_enter Tryz.func167,Tryz.ntmps167
  go_wp2_with (go_at_call 183;refine (isName_any _ _).mono ?_;rintro e w' ⟨rfl,rfl⟩)
  go_ret
  exact⟨w_ret_bool (by unfold funB;symm;rw[decide_eq_false_iff_not];omega),rfl⟩
set_option maxHeartbeats 400000 in
theorem w_split_any (v:Int) (w:World) (h0:0<=v) (h1:v<=9223372036854775807) :
  Calls Tryz.prog 171 #[.int .i64 v] w fun e w'=>e=.returned (.tuple #[.int .i64 (v / 16),.int .i64 (v % 16)])/\w'=w:=by
 go_enter Tryz.func171,Tryz.ntmps171
 go_wp2
 go_ret2
 exact⟨rfl,rfl⟩
set_option maxHeartbeats 400000 in
theorem split_neg (v:Int) (w:World) (h0:v<0) (h1:-9223372036854775808<=v) :
  Calls Tryz.prog 171 #[.int .i64 v] w fun e w'=>e=.returned (.tuple #[.int .i64 (v.tdiv 16),.int .i64 (v.tmod 16)])/\w'=w:=by
 go_enter Tryz.func171,Tryz.ntmps171
 go_wp2
 go_ret2
 exact⟨rfl,rfl⟩
theorem funB_split (v:Int):funB (v / 16) (v % 16)=fitsB 4 v:=by
 rw[Bool.eq_iff_iff];simp[funB,fitsB];omega
theorem funB_neg (v:Int) (h:v<0):funB (v.tdiv 16) (v.tmod 16)=fitsB 4 v:=by
 have hm:v.tmod 16 = -((-v) % 16):=by
  have:=Int.neg_tmod (-v) 16
  rw[Int.neg_neg] at this
  rw[this,Int.tmod_eq_emod_of_nonneg (by omega)]
 rw[hm,Bool.eq_iff_iff];simp[funB,fitsB];omega
set_option maxHeartbeats 400000 in
theorem fits_any (t v:Int) (w:World) (h0:-9223372036854775808<=v) (h1:v<=9223372036854775807) :
  Calls Tryz.prog 166 #[.int .i64 t,.int .i64 v] w fun e w'=>e=.returned (.bool (fitsB t v))/\w'=w:=by
 by_cases e0:t=0
 ·subst e0
  by_cases h:0<=v
  all_goals
   go_enter Tryz.func166,Tryz.ntmps166
   go_wp2
   go_ret
   exact⟨w_ret_bool (by unfold fitsB;simp;try omega),rfl⟩
 by_cases e3:t=3
 ·subst e3
  by_cases h:0<=v
  all_goals
   go_enter Tryz.func166,Tryz.ntmps166
   go_wp2
   go_ret
   exact⟨w_ret_bool (by unfold fitsB;simp;try omega),rfl⟩
 by_cases e5:t=5
 ·subst e5
  by_cases h:0<=v
  all_goals
   go_enter Tryz.func166,Tryz.ntmps166
   go_wp2
   go_ret
   exact⟨w_ret_bool (by unfold fitsB;simp;try omega),rfl⟩
 by_cases e1:t=1
 ·subst e1
  go_enter Tryz.func166,Tryz.ntmps166
  go_wp2_with (go_at_call 183;refine (isName_any _ _).mono ?_;rintro e w' ⟨rfl,rfl⟩)
  go_ret
  exact⟨w_ret_bool (by unfold fitsB;simp),rfl⟩
 by_cases e2:t=2
 ·subst e2
  by_cases h:-1125899906842624<=v
  all_goals
   go_enter Tryz.func166,Tryz.ntmps166
   go_wp2
   go_ret
   exact⟨w_ret_bool (by unfold fitsB;simp;try omega),rfl⟩
 by_cases e4:t=4
 ·subst e4
  by_cases h:0<=v
  ·have H:Hid (funB (v / 16) (v % 16)=fitsB 4 v):=funB_split v
   go_enter Tryz.func166,Tryz.ntmps166
   go_wp2_with (first | (go_at_call 171;refine (w_split_any _ _ (by omega) (by omega)).mono ?_;rintro e w' ⟨rfl,rfl⟩) | (go_at_call 167;refine (isFunctor_any _ _ _).mono ?_;rintro e w' ⟨rfl,rfl⟩))
   go_ret
   exact⟨w_ret_bool H.out,rfl⟩
  ·have H:Hid (funB (v.tdiv 16) (v.tmod 16)=fitsB 4 v):=funB_neg v (by omega)
   go_enter Tryz.func166,Tryz.ntmps166
   go_wp2_with (first | (go_at_call 171;refine (split_neg _ _ (by omega) (by omega)).mono ?_;rintro e w' ⟨rfl,rfl⟩) | (go_at_call 167;refine (isFunctor_any _ _ _).mono ?_;rintro e w' ⟨rfl,rfl⟩))
   go_ret
   exact⟨w_ret_bool H.out,rfl⟩
 have H':fitsB t v=false:=by unfold fitsB;simp[e0,e1,e2,e3,e4,e5]
 have H:Hid (fitsB t v=false):=H'
 clear H'
 have b0:(t == 0)=false:=by simpa using e0
 have b1:(t == 1)=false:=by simpa using e1
 have b2:(t == 2)=false:=by simpa using e2
 have b3:(t == 3)=false:=by simpa using e3
 have b4:(t == 4)=false:=by simpa using e4
 have b5:(t == 5)=false:=by simpa using e5
 clear e0 e1 e2 e3 e4 e5
 go_enter Tryz.func166,Tryz.ntmps166
 go_wp2
 go_ret
 exact⟨w_ret_bool H.out.symm,rfl⟩
set_option maxHeartbeats 400000 in
theorem w_good_any (n:Int) (w:World) (h0:0<=n) (h1:n<=18446744073709551615) :
  Calls Tryz.prog 169 #[.int .u64 n] w fun e w'=>e=.returned (.bool (goodB n))/\w'=w:=by
 have hb:=valOf_bd n
 go_enter Tryz.func169,Tryz.ntmps169
 go_wp2_with (first | (go_at_call 141;refine (tag_any _ _ h0 h1).mono ?_;rintro e w' ⟨rfl,rfl⟩) | (go_at_call 143;refine (value_any _ _).mono ?_;rintro e w' ⟨rfl,rfl⟩) | (go_at_call 166;refine (fits_any _ _ _ (by omega) (by omega)).mono ?_;rintro e w' ⟨rfl,rfl⟩))
 go_ret
 exact⟨w_ret_bool rfl,rfl⟩
end Go.Proofs.YtpkojcfdkkjmcaaGreatDoor
namespace Go.Proofs.YtpkojcfdkkjmcaaGreatDoor
set_option maxRecDepth 100000
open Go.RowKit
theorem fun_val (n:Int) (h:goodB n=true) (ht:n % 8=4):0<=valOf n/\valOf n / 16<1024/\1<=valOf n % 16/\valOf n % 16<=8:=by
 unfold goodB at h;rw[ht] at h;simp[fitsB] at h;omega
set_option maxHeartbeats 1000000 in
theorem place_yes (n:Int) (w:World) (h0:0<=n) (h1:n<=18446744073709551615) (h:goodB n=true) (ht:n % 8=0∨n % 8=3∨n % 8=5) :
  Calls Tryz.prog 168 #[.int .u64 n] w fun e w'=>e=.returned (.tuple #[.int .i64 (valOf n),.bool true])/\w'=w:=by
 rcases ht with ht | ht | ht
 all_goals
  go_enter Tryz.func168,Tryz.ntmps168
  go_wp2_with (first | (go_at_call 141;refine (tag_any _ _ h0 h1).mono ?_;rintro e w' ⟨rfl,rfl⟩) | (go_at_call 143;refine (value_any _ _).mono ?_;rintro e w' ⟨rfl,rfl⟩) | (go_at_call 169;refine (w_good_any _ _ h0 h1).mono ?_;rintro e w' ⟨rfl,rfl⟩))
  go_ret2
  exact⟨rfl,rfl⟩
set_option maxHeartbeats 1000000 in
theorem place_no (n:Int) (w:World) (h0:0<=n) (h1:n<=18446744073709551615) (h:goodB n=false∨(n % 8≠0/\n % 8≠3/\n % 8≠5)) :
  Calls Tryz.prog 168 #[.int .u64 n] w fun e w'=>e=.returned (.tuple #[.int .i64 0,.bool false])/\w'=w:=by
 by_cases hg:goodB n=true
 ·have ht:n % 8≠0/\n % 8≠3/\n % 8≠5:=by rw[hg] at h;simpa using h
  have b0:(n % 8 == 0)=false:=by simpa using ht.1
  have b3:(n % 8 == 3)=false:=by simpa using ht.2.1
  have b5:(n % 8 == 5)=false:=by simpa using ht.2.2
  clear h ht
  go_enter Tryz.func168,Tryz.ntmps168
  go_wp2_with (first | (go_at_call 141;refine (tag_any _ _ h0 h1).mono ?_;rintro e w' ⟨rfl,rfl⟩) | (go_at_call 143;refine (value_any _ _).mono ?_;rintro e w' ⟨rfl,rfl⟩) | (go_at_call 169;refine (w_good_any _ _ h0 h1).mono ?_;rintro e w' ⟨rfl,rfl⟩))
  go_ret2
  exact⟨rfl,rfl⟩
 ·have hg:goodB n=false:=by simpa using hg
  clear h
  go_enter Tryz.func168,Tryz.ntmps168
  go_wp2_with (first | (go_at_call 141;refine (tag_any _ _ h0 h1).mono ?_;rintro e w' ⟨rfl,rfl⟩) | (go_at_call 143;refine (value_any _ _).mono ?_;rintro e w' ⟨rfl,rfl⟩) | (go_at_call 169;refine (w_good_any _ _ h0 h1).mono ?_;rintro e w' ⟨rfl,rfl⟩))
  go_ret2
  exact⟨rfl,rfl⟩
end Go.Proofs.YtpkojcfdkkjmcaaGreatDoor
namespace Go.Proofs.YtpkojcfdkkjmcaaGreatDoor
set_option maxRecDepth 100000
open Go.RowKit Go.Maps
theorem n_byte_at (s:ByteArray) (k:Nat) (h:k<s.size):s.data.toList[k]?=some s[k]:=by
 rw[List.getElem?_eq_getElem (by simpa using h)]
 rfl
theorem n_goodS_byte {s:ByteArray} (h:n_goodS s=true) (k:Nat) (hk:k<s.size):33<=(s[k].toNat:Int)/\(s[k].toNat:Int)<=126:=by
 simp only[n_goodS,Bool.and_eq_true,List.all_eq_true,decide_eq_true_eq] at h
 have:=h.2 s[k] (List.mem_of_getElem? (n_byte_at s k hk))
 omega
theorem n_goodS_of {s:ByteArray} (h1:1<=s.size) (h2:s.size<=32) (h:∀k (hk:k<s.size),33<=(s[k].toNat:Int)/\(s[k].toNat:Int)<=126):n_goodS s=true:=by
 simp only[n_goodS,Bool.and_eq_true,List.all_eq_true,decide_eq_true_eq]
 refine⟨⟨h1,h2⟩,fun x hx=>?_⟩
 obtain⟨k,hk,rfl⟩:=List.getElem_of_mem hx
 have hk':k<s.size:=by simpa using hk
 have:=h k hk'
 have e:s.data.toList[k]=s[k]:=rfl
 rw[e]
 omega
theorem n_goodS_no {s:ByteArray} (k:Nat) (hk:k<s.size) (h:¬(33<=(s[k].toNat:Int)/\(s[k].toNat:Int)<=126)):n_goodS s=false:=by
 cases hg:n_goodS s with
 | false=>rfl
 | true=>exact absurd (n_goodS_byte hg k hk) h
theorem n_goodS_short {s:ByteArray} (h:s.size<1∨32<s.size):n_goodS s=false:=by
 cases hg:n_goodS s with
 | false=>rfl
 | true=>have:=n_goodS_size hg;omega
set_option maxHeartbeats 1000000 in
theorem n_good_any (s:ByteArray) (w:World) (hs:s.size<=281474976710656) :
  Calls Tryz.prog 112 #[.string s] w fun e w'=>e=.returned (.bool (n_goodS s))/\w'=w:=by
 by_cases h1:s.size<1
 ·have hG:Hid (n_goodS s=false):=n_goodS_short (Or.inl h1)
  go_enter Tryz.func112,Tryz.ntmps112
  go_wp2
  go_ret
  exact⟨n_ret_bool hG.out.symm,rfl⟩
 ·by_cases h2:32<s.size
  ·have hG:Hid (n_goodS s=false):=n_goodS_short (Or.inr h2)
   go_enter Tryz.func112,Tryz.ntmps112
   go_wp2
   go_ret
   exact⟨n_ret_bool hG.out.symm,rfl⟩
  ·go_enter Tryz.func112,Tryz.ntmps112
   go_wp2
   go_loop [14] (fun i=>∃k:Nat,k<=s.size/\i=.int .i64 k/\Hid (∀j (hj:j<s.size),j<k->33<=(s[j].toNat:Int)/\(s[j].toNat:Int)<=126)) (fun i=>s.size-(intOf i).toNat)
   case atStart=>exact⟨0,by omega,rfl,fun j hj h0=>by omega⟩
   case round=>
    obtain⟨k,hk,rfl,hm⟩:=hrel
    by_cases hlt:k<s.size
    ·by_cases hd:33<=(s[k].toNat:Int)
     ·by_cases hd':(s[k].toNat:Int)<=126
      ·have hst:Hid (∀j (hj:j<s.size),j<k+1->33<=(s[j].toNat:Int)/\(s[j].toNat:Int)<=126):=fun j hj h0=>by
        rcases Nat.lt_or_eq_of_le (Nat.le_of_lt_succ h0) with h3 | h3
        ·exact hm.out j hj h3
        ·subst h3
         exact⟨hd,hd'⟩
       go_wp2
       exact⟨⟨k+1,by omega,congrArg (Value.int .i64) (by omega),hst⟩,by simp[intOf];omega⟩
      ·have hG:Hid (n_goodS s=false):=n_goodS_no k hlt (by omega)
       go_wp2
       go_ret
       exact⟨n_ret_bool hG.out.symm,rfl⟩
     ·have hG:Hid (n_goodS s=false):=n_goodS_no k hlt (by omega)
      go_wp2
      go_ret
      exact⟨n_ret_bool hG.out.symm,rfl⟩
    ·have hG:Hid (n_goodS s=true):=n_goodS_of (by omega) (by omega) (fun j hj=>hm.out j hj (by omega))
     go_wp2
     go_ret
     exact⟨n_ret_bool hG.out.symm,rfl⟩
set_option maxHeartbeats 400000 in
theorem new_any (w:World) (B:Nat) (hB:B<=w.heap.size) :
  Calls Tryz.prog 41 #[] w fun e w'=>e=.returned (.pointer (some ⟨w.heap.size+1,0,none⟩))/\Tb w' B (w.heap.size+1) (.slice none 0 0) w.heap.size []/\Below w.heap.size w w':=by
 have hmm:=@run_makeMap Tryz.prog
 go_enter Tryz.func41,Tryz.ntmps41
 go_wp2
 go_ret
 have h1:=(World.ownsMap_made w Tryz.prog 9 (plainElem (H:=Unit) Tryz.prog 3))
 refine⟨by simp,⟨?_,by omega,World.ownsRow_nil _ _ _ _,hB,⟨_,h1.alloc _,mapOf_nil⟩,by simp,by simp,List.nodup_nil⟩,((Below.refl _ w).alloc (Nat.le_refl _) _).alloc (by simp) _⟩
 have:=heap_alloc_new (w.alloc (.map #[] 0)) (.cells #[.slice none 0 0,.map (some w.heap.size)] 158 (0,0))
 simpa using this
set_option maxHeartbeats 400000 in
theorem len_any {w:World} {B p q:Nat} {v:Value} {l:List ByteArray} (h:Tb w B p v q l) :
  Calls Tryz.prog 131 #[.pointer (some ⟨p,0,none⟩)] w fun e w'=>e=.returned (.int .i64 (l.length:Int))/\w'=w:=by
 obtain⟨ao,cap,rfl,_⟩:=h.val
 have c0:=h.c0
 go_enter Tryz.func131,Tryz.ntmps131
 go_wp2
 go_ret
 exact⟨rfl,rfl⟩
theorem n_zeroInt (w:World):(zeroValue 3).run Tryz.prog w=.ok (.int .i64 0) w:=by kernel_rfl
set_option maxHeartbeats 400000 in
theorem find_any {w:World} {B p q:Nat} {v:Value} {l:List ByteArray} (h:Tb w B p v q l) (s:ByteArray) (hs:s.size<=281474976710656) :
  Calls Tryz.prog 87 #[.pointer (some ⟨p,0,none⟩),.string s] w fun e w'=>e=.returned (.tuple #[.int .i64 (num l s:Int),.bool (inL l s)])/\w'=w:=by
 have c1:=h.c1
 obtain⟨D,hD,hO⟩:=h.map
 have hk:=WideMaps.keyOf_string_mk (P:=Tryz.prog) (k:=9) Tryz.underlying9 (s:=s) (by unfold maxLen;omega)
 have h1:=hO.1 s
 have h2:=hO.2 s
 clear hO h
 go_enter Tryz.func87,Tryz.ntmps87
 go_wp2_with (at_lookup;refine wpList_lookup_own_ok_int _ rfl _ _ 156 rfl 9 3 .i64 (string_keyed Tryz.underlying9) Tryz.underlying156 Tryz.underlying3 (n_zeroInt _) q l.length D rfl hD _ _ rfl hk ?_;intro c hat hwc)
 go_ret2
 rw[h2] at hat
 obtain rfl:(num l s:Int)=c:=by injection hat with e;injection e
 exact⟨rfl,rfl⟩
set_option maxHeartbeats 400000 in
theorem name_yes {w:World} {B p q:Nat} {v:Value} {l:List ByteArray} (h:Tb w B p v q l) (k:Nat) (hk:k<l.length) :
  Calls Tryz.prog 170 #[.pointer (some ⟨p,0,none⟩),.int .i64 (k:Int)] w fun e w'=>e=.returned (.tuple #[.string (l.getD k ⟨#[]⟩),.bool true])/\w'=w:=by
 have hlen:=len_any h
 have hl:=h.len
 have c0:=h.c0
 rcases h.rs with⟨rfl,rfl⟩ | ⟨a,c,rfl,rfl⟩ | ⟨b,o,c,rfl,hc⟩
 ·simp at hk
 ·simp at hk
 ·have hcx:=hc k hk
  obtain⟨x,hx⟩:∃x,x=l.getD k ⟨#[]⟩:=⟨_,rfl⟩
  rw[←hx] at hcx ⊢
  clear hx hc h
  go_enter Tryz.func170,Tryz.ntmps170
  go_wp2_with (go_at_call 131;refine hlen.mono ?_;rintro e w ⟨rfl,rfl⟩)
  go_ret2
  exact⟨rfl,rfl⟩
end Go.Proofs.YtpkojcfdkkjmcaaGreatDoor
namespace Go.Proofs.YtpkojcfdkkjmcaaGreatDoor
set_option maxRecDepth 100000
open Go.RowKit Go.Maps
def n_cloneRen:Go.Shelf.Ren:=⟨fun _=>132,fun n=>if n=37 then 260 else if n=47 then 261 else n,fun n=>n⟩
theorem n_cloneLays:LaysPu.n25 Tryz.prog n_cloneRen:=
 ⟨(by kernel_rfl),(by kernel_rfl),(by kernel_rfl),(fun _=>by kernel_rfl),(fun _=>by kernel_rfl),(fun _=>by kernel_rfl),(by kernel_rfl),(by kernel_rfl),(fun _=>by kernel_rfl),(fun _=>by kernel_rfl),
  (fun _=>by kernel_rfl),(by kernel_rfl),(by kernel_rfl),(fun _=>by kernel_rfl),(fun _=>by kernel_rfl),(fun _=>by kernel_rfl),(by kernel_rfl),(by kernel_rfl),(fun _=>by kernel_rfl),(fun _=>by kernel_rfl),
  (fun _=>by kernel_rfl),(by kernel_rfl),(by kernel_rfl),(fun _=>by kernel_rfl),(fun _=>by kernel_rfl),(fun _=>by kernel_rfl),(by kernel_rfl),(by kernel_rfl),(fun _=>by kernel_rfl),(fun _=>by kernel_rfl),
  (fun _=>by kernel_rfl),(by kernel_rfl),(by kernel_rfl),(fun _=>by kernel_rfl),(fun _=>by kernel_rfl),(fun _=>by kernel_rfl),(by kernel_rfl)⟩
theorem n_sclone_any (s:ByteArray) (w:World) (hs:s.size<=281474976710656) :
  Calls Tryz.prog 132 #[.string s] w fun e w'=>e=.returned (.string s)/\Below w.heap.size w w':=AnyPu.stringslite_Clone n_cloneLays s w hs
set_option maxHeartbeats 400000 in
theorem n_clone_any (s:ByteArray) (w:World) (hs:s.size<=281474976710656) :
  Calls Tryz.prog 90 #[.string s] w fun e w'=>e=.returned (.string s)/\Below w.heap.size w w':=by
 go_enter Tryz.func90,Tryz.ntmps90
 go_wp2_with (go_at_call 132;refine (n_sclone_any _ _ hs).mono ?_;rintro e w1 ⟨rfl,hb⟩)
 go_ret
 exact⟨rfl,hb⟩
theorem infoS:(Tryz.prog.info? 9).map (fun i=>(i.zero,i.size,i.bytes))=some (some (.string ⟨#[]⟩),1,16):=by kernel_rfl
theorem n_run_append_still {w:World} {B:Nat} {v:Value} {l:List ByteArray} (ty:TypeId) (hown:w.ownsRow B 9 1 v l.length (l.map Value.string)) (ad:Addr) (c:Nat) (s:ByteArray)
  (hnews:∀j u,[Value.string s][j]?=some u->w.cell? (ad.add j)=some u) (hl:l.length<=5000) (hB:B<=w.heap.size) :
  ∃g cap w',(Builtin.append_ #[44,44] ty #[v,.slice (some ad) 1 c]).run Tryz.prog w=.ok (.slice (some ⟨g,0,none⟩) (l.length+1) cap) w'/\
   w'.ownsRow B 9 1 (.slice (some ⟨g,0,none⟩) (l.length+1) cap) (l.length+1) ((l++[s]).map Value.string)/\w.grownBy w' v.ownBlock/\(v.ownBlock=some g∨(g=w.heap.size/\w.grownBy w' none)):=by
 obtain⟨i0,hi,hz0,hz1,hz2⟩:=info_parts infoS
 have h1c:∀u∈[Value.string s],u.oneCell'=true:=by simp[Value.oneCell']
 obtain⟨v',w',hr,h2,h3,_,h5⟩:=run_append_own_at (P:=Tryz.prog) w B 44 ty 9 i0 (.string ⟨#[]⟩) 1 16 Tryz.underlying44 hi hz0 hz1 hz2 rfl (by decide) v l.length (l.map Value.string) hown ad 1 c [.string s] rfl hnews h1c (by unfold maxLen;omega) (by omega) hB
 have h2':w'.ownsRow B 9 1 v' (l.length+1) ((l++[s]).map Value.string):=by simpa using h2
 rcases h2.2 with⟨_,h0⟩ | ⟨g,cap,cur,rfl,_⟩
 ·omega
 refine⟨g,cap,w',hr,h2',h3,?_⟩
 rcases h5 with h5 | h5
 ·exact Or.inl h5.symm
 ·have hg:g=w.heap.size:=by simpa[Value.ownBlock] using h5
  rcases hown.2 with⟨rfl,_⟩ | ⟨g0,cap0,cur0,rfl,_,hg0,_,_,hcs,_⟩
  ·exact Or.inr ⟨hg,h3⟩
  ·by_cases hroom:l.length+1<=cap0
   ·have hr2:=run_append_room (P:=Tryz.prog) w 44 ty 9 i0 Tryz.underlying44 hi g0 l.length cap0 cur0 hg0 ad 1 c [.string s] (by rw[hz1];rfl) hnews h1c hroom (by rw[hz1];simp;omega)
    rw[hr] at hr2
    injection hr2 with e1 e2
    have e3:g=g0:=by
     have e4:g=g0/\cap=cap0:=by simpa using e1
     exact e4.1
    exact Or.inl (by simp[Value.ownBlock,e3])
   ·have holds:∀j u,(l.map Value.string)[j]?=some u->w.cell? ((⟨g0,0,none⟩:Addr).add j)=some u:=hown.cells (g:=g0) rfl
    have hr2:=run_append_grow (P:=Tryz.prog) w 44 ty 9 i0 (.string ⟨#[]⟩) Tryz.underlying44 hi hz0 ⟨g0,0,none⟩ l.length cap0 (l.map Value.string) (by rw[hz1];exact hown.1) holds ad 1 c [.string s] (by rw[hz1];rfl) hnews (by omega) (by omega) (growslice_fits (by omega) (by rw[hz2];omega))
    rw[hr] at hr2
    injection hr2 with e1 e2
    refine Or.inr ⟨hg,?_⟩
    rw[e2]
    exact⟨rfl,rfl,rfl,by simp,fun k hk _=>heap_alloc_old w.drew _ hk⟩
theorem n_wpList_append_still {w:World} {ops:Array Oper} {rest:List Oper} {o:Oper} {a:Act} {Q:Exit->Act->World->Prop} (hgd:o.guard=none) (x y:Operand)
  (ho:o.op=.call { callee:=.builtin .append,args:=#[x,y],argTypes:=#[44,44] }) {B:Nat} {v:Value} {l:List ByteArray} (hx:a.eval x=v) (hown:w.ownsRow B 9 1 v l.length (l.map Value.string)) (ad:Addr) (c:Nat) (s:ByteArray)
  (hy:a.eval y=.slice (some ad) 1 c) (hnews:∀j u,[Value.string s][j]?=some u->w.cell? (ad.add j)=some u) (hl:l.length<=5000) (hB:B<=w.heap.size)
  (h:∀g cap w',w'.ownsRow B 9 1 (.slice (some ⟨g,0,none⟩) (l.length+1) cap) (l.length+1) ((l++[s]).map Value.string)->w.grownBy w' v.ownBlock->(v.ownBlock=some g∨(g=w.heap.size/\w.grownBy w' none))->
   wpList Tryz.prog ops Q rest (a.put o.dst (.slice (some ⟨g,0,none⟩) (l.length+1) cap)) w'):wpList Tryz.prog ops Q (o::rest) a w:=by
 refine wpList_plain hgd fun K hK=>?_
 obtain⟨g,cap,w',hr,h2,h3,h4⟩:=n_run_append_still o.type hown ad c s hnews hl hB
 unfold Oper.wp execOp
 simp only[ho,resolve,invoke,builtin,Sem.run_bind,Sem.run_pure,Result.andThen_ok,List.map_toArray,List.map_cons,List.map_nil,hx,hy,hr]
 exact hK _ _ (h g cap w' h2 h3 h4)
theorem still_block {w w1 w2:World} {p q B:Nat} {v:Value} {l:List ByteArray} {o:Obj} (h:Tb w B p v q l) (hb:Below w.heap.size w w1) (hg:(w1.alloc o).grownBy w2 v.ownBlock):w2.heap[p]?=some (.cells #[v,.map (some q)] 158 (0,0)):=by
 have h1:=(h.below hb).alloc o
 rw[hg.block p h1.lt (fun e=>(h1.row e.symm).2.2.1 rfl)]
 exact h1.blk
theorem set_block {w:World} {p q:Nat} {v:Value} (v':Value) (h:w.heap[p]?=some (.cells #[v,.map (some q)] 158 (0,0))):(w.setCell ⟨p,0,none⟩ v').heap[p]?=some (.cells #[v',.map (some q)] 158 (0,0)):=by
 obtain⟨hlt,hk⟩:=Array.getElem?_eq_some_iff.1 h
 show (w.heap.modify p _)[p]?=_
 rw[Array.getElem?_eq_getElem (by rw[Array.size_modify];exact hlt),Array.getElem_modify_self,hk]
 rfl
theorem blk_c0 {w:World} {p q:Nat} {v:Value} (h:w.heap[p]?=some (.cells #[v,.map (some q)] 158 (0,0))):w.cell? ⟨p,0,none⟩=some v:=by simp[World.cell?,h]
theorem blk_c1 {w:World} {p q:Nat} {v:Value} (h:w.heap[p]?=some (.cells #[v,.map (some q)] 158 (0,0))):w.cell? ⟨p,1,none⟩=some (.map (some q)):=by simp[World.cell?,h]
theorem blk_f0 {w:World} {p q:Nat} {v:Value} (h:w.heap[p]?=some (.cells #[v,.map (some q)] 158 (0,0))):w.frozen? ⟨p,0,none⟩=false:=by simp[World.frozen?,h]
theorem still_map {w w1 w2:World} {p q B n:Nat} {v:Value} {l:List ByteArray} {o:Obj} {D:DataW Unit} (h:Tb w B p v q l) (hb:Below w.heap.size w w1) (hg:(w1.alloc o).grownBy w2 v.ownBlock) (v':Value) (hD:w.ownsMap Tryz.prog 9 (plainElem Tryz.prog 3) q n D) :
  (w2.setCell ⟨p,0,none⟩ v').ownsMap Tryz.prog 9 (plainElem Tryz.prog 3) q n D:=by
 have h1:=(h.below hb).alloc o
 have hD1:=(map_keep (ks:=[]) hD (n_Mod.ofBelow hb) (by simp)).alloc o
 exact (hD1.kept hg (fun e=>(h1.row e.symm).2.2.2 rfl)).setCell (fun e=>h1.pq e.symm) _
theorem put_upd {w w1 w2 w3:World} {p q B g cap:Nat} {v:Value} {l:List ByteArray} {o:Obj} {s:ByteArray} {D:DataW Unit} (h:Tb w B p v q l) (hb:Below w.heap.size w w1) (hg:(w1.alloc o).grownBy w2 v.ownBlock)
  (hown:w2.ownsRow B 9 1 (.slice (some ⟨g,0,none⟩) (l.length+1) cap) (l.length+1) ((l++[s]).map Value.string))
  (hat:v.ownBlock=some g∨(g=(w1.alloc o).heap.size/\(w1.alloc o).grownBy w2 none)) (hs:n_goodS s=true) (hn:inL l s=false) (hl:l.length<1024) (hO:MapOf l D) (hD:w.ownsMap Tryz.prog 9 (plainElem Tryz.prog 3) q l.length D)
  (hm:w3.ownsMap Tryz.prog 9 (plainElem Tryz.prog 3) q (l.length+1) (D.put (.string s.data.toList) (.lit (.int .i64 (l.length:Int))))) (hg3:(w2.setCell ⟨p,0,none⟩ (.slice (some ⟨g,0,none⟩) (l.length+1) cap)).grownBy w3 (some q)) :
  n_Upd w w3 B p v q (l++[s]) (.slice (some ⟨g,0,none⟩) (l.length+1) cap)/\Rs w3 v l:=by
 have h1:=(h.below hb).alloc o
 have hM1:n_Mod (n_foot p v q) w (w1.alloc o):=(n_Mod.ofBelow hb).alloc o
 have hM2:n_Mod (n_foot p v q) w w2:=hM1.grown hg (fun k e=>Or.inl (n_mem_foot.2 (Or.inr (Or.inr e))))
 have hM3:n_Mod (n_foot p v q) w (w2.setCell ⟨p,0,none⟩ (.slice (some ⟨g,0,none⟩) (l.length+1) cap)):=hM2.setCell (Or.inl (n_mem_foot.2 (Or.inl rfl))) _
 have hM4:n_Mod (n_foot p v q) w w3:=hM3.grown hg3 (fun k e=>by cases e;exact Or.inl (n_mem_foot.2 (Or.inr (Or.inl rfl))))
 have hb2:=still_block h hb hg
 have hb3:=set_block (.slice (some ⟨g,0,none⟩) (l.length+1) cap) hb2
 have hpq:=h.pq
 have hgp:g≠p/\g≠q:=by
  rcases hat with e | ⟨e,_⟩
  ·exact⟨(h1.row e).2.2.1,(h1.row e).2.2.2⟩
  ·have h3:=h1.lt
   have h4:=h1.mlt
   exact⟨by omega,by omega⟩
 have hrow3:=(own_keep (ks:=[p]) hown ((n_Mod.refl [p] w2).setCell (p:=⟨p,0,none⟩) (Or.inl (by simp)) (.slice (some ⟨g,0,none⟩) (l.length+1) cap)) (fun k hk e=>by
  simp at hk
  subst hk
  exact hgp.1 (by simpa[Value.ownBlock] using e)))
 have hrow4:=own_keep (ks:=[q]) hrow3 ((n_Mod.refl [q] _).grown hg3 (fun k e=>by cases e;exact Or.inl (by simp))) (fun k hk e=>by
  simp at hk
  subst hk
  exact hgp.2 (by simpa[Value.ownBlock] using e))
 refine⟨⟨⟨?_,h.base,by rw[List.length_append];exact hrow4,h.mbase,⟨_,hm.mono (by simp),mapOf_put hO hD.isMap hn⟩,by simp;omega,fun x hx=>?_,?_⟩,hM4,fun k hk=>?_⟩,?_⟩
 ·rw[hg3.block p (lt_of_block hb3) (fun e=>hpq (by simpa using e))]
  exact hb3
 ·rcases List.mem_append.1 hx with hx | hx
  ·exact h.good x hx
  ·simp at hx
   subst hx
   exact hs
 ·rw[List.nodup_append]
  refine⟨h.nodup,by simp,fun x hx y hy e=>?_⟩
  simp at hy
  subst hy
  subst e
  rw[inL_iff.2 hx] at hn
  cases hn
 ·have hk':k=g:=by simpa[Value.ownBlock] using hk.symm
  subst hk'
  rcases hat with e | ⟨e,_⟩
  ·exact Or.inl e
  ·have:=hb.size
   simp at e
   exact Or.inr (by omega)
 ·rcases hat with e | ⟨_,hg'⟩
  ·rcases h.own.2 with⟨rfl,hn0⟩ | ⟨g0,cap0,cur0,rfl,_⟩
   ·exact Or.inl ⟨rfl,List.eq_nil_of_length_eq_zero hn0⟩
   ·have e':g0=g:=by simpa[Value.ownBlock] using e
    subst e'
    refine Or.inr (Or.inr ⟨g0,0,cap0,rfl,fun j hj=>?_⟩)
    rw[Nat.zero_add,hrow4.cellAt j (by omega),List.map_append,List.getElem?_append_left (by simpa using hj)]
    simp[List.getD,hj]
  ·have hr1:=h1.rs
   have hr2:Rs w2 v l:=hr1.keep (ks:=[]) ((n_Mod.refl [] _).grown hg' (fun k e=>by cases e)) (by simp)
   have hin:∀k,Value.n_inBlock v=some k->v.ownBlock=some k:=fun k e=>by
    rcases h.own.2 with⟨rfl,hn0⟩ | ⟨g0,cap0,cur0,rfl,_⟩
    ·simp[Value.n_inBlock] at e
    ·simpa[Value.n_inBlock,Value.ownBlock] using e
   have hr3:Rs (w2.setCell ⟨p,0,none⟩ (.slice (some ⟨g,0,none⟩) (l.length+1) cap)) v l:=hr2.keep (ks:=[p]) ((n_Mod.refl [p] w2).setCell (p:=⟨p,0,none⟩) (Or.inl (by simp)) _) (fun k hk e=>by
    simp at hk
    subst hk
    exact (h.row (hin _ e)).2.2.1 rfl)
   exact hr3.keep (ks:=[q]) ((n_Mod.refl [q] _).grown hg3 (fun k e=>by cases e;exact Or.inl (by simp))) (fun k hk e=>by
    simp at hk
    subst hk
    exact (h.row (hin _ e)).2.2.2 rfl)
set_option maxHeartbeats 2000000 in
theorem put_new {w:World} {B p q:Nat} {v:Value} {l:List ByteArray} (h:Tb w B p v q l) (hB:B<=w.heap.size) (s:ByteArray) (hs:s.size<=281474976710656) (hg:n_goodS s=true) (hi:inL l s=false) (hl:l.length<1024) :
  Calls Tryz.prog 89 #[.pointer (some ⟨p,0,none⟩),.string s] w fun e w'=>e=.returned (.tuple #[.int .i64 (l.length:Int),.nilIface])/\∃v',n_Upd w w' B p v q (l++[s]) v'/\Rs w' v l:=by
 have hf:=find_any h s hs
 have hn:=len_any h
 rw[hi] at hf
 obtain⟨D,hD,hO⟩:=h.map
 have hk:=WideMaps.keyOf_string_mk (P:=Tryz.prog) (k:=9) Tryz.underlying9 (s:=s) (by unfold maxLen;omega)
 have hwf:(Lit.int .i64 (l.length:Int)).wf=true:=WalkArith.wf_i64 (by omega)
 go_enter Tryz.func89,Tryz.ntmps89
 go_wp2_with (first
  | (go_at_call 112;refine (n_good_any _ _ hs).mono ?_;rintro e w ⟨rfl,rfl⟩)
  | (go_at_call 87;refine hf.mono ?_;rintro e w ⟨rfl,rfl⟩)
  | (go_at_call 131;refine hn.mono ?_;rintro e w ⟨rfl,rfl⟩)
  | (go_at_call 90;refine (n_clone_any _ _ hs).mono ?_;rintro e w1 ⟨rfl,hb⟩;have c0:=(h.below hb).c0)
  | (at_builtin;refine n_wpList_append_still rfl _ _ rfl rfl ((h.below hb).alloc _).own ⟨w1.heap.size,0,none⟩ 1 s rfl (cell_one_new _ _ _) (by omega) (by have:=hb.size;simp;omega) ?_;intro g cap w2 hown hgr hat;have hb2:=still_block h hb hgr;have d0:=blk_c0 hb2;have d1:=blk_f0 hb2;have d2:=blk_c1 (set_block (.slice (some ⟨g,0,none⟩) (l.length+1) cap) hb2);have hm2:=still_map h hb hgr (.slice (some ⟨g,0,none⟩) (l.length+1) cap) hD)
  | (at_mapUpdate;refine wpList_mapUpdate_own _ rfl _ _ _ 156 rfl 9 3 (string_keyed Tryz.underlying9) Tryz.underlying156 _ q l.length _ rfl hm2 (by unfold maxLen;omega) _ _ _ rfl rfl hk _ [] (plainElem_int Tryz.underlying3 hwf) ?_;intro w3 hm3 hg3))
 go_ret2
 exact⟨rfl,_,put_upd h hb hgr hown hat hg hi hl hO hD hm3 hg3⟩
end Go.Proofs.YtpkojcfdkkjmcaaGreatDoor
namespace Go.Proofs.YtpkojcfdkkjmcaaGreatDoor
set_option maxRecDepth 100000
open Go.RowKit
set_option maxHeartbeats 1000000 in
theorem head_yes (n:Int) (w:World) (h0:0<=n) (h1:n<=18446744073709551615) (h:goodB n=true) (ht:n % 8=4) :
  Calls Tryz.prog 146 #[.int .u64 n] w fun e w'=>e=.returned (.tuple #[.int .i64 (valOf n / 16),.int .i64 (valOf n % 16),.bool true])/\w'=w:=by
 have hv:=fun_val n h ht
 go_enter Tryz.func146,Tryz.ntmps146
 go_wp2_with (first | (go_at_call 141;refine (tag_any _ _ h0 h1).mono ?_;rintro e w' ⟨rfl,rfl⟩) | (go_at_call 143;refine (value_any _ _).mono ?_;rintro e w' ⟨rfl,rfl⟩) | (go_at_call 169;refine (w_good_any _ _ h0 h1).mono ?_;rintro e w' ⟨rfl,rfl⟩) | (go_at_call 171;refine (w_split_any _ _ (by omega) (by omega)).mono ?_;rintro e w' ⟨rfl,rfl⟩))
 go_ret3
 exact⟨rfl,rfl⟩
set_option maxHeartbeats 1000000 in
theorem head_no (n:Int) (w:World) (h0:0<=n) (h1:n<=18446744073709551615) (h:goodB n=false∨n % 8≠4) :
  Calls Tryz.prog 146 #[.int .u64 n] w fun e w'=>e=.returned (.tuple #[.int .i64 0,.int .i64 0,.bool false])/\w'=w:=by
 by_cases hg:goodB n=true
 ·have ht:(n % 8 != 4)=true:=by rw[hg] at h;simpa using h
  clear h
  go_enter Tryz.func146,Tryz.ntmps146
  go_wp2_with (first | (go_at_call 141;refine (tag_any _ _ h0 h1).mono ?_;rintro e w' ⟨rfl,rfl⟩) | (go_at_call 169;refine (w_good_any _ _ h0 h1).mono ?_;rintro e w' ⟨rfl,rfl⟩))
  go_ret3
  exact⟨rfl,rfl⟩
 ·have hg:goodB n=false:=by simpa using hg
  clear h
  go_enter Tryz.func146,Tryz.ntmps146
  go_wp2_with (first | (go_at_call 141;refine (tag_any _ _ h0 h1).mono ?_;rintro e w' ⟨rfl,rfl⟩) | (go_at_call 169;refine (w_good_any _ _ h0 h1).mono ?_;rintro e w' ⟨rfl,rfl⟩))
  go_ret3
  exact⟨rfl,rfl⟩
end Go.Proofs.YtpkojcfdkkjmcaaGreatDoor
namespace Go.Proofs.YtpkojcfdkkjmcaaGreatDoor
set_option maxRecDepth 100000
open Go.RowKit
theorem row_keep {w w':World} {B z:Nat} {e:TypeId} {v:Value} {n:Nat} {xs:List Value} (h:w.ownsRow B e z v n xs) (hm:∀k,v.ownBlock=some k->w'.heap[k]?=w.heap[k]?):w'.ownsRow B e z v n xs:=by
 refine⟨h.1,?_⟩
 rcases h.2 with h0 | ⟨g,cap,cur,rfl,hb,hg,rest⟩
 ·exact Or.inl h0
 ·exact Or.inr ⟨g,cap,cur,rfl,hb,by rw[hm g rfl];exact hg,rest⟩
theorem row_obj {w:World} {B z:Nat} {e:TypeId} {v:Value} {n:Nat} {xs:List Value} (h:w.ownsRow B e z v n xs) {k:Nat} (hk:v.ownBlock=some k):∃cur,w.heap[k]?=some (.cells cur e (0,0)):=by
 rcases h.2 with⟨rfl,_⟩ | ⟨g,cap,cur,rfl,_,hg,_⟩
 ·cases hk
 ·have:g=k:=by simpa[Value.ownBlock] using hk
  subst this
  exact⟨cur,hg⟩
theorem obj_ne {w:World} {k j:Nat} {c c':Array Value} {e e':TypeId} {x x':Nat×Nat} (h:w.heap[k]?=some (.cells c e x)) (h':w.heap[j]?=some (.cells c' e' x')) (hne:e≠e'):k≠j:=fun ek=>by
 subst ek
 rw[h] at h'
 injection h' with h'
 injection h' with _ h'
 exact hne h'
end Go.Proofs.YtpkojcfdkkjmcaaGreatDoor
namespace Go.Proofs.YtpkojcfdkkjmcaaGreatDoor
set_option maxRecDepth 100000
open Go.RowKit
theorem count_set:∀(l:List Bool) (i:Nat),l[i]?=some false->(l.set i true).count false+1=l.count false
 | [],_,h=>by simp at h
 | b::l,0,h=>by
  have:b=false:=by simpa using h
  subst this
  simp
 | b::l,i+1,h=>by
  have h1:=count_set l i (by simpa using h)
  cases b <;> simp <;> omega
theorem ready_spec {md:Region.Mode} {ops:Array Oper} {l:Array Bool} {i:Nat} (h:i∈Region.ready md ops l):i<ops.size/\l.getD i true=false/\((ops[i]?).map (·.after.all fun e=>!Region.binds md e || l.getD e.on false)).getD false=true:=by
 unfold Region.ready at h
 obtain⟨h1,h2⟩:=List.mem_filter.1 h
 rw[Bool.and_eq_true] at h2
 exact⟨List.mem_range.1 h1,by simpa using h2.1,h2.2⟩
theorem getD_false {l:Array Bool} {i:Nat} (h:l.getD i true=false):l.toList[i]?=some false:=by
 simp only[Array.getD_eq_getD_getElem?] at h
 cases e:l[i]? with
 | none=>rw[e] at h;simp at h
 | some b=>
  rw[e] at h
  have:b=false:=by simpa using h
  subst this
  simpa using e
theorem wpAny_inv {P:Program} {md:Region.Mode} {ops:Array Oper} {Q:Exit->Act->World->Prop} (I:Array Bool->Act->World->Prop)
  (hstep:∀l a w,I l a w->∀i,i∈Region.ready md ops l->wpOp P ops Q i (I (l.setIfInBounds i true)) a w)
  (hdone:∀l a w,I l a w->Region.ready md ops l=[]->Q .normal a w) :
  ∀(fuel:Nat) (l:Array Bool) (a:Act) (w:World),l.toList.count false<=fuel->I l a w->wpAny P md ops Q fuel l a w
 | 0,l,a,w,hf,hI=>by
  have h0:Region.ready md ops l=[]:=by
   cases e:Region.ready md ops l with
   | nil=>rfl
   | cons i r=>
    have h1:=getD_false (ready_spec (i:=i) (by rw[e];simp)).2.1
    have h2:=count_set _ _ h1
    omega
  exact⟨h0,hdone l a w hI h0⟩
 | fuel+1,l,a,w,hf,hI=>by
  refine⟨fun h0=>hdone l a w hI h0,fun i hi=>?_⟩
  have h1:=getD_false (ready_spec hi).2.1
  have h2:=count_set _ _ h1
  refine wpOp_mono (fun a' w' h=>wpAny_inv I hstep hdone fuel _ a' w' ?_ h) (hstep l a w hI i hi)
  rw[Array.toList_setIfInBounds]
  omega
end Go.Proofs.YtpkojcfdkkjmcaaGreatDoor

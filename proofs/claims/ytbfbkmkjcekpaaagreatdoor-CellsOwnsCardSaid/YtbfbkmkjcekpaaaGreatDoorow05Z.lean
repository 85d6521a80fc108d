/- What the inner functions of package word do, each at every argument: contracts, the leaves first. -/
import Derived.Test.YtbfbkmkjcekpaaaGreatDoorProg
import Derived.WalkKit
import Derived.WalkSpells
import Derived.WalkLawsBesides
import Derived.Test.YtbfbkmkjcekpaaaGreatDoorow01Z
import Derived.Test.YtbfbkmkjcekpaaaGreatDoorow00Z
namespace Go.Proofs.YtbfbkmkjcekpaaaGreatDoor
set_option maxRecDepth 100000
open Go.RowKit
theorem w_ret_int {k:IntKind} {a b:Int} (h:a=b):Ending.returned (.int k a)=.returned (.int k b):=by rw[h]
theorem w_ret_bool {a b:Bool} (h:a=b):Ending.returned (.bool a)=.returned (.bool b):=by rw[h]
set_option maxHeartbeats 400000 in
theorem tag_any (n:Int) (w:World) (h0:0<=n) (h1:n<=18446744073709551615) :
  Calls Tryz.prog 59 #[.int .u64 n] w fun e w'=>e=.returned (.int .i64 (n % 8))/\w'=w:=by
 go_enter Tryz.func59,Tryz.ntmps59
 go_wp2
 go_ret
 exact⟨w_ret_int (wrap_and7 n h0 h1),rfl⟩
set_option maxHeartbeats 400000 in
theorem value_any (n:Int) (w:World) :
  Calls Tryz.prog 60 #[.int .u64 n] w fun e w'=>e=.returned (.int .i64 (valOf n))/\w'=w:=by
 go_enter Tryz.func60,Tryz.ntmps60
 go_wp2
 go_ret
 exact⟨w_ret_int rfl,rfl⟩
set_option maxHeartbeats 400000 in
theorem isName_any (a:Int) (w:World) :
  Calls Tryz.prog 138 #[.int .i64 a] w fun e w'=>e=.returned (.bool (decide (0<=a/\a<1024)))/\w'=w:=by
 by_cases h:0<=a
 ·go_enter Tryz.func138,Tryz.ntmps138
  go_wp2
  go_ret
  exact⟨w_ret_bool (by simp[h]),rfl⟩
 ·go_enter Tryz.func138,Tryz.ntmps138
  go_wp2
  go_ret
  exact⟨w_ret_bool (by simp;omega),rfl⟩
set_option maxHeartbeats 400000 in
theorem isFunctor_any (a k:Int) (w:World) :
  Calls Tryz.prog 133 #[.int .i64 a,.int .i64 k] w fun e w'=>e=.returned (.bool (funB a k))/\w'=w:=by
 by_cases h:0<=a/\a<1024
 ·have hd:decide (0<=a/\a<1024)=true:=by simpa using h
  by_cases h1:1<=k
  all_goals
   go_enter Tryz.func133,Tryz.ntmps133
   go_wp2_with (go_at_call 138;refine (isName_any _ _).mono ?_;rintro e w' ⟨rfl,rfl⟩)
   go_ret
   exact⟨w_ret_bool (by unfold funB;first | (rw[decide_eq_decide];omega) | (symm;rw[decide_eq_false_iff_not];omega)),rfl⟩
 ·have hd:decide (0<=a/\a<1024)=false:=by simpa using h
  go_enter Tryz.func133,Tryz.ntmps133
  go_wp2_with (go_at_call 138;refine (isName_any _ _).mono ?_;rintro e w' ⟨rfl,rfl⟩)
  go_ret
  exact⟨w_ret_bool (by unfold funB;symm;rw[decide_eq_false_iff_not];omega),rfl⟩
set_option maxHeartbeats 400000 in
theorem w_split_any (v:Int) (w:World) (h0:0<=v) (h1:v<=9223372036854775807) :
  Calls Tryz.prog 117 #[.int .i64 v] w fun e w'=>e=.returned (.tuple #[.int .i64 (v / 16),.int .i64 (v % 16)])/\w'=w:=by
 go_enter Tryz.func117,Tryz.ntmps117
 go_wp2
 go_ret2
 exact⟨rfl,rfl⟩
set_option maxHeartbeats 400000 in
theorem split_neg (v:Int) (w:World) (h0:v<0) (h1:-9223372036854775808<=v) :
  Calls Tryz.prog 117 #[.int .i64 v] w fun e w'=>e=.returned (.tuple #[.int .i64 (v.tdiv 16),.int .i64 (v.tmod 16)])/\w'=w:=by
 go_enter Tryz.func117,Tryz.ntmps117
 go_wp2
 go_ret2
 exact⟨rfl,rfl⟩
theorem funB_split (v:Int):funB (v / 16) (v % 16)=fitsB 4 v:=by
 rw[Bool.eq_iff_iff];simp[funB,fitsB];omega
theorem funB_neg (v:Int) (h:v<0):funB (v.tdiv 16) (v.tmod 16)=fitsB 4 v:=by
 have hm:v.tmod 16 = -((-v) % 16):=by
  have:=Int.neg_tmod (-v) 16
  rw[Int.neg_neg] at this
  rw[this,Int.tmod_eq_emod_of_nonneg (by omega)]
 rw[hm,Bool.eq_iff_iff];simp[funB,fitsB];omega
set_option maxHeartbeats 400000 in
theorem fits_any (t v:Int) (w:World) (h0:-9223372036854775808<=v) (h1:v<=9223372036854775807) :
  Calls Tryz.prog 125 #[.int .i64 t,.int .i64 v] w fun e w'=>e=.returned (.bool (fitsB t v))/\w'=w:=by
 by_cases e0:t=0
 ·subst e0
  by_cases h:0<=v
  all_goals
   go_enter Tryz.func125,Tryz.ntmps125
   go_wp2
   go_ret
   exact⟨w_ret_bool (by unfold fitsB;simp;try omega),rfl⟩
 by_cases e3:t=3
 ·subst e3
  by_cases h:0<=v
  all_goals
   go_enter Tryz.func125,Tryz.ntmps125
   go_wp2
   go_ret
   exact⟨w_ret_bool (by unfold fitsB;simp;try omega),rfl⟩
 by_cases e5:t=5
 ·subst e5
  by_cases h:0<=v
  all_goals
   go_enter Tryz.func125,Tryz.ntmps125
   go_wp2
   go_ret
   exact⟨w_ret_bool (by unfold fitsB;simp;try omega),rfl⟩
 by_cases e1:t=1
 ·subst e1
  go_enter Tryz.func125,Tryz.ntmps125
  go_wp2_with (go_at_call 138;refine (isName_any _ _).mono ?_;rintro e w' ⟨rfl,rfl⟩)
  go_ret
  exact⟨w_ret_bool (by unfold fitsB;simp),rfl⟩
 by_cases e2:t=2
 ·subst e2
  by_cases h:-1125899906842624<=v
  all_goals
   go_enter Tryz.func125,Tryz.ntmps125
   go_wp2
   go_ret
   exact⟨w_ret_bool (by unfold fitsB;simp;try omega),rfl⟩
 by_cases e4:t=4
 ·subst e4
  by_cases h:0<=v
  ·have H:Hid (funB (v / 16) (v % 16)=fitsB 4 v):=funB_split v
   go_enter Tryz.func125,Tryz.ntmps125
   go_wp2_with (first | (go_at_call 117;refine (w_split_any _ _ (by omega) (by omega)).mono ?_;rintro e w' ⟨rfl,rfl⟩) | (go_at_call 133;refine (isFunctor_any _ _ _).mono ?_;rintro e w' ⟨rfl,rfl⟩))
   go_ret
   exact⟨w_ret_bool H.out,rfl⟩
  ·have H:Hid (funB (v.tdiv 16) (v.tmod 16)=fitsB 4 v):=funB_neg v (by omega)
   go_enter Tryz.func125,Tryz.ntmps125
   go_wp2_with (first | (go_at_call 117;refine (split_neg _ _ (by omega) (by omega)).mono ?_;rintro e w' ⟨rfl,rfl⟩) | (go_at_call 133;refine (isFunctor_any _ _ _).mono ?_;rintro e w' ⟨rfl,rfl⟩))
   go_ret
   exact⟨w_ret_bool H.out,rfl⟩
 have H':fitsB t v=false:=by unfold fitsB;simp[e0,e1,e2,e3,e4,e5]
 have H:Hid (fitsB t v=false):=H'
 clear H'
 have b0:(t == 0)=false:=by simpa using e0
 have b1:(t == 1)=false:=by simpa using e1
 have b2:(t == 2)=false:=by simpa using e2
 have b3:(t == 3)=false:=by simpa using e3
 have b4:(t == 4)=false:=by simpa using e4
 have b5:(t == 5)=false:=by simpa using e5
 clear e0 e1 e2 e3 e4 e5
 go_enter Tryz.func125,Tryz.ntmps125
 go_wp2
 go_ret
 exact⟨w_ret_bool H.out.symm,rfl⟩
set_option maxHeartbeats 400000 in
theorem w_good_any (n:Int) (w:World) (h0:0<=n) (h1:n<=18446744073709551615) :
  Calls Tryz.prog 116 #[.int .u64 n] w fun e w'=>e=.returned (.bool (goodB n))/\w'=w:=by
 have hb:=valOf_bd n
 go_enter Tryz.func116,Tryz.ntmps116
 go_wp2_with (first | (go_at_call 59;refine (tag_any _ _ h0 h1).mono ?_;rintro e w' ⟨rfl,rfl⟩) | (go_at_call 60;refine (value_any _ _).mono ?_;rintro e w' ⟨rfl,rfl⟩) | (go_at_call 125;refine (fits_any _ _ _ (by omega) (by omega)).mono ?_;rintro e w' ⟨rfl,rfl⟩))
 go_ret
 exact⟨w_ret_bool rfl,rfl⟩
end Go.Proofs.YtbfbkmkjcekpaaaGreatDoor
namespace Go.Proofs.YtbfbkmkjcekpaaaGreatDoor
set_option maxRecDepth 100000
open Go.RowKit
theorem fun_val (n:Int) (h:goodB n=true) (ht:n % 8=4):0<=valOf n/\valOf n / 16<1024/\1<=valOf n % 16/\valOf n % 16<=8:=by
 unfold goodB at h;rw[ht] at h;simp[fitsB] at h;omega
set_option maxHeartbeats 1000000 in
theorem place_yes (n:Int) (w:World) (h0:0<=n) (h1:n<=18446744073709551615) (h:goodB n=true) (ht:n % 8=0∨n % 8=3∨n % 8=5) :
  Calls Tryz.prog 118 #[.int .u64 n] w fun e w'=>e=.returned (.tuple #[.int .i64 (valOf n),.bool true])/\w'=w:=by
 rcases ht with ht | ht | ht
 all_goals
  go_enter Tryz.func118,Tryz.ntmps118
  go_wp2_with (first | (go_at_call 59;refine (tag_any _ _ h0 h1).mono ?_;rintro e w' ⟨rfl,rfl⟩) | (go_at_call 60;refine (value_any _ _).mono ?_;rintro e w' ⟨rfl,rfl⟩) | (go_at_call 116;refine (w_good_any _ _ h0 h1).mono ?_;rintro e w' ⟨rfl,rfl⟩))
  go_ret2
  exact⟨rfl,rfl⟩
set_option maxHeartbeats 1000000 in
theorem place_no (n:Int) (w:World) (h0:0<=n) (h1:n<=18446744073709551615) (h:goodB n=false∨(n % 8≠0/\n % 8≠3/\n % 8≠5)) :
  Calls Tryz.prog 118 #[.int .u64 n] w fun e w'=>e=.returned (.tuple #[.int .i64 0,.bool false])/\w'=w:=by
 by_cases hg:goodB n=true
 ·have ht:n % 8≠0/\n % 8≠3/\n % 8≠5:=by rw[hg] at h;simpa using h
  have b0:(n % 8 == 0)=false:=by simpa using ht.1
  have b3:(n % 8 == 3)=false:=by simpa using ht.2.1
  have b5:(n % 8 == 5)=false:=by simpa using ht.2.2
  clear h ht
  go_enter Tryz.func118,Tryz.ntmps118
  go_wp2_with (first | (go_at_call 59;refine (tag_any _ _ h0 h1).mono ?_;rintro e w' ⟨rfl,rfl⟩) | (go_at_call 60;refine (value_any _ _).mono ?_;rintro e w' ⟨rfl,rfl⟩) | (go_at_call 116;refine (w_good_any _ _ h0 h1).mono ?_;rintro e w' ⟨rfl,rfl⟩))
  go_ret2
  exact⟨rfl,rfl⟩
 ·have hg:goodB n=false:=by simpa using hg
  clear h
  go_enter Tryz.func118,Tryz.ntmps118
  go_wp2_with (first | (go_at_call 59;refine (tag_any _ _ h0 h1).mono ?_;rintro e w' ⟨rfl,rfl⟩) | (go_at_call 60;refine (value_any _ _).mono ?_;rintro e w' ⟨rfl,rfl⟩) | (go_at_call 116;refine (w_good_any _ _ h0 h1).mono ?_;rintro e w' ⟨rfl,rfl⟩))
  go_ret2
  exact⟨rfl,rfl⟩
end Go.Proofs.YtbfbkmkjcekpaaaGreatDoor
namespace Go.Proofs.YtbfbkmkjcekpaaaGreatDoor
set_option maxRecDepth 100000
open Go.RowKit
set_option maxHeartbeats 1000000 in
theorem head_yes (n:Int) (w:World) (h0:0<=n) (h1:n<=18446744073709551615) (h:goodB n=true) (ht:n % 8=4) :
  Calls Tryz.prog 86 #[.int .u64 n] w fun e w'=>e=.returned (.tuple #[.int .i64 (valOf n / 16),.int .i64 (valOf n % 16),.bool true])/\w'=w:=by
 have hv:=fun_val n h ht
 go_enter Tryz.func86,Tryz.ntmps86
 go_wp2_with (first | (go_at_call 59;refine (tag_any _ _ h0 h1).mono ?_;rintro e w' ⟨rfl,rfl⟩) | (go_at_call 60;refine (value_any _ _).mono ?_;rintro e w' ⟨rfl,rfl⟩) | (go_at_call 116;refine (w_good_any _ _ h0 h1).mono ?_;rintro e w' ⟨rfl,rfl⟩) | (go_at_call 117;refine (w_split_any _ _ (by omega) (by omega)).mono ?_;rintro e w' ⟨rfl,rfl⟩))
 go_ret3
 exact⟨rfl,rfl⟩
set_option maxHeartbeats 1000000 in
theorem head_no (n:Int) (w:World) (h0:0<=n) (h1:n<=18446744073709551615) (h:goodB n=false∨n % 8≠4) :
  Calls Tryz.prog 86 #[.int .u64 n] w fun e w'=>e=.returned (.tuple #[.int .i64 0,.int .i64 0,.bool false])/\w'=w:=by
 by_cases hg:goodB n=true
 ·have ht:(n % 8 != 4)=true:=by rw[hg] at h;simpa using h
  clear h
  go_enter Tryz.func86,Tryz.ntmps86
  go_wp2_with (first | (go_at_call 59;refine (tag_any _ _ h0 h1).mono ?_;rintro e w' ⟨rfl,rfl⟩) | (go_at_call 116;refine (w_good_any _ _ h0 h1).mono ?_;rintro e w' ⟨rfl,rfl⟩))
  go_ret3
  exact⟨rfl,rfl⟩
 ·have hg:goodB n=false:=by simpa using hg
  clear h
  go_enter Tryz.func86,Tryz.ntmps86
  go_wp2_with (first | (go_at_call 59;refine (tag_any _ _ h0 h1).mono ?_;rintro e w' ⟨rfl,rfl⟩) | (go_at_call 116;refine (w_good_any _ _ h0 h1).mono ?_;rintro e w' ⟨rfl,rfl⟩))
  go_ret3
  exact⟨rfl,rfl⟩
end Go.Proofs.YtbfbkmkjcekpaaaGreatDoor
namespace Go.Proofs.YtbfbkmkjcekpaaaGreatDoor
set_option maxRecDepth 100000
open Go.RowKit
theorem row_keep {w w':World} {B z:Nat} {e:TypeId} {v:Value} {n:Nat} {xs:List Value} (h:w.ownsRow B e z v n xs) (hm:∀k,v.ownBlock=some k->w'.heap[k]?=w.heap[k]?):w'.ownsRow B e z v n xs:=by
 refine⟨h.1,?_⟩
 rcases h.2 with h0 | ⟨g,cap,cur,rfl,hb,hg,rest⟩
 ·exact Or.inl h0
 ·exact Or.inr ⟨g,cap,cur,rfl,hb,by rw[hm g rfl];exact hg,rest⟩
theorem row_obj {w:World} {B z:Nat} {e:TypeId} {v:Value} {n:Nat} {xs:List Value} (h:w.ownsRow B e z v n xs) {k:Nat} (hk:v.ownBlock=some k):∃cur,w.heap[k]?=some (.cells cur e (0,0)):=by
 rcases h.2 with⟨rfl,_⟩ | ⟨g,cap,cur,rfl,_,hg,_⟩
 ·cases hk
 ·have:g=k:=by simpa[Value.ownBlock] using hk
  subst this
  exact⟨cur,hg⟩
theorem obj_ne {w:World} {k j:Nat} {c c':Array Value} {e e':TypeId} {x x':Nat×Nat} (h:w.heap[k]?=some (.cells c e x)) (h':w.heap[j]?=some (.cells c' e' x')) (hne:e≠e'):k≠j:=fun ek=>by
 subst ek
 rw[h] at h'
 injection h' with h'
 injection h' with _ h'
 exact hne h'
end Go.Proofs.YtbfbkmkjcekpaaaGreatDoor
namespace Go.Proofs.YtbfbkmkjcekpaaaGreatDoor
set_option maxRecDepth 100000
open Go.RowKit
def KeptP (B:Nat) (Ks:Nat->Prop) (W W':World):Prop:=W.heap.size<=W'.heap.size/\∀k,(Ks k∨B<=k)->k<W.heap.size->W'.heap[k]?=W.heap[k]?
theorem KeptP.trans {B:Nat} {Ks:Nat->Prop} {X Y Z:World} (h:KeptP B Ks X Y) (k:KeptP B Ks Y Z):KeptP B Ks X Z:=
 ⟨Nat.le_trans h.1 k.1,fun i hi hl=>(k.2 i hi (Nat.lt_of_lt_of_le hl h.1)).trans (h.2 i hi hl)⟩
theorem KeptP.ofBelow {B:Nat} {Ks:Nat->Prop} {W W':World} (h:Below W.heap.size W W'):KeptP B Ks W W':=⟨h.size,fun k _ hl=>h.block k hl⟩
def toldPostP {α:Type} (B:Nat) (Ks:Nat->Prop) (I:List α->World->Prop) (Ix:Code->List α->World->Prop) (xs:List α) (W:World):Exit->Act->World->Prop
 | .normal,_,W'=>KeptP B Ks W W'/\I xs W'
 | .ret,_,W'=>KeptP B Ks W W'/\Ix .ret xs W'
 | .exit id,_,W'=>KeptP B Ks W W'/\Ix (.exit id) xs W'
 | .goto t,_,W'=>KeptP B Ks W W'/\Ix (.goto t) xs W'
 | .panic _,_,_=>False
 | .outgrown,_,_=>False
def TellsP {α:Type} (n:Nat) (P:Program) (gf:Nat) (lb:Array Value) (encs:α->Array Value) (B:Nat) (Ks:Nat->Prop) (T:List α->α->World->Prop) (S:List α->Prop) (w:World):Prop:=
 ∀(l:Nat) (J Jx:List α->World->Prop) (W:World),Below w.heap.size w W->B<=W.heap.size->(∀s A A',J s A->Below A.heap.size A A'->J s A')->(∀s A A',Jx s A->Below A.heap.size A A'->Jx s A')->
  (∀pre x W1,J pre W1->T pre x W1->YieldAt Fence.wide (n-1) P l (encs x) W1 fun e W'=>
   (e=.returned (.bool true)/\J (pre++[x]) W'/\KeptP B Ks W1 W')∨(e=.returned (.bool false)/\Jx (pre++[x]) W'))->J [] W->
  CallsIn Fence.wide n P gf (#[.func (.yield l) #[] #[]]++lb) W fun e W'=>(∃v,e=.returned v)/\((∃xs,S xs/\J xs W')∨∃pre,Jx pre W')
section
variable {α:Type} {n:Nat} {P:Program} {g:Operand} {ps:Array Tmp} {assign body:Code} {Q:Exit->Act->World->Prop} {a:Act} {w:World} {gf:Nat} {lb:Array Value} {encs:α->Array Value} {Ks:Nat->Prop}
theorem told_roundP {fn:FuncId} {I:List α->World->Prop} {Ix:Code->List α->World->Prop} {T:List α->α->World->Prop} (hps:∀x,(encs x).size=ps.size) (hBs:∀k,Ks k->k<w.heap.size)
  (hI:∀s A A',I s A->Nb w.heap.size A A'->I s A') (hIx:∀c s A A',Ix c s A->Nb w.heap.size A A'->Ix c s A') (hT:∀s x A A',T s x A->Nb w.heap.size A A'->T s x A') {Ax:α->Act->World->Prop} (hAx:∀x a' A A',Ax x a' A->Nb w.heap.size A A'->Ax x a' A')
  (hassign:∀(l:Nat) (x:α) (W:World) (K:Act->World->Prop),w.heap.size<=W.heap.size->(∀a' W',Below W.heap.size W W'->Ax x a' W'->K a' W')->
   assign.wpIn (Fence.wide.inRound l) n P (Exit.then K (fun _ _ _=>False)) { tmps:=(ps.zip (encs x)).foldl (fun t (p,v)=>t.setIfInBounds p v) a.tmps,defers:=[] } W)
  (hbody:∀(l:Nat) (pre:List α) (x:α) (a':Act) (W:World),I pre W->T pre x W->Ax x a' W->body.wpIn (Fence.wide.inRound l) n P (toldPostP w.heap.size Ks I Ix (pre++[x]) W) a' W)
  {pre:List α} {x:α} {W:World} (hi:I pre W) (ht:T pre x W) (hl:W.heap[w.heap.size+1]?=some (.loop (recL fn a.tmps ps assign body w.heap.size .ready none))) (hk:W.heap[w.heap.size]?=some (.deferred (some []))) :
  YieldAt Fence.wide n P (w.heap.size+1) (encs x) W fun e W'=>
   (e=.returned (.bool true)/\(I (pre++[x]) W'/\W'.heap[w.heap.size+1]?=some (.loop (recL fn a.tmps ps assign body w.heap.size .ready none))/\W'.heap[w.heap.size]?=some (.deferred (some [])))/\KeptP (w.heap.size+2) Ks W W')∨
   (e=.returned (.bool false)/\∃c,Ix c (pre++[x]) W'/\W'.heap[w.heap.size+1]?=some (.loop (recL fn a.tmps ps assign body w.heap.size .done (some c)))/\W'.heap[w.heap.size]?=some (.deferred (some []))):=by
 refine⟨fn,_,assign,body,run_yield hl (hps x),roundIn_of_wpIn trivial (hassign _ x W _ (by have:=lt_heap hk;omega) fun a' W0 hb0 hax=>?_)⟩
 have hl0:W0.heap[w.heap.size+1]?=some (.loop (recL fn a.tmps ps assign body w.heap.size .ready none)):=by rw[hb0.block _ (lt_heap hl)];exact hl
 have hk0:W0.heap[w.heap.size]?=some (.deferred (some [])):=by rw[hb0.block _ (lt_heap hk)];exact hk
 have hn0:Nb w.heap.size W W0:=Nb.ofBelow hb0
 have hK0:KeptP (w.heap.size+2) Ks W W0:=KeptP.ofBelow hb0
 refine⟨_,run_beginRound hl0 rfl,?_⟩
 have hlt:=lt_heap hl0
 obtain⟨W1,hW1⟩:∃W1,W1=W0.putObj (w.heap.size+1) (.loop { recL fn a.tmps ps assign body w.heap.size .ready none with state:=.busy }):=⟨_,rfl⟩
 have hl1:W1.heap[w.heap.size+1]?=some (.loop (recL fn a.tmps ps assign body w.heap.size .busy none)):=by rw[hW1];exact World.putObj_heap_same hlt
 have hk1:W1.heap[w.heap.size]?=some (.deferred (some [])):=by rw[hW1];exact (World.putObj_heap_other (by omega)).trans hk0
 have hn1:Nb w.heap.size W0 W1:=by rw[hW1];exact Nb.put _ (by omega) hl0 rfl
 have hz1:W1.heap.size=W0.heap.size:=by rw[hW1];simp
 have hK1:KeptP (w.heap.size+2) Ks W W1:=hK0.trans ⟨by omega,fun k hk' _=>by rw[hW1];exact World.putObj_heap_other (by rcases hk' with h | h;have:=hBs k h;omega;omega)⟩
 rw[←hW1]
 have fin:∀(jump:Option Code) (W3:World),KeptP w.heap.size Ks W1 W3->∃W4,(Instr.endRound (w.heap.size+1) jump).run P W3=.ok (.bool jump.isNone) W4/\Nb w.heap.size W3 W4/\KeptP (w.heap.size+2) Ks W W4/\
   W4.heap[w.heap.size+1]?=some (.loop (recL fn a.tmps ps assign body w.heap.size (if jump.isNone then .ready else .done) jump))/\W4.heap[w.heap.size]?=some (.deferred (some [])):=fun jump W3 hk3=>by
  have hl3:W3.heap[w.heap.size+1]?=some (.loop (recL fn a.tmps ps assign body w.heap.size .busy none)):=(hk3.2 _ (Or.inr (by omega)) (by omega)).trans hl1
  have hd3:W3.heap[w.heap.size]?=some (.deferred (some [])):=(hk3.2 _ (Or.inr (Nat.le_refl _)) (by omega)).trans hk1
  refine⟨_,run_endRound jump hl3,Nb.put _ (by omega) hl3 rfl,hK1.trans (KeptP.trans ⟨hk3.1,fun k hk' hlk=>hk3.2 k (by rcases hk' with h | h;exact Or.inl h;exact Or.inr (by omega)) hlk⟩ ⟨by simp,fun k hk' _=>World.putObj_heap_other (by rcases hk' with h | h;have:=hBs k h;omega;omega)⟩),World.putObj_heap_same (lt_heap hl3),(World.putObj_heap_other (by omega)).trans hd3⟩
 refine wpIn_mono (hbody _ pre x a' W1 (hI _ _ _ (hI _ _ _ hi hn0) hn1) (hT _ _ _ _ (hT _ _ _ _ ht hn0) hn1) (hAx _ _ _ _ hax hn1)) ?_
 rintro e a3 W3 hp
 cases e with
 | normal=>
  obtain⟨W4,h1,h2,h3,h4,h5⟩:=fin none W3 hp.1
  exact⟨_,W4,h1,.inl ⟨rfl,⟨hI _ _ _ hp.2 h2,h4,h5⟩,h3⟩⟩
 | ret=>
  obtain⟨W4,h1,h2,h3,h4,h5⟩:=fin (some .ret) W3 hp.1
  exact⟨_,W4,h1,.inr ⟨rfl,.ret,hIx _ _ _ _ hp.2 h2,h4,h5⟩⟩
 | exit id=>
  obtain⟨W4,h1,h2,h3,h4,h5⟩:=fin (some (.exit id)) W3 hp.1
  exact⟨_,W4,h1,.inr ⟨rfl,.exit id,hIx _ _ _ _ hp.2 h2,h4,h5⟩⟩
 | goto t=>
  obtain⟨W4,h1,h2,h3,h4,h5⟩:=fin (some (.goto t)) W3 hp.1
  exact⟨_,W4,h1,.inr ⟨rfl,.goto t,hIx _ _ _ _ hp.2 h2,h4,h5⟩⟩
 | panic ch=>exact hp.elim
 | outgrown=>exact hp.elim
theorem range_toldP (hg:a.eval g=.func (.func gf) #[] lb) (eg:∀args w,(callFunc gf args).run P w=.ok (.enter gf args) w) (hps:∀x,(encs x).size=ps.size) (hn:1<=n) (hBs:∀k,Ks k->k<w.heap.size)
  {I:List α->World->Prop} {Ix:Code->List α->World->Prop} {T:List α->α->World->Prop} {S:List α->Prop} (hseq:TellsP (n-1) P gf lb encs (w.heap.size+2) Ks T S w)
  (hI:∀s A A',I s A->Nb w.heap.size A A'->I s A') (hIx:∀c s A A',Ix c s A->Nb w.heap.size A A'->Ix c s A') (hT:∀s x A A',T s x A->Nb w.heap.size A A'->T s x A') (h0:I [] w) {Ax:α->Act->World->Prop} (hAx:∀x a' A A',Ax x a' A->Nb w.heap.size A A'->Ax x a' A')
  (hassign:∀(l:Nat) (x:α) (W:World) (K:Act->World->Prop),w.heap.size<=W.heap.size->(∀a' W',Below W.heap.size W W'->Ax x a' W'->K a' W')->
   assign.wpIn (Fence.wide.inRound l) (n-1-1) P (Exit.then K (fun _ _ _=>False)) { tmps:=(ps.zip (encs x)).foldl (fun t (p,v)=>t.setIfInBounds p v) a.tmps,defers:=[] } W)
  (hbody:∀(l:Nat) (pre:List α) (x:α) (a':Act) (W:World),I pre W->T pre x W->Ax x a' W->body.wpIn (Fence.wide.inRound l) (n-1-1) P (toldPostP w.heap.size Ks I Ix (pre++[x]) W) a' W)
  (hdone:∀(D:Nat) (xs:List α) (W:World),w.heap.size<=D->S xs->I xs W->W.heap[D]?=some (.deferred (some []))->Q .normal { a with defers:={ target:=.collected D,args:=#[] }::a.defers } W)
  (hstop:∀(D:Nat) (c:Code) (pre:List α) (W:World),w.heap.size<=D->Ix c pre W->W.heap[D]?=some (.deferred (some []))->c.wpIn Fence.wide n P Q { a with defers:={ target:=.collected D,args:=#[] }::a.defers } W) :
  (Code.rangeFunc g ps assign body).wpIn Fence.wide n P Q a w:=by
 refine wpIn_rangeFunc fun fn _=>?_
 obtain⟨W1,hW1⟩:∃W1,W1=(w.alloc (.deferred (some []))).alloc (.loop (recL fn a.tmps ps assign body w.heap.size .ready none)):=⟨_,rfl⟩
 have hl1:W1.heap[w.heap.size+1]?=some (.loop (recL fn a.tmps ps assign body w.heap.size .ready none)):=by
  rw[hW1]
  have:=World.alloc_heap_new (w.alloc (.deferred (some []))) (.loop (recL fn a.tmps ps assign body w.heap.size .ready none))
  rwa[World.size_alloc] at this
 have hk1:W1.heap[w.heap.size]?=some (.deferred (some [])):=by
  rw[hW1]
  exact (Below.heap_alloc _ _ _ (by simp)).trans (World.alloc_heap_new w _)
 have hb1:Below w.heap.size w W1:=by
  rw[hW1]
  exact ((Below.refl _ w).alloc (Nat.le_refl _) _).alloc (by simp) _
 have hz1:w.heap.size+2<=W1.heap.size:=by
  rw[hW1]
  simp
 have keep:∀{A A':World} {k:Nat} {o:Obj},A.heap[k]?=some o->Below A.heap.size A A'->A'.heap[k]?=some o:=fun h hb=>by
  rw[hb.block _ (lt_heap h)]
  exact h
 refine⟨w.heap.size+1,[{ target:=.collected w.heap.size,args:=#[] }],W1,{ target:=.fn (.func gf) lb,args:=#[.func (.yield (w.heap.size+1)) #[] #[]] },W1,gf,
  #[.func (.yield (w.heap.size+1)) #[] #[]]++lb,W1,by rw[hW1];exact run_enterLoop_outer _ _ _ _ _,by simp only[resolve,hg];simp[go_sem],fun f' hf'=>by simp[Target.leads] at hf';exact trivial,by simp[invoke,go_sem,eg],fun _=>hn,?_⟩
 refine (hseq (w.heap.size+1)
  (fun pre W=>I pre W/\W.heap[w.heap.size+1]?=some (.loop (recL fn a.tmps ps assign body w.heap.size .ready none))/\W.heap[w.heap.size]?=some (.deferred (some [])))
  (fun pre W=>∃c,Ix c pre W/\W.heap[w.heap.size+1]?=some (.loop (recL fn a.tmps ps assign body w.heap.size .done (some c)))/\W.heap[w.heap.size]?=some (.deferred (some [])))
  W1 hb1 hz1 (fun s A A' h hb=>⟨hI _ _ _ h.1 (Nb.ofBelow hb),keep h.2.1 hb,keep h.2.2 hb⟩)
  (fun s A A' h hb=>by obtain⟨c,h1,h2,h3⟩:=h;exact⟨c,hIx _ _ _ _ h1 (Nb.ofBelow hb),keep h2 hb,keep h3 hb⟩)
  (fun pre x W h ht=>told_roundP hps hBs hI hIx hT hAx hassign hbody h.1 ht h.2.1 h.2.2) ⟨hI _ _ _ h0 (Nb.ofBelow hb1),hl1,hk1⟩).mono ?_
 rintro e W2 ⟨⟨v,rfl⟩,⟨xs,hS,hi,hl,hk⟩ | ⟨pre,c,hi,hl,hk⟩⟩
 ·exact⟨none,_,run_endLoop hl (by simp[recL]),hdone _ xs _ (Nat.le_refl _) hS (hI _ _ _ hi (Nb.put _ (by omega) hl rfl)) ((World.putObj_heap_other (by omega)).trans hk)⟩
 ·exact⟨some c,_,run_endLoop hl (by simp[recL]),hstop _ c pre _ (Nat.le_refl _) (hIx _ _ _ _ hi (Nb.put _ (by omega) hl rfl)) ((World.putObj_heap_other (by omega)).trans hk)⟩
end
end Go.Proofs.YtbfbkmkjcekpaaaGreatDoor
namespace Go.Proofs.YtbfbkmkjcekpaaaGreatDoor
set_option maxRecDepth 100000
open Go.RowKit
def KeptK (Ks:Nat->Prop) (W W':World):Prop:=W.heap.size<=W'.heap.size/\∀k,Ks k->k<W.heap.size->W'.heap[k]?=W.heap[k]?
theorem KeptK.trans {Ks:Nat->Prop} {X Y Z:World} (h:KeptK Ks X Y) (k:KeptK Ks Y Z):KeptK Ks X Z:=
 ⟨Nat.le_trans h.1 k.1,fun i hi hl=>(k.2 i hi (Nat.lt_of_lt_of_le hl h.1)).trans (h.2 i hi hl)⟩
theorem KeptK.ofBelow {Ks:Nat->Prop} {W W':World} (h:Below W.heap.size W W'):KeptK Ks W W':=⟨h.size,fun k _ hl=>h.block k hl⟩
def toldPostK {α:Type} (Ks:Nat->Prop) (I:List α->World->Prop) (Ix:Code->List α->World->Prop) (xs:List α) (W:World):Exit->Act->World->Prop
 | .normal,_,W'=>KeptK Ks W W'/\I xs W'
 | .ret,_,W'=>KeptK Ks W W'/\Ix .ret xs W'
 | .exit id,_,W'=>KeptK Ks W W'/\Ix (.exit id) xs W'
 | .goto t,_,W'=>KeptK Ks W W'/\Ix (.goto t) xs W'
 | .panic _,_,_=>False
 | .outgrown,_,_=>False
def LpB (B:Nat) (W:World):Prop:=∀k,k=B∨k=B+1->∃o,W.heap[k]?=some o/\o.isCells=false
def TellsK {α:Type} (n:Nat) (P:Program) (gf:Nat) (lb:Array Value) (encs:α->Array Value) (Ks:Nat->Prop) (T:List α->α->World->Prop) (S:List α->Prop) (w:World):Prop:=
 ∀(l:Nat) (J Jx:List α->World->Prop) (W:World),Below w.heap.size w W->(∀s A A',J s A->Below A.heap.size A A'->J s A')->(∀s A A',Jx s A->Below A.heap.size A A'->Jx s A')->
  (∀pre x W1,J pre W1->T pre x W1->YieldAt Fence.wide (n-1) P l (encs x) W1 fun e W'=>
   (e=.returned (.bool true)/\J (pre++[x]) W'/\KeptK Ks W1 W')∨(e=.returned (.bool false)/\Jx (pre++[x]) W'))->J [] W->
  CallsIn Fence.wide n P gf (#[.func (.yield l) #[] #[]]++lb) W fun e W'=>(∃v,e=.returned v)/\((∃xs,S xs/\J xs W')∨∃pre,Jx pre W')
section
variable {α:Type} {n:Nat} {P:Program} {g:Operand} {ps:Array Tmp} {assign body:Code} {Q:Exit->Act->World->Prop} {a:Act} {w:World} {gf:Nat} {lb:Array Value} {encs:α->Array Value} {Ks:Nat->Prop}
theorem told_roundK {fn:FuncId} {I:List α->World->Prop} {Ix:Code->List α->World->Prop} {T:List α->α->World->Prop} (hps:∀x,(encs x).size=ps.size) (hBs:∀k,Ks k->k<w.heap.size)
  (hI:∀s A A',I s A->Nb w.heap.size A A'->I s A') (hIx:∀c s A A',Ix c s A->Nb w.heap.size A A'->Ix c s A') (hT:∀s x A A',T s x A->Nb w.heap.size A A'->T s x A') {Ax:α->Act->World->Prop} (hAx:∀x a' A A',Ax x a' A->Nb w.heap.size A A'->Ax x a' A')
  (hassign:∀(l:Nat) (x:α) (W:World) (K:Act->World->Prop),w.heap.size<=W.heap.size->(∀a' W',Below W.heap.size W W'->Ax x a' W'->K a' W')->
   assign.wpIn (Fence.wide.inRound l) n P (Exit.then K (fun _ _ _=>False)) { tmps:=(ps.zip (encs x)).foldl (fun t (p,v)=>t.setIfInBounds p v) a.tmps,defers:=[] } W)
  (hbody:∀(l:Nat) (pre:List α) (x:α) (a':Act) (W:World),I pre W->T pre x W->Ax x a' W->LpB w.heap.size W->body.wpIn (Fence.wide.inRound l) n P (toldPostK (fun k=>Ks k∨k=w.heap.size∨k=w.heap.size+1) I Ix (pre++[x]) W) a' W)
  {pre:List α} {x:α} {W:World} (hi:I pre W) (ht:T pre x W) (hl:W.heap[w.heap.size+1]?=some (.loop (recL fn a.tmps ps assign body w.heap.size .ready none))) (hk:W.heap[w.heap.size]?=some (.deferred (some []))) :
  YieldAt Fence.wide n P (w.heap.size+1) (encs x) W fun e W'=>
   (e=.returned (.bool true)/\(I (pre++[x]) W'/\W'.heap[w.heap.size+1]?=some (.loop (recL fn a.tmps ps assign body w.heap.size .ready none))/\W'.heap[w.heap.size]?=some (.deferred (some [])))/\KeptK Ks W W')∨
   (e=.returned (.bool false)/\∃c,Ix c (pre++[x]) W'/\W'.heap[w.heap.size+1]?=some (.loop (recL fn a.tmps ps assign body w.heap.size .done (some c)))/\W'.heap[w.heap.size]?=some (.deferred (some []))):=by
 refine⟨fn,_,assign,body,run_yield hl (hps x),roundIn_of_wpIn trivial (hassign _ x W _ (by have:=lt_heap hk;omega) fun a' W0 hb0 hax=>?_)⟩
 have hl0:W0.heap[w.heap.size+1]?=some (.loop (recL fn a.tmps ps assign body w.heap.size .ready none)):=by rw[hb0.block _ (lt_heap hl)];exact hl
 have hk0:W0.heap[w.heap.size]?=some (.deferred (some [])):=by rw[hb0.block _ (lt_heap hk)];exact hk
 have hn0:Nb w.heap.size W W0:=Nb.ofBelow hb0
 have hK0:KeptK Ks W W0:=KeptK.ofBelow hb0
 refine⟨_,run_beginRound hl0 rfl,?_⟩
 have hlt:=lt_heap hl0
 obtain⟨W1,hW1⟩:∃W1,W1=W0.putObj (w.heap.size+1) (.loop { recL fn a.tmps ps assign body w.heap.size .ready none with state:=.busy }):=⟨_,rfl⟩
 have hl1:W1.heap[w.heap.size+1]?=some (.loop (recL fn a.tmps ps assign body w.heap.size .busy none)):=by rw[hW1];exact World.putObj_heap_same hlt
 have hk1:W1.heap[w.heap.size]?=some (.deferred (some [])):=by rw[hW1];exact (World.putObj_heap_other (by omega)).trans hk0
 have hn1:Nb w.heap.size W0 W1:=by rw[hW1];exact Nb.put _ (by omega) hl0 rfl
 have hz1:W1.heap.size=W0.heap.size:=by rw[hW1];simp
 have hK1:KeptK Ks W W1:=hK0.trans ⟨by omega,fun k hk' _=>by rw[hW1];exact World.putObj_heap_other (by have:=hBs k hk';omega)⟩
 rw[←hW1]
 have fin:∀(jump:Option Code) (W3:World),KeptK (fun k=>Ks k∨k=w.heap.size∨k=w.heap.size+1) W1 W3->∃W4,(Instr.endRound (w.heap.size+1) jump).run P W3=.ok (.bool jump.isNone) W4/\Nb w.heap.size W3 W4/\KeptK Ks W W4/\
   W4.heap[w.heap.size+1]?=some (.loop (recL fn a.tmps ps assign body w.heap.size (if jump.isNone then .ready else .done) jump))/\W4.heap[w.heap.size]?=some (.deferred (some [])):=fun jump W3 hk3=>by
  have hl3:W3.heap[w.heap.size+1]?=some (.loop (recL fn a.tmps ps assign body w.heap.size .busy none)):=(hk3.2 _ (Or.inr (Or.inr rfl)) (by omega)).trans hl1
  have hd3:W3.heap[w.heap.size]?=some (.deferred (some [])):=(hk3.2 _ (Or.inr (Or.inl rfl)) (by omega)).trans hk1
  refine⟨_,run_endRound jump hl3,Nb.put _ (by omega) hl3 rfl,hK1.trans (KeptK.trans ⟨hk3.1,fun k hk' hlk=>hk3.2 k (Or.inl hk') hlk⟩ ⟨by simp,fun k hk' _=>World.putObj_heap_other (by have:=hBs k hk';omega)⟩),World.putObj_heap_same (lt_heap hl3),(World.putObj_heap_other (by omega)).trans hd3⟩
 refine wpIn_mono (hbody _ pre x a' W1 (hI _ _ _ (hI _ _ _ hi hn0) hn1) (hT _ _ _ _ (hT _ _ _ _ ht hn0) hn1) (hAx _ _ _ _ hax hn1) (fun k hk=>by rcases hk with rfl | rfl;exact⟨_,hk1,rfl⟩;exact⟨_,hl1,rfl⟩)) ?_
 rintro e a3 W3 hp
 cases e with
 | normal=>
  obtain⟨W4,h1,h2,h3,h4,h5⟩:=fin none W3 hp.1
  exact⟨_,W4,h1,.inl ⟨rfl,⟨hI _ _ _ hp.2 h2,h4,h5⟩,h3⟩⟩
 | ret=>
  obtain⟨W4,h1,h2,h3,h4,h5⟩:=fin (some .ret) W3 hp.1
  exact⟨_,W4,h1,.inr ⟨rfl,.ret,hIx _ _ _ _ hp.2 h2,h4,h5⟩⟩
 | exit id=>
  obtain⟨W4,h1,h2,h3,h4,h5⟩:=fin (some (.exit id)) W3 hp.1
  exact⟨_,W4,h1,.inr ⟨rfl,.exit id,hIx _ _ _ _ hp.2 h2,h4,h5⟩⟩
 | goto t=>
  obtain⟨W4,h1,h2,h3,h4,h5⟩:=fin (some (.goto t)) W3 hp.1
  exact⟨_,W4,h1,.inr ⟨rfl,.goto t,hIx _ _ _ _ hp.2 h2,h4,h5⟩⟩
 | panic ch=>exact hp.elim
 | outgrown=>exact hp.elim
theorem range_toldK (hg:a.eval g=.func (.func gf) #[] lb) (eg:∀args w,(callFunc gf args).run P w=.ok (.enter gf args) w) (hps:∀x,(encs x).size=ps.size) (hn:1<=n) (hBs:∀k,Ks k->k<w.heap.size)
  {I:List α->World->Prop} {Ix:Code->List α->World->Prop} {T:List α->α->World->Prop} {S:List α->Prop} (hseq:TellsK (n-1) P gf lb encs Ks T S w)
  (hI:∀s A A',I s A->Nb w.heap.size A A'->I s A') (hIx:∀c s A A',Ix c s A->Nb w.heap.size A A'->Ix c s A') (hT:∀s x A A',T s x A->Nb w.heap.size A A'->T s x A') (h0:I [] w) {Ax:α->Act->World->Prop} (hAx:∀x a' A A',Ax x a' A->Nb w.heap.size A A'->Ax x a' A')
  (hassign:∀(l:Nat) (x:α) (W:World) (K:Act->World->Prop),w.heap.size<=W.heap.size->(∀a' W',Below W.heap.size W W'->Ax x a' W'->K a' W')->
   assign.wpIn (Fence.wide.inRound l) (n-1-1) P (Exit.then K (fun _ _ _=>False)) { tmps:=(ps.zip (encs x)).foldl (fun t (p,v)=>t.setIfInBounds p v) a.tmps,defers:=[] } W)
  (hbody:∀(l:Nat) (pre:List α) (x:α) (a':Act) (W:World),I pre W->T pre x W->Ax x a' W->LpB w.heap.size W->body.wpIn (Fence.wide.inRound l) (n-1-1) P (toldPostK (fun k=>Ks k∨k=w.heap.size∨k=w.heap.size+1) I Ix (pre++[x]) W) a' W)
  (hdone:∀(D:Nat) (xs:List α) (W:World),w.heap.size<=D->S xs->I xs W->W.heap[D]?=some (.deferred (some []))->Q .normal { a with defers:={ target:=.collected D,args:=#[] }::a.defers } W)
  (hstop:∀(D:Nat) (c:Code) (pre:List α) (W:World),w.heap.size<=D->Ix c pre W->W.heap[D]?=some (.deferred (some []))->c.wpIn Fence.wide n P Q { a with defers:={ target:=.collected D,args:=#[] }::a.defers } W) :
  (Code.rangeFunc g ps assign body).wpIn Fence.wide n P Q a w:=by
 refine wpIn_rangeFunc fun fn _=>?_
 obtain⟨W1,hW1⟩:∃W1,W1=(w.alloc (.deferred (some []))).alloc (.loop (recL fn a.tmps ps assign body w.heap.size .ready none)):=⟨_,rfl⟩
 have hl1:W1.heap[w.heap.size+1]?=some (.loop (recL fn a.tmps ps assign body w.heap.size .ready none)):=by
  rw[hW1]
  have:=World.alloc_heap_new (w.alloc (.deferred (some []))) (.loop (recL fn a.tmps ps assign body w.heap.size .ready none))
  rwa[World.size_alloc] at this
 have hk1:W1.heap[w.heap.size]?=some (.deferred (some [])):=by
  rw[hW1]
  exact (Below.heap_alloc _ _ _ (by simp)).trans (World.alloc_heap_new w _)
 have hb1:Below w.heap.size w W1:=by
  rw[hW1]
  exact ((Below.refl _ w).alloc (Nat.le_refl _) _).alloc (by simp) _
 have keep:∀{A A':World} {k:Nat} {o:Obj},A.heap[k]?=some o->Below A.heap.size A A'->A'.heap[k]?=some o:=fun h hb=>by
  rw[hb.block _ (lt_heap h)]
  exact h
 refine⟨w.heap.size+1,[{ target:=.collected w.heap.size,args:=#[] }],W1,{ target:=.fn (.func gf) lb,args:=#[.func (.yield (w.heap.size+1)) #[] #[]] },W1,gf,
  #[.func (.yield (w.heap.size+1)) #[] #[]]++lb,W1,by rw[hW1];exact run_enterLoop_outer _ _ _ _ _,by simp only[resolve,hg];simp[go_sem],fun f' hf'=>by simp[Target.leads] at hf';exact trivial,by simp[invoke,go_sem,eg],fun _=>hn,?_⟩
 refine (hseq (w.heap.size+1)
  (fun pre W=>I pre W/\W.heap[w.heap.size+1]?=some (.loop (recL fn a.tmps ps assign body w.heap.size .ready none))/\W.heap[w.heap.size]?=some (.deferred (some [])))
  (fun pre W=>∃c,Ix c pre W/\W.heap[w.heap.size+1]?=some (.loop (recL fn a.tmps ps assign body w.heap.size .done (some c)))/\W.heap[w.heap.size]?=some (.deferred (some [])))
  W1 hb1 (fun s A A' h hb=>⟨hI _ _ _ h.1 (Nb.ofBelow hb),keep h.2.1 hb,keep h.2.2 hb⟩)
  (fun s A A' h hb=>by obtain⟨c,h1,h2,h3⟩:=h;exact⟨c,hIx _ _ _ _ h1 (Nb.ofBelow hb),keep h2 hb,keep h3 hb⟩)
  (fun pre x W h ht=>told_roundK hps hBs hI hIx hT hAx hassign hbody h.1 ht h.2.1 h.2.2) ⟨hI _ _ _ h0 (Nb.ofBelow hb1),hl1,hk1⟩).mono ?_
 rintro e W2 ⟨⟨v,rfl⟩,⟨xs,hS,hi,hl,hk⟩ | ⟨pre,c,hi,hl,hk⟩⟩
 ·exact⟨none,_,run_endLoop hl (by simp[recL]),hdone _ xs _ (Nat.le_refl _) hS (hI _ _ _ hi (Nb.put _ (by omega) hl rfl)) ((World.putObj_heap_other (by omega)).trans hk)⟩
 ·exact⟨some c,_,run_endLoop hl (by simp[recL]),hstop _ c pre _ (Nat.le_refl _) (hIx _ _ _ _ hi (Nb.put _ (by omega) hl rfl)) ((World.putObj_heap_other (by omega)).trans hk)⟩
end
end Go.Proofs.YtbfbkmkjcekpaaaGreatDoor

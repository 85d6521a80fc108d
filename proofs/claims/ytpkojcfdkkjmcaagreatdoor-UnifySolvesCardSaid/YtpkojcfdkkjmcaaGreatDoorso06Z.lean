/- What Pack of package word does where the tag may have the value. -/
import Derived.RangeFuncNested
import Derived.RangeFuncBound
import Derived.Maps.AppendAt
import Derived.RangeFuncBox
import Derived.RangeFuncLeaves
import Derived.RangeFuncCalls
import Derived.Shelf.Abstract
import Derived.OwnWalkIn
import Derived.TacticsInMore
import Derived.LoopNIn
import Derived.LoopIn
import Derived.Test.YtpkojcfdkkjmcaaGreatDoorso03Z
namespace Go.Proofs.YtpkojcfdkkjmcaaGreatDoor
set_option maxRecDepth 100000
open Go.RowKit
theorem ret_pair {a b:Int} {v:Value} (h:a=b):Ending.returned (.tuple #[.int .u64 a,v])=.returned (.tuple #[.int .u64 b,v]):=by rw[h]
theorem or_word (a b:Int) (h0:0<=a) (h1:a<=5):bits .or .u64 (IntKind.u64.wrap (IntKind.u64.wrap b*8)) a=wordOf a b:=by
 have hw:IntKind.u64.wrap (IntKind.u64.wrap b*8)=(b*8) % 18446744073709551616:=by
  rw[IntKind.wrap_u64,IntKind.wrap_u64];omega
 rw[hw,bits_join .u64 64 (by decide) wraps64u 3 _ a (by omega) (by omega) (by omega) h0 (by omega) (by omega)]
 unfold wordOf;omega
set_option maxHeartbeats 400000 in
theorem pack_ok (a b:Int) (w:World) (hf:fitsB a b=true) :
  Calls Tryz.prog 133 #[.int .i64 a,.int .i64 b] w fun e w'=>e=.returned (.tuple #[.int .u64 (wordOf a b),.nilIface])/\w'=w:=by
 have hb:=fits_bd a b hf
 have ht:=fits_tag a b hf
 have H:Hid (bits .or .u64 (IntKind.u64.wrap (IntKind.u64.wrap b*8)) a=wordOf a b):=or_word a b ht.1 ht.2
 go_enter Tryz.func133,Tryz.ntmps133
 go_wp2_with (go_at_call 166;refine (fits_any _ _ _ (by omega) (by omega)).mono ?_;rintro e w' ⟨rfl,rfl⟩)
 go_ret2
 exact⟨ret_pair H.out,rfl⟩
end Go.Proofs.YtpkojcfdkkjmcaaGreatDoor
namespace Go.Proofs.YtpkojcfdkkjmcaaGreatDoor
set_option maxRecDepth 100000
open Go.RowKit Go.Shelf
attribute [local go_sem] Oper.semAt_some
theorem own_shape {W:World} {n₀:Nat} {e:TypeId} {u:Value} {k:Nat} {xs:List Value} (h:W.ownsRow n₀ e 1 u k xs):∃ao c,u=.slice ao k c:=by
 rcases h.2 with⟨rfl,rfl⟩ | ⟨g,cap,cur,rfl,_⟩
 ·exact⟨none,0,rfl⟩
 ·exact⟨_,cap,rfl⟩
end Go.Proofs.YtpkojcfdkkjmcaaGreatDoor

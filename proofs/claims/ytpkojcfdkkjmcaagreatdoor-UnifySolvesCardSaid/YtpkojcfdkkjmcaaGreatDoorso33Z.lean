/- Package cells: a fault of a lower layer, wrapped. -/
import Derived.LaidEql
import Derived.Stop.Asserts
import Derived.RowKitTokens
import Derived.Deep.RegionHeld3
import Derived.Shelf.Abstract
import Derived.OwnWalkIn
import Derived.TacticsInMore
import Derived.LoopNIn
import Derived.LoopIn
import Derived.WalkKit
import Derived.RangeFuncBox
import Derived.RangeFuncNested
import Derived.RangeFuncCalls
import Derived.RangeFuncLeaves
import Derived.Test.YtpkojcfdkkjmcaaGreatDoorso32Z
import Derived.Test.YtpkojcfdkkjmcaaGreatDoorso29Z
import Derived.Test.YtpkojcfdkkjmcaaGreatDoorso30Z
import Derived.Test.YtpkojcfdkkjmcaaGreatDoorso27Z
import Derived.Test.YtpkojcfdkkjmcaaGreatDoorso24Z
namespace Go.Proofs.YtpkojcfdkkjmcaaGreatDoor
set_option maxRecDepth 100000
open Go.RowKit
def ErrC (w:World):Prop:=w.cell? ⟨0,0,none⟩=some (.iface 247 (.agg #[.pointer (some ⟨1,26,none⟩)]))
end Go.Proofs.YtpkojcfdkkjmcaaGreatDoor
namespace Go.Proofs.YtpkojcfdkkjmcaaGreatDoor
set_option maxRecDepth 100000
open Go.RowKit
section
variable {w w':World} {B hb ab tb:Nat} {m:Int} {av:Value} {l:List Int} {tv:Value} {tq:Nat} {ns:List ByteArray} {trv:Value} {tr:List Te} {ptv:Value} {pt:List Pe} {n:Int}
theorem Hq.keep {ks:List Nat} (h:Hq w B hb ab tb m av l tv tq ns trv tr ptv pt n) (hm:a_Mod ks w w') (hk:∀k∈ks,k∉qfoot hb ab av trv ptv/\k∉n_foot tb tv tq):Hq w' B hb ab tb m av l tv tq ns trv tr ptv pt n:=by
 obtain⟨r1,r2⟩:=h.rows hm (fun k hx hy=>(hk k hx).1 (mem_qfoot.2 (Or.inr (Or.inr hy))))
 exact⟨⟨(hm.block hb (lt_of_block h.hp.blk) (fun hx=>(hk hb hx).1 (mem_qfoot.2 (Or.inl rfl)))).trans h.hp.blk,h.hp.base,h.hp.ar.keep hm (fun k hx hy=>(hk k hx).1 (mem_qfoot.2 (Or.inr (Or.inl hy)))),h.hp.tb.keep (mod_an hm) (fun k hx=>(hk k hx).2)⟩,r1,r2⟩
end
end Go.Proofs.YtpkojcfdkkjmcaaGreatDoor

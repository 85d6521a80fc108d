/- What the rows' condition on package-level variables gives package cells, and that the program's own start meets it. -/
import Derived.Test.YtpkojcfdkkjmcaaGreatDoorTie
import Derived.Test.YtpkojcfdkkjmcaaGreatDoorCards
import Derived.ProofKit
import Derived.LaidMore
import Derived.LaidHandle
import Derived.OpenShut
import Derived.Stop.Joined
import Derived.Stop.LaidErr
import Derived.Deep.RegionHeld3
import Derived.Test.YtpkojcfdkkjmcaaGreatDoorso33Z
import Derived.Test.YtpkojcfdkkjmcaaGreatDoorso04Z
import Derived.Test.YtpkojcfdkkjmcaaGreatDoorso27Z
import Derived.Test.YtpkojcfdkkjmcaaGreatDoorso30Z
import Derived.Test.YtpkojcfdkkjmcaaGreatDoorso32Z
import Derived.Test.YtpkojcfdkkjmcaaGreatDoorso24Z
import Derived.Test.YtpkojcfdkkjmcaaGreatDoorso31Z
import Derived.Test.YtpkojcfdkkjmcaaGreatDoorso09Z
import Derived.Test.YtpkojcfdkkjmcaaGreatDoorso11Z
namespace Go.Proofs.YtpkojcfdkkjmcaaGreatDoor
set_option maxRecDepth 100000
open Go.ChangeShapes Go.WideShapes Go.ChangeAt Go.RowKit
theorem globEt : Tryz.prog.globalNamed "errors.errorType" = some 0 := by kernel_rfl
theorem rtEt : (Tryz.prog.cutTypes.find? (·.1 == "internal/reflectlite.rtype")).map (·.2) = some 247 := by kernel_rfl
theorem oneEt:((List.range 314).filter fun t=>Tryz.prog.rowNamed t [101,114,114,111,114])=[26]:=by kernel_rfl
theorem sizeEt:Tryz.prog.types.size=314:=by kernel_rfl
theorem ready_of_laid {W:World} (h:laidMetH Tryz.prog Rows.unifyPlaysRow.laid W):ErrC W:=by
 have h' : laidMet Tryz.prog [] W ∧ handlesMet Tryz.prog [("errors.errorType", Rows.laid_errors_errorType)] W := h
 obtain⟨name,u,ty,e1,e2,e3,e4,e5⟩:=h'.2 _ (List.mem_singleton.2 rfl)
 have en:name=[101,114,114,111,114]:=(Option.some.inj e1).symm
 subst en
 obtain rfl:=Option.some.inj (rtEt.symm.trans e2)
 have hm:ty∈(List.range 314).filter fun t=>Tryz.prog.rowNamed t [101,114,114,111,114]:=List.mem_filter.2 ⟨List.mem_range.2 (by rw[←sizeEt];exact e3),e4⟩
 rw[oneEt] at hm
 obtain rfl:=List.mem_singleton.1 hm
 have hh:typeHandle Tryz.prog 26=.pointer (some ⟨1,26,none⟩):=by kernel_rfl
 rw[hh] at e5
 have:=World.var?_cell globEt e5 0
 show W.cell? _=_
 simpa using this
theorem door_met (os:Os) (args:Array Value):laidMetH Tryz.prog Rows.unifyPlaysRow.laid ((World.doorLaid Tryz.prog 16 os).forCall (fun _ _=>0) ⟨#[],args,[]⟩).memory:=
 laidMetH_of_parts3 (fuel:=8) (laidMet_of_run' 8 (by kernel_rfl) (by kernel_rfl)) (by kernel_rfl) (by kernel_rfl)
end Go.Proofs.YtpkojcfdkkjmcaaGreatDoor
namespace Go.Proofs.YtpkojcfdkkjmcaaGreatDoor
set_option maxRecDepth 100000
open Go.RowKit
def csL (b n:Nat):List Int:=(List.range n).map (fun i=>((b+i:Nat):Int))
def nsP (ns:List ByteArray) (g:Gf):List ByteArray:=wthJ ns g (metF g) (metF g).length
def wdP (l:List Int) (ns:List ByteArray) (g:Gf):List Int:=l++putW (nsP ns g) g (metF g) l.length
theorem wthJ_ge (ns:List ByteArray) (g:Gf) (met:List Int):∀j,ns.length<=(wthJ ns g met j).length
 | 0=>Nat.le_refl _
 | j+1=>by
  have h1:=wthJ_ge ns g met j
  show _<=(wth1 _ _).length
  unfold wth1
  split
  ·exact h1
  ·simp
   omega
theorem names_in {g:Gf} (hg:Good g) (ns:List ByteArray):∀x∈metF g,(g.nodes.getD x.toNat nd0).kind=2∨(g.nodes.getD x.toNat nd0).kind=4->inL (nsP ns g) (g.nodes.getD x.toNat nd0).name=true:=fun x hx hk=>by
 have hr:=(met_ok hg).rng x hx
 have hgd:=hg.node (g.nodes.getD x.toNat nd0) (by
  have:x.toNat<g.nodes.length:=by omega
  simp[List.getD,this])
 have hs:(g.nodes.getD x.toNat nd0).name.size≠0:=by
  have h1:goodS (g.nodes.getD x.toNat nd0).name=true:=by
   unfold goodNd at hgd
   rcases hk with k | k
   ·rw[if_neg (by omega),if_pos k] at hgd
    simp only[Bool.and_eq_true] at hgd
    exact hgd.1.1
   ·rw[if_neg (by omega),if_neg (by omega),if_neg (by omega),if_pos k] at hgd
    simp only[Bool.and_eq_true] at hgd
    exact hgd.1.1.1.1
  have:=goodS_size h1
  omega
 have h2:=wthJ_in ns g (metF g) (pos_lt hx) (by rw[pos_at hx];exact hs)
 rw[pos_at hx] at h2
 exact h2
end Go.Proofs.YtpkojcfdkkjmcaaGreatDoor

import Derived.Test.YthdffenpkdbejaaGreatDoorRows
import Derived.JoinedOf
import Derived.WalkKit
import Derived.ProofKit
namespace Go.Proofs.YthdffenpkdbejaaGreatDoor.atomic
open Go.ChangeShapes Go.WideShapes Go.ChangeAt Go.RowKit

theorem inPlace_eq : Tryz.prog.inPlace 10 = Rows.atomicRow.inPlace := by kernel_rfl
theorem named_eq : Tryz.prog.varsNamed 10 = Rows.atomicRow.named := by kernel_rfl
theorem unfollowed_eq : Tryz.prog.unfollowed 10 = Rows.atomicRow.unfollowed := by kernel_rfl
theorem recurses_eq : Tryz.prog.recurses 10 = Rows.atomicRow.recurses := by kernel_rfl
theorem stops_eq : Tryz.prog.stops = [] := by kernel_rfl
theorem knobs_eq : Tryz.prog.stopKnobs = [] := by kernel_rfl
theorem laidOut : laidOutB Tryz.prog = true := by kernel_rfl
theorem maps_eq : mapsRowed Tryz.prog = true := by kernel_rfl
/-- the row's closed facts -/
theorem closed : joinedFacts Tryz.prog 10 Tryz.f10 Rows.atomicSpec Rows.atomicRow = true := by
  unfold joinedFacts
  rw [inPlace_eq, named_eq, unfollowed_eq, recurses_eq, stops_eq, knobs_eq, laidOut, maps_eq]
  kernel_rfl
end Go.Proofs.YthdffenpkdbejaaGreatDoor.atomic

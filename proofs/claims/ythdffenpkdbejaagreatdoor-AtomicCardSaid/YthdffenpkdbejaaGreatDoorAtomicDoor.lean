import Derived.Test.YthdffenpkdbejaaGreatDoorRows
import Derived.WalkKit
import Derived.ProofKit
import Derived.LaidMore
namespace Go.Proofs.YthdffenpkdbejaaGreatDoor.atomic
open Go.ChangeShapes Go.WideShapes Go.ChangeAt Go.RowKit

theorem door_met (os : Os) (args : Array Value) : laidMetH Tryz.prog Rows.atomicRow.laid ((World.doorLaid Tryz.prog 221 os).forCall (fun _ _ => 0) ⟨#[], args, []⟩).memory :=
  laidMetH_of_parts3 (fuel := 8) (laidMet_of_run' 8 (by kernel_rfl) (by kernel_rfl)) (by kernel_rfl) (by kernel_rfl)
end Go.Proofs.YthdffenpkdbejaaGreatDoor.atomic

/-
  DERIVED. GIVEN WITH THE SEED: THE CARDS: each row of YtgabjgphodihlaaGreatDoorRows.lean that lists a variable, with what it lists TIED to the program's text (the seventh form; the later family's looks); each row that meets fmt, with fmt's text TOLD by the authors' own Lean function (tested against real Go, not proved from fmt's source: count such statements apart). THE CARD IS WHAT COUNTS. Prove the row's statement (the work); the ties are given (YtgabjgphodihlaaGreatDoorTie.lean); close each card by the builder's one call (the guide's Derived/Test/ToyasCard.lean, 'card_holds'). Laid BY PROGRAM, IN A SANDBOX (cutbox-door.mjs). By AI agents, Wed Nov 11 2026. No macro, syntax, notation, axiom, sorry.
-/
import Derived.Test.YtgabjgphodihlaaGreatDoorRows
import GoSem.ClaimSeven
namespace Go.Proofs.YtgabjgphodihlaaGreatDoor
namespace Rows

/-- THE TIED CARD OF 'annallaw.Tables'. -/
def tablesCard : Claim7 := { stood := { row := tablesRow, standIns := [], harness := (true, "4bb353c05d44f23d46b971cab7d14fd9e1cf56cbc9414fa8ddb0518b044c9e3b"), looks := true }, kinds := [], alts := [], goes := true, laidByText := true, laidKinds := [.data, .data, .data, .handle, .sentinel, .sentinel, .sentinel, .sentinel, .sentinel, .sentinel, .sentinel, .sentinel, .sentinel, .sentinel], laidTests := true, laidLooks := .later }
def TablesCardSaid : Prop := Claim7.holds Tryz.pinned (.plain (OpenSpec.ofChange tablesSpec)) tablesCard

/-- THE TIED CARD OF 'annallaw.Logs'. -/
def logsCard : Claim7 := { stood := { row := logsRow, standIns := [], harness := (true, "4bb353c05d44f23d46b971cab7d14fd9e1cf56cbc9414fa8ddb0518b044c9e3b"), looks := true }, kinds := [], alts := [], goes := true, laidByText := true, laidKinds := [.data, .data, .data, .handle, .sentinel, .sentinel, .sentinel, .sentinel, .sentinel, .sentinel, .sentinel, .sentinel, .sentinel, .sentinel], laidTests := true, laidLooks := .later }
def LogsCardSaid : Prop := Claim7.holds Tryz.pinned (.plain (OpenSpec.ofChange logsSpec)) logsCard

/-- THE TIED CARD OF 'annalkeep.Outlives'. -/
def outlivesCard : Claim7 := { stood := { row := outlivesRow, standIns := [], harness := (true, "4bb353c05d44f23d46b971cab7d14fd9e1cf56cbc9414fa8ddb0518b044c9e3b"), looks := true }, kinds := [], alts := [], goes := true, laidByText := true, laidKinds := [.data, .data, .data, .handle, .sentinel, .sentinel, .sentinel, .sentinel, .sentinel, .sentinel, .sentinel, .sentinel, .sentinel, .sentinel], laidTests := true, laidLooks := .later }
def OutlivesCardSaid : Prop := Claim7.holds Tryz.pinned (.plain (OpenSpec.ofChange outlivesSpec)) outlivesCard

/-- THE TIED CARD OF 'annalkeep.Steady'. -/
def steadyCard : Claim7 := { stood := { row := steadyRow, standIns := [], harness := (true, "4bb353c05d44f23d46b971cab7d14fd9e1cf56cbc9414fa8ddb0518b044c9e3b"), looks := true }, kinds := [], alts := [], goes := true, laidByText := true, laidKinds := [.data, .data, .data, .handle, .sentinel, .sentinel, .sentinel, .sentinel, .sentinel, .sentinel, .sentinel, .sentinel, .sentinel, .sentinel], laidTests := true, laidLooks := .later }
def SteadyCardSaid : Prop := Claim7.holds Tryz.pinned (.plain (OpenSpec.ofChange steadySpec)) steadyCard

/-- THE TIED CARD OF 'annalkeep.Atomic'. -/
def atomicCard : Claim7 := { stood := { row := atomicRow, standIns := [], harness := (true, "4bb353c05d44f23d46b971cab7d14fd9e1cf56cbc9414fa8ddb0518b044c9e3b"), looks := true }, kinds := [], alts := [], goes := true, laidByText := true, laidKinds := [.data, .data, .data, .handle, .sentinel, .sentinel, .sentinel, .sentinel, .sentinel, .sentinel, .sentinel, .sentinel, .sentinel, .sentinel], laidTests := true, laidLooks := .later }
def AtomicCardSaid : Prop := Claim7.holds Tryz.pinned (.plain (OpenSpec.ofChange atomicSpec)) atomicCard

/-- THE SECOND FORM's CARD OF 'annallaw.Tables'. -/
def tablesUptoCard : Claim7 := { stood := { row := tablesUptoRow, standIns := [], harness := (true, "4bb353c05d44f23d46b971cab7d14fd9e1cf56cbc9414fa8ddb0518b044c9e3b"), looks := true }, kinds := [], alts := [], goes := true, laidByText := true, laidKinds := [.data, .data, .data, .handle, .sentinel, .sentinel, .sentinel, .sentinel, .sentinel, .sentinel, .sentinel, .sentinel, .sentinel, .sentinel], laidTests := true, laidLooks := .later }
def TablesUptoCardSaid : Prop := Claim7.holds Tryz.pinned (.plain (OpenSpec.upto tablesSpec)) tablesUptoCard

/-- THE SECOND FORM's CARD OF 'annallaw.Logs'. -/
def logsUptoCard : Claim7 := { stood := { row := logsUptoRow, standIns := [], harness := (true, "4bb353c05d44f23d46b971cab7d14fd9e1cf56cbc9414fa8ddb0518b044c9e3b"), looks := true }, kinds := [], alts := [], goes := true, laidByText := true, laidKinds := [.data, .data, .data, .handle, .sentinel, .sentinel, .sentinel, .sentinel, .sentinel, .sentinel, .sentinel, .sentinel, .sentinel, .sentinel], laidTests := true, laidLooks := .later }
def LogsUptoCardSaid : Prop := Claim7.holds Tryz.pinned (.plain (OpenSpec.upto logsSpec)) logsUptoCard

/-- THE SECOND FORM's CARD OF 'annalkeep.Outlives'. -/
def outlivesUptoCard : Claim7 := { stood := { row := outlivesUptoRow, standIns := [], harness := (true, "4bb353c05d44f23d46b971cab7d14fd9e1cf56cbc9414fa8ddb0518b044c9e3b"), looks := true }, kinds := [], alts := [], goes := true, laidByText := true, laidKinds := [.data, .data, .data, .handle, .sentinel, .sentinel, .sentinel, .sentinel, .sentinel, .sentinel, .sentinel, .sentinel, .sentinel, .sentinel], laidTests := true, laidLooks := .later }
def OutlivesUptoCardSaid : Prop := Claim7.holds Tryz.pinned (.plain (OpenSpec.upto outlivesSpec)) outlivesUptoCard

/-- THE SECOND FORM's CARD OF 'annalkeep.Steady'. -/
def steadyUptoCard : Claim7 := { stood := { row := steadyUptoRow, standIns := [], harness := (true, "4bb353c05d44f23d46b971cab7d14fd9e1cf56cbc9414fa8ddb0518b044c9e3b"), looks := true }, kinds := [], alts := [], goes := true, laidByText := true, laidKinds := [.data, .data, .data, .handle, .sentinel, .sentinel, .sentinel, .sentinel, .sentinel, .sentinel, .sentinel, .sentinel, .sentinel, .sentinel], laidTests := true, laidLooks := .later }
def SteadyUptoCardSaid : Prop := Claim7.holds Tryz.pinned (.plain (OpenSpec.upto steadySpec)) steadyUptoCard

/-- THE SECOND FORM's CARD OF 'annalkeep.Atomic'. -/
def atomicUptoCard : Claim7 := { stood := { row := atomicUptoRow, standIns := [], harness := (true, "4bb353c05d44f23d46b971cab7d14fd9e1cf56cbc9414fa8ddb0518b044c9e3b"), looks := true }, kinds := [], alts := [], goes := true, laidByText := true, laidKinds := [.data, .data, .data, .handle, .sentinel, .sentinel, .sentinel, .sentinel, .sentinel, .sentinel, .sentinel, .sentinel, .sentinel, .sentinel], laidTests := true, laidLooks := .later }
def AtomicUptoCardSaid : Prop := Claim7.holds Tryz.pinned (.plain (OpenSpec.upto atomicSpec)) atomicUptoCard
end Rows
end Go.Proofs.YtgabjgphodihlaaGreatDoor

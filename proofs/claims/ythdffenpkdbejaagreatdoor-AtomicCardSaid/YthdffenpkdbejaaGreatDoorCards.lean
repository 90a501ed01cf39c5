/-
  DERIVED. GIVEN WITH THE SEED: THE CARDS: each row of YthdffenpkdbejaaGreatDoorRows.lean that lists a variable, with what it lists TIED to the program's text (the seventh form; the later family's looks); each row that meets fmt, with fmt's text TOLD by the authors' own Lean function (tested against real Go, not proved from fmt's source: count such statements apart). THE CARD IS WHAT COUNTS. Prove the row's statement (the work); the ties are given (YthdffenpkdbejaaGreatDoorTie.lean); close each card by the builder's one call (the guide's Derived/Test/ToyasCard.lean, 'card_holds'). Laid BY PROGRAM, IN A SANDBOX (cutbox-door.mjs). By AI agents, Wed Nov 11 2026. No macro, syntax, notation, axiom, sorry.
-/
import Derived.Test.YthdffenpkdbejaaGreatDoorRows
import GoSem.ClaimSeven
namespace Go.Proofs.YthdffenpkdbejaaGreatDoor
namespace Rows

/-- THE TIED CARD OF 'annallaw.Tables'. -/
def tablesCard : Claim7 := { stood := { row := tablesRow, standIns := [], harness := (true, "b5a3cf1222cd79c62fe9cc5268734d75b8020dbd7ac55e568fe021b3556c6d12"), looks := true }, kinds := [], alts := [], goes := true, laidByText := true, laidKinds := [.data, .data, .data, .handle, .sentinel, .sentinel, .sentinel, .sentinel, .sentinel, .sentinel, .sentinel, .sentinel, .sentinel, .sentinel], laidTests := true, laidLooks := .later }
def TablesCardSaid : Prop := Claim7.holds Tryz.pinned (.plain (OpenSpec.ofChange tablesSpec)) tablesCard

/-- THE TIED CARD OF 'annallaw.Logs'. -/
def logsCard : Claim7 := { stood := { row := logsRow, standIns := [], harness := (true, "b5a3cf1222cd79c62fe9cc5268734d75b8020dbd7ac55e568fe021b3556c6d12"), looks := true }, kinds := [], alts := [], goes := true, laidByText := true, laidKinds := [.data, .data, .data, .handle, .sentinel, .sentinel, .sentinel, .sentinel, .sentinel, .sentinel, .sentinel, .sentinel, .sentinel, .sentinel], laidTests := true, laidLooks := .later }
def LogsCardSaid : Prop := Claim7.holds Tryz.pinned (.plain (OpenSpec.ofChange logsSpec)) logsCard

/-- THE TIED CARD OF 'annallaw.All'. -/
def allCard : Claim7 := { stood := { row := allRow, standIns := [], harness := (true, "b5a3cf1222cd79c62fe9cc5268734d75b8020dbd7ac55e568fe021b3556c6d12"), looks := true }, kinds := [], alts := [], goes := true, laidByText := true, laidKinds := [.data, .data, .data, .handle, .sentinel, .sentinel, .sentinel, .sentinel, .sentinel, .sentinel, .sentinel, .sentinel, .sentinel, .sentinel], laidTests := true, laidLooks := .later }
def AllCardSaid : Prop := Claim7.holds Tryz.pinned (.plain (OpenSpec.ofChange allSpec)) allCard

/-- THE TIED CARD OF 'annalkeep.Outlives'. -/
def outlivesCard : Claim7 := { stood := { row := outlivesRow, standIns := [], harness := (true, "b5a3cf1222cd79c62fe9cc5268734d75b8020dbd7ac55e568fe021b3556c6d12"), looks := true }, kinds := [], alts := [], goes := true, laidByText := true, laidKinds := [.data, .data, .data, .handle, .sentinel, .sentinel, .sentinel, .sentinel, .sentinel, .sentinel, .sentinel, .sentinel, .sentinel, .sentinel], laidTests := true, laidLooks := .later }
def OutlivesCardSaid : Prop := Claim7.holds Tryz.pinned (.plain (OpenSpec.ofChange outlivesSpec)) outlivesCard

/-- THE TIED CARD OF 'annalkeep.Frozen'. -/
def frozenCard : Claim7 := { stood := { row := frozenRow, standIns := [], harness := (true, "b5a3cf1222cd79c62fe9cc5268734d75b8020dbd7ac55e568fe021b3556c6d12"), looks := true }, kinds := [], alts := [], goes := true, laidByText := true, laidKinds := [.data, .data, .data, .handle, .sentinel, .sentinel, .sentinel, .sentinel, .sentinel, .sentinel, .sentinel, .sentinel, .sentinel, .sentinel], laidTests := true, laidLooks := .later }
def FrozenCardSaid : Prop := Claim7.holds Tryz.pinned (.plain (OpenSpec.ofChange frozenSpec)) frozenCard

/-- THE TIED CARD OF 'annalkeep.Trimmed'. -/
def trimmedCard : Claim7 := { stood := { row := trimmedRow, standIns := [], harness := (true, "b5a3cf1222cd79c62fe9cc5268734d75b8020dbd7ac55e568fe021b3556c6d12"), looks := true }, kinds := [], alts := [], goes := true, laidByText := true, laidKinds := [.data, .data, .data, .handle, .sentinel, .sentinel, .sentinel, .sentinel, .sentinel, .sentinel, .sentinel, .sentinel, .sentinel, .sentinel], laidTests := true, laidLooks := .later }
def TrimmedCardSaid : Prop := Claim7.holds Tryz.pinned (.plain (OpenSpec.ofChange trimmedSpec)) trimmedCard

/-- THE TIED CARD OF 'annalkeep.Steady'. -/
def steadyCard : Claim7 := { stood := { row := steadyRow, standIns := [], harness := (true, "b5a3cf1222cd79c62fe9cc5268734d75b8020dbd7ac55e568fe021b3556c6d12"), looks := true }, kinds := [], alts := [], goes := true, laidByText := true, laidKinds := [.data, .data, .data, .handle, .sentinel, .sentinel, .sentinel, .sentinel, .sentinel, .sentinel, .sentinel, .sentinel, .sentinel, .sentinel], laidTests := true, laidLooks := .later }
def SteadyCardSaid : Prop := Claim7.holds Tryz.pinned (.plain (OpenSpec.ofChange steadySpec)) steadyCard

/-- THE TIED CARD OF 'annalkeep.Atomic'. -/
def atomicCard : Claim7 := { stood := { row := atomicRow, standIns := [], harness := (true, "b5a3cf1222cd79c62fe9cc5268734d75b8020dbd7ac55e568fe021b3556c6d12"), looks := true }, kinds := [], alts := [], goes := true, laidByText := true, laidKinds := [.data, .data, .data, .handle, .sentinel, .sentinel, .sentinel, .sentinel, .sentinel, .sentinel, .sentinel, .sentinel, .sentinel, .sentinel], laidTests := true, laidLooks := .later }
def AtomicCardSaid : Prop := Claim7.holds Tryz.pinned (.plain (OpenSpec.ofChange atomicSpec)) atomicCard

/-- THE TIED CARD OF 'annalkeep.Refused'. -/
def refusedCard : Claim7 := { stood := { row := refusedRow, standIns := [], harness := (true, "b5a3cf1222cd79c62fe9cc5268734d75b8020dbd7ac55e568fe021b3556c6d12"), looks := true }, kinds := [], alts := [], goes := true, laidByText := true, laidKinds := [.data, .data, .data, .handle, .sentinel, .sentinel, .sentinel, .sentinel, .sentinel, .sentinel, .sentinel, .sentinel, .sentinel, .sentinel], laidTests := true, laidLooks := .later }
def RefusedCardSaid : Prop := Claim7.holds Tryz.pinned (.plain (OpenSpec.ofChange refusedSpec)) refusedCard

/-- THE SECOND FORM's CARD OF 'annallaw.Tables'. -/
def tablesUptoCard : Claim7 := { stood := { row := tablesUptoRow, standIns := [], harness := (true, "b5a3cf1222cd79c62fe9cc5268734d75b8020dbd7ac55e568fe021b3556c6d12"), looks := true }, kinds := [], alts := [], goes := true, laidByText := true, laidKinds := [.data, .data, .data, .handle, .sentinel, .sentinel, .sentinel, .sentinel, .sentinel, .sentinel, .sentinel, .sentinel, .sentinel, .sentinel], laidTests := true, laidLooks := .later }
def TablesUptoCardSaid : Prop := Claim7.holds Tryz.pinned (.plain (OpenSpec.upto tablesSpec)) tablesUptoCard

/-- THE SECOND FORM's CARD OF 'annallaw.Logs'. -/
def logsUptoCard : Claim7 := { stood := { row := logsUptoRow, standIns := [], harness := (true, "b5a3cf1222cd79c62fe9cc5268734d75b8020dbd7ac55e568fe021b3556c6d12"), looks := true }, kinds := [], alts := [], goes := true, laidByText := true, laidKinds := [.data, .data, .data, .handle, .sentinel, .sentinel, .sentinel, .sentinel, .sentinel, .sentinel, .sentinel, .sentinel, .sentinel, .sentinel], laidTests := true, laidLooks := .later }
def LogsUptoCardSaid : Prop := Claim7.holds Tryz.pinned (.plain (OpenSpec.upto logsSpec)) logsUptoCard

/-- THE SECOND FORM's CARD OF 'annallaw.All'. -/
def allUptoCard : Claim7 := { stood := { row := allUptoRow, standIns := [], harness := (true, "b5a3cf1222cd79c62fe9cc5268734d75b8020dbd7ac55e568fe021b3556c6d12"), looks := true }, kinds := [], alts := [], goes := true, laidByText := true, laidKinds := [.data, .data, .data, .handle, .sentinel, .sentinel, .sentinel, .sentinel, .sentinel, .sentinel, .sentinel, .sentinel, .sentinel, .sentinel], laidTests := true, laidLooks := .later }
def AllUptoCardSaid : Prop := Claim7.holds Tryz.pinned (.plain (OpenSpec.upto allSpec)) allUptoCard

/-- THE SECOND FORM's CARD OF 'annalkeep.Outlives'. -/
def outlivesUptoCard : Claim7 := { stood := { row := outlivesUptoRow, standIns := [], harness := (true, "b5a3cf1222cd79c62fe9cc5268734d75b8020dbd7ac55e568fe021b3556c6d12"), looks := true }, kinds := [], alts := [], goes := true, laidByText := true, laidKinds := [.data, .data, .data, .handle, .sentinel, .sentinel, .sentinel, .sentinel, .sentinel, .sentinel, .sentinel, .sentinel, .sentinel, .sentinel], laidTests := true, laidLooks := .later }
def OutlivesUptoCardSaid : Prop := Claim7.holds Tryz.pinned (.plain (OpenSpec.upto outlivesSpec)) outlivesUptoCard

/-- THE SECOND FORM's CARD OF 'annalkeep.Frozen'. -/
def frozenUptoCard : Claim7 := { stood := { row := frozenUptoRow, standIns := [], harness := (true, "b5a3cf1222cd79c62fe9cc5268734d75b8020dbd7ac55e568fe021b3556c6d12"), looks := true }, kinds := [], alts := [], goes := true, laidByText := true, laidKinds := [.data, .data, .data, .handle, .sentinel, .sentinel, .sentinel, .sentinel, .sentinel, .sentinel, .sentinel, .sentinel, .sentinel, .sentinel], laidTests := true, laidLooks := .later }
def FrozenUptoCardSaid : Prop := Claim7.holds Tryz.pinned (.plain (OpenSpec.upto frozenSpec)) frozenUptoCard

/-- THE SECOND FORM's CARD OF 'annalkeep.Trimmed'. -/
def trimmedUptoCard : Claim7 := { stood := { row := trimmedUptoRow, standIns := [], harness := (true, "b5a3cf1222cd79c62fe9cc5268734d75b8020dbd7ac55e568fe021b3556c6d12"), looks := true }, kinds := [], alts := [], goes := true, laidByText := true, laidKinds := [.data, .data, .data, .handle, .sentinel, .sentinel, .sentinel, .sentinel, .sentinel, .sentinel, .sentinel, .sentinel, .sentinel, .sentinel], laidTests := true, laidLooks := .later }
def TrimmedUptoCardSaid : Prop := Claim7.holds Tryz.pinned (.plain (OpenSpec.upto trimmedSpec)) trimmedUptoCard

/-- THE SECOND FORM's CARD OF 'annalkeep.Steady'. -/
def steadyUptoCard : Claim7 := { stood := { row := steadyUptoRow, standIns := [], harness := (true, "b5a3cf1222cd79c62fe9cc5268734d75b8020dbd7ac55e568fe021b3556c6d12"), looks := true }, kinds := [], alts := [], goes := true, laidByText := true, laidKinds := [.data, .data, .data, .handle, .sentinel, .sentinel, .sentinel, .sentinel, .sentinel, .sentinel, .sentinel, .sentinel, .sentinel, .sentinel], laidTests := true, laidLooks := .later }
def SteadyUptoCardSaid : Prop := Claim7.holds Tryz.pinned (.plain (OpenSpec.upto steadySpec)) steadyUptoCard

/-- THE SECOND FORM's CARD OF 'annalkeep.Atomic'. -/
def atomicUptoCard : Claim7 := { stood := { row := atomicUptoRow, standIns := [], harness := (true, "b5a3cf1222cd79c62fe9cc5268734d75b8020dbd7ac55e568fe021b3556c6d12"), looks := true }, kinds := [], alts := [], goes := true, laidByText := true, laidKinds := [.data, .data, .data, .handle, .sentinel, .sentinel, .sentinel, .sentinel, .sentinel, .sentinel, .sentinel, .sentinel, .sentinel, .sentinel], laidTests := true, laidLooks := .later }
def AtomicUptoCardSaid : Prop := Claim7.holds Tryz.pinned (.plain (OpenSpec.upto atomicSpec)) atomicUptoCard

/-- THE SECOND FORM's CARD OF 'annalkeep.Refused'. -/
def refusedUptoCard : Claim7 := { stood := { row := refusedUptoRow, standIns := [], harness := (true, "b5a3cf1222cd79c62fe9cc5268734d75b8020dbd7ac55e568fe021b3556c6d12"), looks := true }, kinds := [], alts := [], goes := true, laidByText := true, laidKinds := [.data, .data, .data, .handle, .sentinel, .sentinel, .sentinel, .sentinel, .sentinel, .sentinel, .sentinel, .sentinel, .sentinel, .sentinel], laidTests := true, laidLooks := .later }
def RefusedUptoCardSaid : Prop := Claim7.holds Tryz.pinned (.plain (OpenSpec.upto refusedSpec)) refusedUptoCard
end Rows
end Go.Proofs.YthdffenpkdbejaaGreatDoor

import Derived.Test.YthdffenpkdbejaaGreatDoorAtomicProof
import Derived.Test.YthdffenpkdbejaaGreatDoorCards
import Derived.Test.YthdffenpkdbejaaGreatDoorTie
import Derived.SevenTiedAt
namespace Go.Proofs.YthdffenpkdbejaaGreatDoor
open Go

/-- no stand-in is wanted -/
theorem atomic_looks (f : FuncId) (fn : Func) (hf : Tryz.pinned.checked.prog.funcNamed Rows.atomicRow.func = some f) (hfn : Tryz.pinned.checked.prog.funcs[f]? = some fn) :
    Rows.atomicCard.stood.looks = Tryz.pinned.checked.prog.looks [] ∧ ∀ (j : Nat) t, fn.params[j]? = some t → Tryz.pinned.checked.prog.wantsStandIn t = false := by
  obtain rfl : f = 10 := Option.some.inj ((show Tryz.prog.funcNamed Rows.atomicRow.func = some 10 by kernel_rfl).symm.trans hf) |>.symm
  obtain rfl : fn = Tryz.f10 := (Option.some.inj (Tryz.func10.symm.trans hfn)).symm
  exact ⟨by kernel_rfl, fun j t ht => by
    rw [Tryz.params10] at ht
    have hm : t ∈ [30, 3, 3, 3] := by simpa using Array.mem_of_getElem? ht
    have hall : ([30, 3, 3, 3].all fun u => !Tryz.prog.wantsStandIn u) = true := by kernel_rfl
    exact (show Tryz.prog.wantsStandIn t = false by simpa using List.all_eq_true.1 hall t hm)⟩

/-- a tied card whose cell 'goes' is what the program gives (the kit's builder has it false) -/
theorem tied_goes {p : Pinned} {s : OpenSpec} {c : OpenClaim} (kinds : List LaidKind) (tests : Bool) (har : Bool × String) (lk g : Bool) (hc : c.holds p s) (hw : c.wfByText s = true) (htie : c.laidByTextAt .later p kinds tests)
    (hst : c.start = .entering) (hnb : c.noBlocks = false ∧ c.again = false) (hm : p.checked.prog.mainIs = some (har.1, har.2.toList)) (hn : (!har.1 && har.2.isEmpty && !lk) = false)
    (hl : ∀ f fn, p.checked.prog.funcNamed c.func = some f → p.checked.prog.funcs[f]? = some fn → lk = p.checked.prog.looks [] ∧ ∀ (j : Nat) t, fn.params[j]? = some t → p.checked.prog.wantsStandIn t = false)
    (hg : g = c.goesBy p.checked.prog) :
    Claim7.holds p (.plain s) { stood := { row := c, standIns := [], harness := har, looks := lk }, kinds := [], alts := [], goes := g, laidByText := true, laidKinds := kinds, laidTests := tests, laidLooks := .later } := by
  refine ⟨Claim7.tied_new_at .later kinds tests (Claim7.new_of_sixth hc har lk hst hnb hm ?_ hl) hw, fun D hD => ?_, htie, fun h => ?_, hg⟩
  · simpa [Claim7.isSixth] using hn
  · cases hD
  · cases h

/-- THE CARD -/
theorem card_holds : Rows.AtomicCardSaid :=
  tied_goes Rows.atomicCard.laidKinds true Rows.atomicCard.stood.harness Rows.atomicCard.stood.looks true atomic.proved (by kernel_rfl) atomic_row_tie rfl ⟨rfl, rfl⟩ (by kernel_rfl) (by kernel_rfl) atomic_looks (by kernel_rfl)
#print axioms card_holds
end Go.Proofs.YthdffenpkdbejaaGreatDoor

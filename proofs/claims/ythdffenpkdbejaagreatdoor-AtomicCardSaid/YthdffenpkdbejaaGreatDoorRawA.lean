import Derived.Test.YthdffenpkdbejaaGreatDoorKeepI
namespace Go.Proofs.YthdffenpkdbejaaGreatDoor
open Go.RowKit

theorem wf_range {n : Int} (h : (Lit.int .i64 n).wf = true) : -9223372036854775808 ≤ n ∧ n ≤ 9223372036854775807 := by
  simp [Lit.wf] at h
  have e1 : IntKind.i64.min = -9223372036854775808 := by decide
  rw [e1] at h
  exact h

theorem spot_none {w : World} {x : Addr} {v : Value} (h : w.cell? x = some v) : x.spot = none := by
  unfold World.cell? at h
  split at h
  · split at h
    · cases h
    · next q => simpa using q
  · cases h

/-- what the door tells of a slice of integers, in the form that batch wants -/
theorem rawAt_of {w : World} {x : Addr} {zs : List Int} (h : ∀ i, i < zs.length → w.cell? (x.add i) = some (.int .i64 (zs.getD i 0))) (hw : ∀ n ∈ zs, (Lit.int .i64 n).wf = true) (len : Nat) : RawAt w (some x) (zs.take len) := by
  intro i z hi
  obtain ⟨hil, e⟩ := List.getElem?_eq_some_iff.1 hi
  have hlt : i < zs.length := by simp at hil; omega
  have ez : zs[i] = z := by simpa using e
  have c0 := h 0 (by omega)
  have ci := h i hlt
  rw [show x.add 0 = x from rfl] at c0
  have hs := spot_none c0
  obtain ⟨b, o, s⟩ := x
  simp only at hs
  subst hs
  rw [Addr.add_mid] at ci
  refine ⟨b, o, rfl, block_lt_of_cell c0, ?_, wf_range (hw z (by rw [← ez]; exact List.getElem_mem hlt))⟩
  rw [ci]
  simp [List.getD, List.getElem?_eq_getElem hlt, ez]
theorem rawAt_nil (w : World) : RawAt w none [] := by intro i z hi; simp at hi
end Go.Proofs.YthdffenpkdbejaaGreatDoor

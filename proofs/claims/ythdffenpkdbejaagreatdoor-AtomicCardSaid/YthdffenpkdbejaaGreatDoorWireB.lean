import Derived.Test.YthdffenpkdbejaaGreatDoorWireA
namespace Go.Proofs.YthdffenpkdbejaaGreatDoor
open Go.RowKit

/-- what appendOperation leaves -/
def OpPost (base : Nat) (w : World) (m : Nat) (e : Ending) (w' : World) : Prop := ∃ k, k ≤ 10 ∧ NumPost base w (m + k) e w'

theorem Keeps.heap {T : TypeId} {base : Nat} {w w' : World} (h : Keeps T base w w') {k : Nat} {cs : Array Value} {U : TypeId} {m : Nat × Nat} (hk : w.heap[k]? = some (.cells cs U m)) (hU : U ≠ T) : w'.heap[k]? = some (.cells cs U m) := by
  rw [h.block k (Array.getElem?_eq_some_iff.1 hk).1 (fun cs' m' e => by rw [hk] at e; simp at e; exact hU e.2.1), hk]
theorem NumPost.mono {base : Nat} {w0 w : World} {n : Nat} {e : Ending} {w' : World} (h : NumPost base w n e w') (k : Keeps 5 base w0 w) : NumPost base w0 n e w' := by
  obtain ⟨v, l, h1, h2, h3, h4⟩ := h
  exact ⟨v, l, h1, h2, h3, k.trans h4⟩

set_option maxRecDepth 100000 in
set_option maxHeartbeats 1600000 in
theorem op_any (w : World) (base : Nat) (hb : base ≤ w.heap.size) (v : Value) (l : List UInt8) (m : Nat) (hm : l.length = m) (hl : m ≤ 10000) (hv : w.ownsRow base 5 1 v m (byteCells l)) (o : TOp) (hr : o.Right) (ho : o.Ok) :
    Calls Tryz.prog 113 #[v, .agg #[.int .i64 o.kind, .int .i64 o.k, .int .i64 o.a, .int .i64 o.b]] w (OpPost base w m) := by
  obtain ⟨kind, k, a, b⟩ := o
  obtain ⟨k0, k1, hkind⟩ := hr
  have a0 := ho.a0
  have a1 := ho.a1
  simp only at k0 k1 hkind a0 a1
  have hB : (w.alloc (.cells #[.int .i64 kind, .int .i64 k, .int .i64 a, .int .i64 b] 70)).heap[w.heap.size]? = some (.cells #[.int .i64 kind, .int .i64 k, .int .i64 a, .int .i64 b] 70 (0, 0)) := heap_alloc_last w _
  have K0 : Keeps 5 base w (w.alloc (.cells #[.int .i64 kind, .int .i64 k, .int .i64 a, .int .i64 b] 70)) := (Keeps.refl _ _ _).alloc hb _
  have HV := hide (hv.alloc (.cells #[.int .i64 kind, .int .i64 k, .int .i64 a, .int .i64 b] 70))
  have hk6 : 1 ≤ kind ∧ kind ≤ 6 := by omega
  have hkb : kind = 6 → 0 ≤ b ∧ b < 64 := by omega
  clear hkind ho hv
  go_enter Tryz.func113, Tryz.ntmps113
  go_wp2_with fail
  refine (number_any _ base (by simp; omega) v l m hm kind 1 1 rfl (by omega) (by omega) (unhide HV) (by omega) (by omega)).mono ?_
  rintro e w1 ⟨v1, l1, rfl, hl1, own1, keep1⟩
  have hB1 := keep1.heap hB (by decide)
  have d1 : w1.cell? ⟨w.heap.size, 1, none⟩ = some (.int .i64 k) := by rw [cell_of_row _ _ _ _ _ _ hB1]; rfl
  have z1 : base ≤ w1.heap.size := Nat.le_trans hb (Nat.le_trans K0.below.size keep1.below.size)
  have O1 := hide own1
  have K1 := hide (K0.trans keep1)
  clear own1 keep1 K0 HV hB
  go_wp2_with fail
  refine (number_any _ base z1 v1 l1 (m + 1) hl1 k 1 1 rfl (by omega) (by omega) (unhide O1) (by omega) (by omega)).mono ?_
  rintro e w2 ⟨v2, l2, rfl, hl2, own2, keep2⟩
  have hB2 := keep2.heap hB1 (by decide)
  have c0 : w2.cell? ⟨w.heap.size, 0, none⟩ = some (.int .i64 kind) := by rw [cell_of_row _ _ _ _ _ _ hB2]; rfl
  have c2 : w2.cell? ⟨w.heap.size, 2, none⟩ = some (.int .i64 a) := by rw [cell_of_row _ _ _ _ _ _ hB2]; rfl
  have z2 : base ≤ w2.heap.size := Nat.le_trans z1 keep2.below.size
  have O2 := hide own2
  have K2 := hide ((unhide K1).trans keep2)
  clear own2 keep2 hB1 d1 K1 O1
  obtain ⟨hk1, hk2⟩ := hk6
  rcases (by omega : kind = 1 ∨ kind = 2 ∨ kind = 3 ∨ kind = 4 ∨ kind = 5 ∨ kind = 6) with rfl | rfl | rfl | rfl | rfl | rfl
  case inl | inr.inr.inl | inr.inr.inr.inl =>
    clear hkb
    go_wp2_with fail
    refine (number_any _ base z2 v2 l2 (m + 1 + 1) hl2 a 8 8 rfl (by omega) (by omega) (unhide O2) a0 a1).mono ?_
    rintro e w3 ⟨v3, l3, rfl, hl3, own3, keep3⟩
    have O3 := hide own3
    have K3 := hide ((unhide K2).trans keep3)
    clear own3 keep3
    go_wp2
    go_ret
    exact ⟨10, by omega, v3, l3, rfl, hl3, unhide O3, unhide K3⟩
  case inr.inl | inr.inr.inr.inr.inl =>
    clear hkb
    go_wp2
    go_ret
    exact ⟨2, by omega, v2, l2, rfl, hl2, unhide O2, unhide K2⟩
  case inr.inr.inr.inr.inr =>
    have hb6 := hkb rfl
    clear hkb
    go_wp2_with fail
    refine (number_any _ base z2 v2 l2 (m + 1 + 1) hl2 a 1 1 rfl (by omega) (by omega) (unhide O2) a0 a1).mono ?_
    rintro e w3 ⟨v3, l3, rfl, hl3, own3, keep3⟩
    have hB3 := keep3.heap hB2 (by decide)
    have c3 : w3.cell? ⟨w.heap.size, 3, none⟩ = some (.int .i64 b) := by rw [cell_of_row _ _ _ _ _ _ hB3]; rfl
    have z3 : base ≤ w3.heap.size := Nat.le_trans z2 keep3.below.size
    have O3 := hide own3
    have K3 := hide ((unhide K2).trans keep3)
    clear own3 keep3
    go_wp2_with fail
    refine (number_any _ base z3 v3 l3 (m + 1 + 1 + 1) hl3 b 1 1 rfl (by omega) (by omega) (unhide O3) (by omega) (by omega)).mono ?_
    rintro e w4 ⟨v4, l4, rfl, hl4, own4, keep4⟩
    have O4 := hide own4
    have K4 := hide ((unhide K3).trans keep4)
    clear own4 keep4
    go_wp2
    go_ret
    exact ⟨4, by omega, v4, l4, rfl, hl4, unhide O4, unhide K4⟩
end Go.Proofs.YthdffenpkdbejaaGreatDoor

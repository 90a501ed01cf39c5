import Derived.Test.YthdffenpkdbejaaGreatDoorKeepD
namespace Go.Proofs.YthdffenpkdbejaaGreatDoor
open Go.RowKit

set_option maxHeartbeats 800000 in
theorem tget_any (b : Nat) (T : TypeId) (t : Tab) (rest : List Value) (k : Int) (w : World) (ht : TabIn w b T t.h t.v rest) (h0 : 0 ≤ k) (h1 : k < 64) :
    Calls Tryz.prog 81 #[.pointer (some ⟨b, 0, none⟩), .int .i64 k] w fun e w' => e = .returned (.tuple #[.int .i64 (t.v k.toNat), .bool (t.h k.toNat)]) ∧ ∃ n, w' = w.drewN n := by
  obtain ⟨k, rfl⟩ := Int.eq_ofNat_of_zero_le h0
  have hk : k < 64 := by omega
  have c1 := ht.has k hk
  have c2 := ht.val k hk
  simp only [Int.toNat_natCast]
  go_enter Tryz.func81, Tryz.ntmps81
  go_wp2
  go_quiet (fail)
  go_wp2
  go_ret2
  exact ⟨rfl, _, rfl⟩

set_option maxHeartbeats 800000 in
theorem get_any (b : Nat) (T : TypeId) (t : Tab) (rest : List Value) (k : Int) (w : World) (ht : TabIn w b T t.h t.v rest) (h0 : 0 ≤ k) (h1 : k < 64) :
    Calls Tryz.prog 38 #[.pointer (some ⟨b, 0, none⟩), .int .i64 k] w fun e w' => e = .returned (.tuple #[.int .i64 (t.v k.toNat), .bool (t.h k.toNat), .int .i64 0]) ∧ ∃ n, w' = w.drewN n := by
  go_enter Tryz.func38, Tryz.ntmps38
  go_wp2_with fail
  refine (hasKey_yes _ _ h0 h1).mono ?_
  rintro e w' ⟨rfl, rfl⟩
  go_wp2_with fail
  refine (tget_any b T t rest _ _ ht h0 h1).mono ?_
  rintro e w' ⟨rfl, n, rfl⟩
  go_wp2
  go_ret3
  exact ⟨rfl, n, rfl⟩

set_option maxRecDepth 100000 in
set_option maxHeartbeats 1600000 in
theorem same_any (b : Nat) (T : TypeId) (t : Tab) (rest : List Value) (w : World) (ht : TabIn w b T t.h t.v rest) :
    Calls Tryz.prog 15 #[.pointer (some ⟨b, 0, none⟩), .agg (kCells t.h t.v).toArray] w fun e w' => e = .returned (.bool true) ∧ Below w.heap.size w w' := by
  generalize hwa : w.alloc (.cells (kCells t.h t.v).toArray 42) = wa
  have hb := ht.lt
  have hza : wa.heap.size = w.heap.size + 1 := by rw [← hwa]; simp
  have k0 : KIn wa w.heap.size 42 t.h t.v [] := by
    unfold KIn; rw [← hwa, List.append_nil]; exact heap_alloc_last w _
  have ta : TabIn wa b T t.h t.v rest := by rw [← hwa]; exact ht.alloc _
  have ba : Below w.heap.size w wa := by rw [← hwa]; exact (Below.refl _ _).alloc (Nat.le_refl _) _
  go_enter Tryz.func15, Tryz.ntmps15
  go_wp2
  go_loopw [5] (fun i wr => ∃ (k n : Nat), k ≤ 64 ∧ i = .int .i64 k ∧ wr = wa.drewN n) (fun i _ => 64 - (intOf i).toNat)
  case atStart => exact ⟨0, 0, by omega, rfl, rfl⟩
  case round =>
    obtain ⟨k, n, hk, rfl, rfl⟩ := hrel
    by_cases hlt : k < 64
    · have g1 := (k0.drewN n).val k hlt
      have g2 := (k0.drewN n).has k hlt
      have hD := get_any b T t rest k (wa.drewN n) (ta.drewN n) (by omega) (by omega)
      simp only [Int.toNat_natCast] at hD
      have HD := hide hD
      clear hD
      generalize hwn : wa.drewN n = wn at *
      go_wp2_with fail
      refine (unhide HD).mono ?_
      rintro e w' ⟨rfl, m, rfl⟩
      have g3 : (wn.drewN m).cell? ⟨w.heap.size, k, none⟩ = some (.int .i64 (t.v k)) := g1
      have g4 : (wn.drewN m).cell? ⟨w.heap.size, 64 + k, none⟩ = some (.bool (t.h k)) := g2
      go_wp2
      go_roundw
      case rel => exact ⟨k + 1, n + m, by omega, by go_num, by rw [← hwn, World.drewN_drewN]⟩
      case measure => simp [intOf]; omega
    · go_wp2
      go_ret
      exact ⟨rfl, below_drewN ba n⟩
end Go.Proofs.YthdffenpkdbejaaGreatDoor

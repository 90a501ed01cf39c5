import Derived.Test.YthdffenpkdbejaaGreatDoorOpenA
namespace Go.Proofs.YthdffenpkdbejaaGreatDoor
open Go.RowKit

set_option maxRecDepth 100000 in
set_option maxHeartbeats 800000 in
theorem sort_nil (w : World) (f : Value) : Calls Tryz.prog 151 #[.slice none 0 0, f] w fun e w' => e = .returned (.tuple #[]) ∧ w = w' := by
  go_enter Tryz.func151, Tryz.ntmps151
  go_wp2_with fail
  refine (len64_zero _).mono ?_
  rintro e w' ⟨rfl, rfl⟩
  go_wp2_with fail
  refine (pdq_nil _ _).mono ?_
  rintro e w' ⟨rfl, rfl⟩
  go_wp2
  go_end0
  exact ⟨rfl, rfl⟩

set_option maxRecDepth 100000 in
set_option maxHeartbeats 800000 in
theorem segments_nil (w : World) : Calls Tryz.prog 97 #[.slice none 0 0] w fun e w' => e = .returned (.slice none 0 0) ∧ w = w' := by
  go_enter Tryz.func97, Tryz.ntmps97
  go_wp2
  go_loop [3, 10] (fun s i => s = .slice none 0 0 ∧ i = .int .i64 0) (fun _ _ => 0)
  case atStart => exact ⟨rfl, rfl⟩
  case round =>
    obtain ⟨rfl, rfl⟩ := hrel
    go_wp2_with fail
    refine (sort_nil _ _).mono ?_
    rintro e w' ⟨rfl, rfl⟩
    go_wp2
    go_ret
    exact ⟨rfl, rfl⟩

set_option maxRecDepth 100000 in
set_option maxHeartbeats 800000 in
theorem sortO_nil (w : World) : Calls Tryz.prog 155 #[.slice none 0 0] w fun e w' => e = .returned (.tuple #[]) ∧ w = w' := by
  go_enter Tryz.func155, Tryz.ntmps155
  go_wp2_with fail
  refine (len64_zero _).mono ?_
  rintro e w' ⟨rfl, rfl⟩
  go_wp2_with fail
  refine (pdqO_nil _).mono ?_
  rintro e w' ⟨rfl, rfl⟩
  go_wp2
  go_end0
  exact ⟨rfl, rfl⟩
set_option maxRecDepth 100000 in
set_option maxHeartbeats 800000 in
theorem numbers_nil (w : World) : Calls Tryz.prog 99 #[.slice none 0 0] w fun e w' => e = .returned (.slice none 0 0) ∧ w = w' := by
  go_enter Tryz.func99, Tryz.ntmps99
  go_wp2
  go_loop [3, 8] (fun s i => s = .slice none 0 0 ∧ i = .int .i64 0) (fun _ _ => 0)
  case atStart => exact ⟨rfl, rfl⟩
  case round =>
    obtain ⟨rfl, rfl⟩ := hrel
    go_wp2
    go_ret
    exact ⟨rfl, rfl⟩
set_option maxRecDepth 100000 in
set_option maxHeartbeats 800000 in
theorem checkpoints_nil (w : World) : Calls Tryz.prog 100 #[.slice none 0 0] w fun e w' => e = .returned (.slice none 0 0) ∧ w = w' := by
  go_enter Tryz.func100, Tryz.ntmps100
  go_wp2
  go_loop [3, 10] (fun s i => s = .slice none 0 0 ∧ i = .int .i64 0) (fun _ _ => 0)
  case atStart => exact ⟨rfl, rfl⟩
  case round =>
    obtain ⟨rfl, rfl⟩ := hrel
    go_wp2_with fail
    refine (sortO_nil _).mono ?_
    rintro e w' ⟨rfl, rfl⟩
    go_wp2
    go_ret
    exact ⟨rfl, rfl⟩

theorem mk_found (w : World) : (Instr.makeSlice 276 (.int .i64 0) (.int .i64 0)).run Tryz.prog w = .ok (.slice (some ⟨w.heap.size, 0, none⟩) 0 0) (w.alloc (.cells #[] 285)) := by kernel_rfl
theorem wgZero (w : World) : (zeroValue 284).run Tryz.prog w = .ok (.agg #[.int .u64 0, .int .u32 0]) w := by kernel_rfl

set_option maxRecDepth 100000 in
set_option maxHeartbeats 1600000 in
theorem find_nil (w : World) : Calls Tryz.prog 156 #[.slice none 0 0] w fun e w' => ∃ bm, e = .returned (.map (some bm)) ∧ Below w.heap.size w w' := by
  have h1 := mk_found
  have h2 := mk_batches
  have h3 := wgZero
  go_enter Tryz.func156, Tryz.ntmps156
  go_wp2
  have hw : (((w.alloc (.cells #[] 285)).alloc (.cells #[.slice (some ⟨w.heap.size, 0, none⟩) 0 0] 276)).alloc (.cells #[.int .u64 0, .int .u32 0] 284)).heap[w.heap.size + 1 + 1]? = some (.cells #[.int .u64 0, .int .u32 0] 284 (0, 0)) := by
    have := heap_alloc_last ((w.alloc (.cells #[] 285)).alloc (.cells #[.slice (some ⟨w.heap.size, 0, none⟩) 0 0] 276)) (.cells #[.int .u64 0, .int .u32 0] 284)
    simpa using this
  have HW := hide (wait_zero _ _ hw)
  have B := hide ((((Below.refl w.heap.size w).alloc (Nat.le_refl _) (.cells #[] 285)).alloc (by simp) (.cells #[.slice (some ⟨w.heap.size, 0, none⟩) 0 0] 276)).alloc (by simp; omega) (.cells #[.int .u64 0, .int .u32 0] 284))
  have hz : w.heap.size ≤ (((w.alloc (.cells #[] 285)).alloc (.cells #[.slice (some ⟨w.heap.size, 0, none⟩) 0 0] 276)).alloc (.cells #[.int .u64 0, .int .u32 0] 284)).heap.size := (unhide B).size
  clear hw
  go_loop [17] (fun i => i = .int .i64 0) (fun _ => 0)
  case atStart => exact rfl
  case round =>
    subst hrel
    go_wp2_with fail
    refine (unhide HW).mono ?_
    rintro e w4 ⟨rfl, rfl⟩
    generalize (((w.alloc (.cells #[] 285)).alloc (.cells #[.slice (some ⟨w.heap.size, 0, none⟩) 0 0] 276)).alloc (.cells #[.int .u64 0, .int .u32 0] 284)) = w4 at *
    go_wp2
    go_loop [29] (fun i => i = .int .i64 0) (fun _ => 0)
    case atStart => exact rfl
    case round =>
      subst hrel
      go_wp2
      go_ret
      exact ⟨⟨_, rfl⟩, (unhide B).alloc hz _⟩

set_option maxRecDepth 100000 in
set_option maxHeartbeats 1600000 in
theorem replay_nil (w : World) (s : Value) : Calls Tryz.prog 101 #[s, .slice none 0 0] w fun e w' => e = .returned (.tuple #[]) ∧ Below w.heap.size w w' := by
  go_enter Tryz.func101, Tryz.ntmps101
  go_wp2_with fail
  refine (find_nil w).mono ?_
  rintro e w1 ⟨bm, rfl, b1⟩
  go_wp2
  go_loop [14] (fun i => i = .int .i64 0) (fun _ => 0)
  case atStart => exact rfl
  case round =>
    subst hrel
    go_wp2
    go_end0
    exact ⟨rfl, b1⟩
end Go.Proofs.YthdffenpkdbejaaGreatDoor

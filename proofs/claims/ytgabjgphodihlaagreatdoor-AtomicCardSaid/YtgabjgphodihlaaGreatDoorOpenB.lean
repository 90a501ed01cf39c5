import Derived.Test.YtgabjgphodihlaaGreatDoorOpenA
namespace Go.Proofs.YtgabjgphodihlaaGreatDoor
open Go.RowKit

set_option maxRecDepth 100000 in
set_option maxHeartbeats 800000 in
theorem sort_nil (w : World) (f : Value) : Calls Tryz.prog 111 #[.slice none 0 0, f] w fun e w' => e = .returned (.tuple #[]) ∧ w = w' := by
  go_enter Tryz.func111, Tryz.ntmps111
  go_wp2_with fail
  refine (len64_zero _).mono ?_
  rintro e w' ⟨rfl, rfl⟩
  go_wp2_with fail
  refine (pdq_nil _ _).mono ?_
  rintro e w' ⟨rfl, rfl⟩
  go_wp2
  go_end0
  exact ⟨rfl, rfl⟩

set_option maxRecDepth 100000 in
set_option maxHeartbeats 800000 in
theorem segments_nil (w : World) : Calls Tryz.prog 71 #[.slice none 0 0] w fun e w' => e = .returned (.slice none 0 0) ∧ w = w' := by
  go_enter Tryz.func71, Tryz.ntmps71
  go_wp2
  go_loop [3, 10] (fun s i => s = .slice none 0 0 ∧ i = .int .i64 0) (fun _ _ => 0)
  case atStart => exact ⟨rfl, rfl⟩
  case round =>
    obtain ⟨rfl, rfl⟩ := hrel
    go_wp2_with fail
    refine (sort_nil _ _).mono ?_
    rintro e w' ⟨rfl, rfl⟩
    go_wp2
    go_ret
    exact ⟨rfl, rfl⟩

theorem mk_found (w : World) : (Instr.makeSlice 252 (.int .i64 0) (.int .i64 0)).run Tryz.prog w = .ok (.slice (some ⟨w.heap.size, 0, none⟩) 0 0) (w.alloc (.cells #[] 261)) := by kernel_rfl
theorem wgZero (w : World) : (zeroValue 260).run Tryz.prog w = .ok (.agg #[.int .u64 0, .int .u32 0]) w := by kernel_rfl

set_option maxRecDepth 100000 in
set_option maxHeartbeats 1600000 in
theorem find_nil (w : World) : Calls Tryz.prog 114 #[.slice none 0 0] w fun e w' => ∃ bm, e = .returned (.map (some bm)) ∧ Below w.heap.size w w' := by
  have h1 := mk_found
  have h2 := mk_batches
  have h3 := wgZero
  go_enter Tryz.func114, Tryz.ntmps114
  go_wp2
  have hw : (((w.alloc (.cells #[] 261)).alloc (.cells #[.slice (some ⟨w.heap.size, 0, none⟩) 0 0] 252)).alloc (.cells #[.int .u64 0, .int .u32 0] 260)).heap[w.heap.size + 1 + 1]? = some (.cells #[.int .u64 0, .int .u32 0] 260 (0, 0)) := by
    have := heap_alloc_last ((w.alloc (.cells #[] 261)).alloc (.cells #[.slice (some ⟨w.heap.size, 0, none⟩) 0 0] 252)) (.cells #[.int .u64 0, .int .u32 0] 260)
    simpa using this
  have HW := hide (wait_zero _ _ hw)
  have B := hide ((((Below.refl w.heap.size w).alloc (Nat.le_refl _) (.cells #[] 261)).alloc (by simp) (.cells #[.slice (some ⟨w.heap.size, 0, none⟩) 0 0] 252)).alloc (by simp; omega) (.cells #[.int .u64 0, .int .u32 0] 260))
  have hz : w.heap.size ≤ (((w.alloc (.cells #[] 261)).alloc (.cells #[.slice (some ⟨w.heap.size, 0, none⟩) 0 0] 252)).alloc (.cells #[.int .u64 0, .int .u32 0] 260)).heap.size := (unhide B).size
  clear hw
  go_loop [17] (fun i => i = .int .i64 0) (fun _ => 0)
  case atStart => exact rfl
  case round =>
    subst hrel
    go_wp2_with fail
    refine (unhide HW).mono ?_
    rintro e w4 ⟨rfl, rfl⟩
    generalize (((w.alloc (.cells #[] 261)).alloc (.cells #[.slice (some ⟨w.heap.size, 0, none⟩) 0 0] 252)).alloc (.cells #[.int .u64 0, .int .u32 0] 260)) = w4 at *
    go_wp2
    go_loop [29] (fun i => i = .int .i64 0) (fun _ => 0)
    case atStart => exact rfl
    case round =>
      subst hrel
      go_wp2
      go_ret
      exact ⟨⟨_, rfl⟩, (unhide B).alloc hz _⟩

set_option maxRecDepth 100000 in
set_option maxHeartbeats 1600000 in
theorem replay_nil (w : World) (s : Value) : Calls Tryz.prog 73 #[s, .slice none 0 0] w fun e w' => e = .returned (.tuple #[]) ∧ Below w.heap.size w w' := by
  go_enter Tryz.func73, Tryz.ntmps73
  go_wp2_with fail
  refine (find_nil w).mono ?_
  rintro e w1 ⟨bm, rfl, b1⟩
  go_wp2
  go_loop [14] (fun i => i = .int .i64 0) (fun _ => 0)
  case atStart => exact rfl
  case round =>
    subst hrel
    go_wp2
    go_end0
    exact ⟨rfl, b1⟩
end Go.Proofs.YtgabjgphodihlaaGreatDoor

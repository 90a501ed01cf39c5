import Derived.Test.YthdffenpkdbejaaGreatDoorKeepE
import Derived.Laws.LoneSync
import Derived.Laws.ResultCell
namespace Go.Proofs.YthdffenpkdbejaaGreatDoor
open Go.RowKit

theorem mk_places (w : World) : (Instr.makeMap 167 (some (.int .i64 0))).run Tryz.prog w = .ok (.map (some w.heap.size)) (w.alloc (.map #[] 0)) := by kernel_rfl
theorem mk_batches (w : World) : (Instr.makeMap 232 none).run Tryz.prog w = .ok (.map (some w.heap.size)) (w.alloc (.map #[] 0)) := by kernel_rfl

set_option maxRecDepth 100000 in
set_option maxHeartbeats 800000 in
theorem places_nil (w : World) :
    Calls Tryz.prog 94 #[.slice none 0 0] w fun e w' => e = .returned (.tuple #[.map (some w.heap.size), .nilIface]) ∧ w' = w.alloc (.map #[] 0) := by
  have hmm := mk_places
  go_enter Tryz.func94, Tryz.ntmps94
  go_wp2
  go_loop [14] (fun i => i = .int .i64 0) (fun _ => 0)
  case atStart => exact rfl
  case round =>
    subst hrel
    go_wp2
    go_ret2
    exact ⟨rfl, rfl⟩

theorem look_empty (W : World) (bm : Nat) (hb : W.heap[bm]? = some (.map #[] 0)) (k : ByteArray) :
    (Instr.lookup 167 (.map (some bm)) (.string k) true).run Tryz.prog W = .ok (.tuple #[.int .i64 0, .bool false]) W := by
  have hz : (zeroValue 3).run Tryz.prog W = .ok (.int .i64 0) W := by kernel_rfl
  have hg : (getObj bm).run Tryz.prog W = .ok (.map #[] 0) W := by simp [getObj, Sem.run, hb]
  have hk : (Instr.checkKey true 10000 9 (.string k)).run Tryz.prog W = .ok () W := by kernel_rfl
  have hf : (Instr.findKey 9 (.string k) []).run Tryz.prog W = .ok none W := by kernel_rfl
  unfold Instr.lookup
  rw [Sem.run_bind, run_underlying Tryz.underlying167]
  simp [hg, hk, hf, hz]

set_option maxRecDepth 100000 in
set_option maxHeartbeats 800000 in
theorem manifest_nil (w : World) (bm : Nat) (hb : w.heap[bm]? = some (.map #[] 0)) :
    Calls Tryz.prog 95 #[.slice none 0 0, .map (some bm)] w fun e w' => e = .returned (.tuple #[.agg #[.int .i64 0, .int .i64 1], .nilIface]) ∧ Below w.heap.size w w' := by
  have hbl : bm < w.heap.size := (Array.getElem?_eq_some_iff.1 hb).1
  have hlk := look_empty (w.alloc (.cells #[.int .i64 0, .int .i64 0] 115)) bm ((Below.heap_alloc _ _ _ hbl).trans hb)
  go_enter Tryz.func95, Tryz.ntmps95
  go_wp2
  exact bodyPost_ret (v := .tuple #[.agg #[.int .i64 0, .int .i64 1], .nilIface]) (by simp [results, Tryz.results95, go_sem]) rfl ⟨rfl, (Below.refl _ _).alloc (Nat.le_refl _) _⟩

/-- a struct in memory and a value handed back -/
theorem row_ret {P : Program} {fn : Func} {R : Ending → World → Prop} {a : Act} {w : World} (p u : Tmp) (ty : TypeId) (hr : fn.results = #[.cell p ty, .tmp u]) (b : Nat) (cs : List Value) (x : Value) (d : TypeDesc)
    (hp : a.tmps.getD p undef = .pointer (some ⟨b, 0, none⟩)) (hu : a.tmps.getD u undef = x) (hk : w.rangeAt b 0 cs) (hdesc : P.underlying ty = some d) (hrow : d.isRow = true) (hi : (P.info? ty).map (·.size) = some cs.length)
    (hd : a.defers = []) (hR : R (.returned (.tuple #[.agg cs.toArray, x])) w) : bodyPost P fn R .ret a w := by
  refine bodyPost_ret (v := .tuple #[.agg cs.toArray, x]) ?_ hd hR
  rw [results_cell_tmp hr]
  rw [hp, hu]
  simp [asAddr, run_loadVar_mid w b 0 ty cs d hk hdesc hrow hi]
set_option maxRecDepth 100000 in
set_option maxHeartbeats 800000 in
theorem checkpoint_nil (w : World) (bm : Value) :
    Calls Tryz.prog 96 #[.slice none 0 0, bm, .int .i64 0] w fun e w' => e = .returned (.tuple #[.agg (tabCells (fun _ => false) (fun _ => 0)).toArray, .nilIface]) ∧ Below w.heap.size w w' := by
  have hz := (zero_of_info tabZero).1
  go_enter Tryz.func96, Tryz.ntmps96
  have hl0 := tabCells_length (fun _ => false) (fun _ => 0)
  have hst := storeTab (P := Tryz.prog) (w := w.alloc (.cells (tabCells (fun _ => false) (fun _ => 0)).toArray 112)) (b := w.heap.size) (T := 112) (rest := []) (h := fun _ => false) (v := fun _ => 0) (by unfold TabIn; rw [List.append_nil]; exact heap_alloc_last w _) (fun _ => false) (fun _ => 0)
  have t0 : TabIn (w.alloc (.cells (tabCells (fun _ => false) (fun _ => 0)).toArray 112)) w.heap.size 112 (fun _ => false) (fun _ => 0) [] := by unfold TabIn; rw [List.append_nil]; exact heap_alloc_last w _
  have B := hide ((((Below.refl w.heap.size w).alloc (Nat.le_refl _) (.cells (tabCells (fun _ => false) (fun _ => 0)).toArray 112))).trans ((Only.setCells (b := w.heap.size) (tabCells (fun _ => false) (fun _ => 0)) 0 (Only.refl _ _)).toBelow' (Nat.le_refl _) (by simp)))
  go_wp2
  refine row_ret 6 7 112 Tryz.results96 w.heap.size (tabCells (fun _ => false) (fun _ => 0)) .nilIface _ rfl rfl ?_ Tryz.underlying112 rfl (tabInfo _ _) rfl ?_
  · exact (t0.setAll (h' := fun _ => false) (v' := fun _ => 0)).range
  · exact ⟨rfl, unhide B⟩

set_option maxRecDepth 100000 in
set_option maxHeartbeats 800000 in
theorem len64_zero (w : World) : Calls Tryz.prog 190 #[.int .u64 0] w fun e w' => e = .returned (.int .i64 0) ∧ w = w' := by
  go_enter Tryz.func190, Tryz.ntmps190
  go_wp2
  go_ret
  exact ⟨by kernel_rfl, rfl⟩

set_option maxRecDepth 100000 in
set_option maxHeartbeats 800000 in
theorem from_nil (w : World) (n : Int) : Calls Tryz.prog 102 #[.slice none 0 0, .int .i64 n] w fun e w' => e = .returned (.slice none 0 0) ∧ w = w' := by
  go_enter Tryz.func102, Tryz.ntmps102
  go_wp2
  go_loop [9] (fun i => i = .int .i64 0) (fun _ => 0)
  case atStart => exact rfl
  case round =>
    subst hrel
    go_wp2
    go_ret
    exact ⟨rfl, rfl⟩
set_option maxHeartbeats 800000 in
theorem next_nil (w : World) (n : Int) : Calls Tryz.prog 98 #[.slice none 0 0, .int .i64 n] w fun e w' => e = .returned (.int .i64 n) ∧ w = w' := by
  go_enter Tryz.func98, Tryz.ntmps98
  go_wp2
  go_ret
  exact ⟨rfl, rfl⟩

set_option maxRecDepth 100000 in
set_option maxHeartbeats 800000 in
theorem insertion_nil (w : World) (f : Value) : Calls Tryz.prog 216 #[.slice none 0 0, .int .i64 0, .int .i64 0, f] w fun e w' => e = .returned (.tuple #[]) ∧ w = w' := by
  go_enter Tryz.func216, Tryz.ntmps216
  go_wp2
  go_loop [8] (fun i => i = .int .i64 1) (fun _ => 0)
  case atStart => exact rfl
  case round =>
    subst hrel
    go_wp2
    go_end0
    exact ⟨rfl, rfl⟩
set_option maxRecDepth 100000 in
set_option maxHeartbeats 800000 in
theorem pdq_nil (w : World) (f : Value) : Calls Tryz.prog 189 #[.slice none 0 0, .int .i64 0, .int .i64 0, .int .i64 0, f] w fun e w' => e = .returned (.tuple #[]) ∧ w = w' := by
  go_enter Tryz.func189, Tryz.ntmps189
  go_wp2_with fail
  refine wp_loop_rounds 1 ?_
  rw [rounds_succ]
  go_wp2_with fail
  refine (insertion_nil w f).mono ?_
  rintro e w' ⟨rfl, rfl⟩
  go_wp2
  first | go_end0 | refine bodyPost_ret (results_none rfl _ _ _) rfl ?_
  exact ⟨rfl, rfl⟩
set_option maxRecDepth 100000 in
set_option maxHeartbeats 800000 in
theorem insertionO_nil (w : World) : Calls Tryz.prog 226 #[.slice none 0 0, .int .i64 0, .int .i64 0] w fun e w' => e = .returned (.tuple #[]) ∧ w = w' := by
  go_enter Tryz.func226, Tryz.ntmps226
  go_wp2
  go_loop [6] (fun i => i = .int .i64 1) (fun _ => 0)
  case atStart => exact rfl
  case round =>
    subst hrel
    go_wp2
    go_end0
    exact ⟨rfl, rfl⟩
set_option maxRecDepth 100000 in
set_option maxHeartbeats 800000 in
theorem pdqO_nil (w : World) : Calls Tryz.prog 192 #[.slice none 0 0, .int .i64 0, .int .i64 0, .int .i64 0] w fun e w' => e = .returned (.tuple #[]) ∧ w = w' := by
  go_enter Tryz.func192, Tryz.ntmps192
  go_wp2_with fail
  refine wp_loop_rounds 1 ?_
  rw [rounds_succ]
  go_wp2_with fail
  refine (insertionO_nil w).mono ?_
  rintro e w' ⟨rfl, rfl⟩
  go_wp2
  first | go_end0 | refine bodyPost_ret (results_none rfl _ _ _) rfl ?_
  exact ⟨rfl, rfl⟩
theorem race0 (w : World) : (callFunc 235 #[]).run Tryz.prog w = .ok (.value (.tuple #[])) w := by kernel_rfl
theorem race1 (w : World) : (callFunc 236 #[]).run Tryz.prog w = .ok (.value (.tuple #[])) w := by kernel_rfl
theorem race2 (w : World) (a : Addr) : (callFunc 248 #[.pointer (some a)]).run Tryz.prog w = .ok (.value (.tuple #[])) w := by kernel_rfl
theorem wgInfo : (Tryz.prog.info? 284).map (·.size) = some 2 := by kernel_rfl
/-- a group's address, as one of no type: the same -/
theorem wg_addr (w : World) (b : Nat) (v : Value) (hc : w.cell? ⟨b, 0, none⟩ = some v) : (convert 331 237 (.pointer (some ⟨b, 0, none⟩))).run Tryz.prog w = .ok (.pointer (some ⟨b, 0, none⟩)) w := by
  obtain ⟨e, n, h1, h2, _⟩ := World.shape?_of_cell? hc
  obtain ⟨i, hi, hz⟩ := Option.map_eq_some_iff.1 wgInfo
  have h3 : ¬ n = 0 := by
    intro h
    subst h
    exact absurd h2 (by simp)
  simp [convert, Conv.unsafePointer, Conv.seenAt, viewAt, cellsIn, sizeOf, typeInfo, run_underlying Tryz.underlying331, run_underlying Tryz.underlying237, hi, hz, h1, h3, Result.andThen]
set_option maxRecDepth 100000 in
set_option maxHeartbeats 800000 in
theorem wait_zero (w : World) (b : Nat) (h0 : w.heap[b]? = some (.cells #[.int .u64 0, .int .u32 0] 284 (0, 0))) : Calls Tryz.prog 197 #[.pointer (some ⟨b, 0, none⟩)] w fun e w' => e = .returned (.tuple #[]) ∧ w = w' := by
  have c0 : w.cell? ⟨b, 0, none⟩ = some (.int .u64 0) := by rw [cell_of_row _ _ _ _ _ _ h0]; rfl
  have r0 := race0
  have r1 := race1
  have r2 := race2
  have hld : (callFunc 278 #[.pointer (some ⟨b, 0, none⟩)]).run Tryz.prog w = .ok (.value (.int .u64 0)) w := run_call_load Tryz.func278 (by kernel_rfl) (by kernel_rfl) (by kernel_rfl) .u64 (by rfl) c0
  have hcv : (convert 331 237 (.pointer (some ⟨b, 0, none⟩))).run Tryz.prog w = .ok (.pointer (some ⟨b, 0, none⟩)) w := wg_addr w b _ c0
  go_enter Tryz.func197, Tryz.ntmps197
  have hb1 : bits BinOp.and IntKind.u64 0 2147483647 = 0 := by decide
  have hb2 : bits BinOp.and IntKind.u64 0 2147483648 = 0 := by decide
  go_wp2
  refine wp_loop_rounds 1 ?_
  rw [rounds_succ]
  go_wp2
  refine bodyPost_ret (results_none rfl _ _ _) rfl ?_
  exact ⟨rfl, rfl⟩
end Go.Proofs.YthdffenpkdbejaaGreatDoor

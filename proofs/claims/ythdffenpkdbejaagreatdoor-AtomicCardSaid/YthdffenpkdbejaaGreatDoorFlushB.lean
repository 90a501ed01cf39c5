import Derived.Test.YthdffenpkdbejaaGreatDoorFlushA
namespace Go.Proofs.YthdffenpkdbejaaGreatDoor
open Go.RowKit

/-- the steps that create the segment 1, for the annal in block b; pa, ps: where the annal's pointer and the segment's number lie -/
def createCells (b pa ps : Nat) : List Value := [.int .i64 1, .string logName, .string .empty, .string .empty, .func (.func 89) #[] #[.pointer (some ⟨pa, 0, none⟩), .pointer (some ⟨ps, 0, none⟩)], .func (.func 86) #[.pointer (some ⟨b, 0, none⟩)] #[],
  .int .i64 6, .string .empty, .string .empty, .string .empty, .func (.func 91) #[] #[.pointer (some ⟨pa, 0, none⟩), .pointer (some ⟨ps, 0, none⟩)], .func (.func 86) #[.pointer (some ⟨b, 0, none⟩)] #[]]
/-- the steps that write; pa, pc, pd: where the annal's pointer, the count and the data lie -/
def writeCells (b pa pc pd : Nat) (s : ByteArray) : List Value := [.int .i64 2, .string logName, .string s, .string .empty, .func (.func 85) #[] #[.pointer (some ⟨pa, 0, none⟩), .pointer (some ⟨pd, 0, none⟩)], .func (.func 86) #[.pointer (some ⟨b, 0, none⟩)] #[],
  .int .i64 3, .string logName, .string .empty, .string .empty, .func (.func 87) #[] #[.pointer (some ⟨pa, 0, none⟩), .pointer (some ⟨pc, 0, none⟩)], .func (.func 86) #[.pointer (some ⟨b, 0, none⟩)] #[]]
theorem stepZero : (Tryz.prog.info? 134).map (fun i => (i.zero, i.size, i.bytes)) = some (some (.agg #[.int .i64 0, .string .empty, .string .empty, .string .empty, .nilFunc, .nilFunc]), 6, 72) := by kernel_rfl

set_option maxRecDepth 100000 in
set_option maxHeartbeats 1600000 in
theorem create_any (w : World) (b : Nat) : Calls Tryz.prog 48 #[.pointer (some ⟨b, 0, none⟩), .int .i64 1] w fun e w' =>
    e = .returned (.slice (some ⟨w.heap.size + 2, 0, none⟩) 2 2) ∧ w' = (((w.alloc (.cells #[.pointer (some ⟨b, 0, none⟩)] 34)).alloc (.cells #[.int .i64 1] 3)).alloc (.cells (createCells b w.heap.size (w.heap.size + 1)).toArray 134)).drew := by
  go_enter Tryz.func48, Tryz.ntmps48
  go_wp2_with fail
  refine wp_region_held_drew (S := fun w' => w'.cell? ⟨w.heap.size, 0, none⟩ = some (.pointer (some ⟨b, 0, none⟩)) ∧ w'.cell? ⟨w.heap.size + 1, 0, none⟩ = some (.int .i64 1)) (by kernel_rfl) ?_ (fun hHeld => ?_)
  · exact ⟨by rw [World.cell?_drew, World.cell?_alloc_past _ _ _ (by simp), World.cell?_alloc_at _ _ _ _ rfl]; rfl, by rw [World.cell?_drew, World.cell?_alloc_at _ _ _ _ (by simp)]; rfl⟩
  refine wpAnyH_take (i := 0) (oi := ⟨some 5, _, _, _, _, _⟩) (v := .int .i64 1) rfl (by kernel_rfl) (by kernel_rfl) (by kernel_rfl) (fun _ _ _ h => h) (Or.inl ⟨by rfl, fun w hSw => by (try dsimp only at hSw); go_simp⟩) hHeld ?_
  simp only [Act.put, List.setIfInBounds_toArray, List.set_cons_zero, List.set_cons_succ]
  refine wpAnyH_call (i := 1) (oi := ⟨some 6, _, _, _, _, _⟩) (v := .string logName) rfl (by kernel_rfl) (by kernel_rfl) (by kernel_rfl) (fun _ _ _ h => h) ⟨by rfl, fun w hSw => ⟨83, #[.int .i64 1], by go_simp, segment_one w⟩⟩ hHeld ?_
  simp only [Act.put, List.setIfInBounds_toArray, List.set_cons_zero, List.set_cons_succ]
  refine wpAnyH_take (i := 2) (oi := ⟨some 7, _, _, _, _, _⟩) (v := .agg #[.int .i64 1, .string logName, .string .empty, .string .empty]) rfl (by kernel_rfl) (by kernel_rfl) (by kernel_rfl) (fun _ _ _ h => h) (yieldsIf_build (by rfl) 78 _ rfl #[(0, .int .i64 1), (1, .string logName)] (by simp [Act.eval]) _ (fun w => buildAct1 w _ _)) hHeld ?_
  simp only [Act.put, List.setIfInBounds_toArray, List.set_cons_zero, List.set_cons_succ]
  refine wpAnyH_take (i := 3) (oi := ⟨some 8, _, _, _, _, _⟩) (v := .func (.func 89) #[] #[.pointer (some ⟨w.heap.size, 0, none⟩), .pointer (some ⟨w.heap.size + 1, 0, none⟩)]) rfl (by kernel_rfl) (by kernel_rfl) (by kernel_rfl) (fun _ _ _ h => h) (yieldsIf_func (by rfl) (.func 89) _ _ rfl #[] #[.pointer (some ⟨w.heap.size, 0, none⟩), .pointer (some ⟨w.heap.size + 1, 0, none⟩)] (by simp) (by simp [Act.eval])) hHeld ?_
  simp only [Act.put, List.setIfInBounds_toArray, List.set_cons_zero, List.set_cons_succ]
  refine wpAnyH_take (i := 4) (oi := ⟨some 9, _, _, _, _, _⟩) (v := .pointer (some ⟨b, 0, none⟩)) rfl (by kernel_rfl) (by kernel_rfl) (by kernel_rfl) (fun _ _ _ h => h) (Or.inl ⟨by rfl, fun w hSw => by (try dsimp only at hSw); go_simp⟩) hHeld ?_
  simp only [Act.put, List.setIfInBounds_toArray, List.set_cons_zero, List.set_cons_succ]
  refine wpAnyH_take (i := 5) (oi := ⟨some 10, _, _, _, _, _⟩) (v := .func (.func 86) #[.pointer (some ⟨b, 0, none⟩)] #[]) rfl (by kernel_rfl) (by kernel_rfl) (by kernel_rfl) (fun _ _ _ h => h) (yieldsIf_func (by rfl) (.func 86) _ _ rfl #[.pointer (some ⟨b, 0, none⟩)] #[] (by simp [Act.eval]) (by simp)) hHeld ?_
  simp only [Act.put, List.setIfInBounds_toArray, List.set_cons_zero, List.set_cons_succ]
  refine wpAnyH_take (i := 6) (oi := ⟨some 11, _, _, _, _, _⟩) (v := .agg #[.int .i64 1, .string logName, .string .empty, .string .empty, .func (.func 89) #[] #[.pointer (some ⟨w.heap.size, 0, none⟩), .pointer (some ⟨w.heap.size + 1, 0, none⟩)], .func (.func 86) #[.pointer (some ⟨b, 0, none⟩)] #[]]) rfl (by kernel_rfl) (by kernel_rfl) (by kernel_rfl) (fun _ _ _ h => h) (yieldsIf_build (by rfl) 134 _ rfl #[(0, .agg #[.int .i64 1, .string logName, .string .empty, .string .empty]), (1, .func (.func 89) #[] #[.pointer (some ⟨w.heap.size, 0, none⟩), .pointer (some ⟨w.heap.size + 1, 0, none⟩)]), (2, .func (.func 86) #[.pointer (some ⟨b, 0, none⟩)] #[])] (by simp [Act.eval]) _ (fun w => buildStep w _ _ _ _ _ _ _ _ _ _)) hHeld ?_
  simp only [Act.put, List.setIfInBounds_toArray, List.set_cons_zero, List.set_cons_succ]
  refine wpAnyH_take (i := 7) (oi := ⟨some 12, _, _, _, _, _⟩) (v := .agg #[.int .i64 6, .string .empty, .string .empty, .string .empty]) rfl (by kernel_rfl) (by kernel_rfl) (by kernel_rfl) (fun _ _ _ h => h) (yieldsIf_build (by rfl) 78 _ rfl #[(0, .int .i64 6)] (by simp [Act.eval]) _ (fun w => buildAct0 w _)) hHeld ?_
  simp only [Act.put, List.setIfInBounds_toArray, List.set_cons_zero, List.set_cons_succ]
  refine wpAnyH_take (i := 8) (oi := ⟨some 13, _, _, _, _, _⟩) (v := .func (.func 91) #[] #[.pointer (some ⟨w.heap.size, 0, none⟩), .pointer (some ⟨w.heap.size + 1, 0, none⟩)]) rfl (by kernel_rfl) (by kernel_rfl) (by kernel_rfl) (fun _ _ _ h => h) (yieldsIf_func (by rfl) (.func 91) _ _ rfl #[] #[.pointer (some ⟨w.heap.size, 0, none⟩), .pointer (some ⟨w.heap.size + 1, 0, none⟩)] (by simp) (by simp [Act.eval])) hHeld ?_
  simp only [Act.put, List.setIfInBounds_toArray, List.set_cons_zero, List.set_cons_succ]
  refine wpAnyH_take (i := 9) (oi := ⟨some 14, _, _, _, _, _⟩) (v := .pointer (some ⟨b, 0, none⟩)) rfl (by kernel_rfl) (by kernel_rfl) (by kernel_rfl) (fun _ _ _ h => h) (Or.inl ⟨by rfl, fun w hSw => by (try dsimp only at hSw); go_simp⟩) hHeld ?_
  simp only [Act.put, List.setIfInBounds_toArray, List.set_cons_zero, List.set_cons_succ]
  refine wpAnyH_take (i := 10) (oi := ⟨some 15, _, _, _, _, _⟩) (v := .func (.func 86) #[.pointer (some ⟨b, 0, none⟩)] #[]) rfl (by kernel_rfl) (by kernel_rfl) (by kernel_rfl) (fun _ _ _ h => h) (yieldsIf_func (by rfl) (.func 86) _ _ rfl #[.pointer (some ⟨b, 0, none⟩)] #[] (by simp [Act.eval]) (by simp)) hHeld ?_
  simp only [Act.put, List.setIfInBounds_toArray, List.set_cons_zero, List.set_cons_succ]
  refine wpAnyH_take (i := 11) (oi := ⟨some 16, _, _, _, _, _⟩) (v := .agg #[.int .i64 6, .string .empty, .string .empty, .string .empty, .func (.func 91) #[] #[.pointer (some ⟨w.heap.size, 0, none⟩), .pointer (some ⟨w.heap.size + 1, 0, none⟩)], .func (.func 86) #[.pointer (some ⟨b, 0, none⟩)] #[]]) rfl (by kernel_rfl) (by kernel_rfl) (by kernel_rfl) (fun _ _ _ h => h) (yieldsIf_build (by rfl) 134 _ rfl #[(0, .agg #[.int .i64 6, .string .empty, .string .empty, .string .empty]), (1, .func (.func 91) #[] #[.pointer (some ⟨w.heap.size, 0, none⟩), .pointer (some ⟨w.heap.size + 1, 0, none⟩)]), (2, .func (.func 86) #[.pointer (some ⟨b, 0, none⟩)] #[])] (by simp [Act.eval]) _ (fun w => buildStep w _ _ _ _ _ _ _ _ _ _)) hHeld ?_
  simp only [Act.put, List.setIfInBounds_toArray, List.set_cons_zero, List.set_cons_succ]
  refine wpAnyH_all (rs := [12]) (by kernel_rfl) (by simp) (AllReadyH.cons (o := ⟨some 17, _, _, _, _, _⟩) rfl (fun K hK => ?_) AllReadyH.nil)
  rw [if_pos (by rfl)]
  go_simp
  refine hK.out _ _ ⟨by rw [World.cell?_drew, World.cell?_alloc_past _ _ _ (by simp; omega)]; exact hHeld.1, by rw [World.cell?_drew, World.cell?_alloc_past _ _ _ (by simp)]; exact hHeld.2⟩ (fun hHeld2 => ?_)
  clear hK K
  refine wpAnyH_take (i := 13) (oi := ⟨some 4, _, _, _, _, _⟩) (v := .slice (some ⟨w.heap.size + 2, 0, none⟩) 2 2) rfl (by kernel_rfl) (by kernel_rfl) (by kernel_rfl) (fun _ _ _ h => h) (Or.inl ⟨by rfl, fun w hSw => by (try dsimp only at hSw); go_simp⟩) hHeld2 ?_
  simp only [Act.put, List.setIfInBounds_toArray, List.set_cons_zero, List.set_cons_succ]
  refine wpAnyH_done (by kernel_rfl) ?_ _
  go_wp2
  go_ret
  exact ⟨rfl, rfl⟩
end Go.Proofs.YthdffenpkdbejaaGreatDoor

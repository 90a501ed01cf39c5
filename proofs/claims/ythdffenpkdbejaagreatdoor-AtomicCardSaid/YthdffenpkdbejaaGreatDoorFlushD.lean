import Derived.Test.YthdffenpkdbejaaGreatDoorFlushC
namespace Go.Proofs.YthdffenpkdbejaaGreatDoor
open Go.RowKit

theorem stepCells_one (b pa ps : Nat) : ∀ u ∈ createCells b pa ps, u.oneCell' = true := by
  intro u hu
  simp [createCells] at hu
  rcases hu with rfl | rfl | rfl | rfl | rfl | rfl | rfl | rfl | rfl | rfl | rfl <;> rfl
theorem writeCells_one (b pa pc pd : Nat) (s : ByteArray) : ∀ u ∈ writeCells b pa pc pd s, u.oneCell' = true := by
  intro u hu
  simp [writeCells] at hu
  rcases hu with rfl | rfl | rfl | rfl | rfl | rfl | rfl | rfl | rfl | rfl | rfl <;> rfl

/-- a box: one cell in a block -/
def Box (w : World) (p : Nat) (T : TypeId) (v : Value) : Prop := w.heap[p]? = some (.cells #[v] T (0, 0))

/-- what Flush leaves -/
def FlushPost (w : World) (b : Nat) (t : Tab) (a : Ann) (s : ByteArray) (e : Ending) (w' : World) : Prop :=
  ∃ g cap pa ps qa pc pd, e = .returned (.int .i64 0) ∧ AnnIn w' b t { a with job := .slice (some ⟨g, 0, none⟩) 4 cap } ∧ w'.ownsRow w.heap.size 134 6 (.slice (some ⟨g, 0, none⟩) 4 cap) 4 (createCells b pa ps ++ writeCells b qa pc pd s) ∧
    (Box w' pa 34 (.pointer (some ⟨b, 0, none⟩)) ∧ Box w' ps 3 (.int .i64 1) ∧ Box w' qa 34 (.pointer (some ⟨b, 0, none⟩)) ∧ Box w' pc 3 (.int .i64 1) ∧ Box w' pd 9 (.string s)) ∧
    (w.heap.size ≤ pa ∧ w.heap.size ≤ ps ∧ w.heap.size ≤ qa ∧ w.heap.size ≤ pc ∧ w.heap.size ≤ pd) ∧ Only b w w'

set_option maxRecDepth 100000 in
set_option maxHeartbeats 1600000 in
theorem flush_any (w : World) (b gw cw : Nat) (t : Tab) (a : Ann) (s : ByteArray) (ht : AnnIn w b t a) (hw : a.waiting = .slice (some ⟨gw, 0, none⟩) 1 cw) (hs : w.cell? ⟨gw, 0, none⟩ = some (.string s)) (hj : a.job = .slice none 0 0) (hr : a.reads = false) (hseg : a.segment = 0) (hnx : a.next = 1) :
    Calls Tryz.prog 19 #[.pointer (some ⟨b, 0, none⟩)] w (FlushPost w b t a s) := by
  have h129 : w.cell? ⟨b, 129, none⟩ = some (.slice (some ⟨gw, 0, none⟩) 1 cw) := by have := ht.rest 1; rw [← hw]; exact this
  have h135 : w.cell? ⟨b, 135, none⟩ = some (.int .i64 1) := by have := ht.rest 7; rw [← hnx]; exact this
  have hb := ht.lt
  have hg : gw < w.heap.size := by
    have := block_lt_of_cell hs
    simpa using this
  have R0 := hide (refusal_ok b t a w ht hj hr)
  have R1 := hide (needs_yes b t a w ht hseg)
  have HT := hide ht
  clear ht
  go_enter Tryz.func19, Tryz.ntmps19
  go_wp2_with fail
  refine (unhide R0).mono ?_
  rintro e w' ⟨rfl, rfl⟩
  go_wp2_with fail
  refine (unhide R1).mono ?_
  rintro e w' ⟨rfl, rfl⟩
  go_wp2_with fail
  refine wp_region_held_drew (S := fun w' => w'.cell? ⟨b, 135, none⟩ = some (.int .i64 1)) (by kernel_rfl) ?_ (fun hHeld => ?_)
  · exact h135
  refine wpAnyH_take (i := 0) (oi := ⟨some 32, _, _, _, _, _⟩) (v := .pointer (some ⟨b, 0, none⟩)) rfl (by kernel_rfl) (by kernel_rfl) (by kernel_rfl) (fun _ _ _ h => h) (Or.inl ⟨by rfl, fun w hSw => by (try dsimp only at hSw); go_simp⟩) hHeld ?_
  simp only [Act.put, List.setIfInBounds_toArray, List.set_cons_zero, List.set_cons_succ]
  refine wpAnyH_take (i := 1) (oi := ⟨some 33, _, _, _, _, _⟩) (v := .pointer (some ⟨b, 0, none⟩)) rfl (by kernel_rfl) (by kernel_rfl) (by kernel_rfl) (fun _ _ _ h => h) (Or.inl ⟨by rfl, fun w hSw => by (try dsimp only at hSw); go_simp⟩) hHeld ?_
  simp only [Act.put, List.setIfInBounds_toArray, List.set_cons_zero, List.set_cons_succ]
  refine wpAnyH_take (i := 2) (oi := ⟨some 34, _, _, _, _, _⟩) (v := .pointer (some ⟨b, 0, none⟩)) rfl (by kernel_rfl) (by kernel_rfl) (by kernel_rfl) (fun _ _ _ h => h) (Or.inl ⟨by rfl, fun w hSw => by (try dsimp only at hSw); go_simp⟩) hHeld ?_
  simp only [Act.put, List.setIfInBounds_toArray, List.set_cons_zero, List.set_cons_succ]
  refine wpAnyH_take (i := 3) (oi := ⟨some 35, _, _, _, _, _⟩) (v := .pointer (some ⟨b, 0, none⟩)) rfl (by kernel_rfl) (by kernel_rfl) (by kernel_rfl) (fun _ _ _ h => h) (Or.inl ⟨by rfl, fun w hSw => by (try dsimp only at hSw); go_simp⟩) hHeld ?_
  simp only [Act.put, List.setIfInBounds_toArray, List.set_cons_zero, List.set_cons_succ]
  refine wpAnyH_take (i := 4) (oi := ⟨some 36, _, _, _, _, _⟩) (v := .pointer (some ⟨b, 135, none⟩)) rfl (by kernel_rfl) (by kernel_rfl) (by kernel_rfl) (fun _ _ _ h => h) (Or.inl ⟨by rfl, fun w hSw => by (try dsimp only at hSw); go_simp⟩) hHeld ?_
  simp only [Act.put, List.setIfInBounds_toArray, List.set_cons_zero, List.set_cons_succ]
  refine wpAnyH_take (i := 5) (oi := ⟨some 37, _, _, _, _, _⟩) (v := .int .i64 1) rfl (by kernel_rfl) (by kernel_rfl) (by kernel_rfl) (fun _ _ _ h => h) (Or.inl ⟨by rfl, fun w hSw => by (try dsimp only at hSw); go_simp⟩) hHeld ?_
  simp only [Act.put, List.setIfInBounds_toArray, List.set_cons_zero, List.set_cons_succ]
  refine wpAnyH_take (i := 7) (oi := ⟨some 39, _, _, _, _, _⟩) (v := .pointer (some ⟨b, 0, none⟩)) rfl (by kernel_rfl) (by kernel_rfl) (by kernel_rfl) (fun _ _ _ h => h) (Or.inl ⟨by rfl, fun w hSw => by (try dsimp only at hSw); go_simp⟩) hHeld ?_
  simp only [Act.put, List.setIfInBounds_toArray, List.set_cons_zero, List.set_cons_succ]
  refine wpAnyH_take (i := 8) (oi := ⟨some 40, _, _, _, _, _⟩) (v := .pointer (some ⟨b, 0, none⟩)) rfl (by kernel_rfl) (by kernel_rfl) (by kernel_rfl) (fun _ _ _ h => h) (Or.inl ⟨by rfl, fun w hSw => by (try dsimp only at hSw); go_simp⟩) hHeld ?_
  simp only [Act.put, List.setIfInBounds_toArray, List.set_cons_zero, List.set_cons_succ]
  refine wpAnyH_take (i := 9) (oi := ⟨some 41, _, _, _, _, _⟩) (v := .pointer (some ⟨b, 0, none⟩)) rfl (by kernel_rfl) (by kernel_rfl) (by kernel_rfl) (fun _ _ _ h => h) (Or.inl ⟨by rfl, fun w hSw => by (try dsimp only at hSw); go_simp⟩) hHeld ?_
  simp only [Act.put, List.setIfInBounds_toArray, List.set_cons_zero, List.set_cons_succ]
  refine wpAnyH_take (i := 10) (oi := ⟨some 42, _, _, _, _, _⟩) (v := .pointer (some ⟨b, 135, none⟩)) rfl (by kernel_rfl) (by kernel_rfl) (by kernel_rfl) (fun _ _ _ h => h) (Or.inl ⟨by rfl, fun w hSw => by (try dsimp only at hSw); go_simp⟩) hHeld ?_
  simp only [Act.put, List.setIfInBounds_toArray, List.set_cons_zero, List.set_cons_succ]
  refine wpAnyH_take (i := 11) (oi := ⟨some 43, _, _, _, _, _⟩) (v := .int .i64 1) rfl (by kernel_rfl) (by kernel_rfl) (by kernel_rfl) (fun _ _ _ h => h) (Or.inl ⟨by rfl, fun w hSw => by (try dsimp only at hSw); go_simp⟩) hHeld ?_
  simp only [Act.put, List.setIfInBounds_toArray, List.set_cons_zero, List.set_cons_succ]
  refine wpAnyH_all (rs := [6]) (by kernel_rfl) (by simp) (AllReadyH.cons (o := ⟨some 38, _, _, _, _, _⟩) rfl (fun K hK => ?_) AllReadyH.nil)
  rw [if_pos (by rfl)]
  go_simp
  refine (create_any _ b).mono ?_
  rintro e w1 ⟨rfl, hw1⟩
  have B1 : Below w.heap.size w w1 := by rw [hw1]; exact ((((Below.refl _ w).drew.alloc (Nat.le_refl _) _).alloc (by simp) _).alloc (by simp; omega) _).drew
  have L1 : w1.heap.size = w.heap.size + 3 := by rw [hw1]; simp
  have X0 : Box w1 w.heap.size 34 (.pointer (some ⟨b, 0, none⟩)) := by
    unfold Box; rw [hw1]
    show ((((w.drew.alloc _).alloc _).alloc _)).heap[w.heap.size]? = _
    rw [Below.heap_alloc _ _ _ (by simp; omega), Below.heap_alloc _ _ _ (by simp)]
    exact heap_alloc_last w.drew _
  have X1 : Box w1 (w.heap.size + 1) 3 (.int .i64 1) := by
    unfold Box; rw [hw1]
    show ((((w.drew.alloc _).alloc _).alloc _)).heap[w.heap.size + 1]? = _
    rw [Below.heap_alloc _ _ _ (by simp)]
    have := heap_alloc_last (w.drew.alloc (.cells #[.pointer (some ⟨b, 0, none⟩)] 34)) (.cells #[.int .i64 1] 3)
    simpa using this
  have X2 : w1.heap[w.heap.size + 2]? = some (.cells (createCells b w.heap.size (w.heap.size + 1)).toArray 134 (0, 0)) := by
    rw [hw1]
    have := heap_alloc_last ((w.drew.alloc (.cells #[.pointer (some ⟨b, 0, none⟩)] 34)).alloc (.cells #[.int .i64 1] 3)) (.cells (createCells b w.heap.size (w.heap.size + 1)).toArray 134)
    have e : ((w.drew.alloc (.cells #[.pointer (some ⟨b, 0, none⟩)] 34)).alloc (.cells #[.int .i64 1] 3)).heap.size = w.heap.size + 2 := by simp
    rw [e] at this
    exact this
  clear hw1
  replace hHeld := (B1.cell (p := ⟨b, 135, none⟩) hb).trans h135
  refine hK.out _ _ hHeld (fun hHeld2 => ?_)
  clear hK K hHeld2
  have HW := hide (write_any w1 b gw cw s ((B1.cell (p := ⟨b, 129, none⟩) hb).trans h129) ((B1.cell (p := ⟨gw, 0, none⟩) hg).trans hs) (by omega) (by omega))
  refine wpAnyH_all (rs := [12]) (by kernel_rfl) (by simp) (AllReadyH.cons (o := ⟨some 44, _, _, _, _, _⟩) rfl (fun K hK => ?_) AllReadyH.nil)
  rw [if_pos (by rfl)]
  go_simp
  refine (unhide HW).mono ?_
  rintro e w2 ⟨pc, pd, pj, rfl, l1, l2, l3, Y0, Y1, Y2, Y3, b2⟩
  have Z2 := b2.size
  have B2 : Below w.heap.size w w2 := B1.trans (b2.mono (by omega))
  replace hHeld := (B2.cell (p := ⟨b, 135, none⟩) hb).trans h135
  refine hK.out _ _ hHeld (fun hHeld2 => ?_)
  clear hK K hHeld2 HW
  have X0' := (b2.block _ (by omega)).trans X0
  have X1' := (b2.block _ (by omega)).trans X1
  have X2' := (b2.block _ (by omega)).trans X2
  clear X0 X1 X2
  obtain ⟨io, hio, hio0, hio1, hio2⟩ := info_parts stepZero
  have own2 : w2.ownsRow w.heap.size 134 6 (.slice (some ⟨w.heap.size + 2, 0, none⟩) 2 2) 2 (createCells b w.heap.size (w.heap.size + 1)) := ⟨rfl, .inr ⟨w.heap.size + 2, 2, _, rfl, by omega, X2', by omega, by unfold maxLen; omega, rfl, rfl⟩⟩
  refine wpAnyH_all (rs := [13]) (by kernel_rfl) (by simp) (AllReadyH.cons (o := ⟨some 45, _, _, _, _, _⟩) rfl (fun K hK => ?_) AllReadyH.nil)
  rw [if_pos (by rfl)]
  refine wp_append_own _ (.tmp 38) (.tmp 44) 117 rfl w.heap.size 134 io _ 6 72 Tryz.underlying117 hio hio0 hio1 hio2 (by rfl) (by decide) _ _ _ rfl own2 ⟨pj, 0, none⟩ 2 2 (writeCells b w1.heap.size pc pd s) rfl (by rfl) ?_ (writeCells_one _ _ _ _ _) (by unfold maxLen; omega) (by omega) (by omega) ?_
  · intro j u hu
    rw [Addr.add_mid, Nat.zero_add, cell_of_row _ _ _ _ _ _ Y3]
    simpa using hu
  intro v w3 own3 gr3' _
  have gr3 : w2.grownBy w3 (some (w.heap.size + 2)) := ⟨gr3'.os, gr3'.tape, gr3'.output, gr3'.size, gr3'.block⟩
  clear gr3'
  obtain ⟨g, cap, rfl⟩ := own_form own3 (by omega)
  have K3 : ∀ j, j < w2.heap.size → j ≠ w.heap.size + 2 → w3.heap[j]? = w2.heap[j]? := fun j hj hne => gr3.block j hj (fun e => hne (by simpa using e))
  have Z3 := gr3.size
  have T3 : TabIn w3 b 119 t.h t.v _ := ((unhide HT).other (B2.block b hb)).other (K3 b (by omega) (by omega))
  replace hHeld : w3.cell? ⟨b, 135, none⟩ = some (.int .i64 1) := by
    rw [World.cell?_of_block (w := w2) (a := ⟨b, 135, none⟩) (K3 b (by omega) (by omega))]
    exact hHeld
  refine hK.out _ _ hHeld (fun hHeld2 => ?_)
  clear hK K hHeld2
  refine wpAnyH_take (i := 14) (oi := ⟨some 46, _, _, _, _, _⟩) (v := .pointer (some ⟨b, 0, none⟩)) rfl (by kernel_rfl) (by kernel_rfl) (by kernel_rfl) (fun _ _ _ h => h) (Or.inl ⟨by rfl, fun w hSw => by (try dsimp only at hSw); go_simp⟩) hHeld ?_
  simp only [Act.put, List.setIfInBounds_toArray, List.set_cons_zero, List.set_cons_succ]
  refine wpAnyH_take (i := 15) (oi := ⟨some 47, _, _, _, _, _⟩) (v := .pointer (some ⟨b, 138, none⟩)) rfl (by kernel_rfl) (by kernel_rfl) (by kernel_rfl) (fun _ _ _ h => h) (Or.inl ⟨by rfl, fun w hSw => by (try dsimp only at hSw); go_simp⟩) hHeld ?_
  simp only [Act.put, List.setIfInBounds_toArray, List.set_cons_zero, List.set_cons_succ]
  have c138 : w3.cell? ⟨b, 138, none⟩ = some a.job := T3.rest 10
  rw [hj] at c138
  have f138 := T3.frozen 138
  have T4 := T3.setRest 10 (.slice (some ⟨g, 0, none⟩) 4 cap)
  refine wpAnyH_all (rs := [16]) (by kernel_rfl) (by simp) (AllReadyH.cons (o := ⟨none, _, _, _, _, _⟩) rfl (fun K hK => ?_) AllReadyH.nil)
  rw [if_pos (by rfl)]
  go_simp
  refine hK.out _ _ (by have := T4.rest 7; rw [← hnx]; exact this) (fun hHeld2 => ?_)
  clear hK K hHeld2
  refine wpAnyH_done (by kernel_rfl) ?_ _
  have hgb : g ≠ b := by
    intro e
    obtain ⟨cur, hcur⟩ := own_type own3 (k := g) rfl
    have e2 := T3
    unfold TabIn at e2
    rw [← e, hcur] at e2
    simp at e2
  have own4 := own_same (w' := w3.setCell ⟨b, 138, none⟩ (.slice (some ⟨g, 0, none⟩) 4 cap)) own3 (fun x hx => Below.heap_setCell _ _ _ _ (by
    simp [Value.ownBlock] at hx
    subst hx
    exact hgb))
  have ne : ∀ j, w.heap.size ≤ j → j ≠ b := by omega
  have lt := fun (j : Nat) (v : Obj) (h : w2.heap[j]? = some v) => (Array.getElem?_eq_some_iff.1 h).1
  have M : ∀ j, j < w2.heap.size → j ≠ w.heap.size + 2 → j ≠ b → (w3.setCell ⟨b, 138, none⟩ (.slice (some ⟨g, 0, none⟩) 4 cap)).heap[j]? = w2.heap[j]? := fun j hj h1 h2 => (Below.heap_setCell _ _ _ _ h2).trans (K3 j hj h1)
  have FIN : FlushPost w b t a s (.returned (.int .i64 0)) (w3.setCell ⟨b, 138, none⟩ (.slice (some ⟨g, 0, none⟩) 4 cap)) := by
    refine ⟨g, cap, w.heap.size, w.heap.size + 1, w1.heap.size, pc, pd, rfl, T4, own4, ⟨(M _ (lt _ _ X0') (by omega) (by omega)).trans X0', (M _ (lt _ _ X1') (by omega) (by omega)).trans X1', (M _ (lt _ _ Y0) (by omega) (by omega)).trans Y0, (M _ (lt _ _ Y1) (by omega) (by omega)).trans Y1, (M _ (lt _ _ Y2) (by omega) (by omega)).trans Y2⟩, ⟨by omega, by omega, by omega, by omega, by omega⟩, ?_⟩
    exact ⟨gr3.os.trans B2.os, gr3.tape.trans B2.tape, gr3.output.trans B2.output, by simp [World.setCell]; omega, fun j hj hjb => (M j (by omega) (by omega) hjb).trans (B2.block j hj)⟩
  have FF := hide FIN
  clear FIN M lt ne own4 hgb T4 f138 c138 T3 K3 own3 gr3 own2 Y0 Y1 Y2 Y3 X0' X1' X2' B2 B1 b2
  go_wp2
  go_ret
  exact unhide FF
end Go.Proofs.YthdffenpkdbejaaGreatDoor

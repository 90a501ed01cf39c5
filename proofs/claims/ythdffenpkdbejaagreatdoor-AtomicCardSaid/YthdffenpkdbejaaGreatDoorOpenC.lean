import Derived.Test.YthdffenpkdbejaaGreatDoorOpenB
import Derived.Test.YthdffenpkdbejaaGreatDoorOrdW
import Derived.Deep.RegionHeld3
import Derived.Great.BuildSlice
namespace Go.Proofs.YthdffenpkdbejaaGreatDoor
open Go.RowKit

/-- a State's cells -/
def stCells (h : Nat → Bool) (v : Nat → Int) (last next : Int) : List Value := tabCells h v ++ [.int .i64 0, .int .i64 next, .int .i64 last, .int .i64 next, .slice none 0 0, .slice none 0 0]
theorem stCells_length (h : Nat → Bool) (v : Nat → Int) (last next : Int) : (stCells h v last next).length = 134 := by simp [stCells, tabCells_length]
theorem stInfo (h : Nat → Bool) (v : Nat → Int) (last next : Int) : (Tryz.prog.info? 126).map (·.size) = some (stCells h v last next).length := by
  rw [stCells_length]; kernel_rfl
theorem stZero : (Tryz.prog.info? 126).map (fun i => (i.zero, i.size)) = some (some (.agg (stCells (fun _ => false) (fun _ => 0) 0 0).toArray), 134) := by kernel_rfl

theorem buildSt (w : World) : (Instr.build 126 #[(0, .agg (tabCells (fun _ => false) (fun _ => 0)).toArray), (1, .agg #[.int .i64 0, .int .i64 1]), (2, .int .i64 0), (3, .int .i64 1), (4, .slice none 0 0), (5, .slice none 0 0)]).run Tryz.prog w = .ok (.agg (stCells (fun _ => false) (fun _ => 0) 0 1).toArray) w := by kernel_rfl
theorem st_one (h : Nat → Bool) (v : Nat → Int) (l n : Int) : ∀ x ∈ stCells h v l n, x.oneCell' = true := by
  intro x hx
  simp only [stCells, tabCells, List.mem_append, List.mem_map, List.mem_cons, List.not_mem_nil, or_false] at hx
  rcases hx with ⟨j, _, rfl⟩ | rfl | rfl | rfl | rfl | rfl | rfl
  · unfold cellOf; split <;> rfl
  all_goals rfl
/-- a store of a whole row -/
theorem rowStore {P : Program} {w : World} {b : Nat} {T : TypeId} {old : List Value} (h : w.heap[b]? = some (.cells old.toArray T (0, 0))) (new : List Value) (hl : old.length = new.length) (h1 : ∀ x ∈ new, x.oneCell' = true) :
    (storeCells ⟨b, 0, none⟩ new 0).run P w = .ok () (w.setCells b 0 new) := by
  have := run_storeCells_cells (P := P) b 0 new 0 w (fun j hj => by rw [cell_of_row _ _ _ _ _ _ h]; simp; omega) (fun j hj => frozen_of_row w b _ _ T h) h1
  simpa using this
theorem rowSet {w : World} {b : Nat} {T : TypeId} {old : List Value} (h : w.heap[b]? = some (.cells old.toArray T (0, 0))) (new : List Value) (hl : old.length = new.length) :
    (w.setCells b 0 new).heap[b]? = some (.cells new.toArray T (0, 0)) := by
  have := heap_setCells_row b T new [] old [] w hl (by simpa using h)
  simpa using this
theorem rowRange {w : World} {b : Nat} {T : TypeId} {cs : List Value} (h : w.heap[b]? = some (.cells cs.toArray T (0, 0))) : w.rangeAt b 0 cs := by
  intro j x hx
  rw [cell_of_row w b _ _ T (0, 0) h]
  simpa using hx
theorem storeSt (w : World) : (storeCells ⟨w.heap.size, 0, none⟩ (stCells (fun _ => false) (fun _ => 0) 0 1) 0).run Tryz.prog (w.alloc (.cells (stCells (fun _ => false) (fun _ => 0) 0 0).toArray 126)) = .ok () (w.alloc (.cells (stCells (fun _ => false) (fun _ => 0) 0 1).toArray 126)) := by
  have := run_storeCells_new (P := Tryz.prog) w 126 (stCells (fun _ => false) (fun _ => 0) 0 0).toArray (stCells (fun _ => false) (fun _ => 0) 0 1).toArray (by simpa using stInfo _ _ _ _) (by simp [stCells_length]) (all_oneCell_toArray (st_one _ _ _ _))
  exact this

set_option maxRecDepth 100000 in
set_option maxHeartbeats 1600000 in
theorem read_nil (w : World) : Calls Tryz.prog 53 #[.slice none 0 0] w fun e w' => e = .returned (.tuple #[.agg (stCells (fun _ => false) (fun _ => 0) 0 1).toArray, .nilIface]) ∧ Below w.heap.size w w' := by
  have hz := (zero_of_info stZero).1
  have hz2 := (zero_of_info tabZero).1
  have hl0 := tabCells_length (fun _ => false) (fun _ => 0)
  go_enter Tryz.func53, Tryz.ntmps53
  go_wp2_with fail
  refine (places_nil _).mono ?_
  rintro e w1 ⟨rfl, rfl⟩
  go_wp2_with fail
  have hm : ((w.alloc (.cells (stCells (fun _ => false) (fun _ => 0) 0 0).toArray 126)).alloc (.map #[] 0)).heap[w.heap.size + 1]? = some (.map #[] 0) := by
    have := heap_alloc_last (w.alloc (.cells (stCells (fun _ => false) (fun _ => 0) 0 0).toArray 126)) (.map #[] 0)
    simpa using this
  have B1 := hide (((Below.refl w.heap.size w).alloc (Nat.le_refl _) (.cells (stCells (fun _ => false) (fun _ => 0) 0 0).toArray 126)).alloc (by simp) (.map #[] 0))
  refine (manifest_nil _ _ hm).mono ?_
  rintro e w1 ⟨rfl, b1⟩
  replace B1 := hide ((unhide B1).trans (b1.mono (by simp; omega)))
  have hs1 : w1.heap[w.heap.size]? = some (.cells (stCells (fun _ => false) (fun _ => 0) 0 0).toArray 126 (0, 0)) := by
    rw [b1.block _ (by simp; omega), Below.heap_alloc _ _ _ (by simp)]
    exact heap_alloc_last w _
  clear hm b1
  go_wp2_with fail
  refine (checkpoint_nil _ _).mono ?_
  rintro e w2 ⟨rfl, b2⟩
  have t0 : TabIn (w2.alloc (.cells (tabCells (fun _ => false) (fun _ => 0)).toArray 112)) w2.heap.size 112 (fun _ => false) (fun _ => 0) [] := by unfold TabIn; rw [List.append_nil]; exact heap_alloc_last w2 _
  have hst := storeTab (P := Tryz.prog) t0 (fun _ => false) (fun _ => 0)
  go_wp2_with fail
  have hl1 : w.heap.size < w1.heap.size := (Array.getElem?_eq_some_iff.1 hs1).1
  have hs2 : w2.heap[w.heap.size]? = some (.cells (stCells (fun _ => false) (fun _ => 0) 0 0).toArray 126 (0, 0)) := by
    rw [b2.block _ (by simp; omega), Below.heap_alloc _ _ _ hl1]; exact hs1
  have hm2 : w2.heap[w1.heap.size]? = some (.cells #[.int .i64 0, .int .i64 1] 115 (0, 0)) := by
    rw [b2.block _ (by simp)]; exact heap_alloc_last w1 _
  have B2 := hide (((unhide B1).alloc (Nat.le_of_lt hl1) (.cells #[.int .i64 0, .int .i64 1] 115)).trans (b2.mono (by simp; omega)))
  have O := Only.setCells (b := w2.heap.size) (tabCells (fun _ => false) (fun _ => 0)) 0 ((Only.refl w2.heap.size w2).alloc (.cells (tabCells (fun _ => false) (fun _ => 0)).toArray 112))
  have t3 := t0.setAll (h' := fun _ => false) (v' := fun _ => 0)
  clear hst t0 b2 B1 hs1
  generalize (w2.alloc (Obj.cells (tabCells (fun x => false) fun x => 0).toArray 112)).setCells w2.heap.size 0 (tabCells (fun x => false) fun x => 0) = w3 at *
  have hl2 : w1.heap.size < w2.heap.size := (Array.getElem?_eq_some_iff.1 hm2).1
  have hs3 : w3.heap[w.heap.size]? = some (.cells (stCells (fun _ => false) (fun _ => 0) 0 0).toArray 126 (0, 0)) := (O.block _ (by omega) (by omega)).trans hs2
  have hm3 : w3.heap[w1.heap.size]? = some (.cells #[.int .i64 0, .int .i64 1] 115 (0, 0)) := (O.block _ (by omega) (by omega)).trans hm2
  have B3 := hide ((unhide B2).trans (Below.mono (O.toBelow (Nat.le_refl _)) (by omega)))
  clear O B2 hs2 hm2
  generalize hbm : w1.heap.size = bm at *
  generalize hbt : w2.heap.size = bt at *
  clear hbm hbt w1 w2
  refine (segments_nil _).mono ?_
  rintro e w4 ⟨rfl, rfl⟩
  go_wp2_with fail
  have hbl : bt < w3.heap.size := t3.lt
  refine wp_region_held_drew (S := fun w' => w'.rangeAt bt 0 (tabCells (fun _ => false) (fun _ => 0)) ∧ w'.cell? ⟨bm, 0, none⟩ = some (.int .i64 0) ∧ w'.cell? ⟨bm, 1, none⟩ = some (.int .i64 1)) (by kernel_rfl) ?_ (fun hHeld => ?_)
  · exact ⟨t3.range, by rw [World.cell?_drew, cell_of_row _ _ _ _ _ _ hm3]; rfl, by rw [World.cell?_drew, cell_of_row _ _ _ _ _ _ hm3]; rfl⟩
  refine wpAnyH_take (i := 0) (oi := ⟨some 43, _, _, _, _, _⟩) (v := .agg (tabCells (fun _ => false) (fun _ => 0)).toArray) rfl (by kernel_rfl) (by kernel_rfl) (by kernel_rfl) (fun _ _ _ h => h) (yieldsIf_load_mid (by rfl) 112 _ rfl bt 0 rfl (tabCells (fun _ => false) (fun _ => 0)) _ (fun w hSw => hSw.1) Tryz.underlying112 rfl (tabInfo _ _)) hHeld ?_
  simp only [Act.put, List.setIfInBounds_toArray, List.set_cons_zero, List.set_cons_succ]
  refine wpAnyH_take (i := 1) (oi := ⟨some 44, _, _, _, _, _⟩) (v := .agg #[.int .i64 0, .int .i64 1]) rfl (by kernel_rfl) (by kernel_rfl) (by kernel_rfl) (fun _ _ _ h => h) (Or.inl ⟨by rfl, fun w hSw => by (try dsimp only at hSw); go_simp⟩) hHeld ?_
  simp only [Act.put, List.setIfInBounds_toArray, List.set_cons_zero, List.set_cons_succ]
  refine wpAnyH_take (i := 2) (oi := ⟨some 45, _, _, _, _, _⟩) (v := .pointer (some ⟨bm, 0, none⟩)) rfl (by kernel_rfl) (by kernel_rfl) (by kernel_rfl) (fun _ _ _ h => h) (Or.inl ⟨by rfl, fun w hSw => by (try dsimp only at hSw); go_simp⟩) hHeld ?_
  simp only [Act.put, List.setIfInBounds_toArray, List.set_cons_zero, List.set_cons_succ]
  refine wpAnyH_take (i := 3) (oi := ⟨some 46, _, _, _, _, _⟩) (v := .int .i64 0) rfl (by kernel_rfl) (by kernel_rfl) (by kernel_rfl) (fun _ _ _ h => h) (Or.inl ⟨by rfl, fun w hSw => by (try dsimp only at hSw); go_simp⟩) hHeld ?_
  simp only [Act.put, List.setIfInBounds_toArray, List.set_cons_zero, List.set_cons_succ]
  refine wpAnyH_take (i := 4) (oi := ⟨some 47, _, _, _, _, _⟩) (v := .slice none 0 0) rfl (by kernel_rfl) (by kernel_rfl) (by kernel_rfl) (fun _ _ _ h => h) (Or.inl ⟨by rfl, fun w hSw => by (try dsimp only at hSw); go_simp⟩) hHeld ?_
  simp only [Act.put, List.setIfInBounds_toArray, List.set_cons_zero, List.set_cons_succ]
  refine wpAnyH_take (i := 5) (oi := ⟨some 48, _, _, _, _, _⟩) (v := .pointer (some ⟨bm, 1, none⟩)) rfl (by kernel_rfl) (by kernel_rfl) (by kernel_rfl) (fun _ _ _ h => h) (Or.inl ⟨by rfl, fun w hSw => by (try dsimp only at hSw); go_simp⟩) hHeld ?_
  simp only [Act.put, List.setIfInBounds_toArray, List.set_cons_zero, List.set_cons_succ]
  refine wpAnyH_take (i := 6) (oi := ⟨some 49, _, _, _, _, _⟩) (v := .int .i64 1) rfl (by kernel_rfl) (by kernel_rfl) (by kernel_rfl) (fun _ _ _ h => h) (Or.inl ⟨by rfl, fun w hSw => by (try dsimp only at hSw); go_simp⟩) hHeld ?_
  simp only [Act.put, List.setIfInBounds_toArray, List.set_cons_zero, List.set_cons_succ]
  refine wpAnyH_call (i := 7) (oi := ⟨some 50, _, _, _, _, _⟩) (v := .int .i64 1) rfl (by kernel_rfl) (by kernel_rfl) (by kernel_rfl) (fun _ _ _ h => h) ⟨by rfl, fun w _ => ⟨98, #[.slice none 0 0, .int .i64 1], by go_simp, next_nil w 1⟩⟩ hHeld ?_
  simp only [Act.put, List.setIfInBounds_toArray, List.set_cons_zero, List.set_cons_succ]
  refine wpAnyH_take (i := 8) (oi := ⟨some 51, _, _, _, _, _⟩) (v := .slice none 0 0) rfl (by kernel_rfl) (by kernel_rfl) (by kernel_rfl) (fun _ _ _ h => h) (Or.inl ⟨by rfl, fun w hSw => by (try dsimp only at hSw); go_simp⟩) hHeld ?_
  simp only [Act.put, List.setIfInBounds_toArray, List.set_cons_zero, List.set_cons_succ]
  refine wpAnyH_call (i := 9) (oi := ⟨some 52, _, _, _, _, _⟩) (v := .slice none 0 0) rfl (by kernel_rfl) (by kernel_rfl) (by kernel_rfl) (fun _ _ _ h => h) ⟨by rfl, fun w _ => ⟨99, #[.slice none 0 0], by go_simp, numbers_nil w⟩⟩ hHeld ?_
  simp only [Act.put, List.setIfInBounds_toArray, List.set_cons_zero, List.set_cons_succ]
  refine wpAnyH_take (i := 10) (oi := ⟨some 53, _, _, _, _, _⟩) (v := .slice none 0 0) rfl (by kernel_rfl) (by kernel_rfl) (by kernel_rfl) (fun _ _ _ h => h) (Or.inl ⟨by rfl, fun w hSw => by (try dsimp only at hSw); go_simp⟩) hHeld ?_
  simp only [Act.put, List.setIfInBounds_toArray, List.set_cons_zero, List.set_cons_succ]
  refine wpAnyH_call (i := 11) (oi := ⟨some 54, _, _, _, _, _⟩) (v := .slice none 0 0) rfl (by kernel_rfl) (by kernel_rfl) (by kernel_rfl) (fun _ _ _ h => h) ⟨by rfl, fun w _ => ⟨100, #[.slice none 0 0], by go_simp, checkpoints_nil w⟩⟩ hHeld ?_
  simp only [Act.put, List.setIfInBounds_toArray, List.set_cons_zero, List.set_cons_succ]
  refine wpAnyH_take (i := 12) (oi := ⟨some 55, _, _, _, _, _⟩) (v := .agg (stCells (fun _ => false) (fun _ => 0) 0 1).toArray) rfl (by kernel_rfl) (by kernel_rfl) (by kernel_rfl) (fun _ _ _ h => h) (yieldsIf_build (by rfl) 126 _ rfl #[(0, .agg (tabCells (fun _ => false) (fun _ => 0)).toArray), (1, .agg #[.int .i64 0, .int .i64 1]), (2, .int .i64 0), (3, .int .i64 1), (4, .slice none 0 0), (5, .slice none 0 0)] (by simp [Act.eval]) _ buildSt) hHeld ?_
  simp only [Act.put, List.setIfInBounds_toArray, List.set_cons_zero, List.set_cons_succ]
  have hbm3 : bm < w3.heap.size := (Array.getElem?_eq_some_iff.1 hm3).1
  have hst : (storeCells ⟨w3.heap.size, 0, none⟩ (stCells (fun _ => false) (fun _ => 0) 0 1) 0).run Tryz.prog (w3.alloc (.cells (stCells (fun _ => false) (fun _ => 0) 0 0).toArray 126)).drew = .ok () (w3.alloc (.cells (stCells (fun _ => false) (fun _ => 0) 0 1).toArray 126)).drew := storeSt w3.drew
  have hlN := stCells_length (fun _ => false) (fun _ => 0) 0 1
  refine wpAnyH_all (rs := [13]) (by kernel_rfl) (by simp) (AllReadyH.cons (o := ⟨some 9, .alloc 126, _, _, _, _⟩) rfl (fun K hK => ?_) AllReadyH.nil)
  · rw [if_pos (by rfl)]
    go_simp
    refine hK.out _ _ ⟨World.rangeAt_alloc hHeld.1 _, by rw [World.cell?_drew, World.cell?_alloc_past _ _ _ (by omega)]; exact hHeld.2.1, by rw [World.cell?_drew, World.cell?_alloc_past _ _ _ (by omega)]; exact hHeld.2.2⟩ (fun hHeld2 => ?_)
    clear hK K
    refine wpAnyH_all (rs := [14]) (by kernel_rfl) (by simp) (AllReadyH.cons (o := ⟨none, .store 126 (.tmp 9) (.tmp 55), _, _, _, _⟩) rfl (fun K hK => ?_) AllReadyH.nil)
    rw [if_pos (by rfl)]
    go_simp
    refine hK.out _ _ ⟨World.rangeAt_alloc hHeld.1 _, by rw [World.cell?_drew, World.cell?_alloc_past _ _ _ (by omega)]; exact hHeld.2.1, by rw [World.cell?_drew, World.cell?_alloc_past _ _ _ (by omega)]; exact hHeld.2.2⟩ (fun hHeld4 => ?_)
    clear hK K hHeld2 hHeld4 hHeld
    refine wpAnyH_done (by kernel_rfl) ?_ _
    have hw3 : w.heap.size < w3.heap.size := by omega
    have hn6 : (w3.alloc (.cells (stCells (fun _ => false) (fun _ => 0) 0 1).toArray 126)).drew.heap[w3.heap.size]? = some (.cells (stCells (fun _ => false) (fun _ => 0) 0 1).toArray 126 (0, 0)) := heap_alloc_last w3 _
    have hs6 : (w3.alloc (.cells (stCells (fun _ => false) (fun _ => 0) 0 1).toArray 126)).drew.heap[w.heap.size]? = some (.cells (stCells (fun _ => false) (fun _ => 0) 0 0).toArray 126 (0, 0)) := (Below.heap_alloc _ _ _ hw3).trans hs3
    have hm6 : (w3.alloc (.cells (stCells (fun _ => false) (fun _ => 0) 0 1).toArray 126)).drew.heap[bm]? = some (.cells #[.int .i64 0, .int .i64 1] 115 (0, 0)) := (Below.heap_alloc _ _ _ hbm3).trans hm3
    have B6 := hide ((unhide B3).alloc (by omega) (.cells (stCells (fun _ => false) (fun _ => 0) 0 1).toArray 126)).drew
    have hl6 : w3.heap.size < (w3.alloc (.cells (stCells (fun _ => false) (fun _ => 0) 0 1).toArray 126)).drew.heap.size := (Array.getElem?_eq_some_iff.1 hn6).1
    have hc6 : (w3.alloc (.cells (stCells (fun _ => false) (fun _ => 0) 0 1).toArray 126)).drew.cell? ⟨bm, 1, none⟩ = some (.int .i64 1) := by rw [cell_of_row _ _ _ _ _ _ hm6]; rfl
    clear hst B3 hs3 hm3 t3
    generalize (w3.alloc (.cells (stCells (fun _ => false) (fun _ => 0) 0 1).toArray 126)).drew = w6 at *
    generalize w3.heap.size = ns at *
    go_wp2_with fail
    refine (from_nil _ _).mono ?_
    rintro e w7 ⟨rfl, rfl⟩
    go_wp2_with fail
    refine (replay_nil _ _).mono ?_
    rintro e w8 ⟨rfl, b8⟩
    have hn8 := (b8.block ns hl6).trans hn6
    have hs8 := (b8.block w.heap.size (by omega)).trans hs6
    have B8 := hide ((unhide B6).trans (b8.mono (by omega)))
    have hst8 := rowStore (P := Tryz.prog) hs8 (stCells (fun _ => false) (fun _ => 0) 0 1) (by simp [stCells_length]) (st_one _ _ _ _)
    have hr8 := rowSet hs8 (stCells (fun _ => false) (fun _ => 0) 0 1) (by simp [stCells_length])
    have O8 := hide (Only.setCells (b := w.heap.size) (stCells (fun _ => false) (fun _ => 0) 0 1) 0 (Only.refl w.heap.size w8))
    have R8 := hide (rowRange hn8)
    clear hn6 hs6 hm6 B6 b8 hs8 hn8
    go_wp2_with fail
    refine wp_load_mid 126 (.tmp 9) rfl ns 0 rfl (stCells (fun _ => false) (fun _ => 0) 0 1) _ (unhide R8) Tryz.underlying126 rfl (stInfo _ _ _ _) ?_
    go_wp2
    refine row_ret 2 3 126 Tryz.results53 w.heap.size (stCells (fun _ => false) (fun _ => 0) 0 1) .nilIface _ rfl rfl ?_ Tryz.underlying126 rfl (stInfo _ _ _ _) rfl ?_
    · exact rowRange hr8
    · exact ⟨rfl, (unhide B8).trans ((unhide O8).toBelow' (Nat.le_refl _) (by have := (unhide B8).size; omega))⟩
end Go.Proofs.YthdffenpkdbejaaGreatDoor

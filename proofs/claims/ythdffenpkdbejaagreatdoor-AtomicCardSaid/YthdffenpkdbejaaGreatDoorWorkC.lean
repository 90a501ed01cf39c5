import Derived.Test.YthdffenpkdbejaaGreatDoorWorkB
namespace Go.Proofs.YthdffenpkdbejaaGreatDoor
open Go.RowKit

set_option maxRecDepth 100000 in
set_option maxHeartbeats 1600000 in
theorem work_any (c : Cfg) (ok : c.Ok) (a : Ann) (haw : a.waiting = .slice (some ⟨c.gw, 0, none⟩) 1 c.cw) (has : a.segs = .slice none 0 0) (w : World) (h : WK c a w w 0) :
    Calls Tryz.prog 20 #[.pointer (some ⟨c.rb, 0, none⟩), .int .i64 9, .int .i64 (-1), .int .i64 0] w fun e w' => e = .returned (.bool true) ∧ ∃ sv, WK c { a with segs := sv } w w' 4 := by
  go_enter Tryz.func20, Tryz.ntmps20
  go_wp2
  go_loopw [9] (fun i wr => ∃ (k : Nat) (sv : Value), k ≤ 4 ∧ i = .int .i64 k ∧ (k = 0 → sv = .slice none 0 0) ∧ WK c { a with segs := sv } w wr k) (fun i _ => 9 - (intOf i).toNat)
  case atStart => exact ⟨0, a.segs, by omega, rfl, fun _ => has, h⟩
  case round =>
    obtain ⟨k, sv, hk, rfl, hsv, hwk⟩ := hrel
    have run := hwk.st.run
    have r0 : wr.cell? ⟨c.rb, 0, none⟩ = some (.pointer (some ⟨c.b, 0, none⟩)) := by rw [cell_of_row _ _ _ _ _ _ run, ← ok.ra]; rfl
    by_cases hk4 : k < 4
    · have HA := hide (actK_any hwk hk4)
      have HW := hide hwk
      clear hwk
      go_wp2_with fail
      refine (unhide HA).mono ?_
      rintro e w1 ⟨rfl, b1⟩
      have HW1 := hide ((unhide HW).below ok b1)
      clear HA HW b1 run r0
      go_wp2_with fail
      have HW2 := hide ((unhide HW1).below ok ((Below.refl _ w1).alloc (Nat.le_refl _) (.cells #[.int .i64 (kindK k), .string (nameK k), .string (dataK c k), .string .empty] 78)))
      have hx : (w1.alloc (.cells #[.int .i64 (kindK k), .string (nameK k), .string (dataK c k), .string .empty] 78)).heap[w1.heap.size]? = some (.cells #[.int .i64 (kindK k), .string (nameK k), .string (dataK c k), .string .empty] 78 (0, 0)) := heap_alloc_last w1 _
      clear HW1
      generalize w1.alloc (.cells #[.int .i64 (kindK k), .string (nameK k), .string (dataK c k), .string .empty] 78) = w2 at *
      generalize w1.heap.size = bx at *
      have run2 := (unhide HW2).st.run
      have S1 : w2.cell? ⟨c.rb, 1, none⟩ = some (.pointer (some ⟨c.d, 0, none⟩)) := by rw [cell_of_row _ _ _ _ _ _ run2, ← ok.rd]; rfl
      have x0 : w2.cell? ⟨bx, 0, none⟩ = some (.int .i64 (kindK k)) := by rw [cell_of_row _ _ _ _ _ _ hx]; rfl
      have x1 : w2.cell? ⟨bx, 1, none⟩ = some (.string (nameK k)) := by rw [cell_of_row _ _ _ _ _ _ hx]; rfl
      have x2 : w2.cell? ⟨bx, 2, none⟩ = some (.string (dataK c k)) := by rw [cell_of_row _ _ _ _ _ _ hx]; rfl
      have x3 : w2.cell? ⟨bx, 3, none⟩ = some (.string .empty) := by rw [cell_of_row _ _ _ _ _ _ hx]; rfl
      refine region_z (S := fun w' => w'.cell? ⟨c.rb, 1, none⟩ = some (.pointer (some ⟨c.d, 0, none⟩)) ∧ w'.cell? ⟨bx, 0, none⟩ = some (.int .i64 (kindK k)) ∧ w'.cell? ⟨bx, 1, none⟩ = some (.string (nameK k)) ∧ w'.cell? ⟨bx, 2, none⟩ = some (.string (dataK c k)) ∧ w'.cell? ⟨bx, 3, none⟩ = some (.string .empty)) 5 (by kernel_rfl) ⟨S1, x0, x1, x2, x3⟩ (fun hHeld => ?_)
      clear S1 x0 x1 x2 x3 hx run2
      refine AnyZ.take (i := 4) (oi := ⟨some 40, _, _, _, _, _⟩) (v := .agg #[.int .i64 (kindK k), .string (nameK k), .string (dataK c k), .string .empty]) rfl (by kernel_rfl) (by kernel_rfl) (by kernel_rfl) (by kernel_rfl) (fun _ _ _ h => h) (Or.inl ⟨by rfl, fun w hSw => by (try dsimp only at hSw); go_simp⟩) hHeld ?_
      simp only [Act.put, List.setIfInBounds_toArray, List.set_cons_zero, List.set_cons_succ]
      refine AnyZ.one (i := 0) (o := ⟨some 36, _, _, _, _, _⟩) (by kernel_rfl) rfl (fun K hK => ?_)
      rw [if_pos (by rfl)]
      go_simp
      refine hK.out _ _ (.inr hHeld) ?_
      clear hK K
      refine AnyZ.one (i := 1) (o := ⟨some 37, _, _, _, _, _⟩) (by kernel_rfl) rfl (fun K hK => ?_)
      rw [if_pos (by rfl)]
      go_simp
      refine hK.out _ _ (.inr hHeld) ?_
      clear hK K
      refine AnyZ.one (i := 2) (o := ⟨some 38, _, _, _, _, _⟩) (by kernel_rfl) rfl (fun K hK => ?_)
      rw [if_pos (by rfl)]
      go_simp
      refine hK.out _ _ (.inr hHeld) ?_
      clear hK K
      refine AnyZ.one (i := 3) (o := ⟨some 39, _, _, _, _, _⟩) (by kernel_rfl) rfl (fun K hK => ?_)
      rw [if_pos (by rfl)]
      go_simp
      refine hK.out _ _ (.inr hHeld) ?_
      clear hK K
      have HD := hide (doK_any (w := w2.drew) ok (k := k) ((unhide HW2).disk.other (fun _ _ _ => rfl)) hk4 (unhide HW2).st.size)
      refine AnyZ.one (i := 5) (o := ⟨some 41, _, _, _, _, _⟩) (by kernel_rfl) rfl (fun K hK => ?_)
      rw [if_pos (by rfl)]
      go_simp
      refine (unhide HD).mono ?_
      rintro e w3 ⟨rfl, d3, os3, tp3, ou3, sz3, bl3⟩
      refine hK.out _ _ (.inl rfl) ?_
      clear hK K HD hHeld
      refine AnyZ.done (by kernel_rfl) ?_ _
      have F3 : Fr c w2 w3 := ⟨os3, tp3, ou3, sz3, fun j hj => bl3 j hj.1 hj.2.2.1⟩
      have S3 := (unhide HW2).st.same ok F3 (bl3 _ ok.b ok.bd)
      have W3 := (unhide HW2).wait.other (bl3 _ ok.gw ok.dg.symm)
      have run3 := S3.run
      have r3 : w3.cell? ⟨c.rb, 0, none⟩ = some (.pointer (some ⟨c.b, 0, none⟩)) := by rw [cell_of_row _ _ _ _ _ _ run3, ← ok.ra]; rfl
      have DD := hide (doneK_any ok (a := { a with segs := sv }) haw hk4 hsv S3 W3 d3)
      clear F3 S3 W3 run3 d3 os3 tp3 ou3 sz3 bl3 HW2
      have kn : ((k : Int) != -1) = true := by simp
      have ke : ((k : Int) == -1) = false := by simp
      go_wp2_with fail
      refine (unhide DD).mono ?_
      rintro e w4 ⟨rfl, sv', h4⟩
      have H4 := hide h4
      clear h4 DD
      go_wp2
      exact ⟨⟨k + 1, sv', by omega, by go_num, by omega, unhide H4⟩, by simp [intOf]; omega⟩
    · obtain rfl : k = 4 := by omega
      have HA := hide (act_none wr c.b c.t _ hwk.st.ann rfl)
      have HW := hide hwk
      clear hwk
      go_wp2_with fail
      refine (unhide HA).mono ?_
      rintro e w1 ⟨rfl, b1⟩
      have HW1 := hide (((unhide HW).below ok b1).below ok ((Below.refl _ w1).alloc (Nat.le_refl _) (.cells #[.int .i64 0, .string .empty, .string .empty, .string .empty] 78)))
      clear HA HW b1 run r0
      go_wp2
      go_ret
      exact ⟨rfl, sv, unhide HW1⟩
end Go.Proofs.YthdffenpkdbejaaGreatDoor

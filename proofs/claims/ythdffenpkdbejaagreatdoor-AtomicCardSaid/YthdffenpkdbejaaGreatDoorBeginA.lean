import Derived.Test.YthdffenpkdbejaaGreatDoorWorkC
import Derived.Test.YthdffenpkdbejaaGreatDoorOpenD
namespace Go.Proofs.YthdffenpkdbejaaGreatDoor
open Go.RowKit

theorem buildTab (w : World) : (Instr.build 42 #[]).run Tryz.prog w = .ok (.agg (kCells (fun _ => false) (fun _ => 0)).toArray) w := by kernel_rfl

theorem tab_slice {ops : Array Oper} {rest : List Oper} {o : Oper} {a : Act} {w : World} {Q : Exit → Act → World → Prop} (hg : o.guard = none) (ho : o.op = .buildSlice 36 1 #[(0, .tmp 23)]) (he : a.eval (.tmp 23) = .agg (kCells (fun _ => false) (fun _ => 0)).toArray)
    (h : wpList Tryz.prog ops Q rest (a.put o.dst (.slice (some ⟨w.heap.size, 0, none⟩) 1 1)) (w.alloc (.cells (kCells (fun _ => false) (fun _ => 0)).toArray 42))) : wpList Tryz.prog ops Q (o :: rest) a w := by
  obtain ⟨ik, hik, hik0, hik1, hik2⟩ := info_parts kInfo3
  refine wpList_buildSlice hg 36 42 1 _ ho (kCells (fun _ => false) (fun _ => 0)).toArray ik _ Tryz.underlying36 hik hik0 (by rw [hik1]; decide) (by rw [hik1]; decide) ?_ h
  simp only [List.map_toArray, List.map_cons, List.map_nil, he, hik1]
  exact fill_one 128 _ _ (by simp) (kCells_length _ _)

set_option maxRecDepth 100000 in
set_option maxHeartbeats 3200000 in
theorem begin_any (w : World) : Calls Tryz.prog 13 #[] w (BeginPost w) := by
  have hbt := buildTab
  have hzero := (zero_of_info kZero).1
  go_enter Tryz.func13, Tryz.ntmps13
  go_wp2_with fail
  refine (open_nil w).mono ?_
  rintro e w1 ⟨b, rfl, hb, a1, b1⟩
  have A1 := hide a1
  have B1 := hide b1
  have hbl := a1.lt
  clear a1 b1
  have F := four_alloc w1 (.cells #[.slice none 0 0, .slice none 0 0, .slice none 0 0, .slice none 0 0] 96) (.cells (kCells (fun _ => false) (fun _ => 0)).toArray 42) (.cells #[.pointer (some ⟨b, 0, none⟩), .pointer (some ⟨w1.heap.size, 0, none⟩), .slice (some ⟨w1.heap.size + 1, 0, none⟩) 1 1, .int .i64 0, .bool false, .int .i64 0] 38) (.cells #[.int .i64 0] 3)
  have ZF : ((((w1.alloc (.cells #[.slice none 0 0, .slice none 0 0, .slice none 0 0, .slice none 0 0] 96)).alloc (.cells (kCells (fun _ => false) (fun _ => 0)).toArray 42)).alloc (.cells #[.pointer (some ⟨b, 0, none⟩), .pointer (some ⟨w1.heap.size, 0, none⟩), .slice (some ⟨w1.heap.size + 1, 0, none⟩) 1 1, .int .i64 0, .bool false, .int .i64 0] 38)).alloc (.cells #[.int .i64 0] 3)).heap.size = w1.heap.size + 4 := by simp
  have FF := hide F
  clear F
  go_wp2_with (refine tab_slice rfl rfl rfl ?_)
  generalize (((w1.alloc (.cells #[.slice none 0 0, .slice none 0 0, .slice none 0 0, .slice none 0 0] 96)).alloc (.cells (kCells (fun _ => false) (fun _ => 0)).toArray 42)).alloc (.cells #[.pointer (some ⟨b, 0, none⟩), .pointer (some ⟨w1.heap.size, 0, none⟩), .slice (some ⟨w1.heap.size + 1, 0, none⟩) 1 1, .int .i64 0, .bool false, .int .i64 0] 38)).alloc (.cells #[.int .i64 0] 3) = W at *
  obtain ⟨F0, F1, F2, F3, F4⟩ := unhide FF
  clear FF
  have z1 := (unhide B1).size
  have hR : RunIn W w.heap.size (w1.heap.size + 1 + 1) ⟨b, w1.heap.size, .slice (some ⟨w1.heap.size + 1, 0, none⟩) 1 1, 0, false, 0⟩ [] tab0 ann0 0 [] :=
    ⟨F2, by omega, hb, ⟨by simp [kFlat, kCells_length], .inr ⟨w1.heap.size + 1, 1, _, rfl, by omega, F1, by simp, by unfold maxLen; omega, by simp [kCells_length], by simp [kFlat, tab0]; exact List.take_of_length_le (Nat.le_of_eq (kCells_length _ _))⟩⟩, (unhide A1).other (F4.block b hbl), World.ownsRow_nil _ _ _ _⟩
  have hraw : RawAt W (some ⟨w1.heap.size + 1 + 1 + 1, 0, none⟩) [0] := by
    intro i z hi
    have h0 : i = 0 := by
      have := (List.getElem?_eq_some_iff.1 hi).1
      simpa using this
    subst h0
    have hz : z = 0 := by simpa using hi.symm
    subst hz
    exact ⟨w1.heap.size + 1 + 1 + 1, 0, rfl, by omega, (cell_of_row _ _ _ _ _ _ F3).trans rfl, by omega, by omega⟩
  have KS := hide (ksubmit_any W w.heap.size (w1.heap.size + 1 + 1) ⟨b, w1.heap.size, .slice (some ⟨w1.heap.size + 1, 0, none⟩) 1 1, 0, false, 0⟩ [] tab0 ann0 0 [] hR (by omega) (some ⟨w1.heap.size + 1 + 1 + 1, 0, none⟩) [0] 1 hraw (by unfold maxLen; simp) 0 (by omega) (by omega) (fun j => ⟨by simp [tab0], by simp [tab0]⟩) rfl (by omega) (by simp [ann0]) (by simp [ann0]) (by simp) (by show w1.heap.size + 1 + 1 ≠ b; omega))
  have BW : Below w.heap.size w W := (unhide B1).trans (F4.mono (by omega))
  refine (unhide KS).mono ?_
  rintro e w2 ⟨v', t', wv, s, rfl, hR2, hs6, hbd2, bel2, fr2⟩
  obtain ⟨gw, cw, rfl⟩ := own_form hR2.wait (by omega)
  have own2 : w2.ownsRow w.heap.size 9 1 (.slice (some ⟨gw, 0, none⟩) 1 cw) 1 [.string s] := hR2.wait
  have hcell : w2.cell? ⟨gw, 0, none⟩ = some (.string s) := own2.cells (g := gw) rfl 0 _ rfl
  have z2 := bel2.size
  have hgwl := own2.lt gw rfl
  have hd2 : w2.heap[w1.heap.size]? = some (.cells #[.slice none 0 0, .slice none 0 0, .slice none 0 0, .slice none 0 0] 96 (0, 0)) := (fr2 w1.heap.size (by omega) (by omega) (by show w1.heap.size ≠ b; omega) (by simp [Value.ownBlock]) (by simp [ann0, Value.ownBlock])).trans F0
  have run2 := hR2.run
  have hbw2 := hR2.ann.lt
  simp only at hbw2
  have FL := hide (flush_any w2 b gw cw t' _ s hR2.ann rfl hcell rfl rfl rfl rfl)
  have HR2 := hide hR2
  have HD2 := hide hd2
  have RUN2 := hide run2
  have OWN2 := hide own2
  have FR2 := hide fr2
  have BEL2 := hide (BW.trans bel2)
  clear KS hR hraw BW F0 F1 F2 F3 F4 hR2 hd2 run2 own2 fr2 bel2 B1 A1 hcell
  go_wp2_with fail
  refine (unhide FL).mono ?_
  rintro e w3 ⟨g, cap, pa, ps, qa, pc, pd, rfl, a3, own3, ⟨x1, x2, x3, x4, x5⟩, ⟨l1, l2, l3, l4, l5⟩, o3⟩
  have z3 := o3.size
  have hg3 := own3.lt g rfl
  have lt3 := fun (j : Nat) (T : TypeId) (v : Value) (h : Box w3 j T v) => (Array.getElem?_eq_some_iff.1 h).1
  have nbg : b ≠ gw := by
    intro e
    obtain ⟨cur, e1⟩ := own_type (unhide OWN2) (k := gw) rfl
    have e2 := (unhide HR2).ann
    unfold AnnIn TabIn at e2
    simp only at e2
    rw [e, e1] at e2
    simp at e2
  have ndg : w1.heap.size ≠ gw := by
    intro e
    obtain ⟨cur, e1⟩ := own_type (unhide OWN2) (k := gw) rfl
    have e2 := unhide HD2
    rw [e, e1] at e2
    simp at e2
  have nrg : w1.heap.size + 1 + 1 ≠ gw := by
    intro e
    obtain ⟨cur, e1⟩ := own_type (unhide OWN2) (k := gw) rfl
    have e2 := unhide RUN2
    rw [e, e1] at e2
    simp at e2
  obtain ⟨c, hc⟩ : ∃ c : Cfg, c = ⟨w.heap.size, w3.heap.size, w1.heap.size + 1 + 1, b, w1.heap.size, g, cap, gw, cw, pa, ps, qa, pc, pd, ⟨b, w1.heap.size, v', 0, false, 0⟩, s, t'⟩ := ⟨_, rfl⟩
  have hcap : 4 ≤ cap ∧ ∃ cur : Array Value, w3.heap[g]? = some (.cells cur 134 (0, 0)) ∧ cur.toList.take 24 = createCells b pa ps ++ writeCells b qa pc pd s := by
    rcases own3.2 with ⟨h0, _⟩ | ⟨g', cap', cur, he, _, h1, h2, _, _, h3⟩
    · cases h0
    · simp at he
      obtain ⟨rfl, rfl⟩ := he
      exact ⟨h2, cur, h1, h3⟩
  obtain ⟨hcap4, hsteps⟩ := hcap
  have q1 := lt3 _ _ _ x1
  have q2 := lt3 _ _ _ x2
  have q3 := lt3 _ _ _ x3
  have q4 := lt3 _ _ _ x4
  have q5 := lt3 _ _ _ x5
  have ok : c.Ok := by
    subst hc
    refine ⟨⟨?_, ?_, ?_, nrg⟩, ⟨?_, ?_, ?_, ?_⟩, ⟨?_, ?_, ?_, ?_⟩, ⟨?_, ?_, ?_, ?_⟩, ⟨?_, ?_, ?_, ?_⟩, ⟨?_, ?_, ?_, ?_⟩, ⟨?_, ?_, ?_, ?_⟩, ?_, ?_, ?_, ?_, nbg, ndg, hcap4, rfl, rfl, hs6⟩ <;> simp only <;> omega
  have wk : WK c { ann0 with last := ann0.last + 1, waiting := .slice (some ⟨gw, 0, none⟩) 1 cw } w3 w3 0 := by
    subst hc
    refine ⟨⟨(o3.block (w1.heap.size + 1 + 1) (by omega) (by omega)).trans (unhide RUN2), a3, hsteps, x1, x2, x3, x4, x5, Fr.refl _ _, Nat.le_refl _⟩, ?_, (o3.block w1.heap.size (by omega) (by omega)).trans (unhide HD2)⟩
    exact own_same (unhide OWN2) (fun x hx => by
      simp [Value.ownBlock] at hx
      subst hx
      exact o3.block _ hgwl.2 nbg.symm)
  have WO := hide (work_any c ok _ (by subst hc; rfl) (by rfl) w3 wk)
  have OK := hide ok
  have O3 := hide o3
  have hcb : c.b = b := by subst hc; rfl
  have hcd : c.d = w1.heap.size := by subst hc; rfl
  have hcr : c.rb = w1.heap.size + 1 + 1 := by subst hc; rfl
  have hcB : c.B = w3.heap.size := by subst hc; rfl
  have hcgw : c.gw = gw := by subst hc; rfl
  have hct : c.t = t' := by subst hc; rfl
  have hcbase : c.base = w.heap.size := by subst hc; rfl
  have hcR : c.r = ⟨b, w1.heap.size, v', 0, false, 0⟩ := by subst hc; rfl
  rw [hcr] at WO
  clear hc a3 own3 x1 x2 x3 x4 x5 o3 lt3 ok wk FL hsteps
  go_wp2_with fail
  refine (unhide WO).mono ?_
  rintro e w4 ⟨rfl, sv, wk⟩
  have z4 := wk.st.fr.size
  have LK := hide (look_any w4 c.b c.t _ (some ⟨c.gw, 0, none⟩) 0 c.cw wk.st.ann rfl rfl rfl (by omega) (by show (0 : Int) ≤ 0 + 1; decide) (by show (0 : Int) + 1 ≤ 999999999; decide))
  rw [hcb] at LK
  have WK4 := hide wk
  clear wk WO
  go_wp2_with fail
  refine (unhide LK).mono ?_
  rintro e w5 ⟨he, b5⟩
  have he2 : e = .returned (.agg #[.int .i64 1, .int .i64 1, .int .i64 0, .int .i64 0, .int .i64 1, .int .i64 (-1), .bool false, .bool false]) := he.trans rfl
  subst he2
  have WK5 := hide ((unhide WK4).below (unhide OK) b5)
  clear LK WK4 he
  go_wp2_with fail
  have WK6 := hide ((unhide WK5).below (unhide OK) ((Below.refl _ w5).alloc (Nat.le_refl _) (.cells #[.int .i64 1, .int .i64 1, .int .i64 0, .int .i64 0, .int .i64 1, .int .i64 (-1), .bool false, .bool false] 53)))
  have hv6 : (w5.alloc (.cells #[.int .i64 1, .int .i64 1, .int .i64 0, .int .i64 0, .int .i64 1, .int .i64 (-1), .bool false, .bool false] 53)).heap[w5.heap.size]? = some (.cells #[.int .i64 1, .int .i64 1, .int .i64 0, .int .i64 0, .int .i64 1, .int .i64 (-1), .bool false, .bool false] 53 (0, 0)) := heap_alloc_last w5 _
  have b6 : Below w4.heap.size w4 (w5.alloc (.cells #[.int .i64 1, .int .i64 1, .int .i64 0, .int .i64 0, .int .i64 1, .int .i64 (-1), .bool false, .bool false] 53)) := b5.alloc b5.size _
  clear WK5 b5
  generalize w5.alloc (.cells #[.int .i64 1, .int .i64 1, .int .i64 0, .int .i64 0, .int .i64 1, .int .i64 (-1), .bool false, .bool false] 53) = w6 at *
  generalize w5.heap.size = bv at *
  obtain ⟨ba, da, bn, dn, vs, vc, _, _, _, _, _, _, hd6⟩ := (unhide WK6).disk
  rw [hcd] at hd6
  have run6 := (unhide WK6).st.run
  rw [hcr, hcR] at run6
  have s1 : w6.cell? ⟨bv, 1, none⟩ = some (.int .i64 1) := (cell_of_row _ _ _ _ _ _ hv6).trans rfl
  have s2 : w6.cell? ⟨w1.heap.size + 1 + 1, 1, none⟩ = some (.pointer (some ⟨w1.heap.size, 0, none⟩)) := (cell_of_row _ _ _ _ _ _ run6).trans rfl
  have s3 : w6.cell? ⟨w1.heap.size, 1, none⟩ = some (.slice (some ⟨bn, 0, none⟩) 1 dn) := (cell_of_row _ _ _ _ _ _ hd6).trans rfl
  have z6 := b6.size
  have RUN6 := hide run6
  have B6 := hide b6
  clear hd6 hv6 run6 b6
  refine wp_region_held_drew (S := fun w' => w'.cell? ⟨bv, 1, none⟩ = some (.int .i64 1) ∧ w'.cell? ⟨w1.heap.size + 1 + 1, 1, none⟩ = some (.pointer (some ⟨w1.heap.size, 0, none⟩)) ∧ w'.cell? ⟨w1.heap.size, 1, none⟩ = some (.slice (some ⟨bn, 0, none⟩) 1 dn)) (by kernel_rfl) ⟨s1, s2, s3⟩ (fun hHeld => ?_)
  refine wpAnyH_take (i := 0) (oi := ⟨some 39, _, _, _, _, _⟩) (v := .pointer (some ⟨w1.heap.size + 1 + 1, 0, none⟩)) rfl (by kernel_rfl) (by kernel_rfl) (by kernel_rfl) (fun _ _ _ h => h) (Or.inl ⟨by rfl, fun w hSw => by (try dsimp only at hSw); go_simp⟩) hHeld ?_
  simp only [Act.put, List.setIfInBounds_toArray, List.set_cons_zero, List.set_cons_succ]
  refine wpAnyH_take (i := 1) (oi := ⟨some 40, _, _, _, _, _⟩) (v := .bool true) rfl (by kernel_rfl) (by kernel_rfl) (by kernel_rfl) (fun _ _ _ h => h) (Or.inl ⟨by rfl, fun w hSw => by (try dsimp only at hSw); go_simp⟩) hHeld ?_
  simp only [Act.put, List.setIfInBounds_toArray, List.set_cons_zero, List.set_cons_succ]
  refine wpAnyH_take (i := 2) (oi := ⟨some 41, _, _, _, _, _⟩) (v := .bool true) rfl (by kernel_rfl) (by kernel_rfl) (by kernel_rfl) (fun _ _ _ h => h) (Or.inl ⟨by rfl, fun w hSw => by (try dsimp only at hSw); go_simp⟩) hHeld ?_
  simp only [Act.put, List.setIfInBounds_toArray, List.set_cons_zero, List.set_cons_succ]
  refine wpAnyH_take (i := 3) (oi := ⟨some 42, _, _, _, _, _⟩) (v := .int .i64 0) rfl (by kernel_rfl) (by kernel_rfl) (by kernel_rfl) (fun _ _ _ h => h) (Or.inl ⟨by rfl, fun w hSw => by (try dsimp only at hSw); go_simp⟩) hHeld ?_
  simp only [Act.put, List.setIfInBounds_toArray, List.set_cons_zero, List.set_cons_succ]
  refine wpAnyH_take (i := 4) (oi := ⟨some 43, _, _, _, _, _⟩) (v := .bool true) rfl (by kernel_rfl) (by kernel_rfl) (by kernel_rfl) (fun _ _ _ h => h) (Or.inl ⟨by rfl, fun w hSw => by (try dsimp only at hSw); go_simp⟩) hHeld ?_
  simp only [Act.put, List.setIfInBounds_toArray, List.set_cons_zero, List.set_cons_succ]
  refine wpAnyH_take (i := 5) (oi := ⟨some 44, _, _, _, _, _⟩) (v := .bool true) rfl (by kernel_rfl) (by kernel_rfl) (by kernel_rfl) (fun _ _ _ h => h) (Or.inl ⟨by rfl, fun w hSw => by (try dsimp only at hSw); go_simp⟩) hHeld ?_
  simp only [Act.put, List.setIfInBounds_toArray, List.set_cons_zero, List.set_cons_succ]
  refine wpAnyH_take (i := 6) (oi := ⟨some 45, _, _, _, _, _⟩) (v := .bool true) rfl (by kernel_rfl) (by kernel_rfl) (by kernel_rfl) (fun _ _ _ h => h) (Or.inl ⟨by rfl, fun w hSw => by (try dsimp only at hSw); go_simp⟩) hHeld ?_
  simp only [Act.put, List.setIfInBounds_toArray, List.set_cons_zero, List.set_cons_succ]
  refine wpAnyH_take (i := 7) (oi := ⟨some 46, _, _, _, _, _⟩) (v := .bool true) rfl (by kernel_rfl) (by kernel_rfl) (by kernel_rfl) (fun _ _ _ h => h) (Or.inl ⟨by rfl, fun w hSw => by (try dsimp only at hSw); go_simp⟩) hHeld ?_
  simp only [Act.put, List.setIfInBounds_toArray, List.set_cons_zero, List.set_cons_succ]
  refine wpAnyH_take (i := 8) (oi := ⟨some 47, _, _, _, _, _⟩) (v := .bool true) rfl (by kernel_rfl) (by kernel_rfl) (by kernel_rfl) (fun _ _ _ h => h) (Or.inl ⟨by rfl, fun w hSw => by (try dsimp only at hSw); go_simp⟩) hHeld ?_
  simp only [Act.put, List.setIfInBounds_toArray, List.set_cons_zero, List.set_cons_succ]
  refine wpAnyH_take (i := 9) (oi := ⟨some 48, _, _, _, _, _⟩) (v := .bool true) rfl (by kernel_rfl) (by kernel_rfl) (by kernel_rfl) (fun _ _ _ h => h) (Or.inl ⟨by rfl, fun w hSw => by (try dsimp only at hSw); go_simp⟩) hHeld ?_
  simp only [Act.put, List.setIfInBounds_toArray, List.set_cons_zero, List.set_cons_succ]
  refine wpAnyH_take (i := 10) (oi := ⟨some 49, _, _, _, _, _⟩) (v := .pointer (some ⟨bv, 1, none⟩)) rfl (by kernel_rfl) (by kernel_rfl) (by kernel_rfl) (fun _ _ _ h => h) (Or.inl ⟨by rfl, fun w hSw => by (try dsimp only at hSw); go_simp⟩) hHeld ?_
  simp only [Act.put, List.setIfInBounds_toArray, List.set_cons_zero, List.set_cons_succ]
  refine wpAnyH_take (i := 11) (oi := ⟨some 50, _, _, _, _, _⟩) (v := .int .i64 1) rfl (by kernel_rfl) (by kernel_rfl) (by kernel_rfl) (fun _ _ _ h => h) (Or.inl ⟨by rfl, fun w hSw => by (try dsimp only at hSw); go_simp⟩) hHeld ?_
  simp only [Act.put, List.setIfInBounds_toArray, List.set_cons_zero, List.set_cons_succ]
  refine wpAnyH_take (i := 12) (oi := ⟨some 51, _, _, _, _, _⟩) (v := .bool true) rfl (by kernel_rfl) (by kernel_rfl) (by kernel_rfl) (fun _ _ _ h => h) (Or.inl ⟨by rfl, fun w hSw => by (try dsimp only at hSw); go_simp⟩) hHeld ?_
  simp only [Act.put, List.setIfInBounds_toArray, List.set_cons_zero, List.set_cons_succ]
  refine wpAnyH_take (i := 13) (oi := ⟨some 52, _, _, _, _, _⟩) (v := .bool true) rfl (by kernel_rfl) (by kernel_rfl) (by kernel_rfl) (fun _ _ _ h => h) (Or.inl ⟨by rfl, fun w hSw => by (try dsimp only at hSw); go_simp⟩) hHeld ?_
  simp only [Act.put, List.setIfInBounds_toArray, List.set_cons_zero, List.set_cons_succ]
  refine wpAnyH_take (i := 14) (oi := ⟨some 53, _, _, _, _, _⟩) (v := .bool true) rfl (by kernel_rfl) (by kernel_rfl) (by kernel_rfl) (fun _ _ _ h => h) (Or.inl ⟨by rfl, fun w hSw => by (try dsimp only at hSw); go_simp⟩) hHeld ?_
  simp only [Act.put, List.setIfInBounds_toArray, List.set_cons_zero, List.set_cons_succ]
  refine wpAnyH_take (i := 15) (oi := ⟨some 54, _, _, _, _, _⟩) (v := .pointer (some ⟨w1.heap.size + 1 + 1, 0, none⟩)) rfl (by kernel_rfl) (by kernel_rfl) (by kernel_rfl) (fun _ _ _ h => h) (Or.inl ⟨by rfl, fun w hSw => by (try dsimp only at hSw); go_simp⟩) hHeld ?_
  simp only [Act.put, List.setIfInBounds_toArray, List.set_cons_zero, List.set_cons_succ]
  refine wpAnyH_take (i := 16) (oi := ⟨some 55, _, _, _, _, _⟩) (v := .pointer (some ⟨w1.heap.size + 1 + 1, 0, none⟩)) rfl (by kernel_rfl) (by kernel_rfl) (by kernel_rfl) (fun _ _ _ h => h) (Or.inl ⟨by rfl, fun w hSw => by (try dsimp only at hSw); go_simp⟩) hHeld ?_
  simp only [Act.put, List.setIfInBounds_toArray, List.set_cons_zero, List.set_cons_succ]
  refine wpAnyH_take (i := 17) (oi := ⟨some 56, _, _, _, _, _⟩) (v := .pointer (some ⟨w1.heap.size + 1 + 1, 1, none⟩)) rfl (by kernel_rfl) (by kernel_rfl) (by kernel_rfl) (fun _ _ _ h => h) (Or.inl ⟨by rfl, fun w hSw => by (try dsimp only at hSw); go_simp⟩) hHeld ?_
  simp only [Act.put, List.setIfInBounds_toArray, List.set_cons_zero, List.set_cons_succ]
  refine wpAnyH_take (i := 18) (oi := ⟨some 57, _, _, _, _, _⟩) (v := .pointer (some ⟨w1.heap.size, 0, none⟩)) rfl (by kernel_rfl) (by kernel_rfl) (by kernel_rfl) (fun _ _ _ h => h) (Or.inl ⟨by rfl, fun w hSw => by (try dsimp only at hSw); go_simp⟩) hHeld ?_
  simp only [Act.put, List.setIfInBounds_toArray, List.set_cons_zero, List.set_cons_succ]
  refine wpAnyH_take (i := 19) (oi := ⟨some 58, _, _, _, _, _⟩) (v := .pointer (some ⟨w1.heap.size, 0, none⟩)) rfl (by kernel_rfl) (by kernel_rfl) (by kernel_rfl) (fun _ _ _ h => h) (Or.inl ⟨by rfl, fun w hSw => by (try dsimp only at hSw); go_simp⟩) hHeld ?_
  simp only [Act.put, List.setIfInBounds_toArray, List.set_cons_zero, List.set_cons_succ]
  refine wpAnyH_take (i := 20) (oi := ⟨some 59, _, _, _, _, _⟩) (v := .pointer (some ⟨w1.heap.size, 1, none⟩)) rfl (by kernel_rfl) (by kernel_rfl) (by kernel_rfl) (fun _ _ _ h => h) (Or.inl ⟨by rfl, fun w hSw => by (try dsimp only at hSw); go_simp⟩) hHeld ?_
  simp only [Act.put, List.setIfInBounds_toArray, List.set_cons_zero, List.set_cons_succ]
  refine wpAnyH_take (i := 21) (oi := ⟨some 60, _, _, _, _, _⟩) (v := .slice (some ⟨bn, 0, none⟩) 1 dn) rfl (by kernel_rfl) (by kernel_rfl) (by kernel_rfl) (fun _ _ _ h => h) (Or.inl ⟨by rfl, fun w hSw => by (try dsimp only at hSw); go_simp⟩) hHeld ?_
  simp only [Act.put, List.setIfInBounds_toArray, List.set_cons_zero, List.set_cons_succ]
  refine wpAnyH_take (i := 22) (oi := ⟨some 61, _, _, _, _, _⟩) (v := .int .i64 1) rfl (by kernel_rfl) (by kernel_rfl) (by kernel_rfl) (fun _ _ _ h => h) (Or.inl ⟨by rfl, fun w hSw => by (try dsimp only at hSw); go_simp⟩) hHeld ?_
  simp only [Act.put, List.setIfInBounds_toArray, List.set_cons_zero, List.set_cons_succ]
  refine wpAnyH_take (i := 23) (oi := ⟨some 62, _, _, _, _, _⟩) (v := .bool true) rfl (by kernel_rfl) (by kernel_rfl) (by kernel_rfl) (fun _ _ _ h => h) (Or.inl ⟨by rfl, fun w hSw => by (try dsimp only at hSw); go_simp⟩) hHeld ?_
  simp only [Act.put, List.setIfInBounds_toArray, List.set_cons_zero, List.set_cons_succ]
  refine wpAnyH_take (i := 24) (oi := ⟨some 63, _, _, _, _, _⟩) (v := .bool true) rfl (by kernel_rfl) (by kernel_rfl) (by kernel_rfl) (fun _ _ _ h => h) (Or.inl ⟨by rfl, fun w hSw => by (try dsimp only at hSw); go_simp⟩) hHeld ?_
  simp only [Act.put, List.setIfInBounds_toArray, List.set_cons_zero, List.set_cons_succ]
  refine wpAnyH_take (i := 25) (oi := ⟨some 0, _, _, _, _, _⟩) (v := .pointer (some ⟨w1.heap.size + 1 + 1, 0, none⟩)) rfl (by kernel_rfl) (by kernel_rfl) (by kernel_rfl) (fun _ _ _ h => h) (Or.inl ⟨by rfl, fun w hSw => by (try dsimp only at hSw); go_simp⟩) hHeld ?_
  simp only [Act.put, List.setIfInBounds_toArray, List.set_cons_zero]
  refine wpAnyH_take (i := 26) (oi := ⟨some 1, _, _, _, _, _⟩) (v := .bool true) rfl (by kernel_rfl) (by kernel_rfl) (by kernel_rfl) (fun _ _ _ h => h) (Or.inl ⟨by rfl, fun w hSw => by (try dsimp only at hSw); go_simp⟩) hHeld ?_
  simp only [Act.put, List.setIfInBounds_toArray, List.set_cons_zero, List.set_cons_succ]
  refine wpAnyH_done (by kernel_rfl) ?_ _
  clear hHeld s1 s2 s3
  have own := (unhide HR2).own
  simp only at own
  have hbase := hgwl.1
  have ownR : w6.ownsRow w.heap.size 42 128 v' (([] ++ [tab0] : List Tab).length + 1) (kFlat (([] ++ [tab0]) ++ [t'])) := own_same own (fun x hx => by
    obtain ⟨cur, e1⟩ := own_type own hx
    have hxl := own.lt x hx
    have nb : x ≠ b := by
      intro e
      have e2 := (unhide HR2).ann
      unfold AnnIn TabIn at e2
      simp only at e2
      rw [← e, e1] at e2
      simp at e2
    have nd : x ≠ w1.heap.size := by
      intro e
      have e2 := unhide HD2
      rw [← e, e1] at e2
      simp at e2
    have ng : x ≠ gw := by
      intro e
      obtain ⟨cur2, e2⟩ := own_type (unhide OWN2) (k := gw) rfl
      rw [← e, e1] at e2
      simp at e2
    have hst : c.still x := ⟨by rw [hcB]; omega, by rw [hcb]; exact nb, by rw [hcd]; exact nd, by rw [hcgw]; exact ng⟩
    exact ((unhide WK6).st.fr.block x hst).trans ((unhide O3).block x hxl.2 nb))
  have ann6 := (unhide WK6).st.ann
  rw [hcb, hct] at ann6
  have wait6 : w6.ownsRow c.base 9 1 (.slice (some ⟨c.gw, 0, none⟩) 0 c.cw) 0 [] := (unhide WK6).wait
  rw [hcbase] at wait6
  have bel6 : Below w.heap.size w w6.drew := by
    refine Below.drew ((unhide BEL2).trans ⟨?_, ?_, ?_, ?_, ?_⟩)
    · exact (unhide WK6).st.fr.os.trans (unhide O3).os
    · exact (unhide WK6).st.fr.tape.trans (unhide O3).tape
    · exact (unhide WK6).st.fr.output.trans (unhide O3).output
    · omega
    · intro j hj
      exact ((unhide WK6).st.fr.block j ⟨by rw [hcB]; omega, by rw [hcb]; omega, by rw [hcd]; omega, by rw [hcgw]; omega⟩).trans ((unhide O3).block j (by omega) (by omega))
  have FIN : BeginPost w (.returned (.tuple #[.pointer (some ⟨w1.heap.size + 1 + 1, 0, none⟩), .bool true])) w6.drew :=
    ⟨w1.heap.size + 1 + 1, ⟨b, w1.heap.size, v', 0, false, 0⟩, [] ++ [tab0], t', _, [], rfl, ⟨unhide RUN6, by omega, hb, own_same ownR (fun _ _ => rfl), ann6.drew, own_same wait6 (fun _ _ => rfl)⟩, bel6, rfl, rfl, hbd2.mono (by omega), by simp, by show w1.heap.size + 1 + 1 ≠ b; omega⟩
  have FF := hide FIN
  clear FIN ownR ann6 wait6 bel6 own
  go_wp2
  go_ret2
  exact unhide FF
end Go.Proofs.YthdffenpkdbejaaGreatDoor

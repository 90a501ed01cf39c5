import Derived.Test.YthdffenpkdbejaaGreatDoorKeepG
import Derived.Test.YthdffenpkdbejaaGreatDoorKeepH
namespace Go.Proofs.YthdffenpkdbejaaGreatDoor
open Go.RowKit

/-- what begin leaves -/
def BeginPost (w : World) (e : Ending) (w' : World) : Prop :=
  ∃ rb r ts t a ws, e = .returned (.tuple #[.pointer (some ⟨rb, 0, none⟩), .bool true]) ∧ RunIn w' w.heap.size rb r ts t a 0 ws ∧ Below w.heap.size w w' ∧ a.reads = false ∧ a.last = 1 ∧ Bnd t 1000 ∧ ts.length ≤ 10 ∧ rb ≠ r.a

theorem RawAt.below {w w' : World} {ao : Option Addr} {zs : List Int} (h : RawAt w ao zs) (hb : Below w.heap.size w w') : RawAt w' ao zs := by
  intro i z hi
  obtain ⟨rb, ro, e, h1, h2, h3⟩ := h i z hi
  exact ⟨rb, ro, e, Nat.lt_of_lt_of_le h1 hb.size, by rw [hb.cell (p := ⟨rb, ro + i, none⟩) h1]; exact h2, h3⟩

set_option linter.unusedSimpArgs false in
set_option maxRecDepth 100000 in
set_option maxHeartbeats 8000000 in
theorem atomic_any (HB : Hid (∀ w, Calls Tryz.prog 13 #[] w fun e w' => BeginPost w e w')) (w : World) (ao : Option Addr) (zs : List Int) (cap : Nat) (hz : RawAt w ao zs) (hlen : zs.length ≤ maxLen) (x y big : Int)
    (x1 : -9223372036854775808 ≤ x) (x2 : x ≤ 9223372036854775807) (y1 : -9223372036854775808 ≤ y) (y2 : y ≤ 9223372036854775807) (b1 : -9223372036854775808 ≤ big) (b2 : big ≤ 9223372036854775807) :
    Calls Tryz.prog 10 #[.slice ao zs.length cap, .int .i64 x, .int .i64 y, .int .i64 big] w fun e w' => e = .returned (.bool true) ∧ Below w.heap.size w w' := by
  go_enter Tryz.func10, Tryz.ntmps10
  go_wp2_with fail
  refine ((unhide HB) w).mono ?_
  rintro e w1 ⟨rb, r, ts, t, a, ws, rfl, hR, bel1, hrd, hla, hbd, hts, hrab⟩
  have hz1 := bel1.size
  have HS := hide (ksubmit_any w1 w.heap.size rb r ts t a 0 ws hR hz1 ao zs cap (hz.below bel1) hlen 1000 (by omega) (by omega) hbd hrd (by omega) (by omega) (by omega) (by omega) hrab)
  have HLA := hide hla
  have HRD := hide hrd
  clear hla hrd
  go_wp2_with fail
  refine (unhide HS).mono ?_
  rintro e w2 ⟨v', tp, wv, s9, rfl, hR2, hs9, hbd2, bel2, _⟩
  have hwait := hR2.wait
  simp only at hwait
  have HWLT : Hid (∀ g, wv.ownBlock = some g → w.heap.size ≤ g ∧ g < w2.heap.size) := fun g hg => hwait.lt g hg
  have HWRB : Hid (some rb ≠ wv.ownBlock) := fun e => by
    obtain ⟨cur, e1⟩ := own_type hwait e.symm
    have e2 := hR2.run
    rw [e1] at e2
    simp at e2
  have WAIT := hide hwait
  clear hwait
  obtain ⟨g, gcap, hv, hrange, hcap, hmax, hg0, hg1⟩ := hR2.last
  simp only [List.length_append, List.length_cons, List.length_nil, Nat.zero_add] at hv hrange hcap
  have hz2 := bel2.size
  have run2 := hR2.run
  have c2 : w2.cell? ⟨rb, 2, none⟩ = some (.slice (some ⟨g, 0, none⟩) (ts.length + 1 + 1) gcap) := by rw [cell_of_row _ _ _ _ _ _ run2]; simp [RunV.cells]; exact hv
  have hrl : rb < w2.heap.size := (Array.getElem?_eq_some_iff.1 run2).1
  have hzero := (zero_of_info kZero).1
  have hl128 := kCells_length tp.h tp.v
  have hst : (storeCells ⟨w2.heap.size, 0, none⟩ (kCells tp.h tp.v) 0).run Tryz.prog (w2.alloc (.cells (kCells (fun _ => false) (fun _ => 0)).toArray 42)).drew = .ok () (w2.alloc (.cells (kCells tp.h tp.v).toArray 42)).drew := by
    have := run_storeCells_new (P := Tryz.prog) w2.drew 42 (kCells (fun _ => false) (fun _ => 0)).toArray (kCells tp.h tp.v).toArray (by simpa using kInfo tp.h tp.v) (by simp [kCells_length]) (k_one _ _)
    exact this
  have HR2 := hide hR2
  have RUN2 := hide run2
  clear hR hR2 run2 HS
  go_wp2
  refine wp_region_held_drew (S := fun w' => w'.cell? ⟨rb, 2, none⟩ = some (.slice (some ⟨g, 0, none⟩) (ts.length + 1 + 1) gcap) ∧ w'.rangeAt g ((ts.length + 1) * 128) (kCells tp.h tp.v)) (by kernel_rfl) ?_ (fun hHeld => ?_)
  · exact ⟨c2, hrange⟩
  refine wpAnyH_take (i := 0) (oi := ⟨some 31, _, _, _, _, _⟩) (v := .pointer (some ⟨rb, 0, none⟩)) rfl (by kernel_rfl) (by kernel_rfl) (by kernel_rfl) (fun _ _ _ h => h) (Or.inl ⟨by rfl, fun w hSw => by (try dsimp only at hSw); go_simp⟩) hHeld ?_
  simp only [Act.put, List.setIfInBounds_toArray, List.set_cons_zero, List.set_cons_succ]
  refine wpAnyH_take (i := 1) (oi := ⟨some 32, _, _, _, _, _⟩) (v := .pointer (some ⟨rb, 0, none⟩)) rfl (by kernel_rfl) (by kernel_rfl) (by kernel_rfl) (fun _ _ _ h => h) (Or.inl ⟨by rfl, fun w hSw => by (try dsimp only at hSw); go_simp⟩) hHeld ?_
  simp only [Act.put, List.setIfInBounds_toArray, List.set_cons_zero, List.set_cons_succ]
  refine wpAnyH_take (i := 2) (oi := ⟨some 33, _, _, _, _, _⟩) (v := .pointer (some ⟨rb, 2, none⟩)) rfl (by kernel_rfl) (by kernel_rfl) (by kernel_rfl) (fun _ _ _ h => h) (Or.inl ⟨by rfl, fun w hSw => by (try dsimp only at hSw); go_simp⟩) hHeld ?_
  simp only [Act.put, List.setIfInBounds_toArray, List.set_cons_zero, List.set_cons_succ]
  refine wpAnyH_take (i := 3) (oi := ⟨some 34, _, _, _, _, _⟩) (v := .slice (some ⟨g, 0, none⟩) (ts.length + 1 + 1) gcap) rfl (by kernel_rfl) (by kernel_rfl) (by kernel_rfl) (fun _ _ _ h => h) (Or.inl ⟨by rfl, fun w hSw => by (try dsimp only at hSw); go_simp⟩) hHeld ?_
  simp only [Act.put, List.setIfInBounds_toArray, List.set_cons_zero, List.set_cons_succ]
  refine wpAnyH_take (i := 4) (oi := ⟨some 35, _, _, _, _, _⟩) (v := .pointer (some ⟨rb, 0, none⟩)) rfl (by kernel_rfl) (by kernel_rfl) (by kernel_rfl) (fun _ _ _ h => h) (Or.inl ⟨by rfl, fun w hSw => by (try dsimp only at hSw); go_simp⟩) hHeld ?_
  simp only [Act.put, List.setIfInBounds_toArray, List.set_cons_zero, List.set_cons_succ]
  refine wpAnyH_take (i := 5) (oi := ⟨some 36, _, _, _, _, _⟩) (v := .pointer (some ⟨rb, 0, none⟩)) rfl (by kernel_rfl) (by kernel_rfl) (by kernel_rfl) (fun _ _ _ h => h) (Or.inl ⟨by rfl, fun w hSw => by (try dsimp only at hSw); go_simp⟩) hHeld ?_
  simp only [Act.put, List.setIfInBounds_toArray, List.set_cons_zero, List.set_cons_succ]
  refine wpAnyH_take (i := 6) (oi := ⟨some 37, _, _, _, _, _⟩) (v := .pointer (some ⟨rb, 2, none⟩)) rfl (by kernel_rfl) (by kernel_rfl) (by kernel_rfl) (fun _ _ _ h => h) (Or.inl ⟨by rfl, fun w hSw => by (try dsimp only at hSw); go_simp⟩) hHeld ?_
  simp only [Act.put, List.setIfInBounds_toArray, List.set_cons_zero, List.set_cons_succ]
  refine wpAnyH_take (i := 7) (oi := ⟨some 38, _, _, _, _, _⟩) (v := .slice (some ⟨g, 0, none⟩) (ts.length + 1 + 1) gcap) rfl (by kernel_rfl) (by kernel_rfl) (by kernel_rfl) (fun _ _ _ h => h) (Or.inl ⟨by rfl, fun w hSw => by (try dsimp only at hSw); go_simp⟩) hHeld ?_
  simp only [Act.put, List.setIfInBounds_toArray, List.set_cons_zero, List.set_cons_succ]
  refine wpAnyH_take (i := 8) (oi := ⟨some 39, _, _, _, _, _⟩) (v := .int .i64 ((ts.length + 1 + 1 : Nat) : Int)) rfl (by kernel_rfl) (by kernel_rfl) (by kernel_rfl) (fun _ _ _ h => h) (Or.inl ⟨by rfl, fun w hSw => by (try dsimp only at hSw); go_simp⟩) hHeld ?_
  simp only [Act.put, List.setIfInBounds_toArray, List.set_cons_zero, List.set_cons_succ]
  refine wpAnyH_take (i := 9) (oi := ⟨some 40, _, _, _, _, _⟩) (v := .int .i64 ((ts.length + 1 : Nat) : Int)) rfl (by kernel_rfl) (by kernel_rfl) (by kernel_rfl) (fun _ _ _ h => h) (Or.inl ⟨by rfl, fun w hSw => by (try dsimp only at hSw); go_simp; have := wrap_len (ts.length + 1) (by omega); simpa using this⟩) hHeld ?_
  simp only [Act.put, List.setIfInBounds_toArray, List.set_cons_zero, List.set_cons_succ]
  refine wpAnyH_take (i := 10) (oi := ⟨some 41, _, _, _, _, _⟩) (v := .pointer (some ⟨g, (ts.length + 1) * 128, none⟩)) rfl (by kernel_rfl) (by kernel_rfl) (by kernel_rfl) (fun _ _ _ h => h) (Or.inl ⟨by rfl, fun w hSw => by (try dsimp only at hSw); go_simp; intro q; omega⟩) hHeld ?_
  simp only [Act.put, List.setIfInBounds_toArray, List.set_cons_zero, List.set_cons_succ]
  refine wpAnyH_take (i := 11) (oi := ⟨some 42, _, _, _, _, _⟩) (v := .agg (kCells tp.h tp.v).toArray) rfl (by kernel_rfl) (by kernel_rfl) (by kernel_rfl) (fun _ _ _ h => h) (yieldsIf_load_mid (by rfl) 42 _ rfl g ((ts.length + 1) * 128) rfl (kCells tp.h tp.v) _ (fun w hSw => hSw.2) Tryz.underlying42 rfl (kInfo _ _)) hHeld ?_
  simp only [Act.put, List.setIfInBounds_toArray, List.set_cons_zero, List.set_cons_succ]
  refine wpAnyH_all (rs := [12]) (by kernel_rfl) (by simp) (AllReadyH.cons (o := ⟨some 11, .alloc 42, _, _, _, _⟩) rfl (fun K hK => ?_) AllReadyH.nil)
  rw [if_pos (by rfl)]
  go_simp
  refine hK.out _ _ ?_ (fun hHeld2 => ?_)
  · exact ⟨by rw [World.cell?_drew, World.cell?_alloc_past _ _ _ (by omega)]; exact c2, World.rangeAt_alloc hrange _⟩
  clear hK K
  refine wpAnyH_all (rs := [13]) (by kernel_rfl) (by simp) (AllReadyH.cons (o := ⟨none, .store 42 (.tmp 11) (.tmp 42), _, _, _, _⟩) rfl (fun K hK => ?_) AllReadyH.nil)
  rw [if_pos (by rfl)]
  go_simp
  refine hK.out _ _ ?_ (fun hHeld3 => ?_)
  · exact ⟨by rw [World.cell?_drew, World.cell?_alloc_past _ _ _ (by omega)]; exact c2, World.rangeAt_alloc hrange _⟩
  clear hK K hHeld hHeld2 hHeld3
  refine wpAnyH_done (by kernel_rfl) ?_ _
  have tb3 : KIn (w2.alloc (.cells (kCells tp.h tp.v).toArray 42)).drew w2.heap.size 42 tp.h tp.v [] := by
    unfold KIn; rw [List.append_nil]; exact heap_alloc_last w2 _
  have ann3 : AnnIn (w2.alloc (.cells (kCells tp.h tp.v).toArray 42)).drew r.a tp { a with last := a.last + 1, waiting := wv } := ((unhide HR2).ann.alloc (.cells (kCells tp.h tp.v).toArray 42)).drew
  have WAIT3 : Hid ((w2.alloc (.cells (kCells tp.h tp.v).toArray 42)).drew.ownsRow w.heap.size 9 1 wv (0 + 1) (ws ++ [.string s9])) := own_same (unhide WAIT) (fun g hg => Below.heap_alloc _ _ _ ((unhide WAIT).lt g hg).2)
  have run3 : (w2.alloc (.cells (kCells tp.h tp.v).toArray 42)).drew.heap[rb]? = some (.cells ({ r with v := v' } : RunV).cells 38 (0, 0)) := (Below.heap_alloc _ _ _ hrl).trans (unhide RUN2)
  have bel3 : Below w.heap.size w (w2.alloc (.cells (kCells tp.h tp.v).toArray 42)).drew := ((bel1.trans bel2).alloc (by omega) _).drew
  have hra : w.heap.size ≤ r.a := (unhide HR2).b1
  have hral : r.a < w2.heap.size := (unhide HR2).ann.lt
  generalize (w2.alloc (.cells (kCells tp.h tp.v).toArray 42)).drew = w3 at *
  clear hst hrange c2 hzero HR2 RUN2
  have TB := hide tb3
  have ANN3 := hide ann3
  have RUN3 := hide run3
  have BEL3 := hide bel3
  clear tb3 ann3 run3 bel3
  have px := pickI_range x 64 (by omega)
  have py := pickI_range y 64 (by omega)
  have pb := pickI_range big 4611686018427387904 (by omega)
  go_wp2_with fail
  refine (pick_any _ _ _ x1 x2 (by omega) (by omega)).mono ?_
  rintro e w' ⟨rfl, rfl⟩
  generalize pickI x 64 = xa at *
  go_wp2_with fail
  refine (pick_any _ _ _ y1 y2 (by omega) (by omega)).mono ?_
  rintro e w' ⟨rfl, rfl⟩
  generalize pickI y 64 = yb at *
  obtain ⟨xa1, xa2⟩ := px
  obtain ⟨yb1, yb2⟩ := py
  obtain ⟨A, rfl⟩ := Int.eq_ofNat_of_zero_le xa1
  go_wp2
  go_loop [14, 15] (fun sv i => ∃ m : Nat, (m : Int) ≤ (yb + 1 - A).toNat ∧ i = .int .i64 (A + m : Nat) ∧ sv = .int .i64 (total tp.v A m)) (fun _ i => (64 - (intOf i)).toNat)
  case atStart => exact ⟨0, by omega, rfl, rfl⟩
  case round =>
    obtain ⟨m, hm, rfl, rfl⟩ := hrel
    have htot := total_bnd hbd2 A m
    by_cases hlt : ((A + m : Nat) : Int) ≤ yb
    · have hj : A + m < 64 := by omega
      have cv := (unhide TB).val (A + m) hj
      have hvb := hbd2 (A + m)
      have hmm : (1000 + 168) * (m : Int) ≤ 1168 * 64 := by omega
      obtain ⟨t1, t2⟩ := htot
      obtain ⟨v1, v2⟩ := hvb
      have t3 : total tp.v A m ≤ 100000 := by omega
      have e1 : total tp.v A m + tp.v (A + m) = total tp.v A (m + 1) := rfl
      have E1 := hide e1
      clear e1
      go_wp2
      go_round
      case rel => exact ⟨m + 1, by omega, by go_num, by rw [← unhide E1]⟩
      case measure => simp [intOf]; omega
    · have em : (yb + 1 - A).toNat = m := by omega
      have EM := hide em
      clear em
      go_wp2_with fail
      refine (pick_any _ _ _ b1 b2 (by omega) (by omega)).mono ?_
      rintro e w' ⟨rfl, rfl⟩
      generalize pickI big 4611686018427387904 = pb0 at *
      obtain ⟨pb1, pb2⟩ := pb
      have c0 : w3.cell? ⟨rb, 0, none⟩ = some (.pointer (some ⟨r.a, 0, none⟩)) := by rw [cell_of_row _ _ _ _ _ _ (unhide RUN3)]; rfl
      have htl := (unhide TB).lt
      have hsm : Small tp.v := fun j => by have := hbd2 j; omega
      have F := five_do hbd2 (by omega) (by omega) (1 + pb0) A yb (by omega) (by omega) (by omega) yb1 yb2
      have ha5 : AnnIn (fiveW w3 (1 + pb0) A yb) r.a tp { a with last := a.last + 1, waiting := wv } := (unhide ANN3).other ((fiveW_below w3 (1 + pb0) A yb).block r.a (by omega))
      have w5 := own_same (unhide WAIT3) (fun g hg => (fiveW_below w3 (1 + pb0) A yb).block g (by have := (unhide HWLT) g hg; omega))
      have HS5 := submit_any r.a w.heap.size tp _ (0 + 1) (ws ++ [.string s9]) (fiveW w3 (1 + pb0) A yb) ha5 w5 (by rw [fiveW_size]; have := (unhide BEL3).size; omega) hsm (w3.heap.size + 5) 0 5 (five (1 + pb0) A yb) (five_at w3 (1 + pb0) A yb r.a (by omega)) (fun g hg => ⟨five_at w3 (1 + pb0) A yb g (by have := (unhide HWLT) g hg; omega), by have := (unhide HWLT) g hg; omega⟩) (five_ok (1 + pb0) A yb (by omega) (by omega) (by omega) xa2 yb1 yb2) (five_len (1 + pb0) A yb) (by omega) (by rw [fiveW_size]; omega) (by simp [five]) (by simp [five]) (unhide HRD) (by omega) (by have := unhide HLA; simp only; omega) (by have := unhide HLA; simp only; omega)
      have e5 : (five (1 + pb0) A yb).length = 5 := rfl
      rw [e5] at HS5
      have E5 := hide e5
      have FF := hide F
      have HS6 := hide HS5
      have bel5 := hide (fiveW_below w3 (1 + pb0) A yb)
      have sz5 := hide (fiveW_size w3 (1 + pb0) A yb)
      clear HS5 ha5 F e5 hsm w5
      go_wp2_with fail
      refine (unhide HS6).mono ?_
      rintro e w6 ⟨q, wv6, s6, he, hq0, hqb, ann6, _, _, o6⟩
      rw [unhide E5] at he
      subst he
      rw [unhide FF] at hqb ann6
      simp only at ann6 o6
      have tb6 : KIn w6 w2.heap.size 42 tp.h tp.v [] := ((unhide TB).other ((unhide bel5).block _ (unhide TB).lt)).other (o6.block _ (by have := (unhide TB).lt; have := unhide sz5; omega) (by omega) (fun e => by have := (unhide HWLT) _ e.symm; omega))
      have run6 : w6.heap[rb]? = some (.cells ({ r with v := v' } : RunV).cells 38 (0, 0)) := (o6.block rb (by have := unhide sz5; have := (unhide TB).lt; omega) hrab (unhide HWRB)).trans (((unhide bel5).block rb (by have := (unhide TB).lt; omega)).trans (unhide RUN3))
      have bel6 : Below w.heap.size w w6 := ((unhide BEL3).trans ((unhide bel5).mono (by have := (unhide BEL3).size; omega))).trans ⟨o6.os, o6.tape, o6.output, o6.size, fun j hj => o6.block j (by have := unhide sz5; have := (unhide BEL3).size; omega) (by omega) (fun e => by have := (unhide HWLT) _ e.symm; omega)⟩
      have q0 : w6.cell? ⟨q, 0, none⟩ = some (.bool false) := by rw [cell_of_row _ _ _ _ _ _ hqb]; rfl
      have q1 : w6.cell? ⟨q, 1, none⟩ = some (.bool false) := by rw [cell_of_row _ _ _ _ _ _ hqb]; rfl
      have q2 : w6.cell? ⟨q, 2, none⟩ = some (.bool false) := by rw [cell_of_row _ _ _ _ _ _ hqb]; rfl
      have q3 : w6.cell? ⟨q, 3, none⟩ = some (.bool false) := by rw [cell_of_row _ _ _ _ _ _ hqb]; rfl
      have q4 : w6.cell? ⟨q, 4, none⟩ = some (.bool true) := by rw [cell_of_row _ _ _ _ _ _ hqb]; rfl
      have HQ := hide hqb
      have v61 := tb6.val 61 (by omega)
      have h61 := tb6.has 61 (by omega)
      have f61 := tb6.frozen 61
      have f125 := tb6.frozen (64 + 61)
      have TB6 := hide tb6
      have ANN6 := hide ann6
      have RUN6 := hide run6
      have BEL6 := hide bel6
      have O6 := hide o6
      have htl6 := (unhide TB6).lt
      clear hqb tb6 ann6 run6 bel6 o6 HS6
      go_wp2
      have ks : KIn ((w6.setCell ⟨w2.heap.size, 61, none⟩ (.int .i64 (total tp.v A m))).setCell ⟨w2.heap.size, 125, none⟩ (.bool true)) w2.heap.size 42 (upd tp.h 61 true) (upd tp.v 61 (total tp.v A m)) [] := ((unhide TB6).setVal 61 (by omega) (total tp.v A m)).setHas 61 (by omega) true
      have o7 : Only w2.heap.size w6 ((w6.setCell ⟨w2.heap.size, 61, none⟩ (.int .i64 (total tp.v A m))).setCell ⟨w2.heap.size, 125, none⟩ (.bool true)) := ((Only.refl w2.heap.size w6).setCell 61 _).setCell 125 _
      have hr6 : r.a < w6.heap.size := (unhide ANN6).lt
      have ann7 := (unhide ANN6).other (o7.block r.a hr6 (by omega))
      have run7 := (o7.block rb ((Array.getElem?_eq_some_iff.1 (unhide RUN6)).1) (by omega)).trans (unhide RUN6)
      have bel7 := (unhide BEL6).trans (o7.toBelow' (B := w.heap.size) (by omega) (unhide BEL6).size)
      generalize (w6.setCell ⟨w2.heap.size, 61, none⟩ (.int .i64 (total tp.v A m))).setCell ⟨w2.heap.size, 125, none⟩ (.bool true) = w7 at *
      simp only [Int.toNat_natCast, unhide EM] at ann7
      have c07 : w7.cell? ⟨rb, 0, none⟩ = some (.pointer (some ⟨r.a, 0, none⟩)) := by rw [cell_of_row _ _ _ _ _ _ run7]; rfl
      have SAME := hide (same_any r.a 119 ⟨upd tp.h 61 true, upd tp.v 61 (total tp.v A m)⟩ _ w7.drew ann7)
      have hks := ks.range
      have KS := hide ks
      have B7 := hide bel7
      clear ks bel7 ann7 run7 o7
      refine wp_region_held_drew (S := fun w' => w'.cell? ⟨rb, 0, none⟩ = some (.pointer (some ⟨r.a, 0, none⟩)) ∧ w'.rangeAt w2.heap.size 0 (kCells (upd tp.h 61 true) (upd tp.v 61 (total tp.v A m)))) (by kernel_rfl) ?_ (fun hHeld => ?_)
      · exact ⟨c07, hks⟩
      refine wpAnyH_take (i := 0) (oi := ⟨some 145, _, _, _, _, _⟩) (v := .pointer (some ⟨rb, 0, none⟩)) rfl (by kernel_rfl) (by kernel_rfl) (by kernel_rfl) (fun _ _ _ h => h) (Or.inl ⟨by rfl, fun w hSw => by (try dsimp only at hSw); go_simp⟩) hHeld ?_
      simp only [Act.put, List.setIfInBounds_toArray, List.set_cons_zero, List.set_cons_succ]
      refine wpAnyH_take (i := 1) (oi := ⟨some 146, _, _, _, _, _⟩) (v := .pointer (some ⟨rb, 0, none⟩)) rfl (by kernel_rfl) (by kernel_rfl) (by kernel_rfl) (fun _ _ _ h => h) (Or.inl ⟨by rfl, fun w hSw => by (try dsimp only at hSw); go_simp⟩) hHeld ?_
      simp only [Act.put, List.setIfInBounds_toArray, List.set_cons_zero, List.set_cons_succ]
      refine wpAnyH_take (i := 2) (oi := ⟨some 147, _, _, _, _, _⟩) (v := .pointer (some ⟨rb, 0, none⟩)) rfl (by kernel_rfl) (by kernel_rfl) (by kernel_rfl) (fun _ _ _ h => h) (Or.inl ⟨by rfl, fun w hSw => by (try dsimp only at hSw); go_simp⟩) hHeld ?_
      simp only [Act.put, List.setIfInBounds_toArray, List.set_cons_zero, List.set_cons_succ]
      refine wpAnyH_take (i := 3) (oi := ⟨some 148, _, _, _, _, _⟩) (v := .pointer (some ⟨r.a, 0, none⟩)) rfl (by kernel_rfl) (by kernel_rfl) (by kernel_rfl) (fun _ _ _ h => h) (Or.inl ⟨by rfl, fun w hSw => by (try dsimp only at hSw); go_simp⟩) hHeld ?_
      simp only [Act.put, List.setIfInBounds_toArray, List.set_cons_zero, List.set_cons_succ]
      refine wpAnyH_take (i := 4) (oi := ⟨some 149, _, _, _, _, _⟩) (v := .agg (kCells (upd tp.h 61 true) (upd tp.v 61 (total tp.v A m))).toArray) rfl (by kernel_rfl) (by kernel_rfl) (by kernel_rfl) (fun _ _ _ h => h) (yieldsIf_load_mid (by rfl) 42 _ rfl w2.heap.size 0 rfl (kCells (upd tp.h 61 true) (upd tp.v 61 (total tp.v A m))) _ (fun w hSw => hSw.2) Tryz.underlying42 rfl (kInfo _ _)) hHeld ?_
      simp only [Act.put, List.setIfInBounds_toArray, List.set_cons_zero, List.set_cons_succ]
      refine wpAnyH_all (rs := [5]) (by kernel_rfl) (by simp) (AllReadyH.cons (o := ⟨some 150, _, _, _, _, _⟩) rfl (fun K hK => ?_) AllReadyH.nil)
      rw [if_pos (by rfl)]
      go_simp
      refine (unhide SAME).mono ?_
      rintro e w8 ⟨rfl, b8⟩
      have b8' : Below w7.heap.size w7 w8 := (Below.refl _ w7).drew.trans (show Below w7.heap.size w7.drew w8 from b8)
      have hz7 : w2.heap.size < w7.heap.size := (unhide KS).lt
      have hrb7 : rb < w7.heap.size := by omega
      have c08 : w8.cell? ⟨rb, 0, none⟩ = some (.pointer (some ⟨r.a, 0, none⟩)) := by rw [b8'.cell (p := ⟨rb, 0, none⟩) hrb7]; exact c07
      have hk8 := ((unhide KS).other (b8'.block _ hz7)).range
      refine hK.out _ _ ⟨c08, hk8⟩ (fun hHeld2 => ?_)
      clear hK K hHeld
      refine wpAnyH_take (i := 6) (oi := ⟨some 8, _, _, _, _, _⟩) (v := .bool true) rfl (by kernel_rfl) (by kernel_rfl) (by kernel_rfl) (fun _ _ _ h => h) (Or.inl ⟨by rfl, fun w hSw => by (try dsimp only at hSw); go_simp⟩) hHeld2 ?_
      simp only [Act.put, List.setIfInBounds_toArray, List.set_cons_zero, List.set_cons_succ]
      refine wpAnyH_done (by kernel_rfl) ?_ _
      have B8 := hide ((unhide B7).trans (b8'.mono (unhide B7).size))
      clear b8 b8' hHeld2
      go_wp2
      go_ret
      exact ⟨rfl, unhide B8⟩
end Go.Proofs.YthdffenpkdbejaaGreatDoor

import Derived.Test.YthdffenpkdbejaaGreatDoorFlushD
import Derived.Test.YthdffenpkdbejaaGreatDoorOpenC
namespace Go.Proofs.YthdffenpkdbejaaGreatDoor
open Go.RowKit

theorem actSize : (Tryz.prog.info? 78).map (·.size) = some 4 := by kernel_rfl
/-- what Act leaves -/
def ActPostA (w : World) (r : Array Value) (is : Bool) (e : Ending) (w' : World) : Prop := e = .returned (.tuple #[.agg r, .bool is]) ∧ Below w.heap.size w w'

set_option maxRecDepth 100000 in
set_option maxHeartbeats 800000 in
theorem act_some (w : World) (b g off n cap : Nat) (t : Tab) (a : Ann) (k : Int) (nm d to : ByteArray) (ha : AnnIn w b t a) (hj : a.job = .slice (some ⟨g, off, none⟩) (n + 1) cap) (hn : n ≤ 100)
    (c0 : w.cell? ⟨g, off, none⟩ = some (.int .i64 k)) (c1 : w.cell? ⟨g, off + 1, none⟩ = some (.string nm)) (c2 : w.cell? ⟨g, off + 2, none⟩ = some (.string d)) (c3 : w.cell? ⟨g, off + 3, none⟩ = some (.string to)) :
    Calls Tryz.prog 49 #[.pointer (some ⟨b, 0, none⟩)] w (ActPostA w #[.int .i64 k, .string nm, .string d, .string to] true) := by
  have hb := ha.lt
  have hgl : g < w.heap.size := by
    have := block_lt_of_cell c0
    simpa using this
  have h134 : w.cell? ⟨b, 138, none⟩ = some (.slice (some ⟨g, off, none⟩) (n + 1) cap) := by have := ha.rest 10; rw [← hj]; exact this
  have J := hide (hasJob_any b t a (w.alloc (.cells #[.int .i64 0, .string .empty, .string .empty, .string .empty] 78)) (ha.alloc _) _ (n + 1) cap hj (by omega))
  clear ha
  go_enter Tryz.func49, Tryz.ntmps49
  go_wp2_with fail
  refine (unhide J).mono ?_
  rintro e w' ⟨rfl, rfl⟩
  simp only [Nat.zero_lt_succ, decide_true]
  go_wp2
  refine row_ret 2 3 78 Tryz.results49 w.heap.size [.int .i64 k, .string nm, .string d, .string to] (.bool true) _ rfl rfl ?_ Tryz.underlying78 rfl actSize rfl ?_
  · exact rowRange (heap_alloc_last w _)
  · exact ⟨rfl, (Below.refl _ w).alloc (Nat.le_refl _) _⟩
set_option maxRecDepth 100000 in
set_option maxHeartbeats 800000 in
theorem act_none (w : World) (b : Nat) (t : Tab) (a : Ann) (ha : AnnIn w b t a) (hj : a.job = .slice none 0 0) :
    Calls Tryz.prog 49 #[.pointer (some ⟨b, 0, none⟩)] w (ActPostA w #[.int .i64 0, .string .empty, .string .empty, .string .empty] false) := by
  have J := hide (hasJob_any b t a (w.alloc (.cells #[.int .i64 0, .string .empty, .string .empty, .string .empty] 78)) (ha.alloc _) _ 0 0 hj (by omega))
  clear ha
  go_enter Tryz.func49, Tryz.ntmps49
  go_wp2_with fail
  refine (unhide J).mono ?_
  rintro e w' ⟨rfl, rfl⟩
  simp only [Nat.lt_irrefl, decide_false]
  go_wp2
  refine row_ret 2 3 78 Tryz.results49 w.heap.size [.int .i64 0, .string .empty, .string .empty, .string .empty] (.bool false) _ rfl rfl ?_ Tryz.underlying78 rfl actSize rfl ?_
  · exact rowRange (heap_alloc_last w _)
  · exact ⟨rfl, (Below.refl _ w).alloc (Nat.le_refl _) _⟩

/-- a closure's end: nothing but the annal's block and block x has turned -/
def FnPost (b : Nat) (x : Option Nat) (w : World) (R : World → Prop) (e : Ending) (w' : World) : Prop := e = .returned (.tuple #[]) ∧ R w' ∧ Only2 b x w w'

set_option maxRecDepth 100000 in
set_option maxHeartbeats 800000 in
theorem goOn_any (w : World) (b : Nat) (t : Tab) (a : Ann) (ha : AnnIn w b t a) :
    Calls Tryz.prog 92 #[.pointer (some ⟨b, 0, none⟩), .int .i64 1] w (FnPost b none w fun w' => AnnIn w' b t { a with segment := 1, size := 0, next := 2 }) := by
  have c3 : w.cell? ⟨b, 133, none⟩ = some (.int .i64 a.segment) := ha.rest 5
  have c4 : w.cell? ⟨b, 134, none⟩ = some (.int .i64 a.size) := ha.rest 6
  have c5 : w.cell? ⟨b, 135, none⟩ = some (.int .i64 a.next) := ha.rest 7
  have f3 := ha.frozen 133
  have f4 := ha.frozen 134
  have f5 := ha.frozen 135
  have T3 := hide (((ha.setRest 5 (.int .i64 1)).setRest 6 (.int .i64 0)).setRest 7 (.int .i64 2))
  have O3 := hide ((((Only.refl b w).setCell (128 + 5) (.int .i64 1)).setCell (128 + 6) (.int .i64 0)).setCell (128 + 7) (.int .i64 2))
  clear ha
  go_enter Tryz.func92, Tryz.ntmps92
  go_wp2
  go_end0
  exact ⟨rfl, unhide T3, (unhide O3).two _⟩
set_option maxRecDepth 100000 in
set_option maxHeartbeats 800000 in
theorem create1_any (w : World) (b pa ps : Nat) (t : Tab) (a : Ann) (ha : AnnIn w b t a) (h1 : Box w pa 34 (.pointer (some ⟨b, 0, none⟩))) (h2 : Box w ps 3 (.int .i64 1)) :
    Calls Tryz.prog 91 #[.pointer (some ⟨pa, 0, none⟩), .pointer (some ⟨ps, 0, none⟩)] w (FnPost b none w fun w' => AnnIn w' b t { a with segment := 1, size := 0, next := 2 }) := by
  have c1 : w.cell? ⟨pa, 0, none⟩ = some (.pointer (some ⟨b, 0, none⟩)) := by rw [cell_of_row _ _ _ _ _ _ h1]; rfl
  have c2 : w.cell? ⟨ps, 0, none⟩ = some (.int .i64 1) := by rw [cell_of_row _ _ _ _ _ _ h2]; rfl
  have G := hide (goOn_any w b t a ha)
  clear ha
  go_enter Tryz.func91, Tryz.ntmps91
  go_wp2_with fail
  refine (unhide G).mono ?_
  rintro e w' ⟨rfl, h3, h4⟩
  have H3 := hide h3
  have H4 := hide h4
  clear h3 h4
  go_wp2
  go_end0
  exact ⟨rfl, unhide H3, unhide H4⟩
-- with (gen_joba.py)
theorem intInfo : (Tryz.prog.info? 3).map (fun i => (i.zero, i.size, i.bytes)) = some (some (.int .i64 0), 1, 8) := by kernel_rfl
set_option maxRecDepth 100000 in
set_option maxHeartbeats 800000 in
theorem search_nil (w : World) : Calls Tryz.prog 146 #[.slice none 0 0, .int .i64 1] w fun e w' => e = .returned (.tuple #[.int .i64 0, .bool false]) ∧ w = w' := by
  go_enter Tryz.func146, Tryz.ntmps146
  go_wp2
  go_loop [7, 8] (fun i j => i = .int .i64 0 ∧ j = .int .i64 0) (fun _ _ => 0)
  case atStart => exact ⟨rfl, rfl⟩
  case round =>
    obtain ⟨rfl, rfl⟩ := hrel
    go_wp2
    go_ret2
    exact ⟨rfl, rfl⟩
/-- a new list of one number -/
def NewInt (w : World) (e : Ending) (w' : World) : Prop := ∃ g cap, e = .returned (.slice (some ⟨g, 0, none⟩) 1 cap) ∧ Below w.heap.size w w'
set_option maxRecDepth 100000 in
set_option maxHeartbeats 800000 in
theorem insert_nil (w : World) (p : Nat) (hp : w.cell? ⟨p, 0, none⟩ = some (.int .i64 1)) : Calls Tryz.prog 147 #[.slice none 0 0, .int .i64 0, .slice (some ⟨p, 0, none⟩) 1 1] w (NewInt w) := by
  obtain ⟨io, hio, hio0, hio1, hio2⟩ := info_parts intInfo
  have Hio := hide hio
  have Hio0 := hide hio0
  have Hio1 := hide hio1
  have Hio2 := hide hio2
  clear hio hio0 hio1 hio2
  go_enter Tryz.func147, Tryz.ntmps147
  go_wp2_with (at_builtin; refine wpList_append_own _ rfl (.tmp 23) (.tmp 24) 30 rfl w.heap.size 3 io _ 1 8 Tryz.underlying30 Hio Hio0 Hio1 Hio2 rfl (by decide) (.slice none 0 0) 0 [] rfl (World.ownsRow_nil _ _ _ _) ⟨p, 0, none⟩ 1 1 [.int .i64 1] rfl rfl (by intro j u hj; rw [Addr.add_mid, Nat.zero_add]; match j, hj with | 0, hj => simp at hj; subst hj; exact hp | _ + 1, hj => simp at hj) (by intro u hu; simp at hu; subst hu; rfl) (by unfold maxLen; omega) (by omega) (by simp) ?_)
  intro v w1 own1 gr1 _
  obtain ⟨g, cap, rfl⟩ := own_form own1 (by omega)
  have B1 : Hid (Below w.heap.size w w1) := ⟨gr1.os, gr1.tape, gr1.output, gr1.size, fun j hj => gr1.block j hj (by simp [Value.ownBlock])⟩
  clear own1 gr1
  go_wp2
  go_ret
  exact ⟨g, cap, rfl, unhide B1⟩
set_option maxRecDepth 100000 in
set_option maxHeartbeats 800000 in
theorem with_nil (w : World) : Calls Tryz.prog 90 #[.slice none 0 0, .int .i64 1] w (NewInt w) := by
  go_enter Tryz.func90, Tryz.ntmps90
  go_wp2_with fail
  refine (search_nil _).mono ?_
  rintro e w' ⟨rfl, rfl⟩
  go_wp2_with fail
  refine (insert_nil _ _ (by rw [World.cell?_alloc_at _ _ _ _ rfl]; rfl)).mono ?_
  rintro e w1 ⟨g, cap, rfl, b1⟩
  have B1 := hide (((Below.refl w.heap.size w).alloc (Nat.le_refl _) (.cells #[.int .i64 1] 3)).trans (b1.mono (by simp)))
  clear b1
  go_wp2
  go_ret
  exact ⟨g, cap, rfl, unhide B1⟩
set_option maxRecDepth 100000 in
set_option maxHeartbeats 800000 in
theorem create0_any (w : World) (b pa ps : Nat) (t : Tab) (a : Ann) (ha : AnnIn w b t a) (hs : a.segs = .slice none 0 0) (h1 : Box w pa 34 (.pointer (some ⟨b, 0, none⟩))) (h2 : Box w ps 3 (.int .i64 1)) :
    Calls Tryz.prog 89 #[.pointer (some ⟨pa, 0, none⟩), .pointer (some ⟨ps, 0, none⟩)] w (FnPost b none w fun w' => ∃ sv, AnnIn w' b t { a with segs := sv }) := by
  have c1 : w.cell? ⟨pa, 0, none⟩ = some (.pointer (some ⟨b, 0, none⟩)) := by rw [cell_of_row _ _ _ _ _ _ h1]; rfl
  have c2 : w.cell? ⟨ps, 0, none⟩ = some (.int .i64 1) := by rw [cell_of_row _ _ _ _ _ _ h2]; rfl
  have c3 : w.cell? ⟨b, 136, none⟩ = some (.slice none 0 0) := by have := ha.rest 8; rw [← hs]; exact this
  have hb := ha.lt
  have hpa : pa < w.heap.size := (Array.getElem?_eq_some_iff.1 h1).1
  have hps : ps < w.heap.size := (Array.getElem?_eq_some_iff.1 h2).1
  have HA := hide ha
  clear ha
  go_enter Tryz.func89, Tryz.ntmps89
  go_wp2_with fail
  refine region_z (S := fun w' => w'.cell? ⟨pa, 0, none⟩ = some (.pointer (some ⟨b, 0, none⟩)) ∧ w'.cell? ⟨ps, 0, none⟩ = some (.int .i64 1) ∧ w'.cell? ⟨b, 136, none⟩ = some (.slice none 0 0)) 9 (by kernel_rfl) ⟨c1, c2, c3⟩ (fun hHeld => ?_)
  refine AnyZ.take (i := 0) (oi := ⟨some 2, _, _, _, _, _⟩) (v := .pointer (some ⟨b, 0, none⟩)) rfl (by kernel_rfl) (by kernel_rfl) (by kernel_rfl) (by kernel_rfl) (fun _ _ _ h => h) (Or.inl ⟨by rfl, fun w hSw => by (try dsimp only at hSw); go_simp⟩) hHeld ?_
  simp only [Act.put, List.setIfInBounds_toArray, List.set_cons_zero, List.set_cons_succ]
  refine AnyZ.take (i := 1) (oi := ⟨some 3, _, _, _, _, _⟩) (v := .pointer (some ⟨b, 0, none⟩)) rfl (by kernel_rfl) (by kernel_rfl) (by kernel_rfl) (by kernel_rfl) (fun _ _ _ h => h) (Or.inl ⟨by rfl, fun w hSw => by (try dsimp only at hSw); go_simp⟩) hHeld ?_
  simp only [Act.put, List.setIfInBounds_toArray, List.set_cons_zero, List.set_cons_succ]
  refine AnyZ.take (i := 2) (oi := ⟨some 4, _, _, _, _, _⟩) (v := .pointer (some ⟨b, 0, none⟩)) rfl (by kernel_rfl) (by kernel_rfl) (by kernel_rfl) (by kernel_rfl) (fun _ _ _ h => h) (Or.inl ⟨by rfl, fun w hSw => by (try dsimp only at hSw); go_simp⟩) hHeld ?_
  simp only [Act.put, List.setIfInBounds_toArray, List.set_cons_zero, List.set_cons_succ]
  refine AnyZ.take (i := 3) (oi := ⟨some 5, _, _, _, _, _⟩) (v := .pointer (some ⟨b, 136, none⟩)) rfl (by kernel_rfl) (by kernel_rfl) (by kernel_rfl) (by kernel_rfl) (fun _ _ _ h => h) (Or.inl ⟨by rfl, fun w hSw => by (try dsimp only at hSw); go_simp⟩) hHeld ?_
  simp only [Act.put, List.setIfInBounds_toArray, List.set_cons_zero, List.set_cons_succ]
  refine AnyZ.take (i := 4) (oi := ⟨some 6, _, _, _, _, _⟩) (v := .slice none 0 0) rfl (by kernel_rfl) (by kernel_rfl) (by kernel_rfl) (by kernel_rfl) (fun _ _ _ h => h) (Or.inl ⟨by rfl, fun w hSw => by (try dsimp only at hSw); go_simp⟩) hHeld ?_
  simp only [Act.put, List.setIfInBounds_toArray, List.set_cons_zero, List.set_cons_succ]
  refine AnyZ.take (i := 5) (oi := ⟨some 7, _, _, _, _, _⟩) (v := .int .i64 1) rfl (by kernel_rfl) (by kernel_rfl) (by kernel_rfl) (by kernel_rfl) (fun _ _ _ h => h) (Or.inl ⟨by rfl, fun w hSw => by (try dsimp only at hSw); go_simp⟩) hHeld ?_
  simp only [Act.put, List.setIfInBounds_toArray, List.set_cons_zero, List.set_cons_succ]
  have HW := hide (with_nil w.drew)
  refine AnyZ.one (i := 6) (o := ⟨some 8, _, _, _, _, _⟩) (by kernel_rfl) rfl (fun K hK => ?_)
  rw [if_pos (by rfl)]
  go_simp
  refine (unhide HW).mono ?_
  rintro e w3 ⟨g, cap, rfl, b3⟩
  have B3 : Below w.heap.size w w3 := ⟨b3.os, b3.tape, b3.output, b3.size, b3.block⟩
  replace hHeld : w3.cell? ⟨pa, 0, none⟩ = some (.pointer (some ⟨b, 0, none⟩)) ∧ w3.cell? ⟨ps, 0, none⟩ = some (.int .i64 1) ∧ w3.cell? ⟨b, 136, none⟩ = some (.slice none 0 0) :=
    ⟨(B3.cell (p := ⟨pa, 0, none⟩) hpa).trans c1, (B3.cell (p := ⟨ps, 0, none⟩) hps).trans c2, (B3.cell (p := ⟨b, 136, none⟩) hb).trans c3⟩
  refine hK.out _ _ (.inr hHeld) ?_
  clear hK K HW b3
  have T3 : AnnIn w3 b t a := (unhide HA).other (B3.block b hb)
  have c136 := hHeld.2.2
  have f136 := T3.frozen 136
  have T4 := hide (T3.setRest 8 (.slice (some ⟨g, 0, none⟩) 1 cap))
  have O4 := hide ((Only.below (b := b) B3 (Nat.le_refl _)).setCell (128 + 8) (.slice (some ⟨g, 0, none⟩) 1 cap))
  clear T3 B3 HA
  refine AnyZ.one (i := 7) (o := ⟨some 9, _, _, _, _, _⟩) (by kernel_rfl) rfl (fun K hK => ?_)
  rw [if_pos (by rfl)]
  go_simp
  refine hK.out _ _ (.inr hHeld) ?_
  clear hK K
  refine AnyZ.take (i := 8) (oi := ⟨some 10, _, _, _, _, _⟩) (v := .pointer (some ⟨b, 136, none⟩)) rfl (by kernel_rfl) (by kernel_rfl) (by kernel_rfl) (by kernel_rfl) (fun _ _ _ h => h) (Or.inl ⟨by rfl, fun w hSw => by (try dsimp only at hSw); go_simp⟩) hHeld ?_
  simp only [Act.put, List.setIfInBounds_toArray, List.set_cons_zero, List.set_cons_succ]
  refine AnyZ.one (i := 9) (o := ⟨none, _, _, _, _, _⟩) (by kernel_rfl) rfl (fun K hK => ?_)
  rw [if_pos (by rfl)]
  go_simp
  refine hK.out _ _ (.inl rfl) ?_
  clear hK K
  refine AnyZ.done (by kernel_rfl) ?_ _
  go_wp2
  go_end0
  exact ⟨rfl, ⟨.slice (some ⟨g, 0, none⟩) 1 cap, unhide T4⟩, (unhide O4).two _⟩
end Go.Proofs.YthdffenpkdbejaaGreatDoor

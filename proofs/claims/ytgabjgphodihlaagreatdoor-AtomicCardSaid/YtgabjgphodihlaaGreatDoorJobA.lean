import Derived.Test.YtgabjgphodihlaaGreatDoorFlushD
import Derived.Test.YtgabjgphodihlaaGreatDoorOpenC
namespace Go.Proofs.YtgabjgphodihlaaGreatDoor
open Go.RowKit

theorem actSize : (Tryz.prog.info? 131).map (·.size) = some 4 := by kernel_rfl
/-- what Act leaves -/
def ActPostA (w : World) (r : Array Value) (is : Bool) (e : Ending) (w' : World) : Prop := e = .returned (.tuple #[.agg r, .bool is]) ∧ Below w.heap.size w w'

set_option maxRecDepth 100000 in
set_option maxHeartbeats 800000 in
theorem act_some (w : World) (b g off n cap : Nat) (t : Tab) (a : Ann) (k : Int) (nm d to : ByteArray) (ha : AnnIn w b t a) (hj : a.job = .slice (some ⟨g, off, none⟩) (n + 1) cap) (hn : n ≤ 100)
    (c0 : w.cell? ⟨g, off, none⟩ = some (.int .i64 k)) (c1 : w.cell? ⟨g, off + 1, none⟩ = some (.string nm)) (c2 : w.cell? ⟨g, off + 2, none⟩ = some (.string d)) (c3 : w.cell? ⟨g, off + 3, none⟩ = some (.string to)) :
    Calls Tryz.prog 50 #[.pointer (some ⟨b, 0, none⟩)] w (ActPostA w #[.int .i64 k, .string nm, .string d, .string to] true) := by
  have hb := ha.lt
  have hgl : g < w.heap.size := by
    have := block_lt_of_cell c0
    simpa using this
  have h134 : w.cell? ⟨b, 134, none⟩ = some (.slice (some ⟨g, off, none⟩) (n + 1) cap) := by have := ha.rest 6; rw [← hj]; exact this
  have J := hide (hasJob_any b t a (w.alloc (.cells #[.int .i64 0, .string .empty, .string .empty, .string .empty] 131)) (ha.alloc _) _ (n + 1) cap hj (by omega))
  clear ha
  go_enter Tryz.func50, Tryz.ntmps50
  go_wp2_with fail
  refine (unhide J).mono ?_
  rintro e w' ⟨rfl, rfl⟩
  simp only [Nat.zero_lt_succ, decide_true]
  go_wp2
  refine row_ret 2 3 131 Tryz.results50 w.heap.size [.int .i64 k, .string nm, .string d, .string to] (.bool true) _ rfl rfl ?_ Tryz.underlying131 rfl actSize rfl ?_
  · exact rowRange (heap_alloc_last w _)
  · exact ⟨rfl, (Below.refl _ w).alloc (Nat.le_refl _) _⟩
set_option maxRecDepth 100000 in
set_option maxHeartbeats 800000 in
theorem act_none (w : World) (b : Nat) (t : Tab) (a : Ann) (ha : AnnIn w b t a) (hj : a.job = .slice none 0 0) :
    Calls Tryz.prog 50 #[.pointer (some ⟨b, 0, none⟩)] w (ActPostA w #[.int .i64 0, .string .empty, .string .empty, .string .empty] false) := by
  have J := hide (hasJob_any b t a (w.alloc (.cells #[.int .i64 0, .string .empty, .string .empty, .string .empty] 131)) (ha.alloc _) _ 0 0 hj (by omega))
  clear ha
  go_enter Tryz.func50, Tryz.ntmps50
  go_wp2_with fail
  refine (unhide J).mono ?_
  rintro e w' ⟨rfl, rfl⟩
  simp only [Nat.lt_irrefl, decide_false]
  go_wp2
  refine row_ret 2 3 131 Tryz.results50 w.heap.size [.int .i64 0, .string .empty, .string .empty, .string .empty] (.bool false) _ rfl rfl ?_ Tryz.underlying131 rfl actSize rfl ?_
  · exact rowRange (heap_alloc_last w _)
  · exact ⟨rfl, (Below.refl _ w).alloc (Nat.le_refl _) _⟩

/-- a closure's end: nothing but the annal's block and block x has turned -/
def FnPost (b : Nat) (x : Option Nat) (w : World) (R : World → Prop) (e : Ending) (w' : World) : Prop := e = .returned (.tuple #[]) ∧ R w' ∧ Only2 b x w w'

set_option maxRecDepth 100000 in
set_option maxHeartbeats 800000 in
theorem goOn_any (w : World) (b : Nat) (t : Tab) (a : Ann) (ha : AnnIn w b t a) :
    Calls Tryz.prog 106 #[.pointer (some ⟨b, 0, none⟩), .int .i64 1] w (FnPost b none w fun w' => AnnIn w' b t { a with segment := 1, size := 0, next := 2 }) := by
  have c3 : w.cell? ⟨b, 131, none⟩ = some (.int .i64 a.segment) := ha.rest 3
  have c4 : w.cell? ⟨b, 132, none⟩ = some (.int .i64 a.size) := ha.rest 4
  have c5 : w.cell? ⟨b, 133, none⟩ = some (.int .i64 a.next) := ha.rest 5
  have f3 := ha.frozen 131
  have f4 := ha.frozen 132
  have f5 := ha.frozen 133
  have T3 := hide (((ha.setRest 3 (.int .i64 1)).setRest 4 (.int .i64 0)).setRest 5 (.int .i64 2))
  have O3 := hide ((((Only.refl b w).setCell (128 + 3) (.int .i64 1)).setCell (128 + 4) (.int .i64 0)).setCell (128 + 5) (.int .i64 2))
  clear ha
  go_enter Tryz.func106, Tryz.ntmps106
  go_wp2
  go_end0
  exact ⟨rfl, unhide T3, (unhide O3).two _⟩
set_option maxRecDepth 100000 in
set_option maxHeartbeats 800000 in
theorem create1_any (w : World) (b pa ps : Nat) (t : Tab) (a : Ann) (ha : AnnIn w b t a) (h1 : Box w pa 34 (.pointer (some ⟨b, 0, none⟩))) (h2 : Box w ps 3 (.int .i64 1)) :
    Calls Tryz.prog 105 #[.pointer (some ⟨pa, 0, none⟩), .pointer (some ⟨ps, 0, none⟩)] w (FnPost b none w fun w' => AnnIn w' b t { a with segment := 1, size := 0, next := 2 }) := by
  have c1 : w.cell? ⟨pa, 0, none⟩ = some (.pointer (some ⟨b, 0, none⟩)) := by rw [cell_of_row _ _ _ _ _ _ h1]; rfl
  have c2 : w.cell? ⟨ps, 0, none⟩ = some (.int .i64 1) := by rw [cell_of_row _ _ _ _ _ _ h2]; rfl
  have G := hide (goOn_any w b t a ha)
  clear ha
  go_enter Tryz.func105, Tryz.ntmps105
  go_wp2_with fail
  refine (unhide G).mono ?_
  rintro e w' ⟨rfl, h3, h4⟩
  have H3 := hide h3
  have H4 := hide h4
  clear h3 h4
  go_wp2
  go_end0
  exact ⟨rfl, unhide H3, unhide H4⟩
end Go.Proofs.YtgabjgphodihlaaGreatDoor

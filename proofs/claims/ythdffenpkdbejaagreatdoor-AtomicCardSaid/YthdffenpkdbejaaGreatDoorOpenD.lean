import Derived.Test.YthdffenpkdbejaaGreatDoorOpenC
import Derived.Test.YthdffenpkdbejaaGreatDoorAnnA
namespace Go.Proofs.YthdffenpkdbejaaGreatDoor
open Go.RowKit

/-- an annal of an empty disk -/
def ann0 : Ann := ⟨0, .slice none 0 0, 0, 1, .pointer none, 0, 0, 1, .slice none 0 0, .slice none 0 0, .slice none 0 0, false⟩
def tab0 : Tab := ⟨fun _ => false, fun _ => 0⟩
def annCells : List Value := tabCells (fun _ => false) (fun _ => 0) ++ ann0.cells
theorem buildAnn (w : World) : (Instr.build 119 #[(0, .agg (tabCells (fun _ => false) (fun _ => 0)).toArray), (1, .int .i64 0), (3, .agg #[.int .i64 0, .int .i64 1]), (7, .int .i64 1), (8, .slice none 0 0), (9, .slice none 0 0)]).run Tryz.prog w = .ok (.agg annCells.toArray) w := by kernel_rfl
theorem annCells_length : annCells.length = 140 := by simp [annCells, tabCells_length, Ann.cells]

def OpenPost (w : World) (e : Ending) (w' : World) : Prop := ∃ b, e = .returned (.tuple #[.pointer (some ⟨b, 0, none⟩), .int .i64 0]) ∧ w.heap.size ≤ b ∧ AnnIn w' b tab0 ann0 ∧ Below w.heap.size w w'

set_option maxRecDepth 100000 in
set_option maxHeartbeats 1600000 in
theorem open_nil (w : World) : Calls Tryz.prog 25 #[.slice none 0 0] w (OpenPost w) := by
  have hz := (zero_of_info stZero).1
  have hlN := stCells_length (fun _ => false) (fun _ => 0) 0 1
  have hba := buildAnn
  go_enter Tryz.func25, Tryz.ntmps25
  go_wp2_with fail
  refine (read_nil _).mono ?_
  rintro e w1 ⟨rfl, b1⟩
  have hst := storeSt w1
  have z1 := b1.size
  have B1 := hide b1
  clear b1
  have hS : TabIn (w1.alloc (.cells (stCells (fun _ => false) (fun _ => 0) 0 1).toArray 126)) w1.heap.size 126 (fun _ => false) (fun _ => 0) [.int .i64 0, .int .i64 1, .int .i64 0, .int .i64 1, .slice none 0 0, .slice none 0 0] := heap_alloc_last w1 _
  have s0 := hS.rest 0
  have s1 := hS.rest 1
  have s2 := hS.rest 2
  have s3 := hS.rest 3
  have s4 := hS.rest 4
  have s5 := hS.rest 5
  have R := hide hS.range
  have B2 := hide ((unhide B1).alloc z1 (.cells (stCells (fun _ => false) (fun _ => 0) 0 1).toArray 126))
  clear hS
  go_wp2_with fail
  clear hst hz hlN
  generalize (w1.alloc (.cells (stCells (fun _ => false) (fun _ => 0) 0 1).toArray 126)) = w2 at *
  generalize w1.heap.size = bs at *
  simp only [List.getElem?_cons_zero, List.getElem?_cons_succ, Nat.add_zero, Nat.reduceAdd] at s0 s1 s2 s3 s4 s5
  refine wp_load_mid 112 (.tmp 15) rfl bs 0 rfl (tabCells (fun _ => false) (fun _ => 0)) _ (unhide R) Tryz.underlying112 rfl (tabInfo _ _) ?_
  go_wp2
  go_ret2
  exact ⟨w2.heap.size, rfl, (unhide B2).size, heap_alloc_last w2 _, (unhide B2).alloc (unhide B2).size _⟩
end Go.Proofs.YthdffenpkdbejaaGreatDoor

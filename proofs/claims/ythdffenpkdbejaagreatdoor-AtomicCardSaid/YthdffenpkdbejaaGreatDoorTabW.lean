import Derived.WalkKit
import Derived.WalkSpells
import Derived.WalkLawsBesides
import Derived.Deep.WholeRow
namespace Go.Proofs.YthdffenpkdbejaaGreatDoor
open Go.RowKit

theorem hide {p : Prop} (h : p) : Hid p := h
theorem unhide {p : Prop} (h : Hid p) : p := h

/-- Nothing that was there has turned but block b; no block has gone. -/
structure Only (b : Nat) (w w' : World) : Prop where
  os : w'.os = w.os
  tape : w'.tape = w.tape
  output : w'.output = w.output
  size : w.heap.size ≤ w'.heap.size
  block : ∀ k, k < w.heap.size → k ≠ b → w'.heap[k]? = w.heap[k]?

theorem Only.refl (b : Nat) (w : World) : Only b w w := ⟨rfl, rfl, rfl, Nat.le_refl _, fun _ _ _ => rfl⟩
theorem Only.trans {b : Nat} {x y z : World} (h : Only b x y) (k : Only b y z) : Only b x z :=
  ⟨k.os.trans h.os, k.tape.trans h.tape, k.output.trans h.output, Nat.le_trans h.size k.size, fun i hi hb => (k.block i (Nat.lt_of_lt_of_le hi h.size) hb).trans (h.block i hi hb)⟩
theorem Only.drew {b : Nat} {x w : World} (h : Only b x w) : Only b x w.drew := ⟨h.os, h.tape, h.output, h.size, h.block⟩
theorem Only.drewN {b : Nat} {x w : World} (h : Only b x w) (n : Nat) : Only b x (w.drewN n) := ⟨h.os, h.tape, h.output, h.size, h.block⟩
theorem Only.alloc {b : Nat} {x w : World} (h : Only b x w) (o : Obj) : Only b x (w.alloc o) :=
  h.trans ⟨rfl, rfl, rfl, by simp, fun k hk _ => Below.heap_alloc _ _ _ (by omega)⟩
theorem Only.setCell {b : Nat} {x w : World} (h : Only b x w) (o : Nat) (u : Value) : Only b x (w.setCell ⟨b, o, none⟩ u) :=
  h.trans ⟨rfl, rfl, rfl, by simp [World.setCell], fun k _ hb => Below.heap_setCell _ _ _ _ hb⟩
/-- a store into a block that was not there -/
theorem Only.setCell_new {b : Nat} {x w : World} (h : Only b x w) {c : Nat} (hc : x.heap.size ≤ c) (o : Nat) (u : Value) : Only b x (w.setCell ⟨c, o, none⟩ u) :=
  ⟨h.os, h.tape, h.output, by simpa [World.setCell] using h.size, fun k hk hb => (Below.heap_setCell _ _ _ _ (by simp; omega)).trans (h.block k hk hb)⟩
theorem Only.below {b B : Nat} {x w : World} (h : Below B x w) (hB : x.heap.size ≤ B) : Only b x w :=
  ⟨h.os, h.tape, h.output, h.size, fun k hk _ => h.block k (by omega)⟩
theorem Only.toBelow {b : Nat} {x w : World} (h : Only b x w) (hb : x.heap.size ≤ b) : Below x.heap.size x w :=
  ⟨h.os, h.tape, h.output, h.size, fun k hk => h.block k hk (by omega)⟩

/-- The cell number j of a table. -/
def cellOf (h : Nat → Bool) (v : Nat → Int) (j : Nat) : Value := if j < 64 then .bool (h j) else .int .i64 (v (j - 64))
/-- The cells of a table. -/
def tabCells (h : Nat → Bool) (v : Nat → Int) : List Value := (List.range 128).map (cellOf h v)
theorem tabCells_length (h : Nat → Bool) (v : Nat → Int) : (tabCells h v).length = 128 := by simp [tabCells]

/-- A table stands at the head of block b. -/
def TabIn (w : World) (b : Nat) (T : TypeId) (h : Nat → Bool) (v : Nat → Int) (rest : List Value) : Prop :=
  w.heap[b]? = some (.cells (tabCells h v ++ rest).toArray T (0, 0))

theorem TabIn.cell {w : World} {b : Nat} {T : TypeId} {h : Nat → Bool} {v : Nat → Int} {rest : List Value} (t : TabIn w b T h v rest) (j : Nat) (hj : j < 128) :
    w.cell? ⟨b, j, none⟩ = some (cellOf h v j) := by
  rw [cell_of_row w b j _ T (0, 0) t]
  simp [tabCells, hj, List.getElem?_append]
theorem TabIn.has {w : World} {b : Nat} {T : TypeId} {h : Nat → Bool} {v : Nat → Int} {rest : List Value} (t : TabIn w b T h v rest) (j : Nat) (hj : j < 64) :
    w.cell? ⟨b, j, none⟩ = some (.bool (h j)) := by rw [t.cell j (by omega)]; simp [cellOf, hj]
theorem TabIn.val {w : World} {b : Nat} {T : TypeId} {h : Nat → Bool} {v : Nat → Int} {rest : List Value} (t : TabIn w b T h v rest) (j : Nat) (hj : j < 64) :
    w.cell? ⟨b, 64 + j, none⟩ = some (.int .i64 (v j)) := by
  rw [t.cell (64 + j) (by omega)]
  have : ¬ (64 + j < 64) := by omega
  simp [cellOf, this]
theorem TabIn.frozen {w : World} {b : Nat} {T : TypeId} {h : Nat → Bool} {v : Nat → Int} {rest : List Value} (t : TabIn w b T h v rest) (j : Nat) :
    w.frozen? ⟨b, j, none⟩ = false := frozen_of_row w b j _ T t
theorem TabIn.lt {w : World} {b : Nat} {T : TypeId} {h : Nat → Bool} {v : Nat → Int} {rest : List Value} (t : TabIn w b T h v rest) : b < w.heap.size := by
  have := block_lt_of_cell (t.cell 0 (by omega))
  simpa using this
theorem TabIn.rest {w : World} {b : Nat} {T : TypeId} {h : Nat → Bool} {v : Nat → Int} {rest : List Value} (t : TabIn w b T h v rest) (j : Nat) :
    w.cell? ⟨b, 128 + j, none⟩ = rest[j]? := by
  rw [cell_of_row w b _ _ T (0, 0) t]
  simp [tabCells, List.getElem?_append]
  omega

/-- one place another -/
def upd {α : Type} (f : Nat → α) (k : Nat) (a : α) : Nat → α := fun j => if j = k then a else f j

theorem TabIn.setHas {w : World} {b : Nat} {T : TypeId} {h : Nat → Bool} {v : Nat → Int} {rest : List Value} (t : TabIn w b T h v rest) (k : Nat) (hk : k < 64) (x : Bool) :
    TabIn (w.setCell ⟨b, k, none⟩ (.bool x)) b T (upd h k x) v rest := by
  unfold TabIn
  rw [heap_setCell_same w b k _ T _ t]
  congr 2
  apply Array.ext_getElem?
  intro j
  simp only [Array.getElem?_setIfInBounds, List.getElem?_toArray, List.size_toArray, List.length_append, tabCells_length]
  by_cases e : k = j
  · subst e
    have : k < 128 + rest.length := by omega
    have h2 : k < 128 := by omega
    simp [this, tabCells, h2, cellOf, hk, upd]
  · rw [if_neg e]
    by_cases hj : j < 128
    · simp only [tabCells, List.getElem?_append, List.length_map, List.length_range, hj, if_true, List.getElem?_map, List.getElem?_range, Option.map_some]
      simp only [cellOf, upd]
      have : ¬ j = k := fun q => e q.symm
      simp [this]
    · simp [List.getElem?_append, tabCells_length, hj]

theorem TabIn.setVal {w : World} {b : Nat} {T : TypeId} {h : Nat → Bool} {v : Nat → Int} {rest : List Value} (t : TabIn w b T h v rest) (k : Nat) (hk : k < 64) (x : Int) :
    TabIn (w.setCell ⟨b, 64 + k, none⟩ (.int .i64 x)) b T h (upd v k x) rest := by
  unfold TabIn
  rw [heap_setCell_same w b _ _ T _ t]
  congr 2
  apply Array.ext_getElem?
  intro j
  simp only [Array.getElem?_setIfInBounds, List.getElem?_toArray, List.size_toArray, List.length_append, tabCells_length]
  by_cases e : 64 + k = j
  · subst e
    have h1 : 64 + k < 128 + rest.length := by omega
    have h2 : 64 + k < 128 := by omega
    have h3 : ¬ 64 + k < 64 := by omega
    simp [h1, tabCells, h2, cellOf, h3, upd]
  · rw [if_neg e]
    by_cases hj : j < 128
    · simp only [tabCells, List.getElem?_append, List.length_map, List.length_range, hj, if_true, List.getElem?_map, List.getElem?_range, Option.map_some]
      simp only [cellOf, upd]
      by_cases h6 : j < 64
      · simp [h6]
      · have : ¬ j - 64 = k := by omega
        simp [h6, this]
    · simp [List.getElem?_append, tabCells_length, hj]

theorem TabIn.other {w w' : World} {b : Nat} {T : TypeId} {h : Nat → Bool} {v : Nat → Int} {rest : List Value} (t : TabIn w b T h v rest) (e : w'.heap[b]? = w.heap[b]?) : TabIn w' b T h v rest := by
  unfold TabIn; rw [e]; exact t
theorem TabIn.alloc {w : World} {b : Nat} {T : TypeId} {h : Nat → Bool} {v : Nat → Int} {rest : List Value} (t : TabIn w b T h v rest) (o : Obj) : TabIn (w.alloc o) b T h v rest :=
  t.other (Below.heap_alloc _ _ _ t.lt)
theorem TabIn.drew {w : World} {b : Nat} {T : TypeId} {h : Nat → Bool} {v : Nat → Int} {rest : List Value} (t : TabIn w b T h v rest) : TabIn w.drew b T h v rest := t
theorem TabIn.drewN {w : World} {b : Nat} {T : TypeId} {h : Nat → Bool} {v : Nat → Int} {rest : List Value} (t : TabIn w b T h v rest) (n : Nat) : TabIn (w.drewN n) b T h v rest := t
end Go.Proofs.YthdffenpkdbejaaGreatDoor

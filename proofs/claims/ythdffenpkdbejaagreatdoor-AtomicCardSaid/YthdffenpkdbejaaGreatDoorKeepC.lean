import Derived.Test.YthdffenpkdbejaaGreatDoorTabG
namespace Go.Proofs.YthdffenpkdbejaaGreatDoor
open Go.RowKit

/-- The cell number j of a table. -/
def kcellOf (h : Nat → Bool) (v : Nat → Int) (j : Nat) : Value := if j < 64 then .int .i64 (v j) else .bool (h (j - 64))
/-- The cells of a table. -/
def kCells (h : Nat → Bool) (v : Nat → Int) : List Value := (List.range 128).map (kcellOf h v)
theorem kCells_length (h : Nat → Bool) (v : Nat → Int) : (kCells h v).length = 128 := by simp [kCells]

/-- A table stands at the head of block b. -/
def KIn (w : World) (b : Nat) (T : TypeId) (h : Nat → Bool) (v : Nat → Int) (rest : List Value) : Prop :=
  w.heap[b]? = some (.cells (kCells h v ++ rest).toArray T (0, 0))

theorem KIn.cell {w : World} {b : Nat} {T : TypeId} {h : Nat → Bool} {v : Nat → Int} {rest : List Value} (t : KIn w b T h v rest) (j : Nat) (hj : j < 128) :
    w.cell? ⟨b, j, none⟩ = some (kcellOf h v j) := by
  rw [cell_of_row w b j _ T (0, 0) t]
  simp [kCells, hj, List.getElem?_append]
theorem KIn.val {w : World} {b : Nat} {T : TypeId} {h : Nat → Bool} {v : Nat → Int} {rest : List Value} (t : KIn w b T h v rest) (j : Nat) (hj : j < 64) :
    w.cell? ⟨b, j, none⟩ = some (.int .i64 (v j)) := by rw [t.cell j (by omega)]; simp [kcellOf, hj]
theorem KIn.has {w : World} {b : Nat} {T : TypeId} {h : Nat → Bool} {v : Nat → Int} {rest : List Value} (t : KIn w b T h v rest) (j : Nat) (hj : j < 64) :
    w.cell? ⟨b, 64 + j, none⟩ = some (.bool (h j)) := by
  rw [t.cell (64 + j) (by omega)]
  have : ¬ (64 + j < 64) := by omega
  simp [kcellOf, this]
theorem KIn.frozen {w : World} {b : Nat} {T : TypeId} {h : Nat → Bool} {v : Nat → Int} {rest : List Value} (t : KIn w b T h v rest) (j : Nat) :
    w.frozen? ⟨b, j, none⟩ = false := frozen_of_row w b j _ T t
theorem KIn.lt {w : World} {b : Nat} {T : TypeId} {h : Nat → Bool} {v : Nat → Int} {rest : List Value} (t : KIn w b T h v rest) : b < w.heap.size := by
  have := block_lt_of_cell (t.cell 0 (by omega))
  simpa using this
theorem KIn.rest {w : World} {b : Nat} {T : TypeId} {h : Nat → Bool} {v : Nat → Int} {rest : List Value} (t : KIn w b T h v rest) (j : Nat) :
    w.cell? ⟨b, 128 + j, none⟩ = rest[j]? := by
  rw [cell_of_row w b _ _ T (0, 0) t]
  simp [kCells, List.getElem?_append]
  omega

theorem KIn.setVal {w : World} {b : Nat} {T : TypeId} {h : Nat → Bool} {v : Nat → Int} {rest : List Value} (t : KIn w b T h v rest) (k : Nat) (hk : k < 64) (x : Int) :
    KIn (w.setCell ⟨b, k, none⟩ (.int .i64 x)) b T h (upd v k x) rest := by
  unfold KIn
  rw [heap_setCell_same w b k _ T _ t]
  congr 2
  apply Array.ext_getElem?
  intro j
  simp only [Array.getElem?_setIfInBounds, List.getElem?_toArray, List.size_toArray, List.length_append, kCells_length]
  by_cases e : k = j
  · subst e
    have : k < 128 + rest.length := by omega
    have h2 : k < 128 := by omega
    simp [this, kCells, h2, kcellOf, hk, upd]
  · rw [if_neg e]
    by_cases hj : j < 128
    · simp only [kCells, List.getElem?_append, List.length_map, List.length_range, hj, if_true, List.getElem?_map, List.getElem?_range, Option.map_some]
      simp only [kcellOf, upd]
      have : ¬ j = k := fun q => e q.symm
      simp [this]
    · simp [List.getElem?_append, kCells_length, hj]

theorem KIn.setHas {w : World} {b : Nat} {T : TypeId} {h : Nat → Bool} {v : Nat → Int} {rest : List Value} (t : KIn w b T h v rest) (k : Nat) (hk : k < 64) (x : Bool) :
    KIn (w.setCell ⟨b, 64 + k, none⟩ (.bool x)) b T (upd h k x) v rest := by
  unfold KIn
  rw [heap_setCell_same w b _ _ T _ t]
  congr 2
  apply Array.ext_getElem?
  intro j
  simp only [Array.getElem?_setIfInBounds, List.getElem?_toArray, List.size_toArray, List.length_append, kCells_length]
  by_cases e : 64 + k = j
  · subst e
    have h1 : 64 + k < 128 + rest.length := by omega
    have h2 : 64 + k < 128 := by omega
    have h3 : ¬ 64 + k < 64 := by omega
    simp [h1, kCells, h2, kcellOf, h3, upd]
  · rw [if_neg e]
    by_cases hj : j < 128
    · simp only [kCells, List.getElem?_append, List.length_map, List.length_range, hj, if_true, List.getElem?_map, List.getElem?_range, Option.map_some]
      simp only [kcellOf, upd]
      by_cases h6 : j < 64
      · simp [h6]
      · have : ¬ j - 64 = k := by omega
        simp [h6, this]
    · simp [List.getElem?_append, kCells_length, hj]

theorem KIn.other {w w' : World} {b : Nat} {T : TypeId} {h : Nat → Bool} {v : Nat → Int} {rest : List Value} (t : KIn w b T h v rest) (e : w'.heap[b]? = w.heap[b]?) : KIn w' b T h v rest := by
  unfold KIn; rw [e]; exact t
theorem KIn.alloc {w : World} {b : Nat} {T : TypeId} {h : Nat → Bool} {v : Nat → Int} {rest : List Value} (t : KIn w b T h v rest) (o : Obj) : KIn (w.alloc o) b T h v rest :=
  t.other (Below.heap_alloc _ _ _ t.lt)
theorem KIn.drew {w : World} {b : Nat} {T : TypeId} {h : Nat → Bool} {v : Nat → Int} {rest : List Value} (t : KIn w b T h v rest) : KIn w.drew b T h v rest := t
theorem KIn.drewN {w : World} {b : Nat} {T : TypeId} {h : Nat → Bool} {v : Nat → Int} {rest : List Value} (t : KIn w b T h v rest) (n : Nat) : KIn (w.drewN n) b T h v rest := t
theorem KIn.range {w : World} {b : Nat} {T : TypeId} {h : Nat → Bool} {v : Nat → Int} {rest : List Value} (t : KIn w b T h v rest) : w.rangeAt b 0 (kCells h v) := by
  intro j x hx
  rw [cell_of_row w b _ _ T (0, 0) t]
  have hj : j < (kCells h v).length := (List.getElem?_eq_some_iff.1 hx).1
  simp only [Nat.zero_add, List.getElem?_toArray, List.getElem?_append, hj, if_true]
  exact hx
theorem KIn.there {w : World} {b : Nat} {T : TypeId} {h : Nat → Bool} {v : Nat → Int} {rest : List Value} (t : KIn w b T h v rest) : w.there b 0 128 := by
  intro j hj
  refine ⟨?_, t.frozen _⟩
  rw [Nat.zero_add, t.cell j hj]
  rfl


theorem KIn.setAll {w : World} {b : Nat} {T : TypeId} {h h' : Nat → Bool} {v v' : Nat → Int} {rest : List Value} (t : KIn w b T h v rest) : KIn (w.setCells b 0 (kCells h' v')) b T h' v' rest := by
  have := heap_setCells_row b T (kCells h' v') [] (kCells h v) rest w (by simp [kCells_length]) (by simpa [KIn] using t)
  simpa [KIn] using this
theorem k_one (h : Nat → Bool) (v : Nat → Int) : (kCells h v).toArray.all (·.oneCell') = true :=
  all_oneCell_toArray (fun x hx => by simp only [kCells, List.mem_map] at hx; obtain ⟨j, _, rfl⟩ := hx; unfold kcellOf; split <;> rfl)
theorem storeK {P : Program} {w : World} {b : Nat} {T : TypeId} {h : Nat → Bool} {v : Nat → Int} {rest : List Value} (t : KIn w b T h v rest) (h' : Nat → Bool) (v' : Nat → Int) :
    (storeCells ⟨b, 0, none⟩ (kCells h' v') 0).run P w = .ok () (w.setCells b 0 (kCells h' v')) := by
  have := run_storeCells_cells (P := P) b 0 (kCells h' v') 0 w (fun j hj => by simpa using (t.there j (by simpa [kCells_length] using hj)).1) (fun j hj => by simpa using (t.there j (by simpa [kCells_length] using hj)).2)
    (fun x hx => by simp only [kCells, List.mem_map] at hx; obtain ⟨j, _, rfl⟩ := hx; unfold kcellOf; split <;> rfl)
  simpa using this

theorem kInfo (h : Nat → Bool) (v : Nat → Int) : (Tryz.prog.info? 42).map (·.size) = some (kCells h v).length := by
  rw [kCells_length]; kernel_rfl
theorem kZero : (Tryz.prog.info? 42).map (fun i => (i.zero, i.size)) = some (some (.agg (kCells (fun _ => false) (fun _ => 0)).toArray), 128) := by kernel_rfl
end Go.Proofs.YthdffenpkdbejaaGreatDoor

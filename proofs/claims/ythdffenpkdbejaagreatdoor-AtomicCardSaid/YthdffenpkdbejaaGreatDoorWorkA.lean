import Derived.Test.YthdffenpkdbejaaGreatDoorJobC
import Derived.Test.YthdffenpkdbejaaGreatDoorLookA
import Derived.Test.YthdffenpkdbejaaGreatDoorDiskC
import Derived.Test.YthdffenpkdbejaaGreatDoorKeepI
namespace Go.Proofs.YthdffenpkdbejaaGreatDoor
open Go.RowKit

/-- where all lies while a Flush's job is worked off -/
structure Cfg where
  base : Nat
  B : Nat
  rb : Nat
  b : Nat
  d : Nat
  g : Nat
  cap : Nat
  gw : Nat
  cw : Nat
  pa : Nat
  ps : Nat
  qa : Nat
  pc : Nat
  pd : Nat
  r : RunV
  s : ByteArray
  t : Tab

/-- the blocks that are read alone -/
def Cfg.still (c : Cfg) (x : Nat) : Prop := x < c.B ∧ x ≠ c.b ∧ x ≠ c.d ∧ x ≠ c.gw
structure Cfg.Ok (c : Cfg) : Prop where
  rb : c.still c.rb
  g : c.still c.g
  pa : c.still c.pa
  ps : c.still c.ps
  qa : c.still c.qa
  pc : c.still c.pc
  pd : c.still c.pd
  b : c.b < c.B
  d : c.d < c.B
  gw : c.gw < c.B
  bd : c.b ≠ c.d
  bg : c.b ≠ c.gw
  dg : c.d ≠ c.gw
  cap4 : 4 ≤ c.cap
  ra : c.r.a = c.b
  rd : c.r.d = c.d
  s6 : c.s.size ≤ 1006

/-- what may have turned -/
structure Fr (c : Cfg) (w w' : World) : Prop where
  os : w'.os = w.os
  tape : w'.tape = w.tape
  output : w'.output = w.output
  size : w.heap.size ≤ w'.heap.size
  block : ∀ j, c.still j → w'.heap[j]? = w.heap[j]?
theorem Fr.refl (c : Cfg) (w : World) : Fr c w w := ⟨rfl, rfl, rfl, Nat.le_refl _, fun _ _ => rfl⟩
theorem Fr.trans {c : Cfg} {x y z : World} (h : Fr c x y) (k : Fr c y z) : Fr c x z :=
  ⟨k.os.trans h.os, k.tape.trans h.tape, k.output.trans h.output, Nat.le_trans h.size k.size, fun j hj => (k.block j hj).trans (h.block j hj)⟩
theorem Fr.below {c : Cfg} {w w' : World} {B : Nat} (h : Below B w w') (hB : c.B ≤ B) : Fr c w w' := ⟨h.os, h.tape, h.output, h.size, fun j hj => h.block j (Nat.lt_of_lt_of_le hj.1 hB)⟩
theorem Fr.only2 {c : Cfg} {w w' : World} {x : Option Nat} (h : Only2 c.b x w w') (hx : x = none ∨ x = some c.gw) (hB : c.B ≤ w.heap.size) : Fr c w w' :=
  ⟨h.os, h.tape, h.output, h.size, fun j hj => h.block j (Nat.lt_of_lt_of_le hj.1 hB) hj.2.1 (by rcases hx with rfl | rfl <;> simp; exact hj.2.2.2)⟩
theorem Fr.onlyb {c : Cfg} {w w' : World} (h : Only c.b w w') (hB : c.B ≤ w.heap.size) : Fr c w w' := ⟨h.os, h.tape, h.output, h.size, fun j hj => h.block j (Nat.lt_of_lt_of_le hj.1 hB) hj.2.1⟩

/-- the block of the job's steps -/
def Steps (w : World) (c : Cfg) : Prop := ∃ cur, w.heap[c.g]? = some (.cells cur 134 (0, 0)) ∧ cur.toList.take 24 = createCells c.b c.pa c.ps ++ writeCells c.b c.qa c.pc c.pd c.s
theorem Steps.cell {w : World} {c : Cfg} (h : Steps w c) (i : Nat) (hi : i < 24) : w.cell? ⟨c.g, i, none⟩ = (createCells c.b c.pa c.ps ++ writeCells c.b c.qa c.pc c.pd c.s)[i]? := by
  obtain ⟨cur, h1, h2⟩ := h
  rw [cell_of_row _ _ _ _ _ _ h1, ← h2, List.getElem?_take, if_pos hi]
  simp

/-- the state of the work: all but the waiting batches and the disk -/
structure St (c : Cfg) (w0 w : World) (a : Ann) : Prop where
  run : w.heap[c.rb]? = some (.cells c.r.cells 38 (0, 0))
  ann : AnnIn w c.b c.t a
  steps : Steps w c
  pa : Box w c.pa 34 (.pointer (some ⟨c.b, 0, none⟩))
  ps : Box w c.ps 3 (.int .i64 1)
  qa : Box w c.qa 34 (.pointer (some ⟨c.b, 0, none⟩))
  pc : Box w c.pc 3 (.int .i64 1)
  pd : Box w c.pd 9 (.string c.s)
  fr : Fr c w0 w
  size : c.B ≤ w.heap.size

theorem St.step {c : Cfg} {w0 w w' : World} {a a' : Ann} (h : St c w0 w a) (ok : c.Ok) (f : Fr c w w') (ha : AnnIn w' c.b c.t a') : St c w0 w' a' := by
  refine ⟨(f.block _ ok.rb).trans h.run, ha, ?_, (f.block _ ok.pa).trans h.pa, (f.block _ ok.ps).trans h.ps, (f.block _ ok.qa).trans h.qa, (f.block _ ok.pc).trans h.pc, (f.block _ ok.pd).trans h.pd, h.fr.trans f, Nat.le_trans h.size f.size⟩
  obtain ⟨cur, h1, h2⟩ := h.steps
  exact ⟨cur, (f.block _ ok.g).trans h1, h2⟩
theorem St.same {c : Cfg} {w0 w w' : World} {a : Ann} (h : St c w0 w a) (ok : c.Ok) (f : Fr c w w') (hb : w'.heap[c.b]? = w.heap[c.b]?) : St c w0 w' a := h.step ok f (h.ann.other hb)

/-- a disk of one file stays one while its blocks stay -/
theorem One.other {base : Nat} {w w' : World} {d : Nat} {n data : ByteArray} {safe : Int} (h : One base w d n data safe) (hs : ∀ j, j = d ∨ base ≤ j → j < w.heap.size → w'.heap[j]? = w.heap[j]?) : One base w' d n data safe := by
  obtain ⟨ba, pa, bn, pn, vs, vc, h1, h2, h3, h4, tA, tN, hd⟩ := h
  exact ⟨ba, pa, bn, pn, vs, vc, h1, h2, h3, h4, tA.other (hs ba (.inr h1) tA.lt), tN.other (hs bn (.inr h2) tN.lt), (hs d (.inl rfl) (Array.getElem?_eq_some_iff.1 hd).1).trans hd⟩
theorem One.lower {base base' : Nat} {w : World} {d : Nat} {n data : ByteArray} {safe : Int} (h : One base w d n data safe) (hb : base' ≤ base) (hd : d < base') : One base' w d n data safe := by
  obtain ⟨ba, pa, bn, pn, vs, vc, h1, h2, h3, h4, tA, tN, hd'⟩ := h
  exact ⟨ba, pa, bn, pn, vs, vc, by omega, by omega, h3, hd, tA, tN, hd'⟩

/-- the disk behind k acts -/
def DiskK (c : Cfg) (w : World) : Nat → Prop
  | 0 => w.heap[c.d]? = some (.cells #[.slice none 0 0, .slice none 0 0, .slice none 0 0, .slice none 0 0] 96 (0, 0))
  | 1 => One c.B w c.d logName .empty 0
  | 2 => One c.B w c.d logName .empty 0
  | 3 => One c.B w c.d logName (ByteArray.empty ++ c.s) 0
  | _ => One c.B w c.d logName (ByteArray.empty ++ c.s) (ByteArray.empty ++ c.s).size
theorem DiskK.other {c : Cfg} {w w' : World} {k : Nat} (h : DiskK c w k) (hs : ∀ j, j = c.d ∨ c.B ≤ j → j < w.heap.size → w'.heap[j]? = w.heap[j]?) : DiskK c w' k := by
  match k, h with
  | 0, h => exact (hs c.d (.inl rfl) (Array.getElem?_eq_some_iff.1 h).1).trans h
  | 1, h => exact One.other h hs
  | 2, h => exact One.other h hs
  | 3, h => exact One.other h hs
  | _ + 4, h => exact One.other h hs

/-- the annal behind k acts -/
def annK (c : Cfg) (a : Ann) : Nat → Ann
  | 0 => { a with job := .slice (some ⟨c.g, 0, none⟩) 4 c.cap }
  | 1 => { a with job := .slice (some ⟨c.g, 6, none⟩) 3 (c.cap - 1) }
  | 2 => { a with segment := 1, size := 0, next := 2, job := .slice (some ⟨c.g, 12, none⟩) 2 (c.cap - 1 - 1) }
  | 3 => { a with segment := 1, size := c.s.size, next := 2, job := .slice (some ⟨c.g, 18, none⟩) 1 (c.cap - 1 - 1 - 1) }
  | _ => { a with segment := 1, size := c.s.size, next := 2, job := .slice none 0 0, waiting := .slice (some ⟨c.gw, 0, none⟩) 0 c.cw }
/-- the batches that wait -/
def WaitK (c : Cfg) (w : World) (k : Nat) : Prop := if k < 4 then w.ownsRow c.base 9 1 (.slice (some ⟨c.gw, 0, none⟩) 1 c.cw) 1 [.string c.s] else w.ownsRow c.base 9 1 (.slice (some ⟨c.gw, 0, none⟩) 0 c.cw) 0 []
theorem WaitK.other {c : Cfg} {w w' : World} {k : Nat} (h : WaitK c w k) (hs : w'.heap[c.gw]? = w.heap[c.gw]?) : WaitK c w' k := by
  unfold WaitK at *
  split
  · rename_i hk
    rw [if_pos hk] at h
    exact own_same h (fun g hg => by simp [Value.ownBlock] at hg; subst hg; exact hs)
  · rename_i hk
    rw [if_neg hk] at h
    exact own_same h (fun g hg => by simp [Value.ownBlock] at hg; subst hg; exact hs)

/-- the whole state behind k acts -/
structure WK (c : Cfg) (a : Ann) (w0 w : World) (k : Nat) : Prop where
  st : St c w0 w (annK c a k)
  wait : WaitK c w k
  disk : DiskK c w k
end Go.Proofs.YthdffenpkdbejaaGreatDoor

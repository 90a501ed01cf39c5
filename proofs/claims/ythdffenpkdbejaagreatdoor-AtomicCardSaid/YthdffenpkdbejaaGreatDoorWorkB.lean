import Derived.Test.YthdffenpkdbejaaGreatDoorWorkA
namespace Go.Proofs.YthdffenpkdbejaaGreatDoor
open Go.RowKit

def kindK : Nat → Int
  | 0 => 1
  | 1 => 6
  | 2 => 2
  | _ => 3
def nameK : Nat → ByteArray
  | 1 => .empty
  | _ => logName
def dataK (c : Cfg) : Nat → ByteArray
  | 2 => c.s
  | _ => .empty

theorem WK.below {c : Cfg} {a : Ann} {w0 w w' : World} {k : Nat} (h : WK c a w0 w k) (ok : c.Ok) (b : Below w.heap.size w w') : WK c a w0 w' k :=
  ⟨h.st.same ok (Fr.below b h.st.size) (b.block _ (Nat.lt_of_lt_of_le ok.b h.st.size)), h.wait.other (b.block _ (Nat.lt_of_lt_of_le ok.gw h.st.size)), h.disk.other (fun j _ hj => b.block j hj)⟩

theorem actK_any {c : Cfg} {a : Ann} {w0 w : World} {k : Nat} (h : WK c a w0 w k) (hk : k < 4) :
    Calls Tryz.prog 49 #[.pointer (some ⟨c.b, 0, none⟩)] w (ActPostA w #[.int .i64 (kindK k), .string (nameK k), .string (dataK c k), .string .empty] true) := by
  rcases (by omega : k = 0 ∨ k = 1 ∨ k = 2 ∨ k = 3) with rfl | rfl | rfl | rfl
  · exact act_some w c.b c.g 0 3 _ c.t _ _ _ _ _ h.st.ann rfl (by omega) (h.st.steps.cell 0 (by omega)) (h.st.steps.cell 1 (by omega)) (h.st.steps.cell 2 (by omega)) (h.st.steps.cell 3 (by omega))
  · exact act_some w c.b c.g 6 2 _ c.t _ _ _ _ _ h.st.ann rfl (by omega) (h.st.steps.cell 6 (by omega)) (h.st.steps.cell 7 (by omega)) (h.st.steps.cell 8 (by omega)) (h.st.steps.cell 9 (by omega))
  · exact act_some w c.b c.g 12 1 _ c.t _ _ _ _ _ h.st.ann rfl (by omega) (h.st.steps.cell 12 (by omega)) (h.st.steps.cell 13 (by omega)) (h.st.steps.cell 14 (by omega)) (h.st.steps.cell 15 (by omega))
  · exact act_some w c.b c.g 18 0 _ c.t _ _ _ _ _ h.st.ann rfl (by omega) (h.st.steps.cell 18 (by omega)) (h.st.steps.cell 19 (by omega)) (h.st.steps.cell 20 (by omega)) (h.st.steps.cell 21 (by omega))

/-- what an act on the disk leaves -/
structure DoPost (c : Cfg) (k : Nat) (w : World) (e : Ending) (w' : World) : Prop where
  ret : e = .returned (.tuple #[])
  disk : DiskK c w' (k + 1)
  os : w'.os = w.os
  tape : w'.tape = w.tape
  output : w'.output = w.output
  size : w.heap.size ≤ w'.heap.size
  block : ∀ j, j < c.B → j ≠ c.d → w'.heap[j]? = w.heap[j]?

theorem doK_any {c : Cfg} (ok : c.Ok) {w : World} {k : Nat} (h : DiskK c w k) (hk : k < 4) (hB : c.B ≤ w.heap.size) :
    Calls Tryz.prog 30 #[.pointer (some ⟨c.d, 0, none⟩), .agg #[.int .i64 (kindK k), .string (nameK k), .string (dataK c k), .string .empty]] w (DoPost c k w) := by
  rcases (by omega : k = 0 ∨ k = 1 ∨ k = 2 ∨ k = 3) with rfl | rfl | rfl | rfl
  · refine (do_create w c.d logName .empty .empty h).mono ?_
    rintro e w' ⟨h1, h2, h3⟩
    exact ⟨h1, One.lower h2 hB ok.d, h3.os, h3.tape, h3.output, h3.size, fun j hj hd => h3.block j (by omega) hd⟩
  · refine (do_syncdir c.B w c.d logName .empty 0 .empty .empty .empty h).mono ?_
    rintro e w' ⟨h1, h2, h3, h4, h5, h6, h7⟩
    exact ⟨h1, h2, h4, h5, h6, h3, h7⟩
  · refine (do_append c.B w c.d logName .empty 0 c.s .empty h (by have := ok.s6; simp; omega)).mono ?_
    rintro e w' ⟨h1, h2, h3, h4, h5, h6, h7⟩
    exact ⟨h1, h2, h4, h5, h6, h3, h7⟩
  · refine (do_sync c.B w c.d logName (ByteArray.empty ++ c.s) 0 .empty .empty h).mono ?_
    rintro e w' ⟨h1, h2, h3, h4, h5, h6, h7⟩
    exact ⟨h1, h2, h4, h5, h6, h3, h7⟩

theorem call101 (p q : Nat) (w : World) : (callFunc 85 #[.pointer (some ⟨p, 0, none⟩), .pointer (some ⟨q, 0, none⟩)]).run Tryz.prog w = .ok (.enter 85 #[.pointer (some ⟨p, 0, none⟩), .pointer (some ⟨q, 0, none⟩)]) w := by kernel_rfl
theorem call103 (p q : Nat) (w : World) : (callFunc 87 #[.pointer (some ⟨p, 0, none⟩), .pointer (some ⟨q, 0, none⟩)]).run Tryz.prog w = .ok (.enter 87 #[.pointer (some ⟨p, 0, none⟩), .pointer (some ⟨q, 0, none⟩)]) w := by kernel_rfl
theorem call104 (p q : Nat) (w : World) : (callFunc 89 #[.pointer (some ⟨p, 0, none⟩), .pointer (some ⟨q, 0, none⟩)]).run Tryz.prog w = .ok (.enter 89 #[.pointer (some ⟨p, 0, none⟩), .pointer (some ⟨q, 0, none⟩)]) w := by kernel_rfl
theorem call105 (p q : Nat) (w : World) : (callFunc 91 #[.pointer (some ⟨p, 0, none⟩), .pointer (some ⟨q, 0, none⟩)]).run Tryz.prog w = .ok (.enter 91 #[.pointer (some ⟨p, 0, none⟩), .pointer (some ⟨q, 0, none⟩)]) w := by kernel_rfl

/-- the disk stays as it is while the annal's block turns, and the waiting batches' -/
theorem DiskK.only2 {c : Cfg} (ok : c.Ok) {w w' : World} {k : Nat} {x : Option Nat} (h : DiskK c w k) (o : Only2 c.b x w w') (hx : x = none ∨ x = some c.gw) : DiskK c w' k := by
  refine h.other (fun j hj hl => o.block j hl ?_ ?_)
  · have h1 := ok.b
    have h2 := ok.bd
    rcases hj with rfl | hj
    · exact h2.symm
    · omega
  · have h1 := ok.gw
    have h2 := ok.dg
    rcases hx with rfl | rfl
    · simp
    · simp
      rcases hj with rfl | hj
      · exact h2
      · omega

/-- Done behind k acts, the next one done -/
theorem doneK_any {c : Cfg} (ok : c.Ok) {a : Ann} (haw : a.waiting = .slice (some ⟨c.gw, 0, none⟩) 1 c.cw) {w0 w : World} {k : Nat} (hk : k < 4) (hsv : k = 0 → a.segs = .slice none 0 0) (hS : St c w0 w (annK c a k)) (hW : WaitK c w k) (hD : DiskK c w (k + 1)) :
    Calls Tryz.prog 50 #[.pointer (some ⟨c.b, 0, none⟩), .bool true] w (DonePost fun w' => ∃ sv, WK c { a with segs := sv } w0 w' (k + 1)) := by
  have hcap := ok.cap4
  have hbl : c.b < w.heap.size := Nat.lt_of_lt_of_le ok.b hS.size
  have hgl : c.gw < w.heap.size := Nat.lt_of_lt_of_le ok.gw hS.size
  rcases (by omega : k = 0 ∨ k = 1 ∨ k = 2 ∨ k = 3) with rfl | rfl | rfl | rfl
  · refine done_fn w c.b c.g 0 3 c.cap c.t _ _ _ _ _ _ _ _ _ _ hS.ann rfl (by omega) (by omega) (hS.steps.cell 0 (by omega)) (hS.steps.cell 1 (by omega)) (hS.steps.cell 2 (by omega)) (hS.steps.cell 3 (by omega)) (hS.steps.cell 4 (by omega)) (hS.steps.cell 5 (by omega)) (call104 _ _) _ ?_
    intro w3 ha o
    have S3 := hS.step ok (Fr.onlyb o hS.size) ha
    refine (create0_any w3 c.b c.pa c.ps c.t _ ha (hsv rfl) S3.pa S3.ps).mono ?_
    rintro e w4 ⟨h1, ⟨sv, h2⟩, h3⟩
    exact ⟨h1, sv, S3.step ok (Fr.only2 h3 (.inl rfl) S3.size) h2, (hW.other (o.block _ hgl ok.bg.symm)).other (h3.block _ (Nat.lt_of_lt_of_le ok.gw S3.size) ok.bg.symm (by simp)), (hD.only2 ok (o.two none) (.inl rfl)).only2 ok h3 (.inl rfl)⟩
  · refine done_fn w c.b c.g 6 2 (c.cap - 1) c.t _ _ _ _ _ _ _ _ _ _ hS.ann rfl (by omega) (by omega) (hS.steps.cell 6 (by omega)) (hS.steps.cell 7 (by omega)) (hS.steps.cell 8 (by omega)) (hS.steps.cell 9 (by omega)) (hS.steps.cell 10 (by omega)) (hS.steps.cell 11 (by omega)) (call105 _ _) _ ?_
    intro w3 ha o
    have S3 := hS.step ok (Fr.onlyb o hS.size) ha
    refine (create1_any w3 c.b c.pa c.ps c.t _ ha S3.pa S3.ps).mono ?_
    rintro e w4 ⟨h1, h2, h3⟩
    exact ⟨h1, a.segs, S3.step ok (Fr.only2 h3 (.inl rfl) S3.size) h2, (hW.other (o.block _ hgl ok.bg.symm)).other (h3.block _ (Nat.lt_of_lt_of_le ok.gw S3.size) ok.bg.symm (by simp)), (hD.only2 ok (o.two none) (.inl rfl)).only2 ok h3 (.inl rfl)⟩
  · refine done_fn w c.b c.g 12 1 (c.cap - 1 - 1) c.t _ _ _ _ _ _ _ _ _ _ hS.ann rfl (by omega) (by omega) (hS.steps.cell 12 (by omega)) (hS.steps.cell 13 (by omega)) (hS.steps.cell 14 (by omega)) (hS.steps.cell 15 (by omega)) (hS.steps.cell 16 (by omega)) (hS.steps.cell 17 (by omega)) (call101 _ _) _ ?_
    intro w3 ha o
    have S3 := hS.step ok (Fr.onlyb o hS.size) ha
    refine (write1_any w3 c.b c.qa c.pd c.s c.t _ ha rfl (by have := ok.s6; omega) S3.qa S3.pd).mono ?_
    rintro e w4 ⟨h1, h2, h3⟩
    exact ⟨h1, a.segs, S3.step ok (Fr.only2 h3 (.inl rfl) S3.size) h2, (hW.other (o.block _ hgl ok.bg.symm)).other (h3.block _ (Nat.lt_of_lt_of_le ok.gw S3.size) ok.bg.symm (by simp)), (hD.only2 ok (o.two none) (.inl rfl)).only2 ok h3 (.inl rfl)⟩
  · refine done_fn w c.b c.g 18 0 (c.cap - 1 - 1 - 1) c.t _ _ _ _ _ _ _ _ _ _ hS.ann rfl (by omega) (by omega) (hS.steps.cell 18 (by omega)) (hS.steps.cell 19 (by omega)) (hS.steps.cell 20 (by omega)) (hS.steps.cell 21 (by omega)) (hS.steps.cell 22 (by omega)) (hS.steps.cell 23 (by omega)) (call103 _ _) _ ?_
    intro w3 ha o
    have S3 := hS.step ok (Fr.onlyb o hS.size) ha
    have W3 := hW.other (o.block _ hgl ok.bg.symm)
    refine (write2_any w3 c.b c.base c.gw c.cw c.qa c.pc c.t _ [.string c.s] ha haw (by show w3.ownsRow c.base _ 1 a.waiting 1 _; rw [haw]; exact W3) S3.qa S3.pc).mono ?_
    rintro e w4 ⟨h1, ⟨h2, h4⟩, h3⟩
    exact ⟨h1, a.segs, S3.step ok (Fr.only2 h3 (.inr rfl) S3.size) h2, h4, (hD.only2 ok (o.two none) (.inl rfl)).only2 ok h3 (.inr rfl)⟩
end Go.Proofs.YthdffenpkdbejaaGreatDoor

import Derived.Test.YthdffenpkdbejaaGreatDoorTabE
import Derived.Deep.OwnRows
namespace Go.Proofs.YthdffenpkdbejaaGreatDoor
open Go.RowKit

theorem txnRun_small (t : Tab) (hs : Small t.v) : ∀ (l : List TOp), (∀ o ∈ l, o.Ok) → Small (txnRun t l).2.v := by
  intro l
  induction l generalizing t with
  | nil => intro _; exact hs
  | cons o l ih =>
    intro h
    simp only [txnRun]
    split
    · exact ih _ (opDo_small t o (h o (by simp)) hs) (fun x hx => h x (by simp [hx]))
    · exact hs
theorem txnDo_small (t : Tab) (hs : Small t.v) (l : List TOp) (h : ∀ o ∈ l, o.Ok) : Small (txnDo t l).2.v := by
  unfold txnDo
  split
  · exact txnRun_small t hs l h
  · exact hs

/-- a batch -/
def batDo (t : Tab) : List (List TOp) → List Bool × Tab
  | [] => ([], t)
  | l :: r => ((txnDo t l).1 :: (batDo (txnDo t l).2 r).1, (batDo (txnDo t l).2 r).2)
theorem batDo_length (t : Tab) : ∀ (r : List (List TOp)), (batDo t r).1.length = r.length := by
  intro r
  induction r generalizing t with
  | nil => rfl
  | cons l r ih => simp [batDo, ih]
theorem batDo_small (t : Tab) (hs : Small t.v) : ∀ (r : List (List TOp)), (∀ l ∈ r, ∀ o ∈ l, o.Ok) → Small (batDo t r).2.v := by
  intro r
  induction r generalizing t with
  | nil => intro _; exact hs
  | cons l r ih => intro h; exact ih _ (txnDo_small t hs l (h l (by simp))) (fun x hx => h x (by simp [hx]))

/-- the transactions r lie in block c from offset off on, none of it in block b -/
def BatAt (w : World) (b c off : Nat) (r : List (List TOp)) : Prop := ∀ i l, r[i]? = some l →
  ∃ ci oi pi, w.cell? ⟨c, off + i, none⟩ = some (.slice (some ⟨ci, oi, none⟩) l.length pi) ∧ OpsAt w ci oi l ∧ ci ≠ b ∧ ci < w.heap.size

theorem BatAt.only {w w' : World} {b c off : Nat} {r : List (List TOp)} (h : BatAt w b c off r) (o : Only b w w') (hc : c ≠ b) (hcl : c < w.heap.size) : BatAt w' b c off r := by
  intro i l hi
  obtain ⟨ci, oi, pi, h1, h2, h3, h4⟩ := h i l hi
  exact ⟨ci, oi, pi, by rw [World.cell?_of_block (w := w) (a := ⟨c, off + i, none⟩) (o.block c hcl hc)]; exact h1, h2.other (o.block ci h4 h3), h3, Nat.lt_of_lt_of_le h4 o.size⟩

theorem batDo_snoc (t : Tab) : ∀ (r : List (List TOp)) (k : Nat) (l : List TOp), r[k]? = some l →
    batDo t (r.take (k + 1)) = ((batDo t (r.take k)).1 ++ [(txnDo (batDo t (r.take k)).2 l).1], (txnDo (batDo t (r.take k)).2 l).2) := by
  intro r
  induction r generalizing t with
  | nil => intro k l h; simp at h
  | cons x r ih =>
    intro k l h
    cases k with
    | zero => simp at h; subst h; simp [batDo]
    | succ k =>
      simp only [List.getElem?_cons_succ] at h
      simp only [List.take_succ_cons, batDo]
      rw [ih _ k l h]
      simp

def boolsOf (l : List Bool) (n : Nat) : Array Value := (l.map Value.bool ++ List.replicate (n - l.length) (Value.bool false)).toArray
theorem boolsOf_set (l : List Bool) (n : Nat) (x : Bool) (h : l.length < n) : (boolsOf l n).setIfInBounds l.length (.bool x) = boolsOf (l ++ [x]) n := by
  unfold boolsOf
  have e : n - l.length = (n - (l.length + 1)) + 1 := by omega
  simp [e, List.replicate_succ]
theorem boolsOf_cell (l : List Bool) (n : Nat) (h : l.length < n) : (boolsOf l n)[l.length]? = some (.bool false) := by
  unfold boolsOf
  have e : n - l.length = (n - (l.length + 1)) + 1 := by omega
  simp [e, List.replicate_succ]
theorem boolInfo : (Tryz.prog.info? 4).map (fun i => (i.zero, i.size, i.bytes)) = some (some (.bool false), 1, 1) := by kernel_rfl

set_option maxHeartbeats 1600000 in
theorem do_any (b : Nat) (T : TypeId) (t : Tab) (rest : List Value) (w : World) (ht : TabIn w b T t.h t.v rest) (hs : Small t.v) (c off cap : Nat) (r : List (List TOp)) (hr : BatAt w b c off r) (hok : ∀ l ∈ r, ∀ o ∈ l, o.Ok) (hlen : ∀ l ∈ r, l.length ≤ 100) (hc : c ≠ b) (hcl : c < w.heap.size) (hn : r.length ≤ 100) :
    Calls Tryz.prog 60 #[.pointer (some ⟨b, 0, none⟩), .slice (some ⟨c, off, none⟩) r.length cap] w fun e w' =>
      e = .returned (.slice (some ⟨w.heap.size, 0, none⟩) r.length r.length) ∧ w'.heap[w.heap.size]? = some (.cells (((batDo t r).1).map Value.bool).toArray 4 (0, 0)) ∧ TabIn w' b T (batDo t r).2.h (batDo t r).2.v rest ∧ Only b w w' := by
  have hmk := run_make_row' (P := Tryz.prog) 66 4 (.bool false) 1 Tryz.underlying66 boolInfo rfl .i64 .i64 r.length (by omega) (by omega)
  go_enter Tryz.func60, Tryz.ntmps60
  go_wp2
  have e0 : madeCells #[Value.bool false] r.length = boolsOf (batDo t (r.take 0)).1 r.length := by
    apply Array.toList_inj.1
    rw [toList_madeCells_one]
    simp [boolsOf, batDo]
  have hb := ht.lt
  have tA := ht.alloc (.cells (madeCells #[Value.bool false] r.length) 4)
  have hA : (w.alloc (.cells (madeCells #[Value.bool false] r.length) 4)).heap[w.heap.size]? = some (.cells (boolsOf (batDo t (r.take 0)).1 r.length) 4 (0, 0)) := by
    rw [heap_alloc_last, e0]
  clear hmk e0
  go_loopw [13] (fun i wr => ∃ (k : Nat), k ≤ r.length ∧ i = .int .i64 k ∧ wr.heap[w.heap.size]? = some (.cells (boolsOf (batDo t (r.take k)).1 r.length) 4 (0, 0)) ∧
      TabIn wr b T (batDo t (r.take k)).2.h (batDo t (r.take k)).2.v rest ∧ Only b w wr) (fun i _ => r.length - (intOf i).toNat)
  case atStart => exact ⟨0, by omega, rfl, hA, tA, (Only.refl b w).alloc _⟩
  case round =>
    obtain ⟨k, hk, rfl, hB, tw, ow⟩ := hrel
    have hwz := ow.size
    have hBl : w.heap.size < wr.heap.size := by
      have := (Array.getElem?_eq_some_iff.1 hB).1
      exact this
    by_cases hlt : k < r.length
    · have ho : r[k]? = some r[k] := List.getElem?_eq_getElem hlt
      generalize r[k] = l at ho
      have hmem := List.mem_of_getElem? ho
      obtain ⟨ci, oi, pi, q1, q2, q3, q4⟩ := (hr.only ow hc hcl) k l ho
      have hsn := batDo_snoc t r k l ho
      have hsm := batDo_small t hs (r.take k) (fun l hl => hok l (List.mem_of_mem_take hl))
      have hkl : (batDo t (r.take k)).1.length = k := by rw [batDo_length, List.length_take]; omega
      generalize hbk : batDo t (r.take k) = bk at *
      obtain ⟨bs, tk⟩ := bk
      simp only at hB tw hsn hsm hkl
      have hD := hide (doTxn_any b T tk rest wr tw hsm ci oi pi l q2 (hok l hmem) q3 q4 (hlen l hmem))
      have Hsn := hide hsn
      have Hbk := hide hbk
      have Hl := hide hkl
      have hsl := hlen l hmem
      clear hsn hbk hkl ho hr hok hlen hmem q2
      go_wp2_with fail
      refine (unhide hD).mono ?_
      rintro e w' ⟨rfl, t2, o2⟩
      have hB2 : w'.heap[w.heap.size]? = some (.cells (boolsOf bs r.length) 4 (0, 0)) := (o2.block _ hBl (by omega)).trans hB
      have hc2 : w'.cell? ⟨w.heap.size, k, none⟩ = some (.bool false) := by
        rw [cell_of_row _ _ _ _ _ _ hB2, ← unhide Hl]; exact boolsOf_cell _ _ (by rw [unhide Hl]; exact hlt)
      have hf2 : w'.frozen? ⟨w.heap.size, k, none⟩ = false := frozen_of_row _ _ _ _ _ hB2
      have hB3 : (w'.setCell ⟨w.heap.size, k, none⟩ (.bool (txnDo tk l).1)).heap[w.heap.size]? = some (.cells (boolsOf (batDo t (r.take (k + 1))).1 r.length) 4 (0, 0)) := by
        rw [heap_setCell_same _ _ _ _ _ _ hB2, unhide Hsn]
        have := boolsOf_set bs r.length (txnDo tk l).1 (by rw [unhide Hl]; exact hlt)
        rw [unhide Hl] at this
        rw [this]
      have t3 : TabIn (w'.setCell ⟨w.heap.size, k, none⟩ (.bool (txnDo tk l).1)) b T (batDo t (r.take (k + 1))).2.h (batDo t (r.take (k + 1))).2.v rest := by
        rw [unhide Hsn]; exact t2.other (Below.heap_setCell _ _ _ _ (by simp; omega))
      have o3 : Only b w (w'.setCell ⟨w.heap.size, k, none⟩ (.bool (txnDo tk l).1)) := (ow.trans o2).setCell_new (Nat.le_refl _) _ _
      have B2 := hide hB2
      have B3 := hide hB3
      clear hB2 hB3 hB
      go_wp2
      go_roundw
      case rel => exact ⟨k + 1, by omega, by go_num, B3, t3, o3⟩
      case measure => simp [intOf]; omega
    · have e : k = r.length := by omega
      subst e
      rw [List.take_length] at hB tw
      have hfin : boolsOf (batDo t r).1 r.length = ((batDo t r).1.map Value.bool).toArray := by
        unfold boolsOf; rw [batDo_length]; simp
      rw [hfin] at hB
      have B := hide hB
      clear hB hfin
      go_wp2
      go_ret
      exact ⟨rfl, B, tw, ow⟩
end Go.Proofs.YthdffenpkdbejaaGreatDoor

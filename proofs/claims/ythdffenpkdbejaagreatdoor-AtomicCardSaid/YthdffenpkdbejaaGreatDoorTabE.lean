import Derived.Test.YthdffenpkdbejaaGreatDoorTabD
import Derived.Deep.MidRow
namespace Go.Proofs.YthdffenpkdbejaaGreatDoor
open Go.RowKit

theorem TabIn.range {w : World} {b : Nat} {T : TypeId} {h : Nat → Bool} {v : Nat → Int} {rest : List Value} (t : TabIn w b T h v rest) : w.rangeAt b 0 (tabCells h v) := by
  intro j x hx
  rw [cell_of_row w b _ _ T (0, 0) t]
  have hj : j < (tabCells h v).length := (List.getElem?_eq_some_iff.1 hx).1
  simp only [Nat.zero_add, List.getElem?_toArray, List.getElem?_append, hj, if_true]
  exact hx
theorem TabIn.there {w : World} {b : Nat} {T : TypeId} {h : Nat → Bool} {v : Nat → Int} {rest : List Value} (t : TabIn w b T h v rest) : w.there b 0 128 := by
  intro j hj
  refine ⟨?_, t.frozen _⟩
  rw [Nat.zero_add, t.cell j hj]
  rfl


theorem tabInfo (h : Nat → Bool) (v : Nat → Int) : (Tryz.prog.info? 112).map (·.size) = some (tabCells h v).length := by
  rw [tabCells_length]; kernel_rfl
theorem tabZero : (Tryz.prog.info? 112).map (fun i => (i.zero, i.size)) = some (some (.agg (tabCells (fun _ => false) (fun _ => 0)).toArray), 128) := by kernel_rfl


/-- the operations l lie in block c from offset off on -/
def OpsAt (w : World) (c off : Nat) (l : List TOp) : Prop := ∀ i o, l[i]? = some o →
  w.cell? ⟨c, off + i * 4, none⟩ = some (.int .i64 o.kind) ∧ w.cell? ⟨c, off + i * 4 + 1, none⟩ = some (.int .i64 o.k) ∧ w.cell? ⟨c, off + i * 4 + 2, none⟩ = some (.int .i64 o.a) ∧ w.cell? ⟨c, off + i * 4 + 3, none⟩ = some (.int .i64 o.b)

theorem OpsAt.other {w w' : World} {c off : Nat} {l : List TOp} (h : OpsAt w c off l) (e : w'.heap[c]? = w.heap[c]?) : OpsAt w' c off l := by
  intro i o ho
  have q : ∀ j, w'.cell? ⟨c, j, none⟩ = w.cell? ⟨c, j, none⟩ := fun j => World.cell?_of_block (w := w) e
  simp only [q]
  exact h i o ho

/-- the operations of a transaction, one behind the other -/
def txnRun (t : Tab) : List TOp → Bool × Tab
  | [] => (true, t)
  | o :: l => if (opDo t o).1 = true then txnRun (opDo t o).2 l else (false, t)

/-- a transaction -/
def txnDo (t : Tab) (l : List TOp) : Bool × Tab := if (txnRun t l).1 = true then (true, (txnRun t l).2) else (false, t)

theorem txnRun_yes {t : Tab} {l : List TOp} {i : Nat} {o : TOp} (ho : l[i]? = some o) (h : (opDo t o).1 = true) : txnRun t (l.drop i) = txnRun (opDo t o).2 (l.drop (i + 1)) := by
  rw [List.drop_eq_getElem?_toList_append, ho]
  simp [txnRun, h]
theorem txnRun_no {t : Tab} {l : List TOp} {i : Nat} {o : TOp} (ho : l[i]? = some o) (h : (opDo t o).1 = false) : txnRun t (l.drop i) = (false, t) := by
  rw [List.drop_eq_getElem?_toList_append, ho]
  simp [txnRun, h]

theorem heap_setCells_other (b : Nat) : ∀ (vs : List Value) (o : Nat) (w : World) (k : Nat), k ≠ b → (w.setCells b o vs).heap[k]? = w.heap[k]?
  | [], _, _, _, _ => rfl
  | v :: r, o, w, k, h => by
    rw [World.setCells, heap_setCells_other b r (o + 1) _ k h]
    exact Below.heap_setCell _ _ _ _ h
theorem size_setCells (b : Nat) : ∀ (vs : List Value) (o : Nat) (w : World), (w.setCells b o vs).heap.size = w.heap.size
  | [], _, _ => rfl
  | v :: r, o, w => by
    rw [World.setCells, size_setCells b r (o + 1) _]
    simp [World.setCell]
theorem Only.setCells {b : Nat} : ∀ (vs : List Value) (o : Nat) {x w : World}, Only b x w → Only b x (w.setCells b o vs)
  | [], _, _, _, h => h
  | v :: r, o, _, _, h => Only.setCells r (o + 1) (h.setCell o v)
/-- what a row of cells is behind a store of many -/
theorem heap_setCells_row (b : Nat) (T : TypeId) : ∀ (vs : List Value) (pre old post : List Value) (w : World), old.length = vs.length → w.heap[b]? = some (.cells (pre ++ old ++ post).toArray T (0, 0)) →
    (w.setCells b pre.length vs).heap[b]? = some (.cells (pre ++ vs ++ post).toArray T (0, 0))
  | [], pre, old, post, w, hl, h => by
    have : old = [] := List.length_eq_zero_iff.1 hl
    subst this
    exact h
  | v :: r, pre, [], post, w, hl, h => by simp at hl
  | v :: r, pre, x :: old, post, w, hl, h => by
    rw [World.setCells]
    have h1 : (w.setCell ⟨b, pre.length, none⟩ v).heap[b]? = some (.cells ((pre ++ [v]) ++ old ++ post).toArray T (0, 0)) := by
      rw [heap_setCell_same w b _ _ T _ h]
      congr 2
      simp
    have := heap_setCells_row b T r (pre ++ [v]) old post (w.setCell ⟨b, pre.length, none⟩ v) (by simpa using hl) h1
    simpa using this
theorem TabIn.setAll {w : World} {b : Nat} {T : TypeId} {h h' : Nat → Bool} {v v' : Nat → Int} {rest : List Value} (t : TabIn w b T h v rest) : TabIn (w.setCells b 0 (tabCells h' v')) b T h' v' rest := by
  have := heap_setCells_row b T (tabCells h' v') [] (tabCells h v) rest w (by simp [tabCells_length]) (by simpa [TabIn] using t)
  simpa [TabIn] using this
theorem tab_one (h : Nat → Bool) (v : Nat → Int) : (tabCells h v).toArray.all (·.oneCell') = true :=
  all_oneCell_toArray (fun x hx => by simp only [tabCells, List.mem_map] at hx; obtain ⟨j, _, rfl⟩ := hx; unfold cellOf; split <;> rfl)
theorem storeTab {P : Program} {w : World} {b : Nat} {T : TypeId} {h : Nat → Bool} {v : Nat → Int} {rest : List Value} (t : TabIn w b T h v rest) (h' : Nat → Bool) (v' : Nat → Int) :
    (storeCells ⟨b, 0, none⟩ (tabCells h' v') 0).run P w = .ok () (w.setCells b 0 (tabCells h' v')) := by
  have := run_storeCells_cells (P := P) b 0 (tabCells h' v') 0 w (fun j hj => by simpa using (t.there j (by simpa [tabCells_length] using hj)).1) (fun j hj => by simpa using (t.there j (by simpa [tabCells_length] using hj)).2)
    (fun x hx => by simp only [tabCells, List.mem_map] at hx; obtain ⟨j, _, rfl⟩ := hx; unfold cellOf; split <;> rfl)
  simpa using this

set_option maxHeartbeats 1600000 in
theorem doTxn_any (b : Nat) (T : TypeId) (t : Tab) (rest : List Value) (w : World) (ht : TabIn w b T t.h t.v rest) (hs : Small t.v) (c off cap : Nat) (l : List TOp) (hl : OpsAt w c off l) (hok : ∀ o ∈ l, o.Ok) (hc : c ≠ b) (hcl : c < w.heap.size) (hn : l.length ≤ 100) :
    Calls Tryz.prog 114 #[.pointer (some ⟨b, 0, none⟩), .slice (some ⟨c, off, none⟩) l.length cap] w fun e w' =>
      e = .returned (.bool (txnDo t l).1) ∧ TabIn w' b T (txnDo t l).2.h (txnDo t l).2.v rest ∧ Only b w w' := by
  have hz := (zero_of_info tabZero).1
  have hr := hide ht.range
  have h128 := tabCells_length t.h t.v
  have hb := ht.lt
  have hst : (storeCells ⟨w.heap.size, 0, none⟩ (tabCells t.h t.v) 0).run Tryz.prog (w.alloc (.cells (tabCells (fun _ => false) (fun _ => 0)).toArray 112)) = .ok () (w.alloc (.cells (tabCells t.h t.v).toArray 112)) := by
    have := run_storeCells_new (P := Tryz.prog) w 112 (tabCells (fun _ => false) (fun _ => 0)).toArray (tabCells t.h t.v).toArray (by simpa using tabInfo t.h t.v) (by simp [tabCells_length]) (by
      rw [Array.all_eq_true_iff_forall_mem]; intro x hx; simp [tabCells, cellOf] at hx; obtain ⟨j, _, rfl⟩ := hx; split <;> rfl)
    simpa using this
  generalize hw1 : w.alloc (.cells (tabCells t.h t.v).toArray 112) = w1 at hst
  have hsz : w1.heap.size = w.heap.size + 1 := by rw [← hw1]; simp
  go_enter Tryz.func114, Tryz.ntmps114
  go_wp2_with (refine wpList_load_mid rfl 112 _ rfl b 0 rfl (tabCells t.h t.v) _ hr Tryz.underlying112 rfl (tabInfo _ _) ?_)
  have t1 : TabIn w1 b T t.h t.v rest := by rw [← hw1]; exact ht.alloc _
  have a1 : TabIn w1 w.heap.size 112 t.h t.v [] := by
    unfold TabIn; rw [← hw1, List.append_nil]; exact heap_alloc_last w _
  have o1 : Only b w w1 := by rw [← hw1]; exact (Only.refl b w).alloc _
  have l1 : OpsAt w1 c off l := by rw [← hw1]; exact hl.other (Below.heap_alloc _ _ _ hcl)
  clear hw1 hst hz hr ht hl
  go_loopw [13] (fun i wr => ∃ (k : Nat) (tk : Tab), k ≤ l.length ∧ i = .int .i64 k ∧
      Hid (txnRun t l = txnRun tk (l.drop k)) ∧ Small tk.v ∧ TabIn wr b T tk.h tk.v rest ∧ Only b w1 wr) (fun i _ => l.length - (intOf i).toNat)
  case atStart => exact ⟨0, t, by omega, rfl, rfl, hs, t1, Only.refl _ _⟩
  case round =>
    obtain ⟨k, tk, hk, rfl, hrun, hsm, tw, ow⟩ := hrel
    by_cases hlt : k < l.length
    · have ho : l[k]? = some l[k] := List.getElem?_eq_getElem hlt
      generalize l[k] = o at ho
      have hO := hok o (List.mem_of_getElem? ho)
      have lw : OpsAt wr c off l := l1.other (ow.block c (by omega) hc)
      obtain ⟨q0, q1, q2, q3⟩ := lw k o ho
      have hwb := tw.lt
      have hwz := ow.size
      have Ho := hide ho
      clear ho lw
      · have oX : Only b w1 (wr.alloc (.cells #[.int .i64 o.kind, .int .i64 o.k, .int .i64 o.a, .int .i64 o.b] 70)) := ow.alloc _
        have tX := tw.alloc (.cells #[.int .i64 o.kind, .int .i64 o.k, .int .i64 o.a, .int .i64 o.b] 70)
        have hD := doOp_any b T tk rest o _ tX hO hsm
        simp only [TOp.val] at hD
        have hD' := hide hD
        clear hD tX
        go_wp2_with fail
        refine (unhide hD').mono ?_
        rintro e w' ⟨rfl, t2, o2⟩
        have o3 : Only b w1 w' := oX.trans o2
        have a3 : TabIn w' w.heap.size 112 t.h t.v [] := a1.other (o3.block _ (by omega) (by omega))
        cases hres : (opDo tk o).1
        · have hfin : Hid (txnDo t l = (false, t)) := by
            have := txnRun_no (unhide Ho) hres
            unfold txnDo; rw [hrun.out, this]; rfl
          have hr3 := hide a3.range
          have hres' := hide hres
          clear hres
          have hst3 := storeTab (P := Tryz.prog) t2 t.h t.v
          go_wp2_with (refine wpList_load_mid rfl 112 _ rfl w.heap.size 0 rfl (tabCells t.h t.v) _ hr3 Tryz.underlying112 rfl (tabInfo _ _) ?_)
          go_ret
          rw [hfin.out]
          exact ⟨rfl, t2.setAll, Only.setCells _ _ (o1.trans o3)⟩
        · have hrun' : Hid (txnRun t l = txnRun (opDo tk o).2 (l.drop (k + 1))) := hrun.out.trans (txnRun_yes (unhide Ho) hres)
          have hsm' := opDo_small tk o hO hsm
          have hres' := hide hres
          clear hres
          go_wp2
          go_roundw
          case rel => exact ⟨k + 1, _, by omega, by go_num, hrun', hsm', t2, o3⟩
          case measure => simp [intOf]; omega
    · have e : l.drop k = [] := List.drop_eq_nil_of_le (by omega)
      have hfin : Hid (txnDo t l = (true, tk)) := by
        have := hrun.out
        rw [e] at this
        unfold txnDo; rw [this]; rfl
      clear e
      go_wp2
      go_ret
      rw [hfin.out]
      exact ⟨rfl, tw, o1.trans ow⟩
end Go.Proofs.YthdffenpkdbejaaGreatDoor

import Derived.Test.YthdffenpkdbejaaGreatDoorOpenC
import Derived.Test.YthdffenpkdbejaaGreatDoorKeepI
namespace Go.Proofs.YthdffenpkdbejaaGreatDoor
open Go.RowKit

set_option maxRecDepth 100000 in
set_option maxHeartbeats 800000 in
/-- find, of a list of one name: it is that one -/
theorem find_one (w : World) (b p : Nat) (n : ByteArray) (at' : Int) (h0 : w.cell? ⟨b, 0, none⟩ = some (.string n)) (h1 : w.cell? ⟨b, 1, none⟩ = some (.int .i64 at')) :
    Calls Tryz.prog 61 #[.slice (some ⟨b, 0, none⟩) 1 p, .string n] w fun e w' => e = .returned (.int .i64 at') ∧ w = w' := by
  go_enter Tryz.func61, Tryz.ntmps61
  go_wp2
  go_loop [5] (fun i => i = .int .i64 0) (fun _ => 0)
  case atStart => exact rfl
  case round =>
    subst hrel
    go_wp2
    go_ret
    exact ⟨rfl, rfl⟩

set_option maxRecDepth 100000 in
set_option maxHeartbeats 800000 in
theorem without_nil (w : World) (n : ByteArray) :
    Calls Tryz.prog 82 #[.slice none 0 0, .string n] w fun e w' => e = .returned (.slice none 0 0) ∧ w = w' := by
  go_enter Tryz.func82, Tryz.ntmps82
  go_wp2
  go_loop [5, 6] (fun o i => o = .slice none 0 0 ∧ i = .int .i64 0) (fun _ _ => 0)
  case atStart => exact ⟨rfl, rfl⟩
  case round =>
    obtain ⟨rfl, rfl⟩ := hrel
    go_wp2
    go_ret
    exact ⟨rfl, rfl⟩

theorem nameZero : (Tryz.prog.info? 107).map (fun i => (i.zero, i.size, i.bytes)) = some (some (.agg #[.string .empty, .int .i64 0]), 2, 24) := by kernel_rfl
theorem contentZero : (Tryz.prog.info? 105).map (fun i => (i.zero, i.size, i.bytes)) = some (some (.agg #[.string .empty, .int .i64 0]), 2, 24) := by kernel_rfl
theorem changeZero : (Tryz.prog.info? 102).map (fun i => (i.zero, i.size, i.bytes)) = some (some (.agg #[.int .i64 0, .string .empty, .string .empty, .int .i64 0]), 4, 48) := by kernel_rfl

/-- a row that begins with two cells -/
def Two (w : World) (b : Nat) (T : TypeId) (x y : Value) : Prop := ∃ post : List Value, w.heap[b]? = some (.cells (x :: y :: post).toArray T (0, 0))
theorem Two.lt {w : World} {b : Nat} {T : TypeId} {x y : Value} (h : Two w b T x y) : b < w.heap.size := by obtain ⟨_, h⟩ := h; exact (Array.getElem?_eq_some_iff.1 h).1
theorem Two.other {w w' : World} {b : Nat} {T : TypeId} {x y : Value} (h : Two w b T x y) (e : w'.heap[b]? = w.heap[b]?) : Two w' b T x y := by obtain ⟨p, h⟩ := h; exact ⟨p, e.trans h⟩
theorem Two.c0 {w : World} {b : Nat} {T : TypeId} {x y : Value} (h : Two w b T x y) : w.cell? ⟨b, 0, none⟩ = some x := by obtain ⟨p, h⟩ := h; rw [cell_of_row _ _ _ _ _ _ h]; rfl
theorem Two.c1 {w : World} {b : Nat} {T : TypeId} {x y : Value} (h : Two w b T x y) : w.cell? ⟨b, 1, none⟩ = some y := by obtain ⟨p, h⟩ := h; rw [cell_of_row _ _ _ _ _ _ h]; rfl
theorem Two.fz {w : World} {b : Nat} {T : TypeId} {x y : Value} (h : Two w b T x y) (j : Nat) : w.frozen? ⟨b, j, none⟩ = false := by obtain ⟨p, h⟩ := h; exact frozen_of_row w b j _ T h
theorem Two.set0 {w : World} {b : Nat} {T : TypeId} {x y : Value} (h : Two w b T x y) (u : Value) : Two (w.setCell ⟨b, 0, none⟩ u) b T u y := by
  obtain ⟨p, h⟩ := h; exact ⟨p, by rw [heap_setCell_same w b _ _ T _ h]; simp⟩
theorem Two.set1 {w : World} {b : Nat} {T : TypeId} {x y : Value} (h : Two w b T x y) (u : Value) : Two (w.setCell ⟨b, 1, none⟩ u) b T x u := by
  obtain ⟨p, h⟩ := h; exact ⟨p, by rw [heap_setCell_same w b _ _ T _ h]; simp⟩

theorem Two.last (w : World) (b : Nat) (T : TypeId) (x y : Value) (post : Array Value) (hb : b = w.heap.size) : Two (w.alloc (.cells (#[x, y] ++ post) T)) b T x y := by
  subst hb
  refine ⟨post.toList, ?_⟩
  rw [heap_alloc_last]
  congr 2
  apply Array.toList_inj.1
  simp
theorem Two.drew {w : World} {b : Nat} {T : TypeId} {x y : Value} (h : Two w b T x y) : Two w.drew b T x y := h

set_option maxRecDepth 100000 in
set_option maxHeartbeats 800000 in
/-- changed: a Create where no name is -/
theorem changed_create (w : World) (n to : ByteArray) (at' : Int) :
    Calls Tryz.prog 41 #[.slice none 0 0, .agg #[.int .i64 1, .string n, .string to, .int .i64 at']] w fun e w' =>
      ∃ b p, e = .returned (.slice (some ⟨b, 0, none⟩) 1 p) ∧ w.heap.size ≤ b ∧ Two w' b 107 (.string n) (.int .i64 at') ∧ Below w.heap.size w w' := by
  go_enter Tryz.func41, Tryz.ntmps41
  go_wp2_with fail
  refine (without_nil _ _).mono ?_
  rintro e w1 ⟨rfl, rfl⟩
  go_wp2_with fail
  go_ret
  refine ⟨_, _, rfl, ?_, ?_, ?_⟩
  · omega
  · exact (Two.last _ _ _ _ _ _ (by simp)).drew
  · exact ((((Below.refl w.heap.size w).alloc (Nat.le_refl _) _).alloc (by simp) _).alloc (by simp; omega) _).drew

/-- behind the first half of Do -/
theorem disk_wp {P : Program} {C : Code} {Q : Exit → Act → World → Prop} {a : Act} (w : World) (d : Nat) (va vn vs vc : Value) (TD : TypeId) (hd : w.heap[d]? = some (.cells #[va, vn, vs, vc] TD (0, 0))) (o1 o2 o3 : Obj) (x y : Value) (post : Array Value) (T : TypeId) (u : Value)
    (h : ∀ W : World, W.heap[d]? = some (.cells #[u, vn, vs, vc] TD (0, 0)) → W.heap[w.heap.size + 1]? = some o2 → Two W (w.heap.size + 1 + 1 + 1) T x y → Only d w W → W.heap.size = w.heap.size + 4 → C.wp P Q a W) :
    C.wp P Q a ((((((w.alloc o1).alloc o2).alloc o3).alloc (.cells (#[x, y] ++ post) T)).setCell ⟨d, 0, none⟩ u).drew) := by
  have hdl : d < w.heap.size := (Array.getElem?_eq_some_iff.1 hd).1
  have e4 : ((((w.alloc o1).alloc o2).alloc o3).alloc (.cells (#[x, y] ++ post) T)).heap[d]? = some (.cells #[va, vn, vs, vc] TD (0, 0)) := by
    rw [Below.heap_alloc _ _ _ (by simp; omega), Below.heap_alloc _ _ _ (by simp; omega), Below.heap_alloc _ _ _ (by simp; omega), Below.heap_alloc _ _ _ (by omega)]; exact hd
  refine h _ ?_ ?_ ?_ ?_ ?_
  · exact (heap_setCell_same _ d _ _ TD _ e4).trans (by simp)
  · refine (Below.heap_setCell _ _ _ _ (by show w.heap.size + 1 ≠ d; omega)).trans ?_
    rw [Below.heap_alloc _ _ _ (by simp), Below.heap_alloc _ _ _ (by simp)]
    have := heap_alloc_last (w.alloc o1) o2
    simpa using this
  · exact (Two.last _ _ _ _ _ _ (by simp)).other (Below.heap_setCell _ _ _ _ (by show w.heap.size + 1 + 1 + 1 ≠ d; omega))
  · exact (((((((Only.refl d w).alloc _).alloc _).alloc _).alloc _).setCell _ _)).drew
  · simp [World.setCell]

/-- a disk of one file -/
def One (base : Nat) (w' : World) (d : Nat) (n data : ByteArray) (safe : Int) : Prop :=
  ∃ ba pa bn pn vs vc, base ≤ ba ∧ base ≤ bn ∧ ba ≠ bn ∧ d < base ∧ Two w' ba 105 (.string data) (.int .i64 safe) ∧ Two w' bn 107 (.string n) (.int .i64 0) ∧
        w'.heap[d]? = some (.cells #[.slice (some ⟨ba, 0, none⟩) 1 pa, .slice (some ⟨bn, 0, none⟩) 1 pn, vs, vc] 96 (0, 0))
def CreatePost (w : World) (d : Nat) (n : ByteArray) (e : Ending) (w' : World) : Prop := e = .returned (.tuple #[]) ∧ One w.heap.size w' d n .empty 0 ∧ Only d w w'
set_option maxRecDepth 100000 in
set_option maxHeartbeats 1600000 in
/-- Do: a Create on an empty disk -/
theorem do_create (w : World) (d : Nat) (n data to : ByteArray) (hd : w.heap[d]? = some (.cells #[.slice none 0 0, .slice none 0 0, .slice none 0 0, .slice none 0 0] 96 (0, 0))) :
    Calls Tryz.prog 30 #[.pointer (some ⟨d, 0, none⟩), .agg #[.int .i64 1, .string n, .string data, .string to]] w (CreatePost w d n) := by
  have hdl : d < w.heap.size := (Array.getElem?_eq_some_iff.1 hd).1
  have d0 : ∀ j, w.cell? ⟨d, j, none⟩ = #[Value.slice none 0 0, .slice none 0 0, .slice none 0 0, .slice none 0 0][j]? := fun j => cell_of_row w d j _ _ _ hd
  have f0 : ∀ j, w.frozen? ⟨d, j, none⟩ = false := fun j => frozen_of_row w d j _ _ hd
  have c0 := d0 0
  have c1 := d0 1
  have c3 := d0 3
  simp at c0 c1 c3
  have f00 := f0 0
  have f01 := f0 1
  have f03 := f0 3
  have ca : ∀ (o1 o2 o3 o4 : Obj) (j : Nat), ((((w.alloc o1).alloc o2).alloc o3).alloc o4).cell? ⟨d, j, none⟩ = w.cell? ⟨d, j, none⟩ := fun o1 o2 o3 o4 j => by
    rw [World.cell?_alloc_past _ _ _ (by simp; omega), World.cell?_alloc_past _ _ _ (by simp; omega), World.cell?_alloc_past _ _ _ (by simp; omega), World.cell?_alloc_past _ _ _ (by omega)]
  have fa : ∀ (o1 o2 o3 o4 : Obj) (j : Nat), ((((w.alloc o1).alloc o2).alloc o3).alloc o4).frozen? ⟨d, j, none⟩ = false := fun o1 o2 o3 o4 j => by
    have hh : ((((w.alloc o1).alloc o2).alloc o3).alloc o4).heap[d]? = w.heap[d]? := by
      rw [Below.heap_alloc _ _ _ (by simp; omega), Below.heap_alloc _ _ _ (by simp; omega), Below.heap_alloc _ _ _ (by simp; omega), Below.heap_alloc _ _ _ (by omega)]
    exact frozen_of_row _ d j _ _ (hh.trans hd)
  clear d0 f0
  go_enter Tryz.func30, Tryz.ntmps30
  go_wp2_with fail
  refine disk_wp w d _ _ _ _ _ hd _ _ _ _ _ _ _ _ ?_
  intro W hWd hWc tA oW zW
  generalize hcap : (Question.appendCap 1 0 105).cut (w.tape w.drawn (Question.appendCap 1 0 105)) = cap at *
  clear ca fa
  refine wp_region_held_drew (S := fun w' => w'.cell? ⟨w.heap.size + 1, 0, none⟩ = some (.int .i64 1) ∧ w'.cell? ⟨w.heap.size + 1, 1, none⟩ = some (.string n) ∧ w'.cell? ⟨w.heap.size + 1, 2, none⟩ = some (.string to) ∧ w'.cell? ⟨w.heap.size + 1, 3, none⟩ = some (.int .i64 0)) (by kernel_rfl) ?_ (fun hHeld => ?_)
  · refine ⟨?_, ?_, ?_, ?_⟩
    · rw [World.cell?_drew, cell_of_row _ _ _ _ _ _ hWc]; rfl
    · rw [World.cell?_drew, cell_of_row _ _ _ _ _ _ hWc]; rfl
    · rw [World.cell?_drew, cell_of_row _ _ _ _ _ _ hWc]; rfl
    · rw [World.cell?_drew, cell_of_row _ _ _ _ _ _ hWc]; rfl
  refine wpAnyH_take (i := 0) (oi := ⟨some 39, _, _, _, _, _⟩) (v := .pointer (some ⟨d, 0, none⟩)) rfl (by kernel_rfl) (by kernel_rfl) (by kernel_rfl) (fun _ _ _ h => h) (Or.inl ⟨by rfl, fun w hSw => by (try dsimp only at hSw); go_simp⟩) hHeld ?_
  simp only [Act.put, List.setIfInBounds_toArray, List.set_cons_zero, List.set_cons_succ]
  refine wpAnyH_take (i := 1) (oi := ⟨some 40, _, _, _, _, _⟩) (v := .pointer (some ⟨d, 0, none⟩)) rfl (by kernel_rfl) (by kernel_rfl) (by kernel_rfl) (fun _ _ _ h => h) (Or.inl ⟨by rfl, fun w hSw => by (try dsimp only at hSw); go_simp⟩) hHeld ?_
  simp only [Act.put, List.setIfInBounds_toArray, List.set_cons_zero, List.set_cons_succ]
  refine wpAnyH_take (i := 2) (oi := ⟨some 41, _, _, _, _, _⟩) (v := .pointer (some ⟨d, 0, none⟩)) rfl (by kernel_rfl) (by kernel_rfl) (by kernel_rfl) (fun _ _ _ h => h) (Or.inl ⟨by rfl, fun w hSw => by (try dsimp only at hSw); go_simp⟩) hHeld ?_
  simp only [Act.put, List.setIfInBounds_toArray, List.set_cons_zero, List.set_cons_succ]
  refine wpAnyH_take (i := 3) (oi := ⟨some 42, _, _, _, _, _⟩) (v := .pointer (some ⟨d, 1, none⟩)) rfl (by kernel_rfl) (by kernel_rfl) (by kernel_rfl) (fun _ _ _ h => h) (Or.inl ⟨by rfl, fun w hSw => by (try dsimp only at hSw); go_simp⟩) hHeld ?_
  simp only [Act.put, List.setIfInBounds_toArray, List.set_cons_zero, List.set_cons_succ]
  refine wpAnyH_take (i := 5) (oi := ⟨some 44, _, _, _, _, _⟩) (v := .agg #[.int .i64 1, .string n, .string to, .int .i64 0]) rfl (by kernel_rfl) (by kernel_rfl) (by kernel_rfl) (fun _ _ _ h => h) (Or.inl ⟨by rfl, fun w hSw => by (try dsimp only at hSw); go_simp⟩) hHeld ?_
  simp only [Act.put, List.setIfInBounds_toArray, List.set_cons_zero, List.set_cons_succ]
  have q0 : W.drew.cell? ⟨d, 1, none⟩ = some (.slice none 0 0) := by rw [World.cell?_drew, cell_of_row _ _ _ _ _ _ hWd]; rfl
  refine wpAnyH_all (rs := [4]) (by kernel_rfl) (by simp) (AllReadyH.cons (o := ⟨some 43, _, _, _, _, _⟩) rfl (fun K hK => ?_) AllReadyH.nil)
  rw [if_pos (by rfl)]
  rw [World.cell?_drew] at q0
  go_simp
  refine hK.out _ _ hHeld (fun hHeld1 => ?_)
  clear hK K q0
  refine wpAnyH_all (rs := [6]) (by kernel_rfl) (by simp) (AllReadyH.cons (o := ⟨some 45, _, _, _, _, _⟩) rfl (fun K hK => ?_) AllReadyH.nil)
  rw [if_pos (by rfl)]
  go_simp
  refine (changed_create _ _ _ _).mono ?_
  rintro e W2 ⟨bn, pn, rfl, hbn, tN, b2⟩
  have b2W : Below W.heap.size W W2 := (Below.refl _ W).drew.trans (show Below W.heap.size W.drew W2 from b2)
  have hbn' : W.heap.size ≤ bn := hbn
  have hWd2 := (b2W.block d (by omega)).trans hWd
  have hWc2 := (b2W.block (w.heap.size + 1) (by omega)).trans hWc
  have tA2 := tA.other (b2W.block _ (by omega))
  have o2W : Only d w W2 := oW.trans (Only.below b2W (Nat.le_refl _))
  have z2 := b2W.size
  clear b2 hbn hWd hWc tA oW c0 c1 c3 f00 f01 f03 hHeld hHeld1
  have q1 : W2.cell? ⟨d, 1, none⟩ = some (.slice none 0 0) := by rw [cell_of_row _ _ _ _ _ _ hWd2]; rfl
  have q2 : W2.frozen? ⟨d, 1, none⟩ = false := frozen_of_row _ d 1 _ _ hWd2
  refine hK.out _ _ ⟨?_, ?_, ?_, ?_⟩ (fun hHeld2 => ?_)
  · rw [cell_of_row _ _ _ _ _ _ hWc2]; rfl
  · rw [cell_of_row _ _ _ _ _ _ hWc2]; rfl
  · rw [cell_of_row _ _ _ _ _ _ hWc2]; rfl
  · rw [cell_of_row _ _ _ _ _ _ hWc2]; rfl
  clear hK K
  refine wpAnyH_take (i := 7) (oi := ⟨some 46, _, _, _, _, _⟩) (v := .pointer (some ⟨d, 0, none⟩)) rfl (by kernel_rfl) (by kernel_rfl) (by kernel_rfl) (fun _ _ _ h => h) (Or.inl ⟨by rfl, fun w hSw => by (try dsimp only at hSw); go_simp⟩) hHeld2 ?_
  simp only [Act.put, List.setIfInBounds_toArray, List.set_cons_zero, List.set_cons_succ]
  refine wpAnyH_take (i := 8) (oi := ⟨some 47, _, _, _, _, _⟩) (v := .pointer (some ⟨d, 1, none⟩)) rfl (by kernel_rfl) (by kernel_rfl) (by kernel_rfl) (fun _ _ _ h => h) (Or.inl ⟨by rfl, fun w hSw => by (try dsimp only at hSw); go_simp⟩) hHeld2 ?_
  simp only [Act.put, List.setIfInBounds_toArray, List.set_cons_zero, List.set_cons_succ]
  have hWd3 : (W2.setCell ⟨d, 1, none⟩ (.slice (some ⟨bn, 0, none⟩) 1 pn)).heap[d]? = some (.cells #[.slice (some ⟨w.heap.size + 1 + 1 + 1, 0, none⟩) 1 cap, .slice (some ⟨bn, 0, none⟩) 1 pn, .slice none 0 0, .slice none 0 0] 96 (0, 0)) := (heap_setCell_same _ d _ _ _ _ hWd2).trans (by simp)
  have hWc3 : (W2.setCell ⟨d, 1, none⟩ (.slice (some ⟨bn, 0, none⟩) 1 pn)).heap[w.heap.size + 1]? = _ := (Below.heap_setCell _ _ _ _ (by show w.heap.size + 1 ≠ d; omega)).trans hWc2
  have tA3 := tA2.other (Below.heap_setCell W2 ⟨d, 1, none⟩ (.slice (some ⟨bn, 0, none⟩) 1 pn) _ (by show w.heap.size + 1 + 1 + 1 ≠ d; omega))
  have tN3 := tN.other (Below.heap_setCell W2 ⟨d, 1, none⟩ (.slice (some ⟨bn, 0, none⟩) 1 pn) _ (by show bn ≠ d; omega))
  have o3W : Only d w (W2.setCell ⟨d, 1, none⟩ (.slice (some ⟨bn, 0, none⟩) 1 pn)) := o2W.setCell _ _
  have z3 : (W2.setCell ⟨d, 1, none⟩ (.slice (some ⟨bn, 0, none⟩) 1 pn)).heap.size = W2.heap.size := by simp [World.setCell]
  have tl := tN.lt
  have z3a : bn < (W2.setCell ⟨d, 1, none⟩ (.slice (some ⟨bn, 0, none⟩) 1 pn)).heap.size := by omega
  have z3b : w.heap.size + 4 ≤ (W2.setCell ⟨d, 1, none⟩ (.slice (some ⟨bn, 0, none⟩) 1 pn)).heap.size := by omega
  clear z3
  refine wpAnyH_all (rs := [9]) (by kernel_rfl) (by simp) (AllReadyH.cons (o := ⟨none, _, _, _, _, _⟩) rfl (fun K hK => ?_) AllReadyH.nil)
  rw [if_pos (by rfl)]
  go_simp
  generalize W2.setCell ⟨d, 1, none⟩ (.slice (some ⟨bn, 0, none⟩) 1 pn) = W3 at *
  refine hK.out _ _ ⟨?_, ?_, ?_, ?_⟩ (fun hHeld3 => ?_)
  · rw [cell_of_row _ _ _ _ _ _ hWc3]; rfl
  · rw [cell_of_row _ _ _ _ _ _ hWc3]; rfl
  · rw [cell_of_row _ _ _ _ _ _ hWc3]; rfl
  · rw [cell_of_row _ _ _ _ _ _ hWc3]; rfl
  clear hK K hHeld2 hHeld3
  refine wpAnyH_done (by kernel_rfl) ?_ _
  have g1 : W3.cell? ⟨d, 3, none⟩ = some (.slice none 0 0) := by rw [cell_of_row _ _ _ _ _ _ hWd3]; rfl
  have g2 : W3.frozen? ⟨d, 3, none⟩ = false := frozen_of_row _ d 3 _ _ hWd3
  have k0 : W3.cell? ⟨w.heap.size + 1, 0, none⟩ = some (.int .i64 1) := by rw [cell_of_row _ _ _ _ _ _ hWc3]; rfl
  have k1 : W3.cell? ⟨w.heap.size + 1, 1, none⟩ = some (.string n) := by rw [cell_of_row _ _ _ _ _ _ hWc3]; rfl
  have k2 : W3.cell? ⟨w.heap.size + 1, 2, none⟩ = some (.string to) := by rw [cell_of_row _ _ _ _ _ _ hWc3]; rfl
  have k3 : W3.cell? ⟨w.heap.size + 1, 3, none⟩ = some (.int .i64 0) := by rw [cell_of_row _ _ _ _ _ _ hWc3]; rfl
  have ca : ∀ (o1 o2 : Obj), ((W3.alloc o1).alloc o2).cell? ⟨d, 3, none⟩ = some (.slice none 0 0) := fun o1 o2 => by
    rw [World.cell?_alloc_past _ _ _ (by simp; omega), World.cell?_alloc_past _ _ _ (by omega)]; exact g1
  have fa : ∀ (o1 o2 : Obj), ((W3.alloc o1).alloc o2).frozen? ⟨d, 3, none⟩ = false := fun o1 o2 => by
    have hh : ((W3.alloc o1).alloc o2).heap[d]? = W3.heap[d]? := by
      rw [Below.heap_alloc _ _ _ (by simp; omega), Below.heap_alloc _ _ _ (by omega)]
    exact frozen_of_row _ d 3 _ _ (hh.trans hWd3)
  go_wp2_with fail
  refine wp_region_held_drew (S := fun w' => (w'.cell? ⟨w.heap.size + 1, 0, none⟩ = some (.int .i64 1) ∧ w'.cell? ⟨w.heap.size + 1, 1, none⟩ = some (.string n) ∧ w'.cell? ⟨w.heap.size + 1, 2, none⟩ = some (.string to) ∧ w'.cell? ⟨w.heap.size + 1, 3, none⟩ = some (.int .i64 0))) (by kernel_rfl) ?_ (fun hHeld => ?_)
  · exact ⟨k0, k1, k2, k3⟩
  refine wpAnyH_take (i := 0) (oi := ⟨some 48, _, _, _, _, _⟩) (v := .pointer (some ⟨d, 0, none⟩)) rfl (by kernel_rfl) (by kernel_rfl) (by kernel_rfl) (fun _ _ _ h => h) (Or.inl ⟨by rfl, fun w hSw => by (try dsimp only at hSw); go_simp⟩) hHeld ?_
  simp only [Act.put, List.setIfInBounds_toArray, List.set_cons_zero, List.set_cons_succ]
  refine wpAnyH_take (i := 1) (oi := ⟨some 49, _, _, _, _, _⟩) (v := .pointer (some ⟨d, 0, none⟩)) rfl (by kernel_rfl) (by kernel_rfl) (by kernel_rfl) (fun _ _ _ h => h) (Or.inl ⟨by rfl, fun w hSw => by (try dsimp only at hSw); go_simp⟩) hHeld ?_
  simp only [Act.put, List.setIfInBounds_toArray, List.set_cons_zero, List.set_cons_succ]
  refine wpAnyH_take (i := 2) (oi := ⟨some 50, _, _, _, _, _⟩) (v := .pointer (some ⟨d, 0, none⟩)) rfl (by kernel_rfl) (by kernel_rfl) (by kernel_rfl) (fun _ _ _ h => h) (Or.inl ⟨by rfl, fun w hSw => by (try dsimp only at hSw); go_simp⟩) hHeld ?_
  simp only [Act.put, List.setIfInBounds_toArray, List.set_cons_zero, List.set_cons_succ]
  refine wpAnyH_take (i := 3) (oi := ⟨some 51, _, _, _, _, _⟩) (v := .pointer (some ⟨d, 3, none⟩)) rfl (by kernel_rfl) (by kernel_rfl) (by kernel_rfl) (fun _ _ _ h => h) (Or.inl ⟨by rfl, fun w hSw => by (try dsimp only at hSw); go_simp⟩) hHeld ?_
  simp only [Act.put, List.setIfInBounds_toArray, List.set_cons_zero, List.set_cons_succ]
  refine wpAnyH_take (i := 5) (oi := ⟨some 53, _, _, _, _, _⟩) (v := .agg #[.int .i64 1, .string n, .string to, .int .i64 0]) rfl (by kernel_rfl) (by kernel_rfl) (by kernel_rfl) (fun _ _ _ h => h) (Or.inl ⟨by rfl, fun w hSw => by (try dsimp only at hSw); go_simp⟩) hHeld ?_
  simp only [Act.put, List.setIfInBounds_toArray, List.set_cons_zero, List.set_cons_succ]
  obtain ⟨ic, hic, hic'⟩ := Option.map_eq_some_iff.1 changeZero
  simp only [Prod.mk.injEq] at hic'
  obtain ⟨hic0, hic1, hic2⟩ := hic'
  have cb : ∀ (o1 : Obj), (W3.alloc o1).cell? ⟨d, 3, none⟩ = some (.slice none 0 0) := fun o1 => by
    rw [World.cell?_alloc_past _ _ _ (by omega)]; exact g1
  refine wpAnyH_all (rs := [4, 6]) (by kernel_rfl) (by simp) (AllReadyH.cons (o := ⟨some 52, _, _, _, _, _⟩) rfl (fun K hK => ?_) (AllReadyH.cons (o := ⟨some 54, _, _, _, _, _⟩) rfl (fun K hK => ?_) AllReadyH.nil))
  · rw [if_pos (by rfl)]
    go_simp
    refine hK.out _ _ hHeld (fun hHeld1 => ?_)
    clear hK K
    refine wpAnyH_all (rs := [6]) (by kernel_rfl) (by simp) (AllReadyH.cons (o := ⟨some 54, _, _, _, _, _⟩) rfl (fun K hK => ?_) AllReadyH.nil)
    rw [if_pos (by rfl)]
    go_simp
    refine hK.out _ _ ⟨by rw [World.cell?_drew, World.cell?_alloc_past _ _ _ (by omega)]; exact k0, by rw [World.cell?_drew, World.cell?_alloc_past _ _ _ (by omega)]; exact k1, by rw [World.cell?_drew, World.cell?_alloc_past _ _ _ (by omega)]; exact k2, by rw [World.cell?_drew, World.cell?_alloc_past _ _ _ (by omega)]; exact k3⟩ (fun hHeld2 => ?_)
    clear hK K
    refine wpAnyH_all (rs := [7]) (by kernel_rfl) (by simp) (AllReadyH.cons (o := ⟨some 55, _, _, _, _, _⟩) rfl (fun K hK => ?_) AllReadyH.nil)
    rw [if_pos (by rfl)]
    refine wp_append_own _ (.tmp 52) (.tmp 54) 94 rfl W3.heap.size 102 ic _ 4 48 Tryz.underlying94 hic hic0 hic1 hic2 rfl (by decide) (.slice none 0 0) 0 [] rfl (World.ownsRow_nil _ _ _ _) ⟨W3.heap.size, 0, none⟩ 1 1 [.int .i64 1, .string n, .string to, .int .i64 0] rfl rfl ?_ ?_ (by unfold maxLen; omega) (by omega) (by simp) ?_
    · intro j u hj
      show (W3.alloc (.cells #[.int .i64 1, .string n, .string to, .int .i64 0] 102)).cell? _ = some u
      rw [Addr.add_mid, Nat.zero_add, World.cell?_alloc_at _ _ _ _ rfl]
      simpa using hj
    · intro u hu
      simp only [List.mem_cons, List.not_mem_nil, or_false] at hu
      rcases hu with rfl | rfl | rfl | rfl <;> rfl
    intro v' w7 own7 gr7 _
    have hal7 : ∀ j, j < W3.heap.size → w7.heap[j]? = W3.heap[j]? := fun j hj => (gr7.block j (by simp; omega) (by simp [Value.ownBlock])).trans (Below.heap_alloc _ _ _ hj)
    have hz7 : W3.heap.size ≤ w7.heap.size := by have := gr7.size; simp at this; omega
    have hd7 := (hal7 d (by omega)).trans hWd3
    have hc7 := (hal7 (w.heap.size + 1) (by omega)).trans hWc3
    have tA7 := tA3.other (hal7 _ (by omega))
    have tN7 := tN3.other (hal7 _ (by omega))
    have b7 : Below W3.heap.size W3 w7 := ⟨gr7.os, gr7.tape, gr7.output, hz7, hal7⟩
    have o7 := o3W.trans (Only.below b7 (Nat.le_refl _))
    have f7 : w7.frozen? ⟨d, 3, none⟩ = false := frozen_of_row _ d 3 _ _ hd7
    have g7 : w7.cell? ⟨d, 3, none⟩ = some (.slice none 0 0) := by rw [cell_of_row _ _ _ _ _ _ hd7]; rfl
    have m0 : w7.cell? ⟨w.heap.size + 1, 0, none⟩ = some (.int .i64 1) := by rw [cell_of_row _ _ _ _ _ _ hc7]; rfl
    have m1 : w7.cell? ⟨w.heap.size + 1, 1, none⟩ = some (.string n) := by rw [cell_of_row _ _ _ _ _ _ hc7]; rfl
    have m2 : w7.cell? ⟨w.heap.size + 1, 2, none⟩ = some (.string to) := by rw [cell_of_row _ _ _ _ _ _ hc7]; rfl
    have m3 : w7.cell? ⟨w.heap.size + 1, 3, none⟩ = some (.int .i64 0) := by rw [cell_of_row _ _ _ _ _ _ hc7]; rfl
    obtain ⟨gv, pv, rfl⟩ := own_form own7 (by omega)
    refine hK.out _ _ ⟨m0, m1, m2, m3⟩ (fun hHeld3 => ?_)
    clear hK K
    simp only [Act.put, List.setIfInBounds_toArray, List.set_cons_zero, List.set_cons_succ]
    refine wpAnyH_take (i := 8) (oi := ⟨some 56, _, _, _, _, _⟩) (v := .pointer (some ⟨d, 0, none⟩)) rfl (by kernel_rfl) (by kernel_rfl) (by kernel_rfl) (fun _ _ _ h => h) (Or.inl ⟨by rfl, fun w hSw => by (try dsimp only at hSw); go_simp⟩) hHeld3 ?_
    simp only [Act.put, List.setIfInBounds_toArray, List.set_cons_zero, List.set_cons_succ]
    refine wpAnyH_take (i := 9) (oi := ⟨some 57, _, _, _, _, _⟩) (v := .pointer (some ⟨d, 3, none⟩)) rfl (by kernel_rfl) (by kernel_rfl) (by kernel_rfl) (fun _ _ _ h => h) (Or.inl ⟨by rfl, fun w hSw => by (try dsimp only at hSw); go_simp⟩) hHeld3 ?_
    simp only [Act.put, List.setIfInBounds_toArray, List.set_cons_zero, List.set_cons_succ]
    refine wpAnyH_all (rs := [10]) (by kernel_rfl) (by simp) (AllReadyH.cons (o := ⟨none, _, _, _, _, _⟩) rfl (fun K hK => ?_) AllReadyH.nil)
    rw [if_pos (by rfl)]
    go_simp
    have ne1 : w.heap.size + 1 ≠ d := by omega
    refine hK.out _ _ ⟨?_, ?_, ?_, ?_⟩ (fun hHeld4 => ?_)
    · rw [World.cell?_of_block (w := w7) (a := ⟨w.heap.size + 1, 0, none⟩) (Below.heap_setCell _ _ _ _ ne1)]; exact m0
    · rw [World.cell?_of_block (w := w7) (a := ⟨w.heap.size + 1, 1, none⟩) (Below.heap_setCell _ _ _ _ ne1)]; exact m1
    · rw [World.cell?_of_block (w := w7) (a := ⟨w.heap.size + 1, 2, none⟩) (Below.heap_setCell _ _ _ _ ne1)]; exact m2
    · rw [World.cell?_of_block (w := w7) (a := ⟨w.heap.size + 1, 3, none⟩) (Below.heap_setCell _ _ _ _ ne1)]; exact m3
    clear hK K
    refine wpAnyH_done (by kernel_rfl) ?_ _
    go_wp2
    go_end0
    refine ⟨rfl, ⟨w.heap.size + 1 + 1 + 1, cap, bn, pn, .slice none 0 0, .slice (some ⟨gv, 0, none⟩) 1 pv, ?_, ?_, ?_, hdl, tA7.other (Below.heap_setCell w7 ⟨d, 3, none⟩ (.slice (some ⟨gv, 0, none⟩) (0 + 1) pv) _ (by show w.heap.size + 1 + 1 + 1 ≠ d; omega)), tN7.other (Below.heap_setCell w7 ⟨d, 3, none⟩ (.slice (some ⟨gv, 0, none⟩) (0 + 1) pv) _ (by show bn ≠ d; omega)), (heap_setCell_same _ d _ _ _ _ hd7).trans (by simp)⟩, o7.setCell _ _⟩ <;> omega
  · rw [if_pos (by rfl)]
    go_simp
    refine hK.out _ _ ⟨by rw [World.cell?_drew, World.cell?_alloc_past _ _ _ (by omega)]; exact k0, by rw [World.cell?_drew, World.cell?_alloc_past _ _ _ (by omega)]; exact k1, by rw [World.cell?_drew, World.cell?_alloc_past _ _ _ (by omega)]; exact k2, by rw [World.cell?_drew, World.cell?_alloc_past _ _ _ (by omega)]; exact k3⟩ (fun hHeld1 => ?_)
    clear hK K
    refine wpAnyH_all (rs := [4]) (by kernel_rfl) (by simp) (AllReadyH.cons (o := ⟨some 52, _, _, _, _, _⟩) rfl (fun K hK => ?_) AllReadyH.nil)
    rw [if_pos (by rfl)]
    go_simp
    refine hK.out _ _ hHeld1 (fun hHeld2 => ?_)
    clear hK K
    refine wpAnyH_all (rs := [7]) (by kernel_rfl) (by simp) (AllReadyH.cons (o := ⟨some 55, _, _, _, _, _⟩) rfl (fun K hK => ?_) AllReadyH.nil)
    rw [if_pos (by rfl)]
    refine wp_append_own _ (.tmp 52) (.tmp 54) 94 rfl W3.heap.size 102 ic _ 4 48 Tryz.underlying94 hic hic0 hic1 hic2 rfl (by decide) (.slice none 0 0) 0 [] rfl (World.ownsRow_nil _ _ _ _) ⟨W3.heap.size, 0, none⟩ 1 1 [.int .i64 1, .string n, .string to, .int .i64 0] rfl rfl ?_ ?_ (by unfold maxLen; omega) (by omega) (by simp) ?_
    · intro j u hj
      show (W3.alloc (.cells #[.int .i64 1, .string n, .string to, .int .i64 0] 102)).cell? _ = some u
      rw [Addr.add_mid, Nat.zero_add, World.cell?_alloc_at _ _ _ _ rfl]
      simpa using hj
    · intro u hu
      simp only [List.mem_cons, List.not_mem_nil, or_false] at hu
      rcases hu with rfl | rfl | rfl | rfl <;> rfl
    intro v' w7 own7 gr7 _
    have hal7 : ∀ j, j < W3.heap.size → w7.heap[j]? = W3.heap[j]? := fun j hj => (gr7.block j (by simp; omega) (by simp [Value.ownBlock])).trans (Below.heap_alloc _ _ _ hj)
    have hz7 : W3.heap.size ≤ w7.heap.size := by have := gr7.size; simp at this; omega
    have hd7 := (hal7 d (by omega)).trans hWd3
    have hc7 := (hal7 (w.heap.size + 1) (by omega)).trans hWc3
    have tA7 := tA3.other (hal7 _ (by omega))
    have tN7 := tN3.other (hal7 _ (by omega))
    have b7 : Below W3.heap.size W3 w7 := ⟨gr7.os, gr7.tape, gr7.output, hz7, hal7⟩
    have o7 := o3W.trans (Only.below b7 (Nat.le_refl _))
    have f7 : w7.frozen? ⟨d, 3, none⟩ = false := frozen_of_row _ d 3 _ _ hd7
    have g7 : w7.cell? ⟨d, 3, none⟩ = some (.slice none 0 0) := by rw [cell_of_row _ _ _ _ _ _ hd7]; rfl
    have m0 : w7.cell? ⟨w.heap.size + 1, 0, none⟩ = some (.int .i64 1) := by rw [cell_of_row _ _ _ _ _ _ hc7]; rfl
    have m1 : w7.cell? ⟨w.heap.size + 1, 1, none⟩ = some (.string n) := by rw [cell_of_row _ _ _ _ _ _ hc7]; rfl
    have m2 : w7.cell? ⟨w.heap.size + 1, 2, none⟩ = some (.string to) := by rw [cell_of_row _ _ _ _ _ _ hc7]; rfl
    have m3 : w7.cell? ⟨w.heap.size + 1, 3, none⟩ = some (.int .i64 0) := by rw [cell_of_row _ _ _ _ _ _ hc7]; rfl
    obtain ⟨gv, pv, rfl⟩ := own_form own7 (by omega)
    refine hK.out _ _ ⟨m0, m1, m2, m3⟩ (fun hHeld3 => ?_)
    clear hK K
    simp only [Act.put, List.setIfInBounds_toArray, List.set_cons_zero, List.set_cons_succ]
    refine wpAnyH_take (i := 8) (oi := ⟨some 56, _, _, _, _, _⟩) (v := .pointer (some ⟨d, 0, none⟩)) rfl (by kernel_rfl) (by kernel_rfl) (by kernel_rfl) (fun _ _ _ h => h) (Or.inl ⟨by rfl, fun w hSw => by (try dsimp only at hSw); go_simp⟩) hHeld3 ?_
    simp only [Act.put, List.setIfInBounds_toArray, List.set_cons_zero, List.set_cons_succ]
    refine wpAnyH_take (i := 9) (oi := ⟨some 57, _, _, _, _, _⟩) (v := .pointer (some ⟨d, 3, none⟩)) rfl (by kernel_rfl) (by kernel_rfl) (by kernel_rfl) (fun _ _ _ h => h) (Or.inl ⟨by rfl, fun w hSw => by (try dsimp only at hSw); go_simp⟩) hHeld3 ?_
    simp only [Act.put, List.setIfInBounds_toArray, List.set_cons_zero, List.set_cons_succ]
    refine wpAnyH_all (rs := [10]) (by kernel_rfl) (by simp) (AllReadyH.cons (o := ⟨none, _, _, _, _, _⟩) rfl (fun K hK => ?_) AllReadyH.nil)
    rw [if_pos (by rfl)]
    go_simp
    have ne1 : w.heap.size + 1 ≠ d := by omega
    refine hK.out _ _ ⟨?_, ?_, ?_, ?_⟩ (fun hHeld4 => ?_)
    · rw [World.cell?_of_block (w := w7) (a := ⟨w.heap.size + 1, 0, none⟩) (Below.heap_setCell _ _ _ _ ne1)]; exact m0
    · rw [World.cell?_of_block (w := w7) (a := ⟨w.heap.size + 1, 1, none⟩) (Below.heap_setCell _ _ _ _ ne1)]; exact m1
    · rw [World.cell?_of_block (w := w7) (a := ⟨w.heap.size + 1, 2, none⟩) (Below.heap_setCell _ _ _ _ ne1)]; exact m2
    · rw [World.cell?_of_block (w := w7) (a := ⟨w.heap.size + 1, 3, none⟩) (Below.heap_setCell _ _ _ _ ne1)]; exact m3
    clear hK K
    refine wpAnyH_done (by kernel_rfl) ?_ _
    go_wp2
    go_end0
    refine ⟨rfl, ⟨w.heap.size + 1 + 1 + 1, cap, bn, pn, .slice none 0 0, .slice (some ⟨gv, 0, none⟩) 1 pv, ?_, ?_, ?_, hdl, tA7.other (Below.heap_setCell w7 ⟨d, 3, none⟩ (.slice (some ⟨gv, 0, none⟩) (0 + 1) pv) _ (by show w.heap.size + 1 + 1 + 1 ≠ d; omega)), tN7.other (Below.heap_setCell w7 ⟨d, 3, none⟩ (.slice (some ⟨gv, 0, none⟩) (0 + 1) pv) _ (by show bn ≠ d; omega)), (heap_setCell_same _ d _ _ _ _ hd7).trans (by simp)⟩, o7.setCell _ _⟩ <;> omega

def ActPost (base : Nat) (w : World) (d : Nat) (n data : ByteArray) (safe : Int) (e : Ending) (w' : World) : Prop :=
  e = .returned (.tuple #[]) ∧ One base w' d n data safe ∧ w'.heap.size ≥ w.heap.size ∧ w'.os = w.os ∧ w'.tape = w.tape ∧ w'.output = w.output ∧ ∀ j, j < base → j ≠ d → w'.heap[j]? = w.heap[j]?

set_option maxRecDepth 100000 in
set_option maxHeartbeats 1600000 in
/-- Do: a SyncDir -/
theorem do_syncdir (base : Nat) (w : World) (d : Nat) (n data : ByteArray) (safe : Int) (a1 a2 a3 : ByteArray) (h : One base w d n data safe) :
    Calls Tryz.prog 30 #[.pointer (some ⟨d, 0, none⟩), .agg #[.int .i64 6, .string a1, .string a2, .string a3]] w (ActPost base w d n data safe) := by
  obtain ⟨ba, pa, bn, pn, vs, vc, h1, h2, h3, h4, tA, tN, hd⟩ := h
  have hdl : d < w.heap.size := (Array.getElem?_eq_some_iff.1 hd).1
  have c1 : w.cell? ⟨d, 1, none⟩ = some (.slice (some ⟨bn, 0, none⟩) 1 pn) := by rw [cell_of_row _ _ _ _ _ _ hd]; rfl
  have c2 : w.cell? ⟨d, 2, none⟩ = some vs := by rw [cell_of_row _ _ _ _ _ _ hd]; rfl
  have c3 : w.cell? ⟨d, 3, none⟩ = some vc := by rw [cell_of_row _ _ _ _ _ _ hd]; rfl
  have f2 : w.frozen? ⟨d, 2, none⟩ = false := frozen_of_row w d 2 _ _ hd
  have f3 : w.frozen? ⟨d, 3, none⟩ = false := frozen_of_row w d 3 _ _ hd
  go_enter Tryz.func30, Tryz.ntmps30
  go_wp2
  go_end0
  have la := tA.lt
  have ln := tN.lt
  have hsz : ((w.setCell ⟨d, 2, none⟩ (.slice (some ⟨bn, 0, none⟩) 1 pn)).setCell ⟨d, 3, none⟩ (.slice none 0 0)).heap.size = w.heap.size := by simp [World.setCell]
  have oth : ∀ (o : Obj) (j : Nat), j < w.heap.size → j ≠ d → (((w.setCell ⟨d, 2, none⟩ (.slice (some ⟨bn, 0, none⟩) 1 pn)).setCell ⟨d, 3, none⟩ (.slice none 0 0)).alloc o).heap[j]? = w.heap[j]? := fun o j hj hne => by
    rw [Below.heap_alloc _ _ _ (by omega), Below.heap_setCell _ _ _ _ hne, Below.heap_setCell _ _ _ _ hne]
  refine ⟨rfl, ⟨ba, pa, bn, pn, .slice (some ⟨bn, 0, none⟩) 1 pn, .slice none 0 0, h1, h2, h3, h4, tA.other (oth _ _ la (by omega)), tN.other (oth _ _ ln (by omega)), ?_⟩, by simp [World.setCell], rfl, rfl, rfl, fun j hj hne => oth _ j (by omega) hne⟩
  rw [Below.heap_alloc _ _ _ (by omega)]
  exact (heap_setCell_same _ d _ _ _ _ (heap_setCell_same _ d _ _ _ _ hd)).trans (by simp)

end Go.Proofs.YthdffenpkdbejaaGreatDoor

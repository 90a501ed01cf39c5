import Derived.Test.YthdffenpkdbejaaGreatDoorKeepE
import Derived.Test.YthdffenpkdbejaaGreatDoorWireD
import Derived.Test.YthdffenpkdbejaaGreatDoorOrdW
import Derived.Great.BuildSlice
namespace Go.Proofs.YthdffenpkdbejaaGreatDoor
open Go.RowKit

/-- what stands behind the table in an annal (THIS PART IS THE CODE's OWN: it hangs on the struct); nw: how many batches wait -/
structure Ann where
  last : Int
  waiting : Value
  base : Int
  first : Int
  under : Value
  segment : Int
  size : Int
  next : Int
  segs : Value
  ckpts : Value
  job : Value
  reads : Bool

def Ann.cells (a : Ann) : List Value := [.int .i64 a.last, a.waiting, .int .i64 a.base, .int .i64 a.first, a.under, .int .i64 a.segment, .int .i64 a.size, .int .i64 a.next, a.segs, a.ckpts, a.job, .bool a.reads]
/-- an annal stands in block b -/
def AnnIn (w : World) (b : Nat) (t : Tab) (a : Ann) : Prop := TabIn w b 119 t.h t.v a.cells

theorem TabIn.setRest {w : World} {b : Nat} {T : TypeId} {h : Nat → Bool} {v : Nat → Int} {rest : List Value} (t : TabIn w b T h v rest) (k : Nat) (x : Value) :
    TabIn (w.setCell ⟨b, 128 + k, none⟩ x) b T h v (rest.set k x) := by
  unfold TabIn
  rw [heap_setCell_same w b _ _ T _ t]
  congr 2
  apply Array.ext_getElem?
  intro j
  simp only [Array.getElem?_setIfInBounds, List.getElem?_toArray, List.size_toArray, List.length_append, tabCells_length, List.getElem?_append, List.getElem?_set]
  by_cases e : 128 + k = j
  · subst e
    have h1 : ¬ 128 + k < 128 := by omega
    have h2 : 128 + k - 128 = k := by omega
    simp [h2]
    by_cases h3 : k < rest.length <;> simp [h3] <;> intro q <;> omega
  · by_cases hj : j < 128
    · simp [hj, e]
    · have : ¬ k = j - 128 := by omega
      simp [hj, e, this]

/-- nothing that was there has turned but block b and block x -/
structure Only2 (b : Nat) (x : Option Nat) (w w' : World) : Prop where
  os : w'.os = w.os
  tape : w'.tape = w.tape
  output : w'.output = w.output
  size : w.heap.size ≤ w'.heap.size
  block : ∀ k, k < w.heap.size → k ≠ b → some k ≠ x → w'.heap[k]? = w.heap[k]?
theorem Only2.trans {b : Nat} {x : Option Nat} {u v w : World} (h : Only2 b x u v) (k : Only2 b x v w) : Only2 b x u w :=
  ⟨k.os.trans h.os, k.tape.trans h.tape, k.output.trans h.output, Nat.le_trans h.size k.size, fun i hi hb hx => (k.block i (Nat.lt_of_lt_of_le hi h.size) hb hx).trans (h.block i hi hb hx)⟩
theorem Only.two {b : Nat} {w w' : World} (h : Only b w w') (x : Option Nat) : Only2 b x w w' := ⟨h.os, h.tape, h.output, h.size, fun k hk hb _ => h.block k hk hb⟩
theorem Only2.grown {b : Nat} {x : Option Nat} {w w' : World} (h : w.grownBy w' x) : Only2 b x w w' := ⟨h.os, h.tape, h.output, h.size, fun k hk _ hx => h.block k hk hx⟩

/-- an owned row whose block has not turned -/
theorem own_same {w w' : World} {base : Nat} {e : TypeId} {size : Nat} {v : Value} {n : Nat} {xs : List Value} (h : w.ownsRow base e size v n xs) (hs : ∀ g, v.ownBlock = some g → w'.heap[g]? = w.heap[g]?) : w'.ownsRow base e size v n xs := by
  refine ⟨h.1, ?_⟩
  rcases h.2 with h | ⟨g, cap, cur, rfl, hb, hg, h1, h2, h3, h4⟩
  · exact .inl h
  · exact .inr ⟨g, cap, cur, rfl, hb, (hs g rfl).trans hg, h1, h2, h3, h4⟩
theorem BatAt.other2 {w w' : World} {b c off : Nat} {x : Option Nat} {r : List (List TOp)} (h : BatAt w b c off r) (hx : ∀ g, x = some g → BatAt w g c off r ∧ c ≠ g) (o : Only2 b x w w') (hc : c ≠ b) (hcl : c < w.heap.size) : BatAt w' b c off r := by
  intro i l hi
  obtain ⟨ci, oi, pi, h1, h2, h3, h4⟩ := h i l hi
  have q : ∀ g, x = some g → ci ≠ g ∧ c ≠ g := by
    intro g hg
    obtain ⟨k, k2⟩ := hx g hg
    obtain ⟨ci', oi', pi', k1, _, k3, _⟩ := k i l hi
    rw [h1] at k1
    simp at k1
    refine ⟨?_, k2⟩
    rw [k1.1.1]
    exact k3
  have e1 : w'.heap[c]? = w.heap[c]? := o.block c hcl hc (fun e => (q c e.symm).2 rfl)
  have e2 : w'.heap[ci]? = w.heap[ci]? := o.block ci h4 h3 (fun e => (q ci e.symm).1 rfl)
  exact ⟨ci, oi, pi, by rw [World.cell?_of_block (w := w) (a := ⟨c, off + i, none⟩) e1]; exact h1, h2.other e2, h3, Nat.lt_of_lt_of_le h4 o.size⟩

theorem BatAt.ne {w : World} {g c off : Nat} {r : List (List TOp)} (h : BatAt w g c off r) {i : Nat} {l : List TOp} (hi : r[i]? = some l) {ci oi pi : Nat} (e : w.cell? ⟨c, off + i, none⟩ = some (.slice (some ⟨ci, oi, none⟩) l.length pi)) : ci ≠ g := by
  obtain ⟨ci', oi', pi', k1, _, k3, _⟩ := h i l hi
  rw [e] at k1
  simp at k1
  rw [k1.1.1]
  exact k3

theorem strInfo : (Tryz.prog.info? 9).map (fun i => (i.zero, i.size, i.bytes)) = some (some (.string .empty), 1, 16) := by kernel_rfl

/-- what Submit leaves -/
def SubPost (w : World) (b base : Nat) (t : Tab) (a : Ann) (n : Nat) (ws : List Value) (r : List (List TOp)) (e : Ending) (w' : World) : Prop :=
  ∃ g wv s, e = .returned (.tuple #[.slice (some ⟨g, 0, none⟩) r.length r.length, .int .i64 0]) ∧ w.heap.size ≤ g ∧ w'.heap[g]? = some (.cells (((batDo t r).1).map Value.bool).toArray 4 (0, 0)) ∧
    AnnIn w' b (batDo t r).2 { a with last := a.last + 1, waiting := wv } ∧ w'.ownsRow base 9 1 wv (n + 1) (ws ++ [.string s]) ∧ s.size ≤ 1006 ∧ Only2 b a.waiting.ownBlock w w'

set_option maxRecDepth 100000 in
set_option maxHeartbeats 1600000 in
theorem submit_any (b base : Nat) (t : Tab) (a : Ann) (n : Nat) (ws : List Value) (w : World) (ht : AnnIn w b t a) (hw : w.ownsRow base 9 1 a.waiting n ws) (hbase : base ≤ w.heap.size) (hs : Small t.v) (c off cap : Nat) (r : List (List TOp)) (hr : BatAt w b c off r) (hr2 : ∀ g, a.waiting.ownBlock = some g → BatAt w g c off r ∧ c ≠ g) (hok : ∀ l ∈ r, ∀ o ∈ l, o.Right ∧ o.Ok) (hlen : ∀ l ∈ r, 1 ≤ l.length ∧ l.length ≤ 8) (hc : c ≠ b) (hcl : c < w.heap.size) (hn0 : 1 ≤ r.length) (hn : r.length ≤ 8)
    (h1 : a.reads = false) (h3 : n < 16) (h4 : 0 ≤ a.last) (h5 : a.last < 999999999) :
    Calls Tryz.prog 28 #[.pointer (some ⟨b, 0, none⟩), .slice (some ⟨c, off, none⟩) r.length cap] w (SubPost w b base t a n ws r) := by
  obtain ⟨last, waiting, abase, first, under, segment, size, next, segs, ckpts, job, reads⟩ := a
  simp only at h1 h4 h5 hw hr2
  subst h1
  unfold AnnIn at ht
  obtain ⟨wo, wcap, rfl⟩ := own_nil hw
  have q0 : w.cell? ⟨b, 128, none⟩ = some (.int .i64 last) := ht.rest 0
  have q1 : w.cell? ⟨b, 129, none⟩ = some (.slice wo n wcap) := ht.rest 1
  have q3 : w.cell? ⟨b, 139, none⟩ = some (.bool false) := ht.rest 11
  have hb := ht.lt
  have HI := hide (isBat_yes w b c off cap r hr (fun l hl o ho => (hok l hl o ho).1) hlen hcl hn0 hn)
  go_enter Tryz.func28, Tryz.ntmps28
  go_wp2_with fail
  refine (unhide HI).mono ?_
  rintro e w1 ⟨rfl, b1⟩
  have t1 : TabIn w1 b 119 t.h t.v _ := ht.other (b1.block b hb)
  have r1 := hr.below b1 hcl
  have hz := b1.size
  have u0 : w1.cell? ⟨b, 128, none⟩ = some (.int .i64 last) := t1.rest 0
  have u1 : w1.cell? ⟨b, 129, none⟩ = some (.slice wo n wcap) := t1.rest 1
  have f0 := t1.frozen 128
  have f1 := t1.frozen 129
  go_wp2_with fail
  -- the region (gen_anna.py)
  have hw0 := hw
  have hgb : ∀ g, (Value.slice wo n wcap).ownBlock = some g → g ≠ b := by
    intro g hg e
    obtain ⟨cur, hcur⟩ := own_type hw hg
    have e2 := ht
    unfold TabIn at e2
    rw [← e, hcur] at e2
    simp at e2
  have hw1 : w1.ownsRow base 9 1 (.slice wo n wcap) n ws := own_same hw (fun g hg => b1.block g (hw.lt g hg).2)
  have T2 := (t1.setRest 0 (.int .i64 (last + 1))).alloc (.cells #[.int .i64 (last + 1), .slice (some ⟨c, off, none⟩) r.length cap] 137)
  have O2 := ((Only.refl b w1).setCell (128 + 0) (.int .i64 (last + 1))).alloc (.cells #[.int .i64 (last + 1), .slice (some ⟨c, off, none⟩) r.length cap] 137)
  have B2 : ((w1.setCell ⟨b, 128 + 0, none⟩ (.int .i64 (last + 1))).alloc (.cells #[.int .i64 (last + 1), .slice (some ⟨c, off, none⟩) r.length cap] 137)).heap[w1.heap.size]? = some (.cells #[.int .i64 (last + 1), .slice (some ⟨c, off, none⟩) r.length cap] 137 (0, 0)) := by
    have := heap_alloc_last (w1.setCell ⟨b, 128 + 0, none⟩ (.int .i64 (last + 1))) (.cells #[.int .i64 (last + 1), .slice (some ⟨c, off, none⟩) r.length cap] 137)
    simpa [World.setCell] using this
  have W2 := own_same hw1 (fun g hg => O2.block g (hw1.lt g hg).2 (hgb g hg))
  have R2 := r1.only O2 hc (by omega)
  have R2g : ∀ g, (Value.slice wo n wcap).ownBlock = some g → BatAt ((w1.setCell ⟨b, 128 + 0, none⟩ (.int .i64 (last + 1))).alloc (.cells #[.int .i64 (last + 1), .slice (some ⟨c, off, none⟩) r.length cap] 137)) g c off r ∧ c ≠ g := by
    intro g hg
    obtain ⟨k1, k2⟩ := hr2 g hg
    refine ⟨?_, k2⟩
    intro i l hi
    obtain ⟨ci, oi, pi, x1, x2, x3, x4⟩ := R2 i l hi
    obtain ⟨ci', oi', pi', y1, y2, y3, y4⟩ := k1 i l hi
    obtain ⟨ci2, oi2, pi2, v1, v2, v3, v4⟩ := hr i l hi
    have e1 : ci = ci2 := by
      have q : ((w1.setCell ⟨b, 128 + 0, none⟩ (.int .i64 (last + 1))).alloc (.cells #[.int .i64 (last + 1), .slice (some ⟨c, off, none⟩) r.length cap] 137)).cell? ⟨c, off + i, none⟩ = w.cell? ⟨c, off + i, none⟩ :=
        World.cell?_of_block (w := w) (a := ⟨c, off + i, none⟩) ((O2.block c (by omega) hc).trans (b1.block c hcl))
      rw [q, v1] at x1
      simp at x1
      exact x1.1.1.symm
    have e2 : ci2 = ci' := by
      rw [v1] at y1
      simp at y1
      exact y1.1.1
    exact ⟨ci, oi, pi, x1, x2, by rw [e1, e2]; exact y3, x4⟩
  have Z2 := O2.size
  clear t1 r1 u0 f0 q0 q1 q3 u1 f1 hw1
  generalize (w1.setCell ⟨b, 128 + 0, none⟩ (.int .i64 (last + 1))).alloc (.cells #[.int .i64 (last + 1), .slice (some ⟨c, off, none⟩) r.length cap] 137) = w2 at *
  have hbk : w1.heap.size < w2.heap.size := (Array.getElem?_eq_some_iff.1 B2).1
  have e129 : w2.cell? ⟨b, 129, none⟩ = some (.slice wo n wcap) := T2.rest 1
  obtain ⟨io, hio, hio0, hio1, hio2⟩ := info_parts strInfo
  have Hio := hide hio
  have Hio0 := hide hio0
  have Hio1 := hide hio1
  have Hio2 := hide hio2
  clear hio hio0 hio1 hio2
  refine region_z (S := fun w' => w'.cell? ⟨b, 129, none⟩ = some (.slice wo n wcap) ∧ w'.cell? ⟨w1.heap.size, 0, none⟩ = some (.int .i64 (last + 1)) ∧ w'.cell? ⟨w1.heap.size, 1, none⟩ = some (.slice (some ⟨c, off, none⟩) r.length cap)) 12 (by kernel_rfl) ?_ (fun hHeld => ?_)
  · exact ⟨e129, by rw [World.cell?_drew, cell_of_row _ _ _ _ _ _ B2]; rfl, by rw [World.cell?_drew, cell_of_row _ _ _ _ _ _ B2]; rfl⟩
  refine AnyZ.take (i := 0) (oi := ⟨some 40, _, _, _, _, _⟩) (v := .pointer (some ⟨b, 0, none⟩)) rfl (by kernel_rfl) (by kernel_rfl) (by kernel_rfl) (by kernel_rfl) (fun _ _ _ h => h) (Or.inl ⟨by rfl, fun w hSw => by (try dsimp only at hSw); go_simp⟩) hHeld ?_
  simp only [Act.put, List.setIfInBounds_toArray, List.set_cons_zero, List.set_cons_succ]
  refine AnyZ.take (i := 1) (oi := ⟨some 41, _, _, _, _, _⟩) (v := .pointer (some ⟨b, 0, none⟩)) rfl (by kernel_rfl) (by kernel_rfl) (by kernel_rfl) (by kernel_rfl) (fun _ _ _ h => h) (Or.inl ⟨by rfl, fun w hSw => by (try dsimp only at hSw); go_simp⟩) hHeld ?_
  simp only [Act.put, List.setIfInBounds_toArray, List.set_cons_zero, List.set_cons_succ]
  refine AnyZ.take (i := 2) (oi := ⟨some 42, _, _, _, _, _⟩) (v := .pointer (some ⟨b, 0, none⟩)) rfl (by kernel_rfl) (by kernel_rfl) (by kernel_rfl) (by kernel_rfl) (fun _ _ _ h => h) (Or.inl ⟨by rfl, fun w hSw => by (try dsimp only at hSw); go_simp⟩) hHeld ?_
  simp only [Act.put, List.setIfInBounds_toArray, List.set_cons_zero, List.set_cons_succ]
  refine AnyZ.take (i := 3) (oi := ⟨some 43, _, _, _, _, _⟩) (v := .pointer (some ⟨b, 129, none⟩)) rfl (by kernel_rfl) (by kernel_rfl) (by kernel_rfl) (by kernel_rfl) (fun _ _ _ h => h) (Or.inl ⟨by rfl, fun w hSw => by (try dsimp only at hSw); go_simp⟩) hHeld ?_
  simp only [Act.put, List.setIfInBounds_toArray, List.set_cons_zero, List.set_cons_succ]
  refine AnyZ.take (i := 4) (oi := ⟨some 44, _, _, _, _, _⟩) (v := .slice wo n wcap) rfl (by kernel_rfl) (by kernel_rfl) (by kernel_rfl) (by kernel_rfl) (fun _ _ _ h => h) (Or.inl ⟨by rfl, fun w hSw => by (try dsimp only at hSw); go_simp⟩) hHeld ?_
  simp only [Act.put, List.setIfInBounds_toArray, List.set_cons_zero, List.set_cons_succ]
  refine AnyZ.take (i := 5) (oi := ⟨some 45, _, _, _, _, _⟩) (v := .agg #[.int .i64 (last + 1), .slice (some ⟨c, off, none⟩) r.length cap]) rfl (by kernel_rfl) (by kernel_rfl) (by kernel_rfl) (by kernel_rfl) (fun _ _ _ h => h) (Or.inl ⟨by rfl, fun w hSw => by (try dsimp only at hSw); go_simp⟩) hHeld ?_
  simp only [Act.put, List.setIfInBounds_toArray, List.set_cons_zero, List.set_cons_succ]
  have HB := hide (bytes_any w2.drew (last + 1) (by omega) (by omega) b c off cap r R2 (by show c < w2.heap.size; omega) hok hlen hn)
  refine AnyZ.one (i := 6) (o := ⟨some 46, _, _, _, _, _⟩) (by kernel_rfl) rfl (fun K hK => ?_)
  rw [if_pos (by rfl)]
  go_simp
  refine (unhide HB).mono ?_
  rintro e w3 ⟨s1, rfl, hs1, b3⟩
  have hz3 : w2.heap.size ≤ w3.heap.size := b3.size
  have B3 : Below w2.heap.size w2 w3 := ⟨b3.os, b3.tape, b3.output, b3.size, b3.block⟩
  have H3 := hide hHeld
  replace hHeld : w3.cell? ⟨b, 129, none⟩ = some (.slice wo n wcap) ∧ w3.cell? ⟨w1.heap.size, 0, none⟩ = some (.int .i64 (last + 1)) ∧ w3.cell? ⟨w1.heap.size, 1, none⟩ = some (.slice (some ⟨c, off, none⟩) r.length cap) :=
    ⟨(B3.cell (p := ⟨b, 129, none⟩) (by show b < w2.heap.size; omega)).trans hHeld.1, (B3.cell (p := ⟨w1.heap.size, 0, none⟩) hbk).trans hHeld.2.1, (B3.cell (p := ⟨w1.heap.size, 1, none⟩) hbk).trans hHeld.2.2⟩
  refine hK.out _ _ (.inr hHeld) ?_
  clear hK K HB H3 b3
  have HF := hide (frame_any w3 s1 (by omega))
  refine AnyZ.one (i := 7) (o := ⟨some 47, _, _, _, _, _⟩) (by kernel_rfl) rfl (fun K hK => ?_)
  rw [if_pos (by rfl)]
  go_simp
  refine (unhide HF).mono ?_
  rintro e w4 ⟨s2, rfl, hs2, b4⟩
  have hz4 : w3.heap.size ≤ w4.heap.size := b4.size
  have B4 : Below w2.heap.size w2 w4 := B3.trans (b4.mono hz3)
  replace hHeld : w4.cell? ⟨b, 129, none⟩ = some (.slice wo n wcap) ∧ w4.cell? ⟨w1.heap.size, 0, none⟩ = some (.int .i64 (last + 1)) ∧ w4.cell? ⟨w1.heap.size, 1, none⟩ = some (.slice (some ⟨c, off, none⟩) r.length cap) :=
    ⟨(b4.cell (p := ⟨b, 129, none⟩) (by show b < w3.heap.size; omega)).trans hHeld.1, (b4.cell (p := ⟨w1.heap.size, 0, none⟩) (by show w1.heap.size < w3.heap.size; omega)).trans hHeld.2.1, (b4.cell (p := ⟨w1.heap.size, 1, none⟩) (by show w1.heap.size < w3.heap.size; omega)).trans hHeld.2.2⟩
  refine hK.out _ _ (.inr hHeld) ?_
  clear hK K HF b4 B3
  refine AnyZ.one (i := 8) (o := ⟨some 48, _, _, _, _, _⟩) (by kernel_rfl) rfl (fun K hK => ?_)
  rw [if_pos (by rfl)]
  go_simp
  have B5 : Below w2.heap.size w2 (w4.alloc (.cells #[.string s2] 9)) := B4.alloc (by omega) _
  replace hHeld : (w4.alloc (.cells #[.string s2] 9)).cell? ⟨b, 129, none⟩ = some (.slice wo n wcap) ∧ (w4.alloc (.cells #[.string s2] 9)).cell? ⟨w1.heap.size, 0, none⟩ = some (.int .i64 (last + 1)) ∧ (w4.alloc (.cells #[.string s2] 9)).cell? ⟨w1.heap.size, 1, none⟩ = some (.slice (some ⟨c, off, none⟩) r.length cap) :=
    ⟨by rw [World.cell?_alloc_past _ _ _ (by show b < w4.heap.size; omega)]; exact hHeld.1, by rw [World.cell?_alloc_past _ _ _ (by show w1.heap.size < w4.heap.size; omega)]; exact hHeld.2.1, by rw [World.cell?_alloc_past _ _ _ (by show w1.heap.size < w4.heap.size; omega)]; exact hHeld.2.2⟩
  refine hK.out _ _ (.inr hHeld) ?_
  clear hK K
  have OW := own_same W2 (fun g hg => B5.block g (W2.lt g hg).2)
  have LT := OW.lt
  refine AnyZ.one (i := 9) (o := ⟨some 49, _, _, _, _, _⟩) (by kernel_rfl) rfl (fun K hK => ?_)
  rw [if_pos (by rfl)]
  refine wp_append_own _ (.tmp 44) (.tmp 48) 113 rfl base 9 io _ 1 16 Tryz.underlying113 (unhide Hio) (unhide Hio0) (unhide Hio1) (unhide Hio2) (by rfl) (by decide) _ _ _ rfl OW ⟨w4.heap.size, 0, none⟩ 1 1 [.string s2] rfl (by rfl) (sliceCell_new _ _ _ _ rfl) (by intro u hu; simp at hu; subst hu; rfl) (by unfold maxLen; omega) (by omega) (by simp; omega) ?_
  intro wv w6 own6 gr6 _
  obtain ⟨gw, cw, rfl⟩ := own_form own6 (by omega)
  have z6 := gr6.size
  have TB5 : TabIn (w4.alloc (.cells #[.string s2] 9)) b 119 t.h t.v _ := T2.other (B5.block b (by omega))
  have TB6 : TabIn w6 b 119 t.h t.v _ := TB5.other (gr6.block b (by simp; omega) (fun e => hgb b e.symm rfl))
  have K6 : ∀ j, j < w2.heap.size → some j ≠ (Value.slice wo n wcap).ownBlock → w6.heap[j]? = w2.heap[j]? := fun j hj hne => (gr6.block j (by simp; omega) hne).trans (B5.block j hj)
  have hnk : ∀ g, (Value.slice wo n wcap).ownBlock = some g → g ≠ w1.heap.size := fun g hg e => by
    obtain ⟨cur, hcur⟩ := own_type W2 hg
    rw [e, B2] at hcur
    simp at hcur
  have hBk6 := (K6 w1.heap.size hbk (fun e => hnk _ e.symm rfl)).trans B2
  replace hHeld : w6.cell? ⟨b, 129, none⟩ = some (.slice wo n wcap) ∧ w6.cell? ⟨w1.heap.size, 0, none⟩ = some (.int .i64 (last + 1)) ∧ w6.cell? ⟨w1.heap.size, 1, none⟩ = some (.slice (some ⟨c, off, none⟩) r.length cap) :=
    ⟨TB6.rest 1, by rw [cell_of_row _ _ _ _ _ _ hBk6]; rfl, by rw [cell_of_row _ _ _ _ _ _ hBk6]; rfl⟩
  refine hK.out _ _ (.inr hHeld) ?_
  clear hK K
  refine AnyZ.one (i := 10) (o := ⟨some 50, _, _, _, _, _⟩) (by kernel_rfl) rfl (fun K hK => ?_)
  rw [if_pos (by rfl)]
  go_simp
  refine hK.out _ _ (.inr hHeld) ?_
  clear hK K
  refine AnyZ.take (i := 11) (oi := ⟨some 51, _, _, _, _, _⟩) (v := .pointer (some ⟨b, 129, none⟩)) rfl (by kernel_rfl) (by kernel_rfl) (by kernel_rfl) (by kernel_rfl) (fun _ _ _ h => h) (Or.inl ⟨by rfl, fun w hSw => by (try dsimp only at hSw); go_simp⟩) hHeld ?_
  simp only [Act.put, List.setIfInBounds_toArray, List.set_cons_zero, List.set_cons_succ]
  have c129 := hHeld.1
  have f129 := TB6.frozen 129
  refine AnyZ.one (i := 12) (o := ⟨none, _, _, _, _, _⟩) (by kernel_rfl) rfl (fun K hK => ?_)
  rw [if_pos (by rfl)]
  go_simp
  refine hK.out _ _ (.inl rfl) ?_
  clear hK K
  refine AnyZ.done (by kernel_rfl) ?_ _
  have TB7 := TB6.setRest 1 (.slice (some ⟨gw, 0, none⟩) (n + 1) cw)
  have R6 : BatAt w6 b c off r := R2.other2 R2g ⟨gr6.os.trans B5.os, gr6.tape.trans B5.tape, gr6.output.trans B5.output, by simp at z6; omega, fun j hj _ hne => K6 j hj hne⟩ hc (by omega)
  have R7 := R6.only ((Only.refl b w6).setCell (128 + 1) (.slice (some ⟨gw, 0, none⟩) (n + 1) cw)) hc (by simp at z6; omega)
  have own7 := own_same (w' := w6.setCell ⟨b, 128 + 1, none⟩ (.slice (some ⟨gw, 0, none⟩) (n + 1) cw)) own6 (fun g hg => Below.heap_setCell _ _ _ _ (by
    intro e
    obtain ⟨cur, hcur⟩ := own_type own6 hg
    have e2 := TB6
    unfold TabIn at e2
    have e3 : g = b := e
    rw [← e3, hcur] at e2
    simp at e2))
  have HD := hide (do_any b 119 t _ _ TB7 hs c off cap r R7 (fun l hl o ho => (hok l hl o ho).2) (fun l hl => by have := (hlen l hl).2; omega) hc (by simp at z6 ⊢; omega) (by omega))
  have ON : Only2 b (Value.slice wo n wcap).ownBlock w (w6.setCell ⟨b, 128 + 1, none⟩ (.slice (some ⟨gw, 0, none⟩) (n + 1) cw)) :=
    ⟨gr6.os.trans (B5.os.trans (O2.os.trans b1.os)), gr6.tape.trans (B5.tape.trans (O2.tape.trans b1.tape)), gr6.output.trans (B5.output.trans (O2.output.trans b1.output)), by simp [World.setCell] at z6 ⊢; omega,
      fun j hj hjb hjx => (Below.heap_setCell _ _ _ _ hjb).trans ((K6 j (by omega) hjx).trans ((O2.block j (by omega) hjb).trans (b1.block j hj)))⟩
  have Z7 : w.heap.size ≤ (w6.setCell ⟨b, 128 + 1, none⟩ (.slice (some ⟨gw, 0, none⟩) (n + 1) cw)).heap.size := ON.size
  clear c129 f129 hHeld R6 R7 TB5 TB6 R2 R2g OW LT W2 T2 B2 hBk6 K6 gr6 own6 B4 B5 e129 O2 hok hlen hr hr2 hw0 hw b1 z6
  have TB := hide TB7
  have OW7 := hide own7
  have ON7 := hide ON
  clear TB7 own7 ON
  generalize w6.setCell ⟨b, 128 + 1, none⟩ (.slice (some ⟨gw, 0, none⟩) (n + 1) cw) = w7 at *
  go_wp2_with fail
  refine (unhide HD).mono ?_
  rintro e w8 ⟨rfl, hg, t8, o8⟩
  have own8 := hide (own_same (unhide OW7) (fun g hg => o8.block g ((unhide OW7).lt g hg).2 (fun e => by
    obtain ⟨cur, hcur⟩ := own_type (unhide OW7) hg
    have e2 := unhide TB
    unfold TabIn at e2
    rw [← e, hcur] at e2
    simp at e2)))
  have T8 := hide t8
  have G8 := hide hg
  have O8 := hide o8
  clear t8 hg o8
  go_wp2
  go_ret2
  exact ⟨_, _, s2, rfl, Z7, unhide G8, unhide T8, unhide own8, by omega, (unhide ON7).trans ((unhide O8).two _)⟩
end Go.Proofs.YthdffenpkdbejaaGreatDoor

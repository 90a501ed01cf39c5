import Derived.Test.YthdffenpkdbejaaGreatDoorKeepF
import Derived.Great.BuildSlice
namespace Go.Proofs.YthdffenpkdbejaaGreatDoor
open Go.RowKit

set_option linter.unusedSimpArgs false in
set_option maxRecDepth 100000 in
set_option maxHeartbeats 8000000 in
theorem ksubmit_any (w : World) (base rb : Nat) (r : RunV) (ts : List Tab) (t : Tab) (a : Ann) (n : Nat) (ws : List Value) (hR : RunIn w base rb r ts t a n ws) (_hbw : base ≤ w.heap.size) (ao : Option Addr) (zs : List Int) (cap : Nat) (hz : RawAt w ao zs) (hlen : zs.length ≤ maxLen) (N : Int) (hN0 : 0 ≤ N) (hN : N ≤ 9223372036854770000) (hB : Bnd t N)
    (h1 : a.reads = false) (h3 : n < 16) (h4 : 0 ≤ a.last) (h5 : a.last < 999999999) (hts : ts.length ≤ 1000000) (hrab : rb ≠ r.a) :
    Calls Tryz.prog 18 #[.pointer (some ⟨rb, 0, none⟩), .slice ao zs.length cap] w fun e w' => KSPost w base rb r ts t a n ws N e w' := by
  obtain ⟨g, gcap, hv, hrange, hcap, hmax, hg0, hg1⟩ := hR.last
  go_enter Tryz.func18, Tryz.ntmps18
  go_wp2_with fail
  refine (batch_any w ao zs cap hz hlen).mono ?_
  rintro e w1 ⟨top, v3, v4, bs, cs, l, rfl, inv, hb1, hb7⟩
  have hrl : rb < w.heap.size := (Array.getElem?_eq_some_iff.1 hR.run).1
  have hal := hR.ann.lt
  have hz1 := inv.below.size
  have run1 : w1.heap[rb]? = some (.cells r.cells 38 (0, 0)) := (inv.below.block rb hrl).trans hR.run
  have c2 : w1.cell? ⟨rb, 2, none⟩ = some (.slice (some ⟨g, 0, none⟩) (ts.length + 1) gcap) := by rw [cell_of_row _ _ _ _ _ _ run1, ← hv]; rfl
  have rg1 : w1.rangeAt g (ts.length * 128) (kCells t.h t.v) := fun j x hx => by rw [inv.below.cell (p := ⟨g, ts.length * 128 + j, none⟩) hg1]; exact hrange j x hx
  have ann1 : AnnIn w1 r.a t a := hR.ann.other (inv.below.block r.a hal)
  have hzero := (zero_of_info kZero).1
  have hl128 := kCells_length t.h t.v
  have hst : (storeCells ⟨w1.heap.size, 0, none⟩ (kCells t.h t.v) 0).run Tryz.prog (w1.alloc (.cells (kCells (fun _ => false) (fun _ => 0)).toArray 42)).drew = .ok () (w1.alloc (.cells (kCells t.h t.v).toArray 42)).drew := by
    have := run_storeCells_new (P := Tryz.prog) w1.drew 42 (kCells (fun _ => false) (fun _ => 0)).toArray (kCells t.h t.v).toArray (by simpa using kInfo t.h t.v) (by simp [kCells_length]) (k_one _ _)
    exact this
  obtain ⟨c3, p3, rfl⟩ := own_form inv.own3 hb1
  have INV := hide inv
  have ANN1 := hide ann1
  have RUN1 := hide run1
  clear inv ann1 run1
  go_wp2
  refine wp_region_held_drew (S := fun w' => w'.cell? ⟨rb, 2, none⟩ = some (.slice (some ⟨g, 0, none⟩) (ts.length + 1) gcap) ∧ w'.rangeAt g (ts.length * 128) (kCells t.h t.v)) (by kernel_rfl) ?_ (fun hHeld => ?_)
  · exact ⟨c2, rg1⟩
  refine wpAnyH_take (i := 0) (oi := ⟨some 15, _, _, _, _, _⟩) (v := .pointer (some ⟨rb, 0, none⟩)) rfl (by kernel_rfl) (by kernel_rfl) (by kernel_rfl) (fun _ _ _ h => h) (Or.inl ⟨by rfl, fun w hSw => by (try dsimp only at hSw); go_simp⟩) hHeld ?_
  simp only [Act.put, List.setIfInBounds_toArray, List.set_cons_zero, List.set_cons_succ]
  refine wpAnyH_take (i := 1) (oi := ⟨some 16, _, _, _, _, _⟩) (v := .pointer (some ⟨rb, 0, none⟩)) rfl (by kernel_rfl) (by kernel_rfl) (by kernel_rfl) (fun _ _ _ h => h) (Or.inl ⟨by rfl, fun w hSw => by (try dsimp only at hSw); go_simp⟩) hHeld ?_
  simp only [Act.put, List.setIfInBounds_toArray, List.set_cons_zero, List.set_cons_succ]
  refine wpAnyH_take (i := 2) (oi := ⟨some 17, _, _, _, _, _⟩) (v := .pointer (some ⟨rb, 2, none⟩)) rfl (by kernel_rfl) (by kernel_rfl) (by kernel_rfl) (fun _ _ _ h => h) (Or.inl ⟨by rfl, fun w hSw => by (try dsimp only at hSw); go_simp⟩) hHeld ?_
  simp only [Act.put, List.setIfInBounds_toArray, List.set_cons_zero, List.set_cons_succ]
  refine wpAnyH_take (i := 3) (oi := ⟨some 18, _, _, _, _, _⟩) (v := .slice (some ⟨g, 0, none⟩) (ts.length + 1) gcap) rfl (by kernel_rfl) (by kernel_rfl) (by kernel_rfl) (fun _ _ _ h => h) (Or.inl ⟨by rfl, fun w hSw => by (try dsimp only at hSw); go_simp⟩) hHeld ?_
  simp only [Act.put, List.setIfInBounds_toArray, List.set_cons_zero, List.set_cons_succ]
  refine wpAnyH_take (i := 4) (oi := ⟨some 19, _, _, _, _, _⟩) (v := .pointer (some ⟨rb, 0, none⟩)) rfl (by kernel_rfl) (by kernel_rfl) (by kernel_rfl) (fun _ _ _ h => h) (Or.inl ⟨by rfl, fun w hSw => by (try dsimp only at hSw); go_simp⟩) hHeld ?_
  simp only [Act.put, List.setIfInBounds_toArray, List.set_cons_zero, List.set_cons_succ]
  refine wpAnyH_take (i := 5) (oi := ⟨some 20, _, _, _, _, _⟩) (v := .pointer (some ⟨rb, 0, none⟩)) rfl (by kernel_rfl) (by kernel_rfl) (by kernel_rfl) (fun _ _ _ h => h) (Or.inl ⟨by rfl, fun w hSw => by (try dsimp only at hSw); go_simp⟩) hHeld ?_
  simp only [Act.put, List.setIfInBounds_toArray, List.set_cons_zero, List.set_cons_succ]
  refine wpAnyH_take (i := 6) (oi := ⟨some 21, _, _, _, _, _⟩) (v := .pointer (some ⟨rb, 2, none⟩)) rfl (by kernel_rfl) (by kernel_rfl) (by kernel_rfl) (fun _ _ _ h => h) (Or.inl ⟨by rfl, fun w hSw => by (try dsimp only at hSw); go_simp⟩) hHeld ?_
  simp only [Act.put, List.setIfInBounds_toArray, List.set_cons_zero, List.set_cons_succ]
  refine wpAnyH_take (i := 7) (oi := ⟨some 22, _, _, _, _, _⟩) (v := .slice (some ⟨g, 0, none⟩) (ts.length + 1) gcap) rfl (by kernel_rfl) (by kernel_rfl) (by kernel_rfl) (fun _ _ _ h => h) (Or.inl ⟨by rfl, fun w hSw => by (try dsimp only at hSw); go_simp⟩) hHeld ?_
  simp only [Act.put, List.setIfInBounds_toArray, List.set_cons_zero, List.set_cons_succ]
  refine wpAnyH_take (i := 8) (oi := ⟨some 23, _, _, _, _, _⟩) (v := .int .i64 ((ts.length + 1 : Nat) : Int)) rfl (by kernel_rfl) (by kernel_rfl) (by kernel_rfl) (fun _ _ _ h => h) (Or.inl ⟨by rfl, fun w hSw => by (try dsimp only at hSw); go_simp⟩) hHeld ?_
  simp only [Act.put, List.setIfInBounds_toArray, List.set_cons_zero, List.set_cons_succ]
  refine wpAnyH_take (i := 9) (oi := ⟨some 24, _, _, _, _, _⟩) (v := .int .i64 (ts.length : Int)) rfl (by kernel_rfl) (by kernel_rfl) (by kernel_rfl) (fun _ _ _ h => h) (Or.inl ⟨by rfl, fun w hSw => by (try dsimp only at hSw); go_simp; exact wrap_len _ hts⟩) hHeld ?_
  simp only [Act.put, List.setIfInBounds_toArray, List.set_cons_zero, List.set_cons_succ]
  refine wpAnyH_take (i := 10) (oi := ⟨some 25, _, _, _, _, _⟩) (v := .pointer (some ⟨g, ts.length * 128, none⟩)) rfl (by kernel_rfl) (by kernel_rfl) (by kernel_rfl) (fun _ _ _ h => h) (Or.inl ⟨by rfl, fun w hSw => by (try dsimp only at hSw); go_simp; intro q; omega⟩) hHeld ?_
  simp only [Act.put, List.setIfInBounds_toArray, List.set_cons_zero, List.set_cons_succ]
  refine wpAnyH_take (i := 11) (oi := ⟨some 26, _, _, _, _, _⟩) (v := .agg (kCells t.h t.v).toArray) rfl (by kernel_rfl) (by kernel_rfl) (by kernel_rfl) (fun _ _ _ h => h) (yieldsIf_load_mid (by rfl) 42 _ rfl g (ts.length * 128) rfl (kCells t.h t.v) _ (fun w hSw => hSw.2) Tryz.underlying42 rfl (kInfo _ _)) hHeld ?_
  simp only [Act.put, List.setIfInBounds_toArray, List.set_cons_zero, List.set_cons_succ]
  refine wpAnyH_all (rs := [12]) (by kernel_rfl) (by simp) (AllReadyH.cons (o := ⟨some 7, .alloc 42, _, _, _, _⟩) rfl (fun K hK => ?_) AllReadyH.nil)
  rw [if_pos (by rfl)]
  go_simp
  refine hK.out _ _ ?_ (fun hHeld2 => ?_)
  · exact ⟨by rw [World.cell?_drew, World.cell?_alloc_past _ _ _ (by omega)]; exact c2, World.rangeAt_alloc rg1 _⟩
  clear hK K
  refine wpAnyH_all (rs := [13]) (by kernel_rfl) (by simp) (AllReadyH.cons (o := ⟨none, .store 42 (.tmp 7) (.tmp 26), _, _, _, _⟩) rfl (fun K hK => ?_) AllReadyH.nil)
  rw [if_pos (by rfl)]
  go_simp
  refine hK.out _ _ ?_ (fun hHeld3 => ?_)
  · exact ⟨by rw [World.cell?_drew, World.cell?_alloc_past _ _ _ (by omega)]; exact c2, World.rangeAt_alloc rg1 _⟩
  clear hK K hHeld hHeld2 hHeld3
  refine wpAnyH_done (by kernel_rfl) ?_ _
  have tb0 : KIn (w1.alloc (.cells (kCells t.h t.v).toArray 42)).drew w1.heap.size 42 t.h t.v [] := by
    unfold KIn; rw [List.append_nil]; exact heap_alloc_last w1 _
  have ANN2 := hide ((unhide ANN1).alloc (.cells (kCells t.h t.v).toArray 42)).drew
  have RUN2 : Hid ((w1.alloc (.cells (kCells t.h t.v).toArray 42)).drew.heap[rb]? = some (.cells r.cells 38 (0, 0))) := (Below.heap_alloc _ _ _ (by omega)).trans (unhide RUN1)
  have INV2 := hide ((unhide INV).alloc (.cells (kCells t.h t.v).toArray 42)).drew
  have hw12 : Hid (∀ j, j < w1.heap.size → (w1.alloc (.cells (kCells t.h t.v).toArray 42)).drew.heap[j]? = w1.heap[j]?) := fun j hj => Below.heap_alloc _ _ _ hj
  obtain ⟨bat1, _, hc3w1, _⟩ := (unhide INV).bat r.a hal
  have BAT1 := hide bat1
  clear bat1
  generalize hw2 : (w1.alloc (.cells (kCells t.h t.v).toArray 42)).drew = w2 at *
  clear ANN1 RUN1 hst hzero rg1 c2
  have hz2 : w1.heap.size < w2.heap.size := tb0.lt
  have w12 : w1.heap.size ≤ w2.heap.size := by omega
  obtain ⟨bat2, hc3, hc3l, hc30⟩ := (unhide INV2).bat r.a hal
  have hcells : r.cells[0]? = some (.pointer (some ⟨r.a, 0, none⟩)) := rfl
  have c0 : w2.cell? ⟨rb, 0, none⟩ = some (.pointer (some ⟨r.a, 0, none⟩)) := by rw [cell_of_row _ _ _ _ _ _ (unhide RUN2)]; rfl
  have hops : ∀ l ∈ bs, ∀ o ∈ l, o.Right ∧ o.Ok := fun l hl o ho => ⟨((unhide INV2).plains l hl o ho).right, ((unhide INV2).plains l hl o ho).right.ok (by have := ((unhide INV2).plains l hl o ho); obtain ⟨_, _, _, _, q, _⟩ := this; omega) (by have := ((unhide INV2).plains l hl o ho); obtain ⟨_, _, _, _, _, q, _⟩ := this; omega)⟩
  have hsm : Small t.v := fun j => by have := hB j; omega
  have HWLT : Hid (∀ g, a.waiting.ownBlock = some g → g < w.heap.size) := fun g hg => (hR.wait.lt g hg).2
  have HNE : Hid (∀ j, w.heap.size ≤ j → some j ≠ a.waiting.ownBlock) := fun j hj e => by have := (unhide HWLT) j e.symm; omega
  have hwrb : some rb ≠ a.waiting.ownBlock := fun e => by
    obtain ⟨cur, e1⟩ := own_type hR.wait e.symm
    have e2 := hR.run
    rw [e1] at e2
    simp at e2
  have wait2 : w2.ownsRow base 9 1 a.waiting n ws := own_same hR.wait (fun g hg => ((unhide hw12) g (by have := (unhide HWLT) g hg; omega)).trans ((unhide INV).below.block g ((unhide HWLT) g hg)))
  have bat2g : ∀ g, a.waiting.ownBlock = some g → BatAt w2 g c3 0 bs ∧ c3 ≠ g := fun g hg => by obtain ⟨x1, x2, _, _⟩ := (unhide INV2).bat g ((unhide HWLT) g hg); exact ⟨x1, x2⟩
  have BAT1G : Hid (∀ g, a.waiting.ownBlock = some g → BatAt w1 g c3 0 bs) := fun g hg => ((unhide INV).bat g ((unhide HWLT) g hg)).1
  have HS := hide (submit_any r.a base t a n ws w2 (unhide ANN2) wait2 (by omega) hsm c3 0 p3 bs bat2 bat2g hops (unhide INV2).lens hc3 hc3l hb1 (by omega) h1 h3 h4 h5)
  clear wait2 bat2g
  clear bat2 hops hcells
  go_wp2_with fail
  refine (unhide HS).mono ?_
  rintro e w3 ⟨q, wv, s9, rfl, hq0, hqb, ann3, own9, hs9, o3⟩
  have tb3 : KIn w3 w1.heap.size 42 t.h t.v [] := tb0.other (o3.block _ hz2 (by omega) ((unhide HNE) _ hz1))
  have run3 : w3.heap[rb]? = some (.cells r.cells 38 (0, 0)) := (o3.block rb (by omega) hrab hwrb).trans (unhide RUN2)
  have hz3 := o3.size
  have OPS := hide (unhide INV2).plains
  have LENS := hide (unhide INV2).lens
  have ANN3 := hide ann3
  have RUN3 := hide run3
  have hql : q < w3.heap.size := (Array.getElem?_eq_some_iff.1 hqb).1
  have HQB := hide hqb
  have O3 := hide o3
  have OWN9 := hide own9
  have HWRB := hide hwrb
  clear HS ann3 run3 hqb o3 c0 own9 hwrb
  have hbl : ((bs.length : Int) == (bs.length : Int)) = true := by simp
  go_wp2
  clear hw2
  go_loopw [10] (fun i wr => ∃ (k : Nat), k ≤ bs.length ∧ i = .int .i64 k ∧ KIn wr w1.heap.size 42 (batDo t (bs.take k)).2.h (batDo t (bs.take k)).2.v [] ∧ Only w1.heap.size w3 wr) (fun i _ => bs.length - (intOf i).toNat)
  case atStart => exact ⟨0, by omega, rfl, tb3, Only.refl _ _⟩
  case round =>
    obtain ⟨k, hk, rfl, kw, ow⟩ := hrel
    have hzw := ow.size
    by_cases hlt : k < bs.length
    · have ho : bs[k]? = some bs[k] := List.getElem?_eq_getElem hlt
      generalize bs[k] = lk at ho
      have hmem := List.mem_of_getElem? ho
      have hsn := batDo_snoc t bs k lk ho
      have hgt := batDo_get t bs k lk ho
      have hbd := batDo_bnd hB hN0 (bs.take k) (fun l hl => (unhide OPS) l (List.mem_of_mem_take hl)) (fun l hl => (unhide LENS) l (List.mem_of_mem_take hl))
      have hkl : (bs.take k).length ≤ 7 := by rw [List.length_take]; omega
      generalize hbk : (batDo t (bs.take k)).2 = tk at *
      obtain ⟨ci, oi, pi, e1, e2, e3, e4⟩ := (unhide BAT1) k lk ho
      have hch : ∀ j, j < w1.heap.size → j ≠ r.a → some j ≠ a.waiting.ownBlock → wr.heap[j]? = w1.heap[j]? := fun j hj hja hjx => (ow.block j (by omega) (by omega)).trans (((unhide O3).block j (by omega) hja hjx).trans ((unhide hw12) j hj))
      have e1w : wr.cell? ⟨c3, k, none⟩ = some (.slice (some ⟨ci, oi, none⟩) lk.length pi) := by
        rw [World.cell?_of_block (w := w1) (a := ⟨c3, k, none⟩) (hch c3 hc3w1 hc3 ((unhide HNE) c3 hc30))]; simpa using e1
      have e2w : OpsAt wr ci oi lk := e2.other (hch ci e4 e3 (fun e => ((unhide BAT1G) ci e.symm).ne ho e1 rfl))
      have hkr := kw.range
      have hpl := (unhide OPS) lk hmem
      have hll := (unhide LENS) lk hmem
      have hdn := fun (W : World) (hW : OpsAt W ci oi lk) (hW2 : ci < W.heap.size) => done_any tk W ci oi pi lk hW hpl hW2 hll.2 (N + 24 * (bs.take k).length) (by omega) (by omega) hbd
      generalize txnDo tk lk = U at hsn hgt hdn
      obtain ⟨okb, tu⟩ := U
      simp only at hsn hgt hdn
      have DONE := hide hdn
      have Hsn := hide hsn
      have Hgt := hide hgt
      have Hbk := hide hbk
      clear hsn hgt hbk e1 e2 hdn
      go_wp2
      refine wp_region_held_drew (S := fun w' => w'.rangeAt w1.heap.size 0 (kCells tk.h tk.v) ∧ w'.cell? ⟨c3, k, none⟩ = some (.slice (some ⟨ci, oi, none⟩) lk.length pi)) (by kernel_rfl) ?_ (fun hHeld => ?_)
      · exact ⟨hkr, e1w⟩
      refine wpAnyH_take (i := 0) (oi := ⟨some 67, _, _, _, _, _⟩) (v := .agg (kCells tk.h tk.v).toArray) rfl (by kernel_rfl) (by kernel_rfl) (by kernel_rfl) (fun _ _ _ h => h) (yieldsIf_load_mid (by rfl) 42 _ rfl w1.heap.size 0 rfl (kCells tk.h tk.v) _ (fun w hSw => hSw.1) Tryz.underlying42 rfl (kInfo _ _)) hHeld ?_
      simp only [Act.put, List.setIfInBounds_toArray, List.set_cons_zero, List.set_cons_succ]
      refine wpAnyH_take (i := 1) (oi := ⟨some 68, _, _, _, _, _⟩) (v := .slice (some ⟨c3, 0, none⟩) bs.length p3) rfl (by kernel_rfl) (by kernel_rfl) (by kernel_rfl) (fun _ _ _ h => h) (Or.inl ⟨by rfl, fun w hSw => by (try dsimp only at hSw); go_simp⟩) hHeld ?_
      simp only [Act.put, List.setIfInBounds_toArray, List.set_cons_zero, List.set_cons_succ]
      refine wpAnyH_take (i := 2) (oi := ⟨some 69, _, _, _, _, _⟩) (v := .int .i64 (k : Int)) rfl (by kernel_rfl) (by kernel_rfl) (by kernel_rfl) (fun _ _ _ h => h) (Or.inl ⟨by rfl, fun w hSw => by (try dsimp only at hSw); go_simp⟩) hHeld ?_
      simp only [Act.put, List.setIfInBounds_toArray, List.set_cons_zero, List.set_cons_succ]
      refine wpAnyH_take (i := 3) (oi := ⟨some 70, _, _, _, _, _⟩) (v := .pointer (some ⟨c3, k, none⟩)) rfl (by kernel_rfl) (by kernel_rfl) (by kernel_rfl) (fun _ _ _ h => h) (Or.inl ⟨by rfl, fun w hSw => by (try dsimp only at hSw); go_simp⟩) hHeld ?_
      simp only [Act.put, List.setIfInBounds_toArray, List.set_cons_zero, List.set_cons_succ]
      refine wpAnyH_take (i := 4) (oi := ⟨some 71, _, _, _, _, _⟩) (v := .slice (some ⟨ci, oi, none⟩) lk.length pi) rfl (by kernel_rfl) (by kernel_rfl) (by kernel_rfl) (fun _ _ _ h => h) (Or.inl ⟨by rfl, fun w hSw => by (try dsimp only at hSw); go_simp⟩) hHeld ?_
      simp only [Act.put, List.setIfInBounds_toArray, List.set_cons_zero, List.set_cons_succ]
      refine wpAnyH_all (rs := [5, 9]) (by kernel_rfl) (by simp) (AllReadyH.cons (o := ⟨some 72, _, _, _, _, _⟩) rfl (fun K hK => ?_) (AllReadyH.cons (o := ⟨some 11, .alloc 42, _, _, _, _⟩) rfl (fun K hK => ?_) AllReadyH.nil))
      · rw [if_pos (by rfl)]
        go_simp
        refine ((unhide DONE) wr.drew e2w (by simp; omega)).mono ?_
        rintro e w5 ⟨rfl, b5⟩
        have b5' : Below wr.heap.size wr w5 := (Below.refl _ wr).drew.trans (show Below wr.heap.size wr.drew w5 from b5)
        have hz5 := b5'.size
        have hkr5 : w5.rangeAt w1.heap.size 0 (kCells tk.h tk.v) := (kw.other (b5'.block _ (by omega))).range
        have e1w5 : w5.cell? ⟨c3, k, none⟩ = some (.slice (some ⟨ci, oi, none⟩) lk.length pi) := by rw [b5'.cell (p := ⟨c3, k, none⟩) (by show c3 < _; omega)]; exact e1w
        refine hK.out _ _ ⟨hkr5, e1w5⟩ (fun hHeld2 => ?_)
        clear hK K b5
        refine wpAnyH_take (i := 6) (oi := ⟨some 66, _, _, _, _, _⟩) (v := .tuple #[.agg (kCells tu.h tu.v).toArray, .bool okb]) rfl (by kernel_rfl) (by kernel_rfl) (by kernel_rfl) (fun _ _ _ h => h) (Or.inl ⟨by rfl, fun w hSw => by (try dsimp only at hSw); go_simp⟩) hHeld2 ?_
        simp only [Act.put, List.setIfInBounds_toArray, List.set_cons_zero, List.set_cons_succ]
        refine wpAnyH_take (i := 7) (oi := ⟨some 73, _, _, _, _, _⟩) (v := .agg (kCells tu.h tu.v).toArray) rfl (by kernel_rfl) (by kernel_rfl) (by kernel_rfl) (fun _ _ _ h => h) (Or.inl ⟨by rfl, fun w hSw => by (try dsimp only at hSw); go_simp⟩) hHeld2 ?_
        simp only [Act.put, List.setIfInBounds_toArray, List.set_cons_zero, List.set_cons_succ]
        refine wpAnyH_take (i := 8) (oi := ⟨some 74, _, _, _, _, _⟩) (v := .bool okb) rfl (by kernel_rfl) (by kernel_rfl) (by kernel_rfl) (fun _ _ _ h => h) (Or.inl ⟨by rfl, fun w hSw => by (try dsimp only at hSw); go_simp⟩) hHeld2 ?_
        simp only [Act.put, List.setIfInBounds_toArray, List.set_cons_zero, List.set_cons_succ]
        have hlU := kCells_length tu.h tu.v
        have hstU : (storeCells ⟨w5.heap.size, 0, none⟩ (kCells tu.h tu.v) 0).run Tryz.prog (w5.alloc (.cells (kCells (fun _ => false) (fun _ => 0)).toArray 42)) = .ok () (w5.alloc (.cells (kCells tu.h tu.v).toArray 42)) := by
          have := run_storeCells_new (P := Tryz.prog) w5 42 (kCells (fun _ => false) (fun _ => 0)).toArray (kCells tu.h tu.v).toArray (by simpa using kInfo tu.h tu.v) (by simp [kCells_length]) (k_one _ _)
          exact this
        have hzero := (zero_of_info kZero).1
        refine wpAnyH_all (rs := [9]) (by kernel_rfl) (by simp) (AllReadyH.cons (o := ⟨some 11, .alloc 42, _, _, _, _⟩) rfl (fun K hK => ?_) AllReadyH.nil)
        rw [if_pos (by rfl)]
        go_simp
        refine hK.out _ _ ⟨World.rangeAt_alloc hkr5 _, by rw [World.cell?_alloc_past _ _ _ (by omega)]; exact e1w5⟩ (fun hHeld3 => ?_)
        clear hK K
        refine wpAnyH_all (rs := [10]) (by kernel_rfl) (by simp) (AllReadyH.cons (o := ⟨none, .store 42 (.tmp 11) (.tmp 73), _, _, _, _⟩) rfl (fun K hK => ?_) AllReadyH.nil)
        rw [if_pos (by rfl)]
        go_simp
        refine hK.out _ _ ⟨World.rangeAt_alloc hkr5 _, by rw [World.cell?_alloc_past _ _ _ (by omega)]; exact e1w5⟩ (fun hHeld4 => ?_)
        clear hK K hHeld2 hHeld3
        refine wpAnyH_take (i := 11) (oi := ⟨some 12, _, _, _, _, _⟩) (v := .bool okb) rfl (by kernel_rfl) (by kernel_rfl) (by kernel_rfl) (fun _ _ _ h => h) (Or.inl ⟨by rfl, fun w hSw => by (try dsimp only at hSw); go_simp⟩) hHeld4 ?_
        simp only [Act.put, List.setIfInBounds_toArray, List.set_cons_zero, List.set_cons_succ]
        refine wpAnyH_done (by kernel_rfl) ?_ _
        have u6 : KIn (w5.alloc (.cells (kCells tu.h tu.v).toArray 42)) w5.heap.size 42 tu.h tu.v [] := by
          unfold KIn; rw [List.append_nil]; exact heap_alloc_last w5 _
        have k6 := (kw.other (b5'.block _ (by omega))).alloc (.cells (kCells tu.h tu.v).toArray 42)
        have b6 := b5'.alloc (by omega) (.cells (kCells tu.h tu.v).toArray 42)
        have hub : w1.heap.size < w5.heap.size := by omega
        generalize w5.heap.size = ub at *
        generalize w5.alloc (.cells (kCells tu.h tu.v).toArray 42) = w6 at *
        have cq : w6.cell? ⟨q, k, none⟩ = some (.bool okb) := by
          have e6 : w6.heap[q]? = some (.cells (((batDo t bs).1).map Value.bool).toArray 4 (0, 0)) := (b6.block q (by omega)).trans ((ow.block q (by omega) (by omega)).trans (unhide HQB))
          rw [cell_of_row _ _ _ _ _ _ e6]
          simp [unhide Hgt]
        have r6 := hide u6.range
        have hst6 := storeK (P := Tryz.prog) k6 tu.h tu.v
        have fin : KIn (w6.setCells w1.heap.size 0 (kCells tu.h tu.v)) w1.heap.size 42 (batDo t (bs.take (k + 1))).2.h (batDo t (bs.take (k + 1))).2.v [] := by
          rw [unhide Hsn]; exact k6.setAll
        have fo : Only w1.heap.size w3 (w6.setCells w1.heap.size 0 (kCells tu.h tu.v)) := Only.setCells _ _ (ow.trans (Only.below b6 (Nat.le_refl _)))
        have FIN := hide fin
        have FO := hide fo
        clear fin fo u6 b6 k6 hHeld4
        clear hR hz hB hrange INV INV2 ANN2 ANN3 RUN2 RUN3 BAT1 O3 OPS LENS hw12 kw ow e1w e2w hkr DONE hpl hll hbd hch HQB Hgt Hbk Hsn hmem ho hHeld
        go_wp2_with fail
        refine wp_load_mid 42 (.tmp 11) rfl ub 0 rfl (kCells tu.h tu.v) _ (unhide r6) Tryz.underlying42 rfl (kInfo _ _) ?_
        go_wp2
        go_roundw
        case rel => exact ⟨k + 1, by omega, by go_num, unhide FIN, unhide FO⟩
        case measure => simp [intOf]; omega
      · rw [if_pos (by rfl)]
        have hzero := (zero_of_info kZero).1
        go_simp
        have zB : KIn (wr.alloc (.cells (kCells (fun _ => false) (fun _ => 0)).toArray 42)).drew wr.heap.size 42 (fun _ => false) (fun _ => 0) [] := by
          unfold KIn; rw [List.append_nil]; exact heap_alloc_last wr _
        have kB : KIn (wr.alloc (.cells (kCells (fun _ => false) (fun _ => 0)).toArray 42)).drew w1.heap.size 42 tk.h tk.v [] := (kw.alloc _).drew
        have eB : (wr.alloc (.cells (kCells (fun _ => false) (fun _ => 0)).toArray 42)).drew.cell? ⟨c3, k, none⟩ = some (.slice (some ⟨ci, oi, none⟩) lk.length pi) := by rw [World.cell?_drew, World.cell?_alloc_past _ _ _ (by omega)]; exact e1w
        have oB : OpsAt (wr.alloc (.cells (kCells (fun _ => false) (fun _ => 0)).toArray 42)).drew ci oi lk := e2w.other (Below.heap_alloc _ _ _ (by omega))
        have bB : Below wr.heap.size wr (wr.alloc (.cells (kCells (fun _ => false) (fun _ => 0)).toArray 42)).drew := ((Below.refl _ wr).alloc (Nat.le_refl _) _).drew
        refine hK.out _ _ ⟨kB.range, eB⟩ (fun hHeld2 => ?_)
        clear hK K
        have hzB : wr.heap.size < (wr.alloc (.cells (kCells (fun _ => false) (fun _ => 0)).toArray 42)).drew.heap.size := zB.lt
        generalize (wr.alloc (.cells (kCells (fun _ => false) (fun _ => 0)).toArray 42)).drew = wB at *
        refine wpAnyH_all (rs := [5]) (by kernel_rfl) (by simp) (AllReadyH.cons (o := ⟨some 72, _, _, _, _, _⟩) rfl (fun K hK => ?_) AllReadyH.nil)
        rw [if_pos (by rfl)]
        go_simp
        refine ((unhide DONE) wB oB (by omega)).mono ?_
        rintro e w5 ⟨rfl, b5⟩
        have b5' : Below wr.heap.size wr w5 := bB.trans (b5.mono (by omega))
        have hz5 := b5.size
        have z5 := zB.other (b5.block _ hzB)
        have k5 := kB.other (b5.block _ (by omega))
        have e1w5 : w5.cell? ⟨c3, k, none⟩ = some (.slice (some ⟨ci, oi, none⟩) lk.length pi) := by rw [b5.cell (p := ⟨c3, k, none⟩) (by show c3 < _; omega)]; exact eB
        refine hK.out _ _ ⟨k5.range, e1w5⟩ (fun hHeld3 => ?_)
        clear hK K b5 hHeld2
        refine wpAnyH_take (i := 6) (oi := ⟨some 66, _, _, _, _, _⟩) (v := .tuple #[.agg (kCells tu.h tu.v).toArray, .bool okb]) rfl (by kernel_rfl) (by kernel_rfl) (by kernel_rfl) (fun _ _ _ h => h) (Or.inl ⟨by rfl, fun w hSw => by (try dsimp only at hSw); go_simp⟩) hHeld3 ?_
        simp only [Act.put, List.setIfInBounds_toArray, List.set_cons_zero, List.set_cons_succ]
        refine wpAnyH_take (i := 7) (oi := ⟨some 73, _, _, _, _, _⟩) (v := .agg (kCells tu.h tu.v).toArray) rfl (by kernel_rfl) (by kernel_rfl) (by kernel_rfl) (fun _ _ _ h => h) (Or.inl ⟨by rfl, fun w hSw => by (try dsimp only at hSw); go_simp⟩) hHeld3 ?_
        simp only [Act.put, List.setIfInBounds_toArray, List.set_cons_zero, List.set_cons_succ]
        refine wpAnyH_take (i := 8) (oi := ⟨some 74, _, _, _, _, _⟩) (v := .bool okb) rfl (by kernel_rfl) (by kernel_rfl) (by kernel_rfl) (fun _ _ _ h => h) (Or.inl ⟨by rfl, fun w hSw => by (try dsimp only at hSw); go_simp⟩) hHeld3 ?_
        simp only [Act.put, List.setIfInBounds_toArray, List.set_cons_zero, List.set_cons_succ]
        have hlU := kCells_length tu.h tu.v
        have hstU := storeK (P := Tryz.prog) z5 tu.h tu.v
        have u6 := z5.setAll (h' := tu.h) (v' := tu.v)
        have k6 := k5.other (heap_setCells_other wr.heap.size (kCells tu.h tu.v) 0 w5 w1.heap.size (by omega))
        have e6 : (w5.setCells wr.heap.size 0 (kCells tu.h tu.v)).cell? ⟨c3, k, none⟩ = some (.slice (some ⟨ci, oi, none⟩) lk.length pi) := by
          rw [World.cell?_of_block (w := w5) (a := ⟨c3, k, none⟩) (heap_setCells_other wr.heap.size (kCells tu.h tu.v) 0 w5 c3 (by omega))]; exact e1w5
        have b6 : Below wr.heap.size wr (w5.setCells wr.heap.size 0 (kCells tu.h tu.v)) := b5'.trans ((Only.setCells (b := wr.heap.size) (kCells tu.h tu.v) 0 (Only.refl _ w5)).toBelow' (Nat.le_refl _) (by omega))
        have hub : w1.heap.size < wr.heap.size := by omega
        clear hzero
        generalize w5.setCells wr.heap.size 0 (kCells tu.h tu.v) = w6 at *
        have hubz := hide (Nat.le_refl wr.heap.size)
        refine wpAnyH_all (rs := [10]) (by kernel_rfl) (by simp) (AllReadyH.cons (o := ⟨none, .store 42 (.tmp 11) (.tmp 73), _, _, _, _⟩) rfl (fun K hK => ?_) AllReadyH.nil)
        rw [if_pos (by rfl)]
        go_simp
        refine hK.out _ _ ⟨k6.range, e6⟩ (fun hHeld4 => ?_)
        clear hK K hHeld3
        refine wpAnyH_take (i := 11) (oi := ⟨some 12, _, _, _, _, _⟩) (v := .bool okb) rfl (by kernel_rfl) (by kernel_rfl) (by kernel_rfl) (fun _ _ _ h => h) (Or.inl ⟨by rfl, fun w hSw => by (try dsimp only at hSw); go_simp⟩) hHeld4 ?_
        simp only [Act.put, List.setIfInBounds_toArray, List.set_cons_zero, List.set_cons_succ]
        refine wpAnyH_done (by kernel_rfl) ?_ _
        have cq : w6.cell? ⟨q, k, none⟩ = some (.bool okb) := by
          have e6 : w6.heap[q]? = some (.cells (((batDo t bs).1).map Value.bool).toArray 4 (0, 0)) := (b6.block q (by omega)).trans ((ow.block q (by omega) (by omega)).trans (unhide HQB))
          rw [cell_of_row _ _ _ _ _ _ e6]
          simp [unhide Hgt]
        have r6 := hide u6.range
        have hst6 := storeK (P := Tryz.prog) k6 tu.h tu.v
        have fin : KIn (w6.setCells w1.heap.size 0 (kCells tu.h tu.v)) w1.heap.size 42 (batDo t (bs.take (k + 1))).2.h (batDo t (bs.take (k + 1))).2.v [] := by
          rw [unhide Hsn]; exact k6.setAll
        have fo : Only w1.heap.size w3 (w6.setCells w1.heap.size 0 (kCells tu.h tu.v)) := Only.setCells _ _ (ow.trans (Only.below b6 (Nat.le_refl _)))
        have FIN := hide fin
        have FO := hide fo
        clear fin fo u6 b6 k6 hHeld4
        clear hR hz hB hrange INV INV2 ANN2 ANN3 RUN2 RUN3 BAT1 O3 OPS LENS hw12 kw ow e1w e2w hkr DONE hpl hll hbd hch HQB Hgt Hbk Hsn hmem ho hHeld
        go_wp2_with fail
        refine wp_load_mid 42 (.tmp 11) rfl wr.heap.size 0 rfl (kCells tu.h tu.v) _ (unhide r6) Tryz.underlying42 rfl (kInfo _ _) ?_
        go_wp2
        go_roundw
        case rel => exact ⟨k + 1, by omega, by go_num, unhide FIN, unhide FO⟩
        case measure => simp [intOf]; omega
    · obtain rfl : k = bs.length := by omega
      rw [List.take_length] at kw
      have hbd := batDo_bnd hB hN0 bs (unhide OPS) (unhide LENS)
      have ANN := hide ((unhide ANN3).other (w' := wr) (ow.block r.a (by omega) (by omega)))
      have RUN := hide ((ow.block rb (by omega) (by omega)).trans (unhide RUN3))
      generalize (batDo t bs).2 = tp at kw hbd ANN
      have hga : g ≠ r.a := by
        intro h
        obtain ⟨cur, e1⟩ := own_type hR.own (k := g) (by rw [hv]; rfl)
        have e2 := hR.ann
        unfold AnnIn TabIn at e2
        rw [← h, e1] at e2
        simp at e2
      have hgrb : g ≠ rb := by
        intro h
        obtain ⟨cur, e1⟩ := own_type hR.own (k := g) (by rw [hv]; rfl)
        have e2 := hR.run
        rw [← h, e1] at e2
        simp at e2
      have hall : ∀ j, j < w.heap.size → j ≠ r.a → some j ≠ a.waiting.ownBlock → wr.heap[j]? = w.heap[j]? := fun j hj hja hjx => (ow.block j (by omega) (by omega)).trans (((unhide O3).block j (by omega) hja hjx).trans (((unhide hw12) j (by omega)).trans ((unhide INV).below.block j hj)))
      have hgx : some g ≠ a.waiting.ownBlock := fun e => by
        obtain ⟨cur, e1⟩ := own_type hR.own (k := g) (by rw [hv]; rfl)
        obtain ⟨cur2, e2⟩ := own_type hR.wait e.symm
        rw [e1] at e2
        simp at e2
      have hown : wr.ownsRow base 42 128 (.slice (some ⟨g, 0, none⟩) (ts.length + 1) gcap) (ts.length + 1) (kFlat (ts ++ [t])) := by
        have := own_same (w' := wr) hR.own (fun g' hg' => by
          rw [hv] at hg'
          simp [Value.ownBlock] at hg'
          subst hg'
          exact hall _ hg1 hga hgx)
        rwa [hv] at this
      have WAITR : Hid (wr.ownsRow base 9 1 wv (n + 1) (ws ++ [.string s9])) := own_same (unhide OWN9) (fun x hx => ow.block x ((unhide OWN9).lt x hx).2 (fun e => by
        obtain ⟨cur, e1⟩ := own_type (unhide OWN9) hx
        have e2 := tb3
        unfold KIn at e2
        rw [← e, e1] at e2
        simp at e2))
      have HWX : Hid (∀ x, wv.ownBlock = some x → x < wr.heap.size ∧ x ≠ g ∧ x ≠ rb) := fun x hx => by
        obtain ⟨cur, e1⟩ := own_type (unhide WAITR) hx
        refine ⟨((unhide WAITR).lt x hx).2, ?_, ?_⟩
        · intro e
          obtain ⟨cur2, e2⟩ := own_type hown (k := g) rfl
          rw [← e, e1] at e2
          simp at e2
        · intro e
          have e2 := unhide RUN
          rw [← e, e1] at e2
          simp at e2
      have c2w : wr.cell? ⟨rb, 2, none⟩ = some (.slice (some ⟨g, 0, none⟩) (ts.length + 1) gcap) := by rw [cell_of_row _ _ _ _ _ _ (unhide RUN), ← hv]; rfl
      obtain ⟨ik, hik, hik0, hik1, hik2⟩ := info_parts kInfo3
      have IK := hide hik
      have IK0 := hide hik0
      have IK1 := hide hik1
      have IK2 := hide hik2
      have BELOW := hide (show Below base w wr from ⟨ow.os.trans ((unhide O3).os.trans ((unhide INV2).below.os)), ow.tape.trans ((unhide O3).tape.trans ((unhide INV2).below.tape)), ow.output.trans ((unhide O3).output.trans ((unhide INV2).below.output)), by omega, fun j hj => hall j (by omega) (by have := hR.b1; omega) (fun e => by have := (hR.wait.lt j e.symm).1; omega)⟩)
      have hkr := kw.range
      have HALL := hide hall
      have HOWN := hide hown
      clear hik hik0 hik1 hik2 hall hown
      go_wp2
      refine wp_region_held_drew (S := fun w' => w'.rangeAt w1.heap.size 0 (kCells tp.h tp.v)) (by kernel_rfl) ?_ (fun hHeld => ?_)
      · exact hkr
      refine wpAnyH_take (i := 0) (oi := ⟨some 82, _, _, _, _, _⟩) (v := .pointer (some ⟨rb, 0, none⟩)) rfl (by kernel_rfl) (by kernel_rfl) (by kernel_rfl) (fun _ _ _ h => h) (Or.inl ⟨by rfl, fun w hSw => by (try dsimp only at hSw); go_simp⟩) hHeld ?_
      simp only [Act.put, List.setIfInBounds_toArray, List.set_cons_zero, List.set_cons_succ]
      refine wpAnyH_take (i := 1) (oi := ⟨some 83, _, _, _, _, _⟩) (v := .pointer (some ⟨rb, 0, none⟩)) rfl (by kernel_rfl) (by kernel_rfl) (by kernel_rfl) (fun _ _ _ h => h) (Or.inl ⟨by rfl, fun w hSw => by (try dsimp only at hSw); go_simp⟩) hHeld ?_
      simp only [Act.put, List.setIfInBounds_toArray, List.set_cons_zero, List.set_cons_succ]
      refine wpAnyH_take (i := 2) (oi := ⟨some 84, _, _, _, _, _⟩) (v := .pointer (some ⟨rb, 0, none⟩)) rfl (by kernel_rfl) (by kernel_rfl) (by kernel_rfl) (fun _ _ _ h => h) (Or.inl ⟨by rfl, fun w hSw => by (try dsimp only at hSw); go_simp⟩) hHeld ?_
      simp only [Act.put, List.setIfInBounds_toArray, List.set_cons_zero, List.set_cons_succ]
      refine wpAnyH_take (i := 3) (oi := ⟨some 85, _, _, _, _, _⟩) (v := .pointer (some ⟨rb, 2, none⟩)) rfl (by kernel_rfl) (by kernel_rfl) (by kernel_rfl) (fun _ _ _ h => h) (Or.inl ⟨by rfl, fun w hSw => by (try dsimp only at hSw); go_simp⟩) hHeld ?_
      simp only [Act.put, List.setIfInBounds_toArray, List.set_cons_zero, List.set_cons_succ]
      refine wpAnyH_take (i := 5) (oi := ⟨some 87, _, _, _, _, _⟩) (v := .agg (kCells tp.h tp.v).toArray) rfl (by kernel_rfl) (by kernel_rfl) (by kernel_rfl) (fun _ _ _ h => h) (yieldsIf_load_mid (by rfl) 42 _ rfl w1.heap.size 0 rfl (kCells tp.h tp.v) _ (fun w hSw => hSw) Tryz.underlying42 rfl (kInfo _ _)) hHeld ?_
      simp only [Act.put, List.setIfInBounds_toArray, List.set_cons_zero, List.set_cons_succ]
      have hrbw : rb < wr.heap.size := by omega
      have hbs : ∀ (W : World) (A : Act) (K : Act → World → Prop) (Q : Exit → Act → World → Prop) (o : Oper), o.op = .buildSlice 36 1 #[(0, .tmp 87)] → A.eval (.tmp 87) = .agg (kCells tp.h tp.v).toArray → K (A.put o.dst (.slice (some ⟨W.heap.size, 0, none⟩) 1 1)) (W.alloc (.cells (kCells tp.h tp.v).toArray 42)) → o.wp Tryz.prog A W K Q := by
        intro W A K Q o ho he hK
        refine wp_buildSlice 36 42 1 _ ho (kCells tp.h tp.v).toArray ik _ Tryz.underlying36 (unhide IK) (unhide IK0) (by rw [unhide IK1]; decide) (by rw [unhide IK1]; decide) ?_ hK
        simp only [List.map_toArray, List.map_cons, List.map_nil, he, unhide IK1]
        exact fill_one 128 _ _ (by simp) (kCells_length _ _)
      have BS := hide hbs
      clear hbs
      refine wpAnyH_all (rs := [4, 6]) (by kernel_rfl) (by simp) (AllReadyH.cons (o := ⟨some 86, _, _, _, _, _⟩) rfl (fun K hK => ?_) (AllReadyH.cons (o := ⟨some 88, _, _, _, _, _⟩) rfl (fun K hK => ?_) AllReadyH.nil))
      · rw [if_pos (by rfl)]
        go_simp
        refine hK.out _ _ hkr (fun hHeld2 => ?_)
        clear hK K hHeld
        refine wpAnyH_all (rs := [6]) (by kernel_rfl) (by simp) (AllReadyH.cons (o := ⟨some 88, _, _, _, _, _⟩) rfl (fun K hK => ?_) AllReadyH.nil)
        rw [if_pos (by rfl)]
        refine (unhide BS) _ _ _ _ _ rfl rfl ?_
        refine hK.out _ _ (World.rangeAt_alloc hkr _) (fun hHeld3 => ?_)
        clear hK K hHeld2
        simp only [Act.put, List.setIfInBounds_toArray, List.set_cons_zero, List.set_cons_succ]
        have hlw : base ≤ wr.heap.size := by omega
        have ownA := hide (((unhide HOWN).alloc (.cells (kCells tp.h tp.v).toArray 42)))
        refine wpAnyH_all (rs := [7]) (by kernel_rfl) (by simp) (AllReadyH.cons (o := ⟨some 89, _, _, _, _, _⟩) rfl (fun K hK => ?_) AllReadyH.nil)
        rw [if_pos (by rfl)]
        refine wp_append_own _ (.tmp 86) (.tmp 88) 36 rfl base 42 ik _ 128 576 Tryz.underlying36 (unhide IK) (unhide IK0) (unhide IK1) (unhide IK2) (by simp [Value.cells, kCells_length]) (by decide) _ _ _ rfl (unhide ownA) ⟨wr.heap.size, 0, none⟩ 1 1 (kCells tp.h tp.v) rfl (by simp [kCells_length]) ?_ ?_ (by unfold maxLen; omega) (by omega) (by simp; omega) ?_
        · intro j u hj
          show (wr.alloc (.cells (kCells tp.h tp.v).toArray 42)).cell? _ = some u
          rw [Addr.add_mid, Nat.zero_add, World.cell?_alloc_at _ _ _ _ rfl]
          simpa using hj
        · exact fun u hu => (Array.all_eq_true_iff_forall_mem.1 (k_one tp.h tp.v)) u (by simpa using hu)
        intro v' w7 own7 gr7 _
        have gr7' : (wr.alloc (.cells (kCells tp.h tp.v).toArray 42)).grownBy w7 (some g) := ⟨gr7.os, gr7.tape, gr7.output, gr7.size, gr7.block⟩
        have hal7 : ∀ j, j < wr.heap.size → j ≠ g → w7.heap[j]? = wr.heap[j]? := fun j hj hjg => (gr7'.block j (by simp; omega) (by simpa using hjg)).trans (Below.heap_alloc _ _ _ hj)
        have hz7 : wr.heap.size ≤ w7.heap.size := by have := gr7'.size; simp at this; omega
        have k7 := kw.other (hal7 _ (by omega) (by omega))
        have run7 : w7.heap[rb]? = some (.cells r.cells 38 (0, 0)) := (hal7 rb hrbw (fun h => hgrb h.symm)).trans (unhide RUN)
        have c27 : w7.cell? ⟨rb, 2, none⟩ = some (.slice (some ⟨g, 0, none⟩) (ts.length + 1) gcap) := by rw [cell_of_row _ _ _ _ _ _ run7, ← hv]; rfl
        have f27 : w7.frozen? ⟨rb, 2, none⟩ = false := frozen_of_row _ _ _ _ _ run7
        obtain ⟨g7, p7, rfl⟩ := own_form own7 (by omega)
        refine hK.out _ _ k7.range (fun hHeld4 => ?_)
        clear hK K hHeld3
        simp only [Act.put, List.setIfInBounds_toArray, List.set_cons_zero, List.set_cons_succ]
        refine wpAnyH_take (i := 8) (oi := ⟨some 90, _, _, _, _, _⟩) (v := .pointer (some ⟨rb, 0, none⟩)) rfl (by kernel_rfl) (by kernel_rfl) (by kernel_rfl) (fun _ _ _ h => h) (Or.inl ⟨by rfl, fun w hSw => by (try dsimp only at hSw); go_simp⟩) hHeld4 ?_
        simp only [Act.put, List.setIfInBounds_toArray, List.set_cons_zero, List.set_cons_succ]
        refine wpAnyH_take (i := 9) (oi := ⟨some 91, _, _, _, _, _⟩) (v := .pointer (some ⟨rb, 2, none⟩)) rfl (by kernel_rfl) (by kernel_rfl) (by kernel_rfl) (fun _ _ _ h => h) (Or.inl ⟨by rfl, fun w hSw => by (try dsimp only at hSw); go_simp⟩) hHeld4 ?_
        simp only [Act.put, List.setIfInBounds_toArray, List.set_cons_zero, List.set_cons_succ]
        refine wpAnyH_all (rs := [10]) (by kernel_rfl) (by simp) (AllReadyH.cons (o := ⟨none, _, _, _, _, _⟩) rfl (fun K hK => ?_) AllReadyH.nil)
        rw [if_pos (by rfl)]
        go_simp
        have hs7 : (w7.setCell ⟨rb, 2, none⟩ (.slice (some ⟨g7, 0, none⟩) (ts.length + 1 + 1) p7)).heap[w1.heap.size]? = w7.heap[w1.heap.size]? := Below.heap_setCell _ _ _ _ (by simp; omega)
        refine hK.out _ _ (k7.other hs7).range (fun hHeld5 => ?_)
        clear hK K hHeld4 hHeld5
        refine wpAnyH_done (by kernel_rfl) ?_ _
        have hrun8 := heap_setCell_same w7 rb 2 _ _ (.slice (some ⟨g7, 0, none⟩) (ts.length + 1 + 1) p7) run7
        have hg7 : g7 ≠ rb := by
          intro h
          obtain ⟨cur, e1⟩ := own_type own7 (k := g7) rfl
          rw [h, run7] at e1
          simp at e1
        have hoth : ∀ j, j ≠ rb → (w7.setCell ⟨rb, 2, none⟩ (.slice (some ⟨g7, 0, none⟩) (ts.length + 1 + 1) p7)).heap[j]? = w7.heap[j]? := fun j hj => Below.heap_setCell _ _ _ _ hj
        have fin : KSPost w base rb r ts t a n ws N (.returned (.tuple #[.bool true, .bool true])) (w7.setCell ⟨rb, 2, none⟩ (.slice (some ⟨g7, 0, none⟩) (ts.length + 1 + 1) p7)) := by
          refine ⟨.slice (some ⟨g7, 0, none⟩) (ts.length + 1 + 1) p7, tp, wv, s9, rfl, ⟨?_, hR.b0, hR.b1, ?_, ?_, ?_⟩, hs9, hbd.mono (by omega), ?_, ?_⟩
          · rw [hrun8]; rfl
          · have hk8 : w7.grownBy (w7.setCell ⟨rb, 2, none⟩ (.slice (some ⟨g7, 0, none⟩) (ts.length + 1 + 1) p7)) (some rb) := ⟨rfl, rfl, rfl, by simp [World.setCell], fun j hj hne => hoth j (fun h => hne (by rw [h]))⟩
            have := own7.kept hk8 (.inr (by simp [Value.ownBlock]; exact hg7))
            rw [kFlat_snoc (ts ++ [t]) tp]
            simpa using this
          · exact (unhide ANN).other ((hoth r.a (fun h => hrab h.symm)).trans (hal7 r.a (by omega) (fun h => hga h.symm)))
          · exact own_same (unhide WAITR) (fun x hx => (hoth x ((unhide HWX) x hx).2.2).trans (hal7 x ((unhide HWX) x hx).1 ((unhide HWX) x hx).2.1))
          · have hb7 : Below base wr w7 := ⟨gr7'.os, gr7'.tape, gr7'.output, hz7, fun j hj => hal7 j (by omega) (by omega)⟩
            exact ((unhide BELOW).trans hb7).setCell (hR.b0) _
          · intro j hj h1 h2 h3 h6
            exact (hoth j h1).trans ((hal7 j (by omega) (fun h => h3 (by rw [hv, h]; rfl))).trans ((unhide HALL) j hj h2 h6))
        have FIN := hide fin
        clear fin
        go_wp2
        go_ret2
        exact unhide FIN
      · rw [if_pos (by rfl)]
        refine (unhide BS) _ _ _ _ _ rfl rfl ?_
        refine hK.out _ _ (World.rangeAt_alloc hkr _) (fun hHeld2 => ?_)
        clear hK K hHeld
        simp only [Act.put, List.setIfInBounds_toArray, List.set_cons_zero, List.set_cons_succ]
        have c2a : (wr.drew.alloc (.cells (kCells tp.h tp.v).toArray 42)).cell? ⟨rb, 2, none⟩ = some (.slice (some ⟨g, 0, none⟩) (ts.length + 1) gcap) := by rw [World.cell?_alloc_past _ _ _ (by simp; omega)]; exact c2w
        refine wpAnyH_all (rs := [4]) (by kernel_rfl) (by simp) (AllReadyH.cons (o := ⟨some 86, _, _, _, _, _⟩) rfl (fun K hK => ?_) AllReadyH.nil)
        rw [if_pos (by rfl)]
        go_simp
        refine hK.out _ _ (World.rangeAt_alloc hkr _) (fun hHeld3 => ?_)
        clear hK K hHeld2
        have hlw : base ≤ wr.heap.size := by omega
        have ownA := hide (((unhide HOWN).alloc (.cells (kCells tp.h tp.v).toArray 42)))
        refine wpAnyH_all (rs := [7]) (by kernel_rfl) (by simp) (AllReadyH.cons (o := ⟨some 89, _, _, _, _, _⟩) rfl (fun K hK => ?_) AllReadyH.nil)
        rw [if_pos (by rfl)]
        refine wp_append_own _ (.tmp 86) (.tmp 88) 36 rfl base 42 ik _ 128 576 Tryz.underlying36 (unhide IK) (unhide IK0) (unhide IK1) (unhide IK2) (by simp [Value.cells, kCells_length]) (by decide) _ _ _ rfl (unhide ownA) ⟨wr.heap.size, 0, none⟩ 1 1 (kCells tp.h tp.v) rfl (by simp [kCells_length]) ?_ ?_ (by unfold maxLen; omega) (by omega) (by simp; omega) ?_
        · intro j u hj
          show (wr.alloc (.cells (kCells tp.h tp.v).toArray 42)).cell? _ = some u
          rw [Addr.add_mid, Nat.zero_add, World.cell?_alloc_at _ _ _ _ rfl]
          simpa using hj
        · exact fun u hu => (Array.all_eq_true_iff_forall_mem.1 (k_one tp.h tp.v)) u (by simpa using hu)
        intro v' w7 own7 gr7 _
        have gr7' : (wr.alloc (.cells (kCells tp.h tp.v).toArray 42)).grownBy w7 (some g) := ⟨gr7.os, gr7.tape, gr7.output, gr7.size, gr7.block⟩
        have hal7 : ∀ j, j < wr.heap.size → j ≠ g → w7.heap[j]? = wr.heap[j]? := fun j hj hjg => (gr7'.block j (by simp; omega) (by simpa using hjg)).trans (Below.heap_alloc _ _ _ hj)
        have hz7 : wr.heap.size ≤ w7.heap.size := by have := gr7'.size; simp at this; omega
        have k7 := kw.other (hal7 _ (by omega) (by omega))
        have run7 : w7.heap[rb]? = some (.cells r.cells 38 (0, 0)) := (hal7 rb hrbw (fun h => hgrb h.symm)).trans (unhide RUN)
        have c27 : w7.cell? ⟨rb, 2, none⟩ = some (.slice (some ⟨g, 0, none⟩) (ts.length + 1) gcap) := by rw [cell_of_row _ _ _ _ _ _ run7, ← hv]; rfl
        have f27 : w7.frozen? ⟨rb, 2, none⟩ = false := frozen_of_row _ _ _ _ _ run7
        obtain ⟨g7, p7, rfl⟩ := own_form own7 (by omega)
        refine hK.out _ _ k7.range (fun hHeld4 => ?_)
        clear hK K hHeld3
        simp only [Act.put, List.setIfInBounds_toArray, List.set_cons_zero, List.set_cons_succ]
        refine wpAnyH_take (i := 8) (oi := ⟨some 90, _, _, _, _, _⟩) (v := .pointer (some ⟨rb, 0, none⟩)) rfl (by kernel_rfl) (by kernel_rfl) (by kernel_rfl) (fun _ _ _ h => h) (Or.inl ⟨by rfl, fun w hSw => by (try dsimp only at hSw); go_simp⟩) hHeld4 ?_
        simp only [Act.put, List.setIfInBounds_toArray, List.set_cons_zero, List.set_cons_succ]
        refine wpAnyH_take (i := 9) (oi := ⟨some 91, _, _, _, _, _⟩) (v := .pointer (some ⟨rb, 2, none⟩)) rfl (by kernel_rfl) (by kernel_rfl) (by kernel_rfl) (fun _ _ _ h => h) (Or.inl ⟨by rfl, fun w hSw => by (try dsimp only at hSw); go_simp⟩) hHeld4 ?_
        simp only [Act.put, List.setIfInBounds_toArray, List.set_cons_zero, List.set_cons_succ]
        refine wpAnyH_all (rs := [10]) (by kernel_rfl) (by simp) (AllReadyH.cons (o := ⟨none, _, _, _, _, _⟩) rfl (fun K hK => ?_) AllReadyH.nil)
        rw [if_pos (by rfl)]
        go_simp
        have hs7 : (w7.setCell ⟨rb, 2, none⟩ (.slice (some ⟨g7, 0, none⟩) (ts.length + 1 + 1) p7)).heap[w1.heap.size]? = w7.heap[w1.heap.size]? := Below.heap_setCell _ _ _ _ (by simp; omega)
        refine hK.out _ _ (k7.other hs7).range (fun hHeld5 => ?_)
        clear hK K hHeld4 hHeld5
        refine wpAnyH_done (by kernel_rfl) ?_ _
        have hrun8 := heap_setCell_same w7 rb 2 _ _ (.slice (some ⟨g7, 0, none⟩) (ts.length + 1 + 1) p7) run7
        have hg7 : g7 ≠ rb := by
          intro h
          obtain ⟨cur, e1⟩ := own_type own7 (k := g7) rfl
          rw [h, run7] at e1
          simp at e1
        have hoth : ∀ j, j ≠ rb → (w7.setCell ⟨rb, 2, none⟩ (.slice (some ⟨g7, 0, none⟩) (ts.length + 1 + 1) p7)).heap[j]? = w7.heap[j]? := fun j hj => Below.heap_setCell _ _ _ _ hj
        have fin : KSPost w base rb r ts t a n ws N (.returned (.tuple #[.bool true, .bool true])) (w7.setCell ⟨rb, 2, none⟩ (.slice (some ⟨g7, 0, none⟩) (ts.length + 1 + 1) p7)) := by
          refine ⟨.slice (some ⟨g7, 0, none⟩) (ts.length + 1 + 1) p7, tp, wv, s9, rfl, ⟨?_, hR.b0, hR.b1, ?_, ?_, ?_⟩, hs9, hbd.mono (by omega), ?_, ?_⟩
          · rw [hrun8]; rfl
          · have hk8 : w7.grownBy (w7.setCell ⟨rb, 2, none⟩ (.slice (some ⟨g7, 0, none⟩) (ts.length + 1 + 1) p7)) (some rb) := ⟨rfl, rfl, rfl, by simp [World.setCell], fun j hj hne => hoth j (fun h => hne (by rw [h]))⟩
            have := own7.kept hk8 (.inr (by simp [Value.ownBlock]; exact hg7))
            rw [kFlat_snoc (ts ++ [t]) tp]
            simpa using this
          · exact (unhide ANN).other ((hoth r.a (fun h => hrab h.symm)).trans (hal7 r.a (by omega) (fun h => hga h.symm)))
          · exact own_same (unhide WAITR) (fun x hx => (hoth x ((unhide HWX) x hx).2.2).trans (hal7 x ((unhide HWX) x hx).1 ((unhide HWX) x hx).2.1))
          · have hb7 : Below base wr w7 := ⟨gr7'.os, gr7'.tape, gr7'.output, hz7, fun j hj => hal7 j (by omega) (by omega)⟩
            exact ((unhide BELOW).trans hb7).setCell (hR.b0) _
          · intro j hj h1 h2 h3 h6
            exact (hoth j h1).trans ((hal7 j (by omega) (fun h => h3 (by rw [hv, h]; rfl))).trans ((unhide HALL) j hj h2 h6))
        have FIN := hide fin
        clear fin
        go_wp2
        go_ret2
        exact unhide FIN
end Go.Proofs.YthdffenpkdbejaaGreatDoor

import Derived.Test.YthdffenpkdbejaaGreatDoorKeepA
import Derived.Test.YthdffenpkdbejaaGreatDoorKeepC
import Derived.Laws.ResultCell
namespace Go.Proofs.YthdffenpkdbejaaGreatDoor
open Go.RowKit

/-- all values are 0 to N -/
def Bnd (t : Tab) (N : Int) : Prop := ∀ j, 0 ≤ t.v j ∧ t.v j ≤ N
theorem Bnd.mono {t : Tab} {N M : Int} (h : Bnd t N) (hm : N ≤ M) : Bnd t M := fun j => ⟨(h j).1, Int.le_trans (h j).2 hm⟩
theorem Bnd.upd {t : Tab} {N : Int} (h : Bnd t N) (k : Nat) (x : Int) (hh : Nat → Bool) (h0 : 0 ≤ x) (h1 : x ≤ N) : Bnd ⟨hh, Go.Proofs.YthdffenpkdbejaaGreatDoor.upd t.v k x⟩ N := by
  intro j
  unfold Go.Proofs.YthdffenpkdbejaaGreatDoor.upd
  simp only
  split
  · exact ⟨h0, h1⟩
  · exact h j
theorem opDo_bnd {t : Tab} {N : Int} (h : Bnd t N) (o : TOp) (ho : o.Plain) (hN : 0 ≤ N) : Bnd (opDo t o).2 (N + 3) := by
  obtain ⟨p1, p2, p3, p4, p5, p6, p7, p8⟩ := ho
  have hk := h o.k.toNat
  have hb := h.mono (by omega : N ≤ N + 3)
  unfold opDo
  split
  · exact hb.upd _ _ _ p5 (by omega)
  split
  · exact hb.upd _ _ _ (by omega) (by omega)
  split
  · split
    · exact hb.upd _ _ _ (by omega) (by omega)
    · exact hb
  split
  · exact hb
  split
  · exact hb
  split
  · omega
  · exact hb
theorem Bnd.fits {t : Tab} {N : Int} (h : Bnd t N) (k : Nat) (a : Int) (h0 : 0 ≤ a) (h3 : a ≤ 3) (hN : N ≤ 9223372036854775800) : fitsB (t.v k) a = true := by
  have := h k
  simp [fitsB]; omega

theorem Only.toBelow' {b B : Nat} {x w : World} (h : Only b x w) (hb : B ≤ b) (hB : B ≤ x.heap.size) : Below B x w :=
  ⟨h.os, h.tape, h.output, h.size, fun k hk => h.block k (by omega) (by omega)⟩

/-- what done hands back -/
theorem done_ret {P : Program} {fn : Func} {R : Ending → World → Prop} {a : Act} {w : World} (p u : Tmp) (ty : TypeId) (hr : fn.results = #[.cell p ty, .tmp u]) (b : Nat) (h : Nat → Bool) (v : Nat → Int) (ok : Bool) (d : TypeDesc)
    (hp : a.tmps.getD p undef = .pointer (some ⟨b, 0, none⟩)) (hu : a.tmps.getD u undef = .bool ok) (hk : KIn w b ty h v []) (hdesc : P.underlying ty = some d) (hrow : d.isRow = true) (hi : (P.info? ty).map (·.size) = some (kCells h v).length)
    (hd : a.defers = []) (hR : R (.returned (.tuple #[.agg (kCells h v).toArray, .bool ok])) w) : bodyPost P fn R .ret a w := by
  refine bodyPost_ret (v := .tuple #[.agg (kCells h v).toArray, .bool ok]) ?_ hd hR
  rw [results_cell_tmp hr]
  rw [hp, hu]
  simp [asAddr, run_loadVar_mid w b 0 ty (kCells h v) d hk.range hdesc hrow hi]

set_option maxRecDepth 100000 in
set_option maxHeartbeats 4000000 in
theorem done_any (t : Tab) (w : World) (c off cap : Nat) (l : List TOp) (hl : OpsAt w c off l) (hok : ∀ o ∈ l, o.Plain) (hcl : c < w.heap.size) (hn : l.length ≤ 8) (N : Int) (hN0 : 0 ≤ N) (hN : N ≤ 9223372036854775000) (hB : Bnd t N) :
    Calls Tryz.prog 44 #[.agg (kCells t.h t.v).toArray, .slice (some ⟨c, off, none⟩) l.length cap] w fun e w' =>
      e = .returned (.tuple #[.agg (kCells (txnDo t l).2.h (txnDo t l).2.v).toArray, .bool (txnDo t l).1]) ∧ Below w.heap.size w w' := by
  have hz := (zero_of_info kZero).1
  have h128 := kCells_length t.h t.v
  generalize hwa : w.alloc (.cells (kCells t.h t.v).toArray 42) = wa
  have hza : wa.heap.size = w.heap.size + 1 := by rw [← hwa]; simp
  have k0 : KIn wa w.heap.size 42 t.h t.v [] := by
    unfold KIn; rw [← hwa, List.append_nil]; exact heap_alloc_last w _
  have la : OpsAt wa c off l := by rw [← hwa]; exact hl.other (Below.heap_alloc _ _ _ hcl)
  have ba : Below w.heap.size w wa := by rw [← hwa]; exact (Below.refl _ _).alloc (Nat.le_refl _) _
  have hst0 := storeK (P := Tryz.prog) (w := (wa.alloc (.cells (kCells (fun _ => false) (fun _ => 0)).toArray 42)).alloc (.cells (kCells (fun _ => false) (fun _ => 0)).toArray 42)) (b := w.heap.size + 2) (T := 42) (rest := []) (h := fun _ => false) (v := fun _ => 0) (by unfold KIn; rw [List.append_nil, show w.heap.size + 2 = wa.heap.size + 1 by omega]; exact heap_alloc2_new _ _ _) t.h t.v
  have f2 : KIn ((wa.alloc (.cells (kCells (fun _ => false) (fun _ => 0)).toArray 42)).alloc (.cells (kCells (fun _ => false) (fun _ => 0)).toArray 42)) (w.heap.size + 2) 42 (fun _ => false) (fun _ => 0) [] := by
    unfold KIn; rw [List.append_nil, show w.heap.size + 2 = wa.heap.size + 1 by omega]; exact heap_alloc2_new _ _ _
  have f1 : KIn ((wa.alloc (.cells (kCells (fun _ => false) (fun _ => 0)).toArray 42)).alloc (.cells (kCells (fun _ => false) (fun _ => 0)).toArray 42)) (w.heap.size + 1) 42 (fun _ => false) (fun _ => 0) [] := by
    unfold KIn; rw [List.append_nil, show w.heap.size + 1 = wa.heap.size by omega]; exact heap_alloc2_old _ _ _
  have f0 := (k0.alloc (.cells (kCells (fun _ => false) (fun _ => 0)).toArray 42)).alloc (.cells (kCells (fun _ => false) (fun _ => 0)).toArray 42)
  have ba2 := (ba.alloc (by omega) (.cells (kCells (fun _ => false) (fun _ => 0)).toArray 42)).alloc (by simp; omega) (.cells (kCells (fun _ => false) (fun _ => 0)).toArray 42)
  have la2 : OpsAt ((wa.alloc (.cells (kCells (fun _ => false) (fun _ => 0)).toArray 42)).alloc (.cells (kCells (fun _ => false) (fun _ => 0)).toArray 42)) c off l := (la.other (Below.heap_alloc _ _ _ (by omega))).other (Below.heap_alloc _ _ _ (by simp; omega))
  have hr := hide (k0.alloc (.cells (kCells (fun _ => false) (fun _ => 0)).toArray 42)).range
  generalize hw2 : (wa.alloc (.cells (kCells (fun _ => false) (fun _ => 0)).toArray 42)).alloc (.cells (kCells (fun _ => false) (fun _ => 0)).toArray 42) = w2 at hst0 f2 f1 f0 ba2 la2
  have b1 : Below w.heap.size w (w2.setCells (w.heap.size + 2) 0 (kCells t.h t.v)) := ba2.trans ((Only.setCells (b := w.heap.size + 2) (kCells t.h t.v) 0 (Only.refl _ w2)).toBelow' (by omega) (by have := ba2.size; omega))
  have g2 := f2.setAll (h' := t.h) (v' := t.v)
  have g1 := f1.other (heap_setCells_other (w.heap.size + 2) (kCells t.h t.v) 0 w2 (w.heap.size + 1) (by omega))
  have g0 := f0.other (heap_setCells_other (w.heap.size + 2) (kCells t.h t.v) 0 w2 w.heap.size (by omega))
  have l1 := la2.other (heap_setCells_other (w.heap.size + 2) (kCells t.h t.v) 0 w2 c (by omega))
  generalize w2.setCells (w.heap.size + 2) 0 (kCells t.h t.v) = w1 at *
  have G0 := hide g0
  have G1 := hide g1
  have G2 := hide g2
  have L1 := hide l1
  have B1 := hide b1
  clear f2 f1 f0 ba2 la2 ba la k0 g0 g1 g2 l1 b1 hl
  go_enter Tryz.func44, Tryz.ntmps44
  go_wp2_with (refine wpList_load_mid rfl 42 _ rfl w.heap.size 0 rfl (kCells t.h t.v) _ (by exact hr) Tryz.underlying42 rfl (kInfo _ _) ?_)
  have hw1z : w.heap.size + 2 < w1.heap.size := (unhide G2).lt
  clear hr hst0 hz hw2
  go_loopw [7] (fun i wr => ∃ (k : Nat) (tk : Tab), k ≤ l.length ∧ i = .int .i64 k ∧ Hid (txnRun t l = txnRun tk (l.drop k)) ∧ Bnd tk (N + 3 * k) ∧ KIn wr (w.heap.size + 1 + 1) 42 tk.h tk.v [] ∧ Only (w.heap.size + 2) w1 wr) (fun i _ => l.length - (intOf i).toNat)
  case atStart => exact ⟨0, t, by omega, rfl, rfl, by simpa using hB, unhide G2, Only.refl _ _⟩
  case round =>
    obtain ⟨k, tk, hk, rfl, hrun, hbd, tw, ow⟩ := hrel
    have hwz := ow.size
    by_cases hlt : k < l.length
    · have ho : l[k]? = some l[k] := List.getElem?_eq_getElem hlt
      generalize l[k] = o at ho
      have hP := hok o (List.mem_of_getElem? ho)
      have lw : OpsAt wr c off l := (unhide L1).other (ow.block c (by omega) (by omega))
      obtain ⟨q0, q1, q2, q3⟩ := lw k o ho
      have bd2 := opDo_bnd hbd o hP (by omega)
      have Ho := hide ho
      clear ho lw hok
      obtain ⟨kd, ky, oa, oc⟩ := o
      obtain ⟨p1, p2, p3, p4, p5, p6, p7, p8⟩ := hP
      simp only at p1 p2 p3 p4 p5 p6 p7 p8 q0 q1 q2 q3
      obtain ⟨y, rfl⟩ := Int.eq_ofNat_of_zero_le p1
      have hy : y < 64 := by omega
      have ta := tw.alloc (.cells #[.int .i64 kd, .int .i64 y, .int .i64 oa, .int .i64 oc] 70)
      have oa1 := ow.alloc (.cells #[.int .i64 kd, .int .i64 y, .int .i64 oa, .int .i64 oc] 70)
      have cv := tw.val y hy
      have ch := tw.has y hy
      have fv := tw.frozen y
      have fh := tw.frozen (64 + y)
      have hpz : w.heap.size + 1 + 1 < wr.heap.size := by omega
      have p8' : oc = 0 := p8
      subst p8'
      clear p8 p7
      rcases (by omega : kd = 1 ∨ kd = 2 ∨ kd = 3 ∨ kd = 4 ∨ kd = 5) with rfl | rfl | rfl | rfl | rfl
      · have e1 : opDo tk ⟨1, y, oa, 0⟩ = (true, ⟨upd tk.h y true, upd tk.v y oa⟩) := by simp [opDo]
        have hrun' : Hid (txnRun t l = txnRun (opDo tk ⟨1, y, oa, 0⟩).2 (l.drop (k + 1))) := hrun.out.trans (txnRun_yes (unhide Ho) (by rw [e1]))
        have E1 := hide e1
        clear e1
        go_wp2
        go_roundw
        case rel => exact ⟨k + 1, _, by omega, by go_num, hrun', by simpa [Int.mul_add, Int.add_assoc] using bd2, by rw [unhide E1]; exact ((tw.setVal y hy oa).setHas y hy true).alloc _, ((ow.setCell _ _).setCell _ _).alloc _⟩
        case measure => simp [intOf]; omega
      · have e1 : opDo tk ⟨2, y, oa, 0⟩ = (true, ⟨upd tk.h y false, upd tk.v y 0⟩) := by simp [opDo]
        have hrun' : Hid (txnRun t l = txnRun (opDo tk ⟨2, y, oa, 0⟩).2 (l.drop (k + 1))) := hrun.out.trans (txnRun_yes (unhide Ho) (by rw [e1]))
        have E1 := hide e1
        clear e1
        go_wp2
        go_roundw
        case rel => exact ⟨k + 1, _, by omega, by go_num, hrun', by simpa [Int.mul_add, Int.add_assoc] using bd2, by rw [unhide E1]; exact ((tw.setVal y hy 0).setHas y hy false).alloc _, ((ow.setCell _ _).setCell _ _).alloc _⟩
        case measure => simp [intOf]; omega
      · have hfit := hbd.fits y oa p5 p6 (by omega)
        have hnw := wrap_fits hfit
        have e1 : opDo tk ⟨3, y, oa, 0⟩ = (true, ⟨upd tk.h y true, upd tk.v y (tk.v y + oa)⟩) := by simp [opDo, hfit]
        have hrun' : Hid (txnRun t l = txnRun (opDo tk ⟨3, y, oa, 0⟩).2 (l.drop (k + 1))) := hrun.out.trans (txnRun_yes (unhide Ho) (by rw [e1]))
        have E1 := hide e1
        clear e1
        have HF := hide hfit
        have hv0 := (hbd y).1
        have hv1 := (hbd y).2
        clear hfit hnw
        go_wp2
        go_region
        all_goals go_wp2
        go_roundw
        case rel => exact ⟨k + 1, _, by omega, by go_num, hrun', by simpa [Int.mul_add, Int.add_assoc] using bd2, by rw [unhide E1]; exact (((tw.setVal y hy (tk.v y + oa)).setHas y hy true).alloc _).drew, (((ow.setCell _ _).setCell _ _).alloc _).drew⟩
        case measure => simp [intOf]; omega
      · cases hh : tk.h y
        all_goals
          rw [hh] at ch
        · have e1 : opDo tk ⟨4, y, oa, 0⟩ = (false, tk) := by simp [opDo, hh]
          have hfin : Hid (txnDo t l = (false, t)) := by
            have := txnRun_no (unhide Ho) (by rw [e1])
            unfold txnDo; rw [hrun.out, this]; rfl
          clear e1
          have r0 := hide (((unhide G0).other (ow.block _ (by omega) (by omega))).alloc (.cells #[.int .i64 4, .int .i64 y, .int .i64 oa, .int .i64 0] 70))
          have r1 := hide (((unhide G1).other (ow.block _ (by omega) (by omega))).alloc (.cells #[.int .i64 4, .int .i64 y, .int .i64 oa, .int .i64 0] 70))
          have hst1 : ∀ n : Nat, (storeCells ⟨w.heap.size + 1, 0, none⟩ (kCells t.h t.v) 0).run Tryz.prog ((wr.alloc (.cells #[.int .i64 4, .int .i64 y, .int .i64 oa, .int .i64 0] 70)).drewN n) = .ok () (((wr.alloc (.cells #[.int .i64 4, .int .i64 y, .int .i64 oa, .int .i64 0] 70)).drewN n).setCells (w.heap.size + 1) 0 (kCells t.h t.v)) := fun n => storeK (P := Tryz.prog) ((unhide r1).drewN n) t.h t.v
          have rr : ∀ n : Nat, Hid (((wr.alloc (.cells #[.int .i64 4, .int .i64 y, .int .i64 oa, .int .i64 0] 70)).drewN n).rangeAt w.heap.size 0 (kCells t.h t.v)) := fun n => ((unhide r0).drewN n).range
          have ob1 := hide (((ow.toBelow' (B := w.heap.size) (by omega) (by omega)).alloc (by omega) (.cells #[.int .i64 4, .int .i64 y, .int .i64 oa, .int .i64 0] 70)))
          have ob2 := hide (ow.alloc (.cells #[.int .i64 4, .int .i64 y, .int .i64 oa, .int .i64 0] 70)).size
          go_wp2
          go_quiet (fail)
          have hst2 := hst1 nq
          have rr2 := rr nq
          have r2 := hide ((unhide r1).drewN nq)
          have ob3 := hide (below_drewN (unhide ob1) nq)
          have ob4 : Hid (w1.heap.size ≤ ((wr.alloc (.cells #[.int .i64 4, .int .i64 y, .int .i64 oa, .int .i64 0] 70)).drewN nq).heap.size) := unhide ob2
          clear hst1 rr r1 r0 ob1 ob2
          generalize (wr.alloc (.cells #[.int .i64 4, .int .i64 y, .int .i64 oa, .int .i64 0] 70)).drewN nq = W at hst2 rr2 r2 ob3 ob4 ⊢
          go_wp2_with (refine wpList_load_mid rfl 42 _ rfl w.heap.size 0 rfl (kCells t.h t.v) _ (by exact rr2) Tryz.underlying42 rfl (kInfo _ _) ?_)
          refine done_ret 4 5 42 Tryz.results44 (w.heap.size + 1) t.h t.v false _ rfl rfl ?_ Tryz.underlying42 rfl (kInfo _ _) rfl ?_
          · exact (unhide r2).setAll
          · rw [hfin.out]
            exact ⟨rfl, (unhide B1).trans ((unhide ob3).trans ((Only.setCells (kCells t.h t.v) 0 (b := w.heap.size + 1) (Only.refl _ _)).toBelow' (by omega) (by have := unhide ob4; omega)))⟩
        · by_cases hve : tk.v y = oa
          · have hveb : (tk.v y != oa) = false := by simp [hve]
            rw [hve] at cv
            have HV := hide hve
            have HH := hide hh
            have e1 : opDo tk ⟨4, y, oa, 0⟩ = (true, tk) := by simp [opDo, hh, hve]
            have hrun' : Hid (txnRun t l = txnRun (opDo tk ⟨4, y, oa, 0⟩).2 (l.drop (k + 1))) := hrun.out.trans (txnRun_yes (unhide Ho) (by rw [e1]))
            have E1 := hide e1
            clear e1
            clear hve hh hveb
            go_wp2
            go_quiet (fail)
            go_wp2
            go_roundw
            case rel => exact ⟨k + 1, _, by omega, by go_num, hrun', by simpa [Int.mul_add, Int.add_assoc] using bd2, by rw [unhide E1]; exact (tw.alloc _).drewN _, (ow.alloc _).drewN _⟩
            case measure => simp [intOf]; omega
          · have hveb : (tk.v y != oa) = true := by simp [hve]
            have e1 : opDo tk ⟨4, y, oa, 0⟩ = (false, tk) := by simp [opDo, hh, hve]
            have hfin : Hid (txnDo t l = (false, t)) := by
              have := txnRun_no (unhide Ho) (by rw [e1])
              unfold txnDo; rw [hrun.out, this]; rfl
            clear e1
            have r0 := hide (((unhide G0).other (ow.block _ (by omega) (by omega))).alloc (.cells #[.int .i64 4, .int .i64 y, .int .i64 oa, .int .i64 0] 70))
            have r1 := hide (((unhide G1).other (ow.block _ (by omega) (by omega))).alloc (.cells #[.int .i64 4, .int .i64 y, .int .i64 oa, .int .i64 0] 70))
            have hst1 : ∀ n : Nat, (storeCells ⟨w.heap.size + 1, 0, none⟩ (kCells t.h t.v) 0).run Tryz.prog ((wr.alloc (.cells #[.int .i64 4, .int .i64 y, .int .i64 oa, .int .i64 0] 70)).drewN n) = .ok () (((wr.alloc (.cells #[.int .i64 4, .int .i64 y, .int .i64 oa, .int .i64 0] 70)).drewN n).setCells (w.heap.size + 1) 0 (kCells t.h t.v)) := fun n => storeK (P := Tryz.prog) ((unhide r1).drewN n) t.h t.v
            have rr : ∀ n : Nat, Hid (((wr.alloc (.cells #[.int .i64 4, .int .i64 y, .int .i64 oa, .int .i64 0] 70)).drewN n).rangeAt w.heap.size 0 (kCells t.h t.v)) := fun n => ((unhide r0).drewN n).range
            have ob1 := hide (((ow.toBelow' (B := w.heap.size) (by omega) (by omega)).alloc (by omega) (.cells #[.int .i64 4, .int .i64 y, .int .i64 oa, .int .i64 0] 70)))
            have ob2 := hide (ow.alloc (.cells #[.int .i64 4, .int .i64 y, .int .i64 oa, .int .i64 0] 70)).size
            go_wp2
            go_quiet (fail)
            have hst2 := hst1 nq
            have rr2 := rr nq
            have r2 := hide ((unhide r1).drewN nq)
            have ob3 := hide (below_drewN (unhide ob1) nq)
            have ob4 : Hid (w1.heap.size ≤ ((wr.alloc (.cells #[.int .i64 4, .int .i64 y, .int .i64 oa, .int .i64 0] 70)).drewN nq).heap.size) := unhide ob2
            clear hst1 rr r1 r0 ob1 ob2
            generalize (wr.alloc (.cells #[.int .i64 4, .int .i64 y, .int .i64 oa, .int .i64 0] 70)).drewN nq = W at hst2 rr2 r2 ob3 ob4 ⊢
            go_wp2_with (refine wpList_load_mid rfl 42 _ rfl w.heap.size 0 rfl (kCells t.h t.v) _ (by exact rr2) Tryz.underlying42 rfl (kInfo _ _) ?_)
            refine done_ret 4 5 42 Tryz.results44 (w.heap.size + 1) t.h t.v false _ rfl rfl ?_ Tryz.underlying42 rfl (kInfo _ _) rfl ?_
            · exact (unhide r2).setAll
            · rw [hfin.out]
              exact ⟨rfl, (unhide B1).trans ((unhide ob3).trans ((Only.setCells (kCells t.h t.v) 0 (b := w.heap.size + 1) (Only.refl _ _)).toBelow' (by omega) (by have := unhide ob4; omega)))⟩
      · cases hh : tk.h y
        all_goals
          rw [hh] at ch
        · have e1 : opDo tk ⟨5, y, oa, 0⟩ = (true, tk) := by simp [opDo, hh]
          have hrun' : Hid (txnRun t l = txnRun (opDo tk ⟨5, y, oa, 0⟩).2 (l.drop (k + 1))) := hrun.out.trans (txnRun_yes (unhide Ho) (by rw [e1]))
          have E1 := hide e1
          clear e1
          go_wp2
          go_roundw
          case rel => exact ⟨k + 1, _, by omega, by go_num, hrun', by simpa [Int.mul_add, Int.add_assoc] using bd2, by rw [unhide E1]; exact tw.alloc _, ow.alloc _⟩
          case measure => simp [intOf]; omega
        · have e1 : opDo tk ⟨5, y, oa, 0⟩ = (false, tk) := by simp [opDo, hh]
          have hfin : Hid (txnDo t l = (false, t)) := by
            have := txnRun_no (unhide Ho) (by rw [e1])
            unfold txnDo; rw [hrun.out, this]; rfl
          clear e1
          have r0 := hide (((unhide G0).other (ow.block _ (by omega) (by omega))).alloc (.cells #[.int .i64 5, .int .i64 y, .int .i64 oa, .int .i64 0] 70))
          have r1 := hide (((unhide G1).other (ow.block _ (by omega) (by omega))).alloc (.cells #[.int .i64 5, .int .i64 y, .int .i64 oa, .int .i64 0] 70))
          have hst1 := storeK (P := Tryz.prog) (unhide r1) t.h t.v
          have rr := hide (unhide r0).range
          go_wp2_with (refine wpList_load_mid rfl 42 _ rfl w.heap.size 0 rfl (kCells t.h t.v) _ (by exact rr) Tryz.underlying42 rfl (kInfo _ _) ?_)
          refine done_ret 4 5 42 Tryz.results44 (w.heap.size + 1) t.h t.v false _ rfl rfl ?_ Tryz.underlying42 rfl (kInfo _ _) rfl ?_
          · exact (unhide r1).setAll
          · rw [hfin.out]
            exact ⟨rfl, (unhide B1).trans ((Only.setCells (kCells t.h t.v) 0 (b := w.heap.size + 1) (Only.refl _ _)).toBelow' (by omega) (by simp; omega) |> fun q => (((ow.toBelow' (by omega) (by omega)).alloc (by omega) _)).trans q)⟩
    · have e : l.drop k = [] := List.drop_eq_nil_of_le (by omega)
      have hfin : Hid (txnDo t l = (true, tk)) := by
        have := hrun.out
        rw [e] at this
        unfold txnDo; rw [this]; rfl
      clear e
      have r0 := hide tw.range
      have r1 := hide ((unhide G1).other (ow.block _ (by omega) (by omega)))
      have hst1 := storeK (P := Tryz.prog) (unhide r1) tk.h tk.v
      have hl1 := kCells_length tk.h tk.v
      go_wp2_with (refine wpList_load_mid rfl 42 _ rfl (w.heap.size + 1 + 1) 0 rfl (kCells tk.h tk.v) _ (by exact r0) Tryz.underlying42 rfl (kInfo _ _) ?_)
      refine done_ret 4 5 42 Tryz.results44 (w.heap.size + 1) tk.h tk.v true _ rfl rfl ?_ Tryz.underlying42 rfl (kInfo _ _) rfl ?_
      · exact (unhide r1).setAll
      · rw [hfin.out]
        exact ⟨rfl, (unhide B1).trans ((ow.toBelow' (by omega) (by omega)).trans ((Only.setCells (kCells tk.h tk.v) 0 (b := w.heap.size + 1) (Only.refl _ _)).toBelow' (by omega) (by omega)))⟩
end Go.Proofs.YthdffenpkdbejaaGreatDoor

import Derived.Test.YthdffenpkdbejaaGreatDoorJobB
import Derived.Laws.EntriesVeiled
namespace Go.Proofs.YthdffenpkdbejaaGreatDoor
open Go.RowKit

set_option maxRecDepth 100000 in
set_option maxHeartbeats 800000 in
theorem ack_any (w : World) (b base gw cw : Nat) (t : Tab) (a : Ann) (ws : List Value) (ha : AnnIn w b t a) (hw : a.waiting = .slice (some ⟨gw, 0, none⟩) 1 cw) (hown : w.ownsRow base 9 1 a.waiting 1 ws) :
    Calls Tryz.prog 88 #[.pointer (some ⟨b, 0, none⟩), .int .i64 1] w (FnPost b (some gw) w fun w' => AnnIn w' b t { a with waiting := .slice (some ⟨gw, 0, none⟩) 0 cw } ∧ w'.ownsRow base 9 1 (.slice (some ⟨gw, 0, none⟩) 0 cw) 0 []) := by
  have h129 : w.cell? ⟨b, 129, none⟩ = some (.slice (some ⟨gw, 0, none⟩) 1 cw) := by have := ha.rest 1; rw [← hw]; exact this
  rw [hw] at hown
  rcases hown.2 with ⟨h0, _⟩ | ⟨g, cap, cur, he, hb0, hg, h1, h2, h3, h4⟩
  · cases h0
  simp at he
  obtain ⟨rfl, rfl⟩ := he
  have hne : gw ≠ b := by
    intro e
    have e2 := ha
    unfold AnnIn TabIn at e2
    rw [← e, hg] at e2
    simp at e2
  have hb := ha.lt
  have D := hide (delete_one w gw cw cur hg h1 (by omega) h2)
  have HA := hide ha
  clear ha hown hg
  go_enter Tryz.func88, Tryz.ntmps88
  go_wp2_with fail
  refine (unhide D).mono ?_
  rintro e w1 ⟨rfl, cur', hg1, hs1, o1⟩
  have T1 := (unhide HA).other (w' := w1) (o1.block b hb hne.symm)
  have c1 : w1.cell? ⟨b, 129, none⟩ = some (.slice (some ⟨gw, 0, none⟩) 1 cw) := by have := T1.rest 1; rw [← hw]; exact this
  have f1 := T1.frozen 129
  have T2 := hide (T1.setRest 1 (.slice (some ⟨gw, 0, none⟩) 0 cw))
  have hg2 : Hid ((w1.setCell ⟨b, 129, none⟩ (.slice (some ⟨gw, 0, none⟩) 0 cw)).heap[gw]? = some (.cells cur' 9 (0, 0))) := (Below.heap_setCell _ _ _ _ hne).trans hg1
  have O2 : Hid (Only2 b (some gw) w (w1.setCell ⟨b, 129, none⟩ (.slice (some ⟨gw, 0, none⟩) 0 cw))) := ⟨o1.os, o1.tape, o1.output, by simp [World.setCell]; exact o1.size, fun k hk h1 h2 => (Below.heap_setCell _ _ _ _ h1).trans (o1.block k hk (fun e => h2 (by rw [e])))⟩
  clear T1 hg1 o1 D HA
  go_wp2
  go_end0
  exact ⟨rfl, ⟨unhide T2, rfl, .inr ⟨gw, cw, cur', rfl, hb0, unhide hg2, by omega, h2, by omega, rfl⟩⟩, unhide O2⟩
set_option maxRecDepth 100000 in
set_option maxHeartbeats 800000 in
theorem write2_any (w : World) (b base gw cw pa pc : Nat) (t : Tab) (a : Ann) (ws : List Value) (ha : AnnIn w b t a) (hw : a.waiting = .slice (some ⟨gw, 0, none⟩) 1 cw) (hown : w.ownsRow base 9 1 a.waiting 1 ws) (h1 : Box w pa 34 (.pointer (some ⟨b, 0, none⟩))) (h2 : Box w pc 3 (.int .i64 1)) :
    Calls Tryz.prog 87 #[.pointer (some ⟨pa, 0, none⟩), .pointer (some ⟨pc, 0, none⟩)] w (FnPost b (some gw) w fun w' => AnnIn w' b t { a with waiting := .slice (some ⟨gw, 0, none⟩) 0 cw } ∧ w'.ownsRow base 9 1 (.slice (some ⟨gw, 0, none⟩) 0 cw) 0 []) := by
  have c1 : w.cell? ⟨pa, 0, none⟩ = some (.pointer (some ⟨b, 0, none⟩)) := by rw [cell_of_row _ _ _ _ _ _ h1]; rfl
  have c2 : w.cell? ⟨pc, 0, none⟩ = some (.int .i64 1) := by rw [cell_of_row _ _ _ _ _ _ h2]; rfl
  have G := hide (ack_any w b base gw cw t a ws ha hw hown)
  clear ha hown
  go_enter Tryz.func87, Tryz.ntmps87
  go_wp2_with fail
  refine (unhide G).mono ?_
  rintro e w' ⟨rfl, h3, h4⟩
  have H3 := hide h3
  have H4 := hide h4
  clear h3 h4
  go_wp2
  go_end0
  exact ⟨rfl, unhide H3, unhide H4⟩

/-- the job behind its first act -/
def jobAfter (g off n cap : Nat) : Value := if n = 0 then .slice none 0 0 else .slice (some ⟨g, off + 6, none⟩) n (cap - 1)

/-- what Done leaves -/
def DonePost (R : World → Prop) (e : Ending) (w' : World) : Prop := e = .returned (.int .i64 0) ∧ R w'

theorem neq_fn (w : World) (f : Fn) (a c : Array Value) : (binOp .neq 1 (.func f a c) .nilFunc).run Tryz.prog w = .ok (.bool true) w := by kernel_rfl
theorem stepInfo0 : (Tryz.prog.info? 134).map (fun i => (i.zero, i.size)) = some (some (.agg #[.int .i64 0, .string .empty, .string .empty, .string .empty, .nilFunc, .nilFunc]), 6) := by kernel_rfl

set_option maxRecDepth 100000 in
set_option maxHeartbeats 800000 in
theorem tell_fn (w : World) (k : Int) (nm d to : ByteArray) (fn : FuncId) (caps : Array Value) (fl : Fn) (al cl : Array Value) (R : World → Prop) (hfn : ∀ w, (callFunc fn caps).run Tryz.prog w = .ok (.enter fn caps) w)
    (hcall : Calls Tryz.prog fn caps (w.alloc (.cells #[.int .i64 k, .string nm, .string d, .string to, .func (.func fn) #[] caps, .func fl al cl] 134)) fun e w' => e = .returned (.tuple #[]) ∧ R w') :
    Calls Tryz.prog 93 #[.agg #[.int .i64 k, .string nm, .string d, .string to, .func (.func fn) #[] caps, .func fl al cl], .bool true] w fun e w' => e = .returned (.tuple #[]) ∧ R w' := by
  have nf := neq_fn
  have HC := hide hcall
  clear hcall
  go_enter Tryz.func93, Tryz.ntmps93
  go_wp2_with fail
  refine (unhide HC).mono ?_
  rintro e w2 ⟨rfl, hr⟩
  have HR := hide hr
  clear hr HC
  go_wp2
  go_end0
  exact ⟨rfl, unhide HR⟩
set_option maxRecDepth 100000 in
set_option maxHeartbeats 1600000 in
theorem done_fn (w : World) (b g off n cap : Nat) (t : Tab) (a : Ann) (k : Int) (nm d to : ByteArray) (fn : FuncId) (caps : Array Value) (fl : Fn) (al cl : Array Value) (ha : AnnIn w b t a) (hj : a.job = .slice (some ⟨g, off, none⟩) (n + 1) cap) (hn : n ≤ 100) (hc : n + 1 ≤ cap)
    (c0 : w.cell? ⟨g, off, none⟩ = some (.int .i64 k)) (c1 : w.cell? ⟨g, off + 1, none⟩ = some (.string nm)) (c2 : w.cell? ⟨g, off + 2, none⟩ = some (.string d)) (c3 : w.cell? ⟨g, off + 3, none⟩ = some (.string to)) (c4 : w.cell? ⟨g, off + 4, none⟩ = some (.func (.func fn) #[] caps)) (c5 : w.cell? ⟨g, off + 5, none⟩ = some (.func fl al cl)) (hfn : ∀ w, (callFunc fn caps).run Tryz.prog w = .ok (.enter fn caps) w)
    (R : World → Prop) (hcall : ∀ w3, AnnIn w3 b t { a with job := jobAfter g off n cap } → Only b w w3 → Calls Tryz.prog fn caps w3 fun e w' => e = .returned (.tuple #[]) ∧ R w') :
    Calls Tryz.prog 50 #[.pointer (some ⟨b, 0, none⟩), .bool true] w (DonePost R) := by
  have hb := ha.lt
  have h138 : w.cell? ⟨b, 138, none⟩ = some (.slice (some ⟨g, off, none⟩) (n + 1) cap) := by have := ha.rest 10; rw [← hj]; exact this
  have f138 := ha.frozen 138
  have J := hide (hasJob_any b t a w ha _ (n + 1) cap hj (by omega))
  have HC := hide hcall
  have HA := hide ha
  clear ha hcall
  go_enter Tryz.func50, Tryz.ntmps50
  go_wp2_with fail
  refine (unhide J).mono ?_
  rintro e w' ⟨rfl, rfl⟩
  simp only [Nat.zero_lt_succ, decide_true]
  by_cases hz : n = 0
  · subst hz
    by_cases hcap : cap = 1
    · subst hcap
      have T1 : AnnIn ((w.setCell ⟨b, 138, none⟩ (.slice (some ⟨g, off, none⟩) 0 0)).alloc (.cells #[.int .i64 k, .string nm, .string d, .string to, .func (.func fn) #[] caps, .func fl al cl] 134)) b t { a with job := .slice (some ⟨g, off, none⟩) 0 0 } := ((unhide HA).setRest 10 (.slice (some ⟨g, off, none⟩) 0 0)).alloc _
      have O1 : Only b w ((w.setCell ⟨b, 138, none⟩ (.slice (some ⟨g, off, none⟩) 0 0)).alloc (.cells #[.int .i64 k, .string nm, .string d, .string to, .func (.func fn) #[] caps, .func fl al cl] 134)) := ((Only.refl b w).setCell (128 + 10) (.slice (some ⟨g, off, none⟩) 0 0)).alloc _
      have B1 : ((w.setCell ⟨b, 138, none⟩ (.slice (some ⟨g, off, none⟩) 0 0)).alloc (.cells #[.int .i64 k, .string nm, .string d, .string to, .func (.func fn) #[] caps, .func fl al cl] 134)).heap[w.heap.size]? = some (.cells #[.int .i64 k, .string nm, .string d, .string to, .func (.func fn) #[] caps, .func fl al cl] 134) := by
        have := heap_alloc_last (w.setCell ⟨b, 138, none⟩ (.slice (some ⟨g, off, none⟩) 0 0)) (.cells #[.int .i64 k, .string nm, .string d, .string to, .func (.func fn) #[] caps, .func fl al cl] 134)
        simpa [World.setCell] using this
      go_wp2_with fail
      generalize ((w.setCell ⟨b, 138, none⟩ (.slice (some ⟨g, off, none⟩) 0 0)).alloc (.cells #[.int .i64 k, .string nm, .string d, .string to, .func (.func fn) #[] caps, .func fl al cl] 134)) = w1 at *
      refine (hasJob_any b t _ w1 T1 _ 0 _ rfl (by omega)).mono ?_
      rintro e w' ⟨rfl, rfl⟩
      simp only [Nat.lt_irrefl, decide_false]
      have g138 : w1.cell? ⟨b, 138, none⟩ = some (.slice (some ⟨g, off, none⟩) 0 0) := T1.rest 10
      have k138 := T1.frozen 138
      have T2 := T1.setRest 10 (.slice none 0 0)
      have O2 := O1.setCell (128 + 10) (.slice none 0 0)
      have B2 : (w1.setCell ⟨b, 128 + 10, none⟩ (.slice none 0 0)).heap[w.heap.size]? = some (.cells #[.int .i64 k, .string nm, .string d, .string to, .func (.func fn) #[] caps, .func fl al cl] 134) := (Below.heap_setCell _ _ _ _ (by show w.heap.size ≠ b; omega)).trans B1
      have d0 : (w1.setCell ⟨b, 138, none⟩ (.slice none 0 0)).cell? ⟨w.heap.size, 0, none⟩ = some (.int .i64 k) := (cell_of_row _ _ _ _ _ _ B2).trans rfl
      have d1 : (w1.setCell ⟨b, 138, none⟩ (.slice none 0 0)).cell? ⟨w.heap.size, 1, none⟩ = some (.string nm) := (cell_of_row _ _ _ _ _ _ B2).trans rfl
      have d2 : (w1.setCell ⟨b, 138, none⟩ (.slice none 0 0)).cell? ⟨w.heap.size, 2, none⟩ = some (.string d) := (cell_of_row _ _ _ _ _ _ B2).trans rfl
      have d3 : (w1.setCell ⟨b, 138, none⟩ (.slice none 0 0)).cell? ⟨w.heap.size, 3, none⟩ = some (.string to) := (cell_of_row _ _ _ _ _ _ B2).trans rfl
      have d4 : (w1.setCell ⟨b, 138, none⟩ (.slice none 0 0)).cell? ⟨w.heap.size, 4, none⟩ = some (.func (.func fn) #[] caps) := (cell_of_row _ _ _ _ _ _ B2).trans rfl
      have d5 : (w1.setCell ⟨b, 138, none⟩ (.slice none 0 0)).cell? ⟨w.heap.size, 5, none⟩ = some (.func fl al cl) := (cell_of_row _ _ _ _ _ _ B2).trans rfl
      have HCC := hide (tell_fn (w1.setCell ⟨b, 138, none⟩ (.slice none 0 0)) k nm d to fn caps fl al cl R hfn ((unhide HC) _ (T2.alloc _) (O2.alloc _)))
      clear T1 O1 B1 T2 O2 B2 HC HA
      go_wp2_with fail
      refine (unhide HCC).mono ?_
      rintro e w2 ⟨rfl, hr⟩
      have HR := hide hr
      clear hr HCC
      go_wp2
      go_ret
      exact ⟨rfl, unhide HR⟩
    · have hcap' : ¬ cap - 1 = 0 := by omega
      have T1 : AnnIn ((w.setCell ⟨b, 138, none⟩ (.slice (some ⟨g, off + 6, none⟩) 0 (cap - 1))).alloc (.cells #[.int .i64 k, .string nm, .string d, .string to, .func (.func fn) #[] caps, .func fl al cl] 134)) b t { a with job := .slice (some ⟨g, off + 6, none⟩) 0 (cap - 1) } := ((unhide HA).setRest 10 (.slice (some ⟨g, off + 6, none⟩) 0 (cap - 1))).alloc _
      have O1 : Only b w ((w.setCell ⟨b, 138, none⟩ (.slice (some ⟨g, off + 6, none⟩) 0 (cap - 1))).alloc (.cells #[.int .i64 k, .string nm, .string d, .string to, .func (.func fn) #[] caps, .func fl al cl] 134)) := ((Only.refl b w).setCell (128 + 10) (.slice (some ⟨g, off + 6, none⟩) 0 (cap - 1))).alloc _
      have B1 : ((w.setCell ⟨b, 138, none⟩ (.slice (some ⟨g, off + 6, none⟩) 0 (cap - 1))).alloc (.cells #[.int .i64 k, .string nm, .string d, .string to, .func (.func fn) #[] caps, .func fl al cl] 134)).heap[w.heap.size]? = some (.cells #[.int .i64 k, .string nm, .string d, .string to, .func (.func fn) #[] caps, .func fl al cl] 134) := by
        have := heap_alloc_last (w.setCell ⟨b, 138, none⟩ (.slice (some ⟨g, off + 6, none⟩) 0 (cap - 1))) (.cells #[.int .i64 k, .string nm, .string d, .string to, .func (.func fn) #[] caps, .func fl al cl] 134)
        simpa [World.setCell] using this
      go_wp2_with fail
      generalize ((w.setCell ⟨b, 138, none⟩ (.slice (some ⟨g, off + 6, none⟩) 0 (cap - 1))).alloc (.cells #[.int .i64 k, .string nm, .string d, .string to, .func (.func fn) #[] caps, .func fl al cl] 134)) = w1 at *
      refine (hasJob_any b t _ w1 T1 _ 0 _ rfl (by omega)).mono ?_
      rintro e w' ⟨rfl, rfl⟩
      simp only [Nat.lt_irrefl, decide_false]
      have g138 : w1.cell? ⟨b, 138, none⟩ = some (.slice (some ⟨g, off + 6, none⟩) 0 (cap - 1)) := T1.rest 10
      have k138 := T1.frozen 138
      have T2 := T1.setRest 10 (.slice none 0 0)
      have O2 := O1.setCell (128 + 10) (.slice none 0 0)
      have B2 : (w1.setCell ⟨b, 128 + 10, none⟩ (.slice none 0 0)).heap[w.heap.size]? = some (.cells #[.int .i64 k, .string nm, .string d, .string to, .func (.func fn) #[] caps, .func fl al cl] 134) := (Below.heap_setCell _ _ _ _ (by show w.heap.size ≠ b; omega)).trans B1
      have d0 : (w1.setCell ⟨b, 138, none⟩ (.slice none 0 0)).cell? ⟨w.heap.size, 0, none⟩ = some (.int .i64 k) := (cell_of_row _ _ _ _ _ _ B2).trans rfl
      have d1 : (w1.setCell ⟨b, 138, none⟩ (.slice none 0 0)).cell? ⟨w.heap.size, 1, none⟩ = some (.string nm) := (cell_of_row _ _ _ _ _ _ B2).trans rfl
      have d2 : (w1.setCell ⟨b, 138, none⟩ (.slice none 0 0)).cell? ⟨w.heap.size, 2, none⟩ = some (.string d) := (cell_of_row _ _ _ _ _ _ B2).trans rfl
      have d3 : (w1.setCell ⟨b, 138, none⟩ (.slice none 0 0)).cell? ⟨w.heap.size, 3, none⟩ = some (.string to) := (cell_of_row _ _ _ _ _ _ B2).trans rfl
      have d4 : (w1.setCell ⟨b, 138, none⟩ (.slice none 0 0)).cell? ⟨w.heap.size, 4, none⟩ = some (.func (.func fn) #[] caps) := (cell_of_row _ _ _ _ _ _ B2).trans rfl
      have d5 : (w1.setCell ⟨b, 138, none⟩ (.slice none 0 0)).cell? ⟨w.heap.size, 5, none⟩ = some (.func fl al cl) := (cell_of_row _ _ _ _ _ _ B2).trans rfl
      have HCC := hide (tell_fn (w1.setCell ⟨b, 138, none⟩ (.slice none 0 0)) k nm d to fn caps fl al cl R hfn ((unhide HC) _ (T2.alloc _) (O2.alloc _)))
      clear T1 O1 B1 T2 O2 B2 HC HA
      go_wp2_with fail
      refine (unhide HCC).mono ?_
      rintro e w2 ⟨rfl, hr⟩
      have HR := hide hr
      clear hr HCC
      go_wp2
      go_ret
      exact ⟨rfl, unhide HR⟩
  · have hcap : ¬ cap - 1 = 0 := by omega
    have T1 : AnnIn ((w.setCell ⟨b, 138, none⟩ (.slice (some ⟨g, off + 6, none⟩) n (cap - 1))).alloc (.cells #[.int .i64 k, .string nm, .string d, .string to, .func (.func fn) #[] caps, .func fl al cl] 134)) b t { a with job := .slice (some ⟨g, off + 6, none⟩) n (cap - 1) } := ((unhide HA).setRest 10 (.slice (some ⟨g, off + 6, none⟩) n (cap - 1))).alloc _
    have O1 : Only b w ((w.setCell ⟨b, 138, none⟩ (.slice (some ⟨g, off + 6, none⟩) n (cap - 1))).alloc (.cells #[.int .i64 k, .string nm, .string d, .string to, .func (.func fn) #[] caps, .func fl al cl] 134)) := ((Only.refl b w).setCell (128 + 10) (.slice (some ⟨g, off + 6, none⟩) n (cap - 1))).alloc _
    have B1 : ((w.setCell ⟨b, 138, none⟩ (.slice (some ⟨g, off + 6, none⟩) n (cap - 1))).alloc (.cells #[.int .i64 k, .string nm, .string d, .string to, .func (.func fn) #[] caps, .func fl al cl] 134)).heap[w.heap.size]? = some (.cells #[.int .i64 k, .string nm, .string d, .string to, .func (.func fn) #[] caps, .func fl al cl] 134) := by
      have := heap_alloc_last (w.setCell ⟨b, 138, none⟩ (.slice (some ⟨g, off + 6, none⟩) n (cap - 1))) (.cells #[.int .i64 k, .string nm, .string d, .string to, .func (.func fn) #[] caps, .func fl al cl] 134)
      simpa [World.setCell] using this
    go_wp2_with fail
    generalize ((w.setCell ⟨b, 138, none⟩ (.slice (some ⟨g, off + 6, none⟩) n (cap - 1))).alloc (.cells #[.int .i64 k, .string nm, .string d, .string to, .func (.func fn) #[] caps, .func fl al cl] 134)) = w1 at *
    refine (hasJob_any b t _ w1 T1 _ n _ rfl (by omega)).mono ?_
    rintro e w' ⟨rfl, rfl⟩
    simp only [show (0 < n) = True from by simp; omega, decide_true]
    have d0 : w1.cell? ⟨w.heap.size, 0, none⟩ = some (.int .i64 k) := (cell_of_row _ _ _ _ _ _ B1).trans rfl
    have d1 : w1.cell? ⟨w.heap.size, 1, none⟩ = some (.string nm) := (cell_of_row _ _ _ _ _ _ B1).trans rfl
    have d2 : w1.cell? ⟨w.heap.size, 2, none⟩ = some (.string d) := (cell_of_row _ _ _ _ _ _ B1).trans rfl
    have d3 : w1.cell? ⟨w.heap.size, 3, none⟩ = some (.string to) := (cell_of_row _ _ _ _ _ _ B1).trans rfl
    have d4 : w1.cell? ⟨w.heap.size, 4, none⟩ = some (.func (.func fn) #[] caps) := (cell_of_row _ _ _ _ _ _ B1).trans rfl
    have d5 : w1.cell? ⟨w.heap.size, 5, none⟩ = some (.func fl al cl) := (cell_of_row _ _ _ _ _ _ B1).trans rfl
    have T2 : AnnIn w1 b t { a with job := jobAfter g off n cap } := by
      unfold jobAfter
      rw [if_neg (by omega)]
      exact T1
    have HCC := hide (tell_fn w1 k nm d to fn caps fl al cl R hfn ((unhide HC) _ (T2.alloc _) (O1.alloc _)))
    clear T1 O1 B1 T2 HC HA
    go_wp2_with fail
    refine (unhide HCC).mono ?_
    rintro e w2 ⟨rfl, hr⟩
    have HR := hide hr
    clear hr HCC
    go_wp2
    go_ret
    exact ⟨rfl, unhide HR⟩
end Go.Proofs.YthdffenpkdbejaaGreatDoor

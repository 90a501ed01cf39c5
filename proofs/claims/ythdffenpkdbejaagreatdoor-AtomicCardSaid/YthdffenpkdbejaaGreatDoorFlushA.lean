import Derived.Test.YthdffenpkdbejaaGreatDoorAnnA
namespace Go.Proofs.YthdffenpkdbejaaGreatDoor
open Go.RowKit

def logName : ByteArray := ⟨#[108, 111, 103, 46, 49]⟩

set_option maxRecDepth 100000 in
set_option maxHeartbeats 800000 in
theorem small_one (w : World) : Calls Tryz.prog 260 #[.int .i64 1] w fun e w' => e = .returned (.string ⟨#[49]⟩) ∧ w = w' := by
  go_enter Tryz.func260, Tryz.ntmps260
  go_wp2
  go_ret
  exact ⟨rfl, rfl⟩
set_option maxRecDepth 100000 in
set_option maxHeartbeats 800000 in
theorem format_one (w : World) : Calls Tryz.prog 210 #[.int .i64 1, .int .i64 10] w fun e w' => e = .returned (.string ⟨#[49]⟩) ∧ w = w' := by
  go_enter Tryz.func210, Tryz.ntmps210
  go_wp2_with fail
  refine (small_one _).mono ?_
  rintro e w' ⟨rfl, rfl⟩
  go_wp2
  go_ret
  exact ⟨rfl, rfl⟩
theorem itoa_one' (w : World) : Calls Tryz.prog 176 #[.int .i64 1] w fun e w' => e = .returned (.string ⟨#[49]⟩) ∧ w = w' := by
  go_enter Tryz.func176, Tryz.ntmps176
  go_wp2_with fail
  refine (format_one _).mono ?_
  rintro e w' ⟨rfl, rfl⟩
  go_wp2
  go_ret
  exact ⟨rfl, rfl⟩
theorem itoa_one (w : World) : Calls Tryz.prog 141 #[.int .i64 1] w fun e w' => e = .returned (.string ⟨#[49]⟩) ∧ w = w' := by
  go_enter Tryz.func141, Tryz.ntmps141
  go_wp2_with fail
  refine (itoa_one' _).mono ?_
  rintro e w' ⟨rfl, rfl⟩
  go_wp2
  go_ret
  exact ⟨rfl, rfl⟩
theorem segment_one (w : World) : Calls Tryz.prog 83 #[.int .i64 1] w fun e w' => e = .returned (.string logName) ∧ w = w' := by
  go_enter Tryz.func83, Tryz.ntmps83
  go_wp2_with fail
  refine (itoa_one _).mono ?_
  rintro e w' ⟨rfl, rfl⟩
  go_wp2
  go_ret
  exact ⟨by rfl, rfl⟩
set_option maxRecDepth 100000 in
set_option maxHeartbeats 800000 in
theorem join_one (w : World) (g cap : Nat) (s : ByteArray) (h : w.cell? ⟨g, 0, none⟩ = some (.string s)) : Calls Tryz.prog 84 #[.slice (some ⟨g, 0, none⟩) 1 cap, .string .empty] w fun e w' => e = .returned (.string s) ∧ w = w' := by
  go_enter Tryz.func84, Tryz.ntmps84
  go_wp2
  go_ret
  exact ⟨rfl, rfl⟩

set_option maxHeartbeats 400000 in
theorem hasJob_any (b : Nat) (t : Tab) (a : Ann) (w : World) (ht : AnnIn w b t a) (jo : Option Addr) (n jc : Nat) (hj : a.job = .slice jo n jc) (_hn : n ≤ 1000) :
    Calls Tryz.prog 52 #[.pointer (some ⟨b, 0, none⟩)] w fun e w' => e = .returned (.bool (decide (0 < n))) ∧ w = w' := by
  have q : w.cell? ⟨b, 138, none⟩ = some (.slice jo n jc) := by have := ht.rest 10; rw [← hj]; exact this
  by_cases h0 : 0 < n
  · go_enter Tryz.func52, Tryz.ntmps52
    go_wp2
    go_ret
    exact ⟨by simp [h0], rfl⟩
  · go_enter Tryz.func52, Tryz.ntmps52
    go_wp2
    go_ret
    exact ⟨by simp [h0], rfl⟩
set_option maxHeartbeats 400000 in
theorem refusal_ok (b : Nat) (t : Tab) (a : Ann) (w : World) (ht : AnnIn w b t a) (hj : a.job = .slice none 0 0) (hr : a.reads = false) :
    Calls Tryz.prog 45 #[.pointer (some ⟨b, 0, none⟩)] w fun e w' => e = .returned (.int .i64 0) ∧ w = w' := by
  have q : w.cell? ⟨b, 139, none⟩ = some (.bool false) := by have := ht.rest 11; rw [← hr]; exact this
  go_enter Tryz.func45, Tryz.ntmps45
  go_wp2_with fail
  refine (hasJob_any b t a w ht none 0 0 hj (by omega)).mono ?_
  rintro e w' ⟨rfl, rfl⟩
  simp only [Nat.lt_irrefl, decide_false]
  go_wp2
  go_ret
  exact ⟨rfl, rfl⟩
set_option maxHeartbeats 400000 in
theorem needs_yes (b : Nat) (t : Tab) (a : Ann) (w : World) (ht : AnnIn w b t a) (hs : a.segment = 0) :
    Calls Tryz.prog 46 #[.pointer (some ⟨b, 0, none⟩)] w fun e w' => e = .returned (.bool true) ∧ w = w' := by
  have q : w.cell? ⟨b, 133, none⟩ = some (.int .i64 0) := by have := ht.rest 5; rw [← hs]; exact this
  have q2 : w.cell? ⟨b, 134, none⟩ = some (.int .i64 a.size) := ht.rest 6
  go_enter Tryz.func46, Tryz.ntmps46
  go_wp2
  go_ret
  exact ⟨rfl, rfl⟩

theorem buildAct1 (w : World) (k : Int) (n : ByteArray) : (Instr.build 78 #[(0, .int .i64 k), (1, .string n)]).run Tryz.prog w = .ok (.agg #[.int .i64 k, .string n, .string .empty, .string .empty]) w := by kernel_rfl
theorem buildAct2 (w : World) (k : Int) (n d : ByteArray) : (Instr.build 78 #[(0, .int .i64 k), (1, .string n), (2, .string d)]).run Tryz.prog w = .ok (.agg #[.int .i64 k, .string n, .string d, .string .empty]) w := by kernel_rfl
theorem buildAct0 (w : World) (k : Int) : (Instr.build 78 #[(0, .int .i64 k)]).run Tryz.prog w = .ok (.agg #[.int .i64 k, .string .empty, .string .empty, .string .empty]) w := by kernel_rfl
theorem buildStep (w : World) (k : Int) (n d e : ByteArray) (f1 f2 : Fn) (a1 c1 a2 c2 : Array Value) : (Instr.build 134 #[(0, .agg #[.int .i64 k, .string n, .string d, .string e]), (1, .func f1 a1 c1), (2, .func f2 a2 c2)]).run Tryz.prog w = .ok (.agg #[.int .i64 k, .string n, .string d, .string e, .func f1 a1 c1, .func f2 a2 c2]) w := by kernel_rfl
theorem buildStep0 (w : World) (k : Int) (n d e : ByteArray) (f2 : Fn) (a2 c2 : Array Value) : (Instr.build 134 #[(0, .agg #[.int .i64 k, .string n, .string d, .string e]), (2, .func f2 a2 c2)]).run Tryz.prog w = .ok (.agg #[.int .i64 k, .string n, .string d, .string e, .nilFunc, .func f2 a2 c2]) w := by kernel_rfl
end Go.Proofs.YthdffenpkdbejaaGreatDoor

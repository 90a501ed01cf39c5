import Derived.Test.YthdffenpkdbejaaGreatDoorTabF
namespace Go.Proofs.YthdffenpkdbejaaGreatDoor
open Go.RowKit

/-- an operation as the document wants it -/
def TOp.Right (o : TOp) : Prop := 0 ≤ o.k ∧ o.k < 64 ∧ (((o.kind = 1 ∨ o.kind = 3 ∨ o.kind = 4) ∧ o.b = 0) ∨ ((o.kind = 2 ∨ o.kind = 5) ∧ o.a = 0 ∧ o.b = 0) ∨ (o.kind = 6 ∧ 0 ≤ o.a ∧ o.a < 64 ∧ 0 ≤ o.b ∧ o.b < 64))
theorem TOp.Right.ok {o : TOp} (h : o.Right) (h1 : -9223372036854775808 ≤ o.a) (h2 : o.a ≤ 9223372036854775807) : o.Ok := by
  obtain ⟨k0, k1, h⟩ := h
  exact ⟨k0, k1, h1, h2, by omega, by omega, by omega, by omega⟩

set_option maxHeartbeats 400000 in
theorem hasKey_yes (k : Int) (w : World) (h0 : 0 ≤ k) (h1 : k < 64) :
    Calls Tryz.prog 80 #[.int .i64 k] w fun e w' => e = .returned (.bool true) ∧ w' = w := by
  go_enter Tryz.func80, Tryz.ntmps80
  go_wp2
  go_ret
  exact ⟨rfl, rfl⟩

set_option maxHeartbeats 800000 in
theorem isOp_yes (o : TOp) (w : World) (ho : o.Right) :
    Calls Tryz.prog 165 #[o.val] w fun e w' => e = .returned (.bool true) ∧ Below w.heap.size w w' := by
  obtain ⟨kd, k, a, c⟩ := o
  obtain ⟨k0, k1, h⟩ := ho
  simp only [TOp.val] at *
  rcases h with ⟨rfl | rfl | rfl, rfl⟩ | ⟨rfl | rfl, rfl, rfl⟩ | ⟨rfl, a0, a1, c0, c1⟩
  all_goals
    go_enter Tryz.func165, Tryz.ntmps165
    go_wp2_with (go_at_call 80; refine (hasKey_yes _ _ (by assumption) (by assumption)).mono ?_; rintro e w' ⟨rfl, rfl⟩)
    go_ret
    exact ⟨rfl, (Below.refl _ _).alloc (Nat.le_refl _) _⟩

set_option maxHeartbeats 800000 in
theorem isTxn_yes (w : World) (c off cap : Nat) (l : List TOp) (hl : OpsAt w c off l) (hok : ∀ o ∈ l, o.Right) (hcl : c < w.heap.size) (hn0 : 1 ≤ l.length) (hn : l.length ≤ 8) :
    Calls Tryz.prog 110 #[.slice (some ⟨c, off, none⟩) l.length cap] w fun e w' => e = .returned (.bool true) ∧ Below w.heap.size w w' := by
  go_enter Tryz.func110, Tryz.ntmps110
  go_wp2
  go_loopw [15] (fun i wr => ∃ (k : Nat), k ≤ l.length ∧ i = .int .i64 k ∧ Below w.heap.size w wr) (fun i _ => l.length - (intOf i).toNat)
  case atStart => exact ⟨0, by omega, rfl, Below.refl _ _⟩
  case round =>
    obtain ⟨k, hk, rfl, bw⟩ := hrel
    by_cases hlt : k < l.length
    · have ho : l[k]? = some l[k] := List.getElem?_eq_getElem hlt
      generalize l[k] = o at ho
      have hO := hok o (List.mem_of_getElem? ho)
      have lw : OpsAt wr c off l := hl.other (bw.block c (by omega))
      obtain ⟨q0, q1, q2, q3⟩ := lw k o ho
      have hwz := bw.size
      have hD := isOp_yes o (wr.alloc (.cells #[.int .i64 o.kind, .int .i64 o.k, .int .i64 o.a, .int .i64 o.b] 70)) hO
      simp only [TOp.val] at hD
      have hD' := hide hD
      clear hD ho lw hl hok
      go_wp2_with fail
      refine (unhide hD').mono ?_
      rintro e w' ⟨rfl, b2⟩
      have b3 : Below w.heap.size w w' := (bw.alloc (by omega) _).trans (b2.mono (by simp; omega))
      clear b2
      go_wp2
      go_roundw
      case rel => exact ⟨k + 1, by omega, by go_num, b3⟩
      case measure => simp [intOf]; omega
    · go_wp2
      go_ret
      exact ⟨rfl, bw⟩

theorem BatAt.below {w w' : World} {b c off : Nat} {r : List (List TOp)} (h : BatAt w b c off r) (o : Below w.heap.size w w') (hcl : c < w.heap.size) : BatAt w' b c off r := by
  intro i l hi
  obtain ⟨ci, oi, pi, h1, h2, h3, h4⟩ := h i l hi
  exact ⟨ci, oi, pi, by rw [World.cell?_of_block (w := w) (a := ⟨c, off + i, none⟩) (o.block c hcl)]; exact h1, h2.other (o.block ci h4), h3, Nat.lt_of_lt_of_le h4 o.size⟩

set_option maxHeartbeats 800000 in
theorem isBat_yes (w : World) (b c off cap : Nat) (r : List (List TOp)) (hr : BatAt w b c off r) (hok : ∀ l ∈ r, ∀ o ∈ l, o.Right) (hlen : ∀ l ∈ r, 1 ≤ l.length ∧ l.length ≤ 8) (hcl : c < w.heap.size) (hn0 : 1 ≤ r.length) (hn : r.length ≤ 8) :
    Calls Tryz.prog 57 #[.slice (some ⟨c, off, none⟩) r.length cap] w fun e w' => e = .returned (.bool true) ∧ Below w.heap.size w w' := by
  go_enter Tryz.func57, Tryz.ntmps57
  go_wp2
  go_loopw [15] (fun i wr => ∃ (k : Nat), k ≤ r.length ∧ i = .int .i64 k ∧ Below w.heap.size w wr) (fun i _ => r.length - (intOf i).toNat)
  case atStart => exact ⟨0, by omega, rfl, Below.refl _ _⟩
  case round =>
    obtain ⟨k, hk, rfl, bw⟩ := hrel
    by_cases hlt : k < r.length
    · have ho : r[k]? = some r[k] := List.getElem?_eq_getElem hlt
      generalize r[k] = l at ho
      have hmem := List.mem_of_getElem? ho
      obtain ⟨ci, oi, pi, q1, q2, q3, q4⟩ := (hr.below bw hcl) k l ho
      have hwz := bw.size
      obtain ⟨n0, n1⟩ := hlen l hmem
      have hD := hide (isTxn_yes wr ci oi pi l q2 (hok l hmem) q4 n0 n1)
      clear ho hr hok hlen hmem q2
      go_wp2_with fail
      refine (unhide hD).mono ?_
      rintro e w' ⟨rfl, b2⟩
      have b3 : Below w.heap.size w w' := bw.trans (b2.mono (by omega))
      clear b2
      go_wp2
      go_roundw
      case rel => exact ⟨k + 1, by omega, by go_num, b3⟩
      case measure => simp [intOf]; omega
    · go_wp2
      go_ret
      exact ⟨rfl, bw⟩
end Go.Proofs.YthdffenpkdbejaaGreatDoor

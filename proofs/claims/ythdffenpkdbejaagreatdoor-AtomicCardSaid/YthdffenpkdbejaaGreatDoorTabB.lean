import Derived.Test.YthdffenpkdbejaaGreatDoorTabA
namespace Go.Proofs.YthdffenpkdbejaaGreatDoor
open Go.RowKit

/-- the sum of n values from key a on, added up one by one; none: it is no number of 64 bits somewhere -/
def sums (v : Nat → Int) (a : Nat) : Nat → Option Int
  | 0 => some 0
  | n + 1 => match sums v a n with
    | none => none
    | some s => if fitsB s (v (a + n)) = true then some (s + v (a + n)) else none

theorem sums_none (v : Nat → Int) (a m : Nat) (h : sums v a m = none) : ∀ n, m ≤ n → sums v a n = none
  | 0, hn => by have : m = 0 := by omega
                subst this; exact h
  | n + 1, hn => by
    by_cases e : m = n + 1
    · subst e; exact h
    · have := sums_none v a m h n (by omega)
      simp [sums, this]
theorem sums_small (v : Nat → Int) (a : Nat) : ∀ (n : Nat) (s : Int), sums v a n = some s → -9223372036854775808 ≤ s ∧ s ≤ 9223372036854775807
  | 0, s, h => by simp [sums] at h; omega
  | n + 1, s, h => by
    simp only [sums] at h
    split at h
    · simp at h
    · split at h
      · rename_i hf
        simp only [fitsB, decide_eq_true_eq] at hf
        simp at h
        omega
      · simp at h
theorem sums_yes (v : Nat → Int) (a m : Nat) (s : Int) (h : sums v a m = some s) (hf : fitsB s (v (a + m)) = true) : sums v a (m + 1) = some (s + v (a + m)) := by
  simp [sums, h, hf]
theorem sums_no (v : Nat → Int) (a m : Nat) (s : Int) (h : sums v a m = some s) (hf : fitsB s (v (a + m)) = false) : sums v a (m + 1) = none := by
  simp [sums, h, hf]

set_option maxHeartbeats 800000 in
theorem putSum_any (b : Nat) (T : TypeId) (h : Nat → Bool) (v : Nat → Int) (rest : List Value) (k : Int) (x y : Int) (w : World) (t : TabIn w b T h v rest) (h0 : 0 ≤ k) (hk : k < 64) (hv : Small v) (hx1 : 0 ≤ x) (hx2 : x < 64) (hy1 : 0 ≤ y) (hy2 : y < 64) :
    Calls Tryz.prog 204 #[.pointer (some ⟨b, 0, none⟩), .int .i64 k, .int .i64 x, .int .i64 y] w fun e w' =>
      (∃ s, sums v x.toNat (y + 1 - x).toNat = some s ∧ e = .returned (.bool true) ∧ TabIn w' b T (upd h k.toNat true) (upd v k.toNat s) rest ∧ Only b w w') ∨
      (sums v x.toNat (y + 1 - x).toNat = none ∧ e = .returned (.bool false) ∧ w' = w) := by
  obtain ⟨a, rfl⟩ := Int.eq_ofNat_of_zero_le hx1
  simp only [Int.toNat_natCast]
  go_enter Tryz.func204, Tryz.ntmps204
  go_wp2
  go_loop [9, 10] (fun s i => ∃ (m : Nat) (z : Int), (m : Int) ≤ (y + 1 - a).toNat ∧ i = .int .i64 (a + m : Nat) ∧ s = .int .i64 z ∧ Hid (sums v a m = some z)) (fun _ i => (64 - (intOf i)).toNat)
  case atStart => exact ⟨0, 0, by omega, rfl, rfl, rfl⟩
  case round =>
    obtain ⟨m, z, hm, rfl, rfl, hs⟩ := hrel
    have hz := sums_small v a m z hs.out
    obtain ⟨z1, z2⟩ := hz
    by_cases hlt : ((a + m : Nat) : Int) ≤ y
    · have hj : a + m < 64 := by omega
      have h2 := t.val (a + m) hj
      obtain ⟨b1, b2⟩ := hv (a + m)
      have hv' := hide hv
      clear hv
      go_wp2_with fail
      refine (plus_any _ _ _ z1 z2 b1 b2).mono ?_
      rintro e w' ⟨rfl, rfl⟩
      cases hf : fitsB z (v (a + m))
      · have hn := sums_none v a (m + 1) (sums_no v a m z hs.out hf) (y + 1 - a).toNat (by omega)
        have hn' := hide hn
        clear hn
        go_wp2
        go_ret
        exact Or.inr ⟨hn', rfl, rfl⟩
      · have hn := sums_yes v a m z hs.out hf
        have hw := wrap_fits hf
        have hn' := hide hn
        have hf' := hide hf
        clear hn hf
        rw [hw]
        clear hw
        go_wp2
        go_round
        case rel => exact ⟨m + 1, _, by omega, by go_num, rfl, hn'⟩
        case measure => simp [intOf]; omega
    · have e : (y + 1 - a).toNat = m := by omega
      have hv' := hide hv
      have e' := hide e
      clear hv e
      go_wp2_with fail
      refine (put_any b T h v rest _ _ _ t h0 hk).mono ?_
      rintro e w' ⟨rfl, t2, o2⟩
      go_wp2
      go_ret
      exact Or.inl ⟨z, by rw [unhide e']; exact hs, rfl, t2, o2⟩
end Go.Proofs.YthdffenpkdbejaaGreatDoor

import Derived.Test.YthdffenpkdbejaaGreatDoorProg
import Derived.Test.YthdffenpkdbejaaGreatDoorTabW
namespace Go.Proofs.YthdffenpkdbejaaGreatDoor
open Go.RowKit

/-- 'the sum is a number of 64 bits' -/
def fitsB (x y : Int) : Bool := decide (-9223372036854775808 ≤ x + y ∧ x + y ≤ 9223372036854775807)

theorem fits_neg (x y : Int) (hx : -9223372036854775808 ≤ x) (hx' : x ≤ 9223372036854775807) (hy : -9223372036854775808 ≤ y) (h : y < 0) :
    decide (wrap64 (x + y) < x) = fitsB x y := by
  unfold fitsB wrap64
  rw [decide_eq_decide]
  omega
theorem fits_pos (x y : Int) (hx : -9223372036854775808 ≤ x) (hx' : x ≤ 9223372036854775807) (hy : y ≤ 9223372036854775807) (h : 0 ≤ y) :
    decide (x ≤ wrap64 (x + y)) = fitsB x y := by
  unfold fitsB wrap64
  rw [decide_eq_decide]
  omega
theorem ret_pair (a : Int) (b c : Bool) (h : b = c) : Ending.returned (.tuple #[.int .i64 a, .bool b]) = .returned (.tuple #[.int .i64 a, .bool c]) := by rw [h]

set_option maxHeartbeats 400000 in
theorem plus_any (x y : Int) (w : World) (hx : -9223372036854775808 ≤ x) (hx' : x ≤ 9223372036854775807) (hy : -9223372036854775808 ≤ y) (hy' : y ≤ 9223372036854775807) :
    Calls Tryz.prog 253 #[.int .i64 x, .int .i64 y] w fun e w' => e = .returned (.tuple #[.int .i64 (wrap64 (x + y)), .bool (fitsB x y)]) ∧ w' = w := by
  go_enter Tryz.func253, Tryz.ntmps253
  go_wp2
  all_goals go_ret2
  · exact ⟨ret_pair _ _ _ (fits_neg x y hx hx' hy (by assumption)), rfl⟩
  · exact ⟨ret_pair _ _ _ (fits_pos x y hx hx' hy' (by assumption)), rfl⟩

set_option maxHeartbeats 400000 in
theorem put_any (b : Nat) (T : TypeId) (h : Nat → Bool) (v : Nat → Int) (rest : List Value) (k x : Int) (w : World) (t : TabIn w b T h v rest) (h0 : 0 ≤ k) (hk : k < 64) :
    Calls Tryz.prog 201 #[.pointer (some ⟨b, 0, none⟩), .int .i64 k, .int .i64 x] w fun e w' => e = .returned (.tuple #[]) ∧ TabIn w' b T (upd h k.toNat true) (upd v k.toNat x) rest ∧ Only b w w' := by
  obtain ⟨k, rfl⟩ := Int.eq_ofNat_of_zero_le h0
  have hk' : k < 64 := by omega
  have h1 := t.has k hk'
  have h2 := t.val k hk'
  have h3 := t.frozen k
  have h4 := t.frozen (64 + k)
  have T1 := (t.setHas k hk' true).setVal k hk' x
  go_enter Tryz.func201, Tryz.ntmps201
  go_wp2
  go_end0
  exact ⟨rfl, T1, ((Only.refl b w).setCell _ _).setCell _ _⟩

set_option maxHeartbeats 400000 in
theorem drop_any (b : Nat) (T : TypeId) (h : Nat → Bool) (v : Nat → Int) (rest : List Value) (k : Int) (w : World) (t : TabIn w b T h v rest) (h0 : 0 ≤ k) (hk : k < 64) :
    Calls Tryz.prog 202 #[.pointer (some ⟨b, 0, none⟩), .int .i64 k] w fun e w' => e = .returned (.tuple #[]) ∧ TabIn w' b T (upd h k.toNat false) (upd v k.toNat 0) rest ∧ Only b w w' := by
  obtain ⟨k, rfl⟩ := Int.eq_ofNat_of_zero_le h0
  have hk' : k < 64 := by omega
  have h1 := t.has k hk'
  have h2 := t.val k hk'
  have h3 := t.frozen k
  have h4 := t.frozen (64 + k)
  have T1 := (t.setHas k hk' false).setVal k hk' 0
  go_enter Tryz.func202, Tryz.ntmps202
  go_wp2
  go_end0
  exact ⟨rfl, T1, ((Only.refl b w).setCell _ _).setCell _ _⟩

/-- all values are numbers of 64 bits -/
def Small (v : Nat → Int) : Prop := ∀ j, -9223372036854775808 ≤ v j ∧ v j ≤ 9223372036854775807
theorem Small.upd {v : Nat → Int} (hv : Small v) (k : Nat) (x : Int) (h1 : -9223372036854775808 ≤ x) (h2 : x ≤ 9223372036854775807) : Small (upd v k x) := by
  intro j
  unfold Go.Proofs.YthdffenpkdbejaaGreatDoor.upd
  split
  · exact ⟨h1, h2⟩
  · exact hv j
theorem wrap_fits {x y : Int} (h : fitsB x y = true) : wrap64 (x + y) = x + y := by
  simp [fitsB] at h
  unfold wrap64
  omega
theorem Small.wrap (x : Int) : -9223372036854775808 ≤ wrap64 x ∧ wrap64 x ≤ 9223372036854775807 := by unfold wrap64; omega

/-- it fits: it is added -/
theorem add_yes (b : Nat) (T : TypeId) (h : Nat → Bool) (v : Nat → Int) (rest : List Value) (k x : Int) (w : World) (t : TabIn w b T h v rest) (h0 : 0 ≤ k) (hk : k < 64) (hv : Small v) (hx1 : -9223372036854775808 ≤ x) (hx2 : x ≤ 9223372036854775807) (hf : fitsB (v k.toNat) x = true) :
    Calls Tryz.prog 203 #[.pointer (some ⟨b, 0, none⟩), .int .i64 k, .int .i64 x] w fun e w' => e = .returned (.bool true) ∧ TabIn w' b T (upd h k.toNat true) (upd v k.toNat (v k.toNat + x)) rest ∧ Only b w w' := by
  obtain ⟨k, rfl⟩ := Int.eq_ofNat_of_zero_le h0
  have hk' : k < 64 := by omega
  have h2 := t.val k hk'
  have hw := wrap_fits hf
  simp only [Int.toNat_natCast] at hw hf ⊢
  obtain ⟨b1, b2⟩ := hv k
  have HW := hide hw
  have HF := hide hf
  clear hw hf hv
  go_enter Tryz.func203, Tryz.ntmps203
  go_wp2_with fail
  refine (plus_any _ _ _ b1 b2 hx1 hx2).mono ?_
  rintro e w' ⟨rfl, rfl⟩
  rw [unhide HF, unhide HW]
  go_wp2_with fail
  refine (put_any b T h v rest _ _ _ t (by omega) (by omega)).mono ?_
  rintro e w' ⟨rfl, t2, o2⟩
  go_wp2
  go_ret
  exact ⟨rfl, t2, o2⟩

/-- it doesn't: nothing -/
theorem add_no (b : Nat) (T : TypeId) (h : Nat → Bool) (v : Nat → Int) (rest : List Value) (k x : Int) (w : World) (t : TabIn w b T h v rest) (h0 : 0 ≤ k) (hk : k < 64) (hv : Small v) (hx1 : -9223372036854775808 ≤ x) (hx2 : x ≤ 9223372036854775807) (hf : fitsB (v k.toNat) x = false) :
    Calls Tryz.prog 203 #[.pointer (some ⟨b, 0, none⟩), .int .i64 k, .int .i64 x] w fun e w' => e = .returned (.bool false) ∧ w' = w := by
  obtain ⟨k, rfl⟩ := Int.eq_ofNat_of_zero_le h0
  have hk' : k < 64 := by omega
  have h2 := t.val k hk'
  simp only [Int.toNat_natCast] at hf ⊢
  obtain ⟨b1, b2⟩ := hv k
  have HF := hide hf
  clear hf hv
  go_enter Tryz.func203, Tryz.ntmps203
  go_wp2_with fail
  refine (plus_any _ _ _ b1 b2 hx1 hx2).mono ?_
  rintro e w' ⟨rfl, rfl⟩
  rw [unhide HF]
  go_wp2
  go_ret
  exact ⟨rfl, rfl⟩
end Go.Proofs.YthdffenpkdbejaaGreatDoor

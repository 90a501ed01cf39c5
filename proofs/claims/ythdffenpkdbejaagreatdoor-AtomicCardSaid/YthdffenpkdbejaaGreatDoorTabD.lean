import Derived.Test.YthdffenpkdbejaaGreatDoorTabC
namespace Go.Proofs.YthdffenpkdbejaaGreatDoor
open Go.RowKit

set_option maxHeartbeats 800000 in
theorem doOp_3 (b : Nat) (T : TypeId) (t : Tab) (rest : List Value) (o : TOp) (w : World) (ht : TabIn w b T t.h t.v rest) (ho : o.Ok) (hs : Small t.v) (hk : o.kind = 3) :
    Calls Tryz.prog 166 #[.pointer (some ⟨b, 0, none⟩), o.val] w fun e w' =>
      e = .returned (.bool (opDo t o).1) ∧ TabIn w' b T (opDo t o).2.h (opDo t o).2.v rest ∧ Only b w w' := by
  obtain ⟨h, v⟩ := t
  obtain ⟨kd, k, a, c⟩ := o
  obtain ⟨k0, k1, a0, a1, s0, s1, s2, s3⟩ := ho
  simp only at k0 k1 a0 a1 s0 s1 s2 s3 ht hk hs
  have hb := ht.lt
  have ta := ht.alloc (.cells #[.int .i64 kd, .int .i64 k, .int .i64 a, .int .i64 c] 70)
  clear ht
  subst hk
  cases hf : fitsB (v k.toNat) a
  · have e1 : opDo ⟨h, v⟩ ⟨3, k, a, c⟩ = (false, ⟨h, v⟩) := by simp [opDo, hf]
    rw [e1]
    simp only [TOp.val]
    clear e1
    have hf' := hide hf
    have hs' := hide hs
    clear hf hs
    go_enter Tryz.func166, Tryz.ntmps166
    go_wp2_with fail
    refine (add_no b T h v rest _ _ _ ta k0 k1 hs' a0 a1 hf').mono ?_
    rintro e w' ⟨rfl, rfl⟩
    go_wp2
    go_ret
    exact ⟨rfl, ta, (Only.refl b w).alloc _⟩
  · have e1 : opDo ⟨h, v⟩ ⟨3, k, a, c⟩ = (true, ⟨upd h k.toNat true, upd v k.toNat (v k.toNat + a)⟩) := by simp [opDo, hf]
    rw [e1]
    simp only [TOp.val]
    clear e1
    have hf' := hide hf
    have hs' := hide hs
    clear hf hs
    go_enter Tryz.func166, Tryz.ntmps166
    go_wp2_with fail
    refine (add_yes b T h v rest _ _ _ ta k0 k1 hs' a0 a1 hf').mono ?_
    rintro e w' ⟨rfl, t2, o2⟩
    go_wp2
    go_ret
    exact ⟨rfl, t2, ((Only.refl b w).alloc _).trans o2⟩

set_option maxHeartbeats 800000 in
theorem doOp_6 (b : Nat) (T : TypeId) (t : Tab) (rest : List Value) (o : TOp) (w : World) (ht : TabIn w b T t.h t.v rest) (ho : o.Ok) (hs : Small t.v) (hk : o.kind = 6) :
    Calls Tryz.prog 166 #[.pointer (some ⟨b, 0, none⟩), o.val] w fun e w' =>
      e = .returned (.bool (opDo t o).1) ∧ TabIn w' b T (opDo t o).2.h (opDo t o).2.v rest ∧ Only b w w' := by
  obtain ⟨h, v⟩ := t
  obtain ⟨kd, k, a, c⟩ := o
  obtain ⟨k0, k1, a0, a1, s0, s1, s2, s3⟩ := ho
  simp only at k0 k1 a0 a1 s0 s1 s2 s3 ht hk hs
  have hb := ht.lt
  have ta := ht.alloc (.cells #[.int .i64 kd, .int .i64 k, .int .i64 a, .int .i64 c] 70)
  clear ht
  subst hk
  have q0 := s0 rfl
  have q1 := s1 rfl
  have q2 := s2 rfl
  have q3 := s3 rfl
  clear s0 s1 s2 s3
  have hs' := hide hs
  clear hs
  cases hq : sums v a.toNat (c + 1 - a).toNat with
  | none =>
    have e1 : opDo ⟨h, v⟩ ⟨6, k, a, c⟩ = (false, ⟨h, v⟩) := by simp [opDo, hq]
    rw [e1]
    simp only [TOp.val]
    clear e1
    have hq' := hide hq
    clear hq
    go_enter Tryz.func166, Tryz.ntmps166
    go_wp2_with fail
    refine (putSum_any b T h v rest _ _ _ _ ta k0 k1 hs' q0 q1 q2 q3).mono ?_
    rintro e w' (⟨s, hr, rfl, t2, o2⟩ | ⟨hr, rfl, rfl⟩)
    · rw [unhide hq'] at hr; cases hr
    · clear hr
      go_wp2
      go_ret
      exact ⟨rfl, ta, (Only.refl b w).alloc _⟩
  | some s0 =>
    have e1 : opDo ⟨h, v⟩ ⟨6, k, a, c⟩ = (true, ⟨upd h k.toNat true, upd v k.toNat s0⟩) := by simp [opDo, hq]
    rw [e1]
    simp only [TOp.val]
    clear e1
    have hq' := hide hq
    clear hq
    go_enter Tryz.func166, Tryz.ntmps166
    go_wp2_with fail
    refine (putSum_any b T h v rest _ _ _ _ ta k0 k1 hs' q0 q1 q2 q3).mono ?_
    rintro e w' (⟨s, hr, rfl, t2, o2⟩ | ⟨hr, rfl, rfl⟩)
    · rw [unhide hq'] at hr
      cases hr
      go_wp2
      go_ret
      exact ⟨rfl, t2, ((Only.refl b w).alloc _).trans o2⟩
    · rw [unhide hq'] at hr; cases hr

set_option maxHeartbeats 800000 in
theorem doOp_5 (b : Nat) (T : TypeId) (t : Tab) (rest : List Value) (o : TOp) (w : World) (ht : TabIn w b T t.h t.v rest) (ho : o.Ok) (hs : Small t.v) (hk : o.kind = 5) :
    Calls Tryz.prog 166 #[.pointer (some ⟨b, 0, none⟩), o.val] w fun e w' =>
      e = .returned (.bool (opDo t o).1) ∧ TabIn w' b T (opDo t o).2.h (opDo t o).2.v rest ∧ Only b w w' := by
  obtain ⟨h, v⟩ := t
  obtain ⟨kd, k, a, c⟩ := o
  obtain ⟨k0, k1, a0, a1, s0, s1, s2, s3⟩ := ho
  simp only at k0 k1 a0 a1 s0 s1 s2 s3 ht hk hs
  have hb := ht.lt
  have ta := ht.alloc (.cells #[.int .i64 kd, .int .i64 k, .int .i64 a, .int .i64 c] 70)
  clear hs
  subst hk
  simp only [opDo, TOp.val]
  clear s0 s1 s2 s3
  obtain ⟨k, rfl⟩ := Int.eq_ofNat_of_zero_le k0
  have hk' : k < 64 := by omega
  have h1 := ht.has k hk'
  simp only [Int.toNat_natCast]
  go_enter Tryz.func166, Tryz.ntmps166
  go_wp2
  go_quiet (fail)
  go_wp2
  go_ret
  exact ⟨rfl, ta, ((Only.refl b w).alloc _).drewN _⟩

set_option maxHeartbeats 800000 in
theorem doOp_4 (b : Nat) (T : TypeId) (t : Tab) (rest : List Value) (o : TOp) (w : World) (ht : TabIn w b T t.h t.v rest) (ho : o.Ok) (hs : Small t.v) (hk : o.kind = 4) :
    Calls Tryz.prog 166 #[.pointer (some ⟨b, 0, none⟩), o.val] w fun e w' =>
      e = .returned (.bool (opDo t o).1) ∧ TabIn w' b T (opDo t o).2.h (opDo t o).2.v rest ∧ Only b w w' := by
  obtain ⟨h, v⟩ := t
  obtain ⟨kd, k, a, c⟩ := o
  obtain ⟨k0, k1, a0, a1, s0, s1, s2, s3⟩ := ho
  simp only at k0 k1 a0 a1 s0 s1 s2 s3 ht hk hs
  have hb := ht.lt
  have ta := ht.alloc (.cells #[.int .i64 kd, .int .i64 k, .int .i64 a, .int .i64 c] 70)
  clear hs
  subst hk
  simp only [opDo, TOp.val]
  clear s0 s1 s2 s3
  obtain ⟨k, rfl⟩ := Int.eq_ofNat_of_zero_le k0
  have hk' : k < 64 := by omega
  have h1 := ht.has k hk'
  have h2 := ht.val k hk'
  simp only [Int.toNat_natCast]
  cases hh : h k
  all_goals
    rw [hh] at h1
    have hh' := hide hh
    clear hh
    go_enter Tryz.func166, Tryz.ntmps166
    go_wp2
    go_quiet (fail)
    go_wp2
    go_ret
    exact ⟨rfl, ta, ((Only.refl b w).alloc _).drewN _⟩

set_option maxHeartbeats 800000 in
theorem doOp_else (b : Nat) (T : TypeId) (t : Tab) (rest : List Value) (o : TOp) (w : World) (ht : TabIn w b T t.h t.v rest) (ho : o.Ok) (hs : Small t.v) (hk : o.kind < 1 ∨ 6 < o.kind) :
    Calls Tryz.prog 166 #[.pointer (some ⟨b, 0, none⟩), o.val] w fun e w' =>
      e = .returned (.bool (opDo t o).1) ∧ TabIn w' b T (opDo t o).2.h (opDo t o).2.v rest ∧ Only b w w' := by
  obtain ⟨h, v⟩ := t
  obtain ⟨kd, k, a, c⟩ := o
  obtain ⟨k0, k1, a0, a1, s0, s1, s2, s3⟩ := ho
  simp only at k0 k1 a0 a1 s0 s1 s2 s3 ht hk hs
  have hb := ht.lt
  have ta := ht.alloc (.cells #[.int .i64 kd, .int .i64 k, .int .i64 a, .int .i64 c] 70)
  clear hs ht
  have e1 : opDo ⟨h, v⟩ ⟨kd, k, a, c⟩ = (true, ⟨h, v⟩) := by
    unfold opDo
    simp only
    rw [if_neg (by omega), if_neg (by omega), if_neg (by omega), if_neg (by omega), if_neg (by omega), if_neg (by omega)]
  rw [e1]
  simp only [TOp.val]
  clear e1
  rcases hk with hk | hk
  all_goals
    go_enter Tryz.func166, Tryz.ntmps166
    go_wp2
    go_ret
    exact ⟨rfl, ta, (Only.refl b w).alloc _⟩

theorem doOp_any (b : Nat) (T : TypeId) (t : Tab) (rest : List Value) (o : TOp) (w : World) (ht : TabIn w b T t.h t.v rest) (ho : o.Ok) (hs : Small t.v) :
    Calls Tryz.prog 166 #[.pointer (some ⟨b, 0, none⟩), o.val] w fun e w' =>
      e = .returned (.bool (opDo t o).1) ∧ TabIn w' b T (opDo t o).2.h (opDo t o).2.v rest ∧ Only b w w' := by
  by_cases h1 : o.kind = 1 ∨ o.kind = 2
  · exact doOp_12 b T t rest o w ht ho h1
  by_cases h3 : o.kind = 3
  · exact doOp_3 b T t rest o w ht ho hs h3
  by_cases h4 : o.kind = 4
  · exact doOp_4 b T t rest o w ht ho hs h4
  by_cases h5 : o.kind = 5
  · exact doOp_5 b T t rest o w ht ho hs h5
  by_cases h6 : o.kind = 6
  · exact doOp_6 b T t rest o w ht ho hs h6
  exact doOp_else b T t rest o w ht ho hs (by omega)
end Go.Proofs.YthdffenpkdbejaaGreatDoor

import Derived.Test.YthdffenpkdbejaaGreatDoorTabB
import Derived.Deep.QuietTactic
import Derived.BigQuiet
namespace Go.Proofs.YthdffenpkdbejaaGreatDoor
open Go.RowKit

/-- a table: of each key whether it has a value, and the value -/
structure Tab where
  h : Nat → Bool
  v : Nat → Int

/-- an operation -/
structure TOp where
  kind : Int
  k : Int
  a : Int
  b : Int

def TOp.val (o : TOp) : Value := .agg #[.int .i64 o.kind, .int .i64 o.k, .int .i64 o.a, .int .i64 o.b]

/-- what an operation does; false: it fails -/
def opDo (t : Tab) (o : TOp) : Bool × Tab :=
  if o.kind = 1 then (true, ⟨upd t.h o.k.toNat true, upd t.v o.k.toNat o.a⟩)
  else if o.kind = 2 then (true, ⟨upd t.h o.k.toNat false, upd t.v o.k.toNat 0⟩)
  else if o.kind = 3 then (if fitsB (t.v o.k.toNat) o.a = true then (true, ⟨upd t.h o.k.toNat true, upd t.v o.k.toNat (t.v o.k.toNat + o.a)⟩) else (false, t))
  else if o.kind = 4 then (t.h o.k.toNat && (t.v o.k.toNat == o.a), t)
  else if o.kind = 5 then (!t.h o.k.toNat, t)
  else if o.kind = 6 then (match sums t.v o.a.toNat (o.b + 1 - o.a).toNat with
    | some s => (true, ⟨upd t.h o.k.toNat true, upd t.v o.k.toNat s⟩)
    | none => (false, t))
  else (true, t)

/-- an operation that may be asked -/
structure TOp.Ok (o : TOp) : Prop where
  k0 : 0 ≤ o.k
  k1 : o.k < 64
  a0 : -9223372036854775808 ≤ o.a
  a1 : o.a ≤ 9223372036854775807
  s0 : o.kind = 6 → 0 ≤ o.a
  s1 : o.kind = 6 → o.a < 64
  s2 : o.kind = 6 → 0 ≤ o.b
  s3 : o.kind = 6 → o.b < 64

theorem opDo_small (t : Tab) (o : TOp) (ho : o.Ok) (hs : Small t.v) : Small (opDo t o).2.v := by
  unfold opDo
  have z : Small (upd t.v o.k.toNat 0) := hs.upd _ _ (by omega) (by omega)
  have z1 : Small (upd t.v o.k.toNat o.a) := hs.upd _ _ ho.a0 ho.a1
  split
  · exact z1
  split
  · exact z
  split
  · split
    · rename_i hf
      simp only [fitsB, decide_eq_true_eq] at hf
      exact hs.upd _ _ hf.1 hf.2
    · exact hs
  split
  · exact hs
  split
  · exact hs
  split
  · split
    · rename_i s hq
      have := sums_small _ _ _ _ hq
      exact hs.upd _ _ this.1 this.2
    · exact hs
  · exact hs

set_option maxHeartbeats 800000 in
theorem doOp_12 (b : Nat) (T : TypeId) (t : Tab) (rest : List Value) (o : TOp) (w : World) (ht : TabIn w b T t.h t.v rest) (ho : o.Ok) (hk : o.kind = 1 ∨ o.kind = 2) :
    Calls Tryz.prog 166 #[.pointer (some ⟨b, 0, none⟩), o.val] w fun e w' =>
      e = .returned (.bool (opDo t o).1) ∧ TabIn w' b T (opDo t o).2.h (opDo t o).2.v rest ∧ Only b w w' := by
  obtain ⟨h, v⟩ := t
  obtain ⟨kd, k, a, c⟩ := o
  obtain ⟨k0, k1, a0, a1, s0, s1, s2, s3⟩ := ho
  simp only at k0 k1 a0 a1 s0 s1 s2 s3 ht hk
  have hb := ht.lt
  have ta := ht.alloc (.cells #[.int .i64 kd, .int .i64 k, .int .i64 a, .int .i64 c] 70)
  clear ht
  rcases hk with rfl | rfl
  · simp only [opDo, TOp.val]
    go_enter Tryz.func166, Tryz.ntmps166
    go_wp2_with fail
    refine (put_any b T h v rest _ _ _ ta k0 k1).mono ?_
    rintro e w' ⟨rfl, t2, o2⟩
    go_wp2
    go_ret
    exact ⟨rfl, t2, ((Only.refl b w).alloc _).trans o2⟩
  · simp only [opDo, TOp.val]
    go_enter Tryz.func166, Tryz.ntmps166
    go_wp2_with fail
    refine (drop_any b T h v rest _ _ ta k0 k1).mono ?_
    rintro e w' ⟨rfl, t2, o2⟩
    go_wp2
    go_ret
    exact ⟨rfl, t2, ((Only.refl b w).alloc _).trans o2⟩
end Go.Proofs.YthdffenpkdbejaaGreatDoor

import Derived.Test.YthdffenpkdbejaaGreatDoorKeepB
import Derived.Laws.IdiomStrings
namespace Go.Proofs.YthdffenpkdbejaaGreatDoor
open Go.RowKit

/-- the cells of bytes -/
def byteCells (l : List UInt8) : List Value := l.map fun b => .int .u8 (b.toNat : Int)
theorem byteCells_length (l : List UInt8) : (byteCells l).length = l.length := by simp [byteCells]
theorem byteInfo : (Tryz.prog.info? 5).map (fun i => (i.zero, i.size, i.bytes)) = some (some (.int .u8 0), 1, 1) := by kernel_rfl

theorem byte_of (x : Int) : ∃ b : UInt8, IntKind.u8.wrap x = (b.toNat : Int) := by
  refine ⟨UInt8.ofNat (x % 256).toNat, ?_⟩
  have h1 : 0 ≤ x % 256 := by omega
  have h2 : x % 256 < 256 := by omega
  have e : (UInt8.ofNat (x % 256).toNat).toNat = (x % 256).toNat := by
    rw [UInt8.toNat_ofNat_of_lt']
    simp [UInt8.size]; omega
  rw [e]
  simp [IntKind.wrap, IntKind.signed, IntKind.bits]
  omega

/-- nothing below base has turned, and nothing that holds no cells of the type T -/
structure Keeps (T : TypeId) (base : Nat) (w w' : World) : Prop where
  below : Below base w w'
  block : ∀ k, k < w.heap.size → (∀ cs m, w.heap[k]? ≠ some (.cells cs T m)) → w'.heap[k]? = w.heap[k]?
theorem Keeps.refl (T : TypeId) (base : Nat) (w : World) : Keeps T base w w := ⟨Below.refl _ _, fun _ _ _ => rfl⟩
theorem Keeps.trans {T : TypeId} {base : Nat} {x y z : World} (h : Keeps T base x y) (k : Keeps T base y z) : Keeps T base x z :=
  ⟨h.below.trans k.below, fun i hi hn => by
    have e := h.block i hi hn
    rw [k.block i (Nat.lt_of_lt_of_le hi h.below.size) (by rw [e]; exact hn), e]⟩
theorem Keeps.alloc {T : TypeId} {base : Nat} {x w : World} (h : Keeps T base x w) (hb : base ≤ w.heap.size) (o : Obj) : Keeps T base x (w.alloc o) :=
  h.trans ⟨(Below.refl _ w).alloc hb o, fun _ hk _ => Below.heap_alloc _ _ _ hk⟩
theorem Keeps.grown {T : TypeId} {base : Nat} {x w w' : World} (h : Keeps T base x w) {v : Value} {size n : Nat} {xs : List Value} (hv : w.ownsRow base T size v n xs) (hb : base ≤ w.heap.size) (hg : w.grownBy w' v.ownBlock) : Keeps T base x w' :=
  h.trans ⟨(Below.refl _ w).grown hg hb (fun k hk => (hv.lt k hk).1), fun k hk hn => hg.block k hk (fun e => by
    obtain ⟨cur, hc⟩ := own_type hv e.symm
    exact hn _ _ hc)⟩

/-- what appendNumber and appendOperation leave -/
def NumPost (base : Nat) (w : World) (n : Nat) (e : Ending) (w' : World) : Prop :=
  ∃ v' l', e = .returned v' ∧ l'.length = n ∧ w'.ownsRow base 5 1 v' n (byteCells l') ∧ Keeps 5 base w w'

theorem byte_new (w : World) (b : UInt8) (n : Nat) (hn : n = w.heap.size) : ∀ (j : Nat) (u : Value), (byteCells [b])[j]? = some u → (w.alloc (.cells #[.int .u8 (b.toNat : Int)] 5)).cell? ((⟨n, 0, none⟩ : Addr).add j) = some u :=
  fun j u h => sliceCell_new w _ _ n hn j u h

set_option maxRecDepth 100000 in
set_option maxHeartbeats 1600000 in
theorem number_any (w : World) (base : Nat) (hb : base ≤ w.heap.size) (v : Value) (l : List UInt8) (m : Nat) (hm : l.length = m) (x s : Int) (size : Nat) (hs : s = size) (hs8 : size ≤ 8) (hl : m ≤ 100000) (hv : w.ownsRow base 5 1 v m (byteCells l)) (h1 : -9223372036854775808 ≤ x) (h2 : x ≤ 9223372036854775807) :
    Calls Tryz.prog 111 #[v, .int .i64 x, .int .i64 s] w (NumPost base w (m + size)) := by
  obtain ⟨io, hio, hio0, hio1, hio2⟩ := info_parts byteInfo
  have Hio := hide hio
  have Hio0 := hide hio0
  have Hio1 := hide hio1
  have Hio2 := hide hio2
  clear hio hio0 hio1 hio2
  subst hs
  subst hm
  have HV := hide hv
  clear hv
  go_enter Tryz.func111, Tryz.ntmps111
  go_wp2
  go_loopw [0, 1, 8] (fun v x i wr => ∃ (k : Nat) (l' : List UInt8) (z : Int), k ≤ size ∧ i = .int .i64 k ∧ x = .int .i64 z ∧ -9223372036854775808 ≤ z ∧ z ≤ 9223372036854775807 ∧ l'.length = l.length + k ∧ wr.ownsRow base 5 1 v (l.length + k) (byteCells l') ∧ Keeps 5 base w wr) (fun _ _ i _ => size - (intOf i).toNat)
  case atStart => exact ⟨0, l, x, by omega, rfl, rfl, h1, h2, rfl, unhide HV, Keeps.refl _ _ _⟩
  case round =>
    obtain ⟨k, l', z, hk, rfl, rfl, z1, z2, hl', hown, hkeep⟩ := hrel
    by_cases hlt : k < size
    · obtain ⟨b, hby⟩ := byte_of z
      have HO := hide hown
      have HK := hide hkeep
      have hbw := Nat.le_trans hb hkeep.below.size
      clear hown hkeep HV
      go_wp2_with (at_builtin; refine wpList_append_own _ rfl (.tmp 10) (.tmp 13) 75 rfl base 5 io _ 1 1 Tryz.underlying75 Hio Hio0 Hio1 Hio2 rfl (by decide) _ _ _ rfl (World.ownsRow.alloc (unhide HO) _) ⟨_, 0, none⟩ 1 1 (byteCells [b]) rfl rfl (byte_new _ b _ rfl) (by intro u hu; simp [byteCells] at hu; subst hu; rfl) (by unfold maxLen; omega) (by omega) (by simp; omega) ?_)
      intro v4' w1 hown' hgrow _
      have K1 := hide (((unhide HK).alloc hbw (.cells #[.int .u8 (b.toNat : Int)] 5)).grown (World.ownsRow.alloc (unhide HO) _) (by simp; omega) hgrow)
      have O1 := hide hown'
      clear hown' hgrow HO HK
      go_wp2
      go_roundw
      case rel => exact ⟨k + 1, l' ++ [b], _, by omega, by go_num, rfl, by omega, by omega, by simp [hl']; omega, by simpa [byteCells, Nat.add_assoc] using (unhide O1), unhide K1⟩
      case measure => simp [intOf]; omega
    · obtain rfl : k = size := by omega
      go_wp2
      go_ret
      exact ⟨_, l', rfl, hl', hown, hkeep⟩
end Go.Proofs.YthdffenpkdbejaaGreatDoor

import Derived.Test.YthdffenpkdbejaaGreatDoorWireB
namespace Go.Proofs.YthdffenpkdbejaaGreatDoor
open Go.RowKit

/-- a string out of an owned row of bytes -/
theorem str_of_own {w : World} {base : Nat} {v : Value} {n : Nat} {l : List UInt8} (h : w.ownsRow base 5 1 v n (byteCells l)) (hl : l.length = n) (hn : 1 ≤ n) :
    ∃ g cap, v = .slice (some ⟨g, 0, none⟩) n cap ∧ (convert 75 9 (.slice (some ⟨g, 0, none⟩) n cap)).run Tryz.prog w = .ok (.string ⟨l.toArray⟩) w := by
  obtain ⟨g, cap, rfl⟩ := own_form h hn
  refine ⟨g, cap, rfl, ?_⟩
  subst hl
  refine run_convert_bytes_back (P := Tryz.prog) w 75 9 5 ⟨g, 0, none⟩ cap l Tryz.underlying75 Tryz.underlying5 Tryz.underlying9 ?_
  intro j hj
  refine h.cells (g := g) rfl j _ ?_
  simp [byteCells, hj]

set_option maxRecDepth 100000 in
set_option maxHeartbeats 1600000 in
theorem check_any (w : World) (s : ByteArray) (hs : s.size ≤ 1000000) :
    Calls Tryz.prog 112 #[.string s] w fun e w' => ∃ z : Int, e = .returned (.int .u32 z) ∧ w = w' := by
  go_enter Tryz.func112, Tryz.ntmps112
  go_wp2
  go_loopw [3, 8] (fun c i wr => ∃ (k : Nat) (z : Int), k ≤ s.size ∧ i = .int .i64 k ∧ c = .int .u32 z ∧ w = wr) (fun _ i _ => s.size - (intOf i).toNat)
  case atStart => exact ⟨0, _, by omega, rfl, rfl, rfl⟩
  case round =>
    obtain ⟨k, z, hk, rfl, rfl, rfl⟩ := hrel
    by_cases hlt : k < s.size
    · go_wp2
      go_loopw [3, 17] (fun c i wr => ∃ (j : Nat) (z : Int), j ≤ 8 ∧ i = .int .i64 j ∧ c = .int .u32 z ∧ w = wr) (fun _ i _ => 8 - (intOf i).toNat)
      case atStart => exact ⟨0, _, by omega, rfl, rfl, rfl⟩
      case round =>
        obtain ⟨j, z, hj, rfl, rfl, rfl⟩ := hrel
        by_cases hlt8 : j < 8
        · go_wp2
          · exact ⟨⟨j + 1, _, by omega, by go_num, rfl, trivial⟩, by simp [intOf]; omega⟩
          · exact ⟨⟨j + 1, _, by omega, by go_num, rfl, trivial⟩, by simp [intOf]; omega⟩
        · go_wp2
          exact ⟨⟨k + 1, _, by omega, by go_num, rfl, trivial⟩, by simp [intOf]; omega⟩
    · go_wp2
      go_ret
      exact ⟨⟨_, rfl⟩, rfl⟩

/-- a string comes out, of at most n bytes, and nothing old has turned -/
def StrPost (w : World) (n : Nat) (e : Ending) (w' : World) : Prop := ∃ s, e = .returned (.string s) ∧ s.size ≤ n ∧ Below w.heap.size w w'

theorem wrap64_range (x : Int) : -9223372036854775808 ≤ RowKit.wrap64 x ∧ RowKit.wrap64 x ≤ 9223372036854775807 := by
  unfold RowKit.wrap64
  omega
theorem ba_size (l : List UInt8) : (⟨l.toArray⟩ : ByteArray).size = l.length := by
  show l.toArray.size = l.length
  exact List.size_toArray

set_option maxRecDepth 100000 in
set_option maxHeartbeats 1600000 in
theorem frame_any (w : World) (s : ByteArray) (hs : s.size ≤ 1000000) :
    Calls Tryz.prog 58 #[.string s] w (StrPost w (s.size + 6)) := by
  go_enter Tryz.func58, Tryz.ntmps58
  go_wp2_with fail
  refine (number_any w w.heap.size (Nat.le_refl _) (.slice none 0 0) [] 0 rfl _ 2 2 rfl (by omega) (by omega) (World.ownsRow_nil _ _ _ _) (by omega) (by omega)).mono ?_
  rintro e w1 ⟨v1, l1, rfl, hl1, own1, keep1⟩
  have O1 := hide own1
  have K1 := hide keep1
  have z1 := keep1.below.size
  clear own1 keep1
  go_wp2_with fail
  refine (check_any w1 s hs).mono ?_
  rintro e w2 ⟨z, rfl, rfl⟩
  have hz := wrap64_range z
  go_wp2_with fail
  refine (number_any w1 w.heap.size z1 v1 l1 2 hl1 _ 4 4 rfl (by omega) (by omega) (unhide O1) (by omega) (by omega)).mono ?_
  rintro e w2 ⟨v2, l2, rfl, hl2, own2, keep2⟩
  obtain ⟨g, cap, rfl, hcv⟩ := str_of_own own2 hl2 (by omega)
  have K2 := hide ((unhide K1).trans keep2)
  clear own2 keep2
  have hsz : (⟨l2.toArray⟩ : ByteArray).size + s.size ≤ 1000010 := by rw [ba_size]; omega
  go_wp2
  go_ret
  exact ⟨_, rfl, by rw [ByteArray.size_append, ba_size]; omega, (unhide K2).below⟩
end Go.Proofs.YthdffenpkdbejaaGreatDoor

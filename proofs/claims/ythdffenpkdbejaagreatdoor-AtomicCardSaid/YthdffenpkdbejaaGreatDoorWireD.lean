import Derived.Test.YthdffenpkdbejaaGreatDoorWireC
namespace Go.Proofs.YthdffenpkdbejaaGreatDoor
open Go.RowKit

set_option maxRecDepth 100000 in
set_option maxHeartbeats 3200000 in
theorem bytes_any (w : World) (num : Int) (n0 : 0 ≤ num) (n1 : num ≤ 999999999) (b c off cap : Nat) (r : List (List TOp)) (hr : BatAt w b c off r) (hcl : c < w.heap.size) (hok : ∀ l ∈ r, ∀ o ∈ l, o.Right ∧ o.Ok) (hlen : ∀ l ∈ r, 1 ≤ l.length ∧ l.length ≤ 8) (hn : r.length ≤ 8) :
    Calls Tryz.prog 59 #[.agg #[.int .i64 num, .slice (some ⟨c, off, none⟩) r.length cap]] w (StrPost w 1000) := by
  have hB : (w.alloc (.cells #[.int .i64 num, .slice (some ⟨c, off, none⟩) r.length cap] 137)).heap[w.heap.size]? = some (.cells #[.int .i64 num, .slice (some ⟨c, off, none⟩) r.length cap] 137 (0, 0)) := heap_alloc_last w _
  have K0 : Keeps 5 w.heap.size w (w.alloc (.cells #[.int .i64 num, .slice (some ⟨c, off, none⟩) r.length cap] 137)) := (Keeps.refl _ _ _).alloc (Nat.le_refl _) _
  have z0 := K0.below.size
  go_enter Tryz.func59, Tryz.ntmps59
  go_wp2_with fail
  refine (number_any _ w.heap.size z0 (.slice none 0 0) [] 0 rfl num 4 4 rfl (by omega) (by omega) (World.ownsRow_nil _ _ _ _) (by omega) (by omega)).mono ?_
  rintro e w1 ⟨v1, l1, rfl, hl1, own1, keep1⟩
  have hB1 := keep1.heap hB (by decide)
  have d1 : w1.cell? ⟨w.heap.size, 1, none⟩ = some (.slice (some ⟨c, off, none⟩) r.length cap) := by rw [cell_of_row _ _ _ _ _ _ hB1]; rfl
  have z1 : w.heap.size ≤ w1.heap.size := Nat.le_trans z0 keep1.below.size
  have O1 := hide own1
  have K1 := hide (K0.trans keep1)
  clear own1 keep1 K0 hB
  go_wp2_with fail
  refine (number_any _ w.heap.size z1 v1 l1 (0 + 4) hl1 _ 1 1 rfl (by omega) (by omega) (unhide O1) (by omega) (by omega)).mono ?_
  rintro e w2 ⟨v2, l2, rfl, hl2, own2, keep2⟩
  have hB2 := keep2.heap hB1 (by decide)
  have d2 : w2.cell? ⟨w.heap.size, 1, none⟩ = some (.slice (some ⟨c, off, none⟩) r.length cap) := by rw [cell_of_row _ _ _ _ _ _ hB2]; rfl
  have z2 : w.heap.size ≤ w2.heap.size := Nat.le_trans z1 keep2.below.size
  have O2 := hide own2
  have K2 := hide ((unhide K1).trans keep2)
  clear own2 keep2 hB1 d1 K1 O1
  go_wp2
  go_loopw [3, 19] (fun v i wr => ∃ (k : Nat) (l' : List UInt8) (m : Nat), k ≤ r.length ∧ i = .int .i64 k ∧ l'.length = m ∧ 5 ≤ m ∧ m ≤ 5 + 81 * k ∧ wr.ownsRow w.heap.size 5 1 v m (byteCells l') ∧ Keeps 5 w.heap.size w wr) (fun _ i _ => r.length - (intOf i).toNat)
  case atStart => exact ⟨0, l2, _, by omega, rfl, hl2, by omega, by omega, unhide O2, unhide K2⟩
  case round =>
    obtain ⟨k, l', m, hk, rfl, hl', hm5, hm, hown, hkeep⟩ := hrel
    have zr := hkeep.below.size
    by_cases hlt : k < r.length
    · have ho : r[k]? = some r[k] := List.getElem?_eq_getElem hlt
      generalize r[k] = lk at ho
      have hmem := List.mem_of_getElem? ho
      obtain ⟨ci, oi, pi, q1, q2, q3, q4⟩ := hr k lk ho
      have q1r : wr.cell? ⟨c, off + k, none⟩ = some (.slice (some ⟨ci, oi, none⟩) lk.length pi) := by rw [hkeep.below.cell (p := ⟨c, off + k, none⟩) hcl]; exact q1
      have hl8 := hlen lk hmem
      have HOK := hide (hok lk hmem)
      have O := hide hown
      have KK := hide hkeep
      have Q2 := hide q2
      clear hown hkeep q2 hok hlen hr q1 d2 hB2 O2 K2
      go_wp2_with fail
      refine (number_any _ w.heap.size zr _ l' m hl' _ 1 1 rfl (by omega) (by omega) (unhide O) (by omega) (by omega)).mono ?_
      rintro e w3 ⟨v3, l3, rfl, hl3, own3, keep3⟩
      have z3 : w.heap.size ≤ w3.heap.size := Nat.le_trans zr keep3.below.size
      have O3 := hide own3
      have K3 := hide ((unhide KK).trans keep3)
      clear own3 keep3 O KK q1r
      go_wp2
      go_loopw [3, 29] (fun v i wr => ∃ (j : Nat) (l' : List UInt8) (m : Nat), j ≤ lk.length ∧ i = .int .i64 j ∧ l'.length = m ∧ 5 ≤ m ∧ m ≤ 6 + 81 * k + 10 * j ∧ wr.ownsRow w.heap.size 5 1 v m (byteCells l') ∧ Keeps 5 w.heap.size w wr) (fun _ i _ => lk.length - (intOf i).toNat)
      case atStart => exact ⟨0, l3, _, by omega, rfl, hl3, by omega, by omega, unhide O3, unhide K3⟩
      case round =>
        obtain ⟨j, l4, m4, hj, rfl, hl4, hm45, hm4, hown4, hkeep4⟩ := hrel
        have zr4 := hkeep4.below.size
        by_cases hltj : j < lk.length
        · have hoj : lk[j]? = some lk[j] := List.getElem?_eq_getElem hltj
          generalize lk[j] = op at hoj
          have hmj := List.mem_of_getElem? hoj
          obtain ⟨p0, p1, p2, p3⟩ := (unhide Q2) j op hoj
          have s0 := (hkeep4.below.cell (p := ⟨ci, oi + j * 4, none⟩) q4).trans p0
          have s1 := (hkeep4.below.cell (p := ⟨ci, oi + j * 4 + 1, none⟩) q4).trans p1
          have s2 := (hkeep4.below.cell (p := ⟨ci, oi + j * 4 + 2, none⟩) q4).trans p2
          have s3 := (hkeep4.below.cell (p := ⟨ci, oi + j * 4 + 3, none⟩) q4).trans p3
          have hop := (unhide HOK) op hmj
          have O4 := hide hown4
          have K4 := hide hkeep4
          have HOP := hide hop
          clear hown4 hkeep4 p0 p1 p2 p3 O3 K3 hop
          go_wp2_with fail
          refine (op_any _ w.heap.size (by simp; omega) _ l4 m4 hl4 (by omega) ((unhide O4).alloc _) op (unhide HOP).1 (unhide HOP).2).mono ?_
          rintro e w5 ⟨kk, hkk, v5, l5, rfl, hl5, own5, keep5⟩
          have O5 := hide own5
          have K5 := hide (((unhide K4).alloc zr4 _).trans keep5)
          clear own5 keep5 O4 K4
          go_wp2
          exact ⟨⟨j + 1, l5, _, by omega, by go_num, hl5, by omega, by omega, unhide O5, unhide K5⟩, by simp [intOf]; omega⟩
        · obtain rfl : j = lk.length := by omega
          have O4 := hide hown4
          have K4 := hide hkeep4
          clear hown4 hkeep4 O3 K3
          go_wp2
          exact ⟨⟨k + 1, l4, _, by omega, by go_num, hl4, by omega, by omega, unhide O4, unhide K4⟩, by simp [intOf]; omega⟩
    · obtain rfl : k = r.length := by omega
      obtain ⟨g, gcap, rfl, hcv⟩ := str_of_own hown hl' (by omega)
      have K4 := hide hkeep
      clear hown hkeep O2 K2 d2 hB2
      go_wp2
      go_ret
      exact ⟨_, rfl, by rw [ba_size]; omega, (unhide K4).below⟩
end Go.Proofs.YthdffenpkdbejaaGreatDoor

import Derived.Test.YthdffenpkdbejaaGreatDoorKeepA
import Derived.Deep.MidRow
namespace Go.Proofs.YthdffenpkdbejaaGreatDoor
open Go.RowKit

/-- the raw numbers zs lie at the address -/
def RawAt (w : World) (ao : Option Addr) (zs : List Int) : Prop := ∀ (i : Nat) (z : Int), zs[i]? = some z →
  ∃ rb ro, ao = some ⟨rb, ro, none⟩ ∧ rb < w.heap.size ∧ w.cell? ⟨rb, ro + i, none⟩ = some (.int .i64 z) ∧ -9223372036854775808 ≤ z ∧ z ≤ 9223372036854775807

theorem opInfo : (Tryz.prog.info? 70).map (fun i => (i.zero, i.size, i.bytes)) = some (some (.agg #[.int .i64 0, .int .i64 0, .int .i64 0, .int .i64 0]), 4, 32) := by kernel_rfl
theorem txnInfo : (Tryz.prog.info? 71).map (fun i => (i.zero, i.size, i.bytes)) = some (some (.slice none 0 0), 1, 24) := by kernel_rfl

theorem BInv.start (w : World) : BInv w w w.heap.size w.heap.size (.slice none 0 0) (.slice none 0 0) [] [] [] :=
  ⟨Below.refl _ _, Nat.le_refl _, Nat.le_refl _, World.ownsRow_nil _ _ _ _, by simp, World.ownsRow_nil _ _ _ _, by simp, by simp, by simp⟩

theorem own_form {w : World} {base : Nat} {e : TypeId} {size : Nat} {v : Value} {n : Nat} {xs : List Value} (h : w.ownsRow base e size v n xs) (hn : 1 ≤ n) : ∃ g cap, v = .slice (some ⟨g, 0, none⟩) n cap := by
  rcases h.2 with ⟨_, h0⟩ | ⟨g, cap, cur, rfl, _⟩
  · omega
  · exact ⟨g, cap, rfl⟩
theorem own_nil {w : World} {base : Nat} {e : TypeId} {size : Nat} {v : Value} {n : Nat} {xs : List Value} (h : w.ownsRow base e size v n xs) : ∃ ao cap, v = .slice ao n cap := by
  rcases h.2 with ⟨rfl, rfl⟩ | ⟨g, cap, cur, rfl, _⟩
  · exact ⟨_, _, rfl⟩
  · exact ⟨_, cap, rfl⟩
/-- the cells of an operation lie where a slice literal has laid them -/
theorem opCells_new (w : World) (o : TOp) (n : Nat) (hn : n = w.heap.size) : ∀ (j : Nat) (u : Value), o.cells[j]? = some u → (w.alloc (.cells #[.int .i64 o.kind, .int .i64 o.k, .int .i64 o.a, .int .i64 o.b] 70)).cell? ((⟨n, 0, none⟩ : Addr).add j) = some u := by
  intro j u hj
  subst hn
  rw [Addr.add_mid, Nat.zero_add, World.cell?_alloc_at _ _ _ _ rfl]
  rw [← hj]
  simp [TOp.cells]
theorem opCells_one (o : TOp) : ∀ u ∈ o.cells, u.oneCell' = true := by
  intro u hu
  simp [TOp.cells] at hu
  rcases hu with rfl | rfl | rfl | rfl <;> rfl
theorem sliceCell_new (w : World) (x : Value) (t : TypeId) (n : Nat) (hn : n = w.heap.size) : ∀ (j : Nat) (u : Value), [x][j]? = some u → (w.alloc (.cells #[x] t)).cell? ((⟨n, 0, none⟩ : Addr).add j) = some u := by
  intro j u hj
  subst hn
  rw [Addr.add_mid, Nat.zero_add, World.cell?_alloc_at _ _ _ _ rfl]
  rw [← hj]
  simp

/-- what batch hands back -/
def BatchPost (w : World) (e : Ending) (w' : World) : Prop := ∃ top v3 v4 bs cs l, e = .returned v3 ∧ BInv w w' w.heap.size top v3 v4 bs cs l ∧ 1 ≤ bs.length ∧ bs.length ≤ 7
theorem BatchPost.mk {w w' : World} {top : Nat} {v3 v4 : Value} {bs : List (List TOp)} {cs : List Value} {l : List TOp} (h : BInv w w' w.heap.size top v3 v4 bs cs l) (h1 : 1 ≤ bs.length) (h2 : bs.length ≤ 7) : BatchPost w (.returned v3) w' := ⟨top, v3, v4, bs, cs, l, rfl, h, h1, h2⟩
theorem add60 : TOp.Plain ⟨3, 60, 1, 0⟩ := ⟨by decide, by decide, by decide, by decide, by decide, by decide, fun h => by simp at h, rfl⟩

set_option maxRecDepth 100000 in
set_option maxHeartbeats 4000000 in
theorem batch_any (w : World) (ao : Option Addr) (zs : List Int) (cap : Nat) (hz : RawAt w ao zs) (hlen : zs.length ≤ maxLen) :
    Calls Tryz.prog 43 #[.slice ao zs.length cap] w fun e w' => BatchPost w e w' := by
  unfold maxLen at hlen
  obtain ⟨io, hio, hio0, hio1, hio2⟩ := info_parts opInfo
  obtain ⟨it, hit, hit0, hit1, hit2⟩ := info_parts txnInfo
  have Hio := hide hio
  have Hio0 := hide hio0
  have Hio1 := hide hio1
  have Hio2 := hide hio2
  have Hit := hide hit
  have Hit0 := hide hit0
  have Hit1 := hide hit1
  have Hit2 := hide hit2
  clear hio hio0 hio1 hio2 hit hit0 hit1 hit2
  go_enter Tryz.func43, Tryz.ntmps43
  go_wp2
  go_loopw [3, 4, 5] (fun v3 v4 i wr => ∃ (k : Nat) (top : Nat) (bs : List (List TOp)) (cs : List Value) (l : List TOp), k ≤ zs.length ∧ i = .int .i64 k ∧ bs.length ≤ 6 ∧ l.length ≤ 7 ∧ BInv w wr w.heap.size top v3 v4 bs cs l) (fun _ _ i _ => zs.length - (intOf i).toNat)
  case atStart => exact ⟨0, _, [], [], [], by omega, rfl, by simp, by simp, BInv.start w⟩
  case round =>
    obtain ⟨k, top, bs, cs, l, hk, rfl, hb6, hl7, inv⟩ := hrel
    by_cases hlt : k < zs.length ∧ k < 20
    · obtain ⟨hlt, h20⟩ := hlt
      have hzk : zs[k]? = some zs[k] := List.getElem?_eq_getElem hlt
      generalize zs[k] = z at hzk
      obtain ⟨rb, ro, rfl, hrb, hcell, z1, z2⟩ := hz k z hzk
      have hcw : wr.cell? ⟨rb, ro + k, none⟩ = some (.int .i64 z) := by rw [inv.below.cell (p := ⟨rb, ro + k, none⟩) hrb]; exact hcell
      have hp5 := pickI_range z 5 (by omega)
      have hp3 := pickI_range z 3 (by omega)
      have INV := hide inv
      have hbs := hide inv.b1
      clear inv hz hzk hcell
      obtain ⟨d1, d2⟩ := tdiv_range z 8 (by omega) z1 z2
      obtain ⟨f1, f2⟩ := tdiv_range z 100 (by omega) z1 z2
      have hp12 := pickI_range (z.tdiv 8) 12 (by omega)
      have hp4 := pickI_range (z.tdiv 100) 4 (by omega)
      go_wp2_with fail
      refine (pick_any _ _ _ z1 z2 (by omega) (by omega)).mono ?_
      rintro e w' ⟨rfl, rfl⟩
      generalize pickI z 5 = p5 at *
      go_wp2_with fail
      refine (pick_any _ _ _ d1 d2 (by omega) (by omega)).mono ?_
      rintro e w' ⟨rfl, rfl⟩
      generalize pickI (z.tdiv 8) 12 = p12 at *
      obtain ⟨p50, p51⟩ := hp5
      obtain ⟨p120, p121⟩ := hp12
      rcases (by omega : p5 = 0 ∨ p5 = 1 ∨ p5 = 2 ∨ p5 = 3 ∨ p5 = 4) with rfl | rfl | rfl | rfl | rfl
      · go_wp2_with fail
        refine (pick_any _ _ _ f1 f2 (by omega) (by omega)).mono ?_
        rintro e w' ⟨rfl, rfl⟩
        generalize pickI (z.tdiv 100) 4 = p4 at *
        obtain ⟨p40, p41⟩ := hp4
        have hO : TOp.Plain ⟨1, p12, p4, 0⟩ := ⟨p120, by simp only; omega, by simp only; omega, by simp only; omega, by simp only; omega, by simp only; omega, fun h => by simp at h, rfl⟩
        have HO := hide hO
        clear hO
        go_wp2_with (at_builtin; refine wpList_append_own _ rfl (.tmp 46) (.tmp 48) 71 rfl top 70 io _ 4 32 Tryz.underlying71 Hio Hio0 Hio1 Hio2 rfl (by decide) _ _ _ rfl (((unhide INV).alloc _).alloc _).own4 ⟨wr.heap.size + 1, 0, none⟩ 1 1 (TOp.cells ⟨1, p12, p4, 0⟩) rfl rfl (opCells_new _ ⟨1, p12, p4, 0⟩ _ (by simp)) (opCells_one _) (by unfold maxLen; omega) (by omega) (by have := unhide hbs; simp; omega) ?_)
        intro v4' w1 hown' hgrow _
        have inv1 := (((unhide INV).alloc _).alloc _).push (o := ⟨1, p12, p4, 0⟩) hown' hgrow (unhide HO)
        obtain ⟨g4, c4, rfl⟩ := own_form hown' (by omega)
        have INV1 := hide inv1
        have hb1 := hide inv1.b1
        clear inv1 hown' hgrow INV hbs HO
        go_wp2_with fail
        refine (pick_any _ _ _ z1 z2 (by omega) (by omega)).mono ?_
        rintro e w' ⟨rfl, rfl⟩
        generalize pickI z 3 = p3 at *
        obtain ⟨p30, p31⟩ := hp3
        by_cases h30 : p3 = 0
        · subst h30
          have hls : ∀ (x : Value), [x].length = 1 * 1 := fun _ => rfl
          go_wp2_with (at_builtin; refine wpList_append_own _ rfl (.tmp 58) (.tmp 60) 72 rfl w.heap.size 71 it _ 1 24 Tryz.underlying72 Hit Hit0 Hit1 Hit2 rfl (by decide) _ _ _ rfl ((unhide INV1).alloc _).own3 ⟨w1.heap.size, 0, none⟩ 1 1 [.slice (some ⟨g4, 0, none⟩) (l.length + 1) c4] rfl rfl (sliceCell_new _ _ _ _ rfl) (by intro u hu; simp at hu; subst hu; rfl) (by unfold maxLen; omega) (by omega) (by have := unhide hb1; have := (unhide INV1).b0; simp; omega) ?_)
          intro v3' w2 hown3 hgrow3 _
          have inv2 := ((unhide INV1).alloc _).shut (by simp) (by simp; omega) (by simpa using hown3) hgrow3
          obtain ⟨g3, c3, rfl⟩ := own_form hown3 (by omega)
          have INV2 := hide inv2
          clear inv2 hown3 hgrow3 INV1 hb1 hls
          by_cases h7 : bs.length = 6
          · have h7' : (((bs.length + 1 : Nat) : Int) == 7) = true := by simp; omega
            clear h7
            go_wp2
            go_ret
            exact BatchPost.mk (unhide INV2) (by simp) (by simp; omega)
          · have h7' : (((bs.length + 1 : Nat) : Int) == 7) = false := by simp; omega
            go_wp2
            go_roundw
            case rel => exact ⟨k + 1, _, _, _, _, by omega, by go_num, by simp; omega, by simp, unhide INV2⟩
            case measure => simp [intOf]; omega
        · by_cases hl8 : l.length = 7
          · have hl8' : (((l.length + 1 : Nat) : Int) == 8) = true := by simp; omega
            clear hl8
            have h30' : (p3 == 0) = false := by simpa using h30
            have hls : ∀ (x : Value), [x].length = 1 * 1 := fun _ => rfl
            go_wp2_with (at_builtin; refine wpList_append_own _ rfl (.tmp 58) (.tmp 60) 72 rfl w.heap.size 71 it _ 1 24 Tryz.underlying72 Hit Hit0 Hit1 Hit2 rfl (by decide) _ _ _ rfl ((unhide INV1).alloc _).own3 ⟨w1.heap.size, 0, none⟩ 1 1 [.slice (some ⟨g4, 0, none⟩) (l.length + 1) c4] rfl rfl (sliceCell_new _ _ _ _ rfl) (by intro u hu; simp at hu; subst hu; rfl) (by unfold maxLen; omega) (by omega) (by have := unhide hb1; have := (unhide INV1).b0; simp; omega) ?_)
            intro v3' w2 hown3 hgrow3 _
            have inv2 := ((unhide INV1).alloc _).shut (by simp) (by simp; omega) (by simpa using hown3) hgrow3
            obtain ⟨g3, c3, rfl⟩ := own_form hown3 (by omega)
            have INV2 := hide inv2
            clear inv2 hown3 hgrow3 INV1 hb1 hls
            by_cases h7 : bs.length = 6
            · have h7' : (((bs.length + 1 : Nat) : Int) == 7) = true := by simp; omega
              clear h7
              go_wp2
              go_ret
              exact BatchPost.mk (unhide INV2) (by simp) (by simp; omega)
            · have h7' : (((bs.length + 1 : Nat) : Int) == 7) = false := by simp; omega
              go_wp2
              go_roundw
              case rel => exact ⟨k + 1, _, _, _, _, by omega, by go_num, by simp; omega, by simp, unhide INV2⟩
              case measure => simp [intOf]; omega
          · have hl8' : (((l.length + 1 : Nat) : Int) == 8) = false := by simp; omega
            have h30' : (p3 == 0) = false := by simpa using h30
            obtain ⟨a3, c3, rfl⟩ := own_nil (unhide INV1).own3
            have hb7 : (((bs.length : Nat) : Int) == 7) = false := by simp; omega
            go_wp2
            go_roundw
            case rel => exact ⟨k + 1, _, _, _, _, by omega, by go_num, by omega, by simp; omega, unhide INV1⟩
            case measure => simp [intOf]; omega
      · clear hp4
        have hO : TOp.Plain ⟨2, p12, 0, 0⟩ := ⟨p120, by simp only; omega, by simp only; omega, by simp only; omega, by simp only; omega, by simp only; omega, fun _ => rfl, rfl⟩
        have HO := hide hO
        clear hO
        go_wp2_with (at_builtin; refine wpList_append_own _ rfl (.tmp 46) (.tmp 48) 71 rfl top 70 io _ 4 32 Tryz.underlying71 Hio Hio0 Hio1 Hio2 rfl (by decide) _ _ _ rfl (((unhide INV).alloc _).alloc _).own4 ⟨wr.heap.size + 1, 0, none⟩ 1 1 (TOp.cells ⟨2, p12, 0, 0⟩) rfl rfl (opCells_new _ ⟨2, p12, 0, 0⟩ _ (by simp)) (opCells_one _) (by unfold maxLen; omega) (by omega) (by have := unhide hbs; simp; omega) ?_)
        intro v4' w1 hown' hgrow _
        have inv1 := (((unhide INV).alloc _).alloc _).push (o := ⟨2, p12, 0, 0⟩) hown' hgrow (unhide HO)
        obtain ⟨g4, c4, rfl⟩ := own_form hown' (by omega)
        have INV1 := hide inv1
        have hb1 := hide inv1.b1
        clear inv1 hown' hgrow INV hbs HO
        go_wp2_with fail
        refine (pick_any _ _ _ z1 z2 (by omega) (by omega)).mono ?_
        rintro e w' ⟨rfl, rfl⟩
        generalize pickI z 3 = p3 at *
        obtain ⟨p30, p31⟩ := hp3
        by_cases h30 : p3 = 0
        · subst h30
          have hls : ∀ (x : Value), [x].length = 1 * 1 := fun _ => rfl
          go_wp2_with (at_builtin; refine wpList_append_own _ rfl (.tmp 58) (.tmp 60) 72 rfl w.heap.size 71 it _ 1 24 Tryz.underlying72 Hit Hit0 Hit1 Hit2 rfl (by decide) _ _ _ rfl ((unhide INV1).alloc _).own3 ⟨w1.heap.size, 0, none⟩ 1 1 [.slice (some ⟨g4, 0, none⟩) (l.length + 1) c4] rfl rfl (sliceCell_new _ _ _ _ rfl) (by intro u hu; simp at hu; subst hu; rfl) (by unfold maxLen; omega) (by omega) (by have := unhide hb1; have := (unhide INV1).b0; simp; omega) ?_)
          intro v3' w2 hown3 hgrow3 _
          have inv2 := ((unhide INV1).alloc _).shut (by simp) (by simp; omega) (by simpa using hown3) hgrow3
          obtain ⟨g3, c3, rfl⟩ := own_form hown3 (by omega)
          have INV2 := hide inv2
          clear inv2 hown3 hgrow3 INV1 hb1 hls
          by_cases h7 : bs.length = 6
          · have h7' : (((bs.length + 1 : Nat) : Int) == 7) = true := by simp; omega
            clear h7
            go_wp2
            go_ret
            exact BatchPost.mk (unhide INV2) (by simp) (by simp; omega)
          · have h7' : (((bs.length + 1 : Nat) : Int) == 7) = false := by simp; omega
            go_wp2
            go_roundw
            case rel => exact ⟨k + 1, _, _, _, _, by omega, by go_num, by simp; omega, by simp, unhide INV2⟩
            case measure => simp [intOf]; omega
        · by_cases hl8 : l.length = 7
          · have hl8' : (((l.length + 1 : Nat) : Int) == 8) = true := by simp; omega
            clear hl8
            have h30' : (p3 == 0) = false := by simpa using h30
            have hls : ∀ (x : Value), [x].length = 1 * 1 := fun _ => rfl
            go_wp2_with (at_builtin; refine wpList_append_own _ rfl (.tmp 58) (.tmp 60) 72 rfl w.heap.size 71 it _ 1 24 Tryz.underlying72 Hit Hit0 Hit1 Hit2 rfl (by decide) _ _ _ rfl ((unhide INV1).alloc _).own3 ⟨w1.heap.size, 0, none⟩ 1 1 [.slice (some ⟨g4, 0, none⟩) (l.length + 1) c4] rfl rfl (sliceCell_new _ _ _ _ rfl) (by intro u hu; simp at hu; subst hu; rfl) (by unfold maxLen; omega) (by omega) (by have := unhide hb1; have := (unhide INV1).b0; simp; omega) ?_)
            intro v3' w2 hown3 hgrow3 _
            have inv2 := ((unhide INV1).alloc _).shut (by simp) (by simp; omega) (by simpa using hown3) hgrow3
            obtain ⟨g3, c3, rfl⟩ := own_form hown3 (by omega)
            have INV2 := hide inv2
            clear inv2 hown3 hgrow3 INV1 hb1 hls
            by_cases h7 : bs.length = 6
            · have h7' : (((bs.length + 1 : Nat) : Int) == 7) = true := by simp; omega
              clear h7
              go_wp2
              go_ret
              exact BatchPost.mk (unhide INV2) (by simp) (by simp; omega)
            · have h7' : (((bs.length + 1 : Nat) : Int) == 7) = false := by simp; omega
              go_wp2
              go_roundw
              case rel => exact ⟨k + 1, _, _, _, _, by omega, by go_num, by simp; omega, by simp, unhide INV2⟩
              case measure => simp [intOf]; omega
          · have hl8' : (((l.length + 1 : Nat) : Int) == 8) = false := by simp; omega
            have h30' : (p3 == 0) = false := by simpa using h30
            obtain ⟨a3, c3, rfl⟩ := own_nil (unhide INV1).own3
            have hb7 : (((bs.length : Nat) : Int) == 7) = false := by simp; omega
            go_wp2
            go_roundw
            case rel => exact ⟨k + 1, _, _, _, _, by omega, by go_num, by omega, by simp; omega, unhide INV1⟩
            case measure => simp [intOf]; omega
      · go_wp2_with fail
        refine (pick_any _ _ _ f1 f2 (by omega) (by omega)).mono ?_
        rintro e w' ⟨rfl, rfl⟩
        generalize pickI (z.tdiv 100) 4 = p4 at *
        obtain ⟨p40, p41⟩ := hp4
        have hO : TOp.Plain ⟨3, p12, p4, 0⟩ := ⟨p120, by simp only; omega, by simp only; omega, by simp only; omega, by simp only; omega, by simp only; omega, fun h => by simp at h, rfl⟩
        have HO := hide hO
        clear hO
        go_wp2_with (at_builtin; refine wpList_append_own _ rfl (.tmp 46) (.tmp 48) 71 rfl top 70 io _ 4 32 Tryz.underlying71 Hio Hio0 Hio1 Hio2 rfl (by decide) _ _ _ rfl (((unhide INV).alloc _).alloc _).own4 ⟨wr.heap.size + 1, 0, none⟩ 1 1 (TOp.cells ⟨3, p12, p4, 0⟩) rfl rfl (opCells_new _ ⟨3, p12, p4, 0⟩ _ (by simp)) (opCells_one _) (by unfold maxLen; omega) (by omega) (by have := unhide hbs; simp; omega) ?_)
        intro v4' w1 hown' hgrow _
        have inv1 := (((unhide INV).alloc _).alloc _).push (o := ⟨3, p12, p4, 0⟩) hown' hgrow (unhide HO)
        obtain ⟨g4, c4, rfl⟩ := own_form hown' (by omega)
        have INV1 := hide inv1
        have hb1 := hide inv1.b1
        clear inv1 hown' hgrow INV hbs HO
        go_wp2_with fail
        refine (pick_any _ _ _ z1 z2 (by omega) (by omega)).mono ?_
        rintro e w' ⟨rfl, rfl⟩
        generalize pickI z 3 = p3 at *
        obtain ⟨p30, p31⟩ := hp3
        by_cases h30 : p3 = 0
        · subst h30
          have hls : ∀ (x : Value), [x].length = 1 * 1 := fun _ => rfl
          go_wp2_with (at_builtin; refine wpList_append_own _ rfl (.tmp 58) (.tmp 60) 72 rfl w.heap.size 71 it _ 1 24 Tryz.underlying72 Hit Hit0 Hit1 Hit2 rfl (by decide) _ _ _ rfl ((unhide INV1).alloc _).own3 ⟨w1.heap.size, 0, none⟩ 1 1 [.slice (some ⟨g4, 0, none⟩) (l.length + 1) c4] rfl rfl (sliceCell_new _ _ _ _ rfl) (by intro u hu; simp at hu; subst hu; rfl) (by unfold maxLen; omega) (by omega) (by have := unhide hb1; have := (unhide INV1).b0; simp; omega) ?_)
          intro v3' w2 hown3 hgrow3 _
          have inv2 := ((unhide INV1).alloc _).shut (by simp) (by simp; omega) (by simpa using hown3) hgrow3
          obtain ⟨g3, c3, rfl⟩ := own_form hown3 (by omega)
          have INV2 := hide inv2
          clear inv2 hown3 hgrow3 INV1 hb1 hls
          by_cases h7 : bs.length = 6
          · have h7' : (((bs.length + 1 : Nat) : Int) == 7) = true := by simp; omega
            clear h7
            go_wp2
            go_ret
            exact BatchPost.mk (unhide INV2) (by simp) (by simp; omega)
          · have h7' : (((bs.length + 1 : Nat) : Int) == 7) = false := by simp; omega
            go_wp2
            go_roundw
            case rel => exact ⟨k + 1, _, _, _, _, by omega, by go_num, by simp; omega, by simp, unhide INV2⟩
            case measure => simp [intOf]; omega
        · by_cases hl8 : l.length = 7
          · have hl8' : (((l.length + 1 : Nat) : Int) == 8) = true := by simp; omega
            clear hl8
            have h30' : (p3 == 0) = false := by simpa using h30
            have hls : ∀ (x : Value), [x].length = 1 * 1 := fun _ => rfl
            go_wp2_with (at_builtin; refine wpList_append_own _ rfl (.tmp 58) (.tmp 60) 72 rfl w.heap.size 71 it _ 1 24 Tryz.underlying72 Hit Hit0 Hit1 Hit2 rfl (by decide) _ _ _ rfl ((unhide INV1).alloc _).own3 ⟨w1.heap.size, 0, none⟩ 1 1 [.slice (some ⟨g4, 0, none⟩) (l.length + 1) c4] rfl rfl (sliceCell_new _ _ _ _ rfl) (by intro u hu; simp at hu; subst hu; rfl) (by unfold maxLen; omega) (by omega) (by have := unhide hb1; have := (unhide INV1).b0; simp; omega) ?_)
            intro v3' w2 hown3 hgrow3 _
            have inv2 := ((unhide INV1).alloc _).shut (by simp) (by simp; omega) (by simpa using hown3) hgrow3
            obtain ⟨g3, c3, rfl⟩ := own_form hown3 (by omega)
            have INV2 := hide inv2
            clear inv2 hown3 hgrow3 INV1 hb1 hls
            by_cases h7 : bs.length = 6
            · have h7' : (((bs.length + 1 : Nat) : Int) == 7) = true := by simp; omega
              clear h7
              go_wp2
              go_ret
              exact BatchPost.mk (unhide INV2) (by simp) (by simp; omega)
            · have h7' : (((bs.length + 1 : Nat) : Int) == 7) = false := by simp; omega
              go_wp2
              go_roundw
              case rel => exact ⟨k + 1, _, _, _, _, by omega, by go_num, by simp; omega, by simp, unhide INV2⟩
              case measure => simp [intOf]; omega
          · have hl8' : (((l.length + 1 : Nat) : Int) == 8) = false := by simp; omega
            have h30' : (p3 == 0) = false := by simpa using h30
            obtain ⟨a3, c3, rfl⟩ := own_nil (unhide INV1).own3
            have hb7 : (((bs.length : Nat) : Int) == 7) = false := by simp; omega
            go_wp2
            go_roundw
            case rel => exact ⟨k + 1, _, _, _, _, by omega, by go_num, by omega, by simp; omega, unhide INV1⟩
            case measure => simp [intOf]; omega
      · go_wp2_with fail
        refine (pick_any _ _ _ f1 f2 (by omega) (by omega)).mono ?_
        rintro e w' ⟨rfl, rfl⟩
        generalize pickI (z.tdiv 100) 4 = p4 at *
        obtain ⟨p40, p41⟩ := hp4
        have hO : TOp.Plain ⟨4, p12, p4, 0⟩ := ⟨p120, by simp only; omega, by simp only; omega, by simp only; omega, by simp only; omega, by simp only; omega, fun h => by simp at h, rfl⟩
        have HO := hide hO
        clear hO
        go_wp2_with (at_builtin; refine wpList_append_own _ rfl (.tmp 46) (.tmp 48) 71 rfl top 70 io _ 4 32 Tryz.underlying71 Hio Hio0 Hio1 Hio2 rfl (by decide) _ _ _ rfl (((unhide INV).alloc _).alloc _).own4 ⟨wr.heap.size + 1, 0, none⟩ 1 1 (TOp.cells ⟨4, p12, p4, 0⟩) rfl rfl (opCells_new _ ⟨4, p12, p4, 0⟩ _ (by simp)) (opCells_one _) (by unfold maxLen; omega) (by omega) (by have := unhide hbs; simp; omega) ?_)
        intro v4' w1 hown' hgrow _
        have inv1 := (((unhide INV).alloc _).alloc _).push (o := ⟨4, p12, p4, 0⟩) hown' hgrow (unhide HO)
        obtain ⟨g4, c4, rfl⟩ := own_form hown' (by omega)
        have INV1 := hide inv1
        have hb1 := hide inv1.b1
        clear inv1 hown' hgrow INV hbs HO
        go_wp2_with fail
        refine (pick_any _ _ _ z1 z2 (by omega) (by omega)).mono ?_
        rintro e w' ⟨rfl, rfl⟩
        generalize pickI z 3 = p3 at *
        obtain ⟨p30, p31⟩ := hp3
        by_cases h30 : p3 = 0
        · subst h30
          have hls : ∀ (x : Value), [x].length = 1 * 1 := fun _ => rfl
          go_wp2_with (at_builtin; refine wpList_append_own _ rfl (.tmp 58) (.tmp 60) 72 rfl w.heap.size 71 it _ 1 24 Tryz.underlying72 Hit Hit0 Hit1 Hit2 rfl (by decide) _ _ _ rfl ((unhide INV1).alloc _).own3 ⟨w1.heap.size, 0, none⟩ 1 1 [.slice (some ⟨g4, 0, none⟩) (l.length + 1) c4] rfl rfl (sliceCell_new _ _ _ _ rfl) (by intro u hu; simp at hu; subst hu; rfl) (by unfold maxLen; omega) (by omega) (by have := unhide hb1; have := (unhide INV1).b0; simp; omega) ?_)
          intro v3' w2 hown3 hgrow3 _
          have inv2 := ((unhide INV1).alloc _).shut (by simp) (by simp; omega) (by simpa using hown3) hgrow3
          obtain ⟨g3, c3, rfl⟩ := own_form hown3 (by omega)
          have INV2 := hide inv2
          clear inv2 hown3 hgrow3 INV1 hb1 hls
          by_cases h7 : bs.length = 6
          · have h7' : (((bs.length + 1 : Nat) : Int) == 7) = true := by simp; omega
            clear h7
            go_wp2
            go_ret
            exact BatchPost.mk (unhide INV2) (by simp) (by simp; omega)
          · have h7' : (((bs.length + 1 : Nat) : Int) == 7) = false := by simp; omega
            go_wp2
            go_roundw
            case rel => exact ⟨k + 1, _, _, _, _, by omega, by go_num, by simp; omega, by simp, unhide INV2⟩
            case measure => simp [intOf]; omega
        · by_cases hl8 : l.length = 7
          · have hl8' : (((l.length + 1 : Nat) : Int) == 8) = true := by simp; omega
            clear hl8
            have h30' : (p3 == 0) = false := by simpa using h30
            have hls : ∀ (x : Value), [x].length = 1 * 1 := fun _ => rfl
            go_wp2_with (at_builtin; refine wpList_append_own _ rfl (.tmp 58) (.tmp 60) 72 rfl w.heap.size 71 it _ 1 24 Tryz.underlying72 Hit Hit0 Hit1 Hit2 rfl (by decide) _ _ _ rfl ((unhide INV1).alloc _).own3 ⟨w1.heap.size, 0, none⟩ 1 1 [.slice (some ⟨g4, 0, none⟩) (l.length + 1) c4] rfl rfl (sliceCell_new _ _ _ _ rfl) (by intro u hu; simp at hu; subst hu; rfl) (by unfold maxLen; omega) (by omega) (by have := unhide hb1; have := (unhide INV1).b0; simp; omega) ?_)
            intro v3' w2 hown3 hgrow3 _
            have inv2 := ((unhide INV1).alloc _).shut (by simp) (by simp; omega) (by simpa using hown3) hgrow3
            obtain ⟨g3, c3, rfl⟩ := own_form hown3 (by omega)
            have INV2 := hide inv2
            clear inv2 hown3 hgrow3 INV1 hb1 hls
            by_cases h7 : bs.length = 6
            · have h7' : (((bs.length + 1 : Nat) : Int) == 7) = true := by simp; omega
              clear h7
              go_wp2
              go_ret
              exact BatchPost.mk (unhide INV2) (by simp) (by simp; omega)
            · have h7' : (((bs.length + 1 : Nat) : Int) == 7) = false := by simp; omega
              go_wp2
              go_roundw
              case rel => exact ⟨k + 1, _, _, _, _, by omega, by go_num, by simp; omega, by simp, unhide INV2⟩
              case measure => simp [intOf]; omega
          · have hl8' : (((l.length + 1 : Nat) : Int) == 8) = false := by simp; omega
            have h30' : (p3 == 0) = false := by simpa using h30
            obtain ⟨a3, c3, rfl⟩ := own_nil (unhide INV1).own3
            have hb7 : (((bs.length : Nat) : Int) == 7) = false := by simp; omega
            go_wp2
            go_roundw
            case rel => exact ⟨k + 1, _, _, _, _, by omega, by go_num, by omega, by simp; omega, unhide INV1⟩
            case measure => simp [intOf]; omega
      · clear hp4
        have hO : TOp.Plain ⟨5, p12, 0, 0⟩ := ⟨p120, by simp only; omega, by simp only; omega, by simp only; omega, by simp only; omega, by simp only; omega, fun _ => rfl, rfl⟩
        have HO := hide hO
        clear hO
        go_wp2_with (at_builtin; refine wpList_append_own _ rfl (.tmp 46) (.tmp 48) 71 rfl top 70 io _ 4 32 Tryz.underlying71 Hio Hio0 Hio1 Hio2 rfl (by decide) _ _ _ rfl (((unhide INV).alloc _).alloc _).own4 ⟨wr.heap.size + 1, 0, none⟩ 1 1 (TOp.cells ⟨5, p12, 0, 0⟩) rfl rfl (opCells_new _ ⟨5, p12, 0, 0⟩ _ (by simp)) (opCells_one _) (by unfold maxLen; omega) (by omega) (by have := unhide hbs; simp; omega) ?_)
        intro v4' w1 hown' hgrow _
        have inv1 := (((unhide INV).alloc _).alloc _).push (o := ⟨5, p12, 0, 0⟩) hown' hgrow (unhide HO)
        obtain ⟨g4, c4, rfl⟩ := own_form hown' (by omega)
        have INV1 := hide inv1
        have hb1 := hide inv1.b1
        clear inv1 hown' hgrow INV hbs HO
        go_wp2_with fail
        refine (pick_any _ _ _ z1 z2 (by omega) (by omega)).mono ?_
        rintro e w' ⟨rfl, rfl⟩
        generalize pickI z 3 = p3 at *
        obtain ⟨p30, p31⟩ := hp3
        by_cases h30 : p3 = 0
        · subst h30
          have hls : ∀ (x : Value), [x].length = 1 * 1 := fun _ => rfl
          go_wp2_with (at_builtin; refine wpList_append_own _ rfl (.tmp 58) (.tmp 60) 72 rfl w.heap.size 71 it _ 1 24 Tryz.underlying72 Hit Hit0 Hit1 Hit2 rfl (by decide) _ _ _ rfl ((unhide INV1).alloc _).own3 ⟨w1.heap.size, 0, none⟩ 1 1 [.slice (some ⟨g4, 0, none⟩) (l.length + 1) c4] rfl rfl (sliceCell_new _ _ _ _ rfl) (by intro u hu; simp at hu; subst hu; rfl) (by unfold maxLen; omega) (by omega) (by have := unhide hb1; have := (unhide INV1).b0; simp; omega) ?_)
          intro v3' w2 hown3 hgrow3 _
          have inv2 := ((unhide INV1).alloc _).shut (by simp) (by simp; omega) (by simpa using hown3) hgrow3
          obtain ⟨g3, c3, rfl⟩ := own_form hown3 (by omega)
          have INV2 := hide inv2
          clear inv2 hown3 hgrow3 INV1 hb1 hls
          by_cases h7 : bs.length = 6
          · have h7' : (((bs.length + 1 : Nat) : Int) == 7) = true := by simp; omega
            clear h7
            go_wp2
            go_ret
            exact BatchPost.mk (unhide INV2) (by simp) (by simp; omega)
          · have h7' : (((bs.length + 1 : Nat) : Int) == 7) = false := by simp; omega
            go_wp2
            go_roundw
            case rel => exact ⟨k + 1, _, _, _, _, by omega, by go_num, by simp; omega, by simp, unhide INV2⟩
            case measure => simp [intOf]; omega
        · by_cases hl8 : l.length = 7
          · have hl8' : (((l.length + 1 : Nat) : Int) == 8) = true := by simp; omega
            clear hl8
            have h30' : (p3 == 0) = false := by simpa using h30
            have hls : ∀ (x : Value), [x].length = 1 * 1 := fun _ => rfl
            go_wp2_with (at_builtin; refine wpList_append_own _ rfl (.tmp 58) (.tmp 60) 72 rfl w.heap.size 71 it _ 1 24 Tryz.underlying72 Hit Hit0 Hit1 Hit2 rfl (by decide) _ _ _ rfl ((unhide INV1).alloc _).own3 ⟨w1.heap.size, 0, none⟩ 1 1 [.slice (some ⟨g4, 0, none⟩) (l.length + 1) c4] rfl rfl (sliceCell_new _ _ _ _ rfl) (by intro u hu; simp at hu; subst hu; rfl) (by unfold maxLen; omega) (by omega) (by have := unhide hb1; have := (unhide INV1).b0; simp; omega) ?_)
            intro v3' w2 hown3 hgrow3 _
            have inv2 := ((unhide INV1).alloc _).shut (by simp) (by simp; omega) (by simpa using hown3) hgrow3
            obtain ⟨g3, c3, rfl⟩ := own_form hown3 (by omega)
            have INV2 := hide inv2
            clear inv2 hown3 hgrow3 INV1 hb1 hls
            by_cases h7 : bs.length = 6
            · have h7' : (((bs.length + 1 : Nat) : Int) == 7) = true := by simp; omega
              clear h7
              go_wp2
              go_ret
              exact BatchPost.mk (unhide INV2) (by simp) (by simp; omega)
            · have h7' : (((bs.length + 1 : Nat) : Int) == 7) = false := by simp; omega
              go_wp2
              go_roundw
              case rel => exact ⟨k + 1, _, _, _, _, by omega, by go_num, by simp; omega, by simp, unhide INV2⟩
              case measure => simp [intOf]; omega
          · have hl8' : (((l.length + 1 : Nat) : Int) == 8) = false := by simp; omega
            have h30' : (p3 == 0) = false := by simpa using h30
            obtain ⟨a3, c3, rfl⟩ := own_nil (unhide INV1).own3
            have hb7 : (((bs.length : Nat) : Int) == 7) = false := by simp; omega
            go_wp2
            go_roundw
            case rel => exact ⟨k + 1, _, _, _, _, by omega, by go_num, by omega, by simp; omega, unhide INV1⟩
            case measure => simp [intOf]; omega
    · have INV := hide inv
      have hbs := hide inv.b1
      clear inv hz
      by_cases q : k < zs.length
      · have q20 : ¬ (k : Int) < 20 := by omega
        by_cases hl1 : 1 ≤ l.length
        · have hne : ¬ l = [] := fun h => by rw [h] at hl1; simp at hl1
          obtain ⟨a4, c4, rfl⟩ := own_nil (unhide INV).own4
          obtain ⟨a3, c3, rfl⟩ := own_nil (unhide INV).own3
          go_wp2_with (at_builtin; refine wpList_append_own _ rfl (.tmp 73) (.tmp 75) 71 rfl top 70 io _ 4 32 Tryz.underlying71 Hio Hio0 Hio1 Hio2 rfl (by decide) _ _ _ rfl ((unhide INV).alloc _).own4 ⟨wr.heap.size, 0, none⟩ 1 1 (TOp.cells ⟨3, 60, 1, 0⟩) rfl rfl (opCells_new _ ⟨3, 60, 1, 0⟩ _ rfl) (opCells_one _) (by unfold maxLen; omega) (by omega) (by have := unhide hbs; simp; omega) ?_)
          intro v4' w1 hown' hgrow _
          have inv1 := ((unhide INV).alloc _).push (o := ⟨3, 60, 1, 0⟩) hown' hgrow add60
          obtain ⟨g4, c4, rfl⟩ := own_form hown' (by omega)
          have INV1 := hide inv1
          have hb1 := hide inv1.b1
          clear inv1 hown' hgrow INV hbs
          go_wp2_with (at_builtin; refine wpList_append_own _ rfl (.tmp 82) (.tmp 84) 72 rfl w.heap.size 71 it _ 1 24 Tryz.underlying72 Hit Hit0 Hit1 Hit2 rfl (by decide) _ _ _ rfl ((unhide INV1).alloc _).own3 ⟨w1.heap.size, 0, none⟩ 1 1 [.slice (some ⟨g4, 0, none⟩) (l.length + 1) c4] rfl rfl (sliceCell_new _ _ _ _ rfl) (by intro u hu; simp at hu; subst hu; rfl) (by unfold maxLen; omega) (by omega) (by have := unhide hb1; have := (unhide INV1).b0; simp; omega) ?_)
          intro v3' w2 hown3 hgrow3 _
          have inv2 := ((unhide INV1).alloc _).shut (by simp) (by first | (simp; done) | (simp; omega)) (by simpa using hown3) hgrow3
          have INV2 := hide inv2
          clear inv2 hown3 hgrow3 INV1 hb1
          go_wp2
          go_ret
          exact BatchPost.mk (unhide INV2) (by simp) (by first | (simp; done) | (simp; omega))
        · obtain rfl : l = [] := List.length_eq_zero_iff.1 (by omega)
          by_cases hb0 : bs.length = 0
          · have hb0' := List.length_eq_zero_iff.1 hb0
            subst hb0'
            clear hb0
            obtain ⟨a4, c4, rfl⟩ := own_nil (unhide INV).own4
            obtain ⟨a3, c3, rfl⟩ := own_nil (unhide INV).own3
            go_wp2_with (at_builtin; refine wpList_append_own _ rfl (.tmp 73) (.tmp 75) 71 rfl top 70 io _ 4 32 Tryz.underlying71 Hio Hio0 Hio1 Hio2 rfl (by decide) _ _ _ rfl ((unhide INV).alloc _).own4 ⟨wr.heap.size, 0, none⟩ 1 1 (TOp.cells ⟨3, 60, 1, 0⟩) rfl rfl (opCells_new _ ⟨3, 60, 1, 0⟩ _ rfl) (opCells_one _) (by unfold maxLen; omega) (by omega) (by have := unhide hbs; simp; omega) ?_)
            intro v4' w1 hown' hgrow _
            have inv1 := ((unhide INV).alloc _).push (o := ⟨3, 60, 1, 0⟩) hown' hgrow add60
            obtain ⟨g4, c4, rfl⟩ := own_form hown' (by omega)
            have INV1 := hide inv1
            have hb1 := hide inv1.b1
            clear inv1 hown' hgrow INV hbs
            go_wp2_with (at_builtin; refine wpList_append_own _ rfl (.tmp 82) (.tmp 84) 72 rfl w.heap.size 71 it _ 1 24 Tryz.underlying72 Hit Hit0 Hit1 Hit2 rfl (by decide) _ _ _ rfl ((unhide INV1).alloc _).own3 ⟨w1.heap.size, 0, none⟩ 1 1 [.slice (some ⟨g4, 0, none⟩) 1 c4] rfl rfl (sliceCell_new _ _ _ _ rfl) (by intro u hu; simp at hu; subst hu; rfl) (by unfold maxLen; omega) (by omega) (by have := unhide hb1; have := (unhide INV1).b0; simp; omega) ?_)
            intro v3' w2 hown3 hgrow3 _
            have inv2 := ((unhide INV1).alloc _).shut (by simp) (by first | (simp; done) | (simp; omega)) (by simpa using hown3) hgrow3
            have INV2 := hide inv2
            clear inv2 hown3 hgrow3 INV1 hb1
            go_wp2
            go_ret
            exact BatchPost.mk (unhide INV2) (by simp) (by first | (simp; done) | (simp; omega))
          · have hb0' : ¬ bs = [] := fun h => hb0 (by rw [h]; rfl)
            obtain ⟨a4, c4, rfl⟩ := own_nil (unhide INV).own4
            obtain ⟨a3, c3, rfl⟩ := own_nil (unhide INV).own3
            go_wp2
            go_ret
            exact BatchPost.mk (unhide INV) (by omega) (by omega)
      · have q' : ¬ (k : Int) < (zs.length : Int) := by omega
        by_cases hl1 : 1 ≤ l.length
        · have hne : ¬ l = [] := fun h => by rw [h] at hl1; simp at hl1
          obtain ⟨a4, c4, rfl⟩ := own_nil (unhide INV).own4
          obtain ⟨a3, c3, rfl⟩ := own_nil (unhide INV).own3
          go_wp2_with (at_builtin; refine wpList_append_own _ rfl (.tmp 73) (.tmp 75) 71 rfl top 70 io _ 4 32 Tryz.underlying71 Hio Hio0 Hio1 Hio2 rfl (by decide) _ _ _ rfl ((unhide INV).alloc _).own4 ⟨wr.heap.size, 0, none⟩ 1 1 (TOp.cells ⟨3, 60, 1, 0⟩) rfl rfl (opCells_new _ ⟨3, 60, 1, 0⟩ _ rfl) (opCells_one _) (by unfold maxLen; omega) (by omega) (by have := unhide hbs; simp; omega) ?_)
          intro v4' w1 hown' hgrow _
          have inv1 := ((unhide INV).alloc _).push (o := ⟨3, 60, 1, 0⟩) hown' hgrow add60
          obtain ⟨g4, c4, rfl⟩ := own_form hown' (by omega)
          have INV1 := hide inv1
          have hb1 := hide inv1.b1
          clear inv1 hown' hgrow INV hbs
          go_wp2_with (at_builtin; refine wpList_append_own _ rfl (.tmp 82) (.tmp 84) 72 rfl w.heap.size 71 it _ 1 24 Tryz.underlying72 Hit Hit0 Hit1 Hit2 rfl (by decide) _ _ _ rfl ((unhide INV1).alloc _).own3 ⟨w1.heap.size, 0, none⟩ 1 1 [.slice (some ⟨g4, 0, none⟩) (l.length + 1) c4] rfl rfl (sliceCell_new _ _ _ _ rfl) (by intro u hu; simp at hu; subst hu; rfl) (by unfold maxLen; omega) (by omega) (by have := unhide hb1; have := (unhide INV1).b0; simp; omega) ?_)
          intro v3' w2 hown3 hgrow3 _
          have inv2 := ((unhide INV1).alloc _).shut (by simp) (by first | (simp; done) | (simp; omega)) (by simpa using hown3) hgrow3
          have INV2 := hide inv2
          clear inv2 hown3 hgrow3 INV1 hb1
          go_wp2
          go_ret
          exact BatchPost.mk (unhide INV2) (by simp) (by first | (simp; done) | (simp; omega))
        · obtain rfl : l = [] := List.length_eq_zero_iff.1 (by omega)
          by_cases hb0 : bs.length = 0
          · have hb0' := List.length_eq_zero_iff.1 hb0
            subst hb0'
            clear hb0
            obtain ⟨a4, c4, rfl⟩ := own_nil (unhide INV).own4
            obtain ⟨a3, c3, rfl⟩ := own_nil (unhide INV).own3
            go_wp2_with (at_builtin; refine wpList_append_own _ rfl (.tmp 73) (.tmp 75) 71 rfl top 70 io _ 4 32 Tryz.underlying71 Hio Hio0 Hio1 Hio2 rfl (by decide) _ _ _ rfl ((unhide INV).alloc _).own4 ⟨wr.heap.size, 0, none⟩ 1 1 (TOp.cells ⟨3, 60, 1, 0⟩) rfl rfl (opCells_new _ ⟨3, 60, 1, 0⟩ _ rfl) (opCells_one _) (by unfold maxLen; omega) (by omega) (by have := unhide hbs; simp; omega) ?_)
            intro v4' w1 hown' hgrow _
            have inv1 := ((unhide INV).alloc _).push (o := ⟨3, 60, 1, 0⟩) hown' hgrow add60
            obtain ⟨g4, c4, rfl⟩ := own_form hown' (by omega)
            have INV1 := hide inv1
            have hb1 := hide inv1.b1
            clear inv1 hown' hgrow INV hbs
            go_wp2_with (at_builtin; refine wpList_append_own _ rfl (.tmp 82) (.tmp 84) 72 rfl w.heap.size 71 it _ 1 24 Tryz.underlying72 Hit Hit0 Hit1 Hit2 rfl (by decide) _ _ _ rfl ((unhide INV1).alloc _).own3 ⟨w1.heap.size, 0, none⟩ 1 1 [.slice (some ⟨g4, 0, none⟩) 1 c4] rfl rfl (sliceCell_new _ _ _ _ rfl) (by intro u hu; simp at hu; subst hu; rfl) (by unfold maxLen; omega) (by omega) (by have := unhide hb1; have := (unhide INV1).b0; simp; omega) ?_)
            intro v3' w2 hown3 hgrow3 _
            have inv2 := ((unhide INV1).alloc _).shut (by simp) (by first | (simp; done) | (simp; omega)) (by simpa using hown3) hgrow3
            have INV2 := hide inv2
            clear inv2 hown3 hgrow3 INV1 hb1
            go_wp2
            go_ret
            exact BatchPost.mk (unhide INV2) (by simp) (by first | (simp; done) | (simp; omega))
          · have hb0' : ¬ bs = [] := fun h => hb0 (by rw [h]; rfl)
            obtain ⟨a4, c4, rfl⟩ := own_nil (unhide INV).own4
            obtain ⟨a3, c3, rfl⟩ := own_nil (unhide INV).own3
            go_wp2
            go_ret
            exact BatchPost.mk (unhide INV) (by omega) (by omega)
end Go.Proofs.YthdffenpkdbejaaGreatDoor

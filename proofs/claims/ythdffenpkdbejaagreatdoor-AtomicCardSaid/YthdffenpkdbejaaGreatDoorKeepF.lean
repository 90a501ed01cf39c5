import Derived.Test.YthdffenpkdbejaaGreatDoorKeepB
import Derived.Test.YthdffenpkdbejaaGreatDoorAnnA
import Derived.Deep.RegionHeld3
namespace Go.Proofs.YthdffenpkdbejaaGreatDoor
open Go.RowKit

theorem wrap_len (n : Nat) (h : n ≤ 1000000) : IntKind.i64.wrap (n : Int) = n := by
  have : (n : Int) ≤ 1000000 := by omega
  simp [IntKind.wrap, IntKind.signed, IntKind.bits]
  omega

def kFlat (ts : List Tab) : List Value := ts.flatMap fun t => kCells t.h t.v
theorem kFlat_length (ts : List Tab) : (kFlat ts).length = ts.length * 128 := by
  unfold kFlat
  induction ts with
  | nil => rfl
  | cons t ts ih => simp only [List.flatMap_cons, List.length_append, kCells_length, ih, List.length_cons]; omega
theorem kFlat_snoc (ts : List Tab) (t : Tab) : kFlat (ts ++ [t]) = kFlat ts ++ kCells t.h t.v := by simp [kFlat]

/-- what stands in a Run -/
structure RunV where
  a : Nat
  d : Nat
  v : Value
  acked : Int
  failed : Bool
  begun : Int
def RunV.cells (r : RunV) : Array Value := #[.pointer (some ⟨r.a, 0, none⟩), .pointer (some ⟨r.d, 0, none⟩), r.v, .int .i64 r.acked, .bool r.failed, .int .i64 r.begun]

/-- a Run in block rb: its annal, its tables: all of them from base on -/
structure RunIn (w : World) (base rb : Nat) (r : RunV) (ts : List Tab) (t : Tab) (a : Ann) (n : Nat) (ws : List Value) : Prop where
  run : w.heap[rb]? = some (.cells r.cells 38 (0, 0))
  b0 : base ≤ rb
  b1 : base ≤ r.a
  own : w.ownsRow base 42 128 r.v (ts.length + 1) (kFlat (ts ++ [t]))
  ann : AnnIn w r.a t a
  wait : w.ownsRow base 9 1 a.waiting n ws

/-- the last table lies in the row -/
theorem RunIn.last {w : World} {base rb : Nat} {r : RunV} {ts : List Tab} {t : Tab} {a : Ann} {n : Nat} {ws : List Value} (h : RunIn w base rb r ts t a n ws) :
    ∃ g cap, r.v = .slice (some ⟨g, 0, none⟩) (ts.length + 1) cap ∧ w.rangeAt g (ts.length * 128) (kCells t.h t.v) ∧ ts.length + 1 ≤ cap ∧ cap ≤ maxLen ∧ base ≤ g ∧ g < w.heap.size := by
  rcases h.own.2 with ⟨_, h0⟩ | ⟨g, cap, cur, hv, hb, hg, hcap, hmax, hsz, htk⟩
  · omega
  · refine ⟨g, cap, hv, ?_, hcap, hmax, hb, (Array.getElem?_eq_some_iff.1 hg).1⟩
    intro j x hx
    have hj : j < 128 := by have := (List.getElem?_eq_some_iff.1 hx).1; rwa [kCells_length] at this
    rw [cell_of_row w g _ cur _ _ hg]
    have e : cur.toList[ts.length * 128 + j]? = (kFlat (ts ++ [t]))[ts.length * 128 + j]? := by
      rw [← htk, List.getElem?_take, if_pos (by omega)]
    rw [← Array.getElem?_toList, e, kFlat_snoc, List.getElem?_append_right (by rw [kFlat_length]; omega), kFlat_length]
    rw [show ts.length * 128 + j - ts.length * 128 = j by omega]
    exact hx

theorem BInv.drew {w0 w : World} {base top : Nat} {v3 v4 : Value} {bs : List (List TOp)} {cs : List Value} {l : List TOp} (h : BInv w0 w base top v3 v4 bs cs l) : BInv w0 w.drew base top v3 v4 bs cs l :=
  h.grown ⟨rfl, rfl, rfl, Nat.le_refl _, fun _ _ _ => rfl⟩

theorem foldl_set_list : ∀ (l : List Value) (k : Nat) (A : Array Value), A.size = k + l.length → (l.zipIdx k).foldl (fun cs x => cs.setIfInBounds (0 + x.2) x.1) A = (A.toList.take k ++ l).toArray
  | [], k, A, h => by
    apply Array.toList_inj.1
    simp only [List.zipIdx_nil, List.foldl_nil, List.append_nil]
    rw [List.take_of_length_le (by simp at h ⊢; omega)]
  | v :: l, k, A, h => by
    simp only [List.zipIdx_cons, List.foldl_cons, Nat.zero_add]
    have := foldl_set_list l (k + 1) (A.setIfInBounds k v) (by simp at h ⊢; omega)
    simp only [Nat.zero_add] at this
    rw [this]
    congr 1
    simp only [List.length_cons] at h
    have hk : k < A.toList.length := by simp; omega
    rw [Array.toList_setIfInBounds, List.take_set, List.take_succ_eq_append_getElem hk, List.set_append_right _ _ (by simp; omega)]
    simp [List.length_take, Nat.min_eq_left (by omega : k ≤ A.size)]
/-- a slice literal of one element that is a row of cells -/
theorem fill_one (n : Nat) (cs0 : Array Value) (cells : List Value) (h0 : cs0.size = n) (hc : cells.length = n) : Instr.fill (fun i => some (i * n, n)) cs0 [(0, .agg cells.toArray)] = some cells.toArray := by
  have e : (Value.agg cells.toArray).cells = cells.toArray := rfl
  simp only [Instr.fill, e, List.size_toArray, hc, Nat.zero_mul, Nat.zero_add, h0]
  have := foldl_set_list cells 0 cs0 (by omega)
  simp only [List.take_zero, List.nil_append, Nat.zero_add] at this
  simp [this]
theorem batDo_get (t : Tab) (bs : List (List TOp)) (k : Nat) (l : List TOp) (h : bs[k]? = some l) : (batDo t bs).1[k]? = some (txnDo (batDo t (bs.take k)).2 l).1 := by
  induction bs generalizing t k with
  | nil => simp at h
  | cons x r ih =>
    cases k with
    | zero => simp at h; subst h; simp [batDo]
    | succ k =>
      simp at h
      simp only [batDo, List.getElem?_cons_succ, List.take_succ_cons]
      exact ih _ k h
theorem txnRun_bnd {t : Tab} {N : Int} (h : Bnd t N) (hN : 0 ≤ N) (l : List TOp) (hl : ∀ o ∈ l, o.Plain) : Bnd (txnRun t l).2 (N + 3 * l.length) := by
  induction l generalizing t N with
  | nil => simpa [txnRun] using h
  | cons o l ih =>
    simp only [txnRun]
    split
    · have := ih (opDo_bnd h o (hl o (by simp)) hN) (by omega) (fun x hx => hl x (by simp [hx]))
      exact this.mono (by simp; omega)
    · exact h.mono (by simp; omega)
theorem txnDo_bnd {t : Tab} {N : Int} (h : Bnd t N) (hN : 0 ≤ N) (l : List TOp) (hl : ∀ o ∈ l, o.Plain) (h8 : l.length ≤ 8) : Bnd (txnDo t l).2 (N + 24) := by
  unfold txnDo
  split
  · exact (txnRun_bnd h hN l hl).mono (by omega)
  · exact h.mono (by omega)
theorem batDo_bnd {t : Tab} {N : Int} (h : Bnd t N) (hN : 0 ≤ N) (bs : List (List TOp)) (hl : ∀ l ∈ bs, ∀ o ∈ l, o.Plain) (h8 : ∀ l ∈ bs, 1 ≤ l.length ∧ l.length ≤ 8) : Bnd (batDo t bs).2 (N + 24 * bs.length) := by
  induction bs generalizing t N with
  | nil => simpa [batDo] using h
  | cons l bs ih =>
    have := ih (txnDo_bnd h hN l (hl l (by simp)) (h8 l (by simp)).2) (by omega) (fun x hx => hl x (by simp [hx])) (fun x hx => h8 x (by simp [hx]))
    exact this.mono (by simp; omega)

/-- what was made is a batch -/
theorem BInv.bat {w0 w : World} {base top c p : Nat} {v4 : Value} {bs : List (List TOp)} {cs : List Value} {l : List TOp} (h : BInv w0 w base top (.slice (some ⟨c, 0, none⟩) bs.length p) v4 bs cs l) (b : Nat) (hb : b < base) :
    BatAt w b c 0 bs ∧ c ≠ b ∧ c < w.heap.size ∧ base ≤ c := by
  have hlt := h.own3.lt c rfl
  refine ⟨?_, by omega, hlt.2, hlt.1⟩
  intro i li hi
  have hil : i < bs.length := (List.getElem?_eq_some_iff.1 hi).1
  obtain ⟨x, hx, ci, pi, rfl, e1, e2, e3⟩ := h.st i li hi
  refine ⟨ci, 0, pi, ?_, e3.at, by omega, e3.lt⟩
  rw [Nat.zero_add, h.own3.cellAt i (by omega)]
  exact hx
/-- and stays one while another block is written -/
theorem BInv.bat3 {w0 w w3 : World} {base top c p : Nat} {v4 : Value} {bs : List (List TOp)} {cs : List Value} {l : List TOp} (h : BInv w0 w base top (.slice (some ⟨c, 0, none⟩) bs.length p) v4 bs cs l) {b : Nat} (o : Only b w w3) (hb : b < base) :
    BatAt w3 b c 0 bs := by
  obtain ⟨h1, h2, h3, _⟩ := h.bat b hb
  exact h1.only o h2 h3


theorem kInfo3 : (Tryz.prog.info? 42).map (fun i => (i.zero, i.size, i.bytes)) = some (some (.agg (kCells (fun _ => false) (fun _ => 0)).toArray), 128, 576) := by kernel_rfl

/-- what submit leaves -/
def KSPost (w : World) (base rb : Nat) (r : RunV) (ts : List Tab) (t : Tab) (a : Ann) (n : Nat) (ws : List Value) (N : Int) (e : Ending) (w' : World) : Prop :=
  ∃ v' t' wv s, e = .returned (.tuple #[.bool true, .bool true]) ∧ RunIn w' base rb { r with v := v' } (ts ++ [t]) t' { a with last := a.last + 1, waiting := wv } (n + 1) (ws ++ [.string s]) ∧ s.size ≤ 1006 ∧ Bnd t' (N + 168) ∧ Below base w w' ∧
    (∀ j, j < w.heap.size → j ≠ rb → j ≠ r.a → some j ≠ r.v.ownBlock → some j ≠ a.waiting.ownBlock → w'.heap[j]? = w.heap[j]?)
end Go.Proofs.YthdffenpkdbejaaGreatDoor

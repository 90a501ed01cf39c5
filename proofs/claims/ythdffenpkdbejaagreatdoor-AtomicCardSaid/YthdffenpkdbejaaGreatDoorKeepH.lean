import Derived.Test.YthdffenpkdbejaaGreatDoorKeepF
namespace Go.Proofs.YthdffenpkdbejaaGreatDoor
open Go.RowKit

theorem upd_same {α : Type} (f : Nat → α) (k : Nat) (a : α) : upd f k a k = a := by simp [upd]
theorem upd_other {α : Type} (f : Nat → α) (k j : Nat) (a : α) (h : j ≠ k) : upd f k a j = f j := by simp [upd, h]

/-- the sum of the values from key a on, n of them -/
def total (v : Nat → Int) (a : Nat) : Nat → Int
  | 0 => 0
  | n + 1 => total v a n + v (a + n)
theorem total_bnd {t : Tab} {N : Int} (h : Bnd t N) (a n : Nat) : 0 ≤ total t.v a n ∧ total t.v a n ≤ N * n := by
  induction n with
  | zero => simp [total]
  | succ n ih =>
    have := h (a + n)
    simp only [total]
    have e : N * ((n + 1 : Nat) : Int) = N * n + N := by rw [Int.natCast_add, Int.mul_add]; simp
    omega
theorem sums_total {t : Tab} {N : Int} (h : Bnd t N) (hN0 : 0 ≤ N) (hN : N ≤ 1000000) (a n : Nat) (hn : n ≤ 64) : sums t.v a n = some (total t.v a n) := by
  induction n with
  | zero => rfl
  | succ n ih =>
    have h1 := ih (by omega)
    have h2 := total_bnd h a n
    have h3 := h (a + n)
    have h4 : N * (n : Int) ≤ 1000000 * 64 := Int.mul_le_mul hN (by omega) (by omega) (by omega)
    have hf : fitsB (total t.v a n) (t.v (a + n)) = true := by simp [fitsB]; omega
    rw [sums_yes _ _ _ _ h1 hf]
    rfl

/-- the five transactions of Atomic -/
def five (n a b : Int) : List (List TOp) :=
  [[⟨1, 1, 9, 0⟩, ⟨2, 2, 0, 0⟩, ⟨3, 3, 1, 0⟩, ⟨5, 1, 0, 0⟩],
   [⟨1, 62, 4611686018427387904 - n + 4611686018427387904, 0⟩, ⟨3, 62, n, 0⟩],
   [⟨1, 62, -n - 1, 0⟩, ⟨3, 62, -9223372036854775808 + n, 0⟩],
   [⟨1, 62, 4611686018427387904 + (4611686018427387904 - n), 0⟩, ⟨1, 63, n, 0⟩, ⟨6, 61, 62, 63⟩],
   [⟨6, 61, a, b⟩]]

theorem txn1 {t : Tab} {N : Int} (h : Bnd t N) (hN : N ≤ 1000000) : txnDo t [⟨1, 1, 9, 0⟩, ⟨2, 2, 0, 0⟩, ⟨3, 3, 1, 0⟩, ⟨5, 1, 0, 0⟩] = (false, t) := by
  have h3 := h 3
  have hf : fitsB (t.v 3) 1 = true := by simp [fitsB]; omega
  simp [txnDo, txnRun, opDo, upd, hf]
theorem txn2 (t : Tab) (p q : Int) (hf : fitsB p q = false) : txnDo t [⟨1, 62, p, 0⟩, ⟨3, 62, q, 0⟩] = (false, t) := by
  simp [txnDo, txnRun, opDo, upd, hf]
theorem txn4 (t : Tab) (p q : Int) (hf0 : fitsB 0 p = true) (hf : fitsB p q = false) : txnDo t [⟨1, 62, p, 0⟩, ⟨1, 63, q, 0⟩, ⟨6, 61, 62, 63⟩] = (false, t) := by
  simp [txnDo, txnRun, opDo, upd, sums, hf0, hf]
theorem not_fits {p q : Int} (h : p + q < -9223372036854775808 ∨ 9223372036854775807 < p + q) : fitsB p q = false := by
  unfold fitsB; rw [decide_eq_false_iff_not]; omega
theorem txn5 {t : Tab} {N : Int} (h : Bnd t N) (hN0 : 0 ≤ N) (hN : N ≤ 1000000) (a b : Int) (ha : 0 ≤ a) (hb : 0 ≤ b) (hb2 : b < 64) : txnDo t [⟨6, 61, a, b⟩] = (true, ⟨upd t.h 61 true, upd t.v 61 (total t.v a.toNat (b + 1 - a).toNat)⟩) := by
  have hs := sums_total h hN0 hN a.toNat (b + 1 - a).toNat (by omega)
  simp [txnDo, txnRun, opDo, hs]

theorem five_do {t : Tab} {N : Int} (h : Bnd t N) (hN0 : 0 ≤ N) (hN : N ≤ 1000000) (n a b : Int) (h1 : 1 ≤ n) (h2 : n ≤ 4611686018427387904) (ha : 0 ≤ a) (hb : 0 ≤ b) (hb2 : b < 64) :
    batDo t (five n a b) = ([false, false, false, false, true], ⟨upd t.h 61 true, upd t.v 61 (total t.v a.toNat (b + 1 - a).toNat)⟩) := by
  unfold five
  simp only [batDo, txn1 h hN, txn2 t (4611686018427387904 - n + 4611686018427387904) n (not_fits (by omega)), txn2 t (-n - 1) (-9223372036854775808 + n) (not_fits (by omega)), txn4 t (4611686018427387904 + (4611686018427387904 - n)) n (by simp [fitsB]; omega) (not_fits (by omega)), txn5 h hN0 hN a b ha hb hb2]

theorem five_ok (n a b : Int) (h1 : 1 ≤ n) (h2 : n ≤ 4611686018427387904) (ha : 0 ≤ a) (ha2 : a < 64) (hb : 0 ≤ b) (hb2 : b < 64) : ∀ l ∈ five n a b, ∀ o ∈ l, o.Right ∧ o.Ok := by
  have key : ∀ o : TOp, o.Right → -9223372036854775808 ≤ o.a → o.a ≤ 9223372036854775807 → o.Right ∧ o.Ok := fun o h x y => ⟨h, h.ok x y⟩
  intro l hl o ho
  simp only [five, List.mem_cons, List.not_mem_nil, or_false] at hl
  rcases hl with rfl | rfl | rfl | rfl | rfl <;> simp only [List.mem_cons, List.not_mem_nil, or_false] at ho
  · rcases ho with rfl | rfl | rfl | rfl <;> refine key _ ?_ (by simp only; omega) (by simp only; omega) <;> (refine ⟨by simp only; omega, by simp only; omega, ?_⟩; first | (refine .inl ⟨?_, rfl⟩; (simp; done)) | (refine .inr (.inl ⟨?_, rfl, rfl⟩); (simp; done)) | (refine .inr (.inr ⟨rfl, ?_, ?_, ?_, ?_⟩) <;> (simp only; omega)))
  · rcases ho with rfl | rfl <;> refine key _ ?_ (by simp only; omega) (by simp only; omega) <;> (refine ⟨by simp only; omega, by simp only; omega, ?_⟩; first | (refine .inl ⟨?_, rfl⟩; (simp; done)) | (refine .inr (.inl ⟨?_, rfl, rfl⟩); (simp; done)) | (refine .inr (.inr ⟨rfl, ?_, ?_, ?_, ?_⟩) <;> (simp only; omega)))
  · rcases ho with rfl | rfl <;> refine key _ ?_ (by simp only; omega) (by simp only; omega) <;> (refine ⟨by simp only; omega, by simp only; omega, ?_⟩; first | (refine .inl ⟨?_, rfl⟩; (simp; done)) | (refine .inr (.inl ⟨?_, rfl, rfl⟩); (simp; done)) | (refine .inr (.inr ⟨rfl, ?_, ?_, ?_, ?_⟩) <;> (simp only; omega)))
  · rcases ho with rfl | rfl | rfl <;> refine key _ ?_ (by simp only; omega) (by simp only; omega) <;> (refine ⟨by simp only; omega, by simp only; omega, ?_⟩; first | (refine .inl ⟨?_, rfl⟩; (simp; done)) | (refine .inr (.inl ⟨?_, rfl, rfl⟩); (simp; done)) | (refine .inr (.inr ⟨rfl, ?_, ?_, ?_, ?_⟩) <;> (simp only; omega)))
  · rcases ho with rfl <;> refine key _ ?_ (by simp only; omega) (by simp only; omega) <;> (refine ⟨by simp only; omega, by simp only; omega, ?_⟩; first | (refine .inl ⟨?_, rfl⟩; (simp; done)) | (refine .inr (.inl ⟨?_, rfl, rfl⟩); (simp; done)) | (refine .inr (.inr ⟨rfl, ?_, ?_, ?_, ?_⟩) <;> (simp only; omega)))
theorem five_len (n a b : Int) : ∀ l ∈ five n a b, 1 ≤ l.length ∧ l.length ≤ 8 := by
  intro l hl
  simp only [five, List.mem_cons, List.not_mem_nil, or_false] at hl
  rcases hl with rfl | rfl | rfl | rfl | rfl <;> simp

/-- the blocks of the five transactions -/
def fiveW (w : World) (n a b : Int) : World :=
  (((((w.alloc (.cells #[.int .i64 1, .int .i64 1, .int .i64 9, .int .i64 0, .int .i64 2, .int .i64 2, .int .i64 0, .int .i64 0, .int .i64 3, .int .i64 3, .int .i64 1, .int .i64 0, .int .i64 5, .int .i64 1, .int .i64 0, .int .i64 0] 70)).alloc
    (.cells #[.int .i64 1, .int .i64 62, .int .i64 (4611686018427387904 - n + 4611686018427387904), .int .i64 0, .int .i64 3, .int .i64 62, .int .i64 n, .int .i64 0] 70)).alloc
    (.cells #[.int .i64 1, .int .i64 62, .int .i64 (-n - 1), .int .i64 0, .int .i64 3, .int .i64 62, .int .i64 (-9223372036854775808 + n), .int .i64 0] 70)).alloc
    (.cells #[.int .i64 1, .int .i64 62, .int .i64 (4611686018427387904 + (4611686018427387904 - n)), .int .i64 0, .int .i64 1, .int .i64 63, .int .i64 n, .int .i64 0, .int .i64 6, .int .i64 61, .int .i64 62, .int .i64 63] 70)).alloc
    (.cells #[.int .i64 6, .int .i64 61, .int .i64 a, .int .i64 b] 70)).alloc
    (.cells #[.slice (some ⟨w.heap.size, 0, none⟩) 4 4, .slice (some ⟨w.heap.size + 1, 0, none⟩) 2 2, .slice (some ⟨w.heap.size + 1 + 1, 0, none⟩) 2 2, .slice (some ⟨w.heap.size + 1 + 1 + 1, 0, none⟩) 3 3, .slice (some ⟨w.heap.size + 1 + 1 + 1 + 1, 0, none⟩) 1 1] 71)
theorem fiveW_size (w : World) (n a b : Int) : (fiveW w n a b).heap.size = w.heap.size + 6 := by simp [fiveW]
theorem fiveW_below (w : World) (n a b : Int) : Below w.heap.size w (fiveW w n a b) := by
  unfold fiveW
  refine Below.alloc (Below.alloc (Below.alloc (Below.alloc (Below.alloc (Below.alloc (Below.refl _ w) ?_ _) ?_ _) ?_ _) ?_ _) ?_ _) ?_ _ <;> simp <;> omega
theorem fiveW_block (w : World) (n a b : Int) :
    (fiveW w n a b).heap[w.heap.size]? = some (.cells (flat [⟨1, 1, 9, 0⟩, ⟨2, 2, 0, 0⟩, ⟨3, 3, 1, 0⟩, ⟨5, 1, 0, 0⟩]).toArray 70 (0, 0)) ∧
    (fiveW w n a b).heap[w.heap.size + 1]? = some (.cells (flat [⟨1, 62, 4611686018427387904 - n + 4611686018427387904, 0⟩, ⟨3, 62, n, 0⟩]).toArray 70 (0, 0)) ∧
    (fiveW w n a b).heap[w.heap.size + 2]? = some (.cells (flat [⟨1, 62, -n - 1, 0⟩, ⟨3, 62, -9223372036854775808 + n, 0⟩]).toArray 70 (0, 0)) ∧
    (fiveW w n a b).heap[w.heap.size + 3]? = some (.cells (flat [⟨1, 62, 4611686018427387904 + (4611686018427387904 - n), 0⟩, ⟨1, 63, n, 0⟩, ⟨6, 61, 62, 63⟩]).toArray 70 (0, 0)) ∧
    (fiveW w n a b).heap[w.heap.size + 4]? = some (.cells (flat [⟨6, 61, a, b⟩]).toArray 70 (0, 0)) ∧
    (fiveW w n a b).heap[w.heap.size + 5]? = some (.cells #[.slice (some ⟨w.heap.size, 0, none⟩) 4 4, .slice (some ⟨w.heap.size + 1, 0, none⟩) 2 2, .slice (some ⟨w.heap.size + 1 + 1, 0, none⟩) 2 2, .slice (some ⟨w.heap.size + 1 + 1 + 1, 0, none⟩) 3 3, .slice (some ⟨w.heap.size + 1 + 1 + 1 + 1, 0, none⟩) 1 1] 71 (0, 0)) := by
  have key : ∀ (h : Array Obj) (x0 x1 x2 x3 x4 x5 : Obj), ((((((h.push x0).push x1).push x2).push x3).push x4).push x5)[h.size]? = some x0 ∧ ((((((h.push x0).push x1).push x2).push x3).push x4).push x5)[h.size + 1]? = some x1 ∧ ((((((h.push x0).push x1).push x2).push x3).push x4).push x5)[h.size + 2]? = some x2 ∧
      ((((((h.push x0).push x1).push x2).push x3).push x4).push x5)[h.size + 3]? = some x3 ∧ ((((((h.push x0).push x1).push x2).push x3).push x4).push x5)[h.size + 4]? = some x4 ∧ ((((((h.push x0).push x1).push x2).push x3).push x4).push x5)[h.size + 5]? = some x5 := by
    intro h x0 x1 x2 x3 x4 x5
    have p : ∀ (h : Array Obj) (x : Obj) (k : Nat), k < h.size → (h.push x)[k]? = h[k]? := fun h x k hk => by rw [Array.getElem?_push, if_neg (by omega)]
    have q : ∀ (h : Array Obj) (x : Obj) (k : Nat), k = h.size → (h.push x)[k]? = some x := fun h x k hk => by rw [Array.getElem?_push, if_pos hk]
    exact ⟨(p _ _ _ (by simp only [Array.size_push]; omega)).trans ((p _ _ _ (by simp only [Array.size_push]; omega)).trans ((p _ _ _ (by simp only [Array.size_push]; omega)).trans ((p _ _ _ (by simp only [Array.size_push]; omega)).trans ((p _ _ _ (by simp only [Array.size_push]; omega)).trans (q _ _ _ rfl))))), (p _ _ _ (by simp only [Array.size_push]; omega)).trans ((p _ _ _ (by simp only [Array.size_push]; omega)).trans ((p _ _ _ (by simp only [Array.size_push]; omega)).trans ((p _ _ _ (by simp only [Array.size_push]; omega)).trans (q _ _ _ (by simp only [Array.size_push]))))), (p _ _ _ (by simp only [Array.size_push]; omega)).trans ((p _ _ _ (by simp only [Array.size_push]; omega)).trans ((p _ _ _ (by simp only [Array.size_push]; omega)).trans (q _ _ _ (by simp only [Array.size_push])))), (p _ _ _ (by simp only [Array.size_push]; omega)).trans ((p _ _ _ (by simp only [Array.size_push]; omega)).trans (q _ _ _ (by simp only [Array.size_push]))), (p _ _ _ (by simp only [Array.size_push]; omega)).trans (q _ _ _ (by simp only [Array.size_push])), q _ _ _ (by simp only [Array.size_push])⟩
  exact key w.heap _ _ _ _ _ _
theorem five_at (w : World) (n a b : Int) (bk : Nat) (hb : bk < w.heap.size) : BatAt (fiveW w n a b) bk (w.heap.size + 5) 0 (five n a b) := by
  obtain ⟨h0, h1, h2, h3, h4, h5⟩ := fiveW_block w n a b
  have hz := fiveW_size w n a b
  have op : ∀ c l, (fiveW w n a b).heap[c]? = some (.cells (flat l).toArray 70 (0, 0)) → OpsAt (fiveW w n a b) c 0 l := fun c l h => OpsIn.at ⟨(flat l).toArray, h, by rw [← flat_length]; simp⟩
  intro i l hi
  rw [cell_of_row _ _ _ _ _ _ h5]
  match i, hi with
  | 0, hi => simp [five] at hi; subst hi; exact ⟨_, _, _, rfl, op _ _ h0, by omega, by omega⟩
  | 1, hi => simp [five] at hi; subst hi; exact ⟨_, _, _, rfl, op _ _ h1, by omega, by omega⟩
  | 2, hi => simp [five] at hi; subst hi; exact ⟨_, _, _, rfl, op _ _ h2, by omega, by omega⟩
  | 3, hi => simp [five] at hi; subst hi; exact ⟨_, _, _, rfl, op _ _ h3, by omega, by omega⟩
  | 4, hi => simp [five] at hi; subst hi; exact ⟨_, _, _, rfl, op _ _ h4, by omega, by omega⟩
  | i + 5, hi => simp [five] at hi
end Go.Proofs.YthdffenpkdbejaaGreatDoor

import Derived.Test.YthdffenpkdbejaaGreatDoorTabG
namespace Go.Proofs.YthdffenpkdbejaaGreatDoor
open Go.RowKit

/-- which of n things the raw number c speaks of -/
def pickI (c n : Int) : Int := if c < 0 then (-(c + 1)) % n else c % n
theorem pickI_range (c n : Int) (h : 0 < n) : 0 ≤ pickI c n ∧ pickI c n < n := by
  unfold pickI
  split
  · exact ⟨Int.emod_nonneg _ (by omega), Int.emod_lt_of_pos _ h⟩
  · exact ⟨Int.emod_nonneg _ (by omega), Int.emod_lt_of_pos _ h⟩

theorem ret_one {a b : Int} (h : a = b) : Ending.returned (.int .i64 a) = .returned (.int .i64 b) := by rw [h]
theorem pickI_neg {c n : Int} (h : c < 0) : -((c + 1).tmod n) = pickI c n := by
  unfold pickI
  rw [if_pos h, ← Int.neg_tmod, Int.tmod_eq_emod_of_nonneg (by omega)]
theorem pickI_pos {c n : Int} (h : 0 ≤ c) : c % n = pickI c n := by
  unfold pickI
  rw [if_neg (by omega)]

set_option maxHeartbeats 400000 in
theorem pick_any (c n : Int) (w : World) (h1 : -9223372036854775808 ≤ c) (h2 : c ≤ 9223372036854775807) (hn : 0 < n) (hn2 : n ≤ 4611686018427387904) :
    Calls Tryz.prog 27 #[.int .i64 c, .int .i64 n] w fun e w' => e = .returned (.int .i64 (pickI c n)) ∧ w = w' := by
  by_cases hc : c < 0
  · go_enter Tryz.func27, Tryz.ntmps27
    go_wp2
    go_ret
    exact ⟨ret_one (pickI_neg hc), rfl⟩
  · go_enter Tryz.func27, Tryz.ntmps27
    go_wp2
    go_ret
    exact ⟨ret_one (pickI_pos (by omega)), rfl⟩

theorem tdiv_range (z n : Int) (hn : 0 < n) (h1 : -9223372036854775808 ≤ z) (h2 : z ≤ 9223372036854775807) : -9223372036854775808 ≤ z.tdiv n ∧ z.tdiv n ≤ 9223372036854775807 := by
  by_cases h : 0 ≤ z
  · rw [Int.tdiv_eq_ediv_of_nonneg h]
    have a := Int.ediv_nonneg h (by omega : 0 ≤ n)
    have b := Int.ediv_le_self n h
    omega
  · have e : z.tdiv n = -((-z).tdiv n) := by rw [Int.neg_tdiv]; omega
    rw [e, Int.tdiv_eq_ediv_of_nonneg (by omega)]
    have a := Int.ediv_nonneg (by omega : 0 ≤ -z) (by omega : 0 ≤ n)
    have b := Int.ediv_le_self n (by omega : 0 ≤ -z)
    omega

/-- an operation as package annalkeep makes it -/
def TOp.Plain (o : TOp) : Prop := 0 ≤ o.k ∧ o.k < 61 ∧ 1 ≤ o.kind ∧ o.kind ≤ 5 ∧ 0 ≤ o.a ∧ o.a ≤ 3 ∧ ((o.kind = 2 ∨ o.kind = 5) → o.a = 0) ∧ o.b = 0
theorem TOp.Plain.right {o : TOp} (h : o.Plain) : o.Right := by
  obtain ⟨a, b, c, d, e, f, g, i⟩ := h
  refine ⟨a, by omega, ?_⟩
  by_cases q : o.kind = 2 ∨ o.kind = 5
  · exact .inr (.inl ⟨q, g q, i⟩)
  · exact .inl ⟨by omega, i⟩

/-- an operation's cells -/
def TOp.cells (o : TOp) : List Value := [.int .i64 o.kind, .int .i64 o.k, .int .i64 o.a, .int .i64 o.b]
def flat (l : List TOp) : List Value := l.flatMap TOp.cells
theorem flat_length (l : List TOp) : (flat l).length = l.length * 4 := by
  unfold flat
  induction l with
  | nil => rfl
  | cons o l ih => simp [List.flatMap_cons, TOp.cells, ih]; omega
theorem flat_snoc (l : List TOp) (o : TOp) : flat (l ++ [o]) = flat l ++ o.cells := by simp [flat]
theorem flat_get (l : List TOp) (i : Nat) (o : TOp) (h : l[i]? = some o) (j : Nat) (hj : j < 4) : (flat l)[i * 4 + j]? = o.cells[j]? := by
  unfold flat
  induction l generalizing i with
  | nil => simp at h
  | cons x l ih =>
    cases i with
    | zero =>
      simp at h; subst h
      rw [List.flatMap_cons, List.getElem?_append_left (by simp [TOp.cells]; omega)]
      simp
    | succ i =>
      simp at h
      rw [List.flatMap_cons, List.getElem?_append_right (by simp [TOp.cells]; omega)]
      have e : (i + 1) * 4 + j - x.cells.length = i * 4 + j := by simp [TOp.cells]; omega
      rw [e]
      exact ih i h

/-- block c holds the operations l from its head on -/
def OpsIn (w : World) (c : Nat) (l : List TOp) : Prop := ∃ cur, w.heap[c]? = some (.cells cur 70 (0, 0)) ∧ cur.toList.take (l.length * 4) = flat l
theorem OpsIn.at {w : World} {c : Nat} {l : List TOp} (h : OpsIn w c l) : OpsAt w c 0 l := by
  obtain ⟨cur, hc, ht⟩ := h
  intro i o ho
  have hi : i < l.length := (List.getElem?_eq_some_iff.1 ho).1
  have q : ∀ j, j < 4 → w.cell? ⟨c, 0 + i * 4 + j, none⟩ = o.cells[j]? := by
    intro j hj
    rw [cell_of_row w c _ cur _ _ hc, ← flat_get l i o ho j hj, ← ht, List.getElem?_take, if_pos (by omega)]
    simp
  exact ⟨q 0 (by omega), q 1 (by omega), q 2 (by omega), q 3 (by omega)⟩
theorem OpsIn.other {w w' : World} {c : Nat} {l : List TOp} (h : OpsIn w c l) (e : w'.heap[c]? = w.heap[c]?) : OpsIn w' c l := by
  obtain ⟨cur, hc, ht⟩ := h
  exact ⟨cur, e.trans hc, ht⟩
theorem OpsIn.lt {w : World} {c : Nat} {l : List TOp} (h : OpsIn w c l) : c < w.heap.size := by
  obtain ⟨cur, hc, _⟩ := h
  exact (Array.getElem?_eq_some_iff.1 hc).1

/-- a transaction that is stored: its slice's value -/
def Stored (w : World) (base top : Nat) (x : Value) (l : List TOp) : Prop := ∃ c p, x = .slice (some ⟨c, 0, none⟩) l.length p ∧ base ≤ c ∧ c < top ∧ OpsIn w c l

/-- what batch holds as it goes: v3 the transactions, v4 the operations of the next one -/
structure BInv (w0 w : World) (base top : Nat) (v3 v4 : Value) (bs : List (List TOp)) (cs : List Value) (l : List TOp) : Prop where
  below : Below base w0 w
  b0 : base ≤ top
  b1 : top ≤ w.heap.size
  own3 : w.ownsRow base 71 1 v3 bs.length cs
  st : ∀ (i : Nat) (li : List TOp), bs[i]? = some li → ∃ x, cs[i]? = some x ∧ Stored w base top x li
  own4 : w.ownsRow top 70 4 v4 l.length (flat l)
  plain : ∀ o ∈ l, o.Plain
  plains : ∀ li ∈ bs, ∀ o ∈ li, o.Plain
  lens : ∀ li ∈ bs, 1 ≤ li.length ∧ li.length ≤ 8

theorem own_type {w : World} {base : Nat} {e : TypeId} {size : Nat} {v : Value} {n : Nat} {xs : List Value} (h : w.ownsRow base e size v n xs) {k : Nat} (hk : v.ownBlock = some k) : ∃ cur, w.heap[k]? = some (.cells cur e (0, 0)) := by
  rcases h.2 with ⟨rfl, _⟩ | ⟨g, cap, cur, rfl, _, hg, _⟩
  · simp [Value.ownBlock] at hk
  · simp [Value.ownBlock] at hk; subst hk; exact ⟨cur, hg⟩

theorem types_apart : (70 : TypeId) ≠ 71 := by decide

/-- new blocks, and what is written into one that is none of ours -/
theorem BInv.grown {w0 w w' : World} {base top : Nat} {v3 v4 : Value} {bs : List (List TOp)} {cs : List Value} {l : List TOp} (h : BInv w0 w base top v3 v4 bs cs l) (hg : w.grownBy w' none) : BInv w0 w' base top v3 v4 bs cs l := by
  obtain ⟨a, b, c, d, e, f, g, i, j⟩ := h
  refine ⟨a.grown hg (by omega) (by simp), b, Nat.le_trans c hg.size, d.kept hg (by cases v3.ownBlock <;> simp), ?_, f.kept hg (by cases v4.ownBlock <;> simp), g, i, j⟩
  intro k li hk
  obtain ⟨x, hx, c1, p, rfl, h1, h2, h3⟩ := e k li hk
  exact ⟨_, hx, c1, p, rfl, h1, h2, h3.other (hg.block c1 h3.lt (by simp))⟩
theorem BInv.alloc {w0 w : World} {base top : Nat} {v3 v4 : Value} {bs : List (List TOp)} {cs : List Value} {l : List TOp} (h : BInv w0 w base top v3 v4 bs cs l) (o : Obj) : BInv w0 (w.alloc o) base top v3 v4 bs cs l :=
  h.grown (World.grownBy_alloc w o none)

/-- one operation more -/
theorem BInv.push {w0 w w' : World} {base top : Nat} {v3 v4 v4' : Value} {bs : List (List TOp)} {cs : List Value} {l : List TOp} {o : TOp} (h : BInv w0 w base top v3 v4 bs cs l)
    (hown : w'.ownsRow top 70 4 v4' (l.length + 1) (flat l ++ o.cells)) (hg : w.grownBy w' v4.ownBlock) (ho : o.Plain) : BInv w0 w' base top v3 v4' bs cs (l ++ [o]) := by
  obtain ⟨a, b, c, d, e, f, g, i, j⟩ := h
  have hlt := f.lt
  have q3 : v3.ownBlock = none ∨ v3.ownBlock ≠ v4.ownBlock := by
    cases hv : v3.ownBlock with
    | none => exact .inl rfl
    | some k =>
      right
      intro hh
      obtain ⟨c1, e1⟩ := own_type d hv
      obtain ⟨c2, e2⟩ := own_type f hh.symm
      rw [e1] at e2
      simp at e2
  refine ⟨a.grown hg (by omega) (fun k hk => by have := (hlt k hk).1; omega), b, Nat.le_trans c hg.size, d.kept hg q3, ?_, by simpa [flat_snoc] using hown, ?_, i, j⟩
  · intro k li hk
    obtain ⟨x, hx, c1, p, rfl, h1, h2, h3⟩ := e k li hk
    exact ⟨_, hx, c1, p, rfl, h1, h2, h3.other (hg.block c1 h3.lt (fun hh => by have := (hlt c1 hh.symm).1; omega))⟩
  · intro x hx
    simp at hx
    rcases hx with hx | rfl
    · exact g x hx
    · exact ho

/-- the transaction is stored -/
theorem BInv.shut {w0 w w' : World} {base top : Nat} {v3 v3' v4 : Value} {bs : List (List TOp)} {cs : List Value} {l : List TOp} (h : BInv w0 w base top v3 v4 bs cs l) (hl : 1 ≤ l.length) (hl8 : l.length ≤ 8)
    (hown : w'.ownsRow base 71 1 v3' (bs.length + 1) (cs ++ [v4])) (hg : w.grownBy w' v3.ownBlock) : BInv w0 w' base w'.heap.size v3' (.slice none 0 0) (bs ++ [l]) (cs ++ [v4]) [] := by
  obtain ⟨a, b, c, d, e, f, g, i, j⟩ := h
  have hlt := d.lt
  have na : ∀ c1 li, OpsIn w c1 li → some c1 ≠ v3.ownBlock := by
    intro c1 li hh he
    obtain ⟨cur, e1, _⟩ := hh
    obtain ⟨c2, e2⟩ := own_type d he.symm
    rw [e1] at e2
    simp at e2
  have hcl : cs.length = bs.length := by have := d.1; simpa using this
  refine ⟨a.grown hg (by omega) (fun k hk => (hlt k hk).1), Nat.le_trans b (Nat.le_trans c hg.size), Nat.le_refl _, by simpa using hown, ?_, World.ownsRow_nil _ _ _ _, by simp, ?_, ?_⟩
  · intro k li hk
    by_cases hkb : k < bs.length
    · rw [List.getElem?_append_left hkb] at hk
      obtain ⟨x, hx, c1, p, rfl, h1, h2, h3⟩ := e k li hk
      have h4 := h3.other (hg.block c1 h3.lt (na c1 li h3))
      exact ⟨_, by rw [List.getElem?_append_left (by omega)]; exact hx, c1, p, rfl, h1, h4.lt, h4⟩
    · rw [List.getElem?_append_right (by omega)] at hk
      have hk0 : k - bs.length = 0 := by
        have := (List.getElem?_eq_some_iff.1 hk).1
        simp at this; omega
      rw [hk0] at hk
      simp at hk
      subst hk
      refine ⟨v4, by rw [List.getElem?_append_right (by omega), show k - cs.length = 0 by omega]; rfl, ?_⟩
      rcases f.2 with ⟨_, h0⟩ | ⟨g1, cap, cur, rfl, hb1, hg1, _, _, hsz, htk⟩
      · omega
      · have hin : OpsIn w g1 l := ⟨cur, hg1, htk⟩
        have h4 := hin.other (hg.block g1 hin.lt (na g1 l hin))
        exact ⟨g1, cap, rfl, by omega, h4.lt, h4⟩
  · intro li hli
    simp at hli
    rcases hli with hli | rfl
    · exact i li hli
    · exact g
  · intro li hli
    simp at hli
    rcases hli with hli | rfl
    · exact j li hli
    · exact ⟨hl, hl8⟩
end Go.Proofs.YthdffenpkdbejaaGreatDoor

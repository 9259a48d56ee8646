/- Words moved one by one, from the first or from the last on: plain lists. -/
namespace Go.Proofs.YthkmnjkaadmilaaDoor

def mvStep (d : Int) (ys : List Int) (at_ : Int) : List Int := ys.set (at_ + d).toNat (ys[at_.toNat]?.getD 0)
def mvFold (d : Int) (xs : List Int) (l : List Int) : List Int := l.foldl (mvStep d) xs
theorem mvFold_snoc (d : Int) (xs l : List Int) (x : Int) : mvFold d xs (l ++ [x]) = mvStep d (mvFold d xs l) x := by simp [mvFold]
theorem mvStep_length (d : Int) (ys : List Int) (x : Int) : (mvStep d ys x).length = ys.length := by simp [mvStep]
theorem mvFold_length (d : Int) (xs l : List Int) : (mvFold d xs l).length = xs.length := by
  unfold mvFold
  induction l generalizing xs with
  | nil => rfl
  | cons x r ih => rw [List.foldl_cons, ih, mvStep_length]

/-- The words of N places from a on stand from to on, as they were. -/
def moved (xs : List Int) (a N to : Nat) : List Int := (List.range xs.length).map fun j => if to ≤ j ∧ j < to + N then xs[j - to + a]?.getD 0 else xs[j]?.getD 0
theorem moved_length (xs : List Int) (a N to : Nat) : (moved xs a N to).length = xs.length := by simp [moved]
theorem moved_get (xs : List Int) (a N to j : Nat) (hj : j < xs.length) : (moved xs a N to)[j]?.getD 0 = if to ≤ j ∧ j < to + N then xs[j - to + a]?.getD 0 else xs[j]?.getD 0 := by
  simp [moved, hj]

theorem ext_getD {xs ys : List Int} (hl : xs.length = ys.length) (h : ∀ j, j < xs.length → xs[j]?.getD 0 = ys[j]?.getD 0) : xs = ys := by
  apply List.ext_getElem hl
  intro i h1 h2
  have := h i h1
  simpa [h1, h2] using this

theorem set_getD (xs : List Int) (i j : Nat) (v : Int) (hj : j < xs.length) : (xs.set i v)[j]?.getD 0 = if i = j then v else xs[j]?.getD 0 := by
  rw [List.getElem?_set]
  by_cases e : i = j
  · subst e; simp [hj]
  · simp [e]

/-- Rising, to a place that isn't behind. -/
theorem mvFold_rising (xs : List Int) (a N to : Nat) (ha : a + N ≤ xs.length) (hle : to ≤ a) :
    ∀ k, k ≤ N → ∀ j, j < xs.length → (mvFold ((to : Int) - a) xs ((List.range k).map fun i => (a : Int) + (i : Nat)))[j]?.getD 0 = if to ≤ j ∧ j < to + k then xs[j - to + a]?.getD 0 else xs[j]?.getD 0 := by
  intro k
  induction k with
  | zero => intro _ j _; rw [if_neg (by omega)]; rfl
  | succ k ih =>
    intro hk j hj
    have e1 := ih (by omega) (a + k) (by omega)
    rw [if_neg (by omega)] at e1
    rw [List.range_succ, List.map_append, List.map_cons, List.map_nil, mvFold_snoc]
    unfold mvStep
    rw [set_getD _ _ _ _ (by rw [mvFold_length]; exact hj), show ((a : Int) + (k : Nat)).toNat = a + k from by omega, show ((a : Int) + (k : Nat) + ((to : Int) - a)).toNat = to + k from by omega,
      e1, ih (by omega) j hj]
    by_cases e : to + k = j
    · subst e
      rw [if_pos rfl, if_pos (by omega), show to + k - to + a = a + k from by omega]
    · rw [if_neg e]
      by_cases h : to ≤ j ∧ j < to + k
      · rw [if_pos h, if_pos (by omega)]
      · rw [if_neg h, if_neg (by omega)]

/-- Falling, to a place that is behind. -/
theorem mvFold_falling (xs : List Int) (a N to : Nat) (ht : to + N ≤ xs.length) (hlt : a < to) :
    ∀ k, k ≤ N → ∀ j, j < xs.length → (mvFold ((to : Int) - a) xs ((List.range k).map fun i => (a : Int) + N - 1 - (i : Nat)))[j]?.getD 0 = if to + N - k ≤ j ∧ j < to + N then xs[j - to + a]?.getD 0 else xs[j]?.getD 0 := by
  intro k
  induction k with
  | zero => intro _ j _; rw [if_neg (by omega)]; rfl
  | succ k ih =>
    intro hk j hj
    have e1 := ih (by omega) (a + N - 1 - k) (by omega)
    rw [if_neg (by omega)] at e1
    rw [List.range_succ, List.map_append, List.map_cons, List.map_nil, mvFold_snoc]
    unfold mvStep
    rw [set_getD _ _ _ _ (by rw [mvFold_length]; exact hj), show ((a : Int) + N - 1 - (k : Nat)).toNat = a + N - 1 - k from by omega, show ((a : Int) + N - 1 - (k : Nat) + ((to : Int) - a)).toNat = to + N - 1 - k from by omega,
      e1, ih (by omega) j hj]
    by_cases e : to + N - 1 - k = j
    · subst e
      rw [if_pos rfl, if_pos (by omega), show to + N - 1 - k - to + a = a + N - 1 - k from by omega]
    · rw [if_neg e]
      by_cases h : to + N - k ≤ j ∧ j < to + N
      · rw [if_pos h, if_pos (by omega)]
      · rw [if_neg h, if_neg (by omega)]

theorem moved_rising (xs : List Int) (a N to : Nat) (ha : a + N ≤ xs.length) (hle : to ≤ a) :
    mvFold ((to : Int) - a) xs ((List.range N).map fun i => (a : Int) + (i : Nat)) = moved xs a N to := by
  refine ext_getD (by rw [mvFold_length, moved_length]) fun j hj => ?_
  rw [mvFold_length] at hj
  rw [mvFold_rising xs a N to ha hle N (Nat.le_refl _) j hj, moved_get xs a N to j hj]

theorem moved_falling (xs : List Int) (a N to : Nat) (ht : to + N ≤ xs.length) (hlt : a < to) :
    mvFold ((to : Int) - a) xs ((List.range N).map fun i => (a : Int) + N - 1 - (i : Nat)) = moved xs a N to := by
  refine ext_getD (by rw [mvFold_length, moved_length]) fun j hj => ?_
  rw [mvFold_length] at hj
  rw [mvFold_falling xs a N to ht hlt N (Nat.le_refl _) j hj, moved_get xs a N to j hj, show to + N - N = to from by omega]
end Go.Proofs.YthkmnjkaadmilaaDoor

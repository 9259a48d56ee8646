/- Somebody's runs have just their pages; all owners' runs together have each owned page once. -/
import Derived.Test.YthlkammoinokoaaOwnerPlain2
namespace Go.Proofs.Ythlkammoinokoaa

/-- How many pages runs have. -/
def totB (rs : List RunN) : Nat := (rs.map (·.2)).sum
theorem totB_take {rs : List RunN} {j : Nat} (hj : j < rs.length) : totB (rs.take (j + 1)) = totB (rs.take j) + rs[j].2 := by
  unfold totB
  rw [List.take_add_one, List.getElem?_eq_getElem hj, List.map_append, List.sum_append]
  simp only [Option.toList, List.map_cons, List.map_nil, List.sum_cons, List.sum_nil, Nat.add_zero]
theorem sum_zeros : ∀ l : List Int, (l.map fun _ => (0 : Nat)).sum = 0
  | [] => rfl
  | _ :: l => by rw [List.map_cons, List.sum_cons, sum_zeros l]
theorem sum_add (f g : Int → Nat) : ∀ l : List Int, (l.map fun o => f o + g o).sum = (l.map f).sum + (l.map g).sum
  | [] => rfl
  | o :: l => by simp only [List.map_cons, List.sum_cons, sum_add f g l]; omega
theorem ofB_ok {xs : List Int} {o : Int} (h : ¬ o < 1) : RunsOk xs o xs.length (ofB xs o) := by
  rw [ofB_at h]; exact runsTo_ok xs o _ (Nat.le_refl _)
theorem ofB_high {xs : List Int} {o : Int} {j : Nat} (hj : j < (ofB xs o).length) : ¬ o < 1 := fun h => by
  rw [ofB_low h] at hj; simp at hj
theorem ofB_run {xs : List Int} {o : Int} {j : Nat} (hj : j < (ofB xs o).length) : 1 ≤ (ofB xs o)[j].2 ∧ (ofB xs o)[j].1 + (ofB xs o)[j].2 ≤ xs.length ∧ ∀ d, d < (ofB xs o)[j].2 → xs[(ofB xs o)[j].1 + d]?.getD 0 = o :=
  (ofB_ok (ofB_high hj)).each _ (List.getElem_mem hj)
theorem ofB_next {xs : List Int} {o : Int} {j : Nat} (hj : j + 1 < (ofB xs o).length) : (ofB xs o)[j].1 + (ofB xs o)[j].2 < (ofB xs o)[j + 1].1 :=
  List.pairwise_iff_getElem.1 (ofB_ok (ofB_high hj)).apart j (j + 1) (by omega) hj (by omega)
/-- Where the run ahead of the j-th one ends; -1. -/
def lastB (rs : List RunN) (j : Nat) : Int := if j = 0 then -1 else (((rs[j - 1]?.getD (0, 0)).1 + (rs[j - 1]?.getD (0, 0)).2 : Nat) : Int)
theorem lastB_zero (rs : List RunN) : lastB rs 0 = -1 := rfl
theorem lastB_succ {rs : List RunN} {j : Nat} (hj : j < rs.length) : lastB rs (j + 1) = ((rs[j].1 + rs[j].2 : Nat) : Int) := by
  unfold lastB
  rw [if_neg (by omega), show j + 1 - 1 = j by omega, List.getElem?_eq_getElem hj]; rfl
theorem ofB_after {xs : List Int} {o : Int} {j : Nat} (hj : j < (ofB xs o).length) : lastB (ofB xs o) j < (((ofB xs o)[j].1 : Nat) : Int) ∧ -1 ≤ lastB (ofB xs o) j ∧ lastB (ofB xs o) j ≤ xs.length := by
  cases j with
  | zero => rw [lastB_zero]; omega
  | succ j =>
    have h1 := ofB_next hj
    have h2 := (ofB_run (show j < (ofB xs o).length by omega)).2.1
    rw [lastB_succ (by omega)]
    omega
theorem totB_of (xs : List Int) (o : Int) : totB (ofB xs o) = if o < 1 then 0 else xs.countP fun x => decide (x = o) := by
  by_cases h : o < 1
  · rw [ofB_low h, if_pos h]; rfl
  · rw [if_neg h]
    have := (ofB_ok (xs := xs) h).count
    rw [List.take_length] at this
    exact this
theorem totB_le (xs : List Int) (o : Int) : totB (ofB xs o) ≤ xs.length := by
  rw [totB_of]; split
  · omega
  · exact List.countP_le_length
theorem ofB_short (xs : List Int) (o : Int) : (ofB xs o).length ≤ xs.length := by
  unfold ofB; split
  · simp
  · exact runsTo_len _ _ _
theorem totB_part (rs : List RunN) (j : Nat) : totB (rs.take j) ≤ totB rs := by
  have : totB rs = totB (rs.take j) + totB (rs.drop j) := by
    unfold totB
    rw [← List.sum_append, ← List.map_append, List.take_append_drop]
  omega

/-- All owners' runs together. -/
theorem sum_owners : ∀ (xs : List Int) (ks : List Int), ks.Nodup → (∀ x ∈ xs, 0 ≤ x) → (∀ x ∈ xs, x ≠ 0 → x ∈ ks) → (ks.map fun o => if o < 1 then 0 else xs.countP fun x => decide (x = o)).sum = cntG xs
  | [], ks, _, _, _ => by
    have : (ks.map fun o : Int => if o < 1 then 0 else ([] : List Int).countP fun x => decide (x = o)) = ks.map fun _ => 0 := List.map_congr_left fun o _ => by simp
    rw [this, sum_zeros]
    rfl
  | x :: xs, ks, hk, h0, hc => by
    have ih := sum_owners xs ks hk (fun y hy => h0 y (by simp [hy])) (fun y hy => hc y (by simp [hy]))
    have one : ∀ l : List Int, l.Nodup → (l.map fun o => if o < 1 then 0 else if x = o then 1 else 0).sum = if x ≠ 0 ∧ x ∈ l then 1 else 0 := by
      intro l hl
      induction l with
      | nil => simp
      | cons o l ihl =>
        obtain ⟨ha, hb⟩ := List.nodup_cons.1 hl
        rw [List.map_cons, List.sum_cons, ihl hb]
        have hx0 := h0 x (by simp)
        by_cases e : x = o
        · subst e
          by_cases hz : x = 0
          · subst hz; simp
          · rw [if_neg (by omega), if_pos rfl, if_neg (fun h => ha h.2), if_pos ⟨hz, by simp⟩]
        · have hm : (x ≠ 0 ∧ x ∈ o :: l) ↔ (x ≠ 0 ∧ x ∈ l) := by simp [e]
          simp only [hm, e, if_false]
          split <;> simp
    have split : ∀ l : List Int, (l.map fun o => if o < 1 then 0 else (x :: xs).countP fun y => decide (y = o)).sum = (l.map fun o => if o < 1 then 0 else xs.countP fun y => decide (y = o)).sum + (l.map fun o => if o < 1 then 0 else if x = o then 1 else 0).sum := by
      intro l
      rw [← sum_add]
      congr 1
      refine List.map_congr_left fun o _ => ?_
      rw [List.countP_cons]
      by_cases h : o < 1
      · simp [h]
      · by_cases e : x = o <;> simp [h, e]
    rw [split, ih, one ks hk]
    unfold cntG
    rw [List.countP_cons]
    by_cases hz : x = 0
    · subst hz; simp
    · rw [if_pos ⟨hz, hc x (by simp) hz⟩]
      simp [hz]

theorem giveP_mem {xs : List Int} {a : Nat} {o x : Int} : ∀ n, x ∈ giveP xs a o n → x ∈ xs ∨ x = o
  | 0, h => .inl h
  | n + 1, h => by
    rcases List.mem_or_eq_of_mem_set h with h | h
    · exact giveP_mem n h
    · exact .inr h
theorem setB_mem {xs : List Int} {a c o x : Int} (h : x ∈ (setB xs a c o).1) : x ∈ xs ∨ x = o := by
  unfold setB at h
  split at h
  · exact .inl h
  · split at h
    · exact giveP_mem _ h
    · exact .inl h
section
variable {α : Type}
theorem putL_length (gs : List (Int × α)) (z : Int) (v : α) : (putL gs z v).length ≤ gs.length + 1 := by
  have h1 := List.length_filter_le (fun r : Int × α => !decide (r.1 = z)) gs
  have h2 := congrArg List.length (List.takeWhile_append_dropWhile (p := fun r : Int × α => decide (r.1 < z)) (l := delL gs z))
  simp only [List.length_append] at h2
  unfold putL insL
  simp only [List.length_append, List.length_cons]
  unfold delL at h2 ⊢
  omega
theorem keysL_put {gs : List (Int × α)} {z : Int} {v : α} {y : Int} : y ∈ keysL (putL gs z v) ↔ y = z ∨ y ∈ keysL gs := by
  rw [mem_keysL, mem_keysL]
  constructor
  · rintro ⟨u, hu⟩
    rcases mem_putL.1 hu with h | h
    · exact .inl (by cases h; rfl)
    · exact .inr ⟨u, h.1⟩
  · intro h
    by_cases e : y = z
    · subst e; exact ⟨v, mem_putL.2 (.inl rfl)⟩
    · obtain ⟨u, hu⟩ := h.resolve_left e
      exact ⟨u, mem_putL.2 (.inr ⟨hu, e⟩)⟩
end
end Go.Proofs.Ythlkammoinokoaa

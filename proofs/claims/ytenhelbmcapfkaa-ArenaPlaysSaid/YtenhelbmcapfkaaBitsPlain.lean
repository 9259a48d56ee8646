/- Rows of marks, as plain lists: what the document says of them. -/
import Derived.Test.YtenhelbmcapfkaaNum
namespace Go.Proofs.Ytenhelbmcapfkaa
open Go.RowKit

/-- The place j, marked or not. -/
def mk (xs : List Bool) (j : Nat) : Bool := xs[j]?.getD false
theorem mk_set (xs : List Bool) (i j : Nat) (v : Bool) (hi : i < xs.length) : mk (xs.set i v) j = if i = j then v else mk xs j := by
  unfold mk
  by_cases h : i = j
  · subst h; simp [hi]
  · simp [h]
theorem mk_lt {xs : List Bool} {j : Nat} (h : mk xs j = true) : j < xs.length := by
  unfold mk at h
  by_cases hj : j < xs.length
  · exact hj
  · simp [hj] at h

def setFrom (xs : List Bool) (A : Nat) (v : Bool) : Nat → List Bool
  | 0 => xs
  | N + 1 => (setFrom xs A v N).set (A + N) v
theorem setFrom_length (xs : List Bool) (A : Nat) (v : Bool) (N : Nat) : (setFrom xs A v N).length = xs.length := by
  induction N with
  | zero => rfl
  | succ N ih => simp [setFrom, ih]
theorem setFrom_mk (xs : List Bool) (A : Nat) (v : Bool) (N : Nat) (h : A + N ≤ xs.length) (j : Nat) : mk (setFrom xs A v N) j = if A ≤ j ∧ j < A + N then v else mk xs j := by
  induction N with
  | zero => rw [if_neg (by omega)]; rfl
  | succ N ih =>
    rw [setFrom, mk_set _ _ _ _ (by rw [setFrom_length]; omega), ih (by omega)]
    by_cases e : A + N = j
    · rw [if_pos e, if_pos (by omega)]
    · rw [if_neg e]
      by_cases h2 : A ≤ j ∧ j < A + N
      · rw [if_pos h2, if_pos (by omega)]
      · rw [if_neg h2, if_neg (by omega)]

def markB (xs : List Bool) (a c : Int) (v : Bool) : List Bool := if holdsB xs.length a c then setFrom xs a.toNat v c.toNat else xs
theorem markB_length (xs : List Bool) (a c : Int) (v : Bool) : (markB xs a c v).length = xs.length := by
  unfold markB; split
  · exact setFrom_length _ _ _ _
  · rfl

def allFrom (xs : List Bool) (A : Nat) (v : Bool) (N : Nat) : Bool := (List.range N).all fun i => mk xs (A + i) == v
theorem allFrom_iff (xs : List Bool) (A : Nat) (v : Bool) (N : Nat) : allFrom xs A v N = true ↔ ∀ i, i < N → mk xs (A + i) = v := by
  simp [allFrom, List.all_eq_true]
def wholeB (xs : List Bool) (a c : Int) (v : Bool) : Bool := holdsB xs.length a c && allFrom xs a.toNat v c.toNat
theorem wholeB_iff (xs : List Bool) (a c : Int) (v : Bool) : wholeB xs a c v = true ↔ (0 ≤ a ∧ 0 ≤ c ∧ c ≤ (xs.length : Int) - a) ∧ ∀ i, i < c.toNat → mk xs (a.toNat + i) = v := by
  simp only [wholeB, Bool.and_eq_true, holdsB_iff, allFrom_iff]

def countB (xs : List Bool) : Nat := xs.count true
theorem countB_le (xs : List Bool) : countB xs ≤ xs.length := List.count_le_length
theorem countB_take_succ (xs : List Bool) (j : Nat) (h : j < xs.length) : countB (xs.take (j + 1)) = countB (xs.take j) + if mk xs j then 1 else 0 := by
  unfold countB mk
  rw [List.take_add_one, List.count_append, List.getElem?_eq_getElem h]
  cases xs[j] <;> simp

def findB (xs : List Bool) (n : Int) : Option Nat := if n < 1 then none else (List.range xs.length).find? (fun A => wholeB xs A n false)
def nextB (xs : List Bool) (fr : Int) : Option Nat := (List.range xs.length).find? (fun j => decide (fr ≤ (j : Int)) && mk xs j)
def optV (o : Option Nat) : Value := .tuple #[.int .i64 ((o.getD 0 : Nat) : Int), .bool o.isSome]

theorem findB_some {xs : List Bool} {n : Int} {A : Nat} (hn : 1 ≤ n) : findB xs n = some A ↔ A < xs.length ∧ wholeB xs A n false = true ∧ ∀ j, j < A → wholeB xs j n false = false := by
  unfold findB
  rw [if_neg (by omega), List.find?_range_eq_some]
  simp only [List.mem_range, Bool.not_eq_true']
  constructor <;> (rintro ⟨h1, h2, h3⟩; exact ⟨by assumption, by assumption, fun j hj => by simpa using h3 j hj⟩)
theorem findB_none {xs : List Bool} {n : Int} (hn : 1 ≤ n) : findB xs n = none ↔ ∀ j, j < xs.length → wholeB xs j n false = false := by
  unfold findB
  rw [if_neg (by omega), List.find?_range_eq_none]
  simp
theorem findB_low {xs : List Bool} {n : Int} (hn : n < 1) : findB xs n = none := by
  unfold findB; rw [if_pos hn]
theorem nextB_some {xs : List Bool} {fr : Int} {A : Nat} : nextB xs fr = some A ↔ A < xs.length ∧ (fr ≤ (A : Int) ∧ mk xs A = true) ∧ ∀ j : Nat, j < A → fr ≤ (j : Int) → mk xs j = false := by
  unfold nextB
  rw [List.find?_range_eq_some]
  simp only [List.mem_range, Bool.and_eq_true, decide_eq_true_eq, Bool.not_eq_true', Bool.and_eq_false_iff, decide_eq_false_iff_not]
  constructor
  · rintro ⟨h1, h2, h3⟩
    exact ⟨by assumption, by assumption, fun j hj hf => (h3 j hj).resolve_left (by omega)⟩
  · rintro ⟨h1, h2, h3⟩
    exact ⟨by assumption, by assumption, fun j hj => by by_cases hf : fr ≤ (j : Int); exact .inr (h3 j hj hf); exact .inl hf⟩
theorem nextB_none {xs : List Bool} {fr : Int} : nextB xs fr = none ↔ ∀ j : Nat, j < xs.length → fr ≤ (j : Int) → mk xs j = false := by
  unfold nextB
  rw [List.find?_range_eq_none]
  simp only [Bool.not_eq_true', Bool.and_eq_false_iff, decide_eq_false_iff_not]
  constructor
  · intro h j hj hf
    exact (h j hj).resolve_left (by omega)
  · intro h j hj
    by_cases hf : fr ≤ (j : Int)
    · exact .inr (h j hj hf)
    · exact .inl hf
end Go.Proofs.Ytenhelbmcapfkaa

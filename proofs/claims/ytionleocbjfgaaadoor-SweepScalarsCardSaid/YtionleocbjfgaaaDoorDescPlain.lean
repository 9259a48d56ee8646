/- What types may be, and the kinds of an object's fields, as plain lists. -/
namespace Go.Proofs.YtionleocbjfgaaaDoor

/-- Is there such a kind? -/
def kindB (k : Int) : Bool := decide (0 ≤ k ∧ k < 4)
/-- Is it one of pointers? -/
def pointerB (k : Int) : Bool := decide (1 ≤ k ∧ k ≤ 3)
/-- May a type be, by its fields' kinds? -/
def mayB (ks : List Int) : Bool := decide (1 ≤ ks.length ∧ ks.length ≤ 60) && ks.all kindB
/-- May a list be? -/
def listB (l : List (List Int)) : Bool := decide (l.length ≤ 32) && l.all mayB
/-- With counted pointers alone. -/
def relaxB (k : Int) : Int := if k = 2 ∨ k = 3 then 1 else k
/-- More than are gone through. -/
def greatB (l : List (List Int)) : Bool := l.any (fun ks => decide (100 < ks.length)) || decide (60 < l.length)
/-- A head. -/
structure Hd where
  array : Bool
  kind : Int
  ty : Int
  n : Int
/-- The kinds of an object's fields, and the error's number. -/
def kindsB (l : List (List Int)) (h : Hd) : List Int × Int :=
  if h.array = true then
    if kindB h.kind = false then ([], 4)
    else if h.n < 0 ∨ 4000 < h.n then ([], 1)
    else (List.replicate h.n.toNat h.kind, 0)
  else if h.ty < 0 ∨ (l.length : Int) ≤ h.ty then ([], 2)
  else if h.n ≠ ((l[h.ty.toNat]?.getD []).length : Int) then ([], 1)
  else (l[h.ty.toNat]?.getD [], 0)

theorem greatB_false {l : List (List Int)} (h : greatB l = false) : (∀ ks ∈ l, ks.length ≤ 100) ∧ l.length ≤ 60 := by
  simp only [greatB, Bool.or_eq_false_iff, List.any_eq_false, decide_eq_true_eq, decide_eq_false_iff_not] at h
  exact ⟨fun ks hk => by have := h.1 ks hk; omega, by omega⟩
theorem relaxB_twice (k : Int) : relaxB (relaxB k) = relaxB k := by
  unfold relaxB
  by_cases h : k = 2 ∨ k = 3
  · simp [h]
  · simp [h]
theorem relaxB_kind (k : Int) : kindB (relaxB k) = kindB k := by
  unfold relaxB kindB
  split
  · rename_i h
    rcases h with rfl | rfl <;> rfl
  · rfl
theorem relaxB_pointer (k : Int) : pointerB (relaxB k) = pointerB k := by
  unfold relaxB pointerB
  split
  · rename_i h
    rcases h with rfl | rfl <;> rfl
  · rfl
theorem relax_may (ks : List Int) : mayB (ks.map relaxB) = mayB ks := by
  simp only [mayB, List.length_map, List.all_map, Function.comp_def, relaxB_kind]
theorem relax_list (l : List (List Int)) : listB (l.map (List.map relaxB)) = listB l := by
  simp only [listB, List.length_map, List.all_map, Function.comp_def, relax_may]
theorem relax_twice (l : List (List Int)) : (l.map (List.map relaxB)).map (List.map relaxB) = l.map (List.map relaxB) := by
  simp only [List.map_map]
  apply List.map_congr_left
  intro ks _
  simp only [Function.comp_def, List.map_map, relaxB_twice]
theorem kindsB_len (l : List (List Int)) (h : Hd) (hl : ∀ ks ∈ l, ks.length ≤ 100) : (kindsB l h).1.length ≤ 4000 := by
  unfold kindsB
  repeat' split
  all_goals simp
  · omega
  · cases hx : l[h.ty.toNat]? with
    | none => simp
    | some ks =>
      have := hl ks (List.mem_of_getElem? hx)
      simp; omega
end Go.Proofs.YtionleocbjfgaaaDoor

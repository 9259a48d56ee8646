/- Books of starts, as plain lists: rising lists of places. -/
import Derived.Test.YtkfdkmdjdghdkaaBitsPlain
import Derived.Test.YtkfdkmdjdghdkaaBits
namespace Go.Proofs.Ytkfdkmdjdghdkaa
open Go.RowKit

/-- Two rising lists with the same members. -/
theorem rise_same : ∀ {l m : List Int}, l.Pairwise (· < ·) → m.Pairwise (· < ·) → (∀ x, x ∈ l ↔ x ∈ m) → l = m
  | [], [], _, _, _ => rfl
  | [], y :: m, _, _, h => absurd ((h y).2 (by simp)) (by simp)
  | x :: l, [], _, _, h => absurd ((h x).1 (by simp)) (by simp)
  | x :: l, y :: m, hl, hm, h => by
    rw [List.pairwise_cons] at hl hm
    have e : x = y := by
      rcases List.mem_cons.1 ((h x).1 (by simp)) with e | hx
      · exact e
      · rcases List.mem_cons.1 ((h y).2 (by simp)) with e | hy
        · exact e.symm
        · have := hl.1 y hy; have := hm.1 x hx; omega
    subst e
    congr 1
    refine rise_same hl.2 hm.2 fun z => ?_
    constructor
    · intro hz
      rcases List.mem_cons.1 ((h z).1 (by simp [hz])) with e | h'
      · have := hl.1 z hz; omega
      · exact h'
    · intro hz
      rcases List.mem_cons.1 ((h z).2 (by simp [hz])) with e | h'
      · have := hm.1 z hz; omega
      · exact h'

theorem hasM_iff {xs : List Bool} {x : Int} : hasM xs x = true ↔ 0 ≤ x ∧ mk xs x.toNat = true := by simp [hasM]
theorem hasM_lt {xs : List Bool} {x : Int} (h : hasM xs x = true) : 0 ≤ x ∧ x < xs.length := by
  obtain ⟨h1, h2⟩ := hasM_iff.1 h
  have := mk_lt h2; omega

/-- The marked places, rising. -/
def placesB (xs : List Bool) : List Int := ((List.range xs.length).filter (mk xs)).map Int.ofNat
theorem placesB_mem {xs : List Bool} {x : Int} : x ∈ placesB xs ↔ hasM xs x = true := by
  rw [hasM_iff]
  unfold placesB
  simp only [List.mem_map, List.mem_filter, List.mem_range]
  constructor
  · rintro ⟨a, ⟨_, h2⟩, rfl⟩
    exact ⟨by simp, by simpa using h2⟩
  · rintro ⟨h1, h2⟩
    exact ⟨x.toNat, ⟨mk_lt h2, h2⟩, by simp; omega⟩
theorem placesB_rise (xs : List Bool) : (placesB xs).Pairwise (· < ·) := by
  unfold placesB
  rw [List.pairwise_map]
  refine List.Pairwise.imp ?_ (List.Pairwise.filter _ List.pairwise_lt_range)
  intro a b h
  show (a : Int) < (b : Int)
  omega
theorem placesB_bound {xs : List Bool} {x : Int} (h : x ∈ placesB xs) : 0 ≤ x ∧ x < xs.length := hasM_lt (placesB_mem.1 h)
theorem placesB_len (xs : List Bool) : (placesB xs).length = countB xs := by
  have e : xs = (List.range xs.length).map (mk xs) := by
    apply List.ext_getElem
    · simp
    · intro i h1 h2
      simp [mk, h1]
  unfold placesB countB
  conv => rhs; rw [e]
  rw [List.length_map, List.count, List.countP_map, List.countP_eq_length_filter]
  congr 2
  funext j
  simp
theorem placesB_length (xs : List Bool) : (placesB xs).length ≤ xs.length := by rw [placesB_len]; exact countB_le xs

/-- The marked places from c on. -/
def marksB (xs : List Bool) (c : Int) : List Int := (placesB xs).filter (fun x => decide (c ≤ x))
theorem marksB_mem {xs : List Bool} {c x : Int} : x ∈ marksB xs c ↔ hasM xs x = true ∧ c ≤ x := by
  unfold marksB; rw [List.mem_filter, placesB_mem]; simp
theorem marksB_rise (xs : List Bool) (c : Int) : (marksB xs c).Pairwise (· < ·) := List.Pairwise.filter _ (placesB_rise xs)
theorem marksB_len (xs : List Bool) (c : Int) : (marksB xs c).length ≤ xs.length := Nat.le_trans (List.length_filter_le _ _) (placesB_length xs)
theorem marksB_some {xs : List Bool} {c : Int} {j : Nat} (h : nextB xs c = some j) : marksB xs c = (j : Int) :: marksB xs ((j : Int) + 1) := by
  obtain ⟨h1, ⟨h2, h3⟩, h4⟩ := nextB_some.1 h
  refine rise_same (marksB_rise _ _) ?_ fun x => ?_
  · rw [List.pairwise_cons]
    exact ⟨fun y hy => by have := (marksB_mem.1 hy).2; omega, marksB_rise _ _⟩
  · rw [List.mem_cons, marksB_mem, marksB_mem]
    constructor
    · rintro ⟨hx, hc⟩
      by_cases e : x = j
      · exact .inl e
      · refine .inr ⟨hx, ?_⟩
        obtain ⟨h0, hm⟩ := hasM_iff.1 hx
        by_cases hlt : x < j
        · have := h4 x.toNat (by omega) (by omega)
          rw [hm] at this; cases this
        · omega
    · rintro (rfl | ⟨hx, hc⟩)
      · exact ⟨hasM_iff.2 ⟨by omega, by simpa using h3⟩, h2⟩
      · exact ⟨hx, by omega⟩
theorem marksB_none {xs : List Bool} {c : Int} (h : nextB xs c = none) : marksB xs c = [] := by
  refine List.eq_nil_iff_forall_not_mem.2 fun x hx => ?_
  obtain ⟨h1, h2⟩ := marksB_mem.1 hx
  obtain ⟨h0, hm⟩ := hasM_iff.1 h1
  have := nextB_none.1 h x.toNat (by have := (hasM_lt h1).2; omega) (by omega)
  rw [hm] at this; cases this
theorem marksB_all {xs : List Bool} {c : Int} (h : c ≤ 0) : marksB xs c = placesB xs := by
  unfold marksB
  rw [List.filter_eq_self]
  intro x hx
  have := (placesB_bound hx).1
  simp; omega

/-- Those among words. -/
def inL (l : List Int) (a c : Int) : List Int := if 0 ≤ a ∧ 0 ≤ c then l.filter (fun x => decide (a ≤ x ∧ x - a < c)) else []
theorem inL_mem {l : List Int} {a c x : Int} : x ∈ inL l a c ↔ x ∈ l ∧ 0 ≤ a ∧ 0 ≤ c ∧ a ≤ x ∧ x - a < c := by
  unfold inL
  split
  · rename_i h; rw [List.mem_filter]; simp [h]
  · rename_i h; simp; intro _ h1 h2; exact absurd ⟨h1, h2⟩ h
theorem inL_rise {l : List Int} (hl : l.Pairwise (· < ·)) (a c : Int) : (inL l a c).Pairwise (· < ·) := by
  unfold inL; split
  · exact List.Pairwise.filter _ hl
  · exact List.Pairwise.nil
theorem inL_len (l : List Int) (a c : Int) : (inL l a c).length ≤ l.length := by
  unfold inL; split
  · exact List.length_filter_le _ _
  · simp
/-- What lies ahead of the first place that isn't among them: all that are. -/
theorem inL_part {xs : List Bool} {a c : Int} {q t : List Int} (ha : 0 ≤ a) (hc : 0 ≤ c) (h : q ++ t = marksB xs a) (hq : ∀ x ∈ q, x - a < c) (ht : ∀ x ∈ t, ¬ x - a < c) : inL (placesB xs) a c = q := by
  have hr := marksB_rise xs a
  rw [← h] at hr
  refine rise_same (inL_rise (placesB_rise xs) a c) (List.pairwise_append.1 hr).1 fun x => ?_
  rw [inL_mem, placesB_mem]
  constructor
  · rintro ⟨h1, _, _, h2, h3⟩
    have := marksB_mem.2 ⟨h1, h2⟩
    rw [← h, List.mem_append] at this
    exact this.resolve_right fun hx => ht x hx h3
  · intro hx
    have := marksB_mem.1 (show x ∈ marksB xs a by rw [← h]; simp [hx])
    exact ⟨this.1, ha, hc, this.2, hq x hx⟩

/-- The last one that isn't behind a place. -/
def lastL (l : List Int) (at_ : Int) : Option Int := (l.filter fun x => decide (x ≤ at_)).getLast?
theorem lastL_some {l : List Int} (hl : l.Pairwise (· < ·)) {at_ x : Int} : lastL l at_ = some x ↔ x ∈ l ∧ x ≤ at_ ∧ ∀ y ∈ l, y ≤ at_ → y ≤ x := by
  unfold lastL
  have hr : (l.filter fun x => decide (x ≤ at_)).Pairwise (· < ·) := List.Pairwise.filter _ hl
  constructor
  · intro h
    obtain ⟨ys, hys⟩ := List.getLast?_eq_some_iff.1 h
    have hm : ∀ z, z ∈ l ∧ z ≤ at_ ↔ z ∈ ys ++ [x] := fun z => by rw [← hys, List.mem_filter]; simp
    have hx := (hm x).2 (by simp)
    refine ⟨hx.1, hx.2, fun y hy hya => ?_⟩
    rw [hys] at hr
    rcases List.mem_append.1 ((hm y).1 ⟨hy, hya⟩) with h' | h'
    · have := (List.pairwise_append.1 hr).2.2 y h' x (by simp); omega
    · have := List.mem_singleton.1 h'; omega
  · rintro ⟨h1, h2, h3⟩
    have hx : x ∈ l.filter fun x => decide (x ≤ at_) := by rw [List.mem_filter]; simp [h1, h2]
    cases hg : (l.filter fun x => decide (x ≤ at_)).getLast? with
    | none =>
      rw [List.getLast?_eq_none_iff] at hg
      rw [hg] at hx; cases hx
    | some y =>
      obtain ⟨ys, hys⟩ := List.getLast?_eq_some_iff.1 hg
      have hy : y ∈ l.filter fun x => decide (x ≤ at_) := by rw [hys]; simp
      rw [List.mem_filter] at hy
      have e1 := h3 y hy.1 (by simpa using hy.2)
      rw [hys] at hr hx
      rcases List.mem_append.1 hx with h' | h'
      · have := (List.pairwise_append.1 hr).2.2 x h' y (by simp); omega
      · rw [List.mem_singleton.1 h']
theorem lastL_none {l : List Int} {at_ : Int} : lastL l at_ = none ↔ ∀ x ∈ l, ¬ x ≤ at_ := by
  unfold lastL
  rw [List.getLast?_eq_none_iff, List.filter_eq_nil_iff]
  simp
theorem lastL_snoc_in {l : List Int} {at_ x : Int} (h : x ≤ at_) : lastL (l ++ [x]) at_ = some x := by
  unfold lastL
  rw [List.filter_append, List.filter_cons_of_pos (by simpa using h)]
  simp
theorem lastL_append_out {l t : List Int} {at_ : Int} (h : ∀ x ∈ t, ¬ x ≤ at_) : lastL (l ++ t) at_ = lastL l at_ := by
  unfold lastL
  have : t.filter (fun x => decide (x ≤ at_)) = [] := List.filter_eq_nil_iff.2 fun x hx => by simpa using h x hx
  rw [List.filter_append, this, List.append_nil]

/-- One place, marked or not. -/
theorem hasM_mark1 {xs : List Bool} {x y : Int} {v : Bool} (hx : 0 ≤ x) (hx2 : x < xs.length) : hasM (markB xs x 1 v) y = if y = x then v else hasM xs y := by
  obtain ⟨A, rfl⟩ := Int.eq_ofNat_of_zero_le hx
  have hh : holdsB xs.length (A : Int) 1 = true := (holdsB_iff _ _ _).2 (by omega)
  unfold markB
  rw [if_pos hh]
  unfold hasM
  rw [setFrom_mk _ _ _ _ (by simp; omega)]
  by_cases hy : 0 ≤ y
  · obtain ⟨B, rfl⟩ := Int.eq_ofNat_of_zero_le hy
    by_cases e : B = A
    · subst e; simp
    · rw [if_neg (by simp; omega), if_neg (by omega)]
  · have : ¬ y = (A : Int) := by omega
    simp [this, hy]

/-- The book without the places of a list. -/
def offB (xs : List Bool) (l : List Int) : List Bool := l.foldl (fun ys x => markB ys x 1 false) xs
theorem offB_snoc (xs : List Bool) (l : List Int) (x : Int) : offB xs (l ++ [x]) = markB (offB xs l) x 1 false := by unfold offB; rw [List.foldl_append]; rfl
theorem offB_length (xs : List Bool) (l : List Int) : (offB xs l).length = xs.length := by
  unfold offB
  induction l generalizing xs with
  | nil => rfl
  | cons x l ih => rw [List.foldl_cons, ih, markB_length]
theorem offB_has {l : List Int} : ∀ {xs : List Bool}, (∀ x ∈ l, 0 ≤ x ∧ x < xs.length) → ∀ y, hasM (offB xs l) y = (hasM xs y && !decide (y ∈ l)) := by
  induction l with
  | nil => intro xs _ y; simp [offB]
  | cons x l ih =>
    intro xs h y
    obtain ⟨h1, h2⟩ := h x (by simp)
    have : offB xs (x :: l) = offB (markB xs x 1 false) l := rfl
    rw [this, ih (fun z hz => by rw [markB_length]; exact h z (by simp [hz])), hasM_mark1 h1 h2]
    by_cases e : y = x
    · subst e; simp
    · simp [e]
/-- The book without those among words. -/
def dropB (xs : List Bool) (a c : Int) : List Bool := offB xs (inL (placesB xs) a c)
theorem dropB_length (xs : List Bool) (a c : Int) : (dropB xs a c).length = xs.length := offB_length _ _
theorem dropB_has (xs : List Bool) (a c y : Int) : hasM (dropB xs a c) y = (hasM xs y && !decide (y ∈ inL (placesB xs) a c)) :=
  offB_has (fun _ hx => placesB_bound (inL_mem.1 hx).1) y
theorem dropB_places (xs : List Bool) (a c : Int) : placesB (dropB xs a c) = (placesB xs).filter fun x => !decide (x ∈ inL (placesB xs) a c) := by
  refine rise_same (placesB_rise _) (List.Pairwise.filter _ (placesB_rise _)) fun x => ?_
  rw [placesB_mem, dropB_has, List.mem_filter, placesB_mem, Bool.and_eq_true]

/-- An object begins there. -/
def putE (xs : List Bool) (at_ : Int) : Int := if at_ < 1 ∨ (xs.length : Int) ≤ at_ then 8 else if hasM xs at_ then 6 else 0
def putB (xs : List Bool) (at_ : Int) : List Bool := if at_ < 1 ∨ (xs.length : Int) ≤ at_ then xs else if hasM xs at_ then xs else markB xs at_ 1 true
theorem putB_length (xs : List Bool) (at_ : Int) : (putB xs at_).length = xs.length := by
  unfold putB; repeat' split
  · rfl
  · rfl
  · exact markB_length _ _ _ _
theorem putB_has {xs : List Bool} {at_ : Int} (h : putE xs at_ = 0) (y : Int) : hasM (putB xs at_) y = if y = at_ then true else hasM xs y := by
  unfold putE at h
  unfold putB
  split at h
  · cases h
  · rename_i h1
    rw [if_neg h1]
    split at h
    · cases h
    · rename_i h2
      rw [if_neg h2]
      exact hasM_mark1 (by omega) (by omega)
theorem putB_same {xs : List Bool} {at_ : Int} (h : putE xs at_ ≠ 0) : putB xs at_ = xs := by
  unfold putE at h
  unfold putB
  split
  · rfl
  · rename_i h1
    rw [if_neg h1] at h
    split
    · rfl
    · rename_i h2; rw [if_neg h2] at h; exact absurd rfl h
theorem drop_while (p : Int → Bool) : ∀ l : List Int, l.drop (l.takeWhile p).length = l.dropWhile p
  | [] => rfl
  | x :: l => by
    by_cases h : p x = true
    · simp [h, drop_while p l]
    · simp [h]
theorem while_mem (p : Int → Bool) : ∀ {l : List Int} {y : Int}, y ∈ l.takeWhile p → p y = true
  | x :: l, y, hy => by
    by_cases h : p x = true
    · rw [List.takeWhile_cons, if_pos h] at hy
      rcases List.mem_cons.1 hy with rfl | hy'
      · exact h
      · exact while_mem p hy'
    · rw [List.takeWhile_cons, if_neg h] at hy; cases hy
theorem while_head (p : Int → Bool) : ∀ {l r : List Int} {z : Int}, l.dropWhile p = z :: r → p z = false
  | x :: l, r, z, hz => by
    by_cases h : p x = true
    · rw [List.dropWhile_cons, if_pos h] at hz
      exact while_head p hz
    · rw [List.dropWhile_cons, if_neg h] at hz
      cases hz
      simpa using h
theorem while_len (p : Int → Bool) (l : List Int) : (l.takeWhile p).length + (l.dropWhile p).length = l.length := by
  have := congrArg List.length (List.takeWhile_append_dropWhile (p := p) (l := l))
  rw [List.length_append] at this
  exact this
/-- A place more, in a rising list. -/
def insL (l : List Int) (x : Int) : List Int := l.takeWhile (fun y => decide (y < x)) ++ [x] ++ l.drop (l.takeWhile fun y => decide (y < x)).length
theorem insL_eq (l : List Int) (x : Int) : insL l x = l.takeWhile (fun y => decide (y < x)) ++ [x] ++ l.dropWhile (fun y => decide (y < x)) := by
  unfold insL
  rw [drop_while]
theorem insL_mem {l : List Int} {x y : Int} : y ∈ insL l x ↔ y = x ∨ y ∈ l := by
  rw [insL_eq]
  have := List.takeWhile_append_dropWhile (p := fun y => decide (y < x)) (l := l)
  conv => rhs; rw [← this]
  simp only [List.mem_append, List.mem_singleton]
  constructor
  · rintro ((h | h) | h)
    · exact .inr (.inl h)
    · exact .inl h
    · exact .inr (.inr h)
  · rintro (h | h | h)
    · exact .inl (.inr h)
    · exact .inl (.inl h)
    · exact .inr h
theorem insL_rise {l : List Int} (hl : l.Pairwise (· < ·)) {x : Int} (hx : x ∉ l) : (insL l x).Pairwise (· < ·) := by
  rw [insL_eq]
  have e := List.takeWhile_append_dropWhile (p := fun y => decide (y < x)) (l := l)
  have hl2 := hl
  rw [← e] at hl2
  obtain ⟨h1, h2, h3⟩ := List.pairwise_append.1 hl2
  have hT : ∀ y ∈ l.takeWhile (fun y => decide (y < x)), y < x := fun y hy => by
    have := while_mem _ hy
    simpa using this
  have hD : ∀ y ∈ l.dropWhile (fun y => decide (y < x)), x < y := by
    intro y hy
    cases hd : l.dropWhile (fun y => decide (y < x)) with
    | nil => rw [hd] at hy; cases hy
    | cons z r =>
      have hz : ¬ z < x := by
        have := while_head _ hd
        simpa using this
      have hzl : z ∈ l := by rw [← e, hd]; simp
      have hzx : z ≠ x := fun e' => hx (e' ▸ hzl)
      rw [hd] at hy h2
      rcases List.mem_cons.1 hy with rfl | hy'
      · omega
      · have := (List.pairwise_cons.1 h2).1 y hy'; omega
  rw [List.append_assoc, List.pairwise_append]
  refine ⟨h1, ?_, ?_⟩
  · rw [List.singleton_append, List.pairwise_cons]
    exact ⟨hD, h2⟩
  · intro a ha b hb
    rcases List.mem_append.1 hb with h | h
    · rw [List.mem_singleton.1 h]; exact hT a ha
    · exact h3 a ha b h
theorem insL_len (l : List Int) (x : Int) : (insL l x).length = l.length + 1 := by
  rw [insL_eq]
  have := while_len (fun y => decide (y < x)) l
  rw [List.length_append, List.length_append, List.length_singleton]
  omega
theorem putB_places {xs : List Bool} {at_ : Int} (h : putE xs at_ = 0) : placesB (putB xs at_) = insL (placesB xs) at_ := by
  have hn : at_ ∉ placesB xs := by
    rw [placesB_mem]
    unfold putE at h
    split at h
    · cases h
    · split at h
      · cases h
      · assumption
  refine rise_same (placesB_rise _) (insL_rise (placesB_rise _) hn) fun x => ?_
  rw [placesB_mem, putB_has h, insL_mem, placesB_mem]
  by_cases e : x = at_ <;> simp [e]

/-- No object begins at the word 0. -/
def Zero0 (xs : List Bool) : Prop := hasM xs 0 = false
theorem Zero0.put {xs : List Bool} (h : Zero0 xs) (at_ : Int) : Zero0 (putB xs at_) := by
  by_cases e : putE xs at_ = 0
  · unfold Zero0
    rw [putB_has e, if_neg]
    · exact h
    · intro e'
      subst e'
      simp [putE] at e
  · rw [putB_same e]; exact h
theorem Zero0.drop {xs : List Bool} (h : Zero0 xs) (a c : Int) : Zero0 (dropB xs a c) := by
  unfold Zero0
  rw [dropB_has, show hasM xs 0 = false from h]; rfl
theorem Zero0.new (n : Nat) : Zero0 (List.replicate n false) := by
  unfold Zero0 hasM mk
  cases n <;> simp
theorem Zero0.pos {xs : List Bool} (h : Zero0 xs) {x : Int} (hx : x ∈ placesB xs) : 1 ≤ x := by
  have h1 := placesB_bound hx
  by_cases e : x = 0
  · subst e
    rw [placesB_mem, show hasM xs 0 = false from h] at hx; cases hx
  · omega
theorem placesB_new (n : Nat) : placesB (List.replicate n false) = [] := by
  refine List.eq_nil_iff_forall_not_mem.2 fun x hx => ?_
  rw [placesB_mem] at hx
  obtain ⟨_, h⟩ := hasM_iff.1 hx
  unfold mk at h
  by_cases e : x.toNat < n
  · simp [e] at h
  · simp [e] at h
end Go.Proofs.Ytkfdkmdjdghdkaa

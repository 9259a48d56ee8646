/- Objects put one behind the other, as plain lists: where they stand, what the words are then, which objects are read there. -/
import Derived.Test.YthnoohghjcfghaaWalkPut
import Derived.Test.YthnoohghjcfghaaFillGet
namespace Go.Proofs.Ythnoohghjcfghaa
open Go.RowKit

/-- A head as the law takes it: of the first type, with two fields, or an array as it is. -/
def normH (h : Hd) : Hd := ⟨h.array, h.kind, 0, if h.array = true then h.n else 2⟩
/-- Is it taken? -/
def takeH (g : Hd) : Bool := mayH g && decide (g.n ≤ 40)
def goodH (hs : List Hd) : List Hd := (hs.map normH).filter takeH
theorem goodH_yes (l : List Hd) (h : Hd) (ht : takeH (normH h) = true) : goodH (l ++ [h]) = goodH l ++ [normH h] := by
  simp [goodH, List.filter_append, ht]
theorem goodH_no (l : List Hd) (h : Hd) (ht : takeH (normH h) = false) : goodH (l ++ [h]) = goodH l := by
  simp [goodH, List.filter_append, ht]
theorem goodH_len (l : List Hd) : (goodH l).length ≤ l.length := by
  unfold goodH
  have := List.length_filter_le takeH (l.map normH)
  simpa using this
/-- Heads that the law takes. -/
def Fair (g : Hd) : Prop := mayH g = true ∧ g.n ≤ 40 ∧ g.ty = 0 ∧ (g.array = false → g.n = 2)
theorem goodH_fair (l : List Hd) : ∀ g ∈ goodH l, Fair g := by
  intro g hg
  unfold goodH at hg
  obtain ⟨h1, h2⟩ := List.mem_filter.1 hg
  obtain ⟨h, _, rfl⟩ := List.mem_map.1 h1
  simp only [takeH, Bool.and_eq_true, decide_eq_true_eq] at h2
  exact ⟨h2.1, h2.2, rfl, fun ha => by simp [normH] at ha ⊢; simp [ha]⟩

/-- How many words a head's object has. -/
def sizeN (g : Hd) : Nat := (sizeH g).toNat
theorem sizeN_eq {g : Hd} (h : Fair g) : sizeH g = (sizeN g : Int) ∧ 2 ≤ sizeN g ∧ sizeN g ≤ 41 ∧ 0 ≤ g.n ∧ g.n + 1 ≤ sizeN g := by
  have h1 := sizeH_pos h.1
  have h2 := mayH_range h.1
  have h3 : sizeH g = 1 + max g.n 1 := by unfold sizeH; rw [if_pos h.1]
  have h4 := h.2.1
  unfold sizeN
  omega
def sumN (gs : List Hd) : Nat := (gs.map sizeN).sum
theorem sumN_nil : sumN [] = 0 := rfl
theorem sumN_cons (g : Hd) (gs : List Hd) : sumN (g :: gs) = sizeN g + sumN gs := by simp [sumN]
theorem sumN_append (a b : List Hd) : sumN (a ++ b) = sumN a + sumN b := by simp [sumN]
theorem sumN_snoc (a : List Hd) (g : Hd) : sumN (a ++ [g]) = sumN a + sizeN g := by simp [sumN]
theorem sumN_le {gs : List Hd} (h : ∀ g ∈ gs, Fair g) : sumN gs ≤ 41 * gs.length := by
  induction gs with
  | nil => simp [sumN]
  | cons g gs ih =>
    have h1 := (sizeN_eq (h g (by simp))).2.2.1
    have h2 := ih (fun x hx => h x (by simp [hx]))
    rw [sumN_cons, List.length_cons]; omega
/-- Where they stand, from A on. -/
def thingsB (A : Nat) : List Hd → List RunZ
  | [] => []
  | g :: gs => ((A : Int), sizeH g) :: thingsB (A + sizeN g) gs
theorem thingsB_length : ∀ (gs : List Hd) (A : Nat), (thingsB A gs).length = gs.length
  | [], _ => rfl
  | g :: gs, A => by simp [thingsB, thingsB_length gs]
theorem thingsB_snoc : ∀ (gs : List Hd) (A : Nat) (g : Hd), thingsB A (gs ++ [g]) = thingsB A gs ++ [(((A + sumN gs : Nat) : Int), sizeH g)]
  | [], A, g => by simp [thingsB, sumN]
  | x :: gs, A, g => by
    simp only [List.cons_append, thingsB, thingsB_snoc gs, sumN_cons, Nat.add_assoc]
theorem thingsB_get : ∀ (gs : List Hd) (A j : Nat) (g : Hd), gs[j]? = some g → (thingsB A gs)[j]? = some (((A + sumN (gs.take j) : Nat) : Int), sizeH g)
  | [], _, j, g, h => by simp at h
  | x :: gs, A, 0, g, h => by simp at h; subst h; simp [thingsB, sumN]
  | x :: gs, A, j + 1, g, h => by
    have := thingsB_get gs (A + sizeN x) j g (by simpa using h)
    simp only [thingsB, List.getElem?_cons_succ, List.take_succ_cons, sumN_cons]
    rw [this, Nat.add_assoc]
/-- An object's words. -/
def blockH (g : Hd) : List Int := wordH g :: List.replicate (sizeN g - 1) 0
def flatH (gs : List Hd) : List Int := gs.flatMap blockH
theorem blockH_length {g : Hd} (h : Fair g) : (blockH g).length = sizeN g := by have := sizeN_eq h; simp [blockH]; omega
theorem flatH_length : ∀ {gs : List Hd}, (∀ g ∈ gs, Fair g) → (flatH gs).length = sumN gs
  | [], _ => rfl
  | g :: gs, h => by
    have h1 := blockH_length (h g (by simp))
    have h2 := flatH_length (gs := gs) (fun x hx => h x (by simp [hx]))
    simp only [flatH, List.flatMap_cons, List.length_append, sumN_cons] at h2 ⊢
    omega
/-- The words, when the first j are put. -/
def laidB (A : Nat) (gs : List Hd) (j : Nat) : List Int := List.replicate A 9 ++ flatH (gs.take j) ++ List.replicate (sumN (gs.drop j)) 9
theorem sumN_split (gs : List Hd) (j : Nat) : sumN (gs.take j) + sumN (gs.drop j) = sumN gs := by rw [← sumN_append, List.take_append_drop]
theorem laidB_length {gs : List Hd} (h : ∀ g ∈ gs, Fair g) (A j : Nat) : (laidB A gs j).length = A + sumN gs := by
  have h1 := flatH_length (gs := gs.take j) (fun g hg => h g (List.mem_of_mem_take hg))
  have h2 := sumN_split gs j
  simp only [laidB, List.length_append, List.length_replicate, h1]
  omega
theorem laidB_zero (A : Nat) (gs : List Hd) : laidB A gs 0 = List.replicate (A + sumN gs) 9 := by
  simp [laidB, flatH, List.replicate_append_replicate]

theorem flB_mid (X Y Z : List Int) (v : Int) : flB (X ++ Y ++ Z) X.length Y.length v = X ++ List.replicate Y.length v ++ Z := by
  have hh : holdsB (X ++ Y ++ Z).length X.length Y.length = true := by simp [holdsB]; omega
  unfold flB
  rw [if_pos hh, Int.toNat_natCast]
  refine ext_getD (by rw [setAll_length]; simp) fun i hi => ?_
  rw [setAll_length] at hi
  rw [setAll_get _ v X.length Y.length i (by simp only [List.length_append]; omega) hi]
  by_cases h1 : i < X.length
  · rw [if_neg (by omega), List.append_assoc, List.append_assoc, List.getElem?_append_left h1, List.getElem?_append_left h1]
  · by_cases h2 : i < X.length + Y.length
    · rw [if_pos (by omega), List.append_assoc, List.getElem?_append_right (by omega), List.getElem?_append_left (by simp; omega), List.getElem?_replicate, if_pos (by omega)]
      rfl
    · rw [if_neg (by omega), List.append_assoc, List.append_assoc, List.getElem?_append_right (by omega), List.getElem?_append_right (by omega), List.getElem?_append_right (by omega), List.getElem?_append_right (by simp; omega)]
      simp
theorem flB_all (n : Nat) (v x : Int) : flB (List.replicate n x) 0 n v = List.replicate n v := by
  have := flB_mid [] (List.replicate n x) [] v
  simpa using this
theorem laid_put {gs : List Hd} (h : ∀ g ∈ gs, Fair g) (A j : Nat) (g : Hd) (hg : gs[j]? = some g) :
    putO (laidB A gs j) ((A + sumN (gs.take j) : Nat) : Int) (sizeH g) g = (laidB A gs (j + 1), 0) := by
  have hf := h g (List.mem_of_getElem? hg)
  obtain ⟨s1, s2, s3, _, _⟩ := sizeN_eq hf
  have hj : j < gs.length := (List.getElem?_eq_some_iff.1 hg).1
  have hft := fun x hx => h x (List.mem_of_mem_take (i := j) hx)
  have hXl : (List.replicate A (9 : Int) ++ flatH (gs.take j)).length = A + sumN (gs.take j) := by rw [List.length_append, List.length_replicate, flatH_length hft]
  have hd : gs.drop j = g :: gs.drop (j + 1) := by
    rw [List.drop_eq_getElem_cons hj]
    congr 1
    rw [List.getElem?_eq_getElem hj] at hg
    exact Option.some.inj hg
  have htk : gs.take (j + 1) = gs.take j ++ [g] := by rw [List.take_add_one, hg]; rfl
  have hb : laidB A gs j = (List.replicate A 9 ++ flatH (gs.take j)) ++ List.replicate (sizeN g) 9 ++ List.replicate (sumN (gs.drop (j + 1))) 9 := by
    unfold laidB
    rw [hd, sumN_cons, ← List.replicate_append_replicate, ← List.append_assoc]
  have hlen := laidB_length h A j
  have hfl : flB (laidB A gs j) ((A + sumN (gs.take j) : Nat) : Int) (sizeH g) 0 = (List.replicate A 9 ++ flatH (gs.take j)) ++ List.replicate (sizeN g) 0 ++ List.replicate (sumN (gs.drop (j + 1))) 9 := by
    have := flB_mid (List.replicate A 9 ++ flatH (gs.take j)) (List.replicate (sizeN g) 9) (List.replicate (sumN (gs.drop (j + 1))) 9) 0
    rw [hXl, List.length_replicate] at this
    rw [hb, s1]
    exact this
  have hsp := sumN_split gs j
  rw [hd, sumN_cons] at hsp
  have hho : holdsB (laidB A gs j).length ((A + sumN (gs.take j) : Nat) : Int) (sizeH g) = true := by
    rw [hlen, s1]; simp [holdsB]; omega
  unfold putO
  rw [if_neg (by rw [hf.1]; simp), if_neg (by rw [hho]; simp), hfl]
  congr 1
  unfold wrB
  have hin : hasB ((List.replicate A (9 : Int) ++ flatH (gs.take j)) ++ List.replicate (sizeN g) 0 ++ List.replicate (sumN (gs.drop (j + 1))) 9).length ((A + sumN (gs.take j) : Nat) : Int) = true := by
    rw [List.length_append, List.length_append, hXl]
    simp [hasB]; omega
  rw [if_pos hin, Int.toNat_natCast, List.append_assoc, List.set_append_right _ _ (by omega), hXl, Nat.sub_self]
  obtain ⟨m, hm⟩ : ∃ m, sizeN g = m + 1 := ⟨sizeN g - 1, by omega⟩
  unfold laidB
  rw [htk]
  simp only [flatH, List.flatMap_append, List.flatMap_cons, List.flatMap_nil, List.append_nil, blockH, hm, List.replicate_succ, List.cons_append, List.set_cons_zero, Nat.add_sub_cancel, List.append_assoc]

/-- The kinds of a fair head's fields. -/
def ks2 : List (List Int) := [[1, 0]]
theorem kinds_fair {g : Hd} (h : Fair g) : (kindsB ks2 g).2 = 0 ∧ ((kindsB ks2 g).1.length : Int) = g.n := by
  obtain ⟨h1, h2, h3, h4⟩ := h
  have h5 := mayH_cases h1
  unfold kindsB ks2
  cases ha : g.array with
  | true =>
    rw [ha] at h5
    have h6 : 0 ≤ g.kind ∧ g.kind < 4 ∧ 0 ≤ g.n ∧ g.n ≤ 4000 := by simp at h5; omega
    have hk : kindB g.kind = true := by simp [kindB]; omega
    rw [if_pos rfl, if_neg (by rw [hk]; simp), if_neg (by omega)]
    simp; omega
  | false =>
    have h6 := h4 ha
    rw [if_neg (by simp), h3, if_neg (by simp)]
    simp [h6]
/-- The object of number j. -/
def obH (A : Nat) (gs : List Hd) (j : Nat) (g : Hd) : Ob := ⟨((A + sumN (gs.take j) : Nat) : Int) + 1, g, (kindsB ks2 g).1, List.replicate g.n.toNat 0⟩
theorem thing_fair {gs : List Hd} (h : ∀ g ∈ gs, Fair g) (A j : Nat) (g : Hd) (hg : gs[j]? = some g) :
    thingB (laidB A gs gs.length) ks2 (((A + sumN (gs.take j) : Nat) : Int), sizeH g) = (obH A gs j g, 0) := by
  have hf := h g (List.mem_of_getElem? hg)
  obtain ⟨s1, s2, s3, s4, s5⟩ := sizeN_eq hf
  obtain ⟨k1, k2⟩ := kinds_fair hf
  have hj : j < gs.length := (List.getElem?_eq_some_iff.1 hg).1
  have hft := fun x hx => h x (List.mem_of_mem_take (i := j) hx)
  have hXl : (List.replicate A (9 : Int) ++ flatH (gs.take j)).length = A + sumN (gs.take j) := by rw [List.length_append, List.length_replicate, flatH_length hft]
  have hd : gs.drop j = g :: gs.drop (j + 1) := by
    rw [List.drop_eq_getElem_cons hj]
    congr 1
    rw [List.getElem?_eq_getElem hj] at hg
    exact Option.some.inj hg
  have hsp := sumN_split gs j
  rw [hd, sumN_cons] at hsp
  obtain ⟨m, hm⟩ : ∃ m, sizeN g = m + 1 := ⟨sizeN g - 1, by omega⟩
  have hlb : laidB A gs gs.length = (List.replicate A 9 ++ flatH (gs.take j)) ++ (wordH g :: (List.replicate m 0 ++ flatH (gs.drop (j + 1)))) := by
    unfold laidB
    rw [List.take_length, List.drop_length]
    have : flatH gs = flatH (gs.take j) ++ flatH (gs.drop j) := by
      unfold flatH; rw [← List.flatMap_append, List.take_append_drop]
    rw [this, hd]
    simp [flatH, blockH, hm, sumN]
  have hlen := laidB_length h A gs.length
  obtain ⟨K, hK⟩ : ∃ K, A + sumN (gs.take j) = K := ⟨_, rfl⟩
  rw [hK] at hXl ⊢
  have hget : (laidB A gs gs.length)[K]?.getD 0 = wordH g := by
    rw [hlb, List.getElem?_append_right (by omega), hXl, Nat.sub_self]
    rfl
  have hdrop : ((laidB A gs gs.length).drop (K + 1)) = List.replicate m 0 ++ flatH (gs.drop (j + 1)) := by
    rw [hlb, List.drop_append, hXl, List.drop_eq_nil_of_le (by omega), show K + 1 - K = 1 by omega]
    rfl
  have hone : oneN (laidB A gs gs.length) ks2 K = (obH A gs j g, 0) := by
    unfold oneN
    rw [hget, get_put hf.1]
    simp only
    rw [if_neg (by simp), k1, if_neg (by simp), hlen, if_neg (by omega), hdrop]
    unfold obH
    rw [hK]
    congr 2
    have hn : (kindsB ks2 g).1.length = g.n.toNat := by omega
    rw [hn, List.take_append_of_le_length (by simp; omega), List.take_replicate, Nat.min_eq_left (by omega)]
  unfold thingB
  simp only [Int.toNat_natCast, hone]
  rw [if_pos (by omega), if_neg (by simp [obH])]
theorem things_fair {gs : List Hd} (h : ∀ g ∈ gs, Fair g) (A : Nat) :
    firstE (laidB A gs gs.length) ks2 (thingsB A gs) = 0 := by
  have key : ∀ j, j ≤ gs.length → firstE (laidB A gs gs.length) ks2 ((thingsB A gs).take j) = 0 := by
    intro j
    induction j with
    | zero => intro _; rfl
    | succ j ih =>
      intro hj
      obtain ⟨g, hg⟩ : ∃ g, gs[j]? = some g := ⟨gs[j], List.getElem?_eq_getElem (by omega)⟩
      have ht := thingsB_get gs A j g hg
      rw [List.take_add_one, ht]
      exact firstE_snoc (ih (by omega)) (by rw [thing_fair h A j g hg])
  have := key gs.length (Nat.le_refl _)
  rwa [List.take_of_length_le (by rw [thingsB_length]; exact Nat.le_refl _)] at this
theorem objs_fair {gs : List Hd} (h : ∀ g ∈ gs, Fair g) (A : Nat) :
    ∃ os, objsB (laidB A gs gs.length) ks2 (thingsB A gs) = (os, 0) ∧ os.length = gs.length ∧ ∀ j g, gs[j]? = some g → os[j]? = some (obH A gs j g) := by
  refine ⟨_, objsB_none (things_fair h A), by rw [List.length_map, thingsB_length], fun j g hg => ?_⟩
  rw [List.getElem?_map, thingsB_get gs A j g hg, Option.map_some, thing_fair h A j g hg]
theorem thingsB_range : ∀ (gs : List Hd) (A : Nat), ∀ r ∈ thingsB A gs, (A : Int) ≤ r.1 ∧ r.1 ≤ ((A + sumN gs : Nat) : Int)
  | [], _, r, h => by simp [thingsB] at h
  | g :: gs, A, r, h => by
    simp only [thingsB, List.mem_cons] at h
    rw [sumN_cons]
    rcases h with rfl | h
    · simp only; omega
    · have := thingsB_range gs (A + sizeN g) r h
      omega
theorem laidB_range {gs : List Hd} (h : ∀ g ∈ gs, Fair g) (A j : Nat) : ∀ z ∈ laidB A gs j, 0 ≤ z ∧ z < 18446744073709551616 := by
  intro z hz
  simp only [laidB, List.mem_append] at hz
  rcases hz with (hz | hz) | hz
  · rw [(List.mem_replicate.1 hz).2]; omega
  · obtain ⟨g, hg, hz⟩ := List.mem_flatMap.1 hz
    have hw := wordH_range (h g (List.mem_of_mem_take hg)).1
    rcases List.mem_cons.1 hz with rfl | hz
    · omega
    · rw [(List.mem_replicate.1 hz).2]; omega
  · rw [(List.mem_replicate.1 hz).2]; omega
end Go.Proofs.Ythnoohghjcfghaa

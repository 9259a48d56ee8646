/- A set of ints, kept as a map to true, told by the rising list of its keys. -/
import Derived.Test.YtionleocbjfgaaaDoorMapB
import Derived.Maps.RangeWalk
namespace Go.Proofs.YtionleocbjfgaaaDoor
open Go.RowKit Go.Maps

/-- The map that has just the keys xs, each at true. -/
def setD (xs : List Int) : DataW Unit := .map (xs.map fun x => (Lit.int .i64 x, DataW.lit (.bool true)))
theorem size_setD (xs : List Int) : Maps.size (setD xs) = xs.length := by simp [setD, Maps.size]
theorem sameKey_int (x y : Int) : (Lit.int .i64 x).sameKey (.int .i64 y) = decide (x = y) := by simp [Lit.sameKey]
theorem has_setD (xs : List Int) (z : Int) : Maps.has (setD xs) (.int .i64 z) = decide (z ∈ xs) := by
  rw [setD, has_eq, List.any_map, Bool.eq_iff_iff]
  simp [sameKey_int]
theorem atKey_setD (xs : List Int) (z : Int) : (setD xs).atKey (.int .i64 z) (.lit (.bool false)) = .lit (.bool (decide (z ∈ xs))) := by
  unfold setD
  induction xs with
  | nil => rfl
  | cons x xs ih =>
    unfold DataW.atKey at ih ⊢
    by_cases e : x = z
    · simp [sameKey_int, e]
    · have e' : ¬ z = x := fun h => e h.symm
      simp only [List.map_cons, List.find?_cons, sameKey_int, e, decide_false]
      simpa [e'] using ih
theorem insert_last {x : Lit × DataW Unit} : ∀ l : List (Lit × DataW Unit), (∀ p ∈ l, x.1.before p.1 = false) → DataW.insert x l = l ++ [x]
  | [], _ => rfl
  | y :: r, h => by
    unfold DataW.insert
    rw [h y (by simp), insert_last r (fun p hp => h p (by simp [hp]))]
    rfl
theorem put_setD {xs : List Int} {z : Int} (h : ∀ x ∈ xs, x < z) : (setD xs).put (.int .i64 z) (.lit (.bool true)) = setD (xs ++ [z]) := by
  show DataW.map (DataW.insert (_, _) ((xs.map _).filter _)) = _
  rw [List.filter_eq_self.2 (fun p hp => by
    obtain ⟨x, hx, rfl⟩ := List.mem_map.1 hp
    have := h x hx
    simp [sameKey_int]; omega), insert_last _ (fun p hp => by
    obtain ⟨x, hx, rfl⟩ := List.mem_map.1 hp
    have := h x hx
    simp [Lit.before]; omega)]
  simp [setD]
theorem del_setD (xs : List Int) (z : Int) : (setD xs).del (.int .i64 z) = setD (xs.filter fun x => !decide (x = z)) := by
  show DataW.map ((xs.map _).filter _) = DataW.map _
  rw [List.filter_map]
  congr 2
  exact List.filter_congr (fun x _ => by simp [sameKey_int])

/-- Block b is a map that has just the keys xs, each at true. -/
def OwnKeyS (w : World) (b : Nat) (xs : List Int) : Prop := w.ownsMap Tryd.prog 3 (plainElem Tryd.prog 4) b xs.length (setD xs)
theorem own_tight {w : World} {b n : Nat} {D : DataW Unit} (h : w.ownsMap Tryd.prog 3 (plainElem Tryd.prog 4) b n D) : w.ownsMap Tryd.prog 3 (plainElem Tryd.prog 4) b (Maps.size D) D := by
  obtain ⟨es, clock, hb, F, hs, rfl⟩ := h
  exact ⟨es, clock, hb, F, by simp [Maps.size, length_sorted], rfl⟩
theorem OwnKeyS.of {w : World} {b n : Nat} {D : DataW Unit} {xs : List Int} (h : w.ownsMap Tryd.prog 3 (plainElem Tryd.prog 4) b n D) (e : D = setD xs) : OwnKeyS w b xs := by
  subst e
  have := own_tight h
  rwa [size_setD] at this
theorem OwnKeyS.made (w : World) : OwnKeyS (w.alloc (.map #[] 0)) w.heap.size [] := World.ownsMap_made w _ _ _
theorem OwnKeyS.lt {w : World} {b : Nat} {xs : List Int} (h : OwnKeyS w b xs) : b < w.heap.size := World.ownsMap.lt h
theorem OwnKeyS.kept {w w' : World} {S : List Nat} {b : Nat} {xs : List Int} (h : OwnKeyS w b xs) (hk : Kept S w w') (hn : b ∉ S) : OwnKeyS w' b xs := by
  obtain ⟨es, clock, hb, h1⟩ := h
  exact ⟨es, clock, (hk.block b (lt_of_block hb) hn).trans hb, h1⟩
/-- What a range over such a map has met so far: no key twice, and just those that are no longer to come. -/
def CollI (xs : List Int) (left : Lit → Bool) (ss : List Int) : Prop := ss.Nodup ∧ ∀ x, x ∈ ss ↔ (x ∈ xs ∧ left (.int .i64 x) = false)
theorem CollI.start (xs : List Int) : CollI xs (Maps.has (setD xs)) [] := ⟨List.nodup_nil, fun x => by rw [has_setD]; simp⟩
theorem CollI.step {xs ss : List Int} {left : Lit → Bool} (h : CollI xs left ss) {x : Int} {y : DataW Unit} (hlk : left (.int .i64 x) = true) (hat : ∀ zd, (setD xs).atKey (.int .i64 x) zd = y) :
    CollI xs (fun z => left z && !z.sameKey (.int .i64 x)) (ss ++ [x]) := by
  have hhas := has_true_of_atKey hat
  rw [has_setD, decide_eq_true_eq] at hhas
  have hnew : x ∉ ss := fun hx => by have := ((h.2 x).1 hx).2; rw [hlk] at this; cases this
  refine ⟨List.nodup_append.2 ⟨h.1, by simp, fun a ha b hb => by simp at hb; subst hb; exact fun e => hnew (e ▸ ha)⟩, fun y => ?_⟩
  by_cases hy : y = x
  · subst hy; simp [hhas, sameKey_int]
  · simp [h.2 y, hy, sameKey_int]
theorem CollI.perm {xs ss : List Int} {left : Lit → Bool} (h : CollI xs left ss) (hx : xs.Pairwise (· < ·)) (hl : ∀ kl, left kl = false) : ss.Perm xs :=
  (List.perm_ext_iff_of_nodup h.1 (hx.imp (fun h => by omega))).2 fun x => by rw [h.2 x, hl]; simp
/-- Sorted it is the rising list. -/
theorem CollI.sorted {xs ss : List Int} {left : Lit → Bool} (h : CollI xs left ss) (hx : xs.Pairwise (· < ·)) (hl : ∀ kl, left kl = false) : ss.mergeSort (fun x y => decide (x ≤ y)) = xs := by
  have hp := h.perm hx hl
  refine List.Perm.eq_of_pairwise (le := fun a b : Int => a ≤ b) (fun a b _ _ h1 h2 => by omega) ?_ (hx.imp (fun h => by omega)) ((List.mergeSort_perm _ _).trans hp)
  have := List.pairwise_mergeSort (le := fun x y : Int => decide (x ≤ y)) (fun a b c h1 h2 => by simp at *; omega) (fun a b => by simp; omega) ss
  exact this.imp (fun h => by simpa using h)
end Go.Proofs.YtionleocbjfgaaaDoor

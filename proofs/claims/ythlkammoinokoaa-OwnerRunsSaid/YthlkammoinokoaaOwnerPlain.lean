/- Whose pages are, as plain lists: groups of 32, how many are somebody's. -/
import Derived.Test.YthlkammoinokoaaMapL
namespace Go.Proofs.Ythlkammoinokoaa

/-- The 32 pages of group k. -/
def grp (xs : List Int) (k : Nat) : List Int := (List.range 32).map fun i => xs[32 * k + i]?.getD 0
def zeroG : List Int := List.replicate 32 0
theorem grp_length (xs : List Int) (k : Nat) : (grp xs k).length = 32 := by simp [grp]
theorem zeroG_length : zeroG.length = 32 := by simp [zeroG]
theorem grp_get (xs : List Int) (k : Nat) {i : Nat} (hi : i < 32) : (grp xs k)[i]? = some (xs[32 * k + i]?.getD 0) := by
  simp [grp, hi]
theorem grp_ext {xs ys : List Int} {k j : Nat} (h : ∀ i, i < 32 → xs[32 * k + i]?.getD 0 = ys[32 * j + i]?.getD 0) : grp xs k = grp ys j := by
  unfold grp
  exact List.map_congr_left fun i hi => h i (by simpa using hi)
theorem grp_zero {xs : List Int} {k : Nat} (h : xs.length ≤ 32 * k) : grp xs k = zeroG := by
  unfold grp zeroG
  rw [List.eq_replicate_iff]
  refine ⟨by simp, fun x hx => ?_⟩
  obtain ⟨i, _, rfl⟩ := List.mem_map.1 hx
  rw [List.getElem?_eq_none (by omega)]; rfl
theorem grp_none (n k : Nat) : grp (List.replicate n 0) k = zeroG := by
  unfold grp zeroG
  rw [List.eq_replicate_iff]
  refine ⟨by simp, fun x hx => ?_⟩
  obtain ⟨i, _, rfl⟩ := List.mem_map.1 hx
  rw [List.getElem?_replicate]; split <;> rfl
theorem grp_set {xs : List Int} {p : Nat} (hp : p < xs.length) (o : Int) : grp (xs.set p o) (p / 32) = (grp xs (p / 32)).set (p % 32) o := by
  apply List.ext_getElem?
  intro i
  by_cases hi : i < 32
  · rw [grp_get _ _ hi]
    by_cases e : p % 32 = i
    · subst e
      rw [show 32 * (p / 32) + p % 32 = p by omega, List.getElem?_set_self hp, List.getElem?_set_self (by rw [grp_length]; omega)]
      rfl
    · rw [List.getElem?_set_ne e, grp_get _ _ hi, List.getElem?_set_ne (by omega)]
  · rw [List.getElem?_eq_none (by rw [grp_length]; omega), List.getElem?_eq_none (by rw [List.length_set, grp_length]; omega)]
theorem grp_set_other {xs : List Int} {p k : Nat} (o : Int) (h : k ≠ p / 32) : grp (xs.set p o) k = grp xs k :=
  grp_ext fun i hi => by rw [List.getElem?_set_ne (by omega)]

/-- The groups that are there, each with its pages. -/
structure Rep (xs : List Int) (gs : List (Int × List Int)) : Prop where
  rise : RiseL gs
  mem : ∀ k v, (k, v) ∈ gs ↔ 0 ≤ k ∧ v = grp xs k.toNat ∧ v ≠ zeroG
theorem Rep.none (n : Nat) : Rep (List.replicate n 0) [] :=
  ⟨List.Pairwise.nil, fun k v => by simp only [List.not_mem_nil, false_iff, not_and]; intro _ e; rw [grp_none] at e; exact fun h => h e⟩
theorem Rep.at {xs : List Int} {gs : List (Int × List Int)} (h : Rep xs gs) (k : Nat) (f : List Int → Value) : ((atL gs k).map f).getD (f zeroG) = f (grp xs k) := by
  by_cases e : grp xs k = zeroG
  · rw [atL_none (fun hm => by
      obtain ⟨v, hv⟩ := mem_keysL.1 hm
      have := (h.mem _ _).1 hv
      simp only [Int.toNat_natCast] at this
      exact this.2.2 (this.2.1.trans e)), e]
    rfl
  · rw [atL_mem h.rise ((h.mem k (grp xs k)).2 ⟨by omega, by simp, e⟩)]
    rfl
theorem Rep.len {xs : List Int} {gs : List (Int × List Int)} (h : Rep xs gs) (hx : xs.length ≤ 1024) : gs.length ≤ 32 := by
  have := lenL (a := 0) (b := 32) h.rise (fun r hr => by
    obtain ⟨h1, h2, h3⟩ := (h.mem r.1 r.2).1 hr
    refine ⟨h1, ?_⟩
    by_cases hk : r.1 < 32
    · exact hk
    · exact absurd (h2.trans (grp_zero (by omega))) h3)
  omega
theorem Rep.put {xs : List Int} {gs : List (Int × List Int)} (h : Rep xs gs) {p : Nat} (hp : p < xs.length) (o : Int) (hne : (grp xs (p / 32)).set (p % 32) o ≠ zeroG) :
    Rep (xs.set p o) (putL gs (p / 32 : Nat) ((grp xs (p / 32)).set (p % 32) o)) := by
  refine ⟨riseL_put h.rise _ _, fun k v => ?_⟩
  rw [mem_putL, h.mem]
  by_cases e : k = ((p / 32 : Nat) : Int)
  · subst e
    simp only [Int.toNat_natCast, grp_set hp]
    constructor
    · rintro (h1 | ⟨_, h1⟩)
      · cases h1; exact ⟨by omega, rfl, hne⟩
      · exact absurd rfl h1
    · rintro ⟨_, h1, _⟩; exact .inl (by rw [h1])
  · constructor
    · rintro (h1 | ⟨⟨h1, h2, h3⟩, _⟩)
      · cases h1; exact absurd rfl e
      · exact ⟨h1, by rw [grp_set_other o (by omega)]; exact h2, h3⟩
    · rintro ⟨h1, h2, h3⟩
      rw [grp_set_other o (by omega)] at h2
      exact .inr ⟨⟨h1, h2, h3⟩, e⟩
theorem Rep.del {xs : List Int} {gs : List (Int × List Int)} (h : Rep xs gs) {p : Nat} (hp : p < xs.length) (o : Int) (hz : (grp xs (p / 32)).set (p % 32) o = zeroG) :
    Rep (xs.set p o) (delL gs (p / 32 : Nat)) := by
  refine ⟨riseL_del h.rise _, fun k v => ?_⟩
  rw [mem_delL, h.mem]
  by_cases e : k = ((p / 32 : Nat) : Int)
  · subst e
    simp only [Int.toNat_natCast, grp_set hp, hz]
    constructor
    · rintro ⟨_, h1⟩; exact absurd rfl h1
    · rintro ⟨_, h1, h2⟩; exact absurd h1 h2
  · constructor
    · rintro ⟨⟨h1, h2, h3⟩, _⟩
      exact ⟨h1, by rw [grp_set_other o (by omega)]; exact h2, h3⟩
    · rintro ⟨h1, h2, h3⟩
      rw [grp_set_other o (by omega)] at h2
      exact ⟨⟨h1, h2, h3⟩, e⟩

/-- How many of these are somebody's. -/
def cntG (v : List Int) : Nat := v.countP fun x => !(x == 0)
theorem cntG_zero : cntG zeroG = 0 := by decide
def sumG (ss : List (Int × List Int)) : Nat := (ss.map fun r => cntG r.2).sum
theorem sumG_snoc (ss : List (Int × List Int)) (r : Int × List Int) : sumG (ss ++ [r]) = sumG ss + cntG r.2 := by simp [sumG]
theorem cntG_le (v : List Int) : cntG v ≤ v.length := List.countP_le_length
theorem grp_take (xs : List Int) (m : Nat) : cntG (xs.take (32 * (m + 1))) = cntG (xs.take (32 * m)) + cntG (grp xs m) := by
  have h1 : xs.take (32 * (m + 1)) = xs.take (32 * m) ++ (xs.drop (32 * m)).take 32 := by
    rw [show 32 * (m + 1) = 32 * m + 32 by omega, List.take_add]
  have h2 : grp xs m = (xs.drop (32 * m)).take 32 ++ List.replicate (32 - ((xs.drop (32 * m)).take 32).length) 0 := by
    apply List.ext_getElem?
    intro i
    by_cases hi : i < 32
    · rw [grp_get _ _ hi]
      by_cases hl : i < ((xs.drop (32 * m)).take 32).length
      · rw [List.getElem?_append_left hl, List.getElem?_take_of_lt hi, List.getElem?_drop]
        simp only [List.length_take, List.length_drop] at hl
        rw [List.getElem?_eq_getElem (by omega)]; rfl
      · rw [List.getElem?_append_right (by omega), List.getElem?_replicate, if_pos (by omega)]
        simp only [List.length_take, List.length_drop] at hl
        rw [List.getElem?_eq_none (by omega)]; rfl
    · rw [List.getElem?_eq_none (by rw [grp_length]; omega), List.getElem?_eq_none (by simp; omega)]
  rw [h1, h2]
  unfold cntG
  rw [List.countP_append, List.countP_append, List.countP_replicate]
  simp
theorem grp_sum (xs : List Int) : ∀ m, ((List.range m).map fun k => cntG (grp xs k)).sum = cntG (xs.take (32 * m))
  | 0 => by simp [cntG]
  | m + 1 => by
    rw [List.range_succ, List.map_append, List.sum_append, grp_sum xs m, grp_take]
    simp
theorem Rep.sum {xs : List Int} {gs : List (Int × List Int)} (h : Rep xs gs) (hx : xs.length ≤ 1024) : sumG gs = cntG xs := by
  have hp : gs.Perm (((List.range 32).filter fun k => !(grp xs k == zeroG)).map fun k : Nat => ((k : Int), grp xs k)) := by
    refine (List.perm_ext_iff_of_nodup (h.rise.imp (fun {a b} h e => by rw [e] at h; omega)) ?_).2 fun r => ?_
    · have hn : ((List.range 32).filter fun k => !(grp xs k == zeroG)).Pairwise (fun a b : Nat => a ≠ b) := List.Pairwise.filter _ (List.nodup_range (n := 32))
      exact List.Pairwise.map _ (fun a b hab e => hab (by have := congrArg Prod.fst e; simp only at this; omega)) hn
    · obtain ⟨k, v⟩ := r
      rw [h.mem]
      simp only [List.mem_map, List.mem_filter, List.mem_range, Prod.mk.injEq, Bool.not_eq_true', beq_eq_false_iff_ne]
      constructor
      · rintro ⟨h1, h2, h3⟩
        refine ⟨k.toNat, ⟨?_, by rw [← h2]; exact h3⟩, by omega, h2.symm⟩
        by_cases hk : k.toNat < 32
        · exact hk
        · exact absurd (h2.trans (grp_zero (by omega))) h3
      · rintro ⟨j, ⟨h1, h2⟩, rfl, rfl⟩
        exact ⟨by omega, by simp, h2⟩
  have h1 : sumG gs = ((((List.range 32).filter fun k => !(grp xs k == zeroG)).map fun k : Nat => ((k : Int), grp xs k)).map fun r => cntG r.2).sum := (hp.map _).sum_nat
  rw [h1, List.map_map]
  have h2 : ∀ l : List Nat, ((l.filter fun k => !(grp xs k == zeroG)).map ((fun r : Int × List Int => cntG r.2) ∘ fun k : Nat => ((k : Int), grp xs k))).sum = (l.map fun k => cntG (grp xs k)).sum := by
    intro l
    induction l with
    | nil => rfl
    | cons k l ih =>
      by_cases e : grp xs k = zeroG
      · rw [List.filter_cons_of_neg (by simp [e]), ih]
        simp [e, cntG_zero]
      · rw [List.filter_cons_of_pos (by simp [e]), List.map_cons, List.sum_cons, ih]
        rfl
  rw [h2, grp_sum, List.take_of_length_le (by omega)]

/-- Whose a page is. -/
def pageB (xs : List Int) (p : Int) : Int := if p < 0 ∨ (xs.length : Int) ≤ p then 0 else xs[p.toNat]?.getD 0
theorem pageB_none {xs : List Int} {p : Int} (h : p < 0 ∨ (xs.length : Int) ≤ p) : pageB xs p = 0 := by unfold pageB; rw [if_pos h]
theorem pageB_at {xs : List Int} {p : Nat} (h : p < xs.length) : pageB xs p = xs[p]?.getD 0 := by
  unfold pageB; rw [if_neg (by omega)]; simp
/-- So many pages from a on are o's. -/
def giveP (xs : List Int) (a : Nat) (o : Int) : Nat → List Int
  | 0 => xs
  | n + 1 => (giveP xs a o n).set (a + n) o
theorem giveP_length (xs : List Int) (a : Nat) (o : Int) : ∀ n, (giveP xs a o n).length = xs.length
  | 0 => rfl
  | n + 1 => by simp [giveP, giveP_length xs a o n]
/-- Behind Set: whose pages are, the error's number. -/
def setB (xs : List Int) (a c o : Int) : List Int × Int :=
  if o < 0 then (xs, 1) else if 0 ≤ a ∧ 0 ≤ c ∧ c ≤ (xs.length : Int) - a then (giveP xs a.toNat o c.toNat, 0) else (xs, 8)
theorem setB_length (xs : List Int) (a c o : Int) : (setB xs a c o).1.length = xs.length := by
  unfold setB; split
  · rfl
  · split
    · exact giveP_length _ _ _ _
    · rfl
end Go.Proofs.Ythlkammoinokoaa

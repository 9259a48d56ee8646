/- What goes is missing; what scalars hold is of no account: plain lists. -/
import Derived.Test.YtionleocbjfgaaaDoorSweepComes
namespace Go.Proofs.YtionleocbjfgaaaDoor

/-- Does it count for that region? -/
def forR (bs : List (Int × Int)) (R : Int) (x : PtP) : Bool := decide (x.2.1 = 1 ∧ cntY bs x.2.2 = R ∧ R ≠ x.1)
theorem count_hits (bs : List (Int × Int)) {R : Int} (hR : R ≠ 0) : ∀ xs : List PtP, (hitsP bs xs).count R = xs.countP (forR bs R)
  | [] => rfl
  | x :: xs => by
    rw [show hitsP bs (x :: xs) = hitP bs x ++ hitsP bs xs from by simp [hitsP], List.count_append, count_hits bs hR xs, List.countP_cons]
    have : (hitP bs x).count R = if forR bs R x = true then 1 else 0 := by
      unfold hitP countE cntB forR
      by_cases h : x.2.1 = 1 ∧ cntY bs x.2.2 ≠ 0 ∧ cntY bs x.2.2 ≠ x.1
      · rw [if_pos (by simpa using h)]
        by_cases e : cntY bs x.2.2 = R
        · have : x.2.1 = 1 ∧ cntY bs x.2.2 = R ∧ R ≠ x.1 := ⟨h.1, e, by rw [← e]; exact h.2.2⟩
          rw [if_pos (by simpa using this), e]; simp
        · rw [if_neg (by simp; intro _ e2; exact absurd e2 e)]
          simp [e]
      · rw [if_neg (by simpa using h)]
        rw [if_neg]
        · simp
        · simp only [decide_eq_true_eq]
          rintro ⟨h1, h2, h3⟩
          exact h ⟨h1, by omega, by omega⟩
    omega
/-- No two objects at one place. -/
def ApartO (l : List ObP) : Prop := l.Pairwise fun a b => a.at_ ≠ b.at_
theorem beg_iff : ∀ {l : List ObP}, ApartO l → ∀ {R : Int}, 0 < R → ∀ v, cntY (begP l) v = R ↔ ∃ o ∈ l, 0 < o.at_ ∧ o.at_ = v ∧ o.reg = R
  | [], _, R, hR, v => by
    rw [show begP [] = [] from rfl, cntY_nil]
    simp; omega
  | o :: l, h, R, hR, v => by
    obtain ⟨h1, h2⟩ := List.pairwise_cons.1 h
    have ih := beg_iff h2 hR v
    rw [begP_cons]
    by_cases hat : 0 < o.at_
    · rw [begO_some hat, List.singleton_append, cntY_cons]
      by_cases e : o.at_ = v
      · simp only [e, if_true]
        constructor
        · intro hm
          exact ⟨o, by simp, hat, e, by omega⟩
        · rintro ⟨o', ho', h3, h4, h5⟩
          rcases List.mem_cons.1 ho' with rfl | ho'
          · omega
          · exact absurd (e.trans h4.symm) (h1 o' ho')
      · rw [if_neg e, ih]
        constructor
        · rintro ⟨o', ho', r⟩; exact ⟨o', by simp [ho'], r⟩
        · rintro ⟨o', ho', h3, h4, h5⟩
          rcases List.mem_cons.1 ho' with rfl | ho'
          · exact absurd h4 e
          · exact ⟨o', ho', h3, h4, h5⟩
    · rw [begO_none hat, List.nil_append, ih]
      constructor
      · rintro ⟨o', ho', r⟩; exact ⟨o', by simp [ho'], r⟩
      · rintro ⟨o', ho', h3, h4, h5⟩
        rcases List.mem_cons.1 ho' with rfl | ho'
        · exact absurd h3 hat
        · exact ⟨o', ho', h3, h4, h5⟩
/-- Without a region's objects. -/
def restO (l : List ObP) (r : Int) : List ObP := l.filter fun o => o.reg != r
theorem restO_beg {l : List ObP} (h : ApartO l) {r R : Int} (hR : 0 < R) (hne : R ≠ r) (v : Int) : cntY (begP (restO l r)) v = R ↔ cntY (begP l) v = R := by
  rw [beg_iff h hR, beg_iff (l := restO l r) (h.filter _) hR]
  unfold restO
  constructor
  · rintro ⟨o, ho, r⟩; exact ⟨o, (List.mem_filter.1 ho).1, r⟩
  · rintro ⟨o, ho, h1, h2, h3⟩; exact ⟨o, List.mem_filter.2 ⟨ho, by simp; omega⟩, h1, h2, h3⟩
theorem filter_ptrO {o : ObP} {p : Int → Bool} : (ptrO o).filter (fun x => p x.1) = if p o.reg = true then ptrO o else [] := by
  split
  · rename_i h; exact List.filter_eq_self.2 (fun x hx => by rw [ptrO_reg hx]; exact h)
  · rename_i h; exact List.filter_eq_nil_iff.2 (fun x hx => by rw [ptrO_reg hx]; exact h)
theorem restO_ptr (r : Int) : ∀ l : List ObP, ptrP (restO l r) = (ptrP l).filter fun x => x.1 != r
  | [] => rfl
  | o :: l => by
    have ih := restO_ptr r l
    rw [ptrP_cons, List.filter_append, filter_ptrO (p := fun z => z != r), ← ih]
    unfold restO
    rw [List.filter_cons]
    split
    · rw [ptrP_cons]
    · rfl
/-- What goes is missing. -/
theorem missing_count {l : List ObP} (h : ApartO l) (roots : List Int) {r R : Int} (hR : 0 < R) (hne : R ≠ r) :
    ((comP (restO l r) roots).count R : Int) = ((comP l roots).count R : Int) - ((outP l r).count R : Int) := by
  have hf : forR (begP (restO l r)) R = forR (begP l) R := by
    funext x
    unfold forR
    rw [Bool.eq_iff_iff, decide_eq_true_eq, decide_eq_true_eq, restO_beg h hR hne]
  rw [comP_eq, comP_eq, count_hits _ (by omega), count_hits _ (by omega), hf]
  unfold outP
  rw [count_hits _ (by omega), restO_ptr, List.countP_append, List.countP_append]
  have := List.countP_eq_countP_filter_add (ptrP l) (forR (begP l) R) (fun x => x.1 != r)
  have e : (ptrP l).filter (fun x => !(x.1 != r)) = (ptrP l).filter fun x => decide (x.1 = r) := List.filter_congr (fun x _ => by by_cases h : x.1 = r <;> simp [h])
  rw [e] at this
  omega
theorem restO_out (l : List ObP) (r : Int) : outP (restO l r) r = [] := by
  unfold outP
  rw [restO_ptr, List.filter_filter, show (ptrP l).filter (fun x => decide (x.1 = r) && (x.1 != r)) = [] from List.filter_eq_nil_iff.2 (fun x _ => by simp)]
  rfl
theorem outP_self (l : List ObP) (r : Int) : (outP l r).count r = 0 := by
  rw [List.count_eq_zero]
  unfold outP
  intro hm
  obtain ⟨x, hx, hm⟩ := List.mem_flatMap.1 hm
  have h1 := (List.mem_filter.1 hx).2
  unfold hitP countE at hm
  split at hm
  · rename_i hc
    have hm := List.mem_singleton.1 hm
    simp only [cntB, decide_eq_true_eq] at hc h1
    exact hc.2.2 (by rw [← hm, h1])
  · cases hm

/-- With other words in scalars. -/
def othV (ks : List Int) (by_ : Int) (i : Nat) (v : Int) : Int := if ks.length ≤ i ∨ ks[i]?.getD 0 = 0 then IntKind.u64.wrap (v + by_) else v
def othL (ks vs : List Int) (by_ : Int) : List Int := vs.mapIdx fun i v => othV ks by_ i v
def othO (by_ : Int) (o : ObP) : ObP := ⟨o.at_, o.reg, o.ks, othL o.ks o.vs by_⟩
theorem othL_length (ks vs : List Int) (by_ : Int) : (othL ks vs by_).length = vs.length := by simp [othL]
theorem zip_oth (by_ : Int) : ∀ (ks vs : List Int) (n : Nat) (f : Nat → Int → Int), (∀ i v, i < ks.length → pointerB (ks[i]?.getD 0) = true → f (n + i) v = v) →
    ((ks.zip (vs.mapIdx fun i v => f (n + i) v)).filter fun x => pointerB x.1) = ((ks.zip vs).filter fun x => pointerB x.1)
  | [], vs, n, f, _ => by simp
  | k :: ks, [], n, f, _ => by simp
  | k :: ks, v :: vs, n, f, h => by
    rw [List.mapIdx_cons, List.zip_cons_cons, List.zip_cons_cons, List.filter_cons, List.filter_cons]
    have ih := zip_oth by_ ks vs (n + 1) f (fun i v hi hp => by
      have := h (i + 1) v (by simp; omega) (by simpa using hp)
      rwa [show n + (i + 1) = n + 1 + i by omega] at this)
    have e : (vs.mapIdx fun i v => f (n + (i + 1)) v) = vs.mapIdx fun i v => f (n + 1 + i) v := by
      congr 1; funext i v; rw [show n + (i + 1) = n + 1 + i by omega]
    rw [e, ih]
    by_cases hp : pointerB k = true
    · have := h 0 v (by simp) (by simpa using hp)
      rw [if_pos hp, if_pos hp, this]
    · rw [if_neg hp, if_neg hp]
theorem othO_ptr (by_ : Int) (o : ObP) : ptrO (othO by_ o) = ptrO o := by
  unfold ptrO othO othL
  simp only
  have := zip_oth by_ o.ks o.vs 0 (othV o.ks by_) (fun i v hi hp => by
    unfold othV
    rw [if_neg]
    rintro (h | h)
    · omega
    · rw [Nat.zero_add] at h; rw [h] at hp; simp [pointerB] at hp)
  simp only [Nat.zero_add] at this
  rw [this]
theorem oth_beg (by_ : Int) (l : List ObP) : begP (l.map (othO by_)) = begP l := by
  unfold begP
  rw [List.flatMap_map]
  rfl
theorem oth_ptr (by_ : Int) (l : List ObP) : ptrP (l.map (othO by_)) = ptrP l := by
  unfold ptrP
  rw [List.flatMap_map]
  congr 1; funext o; exact othO_ptr by_ o
theorem oth_out (by_ : Int) (l : List ObP) (r : Int) : outP (l.map (othO by_)) r = outP l r := by unfold outP; rw [oth_beg, oth_ptr]
theorem oth_com (by_ : Int) (l : List ObP) (roots : List Int) : comP (l.map (othO by_)) roots = comP l roots := by unfold comP; rw [oth_beg, oth_ptr]
end Go.Proofs.YtionleocbjfgaaaDoor

/- Trees, as plain lists: intervals. -/
import Derived.Test.YtnhdikoigpmnkaaDoorTreePlain
namespace Go.Proofs.YtnhdikoigpmnkaaDoor

/-- One step of the search for z's interval: where it begins, how many are in, who is. -/
def ivStep (rs : List Rw) (z : Int) (st : Nat × Nat × (Int → Bool)) (x : Int) : Nat × Nat × (Int → Bool) :=
  if x = z ∨ st.2.2 (parB rs x) = true then (st.1, st.2.1 + 1, fun y => if y = x then true else st.2.2 y) else if st.2.1 = 0 then (st.1 + 1, st.2.1, st.2.2) else st
def ivB (rs : List Rw) (z : Int) (l : List Int) : Nat × Nat × (Int → Bool) := l.foldl (ivStep rs z) (0, 0, fun _ => false)
theorem ivB_snoc (rs : List Rw) (z : Int) (l : List Int) (x : Int) : ivB rs z (l ++ [x]) = ivStep rs z (ivB rs z l) x := by simp [ivB]
theorem ivStep_in {rs : List Rw} {z : Int} {st : Nat × Nat × (Int → Bool)} {x : Int} (h : x = z ∨ st.2.2 (parB rs x) = true) : ivStep rs z st x = (st.1, st.2.1 + 1, fun y => if y = x then true else st.2.2 y) := by
  unfold ivStep; rw [if_pos h]
theorem ivStep_ahead {rs : List Rw} {z : Int} {st : Nat × Nat × (Int → Bool)} {x : Int} (h : ¬ (x = z ∨ st.2.2 (parB rs x) = true)) (h0 : st.2.1 = 0) : ivStep rs z st x = (st.1 + 1, st.2.1, st.2.2) := by
  unfold ivStep; rw [if_neg h, if_pos h0]
theorem ivStep_behind {rs : List Rw} {z : Int} {st : Nat × Nat × (Int → Bool)} {x : Int} (h : ¬ (x = z ∨ st.2.2 (parB rs x) = true)) (h0 : st.2.1 ≠ 0) : ivStep rs z st x = st := by
  unfold ivStep; rw [if_neg h, if_neg h0]
theorem ivB_le (rs : List Rw) (z : Int) (l : List Int) : (ivB rs z l).1 + (ivB rs z l).2.1 ≤ l.length := by
  unfold ivB
  suffices ∀ (l : List Int) st, (l.foldl (ivStep rs z) st).1 + (l.foldl (ivStep rs z) st).2.1 ≤ st.1 + st.2.1 + l.length by simpa using this l (0, 0, fun _ => false)
  intro l
  induction l with
  | nil => intro st; simp
  | cons x r ih =>
    intro st
    rw [List.foldl_cons]
    have h1 := ih (ivStep rs z st x)
    have h2 : (ivStep rs z st x).1 + (ivStep rs z st x).2.1 ≤ st.1 + st.2.1 + 1 := by unfold ivStep; split <;> (try split) <;> simp <;> omega
    simp only [List.length_cons]; omega

section
variable {k : Nat} {rs : List Rw}
/-- A parent comes ahead. -/
theorem Fine.ahead (hf : Fine k rs) (hk : k < 1000) (z : Int) : ∀ q x t, walkB rs z = q ++ x :: t → parB rs x = z ∨ parB rs x ∈ q := by
  refine hf.ind (P := fun z => ∀ q x t, walkB rs z = q ++ x :: t → parB rs x = z ∨ parB rs x ∈ q) (fun z ih => ?_) z
  rw [hf.walk hk z]
  suffices ∀ (ks : List Int), (∀ y ∈ ks, y ∈ kidsB rs z) → ∀ q x t, ks.flatMap (fun x => x :: walkB rs x) = q ++ x :: t → parB rs x = z ∨ parB rs x ∈ q from this _ (fun _ h => h)
  intro ks
  induction ks with
  | nil => intro _ q x t h; simp at h
  | cons y ks ihk =>
    intro hks q x t h
    rw [List.flatMap_cons] at h
    have hy := hks y (by simp)
    rcases List.append_eq_append_iff.1 h with ⟨bs, hb1, hb2⟩ | ⟨as', ha1, ha2⟩
    · rcases ihk (fun v hv => hks v (by simp [hv])) bs x t hb2 with e | e
      · exact .inl e
      · exact .inr (by rw [hb1]; exact List.mem_append_right _ e)
    · cases as' with
      | nil =>
        simp only [List.nil_append] at ha2
        rcases ihk (fun v hv => hks v (by simp [hv])) [] x t (by simpa using ha2.symm) with e | e
        · exact .inl e
        · cases e
      | cons v as' =>
        simp only [List.cons_append, List.cons.injEq] at ha2
        obtain ⟨rfl, ha2⟩ := ha2
        cases q with
        | nil =>
          simp only [List.nil_append, List.cons.injEq] at ha1
          rw [← ha1.1]
          exact .inl ((kids_iff hf).1 hy).2
        | cons w q =>
          simp only [List.cons_append, List.cons.injEq] at ha1
          obtain ⟨rfl, ha1⟩ := ha1
          rcases ih y hy q x as' ha1 with e | e
          · exact .inr (by rw [e]; simp)
          · exact .inr (by simp [e])

theorem iv_A {rs : List Rw} {z : Int} : ∀ (l : List Int) (m : Nat), (∀ x ∈ l, x ≠ z) → l.foldl (ivStep rs z) (m, 0, fun _ => false) = (m + l.length, 0, fun _ => false)
  | [], _, _ => rfl
  | x :: r, m, h => by
    rw [List.foldl_cons, ivStep_ahead (by simp [h x (by simp)]) rfl, iv_A r (m + 1) (fun y hy => h y (by simp [hy]))]
    simp; omega
theorem iv_C {rs : List Rw} {z : Int} {a n : Nat} {f : Int → Bool} (hn : n ≠ 0) : ∀ (l : List Int), (∀ x ∈ l, ¬ (x = z ∨ f (parB rs x) = true)) → l.foldl (ivStep rs z) (a, n, f) = (a, n, f)
  | [], _ => rfl
  | x :: r, h => by
    rw [List.foldl_cons, ivStep_behind (h x (by simp)) hn]
    exact iv_C hn r (fun y hy => h y (by simp [hy]))
theorem Fine.iv_S (hf : Fine k rs) (hk : k < 1000) (z : Int) (a : Nat) : ∀ i, i ≤ (subT rs z).length → ((subT rs z).take i).foldl (ivStep rs z) (a, 0, fun _ => false) = (a, i, fun y => decide (y ∈ (subT rs z).take i))
  | 0, _ => by simp
  | i + 1, h => by
    have hi : i < (subT rs z).length := by omega
    rw [List.take_succ_eq_append_getElem hi, List.foldl_append, Fine.iv_S hf hk z a i (by omega)]
    simp only [List.foldl_cons, List.foldl_nil]
    have hin : (subT rs z)[i] = z ∨ decide (parB rs (subT rs z)[i] ∈ (subT rs z).take i) = true := by
      cases i with
      | zero => exact .inl rfl
      | succ i =>
        have hw : i < (walkB rs z).length := by simp [subT] at hi; omega
        have e : walkB rs z = (walkB rs z).take i ++ (walkB rs z)[i] :: (walkB rs z).drop (i + 1) := by
          rw [List.getElem_cons_drop, List.take_append_drop]
        have he : (subT rs z)[i + 1] = (walkB rs z)[i] := by simp [subT]
        have ht : (subT rs z).take (i + 1) = z :: (walkB rs z).take i := rfl
        rw [he, ht, decide_eq_true_eq]
        rcases hf.ahead hk z _ _ _ e with h | h
        · exact .inr (by rw [h]; simp)
        · exact .inr (by simp [h])
    rw [ivStep_in hin]
    simp only [Prod.mk.injEq, true_and]
    funext y
    by_cases hy : y = (subT rs z)[i]
    · rw [if_pos hy, hy]; exact (decide_eq_true (List.mem_append_right _ (by simp))).symm
    · rw [if_neg hy, decide_eq_decide, List.mem_append, List.mem_singleton]; simp only [hy, or_false]

/-- Where z's interval begins. -/
def fromB (rs : List Rw) (z : Int) : Nat := (walkB rs 0).idxOf z
/-- How many it has. -/
def manyB (rs : List Rw) (z : Int) : Nat := (subT rs z).length
theorem Fine.split (hf : Fine k rs) (hk : k < 1000) {z : Int} (hz : z ∈ idsT rs) :
    ∃ A C, walkB rs 0 = A ++ subT rs z ++ C ∧ A.length = fromB rs z ∧ (∀ x ∈ A, x ≠ z) ∧ (∀ x ∈ C, x ∉ subT rs z ∧ parB rs x ∉ subT rs z) := by
  obtain ⟨A, C, e⟩ := hf.stands hk ((hf.walk_all hk).2 hz)
  have hnd := hf.nodup hk 0
  rw [e, List.append_assoc] at hnd
  have h1 := (List.nodup_append.1 hnd).2.2
  have h2 := (List.nodup_append.1 (List.nodup_append.1 hnd).2.1).2.2
  have hA : ∀ x ∈ A, x ≠ z := fun x hx => h1 x hx z (by simp [subT])
  refine ⟨A, C, e, ?_, hA, fun x hx => ?_⟩
  · unfold fromB
    rw [e, List.append_assoc, List.idxOf_append, if_neg (fun h => hA z h rfl)]
    simp [subT]
  · have hn : x ∉ subT rs z := fun h => h2 x h x hx rfl
    refine ⟨hn, fun h => hn ?_⟩
    have hxi : x ∈ idsT rs := hf.walk_ids hk (z := 0) (by rw [e]; simp [hx])
    exact (hf.sub_iff hk hxi).2 (.inr h)
theorem manyB_pos (rs : List Rw) (z : Int) : manyB rs z ≠ 0 := by simp [manyB, subT]
/-- The whole walk, or its beginning up to one behind the interval: the interval. -/
theorem Fine.iv_all (hf : Fine k rs) (hk : k < 1000) {z : Int} (hz : z ∈ idsT rs) : (ivB rs z (walkB rs 0)).1 = fromB rs z ∧ (ivB rs z (walkB rs 0)).2.1 = manyB rs z := by
  obtain ⟨A, C, e, hl, hA, hC⟩ := hf.split hk hz
  unfold ivB
  rw [e, List.foldl_append, List.foldl_append, iv_A A 0 hA]
  have := hf.iv_S hk z (0 + A.length) (subT rs z).length (Nat.le_refl _)
  rw [List.take_length] at this
  rw [this, iv_C (show (subT rs z).length ≠ 0 from manyB_pos rs z) C (fun x hx => ?_)]
  · simp [hl, manyB]
  · have := hC x hx
    simp only [decide_eq_true_eq, this.2, or_false]
    intro ez
    exact this.1 (by rw [ez]; simp [subT])
theorem Fine.iv_stop (hf : Fine k rs) (hk : k < 1000) {z : Int} (hz : z ∈ idsT rs) {l t : List Int} {x : Int} (h : l ++ x :: t = walkB rs 0) (h1 : ¬ (x = z ∨ (ivB rs z l).2.2 (parB rs x) = true)) (h2 : (ivB rs z l).2.1 ≠ 0) :
    (ivB rs z l).1 = fromB rs z ∧ (ivB rs z l).2.1 = manyB rs z := by
  obtain ⟨A, C, e, hl, hA, hC⟩ := hf.split hk hz
  rw [e, List.append_assoc] at h
  rcases List.append_eq_append_iff.1 h with ⟨bs, hb1, hb2⟩ | ⟨as', ha1, ha2⟩
  · -- l is within A
    exfalso
    apply h2
    unfold ivB
    rw [iv_A l 0 (fun y hy => hA y (by rw [hb1]; simp [hy]))]
  · rcases List.append_eq_append_iff.1 ha2.symm with ⟨cs, hc1, hc2⟩ | ⟨ds, hd1, hd2⟩
    · -- l ends within the interval, or at its end
      have hS := hf.iv_S hk z (0 + A.length) as'.length (by rw [hc1]; simp)
      have ht : (subT rs z).take as'.length = as' := by rw [hc1]; simp
      rw [ht] at hS
      have hiv : ivB rs z l = (0 + A.length, as'.length, fun y => decide (y ∈ as')) := by
        unfold ivB
        rw [ha1, List.foldl_append, iv_A A 0 hA, hS]
      cases cs with
      | nil =>
        rw [hiv]
        simp only [List.append_nil] at hc1
        simp [hl, manyB, hc1]
      | cons v cs =>
        exfalso
        simp only [List.cons_append, List.cons.injEq] at hc2
        obtain ⟨rfl, _⟩ := hc2
        apply h1
        rw [hiv]
        simp only [decide_eq_true_eq]
        cases as' with
        | nil =>
          simp only [List.nil_append, subT, List.cons.injEq] at hc1
          exact .inl hc1.1.symm
        | cons u as' =>
          simp only [subT, List.cons_append, List.cons.injEq] at hc1
          obtain ⟨rfl, hc1⟩ := hc1
          rcases hf.ahead hk z _ _ _ hc1 with e1 | e1
          · exact .inr (by rw [e1]; simp)
          · exact .inr (by simp [e1])
    · have hS := hf.iv_S hk z (0 + A.length) (subT rs z).length (Nat.le_refl _)
      rw [List.take_length] at hS
      have hiv : ivB rs z l = (0 + A.length, (subT rs z).length, fun y => decide (y ∈ subT rs z)) := by
        unfold ivB
        rw [ha1, hd1, List.foldl_append, List.foldl_append, iv_A A 0 hA, hS, iv_C (show (subT rs z).length ≠ 0 from manyB_pos rs z) ds (fun y hy => ?_)]
        have := hC y (by rw [hd2]; simp [hy])
        simp only [decide_eq_true_eq, this.2, or_false]
        intro ez
        exact this.1 (by rw [ez]; simp [subT])
      rw [hiv]
      simp [hl, manyB]
end
end Go.Proofs.YtnhdikoigpmnkaaDoor

/- Trees, as plain lists: what putting in and taking out leaves; intervals held against each other. -/
import Derived.Test.YtnhdikoigpmnkaaDoorTreePlain2
import Derived.Test.YtnhdikoigpmnkaaDoorTreeRem
import Derived.Test.YtnhdikoigpmnkaaDoorTreeIn
namespace Go.Proofs.YtnhdikoigpmnkaaDoor

theorem Fine.nil : Fine 0 [] := ⟨List.Pairwise.nil, by simp, Nat.le_refl _, by simp, fun _ => 0, rfl, by simp⟩
section
variable {k : Nat} {rs : List Rw}
theorem Fine.mono (h : Fine k rs) {m : Nat} (hm : k ≤ m) : Fine m rs := by
  obtain ⟨d, h0, hd⟩ := h.rank
  exact ⟨h.rise, h.pos, Nat.le_trans h.len hm, h.up, d, h0, fun r hr => ⟨(hd r hr).1, Nat.le_trans (hd r hr).2 hm⟩⟩
theorem ids_insB {rs : List Rw} {x : Rw} {y : Int} : y ∈ idsT (insB rs x) ↔ y = x.1 ∨ y ∈ idsT rs := by
  simp only [mem_ids]
  constructor
  · rintro ⟨p, hp⟩
    rcases mem_insB.1 hp with e | e
    · exact .inl (by rw [← e])
    · exact .inr ⟨p, e⟩
  · rintro (rfl | ⟨p, hp⟩)
    · exact ⟨x.2, mem_insB.2 (.inl rfl)⟩
    · exact ⟨p, mem_insB.2 (.inr hp)⟩
theorem insB_rise {rs : List Rw} (hr : rs.Pairwise (fun a b => a.1 < b.1)) {x : Rw} (hx : x.1 ∉ idsT rs) : (insB rs x).Pairwise (fun a b => a.1 < b.1) := by
  induction rs with
  | nil => simp [insB]
  | cons r rs ih =>
    obtain ⟨h1, h2⟩ := List.pairwise_cons.1 hr
    have hx1 : x.1 ≠ r.1 := fun e => hx (by simp [idsT, e])
    have hx2 : x.1 ∉ idsT rs := fun h => hx (by simp only [idsT, List.map_cons, List.mem_cons] at *; exact .inr h)
    by_cases h : r.1 < x.1
    · have e : insB (r :: rs) x = r :: insB rs x := by simp [insB, h]
      rw [e]
      refine List.pairwise_cons.2 ⟨fun y hy => ?_, ih h2 hx2⟩
      rcases mem_insB.1 hy with e | e
      · rw [e]; exact h
      · exact h1 y e
    · have e : insB (r :: rs) x = x :: r :: rs := by simp [insB, h]
      rw [e]
      refine List.pairwise_cons.2 ⟨fun y hy => ?_, hr⟩
      rcases List.mem_cons.1 hy with e | e
      · rw [e]; omega
      · have := h1 y e; omega
theorem Fine.add (hf : Fine k rs) {z p : Int} (h1 : ¬ (z < 1 ∨ z ∈ idsT rs)) (h2 : ¬ (p ≠ 0 ∧ p ∉ idsT rs)) : Fine (k + 1) (insB rs (z, p)) := by
  have hz1 : 1 ≤ z := by have := fun h => h1 (.inl h); omega
  have hzi : z ∉ idsT rs := fun h => h1 (.inr h)
  have hp : p = 0 ∨ p ∈ idsT rs := by by_cases e : p = 0; exact .inl e; exact .inr (Classical.not_not.1 (fun h => h2 ⟨e, h⟩))
  have hpz : p ≠ z := by rintro rfl; rcases hp with e | e; omega; exact hzi e
  obtain ⟨d, h0, hd⟩ := hf.rank
  refine ⟨insB_rise hf.rise hzi, fun r hr => ?_, by rw [insB_length]; have := hf.len; omega, fun r hr => ?_, fun x => if x = z then d p + 1 else d x, ?_, fun r hr => ?_⟩
  · rcases mem_insB.1 hr with rfl | hr
    · exact hz1
    · exact hf.pos r hr
  · rcases mem_insB.1 hr with rfl | hr
    · exact hp.imp id (fun h => ids_insB.2 (.inr h))
    · exact (hf.up r hr).imp id (fun h => ids_insB.2 (.inr h))
  · show (if (0 : Int) = z then d p + 1 else d 0) = 0
    rw [if_neg (by omega)]; exact h0
  · rcases mem_insB.1 hr with rfl | hr
    · simp only [if_neg hpz, if_true]
      refine ⟨by omega, ?_⟩
      rcases hp with e | e
      · rw [e, h0]; omega
      · have := (hd _ (mem_par hf e)).2; simp only at this; omega
    · have h3 : r.1 ≠ z := fun e => hzi (e ▸ List.mem_map_of_mem hr)
      have h4 : r.2 ≠ z := fun e => by
        rcases hf.up r hr with e' | e'
        · omega
        · exact hzi (e ▸ e')
      have := hd r hr
      simp only [if_neg h3, if_neg h4]
      omega
theorem ids_delB {rs : List Rw} {z y : Int} : y ∈ idsT (delB rs z) ↔ y ∈ idsT rs ∧ y ≠ z := by
  simp only [mem_ids, delB, List.mem_filter]
  constructor
  · rintro ⟨p, h1, h2⟩; exact ⟨⟨p, h1⟩, by simpa using h2⟩
  · rintro ⟨⟨p, h1⟩, h2⟩; exact ⟨p, h1, by simpa using h2⟩
theorem Fine.del (hf : Fine k rs) {z : Int} (h2 : kidsB rs z = []) : Fine k (delB rs z) := by
  obtain ⟨d, h0, hd⟩ := hf.rank
  have hm : ∀ r ∈ delB rs z, r ∈ rs := fun r hr => (List.mem_filter.1 hr).1
  refine ⟨hf.rise.filter _, fun r hr => hf.pos r (hm r hr), Nat.le_trans (List.length_filter_le _ _) hf.len, fun r hr => ?_, d, h0, fun r hr => hd r (hm r hr)⟩
  refine (hf.up r (hm r hr)).imp id (fun h => ids_delB.2 ⟨h, fun e => ?_⟩)
  have : r.1 ∈ kidsB rs z := mem_kids.2 (by rw [← e]; exact hm r hr)
  rw [h2] at this; cases this
theorem Fine.addB (hf : Fine k rs) (z p : Int) : Fine (k + 1) (addB rs z p).1 := by
  by_cases h1 : z < 1 ∨ z ∈ idsT rs
  · rw [addB_arg h1]; exact hf.mono (Nat.le_succ _)
  · by_cases h2 : p ≠ 0 ∧ p ∉ idsT rs
    · rw [addB_none h1 h2]; exact hf.mono (Nat.le_succ _)
    · rw [addB_ok h1 h2]; exact hf.add h1 h2
theorem Fine.remB (hf : Fine k rs) (z : Int) : Fine (k + 1) (remB rs z).1 := by
  by_cases h1 : z ∈ idsT rs
  · by_cases h2 : kidsB rs z = []
    · rw [remB_ok h1 h2]; exact (hf.del h2).mono (Nat.le_succ _)
    · rw [remB_busy h1 h2]; exact hf.mono (Nat.le_succ _)
  · rw [remB_none h1]; exact hf.mono (Nat.le_succ _)

/-- The one that stands at i in the walk: its interval begins there. -/
theorem Fine.from_at (hf : Fine k rs) (hk : k < 1000) {i : Nat} (hi : i < (walkB rs 0).length) : fromB rs (walkB rs 0)[i] = i := by
  unfold fromB
  exact (hf.nodup hk 0).idxOf_getElem i hi
theorem Fine.many_le (hf : Fine k rs) (hk : k < 1000) {z : Int} (hz : z ∈ idsT rs) : fromB rs z + manyB rs z ≤ (walkB rs 0).length ∧ ∀ i, fromB rs z ≤ i → (hi : i < fromB rs z + manyB rs z) → ∃ h : i < (walkB rs 0).length, (walkB rs 0)[i] ∈ subT rs z := by
  obtain ⟨A, C, e, hl, _, _⟩ := hf.split hk hz
  have hlen : (walkB rs 0).length = A.length + (subT rs z).length + C.length := by rw [e]; simp; omega
  refine ⟨by unfold manyB; omega, fun i h1 h2 => ?_⟩
  have hi : i < (walkB rs 0).length := by unfold manyB at h2; omega
  refine ⟨hi, ?_⟩
  have : (walkB rs 0)[i]? = (subT rs z)[i - A.length]? := by
    rw [e, List.append_assoc, List.getElem?_append_right (by omega), List.getElem?_append_left (by unfold manyB at h2; omega)]
  rw [List.getElem?_eq_getElem hi] at this
  exact List.mem_of_getElem? this.symm
/-- One is within another just if its interval is. -/
theorem Fine.in_iff (hf : Fine k rs) (hk : k < 1000) {a b : Int} (hb : b ∈ idsT rs) : a ∈ subT rs b ↔ (fromB rs b ≤ fromB rs a ∧ fromB rs a + manyB rs a ≤ fromB rs b + manyB rs b) := by
  have hpa := manyB_pos rs a
  constructor
  · intro h
    obtain ⟨A, C, e, hl, hA, _⟩ := hf.split hk hb
    -- where a stands within b's
    have hsub : ∃ P Q, subT rs b = P ++ subT rs a ++ Q := by
      rcases List.mem_cons.1 h with e | e
      · exact ⟨[], [], by rw [e]; simp⟩
      · obtain ⟨P, Q, e'⟩ := hf.stands hk e
        exact ⟨b :: P, Q, by rw [subT, e']; simp⟩
    obtain ⟨P, Q, e2⟩ := hsub
    have hnd := hf.nodup hk 0
    have hfa : fromB rs a = A.length + P.length := by
      unfold fromB
      rw [e, e2] at hnd ⊢
      have e3 : A ++ (P ++ subT rs a ++ Q) ++ C = (A ++ P) ++ (subT rs a ++ (Q ++ C)) := by simp
      rw [e3] at hnd ⊢
      have := (List.nodup_append.1 hnd).2.2
      rw [List.idxOf_append, if_neg (fun h => this a h a (by simp [subT]) rfl)]
      simp [subT]
    have hm : manyB rs b = P.length + manyB rs a + Q.length := by unfold manyB; rw [e2]; simp; omega
    omega
  · rintro ⟨h1, h2⟩
    obtain ⟨hi, hm⟩ := (hf.many_le hk hb).2 (fromB rs a) h1 (by omega)
    have : (walkB rs 0)[fromB rs a] = a := by
      unfold fromB
      exact List.getElem_idxOf _
    rwa [this] at hm
/-- Intervals that overlap lie one within the other. -/
theorem Fine.overlap (hf : Fine k rs) (hk : k < 1000) {a b : Int} (ha : a ∈ idsT rs) (hb : b ∈ idsT rs) (h1 : ¬ (fromB rs b + manyB rs b ≤ fromB rs a)) (h2 : ¬ (fromB rs a + manyB rs a ≤ fromB rs b)) : a ∈ subT rs b ∨ b ∈ subT rs a := by
  have hpa := manyB_pos rs a
  have hpb := manyB_pos rs b
  by_cases h : fromB rs a ≤ fromB rs b
  · obtain ⟨hi, hm⟩ := (hf.many_le hk ha).2 (fromB rs b) h (by omega)
    have : (walkB rs 0)[fromB rs b] = b := by unfold fromB; exact List.getElem_idxOf _
    rw [this] at hm
    exact .inr hm
  · obtain ⟨hi, hm⟩ := (hf.many_le hk hb).2 (fromB rs a) (by omega) (by omega)
    have : (walkB rs 0)[fromB rs a] = a := by unfold fromB; exact List.getElem_idxOf _
    rw [this] at hm
    exact .inl hm

/-- Behind one that was put in. -/
theorem kids_leaf (hf : Fine k rs) {z p : Int} (h1 : ¬ (z < 1 ∨ z ∈ idsT rs)) (h2 : ¬ (p ≠ 0 ∧ p ∉ idsT rs)) : kidsB (insB rs (z, p)) z = [] := by
  have hzi : z ∉ idsT rs := fun h => h1 (.inr h)
  have hz1 : ¬ z < 1 := fun h => h1 (.inl h)
  refine List.eq_nil_iff_forall_not_mem.2 (fun x hx => ?_)
  rcases mem_insB.1 (mem_kids.1 hx) with e | e
  · simp only [Prod.mk.injEq] at e
    obtain ⟨rfl, rfl⟩ := e
    exact h2 ⟨by omega, hzi⟩
  · rcases hf.up _ e with e' | e'
    · simp only at e'; omega
    · exact hzi e'
theorem del_insB {rs : List Rw} {x : Rw} (hx : x.1 ∉ idsT rs) : delB (insB rs x) x.1 = rs := by
  have hall : ∀ r ∈ rs, (!decide (r.1 = x.1)) = true := fun r hr => by
    have : r.1 ≠ x.1 := fun e => hx (e ▸ List.mem_map_of_mem hr)
    simpa using this
  unfold delB insB
  rw [List.filter_append, List.filter_cons_of_neg (by simp), List.filter_eq_self.2 (fun r hr => hall r (List.takeWhile_subset _ hr)), List.filter_eq_self.2 (fun r hr => hall r (List.dropWhile_subset _ hr)), List.takeWhile_append_dropWhile]
theorem Fine.leaf_in (hf : Fine k rs) (hk : k + 1 < 1000) {z p : Int} (h1 : ¬ (z < 1 ∨ z ∈ idsT rs)) (h2 : ¬ (p ≠ 0 ∧ p ∉ idsT rs)) {o : Int} (ho : o ∈ idsT rs) :
    inB (insB rs (z, p)) z o = inB (insB rs (z, p)) p o ∧ inB (insB rs (z, p)) o z = false := by
  have hf' := hf.add h1 h2
  have hzi : z ∉ idsT rs := fun h => h1 (.inr h)
  have hz' : z ∈ idsT (insB rs (z, p)) := ids_insB.2 (.inl rfl)
  have ho' : o ∈ idsT (insB rs (z, p)) := ids_insB.2 (.inr ho)
  have hoz : o ≠ z := fun e => hzi (e ▸ ho)
  have hpar : parB (insB rs (z, p)) z = p := par_of_mem hf'.rise (mem_insB.2 (.inl rfl))
  constructor
  · unfold inB
    rw [decide_eq_decide]
    have e1 : z ∈ subT (insB rs (z, p)) o ↔ p ∈ subT (insB rs (z, p)) o := by
      rw [hf'.sub_iff hk hz', hpar]
      constructor
      · rintro (e | e)
        · exact absurd e.symm hoz
        · exact e
      · exact .inr
    rw [e1]
    constructor
    · rintro ⟨_, h2', h3⟩
      refine ⟨?_, h2', h3⟩
      rcases List.mem_cons.1 h3 with e | e
      · rw [← e] at h2'; exact h2'
      · exact hf'.walk_ids hk e
    · rintro ⟨_, h2', h3⟩
      exact ⟨hz', h2', h3⟩
  · unfold inB
    refine decide_eq_false (fun h => ?_)
    rcases List.mem_cons.1 h.2.2 with e | e
    · exact hoz e
    · rw [hf'.walk hk z, kids_leaf hf h1 h2] at e
      cases e
end
end Go.Proofs.YtnhdikoigpmnkaaDoor

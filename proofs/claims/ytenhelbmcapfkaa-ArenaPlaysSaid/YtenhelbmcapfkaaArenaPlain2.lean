/- Some arenas of the same pages, as plain things: each page that is granted stands in just one run of one arena. -/
import Derived.Test.YtenhelbmcapfkaaArenaRelease
import Derived.Test.YtenhelbmcapfkaaPagesPlain2
import Derived.Test.YtenhelbmcapfkaaBitsPlain2
namespace Go.Proofs.Ytenhelbmcapfkaa
open Go.RowKit

/-- In how many of the runs a page stands. -/
def covR : List RunN → Nat → Nat
  | [], _ => 0
  | r :: rs, k => (if r.1 ≤ k ∧ k < r.1 + r.2 then 1 else 0) + covR rs k
theorem covR_append (a b : List RunN) (k : Nat) : covR (a ++ b) k = covR a k + covR b k := by
  induction a with
  | nil => simp [covR]
  | cons r a ih => simp only [List.cons_append, covR, ih]; omega
theorem covR_one (r : RunN) (k : Nat) : covR [r] k = if r.1 ≤ k ∧ k < r.1 + r.2 then 1 else 0 := by simp [covR]
theorem covR_mem {rs : List RunN} {r : RunN} (h : r ∈ rs) {k : Nat} (h1 : r.1 ≤ k) (h2 : k < r.1 + r.2) : 1 ≤ covR rs k := by
  induction rs with
  | nil => cases h
  | cons x rs ih =>
    simp only [covR]
    rcases List.mem_cons.1 h with rfl | h
    · rw [if_pos ⟨h1, h2⟩]; omega
    · have := ih h; omega
theorem covR_has {rs : List RunN} {k : Nat} (h : 1 ≤ covR rs k) : ∃ r ∈ rs, r.1 ≤ k ∧ k < r.1 + r.2 := by
  induction rs with
  | nil => simp [covR] at h
  | cons x rs ih =>
    simp only [covR] at h
    by_cases hx : x.1 ≤ k ∧ k < x.1 + x.2
    · exact ⟨x, by simp, hx⟩
    · rw [if_neg hx] at h
      obtain ⟨r, hr, h'⟩ := ih (by omega)
      exact ⟨r, by simp [hr], h'⟩

/-- Over all arenas. -/
def covA : List ArN → Nat → Nat
  | [], _ => 0
  | a :: al, k => covR a.rs k + covA al k
theorem covA_get {al : List ArN} {i : Nat} {a : ArN} (h : al[i]? = some a) (k : Nat) : covR a.rs k ≤ covA al k := by
  induction al generalizing i with
  | nil => simp at h
  | cons x al ih =>
    cases i with
    | zero => simp at h; subst h; simp [covA]
    | succ i => have := ih (by simpa using h); simp only [covA]; omega
theorem covA_get2 {al : List ArN} {i j : Nat} {a b : ArN} (hi : al[i]? = some a) (hj : al[j]? = some b) (hne : i ≠ j) (k : Nat) : covR a.rs k + covR b.rs k ≤ covA al k := by
  induction al generalizing i j with
  | nil => simp at hi
  | cons x al ih =>
    cases i with
    | zero =>
      cases j with
      | zero => exact absurd rfl hne
      | succ j => simp at hi; subst hi; have := covA_get (al := al) (by simpa using hj) k; simp only [covA]; omega
    | succ i =>
      cases j with
      | zero => simp at hj; subst hj; have := covA_get (al := al) (by simpa using hi) k; simp only [covA]; omega
      | succ j => have := ih (by simpa using hi) (by simpa using hj) (by omega); simp only [covA]; omega
theorem covA_set {al : List ArN} {i : Nat} {a a' : ArN} (h : al[i]? = some a) (k : Nat) : covA (al.set i a') k + covR a.rs k = covA al k + covR a'.rs k := by
  induction al generalizing i with
  | nil => simp at h
  | cons x al ih =>
    cases i with
    | zero => simp at h; subst h; simp [covA]; omega
    | succ i => have := ih (by simpa using h); simp only [List.set_cons_succ, covA]; omega

/-- What is so at all times. -/
structure Good (xs : List Bool) (al : List ArN) : Prop where
  intro ::
  le : xs.length ≤ 1024
  ok : ∀ (i : Nat) (a : ArN), al[i]? = some a → a.x.ok
  fit : ∀ (i : Nat) (a : ArN), al[i]? = some a → ∀ r ∈ a.rs, 1 ≤ r.2 ∧ r.1 + r.2 ≤ xs.length
  cov : ∀ k, k < xs.length → covA al k = if mk xs k then 1 else 0
theorem Good.small {xs : List Bool} {al : List ArN} (h : Good xs al) {i : Nat} {a : ArN} (hi : al[i]? = some a) : ∀ r ∈ a.rs, r.1 ≤ 1024 ∧ r.2 ≤ 1024 := fun r hr => by
  have := h.fit i a hi r hr
  have := h.le
  omega

theorem set_get {al : List ArN} {i j : Nat} {a' e : ArN} (h : (al.set i a')[j]? = some e) : (j = i ∧ e = a') ∨ al[j]? = some e := by
  by_cases hj : j = i
  · subst hj
    rw [List.getElem?_set_self'] at h
    cases hd : al[j]? with
    | none => simp [hd] at h
    | some x => rw [hd] at h; simp at h; exact .inl ⟨rfl, h.symm⟩
  · rw [List.getElem?_set_ne (Ne.symm hj)] at h
    exact .inr h
theorem findB_free {xs : List Bool} {N A : Nat} (hN : 1 ≤ N) (h : findB xs N = some A) : A + N ≤ xs.length ∧ ∀ k, A ≤ k → k < A + N → mk xs k = false := by
  obtain ⟨⟨_, _, b⟩, hv⟩ := (wholeB_iff _ _ _ _).1 ((findB_some (by omega)).1 h).2.1
  refine ⟨by omega, fun k h1 h2 => ?_⟩
  have := hv (k - A) (by omega)
  rwa [show ((A : Nat) : Int).toNat + (k - A) = k by omega] at this
theorem set_same {al : List ArN} {i : Nat} {a : ArN} (h : al[i]? = some a) : al.set i a = al := by
  apply List.ext_getElem?
  intro j
  by_cases hj : i = j
  · subst hj
    rw [List.getElem?_set_self', h]; simp
  · rw [List.getElem?_set_ne hj]

/-- Placing keeps all that. -/
theorem Good.alloc {xs : List Bool} {al : List ArN} (h : Good xs al) {i : Nat} {a : ArN} (hi : al[i]? = some a) (s : Int) : Good (allocN a xs s).2.1 (al.set i (allocN a xs s).1) := by
  have hok := allocN_ok (h.ok i a hi) h.le s
  have hln := allocN_length (h.ok i a hi) h.le s
  have hc := allocN_cases a (h.ok i a hi) xs [] s h.le
  refine ⟨by rw [hln]; exact h.le, ?_, ?_, ?_⟩
  · intro j e he
    rcases set_get he with ⟨_, rfl⟩ | he
    · exact hok
    · exact h.ok j e he
  · intro j e he r hr
    rw [hln]
    rcases set_get he with ⟨_, rfl⟩ | he
    · rcases hc with ⟨_, _, e, _⟩ | ⟨F, S, _, _, _, _, _, _, _, e, _⟩ | ⟨N, _, _, _, _, _, _, _, e, _⟩ | ⟨N, A, S, _, _, _, hN1, _, _, hA, _, _, _, e, _⟩ <;> rw [e.out] at hr
      · exact h.fit i a hi r hr
      · exact h.fit i a hi r hr
      · exact h.fit i a hi r hr
      · simp only [List.mem_append, List.mem_singleton] at hr
        rcases hr with hr | rfl
        · exact h.fit i a hi r hr
        · exact ⟨hN1, hA⟩
    · exact h.fit j e he r hr
  · intro k hk
    rw [hln] at hk
    have hs := covA_set (a' := (allocN a xs s).1) hi k
    have h0 := h.cov k hk
    rcases hc with ⟨_, _, e, _⟩ | ⟨F, S, _, _, _, _, _, _, _, e, _⟩ | ⟨N, _, _, _, _, _, _, _, e, _⟩ | ⟨N, A, S, _, _, _, hN1, _, _, hA, _, hf, _, e, _⟩ <;> rw [e.out] at hs ⊢ <;> simp only at hs ⊢
    · rw [← h0]; omega
    · rw [← h0]; omega
    · rw [← h0]; omega
    · rw [markB_at true hA, setFrom_mk xs A true N hA k]
      rw [covR_append, covR_one] at hs
      simp only at hs
      by_cases hin : A ≤ k ∧ k < A + N
      · rw [if_pos hin] at hs ⊢
        rw [(findB_free hN1 hf.out).2 k hin.1 hin.2] at h0
        simp at h0 ⊢
        omega
      · rw [if_neg hin] at hs ⊢
        omega

theorem backB_yes {xs : List Bool} {A N : Nat} (hN : 1 ≤ N) (h : A + N ≤ xs.length) (hm : ∀ k, A ≤ k → k < A + N → mk xs k = true) : backB xs A N = (setFrom xs A false N, 0) := by
  unfold backB
  rw [show standB xs.length A N = true by simp [standB]; omega, (wholeB_iff xs A N true).2 ⟨by omega, fun i hi => by rw [show ((A : Nat) : Int).toNat + i = A + i by omega]; exact hm _ (by omega) (by omega)⟩, markB_at false h]
  simp
/-- Runs given back that were granted, no page twice: all are taken back, and what stood in none of them stays marked. -/
theorem rel_good : ∀ (q : List RunN) (xs : List Bool), (∀ r ∈ q, 1 ≤ r.2 ∧ r.1 + r.2 ≤ xs.length) → (∀ k, k < xs.length → covR q k ≤ if mk xs k then 1 else 0) →
    (∀ q1 r t, q1 ++ r :: t = q → (backB (relN xs q1) r.1 r.2).2 = 0) ∧ ∀ k, mk (relN xs q) k = (mk xs k && decide (covR q k = 0)) := by
  intro q
  induction q with
  | nil =>
    intro xs _ _
    exact ⟨fun q1 r t e => by simp at e, fun k => by simp [relN, covR]⟩
  | cons r q ih =>
    intro xs hf hc
    obtain ⟨hN, hA⟩ := hf r (by simp)
    have hm : ∀ k, r.1 ≤ k → k < r.1 + r.2 → mk xs k = true := by
      intro k h1 h2
      have := hc k (by omega)
      simp only [covR] at this
      rw [if_pos ⟨h1, h2⟩] at this
      cases hk : mk xs k with
      | true => rfl
      | false => rw [hk] at this; simp at this
    have hb := backB_yes hN hA hm
    have hcons : ∀ q1, relN xs (r :: q1) = relN (setFrom xs r.1 false r.2) q1 := fun q1 => by
      show relN (backB xs r.1 r.2).1 q1 = _
      rw [hb]
    obtain ⟨h1, h2⟩ := ih (setFrom xs r.1 false r.2) (fun x hx => by rw [setFrom_length]; exact hf x (by simp [hx])) (fun k hk => by
      rw [setFrom_length] at hk
      have := hc k hk
      simp only [covR] at this
      rw [setFrom_mk _ _ _ _ hA]
      by_cases hin : r.1 ≤ k ∧ k < r.1 + r.2
      · rw [if_pos hin] at this ⊢
        split at this <;> simp at this ⊢ <;> omega
      · rw [if_neg hin] at this ⊢
        omega)
    refine ⟨fun q1 x t e => ?_, fun k => ?_⟩
    · cases q1 with
      | nil =>
        simp only [List.nil_append, List.cons.injEq] at e
        rw [e.1]
        show (backB xs r.1 r.2).2 = 0
        rw [hb]
      | cons y q1 =>
        simp only [List.cons_append, List.cons.injEq] at e
        rw [e.1, hcons]
        exact h1 q1 x t e.2
    · rw [hcons, h2, setFrom_mk _ _ _ _ hA]
      have hcv : covR (r :: q) k = (if r.1 ≤ k ∧ k < r.1 + r.2 then 1 else 0) + covR q k := rfl
      by_cases hin : r.1 ≤ k ∧ k < r.1 + r.2
      · rw [if_pos hin] at hcv ⊢
        have : decide (covR (r :: q) k = 0) = false := by simp; omega
        rw [this]; simp
      · rw [if_neg hin] at hcv ⊢
        rw [show covR (r :: q) k = covR q k by omega]

/-- Releasing is never refused, and keeps all that. -/
theorem Good.release {xs : List Bool} {al : List ArN} (h : Good xs al) {i : Nat} {a : ArN} (hi : al[i]? = some a) :
    (∀ q r t, q ++ r :: t = a.rs → (backB (relN xs q) r.1 r.2).2 = 0) ∧ Good (relN xs a.rs) (al.set i ⟨⟨0, 0⟩, [], []⟩) := by
  obtain ⟨h1, h2⟩ := rel_good a.rs xs (h.fit i a hi) (fun k hk => by have := h.cov k hk; have := covA_get hi k; omega)
  have hln := relN_length a.rs xs
  refine ⟨h1, by rw [hln]; exact h.le, ?_, ?_, ?_⟩
  · intro j e he
    rcases set_get he with ⟨_, rfl⟩ | he
    · exact Pl.ok0
    · exact h.ok j e he
  · intro j e he r hr
    rw [hln]
    rcases set_get he with ⟨_, rfl⟩ | he
    · cases hr
    · exact h.fit j e he r hr
  · intro k hk
    rw [hln] at hk
    have hs := covA_set (a' := ⟨⟨0, 0⟩, [], []⟩) hi k
    have h0 := h.cov k hk
    have hg := covA_get hi k
    rw [h2]
    simp only [covR] at hs
    cases hm : mk xs k with
    | false => rw [hm] at h0; simp at h0 ⊢; omega
    | true =>
      rw [hm] at h0
      simp at h0 ⊢
      by_cases hz : covR a.rs k = 0
      · rw [if_pos hz]; omega
      · rw [if_neg hz]; omega
/-- No arena has anything, no page is granted. -/
theorem Good.start {n m : Nat} (hn : n ≤ 1024) : Good (List.replicate n false) (List.replicate m ⟨⟨0, 0⟩, [], []⟩) := by
  have hget : ∀ (i : Nat) (a : ArN), (List.replicate m (⟨⟨0, 0⟩, [], []⟩ : ArN))[i]? = some a → a = ⟨⟨0, 0⟩, [], []⟩ := by
    intro i a h
    rw [List.getElem?_replicate] at h
    split at h <;> simp at h
    exact h.symm
  refine ⟨by simpa using hn, fun i a h => by rw [hget i a h]; exact Pl.ok0, fun i a h r hr => (by rw [hget i a h] at hr; cases hr), fun k hk => ?_⟩
  have : covA (List.replicate m ⟨⟨0, 0⟩, [], []⟩) k = 0 := by
    clear hget
    induction m with
    | zero => rfl
    | succ m ih => simp only [List.replicate_succ, covA, covR]; omega
  rw [this]
  simp [mk, List.getElem?_replicate]
  split <;> simp

theorem sum_noughts (l : List Nat) : (l.map fun _ => 0).sum = 0 := by
  induction l with
  | nil => rfl
  | cons a l ih => simpa using ih
/-- All pages of the runs, one by one. -/
theorem sumR_cov (rs : List RunN) (L : Nat) (h : ∀ r ∈ rs, r.1 + r.2 ≤ L) : sumR rs = ((List.range L).map (covR rs)).sum := by
  induction rs with
  | nil =>
    rw [show covR [] = fun _ => 0 from rfl, sum_noughts]
    rfl
  | cons r rs ih =>
    have hr := h r (by simp)
    have h1 : ((List.range L).map (covR (r :: rs))).sum = ((List.range L).map fun k => if r.1 ≤ k ∧ k < r.1 + r.2 then 1 else 0).sum + ((List.range L).map (covR rs)).sum := by
      have : ∀ l : List Nat, (l.map (covR (r :: rs))).sum = (l.map fun k => if r.1 ≤ k ∧ k < r.1 + r.2 then 1 else 0).sum + (l.map (covR rs)).sum := by
        intro l
        induction l with
        | nil => rfl
        | cons k l ihl => simp only [List.map_cons, List.sum_cons, ihl]; rw [show covR (r :: rs) k = (if r.1 ≤ k ∧ k < r.1 + r.2 then 1 else 0) + covR rs k from rfl]; omega
      exact this _
    have h2 : ∀ L, ((List.range L).map fun k => if r.1 ≤ k ∧ k < r.1 + r.2 then 1 else 0).sum = min L (r.1 + r.2) - min L r.1 := by
      intro L
      induction L with
      | zero => simp
      | succ L ihl =>
        rw [List.range_succ, List.map_append, List.sum_append, ihl]
        simp only [List.map_cons, List.map_nil, List.sum_cons, List.sum_nil]
        split <;> omega
    rw [h1, h2, ← ih (fun x hx => h x (by simp [hx]))]
    simp only [sumR, List.map_cons, List.sum_cons]
    omega
theorem count_cov (xs : List Bool) : countB xs = ((List.range xs.length).map fun k => if mk xs k then 1 else 0).sum := by
  have h : ∀ n, n ≤ xs.length → countB (xs.take n) = ((List.range n).map fun k => if mk xs k then 1 else 0).sum := by
    intro n
    induction n with
    | zero => intro _; rfl
    | succ n ih =>
      intro hn
      rw [countB_take_succ xs n (by omega), ih (by omega), List.range_succ, List.map_append, List.sum_append]
      simp
  have := h xs.length (Nat.le_refl _)
  rwa [List.take_length] at this
/-- How many pages all arenas have. -/
def sumA : List ArN → Nat
  | [] => 0
  | a :: al => sumR a.rs + sumA al
theorem sumA_cov (L : Nat) : ∀ al : List ArN, (∀ a ∈ al, ∀ r ∈ a.rs, r.1 + r.2 ≤ L) → sumA al = ((List.range L).map (covA al)).sum
  | [], _ => by
    rw [show covA [] = fun _ => 0 from rfl, sum_noughts]
    rfl
  | a :: al, h => by
    have ih := sumA_cov L al (fun b hb => h b (by simp [hb]))
    have : ∀ l : List Nat, (l.map (covA (a :: al))).sum = (l.map (covR a.rs)).sum + (l.map (covA al)).sum := by
      intro l
      induction l with
      | nil => rfl
      | cons k l ihl => simp only [List.map_cons, List.sum_cons, ihl]; rw [show covA (a :: al) k = covR a.rs k + covA al k from rfl]; omega
    rw [this, ← ih, ← sumR_cov a.rs L (h a (by simp))]
    rfl
/-- All pages that are granted are the arenas'. -/
theorem Good.sum {xs : List Bool} {al : List ArN} (h : Good xs al) : sumA al = countB xs := by
  rw [sumA_cov xs.length al (fun a ha r hr => by obtain ⟨i, hi⟩ := List.getElem?_of_mem ha; exact (h.fit i a hi r hr).2), count_cov]
  congr 1
  refine List.map_congr_left (fun k hk => h.cov k (by simpa using hk))
theorem sumA_get {al : List ArN} {i : Nat} {a : ArN} (h : al[i]? = some a) : sumR a.rs ≤ sumA al := by
  induction al generalizing i with
  | nil => simp at h
  | cons x al ih =>
    cases i with
    | zero => simp at h; subst h; simp [sumA]
    | succ i => have := ih (by simpa using h); simp only [sumA]; omega
theorem sumR_len {rs : List RunN} (h : ∀ r ∈ rs, 1 ≤ r.2) : rs.length ≤ sumR rs := by
  induction rs with
  | nil => simp
  | cons r rs ih =>
    have := ih (fun x hx => h x (by simp [hx]))
    have := h r (by simp)
    simp only [sumR, List.map_cons, List.sum_cons, List.length_cons] at *
    omega
theorem Good.many {xs : List Bool} {al : List ArN} (h : Good xs al) {i : Nat} {a : ArN} (hi : al[i]? = some a) : a.rs.length ≤ 1024 := by
  have h1 := sumR_len (fun r hr => (h.fit i a hi r hr).1)
  have h2 := sumA_get hi
  have h3 := h.sum
  have h4 := countB_le xs
  have h5 := h.le
  omega
end Go.Proofs.Ytenhelbmcapfkaa

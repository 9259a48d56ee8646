/- Things of arenas, as plain numbers: each in pages of its own arena, none over another one, of whichever arenas. -/
import Derived.Test.YtenhelbmcapfkaaArenaPlain2
import Derived.Test.YtenhelbmcapfkaaArenaHas
import Derived.Test.YtenhelbmcapfkaaPlanPlain4
namespace Go.Proofs.Ytenhelbmcapfkaa
open Go.RowKit

/-- A thing touches a page. -/
def touch (t : RunN) (k : Nat) : Prop := 16 * k < t.1 + t.2 ∧ t.1 < 16 * (k + 1)
/-- What is so of an arena's things. -/
structure Stand (a : ArN) : Prop where
  intro ::
  some : ∀ t ∈ a.ts, 1 ≤ t.2
  page : ∀ t ∈ a.ts, ∀ k, touch t k → 1 ≤ covR a.rs k
  apart : a.ts.Pairwise apartR
  free : ∀ t ∈ a.ts, a.x.free t
  small : a.x.u = 0 ∨ 1 ≤ covR a.rs a.x.p.toNat
theorem Stand.start : Stand ⟨⟨0, 0⟩, [], []⟩ := ⟨by simp, by simp, .nil, by simp, .inl rfl⟩
/-- Things that have a word in common touch a common page. -/
theorem touch_both {s t : RunN} (hs : 1 ≤ s.2) (ht : 1 ≤ t.2) (h : ¬ apartR s t) : ∃ k, touch s k ∧ touch t k := by
  unfold apartR at h
  refine ⟨(max s.1 t.1) / 16, ?_, ?_⟩ <;> unfold touch <;> omega
theorem covR_snoc_ge (rs : List RunN) (r : RunN) (k : Nat) (h : 1 ≤ covR rs k) : 1 ≤ covR (rs ++ [r]) k := by rw [covR_append]; omega
theorem pair_snoc {l : List RunN} {t : RunN} (h : l.Pairwise apartR) (ht : ∀ s ∈ l, apartR s t) : (l ++ [t]).Pairwise apartR := by
  refine List.pairwise_append.2 ⟨h, by simp, fun a ha b hb => ?_⟩
  simp at hb; subst hb; exact ht a ha

/-- Placing keeps all that. -/
theorem Stand.alloc {a : ArN} (h : Stand a) (hx : a.x.ok) {xs : List Bool} (hl : xs.length ≤ 1024) (hm : ∀ k, 1 ≤ covR a.rs k → mk xs k = true) (s : Int) : Stand (allocN a xs s).1 := by
  rcases allocN_cases a hx xs [] s hl with ⟨_, _, e, _⟩ | ⟨F, S, rfl, hS1, hS2, ⟨p0, p1, u1, u2⟩, hF, _, _, e, _⟩ | ⟨N, _, _, _, _, _, _, _, e, _⟩ | ⟨N, A, S, rfl, hS1, hS2, hN1, hN2, hN, hA, _, hf, _, e, _⟩ <;> rw [e.out]
  · exact h
  · obtain ⟨P, hP⟩ := Int.eq_ofNat_of_zero_le p0
    obtain ⟨U, hU⟩ := Int.eq_ofNat_of_zero_le (show 0 ≤ a.x.u by omega)
    have hsm : 1 ≤ covR a.rs P := by
      rcases h.small with h' | h'
      · omega
      · rwa [hP] at h'
    refine ⟨fun t ht => ?_, fun t ht k hk => ?_, pair_snoc h.apart (fun t ht => ?_), fun t ht => ?_, .inr (by simp only; rw [hP]; exact hsm)⟩
    · rcases List.mem_append.1 ht with ht | ht
      · exact h.some t ht
      · simp at ht; subst ht; exact hS1
    · rcases List.mem_append.1 ht with ht | ht
      · exact h.page t ht k hk
      · simp at ht; subst ht
        unfold touch at hk
        simp only at hk
        rwa [show k = P by omega]
    · have := h.free t ht
      unfold Pl.free at this
      unfold apartR
      simp only
      omega
    · unfold Pl.free
      simp only
      rcases List.mem_append.1 ht with ht | ht
      · have := h.free t ht
        unfold Pl.free at this
        omega
      · simp at ht; subst ht; simp only; omega
  · exact h
  · obtain ⟨_, hfr⟩ := findB_free hN1 hf.out
    have hno : ∀ k, A ≤ k → k < A + N → ¬ 1 ≤ covR a.rs k := fun k h1 h2 hc => by have := hm k hc; rw [hfr k h1 h2] at this; cases this
    have hnew : ∀ k, A ≤ k → k < A + N → 1 ≤ covR (a.rs ++ [(A, N)]) k := fun k h1 h2 => by rw [covR_append, covR_one, if_pos ⟨h1, h2⟩]; omega
    have hap : ∀ t ∈ a.ts, t.1 + t.2 ≤ 16 * A ∨ 16 * (A + N) ≤ t.1 := fun t ht => by
      have h1 := h.some t ht
      by_cases hc : t.1 + t.2 ≤ 16 * A ∨ 16 * (A + N) ≤ t.1
      · exact hc
      · exfalso
        obtain ⟨k, hk1, hk2⟩ := touch_both (s := t) (t := (16 * A, 16 * N)) h1 (by simp only; omega) (by unfold apartR; simp only; omega)
        unfold touch at hk2
        simp only at hk2
        exact hno k (by omega) (by omega) (h.page t ht k hk1)
    refine ⟨fun t ht => ?_, fun t ht k hk => ?_, pair_snoc h.apart (fun t ht => ?_), fun t ht => ?_, ?_⟩
    · rcases List.mem_append.1 ht with ht | ht
      · exact h.some t ht
      · simp at ht; subst ht; exact hS1
    · rcases List.mem_append.1 ht with ht | ht
      · exact covR_snoc_ge _ _ _ (h.page t ht k hk)
      · simp at ht; subst ht
        unfold touch at hk
        simp only at hk
        exact hnew k (by omega) (by omega)
    · have := hap t ht
      unfold apartR
      simp only
      omega
    · simp only
      rcases List.mem_append.1 ht with ht | ht
      · by_cases h16 : S ≤ 16
        · rw [if_pos h16]
          have := hap t ht
          unfold Pl.free
          simp only
          omega
        · rw [if_neg h16]; exact h.free t ht
      · simp at ht; subst ht
        by_cases h16 : S ≤ 16
        · rw [if_pos h16]
          unfold Pl.free
          simp only
          omega
        · rw [if_neg h16]
          unfold Pl.free
          rcases h.small with h' | h'
          · exact .inl h'
          · right
            have hpn : ¬ (A ≤ a.x.p.toNat ∧ a.x.p.toNat < A + N) := fun hc => hno _ hc.1 hc.2 h'
            unfold Pl.ok at hx
            simp only
            omega
    · simp only
      by_cases h16 : S ≤ 16
      · rw [if_pos h16]
        right
        simp only
        rw [Int.toNat_natCast]
        exact hnew A (by omega) (by omega)
      · rw [if_neg h16]
        rcases h.small with h' | h'
        · exact .inl h'
        · exact .inr (covR_snoc_ge _ _ _ h')

/-- All arenas' things, one arena's behind the other's. -/
def tsA (al : List ArN) : List RunN := al.flatMap (·.ts)
/-- Both: the pages and the things. -/
structure Good2 (xs : List Bool) (al : List ArN) : Prop where
  intro ::
  good : Good xs al
  stand : ∀ (i : Nat) (a : ArN), al[i]? = some a → Stand a
theorem Good.marked {xs : List Bool} {al : List ArN} (h : Good xs al) {i : Nat} {a : ArN} (hi : al[i]? = some a) (k : Nat) (hk : 1 ≤ covR a.rs k) : mk xs k = true := by
  obtain ⟨r, hr, h1, h2⟩ := covR_has hk
  have hf := h.fit i a hi r hr
  have hc := h.cov k (by omega)
  have hg := covA_get hi k
  cases hm : mk xs k with
  | true => rfl
  | false => rw [hm] at hc; simp at hc; omega
theorem Good2.alloc {xs : List Bool} {al : List ArN} (h : Good2 xs al) {i : Nat} {a : ArN} (hi : al[i]? = some a) (s : Int) : Good2 (allocN a xs s).2.1 (al.set i (allocN a xs s).1) := by
  refine ⟨h.good.alloc hi s, fun j e he => ?_⟩
  rcases set_get he with ⟨_, rfl⟩ | he
  · exact (h.stand i a hi).alloc (h.good.ok i a hi) h.good.le (h.good.marked hi) s
  · exact h.stand j e he
theorem Good2.release {xs : List Bool} {al : List ArN} (h : Good2 xs al) {i : Nat} {a : ArN} (hi : al[i]? = some a) : Good2 (relN xs a.rs) (al.set i ⟨⟨0, 0⟩, [], []⟩) := by
  refine ⟨(h.good.release hi).2, fun j e he => ?_⟩
  rcases set_get he with ⟨_, rfl⟩ | he
  · exact Stand.start
  · exact h.stand j e he
theorem Good2.start {n m : Nat} (hn : n ≤ 1024) : Good2 (List.replicate n false) (List.replicate m ⟨⟨0, 0⟩, [], []⟩) := by
  refine ⟨Good.start hn, fun i a h => ?_⟩
  rw [List.getElem?_replicate] at h
  split at h <;> simp at h
  subst h
  exact Stand.start
/-- A word in a page of the arena's. -/
theorem inR_cov {rs : List RunN} {f : Nat} (h : 1 ≤ covR rs (f / 16)) : inR rs (f : Int) = true := by
  obtain ⟨r, hr, h1, h2⟩ := covR_has h
  unfold inR
  rw [List.any_eq_true]
  refine ⟨r, hr, ?_⟩
  simp only [decide_eq_true_eq]
  omega
theorem Stand.first {a : ArN} (h : Stand a) {t : RunN} (ht : t ∈ a.ts) : inR a.rs (t.1 : Int) = true := by
  have := h.some t ht
  exact inR_cov (h.page t ht _ (by unfold touch; omega))
theorem Stand.last {a : ArN} (h : Stand a) {t : RunN} (ht : t ∈ a.ts) : inR a.rs ((t.1 : Int) + t.2 - 1) = true := by
  have := h.some t ht
  rw [show (t.1 : Int) + t.2 - 1 = ((t.1 + t.2 - 1 : Nat) : Int) by omega]
  exact inR_cov (h.page t ht _ (by unfold touch; omega))
/-- Things don't overlap, of whichever arenas. -/
theorem Good2.apart {xs : List Bool} {al : List ArN} (h : Good2 xs al) : (tsA al).Pairwise apartR := by
  have key : ∀ (q r : List ArN), q ++ r = al → (tsA r).Pairwise apartR := by
    intro q r
    induction r generalizing q with
    | nil => intro _; exact .nil
    | cons a r ih =>
      intro e
      have hi : al[q.length]? = some a := by rw [← e]; simp
      have h1 := h.stand _ a hi
      refine List.pairwise_append.2 ⟨h1.apart, ih (q ++ [a]) (by rw [← e]; simp), fun s hs t ht => ?_⟩
      obtain ⟨b, hb, ht⟩ := List.mem_flatMap.1 ht
      obtain ⟨j, hj⟩ := List.getElem?_of_mem hb
      have hj' : al[q.length + 1 + j]? = some b := by
        rw [← e, List.getElem?_append_right (by omega), show q.length + 1 + j - q.length = j + 1 by omega, List.getElem?_cons_succ, hj]
      have h2 := h.stand _ b hj'
      by_cases hc : apartR s t
      · exact hc
      · exfalso
        obtain ⟨k, hk1, hk2⟩ := touch_both (h1.some s hs) (h2.some t ht) hc
        have c1 := h1.page s hs k hk1
        have c2 := h2.page t ht k hk2
        have hm := h.good.marked hi k c1
        have hg := covA_get2 hi hj' (by omega) k
        have hc := h.good.cov k (mk_lt hm)
        rw [hm] at hc
        simp at hc
        omega
  exact key [] al rfl
theorem tsA_take {al : List ArN} {i : Nat} {a : ArN} (h : al[i]? = some a) : tsA (al.take (i + 1)) = tsA (al.take i) ++ a.ts := by
  unfold tsA
  rw [List.take_add_one, h, List.flatMap_append]
  simp
theorem sumA_append (a b : List ArN) : sumA (a ++ b) = sumA a + sumA b := by
  induction a with
  | nil => simp [sumA]
  | cons x a ih => simp only [List.cons_append, sumA, ih]; omega
theorem sumA_take {al : List ArN} {i : Nat} {a : ArN} (h : al[i]? = some a) : sumA (al.take (i + 1)) = sumA (al.take i) + sumR a.rs := by
  rw [List.take_add_one, h, sumA_append]
  simp [sumA]
theorem sumA_take_le (al : List ArN) (i : Nat) : sumA (al.take i) ≤ sumA al := by
  have : sumA al = sumA (al.take i) + sumA (al.drop i) := by rw [← sumA_append, List.take_append_drop]
  omega
/-- A thing and those ahead of it. -/
theorem Good2.ahead {xs : List Bool} {al : List ArN} (h : Good2 xs al) {i : Nat} {a : ArN} (hi : al[i]? = some a) {q : Nat} (hq : q < a.ts.length) : ∀ y ∈ tsA (al.take i) ++ a.ts.take q, apartR y a.ts[q] := by
  have hp := h.apart
  have e : tsA al = tsA (al.take (i + 1)) ++ tsA (al.drop (i + 1)) := by unfold tsA; rw [← List.flatMap_append, List.take_append_drop]
  rw [e, tsA_take hi] at hp
  have hp1 := (List.pairwise_append.1 hp).1
  obtain ⟨_, hp2, hp3⟩ := List.pairwise_append.1 hp1
  intro y hy
  rcases List.mem_append.1 hy with hy | hy
  · exact hp3 y hy _ (List.getElem_mem hq)
  · rw [← List.take_append_drop q a.ts] at hp2
    refine (List.pairwise_append.1 hp2).2.2 y hy _ ?_
    rw [List.mem_iff_getElem?]
    exact ⟨0, by rw [List.getElem?_drop, Nat.add_zero, List.getElem?_eq_getElem hq]⟩
/-- Things stand in the memory. -/
theorem Good2.within {xs : List Bool} {al : List ArN} (h : Good2 xs al) {i : Nat} {a : ArN} (hi : al[i]? = some a) {t : RunN} (ht : t ∈ a.ts) : 1 ≤ t.2 ∧ t.1 + t.2 ≤ 16384 := by
  have h1 := (h.stand i a hi).some t ht
  have h2 := (h.stand i a hi).page t ht ((t.1 + t.2 - 1) / 16) (by unfold touch; omega)
  obtain ⟨r, hr, h3, h4⟩ := covR_has h2
  have h5 := h.good.fit i a hi r hr
  have h6 := h.good.le
  omega
theorem tsA_len {M : Nat} : ∀ al : List ArN, (∀ a ∈ al, a.ts.length ≤ M) → (tsA al).length ≤ al.length * M
  | [], _ => by simp [tsA]
  | a :: al, h => by
    have ih := tsA_len al (fun b hb => h b (by simp [hb]))
    have h1 := h a (by simp)
    unfold tsA at ih ⊢
    rw [List.flatMap_cons, List.length_append, List.length_cons, Nat.succ_mul]
    omega
theorem tsA_mem {al : List ArN} {i : Nat} {y : RunN} (h : y ∈ tsA (al.take i)) : ∃ (j : Nat) (a : ArN), al[j]? = some a ∧ y ∈ a.ts := by
  obtain ⟨a, ha, hy⟩ := List.mem_flatMap.1 h
  obtain ⟨j, hj⟩ := List.getElem?_of_mem (List.mem_of_mem_take ha)
  exact ⟨j, a, hj, hy⟩
/-- Releasing and placing: how many things. -/
theorem allocN_rs (a : ArN) (hx : a.x.ok) {xs : List Bool} (hl : xs.length ≤ 1024) (ys : List Int) (hy : ys.length = 16 * xs.length) (s : Int) : (allocN a xs s).2.2.2 ≠ 0 ∨
    (∃ F S : Nat, s = S ∧ 1 ≤ S ∧ (allocN a xs s).2.2.1 = F ∧ (allocN a xs s).2.2.2 = 0 ∧ F + S ≤ 16400 ∧ sumR (allocN a xs s).1.rs = sumR a.rs) ∨
    (∃ F S : Nat, s = S ∧ 1 ≤ S ∧ (allocN a xs s).2.2.1 = F ∧ (allocN a xs s).2.2.2 = 0 ∧ F + S ≤ 16400 ∧ sumR a.rs < sumR (allocN a xs s).1.rs ∧ F + S ≤ ys.length ∧ ∀ k, F ≤ k → k < F + S → (allocY a xs ys s)[k]?.getD 0 = 0) := by
  rcases allocN_cases a hx xs ys s hl with ⟨_, _, e, _⟩ | ⟨F, S, rfl, hS1, hS2, ⟨p0, p1, u1, u2⟩, hF, _, _, e, _⟩ | ⟨N, _, _, _, _, _, _, _, e, _⟩ | ⟨N, A, S, rfl, hS1, hS2, hN1, hN2, hN, hA, _, hf, _, e, hy2⟩ <;> rw [e.out]
  · exact .inl (by simp)
  · exact .inr (.inl ⟨F, S, rfl, hS1, rfl, rfl, by omega, rfl⟩)
  · exact .inl (by simp)
  · refine .inr (.inr ⟨16 * A, S, rfl, hS1, rfl, rfl, by omega, ?_, by omega, fun k h1 h2 => ?_⟩)
    · simp only; rw [sumR_snoc]; simp only; omega
    · rw [hy2.out, wipe_get hy hA k (by omega), if_pos (by omega)]
end Go.Proofs.Ytenhelbmcapfkaa

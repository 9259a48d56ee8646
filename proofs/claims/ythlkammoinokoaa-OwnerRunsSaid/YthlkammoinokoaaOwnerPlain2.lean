/- Somebody's runs, as plain lists; how a slice of runs lies. -/
import Derived.Test.YthlkammoinokoaaOwnerPlain
import Derived.Test.YthlkammoinokoaaAppend
namespace Go.Proofs.Ythlkammoinokoaa
open Go.RowKit

/-- A run: where, how many. -/
abbrev RunN := Nat × Nat
/-- The last run is one page longer. -/
def bumpL (rs : List RunN) : List RunN :=
  match rs.getLast? with
  | some r => rs.dropLast ++ [(r.1, r.2 + 1)]
  | none => []
theorem bumpL_snoc (rs : List RunN) (r : RunN) : bumpL (rs ++ [r]) = rs ++ [(r.1, r.2 + 1)] := by simp [bumpL]
/-- The runs of o among the first i pages. -/
def runsTo (xs : List Int) (o : Int) : Nat → List RunN
  | 0 => []
  | i + 1 => if xs[i]?.getD 0 = o then (if 0 < i ∧ xs[i - 1]?.getD 0 = o then bumpL (runsTo xs o i) else runsTo xs o i ++ [(i, 1)]) else runsTo xs o i
theorem runsTo_off {xs : List Int} {o : Int} {i : Nat} (h : xs[i]?.getD 0 ≠ o) : runsTo xs o (i + 1) = runsTo xs o i := by
  simp [runsTo, h]
theorem runsTo_new {xs : List Int} {o : Int} {i : Nat} (h : xs[i]?.getD 0 = o) (h2 : ¬ (0 < i ∧ xs[i - 1]?.getD 0 = o)) : runsTo xs o (i + 1) = runsTo xs o i ++ [(i, 1)] := by
  rw [runsTo, if_pos h, if_neg h2]
theorem runsTo_more {xs : List Int} {o : Int} {i : Nat} (h : xs[i]?.getD 0 = o) (h2 : 0 < i ∧ xs[i - 1]?.getD 0 = o) : runsTo xs o (i + 1) = bumpL (runsTo xs o i) := by
  rw [runsTo, if_pos h, if_pos h2]
/-- A whole run behind a page that isn't o's. -/
theorem runsTo_block {xs : List Int} {o : Int} {F : Nat} (h0 : F = 0 ∨ xs[F - 1]?.getD 0 ≠ o) : ∀ n, (∀ d, d < n + 1 → xs[F + d]?.getD 0 = o) → runsTo xs o (F + (n + 1)) = runsTo xs o F ++ [(F, n + 1)]
  | 0, h => runsTo_new (h 0 (by omega)) (fun e => h0.elim (fun e2 => by omega) (fun e2 => e2 e.2))
  | n + 1, h => by
    have ih := runsTo_block h0 n (fun d hd => h d (by omega))
    rw [show F + (n + 1 + 1) = (F + (n + 1)) + 1 by omega, runsTo_more (h (n + 1) (by omega)) ⟨by omega, by rw [show F + (n + 1) - 1 = F + n by omega]; exact h n (by omega)⟩, ih, bumpL_snoc]
/-- Somebody's runs. -/
def ofB (xs : List Int) (o : Int) : List RunN := if o < 1 then [] else runsTo xs o xs.length
theorem ofB_low {xs : List Int} {o : Int} (h : o < 1) : ofB xs o = [] := by unfold ofB; rw [if_pos h]
theorem ofB_at {xs : List Int} {o : Int} (h : ¬ o < 1) : ofB xs o = runsTo xs o xs.length := by unfold ofB; rw [if_neg h]

/-- What such runs are: rising, apart, of o's pages alone; the last one ends where o's page ends. -/
structure RunsOk (xs : List Int) (o : Int) (i : Nat) (rs : List RunN) : Prop where
  apart : rs.Pairwise (fun r s => r.1 + r.2 < s.1)
  each : ∀ r ∈ rs, 1 ≤ r.2 ∧ r.1 + r.2 ≤ i ∧ ∀ d, d < r.2 → xs[r.1 + d]?.getD 0 = o
  last : 0 < i → xs[i - 1]?.getD 0 = o → ∃ ini f n, rs = ini ++ [(f, n)] ∧ f + n = i
  gap : (0 < i → xs[i - 1]?.getD 0 ≠ o) → ∀ r ∈ rs, r.1 + r.2 < i ∨ i = 0
  count : (rs.map (·.2)).sum = (xs.take i).countP (fun x => decide (x = o))
theorem runsTo_ok (xs : List Int) (o : Int) : ∀ i, i ≤ xs.length → RunsOk xs o i (runsTo xs o i)
  | 0, _ => ⟨List.Pairwise.nil, by simp [runsTo], by omega, by simp [runsTo], by simp [runsTo]⟩
  | i + 1, hi => by
    have ih := runsTo_ok xs o i (by omega)
    have hc : (xs.take (i + 1)).countP (fun x => decide (x = o)) = (xs.take i).countP (fun x => decide (x = o)) + if xs[i]?.getD 0 = o then 1 else 0 := by
      rw [List.take_add_one, List.getElem?_eq_getElem (by omega), List.countP_append]
      by_cases e : xs[i] = o <;> simp [e]
    by_cases h : xs[i]?.getD 0 = o
    · rw [if_pos h] at hc
      by_cases h2 : 0 < i ∧ xs[i - 1]?.getD 0 = o
      · obtain ⟨ini, f, n, hr, hfn⟩ := ih.last h2.1 h2.2
        rw [runsTo_more h h2, hr, bumpL_snoc]
        have ha := ih.apart
        have he := ih.each
        have hct := ih.count
        rw [hr] at ha he hct
        obtain ⟨a1, a2, a3⟩ := List.pairwise_append.1 ha
        refine ⟨List.pairwise_append.2 ⟨a1, by simp, fun r hr' s hs => ?_⟩, fun r hr' => ?_, fun _ _ => ⟨ini, f, n + 1, rfl, by omega⟩, fun h' => absurd h (h' (by omega)), ?_⟩
        · simp at hs; subst hs; exact a3 r hr' (f, n) (by simp)
        · rcases List.mem_append.1 hr' with hr' | hr'
          · obtain ⟨b1, b2, b3⟩ := he r (by simp [hr'])
            exact ⟨b1, by omega, b3⟩
          · simp at hr'; subst hr'
            obtain ⟨b1, b2, b3⟩ := he (f, n) (by simp)
            refine ⟨by simp, by simp; omega, fun d hd => ?_⟩
            by_cases e : d = n
            · subst e; simp only; rw [hfn]; exact h
            · exact b3 d (by simp only at hd ⊢; omega)
        · rw [hc, ← hct]; simp; omega
      · rw [runsTo_new h h2]
        have hg := ih.gap (fun h0 e => h2 ⟨h0, e⟩)
        refine ⟨List.pairwise_append.2 ⟨ih.apart, by simp, fun r hr' s hs => ?_⟩, fun r hr' => ?_, fun _ _ => ⟨_, i, 1, rfl, rfl⟩, fun h' => absurd h (h' (by omega)), ?_⟩
        · simp at hs; subst hs
          rcases hg r hr' with h' | h'
          · exact h'
          · have := (ih.each r hr').2.1
            have := (ih.each r hr').1
            omega
        · rcases List.mem_append.1 hr' with hr' | hr'
          · obtain ⟨b1, b2, b3⟩ := ih.each r hr'
            exact ⟨b1, by omega, b3⟩
          · simp at hr'; subst hr'
            exact ⟨by simp, by simp, fun d hd => by simp only at hd ⊢; rw [show i + d = i by omega]; exact h⟩
        · rw [hc, ← ih.count]; simp
    · rw [if_neg h] at hc
      rw [runsTo_off h]
      refine ⟨ih.apart, fun r hr' => ?_, fun _ h' => absurd h' h, fun _ r hr' => .inl (by have := (ih.each r hr').2.1; omega), by rw [hc, ← ih.count]; omega⟩
      obtain ⟨b1, b2, b3⟩ := ih.each r hr'
      exact ⟨b1, by omega, b3⟩
theorem runsTo_len (xs : List Int) (o : Int) : ∀ i, (runsTo xs o i).length ≤ i
  | 0 => by simp [runsTo]
  | i + 1 => by
    have ih := runsTo_len xs o i
    unfold runsTo
    split
    · split
      · unfold bumpL; split <;> simp; omega
      · simp; omega
    · omega

/-- The cells of runs, one behind the other. -/
def flatR (rs : List RunN) : List Value := rs.flatMap fun r => [.int .i64 r.1, .int .i64 r.2]
theorem flatR_length (rs : List RunN) : (flatR rs).length = rs.length * 2 := by
  induction rs with
  | nil => rfl
  | cons r rs ih => simp only [flatR, List.flatMap_cons, List.length_append, List.length_cons] at ih ⊢; simp at ih ⊢; omega
theorem flatR_snoc (rs : List RunN) (r : RunN) : flatR (rs ++ [r]) = flatR rs ++ [.int .i64 r.1, .int .i64 r.2] := by simp [flatR]
theorem flatR_get : ∀ (rs : List RunN) (j : Nat) (r : RunN), rs[j]? = some r → (flatR rs)[j * 2]? = some (.int .i64 r.1) ∧ (flatR rs)[j * 2 + 1]? = some (.int .i64 r.2)
  | [], j, r, h => by simp at h
  | s :: rs, 0, r, h => by simp at h; subst h; exact ⟨rfl, rfl⟩
  | s :: rs, j + 1, r, h => by
    have ih := flatR_get rs j r (by simpa using h)
    rw [show (j + 1) * 2 = j * 2 + 2 by omega]
    exact ih
theorem flatR_one (rs : List RunN) : ∀ u ∈ flatR rs, u.oneCell' = true := by
  intro u hu
  obtain ⟨r, _, hr⟩ := List.mem_flatMap.1 hu
  simp at hr
  rcases hr with rfl | rfl <;> rfl
/-- The slice of runs that begins at a reads as rs. -/
def SlR (w : World) (a : Option Addr) (rs : List RunN) : Prop :=
  rs = [] ∨ ∃ b off, a = some ⟨b, off, none⟩ ∧ b < w.heap.size ∧ ∀ j r, rs[j]? = some r → w.cell? ⟨b, off + j * 2, none⟩ = some (.int .i64 r.1) ∧ w.cell? ⟨b, off + j * 2 + 1, none⟩ = some (.int .i64 r.2)
theorem SlR.keptS {S : List Nat} {w w' : World} {a : Option Addr} {rs : List RunN} (h : SlR w a rs) (hk : Kept S w w') (hn : ∀ b off, a = some ⟨b, off, none⟩ → b ∉ S) : SlR w' a rs := by
  rcases h with h | ⟨b, off, rfl, hb, hc⟩
  · exact .inl h
  · have e : ∀ o, w'.cell? ⟨b, o, none⟩ = w.cell? ⟨b, o, none⟩ := fun o => World.cell?_of_block (w := w) (a := ⟨b, o, none⟩) (hk.block b hb (hn b off rfl))
    exact .inr ⟨b, off, rfl, Nat.lt_of_lt_of_le hb hk.size, fun j r hr => by simp only [e]; exact hc j r hr⟩
theorem SlR.kept {w w' : World} {a : Option Addr} {rs : List RunN} (h : SlR w a rs) (hk : Kept [] w w') : SlR w' a rs := h.keptS hk (by simp)
theorem SlR.cell {w : World} {a : Option Addr} {rs : List RunN} (h : SlR w a rs) {j : Nat} (hj : j < rs.length) : ∃ b off, a = some ⟨b, off, none⟩ ∧ b < w.heap.size ∧
    w.cell? ⟨b, off + j * 2, none⟩ = some (.int .i64 rs[j].1) ∧ w.cell? ⟨b, off + j * 2 + 1, none⟩ = some (.int .i64 rs[j].2) := by
  rcases h with h | ⟨b, off, rfl, hb, hc⟩
  · subst h; simp at hj
  · exact ⟨b, off, rfl, hb, hc j _ (List.getElem?_eq_getElem hj)⟩
/-- The slice value v is a row of the call's own that holds rs. -/
def OwnR (w : World) (B : Nat) (v : Value) (rs : List RunN) : Prop := w.ownsRow B 30 2 v rs.length (flatR rs)
theorem OwnR.slice {w : World} {B : Nat} {v : Value} {rs : List RunN} (h : OwnR w B v rs) : ∃ a cap, v = .slice a rs.length cap ∧ SlR w a rs ∧ (∀ b off, a = some ⟨b, off, none⟩ → B ≤ b) := by
  rcases h.2 with ⟨rfl, h0⟩ | ⟨g, cap, cur, rfl, hB, hb, hn, hcap, hs, ht⟩
  · have : rs = [] := List.eq_nil_of_length_eq_zero h0
    subst this
    exact ⟨none, 0, rfl, .inl rfl, by simp⟩
  · refine ⟨some ⟨g, 0, none⟩, cap, rfl, .inr ⟨g, 0, rfl, lt_of_block hb, fun j r hr => ?_⟩, by simp; exact hB⟩
    have hj : j < rs.length := (List.getElem?_eq_some_iff.1 hr).1
    obtain ⟨h1, h2⟩ := flatR_get rs j r hr
    rw [Nat.zero_add, h.cellAt (j * 2) (by omega), h.cellAt (j * 2 + 1) (by omega)]
    exact ⟨h1, h2⟩
theorem OwnR.held {w : World} {B : Nat} {v : Value} {rs : List RunN} (h : OwnR w B v rs) (hne : rs ≠ []) : ∃ g cap, v = .slice (some ⟨g, 0, none⟩) rs.length cap ∧ B ≤ g := by
  rcases h.2 with ⟨_, h0⟩ | ⟨g, cap, cur, rfl, hB, _⟩
  · exact absurd (List.eq_nil_of_length_eq_zero h0) hne
  · exact ⟨g, cap, rfl, hB⟩
theorem OwnR.nil (w : World) (B : Nat) : OwnR w B (.slice none 0 0) [] := World.ownsRow_nil _ _ _ _
theorem OwnR.keptS {S : List Nat} {w w' : World} {B : Nat} {v : Value} {rs : List RunN} (h : OwnR w B v rs) (hk : Kept S w w') (hn : ∀ j, v.ownBlock = some j → j ∉ S) : OwnR w' B v rs := by
  refine ⟨h.1, ?_⟩
  rcases h.2 with h' | ⟨g', cap', cur, rfl, hB, hr, r⟩
  · exact .inl h'
  · exact .inr ⟨g', cap', cur, rfl, hB, (hk.block g' (lt_of_block hr) (hn g' rfl)).trans hr, r⟩
/-- What a call leaves that answers runs. -/
def RunsPost (rs : List RunN) (w : World) (e : Ending) (w' : World) : Prop :=
  ∃ a cap, e = .returned (.slice a rs.length cap) ∧ SlR w' a rs ∧ Kept [] w w'
end Go.Proofs.Ythlkammoinokoaa

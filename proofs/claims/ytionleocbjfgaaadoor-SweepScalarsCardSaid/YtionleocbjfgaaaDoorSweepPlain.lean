/- What goes with a region, as plain lists: where objects begin, their pointers, what these count for. -/
import Derived.Test.YtionleocbjfgaaaDoorTallyPlain
import Derived.Test.YtionleocbjfgaaaDoorDescPlain
import Derived.Test.YtionleocbjfgaaaDoorAnnotCounts
namespace Go.Proofs.YtionleocbjfgaaaDoor

/-- An object, as sweep reads it. -/
structure ObP where
  at_ : Int
  reg : Int
  ks : List Int
  vs : List Int
/-- Where an object begins, and the region to which a pointer there points. -/
def begO (o : ObP) : List (Int × Int) := if 0 < o.at_ then [(o.at_, max o.reg 0)] else []
def begP (l : List ObP) : List (Int × Int) := l.flatMap begO
/-- A pointer: who holds it, its kind, its value. -/
abbrev PtP := Int × Int × Int
/-- An object's pointers among its first fields. -/
def ptrU (o : ObP) (i : Nat) : List PtP := (((o.ks.zip o.vs).take i).filter fun x => pointerB x.1).map fun x => (o.reg, x.1, x.2)
def ptrO (o : ObP) : List PtP := ((o.ks.zip o.vs).filter fun x => pointerB x.1).map fun x => (o.reg, x.1, x.2)
def ptrP (l : List ObP) : List PtP := l.flatMap ptrO
/-- What a pointer counts for: its target, or nothing. -/
def countE (kd h t : Int) : List Int := if cntB kd h t = true then [t] else []
def hitP (ps : List (Int × Int)) (x : PtP) : List Int := countE x.2.1 x.1 (cntY ps x.2.2)
def hitsP (ps : List (Int × Int)) (xs : List PtP) : List Int := xs.flatMap (hitP ps)
/-- What goes with a region; what comes to all. -/
def outP (l : List ObP) (r : Int) : List Int := hitsP (begP l) ((ptrP l).filter fun x => decide (x.1 = r))
def comP (l : List ObP) (roots : List Int) : List Int := hitsP (begP l) (ptrP l ++ roots.map fun v => (0, 1, v))
/-- The counts of these. -/
def tlyG (gs : List RunZ) (ts : List Int) : List RunZ := ts.foldl giveY gs
def tlyP (ts : List Int) : List RunZ := tlyG [] ts

theorem begP_snoc (l : List ObP) (o : ObP) : begP (l ++ [o]) = begP l ++ begO o := by simp [begP]
theorem ptrP_snoc (l : List ObP) (o : ObP) : ptrP (l ++ [o]) = ptrP l ++ ptrO o := by simp [ptrP]
theorem begP_cons (o : ObP) (l : List ObP) : begP (o :: l) = begO o ++ begP l := by simp [begP]
theorem ptrP_cons (o : ObP) (l : List ObP) : ptrP (o :: l) = ptrO o ++ ptrP l := by simp [ptrP]
theorem begO_some {o : ObP} (h : 0 < o.at_) : begO o = [(o.at_, max o.reg 0)] := by unfold begO; rw [if_pos h]
theorem begO_none {o : ObP} (h : ¬ 0 < o.at_) : begO o = [] := by unfold begO; rw [if_neg h]
theorem begO_len (o : ObP) : (begO o).length ≤ 1 := by unfold begO; split <;> simp
theorem begP_len : ∀ l : List ObP, (begP l).length ≤ l.length
  | [] => by simp [begP]
  | o :: l => by
    have h1 := begO_len o
    have h2 := begP_len l
    rw [begP_cons, List.length_append, List.length_cons]; omega
theorem ptrU_zero (o : ObP) : ptrU o 0 = [] := by simp [ptrU]
theorem ptrU_yes {o : ObP} {i : Nat} (hk : i < o.ks.length) (hv : i < o.vs.length) (hp : pointerB o.ks[i] = true) : ptrU o (i + 1) = ptrU o i ++ [(o.reg, o.ks[i], o.vs[i])] := by
  unfold ptrU
  rw [List.take_succ_eq_append_getElem (by simp; omega), List.filter_append, List.map_append]
  simp [hp]
theorem ptrU_no {o : ObP} {i : Nat} (hk : i < o.ks.length) (hv : i < o.vs.length) (hp : pointerB o.ks[i] = false) : ptrU o (i + 1) = ptrU o i := by
  unfold ptrU
  rw [List.take_succ_eq_append_getElem (by simp; omega), List.filter_append, List.map_append]
  simp [hp]
theorem ptrU_all {o : ObP} {i : Nat} (h : o.ks.length ≤ i ∨ o.vs.length ≤ i) : ptrU o i = ptrO o := by
  unfold ptrU ptrO
  rw [List.take_of_length_le (by simp; omega)]
theorem ptrU_pre (o : ObP) (i : Nat) : ∃ t, ptrU o i ++ t = ptrO o := by
  refine ⟨(((o.ks.zip o.vs).drop i).filter fun x => pointerB x.1).map fun x => (o.reg, x.1, x.2), ?_⟩
  unfold ptrU ptrO
  rw [← List.map_append, ← List.filter_append, List.take_append_drop]
theorem ptrO_reg {o : ObP} {x : PtP} (h : x ∈ ptrO o) : x.1 = o.reg := by
  unfold ptrO at h
  obtain ⟨y, _, rfl⟩ := List.mem_map.1 h
  rfl
theorem ptrO_val {o : ObP} {x : PtP} (h : x ∈ ptrO o) : x.2.2 ∈ o.vs ∧ x.2.1 ∈ o.ks := by
  unfold ptrO at h
  obtain ⟨⟨a, b⟩, hy, rfl⟩ := List.mem_map.1 h
  have := List.of_mem_zip (List.mem_filter.1 hy).1
  exact ⟨this.2, this.1⟩
theorem ptrO_len (o : ObP) : (ptrO o).length ≤ o.ks.length := by
  unfold ptrO
  rw [List.length_map]
  refine Nat.le_trans (List.length_filter_le _ _) ?_
  simp; omega
theorem hitsP_append (ps : List (Int × Int)) (a b : List PtP) : hitsP ps (a ++ b) = hitsP ps a ++ hitsP ps b := by simp [hitsP]
theorem hitsP_one (ps : List (Int × Int)) (x : PtP) : hitsP ps [x] = hitP ps x := by simp [hitsP]
theorem countE_len (kd h t : Int) : (countE kd h t).length ≤ 1 := by unfold countE; split <;> simp
theorem hitsP_len (ps : List (Int × Int)) : ∀ xs : List PtP, (hitsP ps xs).length ≤ xs.length
  | [] => by simp [hitsP]
  | x :: xs => by
    have h1 := countE_len x.2.1 x.1 (cntY ps x.2.2)
    have h2 := hitsP_len ps xs
    rw [show hitsP ps (x :: xs) = hitP ps x ++ hitsP ps xs from by simp [hitsP], List.length_append, List.length_cons]
    unfold hitP; omega
theorem tlyG_append (gs : List RunZ) (a b : List Int) : tlyG gs (a ++ b) = tlyG (tlyG gs a) b := List.foldl_append
theorem tlyP_append (a b : List Int) : tlyP (a ++ b) = tlyG (tlyP a) b := tlyG_append _ _ _

/-- Of each key's entries: from 0 on. -/
def LowP (ps : List (Int × Int)) : Prop := ∀ r ∈ ps, 0 ≤ r.2 ∧ r.2 ≤ 9223372036854775807
theorem LowP.count : ∀ {ps : List (Int × Int)}, LowP ps → ∀ z, 0 ≤ cntY ps z ∧ cntY ps z ≤ 9223372036854775807
  | [], _, z => by rw [cntY_nil]; omega
  | r :: ps, h, z => by
    rw [cntY_cons]
    have h1 := h r (by simp)
    have h2 := LowP.count (ps := ps) (fun r hr => h r (by simp [hr])) z
    split
    · exact h1
    · exact h2
theorem begP_low {l : List ObP} (h : ∀ o ∈ l, o.reg ≤ 9223372036854775807) : LowP (begP l) := by
  intro r hr
  obtain ⟨o, ho, hr⟩ := List.mem_flatMap.1 hr
  have := h o ho
  unfold begO at hr
  split at hr
  · obtain rfl := List.mem_singleton.1 hr
    simp only
    omega
  · cases hr
/-- Targets that count. -/
def TgtP (ts : List Int) : Prop := ∀ t ∈ ts, 1 ≤ t ∧ t ≤ 9223372036854775807
theorem countE_tgt {kd h t : Int} (ht : 0 ≤ t ∧ t ≤ 9223372036854775807) : TgtP (countE kd h t) := by
  intro x hx
  unfold countE at hx
  split at hx
  · rename_i hc
    obtain rfl := List.mem_singleton.1 hx
    simp only [cntB, decide_eq_true_eq] at hc
    omega
  · cases hx
theorem hitsP_tgt {ps : List (Int × Int)} (h : LowP ps) (xs : List PtP) : TgtP (hitsP ps xs) := by
  intro t ht
  obtain ⟨x, _, hx⟩ := List.mem_flatMap.1 ht
  exact countE_tgt (h.count _) t hx
theorem TgtP.append {a b : List Int} (ha : TgtP a) (hb : TgtP b) : TgtP (a ++ b) := fun t ht => by
  rcases List.mem_append.1 ht with h | h
  · exact ha t h
  · exact hb t h

theorem tlyG_good : ∀ (ts : List Int) {gs : List RunZ} {N : Nat}, TgtP ts → GoodY gs → (∀ z, cntY gs z ≤ (N : Int)) → N + ts.length ≤ 2147483647 →
    GoodY (tlyG gs ts) ∧ (∀ z, cntY (tlyG gs ts) z = cntY gs z + (ts.count z : Int)) ∧ (tlyG gs ts).length ≤ gs.length + ts.length
  | [], gs, N, _, hg, _, _ => ⟨hg, fun z => by simp [tlyG], by simp [tlyG]⟩
  | t :: ts, gs, N, ht, hg, hN, hl => by
    have h1 := ht t (by simp)
    simp only [List.length_cons] at hl
    have hne : cntY gs t ≠ 2147483647 := by have := hN t; omega
    have hg1 := hg.give (f := t) (by omega) hne
    have hc1 : ∀ z, cntY (giveY gs t) z = cntY gs z + if z = t ∧ t ≠ 0 then 1 else 0 := fun z => cntY_give hg.rise t z
    have hll := giveY_len gs t
    obtain ⟨i1, i2, i3⟩ := tlyG_good ts (gs := giveY gs t) (N := N + 1) (fun x hx => ht x (by simp [hx])) hg1 (fun z => by rw [hc1]; have := hN z; split <;> omega) (by omega)
    refine ⟨i1, fun z => ?_, ?_⟩
    · show cntY (tlyG (giveY gs t) ts) z = _
      rw [i2, hc1, List.count_cons]
      by_cases e : z = t
      · subst e
        rw [if_pos ⟨rfl, by omega⟩]; simp; omega
      · rw [if_neg (fun h => e h.1), if_neg (by simpa using fun h => e h.symm)]; simp
    · show (tlyG (giveY gs t) ts).length ≤ _
      simp only [List.length_cons]; omega
theorem tlyP_good {ts : List Int} (ht : TgtP ts) (hl : ts.length ≤ 2147483647) : GoodY (tlyP ts) ∧ (∀ z, cntY (tlyP ts) z = (ts.count z : Int)) ∧ (tlyP ts).length ≤ ts.length := by
  obtain ⟨h1, h2, h3⟩ := tlyG_good ts (gs := []) (N := 0) ht GoodY.nil (fun z => by rw [cntY_nil]; omega) (by omega)
  exact ⟨h1, fun z => by have := h2 z; rw [cntY_nil] at this; unfold tlyP; omega, by unfold tlyP; simpa using h3⟩
end Go.Proofs.YtionleocbjfgaaaDoor

/- Counts as plain things: a rising list of regions and their counts. -/
import Derived.Test.YtionleocbjfgaaaDoorMapL
import Derived.Test.YtionleocbjfgaaaDoorRunZ
namespace Go.Proofs.YtionleocbjfgaaaDoor

/-- A region's count. -/
def cntY (gs : List RunZ) (z : Int) : Int := (atL gs z).getD 0
/-- With a count. -/
def setY (gs : List RunZ) (z n : Int) : List RunZ := if n = 0 then delL gs z else putL gs z n
/-- Rising; regions from 1 on, counts from 1 to the greatest. -/
structure GoodY (gs : List RunZ) : Prop where
  rise : RiseL gs
  key : ∀ r ∈ gs, 1 ≤ r.1 ∧ r.1 ≤ 9223372036854775807
  val : ∀ r ∈ gs, 1 ≤ r.2 ∧ r.2 ≤ 2147483647
theorem GoodY.nil : GoodY [] := ⟨List.Pairwise.nil, by simp, by simp⟩
theorem cntY_nil (z : Int) : cntY [] z = 0 := rfl
theorem cntY_mem {gs : List RunZ} (h : RiseL gs) {z n : Int} (hm : (z, n) ∈ gs) : cntY gs z = n := by unfold cntY; rw [atL_mem h hm]; rfl
theorem cntY_none {gs : List RunZ} {z : Int} (h : z ∉ keysL gs) : cntY gs z = 0 := by unfold cntY; rw [atL_none h]; rfl
theorem cntY_or (gs : List RunZ) (h : RiseL gs) (z : Int) : (z, cntY gs z) ∈ gs ∨ (z ∉ keysL gs ∧ cntY gs z = 0) := by
  by_cases hz : z ∈ keysL gs
  · obtain ⟨v, hv⟩ := mem_keysL.1 hz
    rw [cntY_mem h hv]; exact .inl hv
  · exact .inr ⟨hz, cntY_none hz⟩
theorem GoodY.count {gs : List RunZ} (h : GoodY gs) (z : Int) : 0 ≤ cntY gs z ∧ cntY gs z ≤ 2147483647 ∧ (cntY gs z ≠ 0 → 1 ≤ z) := by
  rcases cntY_or gs h.rise z with hm | ⟨_, h0⟩
  · have h1 := h.key _ hm
    have h2 := h.val _ hm
    simp only at h1 h2
    exact ⟨by omega, h2.2, fun _ => h1.1⟩
  · rw [h0]; exact ⟨by omega, by omega, fun h => absurd rfl h⟩
theorem GoodY.low {gs : List RunZ} (h : GoodY gs) {z : Int} (hz : z < 1) : cntY gs z = 0 := by
  have := (h.count z).2.2
  by_cases e : cntY gs z = 0
  · exact e
  · have := this e; omega
theorem mem_setY {gs : List RunZ} {z n : Int} {r : RunZ} : r ∈ setY gs z n ↔ (n ≠ 0 ∧ r = (z, n)) ∨ (r ∈ gs ∧ r.1 ≠ z) := by
  unfold setY
  split
  · rename_i h; rw [mem_delL]; simp [h]
  · rename_i h; rw [mem_putL]; simp [h]
theorem riseL_setY {gs : List RunZ} (h : RiseL gs) (z n : Int) : RiseL (setY gs z n) := by
  unfold setY
  split
  · exact riseL_del h z
  · exact riseL_put h z n
theorem cntY_set {gs : List RunZ} (h : RiseL gs) (z n y : Int) : cntY (setY gs z n) y = if y = z then n else cntY gs y := by
  have hr := riseL_setY h z n
  by_cases e : y = z
  · subst e
    rw [if_pos rfl]
    by_cases h0 : n = 0
    · subst h0
      refine cntY_none fun hk => ?_
      obtain ⟨v, hv⟩ := mem_keysL.1 hk
      rcases mem_setY.1 hv with ⟨h1, _⟩ | ⟨_, h1⟩
      · exact h1 rfl
      · exact h1 rfl
    · exact cntY_mem hr (mem_setY.2 (.inl ⟨h0, rfl⟩))
  · rw [if_neg e]
    rcases cntY_or gs h y with hm | ⟨hn, h0⟩
    · exact cntY_mem hr (mem_setY.2 (.inr ⟨hm, e⟩))
    · rw [h0]
      refine cntY_none fun hk => ?_
      obtain ⟨v, hv⟩ := mem_keysL.1 hk
      rcases mem_setY.1 hv with ⟨_, h1⟩ | ⟨h1, _⟩
      · exact e (Prod.mk.inj h1).1
      · exact hn (mem_keysL.2 ⟨v, h1⟩)
theorem GoodY.set {gs : List RunZ} (h : GoodY gs) {z n : Int} (hz : z ≤ 9223372036854775807) (hn : 0 ≤ n ∧ n ≤ 2147483647) (h1 : n ≠ 0 → 1 ≤ z) : GoodY (setY gs z n) := by
  refine ⟨riseL_setY h.rise z n, fun r hr => ?_, fun r hr => ?_⟩
  · rcases mem_setY.1 hr with ⟨h0, rfl⟩ | ⟨hm, _⟩
    · exact ⟨h1 h0, hz⟩
    · exact h.key r hm
  · rcases mem_setY.1 hr with ⟨h0, rfl⟩ | ⟨hm, _⟩
    · exact ⟨by simp only; omega, hn.2⟩
    · exact h.val r hm
/-- The same counts: the same list. -/
theorem GoodY.ext {gs gs' : List RunZ} (h : GoodY gs) (h' : GoodY gs') (he : ∀ z, cntY gs z = cntY gs' z) : gs = gs' := by
  have key : ∀ {a b : List RunZ}, GoodY a → GoodY b → (∀ z, cntY a z = cntY b z) → ∀ r, r ∈ a → r ∈ b := by
    intro a b ha hb hab r hr
    obtain ⟨z, n⟩ := r
    have h1 := cntY_mem ha.rise hr
    have h2 := ha.val _ hr
    simp only at h2
    rcases cntY_or b hb.rise z with hm | ⟨_, h0⟩
    · rw [← hab z, h1] at hm; exact hm
    · rw [← hab z, h1] at h0; omega
  have nd : ∀ {a : List RunZ}, RiseL a → a.Nodup := fun ha => ha.imp (fun {a b} h e => by rw [e] at h; omega)
  refine List.Perm.eq_of_pairwise (le := fun a b : RunZ => a.1 < b.1) (fun a b _ _ h1 h2 => by omega) h.rise h'.rise ?_
  exact (List.perm_ext_iff_of_nodup (nd h.rise) (nd h'.rise)).2 fun r => ⟨key h h' he r, key h' h (fun z => (he z).symm) r⟩
theorem delL_len (gs : List RunZ) (z : Int) : (delL gs z).length ≤ gs.length := List.length_filter_le _ _
theorem insL_lenY (gs : List (Int × Int)) (x : Int × Int) : (insL gs x).length = gs.length + 1 := by
  have := congrArg List.length (List.takeWhile_append_dropWhile (p := fun r : Int × Int => decide (r.1 < x.1)) (l := gs))
  simp only [List.length_append] at this
  simp [insL]; omega
theorem setY_len (gs : List RunZ) (z n : Int) : (setY gs z n).length ≤ gs.length + 1 := by
  have := delL_len gs z
  unfold setY
  split
  · omega
  · unfold putL; rw [insL_lenY]; omega

/-- All counts together. -/
def sumY (gs : List RunZ) : Int := (gs.map (·.2)).sum
theorem sumY_nil : sumY [] = 0 := rfl
theorem sumY_cons (r : RunZ) (gs : List RunZ) : sumY (r :: gs) = r.2 + sumY gs := by simp [sumY]
theorem sumY_append (a b : List RunZ) : sumY (a ++ b) = sumY a + sumY b := by simp [sumY]
theorem cntY_cons (r : RunZ) (gs : List RunZ) (z : Int) : cntY (r :: gs) z = if r.1 = z then r.2 else cntY gs z := by
  unfold cntY atL
  by_cases h : r.1 = z <;> simp [h]
theorem delL_same {gs : List RunZ} {z : Int} (h : z ∉ keysL gs) : delL gs z = gs := by
  unfold delL
  exact List.filter_eq_self.2 (fun r hr => by
    have : r.1 ≠ z := fun e => h (e ▸ List.mem_map_of_mem hr)
    simp [this])
theorem keysL_above {r : RunZ} {gs : List RunZ} (h : RiseL (r :: gs)) {z : Int} (hz : z ≤ r.1) : z ∉ keysL gs := fun hk => by
  obtain ⟨v, hv⟩ := mem_keysL.1 hk
  have := (List.pairwise_cons.1 h).1 _ hv
  simp only at this; omega
theorem sumY_del : ∀ {gs : List RunZ}, RiseL gs → ∀ z, sumY (delL gs z) = sumY gs - cntY gs z
  | [], _, z => by simp [delL, sumY, cntY_nil]
  | r :: gs, h, z => by
    have ih := sumY_del (List.pairwise_cons.1 h).2 z
    rw [cntY_cons, sumY_cons]
    by_cases e : r.1 = z
    · have hn : z ∉ keysL gs := keysL_above h (by omega)
      rw [if_pos e, show delL (r :: gs) z = delL gs z from by simp [delL, e], delL_same hn]; omega
    · rw [if_neg e, show delL (r :: gs) z = r :: delL gs z from by simp [delL, e], sumY_cons, ih]; omega
theorem sumY_ins (gs : List (Int × Int)) (x : Int × Int) : sumY (insL gs x) = sumY gs + x.2 := by
  have := congrArg sumY (List.takeWhile_append_dropWhile (p := fun r : Int × Int => decide (r.1 < x.1)) (l := gs))
  rw [sumY_append] at this
  unfold insL
  rw [sumY_append, sumY_cons]; omega
theorem sumY_set {gs : List RunZ} (h : RiseL gs) (z n : Int) : sumY (setY gs z n) = sumY gs - cntY gs z + n := by
  unfold setY
  split
  · rename_i e; rw [sumY_del h, e]; omega
  · unfold putL; rw [sumY_ins, sumY_del h]
theorem GoodY.sum : ∀ {gs : List RunZ}, (∀ r ∈ gs, 1 ≤ r.2 ∧ r.2 ≤ 2147483647) → 0 ≤ sumY gs ∧ sumY gs ≤ 2147483647 * gs.length
  | [], _ => by simp [sumY]
  | r :: gs, h => by
    have ih := GoodY.sum (gs := gs) (fun x hx => h x (by simp [hx]))
    have := h r (by simp)
    rw [sumY_cons]
    simp only [List.length_cons]
    omega

/-- Behind Add: the counts, the error's number. -/
def addY (gs : List RunZ) (z n : Int) : List RunZ × Int :=
  if z < 1 then (gs, 1) else if n < -cntY gs z ∨ 2147483647 - cntY gs z < n then (gs, 8) else (setY gs z (cntY gs z + n), 0)
theorem addY_arg {gs : List RunZ} {z n : Int} (h : z < 1) : addY gs z n = (gs, 1) := by unfold addY; rw [if_pos h]
theorem addY_range {gs : List RunZ} {z n : Int} (h : ¬ z < 1) (h2 : n < -cntY gs z ∨ 2147483647 - cntY gs z < n) : addY gs z n = (gs, 8) := by unfold addY; rw [if_neg h, if_pos h2]
theorem addY_ok {gs : List RunZ} {z n : Int} (h : ¬ z < 1) (h2 : ¬ (n < -cntY gs z ∨ 2147483647 - cntY gs z < n)) : addY gs z n = (setY gs z (cntY gs z + n), 0) := by unfold addY; rw [if_neg h, if_neg h2]
/-- Without one, where it is a region. -/
def takeY (gs : List RunZ) (o : Int) : List RunZ := if o = 0 then gs else setY gs o (cntY gs o - 1)
/-- With one more, where it is a region. -/
def giveY (gs : List RunZ) (f : Int) : List RunZ := if f = 0 then gs else setY gs f (cntY gs f + 1)
/-- Behind Swap: the counts, the error's number. -/
def swapY (gs : List RunZ) (o f : Int) : List RunZ × Int :=
  if o < 0 ∨ f < 0 then (gs, 1) else if o ≠ 0 ∧ cntY gs o = 0 then (gs, 8) else if f ≠ o ∧ cntY gs f = 2147483647 then (gs, 8) else (giveY (takeY gs o) f, 0)
theorem swapY_arg {gs : List RunZ} {o f : Int} (h : o < 0 ∨ f < 0) : swapY gs o f = (gs, 1) := by unfold swapY; rw [if_pos h]
theorem swapY_none {gs : List RunZ} {o f : Int} (h : ¬ (o < 0 ∨ f < 0)) (h2 : o ≠ 0 ∧ cntY gs o = 0) : swapY gs o f = (gs, 8) := by unfold swapY; rw [if_neg h, if_pos h2]
theorem swapY_most {gs : List RunZ} {o f : Int} (h : ¬ (o < 0 ∨ f < 0)) (h2 : ¬ (o ≠ 0 ∧ cntY gs o = 0)) (h3 : f ≠ o ∧ cntY gs f = 2147483647) : swapY gs o f = (gs, 8) := by unfold swapY; rw [if_neg h, if_neg h2, if_pos h3]
theorem swapY_ok {gs : List RunZ} {o f : Int} (h : ¬ (o < 0 ∨ f < 0)) (h2 : ¬ (o ≠ 0 ∧ cntY gs o = 0)) (h3 : ¬ (f ≠ o ∧ cntY gs f = 2147483647)) : swapY gs o f = (giveY (takeY gs o) f, 0) := by unfold swapY; rw [if_neg h, if_neg h2, if_neg h3]
theorem cntY_take {gs : List RunZ} (h : RiseL gs) (o y : Int) : cntY (takeY gs o) y = cntY gs y - if y = o ∧ o ≠ 0 then 1 else 0 := by
  unfold takeY
  by_cases h0 : o = 0
  · rw [if_pos h0, if_neg (by simp [h0])]; omega
  · rw [if_neg h0, cntY_set h]
    by_cases e : y = o
    · subst e; rw [if_pos rfl, if_pos ⟨rfl, h0⟩]
    · rw [if_neg e, if_neg (fun h => e h.1)]; omega
theorem cntY_give {gs : List RunZ} (h : RiseL gs) (f y : Int) : cntY (giveY gs f) y = cntY gs y + if y = f ∧ f ≠ 0 then 1 else 0 := by
  unfold giveY
  by_cases h0 : f = 0
  · rw [if_pos h0, if_neg (by simp [h0])]; omega
  · rw [if_neg h0, cntY_set h]
    by_cases e : y = f
    · subst e; rw [if_pos rfl, if_pos ⟨rfl, h0⟩]
    · rw [if_neg e, if_neg (fun h => e h.1)]; omega
theorem GoodY.take {gs : List RunZ} (h : GoodY gs) {o : Int} (ho : 0 ≤ o ∧ o ≤ 9223372036854775807) (h1 : ¬ (o ≠ 0 ∧ cntY gs o = 0)) : GoodY (takeY gs o) := by
  unfold takeY
  by_cases h0 : o = 0
  · rw [if_pos h0]; exact h
  · rw [if_neg h0]
    have := h.count o
    have hc : cntY gs o ≠ 0 := fun e => h1 ⟨h0, e⟩
    exact h.set ho.2 (by omega) (fun _ => by omega)
theorem GoodY.give {gs : List RunZ} (h : GoodY gs) {f : Int} (hf : 0 ≤ f ∧ f ≤ 9223372036854775807) (h1 : cntY gs f ≠ 2147483647) : GoodY (giveY gs f) := by
  unfold giveY
  by_cases h0 : f = 0
  · rw [if_pos h0]; exact h
  · rw [if_neg h0]
    have := h.count f
    exact h.set hf.2 (by omega) (fun _ => by omega)
/-- What is given back has room. -/
theorem GoodY.room {gs : List RunZ} (h : GoodY gs) {o f : Int} (h1 : ¬ (o ≠ 0 ∧ cntY gs o = 0)) (h2 : ¬ (f ≠ o ∧ cntY gs f = 2147483647)) : cntY (takeY gs o) f ≠ 2147483647 := by
  rw [cntY_take h.rise]
  have hc := h.count f
  by_cases e : f = o
  · subst e
    by_cases h0 : f = 0
    · have := h.low (z := f) (by omega)
      rw [if_neg (by simp [h0])]; omega
    · have : cntY gs f ≠ 0 := fun e => h1 ⟨h0, e⟩
      rw [if_pos ⟨rfl, h0⟩]; omega
  · have : cntY gs f ≠ 2147483647 := fun h => h2 ⟨e, h⟩
    rw [if_neg (fun h => e h.1)]; omega
theorem GoodY.add {gs : List RunZ} (h : GoodY gs) {z n : Int} (hz : z ≤ 9223372036854775807) : GoodY (addY gs z n).1 := by
  unfold addY
  split
  · exact h
  · split
    · exact h
    · have := h.count z
      exact h.set hz (by omega) (fun _ => by omega)
theorem GoodY.swap {gs : List RunZ} (h : GoodY gs) {o f : Int} (ho : o ≤ 9223372036854775807) (hf : f ≤ 9223372036854775807) : GoodY (swapY gs o f).1 := by
  unfold swapY
  split
  · exact h
  · split
    · exact h
    · split
      · exact h
      · rename_i h1 h2 h3
        exact (h.take (by omega) h2).give (by omega) (h.room h2 h3)
theorem swapY_err {gs : List RunZ} {o f : Int} (h : (swapY gs o f).2 ≠ 0) : (swapY gs o f).1 = gs := by
  unfold swapY at h ⊢
  split
  · rfl
  · split
    · rfl
    · split
      · rfl
      · rename_i h1 h2 h3
        rw [if_neg h1, if_neg h2, if_neg h3] at h
        exact absurd rfl h
theorem addY_err {gs : List RunZ} {z n : Int} (h : (addY gs z n).2 ≠ 0) : (addY gs z n).1 = gs := by
  unfold addY at h ⊢
  split
  · rfl
  · split
    · rfl
    · rename_i h1 h2
      rw [if_neg h1, if_neg h2] at h
      exact absurd rfl h
theorem takeY_len (gs : List RunZ) (o : Int) : (takeY gs o).length ≤ gs.length + 1 := by
  unfold takeY; split
  · omega
  · exact setY_len _ _ _
theorem giveY_len (gs : List RunZ) (f : Int) : (giveY gs f).length ≤ gs.length + 1 := by
  unfold giveY; split
  · omega
  · exact setY_len _ _ _
theorem addY_len (gs : List RunZ) (z n : Int) : (addY gs z n).1.length ≤ gs.length + 1 := by
  unfold addY; split
  · simp
  · split
    · simp
    · exact setY_len _ _ _
theorem swapY_len (gs : List RunZ) (o f : Int) : (swapY gs o f).1.length ≤ gs.length + 2 := by
  have h1 := takeY_len gs o
  have h2 := giveY_len (takeY gs o) f
  unfold swapY; split
  · simp
  · split
    · simp
    · split
      · simp
      · simp only; omega
/-- A swap that is done, done back, changes nothing. -/
theorem swapY_back {gs : List RunZ} (h : GoodY gs) {o f : Int} (ho : o ≤ 9223372036854775807) (hf : f ≤ 9223372036854775807) (h0 : (swapY gs o f).2 = 0) : swapY (swapY gs o f).1 f o = (gs, 0) := by
  by_cases h1 : o < 0 ∨ f < 0
  · rw [swapY_arg h1] at h0; simp at h0
  by_cases h2 : o ≠ 0 ∧ cntY gs o = 0
  · rw [swapY_none h1 h2] at h0; simp at h0
  by_cases h3 : f ≠ o ∧ cntY gs f = 2147483647
  · rw [swapY_most h1 h2 h3] at h0; simp at h0
  have hg := h.swap (o := o) (f := f) ho hf
  rw [swapY_ok h1 h2 h3] at hg ⊢
  simp only at hg ⊢
  have ht := h.take (o := o) (by omega) h2
  have hcn : ∀ y, cntY (giveY (takeY gs o) f) y = cntY gs y - (if y = o ∧ o ≠ 0 then 1 else 0) + if y = f ∧ f ≠ 0 then 1 else 0 := fun y => by rw [cntY_give ht.rise, cntY_take h.rise]
  have co := h.count o
  have cf := h.count f
  have k1 : ¬ (f < 0 ∨ o < 0) := by omega
  have k2 : ¬ (f ≠ 0 ∧ cntY (giveY (takeY gs o) f) f = 0) := by
    rintro ⟨hf0, hc⟩
    have hz := (ht.count f).1
    rw [cntY_give ht.rise, if_pos ⟨rfl, hf0⟩] at hc
    omega
  have k3 : ¬ (o ≠ f ∧ cntY (giveY (takeY gs o) f) o = 2147483647) := by
    rintro ⟨hne, hc⟩
    rw [hcn, if_neg (show ¬ (o = f ∧ f ≠ 0) from fun h => hne h.1)] at hc
    by_cases ho0 : o = 0
    · have := h.low (z := o) (by omega)
      rw [if_neg (by simp [ho0])] at hc
      omega
    · rw [if_pos ⟨rfl, ho0⟩] at hc
      omega
  rw [swapY_ok k1 k2 k3]
  have hb := hg.take (o := f) (by omega) k2
  have hroom := hg.room k2 k3
  have hb2 := hb.give (f := o) (by omega) hroom
  have e : giveY (takeY (giveY (takeY gs o) f) f) o = gs := hb2.ext h fun y => by
    rw [cntY_give hb.rise, cntY_take hg.rise, hcn]
    omega
  rw [e]
theorem swapY_sum {gs : List RunZ} (h : GoodY gs) {o f : Int} (ho : o ≠ 0) (hf : f ≠ 0) (h0 : (swapY gs o f).2 = 0) : sumY (swapY gs o f).1 = sumY gs := by
  by_cases h1 : o < 0 ∨ f < 0
  · rw [swapY_arg h1] at h0; simp at h0
  by_cases h2 : o ≠ 0 ∧ cntY gs o = 0
  · rw [swapY_none h1 h2] at h0; simp at h0
  by_cases h3 : f ≠ o ∧ cntY gs f = 2147483647
  · rw [swapY_most h1 h2 h3] at h0; simp at h0
  rw [swapY_ok h1 h2 h3]
  simp only
  have hr : RiseL (takeY gs o) := by
    unfold takeY; split
    · exact h.rise
    · exact riseL_setY h.rise _ _
  rw [show giveY (takeY gs o) f = setY (takeY gs o) f (cntY (takeY gs o) f + 1) from by unfold giveY; rw [if_neg hf], sumY_set hr, show takeY gs o = setY gs o (cntY gs o - 1) from by unfold takeY; rw [if_neg ho], sumY_set h.rise]
  omega
theorem addY_sum {gs : List RunZ} (h : GoodY gs) {z n : Int} (h0 : (addY gs z n).2 = 0) : sumY (addY gs z n).1 = sumY gs + n := by
  by_cases h1 : z < 1
  · rw [addY_arg h1] at h0; simp at h0
  by_cases h2 : n < -cntY gs z ∨ 2147483647 - cntY gs z < n
  · rw [addY_range h1 h2] at h0; simp at h0
  rw [addY_ok h1 h2]
  simp only
  rw [sumY_set h.rise]; omega

/-- The document's way of setting: what is still to come behind a place, is the entry laid already? -/
def setW (z n : Int) : Bool → List RunZ → List RunZ
  | laid, [] => if laid then [] else [(z, n)]
  | laid, r :: rs => (if laid = false ∧ z < r.1 then [(z, n)] else []) ++ (if r.1 = z then [] else [r]) ++ setW z n (laid || decide (z < r.1)) rs
theorem setW_laid (z n : Int) : ∀ gs : List RunZ, setW z n true gs = delL gs z
  | [] => rfl
  | r :: gs => by
    unfold setW
    rw [Bool.true_or, setW_laid z n gs, if_neg (by simp)]
    by_cases e : r.1 = z
    · simp [delL, e]
    · simp [delL, e]
theorem setW_put (z n : Int) : ∀ {gs : List RunZ}, RiseL gs → setW z n false gs = putL gs z n
  | [], _ => rfl
  | r :: gs, h => by
    have hr := (List.pairwise_cons.1 h).2
    unfold setW
    by_cases h1 : z < r.1
    · have hn : z ∉ keysL (r :: gs) := fun hk => by
        obtain ⟨v, hv⟩ := mem_keysL.1 hk
        rcases List.mem_cons.1 hv with e | hv
        · rw [← e] at h1; simp only at h1; omega
        · exact keysL_above h (by omega) (mem_keysL.2 ⟨v, hv⟩)
      have hn2 : z ∉ keysL gs := keysL_above h (by omega)
      have e : ¬ r.1 = z := by omega
      have e2 : ¬ r.1 < z := by omega
      rw [decide_eq_true h1, Bool.or_true, setW_laid, delL_same hn2, if_pos ⟨rfl, h1⟩, if_neg e]
      unfold putL
      rw [delL_same hn]
      simp [insL, e2]
    · rw [decide_eq_false h1, Bool.or_false, setW_put z n hr, if_neg (fun h => h1 h.2)]
      by_cases e : r.1 = z
      · rw [if_pos e]
        unfold putL
        simp [delL, e]
      · have e2 : r.1 < z := by omega
        rw [if_neg e]
        unfold putL
        rw [show delL (r :: gs) z = r :: delL gs z from by simp [delL, e]]
        simp [insL, e2]
theorem setW_eq {gs : List RunZ} (h : RiseL gs) (z n : Int) : setW z n (decide (n = 0)) gs = setY gs z n := by
  unfold setY
  by_cases e : n = 0
  · rw [decide_eq_true e, if_pos e, setW_laid]
  · rw [decide_eq_false e, if_neg e, setW_put z n h]
end Go.Proofs.YtionleocbjfgaaaDoor

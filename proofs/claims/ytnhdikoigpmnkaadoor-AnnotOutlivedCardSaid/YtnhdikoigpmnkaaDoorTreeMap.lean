/- A map from ints to ints, told by the rising list of its entries. -/
import Derived.Test.YtnhdikoigpmnkaaDoorKeys
import Derived.Test.YtnhdikoigpmnkaaDoorTreePlain
import Derived.Maps.RangeWalk
namespace Go.Proofs.YtnhdikoigpmnkaaDoor
open Go.RowKit Go.Maps

/-- The map that has just these entries. -/
def setT (rs : List Rw) : DataW Unit := .map (rs.map fun r => (Lit.int .i64 r.1, DataW.lit (.int .i64 r.2)))
theorem size_setT (rs : List Rw) : Maps.size (setT rs) = rs.length := by simp [setT, Maps.size]
theorem has_setT (rs : List Rw) (z : Int) : Maps.has (setT rs) (.int .i64 z) = decide (z ∈ idsT rs) := by
  rw [setT, has_eq, List.any_map, Bool.eq_iff_iff, decide_eq_true_eq, mem_ids]
  simp [sameKey_int]
theorem parB_nil (z : Int) : parB [] z = 0 := rfl
theorem parB_cons (r : Rw) (rs : List Rw) (z : Int) : parB (r :: rs) z = if r.1 = z then r.2 else parB rs z := by
  unfold parB
  by_cases h : r.1 = z <;> simp [h]
theorem atKey_setT (rs : List Rw) (z : Int) : (setT rs).atKey (.int .i64 z) (.lit (.int .i64 0)) = .lit (.int .i64 (parB rs z)) := by
  unfold setT
  induction rs with
  | nil => rfl
  | cons r rs ih =>
    unfold DataW.atKey at ih ⊢
    rw [parB_cons]
    by_cases e : r.1 = z
    · simp [sameKey_int, e]
    · simp only [List.map_cons, List.find?_cons, sameKey_int, e, decide_false, if_false]
      simpa using ih
theorem insert_setT (x : Rw) : ∀ rs : List Rw, x.1 ∉ idsT rs → DataW.insert (H := Unit) (Lit.int .i64 x.1, DataW.lit (.int .i64 x.2)) (rs.map fun r => (Lit.int .i64 r.1, DataW.lit (.int .i64 r.2))) = (insB rs x).map fun r => (Lit.int .i64 r.1, DataW.lit (.int .i64 r.2))
  | [], _ => rfl
  | r :: rs, h => by
    have hne : x.1 ≠ r.1 := fun e => h (by simp [idsT, e])
    have ih := insert_setT x rs (fun m => h (by simp only [idsT, List.map_cons, List.mem_cons] at *; exact .inr m))
    simp only [List.map_cons]
    unfold DataW.insert
    by_cases hlt : r.1 < x.1
    · have hb : (Lit.int .i64 x.1).before (.int .i64 r.1) = false := by simp [Lit.before]; omega
      simp only [hb]
      rw [ih]
      simp [insB, hlt]
    · have hb : (Lit.int .i64 x.1).before (.int .i64 r.1) = true := by simp [Lit.before]; omega
      simp only [hb]
      simp [insB, hlt]
theorem put_setT {rs : List Rw} {x : Rw} (h : x.1 ∉ idsT rs) : (setT rs).put (.int .i64 x.1) (.lit (.int .i64 x.2)) = setT (insB rs x) := by
  show DataW.map (DataW.insert (_, _) ((rs.map _).filter _)) = _
  rw [List.filter_eq_self.2 (fun p hp => by
    obtain ⟨r, hr, rfl⟩ := List.mem_map.1 hp
    have : r.1 ≠ x.1 := fun e => h (e ▸ List.mem_map_of_mem hr)
    simp [sameKey_int, this]), insert_setT x rs h]
  rfl
theorem del_setT (rs : List Rw) (z : Int) : (setT rs).del (.int .i64 z) = setT (delB rs z) := by
  show DataW.map ((rs.map _).filter _) = DataW.map _
  unfold delB
  rw [List.filter_map]
  congr 2
  exact List.filter_congr (fun x _ => by simp [sameKey_int])
theorem insB_length (rs : List Rw) (x : Rw) : (insB rs x).length = rs.length + 1 := by
  have := congrArg List.length (List.takeWhile_append_dropWhile (p := fun r : Rw => decide (r.1 < x.1)) (l := rs))
  simp only [List.length_append] at this
  simp [insB]; omega
theorem zero_int (w : World) : (zeroValue 3).run Tryd.prog w = .ok (.int .i64 0) w := by kernel_rfl

/-- Block b is a map that has just the entries rs. -/
def OwnT (w : World) (b : Nat) (rs : List Rw) : Prop := w.ownsMap Tryd.prog 3 (plainElem Tryd.prog 3) b rs.length (setT rs)
theorem tight {H : Type} {R : Value → Option (DataW H × List MemPlace)} {w : World} {b n : Nat} {D : DataW H} (h : w.ownsMap Tryd.prog 3 R b n D) : w.ownsMap Tryd.prog 3 R b (Maps.size D) D := by
  obtain ⟨es, clock, hb, F, hs, rfl⟩ := h
  exact ⟨es, clock, hb, F, by simp [Maps.size, length_sorted], rfl⟩
theorem OwnT.of {w : World} {b n : Nat} {D : DataW Unit} {rs : List Rw} (h : w.ownsMap Tryd.prog 3 (plainElem Tryd.prog 3) b n D) (e : D = setT rs) : OwnT w b rs := by
  subst e
  have := tight h
  rwa [size_setT] at this
theorem OwnT.made (w : World) : OwnT (w.alloc (.map #[] 0)) w.heap.size [] := World.ownsMap_made w _ _ _
theorem OwnT.lt {w : World} {b : Nat} {rs : List Rw} (h : OwnT w b rs) : b < w.heap.size := World.ownsMap.lt h
theorem OwnT.kept {w w' : World} {S : List Nat} {b : Nat} {rs : List Rw} (h : OwnT w b rs) (hk : Kept S w w') (hn : b ∉ S) : OwnT w' b rs := by
  obtain ⟨es, clock, hb, h1⟩ := h
  exact ⟨es, clock, (hk.block b (lt_of_block hb) hn).trans hb, h1⟩
/-- 'm[k]'. -/
theorem OwnT.look {w : World} {b : Nat} {rs : List Rw} (h : OwnT w b rs) {z : Int} (hz : Fit64 z) :
    (Instr.lookup 61 (.map (some b)) (.int .i64 z) false).run Tryd.prog w = .ok (.int .i64 (parB rs z)) w := by
  obtain ⟨c, hrun, hat, _⟩ := World.ownsMap.lookup_int h keyed_int Tryd.underlying61 Tryd.underlying3 (zero_int w) (keyOf_int_mk Tryd.underlying3 hz.wf)
  rw [atKey_setT] at hat
  simp only [DataW.lit.injEq, Lit.int.injEq, true_and] at hat
  rw [hrun, hat]
/-- 'v, ok := m[k]'. -/
theorem OwnT.look_ok {w : World} {b : Nat} {rs : List Rw} (h : OwnT w b rs) {z : Int} (hz : Fit64 z) :
    (Instr.lookup 61 (.map (some b)) (.int .i64 z) true).run Tryd.prog w = .ok (.tuple #[.int .i64 (parB rs z), .bool (decide (z ∈ idsT rs))]) w := by
  obtain ⟨v, ps, hrun, hv⟩ := World.ownsMap.look_ok h keyed_int Tryd.underlying61 (zero_int w) (plainElem_int Tryd.underlying3 (by decide)) (keyOf_int_mk Tryd.underlying3 hz.wf)
  obtain ⟨c, rfl, hc, _⟩ := plainElem_int_inv Tryd.underlying3 hv
  rw [atKey_setT] at hc
  simp only [Prod.mk.injEq, DataW.lit.injEq, Lit.int.injEq, true_and] at hc
  rw [hrun, has_setT, hc.1]
/-- 'len(m)'. -/
theorem OwnT.len {w : World} {b : Nat} {rs : List Rw} (h : OwnT w b rs) (ty : TypeId) : (Builtin.len_ #[61] ty #[.map (some b)]).run Tryd.prog w = .ok (.int .i64 rs.length) w := by
  have := World.ownsMap.len h Tryd.underlying61 ty
  rwa [size_setT] at this
/-- 'm[k] = v', k not there yet. -/
theorem wpList_mapUpdate_T (w : World) {ops : Array Oper} {rest : List Oper} {o : Oper} {a : Act} {Q : Exit → Act → World → Prop}
    (hg : o.guard = none) (m x v : Operand) (hop : o.op = Op.mapUpdate 61 m x v) (b : Nat) (rs : List Rw)
    (hm : a.eval m = .map (some b)) (hown : OwnT w b rs) (hn : rs.length < maxLen) (z p : Int) (hz : Fit64 z) (hp : Fit64 p) (hab : z ∉ idsT rs) (hx : a.eval x = .int .i64 z) (hv : a.eval v = .int .i64 p)
    (hK : ∀ w', OwnT w' b (insB rs (z, p)) → Kept [b] w w' → wpList Tryd.prog ops Q rest (a.put o.dst undef) w') :
    wpList Tryd.prog ops Q (o :: rest) a w := by
  refine wpList_mapUpdate_own w hg m x v _ hop 3 3 keyed_int Tryd.underlying61 (plainElem Tryd.prog 3) b _ _ hm hown hn _ _ (.int .i64 z) hx hv (keyOf_int_mk Tryd.underlying3 hz.wf) (.lit (.int .i64 p)) [] (plainElem_int Tryd.underlying3 hp.wf) ?_
  intro w' h1 h2
  exact hK w' (OwnT.of h1 (put_setT (x := (z, p)) hab)) (Kept.of_grown h2)
/-- 'delete(m, k)'. -/
theorem wpList_delete_T (w : World) {ops : Array Oper} {rest : List Oper} {o : Oper} {a : Act} {Q : Exit → Act → World → Prop}
    (hg : o.guard = none) (m x : Operand) (hop : o.op = Op.call { callee := Callee.builtin Builtin.delete, args := #[m, x], argTypes := #[61, 3] }) (b : Nat) (rs : List Rw)
    (hm : a.eval m = .map (some b)) (hown : OwnT w b rs) (z : Int) (hz : Fit64 z) (hx : a.eval x = .int .i64 z)
    (hK : ∀ w', OwnT w' b (delB rs z) → Kept [b] w w' → wpList Tryd.prog ops Q rest (a.put o.dst (.tuple #[])) w') :
    wpList Tryd.prog ops Q (o :: rest) a w := by
  refine wpList_delete_own w hg m x _ 3 hop 3 keyed_int Tryd.underlying61 (plainElem Tryd.prog 3) b _ _ hm hown _ (.int .i64 z) hx (keyOf_int_mk Tryd.underlying3 hz.wf) ?_
  intro w' h1 h2
  exact hK w' (OwnT.of h1 (del_setT rs z)) (Kept.of_grown h2.grown)

/-- What a range over such a map has met so far: no key twice, and just those entries that are no longer to come. -/
def CollT (rs : List Rw) (left : Lit → Bool) (ss : List Rw) : Prop := (idsT ss).Nodup ∧ ∀ x, x ∈ ss ↔ (x ∈ rs ∧ left (.int .i64 x.1) = false)
theorem CollT.start (rs : List Rw) : CollT rs (Maps.has (setT rs)) [] := ⟨List.nodup_nil, fun x => by
  rw [has_setT]; simp; intro h; exact List.mem_map_of_mem h⟩
/-- The entry that comes. -/
theorem entry_mem {rs : List Rw} (hr : rs.Pairwise (fun a b => a.1 < b.1)) {x c : Int} (hat : ∀ zd, (setT rs).atKey (.int .i64 x) zd = .lit (.int .i64 c)) : (x, c) ∈ rs := by
  have hhas := has_true_of_atKey hat
  rw [has_setT, decide_eq_true_eq] at hhas
  have h := hat (.lit (.int .i64 0))
  rw [atKey_setT] at h
  simp only [DataW.lit.injEq, Lit.int.injEq, true_and] at h
  obtain ⟨p, hp⟩ := mem_ids.1 hhas
  rw [par_of_mem hr hp] at h
  rw [← h]; exact hp
theorem CollT.step {rs ss : List Rw} {left : Lit → Bool} (hr : rs.Pairwise (fun a b => a.1 < b.1)) (h : CollT rs left ss) {x c : Int} (hlk : left (.int .i64 x) = true) (hm : (x, c) ∈ rs) :
    CollT rs (fun z => left z && !z.sameKey (.int .i64 x)) (ss ++ [(x, c)]) := by
  have hnew : x ∉ idsT ss := fun hx => by
    obtain ⟨p, hp⟩ := mem_ids.1 hx
    have := ((h.2 _).1 hp).2
    simp only at this
    rw [hlk] at this; cases this
  refine ⟨?_, fun y => ?_⟩
  · unfold idsT at *
    rw [List.map_append]
    exact List.nodup_append.2 ⟨h.1, by simp, fun a ha b hb => by simp at hb; subst hb; exact fun e => hnew (e ▸ ha)⟩
  · obtain ⟨y1, y2⟩ := y
    by_cases hy : y1 = x
    · subst hy
      simp only [List.mem_append, List.mem_singleton, sameKey_int, decide_true, Bool.not_true, Bool.and_false, and_true]
      constructor
      · rintro (h1 | h1)
        · exact ((h.2 _).1 h1).1
        · rw [h1]; exact hm
      · intro h1; exact .inr (by rw [rise_uniq hr h1 hm])
    · have := h.2 (y1, y2)
      simp [this, hy, sameKey_int]
theorem CollT.perm {rs ss : List Rw} {left : Lit → Bool} (h : CollT rs left ss) (hx : rs.Pairwise (fun a b => a.1 < b.1)) (hl : ∀ kl, left kl = false) : ss.Perm rs :=
  (List.perm_ext_iff_of_nodup (List.Pairwise.of_map (fun r : Rw => r.1) (fun a b h e => h (by rw [e])) h.1) (hx.imp (fun {a b} h e => by rw [e] at h; omega))).2 fun x => by rw [h.2 x, hl]; simp
/-- Sorted, what has the same members as a rising list is that. -/
theorem sorted_of_perm {ss xs : List Int} (hp : ss.Perm xs) (hx : xs.Pairwise (· < ·)) : ss.mergeSort (fun x y => decide (x ≤ y)) = xs := by
  refine List.Perm.eq_of_pairwise (le := fun a b : Int => a ≤ b) (fun a b _ _ h1 h2 => by omega) ?_ (hx.imp (fun h => by omega)) ((List.mergeSort_perm _ _).trans hp)
  have := List.pairwise_mergeSort (le := fun x y : Int => decide (x ≤ y)) (fun a b c h1 h2 => by simp at *; omega) (fun a b => by simp; omega) ss
  exact this.imp (fun h => by simpa using h)
end Go.Proofs.YtnhdikoigpmnkaaDoor

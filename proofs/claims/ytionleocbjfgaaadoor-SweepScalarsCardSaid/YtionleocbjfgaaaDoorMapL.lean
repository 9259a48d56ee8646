/- A map from ints to values of any kind, told by the rising list of its entries: each element as it stands (reader rawL). -/
import Derived.Test.YtionleocbjfgaaaDoorMapB
import Derived.Test.YtionleocbjfgaaaDoorKeys
import Derived.Maps.RangeWalk
namespace Go.Proofs.YtionleocbjfgaaaDoor
open Go.RowKit Go.Maps

/-- A map's element, read as it stands. -/
def rawL (v : Value) : Option (DataW Value × List MemPlace) := some (.held v, [])
theorem rawL_inv {v : Value} {y : DataW Value × List MemPlace} (h : rawL v = some y) : y = (.held v, []) := (Option.some.inj h).symm

section
variable {α : Type}
/-- The keys of such a list. -/
def keysL (gs : List (Int × α)) : List Int := gs.map (·.1)
/-- What stands at a key. -/
def atL (gs : List (Int × α)) (z : Int) : Option α := (gs.find? fun r => decide (r.1 = z)).map (·.2)
/-- Without a key. -/
def delL (gs : List (Int × α)) (z : Int) : List (Int × α) := gs.filter fun r => !decide (r.1 = z)
/-- With one entry more, in its place. -/
def insL (gs : List (Int × α)) (x : Int × α) : List (Int × α) := (gs.takeWhile fun r => decide (r.1 < x.1)) ++ x :: (gs.dropWhile fun r => decide (r.1 < x.1))
/-- At a key something else. -/
def putL (gs : List (Int × α)) (z : Int) (v : α) : List (Int × α) := insL (delL gs z) (z, v)
/-- Rising by keys. -/
def RiseL (gs : List (Int × α)) : Prop := gs.Pairwise (fun a b => a.1 < b.1)

theorem mem_keysL {gs : List (Int × α)} {z : Int} : z ∈ keysL gs ↔ ∃ v, (z, v) ∈ gs := by simp [keysL]
theorem uniqL : ∀ {gs : List (Int × α)}, RiseL gs → ∀ {z : Int} {p q : α}, (z, p) ∈ gs → (z, q) ∈ gs → p = q
  | [], _, z, p, q, h, _ => by simp at h
  | r :: gs, h, z, p, q, h1, h2 => by
    obtain ⟨ha, hb⟩ := List.pairwise_cons.1 h
    rcases List.mem_cons.1 h1 with e1 | e1 <;> rcases List.mem_cons.1 h2 with e2 | e2
    · rw [← e1] at e2; exact (Prod.mk.inj e2).2.symm
    · have := ha _ e2; rw [← e1] at this; simp at this
    · have := ha _ e1; rw [← e2] at this; simp at this
    · exact uniqL hb e1 e2
theorem atL_mem {gs : List (Int × α)} (hr : RiseL gs) {z : Int} {v : α} (h : (z, v) ∈ gs) : atL gs z = some v := by
  unfold atL
  cases hf : gs.find? fun r => decide (r.1 = z) with
  | none => have := List.find?_eq_none.1 hf _ h; simp at this
  | some r =>
    have h1 := List.mem_of_find?_eq_some hf
    have h2 := List.find?_some hf
    simp only [decide_eq_true_eq] at h2
    obtain ⟨a, b⟩ := r
    simp only at h2
    subst h2
    simp [uniqL hr h1 h]
theorem atL_none {gs : List (Int × α)} {z : Int} (h : z ∉ keysL gs) : atL gs z = none := by
  unfold atL
  rw [List.find?_eq_none.2 (fun r hr => by simp; intro e; exact h (e ▸ List.mem_map_of_mem hr))]
  rfl
theorem mem_delL {gs : List (Int × α)} {z : Int} {r : Int × α} : r ∈ delL gs z ↔ r ∈ gs ∧ r.1 ≠ z := by simp [delL]
theorem mem_insL {gs : List (Int × α)} {x y : Int × α} : y ∈ insL gs x ↔ y = x ∨ y ∈ gs := by
  unfold insL
  rw [List.mem_append, List.mem_cons]
  have : y ∈ gs ↔ y ∈ gs.takeWhile (fun r => decide (r.1 < x.1)) ∨ y ∈ gs.dropWhile (fun r => decide (r.1 < x.1)) := by
    rw [← List.mem_append, List.takeWhile_append_dropWhile]
  rw [this]
  constructor <;> rintro (h | h | h) <;> simp [h]
theorem mem_putL {gs : List (Int × α)} {z : Int} {v : α} {r : Int × α} : r ∈ putL gs z v ↔ r = (z, v) ∨ (r ∈ gs ∧ r.1 ≠ z) := by
  rw [putL, mem_insL, mem_delL]
theorem riseL_del {gs : List (Int × α)} (h : RiseL gs) (z : Int) : RiseL (delL gs z) := List.Pairwise.filter _ h
theorem takeL_lt (z : Int) : ∀ (gs : List (Int × α)), ∀ r ∈ gs.takeWhile (fun r => decide (r.1 < z)), r.1 < z
  | [], r, h => by simp at h
  | y :: gs, r, h => by
    rw [List.takeWhile_cons] at h
    split at h
    · rename_i hy
      rcases List.mem_cons.1 h with rfl | h
      · simpa using hy
      · exact takeL_lt z gs r h
    · simp at h
theorem riseL_ins {gs : List (Int × α)} (h : RiseL gs) {x : Int × α} (hn : x.1 ∉ keysL gs) : RiseL (insL gs x) := by
  unfold insL
  have hsub : ∀ r ∈ gs, r.1 ≠ x.1 := fun r hr e => hn (e ▸ List.mem_map_of_mem hr)
  have ht : ∀ r ∈ gs.takeWhile (fun r => decide (r.1 < x.1)), r.1 < x.1 := fun r hr => by
    have := takeL_lt x.1 gs r hr
    exact this
  have hd : ∀ r ∈ gs.dropWhile (fun r => decide (r.1 < x.1)), x.1 < r.1 := by
    clear ht hn
    induction gs with
    | nil => simp
    | cons y gs ih =>
      intro r hr
      rw [List.dropWhile_cons] at hr
      obtain ⟨ha, hb⟩ := List.pairwise_cons.1 h
      split at hr
      · exact ih hb (fun r hr => hsub r (by simp [hr])) r hr
      · rename_i hy
        have hy' : ¬ y.1 < x.1 := by simpa using hy
        have hxy : x.1 < y.1 := by have := hsub y (by simp); omega
        rcases List.mem_cons.1 hr with rfl | hr
        · exact hxy
        · have := ha r hr; omega
  refine List.pairwise_append.2 ⟨List.Pairwise.sublist (List.takeWhile_sublist _) h, List.pairwise_cons.2 ⟨fun r hr => hd r hr, List.Pairwise.sublist (List.dropWhile_sublist _) h⟩, fun a ha b hb => ?_⟩
  rcases List.mem_cons.1 hb with rfl | hb
  · exact ht a ha
  · exact Int.lt_trans (ht a ha) (hd b hb)
theorem not_keys_delL (gs : List (Int × α)) (z : Int) : z ∉ keysL (delL gs z) := by
  rw [mem_keysL]
  rintro ⟨v, hv⟩
  exact (mem_delL.1 hv).2 rfl
theorem riseL_put {gs : List (Int × α)} (h : RiseL gs) (z : Int) (v : α) : RiseL (putL gs z v) := riseL_ins (riseL_del h z) (not_keys_delL gs z)
/-- A rising list whose keys lie from a on, below b, has no more than b - a. -/
theorem lenL : ∀ {gs : List (Int × α)} {a b : Int}, RiseL gs → (∀ r ∈ gs, a ≤ r.1 ∧ r.1 < b) → (gs.length : Int) ≤ max (b - a) 0
  | [], a, b, _, _ => by simp; omega
  | r :: gs, a, b, h, hb => by
    obtain ⟨h1, h2⟩ := List.pairwise_cons.1 h
    have := lenL (a := r.1 + 1) (b := b) h2 (fun x hx => ⟨by have := h1 x hx; omega, (hb x (by simp [hx])).2⟩)
    have hr := hb r (by simp)
    simp only [List.length_cons]
    omega

/-- The map that has just these entries. -/
def setL (f : α → Value) (gs : List (Int × α)) : DataW Value := .map (gs.map fun r => (Lit.int .i64 r.1, DataW.held (f r.2)))
variable {f : α → Value}
theorem size_setL (gs : List (Int × α)) : Maps.size (setL f gs) = gs.length := by simp [setL, Maps.size]
theorem has_setL (gs : List (Int × α)) (z : Int) : Maps.has (setL f gs) (.int .i64 z) = decide (z ∈ keysL gs) := by
  rw [setL, has_eq, List.any_map, Bool.eq_iff_iff, decide_eq_true_eq, mem_keysL]
  simp [sameKey_int]
theorem atKey_setL (gs : List (Int × α)) (z : Int) (v0 : Value) : (setL f gs).atKey (.int .i64 z) (.held v0) = .held (((atL gs z).map f).getD v0) := by
  unfold setL atL
  induction gs with
  | nil => rfl
  | cons r gs ih =>
    unfold DataW.atKey at ih ⊢
    by_cases e : r.1 = z
    · simp [sameKey_int, e]
    · simp only [List.map_cons, List.find?_cons, sameKey_int, e, decide_false]
      exact ih
theorem insert_setL (x : Int × α) : ∀ gs : List (Int × α), x.1 ∉ keysL gs → DataW.insert (H := Value) (Lit.int .i64 x.1, DataW.held (f x.2)) (gs.map fun r => (Lit.int .i64 r.1, DataW.held (f r.2))) = (insL gs x).map fun r => (Lit.int .i64 r.1, DataW.held (f r.2))
  | [], _ => rfl
  | r :: gs, h => by
    have hne : x.1 ≠ r.1 := fun e => h (by simp [keysL, e])
    have ih := insert_setL x gs (fun m => h (by simp only [keysL, List.map_cons, List.mem_cons] at *; exact .inr m))
    simp only [List.map_cons]
    unfold DataW.insert
    by_cases hlt : r.1 < x.1
    · have hb : (Lit.int .i64 x.1).before (.int .i64 r.1) = false := by simp [Lit.before]; omega
      simp only [hb]
      rw [ih]
      simp [insL, hlt]
    · have hb : (Lit.int .i64 x.1).before (.int .i64 r.1) = true := by simp [Lit.before]; omega
      simp only [hb]
      simp [insL, hlt]
theorem del_setL (gs : List (Int × α)) (z : Int) : (setL f gs).del (.int .i64 z) = setL f (delL gs z) := by
  show DataW.map ((gs.map _).filter _) = DataW.map _
  unfold delL
  rw [List.filter_map]
  congr 2
  exact List.filter_congr (fun x _ => by simp [sameKey_int])
theorem put_setL (gs : List (Int × α)) (z : Int) (v : α) : (setL f gs).put (.int .i64 z) (.held (f v)) = setL f (putL gs z v) := by
  show DataW.map (DataW.insert (_, _) ((gs.map _).filter _)) = DataW.map _
  rw [List.filter_map]
  rw [List.filter_congr (q := fun r => !decide (r.1 = z)) (fun x _ => by simp [sameKey_int])]
  rw [show (gs.filter fun r => !decide (r.1 = z)) = delL gs z from rfl, insert_setL (z, v) (delL gs z) (not_keys_delL gs z)]
  rfl

/-- Block b is a map that has just the entries gs. -/
def OwnL (f : α → Value) (w : World) (b : Nat) (gs : List (Int × α)) : Prop := w.ownsMap Tryd.prog 3 rawL b gs.length (setL f gs)
theorem tightL {w : World} {b n : Nat} {D : DataW Value} (h : w.ownsMap Tryd.prog 3 rawL b n D) : w.ownsMap Tryd.prog 3 rawL b (Maps.size D) D := by
  obtain ⟨es, clock, hb, F, hs, rfl⟩ := h
  exact ⟨es, clock, hb, F, by simp [Maps.size, length_sorted], rfl⟩
theorem OwnL.of {w : World} {b n : Nat} {D : DataW Value} {gs : List (Int × α)} (h : w.ownsMap Tryd.prog 3 rawL b n D) (e : D = setL f gs) : OwnL f w b gs := by
  subst e
  have := tightL h
  rwa [size_setL] at this
theorem OwnL.made (f : α → Value) (w : World) : OwnL f (w.alloc (.map #[] 0)) w.heap.size [] := World.ownsMap_made w _ _ _
theorem OwnL.lt {w : World} {b : Nat} {gs : List (Int × α)} (h : OwnL f w b gs) : b < w.heap.size := World.ownsMap.lt h
theorem OwnL.kept {w w' : World} {S : List Nat} {b : Nat} {gs : List (Int × α)} (h : OwnL f w b gs) (hk : Kept S w w') (hn : b ∉ S) : OwnL f w' b gs := by
  obtain ⟨es, clock, hb, h1⟩ := h
  exact ⟨es, clock, (hk.block b (lt_of_block hb) hn).trans hb, h1⟩
/-- 'm[k]'. -/
theorem OwnL.look {t e : TypeId} {v0 : Value} (ht : Tryd.prog.underlying t = some (.map 3 e)) (hz0 : ∀ w, (zeroValue e).run Tryd.prog w = .ok v0 w) {w : World} {b : Nat} {gs : List (Int × α)} (h : OwnL f w b gs) {z : Int} (hz : Fit64 z) :
    (Instr.lookup t (.map (some b)) (.int .i64 z) false).run Tryd.prog w = .ok (((atL gs z).map f).getD v0) w := by
  obtain ⟨v, ps, hrun, hv⟩ := World.ownsMap.lookup h keyed_int ht (hz0 w) (R := rawL) rfl (keyOf_int_mk Tryd.underlying3 hz.wf)
  have hv := rawL_inv hv
  rw [atKey_setL] at hv
  simp only [Prod.mk.injEq, DataW.held.injEq] at hv
  rw [hrun, hv.1]
/-- 'v, ok := m[k]'. -/
theorem OwnL.look_ok {t e : TypeId} {v0 : Value} (ht : Tryd.prog.underlying t = some (.map 3 e)) (hz0 : ∀ w, (zeroValue e).run Tryd.prog w = .ok v0 w) {w : World} {b : Nat} {gs : List (Int × α)} (h : OwnL f w b gs) {z : Int} (hz : Fit64 z) :
    (Instr.lookup t (.map (some b)) (.int .i64 z) true).run Tryd.prog w = .ok (.tuple #[((atL gs z).map f).getD v0, .bool (decide (z ∈ keysL gs))]) w := by
  obtain ⟨v, ps, hrun, hv⟩ := World.ownsMap.look_ok h keyed_int ht (hz0 w) (R := rawL) rfl (keyOf_int_mk Tryd.underlying3 hz.wf)
  have hv := rawL_inv hv
  rw [atKey_setL] at hv
  simp only [Prod.mk.injEq, DataW.held.injEq] at hv
  rw [hrun, has_setL, hv.1]
/-- 'len(m)'. -/
theorem OwnL.len {t e : TypeId} (ht : Tryd.prog.underlying t = some (.map 3 e)) {w : World} {b : Nat} {gs : List (Int × α)} (h : OwnL f w b gs) (ty : TypeId) : (Builtin.len_ #[t] ty #[.map (some b)]).run Tryd.prog w = .ok (.int .i64 gs.length) w := by
  have := World.ownsMap.len h ht ty
  rwa [size_setL] at this
/-- 'm[k] = v'. -/
theorem wpList_mapUpdate_L {t e : TypeId} (ht : Tryd.prog.underlying t = some (.map 3 e)) (w : World) {ops : Array Oper} {rest : List Oper} {o : Oper} {a : Act} {Q : Exit → Act → World → Prop}
    (hg : o.guard = none) (m x v : Operand) (hop : o.op = Op.mapUpdate t m x v) (b : Nat) (gs : List (Int × α))
    (hm : a.eval m = .map (some b)) (hown : OwnL f w b gs) (hn : gs.length < maxLen) (z : Int) (hz : Fit64 z) (u : α) (hx : a.eval x = .int .i64 z) (hv : a.eval v = f u)
    (hK : ∀ w', OwnL f w' b (putL gs z u) → Kept [b] w w' → wpList Tryd.prog ops Q rest (a.put o.dst undef) w') :
    wpList Tryd.prog ops Q (o :: rest) a w := by
  refine wpList_mapUpdate_own w hg m x v _ hop 3 e keyed_int ht rawL b _ _ hm hown hn _ _ (.int .i64 z) hx hv (keyOf_int_mk Tryd.underlying3 hz.wf) (.held (f u)) [] rfl ?_
  intro w' h1 h2
  exact hK w' (OwnL.of h1 (put_setL gs z u)) (Kept.of_grown h2)
/-- 'delete(m, k)'. -/
theorem wpList_delete_L {t e : TypeId} (ht : Tryd.prog.underlying t = some (.map 3 e)) (w : World) {ops : Array Oper} {rest : List Oper} {o : Oper} {a : Act} {Q : Exit → Act → World → Prop}
    (hg : o.guard = none) (m x : Operand) (hop : o.op = Op.call { callee := Callee.builtin Builtin.delete, args := #[m, x], argTypes := #[t, 3] }) (b : Nat) (gs : List (Int × α))
    (hm : a.eval m = .map (some b)) (hown : OwnL f w b gs) (z : Int) (hz : Fit64 z) (hx : a.eval x = .int .i64 z)
    (hK : ∀ w', OwnL f w' b (delL gs z) → Kept [b] w w' → wpList Tryd.prog ops Q rest (a.put o.dst (.tuple #[])) w') :
    wpList Tryd.prog ops Q (o :: rest) a w := by
  refine wpList_delete_own w hg m x _ 3 hop e keyed_int ht rawL b _ _ hm hown _ (.int .i64 z) hx (keyOf_int_mk Tryd.underlying3 hz.wf) ?_
  intro w' h1 h2
  exact hK w' (OwnL.of h1 (del_setL gs z)) (Kept.of_grown h2.grown)

/-- What a range over such a map has met so far: no key twice, and just those entries that are no longer to come. -/
def CollL (gs : List (Int × α)) (left : Lit → Bool) (ss : List (Int × α)) : Prop := (keysL ss).Nodup ∧ ∀ x, x ∈ ss ↔ (x ∈ gs ∧ left (.int .i64 x.1) = false)
theorem CollL.start (gs : List (Int × α)) : CollL gs (Maps.has (setL f gs)) [] := ⟨List.nodup_nil, fun x => by
  rw [has_setL]; simp; intro h; exact List.mem_map_of_mem h⟩
/-- The entry that comes. -/
theorem entryL {gs : List (Int × α)} (hr : RiseL gs) {x : Int} {v : Value} (hat : ∀ zd, (setL f gs).atKey (.int .i64 x) zd = .held v) : ∃ c, (x, c) ∈ gs ∧ v = f c := by
  have hhas := has_true_of_atKey hat
  rw [has_setL, decide_eq_true_eq] at hhas
  obtain ⟨c, hc⟩ := mem_keysL.1 hhas
  have h := hat (.held undef)
  rw [atKey_setL, atL_mem hr hc] at h
  simp only [Option.map_some, Option.getD_some, DataW.held.injEq] at h
  exact ⟨c, hc, h.symm⟩
theorem CollL.step {gs ss : List (Int × α)} {left : Lit → Bool} (hr : RiseL gs) (h : CollL gs left ss) {x : Int} {c : α} (hlk : left (.int .i64 x) = true) (hm : (x, c) ∈ gs) :
    CollL gs (fun z => left z && !z.sameKey (.int .i64 x)) (ss ++ [(x, c)]) := by
  have hnew : x ∉ keysL ss := fun hx => by
    obtain ⟨p, hp⟩ := mem_keysL.1 hx
    have := ((h.2 _).1 hp).2
    simp only at this
    rw [hlk] at this; cases this
  refine ⟨?_, fun y => ?_⟩
  · unfold keysL at *
    rw [List.map_append]
    exact List.nodup_append.2 ⟨h.1, by simp, fun a ha b hb => by simp at hb; subst hb; exact fun e => hnew (e ▸ ha)⟩
  · obtain ⟨y1, y2⟩ := y
    by_cases hy : y1 = x
    · subst hy
      simp only [List.mem_append, List.mem_singleton, sameKey_int, decide_true, Bool.not_true, Bool.and_false, and_true]
      constructor
      · rintro (h1 | h1)
        · exact ((h.2 _).1 h1).1
        · rw [h1]; exact hm
      · intro h1; exact .inr (by rw [uniqL hr h1 hm])
    · have := h.2 (y1, y2)
      simp [this, hy, sameKey_int]
theorem CollL.perm {gs ss : List (Int × α)} {left : Lit → Bool} (h : CollL gs left ss) (hx : RiseL gs) (hl : ∀ kl, left kl = false) : ss.Perm gs :=
  (List.perm_ext_iff_of_nodup (List.Pairwise.of_map (fun r : Int × α => r.1) (fun a b h e => h (by rw [e])) h.1) (hx.imp (fun {a b} h e => by rw [e] at h; omega))).2 fun x => by rw [h.2 x, hl]; simp
end
end Go.Proofs.YtionleocbjfgaaaDoor

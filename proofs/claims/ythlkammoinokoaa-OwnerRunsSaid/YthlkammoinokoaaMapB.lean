/- A map from ints to bools that the call made. -/
import Derived.Test.YthlkammoinokoaaProg
import Derived.Test.YthlkammoinokoaaKept
import Derived.Test.YthlkammoinokoaaI3
import Derived.Maps.OwnOps
import Derived.Maps.OwnSet
import Derived.Maps.Views
namespace Go.Proofs.Ythlkammoinokoaa
open Go.RowKit Go.Maps

theorem keyed_int : Keyed Try.prog 3 := int_keyed Try.underlying3
theorem zero_bool (w : World) : (zeroValue 4).run Try.prog w = .ok (.bool false) w := by kernel_rfl
theorem Fit64.wf {z : Int} (h : Fit64 z) : (Lit.int .i64 z).wf = true := by
  simpa [Lit.wf, IntKind.min, IntKind.max, IntKind.signed, IntKind.bits, Fit64] using h
theorem plainElem_bool_inv {H : Type} {P : Program} {e : TypeId} (he : P.underlying e = some .bool) {v : Value} {z : DataW H × List MemPlace} (h : plainElem P e v = some z) : ∃ a, v = .bool a ∧ z = (.lit (.bool a), []) := by
  unfold plainElem at h
  rw [he] at h
  cases v <;> simp at h
  exact ⟨_, rfl, h.symm⟩

/-- Block b is a map of at most n keys that answers f. -/
def OwnB (w : World) (b n : Nat) (f : Int → Bool) : Prop :=
  ∃ D : DataW Unit, w.ownsMap Try.prog 3 (plainElem Try.prog 4) b n D ∧ IsMap D ∧ ∀ z, Fit64 z → D.atKey (.int .i64 z) (.lit (.bool false)) = .lit (.bool (f z))
theorem OwnB.made (w : World) : OwnB (w.alloc (.map #[] 0)) w.heap.size 0 (fun _ => false) :=
  ⟨.map [], World.ownsMap_made w _ _ _, isMap_empty, fun _ _ => rfl⟩
theorem OwnB.lt {w : World} {b n : Nat} {f : Int → Bool} (h : OwnB w b n f) : b < w.heap.size := let ⟨_, h, _⟩ := h; h.lt
theorem OwnB.kept {w w' : World} {S : List Nat} {b n : Nat} {f : Int → Bool} (h : OwnB w b n f) (hk : Kept S w w') (hn : b ∉ S) : OwnB w' b n f := by
  obtain ⟨D, ⟨es, clock, hb, h1⟩, h2⟩ := h
  exact ⟨D, ⟨es, clock, (hk.block b (lt_of_block hb) hn).trans hb, h1⟩, h2⟩
theorem OwnB.mono {w : World} {b n m : Nat} {f : Int → Bool} (h : OwnB w b n f) (hm : n ≤ m) : OwnB w b m f :=
  let ⟨D, h1, h2⟩ := h
  ⟨D, h1.mono hm, h2⟩
/-- 'm[k]': laid ahead of the walk. -/
theorem OwnB.look {w : World} {b n : Nat} {f : Int → Bool} (h : OwnB w b n f) {z : Int} (hz : Fit64 z) :
    (Instr.lookup 46 (.map (some b)) (.int .i64 z) false).run Try.prog w = .ok (.bool (f z)) w := by
  obtain ⟨D, hD, hM, hat⟩ := h
  obtain ⟨v, ps, hrun, hv⟩ := hD.lookup keyed_int Try.underlying46 (zero_bool w) (plainElem_bool Try.underlying4 false) (keyOf_int_mk Try.underlying3 hz.wf)
  obtain ⟨a, rfl, ha⟩ := plainElem_bool_inv Try.underlying4 hv
  rw [hat z hz] at ha
  simp only [Prod.mk.injEq, DataW.lit.injEq, Lit.bool.injEq] at ha
  rw [hrun, ha.1]
/-- 'm[k] = v'. -/
theorem wpList_mapUpdate_B (w : World) {ops : Array Oper} {rest : List Oper} {o : Oper} {a : Act} {Q : Exit → Act → World → Prop}
    (hg : o.guard = none) (m x v : Operand) (hop : o.op = Op.mapUpdate 46 m x v) (b n : Nat) (f : Int → Bool)
    (hm : a.eval m = .map (some b)) (hown : OwnB w b n f) (hn : n < maxLen) (z : Int) (hz : Fit64 z) (u : Bool) (hx : a.eval x = .int .i64 z) (hv : a.eval v = .bool u)
    (hK : ∀ w', OwnB w' b (n + 1) (fun y => if y = z then u else f y) → Kept [b] w w' → wpList Try.prog ops Q rest (a.put o.dst undef) w') :
    wpList Try.prog ops Q (o :: rest) a w := by
  obtain ⟨D, hD, hM, hat⟩ := hown
  refine wpList_mapUpdate_own w hg m x v _ hop 3 4 keyed_int Try.underlying46 (plainElem Try.prog 4) b n D hm hD hn _ _ (.int .i64 z) hx hv (keyOf_int_mk Try.underlying3 hz.wf) (.lit (.bool u)) [] (plainElem_bool Try.underlying4 u) ?_
  intro w' h1 h2
  refine hK w' ⟨_, h1, hM.put _ _, fun y hy => ?_⟩ (Kept.of_grown h2)
  show _ = DataW.lit (Lit.bool (if y = z then u else f y))
  by_cases e : y = z
  · subst e
    rw [if_pos rfl]
    exact atKey_put_same (k := .int .i64 y) hM trivial _ _
  · rw [if_neg e, atKey_put_other (by simpa using e)]
    exact hat y hy
end Go.Proofs.Ythlkammoinokoaa

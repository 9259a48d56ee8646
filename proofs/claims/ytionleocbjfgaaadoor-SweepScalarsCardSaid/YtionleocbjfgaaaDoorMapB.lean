/- A map from ints to bools that the call made. -/
import Derived.Test.YtionleocbjfgaaaDoorProg
import Derived.Test.YtionleocbjfgaaaDoorKept
import Derived.Test.YtionleocbjfgaaaDoorI3
import Derived.Maps.OwnOps
import Derived.Maps.OwnSet
import Derived.Maps.Views
namespace Go.Proofs.YtionleocbjfgaaaDoor
open Go.RowKit Go.Maps

theorem keyed_int : Keyed Tryd.prog 3 := int_keyed Tryd.underlying3
theorem zero_bool (w : World) : (zeroValue 4).run Tryd.prog w = .ok (.bool false) w := by kernel_rfl
theorem Fit64.wf {z : Int} (h : Fit64 z) : (Lit.int .i64 z).wf = true := by
  simpa [Lit.wf, IntKind.min, IntKind.max, IntKind.signed, IntKind.bits, Fit64] using h
theorem plainElem_bool_inv {H : Type} {P : Program} {e : TypeId} (he : P.underlying e = some .bool) {v : Value} {z : DataW H × List MemPlace} (h : plainElem P e v = some z) : ∃ a, v = .bool a ∧ z = (.lit (.bool a), []) := by
  unfold plainElem at h
  rw [he] at h
  cases v <;> simp at h
  exact ⟨_, rfl, h.symm⟩

/-- Block b is a map of at most n keys that answers f. -/
def OwnB (w : World) (b n : Nat) (f : Int → Bool) : Prop :=
  ∃ D : DataW Unit, w.ownsMap Tryd.prog 3 (plainElem Tryd.prog 4) b n D ∧ IsMap D ∧ ∀ z, Fit64 z → D.atKey (.int .i64 z) (.lit (.bool false)) = .lit (.bool (f z))
theorem OwnB.made (w : World) : OwnB (w.alloc (.map #[] 0)) w.heap.size 0 (fun _ => false) :=
  ⟨.map [], World.ownsMap_made w _ _ _, isMap_empty, fun _ _ => rfl⟩
theorem OwnB.lt {w : World} {b n : Nat} {f : Int → Bool} (h : OwnB w b n f) : b < w.heap.size := let ⟨_, h, _⟩ := h; h.lt
theorem OwnB.kept {w w' : World} {S : List Nat} {b n : Nat} {f : Int → Bool} (h : OwnB w b n f) (hk : Kept S w w') (hn : b ∉ S) : OwnB w' b n f := by
  obtain ⟨D, ⟨es, clock, hb, h1⟩, h2⟩ := h
  exact ⟨D, ⟨es, clock, (hk.block b (lt_of_block hb) hn).trans hb, h1⟩, h2⟩
theorem OwnB.mono {w : World} {b n m : Nat} {f : Int → Bool} (h : OwnB w b n f) (hm : n ≤ m) : OwnB w b m f :=
  let ⟨D, h1, h2⟩ := h
  ⟨D, h1.mono hm, h2⟩
end Go.Proofs.YtionleocbjfgaaaDoor

/- An argument that is a slice of structs, all of whose fields are integers. -/
import Derived.Deep.Slices
import Derived.Deep.Fields
import Derived.Test.YtedmomjldkjgkaaLaw
namespace Go.Proofs.Ytedmomjldkjgkaa
open Go.ChangeShapes Go.WideShapes Go.ChangeAt Go.RowKit Go.Deep

/-- The slice of structs that begins at a: row by row its fields' numbers, of the kinds ks. -/
def SlI (w : World) (ks : List IntKind) (a : Option Addr) (rows : List (List Int)) : Prop :=
  rows = [] ∨ ∃ b off, a = some ⟨b, off, none⟩ ∧ b < w.heap.size ∧ ∀ (i : Nat) (row : List Int), rows[i]? = some row → row.length = ks.length ∧
    ∀ (j : Nat) (k : IntKind), ks[j]? = some k → w.cell? ⟨b, off + i * ks.length + j, none⟩ = some (.int k (row[j]?.getD 0)) ∧ (Lit.int k (row[j]?.getD 0)).wf = true

/-- The kinds of a struct's fields. -/
def kindsB (P : Program) (fs : Array Field) (ks : List IntKind) : Bool := fs.size == ks.length && (List.range fs.size).all fun i => match fs[i]?, ks[i]? with
  | some f, some k => (match P.underlying f.type with | some (.int k') => k' == k | _ => false)
  | _, _ => false
theorem kindsB_of {P : Program} {fs : Array Field} {ks : List IntKind} (h : kindsB P fs ks = true) : fs.size = ks.length ∧ ∀ (j : Nat) (k : IntKind), ks[j]? = some k → ∃ f : Field, fs[j]? = some f ∧ P.underlying f.type = some (.int k) := by
  simp only [kindsB, Bool.and_eq_true, beq_iff_eq] at h
  refine ⟨h.1, fun j k hk => ?_⟩
  have hj : j < ks.length := (List.getElem?_eq_some_iff.1 hk).1
  have h2 := List.all_eq_true.1 h.2 j (List.mem_range.2 (by omega))
  rw [hk, Array.getElem?_eq_getElem (show j < fs.size by omega)] at h2
  refine ⟨_, Array.getElem?_eq_getElem (show j < fs.size by omega), ?_⟩
  dsimp only at h2
  split at h2
  · rename_i k' hu
    rw [hu]
    have : k' = k := by simpa using h2
    rw [this]
  · cases h2

theorem open_sli {H : Type} {enc : TypeId × Value → H} {W : World} {b0 : Nat} {held : Bool} {r : Reach} {t e : TypeId} {fs : Array Field} {ks : List IntKind} {v : Value} {d : DataW H} {p : List MemPlace}
    (ht : Try.prog.underlying t = some (.slice e)) (he : Try.prog.underlying e = some (.struct fs)) (hone : oneCellFields Try.prog fs = true) (hks : kindsB Try.prog fs ks = true) (hC : Try.prog.cellsOf e = ks.length) (h0k : 0 < ks.length)
    (hv : Value.okWide Try.prog W r b0 t v) (h : DataW.Trod enc Try.prog W 0 (fun _ => true) held t v d p) :
    ∃ (a : Option Addr) (cap : Nat) (rows : List (List Int)), v = .slice a rows.length cap ∧ SlI W ks a rows ∧ rows.length ≤ maxLen := by
  obtain ⟨a, len, cap, rfl⟩ := okWide_slice ht hv
  obtain ⟨fuel, hf⟩ := h
  obtain ⟨hsz, hkf⟩ := kindsB_of hks
  rcases open_slice ht hf with ⟨hcs, _⟩ | ⟨x, l, c, m, n, D, Pl, hcs, _, hl, hm, hmm, _, hel⟩
  · simp [Value.cells] at hcs
    obtain ⟨rfl, rfl, rfl⟩ := hcs
    exact ⟨none, 0, [], rfl, .inl rfl, by simp⟩
  · simp [Value.cells] at hcs
    obtain ⟨rfl, rfl, rfl⟩ := hcs
    have hrow : ∀ i, i < len → ∃ row : List Int, row.length = ks.length ∧ ∀ (j : Nat) (k : IntKind), ks[j]? = some k → W.cell? (x.add (i * ks.length + j)) = some (.int k (row[j]?.getD 0)) ∧ (Lit.int k (row[j]?.getD 0)).wf = true := by
      intro i hi
      obtain ⟨cs, hc, hd⟩ := hel i (by simp at hmm; omega)
      rw [hC] at hc
      obtain ⟨_, hcl, hat⟩ := World.cells?_some hc
      obtain ⟨ys, n', _, _, _, hyl, hfld⟩ := DataW.trod_struct he hd
      have hz : ∀ j, j < ks.length → ∃ z : Int, ∀ k, ks[j]? = some k → cs[j]? = some (.int k z) ∧ (Lit.int k z).wf = true := by
        intro j hj
        have hkj := List.getElem?_eq_getElem hj
        obtain ⟨f, hfj, hu⟩ := hkf j _ hkj
        obtain ⟨ho, hk1⟩ := hone_of hone j f hfj
        have h1 := hfld j f hfj
        rw [ho, hk1, List.getElem?_eq_getElem (show j < ys.length by omega)] at h1
        obtain ⟨z, hz1, _, hw⟩ := DataW.trod_int hu h1
        rw [List.take_one, List.head?_drop, List.getElem?_eq_getElem (by omega)] at hz1
        refine ⟨z, fun k hk => ?_⟩
        rw [hkj] at hk
        injection hk with hk
        subst hk
        refine ⟨?_, hw⟩
        rw [List.getElem?_eq_getElem (by omega)]
        simpa using hz1
      obtain ⟨Z, hZ⟩ := choose_lt (α := Int) hz
      refine ⟨(List.range ks.length).map Z, by simp, fun j k hk => ?_⟩
      have hj : j < ks.length := (List.getElem?_eq_some_iff.1 hk).1
      obtain ⟨h1, h2⟩ := hZ j hj k hk
      have e1 : ((List.range ks.length).map Z)[j]?.getD 0 = Z j := by simp [hj]
      rw [e1, ← Go.Deep.add_add, hat j hj, h1]
      exact ⟨rfl, h2⟩
    obtain ⟨R, hR⟩ := choose_lt (α := List Int) hrow
    refine ⟨some x, cap, (List.range len).map R, by simp, ?_, by simp; omega⟩
    by_cases h0 : len = 0
    · exact .inl (by simp [h0])
    · obtain ⟨b, off, spot⟩ := x
      obtain ⟨_, hc0⟩ := hR 0 (by omega)
      have hk0 := List.getElem?_eq_getElem h0k
      have hc := (hc0 0 _ hk0).1
      have hspot : spot = none := by simpa [Addr.add] using World.cell?_spot hc
      subst hspot
      refine .inr ⟨b, off, rfl, ?_, fun i row hi => ?_⟩
      · have := block_lt_of_cell hc
        simpa [Addr.add] using this
      · have hil : i < len := by have := (List.getElem?_eq_some_iff.1 hi).1; simpa using this
        have hrr : row = R i := by
          rw [List.getElem?_map, List.getElem?_range hil] at hi
          simpa using hi.symm
        subst hrr
        obtain ⟨h1, h2⟩ := hR i hil
        refine ⟨h1, fun j k hk => ?_⟩
        have hadd : (⟨b, off, none⟩ : Addr).add (i * ks.length + j) = ⟨b, off + i * ks.length + j, none⟩ := by rw [Nat.add_assoc]; unfold Addr.add; split <;> simp_all
        rw [← hadd]
        exact h2 j k hk
end Go.Proofs.Ytedmomjldkjgkaa

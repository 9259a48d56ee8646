/- An argument that is a slice of structs (or of arrays, one within the other) all of whose leaves are integers or bools. -/
import Derived.Deep.Slices
import Derived.Deep.Fields
import Derived.Test.YtpeekhlccjoioaaLaw
namespace Go.Proofs.Ytpeekhlccjoioaa
open Go.ChangeShapes Go.WideShapes Go.ChangeAt Go.RowKit Go.Deep

/-- A leaf's kind. -/
inductive Leaf where
  | int (k : IntKind)
  | bool
def Leaf.fits : Leaf → Value → Prop
  | .int k, v => ∃ z, v = .int k z ∧ (Lit.int k z).wf = true
  | .bool, v => ∃ b, v = .bool b
/-- Value by value of these kinds. -/
def Fits : List Leaf → List Value → Prop
  | [], [] => True
  | l :: ls, v :: vs => l.fits v ∧ Fits ls vs
  | _, _ => False
set_option maxRecDepth 100000 in
theorem Fits.append : ∀ {ls ms : List Leaf} {vs us : List Value}, Fits ls vs → Fits ms us → Fits (ls ++ ms) (vs ++ us)
  | [], _, [], _, _, h => h
  | _ :: _, _, _ :: _, _, h, h' => ⟨h.1, Fits.append h.2 h'⟩
  | [], _, _ :: _, _, h, _ => h.elim
  | _ :: _, _, [], _, h, _ => h.elim
set_option maxRecDepth 100000 in
theorem Fits.length : ∀ {ls : List Leaf} {vs : List Value}, Fits ls vs → vs.length = ls.length
  | [], [], _ => rfl
  | _ :: _, _ :: _, h => by simp [Fits.length h.2]
  | [], _ :: _, h => h.elim
  | _ :: _, [], h => h.elim

set_option maxRecDepth 100000 in
theorem Fits.int {k : IntKind} {ls : List Leaf} {row : List Value} (h : Fits (.int k :: ls) row) : ∃ z r, row = .int k z :: r ∧ (Lit.int k z).wf = true ∧ Fits ls r := by
  cases row with
  | nil => exact h.elim
  | cons v r =>
    obtain ⟨⟨z, hz, hw⟩, h2⟩ := h
    exact ⟨z, r, by rw [hz], hw, h2⟩
set_option maxRecDepth 100000 in
theorem Fits.bool {ls : List Leaf} {row : List Value} (h : Fits (.bool :: ls) row) : ∃ b r, row = .bool b :: r ∧ Fits ls r := by
  cases row with
  | nil => exact h.elim
  | cons v r =>
    obtain ⟨⟨b, hb⟩, h2⟩ := h
    exact ⟨b, r, by rw [hb], h2⟩
set_option maxRecDepth 100000 in
theorem Fits.nil {row : List Value} (h : Fits [] row) : row = [] := by
  cases row with
  | nil => rfl
  | cons v r => exact h.elim
/-- The leaves of fields, one behind the other. -/
def fieldsOf (L : TypeId → Option (List Leaf)) (C : TypeId → Nat) : List Field → Nat → Option (List Leaf)
  | [], _ => some []
  | f :: fs, off => if f.offset = off then (L f.type).bind fun a => if C f.type = a.length then (fieldsOf L C fs (off + a.length)).map (a ++ ·) else none else none
/-- The leaves of a type, in the order of its cells; none: not such a type. -/
def leavesOf (P : Program) : Nat → TypeId → Option (List Leaf)
  | 0, _ => none
  | n + 1, t => match P.underlying t with
    | some (.int k) => some [.int k]
    | some .bool => some [.bool]
    | some (.struct fs) => (fieldsOf (leavesOf P n) P.cellsOf fs.toList 0).bind fun ls => if P.cellsOf t = ls.length then some ls else none
    | some (.array m e) => (leavesOf P n e).bind fun ls => if P.cellsOf e = ls.length ∧ P.cellsOf t = m * ls.length then some (List.replicate m ls).flatten else none
    | _ => none

section
variable {H : Type} {enc : TypeId × Value → H} {P : Program} {w : World} {base : Nat} {spare : Nat → Bool} {held : Bool}

set_option maxRecDepth 100000 in
theorem fieldsOf_fits {L : TypeId → Option (List Leaf)} {m : Nat} {cs : List Value}
    (hL : ∀ t ls cs x, L t = some ls → DataW.trod enc P w base spare held m t cs = some x → Fits ls cs) :
    ∀ (fs : List Field) (off : Nat) (ls : List Leaf), fieldsOf L P.cellsOf fs off = some ls → off + ls.length = cs.length →
      (∀ f ∈ fs, ∃ x, DataW.trod enc P w base spare held m f.type ((cs.drop f.offset).take (P.cellsOf f.type)) = some x) → Fits ls (cs.drop off) := by
  intro fs
  induction fs with
  | nil =>
    intro off ls h hl _
    simp only [fieldsOf, Option.some.injEq] at h
    subst h
    rw [List.drop_eq_nil_of_le (by simp at hl; omega)]
    trivial
  | cons f fs ih =>
    intro off ls h hl hf
    unfold fieldsOf at h
    split at h
    · rename_i ho
      obtain ⟨a, ha, h⟩ := Option.bind_eq_some_iff.1 h
      split at h
      · rename_i hc
        obtain ⟨r, hr, rfl⟩ := Option.map_eq_some_iff.1 h
        simp only [List.length_append] at hl
        obtain ⟨x, hx⟩ := hf f (by simp)
        have h1 := hL _ _ _ _ ha hx
        rw [hc, ho] at h1
        have h2 := ih (off + a.length) r hr (by omega) (fun g hg => hf g (by simp [hg]))
        have := h1.append h2
        rwa [← List.drop_drop, List.take_append_drop] at this
      · cases h
    · cases h

set_option maxRecDepth 100000 in
theorem array_fits {m : Nat} {e : TypeId} {ls : List Leaf} (hc : P.cellsOf e = ls.length)
    (hL : ∀ cs x, DataW.trod enc P w base spare held m e cs = some x → Fits ls cs) :
    ∀ (n : Nat) (cs : List Value), cs.length = n * ls.length → (∀ i, i < n → ∃ x, DataW.trod enc P w base spare held m e ((cs.drop (i * P.cellsOf e)).take (P.cellsOf e)) = some x) → Fits (List.replicate n ls).flatten cs := by
  intro n
  induction n with
  | zero =>
    intro cs h _
    have : cs = [] := List.eq_nil_of_length_eq_zero (by simpa using h)
    subst this
    trivial
  | succ n ih =>
    intro cs h hx
    obtain ⟨x, h0⟩ := hx 0 (by omega)
    rw [Nat.zero_mul, List.drop_zero, hc] at h0
    have h1 := hL _ _ h0
    have hmul : (n + 1) * ls.length = n * ls.length + ls.length := Nat.succ_mul _ _
    have h2 := ih (cs.drop ls.length) (by simp; omega) (fun i hi => by
      obtain ⟨x, h⟩ := hx (i + 1) (by omega)
      refine ⟨x, ?_⟩
      rw [List.drop_drop, hc]
      rw [hc] at h
      have e : ls.length + i * ls.length = (i + 1) * ls.length := by rw [Nat.succ_mul]; omega
      rw [e]; exact h)
    have := h1.append h2
    rw [List.take_append_drop] at this
    rw [List.replicate_succ, List.flatten_cons]
    exact this

set_option maxRecDepth 100000 in
theorem leavesOf_fits : ∀ (n : Nat) (fuel : Nat) (t : TypeId) (ls : List Leaf) (cs : List Value) (x : DataW H × List MemPlace), leavesOf P n t = some ls → DataW.trod enc P w base spare held fuel t cs = some x → Fits ls cs := by
  intro n
  induction n with
  | zero => intro fuel t ls cs x h; simp [leavesOf] at h
  | succ n ih =>
    intro fuel t ls cs x h hd
    unfold leavesOf at h
    split at h
    · rename_i k hu
      obtain ⟨z, rfl, _, hw⟩ := DataW.trod_int hu hd
      cases h
      exact ⟨⟨z, rfl, hw⟩, trivial⟩
    · rename_i hu
      obtain ⟨b, rfl, _⟩ := DataW.trod_bool hu hd
      cases h
      exact ⟨⟨b, rfl⟩, trivial⟩
    · rename_i fs hu
      obtain ⟨r, hr, h⟩ := Option.bind_eq_some_iff.1 h
      split at h
      · rename_i hc
        cases h
        obtain ⟨xs, m, _, _, hlen, hxl, hfld⟩ := DataW.trod_struct hu hd
        have := fieldsOf_fits (cs := cs) (fun t ls cs x h1 h2 => ih m t ls cs x h1 h2) fs.toList 0 _ hr (by omega) (fun f hf => by
          obtain ⟨i, hi, rfl⟩ := List.getElem_of_mem hf
          have hi' : i < fs.size := by simpa using hi
          have h1 := hfld i _ (Array.getElem?_eq_getElem hi')
          rw [List.getElem?_eq_getElem (show i < xs.length by omega)] at h1
          exact ⟨_, by simpa using h1⟩)
        simpa using this
      · cases h
    · rename_i m e hu
      obtain ⟨r, hr, h⟩ := Option.bind_eq_some_iff.1 h
      split at h
      · rename_i hc
        cases h
        obtain ⟨xs, q, _, _, hlen, hxl, hel⟩ := DataW.trod_array hu hd
        exact array_fits hc.1 (fun cs x h2 => ih q e _ cs x hr h2) m cs (by rw [hlen, hc.2]) (fun i hi => by
          have h1 := hel i hi
          rw [List.getElem?_eq_getElem (show i < xs.length by omega)] at h1
          exact ⟨_, h1⟩)
      · cases h
    · cases h
end

/-- The slice of such elements that begins at a: row by row its cells. -/
def SlFlat (w : World) (ls : List Leaf) (a : Option Addr) (rows : List (List Value)) : Prop :=
  rows = [] ∨ ∃ b off, a = some ⟨b, off, none⟩ ∧ b < w.heap.size ∧ ∀ (i : Nat) (row : List Value), rows[i]? = some row → Fits ls row ∧
    ∀ (j : Nat) (v : Value), row[j]? = some v → w.cell? ⟨b, off + i * ls.length + j, none⟩ = some v

set_option maxRecDepth 100000 in
theorem open_flat {H : Type} {enc : TypeId × Value → H} {W : World} {b0 : Nat} {held : Bool} {r : Reach} {t e : TypeId} {ls : List Leaf} {v : Value} {d : DataW H} {p : List MemPlace} (n : Nat)
    (ht : Try.prog.underlying t = some (.slice e)) (hls : leavesOf Try.prog n e = some ls) (hC : Try.prog.cellsOf e = ls.length) (h0k : 0 < ls.length)
    (hv : Value.okWide Try.prog W r b0 t v) (h : DataW.Trod enc Try.prog W 0 (fun _ => true) held t v d p) :
    ∃ (a : Option Addr) (cap : Nat) (rows : List (List Value)), v = .slice a rows.length cap ∧ SlFlat W ls a rows ∧ rows.length ≤ maxLen := by
  obtain ⟨a, len, cap, rfl⟩ := okWide_slice ht hv
  obtain ⟨fuel, hf⟩ := h
  rcases open_slice ht hf with ⟨hcs, _⟩ | ⟨x, l, c, m, q, D, Pl, hcs, _, hl, hm, hmm, _, hel⟩
  · simp [Value.cells] at hcs
    obtain ⟨rfl, rfl, rfl⟩ := hcs
    exact ⟨none, 0, [], rfl, .inl rfl, by simp⟩
  · simp [Value.cells] at hcs
    obtain ⟨rfl, rfl, rfl⟩ := hcs
    have hrow : ∀ i, i < len → ∃ row : List Value, Fits ls row ∧ ∀ (j : Nat) (v : Value), row[j]? = some v → W.cell? (x.add (i * ls.length + j)) = some v := by
      intro i hi
      obtain ⟨cs, hc, hd⟩ := hel i (by simp at hmm; omega)
      rw [hC] at hc
      obtain ⟨_, hcl, hat⟩ := World.cells?_some hc
      refine ⟨cs, leavesOf_fits n _ _ _ _ _ hls hd, fun j v hj => ?_⟩
      have hjl : j < ls.length := by have := (List.getElem?_eq_some_iff.1 hj).1; omega
      rw [← Go.Deep.add_add, hat j hjl, hj]
    obtain ⟨R, hR⟩ := choose_lt (α := List Value) hrow
    refine ⟨some x, cap, (List.range len).map R, by simp, ?_, by simp; omega⟩
    by_cases h0 : len = 0
    · exact .inl (by simp [h0])
    · obtain ⟨b, off, spot⟩ := x
      obtain ⟨hf0, hc0⟩ := hR 0 (by omega)
      have hl0 := hf0.length
      have hc := hc0 0 _ (List.getElem?_eq_getElem (show 0 < (R 0).length by omega))
      have hspot : spot = none := by simpa [Addr.add] using World.cell?_spot hc
      subst hspot
      refine .inr ⟨b, off, rfl, ?_, fun i row hi => ?_⟩
      · have := block_lt_of_cell hc
        simpa [Addr.add] using this
      · have hil : i < len := by have := (List.getElem?_eq_some_iff.1 hi).1; simpa using this
        have hrr : row = R i := by
          rw [List.getElem?_map, List.getElem?_range hil] at hi
          simpa using hi.symm
        subst hrr
        obtain ⟨h1, h2⟩ := hR i hil
        refine ⟨h1, fun j v hj => ?_⟩
        have hadd : (⟨b, off, none⟩ : Addr).add (i * ls.length + j) = ⟨b, off + i * ls.length + j, none⟩ := by rw [Nat.add_assoc]; unfold Addr.add; split <;> simp_all
        rw [← hadd]
        exact h2 j v hj
end Go.Proofs.Ytpeekhlccjoioaa

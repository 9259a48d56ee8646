/- A list of types that came in, and a head: what they read as. -/
import Derived.Deep.Slices
import Derived.Test.YthnoohghjcfghaaLaw
import Derived.Test.YthnoohghjcfghaaDescTypes
namespace Go.Proofs.Ythnoohghjcfghaa
open Go.ChangeShapes Go.WideShapes Go.ChangeAt Go.RowKit Go.Deep

instance : Inhabited Ty := ⟨⟨none, 0, []⟩⟩

set_option maxRecDepth 100000 in
/-- One type's cell. -/
theorem open_ty {H : Type} {enc : TypeId × Value → H} {W : World} {held : Bool} {fuel : Nat} {cs : List Value} {x : DataW H × List MemPlace}
    (h : DataW.trod enc Try.prog W 0 (fun _ => true) held fuel 63 cs = some x) : ∃ t : Ty, cs = [t.v] ∧ Sl W .i64 t.a t.ks := by
  obtain ⟨xs, m, _, _, hlen, hxl, hfld⟩ := DataW.trod_struct Try.underlying63 h
  have hl1 : cs.length = 1 := hlen.trans (by kernel_rfl)
  obtain ⟨c, rfl⟩ : ∃ c, cs = [c] := by
    match cs, hl1 with
    | [c], _ => exact ⟨c, rfl⟩
  have h0 : DataW.trod enc Try.prog W 0 (fun _ => true) held m 33 (([c].drop 0).take (Try.prog.cellsOf 33)) = xs[0]? := hfld 0 _ rfl
  rw [show Try.prog.cellsOf 33 = 1 from by kernel_rfl, List.getElem?_eq_getElem (by rw [hxl]; decide)] at h0
  rcases open_ints Try.underlying33 Try.underlying3 (by kernel_rfl) h0 with ⟨hcs, _⟩ | ⟨a, len, cap, zs, hcs, _, hl, _, hz, _, hcell, _⟩
  · obtain rfl : c = .slice none 0 0 := by simpa using hcs
    exact ⟨⟨none, 0, []⟩, rfl, .inl rfl⟩
  · obtain rfl : c = .slice (some a) len cap := by simpa using hcs
    have hzl : zs.length = cap := by simpa using hz
    refine ⟨⟨some a, cap, zs.take len⟩, by simp [Ty.v]; omega, ?_⟩
    by_cases e0 : len = 0
    · exact .inl (by simp [e0])
    · obtain ⟨b, off, spot⟩ := a
      have hc := hcell 0 (by omega)
      have hspot : spot = none := by simpa [Addr.add] using World.cell?_spot hc
      subst hspot
      refine .inr ⟨b, off, rfl, ?_, fun j hj => ?_⟩
      · have := block_lt_of_cell hc
        simpa [Addr.add] using this
      · have hj' : j < len := by simp at hj; omega
        have hc := hcell j (by omega)
        rw [add_none] at hc
        rw [hc]
        simp [hj', List.getD]

set_option maxRecDepth 100000 in
/-- A list of types. -/
theorem open_types {H : Type} {enc : TypeId × Value → H} {W : World} {b0 : Nat} {held : Bool} {r : Reach} {v : Value} {d : DataW H} {p : List MemPlace}
    (hv : Value.okWide Try.prog W r b0 23 v) (h : DataW.Trod enc Try.prog W 0 (fun _ => true) held 23 v d p) :
    ∃ (a : Option Addr) (cap : Nat) (l : List Ty), v = .slice a l.length cap ∧ SlD W a l ∧ l.length ≤ maxLen := by
  obtain ⟨a, len, cap, rfl⟩ := okWide_slice Try.underlying23 hv
  obtain ⟨fuel, hf⟩ := h
  rcases open_slice1 Try.underlying23 (by kernel_rfl) hf with ⟨hcs, _⟩ | ⟨x, l, c, m, n, V, D, Pl, hcs, _, hl, hm, hmm, _, hel⟩
  · simp [Value.cells] at hcs
    obtain ⟨rfl, rfl, rfl⟩ := hcs
    exact ⟨none, 0, [], rfl, ⟨.inl rfl, by simp⟩, by simp⟩
  · simp [Value.cells] at hcs
    obtain ⟨rfl, rfl, rfl⟩ := hcs
    have hty : ∀ i, i < len → ∃ t : Ty, V i = t.v ∧ Sl W .i64 t.a t.ks := by
      intro i hi
      obtain ⟨t, ht, hs⟩ := open_ty (hel i (by simp at hmm; omega)).2
      exact ⟨t, by simpa using ht, hs⟩
    obtain ⟨R, hR⟩ := choose_lt (α := Ty) hty
    refine ⟨some x, cap, (List.range len).map R, by simp, ⟨?_, fun t ht => ?_⟩, by simp; omega⟩
    · by_cases h0 : len = 0
      · exact .inl (by simp [h0])
      · obtain ⟨b, off, spot⟩ := x
        have hc := (hel 0 (by simp at hmm; omega)).1
        have hspot : spot = none := by simpa [Addr.add] using World.cell?_spot hc
        subst hspot
        refine .inr ⟨b, off, rfl, ?_, fun j t hj => ?_⟩
        · have := block_lt_of_cell hc
          simpa [Addr.add] using this
        · have hjl : j < len := by have := (List.getElem?_eq_some_iff.1 hj).1; simpa using this
          have htR : t = R j := by
            rw [List.getElem?_map, List.getElem?_range hjl] at hj
            simpa using hj.symm
          subst htR
          have hc := (hel j (by simp at hmm; omega)).1
          rw [add_none] at hc
          rw [hc, (hR j hjl).1]
    · obtain ⟨i, hi, rfl⟩ := List.mem_map.1 ht
      exact (hR i (List.mem_range.1 hi)).2
set_option maxRecDepth 100000 in
/-- A head, by value. -/
theorem open_head {H : Type} {enc : TypeId × Value → H} {W : World} {b0 : Nat} {base : Nat} {spare : Nat → Bool} {held : Bool} {r : Reach} {v : Value} {d : DataW H} {p : List MemPlace}
    (hv : Value.okWide Try.prog W r b0 32 v) (h : DataW.Trod enc Try.prog W base spare held 32 v d p) :
    ∃ (ar : Bool) (kind ty n : Int), v = .agg #[.bool ar, .int .i64 kind, .int .i64 ty, .int .i64 n] := by
  obtain ⟨c0, c1, c2, c3, y0, y1, y2, y3, m, rfl, rfl, rfl, hy0, hy1, hy2, hy3⟩ := Joins.open_agg4 Try.underlying32 (by kernel_rfl) (by kernel_rfl) hv h
  obtain ⟨ar, e0, _⟩ := DataW.trod_bool Try.underlying4 hy0
  obtain ⟨a, e1, _, _⟩ := DataW.trod_int Try.underlying3 hy1
  obtain ⟨b, e2, _, _⟩ := DataW.trod_int Try.underlying3 hy2
  obtain ⟨c, e3, _, _⟩ := DataW.trod_int Try.underlying3 hy3
  simp at e0 e1 e2 e3
  subst e0 e1 e2 e3
  exact ⟨ar, a, b, c, rfl⟩
end Go.Proofs.Ythnoohghjcfghaa

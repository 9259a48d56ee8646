/- A head that came in: what it reads as. -/
import Derived.Test.YthkmnjkaadmilaaDoorLaw
namespace Go.Proofs.YthkmnjkaadmilaaDoor
open Go.ChangeShapes Go.WideShapes Go.ChangeAt Go.RowKit

set_option maxRecDepth 100000 in
/-- A head, by value. -/
theorem open_head08 {H : Type} {enc : TypeId × Value → H} {W : World} {b0 : Nat} {base : Nat} {spare : Nat → Bool} {held : Bool} {r : Reach} {v : Value} {d : DataW H} {p : List MemPlace}
    (hv : Value.okWide Tryd.prog W r b0 24 v) (h : DataW.Trod enc Tryd.prog W base spare held 24 v d p) :
    ∃ (ar : Bool) (kind ty n : Int), v = .agg #[.bool ar, .int .i64 kind, .int .i64 ty, .int .i64 n] := by
  obtain ⟨c0, c1, c2, c3, y0, y1, y2, y3, m, rfl, rfl, rfl, hy0, hy1, hy2, hy3⟩ := Joins.open_agg4 Tryd.underlying24 (by kernel_rfl) (by kernel_rfl) hv h
  obtain ⟨ar, e0, _⟩ := DataW.trod_bool Tryd.underlying4 hy0
  obtain ⟨a, e1, _, _⟩ := DataW.trod_int Tryd.underlying3 hy1
  obtain ⟨b, e2, _, _⟩ := DataW.trod_int Tryd.underlying3 hy2
  obtain ⟨c, e3, _, _⟩ := DataW.trod_int Tryd.underlying3 hy3
  simp at e0 e1 e2 e3
  subst e0 e1 e2 e3
  exact ⟨ar, a, b, c, rfl⟩
set_option maxRecDepth 100000 in
theorem u64_le {x : Int} (h : (Lit.int .u64 x).wf = true) : 0 ≤ x ∧ x < 18446744073709551616 := by
  have : 0 ≤ x ∧ x ≤ 18446744073709551615 := by simpa [Lit.wf, IntKind.min, IntKind.max, IntKind.signed, IntKind.bits] using h
  omega
end Go.Proofs.YthkmnjkaadmilaaDoor

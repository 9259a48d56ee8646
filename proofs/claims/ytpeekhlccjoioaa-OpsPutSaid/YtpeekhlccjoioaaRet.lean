/- A function whose result is a struct (kept in a variable of its own). -/
import Derived.Test.YtpeekhlccjoioaaKept
namespace Go.Proofs.Ytpeekhlccjoioaa
open Go.RowKit

section
variable {P : Program} {fn : Func} {t u v z : Tmp} {ty : TypeId} {tmps : Array Value} {w : World} {a : Addr} {x : Value}
theorem results_cell1 (h : fn.results = #[.cell t ty]) (ha : tmps.getD t undef = .pointer (some a)) (hl : (loadVar ty a).run P w = .ok x w) : (results fn tmps).run P w = .ok x w := by
  have ha' : tmps[t]?.getD undef = .pointer (some a) := by simpa using ha
  simp [results, h, asAddr, ha', hl]
theorem results_cell2 (h : fn.results = #[.cell t ty, .tmp u]) (ha : tmps.getD t undef = .pointer (some a)) (hl : (loadVar ty a).run P w = .ok x w) : (results fn tmps).run P w = .ok (.tuple #[x, tmps.getD u undef]) w := by
  have ha' : tmps[t]?.getD undef = .pointer (some a) := by simpa using ha
  simp [results, h, asAddr, ha', hl]
theorem results_cell3 (h : fn.results = #[.cell t ty, .tmp u, .tmp v]) (ha : tmps.getD t undef = .pointer (some a)) (hl : (loadVar ty a).run P w = .ok x w) : (results fn tmps).run P w = .ok (.tuple #[x, tmps.getD u undef, tmps.getD v undef]) w := by
  have ha' : tmps[t]?.getD undef = .pointer (some a) := by simpa using ha
  simp [results, h, asAddr, ha', hl]
theorem results_cell4 (h : fn.results = #[.cell t ty, .tmp u, .tmp v, .tmp z]) (ha : tmps.getD t undef = .pointer (some a)) (hl : (loadVar ty a).run P w = .ok x w) : (results fn tmps).run P w = .ok (.tuple #[x, tmps.getD u undef, tmps.getD v undef, tmps.getD z undef]) w := by
  have ha' : tmps[t]?.getD undef = .pointer (some a) := by simpa using ha
  simp [results, h, asAddr, ha', hl]
theorem results_tct (h : fn.results = #[.tmp u, .cell t ty, .tmp v]) (ha : tmps.getD t undef = .pointer (some a)) (hl : (loadVar ty a).run P w = .ok x w) : (results fn tmps).run P w = .ok (.tuple #[tmps.getD u undef, x, tmps.getD v undef]) w := by
  have ha' : tmps[t]?.getD undef = .pointer (some a) := by simpa using ha
  simp [results, h, asAddr, ha', hl]
/-- A struct that fills a block, read whole. -/
theorem Row.load {g : Nat} {d : TypeDesc} {vs : List Value} (h : Row w g ty vs) (hu : P.underlying ty = some d) (hd : (match d with | .struct _ | .array _ _ => true | _ => false) = true) (hi : (P.info? ty).map (·.size) = some vs.length) :
    (loadVar ty ⟨g, 0, none⟩).run P w = .ok (.agg vs.toArray) w :=
  run_loadVar_row w g ty ty vs.toArray (0, 0) d h hu hd (by simpa using hi)
end
/-- A variable of one cell that is no struct. -/
theorem run_loadVar_one {P : Program} {w : World} {ty : TypeId} {a : Addr} {v : Value} {d : TypeDesc} (hu : P.underlying ty = some d) (hd : (match d with | .struct _ | .array _ _ => true | _ => false) = false) (hc : w.cell? a = some v) : (loadVar ty a).run P w = .ok v w := by
  cases d <;> simp [loadVar, isAgg, run_underlying hu, go_sem, hc] at hd ⊢
/-- A struct of two cells, stored whole. -/
theorem Row.set2 {w : World} {g : Nat} {t : TypeId} {a b : Value} (h : Row w g t [a, b]) (u0 u1 : Value) : Row ((w.setCell ⟨g, 0, none⟩ u0).setCell ⟨g, 1, none⟩ u1) g t [u0, u1] := by
  simpa using (h.set 0 u0).set 1 u1
theorem Kept.set2 {S : List Nat} {a w : World} (h : Kept S a w) {g : Nat} (hp : g ∈ S ∨ a.heap.size ≤ g) (u0 u1 : Value) : Kept S a ((w.setCell ⟨g, 0, none⟩ u0).setCell ⟨g, 1, none⟩ u1) :=
  (h.set (p := ⟨g, 0, none⟩) hp _).set (p := ⟨g, 1, none⟩) hp _
/-- A struct of three cells, stored whole. -/
theorem Row.set3 {w : World} {g : Nat} {t : TypeId} {a b c : Value} (h : Row w g t [a, b, c]) (u0 u1 u2 : Value) : Row (((w.setCell ⟨g, 0, none⟩ u0).setCell ⟨g, 1, none⟩ u1).setCell ⟨g, 2, none⟩ u2) g t [u0, u1, u2] := by
  simpa using ((h.set 0 u0).set 1 u1).set 2 u2
theorem Kept.set3 {S : List Nat} {a w : World} (h : Kept S a w) {g : Nat} (hp : g ∈ S ∨ a.heap.size ≤ g) (u0 u1 u2 : Value) : Kept S a (((w.setCell ⟨g, 0, none⟩ u0).setCell ⟨g, 1, none⟩ u1).setCell ⟨g, 2, none⟩ u2) :=
  ((h.set (p := ⟨g, 0, none⟩) hp _).set (p := ⟨g, 1, none⟩) hp _).set (p := ⟨g, 2, none⟩) hp _
/-- A struct of four cells, stored whole. -/
theorem Row.set4 {w : World} {g : Nat} {t : TypeId} {a b c d : Value} (h : Row w g t [a, b, c, d]) (u0 u1 u2 u3 : Value) : Row ((((w.setCell ⟨g, 0, none⟩ u0).setCell ⟨g, 1, none⟩ u1).setCell ⟨g, 2, none⟩ u2).setCell ⟨g, 3, none⟩ u3) g t [u0, u1, u2, u3] := by
  simpa using (((h.set 0 u0).set 1 u1).set 2 u2).set 3 u3
theorem Kept.set4 {S : List Nat} {a w : World} (h : Kept S a w) {g : Nat} (hp : g ∈ S ∨ a.heap.size ≤ g) (u0 u1 u2 u3 : Value) : Kept S a ((((w.setCell ⟨g, 0, none⟩ u0).setCell ⟨g, 1, none⟩ u1).setCell ⟨g, 2, none⟩ u2).setCell ⟨g, 3, none⟩ u3) :=
  (((h.set (p := ⟨g, 0, none⟩) hp _).set (p := ⟨g, 1, none⟩) hp _).set (p := ⟨g, 2, none⟩) hp _).set (p := ⟨g, 3, none⟩) hp _
/-- A struct of eight cells, stored whole. -/
theorem Row.set8 {w : World} {g : Nat} {t : TypeId} {v0 v1 v2 v3 v4 v5 v6 v7 : Value} (h : Row w g t [v0, v1, v2, v3, v4, v5, v6, v7]) (u0 u1 u2 u3 u4 u5 u6 u7 : Value) : Row ((((((((w.setCell ⟨g, 0, none⟩ u0).setCell ⟨g, 1, none⟩ u1).setCell ⟨g, 2, none⟩ u2).setCell ⟨g, 3, none⟩ u3).setCell ⟨g, 4, none⟩ u4).setCell ⟨g, 5, none⟩ u5).setCell ⟨g, 6, none⟩ u6).setCell ⟨g, 7, none⟩ u7) g t [u0, u1, u2, u3, u4, u5, u6, u7] := by
  simpa using ((((((((h.set 0 u0).set 1 u1).set 2 u2).set 3 u3).set 4 u4).set 5 u5).set 6 u6).set 7 u7)
theorem Kept.set8 {S : List Nat} {a w : World} (h : Kept S a w) {g : Nat} (hp : g ∈ S ∨ a.heap.size ≤ g) (u0 u1 u2 u3 u4 u5 u6 u7 : Value) : Kept S a ((((((((w.setCell ⟨g, 0, none⟩ u0).setCell ⟨g, 1, none⟩ u1).setCell ⟨g, 2, none⟩ u2).setCell ⟨g, 3, none⟩ u3).setCell ⟨g, 4, none⟩ u4).setCell ⟨g, 5, none⟩ u5).setCell ⟨g, 6, none⟩ u6).setCell ⟨g, 7, none⟩ u7) :=
  (Kept.set (p := ⟨g, 7, none⟩) (Kept.set (p := ⟨g, 6, none⟩) (Kept.set (p := ⟨g, 5, none⟩) (Kept.set (p := ⟨g, 4, none⟩) (Kept.set (p := ⟨g, 3, none⟩) (Kept.set (p := ⟨g, 2, none⟩) (Kept.set (p := ⟨g, 1, none⟩) (Kept.set (p := ⟨g, 0, none⟩) h hp u0) hp u1) hp u2) hp u3) hp u4) hp u5) hp u6) hp u7)
end Go.Proofs.Ytpeekhlccjoioaa

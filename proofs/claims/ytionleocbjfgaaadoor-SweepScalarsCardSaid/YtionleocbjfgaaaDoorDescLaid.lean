/- What the listed variable gives a walk: the table's cells; a world in which it lies so. -/
import Derived.Test.YtionleocbjfgaaaDoorLaw
import Derived.Test.YtionleocbjfgaaaDoorDescTable
import Derived.ProofKit
import Derived.LaidMore
import Derived.OpenShut
import Derived.Stop.Joined
namespace Go.Proofs.YtionleocbjfgaaaDoor
open Go.ChangeShapes Go.WideShapes Go.ChangeAt Go.WideMaps Go.WideElems Go.RowKit

def laidList : List (String × DataW Unit) := [("kraal/desc.table", Rows.laid_kraal_desc_table)]
theorem g_table : Tryd.prog.globalNamed "kraal/desc.table" = some 0 := by kernel_rfl
theorem t_table : (Tryd.prog.globals[0]?).map (·.type) = some 71 := by kernel_rfl
theorem door_met (os : Os) (args : Array Value) : laidMetH Tryd.prog laidList ((World.doorLaid Tryd.prog 18 os).forCall (fun _ _ => 0) ⟨#[], args, []⟩).memory :=
  laidMetH_of_parts3 (fuel := 8) (laidMet_of_run' 8 (by kernel_rfl) (by kernel_rfl)) (by kernel_rfl) (by kernel_rfl)

/-- One row of the table, off its reading. -/
theorem facts_of {W : World} {sp : Nat → Bool} {fuel : Nat} {cs : List Value} {b : Bool} {z : Int} {p : List MemPlace}
    (h : DataW.trod (fun _ => ()) Tryd.prog W 0 sp false fuel 70 cs = some (.agg [.lit (.bool b), .lit (.int .i64 z)], p)) : cs = [.bool b, .int .i64 z] := by
  obtain ⟨xs, m, _, hx, hlen, hxl, hfld⟩ := DataW.trod_struct Tryd.underlying70 h
  have hl2 : cs.length = 2 := hlen.trans (by kernel_rfl)
  have hx2 : xs.length = 2 := hxl
  match cs, hl2, xs, hx2 with
  | [c0, c1], _, [x0, x1], _ =>
    have h0 : DataW.trod (fun _ => ()) Tryd.prog W 0 sp false m 4 (([c0, c1].drop 0).take (Tryd.prog.cellsOf 4)) = some x0 := hfld 0 _ rfl
    have h1 : DataW.trod (fun _ => ()) Tryd.prog W 0 sp false m 3 (([c0, c1].drop 1).take (Tryd.prog.cellsOf 3)) = some x1 := hfld 1 _ rfl
    rw [show Tryd.prog.cellsOf 4 = 1 from by kernel_rfl] at h0
    rw [show Tryd.prog.cellsOf 3 = 1 from by kernel_rfl] at h1
    obtain ⟨b0, e0, d0⟩ := DataW.trod_bool Tryd.underlying4 h0
    obtain ⟨z0, e1, d1, _⟩ := DataW.trod_int Tryd.underlying3 h1
    simp at e0 e1
    subst e0 e1 d0 d1
    simp at hx
    obtain ⟨⟨rfl, rfl⟩, _⟩ := hx
    rfl
theorem tab_of_laid {W : World} (h : laidMetH Tryd.prog laidList W) : Tab W := by
  rw [MakeChecks.laidMetH_plain _ _ _ (by kernel_rfl)] at h
  obtain ⟨ps, ⟨g0, t0, cs0, f0, p0, q0, hg0, ht0, hv0, hd0, _, _⟩, _, _⟩ := h
  obtain rfl := Option.some.inj (g_table.symm.trans hg0)
  obtain rfl := Option.some.inj (t_table.symm.trans ht0)
  obtain ⟨xs, m, _, hx, hlen, hxl, hel⟩ := DataW.trod_array Tryd.underlying71 hd0
  have c2 : Tryd.prog.cellsOf 70 = 2 := by kernel_rfl
  have hl8 : cs0.toList.length = 8 := hlen.trans (by kernel_rfl)
  have hcell : ∀ j v, cs0.toList[j]? = some v → W.cell? ⟨0, j, none⟩ = some v := fun j v hj => by
    have := World.var?_cell hg0 hv0 j
    rw [this]
    simpa using hj
  rw [c2] at hel
  have e0 := hel 0 (by decide)
  have e1 := hel 1 (by decide)
  have e2 := hel 2 (by decide)
  have e3 := hel 3 (by decide)
  generalize cs0.toList = cl at *
  match cl, hl8, xs, hxl with
  | [a0, a1, b0, b1, c0, c1, d0, d1], _, [x0, x1, x2, x3], _ =>
    simp only [Rows.laid_kraal_desc_table, Prod.mk.injEq, DataW.agg.injEq, List.map_cons, List.map_nil, List.cons.injEq, and_true] at hx
    obtain ⟨⟨h0, h1, h2, h3⟩, _⟩ := hx
    obtain ⟨y0, q0⟩ := x0
    obtain ⟨y1, q1⟩ := x1
    obtain ⟨y2, q2⟩ := x2
    obtain ⟨y3, q3⟩ := x3
    simp only at h0 h1 h2 h3
    subst h0 h1 h2 h3
    have f0 := facts_of (cs := [a0, a1]) e0
    have f1 := facts_of (cs := [b0, b1]) e1
    have f2 := facts_of (cs := [c0, c1]) e2
    have f3 := facts_of (cs := [d0, d1]) e3
    simp only [List.cons.injEq, and_true] at f0 f1 f2 f3
    obtain ⟨rfl, rfl⟩ := f0
    obtain ⟨rfl, rfl⟩ := f1
    obtain ⟨rfl, rfl⟩ := f2
    obtain ⟨rfl, rfl⟩ := f3
    exact ⟨by simpa using block_lt_of_cell (hcell 0 _ rfl), hcell⟩
end Go.Proofs.YtionleocbjfgaaaDoor

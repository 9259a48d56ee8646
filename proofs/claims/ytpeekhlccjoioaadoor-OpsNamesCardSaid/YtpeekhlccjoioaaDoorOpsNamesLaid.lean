/- What the listed variable gives a walk: the table's cells; a world in which it lies so. -/
import Derived.Test.YtpeekhlccjoioaaDoorLaw
import Derived.Test.YtpeekhlccjoioaaDoorOpsNames
import Derived.ProofKit
import Derived.LaidMore
import Derived.OpenShut
import Derived.Stop.Joined
namespace Go.Proofs.YtpeekhlccjoioaaDoor
open Go.ChangeShapes Go.WideShapes Go.ChangeAt Go.WideMaps Go.WideElems Go.RowKit

def laidListN : List (String × DataW Unit) := [("kraal/ops.names", Rows.laid_kraal_ops_names)]
theorem g_tableN : Tryd.prog.globalNamed "kraal/ops.names" = some 0 := by kernel_rfl
theorem t_tableN : (Tryd.prog.globals[0]?).map (·.type) = some 37 := by kernel_rfl
set_option maxRecDepth 100000 in
theorem door_metN (os : Os) (args : Array Value) : laidMetH Tryd.prog laidListN ((World.doorLaid Tryd.prog 18 os).forCall (fun _ _ => 0) ⟨#[], args, []⟩).memory :=
  laidMetH_of_parts3 (fuel := 8) (laidMet_of_run' 8 (by kernel_rfl) (by kernel_rfl)) (by kernel_rfl) (by kernel_rfl)
theorem laidN_eq : (Rows.laid_kraal_ops_names : DataW Unit) = .agg (nmT.map fun l => .lit (.string l)) := rfl
set_option maxRecDepth 100000 in
theorem tabN_of_laid {W : World} (h : laidMetH Tryd.prog laidListN W) : TabN W := by
  rw [MakeChecks.laidMetH_plain _ _ _ (by kernel_rfl)] at h
  obtain ⟨ps, ⟨g0, t0, cs0, f0, p0, q0, hg0, ht0, hv0, hd0, _, _⟩, _, _⟩ := h
  obtain rfl := Option.some.inj (g_tableN.symm.trans hg0)
  obtain rfl := Option.some.inj (t_tableN.symm.trans ht0)
  obtain ⟨xs, m, _, hx, hlen, hxl, hel⟩ := DataW.trod_array Tryd.underlying37 hd0
  have c1 : Tryd.prog.cellsOf 9 = 1 := by kernel_rfl
  have hl16 : cs0.toList.length = 16 := hlen.trans (by kernel_rfl)
  have hcell : ∀ j v, cs0.toList[j]? = some v → W.cell? ⟨0, j, none⟩ = some v := fun j v hj => by
    have := World.var?_cell hg0 hv0 j
    rw [this]
    simpa using hj
  rw [c1] at hel
  simp only [laidN_eq, Prod.mk.injEq, DataW.agg.injEq] at hx
  have hxm := hx.1
  have key : ∀ j, j < 16 → cs0.toList[j]? = some (strV (nmA j)) := by
    intro j hj
    have hjx : j < xs.length := by rw [hxl]; exact hj
    have e := hel j hj
    rw [List.getElem?_eq_getElem hjx] at e
    obtain ⟨s, e1, e2, _⟩ := DataW.trod_string Tryd.underlying9 e
    have hj1 := congrArg (fun l => l[j]?) hxm
    have hjn : j < nmT.length := hj
    rw [List.getElem?_map, List.getElem?_map, List.getElem?_eq_getElem hjx, List.getElem?_eq_getElem hjn] at hj1
    simp only [Option.map_some, Option.some.injEq] at hj1
    rw [e2] at hj1
    simp only [DataW.lit.injEq, Lit.string.injEq] at hj1
    have hd : (cs0.toList.drop (j * 1)).take 1 = [.string s] := e1
    rw [Nat.mul_one, List.drop_eq_getElem_cons (by omega), List.take_succ_cons, List.take_zero] at hd
    rw [List.getElem?_eq_getElem (by omega), (List.cons.inj hd).1]
    unfold strV nmA
    rw [List.getElem?_eq_getElem hjn, Option.getD_some, hj1]
  refine ⟨?_, fun j v hv => hcell j v ?_⟩
  · have := block_lt_of_cell (hcell 0 _ (key 0 (by decide)))
    simpa using this
  · have hj : j < 16 := by
      have := (List.getElem?_eq_some_iff.1 hv).1
      have hl : namesV.length = 16 := rfl
      omega
    rw [key j hj]
    rw [namesV_at hj] at hv
    exact hv
end Go.Proofs.YtpeekhlccjoioaaDoor

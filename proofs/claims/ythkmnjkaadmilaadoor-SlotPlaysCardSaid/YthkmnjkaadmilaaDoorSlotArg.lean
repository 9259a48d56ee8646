/- An object that came in: what it reads as. -/
import Derived.Test.YthkmnjkaadmilaaDoorLaw
import Derived.Test.YthkmnjkaadmilaaDoorSl
namespace Go.Proofs.YthkmnjkaadmilaaDoor
open Go.ChangeShapes Go.WideShapes Go.ChangeAt Go.RowKit

set_option maxRecDepth 100000 in
/-- A slice of integers that fills one cell. -/
theorem open_slcell {H : Type} {enc : TypeId × Value → H} {W : World} {held : Bool} {t e : TypeId} {k : IntKind} {fuel : Nat} {c : Value} {x : DataW H × List MemPlace}
    (ht : Tryd.prog.underlying t = some (.slice e)) (he : Tryd.prog.underlying e = some (.int k)) (hce : Tryd.prog.cellsOf e = 1)
    (h : DataW.trod enc Tryd.prog W 0 (fun _ => true) held fuel t [c] = some x) :
    ∃ (a : Option Addr) (cap : Nat) (zs : List Int), c = .slice a zs.length cap ∧ Sl W k a zs ∧ zs.length ≤ maxLen := by
  rcases open_ints ht he hce h with ⟨hcs, _⟩ | ⟨a, len, cap, zs, hcs, _, hl, hm, hz, _, hcell, _⟩
  · obtain rfl : c = .slice none 0 0 := by simpa using hcs
    exact ⟨none, 0, [], rfl, .inl rfl, by simp⟩
  · obtain rfl : c = .slice (some a) len cap := by simpa using hcs
    have hzl : zs.length = cap := by simpa using hz
    refine ⟨some a, cap, zs.take len, by simp; omega, ?_, by simp; omega⟩
    by_cases e0 : len = 0
    · exact .inl (by simp [e0])
    · obtain ⟨b, off, spot⟩ := a
      have hc := hcell 0 (by omega)
      have hspot : spot = none := by simpa [Addr.add] using World.cell?_spot hc
      subst hspot
      refine .inr ⟨b, off, rfl, ?_, fun j hj => ?_⟩
      · have := block_lt_of_cell hc
        simpa [Addr.add] using this
      · have hj' : j < len := by simp at hj; omega
        have hc := hcell j (by omega)
        have : (zs.take len)[j]?.getD 0 = zs.getD j 0 := by simp [hj']
        have hadd : (⟨b, off, none⟩ : Addr).add j = ⟨b, off + j, none⟩ := by unfold Addr.add; split <;> simp_all
        rw [this, ← hadd]
        exact hc

set_option maxRecDepth 100000 in
/-- A head's cells. -/
theorem open_headcells {H : Type} {enc : TypeId × Value → H} {W : World} {held : Bool} {fuel : Nat} {c0 c1 c2 c3 : Value} {x : DataW H × List MemPlace}
    (h : DataW.trod enc Tryd.prog W 0 (fun _ => true) held fuel 24 [c0, c1, c2, c3] = some x) :
    ∃ (ar : Bool) (kd ty nn : Int), c0 = .bool ar ∧ c1 = .int .i64 kd ∧ c2 = .int .i64 ty ∧ c3 = .int .i64 nn := by
  obtain ⟨xs, m, _, hx, hlen, hxl, hfld⟩ := DataW.trod_struct Tryd.underlying24 h
  have hx4 : xs.length = 4 := hxl
  match xs, hx4 with
  | [x0, x1, x2, x3], _ =>
    have h0 : DataW.trod enc Tryd.prog W 0 (fun _ => true) held m 4 (([c0, c1, c2, c3].drop 0).take (Tryd.prog.cellsOf 4)) = some x0 := hfld 0 _ rfl
    have h1 : DataW.trod enc Tryd.prog W 0 (fun _ => true) held m 3 (([c0, c1, c2, c3].drop 1).take (Tryd.prog.cellsOf 3)) = some x1 := hfld 1 _ rfl
    have h2 : DataW.trod enc Tryd.prog W 0 (fun _ => true) held m 3 (([c0, c1, c2, c3].drop 2).take (Tryd.prog.cellsOf 3)) = some x2 := hfld 2 _ rfl
    have h3 : DataW.trod enc Tryd.prog W 0 (fun _ => true) held m 3 (([c0, c1, c2, c3].drop 3).take (Tryd.prog.cellsOf 3)) = some x3 := hfld 3 _ rfl
    rw [show Tryd.prog.cellsOf 4 = 1 from by kernel_rfl] at h0
    rw [show Tryd.prog.cellsOf 3 = 1 from by kernel_rfl] at h1 h2 h3
    obtain ⟨ar, e0, _⟩ := DataW.trod_bool Tryd.underlying4 h0
    obtain ⟨kd, e1, _, _⟩ := DataW.trod_int Tryd.underlying3 h1
    obtain ⟨ty, e2, _, _⟩ := DataW.trod_int Tryd.underlying3 h2
    obtain ⟨nn, e3, _, _⟩ := DataW.trod_int Tryd.underlying3 h3
    simp at e0 e1 e2 e3
    exact ⟨ar, kd, ty, nn, e0, e1, e2, e3⟩

set_option maxRecDepth 100000 in
/-- An object, by value. -/
theorem open_object {H : Type} {enc : TypeId × Value → H} {W : World} {b0 : Nat} {held : Bool} {r0 : Reach} {v : Value} {d : DataW H} {p : List MemPlace}
    (hv : Value.okWide Tryd.prog W r0 b0 27 v) (h : DataW.Trod enc Tryd.prog W 0 (fun _ => true) held 27 v d p) :
    ∃ (a r : Int) (ar : Bool) (kd ty nn : Int) (ka : Option Addr) (kc : Nat) (ks : List Int) (va : Option Addr) (vc : Nat) (vs : List Int), v = .agg #[.int .i64 a, .int .i64 r, .bool ar, .int .i64 kd, .int .i64 ty, .int .i64 nn, .slice ka ks.length kc, .slice va vs.length vc] ∧ Sl W .i64 ka ks ∧ Sl W .u64 va vs ∧ ks.length ≤ maxLen ∧ vs.length ≤ maxLen := by
  obtain ⟨cs, rfl, hsz, _⟩ : ∃ cs, v = .agg cs ∧ cs.size = Tryd.prog.cellsOf 27 ∧ Row.okWide Tryd.prog W r0 b0 27 cs := by
    simpa [Value.okWide, Tryd.underlying27] using hv
  rw [show Tryd.prog.cellsOf 27 = 8 from by kernel_rfl] at hsz
  obtain ⟨l⟩ := cs
  obtain ⟨fuel, hf⟩ := h
  have hcl : (Value.agg l.toArray).cells.toList = l := by simp [Value.cells]
  rw [hcl] at hf
  obtain ⟨xs, m, _, hx, hlen, hxl, hfld⟩ := DataW.trod_struct Tryd.underlying27 hf
  have hl8 : l.length = 8 := by simpa using hsz
  have hx5 : xs.length = 5 := hxl
  match l, hl8, xs, hx5 with
  | [c0, c1, c2, c3, c4, c5, c6, c7], _, [x0, x1, x2, x3, x4], _ =>
    have h0 : DataW.trod enc Tryd.prog W 0 (fun _ => true) held m 3 (([c0, c1, c2, c3, c4, c5, c6, c7].drop 0).take (Tryd.prog.cellsOf 3)) = some x0 := hfld 0 _ rfl
    have h1 : DataW.trod enc Tryd.prog W 0 (fun _ => true) held m 3 (([c0, c1, c2, c3, c4, c5, c6, c7].drop 1).take (Tryd.prog.cellsOf 3)) = some x1 := hfld 1 _ rfl
    have h2 : DataW.trod enc Tryd.prog W 0 (fun _ => true) held m 24 (([c0, c1, c2, c3, c4, c5, c6, c7].drop 2).take (Tryd.prog.cellsOf 24)) = some x2 := hfld 2 _ rfl
    have h3 : DataW.trod enc Tryd.prog W 0 (fun _ => true) held m 25 (([c0, c1, c2, c3, c4, c5, c6, c7].drop 6).take (Tryd.prog.cellsOf 25)) = some x3 := hfld 3 _ rfl
    have h4 : DataW.trod enc Tryd.prog W 0 (fun _ => true) held m 22 (([c0, c1, c2, c3, c4, c5, c6, c7].drop 7).take (Tryd.prog.cellsOf 22)) = some x4 := hfld 4 _ rfl
    rw [show Tryd.prog.cellsOf 3 = 1 from by kernel_rfl] at h0 h1
    rw [show Tryd.prog.cellsOf 24 = 4 from by kernel_rfl] at h2
    rw [show Tryd.prog.cellsOf 25 = 1 from by kernel_rfl] at h3
    rw [show Tryd.prog.cellsOf 22 = 1 from by kernel_rfl] at h4
    obtain ⟨a, e0, _, _⟩ := DataW.trod_int Tryd.underlying3 h0
    obtain ⟨r, e1, _, _⟩ := DataW.trod_int Tryd.underlying3 h1
    simp at e0 e1
    obtain ⟨ar, kd, ty, nn, rfl, rfl, rfl, rfl⟩ := open_headcells (by simpa using h2)
    obtain ⟨ka, kc, ks, rfl, hk, hkm⟩ := open_slcell Tryd.underlying25 Tryd.underlying3 (by kernel_rfl) (c := c6) (by simpa using h3)
    obtain ⟨va, vc, vs, rfl, hs, hsm⟩ := open_slcell Tryd.underlying22 Tryd.underlying28 (by kernel_rfl) (c := c7) (by simpa using h4)
    subst e0 e1
    exact ⟨a, r, ar, kd, ty, nn, ka, kc, ks, va, vc, vs, rfl, hk, hs, hkm, hsm⟩
end Go.Proofs.YthkmnjkaadmilaaDoor

/- A list of objects that came in: what it reads as. -/
import Derived.Deep.Slices
import Derived.Test.YtionleocbjfgaaaDoorLaw
import Derived.Test.YtionleocbjfgaaaDoorSweepLies
namespace Go.Proofs.YtionleocbjfgaaaDoor
open Go.ChangeShapes Go.WideShapes Go.ChangeAt Go.RowKit Go.Deep

set_option maxRecDepth 100000 in
/-- A slice of integers that fills one cell. -/
theorem open_slcell18 {H : Type} {enc : TypeId × Value → H} {W : World} {held : Bool} {t e : TypeId} {k : IntKind} {fuel : Nat} {c : Value} {x : DataW H × List MemPlace}
    (ht : Tryd.prog.underlying t = some (.slice e)) (he : Tryd.prog.underlying e = some (.int k)) (hce : Tryd.prog.cellsOf e = 1)
    (h : DataW.trod enc Tryd.prog W 0 (fun _ => true) held fuel t [c] = some x) :
    ∃ (a : Option Addr) (cap : Nat) (zs : List Int), c = .slice a zs.length cap ∧ Sl W k a zs ∧ zs.length ≤ maxLen ∧ ∀ z ∈ zs, (Lit.int k z).wf = true := by
  rcases open_ints ht he hce h with ⟨hcs, _⟩ | ⟨a, len, cap, zs, hcs, _, hl, hm, hz, _, hcell, hwz⟩
  · obtain rfl : c = .slice none 0 0 := by simpa using hcs
    exact ⟨none, 0, [], rfl, .inl rfl, by simp, by simp⟩
  · obtain rfl : c = .slice (some a) len cap := by simpa using hcs
    have hzl : zs.length = cap := by simpa using hz
    refine ⟨some a, cap, zs.take len, by simp; omega, ?_, by simp; omega, fun z hz' => hwz z (List.mem_of_mem_take hz')⟩
    by_cases e0 : len = 0
    · exact .inl (by simp [e0])
    · obtain ⟨b, off, spot⟩ := a
      have hc := hcell 0 (by omega)
      have hspot : spot = none := by simpa [Addr.add] using World.cell?_spot hc
      subst hspot
      refine .inr ⟨b, off, rfl, ?_, fun j hj => ?_⟩
      · have := block_lt_of_cell hc
        simpa [Addr.add] using this
      · have hj' : j < len := by simp at hj; omega
        have hc := hcell j (by omega)
        have : (zs.take len)[j]?.getD 0 = zs.getD j 0 := by simp [hj']
        have hadd : (⟨b, off, none⟩ : Addr).add j = ⟨b, off + j, none⟩ := by unfold Addr.add; split <;> simp_all
        rw [this, ← hadd]
        exact hc

set_option maxRecDepth 100000 in
/-- A head's cells. -/
theorem open_headcells18 {H : Type} {enc : TypeId × Value → H} {W : World} {held : Bool} {fuel : Nat} {c0 c1 c2 c3 : Value} {x : DataW H × List MemPlace}
    (h : DataW.trod enc Tryd.prog W 0 (fun _ => true) held fuel 27 [c0, c1, c2, c3] = some x) :
    ∃ (ar : Bool) (kd ty nn : Int), c0 = .bool ar ∧ c1 = .int .i64 kd ∧ c2 = .int .i64 ty ∧ c3 = .int .i64 nn := by
  obtain ⟨xs, m, _, hx, hlen, hxl, hfld⟩ := DataW.trod_struct Tryd.underlying27 h
  have hx4 : xs.length = 4 := hxl
  match xs, hx4 with
  | [x0, x1, x2, x3], _ =>
    have h0 : DataW.trod enc Tryd.prog W 0 (fun _ => true) held m 4 (([c0, c1, c2, c3].drop 0).take (Tryd.prog.cellsOf 4)) = some x0 := hfld 0 _ rfl
    have h1 : DataW.trod enc Tryd.prog W 0 (fun _ => true) held m 3 (([c0, c1, c2, c3].drop 1).take (Tryd.prog.cellsOf 3)) = some x1 := hfld 1 _ rfl
    have h2 : DataW.trod enc Tryd.prog W 0 (fun _ => true) held m 3 (([c0, c1, c2, c3].drop 2).take (Tryd.prog.cellsOf 3)) = some x2 := hfld 2 _ rfl
    have h3 : DataW.trod enc Tryd.prog W 0 (fun _ => true) held m 3 (([c0, c1, c2, c3].drop 3).take (Tryd.prog.cellsOf 3)) = some x3 := hfld 3 _ rfl
    rw [show Tryd.prog.cellsOf 4 = 1 from by kernel_rfl] at h0
    rw [show Tryd.prog.cellsOf 3 = 1 from by kernel_rfl] at h1 h2 h3
    obtain ⟨ar, e0, _⟩ := DataW.trod_bool Tryd.underlying4 h0
    obtain ⟨kd, e1, _, _⟩ := DataW.trod_int Tryd.underlying3 h1
    obtain ⟨ty, e2, _, _⟩ := DataW.trod_int Tryd.underlying3 h2
    obtain ⟨nn, e3, _, _⟩ := DataW.trod_int Tryd.underlying3 h3
    simp at e0 e1 e2 e3
    exact ⟨ar, kd, ty, nn, e0, e1, e2, e3⟩

/-- Numbers that a machine has, but for the lists' lengths. -/
structure ObP.Num (o : ObP) : Prop where
  at_ : Fit64 o.at_
  reg : Fit64 o.reg
  ks : ∀ k ∈ o.ks, Fit64 k
  vs : ∀ v ∈ o.vs, FitU v
theorem fit_wf {z : Int} (h : (Lit.int .i64 z).wf = true) : Fit64 z := by
  simpa [Lit.wf, IntKind.min, IntKind.max, IntKind.signed, IntKind.bits, Fit64] using h
theorem fitU_wf {z : Int} (h : (Lit.int .u64 z).wf = true) : FitU z := by
  simpa [Lit.wf, IntKind.min, IntKind.max, IntKind.signed, IntKind.bits, FitU] using h

set_option maxRecDepth 100000 in
/-- An object's cells. -/
theorem open_obj18 {H : Type} {enc : TypeId × Value → H} {W : World} {held : Bool} {fuel : Nat} {cs : List Value} {x : DataW H × List MemPlace}
    (h : DataW.trod enc Tryd.prog W 0 (fun _ => true) held fuel 30 cs = some x) :
    ∃ q : ObQ, cs = q.cells ∧ (Sl W .i64 q.ka q.o.ks ∧ Sl W .u64 q.va q.o.vs) ∧ q.o.Num := by
  obtain ⟨xs, m, _, hx, hlen, hxl, hfld⟩ := DataW.trod_struct Tryd.underlying30 h
  have hl8 : cs.length = 8 := hlen.trans (by kernel_rfl)
  have hx5 : xs.length = 5 := hxl
  match cs, hl8, xs, hx5 with
  | [c0, c1, c2, c3, c4, c5, c6, c7], _, [x0, x1, x2, x3, x4], _ =>
    have h0 : DataW.trod enc Tryd.prog W 0 (fun _ => true) held m 3 (([c0, c1, c2, c3, c4, c5, c6, c7].drop 0).take (Tryd.prog.cellsOf 3)) = some x0 := hfld 0 _ rfl
    have h1 : DataW.trod enc Tryd.prog W 0 (fun _ => true) held m 3 (([c0, c1, c2, c3, c4, c5, c6, c7].drop 1).take (Tryd.prog.cellsOf 3)) = some x1 := hfld 1 _ rfl
    have h2 : DataW.trod enc Tryd.prog W 0 (fun _ => true) held m 27 (([c0, c1, c2, c3, c4, c5, c6, c7].drop 2).take (Tryd.prog.cellsOf 27)) = some x2 := hfld 2 _ rfl
    have h3 : DataW.trod enc Tryd.prog W 0 (fun _ => true) held m 28 (([c0, c1, c2, c3, c4, c5, c6, c7].drop 6).take (Tryd.prog.cellsOf 28)) = some x3 := hfld 3 _ rfl
    have h4 : DataW.trod enc Tryd.prog W 0 (fun _ => true) held m 23 (([c0, c1, c2, c3, c4, c5, c6, c7].drop 7).take (Tryd.prog.cellsOf 23)) = some x4 := hfld 4 _ rfl
    rw [show Tryd.prog.cellsOf 3 = 1 from by kernel_rfl] at h0 h1
    rw [show Tryd.prog.cellsOf 27 = 4 from by kernel_rfl] at h2
    rw [show Tryd.prog.cellsOf 28 = 1 from by kernel_rfl] at h3
    rw [show Tryd.prog.cellsOf 23 = 1 from by kernel_rfl] at h4
    obtain ⟨a, e0, _, w0⟩ := DataW.trod_int Tryd.underlying3 h0
    obtain ⟨r, e1, _, w1⟩ := DataW.trod_int Tryd.underlying3 h1
    simp at e0 e1
    obtain ⟨ar, kd, ty, nn, rfl, rfl, rfl, rfl⟩ := open_headcells18 (by simpa using h2)
    obtain ⟨ka, kc, ks, rfl, hk, _, hkw⟩ := open_slcell18 Tryd.underlying28 Tryd.underlying3 (by kernel_rfl) (c := c6) (by simpa using h3)
    obtain ⟨va, vc, vs, rfl, hs, _, hsw⟩ := open_slcell18 Tryd.underlying23 Tryd.underlying36 (by kernel_rfl) (c := c7) (by simpa using h4)
    subst e0 e1
    exact ⟨⟨⟨a, r, ks, vs⟩, ⟨ar, kd, ty, nn⟩, ka, kc, va, vc⟩, rfl, ⟨hk, hs⟩, ⟨fit_wf w0, fit_wf w1, fun k hk => fit_wf (hkw k hk), fun v hv => fitU_wf (hsw v hv)⟩⟩

set_option maxRecDepth 100000 in
/-- A list of objects. -/
theorem open_objs18 {H : Type} {enc : TypeId × Value → H} {W : World} {b0 : Nat} {held : Bool} {r : Reach} {v : Value} {d : DataW H} {p : List MemPlace}
    (hv : Value.okWide Tryd.prog W r b0 22 v) (h : DataW.Trod enc Tryd.prog W 0 (fun _ => true) held 22 v d p) :
    ∃ (a : Option Addr) (cap : Nat) (qs : List ObQ), v = .slice a qs.length cap ∧ SlO W a qs ∧ qs.length ≤ maxLen ∧ qs.length ≤ cap ∧ ∀ q ∈ qs, q.o.Num := by
  obtain ⟨a, len, cap, rfl⟩ := okWide_slice Tryd.underlying22 hv
  obtain ⟨fuel, hf⟩ := h
  rcases open_slice Tryd.underlying22 hf with ⟨hcs, _⟩ | ⟨x, l, c, m, n, D, Pl, hcs, _, hl, hm, hmm, _, hel⟩
  · simp [Value.cells] at hcs
    obtain ⟨rfl, rfl, rfl⟩ := hcs
    exact ⟨none, 0, [], rfl, ⟨.inl rfl, by simp⟩, by simp, by simp, by simp⟩
  · simp [Value.cells] at hcs
    obtain ⟨rfl, rfl, rfl⟩ := hcs
    have hob : ∀ i, i < len → ∃ q : ObQ, (∀ j, j < 8 → W.cell? (x.add (i * 8 + j)) = q.cells[j]?) ∧ (Sl W .i64 q.ka q.o.ks ∧ Sl W .u64 q.va q.o.vs) ∧ q.o.Num := by
      intro i hi
      obtain ⟨cs, hc, hd⟩ := hel i (by simp at hmm; omega)
      rw [show Tryd.prog.cellsOf 30 = 8 from by kernel_rfl] at hc
      obtain ⟨_, hcl, hat⟩ := World.cells?_some hc
      obtain ⟨q, rfl, h1, h2⟩ := open_obj18 hd
      exact ⟨q, fun j hj => by rw [← Go.Deep.add_add, hat j hj], h1, h2⟩
    obtain ⟨R, hR⟩ := choose_lt (α := ObQ) hob
    have hmemR : ∀ q ∈ (List.range len).map R, ∃ i, i < len ∧ R i = q := fun q hq => by
      obtain ⟨i, hi, rfl⟩ := List.mem_map.1 hq
      exact ⟨i, List.mem_range.1 hi, rfl⟩
    refine ⟨some x, cap, (List.range len).map R, by simp, ⟨?_, fun q hq => ?_⟩, by simp; omega, by simp; omega, fun q hq => ?_⟩
    · by_cases h0 : len = 0
      · exact .inl (by simp [h0])
      · obtain ⟨b, off, spot⟩ := x
        obtain ⟨hc0, _⟩ := hR 0 (by omega)
        have hc := hc0 0 (by omega)
        rw [show (R 0).cells[0]? = some (.int .i64 (R 0).o.at_) from rfl] at hc
        have hspot : spot = none := by simpa [Addr.add] using World.cell?_spot hc
        subst hspot
        refine .inr ⟨b, off, rfl, ?_, fun j q hj i hi => ?_⟩
        · have := block_lt_of_cell hc
          simpa [Addr.add] using this
        · have hjl : j < len := by have := (List.getElem?_eq_some_iff.1 hj).1; simpa using this
          have hqR : q = R j := by
            rw [List.getElem?_map, List.getElem?_range hjl] at hj
            simpa using hj.symm
          subst hqR
          have := (hR j hjl).1 i hi
          rw [add_none] at this
          rw [Nat.add_assoc]; exact this
    · obtain ⟨i, hi, rfl⟩ := hmemR q hq
      exact (hR i hi).2.1
    · obtain ⟨i, hi, rfl⟩ := hmemR q hq
      exact (hR i hi).2.2
end Go.Proofs.YtionleocbjfgaaaDoor

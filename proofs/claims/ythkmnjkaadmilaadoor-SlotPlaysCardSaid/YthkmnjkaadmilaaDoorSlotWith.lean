/- Package slot: with. -/
import Derived.Test.YthkmnjkaadmilaaDoorSlotAt
import Derived.Test.YthkmnjkaadmilaaDoorClone
import Derived.Test.YthkmnjkaadmilaaDoorStructs
import Derived.Test.YthkmnjkaadmilaaDoorStepCall
import Derived.Test.YthkmnjkaadmilaaDoorRet
namespace Go.Proofs.YthkmnjkaadmilaaDoor
open Go.RowKit

/-- An object as it was, but for its lists, that read as these and lie in new blocks. -/
def NewOb (a r : Int) (ar : Bool) (kd ty nn : Int) (ks vs : List Int) (w : World) (v : Value) (w' : World) : Prop :=
  ∃ ka kc va vc, v = .agg #[.int .i64 a, .int .i64 r, .bool ar, .int .i64 kd, .int .i64 ty, .int .i64 nn, .slice ka ks.length kc, .slice va vs.length vc] ∧ SlX w' .i64 (fun b => w.heap.size ≤ b) ka ks ∧ SlX w' .u64 (fun b => w.heap.size ≤ b) va vs

theorem SlX.of_own1 {w : World} {B : Nat} {t : TypeId} {k : IntKind} {A : Option Addr} {n c : Nat} {xs : List Int} (h : w.ownsRow B t 1 (.slice A n c) n (xs.map (Value.int k))) : SlX w k (fun b => B ≤ b) A xs := by
  obtain ⟨a, cap, he, hx⟩ := SlX.of_own h
  cases he
  exact hx

set_option maxRecDepth 100000 in
set_option maxHeartbeats 4000000 in
theorem slotWith_any (a r : Int) (ar : Bool) (kd ty nn : Int) (ka : Option Addr) (kc : Nat) (ks : List Int) (va : Option Addr) (vc : Nat) (vs : List Int) (n : Nat) (v : Int) (w : World) (hs : Sl w .i64 ka ks) (ht : Sl w .u64 va vs) (hk : ks.length ≤ 1099511627776) (hv : vs.length ≤ 1099511627776) :
    Calls Tryd.prog 22 #[.agg #[.int .i64 a, .int .i64 r, .bool ar, .int .i64 kd, .int .i64 ty, .int .i64 nn, .slice ka ks.length kc, .slice va vs.length vc], .int .u64 n, .int .u64 v] w fun e w' => ∃ x, e = .returned x ∧ NewOb a r ar kd ty nn ks (vs.set n v) w x w' ∧ Kept [] w w' := by
  have k1 := (Kept.refl [] w).alloc (.cells #[.int .i64 a, .int .i64 r, .bool ar, .int .i64 kd, .int .i64 ty, .int .i64 nn, .slice ka ks.length kc, .slice va vs.length vc] 27)
  have k2 := k1.alloc (.cells #[.int .i64 0, .int .i64 0, .bool false, .int .i64 0, .int .i64 0, .int .i64 0, .slice none 0 0, .slice none 0 0] 27)
  have rB := (Row.new w 27 [.int .i64 a, .int .i64 r, .bool ar, .int .i64 kd, .int .i64 ty, .int .i64 nn, .slice ka ks.length kc, .slice va vs.length vc]).alloc (.cells #[.int .i64 0, .int .i64 0, .bool false, .int .i64 0, .int .i64 0, .int .i64 0, .slice none 0 0, .slice none 0 0] 27)
  have rR := Row.new (w.alloc (.cells #[.int .i64 a, .int .i64 r, .bool ar, .int .i64 kd, .int .i64 ty, .int .i64 nn, .slice ka ks.length kc, .slice va vs.length vc] 27)) 27 [.int .i64 0, .int .i64 0, .bool false, .int .i64 0, .int .i64 0, .int .i64 0, .slice none 0 0, .slice none 0 0]
  rw [World.size_alloc] at rR
  have hentI := enters_of Tryd.func28 (by kernel_rfl) rfl
  have hentU := enters_of Tryd.func29 (by kernel_rfl) rfl
  have hwl : IntKind.u64.wrap (vs.length : Int) = (vs.length : Int) := by rw [IntKind.wrap_u64]; omega
  go_enter Tryd.func22, Tryd.ntmps22
  go_wp2_with fail
  obtain ⟨R, hR⟩ : ∃ R, w.heap.size = R := ⟨_, rfl⟩
  have HR := Lib.hid hR
  rw [hR] at rB rR ⊢
  generalize (w.alloc (.cells #[.int .i64 a, .int .i64 r, .bool ar, .int .i64 kd, .int .i64 ty, .int .i64 nn, .slice ka ks.length kc, .slice va vs.length vc] 27)).alloc (.cells #[.int .i64 0, .int .i64 0, .bool false, .int .i64 0, .int .i64 0, .int .i64 0, .slice none 0 0, .slice none 0 0] 27) = W at k2 rB rR ⊢
  clear hR k1
  have hRl := rB.lt
  have c6 : W.cell? ⟨R, 6, none⟩ = some (.slice ka ks.length kc) := by simpa using rB.cell 6
  have c7 : W.cell? ⟨R, 7, none⟩ = some (.slice va vs.length vc) := by simpa using rB.cell 7
  have hsW := hs.kept k2.drew
  have htW := ht.kept k2.drew
  go_region_law (first
    | (refine step_callE1 (by with_reducible rfl) (by rfl) 28 _ _ (by rfl) hentI _ (by rfl) (cloneI_any ka kc ks W.drew hsW hk) ?_; rintro e2 w2 ⟨A1, c1, rfl, hX1, q1⟩; refine ⟨_, rfl, ?_⟩
       have q1' : Kept [] W w2 := (Kept.refl [] W).drew.trans q1
       have rB2 := rB.kept q1' (by simp)
       have d7 : w2.cell? ⟨R, 7, none⟩ = some (.slice va vs.length vc) := (by simpa using rB2.cell 7))
    | (refine step_callE1 (by with_reducible rfl) (by rfl) 29 _ _ (by rfl) hentU _ (by rfl) (cloneU_any va vc vs w2 (htW.kept q1) hv) ?_; rintro e3 w3 ⟨A2, c2, rfl, hX2, q2⟩; refine ⟨_, rfl, ?_⟩
       have rB3 := rB2.kept q2 (by simp)
       have e6 : w3.cell? ⟨R, 6, none⟩ = some (.slice ka ks.length kc) := (by simpa using rB3.cell 6)
       have e7 : w3.cell? ⟨R, 7, none⟩ = some (.slice va vs.length vc) := (by simpa using rB3.cell 7)
       have g6 := rB3.free 6
       have g7 := rB3.free 7))
  all_goals
    have hRl2 := rR.lt
    have q3 := q1'.trans q2
    have kZ : Kept [R] w3 ((w3.setCell ⟨R, 6, none⟩ (.slice A1 ks.length c1)).setCell ⟨R, 7, none⟩ (.slice A2 vs.length c2)) := ((Kept.refl [R] w3).set (p := ⟨R, 6, none⟩) (.inl (by simp)) _).set (p := ⟨R, 7, none⟩) (.inl (by simp)) _
    have rB4 : Row ((w3.setCell ⟨R, 6, none⟩ (.slice A1 ks.length c1)).setCell ⟨R, 7, none⟩ (.slice A2 vs.length c2)) R 27 [.int .i64 a, .int .i64 r, .bool ar, .int .i64 kd, .int .i64 ty, .int .i64 nn, .slice A1 ks.length c1, .slice A2 vs.length c2] := by simpa using (rB3.set 6 (.slice A1 ks.length c1)).set 7 (.slice A2 vs.length c2)
    have rR4 := (rR.kept q3 (by simp)).kept kZ (by simp)
    have kk : Kept [] w ((w3.setCell ⟨R, 6, none⟩ (.slice A1 ks.length c1)).setCell ⟨R, 7, none⟩ (.slice A2 vs.length c2)) := (k2.trans q3).chain kZ (by simp) (by have := HR.out; simp; omega)
    have hz2 : W.heap.size ≤ w2.heap.size := q1'.size
    have HX1 := Lib.hid ((((SlX.of_own1 hX1).mono (Y := fun b => R + 1 < b ∧ b < w2.heap.size) (fun b hb h => ⟨Nat.lt_of_lt_of_le hRl2 h, hb⟩)).kept (S := []) q2 (by simp)).kept kZ (by intro q hq h; obtain rfl := List.mem_singleton.1 hq; have := h.1; omega))
    have hO2 := own_keptV hX2 kZ (fun j hj => by have := (World.ownsRow.lt hX2 j hj).1; simp; omega)
    clear hX1 hX2 q1 q1' q2 q3 kZ rB rB2 rB3 rR d7 e6 e7 g6 g7 c6 c7 hsW htW k2 hs ht
    try simp only [List.getElem_toArray, List.getElem_cons_succ, List.getElem_cons_zero, Act.put, List.setIfInBounds_toArray, List.set_cons_succ, List.set_cons_zero]
    generalize (w3.setCell ⟨R, 6, none⟩ (.slice A1 ks.length c1)).setCell ⟨R, 7, none⟩ (.slice A2 vs.length c2) = Z at rB4 rR4 kk hO2 HX1 ⊢
    by_cases hn : n < vs.length
    · have hn' : (n : Int) < (vs.length : Int) := by omega
      rcases hO2.2 with ⟨h0, hz⟩ | ⟨g, cap', cur, he, hB, _⟩
      · omega
      · cases he
        have hgR : R + 1 < g := by omega
        have cg := hO2.cellAt n (by omega)
        rw [List.getElem?_map, List.getElem?_eq_getElem hn, Option.map_some] at cg
        have fg := hO2.frozenAt n
        have hst := (hO2.stored n (.int .u64 v)).1
        rw [← List.map_set] at hst
        have z7 : Z.cell? ⟨R, 7, none⟩ = some (.slice (some ⟨g, 0, none⟩) vs.length c2) := by simpa using rB4.cell 7
        have rB5 := rB4.other ⟨g, n, none⟩ (.int .u64 v) (by simp; omega)
        have rR5 := rR4.other ⟨g, n, none⟩ (.int .u64 v) (by simp; omega)
        have kk5 := kk.set (p := ⟨g, n, none⟩) (.inr (by have := HR.out; simp; omega)) (.int .u64 v)
        have kZ5 := (Kept.refl [g] Z).set (p := ⟨g, n, none⟩) (.inl (by simp)) (.int .u64 v)
        have HX3 := Lib.hid ((SlX.of_own1 (xs := vs.set n v) hst).mono (Y := fun b => R + 1 < b) (fun b _ h => by have : w2.heap.size ≤ b := h; omega))
        have HX2 := Lib.hid (HX1.out.kept kZ5 (by intro q hq h; obtain rfl := List.mem_singleton.1 hq; have := h.2; omega))
        clear HX1 kZ5 hst
        have b0 : (Z.setCell ⟨g, n, none⟩ (.int .u64 v)).cell? ⟨R, 0, none⟩ = some (.int .i64 a) := by simpa using rB5.cell 0
        have b1 : (Z.setCell ⟨g, n, none⟩ (.int .u64 v)).cell? ⟨R, 1, none⟩ = some (.int .i64 r) := by simpa using rB5.cell 1
        have b2 : (Z.setCell ⟨g, n, none⟩ (.int .u64 v)).cell? ⟨R, 2, none⟩ = some (.bool ar) := by simpa using rB5.cell 2
        have b3 : (Z.setCell ⟨g, n, none⟩ (.int .u64 v)).cell? ⟨R, 3, none⟩ = some (.int .i64 kd) := by simpa using rB5.cell 3
        have b4 : (Z.setCell ⟨g, n, none⟩ (.int .u64 v)).cell? ⟨R, 4, none⟩ = some (.int .i64 ty) := by simpa using rB5.cell 4
        have b5 : (Z.setCell ⟨g, n, none⟩ (.int .u64 v)).cell? ⟨R, 5, none⟩ = some (.int .i64 nn) := by simpa using rB5.cell 5
        have b6 : (Z.setCell ⟨g, n, none⟩ (.int .u64 v)).cell? ⟨R, 6, none⟩ = some (.slice A1 ks.length c1) := by simpa using rB5.cell 6
        have b7 : (Z.setCell ⟨g, n, none⟩ (.int .u64 v)).cell? ⟨R, 7, none⟩ = some (.slice (some ⟨g, 0, none⟩) vs.length c2) := by simpa using rB5.cell 7
        have d0 : (Z.setCell ⟨g, n, none⟩ (.int .u64 v)).cell? ⟨R + 1, 0, none⟩ = some (.int .i64 0) := by simpa using rR5.cell 0
        have d1 : (Z.setCell ⟨g, n, none⟩ (.int .u64 v)).cell? ⟨R + 1, 1, none⟩ = some (.int .i64 0) := by simpa using rR5.cell 1
        have d2 : (Z.setCell ⟨g, n, none⟩ (.int .u64 v)).cell? ⟨R + 1, 2, none⟩ = some (.bool false) := by simpa using rR5.cell 2
        have d3 : (Z.setCell ⟨g, n, none⟩ (.int .u64 v)).cell? ⟨R + 1, 3, none⟩ = some (.int .i64 0) := by simpa using rR5.cell 3
        have d4 : (Z.setCell ⟨g, n, none⟩ (.int .u64 v)).cell? ⟨R + 1, 4, none⟩ = some (.int .i64 0) := by simpa using rR5.cell 4
        have d5 : (Z.setCell ⟨g, n, none⟩ (.int .u64 v)).cell? ⟨R + 1, 5, none⟩ = some (.int .i64 0) := by simpa using rR5.cell 5
        have d6 : (Z.setCell ⟨g, n, none⟩ (.int .u64 v)).cell? ⟨R + 1, 6, none⟩ = some (.slice none 0 0) := by simpa using rR5.cell 6
        have d7 : (Z.setCell ⟨g, n, none⟩ (.int .u64 v)).cell? ⟨R + 1, 7, none⟩ = some (.slice none 0 0) := by simpa using rR5.cell 7
        have f0 := rR5.free 0
        have f1 := rR5.free 1
        have f2 := rR5.free 2
        have f3 := rR5.free 3
        have f4 := rR5.free 4
        have f5 := rR5.free 5
        have f6 := rR5.free 6
        have f7 := rR5.free 7
        have K8 := Lib.hid (fun u0 u1 u2 u3 u4 u5 u6 u7 : Value => Kept.set8 (S := []) kk5 (g := R + 1) (.inr (by have := HR.out; omega)) u0 u1 u2 u3 u4 u5 u6 u7)
        have R8 := Lib.hid (fun u0 u1 u2 u3 u4 u5 u6 u7 : Value => Row.set8 rR5 u0 u1 u2 u3 u4 u5 u6 u7)
        have X8 := Lib.hid (fun u0 u1 u2 u3 u4 u5 u6 u7 : Value => Kept.set8 (S := [R + 1]) (Kept.refl [R + 1] (Z.setCell ⟨g, n, none⟩ (.int .u64 v))) (g := R + 1) (.inl (by simp)) u0 u1 u2 u3 u4 u5 u6 u7)
        clear rB4 rR4 kk hO2 rB5 rR5 kk5 hB
        go_wp2
        (try simp only [Exit.inBlock, Exit.then])
        refine bodyPost_ret (results_cell1 rfl rfl (Row.load (R8.out _ _ _ _ _ _ _ _) Tryd.underlying27 rfl rfl)) rfl ?_
        refine ⟨_, rfl, ⟨A1, c1, (some ⟨g, 0, none⟩), c2, by rw [List.length_set], ?_, ?_⟩, K8.out _ _ _ _ _ _ _ _⟩
        · exact (HX2.out.kept (X8.out _ _ _ _ _ _ _ _) (by intro q hq h; obtain rfl := List.mem_singleton.1 hq; have := h.1; omega)).mono (fun q _ h => by have := HR.out; have := h.1; omega)
        · exact (HX3.out.kept (X8.out _ _ _ _ _ _ _ _) (by intro q hq; obtain rfl := List.mem_singleton.1 hq; exact Nat.lt_irrefl _)).mono (fun q _ h => by have := HR.out; omega)
    · have hn' : decide ((n : Int) < (vs.length : Int)) = false := by simp; omega
      have HX3 := Lib.hid (show SlX Z .u64 (fun b => R + 1 < b) A2 (vs.set n v) by rw [List.set_eq_of_length_le (by omega)]; exact (SlX.of_own1 hO2).mono (fun b _ h => by have : w2.heap.size ≤ b := h; omega))
      have HX2 := HX1
      clear HX1
      have b0 : (Z).cell? ⟨R, 0, none⟩ = some (.int .i64 a) := by simpa using rB4.cell 0
      have b1 : (Z).cell? ⟨R, 1, none⟩ = some (.int .i64 r) := by simpa using rB4.cell 1
      have b2 : (Z).cell? ⟨R, 2, none⟩ = some (.bool ar) := by simpa using rB4.cell 2
      have b3 : (Z).cell? ⟨R, 3, none⟩ = some (.int .i64 kd) := by simpa using rB4.cell 3
      have b4 : (Z).cell? ⟨R, 4, none⟩ = some (.int .i64 ty) := by simpa using rB4.cell 4
      have b5 : (Z).cell? ⟨R, 5, none⟩ = some (.int .i64 nn) := by simpa using rB4.cell 5
      have b6 : (Z).cell? ⟨R, 6, none⟩ = some (.slice A1 ks.length c1) := by simpa using rB4.cell 6
      have b7 : (Z).cell? ⟨R, 7, none⟩ = some (.slice A2 vs.length c2) := by simpa using rB4.cell 7
      have d0 : (Z).cell? ⟨R + 1, 0, none⟩ = some (.int .i64 0) := by simpa using rR4.cell 0
      have d1 : (Z).cell? ⟨R + 1, 1, none⟩ = some (.int .i64 0) := by simpa using rR4.cell 1
      have d2 : (Z).cell? ⟨R + 1, 2, none⟩ = some (.bool false) := by simpa using rR4.cell 2
      have d3 : (Z).cell? ⟨R + 1, 3, none⟩ = some (.int .i64 0) := by simpa using rR4.cell 3
      have d4 : (Z).cell? ⟨R + 1, 4, none⟩ = some (.int .i64 0) := by simpa using rR4.cell 4
      have d5 : (Z).cell? ⟨R + 1, 5, none⟩ = some (.int .i64 0) := by simpa using rR4.cell 5
      have d6 : (Z).cell? ⟨R + 1, 6, none⟩ = some (.slice none 0 0) := by simpa using rR4.cell 6
      have d7 : (Z).cell? ⟨R + 1, 7, none⟩ = some (.slice none 0 0) := by simpa using rR4.cell 7
      have f0 := rR4.free 0
      have f1 := rR4.free 1
      have f2 := rR4.free 2
      have f3 := rR4.free 3
      have f4 := rR4.free 4
      have f5 := rR4.free 5
      have f6 := rR4.free 6
      have f7 := rR4.free 7
      have K8 := Lib.hid (fun u0 u1 u2 u3 u4 u5 u6 u7 : Value => Kept.set8 (S := []) kk (g := R + 1) (.inr (by have := HR.out; omega)) u0 u1 u2 u3 u4 u5 u6 u7)
      have R8 := Lib.hid (fun u0 u1 u2 u3 u4 u5 u6 u7 : Value => Row.set8 rR4 u0 u1 u2 u3 u4 u5 u6 u7)
      have X8 := Lib.hid (fun u0 u1 u2 u3 u4 u5 u6 u7 : Value => Kept.set8 (S := [R + 1]) (Kept.refl [R + 1] (Z)) (g := R + 1) (.inl (by simp)) u0 u1 u2 u3 u4 u5 u6 u7)
      clear rB4 rR4 kk hO2
      go_wp2
      (try simp only [Exit.inBlock, Exit.then])
      refine bodyPost_ret (results_cell1 rfl rfl (Row.load (R8.out _ _ _ _ _ _ _ _) Tryd.underlying27 rfl rfl)) rfl ?_
      refine ⟨_, rfl, ⟨A1, c1, A2, c2, by rw [List.length_set], ?_, ?_⟩, K8.out _ _ _ _ _ _ _ _⟩
      · exact (HX2.out.kept (X8.out _ _ _ _ _ _ _ _) (by intro q hq h; obtain rfl := List.mem_singleton.1 hq; have := h.1; omega)).mono (fun q _ h => by have := HR.out; have := h.1; omega)
      · exact (HX3.out.kept (X8.out _ _ _ _ _ _ _ _) (by intro q hq; obtain rfl := List.mem_singleton.1 hq; exact Nat.lt_irrefl _)).mono (fun q _ h => by have := HR.out; omega)
end Go.Proofs.YthkmnjkaadmilaaDoor

/- Package slot: Store. -/
import Derived.Test.YthkmnjkaadmilaaDoorSlotWith
namespace Go.Proofs.YthkmnjkaadmilaaDoor
open Go.RowKit

/-- An object as a plain thing. -/
structure Pj where
  a : Int
  r : Int
  h : Bool × Int × Int × Int
  ks : List Int
  vs : List Int
def Pj.zero : Pj := ⟨0, 0, (false, 0, 0, 0), [], []⟩
/-- The object that Store answers. -/
def resK (xs : List Int) (a r : Int) (ar : Bool) (kd ty nn : Int) (ks vs : List Int) (n : Nat) (v : Int) : Pj := if okK xs a ks n then ⟨a, r, (ar, kd, ty, nn), ks, vs.set n v⟩ else Pj.zero
/-- It, its lists in new blocks. -/
def NewP (p : Pj) (w : World) (v : Value) (w' : World) : Prop := NewOb p.a p.r p.h.1 p.h.2.1 p.h.2.2.1 p.h.2.2.2 p.ks p.vs w v w'
theorem NewP.zero (w w' : World) : NewP Pj.zero w (.agg #[.int .i64 0, .int .i64 0, .bool false, .int .i64 0, .int .i64 0, .int .i64 0, .slice none 0 0, .slice none 0 0]) w' := ⟨none, 0, none, 0, rfl, .inl rfl, .inl rfl⟩

set_option maxRecDepth 100000 in
set_option maxHeartbeats 4000000 in
theorem slotStore_nil (a r : Int) (ar : Bool) (kd ty nn : Int) (ka : Option Addr) (kc : Nat) (ks : List Int) (va : Option Addr) (vc : Nat) (vs : List Int) (n : Nat) (v : Int) (w : World) (hs : Sl w .i64 ka ks) (hk : ks.length ≤ 1099511627776) :
    Calls Tryd.prog 10 #[.pointer none, .agg #[.int .i64 a, .int .i64 r, .bool ar, .int .i64 kd, .int .i64 ty, .int .i64 nn, .slice ka ks.length kc, .slice va vs.length vc], .int .u64 n, .int .u64 v] w fun e w' => e = .returned (.tuple #[.agg #[.int .i64 0, .int .i64 0, .bool false, .int .i64 0, .int .i64 0, .int .i64 0, .slice none 0 0, .slice none 0 0], .int .i64 (nilK ks n)]) ∧ Kept [] w w' := by
  have k1 := (Kept.refl [] w).alloc (.cells #[.int .i64 a, .int .i64 r, .bool ar, .int .i64 kd, .int .i64 ty, .int .i64 nn, .slice ka ks.length kc, .slice va vs.length vc] 27)
  have k2 := k1.alloc (.cells #[.int .i64 0, .int .i64 0, .bool false, .int .i64 0, .int .i64 0, .int .i64 0, .slice none 0 0, .slice none 0 0] 27)
  have rB := (Row.new w 27 [.int .i64 a, .int .i64 r, .bool ar, .int .i64 kd, .int .i64 ty, .int .i64 nn, .slice ka ks.length kc, .slice va vs.length vc]).alloc (.cells #[.int .i64 0, .int .i64 0, .bool false, .int .i64 0, .int .i64 0, .int .i64 0, .slice none 0 0, .slice none 0 0] 27)
  have rR := Row.new (w.alloc (.cells #[.int .i64 a, .int .i64 r, .bool ar, .int .i64 kd, .int .i64 ty, .int .i64 nn, .slice ka ks.length kc, .slice va vs.length vc] 27)) 27 [.int .i64 0, .int .i64 0, .bool false, .int .i64 0, .int .i64 0, .int .i64 0, .slice none 0 0, .slice none 0 0]
  rw [World.size_alloc] at rR
  have hat := fun W (hW : Kept [] w W) => slotPlace_nil a r ar kd ty nn ka kc ks va vc vs n W (hs.kept hW) (by omega)
  obtain ⟨q, hq, hq0⟩ : ∃ q, nilK ks n = q ∧ (q != 0) = true := ⟨_, rfl, by unfold nilK; split <;> rfl⟩
  rw [hq] at hat ⊢
  have HAT := Lib.hid hat
  clear hq hat hs
  go_enter Tryd.func10, Tryd.ntmps10
  go_wp2_with fail
  obtain ⟨R, hR⟩ : ∃ R, w.heap.size = R := ⟨_, rfl⟩
  have HR := Lib.hid hR
  rw [hR] at rB rR ⊢
  generalize (w.alloc (.cells #[.int .i64 a, .int .i64 r, .bool ar, .int .i64 kd, .int .i64 ty, .int .i64 nn, .slice ka ks.length kc, .slice va vs.length vc] 27)).alloc (.cells #[.int .i64 0, .int .i64 0, .bool false, .int .i64 0, .int .i64 0, .int .i64 0, .slice none 0 0, .slice none 0 0] 27) = W at k2 rB rR ⊢
  clear hR k1
  refine (HAT.out W k2).mono ?_
  rintro e w2 ⟨rfl, q2⟩
  have kk2 := k2.trans q2
  have rB2 := rB.kept q2 (by simp)
  have rR2 := rR.kept q2 (by simp)
  clear k2 rB rR q2 HAT
  have d0 : w2.cell? ⟨R + 1, 0, none⟩ = some (.int .i64 0) := by simpa using rR2.cell 0
  have d1 : w2.cell? ⟨R + 1, 1, none⟩ = some (.int .i64 0) := by simpa using rR2.cell 1
  have d2 : w2.cell? ⟨R + 1, 2, none⟩ = some (.bool false) := by simpa using rR2.cell 2
  have d3 : w2.cell? ⟨R + 1, 3, none⟩ = some (.int .i64 0) := by simpa using rR2.cell 3
  have d4 : w2.cell? ⟨R + 1, 4, none⟩ = some (.int .i64 0) := by simpa using rR2.cell 4
  have d5 : w2.cell? ⟨R + 1, 5, none⟩ = some (.int .i64 0) := by simpa using rR2.cell 5
  have d6 : w2.cell? ⟨R + 1, 6, none⟩ = some (.slice none 0 0) := by simpa using rR2.cell 6
  have d7 : w2.cell? ⟨R + 1, 7, none⟩ = some (.slice none 0 0) := by simpa using rR2.cell 7
  have f0 := rR2.free 0
  have f1 := rR2.free 1
  have f2 := rR2.free 2
  have f3 := rR2.free 3
  have f4 := rR2.free 4
  have f5 := rR2.free 5
  have f6 := rR2.free 6
  have f7 := rR2.free 7
  have K8 := Lib.hid (fun u0 u1 u2 u3 u4 u5 u6 u7 : Value => Kept.set8 (S := _) kk2 (g := R + 1) (.inr (by have := HR.out; omega)) u0 u1 u2 u3 u4 u5 u6 u7)
  have R8 := Lib.hid (fun u0 u1 u2 u3 u4 u5 u6 u7 : Value => Row.set8 rR2 u0 u1 u2 u3 u4 u5 u6 u7)
  clear rR2 rB2 kk2
  go_wp2
  (try simp only [Exit.inBlock, Exit.then])
  refine bodyPost_ret (results_cell2 rfl rfl (Row.load (R8.out _ _ _ _ _ _ _ _) Tryd.underlying27 rfl rfl)) rfl ?_
  exact ⟨rfl, K8.out _ _ _ _ _ _ _ _⟩

set_option maxRecDepth 100000 in
set_option maxHeartbeats 8000000 in
theorem slotStore_any (b g : Nat) (xs : List Int) (a r : Int) (ar : Bool) (kd ty nn : Int) (ka : Option Addr) (kc : Nat) (ks : List Int) (va : Option Addr) (vc : Nat) (vs : List Int) (n : Nat) (v : Int) (w : World) (hm : IsMem w b g xs) (hs : Sl w .i64 ka ks) (ht : SlX w .u64 (fun q => q ≠ g) va vs) (hsx : SlX w .i64 (fun q => q ≠ g) ka ks) (hk : ks.length ≤ 1099511627776) (hv : vs.length ≤ 1099511627776) :
    Calls Tryd.prog 10 #[.pointer (some ⟨b, 0, none⟩), .agg #[.int .i64 a, .int .i64 r, .bool ar, .int .i64 kd, .int .i64 ty, .int .i64 nn, .slice ka ks.length kc, .slice va vs.length vc], .int .u64 n, .int .u64 v] w fun e w' => ∃ x, e = .returned (.tuple #[x, .int .i64 (errB (okK xs a ks n))]) ∧ NewP (resK xs a r ar kd ty nn ks vs n v) w x w' ∧ IsMem w' b g (storeK xs a ks n v) ∧ Kept [g] w w' := by
  have hbl := hm.1.lt
  have hgl := hm.2.1.lt
  have k1 := (Kept.refl [] w).alloc (.cells #[.int .i64 a, .int .i64 r, .bool ar, .int .i64 kd, .int .i64 ty, .int .i64 nn, .slice ka ks.length kc, .slice va vs.length vc] 27)
  have k2 := k1.alloc (.cells #[.int .i64 0, .int .i64 0, .bool false, .int .i64 0, .int .i64 0, .int .i64 0, .slice none 0 0, .slice none 0 0] 27)
  have rB := (Row.new w 27 [.int .i64 a, .int .i64 r, .bool ar, .int .i64 kd, .int .i64 ty, .int .i64 nn, .slice ka ks.length kc, .slice va vs.length vc]).alloc (.cells #[.int .i64 0, .int .i64 0, .bool false, .int .i64 0, .int .i64 0, .int .i64 0, .slice none 0 0, .slice none 0 0] 27)
  have rR := Row.new (w.alloc (.cells #[.int .i64 a, .int .i64 r, .bool ar, .int .i64 kd, .int .i64 ty, .int .i64 nn, .slice ka ks.length kc, .slice va vs.length vc] 27)) 27 [.int .i64 0, .int .i64 0, .bool false, .int .i64 0, .int .i64 0, .int .i64 0, .slice none 0 0, .slice none 0 0]
  rw [World.size_alloc] at rR
  have hat := fun W (hW : Kept [] w W) => slotPlace_any ⟨b, 0, none⟩ a r ar kd ty nn ka kc ks va vc vs n W (hs.kept hW) (by omega)
  cases hi : inK ks n with
  | false =>
    rw [hi, show errB false = 8 from rfl] at hat
    generalize placeK a ks n = p at hat
    rw [okK_of_out hi, show errB false = 8 from rfl, show resK xs a r ar kd ty nn ks vs n v = Pj.zero by simp [resK, okK_of_out hi], show storeK xs a ks n v = xs by simp [storeK, okK_of_out hi]]
    have HAT := Lib.hid hat
    clear hi hat hs hsx ht
    go_enter Tryd.func10, Tryd.ntmps10
    go_wp2_with fail
    obtain ⟨R, hR⟩ : ∃ R, w.heap.size = R := ⟨_, rfl⟩
    have HR := Lib.hid hR
    rw [hR] at rB rR ⊢
    generalize (w.alloc (.cells #[.int .i64 a, .int .i64 r, .bool ar, .int .i64 kd, .int .i64 ty, .int .i64 nn, .slice ka ks.length kc, .slice va vs.length vc] 27)).alloc (.cells #[.int .i64 0, .int .i64 0, .bool false, .int .i64 0, .int .i64 0, .int .i64 0, .slice none 0 0, .slice none 0 0] 27) = W at k2 rB rR ⊢
    clear hR k1
    refine (HAT.out W k2).mono ?_
    rintro e w2 ⟨rfl, q2⟩
    have kk2 := k2.trans q2
    have rB2 := rB.kept q2 (by simp)
    have rR2 := rR.kept q2 (by simp)
    clear k2 rB rR q2 HAT
    have d0 : w2.cell? ⟨R + 1, 0, none⟩ = some (.int .i64 0) := by simpa using rR2.cell 0
    have d1 : w2.cell? ⟨R + 1, 1, none⟩ = some (.int .i64 0) := by simpa using rR2.cell 1
    have d2 : w2.cell? ⟨R + 1, 2, none⟩ = some (.bool false) := by simpa using rR2.cell 2
    have d3 : w2.cell? ⟨R + 1, 3, none⟩ = some (.int .i64 0) := by simpa using rR2.cell 3
    have d4 : w2.cell? ⟨R + 1, 4, none⟩ = some (.int .i64 0) := by simpa using rR2.cell 4
    have d5 : w2.cell? ⟨R + 1, 5, none⟩ = some (.int .i64 0) := by simpa using rR2.cell 5
    have d6 : w2.cell? ⟨R + 1, 6, none⟩ = some (.slice none 0 0) := by simpa using rR2.cell 6
    have d7 : w2.cell? ⟨R + 1, 7, none⟩ = some (.slice none 0 0) := by simpa using rR2.cell 7
    have f0 := rR2.free 0
    have f1 := rR2.free 1
    have f2 := rR2.free 2
    have f3 := rR2.free 3
    have f4 := rR2.free 4
    have f5 := rR2.free 5
    have f6 := rR2.free 6
    have f7 := rR2.free 7
    have K8 := Lib.hid (fun u0 u1 u2 u3 u4 u5 u6 u7 : Value => Kept.set8 (S := _) kk2 (g := R + 1) (.inr (by have := HR.out; omega)) u0 u1 u2 u3 u4 u5 u6 u7)
    have R8 := Lib.hid (fun u0 u1 u2 u3 u4 u5 u6 u7 : Value => Row.set8 rR2 u0 u1 u2 u3 u4 u5 u6 u7)
    have HM := Lib.hid (fun W (hk : Kept [R + 1] w2 W) => (hm.kept kk2 (by simp) (by simp)).kept hk (by have := HR.out; simp; omega) (by have := HR.out; simp; omega))
    have X8 := Lib.hid (fun u0 u1 u2 u3 u4 u5 u6 u7 : Value => Kept.set8 (S := [R + 1]) (Kept.refl [R + 1] w2) (g := R + 1) (.inl (by simp)) u0 u1 u2 u3 u4 u5 u6 u7)
    clear rR2 rB2 kk2 hm hbl hgl
    go_wp2
    (try simp only [Exit.inBlock, Exit.then])
    refine bodyPost_ret (results_cell2 rfl rfl (Row.load (R8.out _ _ _ _ _ _ _ _) Tryd.underlying27 rfl rfl)) rfl ?_
    exact ⟨_, rfl, NewP.zero _ _, HM.out _ (X8.out _ _ _ _ _ _ _ _), (K8.out _ _ _ _ _ _ _ _).any⟩
  | true =>
    rw [hi, show errB true = 0 from rfl] at hat
    have hok := okK_of_in (xs := xs) (a := a) hi
    rw [storeK_of_in v hi]
    unfold resK
    rw [hok]
    generalize placeK a ks n = p at hat ⊢
    have hwr := fun W h => write_any b g xs p v W h
    have HAT := Lib.hid hat
    clear hi hat hok hs
    cases hh : hasB xs.length p with
    | false =>
      rw [hh] at hwr
      rw [show wrB xs p v = xs by simp [wrB, hh], if_neg (by simp)]
      rw [show wrB xs p v = xs by simp [wrB, hh]] at hwr
      simp only [show errB false = 8 from rfl] at hwr ⊢
      have HWR := Lib.hid hwr
      clear hwr hh hsx ht
      go_enter Tryd.func10, Tryd.ntmps10
      go_wp2_with fail
      obtain ⟨R, hR⟩ : ∃ R, w.heap.size = R := ⟨_, rfl⟩
      have HR := Lib.hid hR
      rw [hR] at rB rR ⊢
      generalize (w.alloc (.cells #[.int .i64 a, .int .i64 r, .bool ar, .int .i64 kd, .int .i64 ty, .int .i64 nn, .slice ka ks.length kc, .slice va vs.length vc] 27)).alloc (.cells #[.int .i64 0, .int .i64 0, .bool false, .int .i64 0, .int .i64 0, .int .i64 0, .slice none 0 0, .slice none 0 0] 27) = W at k2 rB rR ⊢
      clear hR k1
      refine (HAT.out W k2).mono ?_
      rintro e w2 ⟨rfl, q2⟩
      have kk2 := k2.trans q2
      have rB2 := rB.kept q2 (by simp)
      have rR2 := rR.kept q2 (by simp)
      clear k2 rB rR q2 HAT
      have hm2 := hm.kept kk2 (by simp) (by simp)
      go_wp2_with fail
      refine (HWR.out w2 hm2).mono ?_
      rintro e w3 ⟨rfl, hm3, q3⟩
      have kk3 : Kept [g] w w3 := kk2.any.trans q3
      have rR3 := rR2.kept q3 (by have := HR.out; simp; omega)
      have d0 : w3.cell? ⟨R + 1, 0, none⟩ = some (.int .i64 0) := by simpa using rR3.cell 0
      have d1 : w3.cell? ⟨R + 1, 1, none⟩ = some (.int .i64 0) := by simpa using rR3.cell 1
      have d2 : w3.cell? ⟨R + 1, 2, none⟩ = some (.bool false) := by simpa using rR3.cell 2
      have d3 : w3.cell? ⟨R + 1, 3, none⟩ = some (.int .i64 0) := by simpa using rR3.cell 3
      have d4 : w3.cell? ⟨R + 1, 4, none⟩ = some (.int .i64 0) := by simpa using rR3.cell 4
      have d5 : w3.cell? ⟨R + 1, 5, none⟩ = some (.int .i64 0) := by simpa using rR3.cell 5
      have d6 : w3.cell? ⟨R + 1, 6, none⟩ = some (.slice none 0 0) := by simpa using rR3.cell 6
      have d7 : w3.cell? ⟨R + 1, 7, none⟩ = some (.slice none 0 0) := by simpa using rR3.cell 7
      have f0 := rR3.free 0
      have f1 := rR3.free 1
      have f2 := rR3.free 2
      have f3 := rR3.free 3
      have f4 := rR3.free 4
      have f5 := rR3.free 5
      have f6 := rR3.free 6
      have f7 := rR3.free 7
      have K8 := Lib.hid (fun u0 u1 u2 u3 u4 u5 u6 u7 : Value => Kept.set8 (S := _) kk3 (g := R + 1) (.inr (by have := HR.out; omega)) u0 u1 u2 u3 u4 u5 u6 u7)
      have R8 := Lib.hid (fun u0 u1 u2 u3 u4 u5 u6 u7 : Value => Row.set8 rR3 u0 u1 u2 u3 u4 u5 u6 u7)
      have HM := Lib.hid (fun W (hk : Kept [R + 1] w3 W) => hm3.kept hk (by have := HR.out; simp; omega) (by have := HR.out; simp; omega))
      have X8 := Lib.hid (fun u0 u1 u2 u3 u4 u5 u6 u7 : Value => Kept.set8 (S := [R + 1]) (Kept.refl [R + 1] w3) (g := R + 1) (.inl (by simp)) u0 u1 u2 u3 u4 u5 u6 u7)
      clear rR2 rB2 kk2 rR3 kk3 q3 hm hm2 hm3 hbl hgl HWR
      go_wp2
      (try simp only [Exit.inBlock, Exit.then])
      refine bodyPost_ret (results_cell2 rfl rfl (Row.load (R8.out _ _ _ _ _ _ _ _) Tryd.underlying27 rfl rfl)) rfl ?_
      exact ⟨_, rfl, NewP.zero _ _, HM.out _ (X8.out _ _ _ _ _ _ _ _), K8.out _ _ _ _ _ _ _ _⟩
    | true =>
      rw [hh] at hwr
      rw [if_pos rfl]
      generalize wrB xs p v = ys at hwr ⊢
      simp only [show errB true = 0 from rfl] at hwr ⊢
      have HWR := Lib.hid hwr
      clear hwr hh
      go_enter Tryd.func10, Tryd.ntmps10
      go_wp2_with fail
      obtain ⟨R, hR⟩ : ∃ R, w.heap.size = R := ⟨_, rfl⟩
      have HR := Lib.hid hR
      rw [hR] at rB rR ⊢
      generalize (w.alloc (.cells #[.int .i64 a, .int .i64 r, .bool ar, .int .i64 kd, .int .i64 ty, .int .i64 nn, .slice ka ks.length kc, .slice va vs.length vc] 27)).alloc (.cells #[.int .i64 0, .int .i64 0, .bool false, .int .i64 0, .int .i64 0, .int .i64 0, .slice none 0 0, .slice none 0 0] 27) = W at k2 rB rR ⊢
      clear hR k1
      refine (HAT.out W k2).mono ?_
      rintro e w2 ⟨rfl, q2⟩
      have kk2 := k2.trans q2
      have rB2 := rB.kept q2 (by simp)
      have rR2 := rR.kept q2 (by simp)
      clear k2 rB rR q2 HAT
      have hm2 := hm.kept kk2 (by simp) (by simp)
      go_wp2_with fail
      refine (HWR.out w2 hm2).mono ?_
      rintro e w3 ⟨rfl, hm3, q3⟩
      have kk3 : Kept [g] w w3 := kk2.any.trans q3
      have rR3 := rR2.kept q3 (by have := HR.out; simp; omega)
      have rB3 := rB2.kept q3 (by have := HR.out; simp; omega)
      have hs3 := (hsx.kept kk3 (by intro q hq h; obtain rfl := List.mem_singleton.1 hq; exact h rfl)).sl
      have ht3 := (ht.kept kk3 (by intro q hq h; obtain rfl := List.mem_singleton.1 hq; exact h rfl)).sl
      have b0 : w3.cell? ⟨R, 0, none⟩ = some (.int .i64 a) := by simpa using rB3.cell 0
      have b1 : w3.cell? ⟨R, 1, none⟩ = some (.int .i64 r) := by simpa using rB3.cell 1
      have b2 : w3.cell? ⟨R, 2, none⟩ = some (.bool ar) := by simpa using rB3.cell 2
      have b3 : w3.cell? ⟨R, 3, none⟩ = some (.int .i64 kd) := by simpa using rB3.cell 3
      have b4 : w3.cell? ⟨R, 4, none⟩ = some (.int .i64 ty) := by simpa using rB3.cell 4
      have b5 : w3.cell? ⟨R, 5, none⟩ = some (.int .i64 nn) := by simpa using rB3.cell 5
      have b6 : w3.cell? ⟨R, 6, none⟩ = some (.slice ka ks.length kc) := by simpa using rB3.cell 6
      have b7 : w3.cell? ⟨R, 7, none⟩ = some (.slice va vs.length vc) := by simpa using rB3.cell 7
      go_wp2_with fail
      refine (slotWith_any a r ar kd ty nn ka kc ks va vc vs n v w3 hs3 ht3 hk hv).mono ?_
      rintro e w4 ⟨x, rfl, ⟨ka2, kc2, va2, vc2, rfl, hx1, hx2⟩, q4⟩
      have kk4 : Kept [g] w w4 := kk3.trans q4.any
      have rR4 := rR3.kept q4 (by simp)
      have hm4 := hm3.kept q4 (by simp) (by simp)
      have hz3 := rR3.lt
      have d0 : w4.cell? ⟨R + 1, 0, none⟩ = some (.int .i64 0) := by simpa using rR4.cell 0
      have d1 : w4.cell? ⟨R + 1, 1, none⟩ = some (.int .i64 0) := by simpa using rR4.cell 1
      have d2 : w4.cell? ⟨R + 1, 2, none⟩ = some (.bool false) := by simpa using rR4.cell 2
      have d3 : w4.cell? ⟨R + 1, 3, none⟩ = some (.int .i64 0) := by simpa using rR4.cell 3
      have d4 : w4.cell? ⟨R + 1, 4, none⟩ = some (.int .i64 0) := by simpa using rR4.cell 4
      have d5 : w4.cell? ⟨R + 1, 5, none⟩ = some (.int .i64 0) := by simpa using rR4.cell 5
      have d6 : w4.cell? ⟨R + 1, 6, none⟩ = some (.slice none 0 0) := by simpa using rR4.cell 6
      have d7 : w4.cell? ⟨R + 1, 7, none⟩ = some (.slice none 0 0) := by simpa using rR4.cell 7
      have f0 := rR4.free 0
      have f1 := rR4.free 1
      have f2 := rR4.free 2
      have f3 := rR4.free 3
      have f4 := rR4.free 4
      have f5 := rR4.free 5
      have f6 := rR4.free 6
      have f7 := rR4.free 7
      have K8 := Lib.hid (fun u0 u1 u2 u3 u4 u5 u6 u7 : Value => Kept.set8 (S := _) kk4 (g := R + 1) (.inr (by have := HR.out; omega)) u0 u1 u2 u3 u4 u5 u6 u7)
      have R8 := Lib.hid (fun u0 u1 u2 u3 u4 u5 u6 u7 : Value => Row.set8 rR4 u0 u1 u2 u3 u4 u5 u6 u7)
      have HM := Lib.hid (fun W (hk : Kept [R + 1] w4 W) => hm4.kept hk (by have := HR.out; simp; omega) (by have := HR.out; simp; omega))
      have HX1 := Lib.hid (fun W (hk : Kept [R + 1] w4 W) => (hx1.kept hk (by intro q hq h; obtain rfl := List.mem_singleton.1 hq; omega)).mono (Y := fun b => w.heap.size ≤ b) (fun q _ h => by have := HR.out; omega))
      have HX2 := Lib.hid (fun W (hk : Kept [R + 1] w4 W) => (hx2.kept hk (by intro q hq h; obtain rfl := List.mem_singleton.1 hq; omega)).mono (Y := fun b => w.heap.size ≤ b) (fun q _ h => by have := HR.out; omega))
      have X8 := Lib.hid (fun u0 u1 u2 u3 u4 u5 u6 u7 : Value => Kept.set8 (S := [R + 1]) (Kept.refl [R + 1] w4) (g := R + 1) (.inl (by simp)) u0 u1 u2 u3 u4 u5 u6 u7)
      clear rR2 rB2 kk2 rR3 kk3 q3 hm hm2 hm3 hbl hgl HWR hs3 ht3 rB3 b0 b1 b2 b3 b4 b5 b6 b7 q4 kk4 rR4 hm4 hx1 hx2 hz3 ht hsx
      go_wp2
      (try simp only [Exit.inBlock, Exit.then])
      refine bodyPost_ret (results_cell2 rfl rfl (Row.load (R8.out _ _ _ _ _ _ _ _) Tryd.underlying27 rfl rfl)) rfl ?_
      exact ⟨_, rfl, ⟨ka2, kc2, va2, vc2, by simp only [List.length_set], HX1.out _ (X8.out _ _ _ _ _ _ _ _), HX2.out _ (X8.out _ _ _ _ _ _ _ _)⟩, HM.out _ (X8.out _ _ _ _ _ _ _ _), K8.out _ _ _ _ _ _ _ _⟩
end Go.Proofs.YthkmnjkaadmilaaDoor

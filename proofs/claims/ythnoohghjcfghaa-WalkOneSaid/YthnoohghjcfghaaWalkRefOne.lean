/- Package kraalref12: One. -/
import Derived.Test.YthnoohghjcfghaaWalkOne
import Derived.Test.YthnoohghjcfghaaHeaderRefGet
import Derived.Test.YthnoohghjcfghaaDescRefKinds
import Derived.Test.YthnoohghjcfghaaRef
import Derived.Deep.RegionHeld3
namespace Go.Proofs.Ythnoohghjcfghaa
open Go.RowKit

set_option maxRecDepth 100000 in
set_option maxHeartbeats 4000000 in
theorem refOne12_any (X : Nat → Prop) (M : Option Addr) (mc : Nat) (xs : List Int) (A : Option Addr) (cap : Nat) (l : List Ty) (at_ : Int) (w : World) (hM : SlX w .u64 X M xs) (hxl : xs.length ≤ 16384) (hmc : xs.length ≤ mc) (hmx : mc ≤ maxLen) (hu : ∀ z ∈ xs, 0 ≤ z ∧ z < 18446744073709551616)
    (hs : SlD w A l) (hX : ∀ t ∈ l, SlX w .i64 X t.a t.ks) (hx : ∀ t ∈ l, t.ks.length ≤ 100) :
    Calls Try.prog 10 #[.slice M xs.length mc, .int .i64 at_, .slice A l.length cap] w (OneAns (fun k => X k ∨ w.heap.size ≤ k) (oneB xs (l.map Ty.ks) at_) w) := by
  unfold maxLen at hmx
  have rO := Row.new w 35 ob0
  have kO := (Kept.refl [] w).alloc (.cells ob0.toArray 35)
  unfold ob0 at rO kO
  by_cases hin : 1 ≤ at_ ∧ at_ ≤ (xs.length : Int)
  · obtain ⟨K, rfl⟩ : ∃ K : Nat, at_ = ((K + 1 : Nat) : Int) := ⟨(at_ - 1).toNat, by omega⟩
    have hK : K < xs.length := by omega
    have hone : oneB xs (l.map Ty.ks) ((K + 1 : Nat) : Int) = oneN xs (l.map Ty.ks) K := by
      unfold oneB
      rw [if_pos hin]
      congr 1
      omega
    have hWu := hu _ (List.getElem_mem hK)
    rw [show xs[K] = xs[K]?.getD 0 by simp [hK]] at hWu
    obtain ⟨Wd, hWd⟩ : ∃ Wd, xs[K]?.getD 0 = Wd := ⟨_, rfl⟩
    have hMc := hM.kept kO (by simp)
    rcases hMc with h0 | ⟨mb, mo, rfl, _, hmX, hcM⟩
    · rw [h0] at hK; simp at hK
    have cM := hcM K hK
    rw [hWd] at hWu cM
    have hget := fun W => refGet08_any Wd W hWu.1 hWu.2
    unfold oneN at hone
    rw [hWd] at hone
    obtain ⟨⟨⟨ar, kd, ty, nn⟩, e1⟩, hG⟩ : ∃ x, getH Wd = x := ⟨_, rfl⟩
    rw [hG] at hone hget
    simp only at hone hget
    have HONE := Lib.hid hone
    have HGET := Lib.hid hget
    have HMX := Lib.hid hmX
    have g0 : decide (((K + 1 : Nat) : Int) < 1) = false := by simp; omega
    have g1 : decide ((xs.length : Int) < ((K + 1 : Nat) : Int)) = false := by simp; omega
    clear hone hget hG hWd hWu hin hcM hmX
    go_enter Try.func10, Try.ntmps10
    go_wp2_with fail
    obtain ⟨R, hR⟩ : ∃ R, w.heap.size = R := ⟨_, rfl⟩
    have HR := Lib.hid hR
    rw [hR] at rO ⊢
    clear hR
    generalize hW1 : w.alloc (.cells #[.int .i64 0, .int .i64 0, .bool false, .int .i64 0, .int .i64 0, .int .i64 0, .slice none 0 0, .slice none 0 0] 35) = W1 at rO kO cM ⊢
    clear hW1
    refine (HGET.out W1).mono ?_
    rintro e w2 ⟨rfl, k2⟩
    have kk := kO.trans k2
    by_cases he1 : e1 = 0
    · subst he1
      have hone := HONE.out
      rw [if_neg (by simp)] at hone
      have HONE := Lib.hid hone
      clear hone
      have kH := (Kept.refl [] w2).alloc (.cells #[.bool ar, .int .i64 kd, .int .i64 ty, .int .i64 nn] 32)
      have rH := Row.new w2 32 [.bool ar, .int .i64 kd, .int .i64 ty, .int .i64 nn]
      have rO2 := (rO.kept k2 (by simp)).kept kH (by simp)
      have kk3 := kk.trans kH
      have hs3 := hs.kept kk3
      have hz2 := (rO.kept k2 (by simp)).lt
      clear rO kO k2 kk cM
      go_wp2_with fail
      obtain ⟨H, hH⟩ : ∃ H, w2.heap.size = H := ⟨_, rfl⟩
      rw [hH] at rH hz2 ⊢
      clear hH kH
      generalize hW3 : w2.alloc (.cells #[.bool ar, .int .i64 kd, .int .i64 ty, .int .i64 nn] 32) = W3 at rH rO2 kk3 hs3 ⊢
      clear hW3
      refine (refKinds07_anyX (fun q => X q ∧ q < w.heap.size) A cap l ar kd ty nn W3 hs3 (fun t ht => ((hX t ht).mono (fun b hb h => ⟨h, hb⟩)).kept kk3 (by simp)) hx).mono ?_
      rintro e w4 ⟨ka, kc, rfl, hsl, k4⟩
      obtain ⟨⟨ks, e2⟩, hks⟩ : ∃ x, kindsB (l.map Ty.ks) ⟨ar, kd, ty, nn⟩ = x := ⟨_, rfl⟩
      have hkl := kindsB_len (l.map Ty.ks) ⟨ar, kd, ty, nn⟩ (by intro q hq; obtain ⟨t, ht, rfl⟩ := List.mem_map.1 hq; exact hx t ht)
      have hone := HONE.out
      rw [hks] at hsl hone hkl ⊢
      simp only at hsl hone hkl ⊢
      have rH4 := rH.kept k4 (by simp)
      have rO4 := rO2.kept k4 (by simp)
      have kk4 := kk3.trans k4
      have hzR3 := rO2.lt
      have hneR : H ≠ R := by omega
      clear hks rH rO2 hs3 k4 HONE hz2
      by_cases he2 : e2 = 0
      · subst he2
        rw [if_neg (by simp)] at hone
        by_cases hfit : K + 1 + ks.length ≤ xs.length
        · rw [if_neg (by omega)] at hone
          have HONE := Lib.hid hone
          have g2 : decide ((xs.length : Int) < (K : Int) + 1 + (ks.length : Int)) = false := by simp; omega
          have HX1 := Lib.hid (show SlX w4 .i64 (fun q => (X q ∧ q < w.heap.size) ∨ R < q) ka ks from hsl.mono (fun q _ h => by rcases h with h | h; exact .inl h; exact .inr (Nat.lt_of_lt_of_le hzR3 h)))
          have HX2 := Lib.hid ((hM.mono (Y := fun q => X q ∧ q < w.heap.size) (fun b hb h => ⟨h, hb⟩)).kept kk4 (by simp))
          have HRW := Lib.hid (show R = w.heap.size from HR.out.symm)
          have d0 : w4.cell? ⟨R, 0, none⟩ = some (.int .i64 0) := by simpa using rO4.cell 0
          have d1 : w4.cell? ⟨R, 1, none⟩ = some (.int .i64 0) := by simpa using rO4.cell 1
          have d2 : w4.cell? ⟨R, 2, none⟩ = some (.bool false) := by simpa using rO4.cell 2
          have d3 : w4.cell? ⟨R, 3, none⟩ = some (.int .i64 0) := by simpa using rO4.cell 3
          have d4 : w4.cell? ⟨R, 4, none⟩ = some (.int .i64 0) := by simpa using rO4.cell 4
          have d5 : w4.cell? ⟨R, 5, none⟩ = some (.int .i64 0) := by simpa using rO4.cell 5
          have d6 : w4.cell? ⟨R, 6, none⟩ = some (.slice none 0 0) := by simpa using rO4.cell 6
          have d7 : w4.cell? ⟨R, 7, none⟩ = some (.slice none 0 0) := by simpa using rO4.cell 7
          have f0 := rO4.free 0
          have f1 := rO4.free 1
          have f2 := rO4.free 2
          have f3 := rO4.free 3
          have f4 := rO4.free 4
          have f5 := rO4.free 5
          have f6 := rO4.free 6
          have f7 := rO4.free 7
          have K8 := Lib.hid (fun u0 u1 u2 u3 u4 u5 u6 u7 : Value => Kept.set8 (S := []) kk4 (g := R) (.inr (by rw [HR.out]; exact Nat.le_refl _)) u0 u1 u2 u3 u4 u5 u6 u7)
          have R8 := Lib.hid (fun u0 u1 u2 u3 u4 u5 u6 u7 : Value => Row.set8 rO4 u0 u1 u2 u3 u4 u5 u6 u7)
          have X8 := Lib.hid (fun u0 u1 u2 u3 u4 u5 u6 u7 : Value => Kept.set8 (S := [R]) (Kept.refl [R] w4) (g := R) (.inl (by simp)) u0 u1 u2 u3 u4 u5 u6 u7)
          have hold := Lib.hid (show ∀ W', Kept [R] w4 W' → (fun w' => w'.cell? ⟨H, 0, none⟩ = some (.bool ar) ∧ w'.cell? ⟨H, 1, none⟩ = some (.int .i64 kd) ∧ w'.cell? ⟨H, 2, none⟩ = some (.int .i64 ty) ∧ w'.cell? ⟨H, 3, none⟩ = some (.int .i64 nn)) W' from fun W' kq => ⟨by simpa using (rH4.kept kq (by simpa using hneR)).cell 0, by simpa using (rH4.kept kq (by simpa using hneR)).cell 1, by simpa using (rH4.kept kq (by simpa using hneR)).cell 2, by simpa using (rH4.kept kq (by simpa using hneR)).cell 3⟩)
          have kk0 : Kept [R] w4 w4.drew := (Kept.refl _ _).drew
          have c0 : w4.cell? ⟨H, 0, none⟩ = some (.bool ar) := by simpa using rH4.cell 0
          have c1 : w4.cell? ⟨H, 1, none⟩ = some (.int .i64 kd) := by simpa using rH4.cell 1
          have c2 : w4.cell? ⟨H, 2, none⟩ = some (.int .i64 ty) := by simpa using rH4.cell 2
          have c3 : w4.cell? ⟨H, 3, none⟩ = some (.int .i64 nn) := by simpa using rH4.cell 3
          clear hone hsl rH4 rO4 kk4 hs hX hx hM hu kk3
          go_wp2_with fail
          have b0 : (0 : Int) ≤ (K : Int) + 1 := by omega
          have b1 : (K : Int) + 1 ≤ (K : Int) + 1 + (ks.length : Int) := by omega
          have b2 : (K : Int) + 1 + (ks.length : Int) ≤ (mc : Int) := by omega
          have b3 : IntKind.i64.wrap ((K : Int) + 1 + (ks.length : Int)) = (K : Int) + 1 + (ks.length : Int) := by rw [IntKind.wrap_i64]; omega
          have t1 : ((K : Int) + 1).toNat = K + 1 := by omega
          have t2 : ((K : Int) + 1 + (ks.length : Int)).toNat = K + 1 + ks.length := by omega
          have t3 : K + 1 + ks.length - (K + 1) = ks.length := by omega
          have hvl : ((xs.drop (K + 1)).take ks.length).length = ks.length := by simp; omega
          by_cases hcap : mc = K + 1
          · have hk0 : ks = [] := List.eq_nil_of_length_eq_zero (by omega)
            subst hk0
            subst hcap
            simp only [List.length_nil] at b1 b2 b3 t2 t3 hvl ⊢
            rw [show ((0 : Nat) : Int) = 0 from rfl] at b1 b2 b3 t2 ⊢
            rw [Int.add_zero] at b1 b2 b3 t2
            go_region_held3 (fun w' => w'.cell? ⟨H, 0, none⟩ = some (.bool ar) ∧ w'.cell? ⟨H, 1, none⟩ = some (.int .i64 kd) ∧ w'.cell? ⟨H, 2, none⟩ = some (.int .i64 ty) ∧ w'.cell? ⟨H, 3, none⟩ = some (.int .i64 nn)) (first | (with_reducible exact hold.out _ kk0) | (with_reducible exact hold.out _ ((X8.out _ _ _ _ _ _ _ _).drew)) | (with_reducible exact hold.out _ (X8.out _ _ _ _ _ _ _ _))) (fail)
            go_wp2
            (try simp only [Exit.inBlock, Exit.then])
            refine bodyPost_ret (results_cell2 rfl rfl (Row.load (R8.out _ _ _ _ _ _ _ _).drew Try.underlying35 rfl rfl)) rfl ?_
            rw [HONE.out]
            exact ⟨⟨⟨(K : Int) + 1, ⟨ar, kd, ty, nn⟩, [], []⟩, ka, kc, some ⟨mb, mo, none⟩, 0⟩, rfl, rfl, ⟨.inl rfl, .inl rfl⟩, (K8.out _ _ _ _ _ _ _ _).drew⟩
          · have hcap' : ¬ mc = K + 1 := hcap
            go_region_held3 (fun w' => w'.cell? ⟨H, 0, none⟩ = some (.bool ar) ∧ w'.cell? ⟨H, 1, none⟩ = some (.int .i64 kd) ∧ w'.cell? ⟨H, 2, none⟩ = some (.int .i64 ty) ∧ w'.cell? ⟨H, 3, none⟩ = some (.int .i64 nn)) (first | (with_reducible exact hold.out _ kk0) | (with_reducible exact hold.out _ ((X8.out _ _ _ _ _ _ _ _).drew)) | (with_reducible exact hold.out _ (X8.out _ _ _ _ _ _ _ _))) (fail)
            go_wp2
            (try simp only [Exit.inBlock, Exit.then])
            refine bodyPost_ret (results_cell2 rfl rfl (Row.load (R8.out _ _ _ _ _ _ _ _).drew Try.underlying35 rfl rfl)) rfl ?_
            rw [HONE.out]
            refine ⟨⟨⟨(K : Int) + 1, ⟨ar, kd, ty, nn⟩, ks, (xs.drop (K + 1)).take ks.length⟩, ka, kc, some ⟨mb, mo + (K + 1), none⟩, mc - (K + 1)⟩, rfl, ?_, ⟨?_, ?_⟩, (K8.out _ _ _ _ _ _ _ _).drew⟩
            · simp only [ObL.cells, hvl]
              rfl
            · exact (HX1.out.kept ((X8.out _ _ _ _ _ _ _ _).drew) (by intro q hq; obtain rfl := List.mem_singleton.1 hq; have := HR.out; rintro (⟨_, h⟩ | h) <;> omega)).mono (fun q _ h => by have := HR.out; rcases h with h | h; exact .inl h.1; exact .inr (by omega))
            · exact ((HX2.out.part (K + 1) ks.length).kept ((X8.out _ _ _ _ _ _ _ _).drew) (by intro q hq; obtain rfl := List.mem_singleton.1 hq; have := HR.out; rintro ⟨_, h⟩; omega)).mono (fun q _ h => .inl h.1)
        · rw [if_pos (by omega)] at hone
          have HONE := Lib.hid hone
          have g2 : decide ((xs.length : Int) < (K : Int) + 1 + (ks.length : Int)) = true := by simp; omega
          have d0 : w4.cell? ⟨R, 0, none⟩ = some (.int .i64 0) := by simpa using rO4.cell 0
          have d1 : w4.cell? ⟨R, 1, none⟩ = some (.int .i64 0) := by simpa using rO4.cell 1
          have d2 : w4.cell? ⟨R, 2, none⟩ = some (.bool false) := by simpa using rO4.cell 2
          have d3 : w4.cell? ⟨R, 3, none⟩ = some (.int .i64 0) := by simpa using rO4.cell 3
          have d4 : w4.cell? ⟨R, 4, none⟩ = some (.int .i64 0) := by simpa using rO4.cell 4
          have d5 : w4.cell? ⟨R, 5, none⟩ = some (.int .i64 0) := by simpa using rO4.cell 5
          have d6 : w4.cell? ⟨R, 6, none⟩ = some (.slice none 0 0) := by simpa using rO4.cell 6
          have d7 : w4.cell? ⟨R, 7, none⟩ = some (.slice none 0 0) := by simpa using rO4.cell 7
          have f0 := rO4.free 0
          have f1 := rO4.free 1
          have f2 := rO4.free 2
          have f3 := rO4.free 3
          have f4 := rO4.free 4
          have f5 := rO4.free 5
          have f6 := rO4.free 6
          have f7 := rO4.free 7
          have K8 := Lib.hid (fun u0 u1 u2 u3 u4 u5 u6 u7 : Value => Kept.set8 (S := []) kk4 (g := R) (.inr (by rw [HR.out]; exact Nat.le_refl _)) u0 u1 u2 u3 u4 u5 u6 u7)
          have R8 := Lib.hid (fun u0 u1 u2 u3 u4 u5 u6 u7 : Value => Row.set8 rO4 u0 u1 u2 u3 u4 u5 u6 u7)
          clear hone hsl rH4 rO4 kk4 hs hX hx hM hu kk3
          go_wp2
          (try simp only [Exit.inBlock, Exit.then])
          refine bodyPost_ret (results_cell2 rfl rfl (Row.load (R8.out _ _ _ _ _ _ _ _) Try.underlying35 rfl rfl)) rfl ?_
          rw [HONE.out]
          exact OneAns.none rfl (K8.out _ _ _ _ _ _ _ _)
      · rw [if_pos he2] at hone
        have he2' : (e2 != 0) = true := by simpa using he2
        have HONE := Lib.hid hone
        have d0 : w4.cell? ⟨R, 0, none⟩ = some (.int .i64 0) := by simpa using rO4.cell 0
        have d1 : w4.cell? ⟨R, 1, none⟩ = some (.int .i64 0) := by simpa using rO4.cell 1
        have d2 : w4.cell? ⟨R, 2, none⟩ = some (.bool false) := by simpa using rO4.cell 2
        have d3 : w4.cell? ⟨R, 3, none⟩ = some (.int .i64 0) := by simpa using rO4.cell 3
        have d4 : w4.cell? ⟨R, 4, none⟩ = some (.int .i64 0) := by simpa using rO4.cell 4
        have d5 : w4.cell? ⟨R, 5, none⟩ = some (.int .i64 0) := by simpa using rO4.cell 5
        have d6 : w4.cell? ⟨R, 6, none⟩ = some (.slice none 0 0) := by simpa using rO4.cell 6
        have d7 : w4.cell? ⟨R, 7, none⟩ = some (.slice none 0 0) := by simpa using rO4.cell 7
        have f0 := rO4.free 0
        have f1 := rO4.free 1
        have f2 := rO4.free 2
        have f3 := rO4.free 3
        have f4 := rO4.free 4
        have f5 := rO4.free 5
        have f6 := rO4.free 6
        have f7 := rO4.free 7
        have K8 := Lib.hid (fun u0 u1 u2 u3 u4 u5 u6 u7 : Value => Kept.set8 (S := []) kk4 (g := R) (.inr (by rw [HR.out]; exact Nat.le_refl _)) u0 u1 u2 u3 u4 u5 u6 u7)
        have R8 := Lib.hid (fun u0 u1 u2 u3 u4 u5 u6 u7 : Value => Row.set8 rO4 u0 u1 u2 u3 u4 u5 u6 u7)
        clear hone hsl rH4 rO4 kk4 hs hu hx he2 hX hM kk3
        go_wp2
        (try simp only [Exit.inBlock, Exit.then])
        refine bodyPost_ret (results_cell2 rfl rfl (Row.load (R8.out _ _ _ _ _ _ _ _) Try.underlying35 rfl rfl)) rfl ?_
        rw [HONE.out]
        exact OneAns.none rfl (K8.out _ _ _ _ _ _ _ _)
    · have he1' : (e1 != 0) = true := by simpa using he1
      have hone := HONE.out
      rw [if_pos he1] at hone
      have HONE := Lib.hid hone
      have kH := (Kept.refl [] w2).alloc (.cells #[.bool ar, .int .i64 kd, .int .i64 ty, .int .i64 nn] 32)
      have rO2 := (rO.kept k2 (by simp)).kept kH (by simp)
      have kk3 := kk.trans kH
      have d0 : (w2.alloc (.cells #[.bool ar, .int .i64 kd, .int .i64 ty, .int .i64 nn] 32)).cell? ⟨R, 0, none⟩ = some (.int .i64 0) := by simpa using rO2.cell 0
      have d1 : (w2.alloc (.cells #[.bool ar, .int .i64 kd, .int .i64 ty, .int .i64 nn] 32)).cell? ⟨R, 1, none⟩ = some (.int .i64 0) := by simpa using rO2.cell 1
      have d2 : (w2.alloc (.cells #[.bool ar, .int .i64 kd, .int .i64 ty, .int .i64 nn] 32)).cell? ⟨R, 2, none⟩ = some (.bool false) := by simpa using rO2.cell 2
      have d3 : (w2.alloc (.cells #[.bool ar, .int .i64 kd, .int .i64 ty, .int .i64 nn] 32)).cell? ⟨R, 3, none⟩ = some (.int .i64 0) := by simpa using rO2.cell 3
      have d4 : (w2.alloc (.cells #[.bool ar, .int .i64 kd, .int .i64 ty, .int .i64 nn] 32)).cell? ⟨R, 4, none⟩ = some (.int .i64 0) := by simpa using rO2.cell 4
      have d5 : (w2.alloc (.cells #[.bool ar, .int .i64 kd, .int .i64 ty, .int .i64 nn] 32)).cell? ⟨R, 5, none⟩ = some (.int .i64 0) := by simpa using rO2.cell 5
      have d6 : (w2.alloc (.cells #[.bool ar, .int .i64 kd, .int .i64 ty, .int .i64 nn] 32)).cell? ⟨R, 6, none⟩ = some (.slice none 0 0) := by simpa using rO2.cell 6
      have d7 : (w2.alloc (.cells #[.bool ar, .int .i64 kd, .int .i64 ty, .int .i64 nn] 32)).cell? ⟨R, 7, none⟩ = some (.slice none 0 0) := by simpa using rO2.cell 7
      have f0 := rO2.free 0
      have f1 := rO2.free 1
      have f2 := rO2.free 2
      have f3 := rO2.free 3
      have f4 := rO2.free 4
      have f5 := rO2.free 5
      have f6 := rO2.free 6
      have f7 := rO2.free 7
      have K8 := Lib.hid (fun u0 u1 u2 u3 u4 u5 u6 u7 : Value => Kept.set8 (S := []) kk3 (g := R) (.inr (by rw [HR.out]; exact Nat.le_refl _)) u0 u1 u2 u3 u4 u5 u6 u7)
      have R8 := Lib.hid (fun u0 u1 u2 u3 u4 u5 u6 u7 : Value => Row.set8 rO2 u0 u1 u2 u3 u4 u5 u6 u7)
      clear hone rO kO k2 kk hs hu hx he1 rO2 kk3 kH hX hM cM
      go_wp2
      (try simp only [Exit.inBlock, Exit.then])
      refine bodyPost_ret (results_cell2 rfl rfl (Row.load (R8.out _ _ _ _ _ _ _ _) Try.underlying35 rfl rfl)) rfl ?_
      rw [HONE.out]
      exact OneAns.none rfl (K8.out _ _ _ _ _ _ _ _)
  · have hone : oneB xs (l.map Ty.ks) at_ = (Ob.zero, 8) := by unfold oneB; rw [if_neg hin]
    have HONE := Lib.hid hone
    by_cases h1 : at_ < 1
    · have g0 : decide (at_ < 1) = true := by simpa using h1
      clear hone hin hu hx hs hX hM h1
      go_enter Try.func10, Try.ntmps10
      go_wp2
      (try simp only [Exit.inBlock, Exit.then])
      refine bodyPost_ret (results_cell2 rfl rfl (Row.load rO Try.underlying35 rfl rfl)) rfl ?_
      rw [HONE.out]
      exact OneAns.none rfl kO
    · have g0 : decide (at_ < 1) = false := by simpa using h1
      have g1 : decide ((xs.length : Int) < at_) = true := by simp; omega
      clear hone hin hu hx hs hX hM h1
      go_enter Try.func10, Try.ntmps10
      go_wp2
      (try simp only [Exit.inBlock, Exit.then])
      refine bodyPost_ret (results_cell2 rfl rfl (Row.load rO Try.underlying35 rfl rfl)) rfl ?_
      rw [HONE.out]
      exact OneAns.none rfl kO
end Go.Proofs.Ythnoohghjcfghaa

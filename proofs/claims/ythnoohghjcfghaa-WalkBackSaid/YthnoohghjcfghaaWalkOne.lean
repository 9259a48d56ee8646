/- Package walk: read, One. -/
import Derived.Test.YthnoohghjcfghaaWalkPlain
import Derived.Test.YthnoohghjcfghaaHeaderPut
import Derived.Test.YthnoohghjcfghaaDescKinds
namespace Go.Proofs.Ythnoohghjcfghaa
open Go.RowKit

/-- The words of xs from K on, n of them, or the error. -/
def ReadAns (xs : List Int) (K n : Nat) (w : World) (e : Ending) (w' : World) : Prop :=
  if K + n ≤ xs.length then ∃ g, e = .returned (.tuple #[.slice (some ⟨g, 0, none⟩) n n, .int .i64 0]) ∧ w.heap.size ≤ g ∧ Row w' g 61 (((xs.drop K).take n).map (Value.int .u64)) ∧ Kept [] w w'
  else e = .returned (.tuple #[.slice none 0 0, .int .i64 8]) ∧ Kept [] w w'

/-- The first j words are read, the others are 0. -/
def readTo (xs : List Int) (K n j : Nat) : List Int := (xs.drop K).take j ++ List.replicate (n - j) 0
theorem readTo_zero (xs : List Int) (K n : Nat) : readTo xs K n 0 = List.replicate n 0 := by simp [readTo]
theorem readTo_length (xs : List Int) (K n j : Nat) (hj : j ≤ n) (hK : K + j ≤ xs.length) : (readTo xs K n j).length = n := by simp [readTo]; omega
theorem readTo_succ (xs : List Int) (K n j : Nat) (hj : j < n) (hK : K + j < xs.length) : (readTo xs K n j).set j (xs[K + j]?.getD 0) = readTo xs K n (j + 1) := by
  apply List.ext_getElem?
  intro i
  unfold readTo
  rw [List.getElem?_set]
  have hl : ((xs.drop K).take j ++ List.replicate (n - j) (0 : Int)).length = n := by simp; omega
  by_cases e : j = i
  · subst e
    rw [if_pos rfl, if_pos (by rw [hl]; exact hj), List.getElem?_append_left (by simp; omega), List.getElem?_take, if_pos (by omega), List.getElem?_drop]
    simp [List.getElem?_eq_getElem hK]
  · rw [if_neg e]
    by_cases h : i < j
    · rw [List.getElem?_append_left (by simp; omega), List.getElem?_append_left (by simp; omega), List.getElem?_take, List.getElem?_take, if_pos h, if_pos (by omega)]
    · rw [List.getElem?_append_right (by simp; omega), List.getElem?_append_right (by simp; omega)]
      simp only [List.getElem?_replicate, List.length_take, List.length_drop, Nat.min_eq_left (show j ≤ xs.length - K by omega), Nat.min_eq_left (show j + 1 ≤ xs.length - K by omega)]
      split <;> split <;> first | rfl | omega
theorem readTo_all (xs : List Int) (K n : Nat) : readTo xs K n n = (xs.drop K).take n := by simp [readTo]

set_option maxRecDepth 100000 in
set_option maxHeartbeats 2000000 in
theorem walkRead_any (b g : Nat) (xs : List Int) (K n : Nat) (w : World) (hm : IsMem w b g xs) (hK : K ≤ xs.length) (hn : n ≤ 1048576) :
    Calls Try.prog 27 #[.pointer (some ⟨b, 0, none⟩), .int .i64 K, .int .i64 n] w (ReadAns xs K n w) := by
  obtain ⟨i0, hi, hz0, hz1, hz2⟩ := info_parts Try.info61
  have hx := hm.2.2
  have hbl := hm.1.lt
  have hgl := hm.2.1.lt
  go_enter Try.func27, Try.ntmps27
  go_wp2_with (refine wpList_make_row _ rfl _ _ 22 rfl 61 i0 (.int .u64 0) Try.underlying22 hi hz0 hz1 rfl .i64 .i64 n n n rfl rfl rfl rfl (by rw [hz2]; omega) (by unfold maxLen; omega) ?_; intro w1 hr hk hs)
  obtain ⟨G, hG⟩ : ∃ G, w.heap.size = G := ⟨_, rfl⟩
  rw [hG] at hr hs ⊢
  have hm1 := hm.kept hk (by simp) (by simp)
  rw [zeros_ints, ← readTo_zero xs K] at hr
  have HG := Lib.hid hG
  have hbG : b ≠ G := by omega
  have hgG : g ≠ G := by omega
  clear hG hs hbl hgl hm
  go_loopw [16] (fun i wr => ∃ j : Nat, j ≤ n ∧ K + j ≤ xs.length ∧ i = .int .i64 j ∧ Row wr G 61 ((readTo xs K n j).map (Value.int .u64)) ∧ Kept [G] w1 wr) (fun i _ => n - (intOf i).toNat)
  case atStart => exact ⟨0, Nat.zero_le _, by omega, rfl, hr, Kept.refl _ _⟩
  case round =>
    obtain ⟨j, hj, hKj, rfl, hrr, hkr⟩ := hrel
    have hmr := hm1.kept hkr (by simpa using hbG) (by simpa using hgG)
    have kwr : Kept [] w wr := hk.chain hkr (by simp) (by have := HG.out; simp; omega)
    by_cases hlt : j < n
    · have hlt' : (j : Int) < (n : Int) := by omega
      have hadd : IntKind.i64.wrap ((K : Int) + (j : Int)) = ((K + j : Nat) : Int) := by rw [IntKind.wrap_i64]; omega
      by_cases hin : K + j < xs.length
      · have hb1 : hasB xs.length ((K + j : Nat) : Int) = true := by simp [hasB]; omega
        have hc := read_any b g xs ((K + j : Nat) : Int) wr hmr
        rw [hb1, if_pos rfl, show errB true = 0 from rfl, Int.toNat_natCast] at hc
        have hset := hrr.set j (.int .u64 (xs[K + j]?.getD 0))
        rw [← List.map_set, readTo_succ xs K n j hlt hin] at hset
        have hcell := hrr.cell j
        have hfr := hrr.free j
        have hl := readTo_length xs K n j hj hKj
        rw [List.getElem?_map, List.getElem?_eq_getElem (by rw [hl]; exact hlt), Option.map_some] at hcell
        generalize (readTo xs K n j)[j]'(by rw [hl]; exact hlt) = y0 at hcell
        generalize xs[K + j]?.getD 0 = y at hc hset
        have HST := Lib.hid hset
        clear hset hb1 hl
        go_wp2_with fail
        refine hc.mono ?_
        rintro e w2 ⟨rfl, rfl⟩
        go_wp2
        go_roundw
        case rel => exact ⟨j + 1, by omega, by omega, by go_num, HST.out, hkr.set (.inl (by simp)) _⟩
        case measure => simp [intOf]; omega
      · have hb1 : hasB xs.length ((K + j : Nat) : Int) = false := by simp [hasB]; omega
        have hc := read_any b g xs ((K + j : Nat) : Int) wr hmr
        rw [hb1, if_neg (by simp), show errB false = 8 from rfl] at hc
        go_wp2_with fail
        refine hc.mono ?_
        rintro e w2 ⟨rfl, rfl⟩
        go_wp2
        go_ret2
        unfold ReadAns
        rw [if_neg (by omega)]
        exact ⟨rfl, kwr⟩
    · obtain rfl : j = n := by omega
      go_wp2
      go_ret2
      unfold ReadAns
      rw [if_pos hKj]
      rw [readTo_all] at hrr
      exact ⟨G, rfl, by have := HG.out; omega, hrr, kwr⟩

/-- A result variable of an object's, not yet set. -/
def ob0 : List Value := [.int .i64 0, .int .i64 0, .bool false, .int .i64 0, .int .i64 0, .int .i64 0, .slice none 0 0, .slice none 0 0]
/-- A struct of eight cells, stored whole. -/
theorem Row.set8 {w : World} {g : Nat} {t : TypeId} {v0 v1 v2 v3 v4 v5 v6 v7 : Value} (h : Row w g t [v0, v1, v2, v3, v4, v5, v6, v7]) (u0 u1 u2 u3 u4 u5 u6 u7 : Value) : Row ((((((((w.setCell ⟨g, 0, none⟩ u0).setCell ⟨g, 1, none⟩ u1).setCell ⟨g, 2, none⟩ u2).setCell ⟨g, 3, none⟩ u3).setCell ⟨g, 4, none⟩ u4).setCell ⟨g, 5, none⟩ u5).setCell ⟨g, 6, none⟩ u6).setCell ⟨g, 7, none⟩ u7) g t [u0, u1, u2, u3, u4, u5, u6, u7] := by
  simpa using ((((((((h.set 0 u0).set 1 u1).set 2 u2).set 3 u3).set 4 u4).set 5 u5).set 6 u6).set 7 u7)
theorem Kept.set8 {S : List Nat} {a w : World} (h : Kept S a w) {g : Nat} (hp : g ∈ S ∨ a.heap.size ≤ g) (u0 u1 u2 u3 u4 u5 u6 u7 : Value) : Kept S a ((((((((w.setCell ⟨g, 0, none⟩ u0).setCell ⟨g, 1, none⟩ u1).setCell ⟨g, 2, none⟩ u2).setCell ⟨g, 3, none⟩ u3).setCell ⟨g, 4, none⟩ u4).setCell ⟨g, 5, none⟩ u5).setCell ⟨g, 6, none⟩ u6).setCell ⟨g, 7, none⟩ u7) :=
  (Kept.set (p := ⟨g, 7, none⟩) (Kept.set (p := ⟨g, 6, none⟩) (Kept.set (p := ⟨g, 5, none⟩) (Kept.set (p := ⟨g, 4, none⟩) (Kept.set (p := ⟨g, 3, none⟩) (Kept.set (p := ⟨g, 2, none⟩) (Kept.set (p := ⟨g, 1, none⟩) (Kept.set (p := ⟨g, 0, none⟩) h hp u0) hp u1) hp u2) hp u3) hp u4) hp u5) hp u6) hp u7)

set_option maxRecDepth 100000 in
set_option maxHeartbeats 2000000 in
theorem walkOne_nil (at_ : Int) (T : Value) (w : World) (X : Nat → Prop) :
    Calls Try.prog 9 #[.pointer none, .int .i64 at_, T] w (OneAns X (Ob.zero, 1) w) := by
  have rO := Row.new w 35 ob0
  have kO := (Kept.refl [] w).alloc (.cells ob0.toArray 35)
  unfold ob0 at rO kO
  go_enter Try.func9, Try.ntmps9
  go_wp2
  (try simp only [Exit.inBlock, Exit.then])
  refine bodyPost_ret (results_cell2 rfl rfl (Row.load rO Try.underlying35 rfl rfl)) rfl ?_
  exact OneAns.none rfl kO

set_option maxRecDepth 100000 in
set_option maxHeartbeats 4000000 in
theorem walkOne_any (b g : Nat) (xs : List Int) (A : Option Addr) (cap : Nat) (l : List Ty) (at_ : Int) (w : World) (hm : IsMem w b g xs) (hu : ∀ z ∈ xs, 0 ≤ z ∧ z < 18446744073709551616)
    (hs : SlD w A l) (hx : ∀ t ∈ l, t.ks.length ≤ 100) (hat : -9223372036854775808 ≤ at_ ∧ at_ ≤ 9223372036854775807) :
    Calls Try.prog 9 #[.pointer (some ⟨b, 0, none⟩), .int .i64 at_, .slice A l.length cap] w (OneAns (fun k => w.heap.size ≤ k) (oneB xs (l.map Ty.ks) at_) w) := by
  have rO := Row.new w 35 ob0
  have kO := (Kept.refl [] w).alloc (.cells ob0.toArray 35)
  have hmO := hm.kept kO (by simp) (by simp)
  unfold ob0 at rO kO hmO
  have hxl := hm.2.2
  by_cases hin : 1 ≤ at_ ∧ at_ ≤ (xs.length : Int)
  · obtain ⟨K, rfl⟩ : ∃ K : Nat, at_ = ((K + 1 : Nat) : Int) := ⟨(at_ - 1).toNat, by omega⟩
    have hK : K < xs.length := by omega
    have hone : oneB xs (l.map Ty.ks) ((K + 1 : Nat) : Int) = oneN xs (l.map Ty.ks) K := by
      unfold oneB
      rw [if_pos hin]
      congr 1
      omega
    have hrd := fun W h => read_any b g xs (K : Int) W h
    have hb1 : hasB xs.length (K : Int) = true := by simp [hasB]; omega
    rw [hb1, if_pos rfl, show errB true = 0 from rfl, Int.toNat_natCast] at hrd
    have hWu := hu _ (List.getElem_mem hK)
    rw [show xs[K] = xs[K]?.getD 0 by simp [hK]] at hWu
    obtain ⟨Wd, hWd⟩ : ∃ Wd, xs[K]?.getD 0 = Wd := ⟨_, rfl⟩
    rw [hWd] at hrd hWu
    have hget := fun W => get_any Wd W hWu.1 hWu.2
    unfold oneN at hone
    rw [hWd] at hone
    obtain ⟨⟨⟨ar, kd, ty, nn⟩, e1⟩, hG⟩ : ∃ x, getH Wd = x := ⟨_, rfl⟩
    rw [hG] at hone hget
    simp only at hone hget
    have HONE := Lib.hid hone
    have HRD := Lib.hid hrd
    have HGET := Lib.hid hget
    clear hone hrd hget hG hWd hb1 hWu hat hin
    go_enter Try.func9, Try.ntmps9
    go_wp2_with fail
    obtain ⟨R, hR⟩ : ∃ R, w.heap.size = R := ⟨_, rfl⟩
    have HR := Lib.hid hR
    rw [hR] at rO ⊢
    clear hR
    generalize hW1 : w.alloc (.cells #[.int .i64 0, .int .i64 0, .bool false, .int .i64 0, .int .i64 0, .int .i64 0, .slice none 0 0, .slice none 0 0] 35) = W1 at rO kO hmO ⊢
    clear hW1
    refine (HRD.out W1 hmO).mono ?_
    rintro e w2 ⟨rfl, rfl⟩
    go_wp2_with fail
    refine (HGET.out W1).mono ?_
    rintro e w2 ⟨rfl, k2⟩
    have kk := kO.trans k2
    have hm2 := hmO.kept k2 (by simp) (by simp)
    by_cases he1 : e1 = 0
    · subst he1
      have hone := HONE.out
      rw [if_neg (by simp)] at hone
      have HONE := Lib.hid hone
      clear hone
      have kH := (Kept.refl [] w2).alloc (.cells #[.bool ar, .int .i64 kd, .int .i64 ty, .int .i64 nn] 32)
      have rH := Row.new w2 32 [.bool ar, .int .i64 kd, .int .i64 ty, .int .i64 nn]
      have rO2 := (rO.kept k2 (by simp)).kept kH (by simp)
      have hm3 := hm2.kept kH (by simp) (by simp)
      have kk3 := kk.trans kH
      have hs3 := hs.kept kk3
      have hz2 := rO2.lt
      clear rO hmO kO k2 kk hm2
      go_wp2_with fail
      obtain ⟨H, hH⟩ : ∃ H, w2.heap.size = H := ⟨_, rfl⟩
      rw [hH] at rH ⊢
      clear hH kH
      generalize hW3 : w2.alloc (.cells #[.bool ar, .int .i64 kd, .int .i64 ty, .int .i64 nn] 32) = W3 at rH rO2 hm3 kk3 hs3 hz2 ⊢
      clear hW3
      refine (descKinds_any A cap l ar kd ty nn W3 hs3 hx).mono ?_
      rintro e w4 ⟨v, rfl, hown, k4⟩
      obtain ⟨⟨ks, e2⟩, hks⟩ : ∃ x, kindsB (l.map Ty.ks) ⟨ar, kd, ty, nn⟩ = x := ⟨_, rfl⟩
      have hkl := kindsB_len (l.map Ty.ks) ⟨ar, kd, ty, nn⟩ (by intro q hq; obtain ⟨t, ht, rfl⟩ := List.mem_map.1 hq; exact hx t ht)
      have hone := HONE.out
      rw [hks] at hown hone hkl ⊢
      simp only at hown hone hkl ⊢
      obtain ⟨ka, kc, rfl, hsl⟩ := SlX.of_own hown
      have rH4 := rH.kept k4 (by simp)
      have rO4 := rO2.kept k4 (by simp)
      have hm4 := hm3.kept k4 (by simp) (by simp)
      have kk4 := kk3.trans k4
      have hzR3 := rO2.lt
      have hzR4 := rO4.lt
      clear hks hown rH rO2 hm3 hs3 k4 HONE hz2
      by_cases he2 : e2 = 0
      · subst he2
        rw [if_neg (by simp)] at hone
        have HONE := Lib.hid hone
        have c0 : w4.cell? ⟨H, 0, none⟩ = some (.bool ar) := by simpa using rH4.cell 0
        have c1 : w4.cell? ⟨H, 1, none⟩ = some (.int .i64 kd) := by simpa using rH4.cell 1
        have c2 : w4.cell? ⟨H, 2, none⟩ = some (.int .i64 ty) := by simpa using rH4.cell 2
        have c3 : w4.cell? ⟨H, 3, none⟩ = some (.int .i64 nn) := by simpa using rH4.cell 3
        clear hone
        go_wp2_with fail
        have hrd := walkRead_any b g xs (K + 1) ks.length w4 hm4 (by omega) (by omega)
        refine hrd.mono ?_
        intro e w5 hans
        unfold ReadAns at hans
        by_cases hfit : K + 1 + ks.length ≤ xs.length
        · rw [if_pos hfit] at hans
          obtain ⟨G, rfl, hGn, hrow, k5⟩ := hans
          have hone := HONE.out
          rw [if_neg (by omega)] at hone
          have HONE := Lib.hid hone
          have rH5 := rH4.kept k5 (by simp)
          have rO5 := rO4.kept k5 (by simp)
          have kk5 := kk4.trans k5
          have hsl5 := hsl.kept k5 (by simp)
          have HX := Lib.hid (show SlX w5 .u64 (fun q => R < q) (some ⟨G, 0, none⟩) ((xs.drop (K + 1)).take ks.length) from SlX.of_row hrow (Nat.lt_of_lt_of_le hzR4 hGn))
          have HX2 := Lib.hid (show SlX w5 .i64 (fun q => R < q) ka ks from hsl5.mono (fun q _ h => Nat.lt_of_lt_of_le hzR3 h))
          have c0 : w5.cell? ⟨H, 0, none⟩ = some (.bool ar) := by simpa using rH5.cell 0
          have c1 : w5.cell? ⟨H, 1, none⟩ = some (.int .i64 kd) := by simpa using rH5.cell 1
          have c2 : w5.cell? ⟨H, 2, none⟩ = some (.int .i64 ty) := by simpa using rH5.cell 2
          have c3 : w5.cell? ⟨H, 3, none⟩ = some (.int .i64 nn) := by simpa using rH5.cell 3
          have d0 : w5.cell? ⟨R, 0, none⟩ = some (.int .i64 0) := by simpa using rO5.cell 0
          have d1 : w5.cell? ⟨R, 1, none⟩ = some (.int .i64 0) := by simpa using rO5.cell 1
          have d2 : w5.cell? ⟨R, 2, none⟩ = some (.bool false) := by simpa using rO5.cell 2
          have d3 : w5.cell? ⟨R, 3, none⟩ = some (.int .i64 0) := by simpa using rO5.cell 3
          have d4 : w5.cell? ⟨R, 4, none⟩ = some (.int .i64 0) := by simpa using rO5.cell 4
          have d5 : w5.cell? ⟨R, 5, none⟩ = some (.int .i64 0) := by simpa using rO5.cell 5
          have d6 : w5.cell? ⟨R, 6, none⟩ = some (.slice none 0 0) := by simpa using rO5.cell 6
          have d7 : w5.cell? ⟨R, 7, none⟩ = some (.slice none 0 0) := by simpa using rO5.cell 7
          have f0 := rO5.free 0
          have f1 := rO5.free 1
          have f2 := rO5.free 2
          have f3 := rO5.free 3
          have f4 := rO5.free 4
          have f5 := rO5.free 5
          have f6 := rO5.free 6
          have f7 := rO5.free 7
          have K8 := Lib.hid (fun u0 u1 u2 u3 u4 u5 u6 u7 : Value => Kept.set8 (S := []) kk5 (g := R) (.inr (by rw [HR.out]; exact Nat.le_refl _)) u0 u1 u2 u3 u4 u5 u6 u7)
          have R8 := Lib.hid (fun u0 u1 u2 u3 u4 u5 u6 u7 : Value => Row.set8 rO5 u0 u1 u2 u3 u4 u5 u6 u7)
          have X8 := Lib.hid (fun u0 u1 u2 u3 u4 u5 u6 u7 : Value => Kept.set8 (S := [R]) (Kept.refl [R] w5) (g := R) (.inl (by simp)) u0 u1 u2 u3 u4 u5 u6 u7)
          clear hone hsl5 hsl hrow k5 rH5 rO5 kk5 rH4 rO4 hm4 kk4 hm hs hu hx
          go_wp2
          (try simp only [Exit.inBlock, Exit.then])
          refine bodyPost_ret (results_cell2 rfl rfl (Row.load (R8.out _ _ _ _ _ _ _ _) Try.underlying35 rfl rfl)) rfl ?_
          rw [HONE.out]
          have hvl : ((xs.drop (K + 1)).take ks.length).length = ks.length := by simp; omega
          refine ⟨⟨⟨(K : Int) + 1, ⟨ar, kd, ty, nn⟩, ks, (xs.drop (K + 1)).take ks.length⟩, ka, kc, some ⟨G, 0, none⟩, ks.length⟩, rfl, ?_, ⟨?_, ?_⟩, K8.out _ _ _ _ _ _ _ _⟩
          · simp only [ObL.cells, hvl]
            rfl
          · exact (HX2.out.kept (X8.out _ _ _ _ _ _ _ _) (by intro q hq; obtain rfl := List.mem_singleton.1 hq; exact Nat.lt_irrefl _)).mono (fun q _ h => by have := HR.out; omega)
          · exact (HX.out.kept (X8.out _ _ _ _ _ _ _ _) (by intro q hq; obtain rfl := List.mem_singleton.1 hq; exact Nat.lt_irrefl _)).mono (fun q _ h => by have := HR.out; omega)
        · rw [if_neg hfit] at hans
          obtain ⟨rfl, k5⟩ := hans
          have hone := HONE.out
          rw [if_pos (by omega)] at hone
          have HONE := Lib.hid hone
          have rO5 := rO4.kept k5 (by simp)
          have kk5 := kk4.trans k5
          have d0 : w5.cell? ⟨R, 0, none⟩ = some (.int .i64 0) := by simpa using rO5.cell 0
          have d1 : w5.cell? ⟨R, 1, none⟩ = some (.int .i64 0) := by simpa using rO5.cell 1
          have d2 : w5.cell? ⟨R, 2, none⟩ = some (.bool false) := by simpa using rO5.cell 2
          have d3 : w5.cell? ⟨R, 3, none⟩ = some (.int .i64 0) := by simpa using rO5.cell 3
          have d4 : w5.cell? ⟨R, 4, none⟩ = some (.int .i64 0) := by simpa using rO5.cell 4
          have d5 : w5.cell? ⟨R, 5, none⟩ = some (.int .i64 0) := by simpa using rO5.cell 5
          have d6 : w5.cell? ⟨R, 6, none⟩ = some (.slice none 0 0) := by simpa using rO5.cell 6
          have d7 : w5.cell? ⟨R, 7, none⟩ = some (.slice none 0 0) := by simpa using rO5.cell 7
          have f0 := rO5.free 0
          have f1 := rO5.free 1
          have f2 := rO5.free 2
          have f3 := rO5.free 3
          have f4 := rO5.free 4
          have f5 := rO5.free 5
          have f6 := rO5.free 6
          have f7 := rO5.free 7
          have K8 := Lib.hid (fun u0 u1 u2 u3 u4 u5 u6 u7 : Value => Kept.set8 (S := []) kk5 (g := R) (.inr (by rw [HR.out]; exact Nat.le_refl _)) u0 u1 u2 u3 u4 u5 u6 u7)
          have R8 := Lib.hid (fun u0 u1 u2 u3 u4 u5 u6 u7 : Value => Row.set8 rO5 u0 u1 u2 u3 u4 u5 u6 u7)
          clear hone hsl k5 rO5 kk5 rH4 rO4 hm4 kk4 hm hs hu hx
          go_wp2
          (try simp only [Exit.inBlock, Exit.then])
          refine bodyPost_ret (results_cell2 rfl rfl (Row.load (R8.out _ _ _ _ _ _ _ _) Try.underlying35 rfl rfl)) rfl ?_
          rw [HONE.out]
          exact OneAns.none rfl (K8.out _ _ _ _ _ _ _ _)
      · rw [if_pos he2] at hone
        have he2' : (e2 != 0) = true := by simpa using he2
        have HONE := Lib.hid hone
        have d0 : w4.cell? ⟨R, 0, none⟩ = some (.int .i64 0) := by simpa using rO4.cell 0
        have d1 : w4.cell? ⟨R, 1, none⟩ = some (.int .i64 0) := by simpa using rO4.cell 1
        have d2 : w4.cell? ⟨R, 2, none⟩ = some (.bool false) := by simpa using rO4.cell 2
        have d3 : w4.cell? ⟨R, 3, none⟩ = some (.int .i64 0) := by simpa using rO4.cell 3
        have d4 : w4.cell? ⟨R, 4, none⟩ = some (.int .i64 0) := by simpa using rO4.cell 4
        have d5 : w4.cell? ⟨R, 5, none⟩ = some (.int .i64 0) := by simpa using rO4.cell 5
        have d6 : w4.cell? ⟨R, 6, none⟩ = some (.slice none 0 0) := by simpa using rO4.cell 6
        have d7 : w4.cell? ⟨R, 7, none⟩ = some (.slice none 0 0) := by simpa using rO4.cell 7
        have f0 := rO4.free 0
        have f1 := rO4.free 1
        have f2 := rO4.free 2
        have f3 := rO4.free 3
        have f4 := rO4.free 4
        have f5 := rO4.free 5
        have f6 := rO4.free 6
        have f7 := rO4.free 7
        have K8 := Lib.hid (fun u0 u1 u2 u3 u4 u5 u6 u7 : Value => Kept.set8 (S := []) kk4 (g := R) (.inr (by rw [HR.out]; exact Nat.le_refl _)) u0 u1 u2 u3 u4 u5 u6 u7)
        have R8 := Lib.hid (fun u0 u1 u2 u3 u4 u5 u6 u7 : Value => Row.set8 rO4 u0 u1 u2 u3 u4 u5 u6 u7)
        clear hone hsl rH4 rO4 hm4 kk4 hm hs hu hx he2
        go_wp2
        (try simp only [Exit.inBlock, Exit.then])
        refine bodyPost_ret (results_cell2 rfl rfl (Row.load (R8.out _ _ _ _ _ _ _ _) Try.underlying35 rfl rfl)) rfl ?_
        rw [HONE.out]
        exact OneAns.none rfl (K8.out _ _ _ _ _ _ _ _)
    · have he1' : (e1 != 0) = true := by simpa using he1
      have hone := HONE.out
      rw [if_pos he1] at hone
      have HONE := Lib.hid hone
      have kH := (Kept.refl [] w2).alloc (.cells #[.bool ar, .int .i64 kd, .int .i64 ty, .int .i64 nn] 32)
      have rO2 := (rO.kept k2 (by simp)).kept kH (by simp)
      have kk3 := kk.trans kH
      have d0 : (w2.alloc (.cells #[.bool ar, .int .i64 kd, .int .i64 ty, .int .i64 nn] 32)).cell? ⟨R, 0, none⟩ = some (.int .i64 0) := by simpa using rO2.cell 0
      have d1 : (w2.alloc (.cells #[.bool ar, .int .i64 kd, .int .i64 ty, .int .i64 nn] 32)).cell? ⟨R, 1, none⟩ = some (.int .i64 0) := by simpa using rO2.cell 1
      have d2 : (w2.alloc (.cells #[.bool ar, .int .i64 kd, .int .i64 ty, .int .i64 nn] 32)).cell? ⟨R, 2, none⟩ = some (.bool false) := by simpa using rO2.cell 2
      have d3 : (w2.alloc (.cells #[.bool ar, .int .i64 kd, .int .i64 ty, .int .i64 nn] 32)).cell? ⟨R, 3, none⟩ = some (.int .i64 0) := by simpa using rO2.cell 3
      have d4 : (w2.alloc (.cells #[.bool ar, .int .i64 kd, .int .i64 ty, .int .i64 nn] 32)).cell? ⟨R, 4, none⟩ = some (.int .i64 0) := by simpa using rO2.cell 4
      have d5 : (w2.alloc (.cells #[.bool ar, .int .i64 kd, .int .i64 ty, .int .i64 nn] 32)).cell? ⟨R, 5, none⟩ = some (.int .i64 0) := by simpa using rO2.cell 5
      have d6 : (w2.alloc (.cells #[.bool ar, .int .i64 kd, .int .i64 ty, .int .i64 nn] 32)).cell? ⟨R, 6, none⟩ = some (.slice none 0 0) := by simpa using rO2.cell 6
      have d7 : (w2.alloc (.cells #[.bool ar, .int .i64 kd, .int .i64 ty, .int .i64 nn] 32)).cell? ⟨R, 7, none⟩ = some (.slice none 0 0) := by simpa using rO2.cell 7
      have f0 := rO2.free 0
      have f1 := rO2.free 1
      have f2 := rO2.free 2
      have f3 := rO2.free 3
      have f4 := rO2.free 4
      have f5 := rO2.free 5
      have f6 := rO2.free 6
      have f7 := rO2.free 7
      have K8 := Lib.hid (fun u0 u1 u2 u3 u4 u5 u6 u7 : Value => Kept.set8 (S := []) kk3 (g := R) (.inr (by rw [HR.out]; exact Nat.le_refl _)) u0 u1 u2 u3 u4 u5 u6 u7)
      have R8 := Lib.hid (fun u0 u1 u2 u3 u4 u5 u6 u7 : Value => Row.set8 rO2 u0 u1 u2 u3 u4 u5 u6 u7)
      clear hone rO hmO kO k2 kk hm2 hm hs hu hx he1 rO2 kk3 kH
      go_wp2
      (try simp only [Exit.inBlock, Exit.then])
      refine bodyPost_ret (results_cell2 rfl rfl (Row.load (R8.out _ _ _ _ _ _ _ _) Try.underlying35 rfl rfl)) rfl ?_
      rw [HONE.out]
      exact OneAns.none rfl (K8.out _ _ _ _ _ _ _ _)
  · have hz : hasB xs.length (wrap64 (at_ - 1)) = false := by
      unfold wrap64
      simp [hasB]
      omega
    have hone : oneB xs (l.map Ty.ks) at_ = (Ob.zero, 8) := by unfold oneB; rw [if_neg hin]
    have HONE := Lib.hid hone
    go_enter Try.func9, Try.ntmps9
    go_wp2_with fail
    generalize wrap64 (at_ - 1) = z at hz ⊢
    refine (read_any b g xs z _ hmO).mono ?_
    rintro e w2 ⟨rfl, rfl⟩
    rw [hz]
    simp only [show errB false = 8 from rfl]
    clear hone hz hin hu hx hs
    go_wp2
    (try simp only [Exit.inBlock, Exit.then])
    refine bodyPost_ret (results_cell2 rfl rfl (Row.load rO Try.underlying35 rfl rfl)) rfl ?_
    rw [HONE.out]
    exact OneAns.none rfl kO
end Go.Proofs.Ythnoohghjcfghaa

/- Package kraalref02: the document's answers on rows of marks. -/
import Derived.Test.YtenhelbmcapfkaaSlG
import Derived.Test.YtenhelbmcapfkaaBitsFind
namespace Go.Proofs.Ytenhelbmcapfkaa
open Go.RowKit

theorem bool_oneCell {zs : List Bool} : ∀ u ∈ zs.map Value.bool, u.oneCell' = true := by
  intro u hu
  obtain ⟨z, _, rfl⟩ := List.mem_map.1 hu
  rfl
theorem SlG.cellMk {w : World} {a : Option Addr} {xs : List Bool} (h : SlG Value.bool w a xs) {j : Nat} (hj : j < xs.length) : ∃ b off, a = some ⟨b, off, none⟩ ∧ w.cell? ⟨b, off + j, none⟩ = some (.bool (mk xs j)) := by
  obtain ⟨b, off, e, hc⟩ := h.cell hj
  exact ⟨b, off, e, by rw [hc]; simp [mk, hj]⟩

set_option maxHeartbeats 1000000 in
theorem refFits02 (A : Option Addr) (n cap : Nat) (a c : Int) (w : World) (hn : n ≤ 16384) :
    Calls Try.prog 55 #[.slice A n cap, .agg #[.int .i64 a, .int .i64 c]] w (BitsHoldsPost n a c w) := by
  by_cases h0 : a < 0
  · go_enter Try.func55, Try.ntmps55
    go_wp2
    go_ret
    exact ⟨by simp [holdsB]; omega, (Kept.refl [] w).alloc _⟩
  · have h0' : decide (a < 0) = false := by simpa using h0
    by_cases h1 : c < 0
    · go_enter Try.func55, Try.ntmps55
      go_wp2
      go_ret
      exact ⟨by simp [holdsB]; omega, (Kept.refl [] w).alloc _⟩
    · have h1' : decide (c < 0) = false := by simpa using h1
      by_cases h2 : (n : Int) < a
      · go_enter Try.func55, Try.ntmps55
        go_wp2
        go_ret
        exact ⟨by simp [holdsB]; omega, (Kept.refl [] w).alloc _⟩
      · have h2' : decide ((n : Int) < a) = false := by simpa using h2
        by_cases h3 : (n : Int) < c
        · go_enter Try.func55, Try.ntmps55
          go_wp2
          go_ret
          exact ⟨by simp [holdsB]; omega, (Kept.refl [] w).alloc _⟩
        · have h3' : decide ((n : Int) < c) = false := by simpa using h3
          go_enter Try.func55, Try.ntmps55
          go_wp2
          go_ret
          have hd : decide (a + c ≤ (n : Int)) = holdsB n a c := by unfold holdsB; exact decide_eq_decide.2 (by omega)
          exact ⟨by rw [← hd]; rfl, (Kept.refl [] w).alloc _⟩

set_option maxHeartbeats 1000000 in
theorem refMark02 (A : Option Addr) (n cap : Nat) (xs : List Bool) (a c : Int) (v : Bool) (w : World) (hs : SlG Value.bool w A xs) (hn : xs.length = n) (hx : n ≤ 16384) :
    Calls Try.prog 57 #[.slice A n cap, .agg #[.int .i64 a, .int .i64 c], .bool v] w (RefPostG Value.bool A n (markB xs a c v) (errB (holdsB n a c)) w) := by
  subst hn
  obtain ⟨i0, hi, hz0, hz1, hz2⟩ := info_parts Try.info4
  have rR := Row.new w 63 [.int .i64 a, .int .i64 c]
  have kW := (Kept.refl [] w).alloc (.cells #[.int .i64 a, .int .i64 c] 63)
  go_enter Try.func57, Try.ntmps57
  go_wp2_with fail
  generalize w.alloc (.cells #[.int .i64 a, .int .i64 c] 63) = W at rR kW ⊢
  refine (refFits02 A xs.length cap a c W hx).mono ?_
  rintro e W1 ⟨rfl, k1⟩
  have rR1 := rR.kept k1 (by simp)
  have kW1 := kW.trans k1
  cases hh : holdsB xs.length a c with
  | false =>
    have hw : markB xs a c v = xs := by simp [markB, hh]
    have HW := Lib.hid hw
    have HH := Lib.hid hh
    clear hw hh
    go_wp2
    go_ret2
    exact ⟨A, cap, by rw [HH.out]; rfl, by rw [HW.out], by rw [HW.out]; exact hs.kept kW1, .inl rfl, kW1⟩
  | true =>
    obtain ⟨d0, d1, d2⟩ := (holdsB_iff _ _ _).1 hh
    obtain ⟨B, rfl⟩ := Int.eq_ofNat_of_zero_le d0
    obtain ⟨N, rfl⟩ := Int.eq_ofNat_of_zero_le d1
    have hfl : markB xs B N v = setFrom xs B v N := by simp [markB, hh]
    have HF := Lib.hid hfl
    have HH := Lib.hid hh
    clear hfl hh
    have own0 := own_empty W1 4 1 W1.heap.size (Nat.le_refl _)
    have k0 := (Kept.refl [] W1).alloc (.cells #[] 4)
    have s0 := ((hs.kept kW1).kept k0).toV
    go_wp2_with (at_builtin; refine wpList_append_on _ rfl _ _ 29 rfl W1.heap.size 4 i0 (.bool false) 1 1 Try.underlying29 hi hz0 hz1 hz2 rfl (by omega) W1.heap.size 0 0 [] rfl own0 A xs.length cap _ rfl s0 bool_oneCell (by unfold maxLen; omega) (by omega) (by simp) ?_; intro g' cap' w1 hown hk _; rw [Nat.zero_add, List.nil_append] at hown; rw [Nat.zero_add])
    have kw1 : Kept [] w w1 := (kW1.trans k0).chain hk (by simp) (by have := kW1.size; simp; omega)
    have hge := own_ge hown
    have hkz := kW1.size
    have rR2 := (rR1.kept k0 (by simp)).kept hk (by have := rR1.lt; simp; omega)
    have hRl := rR1.lt
    clear own0 s0 hk k0 rR1 rR k1 kW
    go_loopw [9] (fun i wr => ∃ j : Nat, j ≤ N ∧ i = .int .i64 j ∧ wr.ownsRow W1.heap.size 4 1 (.slice (some ⟨g', 0, none⟩) xs.length cap') xs.length ((setFrom xs B v j).map Value.bool) ∧ Kept [g'] w1 wr) (fun i _ => N - (intOf i).toNat)
    case atStart => exact ⟨0, Nat.zero_le _, rfl, hown, Kept.refl _ _⟩
    case round =>
      obtain ⟨j, hj, rfl, hor, hkr⟩ := hrel
      have cR0 : wr.cell? ⟨w.heap.size, 0, none⟩ = some (.int .i64 B) := by simpa using (rR2.kept hkr (by simp; omega)).cell 0
      have cR1 : wr.cell? ⟨w.heap.size, 1, none⟩ = some (.int .i64 N) := by simpa using (rR2.kept hkr (by simp; omega)).cell 1
      by_cases hlt : j < N
      · have hcell := hor.cellAt (B + j) (by omega)
        rw [List.getElem?_map, List.getElem?_eq_getElem (by rw [setFrom_length]; omega), Option.map_some] at hcell
        have hfr := hor.frozenAt (B + j)
        have hst := (hor.stored (B + j) (.bool v)).1
        rw [← List.map_set] at hst
        have HST := Lib.hid hst
        clear hst
        have t1 : ((B : Int) + j).toNat = B + j := by omega
        go_wp2
        go_roundw
        case rel => exact ⟨j + 1, by omega, by go_num, HST.out, hkr.set (.inl (by simp)) _⟩
        case measure => simp [intOf]; omega
      · obtain rfl : j = N := by omega
        go_wp2
        go_ret2
        refine ⟨some ⟨g', 0, none⟩, cap', by rw [HH.out]; rfl, by rw [HF.out, setFrom_length], by rw [HF.out]; exact SlG.of_own hor, .inr ⟨g', rfl, by omega⟩, ?_⟩
        exact kw1.chain hkr (by simp) (by simp; omega)

set_option maxHeartbeats 1000000 in
theorem refWhole02 (A : Option Addr) (n cap : Nat) (xs : List Bool) (a c : Int) (v : Bool) (w : World) (hs : SlG Value.bool w A xs) (hn : xs.length = n) (hx : n ≤ 16384) :
    Calls Try.prog 56 #[.slice A n cap, .agg #[.int .i64 a, .int .i64 c], .bool v] w (WholePost xs a c v w) := by
  subst hn
  have rR := Row.new w 63 [.int .i64 a, .int .i64 c]
  have kW := (Kept.refl [] w).alloc (.cells #[.int .i64 a, .int .i64 c] 63)
  go_enter Try.func56, Try.ntmps56
  go_wp2_with fail
  generalize w.alloc (.cells #[.int .i64 a, .int .i64 c] 63) = W at rR kW ⊢
  refine (refFits02 A xs.length cap a c W hx).mono ?_
  rintro e W1 ⟨rfl, k1⟩
  have rR1 := rR.kept k1 (by simp)
  have kW1 := kW.trans k1
  have hs1 := hs.kept kW1
  have cR0 : W1.cell? ⟨w.heap.size, 0, none⟩ = some (.int .i64 a) := by simpa using rR1.cell 0
  have cR1 : W1.cell? ⟨w.heap.size, 1, none⟩ = some (.int .i64 c) := by simpa using rR1.cell 1
  clear rR kW k1
  cases hh : holdsB xs.length a c with
  | false =>
    have H := Lib.hid hh
    clear hh
    go_wp2
    go_ret
    exact ⟨by rw [wholeB, H.out]; rfl, kW1⟩
  | true =>
    obtain ⟨d0, d1, d2⟩ := (holdsB_iff _ _ _).1 hh
    obtain ⟨B, rfl⟩ := Int.eq_ofNat_of_zero_le d0
    obtain ⟨N, rfl⟩ := Int.eq_ofNat_of_zero_le d1
    have H := Lib.hid hh
    clear hh
    go_wp2_with fail
    go_loop [7] (fun i => ∃ j : Nat, j ≤ N ∧ i = .int .i64 j ∧ Hid (∀ i, i < j → mk xs (B + i) = v)) (fun i => N - (intOf i).toNat)
    case atStart => exact ⟨0, Nat.zero_le _, rfl, fun i hi => by omega⟩
    case round =>
      obtain ⟨j, hj, rfl, HA⟩ := hrel
      by_cases hlt : j < N
      · obtain ⟨b, off, rfl, cG⟩ := hs1.cellMk (j := B + j) (by omega)
        have t1 : ((B : Int) + j).toNat = B + j := by omega
        by_cases hv : mk xs (B + j) = v
        · rw [hv] at cG
          have HV := Lib.hid hv
          clear hv
          go_wp2
          go_round
          case rel => exact ⟨j + 1, by omega, by go_num, fun i hi => by by_cases e : i = j; subst e; exact HV.out; exact HA.out i (by omega)⟩
          case measure => simp [intOf]; omega
        · have hv2 : mk xs (B + j) = !v := by cases v <;> simpa using hv
          have HV := Lib.hid hv
          rw [hv2] at cG
          clear hv hv2
          cases v
          all_goals
            simp only [Bool.not_true, Bool.not_false] at cG
            go_wp2
            go_ret
            exact ⟨by rw [wholeB_false hlt HV.out]; rfl, kW1⟩
      · obtain rfl : j = N := by omega
        go_wp2
        go_ret
        exact ⟨by rw [wholeB_true H.out HA.out]; rfl, kW1⟩

def OptPost (o : Option Nat) (w : World) (e : Ending) (w' : World) : Prop := e = .returned (optV o) ∧ Kept [] w w'

set_option maxHeartbeats 1000000 in
theorem refFind02 (A : Option Addr) (n cap : Nat) (xs : List Bool) (c : Int) (w : World) (hs : SlG Value.bool w A xs) (hn : xs.length = n) (hx : n ≤ 16384) :
    Calls Try.prog 58 #[.slice A n cap, .int .i64 c] w (OptPost (findB xs c) w) := by
  subst hn
  by_cases h1 : c < 1
  · have HF := Lib.hid (findB_low (xs := xs) h1)
    go_enter Try.func58, Try.ntmps58
    go_wp2
    go_ret2
    exact ⟨by rw [HF.out]; rfl, Kept.refl _ _⟩
  · have h1' : decide (c < 1) = false := by simpa using h1
    go_enter Try.func58, Try.ntmps58
    go_wp2_with fail
    go_loopw [6] (fun i wr => ∃ j : Nat, j ≤ xs.length ∧ i = .int .i64 j ∧ Hid (∀ i : Nat, i < j → wholeB xs i c false = false) ∧ Kept [] w wr) (fun i _ => xs.length - (intOf i).toNat)
    case atStart => exact ⟨0, Nat.zero_le _, rfl, fun i hi => by omega, Kept.refl _ _⟩
    case round =>
      obtain ⟨j, hj, rfl, HA, hkr⟩ := hrel
      by_cases hlt : j < xs.length
      · go_wp2_with fail
        refine (refWhole02 A xs.length cap xs j c false wr (hs.kept hkr) rfl hx).mono ?_
        rintro e w2 ⟨rfl, kw2⟩
        cases hv : wholeB xs j c false with
        | true =>
          have hres : findB xs c = some j := (findB_some (by omega)).2 ⟨hlt, hv, HA.out⟩
          have HR := Lib.hid hres
          clear hres hv
          go_wp2
          go_ret2
          exact ⟨by rw [HR.out]; rfl, hkr.trans kw2⟩
        | false =>
          have HV := Lib.hid hv
          clear hv
          go_wp2
          go_roundw
          case rel => exact ⟨j + 1, by omega, by go_num, (fun i hi => by by_cases e : i = j; subst e; exact HV.out; exact HA.out i (by omega)), hkr.trans kw2⟩
          case measure => simp [intOf]; omega
      · obtain rfl : j = xs.length := by omega
        have HR := Lib.hid ((findB_none (xs := xs) (n := c) (by omega)).2 HA.out)
        go_wp2
        go_ret2
        exact ⟨by rw [HR.out]; rfl, hkr⟩

set_option maxHeartbeats 1000000 in
theorem refCount02 (A : Option Addr) (n cap : Nat) (xs : List Bool) (w : World) (hs : SlG Value.bool w A xs) (hn : xs.length = n) (hx : n ≤ 16384) :
    Calls Try.prog 17 #[.slice A n cap] w fun e w' => e = .returned (.int .i64 (countB xs : Nat)) ∧ w = w' := by
  subst hn
  go_enter Try.func17, Try.ntmps17
  go_wp2
  go_loop [3, 4] (fun n i => ∃ j k : Nat, j ≤ xs.length ∧ k ≤ j ∧ Hid (k = countB (xs.take j)) ∧ n = .int .i64 k ∧ i = .int .i64 j) (fun _ i => xs.length - (intOf i).toNat)
  case atStart => exact ⟨0, 0, Nat.zero_le _, Nat.le_refl _, by simp [Hid, countB], rfl, rfl⟩
  case round =>
    obtain ⟨j, k, hj, hkj, HK, rfl, rfl⟩ := hrel
    by_cases hlt : j < xs.length
    · obtain ⟨b, off, rfl, cG⟩ := hs.cellMk hlt
      have HS := Lib.hid (countB_take_succ xs j hlt)
      cases hv : mk xs j with
      | true =>
        rw [hv] at cG
        have HV := Lib.hid hv
        clear hv
        go_wp2
        go_round
        case rel => exact ⟨j + 1, k + 1, by omega, by omega, by rw [Hid, HS.out, HV.out, HK.out]; rfl, by go_num, by go_num⟩
        case measure => simp [intOf]; omega
      | false =>
        rw [hv] at cG
        have HV := Lib.hid hv
        clear hv
        go_wp2
        go_round
        case rel => exact ⟨j + 1, k, by omega, by omega, by rw [Hid, HS.out, HV.out, HK.out]; rfl, rfl, by go_num⟩
        case measure => simp [intOf]; omega
    · obtain rfl : j = xs.length := by omega
      go_wp2
      go_ret
      exact ⟨by rw [HK.out, List.take_length]; rfl, rfl⟩

set_option maxHeartbeats 1000000 in
theorem refNew02_no (n : Int) (w : World) (h : n < 0 ∨ 16384 < n) :
    Calls Try.prog 32 #[.int .i64 n] w (RefPostG Value.bool none 0 [] 1 w) := by
  rcases h with h | h
  · go_enter Try.func32, Try.ntmps32
    go_wp2
    go_ret2
    exact ⟨some ⟨w.heap.size, 0, none⟩, 0, rfl, rfl, .inl rfl, .inr ⟨_, rfl, Nat.le_refl _⟩, (Kept.refl [] w).alloc _⟩
  · have h' : decide (n < 0) = false := by simp; omega
    go_enter Try.func32, Try.ntmps32
    go_wp2
    go_ret2
    exact ⟨some ⟨w.heap.size, 0, none⟩, 0, rfl, rfl, .inl rfl, .inr ⟨_, rfl, Nat.le_refl _⟩, (Kept.refl [] w).alloc _⟩

set_option maxHeartbeats 1000000 in
theorem refNew02_yes (n : Nat) (w : World) (h : n ≤ 16384) :
    Calls Try.prog 32 #[.int .i64 n] w (RefPostG Value.bool none n (List.replicate n false) 0 w) := by
  obtain ⟨i0, hi, hz0, hz1, hz2⟩ := info_parts Try.info4
  have own0 := own_empty w 4 1 w.heap.size (Nat.le_refl _)
  have k0 := (Kept.refl [] w).alloc (.cells #[] 4)
  have h' : decide ((n : Int) < 0) = false := by simp
  have h2 : decide ((16384 : Int) < n) = false := by simp; omega
  go_enter Try.func32, Try.ntmps32
  go_wp2_with fail
  generalize w.alloc (.cells #[] 4) = W0 at own0 k0 ⊢
  go_loopw [4, 5] (fun o i wr => ∃ j g cap : Nat, j ≤ n ∧ o = .slice (some ⟨g, 0, none⟩) j cap ∧ i = .int .i64 j ∧ wr.ownsRow w.heap.size 4 1 (.slice (some ⟨g, 0, none⟩) j cap) j ((List.replicate j false).map Value.bool) ∧ Kept [] w wr) (fun _ i _ => n - (intOf i).toNat)
  case atStart => exact ⟨0, w.heap.size, 0, Nat.zero_le _, rfl, rfl, by simpa using own0, k0⟩
  case round =>
    obtain ⟨j, g, cap, hj, rfl, rfl, hor, hkr⟩ := hrel
    have hge := own_ge hor
    by_cases hlt : j < n
    · have kA := (Kept.refl [] wr).alloc (.cells #[.bool false] 4)
      have ownA := own_kept hor kA (by simp)
      have s1 := (SlG.of_row (f := Value.bool) (xs := [false]) (Row.new wr 4 [.bool false])).toV
      have hrs := hkr.size
      have HJ := Lib.hid hlt
      go_wp2_with (at_builtin; refine wpList_append_on _ rfl _ _ 29 rfl w.heap.size 4 i0 (.bool false) 1 1 Try.underlying29 hi hz0 hz1 hz2 rfl (by omega) g j cap _ rfl ownA (some ⟨wr.heap.size, 0, none⟩) 1 1 _ rfl s1 bool_oneCell (by unfold maxLen; omega) (by omega) (by simp; omega) ?_; intro g' cap' w1 hown hk _)
      go_roundw
      case rel =>
        refine ⟨j + 1, g', cap', by omega, rfl, by go_num, ?_, ?_⟩
        · rw [← List.map_append, show List.replicate j false ++ [false] = List.replicate (j + 1) false from by simp [List.replicate_succ']] at hown
          exact hown
        · exact (hkr.trans kA).chain hk (by simp) (by simp; omega)
      case measure => simp [intOf]; omega
    · obtain rfl : j = n := by omega
      go_wp2
      go_ret2
      exact ⟨some ⟨g, 0, none⟩, cap, rfl, List.length_replicate, SlG.of_own hor, .inr ⟨g, rfl, hge⟩, hkr⟩
end Go.Proofs.Ytenhelbmcapfkaa

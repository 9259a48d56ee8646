/- Package desc: List; kraalref07: May, List. -/
import Derived.Test.YtefbiofefdcbeaaDoorDesc
namespace Go.Proofs.YtefbiofefdcbeaaDoor
open Go.RowKit

set_option maxHeartbeats 1000000 in
theorem refMay07_any (A : Option Addr) (cap : Nat) (xs : List Int) (w : World) (hs : Sl w .i64 A xs) (hx : xs.length ≤ 100) :
    Calls Tryd.prog 8 #[.agg #[.slice A xs.length cap]] w fun e w' => e = .returned (.bool (mayB xs)) ∧ Kept [] w w' := by
  have rB := Row.new w 27 [.slice A xs.length cap]
  have kW := (Kept.refl [] w).alloc (.cells #[.slice A xs.length cap] 27)
  go_enter Tryd.func8, Tryd.ntmps8
  go_wp2_with fail
  generalize w.alloc (.cells #[.slice A xs.length cap] 27) = W at rB kW ⊢
  have hb : W.cell? ⟨w.heap.size, 0, none⟩ = some (.slice A xs.length cap) := by simpa using rB.cell 0
  go_loopw [3] (fun i wr => ∃ j : Nat, j ≤ xs.length ∧ i = .int .i64 j ∧ W = wr ∧ Hid ((xs.take j).all kindB = true)) (fun i _ => xs.length - (intOf i).toNat)
  case atStart => exact ⟨0, Nat.zero_le _, rfl, rfl, rfl⟩
  case round =>
    obtain ⟨j, hj, rfl, rfl, HA⟩ := hrel
    by_cases hlt : j < xs.length
    · obtain ⟨b, off, rfl, cA⟩ := (hs.kept kW).cell hlt
      obtain ⟨y, hy⟩ : ∃ y, xs[j]?.getD 0 = y := ⟨_, rfl⟩
      have HY := Lib.hid hy
      rw [hy] at cA
      clear hy
      by_cases hk : 0 ≤ y ∧ y < 4
      · have HA2 := Lib.hid (all_step (p := kindB) HA.out hlt (by rw [HY.out]; simp [kindB]; exact hk))
        have h0 : decide (y < 0) = false := by simp; omega
        have h3 : decide (3 < y) = false := by simp; omega
        clear hk
        go_wp2
        go_roundw
        case rel => exact ⟨j + 1, by omega, by go_num, trivial, HA2⟩
        case measure => simp [intOf]; omega
      · have HA2 := Lib.hid (show mayB xs = false by unfold mayB; rw [all_not (p := kindB) hlt (by rw [HY.out]; simp [kindB]; omega)]; simp)
        by_cases h0 : y < 0
        · have h0' : decide (y < 0) = true := by simpa using h0
          clear hk
          go_wp2
          go_ret
          exact ⟨by rw [HA2.out]; rfl, kW⟩
        · have h0' : decide (y < 0) = false := by simpa using h0
          have h3 : decide (3 < y) = true := by simp; omega
          clear hk
          go_wp2
          go_ret
          exact ⟨by rw [HA2.out]; rfl, kW⟩
    · obtain rfl : j = xs.length := by omega
      have HS := Lib.hid (show mayB xs = decide (1 ≤ xs.length ∧ xs.length ≤ 60) by
        have := HA.out
        rw [List.take_length] at this
        unfold mayB; rw [this]; simp)
      by_cases h1 : 0 < xs.length
      · have h1' : decide ((0 : Int) < (xs.length : Int)) = true := by simp; omega
        by_cases h2 : xs.length < 61
        · have h2' : decide ((xs.length : Int) < 61) = true := by simp; omega
          go_wp2
          go_ret
          exact ⟨by rw [HS.out]; simp; omega, kW⟩
        · have h2' : decide ((xs.length : Int) < 61) = false := by simp; omega
          go_wp2
          go_ret
          exact ⟨by rw [HS.out]; simp; omega, kW⟩
      · have h1' : decide ((0 : Int) < (xs.length : Int)) = false := decide_eq_false (by omega)
        have HS2 := Lib.hid (show mayB xs = false by rw [HS.out, decide_eq_false_iff_not]; omega)
        go_wp2
        go_ret
        exact ⟨by rw [HS2.out]; rfl, kW⟩

theorem allT_step {l : List Ty} {j : Nat} {t : Ty} (h : ((l.map Ty.ks).take j).all mayB = true) (ht : l[j]? = some t) (hp : mayB t.ks = true) : ((l.map Ty.ks).take (j + 1)).all mayB = true := by
  rw [List.take_add_one, List.getElem?_map, ht, List.all_append, h]
  simpa using hp
theorem allT_not {l : List Ty} {j : Nat} {t : Ty} (ht : l[j]? = some t) (hp : mayB t.ks = false) : listB (l.map Ty.ks) = false := by
  have : (l.map Ty.ks).all mayB = false := List.all_eq_false.2 ⟨t.ks, List.mem_map.2 ⟨t, List.mem_of_getElem? ht, rfl⟩, by simp [hp]⟩
  unfold listB
  rw [this]; simp
theorem allT_yes {l : List Ty} (h : ((l.map Ty.ks).take l.length).all mayB = true) : listB (l.map Ty.ks) = decide (l.length ≤ 32) := by
  rw [List.take_of_length_le (by simp)] at h
  unfold listB
  rw [h, List.length_map]; simp

set_option maxHeartbeats 1000000 in
theorem descList_any (A : Option Addr) (cap : Nat) (l : List Ty) (w : World) (hs : SlD w A l) (hl : l.length ≤ 60) (hx : ∀ t ∈ l, t.ks.length ≤ 100) :
    Calls Tryd.prog 9 #[.slice A l.length cap] w fun e w' => e = .returned (.bool (listB (l.map Ty.ks))) ∧ Kept [] w w' := by
  by_cases h32 : 32 < l.length
  · have HS := Lib.hid (show listB (l.map Ty.ks) = false by simp [listB]; omega)
    have h32' : decide ((32 : Int) < (l.length : Int)) = true := by simp; omega
    go_enter Tryd.func9, Tryd.ntmps9
    go_wp2
    go_ret
    exact ⟨by rw [HS.out]; rfl, Kept.refl _ _⟩
  · have h32' : decide ((32 : Int) < (l.length : Int)) = false := by simp; omega
    go_enter Tryd.func9, Tryd.ntmps9
    go_wp2_with fail
    go_loopw [10] (fun i wr => ∃ j : Nat, j ≤ l.length ∧ i = .int .i64 j ∧ Kept [] w wr ∧ Hid (((l.map Ty.ks).take j).all mayB = true)) (fun i _ => l.length - (intOf i).toNat)
    case atStart => exact ⟨0, Nat.zero_le _, rfl, Kept.refl _ _, rfl⟩
    case round =>
      obtain ⟨j, hj, rfl, hkr, HA⟩ := hrel
      by_cases hlt : j < l.length
      · obtain ⟨b, off, t, rfl, ht, hc, hsl⟩ := (hs.kept hkr).cell hlt
        have kB := hkr.alloc (.cells #[.slice t.a t.ks.length t.cap] 27)
        have hslB := hsl.kept ((Kept.refl [] wr).alloc (.cells #[.slice t.a t.ks.length t.cap] 27))
        have htl := hx t (List.mem_of_getElem? ht)
        go_wp2_with fail
        refine (descMay_any t.a t.cap t.ks _ hslB htl).mono ?_
        rintro e w2 ⟨rfl, kw2⟩
        have k2 := kB.trans kw2
        cases hm : mayB t.ks with
        | true =>
          have HA2 := Lib.hid (allT_step HA.out ht hm)
          go_wp2
          go_roundw
          case rel => exact ⟨j + 1, by omega, by go_num, k2, HA2⟩
          case measure => simp [intOf]; omega
        | false =>
          have HA2 := Lib.hid (allT_not ht hm)
          go_wp2
          go_ret
          exact ⟨by rw [HA2.out]; rfl, k2⟩
      · obtain rfl : j = l.length := by omega
        have HS := Lib.hid (allT_yes HA.out)
        go_wp2
        go_ret
        exact ⟨by rw [HS.out]; simp; omega, hkr⟩

set_option maxHeartbeats 1000000 in
theorem refList07_any (A : Option Addr) (cap : Nat) (l : List Ty) (w : World) (hs : SlD w A l) (hl : l.length ≤ 60) (hx : ∀ t ∈ l, t.ks.length ≤ 100) :
    Calls Tryd.prog 10 #[.slice A l.length cap] w fun e w' => e = .returned (.bool (listB (l.map Ty.ks))) ∧ Kept [] w w' := by
  go_enter Tryd.func10, Tryd.ntmps10
  go_wp2_with fail
  go_loopw [3] (fun i wr => ∃ j : Nat, j ≤ l.length ∧ i = .int .i64 j ∧ Kept [] w wr ∧ Hid (((l.map Ty.ks).take j).all mayB = true)) (fun i _ => l.length - (intOf i).toNat)
  case atStart => exact ⟨0, Nat.zero_le _, rfl, Kept.refl _ _, rfl⟩
  case round =>
    obtain ⟨j, hj, rfl, hkr, HA⟩ := hrel
    by_cases hlt : j < l.length
    · obtain ⟨b, off, t, rfl, ht, hc, hsl⟩ := (hs.kept hkr).cell hlt
      have htl := hx t (List.mem_of_getElem? ht)
      go_wp2_with fail
      refine (refMay07_any t.a t.cap t.ks _ hsl htl).mono ?_
      rintro e w2 ⟨rfl, kw2⟩
      have k2 := hkr.trans kw2
      cases hm : mayB t.ks with
      | true =>
        have HA2 := Lib.hid (allT_step HA.out ht hm)
        go_wp2
        go_roundw
        case rel => exact ⟨j + 1, by omega, by go_num, k2, HA2⟩
        case measure => simp [intOf]; omega
      | false =>
        have HA2 := Lib.hid (allT_not ht hm)
        go_wp2
        go_ret
        exact ⟨by rw [HA2.out]; rfl, k2⟩
    · obtain rfl : j = l.length := by omega
      have HS := Lib.hid (allT_yes HA.out)
      by_cases h33 : l.length < 33
      · have h33' : decide ((l.length : Int) < 33) = true := by simp; omega
        go_wp2
        go_ret
        exact ⟨by rw [HS.out]; simp; omega, hkr⟩
      · have h33' : decide ((l.length : Int) < 33) = false := by simp; omega
        go_wp2
        go_ret
        exact ⟨by rw [HS.out]; simp; omega, hkr⟩
end Go.Proofs.YtefbiofefdcbeaaDoor

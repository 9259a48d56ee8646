/- The law DescMay: its walk. -/
import Derived.Test.YtefbiofefdcbeaaDoorDescFixed
import Derived.Test.YtefbiofefdcbeaaDoorDescGreat
import Derived.Test.YtefbiofefdcbeaaDoorDescLists
import Derived.Test.YtefbiofefdcbeaaDoorDescTable
import Derived.Deep.RegionHeld3
namespace Go.Proofs.YtefbiofefdcbeaaDoor
open Go.RowKit

theorem held_one {wr w' : World} {B : Nat} {t : TypeId} {v : Value} (hr : Row wr B t [v]) (hc : Kept [] wr w') : Kept [] wr w' ∧ w'.cell? ⟨B, 0, none⟩ = some v :=
  ⟨hc, by simpa using (hr.kept hc (by simp)).cell 0⟩

set_option maxRecDepth 100000 in
set_option maxHeartbeats 2000000 in
theorem descMay_great (A : Option Addr) (cap : Nat) (l : List Ty) (kind : Int) (w : World) (hs : SlD w A l) (hx : l.length ≤ 9223372036854775807) (hg : greatB (l.map Ty.ks) = true) :
    Calls Tryd.prog 3 #[.slice A l.length cap, .int .i64 kind] w (FixedPost w) := by
  go_enter Tryd.func3, Tryd.ntmps3
  go_wp2_with fail
  refine (great07_any A cap l _ hs hx).mono ?_
  rintro e w2 ⟨rfl, kw2⟩
  rw [hg]
  go_wp2_with fail
  refine (fixed07_any _).mono ?_
  rintro e w3 ⟨rfl, kw3⟩
  go_wp2
  go_ret
  exact ⟨rfl, kw2.trans kw3⟩

set_option maxRecDepth 100000 in
set_option maxHeartbeats 8000000 in
theorem descMay_law (A : Option Addr) (cap : Nat) (l : List Ty) (kind : Int) (w : World) (hT : Tab w) (hs : SlD w A l) (hl : l.length ≤ 60) (hx : ∀ t ∈ l, t.ks.length ≤ 100) (hg : greatB (l.map Ty.ks) = false) :
    Calls Tryd.prog 3 #[.slice A l.length cap, .int .i64 kind] w (FixedPost w) := by
  go_enter Tryd.func3, Tryd.ntmps3
  go_wp2_with fail
  refine (great07_any A cap l w hs (by omega)).mono ?_
  rintro e w1 ⟨rfl, kw1⟩
  rw [hg]
  clear hg
  go_wp2_with fail
  go_loopw [12] (fun i wr => ∃ (j : Nat), j ≤ l.length ∧ i = .int .i64 j ∧ Kept [] w wr) (fun i _ => l.length - (intOf i).toNat)
  case atStart => exact ⟨0, Nat.zero_le _, rfl, kw1⟩
  case round =>
    obtain ⟨j, hj, rfl, hkr⟩ := hrel
    clear kw1
    by_cases hlt : j < l.length
    · obtain ⟨b, off, t, rfl, ht, hc, hsl⟩ := (hs.kept hkr).cell hlt
      have htl := hx t (List.mem_of_getElem? ht)
      have rB := Row.new wr 27 [.slice t.a t.ks.length t.cap]
      have kB := (Kept.refl [] wr).alloc (.cells #[.slice t.a t.ks.length t.cap] 27)
      have hslB := hsl.kept kB
      obtain ⟨ta, tc, tk⟩ := t
      simp only at htl rB kB hslB hc ⊢
      go_wp2_with fail
      generalize wr.alloc (.cells #[.slice ta tk.length tc] 27) = wa at rB kB hslB ⊢
      have kk0 : Kept [] wa wa.drew := (Kept.refl _ _).drew
      go_region_held3 (fun w' => Kept [] wa w' ∧ w'.cell? ⟨wr.heap.size, 0, none⟩ = some (.slice ta tk.length tc)) (exact held_one rB (by assumption))
        (first
          | (go_at_call 7; refine (descMay_any ta tc tk _ ?_ htl).mono ?_; (exact hslB.kept (by assumption)); rintro e w' ⟨rfl, kk⟩; have kq : Kept [] wa w' := Kept.trans (by assumption) kk)
          | (go_at_call 8; refine (refMay07_any ta tc tk _ ?_ htl).mono ?_; (exact hslB.kept (by assumption)); rintro e w' ⟨rfl, kk⟩; have kq : Kept [] wa w' := Kept.trans (by assumption) kk))
      go_wp2
      go_roundw
      case rel => exact ⟨j + 1, by omega, by go_num, (hkr.trans kB).trans (by assumption)⟩
      case measure => simp [intOf]; omega
    · have hsr := hs.kept hkr
      go_wp2_with fail
      refine (fixed07_any wr).mono ?_
      rintro e w5 ⟨rfl, kw5⟩
      have hs5 := hsr.kept kw5
      go_wp2_with fail
      refine (descList_any A cap l w5 hs5 hl hx).mono ?_
      rintro e w6 ⟨rfl, kw6⟩
      have hs6 := hs5.kept kw6
      go_wp2_with fail
      refine (refList07_any A cap l w6 hs6 hl hx).mono ?_
      rintro e w7 ⟨rfl, kw7⟩
      have k7 := ((hkr.trans kw5).trans kw6).trans kw7
      have hT7 := hT.kept k7
      clear hkr kw5 kw6 kw7 hs5 hs6 hsr
      generalize listB (l.map Ty.ks) = bl
      go_wp2_with fail
      refine (descKind_any kind w7).mono ?_
      rintro e w8 ⟨rfl, rfl⟩
      have hcase : (decide (0 ≤ kind) = false ∧ decide (1 ≤ kind) = false ∧ Hid (kindB kind = false) ∧ Hid (pointerB kind = false)) ∨
          (decide (0 ≤ kind) = true ∧ decide (kind ≤ 3) = true ∧ decide (1 ≤ kind) = false ∧ Hid (kindB kind = true) ∧ Hid (pointerB kind = false)) ∨
          (decide (0 ≤ kind) = true ∧ decide (kind ≤ 3) = true ∧ decide (1 ≤ kind) = true ∧ Hid (kindB kind = true) ∧ Hid (pointerB kind = true)) ∨
          (decide (0 ≤ kind) = true ∧ decide (kind ≤ 3) = false ∧ decide (1 ≤ kind) = true ∧ Hid (kindB kind = false) ∧ Hid (pointerB kind = false)) := by
        simp only [Hid, kindB, pointerB, decide_eq_true_eq, decide_eq_false_iff_not]; omega
      rcases hcase with ⟨g0, g1, HK, HP⟩ | ⟨g0, g3, g1, HK, HP⟩ | ⟨g0, g3, g1, HK, HP⟩ | ⟨g0, g3, g1, HK, HP⟩
      all_goals
        rw [HK.out]
        go_wp2_with fail
        refine (descPointer_any kind w7 hT7).mono ?_
        rintro e w9 ⟨rfl, rfl⟩
        rw [HP.out]
        go_wp2
        go_ret
        exact ⟨rfl, k7⟩
end Go.Proofs.YtefbiofefdcbeaaDoor

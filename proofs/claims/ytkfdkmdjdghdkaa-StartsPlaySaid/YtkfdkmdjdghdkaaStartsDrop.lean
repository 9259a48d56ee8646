/- Package starts: Drop. -/
import Derived.Test.YtkfdkmdjdghdkaaStartsIn
namespace Go.Proofs.Ytkfdkmdjdghdkaa
open Go.RowKit

def DropPost09 (p b g : Nat) (xs : List Bool) (a c : Int) (w : World) (e : Ending) (w' : World) : Prop :=
  e = .returned (.int .i64 ((inL (placesB xs) a c).length : Nat)) ∧ IsStarts w' p b g (dropB xs a c) ∧ Kept [g] w w'

set_option maxRecDepth 100000 in
set_option maxHeartbeats 2000000 in
theorem startsDrop_any (p b g : Nat) (xs : List Bool) (a c : Int) (w : World) (h : IsStarts w p b g xs) (ha : a ≤ 9223372036854775807) :
    Calls Try.prog 8 #[.pointer (some ⟨p, 0, none⟩), .agg #[.int .i64 a, .int .i64 c]] w (DropPost09 p b g xs a c w) := by
  have kW := (Kept.refl [] w).alloc (.cells #[.int .i64 a, .int .i64 c] 24)
  have rW := Row.new w 24 [.int .i64 a, .int .i64 c]
  have hle := h.le
  obtain ⟨lp, lb, lg⟩ := h.lt
  go_enter Try.func8, Try.ntmps8
  go_wp2_with fail
  generalize w.alloc (.cells #[.int .i64 a, .int .i64 c] 24) = W at rW kW ⊢
  refine (startsIn_any p b g xs a c W (h.kept kW) ha).mono ?_
  rintro e W1 ⟨A, cap, rfl, hsl, hA, k1⟩
  have kW1 := kW.trans k1
  have h1 := h.kept kW1
  have hlen := inL_len (placesB xs) a c
  have hlen2 := placesB_length xs
  have hbd : ∀ x ∈ inL (placesB xs) a c, 0 ≤ x ∧ x < xs.length := fun x hx => placesB_bound (inL_mem.1 hx).1
  have HD : Hid (dropB xs a c = offB xs (inL (placesB xs) a c)) := rfl
  have hWs := kW.size
  obtain ⟨zs, hzs⟩ : ∃ zs, inL (placesB xs) a c = zs := ⟨_, rfl⟩
  have HZ := Lib.hid hzs
  rw [hzs] at hsl hlen hbd HD ⊢
  clear hzs rW k1 kW h
  have hzl : zs.length ≤ 16384 := by omega
  clear hlen hlen2
  have HBD := Lib.hid hbd
  clear hbd
  go_wp2_with fail
  go_loopw [13] (fun i wr => ∃ j : Nat, j ≤ zs.length ∧ i = .int .i64 j ∧ IsStarts wr p b g (offB xs (zs.take j)) ∧ Kept [g] W1 wr) (fun i _ => zs.length - (intOf i).toNat)
  case atStart => exact ⟨0, Nat.zero_le _, rfl, by simpa [offB] using h1, Kept.refl _ _⟩
  case round =>
    obtain ⟨j, hj, rfl, hs, hkr⟩ := hrel
    by_cases hlt : j < zs.length
    · rcases hsl with hnil | ⟨gg, off, rfl, hgl, hcell⟩
      · rw [hnil] at hlt; simp at hlt
      · have hgg : gg ≠ g := by
          rcases hA with h' | ⟨G, h', hG⟩
          · cases h'
          · cases h'; omega
        have cG : wr.cell? ⟨gg, off + j, none⟩ = some (.int .i64 (zs[j]?.getD 0)) :=
          (World.cell?_of_block (w := W1) (a := ⟨gg, off + j, none⟩) (hkr.block gg hgl (by simpa using hgg))).trans (hcell j hlt)
        have hx := HBD.out (zs[j]?.getD 0) (by rw [List.getElem?_eq_getElem hlt]; exact List.getElem_mem hlt)
        have HT : Hid (offB xs (zs.take (j + 1)) = markB (offB xs (zs.take j)) (zs[j]?.getD 0) 1 false) := by
          show _ = _
          rw [List.take_succ_eq_append_getElem hlt, offB_snoc, List.getElem?_eq_getElem hlt]; rfl
        generalize zs[j]?.getD 0 = x at cG hx HT
        have cP := hs.cell
        obtain ⟨hx0, hx1⟩ := hx
        have hx2 : x ≤ 9223372036854775807 := by omega
        go_wp2_with fail
        refine (bitsMark_any b 0 g (offB xs (zs.take j)) x 1 false wr hs.row hx2).mono ?_
        rintro e w5 ⟨rfl, hr, hk5⟩
        go_wp2
        go_roundw
        case rel => exact ⟨j + 1, by omega, by go_num, by rw [HT.out]; exact hs.with hr hk5, hkr.trans hk5⟩
        case measure => simp [intOf]; omega
    · obtain rfl : j = zs.length := by omega
      go_wp2
      go_ret
      rw [List.take_length] at hs
      exact ⟨by rw [HZ.out]; rfl, by rw [HD.out]; exact hs, kW1.any.trans hkr⟩
end Go.Proofs.Ytkfdkmdjdghdkaa

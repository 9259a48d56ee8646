/- Package kraalref21: the document's answers. -/
import Derived.Test.YtpeekhlccjoioaaOpsPlain
import Derived.Test.YtpeekhlccjoioaaNum
import Derived.Test.YtpeekhlccjoioaaQuiet
import Derived.Test.YtpeekhlccjoioaaRegionPick
import Derived.Deep.RegionHeld3
import Derived.Deep.QuietTactic
import Derived.Laws.StructEq
import Derived.WalkSpells
namespace Go.Proofs.Ytpeekhlccjoioaa
open Go.RowKit

theorem Try.infoU39 : (Try.prog.info? 39).map (fun i => (i.zero, i.size, i.bytes)) = some (some (.agg #[.int .i64 0, .int .u64 0, .int .u64 0, .int .u64 0]), 4, 32) := by kernel_rfl

theorem str_add (x y : List Int) : strOfNums x ++ strOfNums y = strOfNums (x ++ y) := by
  unfold strOfNums
  apply ByteArray.ext
  simp [ByteArray.data_append]
theorem str_nil : (⟨#[]⟩ : ByteArray) = strOfNums [] := rfl

/-- '+' on strings. -/
theorem run_str_add {P : Program} (w : World) (x y : List Int) (hx : x.length + y.length ≤ 1000000) : (Op.stringOp .add (strOfNums x) (strOfNums y)).run P w = .ok (.string (strOfNums (x ++ y))) w := by
  rw [run_string_add_sum w _ _ (by rw [strOfNums_size, strOfNums_size]; omega), str_add]
/-- A slice of bytes as a string. -/
theorem run_str_of {w : World} {a : Option Addr} {bs : List Int} (h : Sl w .u8 a bs) (n cap : Nat) (hn : bs.length = n) : (convert 24 9 (.slice a n cap)).run Try.prog w = .ok (.string (strOfNums bs)) w := by
  rcases h with rfl | ⟨b, off, rfl, _, hc⟩
  · subst hn
    cases a with
    | none => exact run_convert_bytes_nil w _ _ Try.underlying24 Try.underlying5 _ _ _ Try.underlying9
    | some a => 
      obtain ⟨b, off, p⟩ := a
      rw [run_convert_bytes_string w _ _ _ _ _ _ Try.underlying24 Try.underlying5 Try.underlying9, run_bytesToString w _ _ _ [] (by simp [loadCells, loadCellsFrom])]
      rfl
  · exact run_convert_bytes_arg w _ _ Try.underlying24 Try.underlying5 b off n cap bs hn (fun i hi => by rw [hc i (by omega)]; simp [List.getD]) _ Try.underlying9

set_option maxRecDepth 100000 in
set_option maxHeartbeats 1000000 in
theorem refNumber21_any (v : Nat) (w : World) (hv : v < 18446744073709551616) :
    Calls Try.prog 14 #[.int .u64 v] w fun e w' => e = .returned (.string (strOfNums (numB 8 v))) ∧ Kept [] w w' := by
  go_enter Try.func14, Try.ntmps14
  go_wp2
  go_loopw [0, 3, 4] (fun n s i wr => ∃ j : Nat, j ≤ 8 ∧ i = .int .i64 j ∧ n = .int .u64 (v / 256 ^ j : Nat) ∧ s = .string (strOfNums (numB j v)) ∧ Kept [] w wr) (fun n s i _ => 8 - (intOf i).toNat)
  case atStart => exact ⟨0, by omega, rfl, by simp, rfl, Kept.refl _ _⟩
  case round =>
    obtain ⟨j, hj, rfl, rfl, rfl, hk⟩ := hrel
    by_cases hlt : j < 8
    · have hq : (v / 256 ^ j) / 256 = v / 256 ^ (j + 1) := by rw [Nat.div_div_eq_div_mul, Nat.pow_succ]
      have HS := Lib.hid (numB_snoc j v)
      obtain ⟨q, hqe⟩ : ∃ q, v / 256 ^ j = q := ⟨_, rfl⟩
      have hq1 : q < 18446744073709551616 := by rw [← hqe]; exact Nat.lt_of_le_of_lt (Nat.div_le_self _ _) hv
      rw [hqe] at hq ⊢
      have HQ := Lib.hid hq
      have HE := Lib.hid hqe
      clear hq hqe
      have rN := Row.new wr 5 [.int .u8 ((q : Int) % 256)]
      have kN := (Kept.refl [] wr).alloc (.cells #[.int .u8 ((q : Int) % 256)] 5)
      have hcv := run_str_of (Sl.of_row (xs := [(q : Int) % 256]) rN) 1 1 rfl
      have hadd := fun w => run_str_add (P := Try.prog) w (numB j v) [(q : Int) % 256] (by rw [numB_len]; simp; omega)
      go_wp2
      go_roundw
      case rel => exact ⟨j + 1, by omega, by go_num, by rw [← HQ.out]; rfl, by rw [HS.out, HE.out]; rfl, hk.trans kN⟩
      case measure => simp [intOf]; omega
    · obtain rfl : j = 8 := by omega
      go_wp2
      go_ret
      exact ⟨rfl, hk⟩
end Go.Proofs.Ytpeekhlccjoioaa

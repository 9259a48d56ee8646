/- Contracts of the library, laid at this program. -/
import Derived.Shelf.Bits.Mul64
import Derived.Test.YtefbiofefdcbeaaProg
namespace Go.Proofs.Ytefbiofefdcbeaa
open Go.Shelf
def shelf_lays264_ren : Go.Shelf.Ren := ⟨fun | 264 => 16 | n => n, fun | 53 => 47 | 46 => 41 | n => n, fun | n => n⟩
theorem shelf_lays264 : Go.Proofs.Lays.n264 Try.prog shelf_lays264_ren := {
  mixed := by kernel_rfl
  f264 := Try.func16.trans (congrArg some (by kernel_rfl))
  t46 := Try.underlying41
  a46 := Try.isAgg41
  z46 := Try.sizeOf41
  v46 := Try.zeroValue41
  t53 := Try.underlying47
  a53 := Try.isAgg47
  z53 := Try.sizeOf47
  v53 := Try.zeroValue47 }
open Go.RowKit Go.Lib in
theorem lib_bits_Mul64 (x y : Nat) (hx : x < 18446744073709551616) (hy : y < 18446744073709551616) (w : World) :
    Calls Try.prog 16 #[.int .u64 x, .int .u64 y] w fun e w' => e = .returned (.tuple #[.int .u64 ((x * y / 18446744073709551616 : Nat) : Int), .int .u64 ((x * y % 18446744073709551616 : Nat) : Int)]) ∧ w' = w := Any.bits_Mul64 shelf_lays264 x y hx hy w
def shelf_lays212_ren : Go.Shelf.Ren := ⟨fun | 212 => 14 | 263 => 15 | 264 => 16 | n => n, fun | 46 => 41 | 51 => 44 | 146 => 45 | 53 => 47 | 148 => 48 | n => n, fun | n => n⟩
theorem shelf_lays212 : Go.Proofs.Lays.n212 Try.prog shelf_lays212_ren := {
  mixed := by kernel_rfl
  f212 := Try.func14.trans (congrArg some (by kernel_rfl))
  f263 := Try.func15.trans (congrArg some (by kernel_rfl))
  f264 := Try.func16.trans (congrArg some (by kernel_rfl))
  t46 := Try.underlying41
  a46 := Try.isAgg41
  z46 := Try.sizeOf41
  v46 := Try.zeroValue41
  t51 := Try.underlying44
  a51 := Try.isAgg44
  z51 := Try.sizeOf44
  v51 := Try.zeroValue44
  t53 := Try.underlying47
  a53 := Try.isAgg47
  z53 := Try.sizeOf47
  v53 := Try.zeroValue47
  t146 := Try.underlying45
  a146 := Try.isAgg45
  z146 := Try.sizeOf45
  v146 := Try.zeroValue45
  t148 := Try.underlying48
  a148 := Try.isAgg48
  z148 := Try.sizeOf48
  v148 := Try.zeroValue48 }
open Go.RowKit Go.Lib in
/-- math/bits.Mul: "Mul returns the full-width product of x and y": on a machine of 64 bits: Mul64's. (LAID: no walk: one application.) -/
theorem lib_bits_Mul (x y : Nat) (hx : x < 18446744073709551616) (hy : y < 18446744073709551616) (w : World) :
    Calls Try.prog 14 #[.int .u64 x, .int .u64 y] w fun e w' => e = .returned (.tuple #[.int .u64 ((x * y / 18446744073709551616 : Nat) : Int), .int .u64 ((x * y % 18446744073709551616 : Nat) : Int)]) ∧ w' = w := Any.bits_Mul shelf_lays212 x y hx hy w
end Go.Proofs.Ytefbiofefdcbeaa

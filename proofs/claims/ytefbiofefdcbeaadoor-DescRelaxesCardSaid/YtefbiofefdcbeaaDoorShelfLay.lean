/- Contracts of the library, laid at this program. -/
import Derived.Shelf.Bits.Mul64
import Derived.Test.YtefbiofefdcbeaaDoorProg
namespace Go.Proofs.YtefbiofefdcbeaaDoor
open Go.Shelf
def shelf_lays264_ren : Go.Shelf.Ren := ⟨fun | 264 => 25 | n => n, fun | 53 => 51 | 46 => 45 | n => n, fun | n => n⟩
theorem shelf_lays264 : Go.Proofs.Lays.n264 Tryd.prog shelf_lays264_ren := {
  mixed := by kernel_rfl
  f264 := Tryd.func25.trans (congrArg some (by kernel_rfl))
  t46 := Tryd.underlying45
  a46 := Tryd.isAgg45
  z46 := Tryd.sizeOf45
  v46 := Tryd.zeroValue45
  t53 := Tryd.underlying51
  a53 := Tryd.isAgg51
  z53 := Tryd.sizeOf51
  v53 := Tryd.zeroValue51 }
open Go.RowKit Go.Lib in
theorem lib_bits_Mul64 (x y : Nat) (hx : x < 18446744073709551616) (hy : y < 18446744073709551616) (w : World) :
    Calls Tryd.prog 25 #[.int .u64 x, .int .u64 y] w fun e w' => e = .returned (.tuple #[.int .u64 ((x * y / 18446744073709551616 : Nat) : Int), .int .u64 ((x * y % 18446744073709551616 : Nat) : Int)]) ∧ w' = w := Any.bits_Mul64 shelf_lays264 x y hx hy w
def shelf_lays212_ren : Go.Shelf.Ren := ⟨fun | 212 => 23 | 263 => 24 | 264 => 25 | n => n, fun | 46 => 45 | 51 => 48 | 146 => 49 | 53 => 51 | 148 => 52 | n => n, fun | n => n⟩
theorem shelf_lays212 : Go.Proofs.Lays.n212 Tryd.prog shelf_lays212_ren := {
  mixed := by kernel_rfl
  f212 := Tryd.func23.trans (congrArg some (by kernel_rfl))
  f263 := Tryd.func24.trans (congrArg some (by kernel_rfl))
  f264 := Tryd.func25.trans (congrArg some (by kernel_rfl))
  t46 := Tryd.underlying45
  a46 := Tryd.isAgg45
  z46 := Tryd.sizeOf45
  v46 := Tryd.zeroValue45
  t51 := Tryd.underlying48
  a51 := Tryd.isAgg48
  z51 := Tryd.sizeOf48
  v51 := Tryd.zeroValue48
  t53 := Tryd.underlying51
  a53 := Tryd.isAgg51
  z53 := Tryd.sizeOf51
  v53 := Tryd.zeroValue51
  t146 := Tryd.underlying49
  a146 := Tryd.isAgg49
  z146 := Tryd.sizeOf49
  v146 := Tryd.zeroValue49
  t148 := Tryd.underlying52
  a148 := Tryd.isAgg52
  z148 := Tryd.sizeOf52
  v148 := Tryd.zeroValue52 }
open Go.RowKit Go.Lib in
/-- math/bits.Mul: "Mul returns the full-width product of x and y": on a machine of 64 bits: Mul64's. (LAID: no walk: one application.) -/
theorem lib_bits_Mul (x y : Nat) (hx : x < 18446744073709551616) (hy : y < 18446744073709551616) (w : World) :
    Calls Tryd.prog 23 #[.int .u64 x, .int .u64 y] w fun e w' => e = .returned (.tuple #[.int .u64 ((x * y / 18446744073709551616 : Nat) : Int), .int .u64 ((x * y % 18446744073709551616 : Nat) : Int)]) ∧ w' = w := Any.bits_Mul shelf_lays212 x y hx hy w
end Go.Proofs.YtefbiofefdcbeaaDoor

/- Library functions at this seat: the contracts of the library, laid. -/
import Derived.Shelf.Bits.Mul64
import Derived.Shelf.Spec.BitsCarry
import Derived.Test.YtolampkhohahlaaRows
namespace Go.Proofs.Ytolampkhohahlaa
open Go.Shelf Go.Proofs
def Try.lays264_ren : Go.Shelf.Ren := ⟨fun | 264 => 17 | n => n, fun | 53 => 35 | 46 => 49 | n => n, fun | n => n⟩
theorem Try.lays264 : Go.Proofs.Lays.n264 Try.prog Try.lays264_ren := {
  mixed := by kernel_rfl
  f264 := Try.func17.trans (congrArg some (by kernel_rfl))
  t46 := Try.underlying49
  a46 := Try.isAgg49
  z46 := Try.sizeOf49
  v46 := Try.zeroValue49
  t53 := Try.underlying35
  a53 := Try.isAgg35
  z53 := Try.sizeOf35
  v53 := Try.zeroValue35 }
open Go.RowKit Go.Lib in
theorem Try.bits_Mul64 (x y : Nat) (hx : x < 18446744073709551616) (hy : y < 18446744073709551616) (w : World) :
    Calls Try.prog 17 #[.int .u64 x, .int .u64 y] w fun e w' => e = .returned (.tuple #[.int .u64 ((x * y / 18446744073709551616 : Nat) : Int), .int .u64 ((x * y % 18446744073709551616 : Nat) : Int)]) ∧ w' = w := Any.bits_Mul64 Try.lays264 x y hx hy w
def Try.lays7_25_ren : Go.Shelf.Ren := ⟨fun | 25 => 18 | n => n, fun | 22 => 35 | n => n, fun | n => n⟩
theorem Try.lays7_25 : Go.Proofs.Lays7.n25 Try.prog Try.lays7_25_ren := {
  mixed := by kernel_rfl
  f25 := Try.func18.trans (congrArg some (by kernel_rfl))
  t22 := Try.underlying35
  a22 := Try.isAgg35
  z22 := Try.sizeOf35
  v22 := Try.zeroValue35
  i22 := by kernel_rfl }
end Go.Proofs.Ytolampkhohahlaa

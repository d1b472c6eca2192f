/- math/bits.Add64 at this seat: the library's contract, laid. -/
import Derived.Shelf.Spec.BitsCarry
import Derived.Test.YthncogpkhaheeaaRows
import Derived.Test.YthncogpkhaheeaaSrc
namespace Go.Proofs.Ythncogpkhaheeaa
open Go.Shelf Go.Proofs
def Try.lays7_25_ren : Go.Shelf.Ren := ⟨fun | 25 => 24 | n => n, fun | 22 => 23 | n => n, fun | n => n⟩
theorem Try.lays7_25 : Go.Proofs.Lays7.n25 Try.prog Try.lays7_25_ren := {
  mixed := by kernel_rfl
  f25 := Try.func24.trans (congrArg some (by kernel_rfl))
  t22 := Try.underlying23
  a22 := Try.isAgg23
  z22 := Try.sizeOf23
  v22 := Try.zeroValue23
  i22 := by kernel_rfl }
theorem src.add64 (x y : Int) (hx : 0 ≤ x) (hy : 0 ≤ y) {s c : Int} (hs : (x + y) % 18446744073709551616 = s) (hc : (x + y) / 18446744073709551616 = c) (w : World) : (callFunc 24 #[.int .u64 x, .int .u64 y, .int .u64 0]).run Try.prog w =
    .ok (.value (.tuple #[.int .u64 s, .int .u64 c])) w := by
  subst hs hc
  obtain ⟨x, rfl⟩ := Int.eq_ofNat_of_zero_le hx
  obtain ⟨y, rfl⟩ := Int.eq_ofNat_of_zero_le hy
  refine (Any7.bits_Add64 Try.lays7_25 x y 0 (by omega) w).trans ?_
  congr 5
end Go.Proofs.Ythncogpkhaheeaa

/-
  A mask of the lowest bits, as the code reckons it.
-/
import Derived.Test.YtpalhllphnfpmaaInt
namespace Go.Proofs.Ytpalhllphnfpmaa
open Go.RowKit

theorem mask_low (v k : Nat) (hv : v < 18446744073709551616) (hk : k ≤ 63) : bits .and .u64 (v : Int) (IntKind.u64.wrap (IntKind.u64.wrap (2 ^ k) - 1)) = ((v % 2 ^ k : Nat) : Int) := by
  have hp : (2 : Nat) ^ k ≤ 9223372036854775808 := Nat.pow_le_pow_right (n := 2) (j := 63) (by omega) hk
  have hp0 : 0 < (2 : Nat) ^ k := Nat.pow_pos (by omega)
  have e1 : ((2 : Int) ^ k) = ((2 ^ k : Nat) : Int) := by simp
  have e2 : IntKind.u64.wrap (IntKind.u64.wrap ((2 ^ k : Nat) : Int) - 1) = ((2 ^ k - 1 : Nat) : Int) := by
    rw [IntKind.wrap_u64, IntKind.wrap_u64]; omega
  rw [e1, e2, u64_and_nat _ _ hv (by omega), Nat.and_two_pow_sub_one_eq_mod]


end Go.Proofs.Ytpalhllphnfpmaa

/-
  Arithmetic of the integer kinds as the walk writes it: bounds, wraps, masks and shifts.
-/
import Derived.WalkKit
import Derived.Test.YtbalpndgpdbcbaaOctM
import Derived.Lib.Hide
namespace Go.Proofs.Ytbalpndgpdbcbaa
open Go.RowKit

theorem bound_i64 {n : Int} (h : (Lit.int .i64 n).wf = true) : -9223372036854775808 ≤ n ∧ n ≤ 9223372036854775807 := by
  have h1 : IntKind.i64.min = -9223372036854775808 := rfl
  have h2 : IntKind.i64.max = 9223372036854775807 := rfl
  simp only [Lit.wf, Bool.and_eq_true, decide_eq_true_eq] at h
  omega
theorem bound_u64 {n : Int} (h : (Lit.int .u64 n).wf = true) : 0 ≤ n ∧ n ≤ 18446744073709551615 := by
  have h1 : IntKind.u64.min = 0 := rfl
  have h2 : IntKind.u64.max = 18446744073709551615 := rfl
  simp only [Lit.wf, Bool.and_eq_true, decide_eq_true_eq] at h
  omega

theorem wrap_u64_nat (v : Nat) : IntKind.u64.wrap (v : Int) = ((v % 18446744073709551616 : Nat) : Int) := by
  rw [IntKind.wrap_u64]; omega
/-- A number moved up by a byte, with a byte below. -/
theorem shift_or (v q : Nat) (hv : v < 72057594037927936) (hq : q < 256) :
    bits .or .u64 (IntKind.u64.wrap ((v : Int) * 256)) (q : Int) = ((v * 256 + q : Nat) : Int) := by
  have e : IntKind.u64.wrap ((v : Int) * 256) = ((v * 256 : Nat) : Int) := by rw [IntKind.wrap_u64]; omega
  rw [e, u64_or_nat _ _ (by omega) (by omega), nat_join 8 _ _ (by simp) (by simpa using hq)]

theorem one_to_eight {n : Nat} (h1 : 1 ≤ n) (h2 : n ≤ 8) : n = 1 ∨ n = 2 ∨ n = 3 ∨ n = 4 ∨ n = 5 ∨ n = 6 ∨ n = 7 ∨ n = 8 := by omega
/-- A signed number, drawn down from the top. -/
theorem signed_eq (n v : Nat) (h1 : 1 ≤ n) (h2 : n ≤ 8) (hv : v < 256 ^ n) : wrap64 (IntKind.u64.wrap ((v : Int) * 2 ^ (64 - 8 * n))) / 2 ^ (64 - 8 * n) = sgn n v := by
  rw [IntKind.wrap_u64]
  unfold wrap64 sgn
  rcases one_to_eight h1 h2 with rfl | rfl | rfl | rfl | rfl | rfl | rfl | rfl <;> simp only [Nat.reducePow, Nat.reduceMul, Nat.reduceSub, Int.reducePow] at * <;> split <;> omega
/-- Which signed numbers fit n bytes. -/
theorem signed_fits (n : Nat) (v : Int) (h1 : 1 ≤ n) (h2 : n ≤ 8) :
    (v / 2 ^ (8 * n - 1) = 0 ↔ 0 ≤ v ∧ 2 * v < ((256 ^ n : Nat) : Int)) ∧ (v / 2 ^ (8 * n - 1) = -1 ↔ v < 0 ∧ -((256 ^ n : Nat) : Int) ≤ 2 * v) := by
  rcases one_to_eight h1 h2 with rfl | rfl | rfl | rfl | rfl | rfl | rfl | rfl <;> simp only [Nat.reducePow, Nat.reduceMul, Nat.reduceSub, Int.reducePow] at * <;> omega
theorem be_unsgn (n : Nat) (v : Int) (h1 : 1 ≤ n) (h2 : n ≤ 8) (hv : -((256 ^ n : Nat) : Int) ≤ 2 * v) : be n (IntKind.u64.wrap v).toNat = be n (unsgn n v) := by
  rw [← be_mod, ← be_mod n (unsgn n v), IntKind.wrap_u64]
  congr 1
  unfold unsgn
  rcases one_to_eight h1 h2 with rfl | rfl | rfl | rfl | rfl | rfl | rfl | rfl <;> simp only [Nat.reducePow] at * <;> split <;> omega

end Go.Proofs.Ytbalpndgpdbcbaa

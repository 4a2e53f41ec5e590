/-
  What the functions of package head come to: Right, Size, the first two bytes, put, get.
-/
import Derived.Test.YtogjkkhboaflcaaBase
namespace Go.Proofs.Ytogjkkhboaflcaa
open Go.RowKit

theorem hwith_any (k : Int) (n : Nat) (w : World) (hk : k = (n : Int)) (hn : n ≤ 1000000) :
    Calls Try.prog 30 #[.int .i64 k] w fun e w' => e = .returned (.int .i64 (12 + 4 * (n : Int))) ∧ w' = w := by
  subst hk
  go_enter Try.func30, Try.ntmps30
  go_wp2
  go_ret
  exact ⟨rfl, rfl⟩

theorem hget_any (A : Option Addr) (l c : Nat) (s : List UInt8) (a : Int) (b n : Nat) (m : Int) (w : World) (hs : Bs w A l c s) (ha : a = (b : Int)) (h1 : 1 ≤ n) (h2 : n ≤ 8) (h3 : b + n ≤ l) (hm : m = (n : Int)) :
    Calls Try.prog 31 #[.slice A l c, .int .i64 a, .int .i64 m] w fun e w' => e = .returned (.int .u64 (num ((s.drop b).take n))) ∧ w' = w := by
  subst ha hm
  have R := Lib.hid (get_yes A l c s b n w hs h1 h2 h3)
  generalize num ((s.drop b).take n) = v at *
  go_enter Try.func31, Try.ntmps31
  go_wp2_with fail
  refine (R.out).mono ?_
  rintro e w' ⟨rfl, rfl⟩
  go_wp2
  go_ret
  exact ⟨rfl, rfl⟩

end Go.Proofs.Ytogjkkhboaflcaa

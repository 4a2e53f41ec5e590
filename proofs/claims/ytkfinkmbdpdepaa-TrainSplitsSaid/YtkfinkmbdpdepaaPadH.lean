/-
  What the functions of package pad come to, as later layers call them: missing, Fill. (Cut out of the texts on layer 3.)
-/
import Derived.Test.YtkfinkmbdpdepaaBase
namespace Go.Proofs.Ytkfinkmbdpdepaa
open Go.RowKit

theorem missing_any (n : Nat) (w : World) (hn : n ≤ 9223372036854775807) :
    Calls Try.prog 36 #[.int .i64 n] w fun e w' => e = .returned (.int .i64 (miss n)) ∧ w = w' := by
  have h0 : Int.tmod (n : Int) 4 = ((n % 4 : Nat) : Int) := by rw [Int.tmod_eq_emod_of_nonneg (by omega)]; omega
  have hr : n % 4 < 4 := Nat.mod_lt _ (by omega)
  unfold miss
  generalize n % 4 = r at *
  have h1 : Int.tmod (4 - (r : Int)) 4 = (((4 - r) % 4 : Nat) : Int) := by rw [Int.tmod_eq_emod_of_nonneg (by omega)]; omega
  go_enter Try.func36, Try.ntmps36
  go_wp2
  go_ret
  exact ⟨rfl, rfl⟩

end Go.Proofs.Ytkfinkmbdpdepaa

/-
  What pad.Round comes to, as later layers call it. (Cut out of the texts on layer 3.)
-/
import Derived.Test.YtkfinkmbdpdepaaPadH
namespace Go.Proofs.Ytkfinkmbdpdepaa
open Go.RowKit

theorem round_any (n : Int) (w : World) :
    Calls Try.prog 29 #[.int .i64 n] w fun e w' => e = .returned (.int .i64 (roundN n)) ∧ w = w' := by
  by_cases h : n < 0 ∨ n > 2147483648
  · rw [roundN_no h]
    rcases (show n < 0 ∨ (0 ≤ n ∧ 2147483648 < n) by omega) with h1 | ⟨h1, h2⟩
    all_goals
      clear h
      go_enter Try.func29, Try.ntmps29
      go_wp2
      go_ret
      exact ⟨rfl, rfl⟩
  · obtain ⟨n, rfl⟩ := Int.eq_ofNat_of_zero_le (show 0 ≤ n by omega)
    have h2 : n ≤ 2147483648 := by omega
    rw [roundN_yes h2]
    have h3 : (n : Int) ≤ 2147483648 := by omega
    have hm := miss_lt n
    have M := Lib.hid (fun w => missing_any n w (by omega))
    generalize miss n = m at *
    clear h h2
    go_enter Try.func29, Try.ntmps29
    go_wp2_with fail
    refine (M.out _).mono ?_
    rintro e w' ⟨rfl, rfl⟩
    go_wp2
    go_ret
    exact ⟨by simp, rfl⟩

end Go.Proofs.Ytkfinkmbdpdepaa

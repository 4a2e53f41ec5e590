/-
  What the functions of package bits come to: Right.
-/
import Derived.Test.YthkngjokbkfebaaBitD
namespace Go.Proofs.Ythkngjokbkfebaa
open Go.RowKit

theorem inkB_neg {s : List UInt8} {m : Int} (h : m < 0) : inkB s m = false := by
  cases e : inkB s m
  · rfl
  · have := (inkB_iff.1 e).1; omega
theorem inkB_len {s : List UInt8} {m : Nat} (h : s.length ≠ (m + 7) / 8) : inkB s m = false := by
  cases e : inkB s m
  · rfl
  · exact absurd (inkB_iff.1 e).2.1 (by rwa [Int.toNat_natCast])
theorem inkB_even {s : List UInt8} {m : Nat} (hl : s.length = (m + 7) / 8) (hm : m % 8 = 0) : inkB s m = true :=
  inkB_iff.2 ⟨by omega, by rwa [Int.toNat_natCast], fun i hi => bitAt_out (by rw [Int.toNat_natCast] at hi; omega)⟩
/-- Whether the bits behind are 0 is told by the last byte, moved up. -/
theorem inkB_last {s : List UInt8} {m : Nat} (hl : s.length = (m + 7) / 8) (hm : m % 8 ≠ 0) : inkB s m = decide ((s.getD (s.length - 1) 0).toNat * 2 ^ (m % 8) % 256 = 0) := by
  rw [Bool.eq_iff_iff, decide_eq_true_eq, moved_up _ _ (by omega), inkB_iff, Int.toNat_natCast]
  constructor
  · rintro ⟨_, _, h⟩ k h1 h2
    have := h (8 * (s.length - 1) + k) (by omega)
    unfold bitAt at this
    rwa [show (8 * (s.length - 1) + k) / 8 = s.length - 1 by omega, show (8 * (s.length - 1) + k) % 8 = k by omega] at this
  · intro h
    refine ⟨by omega, hl, fun i hi => ?_⟩
    rcases Nat.lt_or_ge i (8 * s.length) with h1 | h1
    · have := h (i % 8) (by omega) (by omega)
      unfold bitAt
      rwa [show i / 8 = s.length - 1 by omega]
    · exact bitAt_out h1

theorem size_quiet (n : Nat) (w : World) (hn : n ≤ 9223372036854775807) :
    Calls Try.prog 33 #[.int .i64 n] w fun e w' => e = .returned (.int .i64 (((n + 7) / 8 : Nat) : Int)) ∧ w' = w :=
  (size_any n w hn).mono fun _ _ ⟨h1, h2⟩ => ⟨h1, h2.symm⟩

set_option maxHeartbeats 400000 in
theorem bright_any (A : Option Addr) (l c : Nat) (s : List UInt8) (m : Int) (w : World) (hs : Bs w A l c s) (hll : l ≤ 140737488355328) (hm : m ≤ 9223372036854775807) :
    Calls Try.prog 17 #[.agg #[.slice A l c, .int .i64 m]] w (Says w (.bool (inkB s m))) := by
  have hlen := hs.len
  by_cases h0 : m < 0
  · rw [inkB_neg h0]
    go_enter Try.func17, Try.ntmps17
    go_wp2_with fail
    go_quiet (fail)
    go_wp2
    go_ret
    exact ⟨rfl, below_drewN (below1 w _) _⟩
  · obtain ⟨m, rfl⟩ := Int.eq_ofNat_of_zero_le (show 0 ≤ m by omega)
    by_cases h1 : l = (m + 7) / 8
    · by_cases h2 : m % 8 = 0
      · rw [inkB_even (by omega) h2]
        have Z := Lib.hid (fun w => size_quiet m w (by omega))
        rw [← h1] at Z
        have g : ((m : Int) % 8 == 0) = true := by simp; omega
        clear hlen h1
        go_enter Try.func17, Try.ntmps17
        go_wp2_with fail
        go_quiet ((go_at_call 33; exact Calls.quiet_of_same (Z.out _)))
        go_wp2
        go_ret
        exact ⟨rfl, below_drewN (below1 w _) _⟩
      · have hk := inkB_last (s := s) (m := m) (by omega) h2
        rw [hlen] at hk
        rw [hk]
        have Z := Lib.hid (fun w => size_quiet m w (by omega))
        rw [← h1] at Z
        obtain ⟨b, o, rfl, hlt, hcell⟩ := hs.at_ (by omega)
        have hc := hcell (l - 1) (by omega)
        have hq := byte_lt s (l - 1)
        generalize (s.getD (l - 1) 0).toNat = q at *
        have hl1 : 1 ≤ l := by omega
        have g : ((m : Int) % 8 == 0) = false := by simp; omega
        have hx : decide (q * 2 ^ (m % 8) % 256 = 0) = ((q : Int) * 2 ^ (m % 8) % 256 == 0) := by
          have e : (q : Int) * 2 ^ (m % 8) % 256 = ((q * 2 ^ (m % 8) % 256 : Nat) : Int) := by simp
          rw [e, Bool.eq_iff_iff, decide_eq_true_eq, beq_iff_eq]
          omega
        rw [hx]
        clear hlen h1 hk hcell hx
        go_enter Try.func17, Try.ntmps17
        go_wp2_with fail
        go_quiet ((go_at_call 33; exact Calls.quiet_of_same (Z.out _)))
        go_wp2
        go_ret
        exact ⟨rfl, below_drewN (below1 w _) _⟩
    · rw [inkB_len (by omega)]
      have Z := Lib.hid (fun w => size_quiet m w (by omega))
      have g : ((l : Int) == (((m + 7) / 8 : Nat) : Int)) = false := by simp; omega
      have g2 : ((l : Int) != (((m + 7) / 8 : Nat) : Int)) = true := by simp; omega
      generalize (m + 7) / 8 = z at *
      clear hlen
      go_enter Try.func17, Try.ntmps17
      go_wp2_with fail
      go_quiet ((go_at_call 33; exact Calls.quiet_of_same (Z.out _)))
      go_wp2
      go_ret
      exact ⟨rfl, below_drewN (below1 w _) _⟩

theorem bright_is (A : Option Addr) (l c : Nat) (s : List UInt8) (m : Int) (w : World) (hs : Bs w A l c s) (hll : l ≤ 140737488355328) (hm : m ≤ 9223372036854775807) (q : Bool) (hq : inkB s m = q) :
    Calls Try.prog 17 #[.agg #[.slice A l c, .int .i64 m]] w (Says w (.bool q)) := by
  subst hq
  exact bright_any A l c s m w hs hll hm

end Go.Proofs.Ythkngjokbkfebaa

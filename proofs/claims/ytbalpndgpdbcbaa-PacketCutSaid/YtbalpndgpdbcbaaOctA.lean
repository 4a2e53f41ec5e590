/-
  What the functions of package octet come to: isSize, has, Get, Signed.
-/
import Derived.Test.YtbalpndgpdbcbaaByte
import Derived.Test.YtbalpndgpdbcbaaOctM
import Derived.Test.YtbalpndgpdbcbaaMem
import Derived.Test.YtbalpndgpdbcbaaInt
namespace Go.Proofs.Ytbalpndgpdbcbaa
open Go.RowKit

theorem isSize_any (n : Int) (w : World) :
    Calls Try.prog 54 #[.int .i64 n] w fun e w' => e = .returned (.bool (decide (1 ≤ n ∧ n ≤ 8))) ∧ w = w' := by
  by_cases h1 : 1 ≤ n <;> by_cases h2 : n ≤ 8
  all_goals
    go_enter Try.func54, Try.ntmps54
    go_wp2
    go_ret
    exact ⟨by simp [h1, h2], rfl⟩

theorem has_any (A : Option Addr) (l c : Nat) (at_ n : Int) (w : World) (hl : l ≤ maxLen) (ha : 0 ≤ at_) (ha2 : at_ ≤ 9223372036854775807) :
    Calls Try.prog 56 #[.slice A l c, .int .i64 at_, .int .i64 n] w fun e w' => e = .returned (.bool (decide (n ≤ l - at_))) ∧ w = w' := by
  unfold maxLen at *
  go_enter Try.func56, Try.ntmps56
  go_wp2
  go_ret
  exact ⟨rfl, rfl⟩


set_option maxHeartbeats 400000 in
theorem get_yes (A : Option Addr) (l c : Nat) (s : List UInt8) (a n : Nat) (w : World) (hs : Bs w A l c s) (h1 : 1 ≤ n) (h2 : n ≤ 8) (h3 : a + n ≤ l) :
    Calls Try.prog 49 #[.slice A l c, .int .i64 a, .int .i64 n] w fun e w' => e = .returned (.tuple #[.int .u64 (num ((s.drop a).take n)), .int .i64 0]) ∧ w = w' := by
  have hl := hs.len
  have hla := hs.le
  have hlc := hs.cap
  unfold maxLen at hlc
  obtain ⟨b, o, rfl, hlt, hcell⟩ := hs.at_ (by omega)
  have ht : decide (1 ≤ (n : Int) ∧ (n : Int) ≤ 8) = true := by simp; omega
  have hd : decide ((n : Int) ≤ l - a) = true := by simp; omega
  have hd2 : decide ((a : Int) < 0) = false := by simp
  go_enter Try.func49, Try.ntmps49
  go_wp2_with fail
  refine (isSize_any _ _).mono ?_
  rintro e w' ⟨rfl, rfl⟩
  go_wp2_with fail
  refine (has_any _ _ _ _ _ _ (by simp only [maxLen]; omega) (by omega) (by omega)).mono ?_
  rintro e w' ⟨rfl, rfl⟩
  go_wp2_with fail
  go_loop [8, 30] (fun v i => ∃ k : Nat, k ≤ n ∧ i = .int .i64 k ∧ v = .int .u64 (num ((s.drop a).take k))) (fun _ i => n - (intOf i).toNat)
  case atStart => exact ⟨0, Nat.zero_le _, rfl, rfl⟩
  case round =>
    obtain ⟨k, hk, rfl, rfl⟩ := hrel
    by_cases hkn : k < n
    · have hc := hcell (a + k) (by omega)
      rw [← Nat.add_assoc] at hc
      have hq := byte_getD_lt s (a + k)
      have hnt := num_take s a k (by omega)
      generalize (s.getD (a + k) 0).toNat = q at *
      have Hnt := Lib.hid hnt; clear hnt
      clear hcell
      go_wp2
      go_round
      case rel =>
        refine ⟨k + 1, by omega, by go_num, ?_⟩
        have hv := num_lt ((s.drop a).take k)
        have hv2 : (256 : Nat) ^ ((s.drop a).take k).length ≤ 256 ^ 7 := Nat.pow_le_pow_right (by omega) (by simp; omega)
        rw [Hnt.out, shift_or _ _ (by omega) hq]
      case measure => simp [intOf]; omega
    · go_wp2
      go_ret2
      have e : k = n := by omega
      subst e
      exact ⟨rfl, rfl⟩

theorem get_arg (A : Option Addr) (l c : Nat) (a n : Int) (w : World) (h : n < 1 ∨ 8 < n ∨ a < 0) :
    Calls Try.prog 49 #[.slice A l c, .int .i64 a, .int .i64 n] w fun e w' => e = .returned (.tuple #[.int .u64 0, .int .i64 1]) ∧ w = w' := by
  by_cases h1 : 1 ≤ n ∧ n ≤ 8
  · have h2 : a < 0 := by omega
    have ht : decide (1 ≤ n ∧ n ≤ 8) = true := by simp [h1]
    clear h h1
    go_enter Try.func49, Try.ntmps49
    go_wp2_with fail
    refine (isSize_any _ _).mono ?_
    rintro e w' ⟨rfl, rfl⟩
    go_wp2_with fail
    go_ret2
    exact ⟨rfl, rfl⟩
  · have ht : decide (1 ≤ n ∧ n ≤ 8) = false := by simp only [decide_eq_false_iff_not]; exact h1
    clear h h1
    go_enter Try.func49, Try.ntmps49
    go_wp2_with fail
    refine (isSize_any _ _).mono ?_
    rintro e w' ⟨rfl, rfl⟩
    go_wp2_with fail
    go_ret2
    exact ⟨rfl, rfl⟩

theorem get_short (A : Option Addr) (l c : Nat) (a n : Int) (w : World) (hl : l ≤ maxLen) (h1 : 1 ≤ n) (h2 : n ≤ 8) (h3 : 0 ≤ a) (h4 : a ≤ 9223372036854775807) (h5 : l < a + n) :
    Calls Try.prog 49 #[.slice A l c, .int .i64 a, .int .i64 n] w fun e w' => e = .returned (.tuple #[.int .u64 0, .int .i64 2]) ∧ w = w' := by
  have ht : decide (1 ≤ n ∧ n ≤ 8) = true := by simp [h1, h2]
  have hd : decide (n ≤ l - a) = false := by simp; omega
  have hd2 : decide (a < 0) = false := by simp [h3]
  go_enter Try.func49, Try.ntmps49
  go_wp2_with fail
  refine (isSize_any _ _).mono ?_
  rintro e w' ⟨rfl, rfl⟩
  go_wp2_with fail
  refine (has_any _ _ _ _ _ _ hl h3 h4).mono ?_
  rintro e w' ⟨rfl, rfl⟩
  go_wp2_with fail
  go_ret2
  exact ⟨rfl, rfl⟩

theorem get_any (A : Option Addr) (l c : Nat) (s : List UInt8) (a n : Int) (w : World) (hs : Bs w A l c s) (ha : (Lit.int .i64 a).wf = true) :
    Calls Try.prog 49 #[.slice A l c, .int .i64 a, .int .i64 n] w fun e w' => e = .returned (.tuple #[.int .u64 (getV s a n), .int .i64 (getE s.length a n)]) ∧ w = w' := by
  have hl := hs.len
  obtain ⟨ha1, ha2⟩ := bound_i64 ha
  by_cases h : n < 1 ∨ 8 < n ∨ a < 0
  · have e1 : getE s.length a n = 1 := if_pos h
    have e2 : getV s a n = 0 := if_neg (by rw [e1]; decide)
    rw [e1, e2]
    exact get_arg A l c a n w h
  · by_cases h5 : (l : Int) < a + n
    · have e1 : getE s.length a n = 2 := by unfold getE; rw [if_neg h, if_pos (by omega)]
      have e2 : getV s a n = 0 := if_neg (by rw [e1]; decide)
      rw [e1, e2]
      exact get_short A l c a n w (Nat.le_trans hs.le hs.cap) (by omega) (by omega) (by omega) ha2 h5
    · have e1 : getE s.length a n = 0 := by unfold getE; rw [if_neg h, if_neg (by omega)]
      have e2 : getV s a n = num ((s.drop a.toNat).take n.toNat) := if_pos e1
      rw [e1, e2]
      obtain ⟨a, rfl⟩ := Int.eq_ofNat_of_zero_le (show 0 ≤ a by omega)
      obtain ⟨n, rfl⟩ := Int.eq_ofNat_of_zero_le (show 0 ≤ n by omega)
      rw [Int.toNat_natCast, Int.toNat_natCast]
      exact get_yes A l c s a n w hs (by omega) (by omega) (by omega)

end Go.Proofs.Ytbalpndgpdbcbaa

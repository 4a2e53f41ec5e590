/-
  What the functions of package octet come to: Signed, PutSigned.
-/
import Derived.Test.YthihnfdanjnmcaaOctD
namespace Go.Proofs.Ythihnfdanjnmcaa
open Go.RowKit

theorem signed_err (A : Option Addr) (l c : Nat) (s : List UInt8) (a n : Int) (w : World) (hs : Bs w A l c s) (ha : (Lit.int .i64 a).wf = true) (h : getE s.length a n ≠ 0) :
    Calls Try.prog 10 #[.slice A l c, .int .i64 a, .int .i64 n] w fun e w' => e = .returned (.tuple #[.int .i64 0, .int .i64 (getE s.length a n)]) ∧ w = w' := by
  have hg := get_any A l c s a n w hs ha
  have hz : (getE s.length a n != 0) = true := by rw [bne_iff_ne]; exact h
  generalize getE s.length a n = q at *
  generalize getV s a n = v at *
  have Hg := Lib.hid hg
  clear hg h
  go_enter Try.func10, Try.ntmps10
  go_wp2_with fail
  refine (Hg.out).mono ?_
  rintro e w1 ⟨rfl, rfl⟩
  go_wp2_with fail
  go_ret2
  exact ⟨rfl, rfl⟩

theorem signed_yes (A : Option Addr) (l c : Nat) (s : List UInt8) (a n : Nat) (w : World) (hs : Bs w A l c s) (h1 : 1 ≤ n) (h2 : n ≤ 8) (h3 : a + n ≤ l) :
    Calls Try.prog 10 #[.slice A l c, .int .i64 a, .int .i64 n] w fun e w' => e = .returned (.tuple #[.int .i64 (sgn n (num ((s.drop a).take n))), .int .i64 0]) ∧ w = w' := by
  have hg := get_yes A l c s a n w hs h1 h2 h3
  have hv : num ((s.drop a).take n) < 256 ^ n := by
    have := num_lt ((s.drop a).take n)
    rwa [show ((s.drop a).take n).length = n from by have := hs.len; simp; omega] at this
  generalize num ((s.drop a).take n) = v at *
  have Hg := Lib.hid hg
  clear hg
  go_enter Try.func10, Try.ntmps10
  go_wp2_with fail
  refine (Hg.out).mono ?_
  rintro e w1 ⟨rfl, rfl⟩
  go_wp2_with fail
  go_ret2
  have e := signed_eq n v h1 h2 hv
  refine ⟨?_, rfl⟩
  show Ending.returned (.tuple #[.int .i64 (wrap64 (IntKind.u64.wrap ((v : Int) * 2 ^ (64 - 8 * n))) / 2 ^ (64 - 8 * n)), .int .i64 0]) = _
  rw [e]

theorem signed_any (A : Option Addr) (l c : Nat) (s : List UInt8) (a n : Int) (w : World) (hs : Bs w A l c s) (ha : (Lit.int .i64 a).wf = true) :
    Calls Try.prog 10 #[.slice A l c, .int .i64 a, .int .i64 n] w fun e w' => e = .returned (.tuple #[.int .i64 (signedV s a n), .int .i64 (getE s.length a n)]) ∧ w = w' := by
  have hl := hs.len
  by_cases h : getE s.length a n = 0
  · have e2 : signedV s a n = sgn n.toNat (num ((s.drop a.toNat).take n.toNat)) := if_pos h
    have hh : 1 ≤ n ∧ n ≤ 8 ∧ 0 ≤ a ∧ a + n ≤ l := by
      unfold getE at h
      split at h
      · cases h
      · split at h
        · cases h
        · omega
    rw [e2, h]
    obtain ⟨a, rfl⟩ := Int.eq_ofNat_of_zero_le (show 0 ≤ a by omega)
    obtain ⟨n, rfl⟩ := Int.eq_ofNat_of_zero_le (show 0 ≤ n by omega)
    rw [Int.toNat_natCast, Int.toNat_natCast]
    exact signed_yes A l c s a n w hs (by omega) (by omega) (by omega)
  · have e2 : signedV s a n = 0 := if_neg h
    rw [e2]
    exact signed_err A l c s a n w hs ha h

theorem digits_int (v : Int) (n : Nat) (w : World) (h2 : n ≤ 8) (h0 : 0 ≤ v) (hv : v < 18446744073709551616) :
    Calls Try.prog 22 #[.int .u64 v, .int .i64 n] w fun e w' => GivesB w 5 (be n v.toNat) e w' := by
  obtain ⟨v, rfl⟩ := Int.eq_ofNat_of_zero_le h0
  exact digits_any v n w h2 (by omega)

theorem puts_any (v n : Int) (w : World) :
    Calls Try.prog 14 #[.int .i64 v, .int .i64 n] w fun e w' => GivesBE w 5 (putSB v n) (putSE v n) e w' := by
  by_cases h1 : 1 ≤ n ∧ n ≤ 8
  · have ht : decide (1 ≤ n ∧ n ≤ 8) = true := by simp only [decide_eq_true_eq]; exact h1
    obtain ⟨n, rfl⟩ := Int.eq_ofNat_of_zero_le (show 0 ≤ n by omega)
    obtain ⟨f0, f1⟩ := signed_fits n v (by omega) (by omega)
    by_cases h3 : 2 * v < -((256 ^ n : Nat) : Int) ∨ ((256 ^ n : Nat) : Int) ≤ 2 * v
    · have e1 : putSE v n = 6 := by unfold putSE; rw [if_neg (by omega), Int.toNat_natCast, if_pos h3]
      have e2 : putSB v n = [] := if_neg (by rw [e1]; decide)
      have g0 : (v / 2 ^ (8 * n - 1) != 0) = true := by rw [bne_iff_ne]; intro h; have := f0.1 h; omega
      have g1 : (v / 2 ^ (8 * n - 1) != -1) = true := by rw [bne_iff_ne]; intro h; have := f1.1 h; omega
      rw [e1, e2]
      clear e1 e2 h3 f0 f1
      go_enter Try.func14, Try.ntmps14
      go_wp2_with fail
      refine (isSize_any _ _).mono ?_
      rintro e w1 ⟨rfl, rfl⟩
      go_wp2_with fail
      go_ret2
      exact GivesBE.none_ _ _ _
    · have e1 : putSE v n = 0 := by unfold putSE; rw [if_neg (by omega), Int.toNat_natCast, if_neg h3]
      have e2 : putSB v n = be n (IntKind.u64.wrap v).toNat := by unfold putSB; rw [if_pos e1, Int.toNat_natCast, be_unsgn n v (by omega) (by omega) (by omega)]
      have b1 : 0 ≤ IntKind.u64.wrap v := by rw [IntKind.wrap_u64]; omega
      have b2 : IntKind.u64.wrap v < 18446744073709551616 := by rw [IntKind.wrap_u64]; omega
      have hdig := fun w => digits_int (IntKind.u64.wrap v) n w (by omega) b1 b2
      rw [e1, e2]
      have Hdig := Lib.hid hdig
      clear e1 e2 hdig b1 b2
      by_cases h4 : 0 ≤ v
      · have g0 : (v / 2 ^ (8 * n - 1) != 0) = false := by rw [bne_eq_false_iff_eq]; exact f0.2 (by omega)
        have g2 : v / 2 ^ (8 * n - 1) = 0 := f0.2 (by omega)
        clear f0 f1 h3
        go_enter Try.func14, Try.ntmps14
        go_wp2_with fail
        refine (isSize_any _ _).mono ?_
        rintro e w1 ⟨rfl, rfl⟩
        go_wp2_with fail
        refine (Hdig.out _).mono ?_
        rintro e w' ⟨A, c, rfl, hown, hbel⟩
        rw [be_length] at hown ⊢
        go_wp2
        go_ret2
        exact ⟨A, c, by rw [be_length]; rfl, by rw [be_length]; exact hown, hbel⟩
      · have g2 : v / 2 ^ (8 * n - 1) = -1 := f1.2 (by omega)
        have g0 : (v / 2 ^ (8 * n - 1) != 0) = true := by rw [g2]; rfl
        have g1 : (v / 2 ^ (8 * n - 1) != -1) = false := by rw [g2]; rfl
        clear f0 f1 h3 g2
        go_enter Try.func14, Try.ntmps14
        go_wp2_with fail
        refine (isSize_any _ _).mono ?_
        rintro e w1 ⟨rfl, rfl⟩
        go_wp2_with fail
        refine (Hdig.out _).mono ?_
        rintro e w' ⟨A, c, rfl, hown, hbel⟩
        rw [be_length] at hown ⊢
        go_wp2
        go_ret2
        exact ⟨A, c, by rw [be_length]; rfl, by rw [be_length]; exact hown, hbel⟩
  · have ht : decide (1 ≤ n ∧ n ≤ 8) = false := by simp only [decide_eq_false_iff_not]; exact h1
    have e1 : putSE v n = 1 := if_pos (by omega)
    have e2 : putSB v n = [] := if_neg (by rw [e1]; decide)
    rw [e1, e2]
    clear e1 e2 h1
    go_enter Try.func14, Try.ntmps14
    go_wp2_with fail
    refine (isSize_any _ _).mono ?_
    rintro e w' ⟨rfl, rfl⟩
    go_wp2_with fail
    go_ret2
    exact GivesBE.none_ _ _ _

end Go.Proofs.Ythihnfdanjnmcaa

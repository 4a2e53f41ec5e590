/-
  What the functions of package octet come to: digits, Put.
-/
import Derived.Test.YtbalpndgpdbcbaaOctA
namespace Go.Proofs.Ytbalpndgpdbcbaa
open Go.RowKit


set_option maxHeartbeats 400000 in
theorem digits_any (v n : Nat) (w : World) (h2 : n ≤ 8) (_hv : v < 18446744073709551616) :
    Calls Try.prog 55 #[.int .u64 v, .int .i64 n] w fun e w' => GivesB w 5 (be n v) e w' := by
  obtain ⟨i0, hi0, hz0, hz1, hz2⟩ := info_parts byte_info
  go_enter Try.func55, Try.ntmps55
  go_wp2_with (at_make; go_loud (refine wpList_make_full _ rfl (.tmp 7) (.tmp 7) 27 rfl w.heap.size 5 i0 (.int .u8 0) 1 Try.underlying27 hi0 hz0 hz1 .i64 .i64 n n n rfl rfl rfl rfl (by rw [hz2]; omega) (by simp only [maxLen]; omega) (Nat.le_refl _) ?_); intro w1 hown hgrow)

  have hb1 : Below w.heap.size w w1 := (Below.refl _ _).grown hgrow (Nat.le_refl _) (by intro k h; cases h)
  have hown1 : Own w1 w.heap.size 5 (some ⟨w.heap.size, 0, none⟩) n n (filled n 0 v) := by
    rw [filled_zero]
    rw [show (Value.int IntKind.u8 0).cells = #[.int .u8 0] from rfl, Nat.mul_one, toList_madeCells_one] at hown
    simpa [byteV, Own] using hown
  clear hown hgrow
  go_wp2
  go_loopw [0, 6] (fun x i wr => ∃ k : Nat, k ≤ n ∧ i = .int .i64 ((n : Int) - 1 - k) ∧ x = .int .u64 ((v / 256 ^ k : Nat) : Int) ∧ Below w.heap.size w wr ∧ Own wr w.heap.size 5 (some ⟨w.heap.size, 0, none⟩) n n (filled n k v)) (fun _ i _ => (intOf i + 1).toNat)
  case atStart => exact ⟨0, Nat.zero_le _, by simp, by simp, hb1, hown1⟩
  case round =>
    obtain ⟨k, hk, rfl, rfl, hbel, hown⟩ := hrel
    clear hb1 hown1
    by_cases hkn : k < n
    · obtain ⟨⟨u0, hcl⟩, hfz, hown'⟩ := Own.store (x := UInt8.ofNat (v / 256 ^ k)) hown (show n - 1 - k < n by omega)
      rw [filled_step n k v hkn] at hown'
      have hdd : v / 256 ^ k / 256 = v / 256 ^ (k + 1) := by rw [Nat.div_div_eq_div_mul, Nat.pow_succ]
      have hq : v / 256 ^ k ≤ v := Nat.div_le_self _ _
      clear hown
      generalize v / 256 ^ k = q at *
      have Hdd := Lib.hid hdd; clear hdd
      go_wp2
      go_roundw
      case rel =>
        refine ⟨k + 1, by omega, by go_num, ?_⟩
        rw [byteV_ofNat] at hown'
        exact ⟨by rw [← Hdd.out]; simp, hbel.setCell (Nat.le_refl _) _, hown'⟩
      case measure => simp [intOf]; omega
    · go_wp2
      go_ret
      have e : k = n := by omega
      subst e
      rw [filled_all] at hown
      refine ⟨some ⟨w.heap.size, 0, none⟩, k, ?_, ?_, hbel⟩
      · rw [be_length]; rfl
      · rw [be_length]; exact hown

theorem put_high (v n : Nat) : (((v : Int) / 2 ^ (8 * n) != 0) = true ↔ 256 ^ n ≤ v) := by
  rw [bne_iff_ne]
  have e : ((v : Int) / 2 ^ (8 * n)) = ((v / 256 ^ n : Nat) : Int) := by rw [← pow256]; simp
  rw [e]
  have := Nat.div_pos_iff (a := v) (b := 256 ^ n)
  have hp : 0 < 256 ^ n := Nat.pow_pos (by omega)
  generalize v / 256 ^ n = q at *
  generalize 256 ^ n = p at *
  omega

set_option maxHeartbeats 400000 in
theorem put_any (v : Nat) (n : Int) (w : World) (hv2 : v < 18446744073709551616) :
    Calls Try.prog 43 #[.int .u64 v, .int .i64 n] w fun e w' => GivesBE w 5 (putB v n) (putE v n) e w' := by
  by_cases h1 : 1 ≤ n ∧ n ≤ 8
  · have ht : decide (1 ≤ n ∧ n ≤ 8) = true := by simp only [decide_eq_true_eq]; exact h1
    obtain ⟨n, rfl⟩ := Int.eq_ofNat_of_zero_le (show 0 ≤ n by omega)
    by_cases h3 : 256 ^ n ≤ v
    · have hz := (put_high v n).2 h3
      have e1 : putE v n = 6 := by unfold putE; rw [if_neg (by omega), Int.toNat_natCast, if_pos h3]
      have e2 : putB v n = [] := if_neg (by rw [e1]; decide)
      rw [e1, e2]
      clear e1 e2 h3
      go_enter Try.func43, Try.ntmps43
      go_wp2_with fail
      refine (isSize_any _ _).mono ?_
      rintro e w' ⟨rfl, rfl⟩
      go_wp2_with fail
      go_ret2
      exact GivesBE.none_ _ _ _
    · have hz : ((v : Int) / 2 ^ (8 * n) != 0) = false := by
        rw [Bool.eq_false_iff]
        intro h
        exact h3 ((put_high v n).1 h)
      have e1 : putE v n = 0 := by unfold putE; rw [if_neg (by omega), Int.toNat_natCast, if_neg h3]
      have e2 : putB v n = be n v := by unfold putB; rw [if_pos e1, Int.toNat_natCast]
      rw [e1, e2]
      clear e1 e2 h3
      go_enter Try.func43, Try.ntmps43
      go_wp2_with fail
      refine (isSize_any _ _).mono ?_
      rintro e w' ⟨rfl, rfl⟩
      go_wp2_with fail
      refine (digits_any v n _ (by omega) hv2).mono ?_
      rintro e w' ⟨A, c, rfl, hown, hbel⟩
      go_wp2
      go_ret2
      exact ⟨A, c, rfl, hown, hbel⟩
  · have ht : decide (1 ≤ n ∧ n ≤ 8) = false := by simp only [decide_eq_false_iff_not]; exact h1
    have e1 : putE v n = 1 := if_pos (by omega)
    have e2 : putB v n = [] := if_neg (by rw [e1]; decide)
    rw [e1, e2]
    clear e1 e2 h1
    go_enter Try.func43, Try.ntmps43
    go_wp2_with fail
    refine (isSize_any _ _).mono ?_
    rintro e w' ⟨rfl, rfl⟩
    go_wp2_with fail
    go_ret2
    exact GivesBE.none_ _ _ _

end Go.Proofs.Ytbalpndgpdbcbaa

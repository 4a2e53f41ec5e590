/-
  What the functions of package bits come to: Len64 of the library, widths, Range.
-/
import Derived.Test.YthkngjokbkfebaaBitB
import Derived.Lib.Strings
import Derived.Lib.Slices
import Derived.Lib.Small
import Derived.Lib.Walk
import Derived.Lib.BitFns
import Derived.Lib.Tables
namespace Go.Proofs.Ythkngjokbkfebaa
open Go.RowKit

theorem bitLen_wd (x : Nat) (h1 : 1 ≤ x) (h2 : x < 2 ^ 64) : Lib.bitLen x = wd x := by
  obtain ⟨k1, k2⟩ := wd_spec h1
  have hk : wd x - 1 < 64 := by
    rcases Nat.lt_or_ge (wd x - 1) 64 with h | h
    · exact h
    · have := Nat.pow_le_pow_right (n := 2) (by omega) h
      omega
  have h3 := Lib.bitLen_shift (wd x - 1) x k1 h2
  have hp := Nat.pow_pos (a := 2) (n := wd x - 1) (by omega)
  have h4 : x / 2 ^ (wd x - 1) = 1 := by
    have e := wd_pow x
    apply Nat.div_eq_of_lt_le <;> omega
  rw [h4] at h3
  have h5 : Lib.bitLen 1 = 1 := by decide
  have := wd_pos x
  omega

theorem len8_nat (q : Int) (h0 : 0 ≤ q) (h1 : q ≤ 255) : 0 ≤ Lib.len8 q ∧ Lib.len8 q ≤ 8 ∧ Lib.len8 q = (Lib.bitLen q.toNat : Int) := by
  have e := Lib.len8_of q h0 h1
  have l := Lib.bitLen_le8' q h0 h1
  omega

set_option maxRecDepth 100000 in
set_option maxHeartbeats 4000000 in
theorem len64_int (x : Int) (w : World) (h1 : 1 ≤ x) (h2 : x ≤ 4294967296) :
    Calls Try.prog 34 #[.int .u64 x] w fun e w' => e = .returned (.int .i64 (Lib.bitLen x.toNat)) ∧ w = w' := by
  rcases (show x < 256 ∨ (256 ≤ x ∧ x < 65536) ∨ (65536 ≤ x ∧ x < 16777216) ∨ (16777216 ≤ x ∧ x < 4294967296) ∨ x = 4294967296 by omega) with h | ⟨h, h3⟩ | ⟨h, h3⟩ | ⟨h, h3⟩ | h
  · obtain ⟨l1, l2, l3⟩ := len8_nat x (by omega) (by omega)
    rw [← l3]
    clear l3
    have b1 : 0 ≤ x := by omega
    have b2 : x ≤ 255 := by omega
    clear h1 h2
    go_enter Try.func34, Try.ntmps34
    go_wp2
    go_ret
    exact ⟨rfl, rfl⟩
  · obtain ⟨l1, l2, l3⟩ := len8_nat (x / 256) (by omega) (by omega)
    have e : (Lib.bitLen x.toNat : Int) = 8 + Lib.len8 (x / 256) := by
      rw [l3, Lib.bitLen_shift8 x.toNat (by omega) (by omega), show (x / 256).toNat = x.toNat / 256 by omega]
      omega
    rw [e]
    clear l3 e
    have b1 : 0 ≤ x / 256 := by omega
    have b2 : x / 256 ≤ 255 := by omega
    clear h1 h2
    go_enter Try.func34, Try.ntmps34
    go_wp2
    go_ret
    exact ⟨rfl, rfl⟩
  · obtain ⟨l1, l2, l3⟩ := len8_nat (x / 65536) (by omega) (by omega)
    have e : (Lib.bitLen x.toNat : Int) = 16 + Lib.len8 (x / 65536) := by
      rw [l3, Lib.bitLen_shift16 x.toNat (by omega) (by omega), show (x / 65536).toNat = x.toNat / 65536 by omega]
      omega
    rw [e]
    clear l3 e
    have b1 : 0 ≤ x / 65536 := by omega
    have b2 : x / 65536 ≤ 255 := by omega
    clear h1 h2
    go_enter Try.func34, Try.ntmps34
    go_wp2
    go_ret
    exact ⟨rfl, rfl⟩
  · obtain ⟨l1, l2, l3⟩ := len8_nat (x / 65536 / 256) (by omega) (by omega)
    have e : (Lib.bitLen x.toNat : Int) = 24 + Lib.len8 (x / 65536 / 256) := by
      rw [l3, Lib.bitLen_shift24 x.toNat (by omega) (by omega), show (x / 65536 / 256).toNat = x.toNat / 16777216 by omega]
      omega
    rw [e]
    clear l3 e
    have b1 : 0 ≤ x / 65536 / 256 := by omega
    have b2 : x / 65536 / 256 ≤ 255 := by omega
    clear h1 h2
    go_enter Try.func34, Try.ntmps34
    go_wp2
    go_ret
    exact ⟨rfl, rfl⟩
  · subst h
    have e1 : Lib.len8 1 = 1 := by decide
    rw [show (Lib.bitLen (4294967296 : Int).toNat : Int) = 33 by decide]
    clear h1 h2
    go_enter Try.func34, Try.ntmps34
    go_wp2
    go_ret
    exact ⟨rfl, rfl⟩

theorem len64_any (n : Nat) (w : World) (h1 : 1 ≤ n) (h2 : n ≤ 4294967296) :
    Calls Try.prog 34 #[.int .u64 n] w fun e w' => e = .returned (.int .i64 (wd n)) ∧ w = w' := by
  have := len64_int (n : Int) w (by omega) (by omega)
  rwa [Int.toNat_natCast, bitLen_wd n h1 (by omega)] at this

set_option maxHeartbeats 400000 in
theorem widths_any (n : Nat) (w : World) (h1 : 1 ≤ n) (h2 : n ≤ 4294967296) :
    Calls Try.prog 31 #[.int .u64 n] w (Says w (.tuple #[.int .i64 (wd n), .int .u64 (md n)])) := by
  have L := Lib.hid (fun w => len64_any n w h1 h2)
  have g1 := wd_pos n
  have g2 := wd_le h1 h2
  have g3 := md_le h1
  have hp : (2 : Nat) ^ wd n ≤ 8589934592 := Nat.pow_le_pow_right (n := 2) (j := 33) (by omega) g2
  generalize wd n = d at *
  generalize md n = m at *
  have hm : (m : Int) = IntKind.u64.wrap (IntKind.u64.wrap (2 ^ d) - n) := by
    rw [show ((2 : Int) ^ d) = ((2 ^ d : Nat) : Int) by simp, IntKind.wrap_u64, IntKind.wrap_u64]
    omega
  rw [hm]
  clear g3 hm hp
  go_enter Try.func31, Try.ntmps31
  go_wp2_with fail
  refine (L.out _).mono ?_
  rintro e w' ⟨rfl, rfl⟩
  go_wp2_with fail
  go_quiet (fail)
  go_wp2
  go_ret2
  exact ⟨rfl, below_drewN (Below.refl _ _) _⟩

end Go.Proofs.Ythkngjokbkfebaa

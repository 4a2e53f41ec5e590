/-
  The bits of a number of a range, as a text of 0 and 1: none begins another one's.
-/
import Derived.Test.YthkngjokbkfebaaBitBackM
namespace Go.Proofs.Ythkngjokbkfebaa

/-- Bit i of a number's bits. -/
def rbit (v n i : Nat) : Bool := (rngV v n).testBit (rngN v n - 1 - i)
/-- The text of a number's first k bits. -/
def rtext (v n : Nat) : Nat → List UInt8
  | 0 => []
  | k + 1 => rtext v n k ++ [if rbit v n k = true then 49 else 48]
theorem rtext_length (v n k : Nat) : (rtext v n k).length = k := by
  induction k with
  | zero => rfl
  | succ k ih => simp [rtext, ih]
theorem rtext_take (v n : Nat) {j k : Nat} (h : j ≤ k) : (rtext v n k).take j = rtext v n j := by
  induction k with
  | zero => rw [show j = 0 by omega]; rfl
  | succ k ih =>
    rcases Nat.lt_or_ge k j with h1 | h1
    · rw [show j = k + 1 by omega, List.take_of_length_le (by rw [rtext_length]; exact Nat.le_refl _)]
    · rw [rtext, List.take_append_of_le_length (by rw [rtext_length]; exact h1), ih h1]
theorem rtext_same {v u n k : Nat} (h : rtext v n k = rtext u n k) : ∀ i, i < k → rbit v n i = rbit u n i := by
  induction k with
  | zero => intro i hi; omega
  | succ k ih =>
    intro i hi
    rw [rtext, rtext] at h
    have h1 := List.append_inj' h rfl
    rcases Nat.lt_or_ge i k with hi1 | hi1
    · exact ih h1.1 i hi1
    · have hik : i = k := by omega
      subst hik
      have h2 := List.head_eq_of_cons_eq h1.2
      cases ha : rbit v n i <;> cases hb : rbit u n i <;> simp [ha, hb] at h2 ⊢
/-- The bytes of a number's bits. -/
def rbytes (v n : Nat) : List UInt8 := addS [] 0 (rngV v n) (rngN v n)
theorem rbytes_length (v n : Nat) : (rbytes v n).length = (rngN v n + 7) / 8 := by unfold rbytes; rw [addS_length, Nat.zero_add]
theorem bitAt_rbytes {v n i : Nat} (h : i < rngN v n) : bitAt (rbytes v n) i = rbit v n i := by
  unfold rbytes rbit
  rw [bitAt_addS, if_neg (by omega), decide_eq_true (by omega), Bool.true_and]
  congr 1
  omega
theorem rngN_le {v n : Nat} (hn : n ≤ 64) (h1 : 1 ≤ n) : rngN v n ≤ 7 := by
  have h2 := (wd_spec h1).1
  have : wd n ≤ 7 := by
    rcases Nat.lt_or_ge (wd n) 8 with h | h
    · omega
    · have := Nat.pow_le_pow_right (n := 2) (by omega) (show 7 ≤ wd n - 1 by omega)
      omega
  unfold rngN
  split <;> omega
/-- A range's number is read back, whatever follows. -/
theorem range_reads {v n : Nat} {T : List UInt8} (h1 : 1 ≤ n) (h2 : n ≤ 64) (hv : v < n) (hl : rngN v n ≤ 8 * T.length) (hb : ∀ i, i < rngN v n → bitAt T i = rbit v n i) :
    brngE T 0 0 n = 0 ∧ brngA T 0 0 n = ((rngN v n : Nat) : Int) ∧ brngV T 0 0 n = v := by
  have := (brng_read (T := T) (a := 0) h1 (by omega) hv (by omega) fun i hi _ => by rw [Nat.zero_add]; exact hb i hi).1 (by omega)
  rw [Nat.zero_add] at this
  exact this
/-- No number's bits begin another one's. -/
theorem range_free {v u n : Nat} (h1 : 1 ≤ n) (h2 : n ≤ 64) (hv : v < n) (hu : u < n) (hl : rngN v n ≤ rngN u n) (h : rtext v n (rngN v n) = (rtext u n (rngN u n)).take (rngN v n)) : v = u := by
  rw [rtext_take u n hl] at h
  have hs := rtext_same h
  have hlen := rbytes_length u n
  have a := range_reads (T := rbytes u n) h1 h2 hu (by omega) fun i hi => bitAt_rbytes hi
  have b := range_reads (T := rbytes u n) h1 h2 hv (by omega) fun i hi => by rw [bitAt_rbytes (by omega)]; exact (hs i hi).symm
  rw [← a.2.2, ← b.2.2]
/-- A bit is read. -/
theorem range_bit {v n i : Nat} (h : i < rngN v n) : bgetE (rbytes v n).length (i : Int) 0 1 = 0 ∧ bgetA (rbytes v n).length (i : Int) 0 1 = (i : Int) + 1 ∧ bgetV (rbytes v n) (i : Int) 0 1 = (rbit v n i).toNat := by
  have hlen := rbytes_length v n
  have := (bget_read (T := rbytes v n) (a := i) (n := 1) (v := (rbit v n i).toNat) (by omega) (by cases rbit v n i <;> decide) (by omega) (fun j hj _ => by
    obtain rfl : j = 0 := by omega
    rw [Nat.add_zero, bitAt_rbytes h]
    cases rbit v n i <;> rfl)).1 (by omega)
  exact this
/-- How many bits: as many as the range has digits, or one less. -/
theorem rngN_is (v n : Nat) : rngN v n = wd n ∨ rngN v n = wd n - 1 := by unfold rngN; split <;> simp

end Go.Proofs.Ythkngjokbkfebaa

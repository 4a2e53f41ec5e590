/-
  Numbers of any widths, and of any ranges, one behind the other: how many bits they have, where they stand, and that they are read as they were.
-/
import Derived.Test.YthkngjokbkfebaaBitN
namespace Go.Proofs.Ythkngjokbkfebaa

/-- A range's number at a place: its bits are those of rngV; it is read as it was, or some of it is missing. -/
theorem brng_read {T : List UInt8} {a v n : Nat} (h1 : 1 ≤ n) (h2 : n ≤ 4294967296) (hv : v < n) (ha : a ≤ 8 * T.length)
    (hb : ∀ i, i < rngN v n → a + i < 8 * T.length → bitAt T (a + i) = (rngV v n).testBit (rngN v n - 1 - i)) :
    (a + rngN v n ≤ 8 * T.length → brngE T a 0 n = 0 ∧ brngA T a 0 n = ((a + rngN v n : Nat) : Int) ∧ brngV T a 0 n = v) ∧ (8 * T.length < a + rngN v n → brngE T a 0 n = 2) := by
  have hr : readerB T.length a 0 = true := by simp [readerB]; omega
  have hE : brngE T a 0 n = if 8 * (T.length : Int) - a < (wd n : Int) - 1 then 2 else if numAt T a (wd n - 1) < md n then 0 else if 8 * (T.length : Int) - a < wd n then 2 else 0 := by
    unfold brngE; rw [if_pos ⟨hr, h1, h2⟩, Int.toNat_natCast]
  have hm := md_le h1
  have hw := wd_pos n
  by_cases hvm : v < md n
  · have hN : rngN v n = wd n - 1 := if_pos hvm
    have hV : rngV v n = v := if_pos hvm
    rw [hN, hV] at hb
    rw [hN]
    refine ⟨fun h => ?_, fun h => by rw [hE, if_pos (by omega)]⟩
    have hnum : numAt T a (wd n - 1) = v := numAt_of (by omega) fun i hi => hb i hi (by omega)
    have e0 : brngE T a 0 n = 0 := by rw [hE, if_neg (by omega), hnum, if_pos hvm]
    refine ⟨e0, ?_, ?_⟩
    · unfold brngA; rw [if_pos e0, Int.toNat_natCast, hnum, if_pos hvm]; omega
    · unfold brngV; rw [if_pos e0, Int.toNat_natCast, hnum, if_pos hvm]
  · have hN : rngN v n = wd n := if_neg hvm
    have hV : rngV v n = v + md n := if_neg hvm
    rw [hN, hV] at hb
    rw [hN]
    have hpw := wd_pow n
    have hhalf : ∀ h : a + (wd n - 1) ≤ 8 * T.length, numAt T a (wd n - 1) = (v + md n) / 2 := fun h => numAt_of (by omega) fun i hi => by
      rw [hb i (by omega) (by omega), ← Nat.testBit_succ]
      congr 1
      omega
    refine ⟨fun h => ?_, fun h => ?_⟩
    · have h3 := hhalf (by omega)
      have hnum : numAt T a (wd n) = v + md n := numAt_of (by omega) fun i hi => hb i hi (by omega)
      have hnot : ¬ (numAt T a (wd n - 1) < md n) := by rw [h3]; omega
      have e0 : brngE T a 0 n = 0 := by rw [hE, if_neg (by omega), if_neg hnot, if_neg (by omega)]
      refine ⟨e0, ?_, ?_⟩
      · unfold brngA; rw [if_pos e0, Int.toNat_natCast, if_neg hnot]; omega
      · unfold brngV; rw [if_pos e0, Int.toNat_natCast, if_neg hnot, hnum]; omega
    · by_cases h4 : 8 * (T.length : Int) - a < (wd n : Int) - 1
      · rw [hE, if_pos h4]
      · have h3 := hhalf (by omega)
        rw [hE, if_neg h4, if_neg (by rw [h3]; omega), if_pos (by omega)]
/-- A number of n bits at a place. -/
theorem bget_read {T : List UInt8} {a v n : Nat} (h2 : n ≤ 64) (hv : v < 2 ^ n) (ha : a ≤ 8 * T.length) (hb : ∀ i, i < n → a + i < 8 * T.length → bitAt T (a + i) = v.testBit (n - 1 - i)) :
    (a + n ≤ 8 * T.length → bgetE T.length a 0 n = 0 ∧ bgetA T.length a 0 n = ((a + n : Nat) : Int) ∧ bgetV T a 0 n = v) ∧ (8 * T.length < a + n → bgetE T.length a 0 n = 2) := by
  have hr : readerB T.length a 0 = true := by simp [readerB]; omega
  have hE : bgetE T.length a 0 n = if 8 * (T.length : Int) - a < n then 2 else 0 := if_pos ⟨hr, by omega, by omega⟩
  refine ⟨fun h => ?_, fun h => by rw [hE, if_pos (by omega)]⟩
  have e0 : bgetE T.length a 0 n = 0 := by rw [hE, if_neg (by omega)]
  refine ⟨e0, ?_, ?_⟩
  · unfold bgetA; rw [if_pos e0]; omega
  · unfold bgetV; rw [if_pos e0, Int.toNat_natCast, Int.toNat_natCast]; exact numAt_of hv fun i hi => hb i hi (by omega)

/-- What is put, its bits as a number, and how many. -/
def valOf (b : Bool) (d z : Nat) : Nat := if b = true then z % (d + 1) else if d % 65 < 64 then z % 2 ^ (d % 65) else z
def rawOf (b : Bool) (d z : Nat) : Nat := if b = true then rngV (valOf b d z) (d + 1) else valOf b d z
def cntOf (b : Bool) (d z : Nat) : Nat := if b = true then rngN (valOf b d z) (d + 1) else d % 65
theorem raw_lt (b : Bool) (d z : Nat) (hz : z < 18446744073709551616) : rawOf b d z < 2 ^ cntOf b d z := by
  unfold rawOf cntOf
  by_cases hb : b = true
  · rw [if_pos hb, if_pos hb]
    exact rngV_lt (by omega) (by unfold valOf; rw [if_pos hb]; exact Nat.mod_lt _ (by omega))
  · rw [if_neg hb, if_neg hb]
    unfold valOf
    rw [if_neg hb]
    by_cases h : d % 65 < 64
    · rw [if_pos h]; exact Nat.mod_lt _ (Nat.pow_pos (by omega))
    · rw [if_neg h, show d % 65 = 64 by omega]; exact hz
theorem cnt_le (b : Bool) (d z : Nat) (hd : d ≤ 255) : cntOf b d z ≤ 64 := by
  unfold cntOf
  split
  · have h1 := (wd_spec (n := d + 1) (by omega)).1
    have : wd (d + 1) ≤ 9 := by
      rcases Nat.lt_or_ge (wd (d + 1)) 10 with h | h
      · omega
      · have h3 : (2 : Nat) ^ 9 ≤ 2 ^ (wd (d + 1) - 1) := Nat.pow_le_pow_right (by omega) (by omega)
        have h4 : (2 : Nat) ^ 9 = 512 := by decide
        omega
    unfold rngN
    split <;> omega
  · omega

/-- The bytes, and how many bits, behind the first i numbers. -/
def stM (B : Nat → Bool) (d z : Nat → Nat) : Nat → Nat
  | 0 => 0
  | i + 1 => stM B d z i + cntOf (B i) (d i) (z i)
def stS (B : Nat → Bool) (d z : Nat → Nat) : Nat → List UInt8
  | 0 => []
  | i + 1 => addS (stS B d z i) (stM B d z i) (rawOf (B i) (d i) (z i)) (cntOf (B i) (d i) (z i))
section
variable {B : Nat → Bool} {d z : Nat → Nat}
theorem stS_right (i : Nat) : inkB (stS B d z i) ((stM B d z i : Nat) : Int) = true := by
  cases i with
  | zero => exact (by decide : inkB [] ((0 : Nat) : Int) = true)
  | succ i => exact addS_right _ _ _ _
theorem stS_length (i : Nat) : (stS B d z i).length = (stM B d z i + 7) / 8 := by
  have := (inkB_iff.1 (stS_right (B := B) (d := d) (z := z) i)).2.1
  rwa [Int.toNat_natCast] at this
theorem stM_mono {i j : Nat} (h : i ≤ j) : stM B d z i ≤ stM B d z j := by
  induction j with
  | zero => rw [show i = 0 by omega]; exact Nat.le_refl _
  | succ j ih =>
    rcases Nat.lt_or_ge i (j + 1) with h1 | h1
    · exact Nat.le_trans (ih (by omega)) (by simp [stM])
    · rw [show i = j + 1 by omega]; exact Nat.le_refl _
theorem stM_le {i : Nat} (hd : ∀ k, k < i → d k ≤ 255) : stM B d z i ≤ 64 * i := by
  induction i with
  | zero => simp [stM]
  | succ i ih =>
    have := ih fun k hk => hd k (by omega)
    have := cnt_le (B i) (d i) (z i) (hd i (by omega))
    simp only [stM]
    omega
theorem stS_keep {i j p : Nat} (h : i ≤ j) (hp : p < stM B d z i) : bitAt (stS B d z j) p = bitAt (stS B d z i) p := by
  induction j with
  | zero => rw [show i = 0 by omega]
  | succ j ih =>
    rcases Nat.lt_or_ge i (j + 1) with h1 | h1
    · have hm := stM_mono (B := B) (d := d) (z := z) (show i ≤ j by omega)
      rw [stS, bitAt_addS, if_pos (by omega)]
      exact ih (by omega)
    · rw [show i = j + 1 by omega]
/-- The bits of number i, in the bytes behind all of them. -/
theorem stS_bits {i N k : Nat} (h : i < N) (hk : k < cntOf (B i) (d i) (z i)) : bitAt (stS B d z N) (stM B d z i + k) = (rawOf (B i) (d i) (z i)).testBit (cntOf (B i) (d i) (z i) - 1 - k) := by
  rw [stS_keep (i := i + 1) (by omega) (by simp only [stM]; omega), stS, bitAt_addS, if_neg (by omega), decide_eq_true (by omega), Bool.true_and]
  congr 1
  omega
/-- A cut by a byte leaves something out. -/
theorem stS_cut {N : Nat} (h : (stS B d z N).length ≠ 0) : 8 * ((stS B d z N).length - 1) < stM B d z N := by
  rw [stS_length] at *
  omega
theorem stS_whole (N : Nat) : stM B d z N ≤ 8 * (stS B d z N).length ∧ 8 * (stS B d z N).length - stM B d z N < 8 := by
  rw [stS_length]
  omega
/-- What is read of number i, of the bytes or of those ahead of the last one. -/
theorem st_read {i N : Nat} {T : List UInt8} (h : i < N) (hT : ∀ p, p < 8 * T.length → bitAt T p = bitAt (stS B d z N) p) (ha : stM B d z i ≤ 8 * T.length) (hd : d i ≤ 255) (hz : z i < 18446744073709551616) :
    (B i = true → (stM B d z (i + 1) ≤ 8 * T.length → brngE T (stM B d z i) 0 (d i + 1) = 0 ∧ brngA T (stM B d z i) 0 (d i + 1) = ((stM B d z (i + 1) : Nat) : Int) ∧ brngV T (stM B d z i) 0 (d i + 1) = valOf (B i) (d i) (z i)) ∧ (8 * T.length < stM B d z (i + 1) → brngE T (stM B d z i) 0 (d i + 1) = 2)) ∧
    (B i = false → (stM B d z (i + 1) ≤ 8 * T.length → bgetE T.length (stM B d z i) 0 ((d i % 65 : Nat) : Int) = 0 ∧ bgetA T.length (stM B d z i) 0 ((d i % 65 : Nat) : Int) = ((stM B d z (i + 1) : Nat) : Int) ∧ bgetV T (stM B d z i) 0 ((d i % 65 : Nat) : Int) = valOf (B i) (d i) (z i)) ∧ (8 * T.length < stM B d z (i + 1) → bgetE T.length (stM B d z i) 0 ((d i % 65 : Nat) : Int) = 2)) := by
  have hbits : ∀ k, k < cntOf (B i) (d i) (z i) → stM B d z i + k < 8 * T.length → bitAt T (stM B d z i + k) = (rawOf (B i) (d i) (z i)).testBit (cntOf (B i) (d i) (z i) - 1 - k) := fun k hk hk2 => by
    rw [hT _ hk2, stS_bits h hk]
  have hs : stM B d z (i + 1) = stM B d z i + cntOf (B i) (d i) (z i) := rfl
  rw [hs]
  have hrl := raw_lt (B i) (d i) (z i) hz
  refine ⟨fun hb => ?_, fun hb => ?_⟩
  · have hc : cntOf (B i) (d i) (z i) = rngN (valOf (B i) (d i) (z i)) (d i + 1) := if_pos hb
    have hr : rawOf (B i) (d i) (z i) = rngV (valOf (B i) (d i) (z i)) (d i + 1) := if_pos hb
    rw [hc, hr] at hbits
    rw [hc]
    exact brng_read (by omega) (by omega) (by unfold valOf; rw [if_pos hb]; exact Nat.mod_lt _ (by omega)) ha hbits
  · have hne : ¬ (B i = true) := by rw [hb]; decide
    have hc : cntOf (B i) (d i) (z i) = d i % 65 := if_neg hne
    have hr : rawOf (B i) (d i) (z i) = valOf (B i) (d i) (z i) := if_neg hne
    rw [hc, hr] at hbits hrl
    rw [hc]
    exact bget_read (by omega) hrl ha hbits
end

end Go.Proofs.Ythkngjokbkfebaa

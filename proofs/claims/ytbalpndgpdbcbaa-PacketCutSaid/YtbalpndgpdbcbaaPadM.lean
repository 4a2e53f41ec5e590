/-
  Filling up to words and trailers as plain functions of lists of bytes.
-/
import GoSem.Claim
namespace Go.Proofs.Ytbalpndgpdbcbaa

/-- How many bytes are missing to whole words. -/
def miss (n : Nat) : Nat := (4 - n % 4) % 4
/-- The number that Round answers. -/
def roundN (n : Int) : Int := if n < 0 ∨ n > 2147483648 then 0 else n + miss n.toNat
theorem miss_lt (n : Nat) : miss n < 4 := by unfold miss; omega
theorem miss_whole (n : Nat) : (n + miss n) % 4 = 0 := by unfold miss; omega
theorem miss_zero {n : Nat} (h : n % 4 = 0) : miss n = 0 := by unfold miss; omega
theorem miss_pos {n j : Nat} (h : j < miss n) : (n + j) % 4 ≠ 0 := by unfold miss at h; omega
theorem roundN_no {n : Int} (h : n < 0 ∨ n > 2147483648) : roundN n = 0 := if_pos h
theorem roundN_yes {n : Nat} (h : n ≤ 2147483648) : roundN n = ((n + miss n : Nat) : Int) := by
  unfold roundN; rw [if_neg (by omega), Int.toNat_natCast]; omega

/-- The bytes s with n bytes 0 behind them. -/
def grownB (s : List UInt8) (n : Nat) : List UInt8 := s ++ List.replicate n 0
def fillB (s : List UInt8) : List UInt8 := grownB s (miss s.length)
theorem grownB_length (s : List UInt8) (n : Nat) : (grownB s n).length = s.length + n := by simp [grownB]
theorem grownB_zero (s : List UInt8) : grownB s 0 = s := by simp [grownB]
theorem grownB_succ (s : List UInt8) (n : Nat) : grownB s n ++ [0] = grownB s (n + 1) := by
  unfold grownB; rw [List.append_assoc, ← List.replicate_succ']
theorem fillB_length (s : List UInt8) : (fillB s).length = s.length + miss s.length := grownB_length _ _
theorem fillB_fill (s : List UInt8) : fillB (fillB s) = fillB s := by
  have h : miss (fillB s).length = 0 := by rw [fillB_length]; exact miss_zero (miss_whole _)
  rw [show fillB (fillB s) = grownB (fillB s) (miss (fillB s).length) from rfl, h, grownB_zero]
theorem fillB_take (s : List UInt8) : (fillB s).take s.length = s := by simp [fillB, grownB]
theorem fillB_drop (s : List UInt8) : (fillB s).drop s.length = List.replicate (miss s.length) 0 := by simp [fillB, grownB]

/-- Are all bytes 0? -/
def zeroB (s : List UInt8) : Bool := s.all fun x => x.toNat == 0
theorem zeroB_snoc (s : List UInt8) (k : Nat) (h : k < s.length) : zeroB (s.take (k + 1)) = (zeroB (s.take k) && ((s.getD k 0).toNat == 0)) := by
  unfold zeroB
  rw [List.take_succ_eq_append_getElem h, List.all_append]
  simp [List.getD, List.getElem?_eq_getElem h]
theorem zeroB_take {s : List UInt8} {k : Nat} (h : k < s.length) (hk : (s.getD k 0).toNat ≠ 0) : zeroB s = false := by
  unfold zeroB
  rw [List.all_eq_false]
  refine ⟨s[k], List.getElem_mem _, ?_⟩
  simp only [List.getD, List.getElem?_eq_getElem h, Option.getD_some] at hk
  simpa using hk
theorem zeroB_replicate (n : Nat) : zeroB (List.replicate n 0) = true := by
  unfold zeroB
  rw [List.all_eq_true]
  intro x hx
  rw [List.mem_replicate] at hx
  rw [hx.2]; rfl

/-- How many bytes the trailer has; 0: there is none. -/
def trailN (s : List UInt8) : Nat := if (s.getD (s.length - 1) 0).toNat ≤ s.length then (s.getD (s.length - 1) 0).toNat else 0
def trailE (s : List UInt8) : Int := if trailN s = 0 then 5 else 0
def cleanB (s : List UInt8) : Bool := decide (0 < trailN s) && zeroB ((s.drop (s.length - trailN s)).take (trailN s - 1))
theorem trailN_le (s : List UInt8) : trailN s ≤ s.length := by unfold trailN; split <;> omega
theorem trailN_nil : trailN [] = 0 := rfl
theorem trailN_lt (s : List UInt8) : trailN s < 256 := by
  have := (s.getD (s.length - 1) 0).toNat_lt
  unfold trailN; split <;> omega
theorem cleanB_no {s : List UInt8} (h : trailN s = 0) : cleanB s = false := by unfold cleanB; rw [h]; rfl
theorem cleanB_yes {s : List UInt8} (h : trailN s ≠ 0) : cleanB s = zeroB ((s.drop (s.length - trailN s)).take (trailN s - 1)) := by
  unfold cleanB
  rw [decide_eq_true (by omega), Bool.true_and]

/-- The bytes with a clean trailer of n bytes behind them. -/
def addB (s : List UInt8) (n : Nat) : List UInt8 := grownB s (n - 1) ++ [UInt8.ofNat n]
theorem addB_length (s : List UInt8) {n : Nat} (h : 1 ≤ n) : (addB s n).length = s.length + n := by simp [addB, grownB_length]; omega
theorem addB_eq (s : List UInt8) {n : Nat} (h : 1 ≤ n) : (grownB s n).set (s.length + n - 1) (UInt8.ofNat n) = addB s n := by
  obtain ⟨m, rfl⟩ : ∃ m, n = m + 1 := ⟨n - 1, by omega⟩
  rw [← grownB_succ, addB, Nat.add_sub_cancel]
  have e : s.length + (m + 1) - 1 = (grownB s m).length := by rw [grownB_length]; omega
  rw [e, List.set_append_right _ _ (Nat.le_refl _), Nat.sub_self]
  rfl
theorem addB_last (s : List UInt8) {n : Nat} (_h : 1 ≤ n) : (addB s n).getD ((addB s n).length - 1) 0 = UInt8.ofNat n := by
  unfold addB
  rw [List.length_append, List.length_singleton, Nat.add_sub_cancel, List.getD_eq_getElem?_getD, List.getElem?_append_right (Nat.le_refl _), Nat.sub_self]
  rfl
theorem addB_trail (s : List UInt8) {n : Nat} (h : 1 ≤ n) (h2 : n ≤ 255) : trailN (addB s n) = n := by
  have e : (UInt8.ofNat n).toNat = n := by rw [UInt8.toNat_ofNat']; simp only [Nat.reducePow]; omega
  unfold trailN
  rw [addB_last s h, e, addB_length s h, if_pos (by omega)]
theorem addB_take (s : List UInt8) (n : Nat) : (addB s n).take s.length = s := by simp [addB, grownB]
theorem addB_clean (s : List UInt8) {n : Nat} (h : 1 ≤ n) (h2 : n ≤ 255) : cleanB (addB s n) = true := by
  rw [cleanB_yes (by rw [addB_trail s h h2]; omega), addB_trail s h h2, addB_length s h, Nat.add_sub_cancel]
  have : ((addB s n).drop s.length).take (n - 1) = List.replicate (n - 1) 0 := by simp [addB, grownB]
  rw [this]
  exact zeroB_replicate _
/-- A trailer, turned ahead of its last byte. -/
theorem addB_turned (s : List UInt8) {n k : Nat} (h2 : n ≤ 255) (hk : k < n - 1) {x : UInt8} (hx : x.toNat ≠ 0) :
    trailN ((addB s n).set (s.length + k) x) = n ∧ cleanB ((addB s n).set (s.length + k) x) = false := by
  have h : 1 ≤ n := by omega
  have hl := addB_length s h
  have e0 : ((addB s n).set (s.length + k) x).getD (((addB s n).set (s.length + k) x).length - 1) 0 = UInt8.ofNat n := by
    rw [List.length_set, List.getD_eq_getElem?_getD, List.getElem?_set_ne (by omega), ← List.getD_eq_getElem?_getD]
    exact addB_last s h
  have e : (UInt8.ofNat n).toNat = n := by rw [UInt8.toNat_ofNat']; simp only [Nat.reducePow]; omega
  have e1 : trailN ((addB s n).set (s.length + k) x) = n := by
    unfold trailN
    rw [e0, e, List.length_set, hl, if_pos (by omega)]
  refine ⟨e1, ?_⟩
  rw [cleanB_yes (by omega), e1, List.length_set, hl, Nat.add_sub_cancel]
  refine zeroB_take (k := k) ?_ ?_
  · simp [hl]; omega
  · rw [List.getD_eq_getElem?_getD, List.getElem?_take_of_lt hk, List.getElem?_drop, List.getElem?_set_self (by omega)]
    simpa using hx

end Go.Proofs.Ytbalpndgpdbcbaa

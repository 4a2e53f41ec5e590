/-
  Plain arithmetic of numbers in bytes: numbers that are written, and read, in two parts.
-/
import Derived.Test.YthkngjokbkfebaaBitM
namespace Go.Proofs.Ythkngjokbkfebaa

/-- A number that is written in two parts. -/
theorem addS_parts (s : List UInt8) (m v x y : Nat) : addS (addS s m (v / 2 ^ y) x) (m + x) (v % 2 ^ y) y = addS s m v (x + y) := by
  have h : ∀ i, bitAt (addS (addS s m (v / 2 ^ y) x) (m + x) (v % 2 ^ y) y) i = addF s m v (x + y) i := by
    intro i
    rw [bitAt_addS]
    unfold addF
    by_cases h1 : i < m + x
    · rw [if_pos h1, bitAt_addS]
      by_cases h2 : i < m
      · rw [if_pos h2, if_pos h2]
      · rw [if_neg h2, if_neg h2, decide_eq_true h1, decide_eq_true (show i < m + (x + y) by omega), Nat.testBit_div_two_pow]
        congr 2
        omega
    · rw [if_neg h1, if_neg (show ¬ i < m by omega)]
      by_cases h2 : i < m + x + y
      · rw [decide_eq_true h2, decide_eq_true (show i < m + (x + y) by omega), Nat.testBit_mod_two_pow, decide_eq_true (show m + x + y - 1 - i < y by omega), Bool.true_and, Bool.true_and, Bool.true_and]
        congr 1
        omega
      · rw [decide_eq_false h2, decide_eq_false (show ¬ i < m + (x + y) by omega)]
        rfl
  refine eq_pk ?_ fun i _ => h i
  rw [addS_length]
  congr 2
  omega
/-- A number that is read in two parts. -/
theorem bget_parts (s : List UInt8) (a err : Int) (x y : Nat) (hx : x ≤ 32) (hy : y ≤ 31) :
    (bgetE s.length (bgetA s.length a err x) (bgetE s.length a err x) y = 0 → bgetE s.length a err ((x + y : Nat) : Int) = 0 ∧ bgetA s.length a err ((x + y : Nat) : Int) = bgetA s.length (bgetA s.length a err x) (bgetE s.length a err x) y ∧
      bgetV s a err ((x + y : Nat) : Int) = bgetV s a err x * 2 ^ y + bgetV s (bgetA s.length a err x) (bgetE s.length a err x) y) ∧
    (bgetE s.length (bgetA s.length a err x) (bgetE s.length a err x) y ≠ 0 → bgetE s.length a err ((x + y : Nat) : Int) ≠ 0) := by
  by_cases hr : err = 0 ∧ 0 ≤ a ∧ a ≤ 8 * (s.length : Int)
  · obtain ⟨rfl, h0, h1⟩ := hr
    have hrd : readerB s.length a 0 = true := by simp [readerB, h0, h1]
    obtain ⟨a, rfl⟩ := Int.eq_ofNat_of_zero_le h0
    have e3 : bgetE s.length a 0 ((x + y : Nat) : Int) = if 8 * (s.length : Int) - a < ((x + y : Nat) : Int) then 2 else 0 := if_pos ⟨hrd, by omega, by omega⟩
    have e1 : bgetE s.length a 0 x = if 8 * (s.length : Int) - a < x then 2 else 0 := if_pos ⟨hrd, by omega, by omega⟩
    by_cases h2 : 8 * (s.length : Int) - a < x
    · rw [if_pos h2] at e1
      rw [if_pos (by omega)] at e3
      have e2 : bgetE s.length (bgetA s.length a 0 x) (bgetE s.length a 0 x) y ≠ 0 := by
        rw [e1]
        unfold bgetE
        rw [if_neg (by intro h; simp [readerB] at h), if_neg (by decide)]
        decide
      exact ⟨fun h => absurd h e2, fun _ => by rw [e3]; decide⟩
    · rw [if_neg h2] at e1
      have ea : bgetA s.length a 0 x = ((a + x : Nat) : Int) := by unfold bgetA; rw [if_pos e1]; omega
      have hrd2 : readerB s.length ((a + x : Nat) : Int) 0 = true := by simp [readerB]; omega
      have ev : bgetV s a 0 x = numAt s a x := by unfold bgetV; rw [if_pos e1, Int.toNat_natCast, Int.toNat_natCast]
      rw [e1, ea, ev]
      have e2 : bgetE s.length ((a + x : Nat) : Int) 0 y = if 8 * (s.length : Int) - ((a + x : Nat) : Int) < y then 2 else 0 := if_pos ⟨hrd2, by omega, by omega⟩
      by_cases h3 : 8 * (s.length : Int) - ((a + x : Nat) : Int) < y
      · rw [if_pos h3] at e2
        rw [if_pos (by omega)] at e3
        exact ⟨(fun h => by rw [e2] at h; exact absurd h (by decide)), fun _ => by rw [e3]; decide⟩
      · rw [if_neg h3] at e2
        rw [if_neg (by omega)] at e3
        refine ⟨fun _ => ⟨e3, ?_, ?_⟩, fun h => absurd e2 h⟩
        · unfold bgetA; rw [if_pos e3, if_pos e2]; omega
        · unfold bgetV; rw [if_pos e3, if_pos e2, Int.toNat_natCast, Int.toNat_natCast, Int.toNat_natCast, Int.toNat_natCast, numAt_add]
  · have hrd : ¬ (readerB s.length a err = true) := by simpa [readerB] using hr
    have ne : ∀ k, bgetE s.length a err k ≠ 0 := fun k => by
      unfold bgetE
      rw [if_neg (fun h => hrd h.1)]
      split <;> omega
    have e2 : bgetE s.length (bgetA s.length a err x) (bgetE s.length a err x) y ≠ 0 := by
      have := ne x
      generalize bgetE s.length a err x = q at *
      unfold bgetE
      rw [if_neg (by intro h; simp [readerB] at h; exact this h.1.1), if_neg this]
      exact this
    exact ⟨fun h => absurd h e2, fun _ => ne _⟩

end Go.Proofs.Ythkngjokbkfebaa

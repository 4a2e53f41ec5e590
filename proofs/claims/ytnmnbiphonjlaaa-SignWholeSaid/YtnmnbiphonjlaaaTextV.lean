/-
  The words of a text, sign by sign.
-/
import Derived.Test.YtnmnbiphonjlaaaTextM
namespace Go.Proofs.Ytnmnbiphonjlaaa

/-- What stands at the end of a text: quotes open, the word so far, the words ahead. -/
def wordsEnd (q : Bool) (w : List UInt8) (o : List (List UInt8)) : Option (List (List UInt8)) := if q = true ∨ w = [] then none else some (o ++ [w])
/-- The words of what is still to be gone through: q: within quotes, b: behind a stroke, w: the word so far, o: the words ahead. -/
def wordsF : Nat → List UInt8 → Bool → Bool → List UInt8 → List (List UInt8) → Option (List (List UInt8))
  | 0, _, q, _, w, o => wordsEnd q w o
  | k + 1, S, q, b, w, o =>
    if S = [] then wordsEnd q w o
    else if b = true then wordsF k (S.drop (step S)) q false (w ++ S.take (step S)) o
    else if q = true ∧ bt S 0 = 92 then wordsF k (S.drop (step S)) q true (w ++ S.take (step S)) o
    else if bt S 0 = 34 then wordsF k (S.drop (step S)) (!q) false (w ++ S.take (step S)) o
    else if bt S 0 = 32 ∧ q = false then (if w = [] then none else wordsF k (S.drop (step S)) q false [] (o ++ [w]))
    else wordsF k (S.drop (step S)) q false (w ++ S.take (step S)) o
def wordsG (S : List UInt8) (q b : Bool) (w : List UInt8) (o : List (List UInt8)) : Option (List (List UInt8)) := wordsF S.length S q b w o
def wordsB (S : List UInt8) : Option (List (List UInt8)) := wordsG S false false [] []
theorem wordsF_fuel {n m : Nat} : ∀ {S : List UInt8} {q b : Bool} {w : List UInt8} {o : List (List UInt8)}, S.length ≤ n → S.length ≤ m → wordsF n S q b w o = wordsF m S q b w o := by
  induction n generalizing m with
  | zero =>
    intro S q b w o h _
    obtain rfl : S = [] := List.eq_nil_of_length_eq_zero (by omega)
    cases m <;> rfl
  | succ n ih =>
    intro S q b w o h1 h2
    cases m with
    | zero =>
      obtain rfl : S = [] := List.eq_nil_of_length_eq_zero (by omega)
      rfl
    | succ m =>
      by_cases hS : S = []
      · subst hS; rfl
      · have a1 := drop_short hS h1 (step_pos S)
        have a2 := drop_short hS h2 (step_pos S)
        have e : ∀ {q b : Bool} {w : List UInt8} {o : List (List UInt8)}, wordsF n (S.drop (step S)) q b w o = wordsF m (S.drop (step S)) q b w o := fun {q b w o} => ih a1 a2
        rw [wordsF, wordsF, if_neg hS, if_neg hS]
        simp only [e]
theorem wordsG_nil (q b : Bool) (w : List UInt8) (o : List (List UInt8)) : wordsG [] q b w o = wordsEnd q w o := rfl
theorem wordsG_cons {S : List UInt8} (hS : S ≠ []) (q b : Bool) (w : List UInt8) (o : List (List UInt8)) : wordsG S q b w o =
    if b = true then wordsG (S.drop (step S)) q false (w ++ S.take (step S)) o
    else if q = true ∧ bt S 0 = 92 then wordsG (S.drop (step S)) q true (w ++ S.take (step S)) o
    else if bt S 0 = 34 then wordsG (S.drop (step S)) (!q) false (w ++ S.take (step S)) o
    else if bt S 0 = 32 ∧ q = false then (if w = [] then none else wordsG (S.drop (step S)) q false [] (o ++ [w]))
    else wordsG (S.drop (step S)) q false (w ++ S.take (step S)) o := by
  obtain ⟨n, hn⟩ : ∃ n, S.length = n + 1 := ⟨S.length - 1, by have := List.length_pos_iff.2 hS; omega⟩
  have hd : ∀ {q b w o}, wordsF n (S.drop (step S)) q b w o = wordsG (S.drop (step S)) q b w o := fun {q b w o} => wordsF_fuel (drop_short hS (by omega) (step_pos S)) (Nat.le_refl _)
  conv => lhs; unfold wordsG; rw [hn, wordsF, if_neg hS]
  simp only [hd]

end Go.Proofs.Ytnmnbiphonjlaaa

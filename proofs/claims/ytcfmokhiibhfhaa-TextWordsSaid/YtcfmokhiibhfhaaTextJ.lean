/-
  Words with a blank between two: read as these words; with a blank ahead or behind they are none.
-/
import Derived.Test.YtcfmokhiibhfhaaTextT
namespace Go.Proofs.Ytcfmokhiibhfhaa

/-- A word that is gone through as one part of a word. -/
def cleanW (v : List UInt8) : Prop := v ≠ [] ∧ ∀ R w o, wordsG (v ++ R) false false w o = wordsG R false false (w ++ v) o
theorem clean_quote (S : List UInt8) : cleanW (quoteB S) := ⟨by unfold quoteB; simp, fun R w o => words_quote S R w o⟩
theorem clean_token {T : List UInt8} (h : ∀ c ∈ T, tokC' c.toNat) (hT : T ≠ []) : cleanW T := ⟨hT, fun R w o => words_token h R w o⟩
theorem laid_nil (w : List UInt8) : laid [] w = w := rfl
theorem laid_cons (v : List UInt8) (o : List (List UInt8)) (w : List UInt8) : laid (v :: o) w = v ++ 32 :: laid o w := by unfold laid; simp
theorem words_of_laid {o : List (List UInt8)} {v : List UInt8} (ho : ∀ x ∈ o, cleanW x) (hv : cleanW v) (R : List UInt8) (o0 : List (List UInt8)) : wordsG (laid o v ++ R) false false [] o0 = wordsG R false false v (o0 ++ o) := by
  induction o generalizing o0 with
  | nil => rw [laid_nil, hv.2, List.append_nil]; rfl
  | cons x o ih =>
    have hx := ho x (by simp)
    rw [laid_cons, List.append_assoc, hx.2, List.cons_append, words_blank, List.nil_append, if_neg hx.1, ih (fun y hy => ho y (by simp [hy])), List.append_assoc]; rfl
theorem words_all {o : List (List UInt8)} {v : List UInt8} (ho : ∀ x ∈ o, cleanW x) (hv : cleanW v) : wordsB (laid o v) = some (o ++ [v]) := by
  unfold wordsB
  have := words_of_laid ho hv [] []
  rw [List.append_nil] at this
  rw [this, wordsG_nil, List.nil_append]
  unfold wordsEnd
  rw [if_neg (fun h => h.elim (by decide) hv.1)]
theorem words_behind {o : List (List UInt8)} {v : List UInt8} (ho : ∀ x ∈ o, cleanW x) (hv : cleanW v) : wordsB (laid o v ++ [32]) = none := by
  unfold wordsB
  rw [words_of_laid ho hv [32] [], words_blank, if_neg hv.1, wordsG_nil]
  rfl
theorem words_ahead (R : List UInt8) : wordsB (32 :: R) = none := by
  unfold wordsB
  rw [words_blank]; rfl
/-- What is read as words, put together again. -/
theorem words_again {S : List UInt8} {r : List (List UInt8)} (h : wordsB S = some r) : ∃ o v, r = o ++ [v] ∧ laid o v = S := by
  obtain ⟨o, v, h1, h2, _⟩ := words_laid S h
  exact ⟨o, v, h1, by rw [h2]; rfl⟩
/-- One word more. -/
theorem laid_more (l : List (List UInt8)) (k : Nat) (h : k + 1 < l.length) : laid (l.take (k + 1)) (l[k + 1]'h) = laid (l.take k) (l[k]'(by omega)) ++ (32 :: (l[k + 1]'h)) := by
  rw [List.take_succ_eq_append_getElem (by omega), laid_snoc]
  unfold laid
  rw [List.append_assoc]

theorem laid_sizes (o : List (List UInt8)) (v : List UInt8) : (∀ x ∈ o ++ [v], x.length ≤ (laid o v).length) ∧ o.length ≤ (laid o v).length := by
  induction o with
  | nil => exact ⟨by intro x hx; simp at hx; rw [hx]; exact Nat.le_refl _, Nat.zero_le _⟩
  | cons y o ih =>
    rw [laid_cons]
    refine ⟨fun x hx => ?_, by simp; omega⟩
    rw [List.cons_append, List.mem_cons] at hx
    rw [List.length_append, List.length_cons]
    rcases hx with rfl | hx
    · omega
    · have := ih.1 x hx; omega
/-- Words aren't more, nor longer, than what they are read from. -/
theorem words_sizes {S : List UInt8} {r : List (List UInt8)} (h : wordsB S = some r) : (∀ x ∈ r, x.length ≤ S.length) ∧ r.length ≤ S.length + 1 ∧ r ≠ [] := by
  obtain ⟨o, v, rfl, h2⟩ := words_again h
  obtain ⟨a, b⟩ := laid_sizes o v
  rw [h2] at a b
  exact ⟨a, by simp; omega, by simp⟩

end Go.Proofs.Ytcfmokhiibhfhaa

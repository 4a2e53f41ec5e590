/-
  What the document's own answers for layer 6 come to: Read, Canon.
-/
import Derived.Test.YtogjkkhboaflcaaPackR5
namespace Go.Proofs.Ytogjkkhboaflcaa
open Go.RowKit
set_option linter.unusedVariables false
set_option linter.unusedSimpArgs false

theorem rpread_any (A : Option Addr) (l c : Nat) (s : List UInt8) (w : World) (hs : Bs w A l c s) (hl : l ≤ 140737488355328) :
    Calls Try.prog 17 #[.slice A l c] w (GivesP w (readP s) (pErr s)) := by
  have hsl := hs.len
  unfold readP
  by_cases h0 : 65535 < l
  · have he : pErr s = 4 := if_pos (by omega)
    rw [he, if_neg (by omega)]
    exact rpread_long A l c s w hs hl h0
  · by_cases h1 : hErr s = 0
    · by_cases hx : (readH s).ext = true ∧ (l < readN s + 4 ∨ l < readN s + 4 + 4 * wordsP s)
      · have he : pErr s = 2 := by unfold pErr; rw [if_neg (by omega), if_neg (by omega), hsl, if_pos hx]
        rw [he, if_neg (by omega)]
        by_cases h4 : l < readN s + 4
        · exact rpread_short4 A l c s w hs (by omega) h1 hx.1 h4
        · exact rpread_shortW A l c s w hs (by omega) h1 hx.1 (by omega) (by have := hx.2; omega)
      · have he : pErr s = if (readH s).pad = true ∧ padP s = 0 then 5 else 0 := by unfold pErr; rw [if_neg (by omega), if_neg (by omega), hsl, if_neg hx]
        have hr := rpread_rest A l c s w hs (by omega) h1 (fun e => by
          have : ¬ (l < readN s + 4 ∨ l < readN s + 4 + 4 * wordsP s) := fun o => hx ⟨e, o⟩
          omega)
        rw [he]
        by_cases hp : (readH s).pad = true ∧ padP s = 0
        · rw [if_pos hp] at hr ⊢
          rw [if_pos hp] at hr
          rw [if_neg (by omega)]
          exact hr
        · rw [if_neg hp] at hr ⊢
          rw [if_neg hp] at hr
          rw [if_pos rfl]
          exact hr
    · have he : pErr s = hErr s := by unfold pErr; rw [if_neg (by omega), if_pos h1]
      rw [he, if_neg h1]
      exact rpread_head A l c s w hs (by omega) h1

/-- What is read is right. -/
theorem packOf_right {s : List UInt8} (h : pErr s = 0) : rightP (packOf s) = true ∧ fitsP (packOf s) := by
  obtain ⟨h1, h2, h3, h4, h5, h6⟩ := pErr_zero h
  have hr := readH_right h2
  have hw := num_lt2 s (readN s + 2)
  have hp := num_lt2 s (readN s)
  have hcs : 12 + 4 * (readH s).csrc.length = readN s := by
    have e := congrArg List.length hr.2.2.1
    rw [headB_length, List.length_take] at e
    omega
  have hN : 12 ≤ readN s ∧ readN s ≤ s.length := hr.2.2.2
  refine ⟨?_, hr.2.1, ?_⟩
  · unfold rightP
    rw [decide_eq_true_eq]
    have hat : atP s = readN s + (if (readH s).ext = true then 4 + 4 * wordsP s else 0) := rfl
    have hel : (packOf s).ext.length = if (readH s).ext = true then 4 * wordsP s else 0 := by
      show (if (readH s).ext = true then (s.drop (readN s + 4)).take (4 * wordsP s) else []).length = _
      split
      · have := h4 (by assumption)
        rw [List.length_take, List.length_drop]; omega
      · rfl
    have hpy : (packOf s).pay.length = s.length - padP s - atP s := by
      show ((s.drop (atP s)).take (s.length - padP s - atP s)).length = _
      rw [List.length_take, List.length_drop]; omega
    have hwl : wordsP s < 65536 := hw
    refine ⟨hr.1, by rw [hpy]; omega, by rw [hel]; split <;> omega, by rw [hel]; split <;> omega, fun e => ⟨?_, ?_⟩, fun e => ?_, fun e => ?_, ?_⟩
    · show (if (readH s).ext = true then _ else 0) = 0
      rw [if_neg (by rw [show (readH s).ext = false from e]; simp)]
    · rw [hel, if_neg (by rw [show (readH s).ext = false from e]; simp)]
    · have := h5 e
      show 1 ≤ ((padP s : Nat) : Int) ∧ ((padP s : Nat) : Int) ≤ 255
      omega
    · have := h6 e
      show ((padP s : Nat) : Int) = 0
      omega
    · unfold sizeP
      rw [hel, hpy]
      have e1 : (packOf s).hd = readH s := rfl
      have e2 : (packOf s).pad = ((padP s : Nat) : Int) := rfl
      rw [e1, e2]
      rw [hat] at h3 ⊢
      cases hx : (readH s).ext <;> cases hq : (readH s).pad <;> simp only [hx, hq, if_true, Bool.false_eq_true, if_false] at h3 ⊢ <;> omega
  · show (if (readH s).ext = true then num ((s.drop (readN s)).take 2) else 0) < 65536
    split
    · exact hp
    · omega

end Go.Proofs.Ytogjkkhboaflcaa

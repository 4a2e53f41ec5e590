/-
  The inside of a quoted form, gone through rune by rune (plain).
-/
import Derived.Test.YtcfmokhiibhfhaaTextF
namespace Go.Proofs.Ytcfmokhiibhfhaa
open Go.RowKit

section
variable {M : List UInt8}
theorem hexV_ascii {c : Nat} (h : hexV c ≤ 15) : c < 128 := by
  unfold hexV at h
  split at h
  · omega
  · split at h
    · omega
    · omega
theorem hexV_lt {c : Nat} (h : hexV c ≤ 15) : hexV c < 16 := by omega
/-- What stands behind a stroke, as the inside of a quoted form has it. -/
theorem esc_none {j x : Nat} (hj : j < M.length) (h92 : bt M j = 92) (h : escE (M.drop (j + 1)) = (x, 0)) : scanB (M.drop j) = none := by
  unfold escE at h
  rw [bt_drop, bt_drop, Nat.add_zero, List.length_drop] at h
  by_cases h0 : M.drop (j + 1) = []
  · exact sc_end hj h92 (by have := congrArg List.length h0; rw [List.length_drop, List.length_nil] at this; omega)
  · have hl : j + 1 < M.length := by
      refine Nat.lt_of_not_le fun hle => h0 (List.drop_of_length_le hle)
    rw [if_neg h0] at h
    by_cases h1 : bt M (j + 1) = 34 ∨ bt M (j + 1) = 92
    · rw [if_pos h1] at h
      injection h with e1 e2
      cases e2
    · rw [if_neg h1] at h
      by_cases h2 : M.length - (j + 1) < 2
      · exact sc_short h92 hl h1 (by omega)
      · rw [if_neg h2] at h
        by_cases h3 : hexV (bt M (j + 1)) ≤ 15 ∧ hexV (bt M (j + 1 + 1)) ≤ 15
        · rw [if_pos h3] at h
          injection h with e1 e2
          cases e2
        · exact sc_bad h92 (by omega) h1 h3
theorem esc_some {j x n : Nat} (h92 : bt M j = 92) (h : escE (M.drop (j + 1)) = (x, n)) (hn : n ≠ 0) :
    scanB (M.drop j) = (scanB (M.drop (j + 1 + n))).map (UInt8.ofNat x :: ·) ∧ j + 1 + n ≤ M.length ∧ x < 256 ∧ n ≤ 2 ∧ ∀ i, j ≤ i → i < j + 1 + n → bt M i < 128 := by
  unfold escE at h
  rw [bt_drop, bt_drop, Nat.add_zero, List.length_drop] at h
  by_cases h0 : M.drop (j + 1) = []
  · rw [if_pos h0] at h
    injection h with e1 e2
    exact absurd e2.symm hn
  · have hl : j + 1 < M.length := by
      refine Nat.lt_of_not_le fun hle => h0 (List.drop_of_length_le hle)
    rw [if_neg h0] at h
    by_cases h1 : bt M (j + 1) = 34 ∨ bt M (j + 1) = 92
    · rw [if_pos h1] at h
      injection h with e1 e2
      subst e1 e2
      refine ⟨sc_esc h92 hl h1, by omega, bt_lt _ _, by omega, fun i hi hi2 => ?_⟩
      rcases (show i = j ∨ i = j + 1 by omega) with rfl | rfl
      · omega
      · omega
    · rw [if_neg h1] at h
      by_cases h2 : M.length - (j + 1) < 2
      · rw [if_pos h2] at h
        injection h with e1 e2
        exact absurd e2.symm hn
      · rw [if_neg h2] at h
        by_cases h3 : hexV (bt M (j + 1)) ≤ 15 ∧ hexV (bt M (j + 1 + 1)) ≤ 15
        · rw [if_pos h3] at h
          injection h with e1 e2
          subst e1 e2
          refine ⟨sc_hex h92 (by omega) h1 h3, by omega, by omega, by omega, fun i hi hi2 => ?_⟩
          rcases (show i = j ∨ i = j + 1 ∨ i = j + 2 by omega) with rfl | rfl | rfl
          · omega
          · exact hexV_ascii h3.1
          · exact hexV_ascii h3.2
        · rw [if_neg h3] at h
          injection h with e1 e2
          exact absurd e2.symm hn
end
theorem scan_rune {S : List UInt8} (hS : S ≠ []) (h : ¬ isHex S) (h1 : decL S ≠ 34) (h2 : decL S ≠ 92) : scanB S = (scanB (S.drop (step S))).map (Lib.encodeRune (decL S) ++ ·) := by
  have he : ¬ isEsc S := fun e => by
    rcases (esc_dec hS h).1 e with e | e
    · exact h1 e
    · exact h2 e
  have h0 : rlen S ≠ 0 := fun e => h (.inl e)
  have hst : step S = rlen S := if_neg h0
  have := scan_piece hS (S.drop (step S))
  have hp : piece S ++ S.drop (step S) = S := by rw [piece_plain he h, hst, List.take_append_drop]
  rw [hp] at this
  rw [this, hst, ← enc_rune (by omega)]
theorem step_one {S : List UInt8} (hS : S ≠ []) (h : bt S 0 < 128) : step S = 1 := by
  have := (rlen_one hS).2 h
  unfold step
  rw [this]; rfl

/-- The signs around a quoted form. -/
theorem pre_quote (Q : List UInt8) : Lib.hasPrefix Q [34] = decide (Q ≠ [] ∧ bt Q 0 = 34) := by
  cases Q with
  | nil => rfl
  | cons c T =>
    unfold Lib.hasPrefix
    rw [Bool.eq_iff_iff, List.isPrefixOf_iff_prefix, decide_eq_true_eq, List.cons_prefix_cons]
    constructor
    · rintro ⟨rfl, _⟩
      exact ⟨by simp, rfl⟩
    · rintro ⟨_, h⟩
      refine ⟨?_, List.nil_prefix⟩
      have h' : c.toNat = 34 := h
      exact (UInt8.toNat_inj.1 (by rw [h']; rfl)).symm
theorem suf_quote (T : List UInt8) : Lib.hasSuffix T [34] = decide (T ≠ [] ∧ bt T (T.length - 1) = 34) := by
  unfold Lib.hasSuffix
  rw [Bool.eq_iff_iff, List.isSuffixOf_iff_suffix, decide_eq_true_eq]
  constructor
  · rintro ⟨A, rfl⟩
    refine ⟨by simp, ?_⟩
    simp [bt, List.getD]
  · rintro ⟨h0, h⟩
    refine ⟨T.dropLast, ?_⟩
    have hl := List.length_pos_iff.2 h0
    have : T.getLast h0 = 34 := by
      rw [List.getLast_eq_getElem]
      simp only [bt, List.getD, List.getElem?_eq_getElem (show T.length - 1 < T.length by omega), Option.getD_some] at h
      exact UInt8.toNat_inj.1 (by rw [h]; rfl)
    rw [← this]
    exact List.dropLast_concat_getLast h0
theorem quote_out1 {Q : List UInt8} (h : Lib.hasPrefix Q [34] = false) : unqB Q = none := by
  rw [pre_quote, decide_eq_false_iff_not] at h
  refine unq_out fun k => h ⟨fun e => by subst e; simp at k, k.2.1⟩
theorem quote_out2 {Q : List UInt8} (h : Lib.hasSuffix (Q.drop 1) [34] = false) : unqB Q = none := by
  rw [suf_quote, decide_eq_false_iff_not] at h
  refine unq_out fun k => h ⟨fun e => ?_, ?_⟩
  · have := congrArg List.length e
    rw [List.length_drop, List.length_nil] at this
    omega
  · rw [bt_drop, List.length_drop, show 1 + (Q.length - 1 - 1) = Q.length - 1 by omega]
    exact k.2.2
theorem quote_in {Q : List UInt8} (h1 : Lib.hasPrefix Q [34] = true) (h2 : Lib.hasSuffix (Q.drop 1) [34] = true) : (2 ≤ Q.length ∧ bt Q 0 = 34 ∧ bt Q (Q.length - 1) = 34) := by
  rw [pre_quote, decide_eq_true_eq] at h1
  rw [suf_quote, decide_eq_true_eq] at h2
  have hl : 0 < (Q.drop 1).length := List.length_pos_iff.2 h2.1
  rw [List.length_drop] at hl
  refine ⟨by omega, h1.2, ?_⟩
  have := h2.2
  rw [bt_drop, List.length_drop, show 1 + (Q.length - 1 - 1) = Q.length - 1 by omega] at this
  exact this
theorem trim_in {Q : List UInt8} (h1 : Lib.hasPrefix Q [34] = true) : Lib.trimPrefix Q [34] = Q.drop 1 := by
  unfold Lib.trimPrefix
  rw [if_pos h1]; rfl
theorem trim_mid {Q : List UInt8} (h2 : Lib.hasSuffix (Q.drop 1) [34] = true) : Lib.trimSuffix (Q.drop 1) [34] = mid Q := by
  unfold Lib.trimSuffix mid
  rw [if_pos h2, List.length_drop]
  rfl
/-- All of a quoted form's inside is plain. -/
theorem quote_may {Q : List UInt8} (h : mayB (mid Q) = false) : unqB Q = none := by
  cases hu : unqB Q with
  | none => rfl
  | some X =>
    have := unqB_some hu
    subst this
    exfalso
    have hm : mid (quoteB X) = bodyB X := quoteB_mid X
    rw [hm] at h
    have := may_body X []
    rw [List.append_nil, h] at this
    exact absurd this (by decide)

end Go.Proofs.Ytcfmokhiibhfhaa

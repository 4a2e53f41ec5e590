/-
  Packets as plain data: what is read has as many bytes as there are; canonical bytes cut anywhere, and with more behind.
-/
import Derived.Test.YtbalpndgpdbcbaaPackN
namespace Go.Proofs.Ytbalpndgpdbcbaa
set_option linter.unusedSimpArgs false

theorem packOf_lengths {s : List UInt8} (h : pErr s = 0) : 12 + 4 * (readH s).csrc.length = readN s ∧ ((packOf s).ext.length = if (readH s).ext = true then 4 * wordsP s else 0) ∧ (packOf s).pay.length = s.length - padP s - atP s := by
  obtain ⟨h1, h2, h3, h4, h5, h6⟩ := pErr_zero h
  have hr := readH_right h2
  refine ⟨?_, ?_, ?_⟩
  · have e := congrArg List.length hr.2.2.1
    rw [headB_length, List.length_take] at e
    have := hr.2.2.2
    omega
  · show (if (readH s).ext = true then (s.drop (readN s + 4)).take (4 * wordsP s) else []).length = _
    split
    · have := h4 (by assumption)
      rw [List.length_take, List.length_drop]; omega
    · rfl
  · show ((s.drop (atP s)).take (s.length - padP s - atP s)).length = _
    rw [List.length_take, List.length_drop]; omega
/-- What is read has as many bytes as there are. -/
theorem packOf_size {s : List UInt8} (h : pErr s = 0) : sizeP (packOf s) = s.length := by
  obtain ⟨h1, h2, h3, h4, h5, h6⟩ := pErr_zero h
  obtain ⟨l1, l2, l3⟩ := packOf_lengths h
  have hat : atP s = readN s + (if (readH s).ext = true then 4 + 4 * wordsP s else 0) := rfl
  unfold sizeP
  rw [l2, l3]
  have e1 : (packOf s).hd = readH s := rfl
  have e2 : (packOf s).pad = ((padP s : Nat) : Int) := rfl
  rw [e1, e2]
  rw [hat] at h3 ⊢
  cases hx : (readH s).ext <;> cases hq : (readH s).pad <;> simp only [hx, hq, if_true, Bool.false_eq_true, if_false] at h3 ⊢ <;> first
    | omega
    | (have := h6 hq; omega)
theorem readP_of {s : List UInt8} (h : pErr s = 0) : readP s = packOf s := if_pos h

theorem packB_length_nat {p : Pk} (h : rightP p = true) : ((packB p).length : Int) = sizeP p ∧ (packB p).length ≤ 65535 := by
  have h1 := packB_length h
  have h2 := (rightP_parts h).2.2.2.2.2.2.2
  exact ⟨h1, by omega⟩
theorem packB_head {p : Pk} (h : rightP p = true) : ∃ R, packB p = headB p.hd ++ R := by
  obtain ⟨T, hT, _⟩ := packB_form h
  exact ⟨_, hT⟩
/-- Bytes cut anywhere are another packet, or none: too short, or without a trailer. -/
theorem pack_cut {p : Pk} (h : rightP p = true) (hf : fitsP p) (k : Nat) (hk : k < (packB p).length) :
    (pErr ((packB p).take k) = 0 ∨ pErr ((packB p).take k) = 2 ∨ pErr ((packB p).take k) = 5) ∧ (k < 12 → pErr ((packB p).take k) = 2) ∧
      (pErr ((packB p).take k) = 0 → readP ((packB p).take k) ≠ p ∧ sizeP (readP ((packB p).take k)) = k) := by
  obtain ⟨r1, _⟩ := rightP_parts h
  obtain ⟨hl, hl2⟩ := packB_length_nat h
  have htl : ((packB p).take k).length = k := by rw [List.length_take]; omega
  have hh : hErr ((packB p).take k) = 0 ∨ hErr ((packB p).take k) = 2 := by
    obtain ⟨R, hR⟩ := packB_head h
    rw [hR]
    by_cases hc : k < (headB p.hd).length
    · rw [List.take_append_of_le_length (by omega)]
      exact .inr (head_cut r1 k hc)
    · rw [List.take_append, List.take_of_length_le (by omega)]
      exact .inl (readH_head r1 hf.1 _).2.2
  have hcases : pErr ((packB p).take k) = 0 ∨ pErr ((packB p).take k) = 2 ∨ pErr ((packB p).take k) = 5 := by
    unfold pErr
    rw [if_neg (by omega)]
    split
    · omega
    · split
      · exact .inr (.inl rfl)
      · split
        · exact .inr (.inr rfl)
        · exact .inl rfl
  refine ⟨hcases, fun h12 => ?_, fun h0 => ?_⟩
  · have e : hErr ((packB p).take k) = 2 := if_pos (by omega)
    unfold pErr
    rw [if_neg (by omega), if_pos (by omega), e]
  · have hs := packOf_size h0
    rw [← readP_of h0, htl] at hs
    refine ⟨fun e => ?_, hs⟩
    rw [e] at hs
    omega
/-- With more bytes behind they are another packet, or have no trailer. -/
theorem pack_more {p : Pk} (h : rightP p = true) (hf : fitsP p) (m : List UInt8) (hm : 0 < m.length) (hl : (packB p).length + m.length ≤ 65535) :
    (pErr (packB p ++ m) = 0 ∧ readP (packB p ++ m) ≠ p) ∨ (pErr (packB p ++ m) = 5 ∧ p.hd.pad = true) := by
  obtain ⟨hpl, _⟩ := packB_length_nat h
  obtain ⟨T, hT, hTl, hT1, hT0⟩ := packB_form h
  have e : packB p ++ m = withT p (T ++ m) := by rw [hT]; simp [withT]
  obtain ⟨a1, a2, a3, a4, a5, a6⟩ := withT_read h hf (T ++ m)
  have hl2 := withT_length p (T ++ m)
  have hxl := extB_length p
  obtain ⟨r1, r2, r3, r4, r5, r6, r7, r8⟩ := rightP_parts h
  have hlen : (packB p ++ m).length = (packB p).length + m.length := List.length_append
  by_cases h0 : pErr (packB p ++ m) = 0
  · refine .inl ⟨h0, fun e2 => ?_⟩
    have hs := packOf_size h0
    rw [← readP_of h0, e2, hlen] at hs
    omega
  · refine .inr ?_
    rw [e] at h0 hlen ⊢
    unfold pErr at h0 ⊢
    rw [if_neg (by omega), if_neg (by omega)] at h0 ⊢
    have hn : ¬ ((readH (withT p (T ++ m))).ext = true ∧ ((withT p (T ++ m)).length < readN (withT p (T ++ m)) + 4 ∨ (withT p (T ++ m)).length < readN (withT p (T ++ m)) + 4 + 4 * wordsP (withT p (T ++ m)))) := by
      rintro ⟨e1, e2⟩
      rw [a2] at e1
      rw [a3, a4 e1, hl2, hxl, if_pos e1] at e2
      omega
    rw [if_neg hn] at h0 ⊢
    by_cases hp : (readH (withT p (T ++ m))).pad = true ∧ padP (withT p (T ++ m)) = 0
    · rw [if_pos hp]
      exact ⟨rfl, by rw [← a2]; exact hp.1⟩
    · rw [if_neg hp] at h0
      exact absurd rfl h0

end Go.Proofs.Ytbalpndgpdbcbaa

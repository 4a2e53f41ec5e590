/-
  Packets as plain data: bytes that are read are the packet's own, but for the trailer; canonical bytes are those whose trailer is clean.
-/
import Derived.Test.YtbalpndgpdbcbaaPackQ
namespace Go.Proofs.Ytbalpndgpdbcbaa

theorem num_lt2c (s : List UInt8) (a : Nat) : num ((s.drop a).take 2) < 65536 := by
  have h := num_lt ((s.drop a).take 2)
  have h2 : (256 : Nat) ^ ((s.drop a).take 2).length ≤ 256 ^ 2 := Nat.pow_le_pow_right (by omega) (by simp; omega)
  omega
theorem be2_take {S : List UInt8} (h : 2 ≤ S.length) : be 2 (num (S.take 2)) = S.take 2 := by
  have := be_num (S.take 2)
  rwa [List.length_take, Nat.min_eq_left h] at this
theorem extB_read {s : List UInt8} (h : pErr s = 0) : extB (packOf s) = (s.drop (readN s)).take (atP s - readN s) := by
  obtain ⟨h1, h2, h3, h4, h5, h6⟩ := pErr_zero h
  have e0 : (packOf s).hd = readH s := rfl
  unfold extB
  rw [e0]
  cases hx : (readH s).ext
  · have : atP s = readN s := by unfold atP; rw [hx]; simp
    rw [this]; simp
  · have hb := h4 hx
    have ha : atP s = readN s + (4 + 4 * wordsP s) := by unfold atP; rw [hx]; simp
    have e1 : (packOf s).prof = num ((s.drop (readN s)).take 2) := by show (if _ then _ else _) = _; rw [hx]; simp
    have e2 : (packOf s).ext = (s.drop (readN s + 4)).take (4 * wordsP s) := by show (if _ then _ else _) = _; rw [hx]; simp
    have e3 : (packOf s).ext.length / 4 = wordsP s := by rw [e2, List.length_take, List.length_drop]; omega
    rw [if_pos rfl, e1, e3, e2, ha, Nat.add_sub_cancel_left]
    have hw : wordsP s = num ((s.drop (readN s + 2)).take 2) := rfl
    have g1 := be2_take (S := s.drop (readN s)) (by rw [List.length_drop]; omega)
    have g2 := be2_take (S := s.drop (readN s + 2)) (by rw [List.length_drop]; omega)
    rw [← hw] at g2
    rw [g1, g2, show (4 + 4 * wordsP s) = 2 + (2 + 4 * wordsP s) by omega, List.take_add, List.take_add, List.drop_drop, List.drop_drop]
/-- What is read, with the trailer that stands there. -/
theorem pack_form {s : List UInt8} (h : pErr s = 0) : withT (packOf s) (s.drop (s.length - padP s)) = s := by
  obtain ⟨h1, h2, h3, h4, h5, h6⟩ := pErr_zero h
  have hr := readH_right h2
  have ha : readN s ≤ atP s := by unfold atP; omega
  have e0 : (packOf s).hd = readH s := rfl
  have e1 : (packOf s).pay = (s.drop (atP s)).take (s.length - padP s - atP s) := rfl
  unfold withT
  rw [e0, e1, hr.2.2.1, extB_read h]
  have p1 : (s.drop (atP s)).take (s.length - padP s - atP s) ++ s.drop (s.length - padP s) = s.drop (atP s) := by
    rw [show s.drop (s.length - padP s) = (s.drop (atP s)).drop (s.length - padP s - atP s) by rw [List.drop_drop]; congr 1; omega]
    exact List.take_append_drop _ _
  have p2 : (s.drop (readN s)).take (atP s - readN s) ++ s.drop (atP s) = s.drop (readN s) := by
    rw [show s.drop (atP s) = (s.drop (readN s)).drop (atP s - readN s) by rw [List.drop_drop]; congr 1; omega]
    exact List.take_append_drop _ _
  rw [p1, p2, List.take_append_drop]
theorem packOf_rightC {s : List UInt8} (h : pErr s = 0) : rightP (packOf s) = true ∧ fitsP (packOf s) := by
  obtain ⟨h1, h2, h3, h4, h5, h6⟩ := pErr_zero h
  have hr := readH_right h2
  have hs := packOf_size h
  obtain ⟨l1, l2, l3⟩ := packOf_lengths h
  have hw : wordsP s < 65536 := num_lt2c s _
  refine ⟨?_, hr.2.1, ?_⟩
  · unfold rightP
    rw [decide_eq_true_eq]
    refine ⟨hr.1, by rw [l3]; omega, by rw [l2]; split <;> omega, by rw [l2]; split <;> omega, fun hx => ?_, fun hx => ?_, fun hx => ?_, by rw [hs]; omega⟩
    · refine ⟨?_, ?_⟩
      · show (if (readH s).ext = true then _ else _) = _
        rw [show (readH s).ext = false from hx]; simp
      · rw [l2, show (readH s).ext = false from hx]; simp
    · have := h5 hx
      show 1 ≤ ((padP s : Nat) : Int) ∧ ((padP s : Nat) : Int) ≤ 255
      omega
    · show ((padP s : Nat) : Int) = 0
      rw [h6 hx]; rfl
  · show (if (readH s).ext = true then num ((s.drop (readN s)).take 2) else 0) < 65536
    split
    · exact num_lt2c s _
    · omega
theorem zeroB_eq {s : List UInt8} : zeroB s = true ↔ s = List.replicate s.length 0 := by
  unfold zeroB
  rw [List.all_eq_true, List.eq_replicate_iff]
  simp only [true_and]
  refine ⟨fun h x hx => ?_, fun h x hx => ?_⟩
  · have := h x hx
    rw [beq_iff_eq] at this
    exact UInt8.toNat_inj.1 this
  · rw [h x hx]; rfl
theorem getD_drop_last {s : List UInt8} {k : Nat} (h : k < s.length) : (s.drop k).getD ((s.drop k).length - 1) 0 = s.getD (s.length - 1) 0 := by
  rw [List.getD_eq_getElem?_getD, List.getD_eq_getElem?_getD, List.getElem?_drop, List.length_drop]
  congr 2
  omega
/-- Bytes are canonical just if there is no trailer, or it is clean. -/
theorem canonP_eq {s : List UInt8} (h : pErr s = 0) : canonP s = (!(readH s).pad || cleanB s) := by
  have hf := pack_form h
  obtain ⟨hrt, hfit⟩ := packOf_rightC h
  obtain ⟨h1, h2, h3, h4, h5, h6⟩ := pErr_zero h
  obtain ⟨T, hT, hTl, hT1, hT0⟩ := packB_form hrt
  have e0 : (packOf s).hd = readH s := rfl
  have e1 : (packOf s).pad = ((padP s : Nat) : Int) := rfl
  rw [e0] at hT1 hT0
  rw [e1, Int.toNat_natCast] at hTl hT1
  have hiff : packB (packOf s) = s ↔ T = s.drop (s.length - padP s) := by
    rw [hT]
    constructor
    · intro e
      have e' := e.trans hf.symm
      unfold withT at e'
      exact List.append_cancel_left (List.append_cancel_left (List.append_cancel_left e'))
    · intro e
      rw [e, hf]
  unfold canonP
  rw [readP_of h]
  cases hp : (readH s).pad
  · have hz := h6 hp
    rw [Bool.not_false, Bool.true_or, decide_eq_true_eq]
    refine ⟨h, hiff.2 ?_⟩
    rw [hT0 hp, hz]; simp
  · have hb := h5 hp
    have ht : padP s = trailN (s.drop (atP s)) := by unfold padP; rw [hp]; simp
    have hlast : (s.getD (s.length - 1) 0).toNat = padP s := by
      have hne : ¬ trailN (s.drop (atP s)) = 0 := by omega
      rw [← getD_drop_last (k := atP s) (by omega)]
      unfold trailN at ht hne
      split at ht
      · exact ht.symm
      · omega
    have htr : trailN s = padP s := by
      unfold trailN
      rw [hlast, if_pos (by omega)]
    have hTT := (hT1 hp).2.2
    have hX : s.drop (s.length - padP s) = (s.drop (s.length - padP s)).take (padP s - 1) ++ [UInt8.ofNat (padP s)] := by
      have hl : (s.drop (s.length - padP s)).length = padP s := by rw [List.length_drop]; omega
      conv => lhs; rw [← List.take_append_drop (padP s - 1) (s.drop (s.length - padP s))]
      congr 1
      rw [List.drop_drop, show s.length - padP s + (padP s - 1) = s.length - 1 by omega]
      have : s.drop (s.length - 1) = [s.getD (s.length - 1) 0] := by
        rw [List.drop_eq_getElem_cons (by omega), List.drop_of_length_le (by omega), List.getD_eq_getElem?_getD, List.getElem?_eq_getElem (by omega)]
        rfl
      rw [this]
      congr 1
      apply UInt8.toNat_inj.1
      rw [hlast, UInt8.toNat_ofNat']
      simp only [Nat.reducePow]; omega
    rw [Bool.not_true, Bool.false_or, cleanB_yes (by omega), htr, Bool.eq_iff_iff, decide_eq_true_eq, zeroB_eq, hiff, hTT]
    have hl : ((s.drop (s.length - padP s)).take (padP s - 1)).length = padP s - 1 := by rw [List.length_take, List.length_drop]; omega
    rw [hl]
    constructor
    · rintro ⟨_, e⟩
      rw [hX] at e
      exact (List.append_cancel_right e).symm
    · intro e
      refine ⟨h, ?_⟩
      rw [hX, e]

end Go.Proofs.Ytbalpndgpdbcbaa

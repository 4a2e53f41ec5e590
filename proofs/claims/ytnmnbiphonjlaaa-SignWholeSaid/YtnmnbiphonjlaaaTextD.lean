/-
  The model's own decoding of a string, by the bytes from a place on: the rune, how far to the next one, and the rune's bytes.
-/
import Derived.Test.YtnmnbiphonjlaaaTextR2
import Derived.Test.YtnmnbiphonjlaaaTextQ
import Derived.Lib.RuneBytes
import Derived.Lib.DecodeN
import Derived.Lib.Strings
namespace Go.Proofs.Ytnmnbiphonjlaaa
open Go.RowKit

/-- The rune that bytes begin with. -/
def decL (S : List UInt8) : Nat := (Lib.decodeN S.length (bt S 0) (bt S 1) (bt S 2) (bt S 3)).1
theorem get_bt (s : ByteArray) (i : Nat) : (s.get! i).toNat = bt s.data.toList i := by
  unfold bt
  by_cases h : i < s.size
  · rw [List.getD_eq_getElem?_getD, List.getElem?_eq_getElem (by simpa using h)]
    show (s.data[i]!).toNat = _
    rw [getElem!_pos s.data i h]
    simp
  · rw [List.getD_eq_getElem?_getD, List.getElem?_eq_none (by simp; exact Nat.le_of_not_lt h)]
    show (s.data[i]!).toNat = _
    rw [getElem!_neg s.data i h]
    rfl
theorem dec_pair (s : ByteArray) (i : Nat) : Utf8.decode s i = Lib.decodeN (s.data.toList.drop i).length (bt (s.data.toList.drop i) 0) (bt (s.data.toList.drop i) 1) (bt (s.data.toList.drop i) 2) (bt (s.data.toList.drop i) 3) := by
  rw [Lib.decode_at, get_bt, get_bt, get_bt, get_bt, bt_drop, bt_drop, bt_drop, bt_drop, List.length_drop, size_list]; rfl
theorem dec_rune (s : ByteArray) (i : Nat) : (Utf8.decode s i).1 = decL (s.data.toList.drop i) := by rw [dec_pair]; rfl
theorem dec_step (s : ByteArray) (i : Nat) (h : i < s.size) : (Utf8.decode s i).2 = step (s.data.toList.drop i) := by
  have hne := drop_ne h
  rw [dec_pair]
  unfold step rlen
  rw [if_neg hne]
  generalize s.data.toList.drop i = S
  have b0 := bt_lt S 0
  have b1 := bt_lt S 1
  have b2 := bt_lt S 2
  have b3 := bt_lt S 3
  by_cases h0 : rlN S.length (bt S 0) (bt S 1) (bt S 2) (bt S 3) = 0
  · rw [if_pos h0, decode_stray b0 b1 b2 b3 h0]
  · rw [if_neg h0]
    by_cases h1 : rlN S.length (bt S 0) (bt S 1) (bt S 2) (bt S 3) = 1
    · rw [h1, decode_ascii1 (rlN_one.1 h1)]
    · exact (decode_rune b0 b1 b2 b3 (by omega)).1
section
variable {S : List UInt8}
theorem decL_stray (hS : S ≠ []) (h : rlen S = 0) : decL S = 65533 := by
  unfold rlen at h
  rw [if_neg hS] at h
  unfold decL
  rw [decode_stray (bt_lt S 0) (bt_lt S 1) (bt_lt S 2) (bt_lt S 3) h]
theorem decL_one (hS : S ≠ []) (h : rlen S = 1) : decL S = bt S 0 := by
  unfold decL
  rw [decode_ascii1 ((rlen_one hS).1 h)]
theorem decL_high (hS : S ≠ []) (h : 2 ≤ rlen S) : 128 ≤ decL S := by
  unfold rlen at h
  rw [if_neg hS] at h
  exact (decode_rune (bt_lt S 0) (bt_lt S 1) (bt_lt S 2) (bt_lt S 3) h).2
end
/-- The bytes of a longer rune, as arithmetic on its number. -/
theorem enc_four {n b0 b1 b2 b3 : Nat} (h0 : b0 < 256) (h1 : b1 < 256) (h2 : b2 < 256) (h3 : b3 < 256) (h : 2 ≤ rlN n b0 b1 b2 b3) :
    Lib.encodeRuneZ (((Lib.decodeN n b0 b1 b2 b3).1 : Nat) : Int) = (([b0, b1, b2, b3].take (rlN n b0 b1 b2 b3)).map fun x : Nat => (x : Int)) := by
  unfold rlN at h ⊢
  repeat' split at h
  all_goals first
    | (exfalso; omega)
    | skip
  all_goals unfold Lib.decodeN
  all_goals repeat' split
  all_goals first
    | (exfalso; omega)
    | skip
  all_goals first
    | (rw [Lib.encodeRuneZ_two (by simp only; omega) (by simp only; omega)]; simp; omega)
    | (rw [Lib.encodeRuneZ_three (by simp only; omega)]; simp; omega)
    | (rw [Lib.encodeRuneZ_four (by simp only; omega) (by simp only; omega)]; simp; omega)
theorem take_bts {S : List UInt8} {k : Nat} (hk : k ≤ S.length) (h4 : k ≤ 4) : S.take k = (([bt S 0, bt S 1, bt S 2, bt S 3].take k).map fun x => UInt8.ofNat x) := by
  refine List.ext_getElem? fun i => ?_
  rw [List.getElem?_take, List.getElem?_map, List.getElem?_take]
  by_cases hi : i < k
  · rw [if_pos hi, if_pos hi, List.getElem?_eq_getElem (by omega)]
    have hb : UInt8.ofNat (bt S i) = S[i]'(by omega) := by simp [bt, List.getD, List.getElem?_eq_getElem (show i < S.length by omega)]
    rcases (show i = 0 ∨ i = 1 ∨ i = 2 ∨ i = 3 by omega) with rfl | rfl | rfl | rfl
    all_goals
      rw [← hb]
      rfl
  · rw [if_neg hi, if_neg hi]; rfl
/-- A plain rune, written, is what stood there. -/
theorem enc_rune {S : List UInt8} (h : 1 ≤ rlen S) : Lib.encodeRune ((decL S : Nat) : Int) = S.take (rlen S) := by
  have hS : S ≠ [] := fun e => by subst e; rw [rlen_nil] at h; omega
  have h4 := rlen_four S
  have hl := rlen_le S
  by_cases h1 : rlen S = 1
  · have hb := (rlen_one hS).1 h1
    rw [h1, take_one hS, decL_one hS h1]
    unfold Lib.encodeRune
    rw [Lib.encodeRuneZ_one (by omega) (by omega)]
    simp
  · have e : rlen S = rlN S.length (bt S 0) (bt S 1) (bt S 2) (bt S 3) := by unfold rlen; rw [if_neg hS]
    have := enc_four (bt_lt S 0) (bt_lt S 1) (bt_lt S 2) (bt_lt S 3) (n := S.length) (by omega)
    rw [take_bts hl h4]
    unfold Lib.encodeRune decL
    rw [this, List.map_map, e]
    rfl
theorem decL_lt (S : List UInt8) : decL S ≤ 1114111 := by
  unfold decL Lib.decodeN
  have b0 := bt_lt S 0
  repeat' split
  all_goals simp only
  all_goals omega
/-- The rune FFFD is there itself. -/
theorem fffd_there {S : List UInt8} (hS : S ≠ []) (h : decL S = 65533) : Lib.hasPrefix S [239, 191, 189] = !decide (isHex S) := by
  by_cases h0 : rlen S = 0
  · have e1 : decide (isHex S) = true := decide_eq_true (.inl h0)
    rw [e1]
    refine Bool.eq_false_iff.2 fun hp => ?_
    unfold Lib.hasPrefix at hp
    rw [List.isPrefixOf_iff_prefix] at hp
    obtain ⟨T, rfl⟩ := hp
    have : rlen ([239, 191, 189] ++ T) = rlen [239, 191, 189] := rlen_append (by decide) T
    rw [h0] at this
    exact absurd this (by decide)
  · have h1 : rlen S ≠ 1 := fun e => by
      have := (rlen_one hS).1 e
      rw [decL_one hS e] at h
      omega
    have e1 : decide (isHex S) = false := decide_eq_false (by unfold isHex; omega)
    rw [e1]
    have := enc_rune (S := S) (by omega)
    rw [h] at this
    show Lib.hasPrefix S [239, 191, 189] = true
    unfold Lib.hasPrefix
    rw [List.isPrefixOf_iff_prefix]
    have e2 : S.take (rlen S) = [239, 191, 189] := by rw [← this]; decide
    rw [← e2]
    exact List.take_prefix _ _
theorem plain_there {S : List UInt8} (hS : S ≠ []) (h : decL S ≠ 65533) : decide (32 ≤ decL S ∧ decL S ≠ 127) = !decide (isHex S) := by
  have h0 : rlen S ≠ 0 := fun e => h (decL_stray hS e)
  by_cases h1 : rlen S = 1
  · rw [decL_one hS h1]
    by_cases hc : 32 ≤ bt S 0 ∧ bt S 0 ≠ 127
    · rw [decide_eq_true hc, decide_eq_false (by unfold isHex; omega)]; rfl
    · rw [decide_eq_false hc, decide_eq_true (show isHex S from .inr ⟨h1, by omega⟩)]; rfl
  · have := decL_high hS (by omega)
    rw [decide_eq_true (by omega), decide_eq_false (by unfold isHex; omega)]; rfl

end Go.Proofs.Ytnmnbiphonjlaaa

/-
  The header of control packets as plain data: which headers are right, their bytes, what bytes begin with; it is read as it was.
-/
import Derived.Test.YtkfinkmbdpdepaaBase
import Derived.Test.YtkfinkmbdpdepaaTextM
namespace Go.Proofs.Ytkfinkmbdpdepaa
set_option linter.unusedSimpArgs false
set_option linter.unusedVariables false

structure Cm where
  pad : Bool
  count : Int
  typ : Int
  size : Int
theorem Cm.eq_iff (p q : Cm) : p = q ↔ p.pad = q.pad ∧ p.count = q.count ∧ p.typ = q.typ ∧ p.size = q.size := by
  cases p; cases q
  simp
instance : DecidableEq Cm := fun p q => decidable_of_iff _ (Cm.eq_iff p q).symm
def zeroCm : Cm := ⟨false, 0, 0, 0⟩
def rightCm (c : Cm) : Bool := decide (0 ≤ c.count ∧ c.count < 32 ∧ 0 ≤ c.typ ∧ c.typ < 256 ∧ 4 ≤ c.size ∧ c.size ≤ 262144 ∧ c.size % 4 = 0)
def firstN (c : Cm) : Nat := 128 + c.count.toNat + (if c.pad = true then 32 else 0)
def wordsN (c : Cm) : Nat := (c.size / 4 - 1).toNat
def writeCm (c : Cm) : List UInt8 := [UInt8.ofNat (firstN c), UInt8.ofNat c.typ.toNat, UInt8.ofNat (wordsN c / 256), UInt8.ofNat (wordsN c % 256)]
def cmN (s : List UInt8) : Nat := 4 * (256 * bt s 2 + bt s 3 + 1)
def cmE (s : List UInt8) : Nat := if s.length < 4 then 2 else if bt s 0 < 128 ∨ 191 < bt s 0 then 3 else if s.length < cmN s then 4 else 0
def cmV (s : List UInt8) : Cm := ⟨decide (160 ≤ bt s 0), (bt s 0 % 32 : Nat), (bt s 1 : Nat), (cmN s : Nat)⟩
def readCm (s : List UInt8) : Cm := if cmE s = 0 then cmV s else zeroCm

theorem rightCm_iff (c : Cm) : rightCm c = true ↔ 0 ≤ c.count ∧ c.count < 32 ∧ 0 ≤ c.typ ∧ c.typ < 256 ∧ 4 ≤ c.size ∧ c.size ≤ 262144 ∧ c.size % 4 = 0 := by unfold rightCm; rw [decide_eq_true_eq]
theorem writeCm_length (c : Cm) : (writeCm c).length = 4 := rfl
theorem cm_write {c : Cm} (h : rightCm c = true) (t : List UInt8) : bt (writeCm c ++ t) 0 = firstN c ∧ bt (writeCm c ++ t) 1 = c.typ.toNat ∧ cmN (writeCm c ++ t) = c.size ∧ 128 ≤ firstN c ∧ firstN c ≤ 191 := by
  obtain ⟨h1, h2, h3, h4, h5, h6, h7⟩ := (rightCm_iff c).1 h
  have f : firstN c < 256 ∧ 128 ≤ firstN c ∧ firstN c ≤ 191 := by unfold firstN; split <;> omega
  have w : wordsN c < 65536 ∧ ((wordsN c : Nat) : Int) = c.size / 4 - 1 := by unfold wordsN; omega
  have b0 : bt (writeCm c ++ t) 0 = firstN c := by show (UInt8.ofNat (firstN c)).toNat = _; exact toNat_ofNat f.1
  have b1 : bt (writeCm c ++ t) 1 = c.typ.toNat := by show (UInt8.ofNat c.typ.toNat).toNat = _; exact toNat_ofNat (by omega)
  have b2 : bt (writeCm c ++ t) 2 = wordsN c / 256 := by show (UInt8.ofNat (wordsN c / 256)).toNat = _; exact toNat_ofNat (by omega)
  have b3 : bt (writeCm c ++ t) 3 = wordsN c % 256 := by show (UInt8.ofNat (wordsN c % 256)).toNat = _; exact toNat_ofNat (by omega)
  refine ⟨b0, b1, ?_, f.2.1, f.2.2⟩
  unfold cmN
  rw [b2, b3]
  omega
theorem cm_read {c : Cm} (h : rightCm c = true) (t : List UInt8) : (c.size ≤ 4 + t.length → cmE (writeCm c ++ t) = 0 ∧ readCm (writeCm c ++ t) = c) ∧ (4 + (t.length : Int) < c.size → cmE (writeCm c ++ t) = 4) := by
  obtain ⟨b0, b1, bn, f1, f2⟩ := cm_write h t
  have hl : (writeCm c ++ t).length = 4 + t.length := by rw [List.length_append, writeCm_length]
  have e : cmE (writeCm c ++ t) = if (writeCm c ++ t).length < cmN (writeCm c ++ t) then 4 else 0 := by
    unfold cmE
    rw [if_neg (by omega), if_neg (by omega)]
  refine ⟨fun hs => ?_, fun hs => ?_⟩
  · have e0 : cmE (writeCm c ++ t) = 0 := by rw [e, if_neg (by omega)]
    refine ⟨e0, ?_⟩
    unfold readCm
    rw [if_pos e0]
    obtain ⟨h1, h2, h3, h4, h5, h6, h7⟩ := (rightCm_iff c).1 h
    unfold cmV
    rw [b0, b1, bn, Cm.eq_iff]
    refine ⟨?_, ?_, ?_, rfl⟩
    · show decide (160 ≤ firstN c) = c.pad
      unfold firstN
      cases c.pad
      · exact decide_eq_false (by first | (simp; done) | (simp; omega))
      · exact decide_eq_true (by first | (simp; done) | (simp; omega))
    · show ((firstN c % 32 : Nat) : Int) = c.count
      unfold firstN
      split <;> omega
    · show ((c.typ.toNat : Nat) : Int) = c.typ
      omega
  · rw [e, if_pos (by omega)]
theorem cmE_zero {s : List UInt8} (h : cmE s = 0) : 4 ≤ s.length ∧ 128 ≤ bt s 0 ∧ bt s 0 ≤ 191 ∧ cmN s ≤ s.length := by
  unfold cmE at h
  split at h
  · cases h
  · split at h
    · cases h
    · split at h
      · cases h
      · omega
theorem four {s : List UInt8} (h : 4 ≤ s.length) : s.take 4 = [UInt8.ofNat (bt s 0), UInt8.ofNat (bt s 1), UInt8.ofNat (bt s 2), UInt8.ofNat (bt s 3)] := by
  match s, h with
  | a :: b :: c :: d :: s, _ => simp [bt]
theorem cm_right {s : List UInt8} (h : cmE s = 0) : rightCm (readCm s) = true ∧ (readCm s).size ≤ s.length ∧ writeCm (readCm s) = s.take 4 := by
  obtain ⟨h1, h2, h3, h4⟩ := cmE_zero h
  have hr : readCm s = cmV s := if_pos h
  have q1 := bt_lt s 1
  have q2 := bt_lt s 2
  have q3 := bt_lt s 3
  have hw : wordsN (cmV s) = 256 * bt s 2 + bt s 3 := by
    unfold wordsN cmV cmN
    simp only
    omega
  have hf : firstN (cmV s) = bt s 0 := by
    unfold firstN cmV
    simp only [Int.toNat_natCast, decide_eq_true_eq]
    split <;> omega
  rw [hr]
  refine ⟨?_, ?_, ?_⟩
  · rw [rightCm_iff]
    unfold cmV cmN
    simp only
    omega
  · show ((cmN s : Nat) : Int) ≤ s.length
    omega
  · rw [four h1]
    unfold writeCm
    rw [hw, hf]
    have e1 : (256 * bt s 2 + bt s 3) / 256 = bt s 2 := by omega
    have e2 : (256 * bt s 2 + bt s 3) % 256 = bt s 3 := by omega
    rw [e1, e2]
    rfl
theorem cm_inj {c d : Cm} (hc : rightCm c = true) (hd : rightCm d = true) : writeCm c = writeCm d ↔ c = d := by
  refine ⟨fun h => ?_, fun h => by rw [h]⟩
  obtain ⟨b0, b1, bn, f1, f2⟩ := cm_write hc []
  obtain ⟨d0, d1, dn, g1, g2⟩ := cm_write hd []
  rw [h, d0] at b0
  rw [h, d1] at b1
  rw [h, dn] at bn
  obtain ⟨h1, h2, h3, h4, h5, h6, h7⟩ := (rightCm_iff c).1 hc
  obtain ⟨k1, k2, k3, k4, k5, k6, k7⟩ := (rightCm_iff d).1 hd
  unfold firstN at b0
  rw [Cm.eq_iff]
  refine ⟨?_, ?_, by omega, bn.symm⟩
  · cases hcp : c.pad <;> cases hdp : d.pad <;> simp [hcp, hdp] at b0 <;> first | rfl | omega
  · cases hcp : c.pad <;> cases hdp : d.pad <;> simp [hcp, hdp] at b0 <;> omega

end Go.Proofs.Ytkfinkmbdpdepaa

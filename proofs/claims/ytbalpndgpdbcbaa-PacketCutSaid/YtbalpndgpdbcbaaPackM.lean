/-
  Packets as plain data: their bytes, and which one bytes are.
-/
import Derived.Test.YtbalpndgpdbcbaaHeadM
import Derived.Test.YtbalpndgpdbcbaaPadM
namespace Go.Proofs.Ytbalpndgpdbcbaa

/-- A packet. -/
structure Pk where
  hd : Hd
  prof : Nat
  ext : List UInt8
  pay : List UInt8
  pad : Int
theorem Pk.eq_iff (a b : Pk) : a = b ↔ a.hd = b.hd ∧ a.prof = b.prof ∧ a.ext = b.ext ∧ a.pay = b.pay ∧ a.pad = b.pad := by
  cases a; cases b
  simp
instance : DecidableEq Pk := fun a b => decidable_of_iff _ (Pk.eq_iff a b).symm
def zeroP : Pk := ⟨zeroH, 0, [], [], 0⟩
def fitsP (p : Pk) : Prop := fitsH p.hd ∧ p.prof < 65536
/-- How many bytes it has. -/
def sizeP (p : Pk) : Int := 12 + 4 * (p.hd.csrc.length : Int) + (p.pay.length : Int) + (if p.hd.ext = true then 4 + (p.ext.length : Int) else 0) + (if p.hd.pad = true then p.pad else 0)
def rightP (p : Pk) : Bool := decide (rightH p.hd = true ∧ p.pay.length ≤ 65535 ∧ p.ext.length ≤ 262140 ∧ p.ext.length % 4 = 0 ∧ (p.hd.ext = false → p.prof = 0 ∧ p.ext.length = 0) ∧ (p.hd.pad = true → 1 ≤ p.pad ∧ p.pad ≤ 255) ∧ (p.hd.pad = false → p.pad = 0) ∧ sizeP p ≤ 65535)
def shortP (p : Pk) : Bool := decide (p.hd.csrc.length ≤ 99 ∧ p.ext.length ≤ 300000 ∧ p.pay.length ≤ 70000)
/-- What an extension's bytes are, and those ahead of the trailer. -/
def extB (p : Pk) : List UInt8 := if p.hd.ext = true then be 2 p.prof ++ (be 2 (p.ext.length / 4) ++ p.ext) else []
def bodyP (p : Pk) : List UInt8 := headB p.hd ++ (extB p ++ p.pay)
def packB (p : Pk) : List UInt8 := if p.hd.pad = true then addB (bodyP p) p.pad.toNat else bodyP p
/-- The words of the extension that bytes tell of; where what is behind it begins. -/
def wordsP (s : List UInt8) : Nat := num ((s.drop (readN s + 2)).take 2)
def atP (s : List UInt8) : Nat := readN s + (if (readH s).ext = true then 4 + 4 * wordsP s else 0)
def padP (s : List UInt8) : Nat := if (readH s).pad = true then trailN (s.drop (atP s)) else 0
/-- Why bytes are no packet; 0: they are one. -/
def pErr (s : List UInt8) : Nat :=
  if 65535 < s.length then 4 else if hErr s ≠ 0 then hErr s
  else if (readH s).ext = true ∧ (s.length < readN s + 4 ∨ s.length < readN s + 4 + 4 * wordsP s) then 2
  else if (readH s).pad = true ∧ padP s = 0 then 5 else 0
def packOf (s : List UInt8) : Pk := ⟨readH s, if (readH s).ext = true then num ((s.drop (readN s)).take 2) else 0, if (readH s).ext = true then (s.drop (readN s + 4)).take (4 * wordsP s) else [], (s.drop (atP s)).take (s.length - padP s - atP s), padP s⟩
def readP (s : List UInt8) : Pk := if pErr s = 0 then packOf s else zeroP
def canonP (s : List UInt8) : Bool := decide (pErr s = 0 ∧ packB (readP s) = s)

theorem extB_length (p : Pk) : (extB p).length = if p.hd.ext = true then 4 + p.ext.length else 0 := by
  unfold extB
  split
  · simp only [List.length_append, be_length]; omega
  · rfl
theorem bodyP_length (p : Pk) : ((bodyP p).length : Int) = 12 + 4 * (p.hd.csrc.length : Int) + (p.pay.length : Int) + (if p.hd.ext = true then 4 + (p.ext.length : Int) else 0) := by
  unfold bodyP
  rw [List.length_append, List.length_append, headB_length, extB_length]
  split <;> omega
theorem packB_length {p : Pk} (h : rightP p = true) : ((packB p).length : Int) = sizeP p := by
  unfold rightP at h
  rw [decide_eq_true_eq] at h
  obtain ⟨_, _, _, _, _, h1, h2, _⟩ := h
  have hb := bodyP_length p
  unfold packB sizeP
  cases hp : p.hd.pad
  · simp only [Bool.false_eq_true, if_false]; omega
  · have := h1 hp
    simp only [if_true]
    rw [addB_length _ (by omega)]; omega

/-- What was read of a header that tells of an extension lies within the bytes. -/
theorem pErr_zero {s : List UInt8} (h : pErr s = 0) : s.length ≤ 65535 ∧ hErr s = 0 ∧ atP s + padP s ≤ s.length ∧ ((readH s).ext = true → readN s + 4 + 4 * wordsP s ≤ s.length) ∧ ((readH s).pad = true → 1 ≤ padP s ∧ padP s ≤ 255) ∧ ((readH s).pad = false → padP s = 0) := by
  unfold pErr at h
  split at h
  · cases h
  · rename_i h0
    split at h
    · rename_i h1; exact absurd h h1
    · rename_i h1
      split at h
      · cases h
      · rename_i h2
        split at h
        · cases h
        · rename_i h3
          have h1' : hErr s = 0 := by omega
          have hr := (readH_right h1').2.2.2.2
          have hat : atP s ≤ s.length := by
            unfold atP
            split
            · rename_i he
              have : ¬ (s.length < readN s + 4 ∨ s.length < readN s + 4 + 4 * wordsP s) := fun e => h2 ⟨he, e⟩
              omega
            · omega
          have htl := trailN_le (s.drop (atP s))
          have htb := trailN_lt (s.drop (atP s))
          rw [List.length_drop] at htl
          have hpe : padP s ≤ s.length - atP s := by unfold padP; split <;> omega
          refine ⟨by omega, h1', by omega, fun he => ?_, fun he => ?_, fun he => ?_⟩
          · have : ¬ (s.length < readN s + 4 ∨ s.length < readN s + 4 + 4 * wordsP s) := fun e => h2 ⟨he, e⟩
            omega
          · have : ¬ padP s = 0 := fun e => h3 ⟨he, e⟩
            have : padP s = trailN (s.drop (atP s)) := if_pos he
            omega
          · unfold padP
            rw [if_neg (by rw [he]; simp)]

end Go.Proofs.Ytbalpndgpdbcbaa

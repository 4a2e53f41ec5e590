/-
  What the functions of package packet come to: rightExt, rightPad, sum, Right, Size, extBytes, Write. (Written by gen_PackD.py.)
-/
import Derived.Test.YtogjkkhboaflcaaPackK
import Derived.Test.YtogjkkhboaflcaaHeadH
import Derived.Test.YtogjkkhboaflcaaBase
namespace Go.Proofs.Ytogjkkhboaflcaa
open Go.RowKit
set_option linter.unusedVariables false
set_option linter.unusedSimpArgs false

/-- Is the extension right; the trailer. -/
def extR (ex : Bool) (pr lb : Nat) : Bool := decide ((ex = false → pr = 0 ∧ lb = 0) ∧ (ex = true → lb % 4 = 0 ∧ lb / 4 ≤ 65535))
def padR (pd : Bool) (k : Int) : Bool := decide ((pd = true → 1 ≤ k ∧ k ≤ 255) ∧ (pd = false → k = 0))

/-- How many bytes a packet has, by package packet: a trailer that isn't there has none. -/
def sizeQ (ex : Bool) (n lb lc : Nat) (k : Int) : Int := 12 + 4 * (n : Int) + (lc : Int) + k + (if ex = true then 4 + (lb : Int) else 0)
theorem sizeQ_eq {pd ex : Bool} {n lb lc : Nat} {k : Int} (h : padR pd k = true) : sizeQ ex n lb lc k = sizeN pd ex n lb lc k := by
  unfold padR at h
  rw [decide_eq_true_eq] at h
  unfold sizeQ sizeN
  cases pd
  · have := h.2 rfl; subst this; simp
  · simp only [if_true]; omega

/-- The parts of a packet that is right, by package packet. -/
theorem rightP_eq {pd ex mk : Bool} {t : Int} {q ti ss n pr lb lc : Nat} {k : Int} {l : List Nat} {s r : List UInt8} (h1 : l.length = n) (h2 : s.length = lb) (h3 : r.length = lc) :
    rightP ⟨⟨pd, ex, mk, t, q, ti, ss, l⟩, pr, s, r, k⟩ = (rightH ⟨pd, ex, mk, t, q, ti, ss, l⟩ && (extR ex pr lb && (padR pd k && decide (sizeQ ex n lb lc k ≤ 65535)))) := by
  have hz : padR pd k = true → sizeP ⟨⟨pd, ex, mk, t, q, ti, ss, l⟩, pr, s, r, k⟩ = sizeQ ex n lb lc k := by
    intro h
    rw [sizeQ_eq h]
    unfold sizeP sizeN
    simp only [h1, h2, h3]
  rw [Bool.eq_iff_iff]
  simp only [Bool.and_eq_true, decide_eq_true_eq]
  unfold rightP
  rw [decide_eq_true_eq]
  unfold extR padR at *
  simp only [decide_eq_true_eq, h2, h3] at *
  constructor
  · rintro ⟨a1, a2, a3, a4, a5, a6, a7, a8⟩
    have e := hz ⟨a6, a7⟩
    exact ⟨a1, ⟨a5, fun _ => ⟨a4, by omega⟩⟩, ⟨a6, a7⟩, by omega⟩
  · rintro ⟨a1, ⟨a2, a3⟩, a4, a5⟩
    have e := hz a4
    unfold sizeQ at a5
    cases ex
    · simp only [Bool.false_eq_true, if_false] at a5
      have := a2 rfl
      have hk : 0 ≤ k := by cases pd; · have := a4.2 rfl; omega
                            · have := a4.1 rfl; omega
      exact ⟨a1, by omega, by omega, by omega, a2, a4.1, a4.2, by rw [e]; unfold sizeQ; simpa using a5⟩
    · simp only [if_true] at a5
      have := a3 rfl
      have hk : 0 ≤ k := by cases pd; · have := a4.2 rfl; omega
                            · have := a4.1 rfl; omega
      exact ⟨a1, by omega, by omega, by omega, a2, a4.1, a4.2, by rw [e]; unfold sizeQ; simpa using a5⟩

/-- What stands behind the join. -/
def JoinI (w0 w : World) (yn : Nat) (Y : List UInt8) (bx : List Value) (x : Value) (W : World) : Prop :=
  ∃ A c, x = .slice A yn c ∧ Bs W A yn c Y ∧ Box W w0.heap.size bx ∧ Below w0.heap.size w0 W

end Go.Proofs.Ytogjkkhboaflcaa

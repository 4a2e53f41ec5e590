/-
  What the functions of package packet come to: Canon; all of the contracts that layer 6 leans on.
-/
import Derived.Test.YtogjkkhboaflcaaPackF
import Derived.Test.YtogjkkhboaflcaaBase
namespace Go.Proofs.Ytogjkkhboaflcaa
open Go.RowKit
set_option linter.unusedVariables false
set_option linter.unusedSimpArgs false

theorem pread_any (A : Option Addr) (l c : Nat) (s : List UInt8) (w : World) (hs : Bs w A l c s) (hl : l ≤ 140737488355328) :
    Calls Try.prog 14 #[.slice A l c] w (GivesP w (readP s) (pErr s)) := by
  have hsl := hs.len
  unfold readP
  by_cases h0 : 65535 < s.length
  · rw [show pErr s = 4 from if_pos h0, if_neg (by omega)]
    exact pread_long A l c s w hs hl (by omega)
  · by_cases h1 : hErr s = 0
    · by_cases h2 : (readH s).ext = true ∧ (s.length < readN s + 4 ∨ s.length < readN s + 4 + 4 * wordsP s)
      · rw [show pErr s = 2 by unfold pErr; rw [if_neg h0, if_neg (by omega), if_pos h2], if_neg (by omega)]
        exact pread_short A l c s w hs (by omega) h1 h2.1 (by omega)
      · have he : pErr s = if (readH s).pad = true ∧ padP s = 0 then 5 else 0 := by unfold pErr; rw [if_neg h0, if_neg (by omega), if_neg h2]
        have := pread_rest A l c s w hs (by omega) h1 (fun hx => by
          have : ¬ (s.length < readN s + 4 ∨ s.length < readN s + 4 + 4 * wordsP s) := fun e => h2 ⟨hx, e⟩
          omega)
        rw [he]
        by_cases h3 : (readH s).pad = true ∧ padP s = 0
        · rw [if_pos h3, if_pos h3] at this
          rw [if_pos h3, if_neg (by omega)]
          exact this
        · rw [if_neg h3, if_neg h3] at this
          rw [if_neg h3, if_pos rfl]
          exact this
    · have he : pErr s = hErr s := by unfold pErr; rw [if_neg h0, if_pos h1]
      rw [he, if_neg h1]
      exact pread_head A l c s w hs (by omega) h1

end Go.Proofs.Ytogjkkhboaflcaa

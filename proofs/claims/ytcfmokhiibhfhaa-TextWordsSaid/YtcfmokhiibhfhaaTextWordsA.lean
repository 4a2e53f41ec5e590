/-
  The statement TextWords at whatever arguments, by the contracts of package text's calls.
-/
import Derived.Test.YtcfmokhiibhfhaaTextWordsW
namespace Go.Proofs.Ytcfmokhiibhfhaa
open Go.RowKit
set_option linter.unusedVariables false
set_option linter.unusedSimpArgs false

set_option maxRecDepth 100000 in
set_option maxHeartbeats 400000 in
theorem textWords_big (K : TextCalls) (A0 A1 : Option Addr) (n c0 m c1 : Nat) (s : ByteArray) (w : World) (hn : n ≤ maxLen) (hm : m ≤ maxLen) (hs : s.size ≤ maxLen) (h : n = 0 ∨ 20 < n ∨ m < n ∨ 2000 < s.size) :
    Calls Try.prog 5 #[.slice A0 n c0, .slice A1 m c1, .string s] w fun e w' => e = .returned (.bool true) ∧ Below w.heap.size w w' := by
  unfold maxLen at hn hm hs
  by_cases h0 : n = 0
  · subst h0
    clear h
    go_enter Try.func5, Try.ntmps5
    go_wp2_with fail
    refine (awake_any K _).mono ?_
    rintro e w1 ⟨rfl, hb1⟩
    go_wp2
    go_ret
    exact ⟨rfl, hb1⟩
  · have g0 : ((n : Int) == 0) = false := by rw [beq_eq_false_iff_ne]; omega
    by_cases h1 : 20 < n
    · have g1 : decide ((20 : Int) < (n : Int)) = true := by simp; omega
      clear h h0
      go_enter Try.func5, Try.ntmps5
      go_wp2_with fail
      refine (awake_any K _).mono ?_
      rintro e w1 ⟨rfl, hb1⟩
      go_wp2
      go_ret
      exact ⟨rfl, hb1⟩
    · have g1 : decide ((20 : Int) < (n : Int)) = false := by simp; omega
      by_cases h2 : m < n
      · have g2 : decide (m < n) = true := by simp; omega
        clear h h0 h1
        go_enter Try.func5, Try.ntmps5
        go_wp2_with fail
        refine (awake_any K _).mono ?_
        rintro e w1 ⟨rfl, hb1⟩
        go_wp2
        go_ret
        exact ⟨rfl, hb1⟩
      · have g2 : decide (m < n) = false := by simp; omega
        have h3 : 2000 < s.size := by omega
        have g3 : decide ((2000 : Int) < (s.size : Int)) = true := by simp; omega
        clear h h0 h1 h2
        go_enter Try.func5, Try.ntmps5
        go_wp2_with fail
        refine (awake_any K _).mono ?_
        rintro e w1 ⟨rfl, hb1⟩
        go_wp2
        go_ret
        exact ⟨rfl, hb1⟩

theorem textWords_all (K : TextCalls) (A0 A1 : Option Addr) (n c0 m c1 : Nat) (L : List (List UInt8)) (B : Nat → Bool) (s : ByteArray) (w : World) (hl : Ts w A0 n c0 L) (hp : IsBools w A1 m c1 B) (hs : s.size ≤ maxLen) :
    Calls Try.prog 5 #[.slice A0 n c0, .slice A1 m c1, .string s] w fun e w' => e = .returned (.bool true) ∧ Below w.heap.size w w' := by
  have hb := bools_sl hp
  by_cases h : n = 0 ∨ 20 < n ∨ m < n ∨ 2000 < s.size
  · exact textWords_big K A0 A1 n c0 m c1 s w (Nat.le_trans (Sl.le hl) (Sl.cap hl)) (Nat.le_trans (Sl.le hb) (Sl.cap hb)) hs h
  · exact textWords_main K A0 A1 n c0 m c1 L B s w hl hb (by omega) (by omega) (by omega) (by omega)

end Go.Proofs.Ytcfmokhiibhfhaa

/-
  What bytes.Clone comes to.
-/
import Derived.Test.YtkfinkmbdpdepaaProg
import Derived.Test.YtkfinkmbdpdepaaBase
namespace Go.Proofs.Ytkfinkmbdpdepaa
open Go.RowKit
set_option linter.unusedVariables false
set_option linter.unusedSimpArgs false

set_option maxHeartbeats 1000000 in
theorem clone_any (A : Option Addr) (n c : Nat) (s : List UInt8) (w : World) (hs : Bs w A n c s) (hn : n ≤ 1000000) :
    Calls Try.prog 17 #[.slice A n c] w (GivesB w 5 s) := by
  have hsl := hs.len
  have qT : ∀ (w : World) (a : Option Addr) (n c n' c' : Nat), (binOp .eql 22 (.slice a n c) (.slice none n' c')).run Try.prog w = .ok (.bool a.isNone) w := fun w a n c n' c' => Lib.run_eql_slice_nil w _ _ a n c n' c' Try.underlying22
  cases A with
  | none =>
    obtain ⟨rfl, rfl⟩ := Sl.nothing hs rfl
    obtain rfl : s = [] := List.eq_nil_of_length_eq_zero hsl
    clear hsl hs
    go_enter Try.func17, Try.ntmps17
    go_wp2_with fail
    go_ret
    exact ⟨none, 0, rfl, Own.nil _ _ _, Below.refl _ _⟩
  | some ad =>
    obtain ⟨q, hq⟩ : ∃ q, q = s.length := ⟨_, rfl⟩
    unfold GivesB
    rw [← hq]
    have hqn : q = n := by omega
    subst hqn
    clear hq hsl
    have hnone : (some ad : Option Addr).isNone = false := rfl
    go_enter Try.func17, Try.ntmps17
    go_wp2_with (at_builtin; go_loud (refine wpList_app2 rfl (.tmp 5) (.tmp 6) 22 rfl w.heap.size 5 Try.underlying22 byte_info (some ⟨w.heap.size, 0, none⟩) 0 0 [] rfl (own_empty w _ _ (Nat.le_refl _)) (some ad) q c s rfl (hs.alloc _) (by omega) (by simp) ?_; intro A5 c5 w5 hown5 hg5 hat5))
    rw [Nat.zero_add, List.nil_append] at hown5
    go_ret
    refine ⟨A5, c5, rfl, hown5, (below1 w (.cells #[] 5)).grown hg5 (by simp) (fun q hq => by
      injection hq with hq
      subst hq
      exact Nat.le_refl _)⟩

end Go.Proofs.Ytkfinkmbdpdepaa

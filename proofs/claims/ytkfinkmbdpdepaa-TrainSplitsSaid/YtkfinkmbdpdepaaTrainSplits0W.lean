/-
  TrainSplits, walked where a bound is passed. (Written by gen_TrainSplitsW.py.)
-/
import Derived.Test.YtkfinkmbdpdepaaTrainA
namespace Go.Proofs.Ytkfinkmbdpdepaa
open Go.RowKit
set_option linter.unusedVariables false
set_option linter.unusedSimpArgs false

section
variable (KC : TrainCalls)
include KC
set_option maxRecDepth 100000 in
set_option maxHeartbeats 1000000 in
theorem trainSplits_early0 (Ak : Option Addr) (nk ck : Nat) (sk : List UInt8) (Aq : Option Addr) (nq cq : Nat) (sq : List UInt8) (Ab : Option Addr) (nb cb : Nat) (L : List (List UInt8)) (tr : Nat) (Ad : Option Addr) (m d : Nat) (u : List UInt8) (ct : Nat) (w : World) (h0 : 20 < nb) (b1 : (nb : Int) ≤ 9223372036854775807) (b2 : (nk : Int) ≤ 9223372036854775807) (b3 : (nq : Int) ≤ 9223372036854775807) (b4 : (m : Int) ≤ 9223372036854775807) :
    Calls Try.prog 5 #[.slice Ak nk ck, .slice Aq nq cq, .slice Ab nb cb, .int .u8 (tr : Int), .slice Ad m d, .int .u16 (ct : Int)] w fun e w' => e = .returned (.bool true) ∧ Below w.heap.size w w' := by
  have g0 : (20 : Int) < nb := by omega
  go_enter Try.func5, Try.ntmps5
  go_wp2_with fail
  refine (awake11_any KC _).mono ?_
  rintro e w2 ⟨rfl, hb2⟩
  go_wp2_with fail
  go_ret
  exact ⟨rfl, hb2⟩

set_option maxRecDepth 100000 in
set_option maxHeartbeats 1000000 in
theorem trainSplits_early1 (Ak : Option Addr) (nk ck : Nat) (sk : List UInt8) (Aq : Option Addr) (nq cq : Nat) (sq : List UInt8) (Ab : Option Addr) (nb cb : Nat) (L : List (List UInt8)) (tr : Nat) (Ad : Option Addr) (m d : Nat) (u : List UInt8) (ct : Nat) (w : World) (h0 : ¬ 20 < nb) (h1 : nk < nb) (b1 : (nb : Int) ≤ 9223372036854775807) (b2 : (nk : Int) ≤ 9223372036854775807) (b3 : (nq : Int) ≤ 9223372036854775807) (b4 : (m : Int) ≤ 9223372036854775807) :
    Calls Try.prog 5 #[.slice Ak nk ck, .slice Aq nq cq, .slice Ab nb cb, .int .u8 (tr : Int), .slice Ad m d, .int .u16 (ct : Int)] w fun e w' => e = .returned (.bool true) ∧ Below w.heap.size w w' := by
  have g0 : ¬ (20 : Int) < nb := by omega
  have g1 : (nk : Int) < nb := by omega
  go_enter Try.func5, Try.ntmps5
  go_wp2_with fail
  refine (awake11_any KC _).mono ?_
  rintro e w2 ⟨rfl, hb2⟩
  go_wp2_with fail
  go_ret
  exact ⟨rfl, hb2⟩

set_option maxRecDepth 100000 in
set_option maxHeartbeats 1000000 in
theorem trainSplits_early2 (Ak : Option Addr) (nk ck : Nat) (sk : List UInt8) (Aq : Option Addr) (nq cq : Nat) (sq : List UInt8) (Ab : Option Addr) (nb cb : Nat) (L : List (List UInt8)) (tr : Nat) (Ad : Option Addr) (m d : Nat) (u : List UInt8) (ct : Nat) (w : World) (h0 : ¬ 20 < nb) (h1 : ¬ nk < nb) (h2 : nq < nb) (b1 : (nb : Int) ≤ 9223372036854775807) (b2 : (nk : Int) ≤ 9223372036854775807) (b3 : (nq : Int) ≤ 9223372036854775807) (b4 : (m : Int) ≤ 9223372036854775807) :
    Calls Try.prog 5 #[.slice Ak nk ck, .slice Aq nq cq, .slice Ab nb cb, .int .u8 (tr : Int), .slice Ad m d, .int .u16 (ct : Int)] w fun e w' => e = .returned (.bool true) ∧ Below w.heap.size w w' := by
  have g0 : ¬ (20 : Int) < nb := by omega
  have g1 : ¬ (nk : Int) < nb := by omega
  have g2 : (nq : Int) < nb := by omega
  go_enter Try.func5, Try.ntmps5
  go_wp2_with fail
  refine (awake11_any KC _).mono ?_
  rintro e w2 ⟨rfl, hb2⟩
  go_wp2_with fail
  go_ret
  exact ⟨rfl, hb2⟩

set_option maxRecDepth 100000 in
set_option maxHeartbeats 1000000 in
theorem trainSplits_early3 (Ak : Option Addr) (nk ck : Nat) (sk : List UInt8) (Aq : Option Addr) (nq cq : Nat) (sq : List UInt8) (Ab : Option Addr) (nb cb : Nat) (L : List (List UInt8)) (tr : Nat) (Ad : Option Addr) (m d : Nat) (u : List UInt8) (ct : Nat) (w : World) (h0 : ¬ 20 < nb) (h1 : ¬ nk < nb) (h2 : ¬ nq < nb) (h3 : 3000 < m) (b1 : (nb : Int) ≤ 9223372036854775807) (b2 : (nk : Int) ≤ 9223372036854775807) (b3 : (nq : Int) ≤ 9223372036854775807) (b4 : (m : Int) ≤ 9223372036854775807) :
    Calls Try.prog 5 #[.slice Ak nk ck, .slice Aq nq cq, .slice Ab nb cb, .int .u8 (tr : Int), .slice Ad m d, .int .u16 (ct : Int)] w fun e w' => e = .returned (.bool true) ∧ Below w.heap.size w w' := by
  have g0 : ¬ (20 : Int) < nb := by omega
  have g1 : ¬ (nk : Int) < nb := by omega
  have g2 : ¬ (nq : Int) < nb := by omega
  have g3 : (3000 : Int) < m := by omega
  go_enter Try.func5, Try.ntmps5
  go_wp2_with fail
  refine (awake11_any KC _).mono ?_
  rintro e w2 ⟨rfl, hb2⟩
  go_wp2_with fail
  go_ret
  exact ⟨rfl, hb2⟩


end

end Go.Proofs.Ytkfinkmbdpdepaa

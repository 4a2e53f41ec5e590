/-
  The document's own answers of layer 2: Ink, Same, SameInk.
-/
import Derived.Test.YthkngjokbkfebaaRbitB
namespace Go.Proofs.Ythkngjokbkfebaa
open Go.RowKit

set_option maxHeartbeats 400000 in
theorem rink_any (A : Option Addr) (l c : Nat) (s : List UInt8) (m : Int) (w : World) (hs : Bs w A l c s) (hl : l ≤ 140737488355328) :
    Calls Try.prog 18 #[.agg #[.slice A l c, .int .i64 m]] w (Says w (.bool (inkB s m))) := by
  have hlen := hs.len
  by_cases h0 : m < 0
  · rw [inkB_neg h0]
    go_enter Try.func18, Try.ntmps18
    go_wp2
    go_ret
    exact ⟨rfl, below1 _ _⟩
  · obtain ⟨m, rfl⟩ := Int.eq_ofNat_of_zero_le (show 0 ≤ m by omega)
    by_cases h1 : 8 * (l : Int) < (m : Int)
    · rw [inkB_len (by omega)]
      go_enter Try.func18, Try.ntmps18
      go_wp2
      go_ret
      exact ⟨rfl, below1 _ _⟩
    · by_cases h2 : 7 < 8 * (l : Int) - m
      · rw [inkB_len (by omega)]
        go_enter Try.func18, Try.ntmps18
        go_wp2
        go_ret
        exact ⟨rfl, below1 _ _⟩
      · have hs1 := hs.alloc (.cells #[.slice A l c, .int .i64 m] 27)
        have hyes : (∀ i, m ≤ i → i < 8 * l → bitAt s i = false) → inkB s m = true := fun h =>
          inkB_iff.2 ⟨by omega, by rw [Int.toNat_natCast]; omega, fun i hi => by
            rw [Int.toNat_natCast] at hi
            rcases Nat.lt_or_ge i (8 * l) with h3 | h3
            · exact h i hi h3
            · exact bitAt_out (by omega)⟩
        have hno : ∀ i, m ≤ i → bitAt s i = true → inkB s m = false := fun i h3 h4 => by
          cases e : inkB s m
          · rfl
          · have := (inkB_iff.1 e).2.2 i (by rw [Int.toNat_natCast]; exact h3)
            rw [this] at h4; cases h4
        have HY := Lib.hid hyes
        have HN := Lib.hid hno
        clear hyes hno hlen
        generalize inkB s m = q at *
        go_enter Try.func18, Try.ntmps18
        go_wp2
        go_loop [3] (fun i => ∃ k : Nat, m ≤ k ∧ k ≤ 8 * l ∧ i = .int .i64 (k : Int) ∧ ∀ j, m ≤ j → j < k → bitAt s j = false) (fun i => 8 * l - (intOf i).toNat)
        case atStart => exact ⟨m, by omega, by omega, rfl, fun j h3 h4 => by omega⟩
        case round =>
          obtain ⟨k, hk1, hk2, rfl, hall⟩ := hrel
          have HA := Lib.hid hall
          clear hall
          by_cases hkl : k < 8 * l
          · have D := Lib.hid (rbit_any A l c s k _ hs1 hl hkl)
            by_cases hbk : bitAt s k = true
            · rw [hbk] at D
              have hq := HN.out k hk1 hbk
              subst hq
              clear hbk
              go_wp2_with fail
              refine D.out.mono ?_
              rintro e w' ⟨rfl, rfl⟩
              go_wp2
              go_ret
              exact ⟨rfl, below1 _ _⟩
            · have hbf : bitAt s k = false := by simpa using hbk
              rw [hbf] at D
              have hnext : ∀ j, m ≤ j → j < k + 1 → bitAt s j = false := fun j h3 h4 => by
                rcases Nat.lt_or_ge j k with h5 | h5
                · exact HA.out j h3 h5
                · rw [show j = k by omega]; exact hbf
              have HX := Lib.hid hnext
              clear hbk hbf hnext
              go_wp2_with fail
              refine D.out.mono ?_
              rintro e w' ⟨rfl, rfl⟩
              go_wp2
              go_round
              case rel => exact ⟨k + 1, by omega, by omega, by go_num, HX.out⟩
              case measure => simp [intOf]; omega
          · have hq := HY.out (fun j h3 h4 => HA.out j h3 (by omega))
            subst hq
            go_wp2
            go_ret
            exact ⟨rfl, below1 _ _⟩
theorem rink_is (A : Option Addr) (l c : Nat) (s : List UInt8) (m : Int) (w : World) (hs : Bs w A l c s) (hl : l ≤ 140737488355328) (q : Bool) (hq : inkB s m = q) :
    Calls Try.prog 18 #[.agg #[.slice A l c, .int .i64 m]] w (Says w (.bool q)) := by
  subst hq
  exact rink_any A l c s m w hs hl

theorem str_of {w : World} {A : Option Addr} {n c : Nat} {s : List UInt8} (h : Bs w A n c s) : (convert 22 9 (.slice A n c)).run Try.prog w = .ok (.string ⟨s.toArray⟩) w :=
  run_string_of w _ _ _ Try.underlying22 Try.underlying5 Try.underlying9 h

set_option maxHeartbeats 400000 in
theorem rsame_yes (A B : Option Addr) (l c d : Nat) (s : List UInt8) (a err : Int) (w : World) (h1 : Bs w A l c s) (h2 : Bs w B l d s) :
    Calls Try.prog 12 #[.agg #[.slice A l c, .int .i64 a, .int .i64 err], .agg #[.slice B l d, .int .i64 a, .int .i64 err]] w (Says w (.bool true)) := by
  have t1 := fun o1 o2 => str_of ((h1.alloc o1).alloc o2)
  have t2 := fun o1 o2 => str_of ((h2.alloc o1).alloc o2)
  go_enter Try.func12, Try.ntmps12
  go_wp2
  go_ret
  exact ⟨rfl, below2 _ _ _⟩
set_option maxHeartbeats 400000 in
theorem rsameInk_yes (A B : Option Addr) (l c d : Nat) (s : List UInt8) (m : Int) (w : World) (h1 : Bs w A l c s) (h2 : Bs w B l d s) :
    Calls Try.prog 19 #[.agg #[.slice A l c, .int .i64 m], .agg #[.slice B l d, .int .i64 m]] w (Says w (.bool true)) := by
  have t1 := fun o1 o2 => str_of ((h1.alloc o1).alloc o2)
  have t2 := fun o1 o2 => str_of ((h2.alloc o1).alloc o2)
  go_enter Try.func19, Try.ntmps19
  go_wp2
  go_ret
  exact ⟨rfl, below2 _ _ _⟩

end Go.Proofs.Ythkngjokbkfebaa

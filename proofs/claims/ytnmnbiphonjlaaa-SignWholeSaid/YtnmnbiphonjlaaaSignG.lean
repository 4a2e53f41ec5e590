/-
  What the functions of package sign come to: the forms, their methods, formOf.
-/
import Derived.Test.YtnmnbiphonjlaaaSignK
import Derived.Test.YtnmnbiphonjlaaaTextTk
import Derived.Laws.BitsAllLaws
import Derived.Stop.Asserts
namespace Go.Proofs.Ytnmnbiphonjlaaa
open Go.RowKit
set_option linter.unusedVariables false
set_option linter.unusedSimpArgs false

/-- The forms, as values of their interface. -/
abbrev wordF : Value := .iface 48 (.agg #[])
abbrev plainF (s : Int) : Value := .iface 67 (.agg #[.int .i64 s])
abbrev levelF : Value := .iface 68 (.agg #[.int .i64 1])
abbrev turnF : Value := .iface 69 (.agg #[.int .i64 1])

theorem and_bit (v e : Nat) (h : v < 18446744073709551616) (he : e < 64) : (bits .and .u64 (v : Int) ((2 ^ e : Nat) : Int) != 0) = decide (v / 2 ^ e % 2 = 1) := by
  rw [u64_and_nat _ _ h (Nat.pow_lt_pow_right (a := 2) (by omega) he)]
  have h1 : v &&& 2 ^ e = if v / 2 ^ e % 2 = 1 then 2 ^ e else 0 := by
    have hb : v.testBit e = decide (v / 2 ^ e % 2 = 1) := by rw [Nat.testBit_eq_decide_div_mod_eq]
    apply Nat.eq_of_testBit_eq
    intro i
    rw [Nat.testBit_and, Nat.testBit_two_pow]
    by_cases hi : e = i
    · subst hi
      rw [hb]
      by_cases hq : v / 2 ^ e % 2 = 1
      · rw [if_pos hq, decide_eq_true hq, Nat.testBit_two_pow]; rfl
      · rw [if_neg hq, decide_eq_false hq]; simp
    · rw [decide_eq_false hi, Bool.and_false]
      by_cases hq : v / 2 ^ e % 2 = 1
      · rw [if_pos hq, Nat.testBit_two_pow, decide_eq_false hi]
      · rw [if_neg hq]; simp
  rw [h1]
  have hp : 0 < 2 ^ e := Nat.pow_pos (by omega)
  by_cases hq : v / 2 ^ e % 2 = 1
  · rw [if_pos hq, decide_eq_true hq, bne_iff_ne]; omega
  · rw [if_neg hq, decide_eq_false hq]; rfl
theorem and_low (v e m : Nat) (h : v < 18446744073709551616) (he : e ≤ 63) (hm : m = 2 ^ e - 1) : bits .and .u64 (v : Int) (m : Int) = ((v % 2 ^ e : Nat) : Int) := by
  subst hm
  have := Nat.pow_lt_pow_right (a := 2) (m := e) (n := 64) (by omega) (by omega)
  rw [u64_and_nat _ _ h (by omega), Nat.and_two_pow_sub_one_eq_mod]

theorem formOf_word (k : Int) (w : World) (h : k = 1 ∨ k = 2) : Calls Try.prog 16 #[.int .i64 k] w fun e w' => e = .returned (.tuple #[wordF, .bool true]) ∧ w' = w := by
  rcases h with rfl | rfl
  all_goals
    go_enter Try.func16, Try.ntmps16
    go_wp2_with fail
    go_ret2
    exact ⟨rfl, rfl⟩
theorem formOf_plain (k : Int) (s : Int) (w : World) (h : k = 3 ∧ s = 3 ∨ k = 5 ∧ s = 2) : Calls Try.prog 16 #[.int .i64 k] w fun e w' => e = .returned (.tuple #[plainF s, .bool true]) ∧ w' = w := by
  rcases h with ⟨rfl, rfl⟩ | ⟨rfl, rfl⟩
  all_goals
    go_enter Try.func16, Try.ntmps16
    go_wp2_with fail
    go_ret2
    exact ⟨rfl, rfl⟩
theorem formOf_level (w : World) : Calls Try.prog 16 #[.int .i64 4] w fun e w' => e = .returned (.tuple #[levelF, .bool true]) ∧ w' = w := by
  go_enter Try.func16, Try.ntmps16
  go_wp2_with fail
  go_ret2
  exact ⟨rfl, rfl⟩
theorem formOf_turn (w : World) : Calls Try.prog 16 #[.int .i64 6] w fun e w' => e = .returned (.tuple #[turnF, .bool true]) ∧ w' = w := by
  go_enter Try.func16, Try.ntmps16
  go_wp2_with fail
  go_ret2
  exact ⟨rfl, rfl⟩
theorem formOf_none (k : Int) (w : World) (h : k < 1 ∨ 6 < k) : Calls Try.prog 16 #[.int .i64 k] w fun e w' => e = .returned (.tuple #[.nilIface, .bool false]) ∧ w' = w := by
  have g1 : (k == 1) = false := by rw [beq_eq_false_iff_ne]; omega
  have g2 : (k == 2) = false := by rw [beq_eq_false_iff_ne]; omega
  have g3 : (k == 3) = false := by rw [beq_eq_false_iff_ne]; omega
  have g4 : (k == 4) = false := by rw [beq_eq_false_iff_ne]; omega
  have g5 : (k == 5) = false := by rw [beq_eq_false_iff_ne]; omega
  have g6 : (k == 6) = false := by rw [beq_eq_false_iff_ne]; omega
  clear h
  go_enter Try.func16, Try.ntmps16
  go_wp2_with fail
  go_ret2
  exact ⟨rfl, rfl⟩

theorem bit_any (b : Nat) (on : Bool) (w : World) : Calls Try.prog 50 #[.int .u64 (b : Int), .bool on] w fun e w' => e = .returned (.int .u64 ((if on = true then b else 0 : Nat) : Int)) ∧ w' = w := by
  cases on
  all_goals
    go_enter Try.func50, Try.ntmps50
    go_wp2_with fail
    go_ret
    exact ⟨rfl, rfl⟩
theorem word_takes (n : Nat) (w : World) (hn : n ≤ 1000000) : Calls Try.prog 43 #[.agg #[], .int .i64 (n : Int)] w (Says w (.bool (decide (1 ≤ n ∧ n ≤ 16)))) := by
  by_cases h1 : 1 ≤ n
  · by_cases h2 : n ≤ 16
    · rw [decide_eq_true ⟨h1, h2⟩]
      have g1 : decide ((n : Int) < 1) = false := decide_eq_false (by omega)
      have g2 : decide ((16 : Int) < n) = false := decide_eq_false (by omega)
      go_enter Try.func43, Try.ntmps43
      go_wp2_with fail
      go_ret
      refine ⟨?_, below1 _ _⟩
      first | rfl | (simp; omega)
    · rw [decide_eq_false (by omega)]
      have g1 : decide ((n : Int) < 1) = false := decide_eq_false (by omega)
      have g2 : decide ((16 : Int) < n) = true := decide_eq_true (by omega)
      go_enter Try.func43, Try.ntmps43
      go_wp2_with fail
      go_ret
      refine ⟨?_, below1 _ _⟩
      first | rfl | (simp; omega)
  · rw [decide_eq_false (by omega)]
    have g1 : decide ((n : Int) < 1) = true := decide_eq_true (by omega)
    go_enter Try.func43, Try.ntmps43
    go_wp2_with fail
    go_ret
    refine ⟨?_, below1 _ _⟩
    first | rfl | (simp; omega)
theorem width_takes (s n : Int) (w : World) : Calls Try.prog 45 #[.int .i64 s, .int .i64 n] w fun e w' => e = .returned (.bool (n == s)) ∧ w' = w := by
  go_enter Try.func45, Try.ntmps45
  go_wp2_with fail
  go_ret
  exact ⟨rfl, rfl⟩
theorem width_size (s : Int) (w : World) : Calls Try.prog 44 #[.int .i64 s] w fun e w' => e = .returned (.int .i64 s) ∧ w' = w := by
  go_enter Try.func44, Try.ntmps44
  go_wp2_with fail
  go_ret
  exact ⟨rfl, rfl⟩
/-- The number of a sign whose form is of numbers. -/
def numF (p : Sg) : Nat := if p.kind = 4 then p.num + (if p.a = true then 128 else 0) else if p.kind = 6 then ((p.turns + (if p.b = true then 4 else 0) + (if p.a = true then 8 else 0)) % 18446744073709551616).toNat else p.num
/-- The sign of a number. -/
def signF (k : Int) (v : Nat) : Sg :=
  if k = 4 then ⟨4, ⟨#[]⟩, v % 128, decide (v / 128 % 2 = 1), false, 0⟩
  else if k = 6 then ⟨6, ⟨#[]⟩, 0, decide (v / 8 % 2 = 1), decide (v / 4 % 2 = 1), (v % 4 : Nat)⟩
  else ⟨k, ⟨#[]⟩, v % (if k = 3 then 16777216 else 65536), false, false, 0⟩
def sizeF (k : Int) : Nat := if k = 3 then 3 else if k = 5 then 2 else 1
theorem numF_lt {p : Sg} (h : SgOk p) : numF p < 18446744073709551616 := by
  have := h.2.1
  unfold numF
  split
  · split <;> omega
  · split
    · omega
    · omega
theorem plain_number (s : Int) (p : Sg) (w : World) (h : SgOk p) : Calls Try.prog 46 #[.agg #[.int .i64 s], sgV p] w (Says w (.int .u64 (p.num : Int))) := by
  have hn := h.2.1
  clear h
  obtain ⟨k, t, n, a, b, u⟩ := p
  dsimp only at hn
  dsimp only [sgV]
  have kb := Box.new (w.alloc (.cells #[.int .i64 s] 67)) [.int .i64 k, .string t, .int .u32 (n : Int), .bool a, .bool b, .int .i64 u] 24
  have f1 := kb.all6.1
  have g1 : IntKind.u64.wrap (n : Int) = n := IntWalk.u64_in _ (by omega)
  clear kb hn
  go_enter Try.func46, Try.ntmps46
  go_wp2_with fail
  go_ret
  refine ⟨?_, below2 _ _ _⟩
  first | rfl | rw [g1]
theorem level_number (p : Sg) (w : World) (h : SgOk p) (hk : p.kind = 4) : Calls Try.prog 48 #[.agg #[.int .i64 1], sgV p] w (Says w (.int .u64 (numF p : Int))) := by
  have hn := h.2.1
  have e : numF p = p.num + (if p.a = true then 128 else 0) := if_pos hk
  rw [e]
  clear h hk e
  obtain ⟨k, t, n, a, b, u⟩ := p
  dsimp only at hn ⊢
  dsimp only [sgV]
  have kb := Box.new (w.alloc (.cells #[.int .i64 1] 68)) [.int .i64 k, .string t, .int .u32 (n : Int), .bool a, .bool b, .int .i64 u] 24
  have f1 := kb.all6.1
  have g1 : IntKind.u64.wrap (n : Int) = n := IntWalk.u64_in _ (by omega)
  obtain ⟨x, hx⟩ : ∃ x : Nat, (if a = true then 128 else 0) = x := ⟨_, rfl⟩
  have HB : Hid (∀ W : World, Calls Try.prog 50 #[.int .u64 128, .bool a] W fun e w' => e = .returned (.int .u64 (x : Int)) ∧ w' = W) := Lib.hid (fun W => by have := bit_any 128 a W; rw [hx] at this; exact this)
  rw [hx]
  have hx2 : x ≤ 128 := by rw [← hx]; split <;> omega
  have g2 : IntKind.u64.wrap ((n : Int) + x) = (n : Int) + x := IntWalk.u64_in _ (by omega)
  clear kb hn hx hx2
  go_enter Try.func48, Try.ntmps48
  go_upto_region 1 with fail
  go_quiet ((go_at_call 50; exact Calls.quiet_of_same (HB.out _)))
  go_wp2_with fail
  go_ret
  refine ⟨?_, below_drewN (below2 _ _ _) _⟩
  first | rfl | (rw [g2]; rfl) | (simp [g1, g2])
theorem turn_number (p : Sg) (w : World) (h : SgOk p) (hk : p.kind = 6) : Calls Try.prog 51 #[.agg #[.int .i64 1], sgV p] w (Says w (.int .u64 (numF p : Int))) := by
  have hn := h.2.1
  have e : numF p = ((p.turns + (if p.b = true then 4 else 0) + (if p.a = true then 8 else 0)) % 18446744073709551616).toNat := by unfold numF; rw [if_neg (by omega), if_pos hk]
  rw [e]
  clear h hk e
  obtain ⟨k, t, n, a, b, u⟩ := p
  dsimp only at hn ⊢
  dsimp only [sgV]
  have kb := Box.new (w.alloc (.cells #[.int .i64 1] 69)) [.int .i64 k, .string t, .int .u32 (n : Int), .bool a, .bool b, .int .i64 u] 24
  have f1 := kb.all6.1
  obtain ⟨x, hx⟩ : ∃ x : Nat, (if a = true then 8 else 0) = x := ⟨_, rfl⟩
  obtain ⟨y, hy⟩ : ∃ y : Nat, (if b = true then 4 else 0) = y := ⟨_, rfl⟩
  have HB : Hid (∀ W : World, Calls Try.prog 50 #[.int .u64 4, .bool b] W fun e w' => e = .returned (.int .u64 (y : Int)) ∧ w' = W) := Lib.hid (fun W => by have := bit_any 4 b W; rw [hy] at this; exact this)
  have HA : Hid (∀ W : World, Calls Try.prog 50 #[.int .u64 8, .bool a] W fun e w' => e = .returned (.int .u64 (x : Int)) ∧ w' = W) := Lib.hid (fun W => by have := bit_any 8 a W; rw [hx] at this; exact this)
  have g2 : IntKind.u64.wrap (IntKind.u64.wrap (IntKind.u64.wrap u + y) + x) = (((u + (if b = true then 4 else 0) + (if a = true then 8 else 0)) % 18446744073709551616).toNat : Int) := by
    rw [show (if b = true then (4 : Int) else 0) = (y : Int) from by rw [← hy]; split <;> rfl, show (if a = true then (8 : Int) else 0) = (x : Int) from by rw [← hx]; split <;> rfl]
    have hw : ∀ z : Int, IntKind.u64.wrap z = z % 18446744073709551616 := fun z => rfl
    rw [hw, hw, hw]
    omega
  generalize (((u + (if b = true then 4 else 0) + (if a = true then 8 else 0)) % 18446744073709551616).toNat : Int) = z at *
  replace g2 := Lib.hid g2
  clear kb hn hx hy
  go_enter Try.func51, Try.ntmps51
  go_upto_region 1 with fail
  go_quiet (first | (go_at_call 50; exact Calls.quiet_of_same (HB.out _)) | (go_at_call 50; exact Calls.quiet_of_same (HA.out _)))
  go_wp2_with fail
  go_ret
  exact ⟨by rw [← g2.out]; rfl, below_drewN (below2 _ _ _) _⟩
theorem level_sign (k v : Nat) (w : World) (hv : v < 18446744073709551616) : Calls Try.prog 49 #[.agg #[.int .i64 1], .int .i64 k, .int .u64 (v : Int)] w (Says w (.agg #[.int .i64 k, .string ⟨#[]⟩, .int .u32 ((v % 128 : Nat) : Int), .bool (decide (v / 128 % 2 = 1)), .bool false, .int .i64 0])) := by
  have h1 : bits .and .u64 (v : Int) 127 = ((v % 128 : Nat) : Int) := and_low v 7 127 hv (by omega) rfl
  have h2 : (bits .and .u64 (v : Int) 128 != 0) = decide (v / 128 % 2 = 1) := and_bit v 7 hv (by omega)
  have h3 : IntKind.u32.wrap ((v % 128 : Nat) : Int) = ((v % 128 : Nat) : Int) := IntWalk.u32_in _ (by omega)
  generalize (v % 128 : Nat) = x at *
  generalize decide (v / 128 % 2 = 1) = y at *
  clear hv
  go_enter Try.func49, Try.ntmps49
  go_wp2_with fail
  refine bodyPost_ret (v := .agg #[.int .i64 k, .string ⟨#[]⟩, .int .u32 (x : Int), .bool y, .bool false, .int .i64 0]) (by simp [results, Try.results49, go_sem, *]) rfl ⟨rfl, ?_⟩
  first | exact below2 _ _ _ | exact below3 _ _ _ _
theorem turn_sign (k v : Nat) (w : World) (hv : v < 18446744073709551616) : Calls Try.prog 52 #[.agg #[.int .i64 1], .int .i64 k, .int .u64 (v : Int)] w (Says w (.agg #[.int .i64 k, .string ⟨#[]⟩, .int .u32 0, .bool (decide (v / 8 % 2 = 1)), .bool (decide (v / 4 % 2 = 1)), .int .i64 ((v % 4 : Nat) : Int)])) := by
  have h1 : bits .and .u64 (v : Int) 3 = ((v % 4 : Nat) : Int) := and_low v 2 3 hv (by omega) rfl
  have h2 : (bits .and .u64 (v : Int) 4 != 0) = decide (v / 4 % 2 = 1) := and_bit v 2 hv (by omega)
  have h4 : (bits .and .u64 (v : Int) 8 != 0) = decide (v / 8 % 2 = 1) := and_bit v 3 hv (by omega)
  have h3 : IntKind.i64.wrap ((v % 4 : Nat) : Int) = ((v % 4 : Nat) : Int) := IntWalk.i64_in _ (by omega)
  generalize (v % 4 : Nat) = x at *
  generalize decide (v / 4 % 2 = 1) = y at *
  generalize decide (v / 8 % 2 = 1) = z at *
  clear hv
  go_enter Try.func52, Try.ntmps52
  go_wp2_with fail
  refine bodyPost_ret (v := .agg #[.int .i64 k, .string ⟨#[]⟩, .int .u32 0, .bool z, .bool y, .int .i64 (x : Int)]) (by simp [results, Try.results52, go_sem, *]) rfl ⟨rfl, ?_⟩
  first | exact below2 _ _ _ | exact below3 _ _ _ _
theorem plain_sign (s k v M : Nat) (w : World) (hs : s = 3 ∧ M = 16777216 ∨ s = 2 ∧ M = 65536) (hv : v < 18446744073709551616) : Calls Try.prog 47 #[.agg #[.int .i64 s], .int .i64 k, .int .u64 (v : Int)] w (Says w (.agg #[.int .i64 k, .string ⟨#[]⟩, .int .u32 ((v % M : Nat) : Int), .bool false, .bool false, .int .i64 0])) := by
  have h1 : bits .and .u64 (v : Int) (M - 1) = ((v % M : Nat) : Int) := by
    rcases hs with ⟨rfl, rfl⟩ | ⟨rfl, rfl⟩
    · exact and_low v 24 16777215 hv (by omega) rfl
    · exact and_low v 16 65535 hv (by omega) rfl
  have h3 : IntKind.u32.wrap ((v % M : Nat) : Int) = ((v % M : Nat) : Int) := IntWalk.u32_in _ (by rcases hs with ⟨rfl, rfl⟩ | ⟨rfl, rfl⟩ <;> omega)
  generalize (v % M : Nat) = x at *
  have HZ := Lib.hid (fun W => width_size s W)
  clear hv
  have h4 : (s = 3 ∧ bits .and .u64 (v : Int) 16777215 = (x : Int)) ∨ (s = 2 ∧ bits .and .u64 (v : Int) 65535 = (x : Int)) := by
    rcases hs with ⟨rfl, rfl⟩ | ⟨rfl, rfl⟩
    · exact .inl ⟨rfl, h1⟩
    · exact .inr ⟨rfl, h1⟩
  clear h1 hs
  rcases h4 with ⟨rfl, h1⟩ | ⟨rfl, h1⟩
  all_goals
    go_enter Try.func47, Try.ntmps47
    go_wp2_with fail
    refine (HZ.out _).mono ?_
    rintro e w' ⟨rfl, rfl⟩
    go_wp2_with fail
    try rw [h1]
    refine bodyPost_ret (v := .agg #[.int .i64 k, .string ⟨#[]⟩, .int .u32 (x : Int), .bool false, .bool false, .int .i64 0]) (by simp [results, Try.results47, go_sem, *]) rfl ⟨rfl, ?_⟩
    first | exact below2 _ _ _ | exact below3 _ _ _ _

theorem met_plain_number (fuel : Nat) (s : Int) (w : World) : (method (fuel + 1) 67 (.agg #[.int .i64 s]) "crossbar/sign.number").run Try.prog w = .ok (46, .agg #[.int .i64 s]) w := by kernel_rfl
theorem met_plain_sign (fuel : Nat) (s : Int) (w : World) : (method (fuel + 1) 67 (.agg #[.int .i64 s]) "crossbar/sign.sign").run Try.prog w = .ok (47, .agg #[.int .i64 s]) w := by kernel_rfl
theorem met_plain_size (fuel : Nat) (s : Int) (w : World) : (method (fuel + 1) 67 (.agg #[.int .i64 s]) "crossbar/sign.size").run Try.prog w = .ok (44, .int .i64 s) w := by kernel_rfl
theorem met_plain_takes (fuel : Nat) (s : Int) (w : World) : (method (fuel + 1) 67 (.agg #[.int .i64 s]) "crossbar/sign.takes").run Try.prog w = .ok (45, .int .i64 s) w := by kernel_rfl
theorem ahead_plain (fuel : Nat) (s : Int) (w : World) : (nilAhead (fuel + 1) 67 (.agg #[.int .i64 s]) "crossbar/sign.sign").run Try.prog w = .ok (some false) w := by kernel_rfl
theorem met_level_number (fuel : Nat) (s : Int) (w : World) : (method (fuel + 1) 68 (.agg #[.int .i64 s]) "crossbar/sign.number").run Try.prog w = .ok (48, .agg #[.int .i64 s]) w := by kernel_rfl
theorem met_level_sign (fuel : Nat) (s : Int) (w : World) : (method (fuel + 1) 68 (.agg #[.int .i64 s]) "crossbar/sign.sign").run Try.prog w = .ok (49, .agg #[.int .i64 s]) w := by kernel_rfl
theorem met_level_size (fuel : Nat) (s : Int) (w : World) : (method (fuel + 1) 68 (.agg #[.int .i64 s]) "crossbar/sign.size").run Try.prog w = .ok (44, .int .i64 s) w := by kernel_rfl
theorem met_level_takes (fuel : Nat) (s : Int) (w : World) : (method (fuel + 1) 68 (.agg #[.int .i64 s]) "crossbar/sign.takes").run Try.prog w = .ok (45, .int .i64 s) w := by kernel_rfl
theorem ahead_level (fuel : Nat) (s : Int) (w : World) : (nilAhead (fuel + 1) 68 (.agg #[.int .i64 s]) "crossbar/sign.sign").run Try.prog w = .ok (some false) w := by kernel_rfl
theorem met_turn_number (fuel : Nat) (s : Int) (w : World) : (method (fuel + 1) 69 (.agg #[.int .i64 s]) "crossbar/sign.number").run Try.prog w = .ok (51, .agg #[.int .i64 s]) w := by kernel_rfl
theorem met_turn_sign (fuel : Nat) (s : Int) (w : World) : (method (fuel + 1) 69 (.agg #[.int .i64 s]) "crossbar/sign.sign").run Try.prog w = .ok (52, .agg #[.int .i64 s]) w := by kernel_rfl
theorem met_turn_size (fuel : Nat) (s : Int) (w : World) : (method (fuel + 1) 69 (.agg #[.int .i64 s]) "crossbar/sign.size").run Try.prog w = .ok (44, .int .i64 s) w := by kernel_rfl
theorem met_turn_takes (fuel : Nat) (s : Int) (w : World) : (method (fuel + 1) 69 (.agg #[.int .i64 s]) "crossbar/sign.takes").run Try.prog w = .ok (45, .int .i64 s) w := by kernel_rfl
theorem ahead_turn (fuel : Nat) (s : Int) (w : World) : (nilAhead (fuel + 1) 69 (.agg #[.int .i64 s]) "crossbar/sign.sign").run Try.prog w = .ok (some false) w := by kernel_rfl
theorem met_word_takes (fuel : Nat) (w : World) : (method (fuel + 1) 48 (.agg #[]) "crossbar/sign.takes").run Try.prog w = .ok (43, .agg #[]) w := by kernel_rfl
theorem assert_num_word (w : World) : (Instr.typeAssert wordF 44 51 true).run Try.prog w = .ok (.tuple #[.nilIface, .bool false]) w := run_typeAssert_lacksB Try.underlying51 (by kernel_rfl) (by kernel_rfl) _ _ w
theorem assert_num_plain (s : Int) (w : World) : (Instr.typeAssert (plainF s) 44 51 true).run Try.prog w = .ok (.tuple #[plainF s, .bool true]) w := by kernel_rfl
theorem assert_num_level (w : World) : (Instr.typeAssert levelF 44 51 true).run Try.prog w = .ok (.tuple #[levelF, .bool true]) w := by kernel_rfl
theorem assert_num_turn (w : World) : (Instr.typeAssert turnF 44 51 true).run Try.prog w = .ok (.tuple #[turnF, .bool true]) w := by kernel_rfl
theorem must_num_plain (s : Int) (w : World) : (Instr.typeAssert (plainF s) 44 51 false).run Try.prog w = .ok (plainF s) w := by kernel_rfl
theorem must_num_level (w : World) : (Instr.typeAssert levelF 44 51 false).run Try.prog w = .ok (levelF) w := by kernel_rfl
theorem must_num_turn (w : World) : (Instr.typeAssert turnF 44 51 false).run Try.prog w = .ok (turnF) w := by kernel_rfl
theorem assert_word_word (w : World) : (Instr.typeAssert wordF 44 48 true).run Try.prog w = .ok (.tuple #[.agg #[], .bool true]) w := by kernel_rfl
theorem assert_word_plain (s : Int) (w : World) : (Instr.typeAssert (plainF s) 44 48 true).run Try.prog w = .ok (.tuple #[.agg #[], .bool false]) w := by kernel_rfl
theorem assert_word_level (w : World) : (Instr.typeAssert levelF 44 48 true).run Try.prog w = .ok (.tuple #[.agg #[], .bool false]) w := by kernel_rfl
theorem assert_word_turn (w : World) : (Instr.typeAssert turnF 44 48 true).run Try.prog w = .ok (.tuple #[.agg #[], .bool false]) w := by kernel_rfl
end Go.Proofs.Ytnmnbiphonjlaaa

/-
  What the document's own answers for layer 4 come to: the parts of a text. (Written by gen_TextR.py.)
-/
import Derived.Test.YtcfmokhiibhfhaaProg
import Derived.Test.YtcfmokhiibhfhaaMem
import Derived.Test.YtcfmokhiibhfhaaTextM
import Derived.Laws.Strings
import Derived.Lib.Hide
namespace Go.Proofs.Ytcfmokhiibhfhaa
open Go.RowKit
set_option linter.unusedVariables false
set_option linter.unusedSimpArgs false

/-- A byte of a string. -/
theorem bt_get (s : ByteArray) (i : Nat) (h : i < s.size) : bt s.data.toList i = s[i].toNat := by
  unfold bt
  rw [List.getD_eq_getElem?_getD, List.getElem?_eq_getElem (by simpa using h)]
  rfl
theorem size_list (s : ByteArray) : s.data.toList.length = s.size := by simp
def inB (s : ByteArray) (i lo hi : Nat) : Bool := decide (i < s.size ∧ lo ≤ bt s.data.toList i ∧ bt s.data.toList i ≤ hi)
theorem in_any (s : ByteArray) (i lo hi : Nat) (w : World) (hs : s.size ≤ 140737488355328) (hi2 : i ≤ 140737488355999) :
    Calls Try.prog 33 #[.string s, .int .i64 i, .int .u8 lo, .int .u8 hi] w fun e w' => e = .returned (.bool (inB s i lo hi)) ∧ w = w' := by
  unfold inB
  by_cases h : i < s.size
  · have hb := bt_get s i h
    by_cases h1 : lo ≤ s[i].toNat
    · by_cases h2 : s[i].toNat ≤ hi
      · have hd := Lib.hid (show decide (i < s.size ∧ lo ≤ bt s.data.toList i ∧ bt s.data.toList i ≤ hi) = true by rw [decide_eq_true_eq, hb]; exact ⟨h, h1, h2⟩)
        clear hb
        go_enter Try.func33, Try.ntmps33
        go_wp2
        go_ret
        exact ⟨by rw [hd.out]; simp [h2], rfl⟩
      · have hd := Lib.hid (show decide (i < s.size ∧ lo ≤ bt s.data.toList i ∧ bt s.data.toList i ≤ hi) = false by rw [decide_eq_false_iff_not, hb]; exact fun k => h2 k.2.2)
        clear hb
        go_enter Try.func33, Try.ntmps33
        go_wp2
        go_ret
        exact ⟨by rw [hd.out]; simp [h2], rfl⟩
    · have hd := Lib.hid (show decide (i < s.size ∧ lo ≤ bt s.data.toList i ∧ bt s.data.toList i ≤ hi) = false by rw [decide_eq_false_iff_not, hb]; exact fun k => h1 k.2.1)
      clear hb
      go_enter Try.func33, Try.ntmps33
      go_wp2
      go_ret
      exact ⟨by rw [hd.out]; rfl, rfl⟩
  · have hd := Lib.hid (show decide (i < s.size ∧ lo ≤ bt s.data.toList i ∧ bt s.data.toList i ≤ hi) = false by rw [decide_eq_false_iff_not]; exact fun k => h k.1)
    go_enter Try.func33, Try.ntmps33
    go_wp2
    go_ret
    exact ⟨by rw [hd.out]; rfl, rfl⟩
theorem in_at (s : ByteArray) (at_ k lo hi : Nat) (w : World) (hs : s.size ≤ 140737488355328) (hk : k ≤ 3) (ha : at_ < s.size) :
    Calls Try.prog 33 #[.string s, .int .i64 ((at_ : Int) + k), .int .u8 lo, .int .u8 hi] w fun e w' => e = .returned (.bool (inB s (at_ + k) lo hi)) ∧ w = w' := by
  have := in_any s (at_ + k) lo hi w hs (by omega)
  rwa [Int.natCast_add] at this

set_option maxRecDepth 100000 in
set_option linter.unusedSimpArgs false in
theorem rune_a (s : ByteArray) (at_ : Nat) (w : World) (hs : s.size ≤ 140737488355328) (h : at_ < s.size) (h0 : s[at_].toNat < 128) :
    Calls Try.prog 23 #[.string s, .int .i64 at_] w fun e w' => e = .returned (.int .i64 ((1 : Nat) : Int)) ∧ w = w' := by
  go_enter Try.func23, Try.ntmps23
  go_wp2
  go_ret
  exact ⟨rfl, rfl⟩
theorem rlN_a {n c b1 b2 b3 : Nat} (h0 : c < 128) : rlN n c b1 b2 b3 = 1 := by
  unfold rlN
  rw [if_pos (by omega)]
set_option maxRecDepth 100000 in
set_option linter.unusedSimpArgs false in
theorem rune_b (s : ByteArray) (at_ : Nat) (w : World) (hs : s.size ≤ 140737488355328) (h : at_ < s.size) (h0 : 194 ≤ s[at_].toNat) (h1 : s[at_].toNat ≤ 223) :
    Calls Try.prog 23 #[.string s, .int .i64 at_] w fun e w' => e = .returned (.int .i64 (((if (inB s (at_ + 1) 128 191) = true then 2 else 0 : Nat) : Nat) : Int)) ∧ w = w' := by
  cases hq1 : inB s (at_ + 1) 128 191
  · have I1 := Lib.hid (fun w => by have := in_at s at_ 1 128 191 w hs (by omega) h; rw [hq1] at this; exact this)
    clear hq1
    simp only [Bool.false_and, Bool.and_false, Bool.true_and, Bool.false_eq_true, if_false]
    go_enter Try.func23, Try.ntmps23
    go_wp2_with fail
    refine (I1.out _).mono ?_
    rintro e w' ⟨rfl, rfl⟩
    go_wp2
    go_ret
    exact ⟨rfl, rfl⟩
  · have I1 := Lib.hid (fun w => by have := in_at s at_ 1 128 191 w hs (by omega) h; rw [hq1] at this; exact this)
    clear hq1
    simp only [Bool.and_self, if_true]
    go_enter Try.func23, Try.ntmps23
    go_wp2_with fail
    refine (I1.out _).mono ?_
    rintro e w' ⟨rfl, rfl⟩
    go_wp2
    go_ret
    exact ⟨rfl, rfl⟩
theorem rlN_b {n c b1 b2 b3 : Nat} (h0 : 194 ≤ c) (h1 : c ≤ 223) : rlN n c b1 b2 b3 = (if (1 < n ∧ 128 ≤ b1 ∧ b1 ≤ 191) then 2 else 0) := by
  unfold rlN
  rw [if_neg (by omega), if_pos (by omega)]
set_option maxRecDepth 100000 in
set_option linter.unusedSimpArgs false in
theorem rune_c (s : ByteArray) (at_ : Nat) (w : World) (hs : s.size ≤ 140737488355328) (h : at_ < s.size) (h0 : s[at_].toNat = 224) :
    Calls Try.prog 23 #[.string s, .int .i64 at_] w fun e w' => e = .returned (.int .i64 (((if (inB s (at_ + 1) 160 191 && inB s (at_ + 2) 128 191) = true then 3 else 0 : Nat) : Nat) : Int)) ∧ w = w' := by
  cases hq1 : inB s (at_ + 1) 160 191
  · have I1 := Lib.hid (fun w => by have := in_at s at_ 1 160 191 w hs (by omega) h; rw [hq1] at this; exact this)
    clear hq1
    simp only [Bool.false_and, Bool.and_false, Bool.true_and, Bool.false_eq_true, if_false]
    go_enter Try.func23, Try.ntmps23
    go_wp2_with fail
    refine (I1.out _).mono ?_
    rintro e w' ⟨rfl, rfl⟩
    go_wp2
    go_ret
    exact ⟨rfl, rfl⟩
  · have I1 := Lib.hid (fun w => by have := in_at s at_ 1 160 191 w hs (by omega) h; rw [hq1] at this; exact this)
    clear hq1
    cases hq2 : inB s (at_ + 2) 128 191
    · have I2 := Lib.hid (fun w => by have := in_at s at_ 2 128 191 w hs (by omega) h; rw [hq2] at this; exact this)
      clear hq2
      simp only [Bool.false_and, Bool.and_false, Bool.true_and, Bool.false_eq_true, if_false]
      go_enter Try.func23, Try.ntmps23
      go_wp2_with fail
      refine (I1.out _).mono ?_
      rintro e w' ⟨rfl, rfl⟩
      go_wp2_with fail
      refine (I2.out _).mono ?_
      rintro e w' ⟨rfl, rfl⟩
      go_wp2
      go_ret
      exact ⟨rfl, rfl⟩
    · have I2 := Lib.hid (fun w => by have := in_at s at_ 2 128 191 w hs (by omega) h; rw [hq2] at this; exact this)
      clear hq2
      simp only [Bool.and_self, if_true]
      go_enter Try.func23, Try.ntmps23
      go_wp2_with fail
      refine (I1.out _).mono ?_
      rintro e w' ⟨rfl, rfl⟩
      go_wp2_with fail
      refine (I2.out _).mono ?_
      rintro e w' ⟨rfl, rfl⟩
      go_wp2
      go_ret
      exact ⟨rfl, rfl⟩
theorem rlN_c {n c b1 b2 b3 : Nat} (h0 : c = 224) : rlN n c b1 b2 b3 = (if (1 < n ∧ 160 ≤ b1 ∧ b1 ≤ 191) ∧ (2 < n ∧ 128 ≤ b2 ∧ b2 ≤ 191) then 3 else 0) := by
  unfold rlN
  rw [if_neg (by omega), if_neg (by omega), if_pos (by omega)]
set_option maxRecDepth 100000 in
set_option linter.unusedSimpArgs false in
theorem rune_d (s : ByteArray) (at_ : Nat) (w : World) (hs : s.size ≤ 140737488355328) (h : at_ < s.size) (h0 : s[at_].toNat = 237) :
    Calls Try.prog 23 #[.string s, .int .i64 at_] w fun e w' => e = .returned (.int .i64 (((if (inB s (at_ + 1) 128 159 && inB s (at_ + 2) 128 191) = true then 3 else 0 : Nat) : Nat) : Int)) ∧ w = w' := by
  cases hq1 : inB s (at_ + 1) 128 159
  · have I1 := Lib.hid (fun w => by have := in_at s at_ 1 128 159 w hs (by omega) h; rw [hq1] at this; exact this)
    clear hq1
    simp only [Bool.false_and, Bool.and_false, Bool.true_and, Bool.false_eq_true, if_false]
    go_enter Try.func23, Try.ntmps23
    go_wp2_with fail
    refine (I1.out _).mono ?_
    rintro e w' ⟨rfl, rfl⟩
    go_wp2
    go_ret
    exact ⟨rfl, rfl⟩
  · have I1 := Lib.hid (fun w => by have := in_at s at_ 1 128 159 w hs (by omega) h; rw [hq1] at this; exact this)
    clear hq1
    cases hq2 : inB s (at_ + 2) 128 191
    · have I2 := Lib.hid (fun w => by have := in_at s at_ 2 128 191 w hs (by omega) h; rw [hq2] at this; exact this)
      clear hq2
      simp only [Bool.false_and, Bool.and_false, Bool.true_and, Bool.false_eq_true, if_false]
      go_enter Try.func23, Try.ntmps23
      go_wp2_with fail
      refine (I1.out _).mono ?_
      rintro e w' ⟨rfl, rfl⟩
      go_wp2_with fail
      refine (I2.out _).mono ?_
      rintro e w' ⟨rfl, rfl⟩
      go_wp2
      go_ret
      exact ⟨rfl, rfl⟩
    · have I2 := Lib.hid (fun w => by have := in_at s at_ 2 128 191 w hs (by omega) h; rw [hq2] at this; exact this)
      clear hq2
      simp only [Bool.and_self, if_true]
      go_enter Try.func23, Try.ntmps23
      go_wp2_with fail
      refine (I1.out _).mono ?_
      rintro e w' ⟨rfl, rfl⟩
      go_wp2_with fail
      refine (I2.out _).mono ?_
      rintro e w' ⟨rfl, rfl⟩
      go_wp2
      go_ret
      exact ⟨rfl, rfl⟩
theorem rlN_d {n c b1 b2 b3 : Nat} (h0 : c = 237) : rlN n c b1 b2 b3 = (if (1 < n ∧ 128 ≤ b1 ∧ b1 ≤ 159) ∧ (2 < n ∧ 128 ≤ b2 ∧ b2 ≤ 191) then 3 else 0) := by
  unfold rlN
  rw [if_neg (by omega), if_neg (by omega), if_neg (by omega), if_pos (by omega)]
set_option maxRecDepth 100000 in
set_option linter.unusedSimpArgs false in
theorem rune_e (s : ByteArray) (at_ : Nat) (w : World) (hs : s.size ≤ 140737488355328) (h : at_ < s.size) (h0 : 225 ≤ s[at_].toNat) (h1 : s[at_].toNat ≤ 239) (h2 : s[at_].toNat ≠ 237) :
    Calls Try.prog 23 #[.string s, .int .i64 at_] w fun e w' => e = .returned (.int .i64 (((if (inB s (at_ + 1) 128 191 && inB s (at_ + 2) 128 191) = true then 3 else 0 : Nat) : Nat) : Int)) ∧ w = w' := by
  cases hq1 : inB s (at_ + 1) 128 191
  · have I1 := Lib.hid (fun w => by have := in_at s at_ 1 128 191 w hs (by omega) h; rw [hq1] at this; exact this)
    clear hq1
    simp only [Bool.false_and, Bool.and_false, Bool.true_and, Bool.false_eq_true, if_false]
    go_enter Try.func23, Try.ntmps23
    go_wp2_with fail
    refine (I1.out _).mono ?_
    rintro e w' ⟨rfl, rfl⟩
    go_wp2
    go_ret
    exact ⟨rfl, rfl⟩
  · have I1 := Lib.hid (fun w => by have := in_at s at_ 1 128 191 w hs (by omega) h; rw [hq1] at this; exact this)
    clear hq1
    cases hq2 : inB s (at_ + 2) 128 191
    · have I2 := Lib.hid (fun w => by have := in_at s at_ 2 128 191 w hs (by omega) h; rw [hq2] at this; exact this)
      clear hq2
      simp only [Bool.false_and, Bool.and_false, Bool.true_and, Bool.false_eq_true, if_false]
      go_enter Try.func23, Try.ntmps23
      go_wp2_with fail
      refine (I1.out _).mono ?_
      rintro e w' ⟨rfl, rfl⟩
      go_wp2_with fail
      refine (I2.out _).mono ?_
      rintro e w' ⟨rfl, rfl⟩
      go_wp2
      go_ret
      exact ⟨rfl, rfl⟩
    · have I2 := Lib.hid (fun w => by have := in_at s at_ 2 128 191 w hs (by omega) h; rw [hq2] at this; exact this)
      clear hq2
      simp only [Bool.and_self, if_true]
      go_enter Try.func23, Try.ntmps23
      go_wp2_with fail
      refine (I1.out _).mono ?_
      rintro e w' ⟨rfl, rfl⟩
      go_wp2_with fail
      refine (I2.out _).mono ?_
      rintro e w' ⟨rfl, rfl⟩
      go_wp2
      go_ret
      exact ⟨rfl, rfl⟩
theorem rlN_e {n c b1 b2 b3 : Nat} (h0 : 225 ≤ c) (h1 : c ≤ 239) (h2 : c ≠ 237) : rlN n c b1 b2 b3 = (if (1 < n ∧ 128 ≤ b1 ∧ b1 ≤ 191) ∧ (2 < n ∧ 128 ≤ b2 ∧ b2 ≤ 191) then 3 else 0) := by
  unfold rlN
  rw [if_neg (by omega), if_neg (by omega), if_neg (by omega), if_neg (by omega), if_pos (by omega)]
set_option maxRecDepth 100000 in
set_option linter.unusedSimpArgs false in
theorem rune_f (s : ByteArray) (at_ : Nat) (w : World) (hs : s.size ≤ 140737488355328) (h : at_ < s.size) (h0 : s[at_].toNat = 240) :
    Calls Try.prog 23 #[.string s, .int .i64 at_] w fun e w' => e = .returned (.int .i64 (((if (inB s (at_ + 1) 144 191 && inB s (at_ + 2) 128 191 && inB s (at_ + 3) 128 191) = true then 4 else 0 : Nat) : Nat) : Int)) ∧ w = w' := by
  cases hq1 : inB s (at_ + 1) 144 191
  · have I1 := Lib.hid (fun w => by have := in_at s at_ 1 144 191 w hs (by omega) h; rw [hq1] at this; exact this)
    clear hq1
    simp only [Bool.false_and, Bool.and_false, Bool.true_and, Bool.false_eq_true, if_false]
    go_enter Try.func23, Try.ntmps23
    go_wp2_with fail
    refine (I1.out _).mono ?_
    rintro e w' ⟨rfl, rfl⟩
    go_wp2
    go_ret
    exact ⟨rfl, rfl⟩
  · have I1 := Lib.hid (fun w => by have := in_at s at_ 1 144 191 w hs (by omega) h; rw [hq1] at this; exact this)
    clear hq1
    cases hq2 : inB s (at_ + 2) 128 191
    · have I2 := Lib.hid (fun w => by have := in_at s at_ 2 128 191 w hs (by omega) h; rw [hq2] at this; exact this)
      clear hq2
      simp only [Bool.false_and, Bool.and_false, Bool.true_and, Bool.false_eq_true, if_false]
      go_enter Try.func23, Try.ntmps23
      go_wp2_with fail
      refine (I1.out _).mono ?_
      rintro e w' ⟨rfl, rfl⟩
      go_wp2_with fail
      refine (I2.out _).mono ?_
      rintro e w' ⟨rfl, rfl⟩
      go_wp2
      go_ret
      exact ⟨rfl, rfl⟩
    · have I2 := Lib.hid (fun w => by have := in_at s at_ 2 128 191 w hs (by omega) h; rw [hq2] at this; exact this)
      clear hq2
      cases hq3 : inB s (at_ + 3) 128 191
      · have I3 := Lib.hid (fun w => by have := in_at s at_ 3 128 191 w hs (by omega) h; rw [hq3] at this; exact this)
        clear hq3
        simp only [Bool.false_and, Bool.and_false, Bool.true_and, Bool.false_eq_true, if_false]
        go_enter Try.func23, Try.ntmps23
        go_wp2_with fail
        refine (I1.out _).mono ?_
        rintro e w' ⟨rfl, rfl⟩
        go_wp2_with fail
        refine (I2.out _).mono ?_
        rintro e w' ⟨rfl, rfl⟩
        go_wp2_with fail
        refine (I3.out _).mono ?_
        rintro e w' ⟨rfl, rfl⟩
        go_wp2
        go_ret
        exact ⟨rfl, rfl⟩
      · have I3 := Lib.hid (fun w => by have := in_at s at_ 3 128 191 w hs (by omega) h; rw [hq3] at this; exact this)
        clear hq3
        simp only [Bool.and_self, if_true]
        go_enter Try.func23, Try.ntmps23
        go_wp2_with fail
        refine (I1.out _).mono ?_
        rintro e w' ⟨rfl, rfl⟩
        go_wp2_with fail
        refine (I2.out _).mono ?_
        rintro e w' ⟨rfl, rfl⟩
        go_wp2_with fail
        refine (I3.out _).mono ?_
        rintro e w' ⟨rfl, rfl⟩
        go_wp2
        go_ret
        exact ⟨rfl, rfl⟩
theorem rlN_f {n c b1 b2 b3 : Nat} (h0 : c = 240) : rlN n c b1 b2 b3 = (if (1 < n ∧ 144 ≤ b1 ∧ b1 ≤ 191) ∧ (2 < n ∧ 128 ≤ b2 ∧ b2 ≤ 191) ∧ (3 < n ∧ 128 ≤ b3 ∧ b3 ≤ 191) then 4 else 0) := by
  unfold rlN
  rw [if_neg (by omega), if_neg (by omega), if_neg (by omega), if_neg (by omega), if_neg (by omega), if_pos (by omega)]
set_option maxRecDepth 100000 in
set_option linter.unusedSimpArgs false in
theorem rune_g (s : ByteArray) (at_ : Nat) (w : World) (hs : s.size ≤ 140737488355328) (h : at_ < s.size) (h0 : 241 ≤ s[at_].toNat) (h1 : s[at_].toNat ≤ 243) :
    Calls Try.prog 23 #[.string s, .int .i64 at_] w fun e w' => e = .returned (.int .i64 (((if (inB s (at_ + 1) 128 191 && inB s (at_ + 2) 128 191 && inB s (at_ + 3) 128 191) = true then 4 else 0 : Nat) : Nat) : Int)) ∧ w = w' := by
  cases hq1 : inB s (at_ + 1) 128 191
  · have I1 := Lib.hid (fun w => by have := in_at s at_ 1 128 191 w hs (by omega) h; rw [hq1] at this; exact this)
    clear hq1
    simp only [Bool.false_and, Bool.and_false, Bool.true_and, Bool.false_eq_true, if_false]
    go_enter Try.func23, Try.ntmps23
    go_wp2_with fail
    refine (I1.out _).mono ?_
    rintro e w' ⟨rfl, rfl⟩
    go_wp2
    go_ret
    exact ⟨rfl, rfl⟩
  · have I1 := Lib.hid (fun w => by have := in_at s at_ 1 128 191 w hs (by omega) h; rw [hq1] at this; exact this)
    clear hq1
    cases hq2 : inB s (at_ + 2) 128 191
    · have I2 := Lib.hid (fun w => by have := in_at s at_ 2 128 191 w hs (by omega) h; rw [hq2] at this; exact this)
      clear hq2
      simp only [Bool.false_and, Bool.and_false, Bool.true_and, Bool.false_eq_true, if_false]
      go_enter Try.func23, Try.ntmps23
      go_wp2_with fail
      refine (I1.out _).mono ?_
      rintro e w' ⟨rfl, rfl⟩
      go_wp2_with fail
      refine (I2.out _).mono ?_
      rintro e w' ⟨rfl, rfl⟩
      go_wp2
      go_ret
      exact ⟨rfl, rfl⟩
    · have I2 := Lib.hid (fun w => by have := in_at s at_ 2 128 191 w hs (by omega) h; rw [hq2] at this; exact this)
      clear hq2
      cases hq3 : inB s (at_ + 3) 128 191
      · have I3 := Lib.hid (fun w => by have := in_at s at_ 3 128 191 w hs (by omega) h; rw [hq3] at this; exact this)
        clear hq3
        simp only [Bool.false_and, Bool.and_false, Bool.true_and, Bool.false_eq_true, if_false]
        go_enter Try.func23, Try.ntmps23
        go_wp2_with fail
        refine (I1.out _).mono ?_
        rintro e w' ⟨rfl, rfl⟩
        go_wp2_with fail
        refine (I2.out _).mono ?_
        rintro e w' ⟨rfl, rfl⟩
        go_wp2_with fail
        refine (I3.out _).mono ?_
        rintro e w' ⟨rfl, rfl⟩
        go_wp2
        go_ret
        exact ⟨rfl, rfl⟩
      · have I3 := Lib.hid (fun w => by have := in_at s at_ 3 128 191 w hs (by omega) h; rw [hq3] at this; exact this)
        clear hq3
        simp only [Bool.and_self, if_true]
        go_enter Try.func23, Try.ntmps23
        go_wp2_with fail
        refine (I1.out _).mono ?_
        rintro e w' ⟨rfl, rfl⟩
        go_wp2_with fail
        refine (I2.out _).mono ?_
        rintro e w' ⟨rfl, rfl⟩
        go_wp2_with fail
        refine (I3.out _).mono ?_
        rintro e w' ⟨rfl, rfl⟩
        go_wp2
        go_ret
        exact ⟨rfl, rfl⟩
theorem rlN_g {n c b1 b2 b3 : Nat} (h0 : 241 ≤ c) (h1 : c ≤ 243) : rlN n c b1 b2 b3 = (if (1 < n ∧ 128 ≤ b1 ∧ b1 ≤ 191) ∧ (2 < n ∧ 128 ≤ b2 ∧ b2 ≤ 191) ∧ (3 < n ∧ 128 ≤ b3 ∧ b3 ≤ 191) then 4 else 0) := by
  unfold rlN
  rw [if_neg (by omega), if_neg (by omega), if_neg (by omega), if_neg (by omega), if_neg (by omega), if_neg (by omega), if_pos (by omega)]
set_option maxRecDepth 100000 in
set_option linter.unusedSimpArgs false in
theorem rune_h (s : ByteArray) (at_ : Nat) (w : World) (hs : s.size ≤ 140737488355328) (h : at_ < s.size) (h0 : s[at_].toNat = 244) :
    Calls Try.prog 23 #[.string s, .int .i64 at_] w fun e w' => e = .returned (.int .i64 (((if (inB s (at_ + 1) 128 143 && inB s (at_ + 2) 128 191 && inB s (at_ + 3) 128 191) = true then 4 else 0 : Nat) : Nat) : Int)) ∧ w = w' := by
  cases hq1 : inB s (at_ + 1) 128 143
  · have I1 := Lib.hid (fun w => by have := in_at s at_ 1 128 143 w hs (by omega) h; rw [hq1] at this; exact this)
    clear hq1
    simp only [Bool.false_and, Bool.and_false, Bool.true_and, Bool.false_eq_true, if_false]
    go_enter Try.func23, Try.ntmps23
    go_wp2_with fail
    refine (I1.out _).mono ?_
    rintro e w' ⟨rfl, rfl⟩
    go_wp2
    go_ret
    exact ⟨rfl, rfl⟩
  · have I1 := Lib.hid (fun w => by have := in_at s at_ 1 128 143 w hs (by omega) h; rw [hq1] at this; exact this)
    clear hq1
    cases hq2 : inB s (at_ + 2) 128 191
    · have I2 := Lib.hid (fun w => by have := in_at s at_ 2 128 191 w hs (by omega) h; rw [hq2] at this; exact this)
      clear hq2
      simp only [Bool.false_and, Bool.and_false, Bool.true_and, Bool.false_eq_true, if_false]
      go_enter Try.func23, Try.ntmps23
      go_wp2_with fail
      refine (I1.out _).mono ?_
      rintro e w' ⟨rfl, rfl⟩
      go_wp2_with fail
      refine (I2.out _).mono ?_
      rintro e w' ⟨rfl, rfl⟩
      go_wp2
      go_ret
      exact ⟨rfl, rfl⟩
    · have I2 := Lib.hid (fun w => by have := in_at s at_ 2 128 191 w hs (by omega) h; rw [hq2] at this; exact this)
      clear hq2
      cases hq3 : inB s (at_ + 3) 128 191
      · have I3 := Lib.hid (fun w => by have := in_at s at_ 3 128 191 w hs (by omega) h; rw [hq3] at this; exact this)
        clear hq3
        simp only [Bool.false_and, Bool.and_false, Bool.true_and, Bool.false_eq_true, if_false]
        go_enter Try.func23, Try.ntmps23
        go_wp2_with fail
        refine (I1.out _).mono ?_
        rintro e w' ⟨rfl, rfl⟩
        go_wp2_with fail
        refine (I2.out _).mono ?_
        rintro e w' ⟨rfl, rfl⟩
        go_wp2_with fail
        refine (I3.out _).mono ?_
        rintro e w' ⟨rfl, rfl⟩
        go_wp2
        go_ret
        exact ⟨rfl, rfl⟩
      · have I3 := Lib.hid (fun w => by have := in_at s at_ 3 128 191 w hs (by omega) h; rw [hq3] at this; exact this)
        clear hq3
        simp only [Bool.and_self, if_true]
        go_enter Try.func23, Try.ntmps23
        go_wp2_with fail
        refine (I1.out _).mono ?_
        rintro e w' ⟨rfl, rfl⟩
        go_wp2_with fail
        refine (I2.out _).mono ?_
        rintro e w' ⟨rfl, rfl⟩
        go_wp2_with fail
        refine (I3.out _).mono ?_
        rintro e w' ⟨rfl, rfl⟩
        go_wp2
        go_ret
        exact ⟨rfl, rfl⟩
theorem rlN_h {n c b1 b2 b3 : Nat} (h0 : c = 244) : rlN n c b1 b2 b3 = (if (1 < n ∧ 128 ≤ b1 ∧ b1 ≤ 143) ∧ (2 < n ∧ 128 ≤ b2 ∧ b2 ≤ 191) ∧ (3 < n ∧ 128 ≤ b3 ∧ b3 ≤ 191) then 4 else 0) := by
  unfold rlN
  rw [if_neg (by omega), if_neg (by omega), if_neg (by omega), if_neg (by omega), if_neg (by omega), if_neg (by omega), if_neg (by omega), if_pos (by omega)]
set_option maxRecDepth 100000 in
set_option linter.unusedSimpArgs false in
theorem rune_i (s : ByteArray) (at_ : Nat) (w : World) (hs : s.size ≤ 140737488355328) (h : at_ < s.size) (h0 : 128 ≤ s[at_].toNat) (h1 : s[at_].toNat < 194) :
    Calls Try.prog 23 #[.string s, .int .i64 at_] w fun e w' => e = .returned (.int .i64 ((0 : Nat) : Int)) ∧ w = w' := by
  go_enter Try.func23, Try.ntmps23
  go_wp2
  go_ret
  exact ⟨rfl, rfl⟩
theorem rlN_i {n c b1 b2 b3 : Nat} (h0 : 128 ≤ c) (h1 : c < 194) : rlN n c b1 b2 b3 = 0 := by
  unfold rlN
  rw [if_neg (by omega), if_neg (by omega), if_neg (by omega), if_neg (by omega), if_neg (by omega), if_neg (by omega), if_neg (by omega), if_neg (by omega)]
set_option maxRecDepth 100000 in
set_option linter.unusedSimpArgs false in
theorem rune_j (s : ByteArray) (at_ : Nat) (w : World) (hs : s.size ≤ 140737488355328) (h : at_ < s.size) (h0 : 245 ≤ s[at_].toNat) :
    Calls Try.prog 23 #[.string s, .int .i64 at_] w fun e w' => e = .returned (.int .i64 ((0 : Nat) : Int)) ∧ w = w' := by
  go_enter Try.func23, Try.ntmps23
  go_wp2
  go_ret
  exact ⟨rfl, rfl⟩
theorem rlN_j {n c b1 b2 b3 : Nat} (h0 : 245 ≤ c) : rlN n c b1 b2 b3 = 0 := by
  unfold rlN
  rw [if_neg (by omega), if_neg (by omega), if_neg (by omega), if_neg (by omega), if_neg (by omega), if_neg (by omega), if_neg (by omega), if_neg (by omega)]

theorem rune_any (s : ByteArray) (at_ : Nat) (w : World) (hs : s.size ≤ 140737488355328) (h : at_ < s.size) :
    Calls Try.prog 23 #[.string s, .int .i64 at_] w fun e w' => e = .returned (.int .i64 ((rlen (s.data.toList.drop at_) : Nat) : Int)) ∧ w = w' := by
  have hne : s.data.toList.drop at_ ≠ [] := by
    intro e
    have := congrArg List.length e
    rw [List.length_drop, size_list] at this
    simp at this
    omega
  have hr : rlen (s.data.toList.drop at_) = rlN (s.size - at_) s[at_].toNat (bt s.data.toList (at_ + 1)) (bt s.data.toList (at_ + 2)) (bt s.data.toList (at_ + 3)) := by
    unfold rlen
    rw [if_neg hne, bt_drop, bt_drop, bt_drop, bt_drop, List.length_drop, size_list, Nat.add_zero, bt_get s at_ h]
  rw [hr]
  have hc := s[at_].toNat_lt
  rcases (show (s[at_].toNat < 128) ∨ (194 ≤ s[at_].toNat ∧ s[at_].toNat ≤ 223) ∨ (s[at_].toNat = 224) ∨ (s[at_].toNat = 237) ∨ (225 ≤ s[at_].toNat ∧ s[at_].toNat ≤ 239 ∧ s[at_].toNat ≠ 237) ∨ (s[at_].toNat = 240) ∨ (241 ≤ s[at_].toNat ∧ s[at_].toNat ≤ 243) ∨ (s[at_].toNat = 244) ∨ (128 ≤ s[at_].toNat ∧ s[at_].toNat < 194) ∨ (245 ≤ s[at_].toNat) by omega) with h0 | ⟨h0, h1⟩ | h0 | h0 | ⟨h0, h1, h2⟩ | h0 | ⟨h0, h1⟩ | h0 | ⟨h0, h1⟩ | h0
  · have := rune_a s at_ w hs h h0
    rw [rlN_a h0]
    exact this
  · have := rune_b s at_ w hs h h0 h1
    rw [rlN_b h0 h1]
    have e1 : inB s (at_ + 1) 128 191 = decide (1 < s.size - at_ ∧ 128 ≤ bt s.data.toList (at_ + 1) ∧ bt s.data.toList (at_ + 1) ≤ 191) := decide_eq_decide.2 (by omega)
    rw [e1] at this
    simp only [Bool.and_eq_true, decide_eq_true_eq] at this
    exact this
  · have := rune_c s at_ w hs h h0
    rw [rlN_c h0]
    have e1 : inB s (at_ + 1) 160 191 = decide (1 < s.size - at_ ∧ 160 ≤ bt s.data.toList (at_ + 1) ∧ bt s.data.toList (at_ + 1) ≤ 191) := decide_eq_decide.2 (by omega)
    have e2 : inB s (at_ + 2) 128 191 = decide (2 < s.size - at_ ∧ 128 ≤ bt s.data.toList (at_ + 2) ∧ bt s.data.toList (at_ + 2) ≤ 191) := decide_eq_decide.2 (by omega)
    rw [e1, e2] at this
    simp only [Bool.and_eq_true, decide_eq_true_eq] at this
    exact this
  · have := rune_d s at_ w hs h h0
    rw [rlN_d h0]
    have e1 : inB s (at_ + 1) 128 159 = decide (1 < s.size - at_ ∧ 128 ≤ bt s.data.toList (at_ + 1) ∧ bt s.data.toList (at_ + 1) ≤ 159) := decide_eq_decide.2 (by omega)
    have e2 : inB s (at_ + 2) 128 191 = decide (2 < s.size - at_ ∧ 128 ≤ bt s.data.toList (at_ + 2) ∧ bt s.data.toList (at_ + 2) ≤ 191) := decide_eq_decide.2 (by omega)
    rw [e1, e2] at this
    simp only [Bool.and_eq_true, decide_eq_true_eq] at this
    exact this
  · have := rune_e s at_ w hs h h0 h1 h2
    rw [rlN_e h0 h1 h2]
    have e1 : inB s (at_ + 1) 128 191 = decide (1 < s.size - at_ ∧ 128 ≤ bt s.data.toList (at_ + 1) ∧ bt s.data.toList (at_ + 1) ≤ 191) := decide_eq_decide.2 (by omega)
    have e2 : inB s (at_ + 2) 128 191 = decide (2 < s.size - at_ ∧ 128 ≤ bt s.data.toList (at_ + 2) ∧ bt s.data.toList (at_ + 2) ≤ 191) := decide_eq_decide.2 (by omega)
    rw [e1, e2] at this
    simp only [Bool.and_eq_true, decide_eq_true_eq] at this
    exact this
  · have := rune_f s at_ w hs h h0
    rw [rlN_f h0]
    have e1 : inB s (at_ + 1) 144 191 = decide (1 < s.size - at_ ∧ 144 ≤ bt s.data.toList (at_ + 1) ∧ bt s.data.toList (at_ + 1) ≤ 191) := decide_eq_decide.2 (by omega)
    have e2 : inB s (at_ + 2) 128 191 = decide (2 < s.size - at_ ∧ 128 ≤ bt s.data.toList (at_ + 2) ∧ bt s.data.toList (at_ + 2) ≤ 191) := decide_eq_decide.2 (by omega)
    have e3 : inB s (at_ + 3) 128 191 = decide (3 < s.size - at_ ∧ 128 ≤ bt s.data.toList (at_ + 3) ∧ bt s.data.toList (at_ + 3) ≤ 191) := decide_eq_decide.2 (by omega)
    rw [e1, e2, e3] at this
    simp only [Bool.and_eq_true, decide_eq_true_eq] at this
    simp only [and_assoc] at this ⊢
    exact this
  · have := rune_g s at_ w hs h h0 h1
    rw [rlN_g h0 h1]
    have e1 : inB s (at_ + 1) 128 191 = decide (1 < s.size - at_ ∧ 128 ≤ bt s.data.toList (at_ + 1) ∧ bt s.data.toList (at_ + 1) ≤ 191) := decide_eq_decide.2 (by omega)
    have e2 : inB s (at_ + 2) 128 191 = decide (2 < s.size - at_ ∧ 128 ≤ bt s.data.toList (at_ + 2) ∧ bt s.data.toList (at_ + 2) ≤ 191) := decide_eq_decide.2 (by omega)
    have e3 : inB s (at_ + 3) 128 191 = decide (3 < s.size - at_ ∧ 128 ≤ bt s.data.toList (at_ + 3) ∧ bt s.data.toList (at_ + 3) ≤ 191) := decide_eq_decide.2 (by omega)
    rw [e1, e2, e3] at this
    simp only [Bool.and_eq_true, decide_eq_true_eq] at this
    simp only [and_assoc] at this ⊢
    exact this
  · have := rune_h s at_ w hs h h0
    rw [rlN_h h0]
    have e1 : inB s (at_ + 1) 128 143 = decide (1 < s.size - at_ ∧ 128 ≤ bt s.data.toList (at_ + 1) ∧ bt s.data.toList (at_ + 1) ≤ 143) := decide_eq_decide.2 (by omega)
    have e2 : inB s (at_ + 2) 128 191 = decide (2 < s.size - at_ ∧ 128 ≤ bt s.data.toList (at_ + 2) ∧ bt s.data.toList (at_ + 2) ≤ 191) := decide_eq_decide.2 (by omega)
    have e3 : inB s (at_ + 3) 128 191 = decide (3 < s.size - at_ ∧ 128 ≤ bt s.data.toList (at_ + 3) ∧ bt s.data.toList (at_ + 3) ≤ 191) := decide_eq_decide.2 (by omega)
    rw [e1, e2, e3] at this
    simp only [Bool.and_eq_true, decide_eq_true_eq] at this
    simp only [and_assoc] at this ⊢
    exact this
  · have := rune_i s at_ w hs h h0 h1
    rw [rlN_i h0 h1]
    exact this
  · have := rune_j s at_ w hs h h0
    rw [rlN_j h0]
    exact this

end Go.Proofs.Ytcfmokhiibhfhaa

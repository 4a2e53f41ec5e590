/-
  What the document's own answers for layer 4 come to: the parts of a text. (Written by gen_TextR.py.)
-/
import Derived.Test.YtnmnbiphonjlaaaProg
import Derived.Test.YtnmnbiphonjlaaaBase
import Derived.Test.YtnmnbiphonjlaaaTextM
import Derived.Laws.Strings
import Derived.Lib.Hide
namespace Go.Proofs.Ytnmnbiphonjlaaa
open Go.RowKit
set_option linter.unusedVariables false
set_option linter.unusedSimpArgs false

/-- A byte of a string. -/
theorem bt_get (s : ByteArray) (i : Nat) (h : i < s.size) : bt s.data.toList i = s[i].toNat := by
  unfold bt
  rw [List.getD_eq_getElem?_getD, List.getElem?_eq_getElem (by simpa using h)]
  rfl
theorem size_list (s : ByteArray) : s.data.toList.length = s.size := by simp
def inB (s : ByteArray) (i lo hi : Nat) : Bool := decide (i < s.size ∧ lo ≤ bt s.data.toList i ∧ bt s.data.toList i ≤ hi)
theorem rlN_a {n c b1 b2 b3 : Nat} (h0 : c < 128) : rlN n c b1 b2 b3 = 1 := by
  unfold rlN
  rw [if_pos (by omega)]
theorem rlN_b {n c b1 b2 b3 : Nat} (h0 : 194 ≤ c) (h1 : c ≤ 223) : rlN n c b1 b2 b3 = (if (1 < n ∧ 128 ≤ b1 ∧ b1 ≤ 191) then 2 else 0) := by
  unfold rlN
  rw [if_neg (by omega), if_pos (by omega)]
theorem rlN_c {n c b1 b2 b3 : Nat} (h0 : c = 224) : rlN n c b1 b2 b3 = (if (1 < n ∧ 160 ≤ b1 ∧ b1 ≤ 191) ∧ (2 < n ∧ 128 ≤ b2 ∧ b2 ≤ 191) then 3 else 0) := by
  unfold rlN
  rw [if_neg (by omega), if_neg (by omega), if_pos (by omega)]
theorem rlN_d {n c b1 b2 b3 : Nat} (h0 : c = 237) : rlN n c b1 b2 b3 = (if (1 < n ∧ 128 ≤ b1 ∧ b1 ≤ 159) ∧ (2 < n ∧ 128 ≤ b2 ∧ b2 ≤ 191) then 3 else 0) := by
  unfold rlN
  rw [if_neg (by omega), if_neg (by omega), if_neg (by omega), if_pos (by omega)]
theorem rlN_e {n c b1 b2 b3 : Nat} (h0 : 225 ≤ c) (h1 : c ≤ 239) (h2 : c ≠ 237) : rlN n c b1 b2 b3 = (if (1 < n ∧ 128 ≤ b1 ∧ b1 ≤ 191) ∧ (2 < n ∧ 128 ≤ b2 ∧ b2 ≤ 191) then 3 else 0) := by
  unfold rlN
  rw [if_neg (by omega), if_neg (by omega), if_neg (by omega), if_neg (by omega), if_pos (by omega)]
theorem rlN_f {n c b1 b2 b3 : Nat} (h0 : c = 240) : rlN n c b1 b2 b3 = (if (1 < n ∧ 144 ≤ b1 ∧ b1 ≤ 191) ∧ (2 < n ∧ 128 ≤ b2 ∧ b2 ≤ 191) ∧ (3 < n ∧ 128 ≤ b3 ∧ b3 ≤ 191) then 4 else 0) := by
  unfold rlN
  rw [if_neg (by omega), if_neg (by omega), if_neg (by omega), if_neg (by omega), if_neg (by omega), if_pos (by omega)]
theorem rlN_g {n c b1 b2 b3 : Nat} (h0 : 241 ≤ c) (h1 : c ≤ 243) : rlN n c b1 b2 b3 = (if (1 < n ∧ 128 ≤ b1 ∧ b1 ≤ 191) ∧ (2 < n ∧ 128 ≤ b2 ∧ b2 ≤ 191) ∧ (3 < n ∧ 128 ≤ b3 ∧ b3 ≤ 191) then 4 else 0) := by
  unfold rlN
  rw [if_neg (by omega), if_neg (by omega), if_neg (by omega), if_neg (by omega), if_neg (by omega), if_neg (by omega), if_pos (by omega)]
theorem rlN_h {n c b1 b2 b3 : Nat} (h0 : c = 244) : rlN n c b1 b2 b3 = (if (1 < n ∧ 128 ≤ b1 ∧ b1 ≤ 143) ∧ (2 < n ∧ 128 ≤ b2 ∧ b2 ≤ 191) ∧ (3 < n ∧ 128 ≤ b3 ∧ b3 ≤ 191) then 4 else 0) := by
  unfold rlN
  rw [if_neg (by omega), if_neg (by omega), if_neg (by omega), if_neg (by omega), if_neg (by omega), if_neg (by omega), if_neg (by omega), if_pos (by omega)]
theorem rlN_i {n c b1 b2 b3 : Nat} (h0 : 128 ≤ c) (h1 : c < 194) : rlN n c b1 b2 b3 = 0 := by
  unfold rlN
  rw [if_neg (by omega), if_neg (by omega), if_neg (by omega), if_neg (by omega), if_neg (by omega), if_neg (by omega), if_neg (by omega), if_neg (by omega)]
theorem rlN_j {n c b1 b2 b3 : Nat} (h0 : 245 ≤ c) : rlN n c b1 b2 b3 = 0 := by
  unfold rlN
  rw [if_neg (by omega), if_neg (by omega), if_neg (by omega), if_neg (by omega), if_neg (by omega), if_neg (by omega), if_neg (by omega), if_neg (by omega)]

end Go.Proofs.Ytnmnbiphonjlaaa

/-
  What the document's own answers for layer 4 come to: whether a text is a token, whether it may be, how many runes it has.
-/
import Derived.Test.YtnmnbiphonjlaaaTextR
namespace Go.Proofs.Ytnmnbiphonjlaaa
open Go.RowKit

/-- May the byte stand in a token? -/
def tokC (c : Nat) : Bool := decide ((97 ≤ c ∧ c ≤ 122) ∨ (65 ≤ c ∧ c ≤ 90) ∨ (48 ≤ c ∧ c ≤ 57) ∨ c = 45 ∨ c = 95)
def tokenB (S : List UInt8) : Bool := S.all (fun x => tokC x.toNat) && decide (1 ≤ S.length ∧ S.length ≤ 16)
theorem tok_next (S : List UInt8) (k : Nat) (h : k < S.length) : (S.take (k + 1)).all (fun x => tokC x.toNat) = ((S.take k).all (fun x => tokC x.toNat) && tokC (bt S k)) := by
  rw [List.take_succ_eq_append_getElem h, List.all_append]
  simp [bt, List.getD, List.getElem?_eq_getElem h]
theorem tokenB_no {S : List UInt8} {k : Nat} (h : k < S.length) (hk : tokC (bt S k) = false) : tokenB S = false := by
  unfold tokenB
  rw [Bool.and_eq_false_iff]
  left
  rw [List.all_eq_false]
  refine ⟨S[k], List.getElem_mem _, ?_⟩
  simp only [bt, List.getD, List.getElem?_eq_getElem h, Option.getD_some] at hk
  simpa using hk
theorem getElem_bt (s : ByteArray) (i : Nat) (h : i < s.size) : s[i].toNat = bt s.data.toList i := (bt_get s i h).symm

set_option maxHeartbeats 1000000 in
theorem rtoken_any (s : ByteArray) (w : World) (hs : s.size ≤ 140737488355328) :
    Calls Try.prog 15 #[.string s] w fun e w' => e = .returned (.bool (tokenB s.data.toList)) ∧ w = w' := by
  have hsl := size_list s
  go_enter Try.func15, Try.ntmps15
  go_wp2_with fail
  go_loop [3] (fun i => ∃ k : Nat, k ≤ s.size ∧ i = .int .i64 k ∧ (s.data.toList.take k).all (fun x => tokC x.toNat) = true) (fun i => s.size - (intOf i).toNat)
  case atStart => exact ⟨0, Nat.zero_le _, rfl, rfl⟩
  case round =>
    obtain ⟨k, hk, rfl, hz⟩ := hrel
    have Hz := Lib.hid hz
    clear hz
    by_cases hlt : k < s.size
    · have hb := Lib.hid (bt_get s k hlt)
      have hn := Lib.hid (tok_next s.data.toList k (by omega))
      by_cases ht : tokC (s[k].toNat) = true
      · have hstep : Hid ((s.data.toList.take (k + 1)).all (fun x => tokC x.toNat) = true) := Lib.hid (by rw [hn.out, Hz.out, hb.out, ht]; rfl)
        unfold tokC at ht
        rw [decide_eq_true_eq] at ht
        clear hn hb Hz hsl
        rcases ht with ⟨h1, h2⟩ | ⟨h1, h2⟩ | ⟨h1, h2⟩ | h1 | h1
        all_goals
          go_wp2
          all_goals
            go_round
            case rel => exact ⟨k + 1, by omega, by go_num, hstep.out⟩
            case measure => simp [intOf]; omega
      · have hres : Hid (tokenB s.data.toList = false) := Lib.hid (tokenB_no (k := k) (by omega) (by rw [hb.out]; simpa using ht))
        unfold tokC at ht
        rw [decide_eq_true_eq] at ht
        clear hn hb Hz hsl
        rcases (show s[k].toNat < 45 ∨ (45 < s[k].toNat ∧ s[k].toNat < 48) ∨ (57 < s[k].toNat ∧ s[k].toNat < 65) ∨ (90 < s[k].toNat ∧ s[k].toNat < 95) ∨ (95 < s[k].toNat ∧ s[k].toNat < 97) ∨ 122 < s[k].toNat by omega) with h1 | ⟨h1, h2⟩ | ⟨h1, h2⟩ | ⟨h1, h2⟩ | ⟨h1, h2⟩ | h1
        all_goals
          clear ht
          have g1 : ((s[k].toNat : Int) != 45) = true := by rw [bne_iff_ne]; omega
          have g2 : ((s[k].toNat : Int) != 95) = true := by rw [bne_iff_ne]; omega
          go_wp2
          go_ret
          exact ⟨by rw [hres.out]; rfl, rfl⟩
    · have hall : Hid (tokenB s.data.toList = decide (1 ≤ s.size ∧ s.size ≤ 16)) := Lib.hid (by
        unfold tokenB
        have := Hz.out
        rw [List.take_of_length_le (by omega)] at this
        rw [this, hsl, Bool.true_and])
      clear Hz hsl
      by_cases h1 : 1 ≤ s.size
      · by_cases h2 : s.size ≤ 16
        · go_wp2
          go_ret
          exact ⟨by rw [hall.out]; simp [h1, h2] <;> omega, rfl⟩
        · go_wp2
          go_ret
          exact ⟨by rw [hall.out]; simp [h1, h2] <;> omega, rfl⟩
      · go_wp2
        go_ret
        exact ⟨by rw [hall.out]; simp [h1], rfl⟩

theorem drop_ne {s : ByteArray} {k : Nat} (h : k < s.size) : s.data.toList.drop k ≠ [] := by
  intro e
  have := congrArg List.length e
  rw [List.length_drop, size_list] at this
  simp at this
  omega
theorem bt_drop0 {s : ByteArray} {k : Nat} (h : k < s.size) : bt (s.data.toList.drop k) 0 = s[k].toNat := by rw [bt_drop, Nat.add_zero, bt_get s k h]
theorem rlen_fits {s : ByteArray} {k : Nat} (h : k < s.size) : k + rlen (s.data.toList.drop k) ≤ s.size := by
  have := rlen_le (s.data.toList.drop k)
  rw [List.length_drop, size_list] at this
  omega

end Go.Proofs.Ytnmnbiphonjlaaa

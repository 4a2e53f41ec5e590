/-
  The inside of a quoted form, gone through place by place.
-/
import Derived.Test.YtcfmokhiibhfhaaTextQ
namespace Go.Proofs.Ytcfmokhiibhfhaa

theorem bt_ofNat {M : List UInt8} {j : Nat} (h : j < M.length) : M.drop j = UInt8.ofNat (bt M j) :: M.drop (j + 1) := by
  rw [List.drop_eq_getElem_cons h]
  simp [bt, List.getD, List.getElem?_eq_getElem h]
theorem u8_is {n m : Nat} (h : n < 256) (hm : m < 256) : UInt8.ofNat n = UInt8.ofNat m ↔ n = m := ofNat_bt h m hm
section
variable {M : List UInt8} {j : Nat}
theorem sc_quote (h : j < M.length) (h1 : bt M j = 34) : scanB (M.drop j) = none := by
  rw [bt_ofNat h, h1, scanB.eq_def]; rfl
theorem sc_end (h : j < M.length) (h1 : bt M j = 92) (h2 : ¬ j + 1 < M.length) : scanB (M.drop j) = none := by
  rw [bt_ofNat h, h1, List.drop_of_length_le (by omega), scanB.eq_def]; rfl
theorem sc_esc (h1 : bt M j = 92) (h2 : j + 1 < M.length) (h3 : bt M (j + 1) = 34 ∨ bt M (j + 1) = 92) : scanB (M.drop j) = (scanB (M.drop (j + 2))).map (UInt8.ofNat (bt M (j + 1)) :: ·) := by
  rw [bt_ofNat (by omega), h1, bt_ofNat h2]
  exact scan_esc (h3.imp (fun e => by rw [e]; rfl) (fun e => by rw [e]; rfl))
theorem sc_not (h3 : ¬ (bt M (j + 1) = 34 ∨ bt M (j + 1) = 92)) : ¬ (UInt8.ofNat (bt M (j + 1)) = 34 ∨ UInt8.ofNat (bt M (j + 1)) = 92) := by
  have hb := bt_lt M (j + 1)
  rintro (e | e)
  · exact h3 (.inl ((u8_is hb (m := 34) (by omega)).1 e))
  · exact h3 (.inr ((u8_is hb (m := 92) (by omega)).1 e))
theorem toNat_bt (i : Nat) : (UInt8.ofNat (bt M i)).toNat = bt M i := by
  have := bt_lt M i
  rw [UInt8.toNat_ofNat']; simp only [Nat.reducePow]; omega
theorem sc_short (h1 : bt M j = 92) (h2 : j + 1 < M.length) (h3 : ¬ (bt M (j + 1) = 34 ∨ bt M (j + 1) = 92)) (h4 : ¬ j + 2 < M.length) : scanB (M.drop j) = none := by
  have hn := sc_not h3
  rw [bt_ofNat (by omega), h1, bt_ofNat h2, List.drop_of_length_le (i := j + 1 + 1) (by omega), scanB.eq_def]
  simp only [show (UInt8.ofNat 92) = 92 from rfl, show ¬ (92 : UInt8) = 34 from by decide, if_false, if_true, if_neg hn]
theorem sc_bad (h1 : bt M j = 92) (h2 : j + 2 < M.length) (h3 : ¬ (bt M (j + 1) = 34 ∨ bt M (j + 1) = 92)) (h4 : ¬ (hexV (bt M (j + 1)) ≤ 15 ∧ hexV (bt M (j + 2)) ≤ 15)) : scanB (M.drop j) = none := by
  have hn := sc_not h3
  rw [bt_ofNat (by omega), h1, bt_ofNat (j := j + 1) (by omega), bt_ofNat (j := j + 1 + 1) (by omega), scanB.eq_def]
  simp only [show (UInt8.ofNat 92) = 92 from rfl, show ¬ (92 : UInt8) = 34 from by decide, if_false, if_true, if_neg hn]
  rw [toNat_bt, toNat_bt, if_neg h4]
theorem sc_hex (h1 : bt M j = 92) (h2 : j + 2 < M.length) (h3 : ¬ (bt M (j + 1) = 34 ∨ bt M (j + 1) = 92)) (h4 : hexV (bt M (j + 1)) ≤ 15 ∧ hexV (bt M (j + 2)) ≤ 15) :
    scanB (M.drop j) = (scanB (M.drop (j + 3))).map (UInt8.ofNat (16 * hexV (bt M (j + 1)) + hexV (bt M (j + 2))) :: ·) := by
  have hn := sc_not h3
  rw [bt_ofNat (by omega), h1, bt_ofNat (j := j + 1) (by omega), bt_ofNat (j := j + 1 + 1) (by omega)]
  have := scan_hex (d := UInt8.ofNat (bt M (j + 1))) (e := UInt8.ofNat (bt M (j + 1 + 1))) (R := M.drop (j + 1 + 1 + 1)) hn (by rw [toNat_bt, toNat_bt]; exact h4)
  rw [toNat_bt, toNat_bt] at this
  exact this
theorem sc_plain (h : j < M.length) (h1 : bt M j ≠ 34) (h2 : bt M j ≠ 92) : scanB (M.drop j) = (scanB (M.drop (j + 1))).map (UInt8.ofNat (bt M j) :: ·) := by
  have hb := bt_lt M j
  rw [bt_ofNat h]
  exact scan_plain (fun e => h1 ((u8_is hb (m := 34) (by omega)).1 e)) (fun e => h2 ((u8_is hb (m := 92) (by omega)).1 e))
end
/-- What was read, and what is still to be read. -/
theorem scan_go {M X : List UInt8} {a : UInt8} {o p : Option (List UInt8)} (h : scanB M = o.map (X ++ ·)) (h2 : o = p.map (a :: ·)) : scanB M = p.map (X ++ [a] ++ ·) := by
  rw [h, h2, Option.map_map]
  congr 1
  funext z
  simp
theorem scan_stop {M X : List UInt8} {o : Option (List UInt8)} (h : scanB M = o.map (X ++ ·)) (h2 : o = none) : scanB M = none := by rw [h, h2]; rfl
def mid (Q : List UInt8) : List UInt8 := (Q.drop 1).take (Q.length - 2)
theorem mid_length (Q : List UInt8) : (mid Q).length = Q.length - 2 := by unfold mid; rw [List.length_take, List.length_drop]; omega
theorem mid_bt {Q : List UInt8} {j : Nat} (h : j < Q.length - 2) : bt (mid Q) j = bt Q (j + 1) := by
  unfold mid; rw [bt_take h, bt_drop, Nat.add_comm]
theorem unq_out {Q : List UInt8} (h : ¬ (2 ≤ Q.length ∧ bt Q 0 = 34 ∧ bt Q (Q.length - 1) = 34)) : unqB Q = none := if_neg h
theorem unq_none {Q : List UInt8} (h : 2 ≤ Q.length ∧ bt Q 0 = 34 ∧ bt Q (Q.length - 1) = 34) (hs : scanB (mid Q) = none) : unqB Q = none := by
  unfold unqB
  rw [if_pos h, show (Q.drop 1).take (Q.length - 2) = mid Q from rfl, hs]
theorem unq_some {Q X : List UInt8} (h : 2 ≤ Q.length ∧ bt Q 0 = 34 ∧ bt Q (Q.length - 1) = 34) (hs : scanB (mid Q) = some X) : unqB Q = if quoteB X = Q then some X else none := by
  unfold unqB
  rw [if_pos h, show (Q.drop 1).take (Q.length - 2) = mid Q from rfl, hs]

end Go.Proofs.Ytcfmokhiibhfhaa

/-
  What elements say, as plain data: which signs are right, their bytes, what bytes say; it is read as it was.
-/
import Derived.Test.YtnmnbiphonjlaaaTextR2
import Derived.Test.YtnmnbiphonjlaaaBase
namespace Go.Proofs.Ytnmnbiphonjlaaa
set_option linter.unusedSimpArgs false
set_option linter.unusedVariables false

structure Sg where
  kind : Int
  text : ByteArray
  num : Nat
  a : Bool
  b : Bool
  turns : Int
theorem Sg.eq_iff (p q : Sg) : p = q ↔ p.kind = q.kind ∧ p.text = q.text ∧ p.num = q.num ∧ p.a = q.a ∧ p.b = q.b ∧ p.turns = q.turns := by
  cases p; cases q
  simp
instance : DecidableEq Sg := fun p q => decidable_of_iff _ (Sg.eq_iff p q).symm
def zeroSg : Sg := ⟨0, ⟨#[]⟩, 0, false, false, 0⟩
def rightSg (p : Sg) : Bool :=
  if p.kind = 1 ∨ p.kind = 2 then tokenB p.text.data.toList && decide (p.num = 0 ∧ p.a = false ∧ p.b = false ∧ p.turns = 0)
  else if p.kind = 3 then decide (p.text.size = 0 ∧ p.num < 16777216 ∧ p.a = false ∧ p.b = false ∧ p.turns = 0)
  else if p.kind = 4 then decide (p.text.size = 0 ∧ p.num < 128 ∧ p.b = false ∧ p.turns = 0)
  else if p.kind = 5 then decide (p.text.size = 0 ∧ p.num < 65536 ∧ p.a = false ∧ p.b = false ∧ p.turns = 0)
  else if p.kind = 6 then decide (p.text.size = 0 ∧ p.num = 0 ∧ 0 ≤ p.turns ∧ p.turns < 4)
  else false
def turnN (p : Sg) : Nat := p.turns.toNat + (if p.b = true then 4 else 0) + (if p.a = true then 8 else 0)
def writeSg (p : Sg) : List UInt8 :=
  if p.kind = 3 then be 3 p.num
  else if p.kind = 4 then [UInt8.ofNat (p.num + (if p.a = true then 128 else 0))]
  else if p.kind = 5 then be 2 p.num
  else if p.kind = 6 then [UInt8.ofNat (turnN p)]
  else p.text.data.toList
def lenK (kind : Int) (n : Nat) : Nat := if kind = 3 then 3 else if kind = 4 then 1 else if kind = 5 then 2 else if kind = 6 then 1 else n
def signE (kind : Int) (s : List UInt8) : Nat :=
  if kind < 1 ∨ 6 < kind then 1
  else if s.length ≠ lenK kind s.length ∨ kind < 3 ∧ (s.length < 1 ∨ 16 < s.length) then 4
  else if kind < 3 ∧ tokenB s = false then 6
  else 0
def signV (kind : Int) (s : List UInt8) : Sg :=
  if kind < 3 then ⟨kind, ⟨s.toArray⟩, 0, false, false, 0⟩
  else if kind = 4 then ⟨4, ⟨#[]⟩, bt s 0 % 128, decide (128 ≤ bt s 0), false, 0⟩
  else if kind = 6 then ⟨6, ⟨#[]⟩, 0, decide (bt s 0 / 8 % 2 = 1), decide (bt s 0 / 4 % 2 = 1), (bt s 0 % 4 : Nat)⟩
  else ⟨kind, ⟨#[]⟩, num s, false, false, 0⟩
def readSg (kind : Int) (s : List UInt8) : Sg := if signE kind s = 0 then signV kind s else zeroSg
def canonSg (kind : Int) (s : List UInt8) : Bool := decide (signE kind s = 0 ∧ writeSg (readSg kind s) = s)

theorem tokenB_size {S : List UInt8} (h : tokenB S = true) : 1 ≤ S.length ∧ S.length ≤ 16 := by
  unfold tokenB at h
  rw [Bool.and_eq_true, decide_eq_true_eq] at h
  exact h.2
theorem text_nil {t : ByteArray} (h : t.size = 0) : t = ⟨#[]⟩ := by
  obtain ⟨a⟩ := t
  have : a.size = 0 := h
  rw [Array.eq_empty_of_size_eq_zero this]
theorem text_self (t : ByteArray) : (⟨t.data.toList.toArray⟩ : ByteArray) = t := by
  obtain ⟨a⟩ := t
  rfl
/-- The kinds. -/
theorem right_kind {p : Sg} (h : rightSg p = true) : (p.kind = 1 ∨ p.kind = 2) ∨ p.kind = 3 ∨ p.kind = 4 ∨ p.kind = 5 ∨ p.kind = 6 := by
  unfold rightSg at h
  split at h
  · exact .inl (by assumption)
  · split at h
    · exact .inr (.inl (by assumption))
    · split at h
      · exact .inr (.inr (.inl (by assumption)))
      · split at h
        · exact .inr (.inr (.inr (.inl (by assumption))))
        · split at h
          · exact .inr (.inr (.inr (.inr (by assumption))))
          · cases h
theorem right_text {p : Sg} (h : rightSg p = true) (hk : p.kind = 1 ∨ p.kind = 2) : tokenB p.text.data.toList = true ∧ p.num = 0 ∧ p.a = false ∧ p.b = false ∧ p.turns = 0 := by
  unfold rightSg at h
  rw [if_pos hk, Bool.and_eq_true, decide_eq_true_eq] at h
  exact h
theorem right_3 {p : Sg} (h : rightSg p = true) (hk : p.kind = 3) : p.text.size = 0 ∧ p.num < 16777216 ∧ p.a = false ∧ p.b = false ∧ p.turns = 0 := by
  unfold rightSg at h
  rw [if_neg (by omega), if_pos hk, decide_eq_true_eq] at h
  exact h
theorem right_4 {p : Sg} (h : rightSg p = true) (hk : p.kind = 4) : p.text.size = 0 ∧ p.num < 128 ∧ p.b = false ∧ p.turns = 0 := by
  unfold rightSg at h
  rw [if_neg (by omega), if_neg (by omega), if_pos hk, decide_eq_true_eq] at h
  exact h
theorem right_5 {p : Sg} (h : rightSg p = true) (hk : p.kind = 5) : p.text.size = 0 ∧ p.num < 65536 ∧ p.a = false ∧ p.b = false ∧ p.turns = 0 := by
  unfold rightSg at h
  rw [if_neg (by omega), if_neg (by omega), if_neg (by omega), if_pos hk, decide_eq_true_eq] at h
  exact h
theorem right_6 {p : Sg} (h : rightSg p = true) (hk : p.kind = 6) : p.text.size = 0 ∧ p.num = 0 ∧ 0 ≤ p.turns ∧ p.turns < 4 := by
  unfold rightSg at h
  rw [if_neg (by omega), if_neg (by omega), if_neg (by omega), if_neg (by omega), if_pos hk, decide_eq_true_eq] at h
  exact h
theorem turnN_lt {p : Sg} (h : p.turns < 4) : turnN p < 16 := by
  unfold turnN
  split <;> split <;> omega
theorem signE_of {k : Int} {s : List UInt8} (h1 : 1 ≤ k) (h2 : k ≤ 6) (h3 : s.length = lenK k s.length) (h4 : k < 3 → tokenB s = true) : signE k s = 0 := by
  unfold signE
  rw [if_neg (by omega), if_neg, if_neg]
  · rintro ⟨h, h'⟩; rw [h4 h] at h'; cases h'
  · rintro (h | ⟨h, h'⟩)
    · exact h h3
    · have := tokenB_size (h4 h); omega
theorem bt_one (x : UInt8) : bt [x] 0 = x.toNat := rfl
theorem sign_read_write {p : Sg} (h : rightSg p = true) : signE p.kind (writeSg p) = 0 ∧ readSg p.kind (writeSg p) = p := by
  have key : signE p.kind (writeSg p) = 0 → signV p.kind (writeSg p) = p → signE p.kind (writeSg p) = 0 ∧ readSg p.kind (writeSg p) = p := fun h1 h2 => ⟨h1, by unfold readSg; rw [if_pos h1, h2]⟩
  rcases right_kind h with hk | hk | hk | hk | hk
  · obtain ⟨h1, h2, h3, h4, h5⟩ := right_text h hk
    have hw : writeSg p = p.text.data.toList := by unfold writeSg; rw [if_neg (by omega), if_neg (by omega), if_neg (by omega), if_neg (by omega)]
    have hl := tokenB_size h1
    rw [hw] at key ⊢
    refine key ?_ ?_
    · refine signE_of (by omega) (by omega) ?_ (fun _ => h1)
      unfold lenK
      rw [if_neg (by omega), if_neg (by omega), if_neg (by omega), if_neg (by omega)]
    · unfold signV
      rw [if_pos (by omega), Sg.eq_iff]
      exact ⟨rfl, text_self _, h2.symm, h3.symm, h4.symm, h5.symm⟩
  · obtain ⟨h1, h2, h3, h4, h5⟩ := right_3 h hk
    have hw : writeSg p = be 3 p.num := by unfold writeSg; rw [if_pos hk]
    rw [hw] at key ⊢
    refine key ?_ ?_
    · refine signE_of (by omega) (by omega) ?_ (fun _ => by omega)
      unfold lenK
      rw [be_length, if_pos hk]
    · unfold signV
      rw [if_neg (by omega), if_neg (by omega), if_neg (by omega), num_be, Sg.eq_iff]
      exact ⟨rfl, (text_nil h1).symm, by simp only; omega, h3.symm, h4.symm, h5.symm⟩
  · obtain ⟨h1, h2, h4, h5⟩ := right_4 h hk
    have hw : writeSg p = [UInt8.ofNat (p.num + (if p.a = true then 128 else 0))] := by unfold writeSg; rw [if_neg (by omega), if_pos hk]
    have hx : (UInt8.ofNat (p.num + (if p.a = true then 128 else 0))).toNat = p.num + (if p.a = true then 128 else 0) := toNat_ofNat (by split <;> omega)
    rw [hw] at key ⊢
    refine key ?_ ?_
    · refine signE_of (by omega) (by omega) ?_ (fun _ => by omega)
      rw [hk]
      rfl
    · unfold signV
      rw [if_neg (by omega), if_pos hk, bt_one, hx, Sg.eq_iff]
      refine ⟨hk.symm, (text_nil h1).symm, ?_, ?_, h4.symm, h5.symm⟩
      · simp only; split <;> omega
      · cases p.a <;> simp <;> omega
  · obtain ⟨h1, h2, h3, h4, h5⟩ := right_5 h hk
    have hw : writeSg p = be 2 p.num := by unfold writeSg; rw [if_neg (by omega), if_neg (by omega), if_pos hk]
    rw [hw] at key ⊢
    refine key ?_ ?_
    · refine signE_of (by omega) (by omega) ?_ (fun _ => by omega)
      unfold lenK
      rw [be_length, if_neg (by omega), if_neg (by omega), if_pos hk]
    · unfold signV
      rw [if_neg (by omega), if_neg (by omega), if_neg (by omega), num_be, Sg.eq_iff]
      exact ⟨rfl, (text_nil h1).symm, by simp only; omega, h3.symm, h4.symm, h5.symm⟩
  · obtain ⟨h1, h2, h3, h4⟩ := right_6 h hk
    have hw : writeSg p = [UInt8.ofNat (turnN p)] := by unfold writeSg; rw [if_neg (by omega), if_neg (by omega), if_neg (by omega), if_pos hk]
    have hx : (UInt8.ofNat (turnN p)).toNat = turnN p := toNat_ofNat (by have := turnN_lt h4; omega)
    rw [hw] at key ⊢
    refine key ?_ ?_
    · refine signE_of (by omega) (by omega) ?_ (fun _ => by omega)
      rw [hk]
      rfl
    · unfold signV
      rw [if_neg (by omega), if_neg (by omega), if_pos hk, bt_one, hx, Sg.eq_iff]
      unfold turnN
      refine ⟨hk.symm, (text_nil h1).symm, h2.symm, ?_, ?_, ?_⟩
      · cases p.a <;> cases p.b <;> simp <;> omega
      · cases p.a <;> cases p.b <;> simp <;> omega
      · cases p.a <;> cases p.b <;> simp <;> omega
theorem signE_zero {kind : Int} {s : List UInt8} (h : signE kind s = 0) : 1 ≤ kind ∧ kind ≤ 6 ∧ s.length = lenK kind s.length ∧ (kind < 3 → tokenB s = true) := by
  unfold signE at h
  split at h
  · cases h
  · split at h
    · cases h
    · split at h
      · cases h
      · rename_i h1 h2 h3
        refine ⟨by omega, by omega, by omega, fun hk => ?_⟩
        cases ht : tokenB s
        · exact absurd ⟨hk, ht⟩ h3
        · rfl
theorem list_one {s : List UInt8} (h : s.length = 1) : s = [UInt8.ofNat (bt s 0)] := by
  match s, h with
  | [x], _ => simp [bt]
theorem sign_right {kind : Int} {s : List UInt8} (h : signE kind s = 0) : rightSg (readSg kind s) = true ∧ (readSg kind s).kind = kind := by
  have hr : readSg kind s = signV kind s := if_pos h
  rw [hr]
  obtain ⟨h1, h2, h3, h4⟩ := signE_zero h
  unfold signV
  by_cases hk : kind < 3
  · rw [if_pos hk]
    refine ⟨?_, rfl⟩
    unfold rightSg
    rw [if_pos (show kind = 1 ∨ kind = 2 by omega)]
    simp [h4 hk]
  · rw [if_neg hk]
    unfold lenK at h3
    rcases (show kind = 3 ∨ kind = 4 ∨ kind = 5 ∨ kind = 6 by omega) with rfl | rfl | rfl | rfl
    · have := num_lt s
      simp only [if_true] at h3
      rw [h3] at this
      refine ⟨?_, rfl⟩
      simp [rightSg]
      exact ⟨rfl, by omega⟩
    · refine ⟨?_, rfl⟩
      simp [rightSg]
      exact ⟨rfl, by omega⟩
    · have := num_lt s
      simp at h3
      rw [h3] at this
      refine ⟨?_, rfl⟩
      simp [rightSg]
      exact ⟨rfl, by omega⟩
    · refine ⟨?_, rfl⟩
      simp [rightSg]
      exact ⟨rfl, by omega, by omega⟩
/-- Of a kind that isn't Turn, every bytes that are read are canonical. -/
theorem sign_write_read {kind : Int} {s : List UInt8} (h : signE kind s = 0) (hk : kind ≠ 6) : writeSg (readSg kind s) = s := by
  have hr : readSg kind s = signV kind s := if_pos h
  rw [hr]
  obtain ⟨h1, h2, h3, h4⟩ := signE_zero h
  unfold signV
  by_cases hk3 : kind < 3
  · rw [if_pos hk3]
    unfold writeSg
    rw [if_neg (show ¬ kind = 3 by omega), if_neg (show ¬ kind = 4 by omega), if_neg (show ¬ kind = 5 by omega), if_neg (show ¬ kind = 6 by omega)]
  · rw [if_neg hk3]
    unfold lenK at h3
    rcases (show kind = 3 ∨ kind = 4 ∨ kind = 5 by omega) with rfl | rfl | rfl
    · simp only [if_true] at h3
      have := be_num s
      rw [h3] at this
      simpa [writeSg] using this
    · simp at h3
      have hb := bt_lt s 0
      have e := list_one h3
      have e2 : bt s 0 % 128 + (if decide (128 ≤ bt s 0) = true then 128 else 0) = bt s 0 := by
        by_cases h : 128 ≤ bt s 0
        · rw [if_pos (decide_eq_true h)]; omega
        · rw [if_neg (by simpa using h)]; omega
      conv => rhs; rw [e]
      show [UInt8.ofNat (bt s 0 % 128 + (if decide (128 ≤ bt s 0) = true then 128 else 0))] = _
      rw [e2]
    · simp at h3
      have := be_num s
      rw [h3] at this
      simpa [writeSg] using this
theorem sign_inj {p q : Sg} (hp : rightSg p = true) (hq : rightSg q = true) (hk : p.kind = q.kind) : writeSg p = writeSg q ↔ p = q := by
  refine ⟨fun h => ?_, fun h => by rw [h]⟩
  rw [← (sign_read_write hp).2, ← (sign_read_write hq).2, h, hk]

end Go.Proofs.Ytnmnbiphonjlaaa

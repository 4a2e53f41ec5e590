/-
  Texts as lists of bytes, gone through rune by rune: how many bytes the rune has that stands first, whether a text may be, how many runes it has.
-/
import GoSem.Core.Utf8
import Derived.Lib.DecodeN
namespace Go.Proofs.Ytkfinkmbdpdepaa

/-- How many bytes the rune has that bytes begin with, by the first four of them and how many there are; 0: a stray byte. -/
def rlN (n b0 b1 b2 b3 : Nat) : Nat :=
  if b0 < 128 then 1
  else if 194 ≤ b0 ∧ b0 ≤ 223 then (if 1 < n ∧ 128 ≤ b1 ∧ b1 ≤ 191 then 2 else 0)
  else if b0 = 224 then (if (1 < n ∧ 160 ≤ b1 ∧ b1 ≤ 191) ∧ (2 < n ∧ 128 ≤ b2 ∧ b2 ≤ 191) then 3 else 0)
  else if b0 = 237 then (if (1 < n ∧ 128 ≤ b1 ∧ b1 ≤ 159) ∧ (2 < n ∧ 128 ≤ b2 ∧ b2 ≤ 191) then 3 else 0)
  else if 225 ≤ b0 ∧ b0 ≤ 239 then (if (1 < n ∧ 128 ≤ b1 ∧ b1 ≤ 191) ∧ (2 < n ∧ 128 ≤ b2 ∧ b2 ≤ 191) then 3 else 0)
  else if b0 = 240 then (if (1 < n ∧ 144 ≤ b1 ∧ b1 ≤ 191) ∧ (2 < n ∧ 128 ≤ b2 ∧ b2 ≤ 191) ∧ (3 < n ∧ 128 ≤ b3 ∧ b3 ≤ 191) then 4 else 0)
  else if 241 ≤ b0 ∧ b0 ≤ 243 then (if (1 < n ∧ 128 ≤ b1 ∧ b1 ≤ 191) ∧ (2 < n ∧ 128 ≤ b2 ∧ b2 ≤ 191) ∧ (3 < n ∧ 128 ≤ b3 ∧ b3 ≤ 191) then 4 else 0)
  else if b0 = 244 then (if (1 < n ∧ 128 ≤ b1 ∧ b1 ≤ 143) ∧ (2 < n ∧ 128 ≤ b2 ∧ b2 ≤ 191) ∧ (3 < n ∧ 128 ≤ b3 ∧ b3 ≤ 191) then 4 else 0)
  else 0
def bt (S : List UInt8) (i : Nat) : Nat := (S.getD i 0).toNat
theorem bt_lt (S : List UInt8) (i : Nat) : bt S i < 256 := (S.getD i 0).toNat_lt
def rlen (S : List UInt8) : Nat := if S = [] then 0 else rlN S.length (bt S 0) (bt S 1) (bt S 2) (bt S 3)
/-- How far to the next rune or stray byte. -/
def step (S : List UInt8) : Nat := if rlen S = 0 then 1 else rlen S

theorem rlN_four (n b0 b1 b2 b3 : Nat) : rlN n b0 b1 b2 b3 ≤ 4 := by
  unfold rlN; repeat' split
  all_goals omega
theorem rlN_le {n b0 b1 b2 b3 : Nat} (h : 0 < n) : rlN n b0 b1 b2 b3 ≤ n := by
  unfold rlN; repeat' split
  all_goals omega
theorem rlN_one {n b0 b1 b2 b3 : Nat} : rlN n b0 b1 b2 b3 = 1 ↔ b0 < 128 := by
  unfold rlN; repeat' split
  all_goals omega
/-- What stands behind a rune doesn't matter. -/
theorem rlN_more {n m b0 b1 b2 b3 c1 c2 c3 : Nat} (h0 : rlN n b0 b1 b2 b3 ≠ 0) (hm : n ≤ m) (h1 : 1 < n → c1 = b1) (h2 : 2 < n → c2 = b2) (h3 : 3 < n → c3 = b3) : rlN m b0 c1 c2 c3 = rlN n b0 b1 b2 b3 := by
  generalize hk : rlN n b0 b1 b2 b3 = k at *
  unfold rlN at hk ⊢
  repeat' split at hk
  all_goals first
    | (exfalso; omega)
    | (repeat' split
       all_goals first | omega | (exfalso; omega))

theorem rlen_nil : rlen [] = 0 := rfl
theorem rlen_le (S : List UInt8) : rlen S ≤ S.length := by
  unfold rlen; split
  · omega
  · exact rlN_le (List.length_pos_iff.2 ‹_›)
theorem rlen_four (S : List UInt8) : rlen S ≤ 4 := by
  unfold rlen; split
  · omega
  · exact rlN_four _ _ _ _ _
theorem step_pos (S : List UInt8) : 0 < step S := by unfold step; split <;> omega
theorem step_le {S : List UInt8} (h : S ≠ []) : step S ≤ S.length := by
  have := rlen_le S
  have := List.length_pos_iff.2 h
  unfold step; split <;> omega
theorem rlen_one {S : List UInt8} (h : S ≠ []) : rlen S = 1 ↔ bt S 0 < 128 := by
  unfold rlen; rw [if_neg h]; exact rlN_one
theorem bt_append {S T : List UInt8} {i : Nat} (h : i < S.length) : bt (S ++ T) i = bt S i := by
  unfold bt
  rw [List.getD_eq_getElem?_getD, List.getD_eq_getElem?_getD, List.getElem?_append_left h]
theorem bt_take {S : List UInt8} {i k : Nat} (h : i < k) : bt (S.take k) i = bt S i := by
  unfold bt
  rw [List.getD_eq_getElem?_getD, List.getD_eq_getElem?_getD, List.getElem?_take_of_lt h]
theorem bt_drop (S : List UInt8) (k i : Nat) : bt (S.drop k) i = bt S (k + i) := by
  unfold bt
  rw [List.getD_eq_getElem?_getD, List.getD_eq_getElem?_getD, List.getElem?_drop]
theorem rlen_append {S : List UInt8} (h : rlen S ≠ 0) (T : List UInt8) : rlen (S ++ T) = rlen S := by
  have hS : S ≠ [] := fun e => by subst e; exact h rfl
  have hl := List.length_pos_iff.2 hS
  have h2 : S ++ T ≠ [] := by simp [hS]
  unfold rlen at *
  rw [if_neg hS] at *
  rw [if_neg h2, bt_append hl]
  exact rlN_more h (by simp) (fun k => bt_append k) (fun k => bt_append k) (fun k => bt_append k)
/-- A rune alone is one. -/
theorem rlN_self {n b0 b1 b2 b3 c1 c2 c3 : Nat} (h0 : rlN n b0 b1 b2 b3 ≠ 0) (h1 : 1 < rlN n b0 b1 b2 b3 → c1 = b1) (h2 : 2 < rlN n b0 b1 b2 b3 → c2 = b2) (h3 : 3 < rlN n b0 b1 b2 b3 → c3 = b3) : rlN (rlN n b0 b1 b2 b3) b0 c1 c2 c3 = rlN n b0 b1 b2 b3 := by
  generalize hk : rlN n b0 b1 b2 b3 = k at *
  unfold rlN at hk ⊢
  repeat' split at hk
  all_goals first
    | (exfalso; omega)
    | (repeat' split
       all_goals first | omega | (exfalso; omega))
theorem rlen_take {S : List UInt8} (h : rlen S ≠ 0) (T : List UInt8) : rlen (S.take (rlen S) ++ T) = rlen S := by
  have hle := rlen_le S
  have hS : S ≠ [] := fun e => by subst e; exact h rfl
  have e : rlen (S.take (rlen S)) = rlen S := by
    have h2 : S.take (rlen S) ≠ [] := by
      intro e
      have := congrArg List.length e
      simp at this
      rcases this with h1 | h1
      · exact h h1
      · exact hS h1
    have e0 : rlen S = rlN S.length (bt S 0) (bt S 1) (bt S 2) (bt S 3) := by unfold rlen; rw [if_neg hS]
    generalize hk : rlen S = k at *
    have h3 : rlen (S.take k) = rlN k (bt S 0) (bt (S.take k) 1) (bt (S.take k) 2) (bt (S.take k) 3) := by
      unfold rlen
      rw [if_neg h2, List.length_take, Nat.min_eq_left hle, bt_take (by omega)]
    rw [h3, e0]
    rw [e0] at h
    refine rlN_self h ?_ ?_ ?_ <;> (intro h5; rw [← e0] at h5 ⊢; exact bt_take h5)
  rw [← e] at h
  rw [rlen_append h, e]

/-- The text may be, by fuel. -/
def mayF : Nat → List UInt8 → Bool
  | 0, _ => true
  | k + 1, S => if S = [] then true else if rlen S = 0 ∨ (rlen S = 1 ∧ (bt S 0 < 32 ∨ bt S 0 = 127)) then false else mayF k (S.drop (rlen S))
def runesF : Nat → List UInt8 → Nat
  | 0, _ => 0
  | k + 1, S => if S = [] then 0 else 1 + runesF k (S.drop (step S))
def mayB (S : List UInt8) : Bool := mayF S.length S
def runesN (S : List UInt8) : Nat := runesF S.length S
theorem drop_short {S : List UInt8} {k n : Nat} (hS : S ≠ []) (h : S.length ≤ n + 1) (hk : 0 < k) : (S.drop k).length ≤ n := by
  have := List.length_pos_iff.2 hS
  rw [List.length_drop]; omega
theorem mayF_fuel {n m : Nat} : ∀ {S : List UInt8}, S.length ≤ n → S.length ≤ m → mayF n S = mayF m S := by
  induction n generalizing m with
  | zero =>
    intro S h _
    obtain rfl : S = [] := List.eq_nil_of_length_eq_zero (by omega)
    cases m <;> rfl
  | succ n ih =>
    intro S h1 h2
    cases m with
    | zero =>
      obtain rfl : S = [] := List.eq_nil_of_length_eq_zero (by omega)
      rfl
    | succ m =>
      by_cases hS : S = []
      · subst hS; rfl
      · rw [mayF, mayF, if_neg hS, if_neg hS]
        split
        · rfl
        · rename_i hc
          have hr : rlen S ≠ 0 := fun e => hc (.inl e)
          exact ih (drop_short hS h1 (by omega)) (drop_short hS h2 (by omega))
theorem runesF_fuel {n m : Nat} : ∀ {S : List UInt8}, S.length ≤ n → S.length ≤ m → runesF n S = runesF m S := by
  induction n generalizing m with
  | zero =>
    intro S h _
    obtain rfl : S = [] := List.eq_nil_of_length_eq_zero (by omega)
    cases m <;> rfl
  | succ n ih =>
    intro S h1 h2
    cases m with
    | zero =>
      obtain rfl : S = [] := List.eq_nil_of_length_eq_zero (by omega)
      rfl
    | succ m =>
      by_cases hS : S = []
      · subst hS; rfl
      · rw [runesF, runesF, if_neg hS, if_neg hS, ih (drop_short hS h1 (step_pos S)) (drop_short hS h2 (step_pos S))]
theorem mayB_nil : mayB [] = true := rfl
theorem runesN_nil : runesN [] = 0 := rfl
theorem mayB_no {S : List UInt8} (hS : S ≠ []) (h : rlen S = 0 ∨ (rlen S = 1 ∧ (bt S 0 < 32 ∨ bt S 0 = 127))) : mayB S = false := by
  obtain ⟨n, hn⟩ : ∃ n, S.length = n + 1 := ⟨S.length - 1, by have := List.length_pos_iff.2 hS; omega⟩
  unfold mayB; rw [hn, mayF, if_neg hS, if_pos h]
theorem mayB_yes {S : List UInt8} (hS : S ≠ []) (h : ¬ (rlen S = 0 ∨ (rlen S = 1 ∧ (bt S 0 < 32 ∨ bt S 0 = 127)))) : mayB S = mayB (S.drop (rlen S)) := by
  obtain ⟨n, hn⟩ : ∃ n, S.length = n + 1 := ⟨S.length - 1, by have := List.length_pos_iff.2 hS; omega⟩
  have hr : rlen S ≠ 0 := fun e => h (.inl e)
  conv => lhs; unfold mayB; rw [hn, mayF, if_neg hS, if_neg h]
  exact mayF_fuel (drop_short hS (by omega) (by omega)) (Nat.le_refl _)
theorem runesN_succ {S : List UInt8} (hS : S ≠ []) : runesN S = 1 + runesN (S.drop (step S)) := by
  obtain ⟨n, hn⟩ : ∃ n, S.length = n + 1 := ⟨S.length - 1, by have := List.length_pos_iff.2 hS; omega⟩
  conv => lhs; unfold runesN; rw [hn, runesF, if_neg hS]
  rw [runesF_fuel (drop_short hS (by omega) (step_pos S)) (Nat.le_refl _)]; rfl

/-- Induction over a text, rune by rune. -/
theorem rune_ind {P : List UInt8 → Prop} (h0 : P []) (h1 : ∀ S, S ≠ [] → P (S.drop (step S)) → P S) (S : List UInt8) : P S := by
  have : ∀ n, ∀ S : List UInt8, S.length ≤ n → P S := by
    intro n
    induction n with
    | zero =>
      intro S h
      obtain rfl : S = [] := List.eq_nil_of_length_eq_zero (by omega)
      exact h0
    | succ n ih =>
      intro S h
      by_cases hS : S = []
      · subst hS; exact h0
      · exact h1 S hS (ih _ (drop_short hS h (step_pos S)))
  exact this _ S (Nat.le_refl _)
theorem runesN_le (S : List UInt8) : runesN S ≤ S.length := by
  refine rune_ind (P := fun S => runesN S ≤ S.length) (Nat.le_refl _) (fun S hS ih => ?_) S
  have h1 := step_pos S
  have h2 := step_le hS
  rw [runesN_succ hS]
  rw [List.length_drop] at ih
  omega
theorem runesN_zero (S : List UInt8) : runesN S = 0 ↔ S = [] := by
  constructor
  · intro h
    by_cases hS : S = []
    · exact hS
    · rw [runesN_succ hS] at h; omega
  · rintro rfl; rfl
/-- Two texts that may be, one behind the other. -/
theorem may_append (A B : List UInt8) (hB : mayB B = true) : mayB A = true → mayB (A ++ B) = true ∧ runesN (A ++ B) = runesN A + runesN B := by
  refine rune_ind (P := fun A => mayB A = true → mayB (A ++ B) = true ∧ runesN (A ++ B) = runesN A + runesN B) (fun _ => ⟨by simpa using hB, by simp [runesN_nil]⟩) (fun A hA ih hm => ?_) A
  by_cases hc : rlen A = 0 ∨ (rlen A = 1 ∧ (bt A 0 < 32 ∨ bt A 0 = 127))
  · rw [mayB_no hA hc] at hm; cases hm
  · have hr : rlen A ≠ 0 := fun e => hc (.inl e)
    have hst : step A = rlen A := if_neg hr
    have hra := rlen_append hr B
    have hb0 : bt (A ++ B) 0 = bt A 0 := bt_append (List.length_pos_iff.2 hA)
    have hAB : A ++ B ≠ [] := by simp [hA]
    have hst2 : step (A ++ B) = rlen A := by unfold step; rw [hra, if_neg hr]
    have hd : (A ++ B).drop (rlen A) = A.drop (rlen A) ++ B := List.drop_append_of_le_length (rlen_le A)
    rw [mayB_yes hA hc] at hm
    rw [hst] at ih
    obtain ⟨i1, i2⟩ := ih hm
    rw [mayB_yes hAB (by rw [hra, hb0]; exact hc), hra, hd, runesN_succ hAB, hst2, hd, runesN_succ hA, hst, i2]
    exact ⟨i1, by omega⟩

/-- The model's own decoding, by how many bytes the rune has. -/
theorem decode_stray {n b0 b1 b2 b3 : Nat} (h0 : b0 < 256) (h1 : b1 < 256) (h2 : b2 < 256) (h3 : b3 < 256) (h : rlN n b0 b1 b2 b3 = 0) : Lib.decodeN n b0 b1 b2 b3 = (65533, 1) := by
  unfold rlN at h
  unfold Lib.decodeN
  repeat' split at h
  all_goals first
    | (exfalso; omega)
    | (repeat' split
       all_goals first | rfl | (exfalso; omega))
theorem decode_ascii1 {n b0 b1 b2 b3 : Nat} (h : b0 < 128) : Lib.decodeN n b0 b1 b2 b3 = (b0, 1) := if_pos h
theorem decode_rune {n b0 b1 b2 b3 : Nat} (h0 : b0 < 256) (h1 : b1 < 256) (h2 : b2 < 256) (h3 : b3 < 256) (h : 2 ≤ rlN n b0 b1 b2 b3) : (Lib.decodeN n b0 b1 b2 b3).2 = rlN n b0 b1 b2 b3 ∧ 128 ≤ (Lib.decodeN n b0 b1 b2 b3).1 := by
  unfold rlN at h ⊢
  unfold Lib.decodeN
  repeat' split at h
  all_goals first
    | (exfalso; omega)
    | (repeat' split
       all_goals first | (exfalso; omega) | (constructor <;> simp only <;> omega))

end Go.Proofs.Ytkfinkmbdpdepaa

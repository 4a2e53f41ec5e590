/-
  Quoted texts as lists of bytes: a text quoted, the text of a quoted form, and that one is the other's inverse.
-/
import Derived.Test.YtnmnbiphonjlaaaTextM
namespace Go.Proofs.Ytnmnbiphonjlaaa

/-- A hexadecimal digit's sign. -/
def hexC (n : Nat) : UInt8 := UInt8.ofNat (if n < 10 then 48 + n else 87 + n)
/-- The number of a hexadecimal digit; 16: it is none. -/
def hexV (c : Nat) : Nat := if 48 ≤ c ∧ c ≤ 57 then c - 48 else if 97 ≤ c ∧ c ≤ 102 then c - 87 else 16
theorem hexV_hexC {n : Nat} (h : n < 16) : hexV (hexC n).toNat = n := by
  unfold hexC hexV
  rw [UInt8.toNat_ofNat']
  simp only [Nat.reducePow]
  split
  · rw [if_pos (by omega)]; omega
  · rw [if_neg (by omega), if_pos (by omega)]; omega
theorem hexC_ne {n : Nat} (h : n < 16) : hexC n ≠ 34 ∧ hexC n ≠ 92 := by
  constructor
  all_goals
    intro e
    have := congrArg UInt8.toNat e
    unfold hexC at this
    rw [UInt8.toNat_ofNat'] at this
    simp only [Nat.reducePow, UInt8.reduceToNat] at this
    split at this <;> omega
/-- Is what stands first written as two digits? -/
def isHex (S : List UInt8) : Prop := rlen S = 0 ∨ (rlen S = 1 ∧ (bt S 0 < 32 ∨ bt S 0 = 127))
/-- Is what stands first written behind a stroke? -/
def isEsc (S : List UInt8) : Prop := rlen S = 1 ∧ (bt S 0 = 34 ∨ bt S 0 = 92)
instance (S : List UInt8) : Decidable (isHex S) := inferInstanceAs (Decidable (_ ∨ _))
instance (S : List UInt8) : Decidable (isEsc S) := inferInstanceAs (Decidable (_ ∧ _))
/-- What is written of what stands first. -/
def piece (S : List UInt8) : List UInt8 :=
  if isEsc S then [92, UInt8.ofNat (bt S 0)] else if isHex S then [92, hexC (bt S 0 / 16), hexC (bt S 0 % 16)] else S.take (rlen S)
theorem piece_esc {S : List UInt8} (h : rlen S = 1 ∧ (bt S 0 = 34 ∨ bt S 0 = 92)) : piece S = [92, UInt8.ofNat (bt S 0)] := if_pos h
theorem piece_hex {S : List UInt8} (h : ¬ (rlen S = 1 ∧ (bt S 0 = 34 ∨ bt S 0 = 92))) (h2 : rlen S = 0 ∨ (rlen S = 1 ∧ (bt S 0 < 32 ∨ bt S 0 = 127))) : piece S = [92, hexC (bt S 0 / 16), hexC (bt S 0 % 16)] := (if_neg h).trans (if_pos h2)
theorem piece_plain {S : List UInt8} (h : ¬ (rlen S = 1 ∧ (bt S 0 = 34 ∨ bt S 0 = 92))) (h2 : ¬ (rlen S = 0 ∨ (rlen S = 1 ∧ (bt S 0 < 32 ∨ bt S 0 = 127)))) : piece S = S.take (rlen S) := (if_neg h).trans (if_neg h2)
def bodyF : Nat → List UInt8 → List UInt8
  | 0, _ => []
  | k + 1, S => if S = [] then [] else piece S ++ bodyF k (S.drop (step S))
def bodyB (S : List UInt8) : List UInt8 := bodyF S.length S
def quoteB (S : List UInt8) : List UInt8 := 34 :: (bodyB S ++ [34])
theorem bodyF_fuel {n m : Nat} : ∀ {S : List UInt8}, S.length ≤ n → S.length ≤ m → bodyF n S = bodyF m S := by
  induction n generalizing m with
  | zero =>
    intro S h _
    obtain rfl : S = [] := List.eq_nil_of_length_eq_zero (by omega)
    cases m <;> rfl
  | succ n ih =>
    intro S h1 h2
    cases m with
    | zero =>
      obtain rfl : S = [] := List.eq_nil_of_length_eq_zero (by omega)
      rfl
    | succ m =>
      by_cases hS : S = []
      · subst hS; rfl
      · rw [bodyF, bodyF, if_neg hS, if_neg hS, ih (drop_short hS h1 (step_pos S)) (drop_short hS h2 (step_pos S))]
theorem bodyB_nil : bodyB [] = [] := rfl
theorem bodyB_cons {S : List UInt8} (hS : S ≠ []) : bodyB S = piece S ++ bodyB (S.drop (step S)) := by
  obtain ⟨n, hn⟩ : ∃ n, S.length = n + 1 := ⟨S.length - 1, by have := List.length_pos_iff.2 hS; omega⟩
  conv => lhs; unfold bodyB; rw [hn, bodyF, if_neg hS]
  rw [bodyF_fuel (drop_short hS (by omega) (step_pos S)) (Nat.le_refl _)]; rfl
theorem piece_length (S : List UInt8) : (piece S).length ≤ 3 * step S := by
  have h := step_pos S
  unfold piece
  split
  · simp; omega
  · split
    · simp; omega
    · rename_i h1
      have : rlen S ≠ 0 := fun e => h1 (.inl e)
      unfold step
      rw [if_neg this]
      simp; omega
theorem bodyB_length (S : List UInt8) : (bodyB S).length ≤ 3 * S.length := by
  refine rune_ind (P := fun S => (bodyB S).length ≤ 3 * S.length) (by simp [bodyB_nil]) (fun S hS ih => ?_) S
  have h1 := step_le hS
  have h2 := piece_length S
  rw [bodyB_cons hS, List.length_append]
  rw [List.length_drop] at ih
  omega

/-- What a quoted form's inside says, sign by sign. -/
def scanB : List UInt8 → Option (List UInt8)
  | [] => some []
  | c :: T =>
    if c = 34 then none
    else if c = 92 then
      match T with
      | [] => none
      | d :: T' =>
        if d = 34 ∨ d = 92 then (scanB T').map (d :: ·)
        else match T' with
          | [] => none
          | e :: T'' => if hexV d.toNat ≤ 15 ∧ hexV e.toNat ≤ 15 then (scanB T'').map (UInt8.ofNat (16 * hexV d.toNat + hexV e.toNat) :: ·) else none
    else (scanB T).map (c :: ·)
theorem scan_esc {d : UInt8} {R : List UInt8} (h : d = 34 ∨ d = 92) : scanB (92 :: d :: R) = (scanB R).map (d :: ·) := by
  rw [scanB.eq_def]
  simp only [show ¬ (92 : UInt8) = 34 from by decide, if_false, if_true, if_pos h]
theorem scan_hex {d e : UInt8} {R : List UInt8} (h : ¬ (d = 34 ∨ d = 92)) (h2 : hexV d.toNat ≤ 15 ∧ hexV e.toNat ≤ 15) : scanB (92 :: d :: e :: R) = (scanB R).map (UInt8.ofNat (16 * hexV d.toNat + hexV e.toNat) :: ·) := by
  rw [scanB.eq_def]
  simp only [show ¬ (92 : UInt8) = 34 from by decide, if_false, if_true, if_neg h, if_pos h2]
theorem scan_plain {c : UInt8} {R : List UInt8} (h1 : c ≠ 34) (h2 : c ≠ 92) : scanB (c :: R) = (scanB R).map (c :: ·) := by
  rw [scanB.eq_def]
  simp only [if_neg h1, if_neg h2]
theorem scan_plains {A R : List UInt8} (h : ∀ c ∈ A, c ≠ 34 ∧ c ≠ 92) : scanB (A ++ R) = (scanB R).map (A ++ ·) := by
  induction A with
  | nil => simp
  | cons c A ih =>
    rw [List.cons_append, scan_plain (h c (by simp)).1 (h c (by simp)).2, ih (fun d hd => h d (by simp [hd])), Option.map_map]
    rfl
theorem rlN_high {n b0 b1 b2 b3 : Nat} (h : 2 ≤ rlN n b0 b1 b2 b3) : 128 ≤ b0 ∧ 128 ≤ b1 ∧ (3 ≤ rlN n b0 b1 b2 b3 → 128 ≤ b2) ∧ (4 ≤ rlN n b0 b1 b2 b3 → 128 ≤ b3) := by
  generalize hk : rlN n b0 b1 b2 b3 = k at *
  unfold rlN at hk
  repeat' split at hk
  all_goals omega
/-- The bytes of a longer rune. -/
theorem rune_high {S : List UInt8} (h : 2 ≤ rlen S) : ∀ i, i < rlen S → 128 ≤ bt S i := by
  have hS : S ≠ [] := fun e => by subst e; rw [rlen_nil] at h; omega
  have h4 := rlen_four S
  unfold rlen at *
  rw [if_neg hS] at *
  obtain ⟨h0, h1, h2, h3⟩ := rlN_high h
  intro i hi
  rcases (show i = 0 ∨ i = 1 ∨ i = 2 ∨ i = 3 by omega) with rfl | rfl | rfl | rfl
  · exact h0
  · exact h1
  · exact h2 (by omega)
  · exact h3 (by omega)
theorem take_drop_step (S : List UInt8) : S.take (step S) ++ S.drop (step S) = S := List.take_append_drop _ _
theorem take_one {S : List UInt8} (hS : S ≠ []) : S.take 1 = [UInt8.ofNat (bt S 0)] := by
  obtain ⟨c, T, rfl⟩ := List.exists_cons_of_ne_nil hS
  simp [bt]
theorem ofNat_bt {n : Nat} (h : n < 256) (m : Nat) (hm : m < 256) : UInt8.ofNat n = UInt8.ofNat m ↔ n = m := by
  constructor
  · intro e
    have := congrArg UInt8.toNat e
    rw [UInt8.toNat_ofNat', UInt8.toNat_ofNat'] at this
    simp only [Nat.reducePow] at this
    omega
  · rintro rfl; rfl
/-- What is written of what stands first is read so. -/
theorem scan_piece {S : List UInt8} (hS : S ≠ []) (R : List UInt8) : scanB (piece S ++ R) = (scanB R).map (S.take (step S) ++ ·) := by
  have hb := bt_lt S 0
  unfold piece
  split
  · rename_i h
    have hst : step S = 1 := by unfold step; rw [h.1]; rfl
    rw [hst, take_one hS, List.cons_append, List.cons_append, List.nil_append, scan_esc]
    · rfl
    · rcases h.2 with e | e <;> rw [e]
      · exact .inl rfl
      · exact .inr rfl
  · split
    · rename_i h
      have hst : step S = 1 := by
        unfold step
        rcases h with h | h
        · rw [if_pos h]
        · rw [h.1]; rfl
      have h1 : bt S 0 / 16 < 16 := by omega
      have h2 : bt S 0 % 16 < 16 := by omega
      rw [hst, take_one hS]
      show scanB (92 :: hexC (bt S 0 / 16) :: hexC (bt S 0 % 16) :: R) = _
      rw [scan_hex (fun e => e.elim (hexC_ne h1).1 (hexC_ne h1).2) (by rw [hexV_hexC h1, hexV_hexC h2]; omega), hexV_hexC h1, hexV_hexC h2]
      rw [show 16 * (bt S 0 / 16) + bt S 0 % 16 = bt S 0 by omega]
      rfl
    · rename_i he hh
      have hr : rlen S ≠ 0 := fun e => hh (.inl e)
      have hst : step S = rlen S := if_neg hr
      rw [hst]
      refine scan_plains fun c hc => ?_
      obtain ⟨i, hi, rfl⟩ := List.mem_iff_getElem.1 hc
      have hil : i < rlen S := by rw [List.length_take] at hi; omega
      have hiS : i < S.length := by rw [List.length_take] at hi; omega
      have hbi : (S[i]'hiS).toNat = bt S i := by simp [bt, List.getD, List.getElem?_eq_getElem hiS]
      rw [List.getElem_take]
      have key : bt S i ≠ 34 ∧ bt S i ≠ 92 := by
        by_cases h1 : rlen S = 1
        · obtain rfl : i = 0 := by omega
          exact ⟨fun e => he ⟨h1, .inl e⟩, fun e => he ⟨h1, .inr e⟩⟩
        · have := rune_high (S := S) (by omega) i hil
          omega
      constructor
      · intro e; rw [e] at hbi; exact key.1 hbi.symm
      · intro e; rw [e] at hbi; exact key.2 hbi.symm
/-- A text is read from its quoted form's inside as it was. -/
theorem scan_body (S : List UInt8) : scanB (bodyB S) = some S := by
  refine rune_ind (P := fun S => scanB (bodyB S) = some S) rfl (fun S hS ih => ?_) S
  rw [bodyB_cons hS, scan_piece hS, ih, Option.map_some, take_drop_step]
theorem quoteB_inj {S T : List UInt8} (h : quoteB S = quoteB T) : S = T := by
  unfold quoteB at h
  have h1 := List.append_cancel_right (List.cons.inj h).2
  have := scan_body S
  rw [h1, scan_body T] at this
  injection this with this
  exact this.symm
/-- The text whose quoted form this is. -/
def unqB (Q : List UInt8) : Option (List UInt8) :=
  if 2 ≤ Q.length ∧ bt Q 0 = 34 ∧ bt Q (Q.length - 1) = 34 then
    match scanB ((Q.drop 1).take (Q.length - 2)) with
    | none => none
    | some x => if quoteB x = Q then some x else none
  else none
theorem quoteB_length (S : List UInt8) : (quoteB S).length = (bodyB S).length + 2 := by simp [quoteB]
theorem quoteB_first (S : List UInt8) : bt (quoteB S) 0 = 34 := rfl
theorem quoteB_last (S : List UInt8) : bt (quoteB S) ((quoteB S).length - 1) = 34 := by
  unfold quoteB bt
  simp [List.getD]
theorem quoteB_mid (S : List UInt8) : ((quoteB S).drop 1).take ((quoteB S).length - 2) = bodyB S := by
  rw [quoteB_length, Nat.add_sub_cancel]
  simp [quoteB]
theorem unqB_quote (S : List UInt8) : unqB (quoteB S) = some S := by
  unfold unqB
  rw [if_pos ⟨by rw [quoteB_length]; omega, quoteB_first S, quoteB_last S⟩, quoteB_mid, scan_body]
  simp
theorem unqB_some {Q S : List UInt8} (h : unqB Q = some S) : quoteB S = Q := by
  unfold unqB at h
  split at h
  · cases hs : scanB ((Q.drop 1).take (Q.length - 2)) with
    | none => rw [hs] at h; cases h
    | some x =>
      rw [hs] at h
      simp only at h
      split at h
      · injection h with h; rw [← h]; assumption
      · cases h
  · cases h
theorem unqB_iff {Q S : List UInt8} : unqB Q = some S ↔ quoteB S = Q := ⟨unqB_some, fun h => by rw [← h]; exact unqB_quote S⟩

end Go.Proofs.Ytnmnbiphonjlaaa

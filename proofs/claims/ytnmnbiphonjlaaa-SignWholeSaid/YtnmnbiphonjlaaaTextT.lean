/-
  What the statements of layer 4 say of texts as lists of bytes: tokens, quoted texts and words.
-/
import Derived.Test.YtnmnbiphonjlaaaTextQ
import Derived.Test.YtnmnbiphonjlaaaTextV
namespace Go.Proofs.Ytnmnbiphonjlaaa

/-! plain bytes -/
theorem bt_cons (c : UInt8) (R : List UInt8) : bt (c :: R) 0 = c.toNat := rfl
theorem rlen_ascii {c : UInt8} {R : List UInt8} (h : c.toNat < 128) : rlen (c :: R) = 1 := (rlen_one (by simp)).2 h
theorem step_ascii {c : UInt8} {R : List UInt8} (h : c.toNat < 128) : step (c :: R) = 1 := by unfold step; rw [rlen_ascii h]; rfl
theorem may_ascii {c : UInt8} {R : List UInt8} (h1 : 32 ≤ c.toNat) (h2 : c.toNat < 127) : mayB (c :: R) = mayB R := by
  rw [mayB_yes (by simp) (by rw [rlen_ascii (by omega), bt_cons]; omega), rlen_ascii (by omega)]; rfl
theorem runes_ascii {c : UInt8} {R : List UInt8} (h : c.toNat < 128) : runesN (c :: R) = 1 + runesN R := by
  rw [runesN_succ (by simp), step_ascii h]; rfl
theorem may_ff (R : List UInt8) : mayB (255 :: R) = false := by
  refine mayB_no (by simp) (.inl ?_)
  unfold rlen
  rw [if_neg (by simp)]
  unfold rlN
  rw [show bt (255 :: R) 0 = 255 from rfl]
  simp
/-- A rune that may be, with more behind it. -/
theorem may_rune {S : List UInt8} (h0 : rlen S ≠ 0) (h1 : ¬ (rlen S = 1 ∧ (bt S 0 < 32 ∨ bt S 0 = 127))) (R : List UInt8) : mayB (S.take (rlen S) ++ R) = mayB R := by
  have ht := rlen_take h0 R
  have hS : S ≠ [] := fun e => by subst e; exact h0 rfl
  have hne : S.take (rlen S) ++ R ≠ [] := by
    intro e
    have := congrArg List.length e
    simp at this
    have h3 := rlen_le S
    have h4 := List.length_pos_iff.2 hS
    rcases this.1 with h | h
    · exact h0 h
    · exact hS h
  have hb : bt (S.take (rlen S) ++ R) 0 = bt S 0 := by
    rw [bt_append (by rw [List.length_take]; have := rlen_le S; omega), bt_take (by omega)]
  rw [mayB_yes hne (by rw [ht, hb]; exact fun h => h.elim h0 h1), ht]
  congr 1
  have hl : (S.take (rlen S)).length = rlen S := by rw [List.length_take]; have := rlen_le S; omega
  rw [List.drop_append_of_le_length (by omega), List.drop_of_length_le (by omega)]; rfl

/-! quoted texts may be -/
theorem hexC_plain {n : Nat} (h : n < 16) : 48 ≤ (hexC n).toNat ∧ (hexC n).toNat < 127 := by
  unfold hexC
  rw [UInt8.toNat_ofNat']
  simp only [Nat.reducePow]
  split <;> omega
theorem may_piece {S : List UInt8} (R : List UInt8) : mayB (piece S ++ R) = mayB R := by
  have hb := bt_lt S 0
  unfold piece
  split
  · rename_i h
    have h2 : (UInt8.ofNat (bt S 0)).toNat = bt S 0 := by rw [UInt8.toNat_ofNat']; simp only [Nat.reducePow]; omega
    show mayB (92 :: UInt8.ofNat (bt S 0) :: R) = _
    rw [may_ascii (c := 92) (by decide) (by decide), may_ascii (by rw [h2]; have := h.2; omega) (by rw [h2]; have := h.2; omega)]
  · split
    · have h1 := hexC_plain (n := bt S 0 / 16) (by omega)
      have h2 := hexC_plain (n := bt S 0 % 16) (by omega)
      show mayB (92 :: hexC (bt S 0 / 16) :: hexC (bt S 0 % 16) :: R) = _
      rw [may_ascii (c := 92) (by decide) (by decide), may_ascii (by omega) h1.2, may_ascii (by omega) h2.2]
    · rename_i h1 h2
      exact may_rune (fun e => h2 (.inl e)) (fun e => h2 (.inr e)) R
theorem may_body (S R : List UInt8) : mayB (bodyB S ++ R) = mayB R := by
  refine rune_ind (P := fun S => mayB (bodyB S ++ R) = mayB R) rfl (fun S hS ih => ?_) S
  rw [bodyB_cons hS, List.append_assoc, may_piece, ih]
theorem may_quote (S : List UInt8) : mayB (quoteB S) = true := by
  unfold quoteB
  rw [may_ascii (c := 34) (by decide) (by decide), may_body, may_ascii (c := 34) (by decide) (by decide)]; rfl

/-- What is read has not more bytes than what it was read from. -/
theorem scan_len {T x : List UInt8} (h : scanB T = some x) : x.length ≤ T.length := by
  have : ∀ n, ∀ T x : List UInt8, T.length ≤ n → scanB T = some x → x.length ≤ T.length := by
    intro n
    induction n with
    | zero =>
      intro T x hT h
      obtain rfl : T = [] := List.eq_nil_of_length_eq_zero (by omega)
      rw [scanB.eq_def] at h
      injection h with h
      rw [← h]; exact Nat.le_refl _
    | succ n ih =>
      intro T x hT h
      have step : ∀ (c : UInt8) (R : List UInt8), R.length ≤ n → (scanB R).map (c :: ·) = some x → x.length ≤ R.length + 1 := by
        intro c R hR h
        obtain ⟨y, hy, rfl⟩ := Option.map_eq_some_iff.1 h
        have := ih R y hR hy
        rw [List.length_cons]; omega
      rw [scanB.eq_def] at h
      split at h
      · injection h with h
        rw [← h]; exact Nat.zero_le _
      · rename_i c R
        rw [List.length_cons] at hT ⊢
        split at h
        · cases h
        · split at h
          · split at h
            · cases h
            · rename_i d R2
              rw [List.length_cons] at hT ⊢
              split at h
              · have := step _ _ (by omega) h; omega
              · split at h
                · cases h
                · rename_i e R3
                  rw [List.length_cons] at hT ⊢
                  split at h
                  · have := step _ _ (by omega) h; omega
                  · cases h
          · exact step _ _ (by omega) h
  exact this _ T x (Nat.le_refl _) h

/-! words -/
theorem words_ascii {c : UInt8} {R : List UInt8} (h : c.toNat < 128) (q b : Bool) (w : List UInt8) (o : List (List UInt8)) : wordsG (c :: R) q b w o =
    if b = true then wordsG R q false (w ++ [c]) o
    else if q = true ∧ c.toNat = 92 then wordsG R q true (w ++ [c]) o
    else if c.toNat = 34 then wordsG R (!q) false (w ++ [c]) o
    else if c.toNat = 32 ∧ q = false then (if w = [] then none else wordsG R q false [] (o ++ [w]))
    else wordsG R q false (w ++ [c]) o := by
  rw [wordsG_cons (by simp), step_ascii h]; rfl
theorem words_rune {S : List UInt8} (h0 : rlen S ≠ 0) (h1 : bt S 0 ≠ 34) (h2 : bt S 0 ≠ 92) (R : List UInt8) (w : List UInt8) (o : List (List UInt8)) :
    wordsG (S.take (rlen S) ++ R) true false w o = wordsG R true false (w ++ S.take (rlen S)) o := by
  have ht := rlen_take h0 R
  have hS : S ≠ [] := fun e => by subst e; exact h0 rfl
  have hl : (S.take (rlen S)).length = rlen S := by rw [List.length_take]; have := rlen_le S; omega
  have hne : S.take (rlen S) ++ R ≠ [] := by
    intro e
    have := congrArg List.length e
    rw [List.length_append, hl] at this
    simp at this
    exact h0 this.1
  have hst : step (S.take (rlen S) ++ R) = rlen S := by unfold step; rw [ht, if_neg h0]
  have hb : bt (S.take (rlen S) ++ R) 0 = bt S 0 := by
    rw [bt_append (by omega), bt_take (by omega)]
  rw [wordsG_cons hne, hst, hb, if_neg (by decide), if_neg (fun e => h2 e.2), if_neg h1, if_neg (fun e => by cases e.2)]
  rw [List.drop_append_of_le_length (by omega), List.drop_of_length_le (by omega), List.take_append_of_le_length (by omega), List.take_of_length_le (by omega)]
  rfl
theorem words_piece {S : List UInt8} (R w : List UInt8) (o : List (List UInt8)) : wordsG (piece S ++ R) true false w o = wordsG R true false (w ++ piece S) o := by
  have hb := bt_lt S 0
  unfold piece
  split
  · rename_i h
    have h2 : (UInt8.ofNat (bt S 0)).toNat = bt S 0 := by rw [UInt8.toNat_ofNat']; simp only [Nat.reducePow]; omega
    show wordsG (92 :: UInt8.ofNat (bt S 0) :: R) true false w o = _
    rw [words_ascii (c := 92) (by decide), if_neg (by decide), if_pos ⟨rfl, rfl⟩, words_ascii (by rw [h2]; have := h.2; omega), if_pos rfl, List.append_assoc]; rfl
  · split
    · have h1 := hexC_plain (n := bt S 0 / 16) (by omega)
      have h2 := hexC_plain (n := bt S 0 % 16) (by omega)
      have n2 := hexC_ne (n := bt S 0 % 16) (by omega)
      have m1 : (hexC (bt S 0 % 16)).toNat ≠ 92 := fun e => n2.2 (UInt8.toNat_inj.1 (e.trans rfl))
      have m2 : (hexC (bt S 0 % 16)).toNat ≠ 34 := fun e => n2.1 (UInt8.toNat_inj.1 (e.trans rfl))
      show wordsG (92 :: hexC (bt S 0 / 16) :: hexC (bt S 0 % 16) :: R) true false w o = _
      rw [words_ascii (c := 92) (by decide), if_neg (by decide), if_pos ⟨rfl, rfl⟩, words_ascii (by omega), if_pos rfl, words_ascii (by omega), if_neg (by decide), if_neg (fun e => m1 e.2), if_neg m2, if_neg (fun e => by cases e.2)]
      rw [List.append_assoc, List.append_assoc]; rfl
    · rename_i h1 h2
      have h0 : rlen S ≠ 0 := fun e => h2 (.inl e)
      have key : bt S 0 ≠ 34 ∧ bt S 0 ≠ 92 := by
        by_cases h3 : rlen S = 1
        · exact ⟨fun e => h1 ⟨h3, .inl e⟩, fun e => h1 ⟨h3, .inr e⟩⟩
        · have := rune_high (S := S) (by omega) 0 (by omega)
          omega
      exact words_rune h0 key.1 key.2 R w o
theorem words_body (S R w : List UInt8) (o : List (List UInt8)) : wordsG (bodyB S ++ R) true false w o = wordsG R true false (w ++ bodyB S) o := by
  have : ∀ w, wordsG (bodyB S ++ R) true false w o = wordsG R true false (w ++ bodyB S) o := by
    refine rune_ind (P := fun S => ∀ w, wordsG (bodyB S ++ R) true false w o = wordsG R true false (w ++ bodyB S) o) (fun w => by rw [bodyB_nil, List.nil_append, List.append_nil]) (fun S hS ih w => ?_) S
    rw [bodyB_cons hS, List.append_assoc, words_piece, ih, List.append_assoc]
  exact this w
/-- A quoted text is gone through as one part of a word. -/
theorem words_quote (S R w : List UInt8) (o : List (List UInt8)) : wordsG (quoteB S ++ R) false false w o = wordsG R false false (w ++ quoteB S) o := by
  unfold quoteB
  show wordsG (34 :: (bodyB S ++ [34] ++ R)) false false w o = _
  rw [words_ascii (c := 34) (by decide), if_neg (by decide), if_neg (by decide), if_pos (by decide), List.append_assoc, show (!false) = true from rfl, words_body]
  show wordsG (34 :: R) true false _ o = _
  rw [words_ascii (c := 34) (by decide), if_neg (by decide), if_neg (by decide), if_pos (by decide), List.append_assoc, List.append_assoc]; rfl
/-- A quoted text alone is one word. -/
theorem words_one (S : List UInt8) : wordsB (quoteB S) = some [quoteB S] := by
  unfold wordsB
  have := words_quote S [] [] []
  rw [List.append_nil] at this
  rw [this, wordsG_nil, List.nil_append]
  unfold wordsEnd
  rw [if_neg (by unfold quoteB; simp)]; rfl

/-! tokens -/
def tokC' (c : Nat) : Prop := (97 ≤ c ∧ c ≤ 122) ∨ (65 ≤ c ∧ c ≤ 90) ∨ (48 ≤ c ∧ c ≤ 57) ∨ c = 45 ∨ c = 95
theorem token_may {S : List UInt8} (h : ∀ c ∈ S, tokC' c.toNat) : mayB S = true ∧ runesN S = S.length := by
  induction S with
  | nil => exact ⟨rfl, rfl⟩
  | cons c S ih =>
    have hc : tokC' c.toNat := h c (by simp)
    unfold tokC' at hc
    obtain ⟨i1, i2⟩ := ih fun d hd => h d (by simp [hd])
    rw [may_ascii (by omega) (by omega), runes_ascii (by omega), i2, List.length_cons]
    exact ⟨i1, by omega⟩
theorem words_token {T : List UInt8} (h : ∀ c ∈ T, tokC' c.toNat) (R w : List UInt8) (o : List (List UInt8)) : wordsG (T ++ R) false false w o = wordsG R false false (w ++ T) o := by
  induction T generalizing w with
  | nil => rw [List.nil_append, List.append_nil]
  | cons c T ih =>
    have hc : tokC' c.toNat := h c (by simp)
    unfold tokC' at hc
    rw [List.cons_append, words_ascii (by omega), if_neg (by decide), if_neg (fun e => by cases e.1), if_neg (by omega), if_neg (by omega), ih (fun d hd => h d (by simp [hd])), List.append_assoc]; rfl
theorem words_blank (R w : List UInt8) (o : List (List UInt8)) : wordsG (32 :: R) false false w o = if w = [] then none else wordsG R false false [] (o ++ [w]) := by
  rw [words_ascii (c := 32) (by decide), if_neg (by decide), if_neg (by decide), if_neg (by decide), if_pos ⟨rfl, rfl⟩]

/-! what is read as words is these, a blank between two -/
/-- Words with a blank behind each, and what follows. -/
def laid (o : List (List UInt8)) (w : List UInt8) : List UInt8 := (o.map (· ++ [32])).flatten ++ w
theorem laid_snoc (o : List (List UInt8)) (w v : List UInt8) : laid (o ++ [w]) v = laid o (w ++ 32 :: v) := by
  unfold laid; simp
theorem words_laid (S : List UInt8) : ∀ {q b : Bool} {w : List UInt8} {o r : List (List UInt8)}, wordsG S q b w o = some r → ∃ o' w', r = o' ++ [w'] ∧ laid o' w' = laid o (w ++ S) ∧ w' ≠ [] := by
  refine rune_ind (P := fun S => ∀ {q b : Bool} {w : List UInt8} {o r : List (List UInt8)}, wordsG S q b w o = some r → ∃ o' w', r = o' ++ [w'] ∧ laid o' w' = laid o (w ++ S) ∧ w' ≠ []) ?_ ?_ S
  · intro q b w o r h
    rw [wordsG_nil] at h
    unfold wordsEnd at h
    split at h
    · cases h
    · rename_i hc
      injection h with h
      exact ⟨o, w, h.symm, by rw [List.append_nil], fun e => hc (.inr e)⟩
  · intro S hS ih q b w o r h
    have key : ∀ {q b : Bool}, wordsG (S.drop (step S)) q b (w ++ S.take (step S)) o = some r → ∃ o' w', r = o' ++ [w'] ∧ laid o' w' = laid o (w ++ S) ∧ w' ≠ [] := by
      intro q b h
      obtain ⟨o', w', h1, h2, h3⟩ := ih h
      exact ⟨o', w', h1, by rw [h2, List.append_assoc, take_drop_step], h3⟩
    rw [wordsG_cons hS] at h
    split at h
    · exact key h
    · split at h
      · exact key h
      · split at h
        · exact key h
        · split at h
          · rename_i hc
            split at h
            · cases h
            · obtain ⟨o', w', h1, h2, h3⟩ := ih h
              refine ⟨o', w', h1, ?_, h3⟩
              rw [h2, laid_snoc, List.nil_append]
              congr 2
              have hst : step S = 1 := by unfold step; rw [(rlen_one hS).2 (by omega)]; rfl
              rw [hst]
              obtain ⟨c, T, rfl⟩ := List.exists_cons_of_ne_nil hS
              have : c = 32 := UInt8.toNat_inj.1 hc.1
              rw [this]; rfl
          · exact key h

end Go.Proofs.Ytnmnbiphonjlaaa

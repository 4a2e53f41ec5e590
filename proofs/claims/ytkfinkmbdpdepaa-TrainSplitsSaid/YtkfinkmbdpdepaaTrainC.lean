/-
  Cars that are joined, as plain data: what TrainSplits makes of its arguments, and what Split makes of that.
-/
import Derived.Test.YtkfinkmbdpdepaaTrainM
namespace Go.Proofs.Ytkfinkmbdpdepaa
set_option linter.unusedSimpArgs false
set_option linter.unusedVariables false

def tailN (nb tr i : Nat) : Nat := if i + 1 = nb then 4 * (tr % 64) else 0
def carAt (K Q : List UInt8) (L : List (List UInt8)) (tr i : Nat) : List UInt8 :=
  closeB ((K.getD i 0).toNat : Int) (((Q.getD i 0).toNat % 32 : Nat) : Int) ((L.getD i []).take ((L.getD i []).length / 4 * 4)) ((tailN L.length tr i : Nat) : Int)
def carsTo (K Q : List UInt8) (L : List (List UInt8)) (tr k : Nat) : List (List UInt8) := (List.range k).map (carAt K Q L tr)
theorem tailN_le (nb tr i : Nat) : tailN nb tr i ≤ 252 ∧ tailN nb tr i % 4 = 0 := by unfold tailN; split <;> omega
section
variable {K Q : List UInt8} {L : List (List UInt8)} {tr : Nat}
theorem carAt_may {x y i n : Nat} {s : List UInt8} (hx : x < 256) (hy : y < 32) (hs : s.length ≤ 300) (h4 : s.length % 4 = 0) : mayT (x : Int) (y : Int) s.length ((tailN n tr i : Nat) : Int) = true := by
  obtain ⟨h1, h2⟩ := tailN_le n tr i
  rw [mayT_iff]
  refine ⟨by omega, ?_⟩
  rw [rightCm_iff]
  show 0 ≤ (y : Int) ∧ (y : Int) < 32 ∧ 0 ≤ (x : Int) ∧ (x : Int) < 256 ∧ 4 ≤ 4 + (s.length : Int) + ((tailN n tr i : Nat) : Int) ∧ 4 + (s.length : Int) + ((tailN n tr i : Nat) : Int) ≤ 262144 ∧ (4 + (s.length : Int) + ((tailN n tr i : Nat) : Int)) % 4 = 0
  omega
theorem carAt_ok (i : Nat) (h : (L.getD i []).length ≤ 300) : openE (carAt K Q L tr i) = 0 ∧ (i + 1 ≠ L.length → openP (carAt K Q L tr i) = 0) ∧ 4 ≤ (carAt K Q L tr i).length ∧ (carAt K Q L tr i).length ≤ 556 := by
  have hl : ((L.getD i []).take ((L.getD i []).length / 4 * 4)).length = (L.getD i []).length / 4 * 4 := by rw [List.length_take]; omega
  have hm := carAt_may (tr := tr) (n := L.length) (i := i) (K.getD i 0).toNat_lt (Nat.mod_lt (Q.getD i 0).toNat (show 0 < 32 by omega)) (show ((L.getD i []).take ((L.getD i []).length / 4 * 4)).length ≤ 300 by omega) (by omega)
  obtain ⟨o1, o2, o3, o4, o5⟩ := open_close hm
  have ht := tailN_le L.length tr i
  have hc := closeB_length (kind := ((K.getD i 0).toNat : Int)) (count := (((Q.getD i 0).toNat % 32 : Nat) : Int)) (body := (L.getD i []).take ((L.getD i []).length / 4 * 4)) (trail := ((tailN L.length tr i : Nat) : Int)) (by omega)
  unfold carAt
  refine ⟨o1, fun hne => ?_, by omega, by omega⟩
  have : tailN L.length tr i = 0 := if_neg hne
  omega
theorem carsTo_succ (k : Nat) : carsTo K Q L tr (k + 1) = carsTo K Q L tr k ++ [carAt K Q L tr k] := by unfold carsTo; rw [List.range_succ, List.map_append]; rfl
theorem carsTo_length (k : Nat) : (carsTo K Q L tr k).length = k := by unfold carsTo; simp
theorem carsTo_flat (k : Nat) (h : ∀ i, i < k → (L.getD i []).length ≤ 300) : (carsTo K Q L tr k).flatten.length ≤ 556 * k := by
  induction k with
  | zero => simp [carsTo]
  | succ k ih =>
    have h1 := ih (fun i hi => h i (by omega))
    have h2 := (carAt_ok (K := K) (Q := Q) (tr := tr) k (h k (by omega))).2.2.2
    rw [carsTo_succ, List.flatten_append, List.length_append]
    simp only [List.flatten_cons, List.flatten_nil, List.append_nil]
    omega
theorem carsTo_ok (h : ∀ i, i < L.length → (L.getD i []).length ≤ 300) : (∀ c ∈ carsTo K Q L tr L.length, openE c = 0) ∧ (∀ c ∈ (carsTo K Q L tr L.length).dropLast, openP c = 0) := by
  have mem : ∀ k c, c ∈ carsTo K Q L tr k → ∃ i, i < k ∧ carAt K Q L tr i = c := fun k c hc => by
    unfold carsTo at hc
    rw [List.mem_map] at hc
    obtain ⟨i, hi, e⟩ := hc
    exact ⟨i, List.mem_range.1 hi, e⟩
  refine ⟨fun c hc => ?_, fun c hc => ?_⟩
  · obtain ⟨i, hi, rfl⟩ := mem _ c hc
    exact (carAt_ok i (h i hi)).1
  · cases hn : L.length with
    | zero => rw [hn] at hc; simp [carsTo] at hc
    | succ n =>
      rw [hn, carsTo_succ, List.dropLast_concat] at hc
      obtain ⟨i, hi, rfl⟩ := mem _ c hc
      exact (carAt_ok i (h i (by omega))).2.1 (by omega)
end

theorem split_cars {C : List (List UInt8)} (ho : ∀ c ∈ C, openE c = 0) (hp : ∀ c ∈ C.dropLast, openP c = 0) : splitL C.flatten = C ∧ (C = [] → splitE C.flatten = 2) ∧ (C ≠ [] → splitE C.flatten = 0 ∧ 0 < C.flatten.length) := by
  by_cases hC : C = []
  · subst hC
    exact ⟨rfl, fun _ => rfl, fun h => absurd rfl h⟩
  · have hl : 0 < C.flatten.length := by
      cases C with
      | nil => exact absurd rfl hC
      | cons c C =>
        have := openP_le (ho c (by simp))
        rw [List.flatten_cons, List.length_append]
        omega
    have hne : C.flatten ≠ [] := fun e => by rw [e] at hl; simp at hl
    have h := splitF_cars C C.flatten.length ho hp (Nat.le_refl _)
    unfold splitL splitE
    rw [if_neg hne, if_neg hne, h]
    exact ⟨rfl, fun e => absurd e hC, fun _ => ⟨rfl, hl⟩⟩
theorem mem_take_mono {α : Type} {l : List α} {a b : Nat} {x : α} (h : x ∈ l.take a) (hab : a ≤ b) : x ∈ l.take b := by
  rw [List.mem_iff_getElem?] at h ⊢
  obtain ⟨i, hi⟩ := h
  rw [List.getElem?_take] at hi
  split at hi
  · exact ⟨i, by rw [List.getElem?_take, if_pos (by omega)]; exact hi⟩
  · cases hi
theorem cut_at {C : List (List UInt8)} (ho : ∀ c ∈ C, openE c = 0) (hp : ∀ c ∈ C.dropLast, openP c = 0) {j k : Nat} (hj : j ≤ C.length) (hk : (C.take j).flatten.length = k) (h0 : 0 < k) : splitE (C.flatten.take k) = 0 ∧ (splitL (C.flatten.take k)).length = j := by
  have e : C.flatten.take k = (C.take j).flatten := by
    have : C.flatten = (C.take j).flatten ++ (C.drop j).flatten := by rw [← List.flatten_append, List.take_append_drop]
    rw [this, List.take_append_of_le_length (by omega), List.take_of_length_le (by omega)]
  have h1 : ∀ c ∈ C.take j, openE c = 0 := fun c hc => ho c (List.mem_of_mem_take hc)
  have h2 : ∀ c ∈ (C.take j).dropLast, openP c = 0 := fun c hc => hp c (by
    rw [List.dropLast_eq_take] at hc ⊢
    rw [List.take_take] at hc
    exact mem_take_mono hc (by rw [List.length_take]; omega))
  have hne : C.take j ≠ [] := fun e => by rw [e] at hk; simp at hk; omega
  obtain ⟨s1, s2, s3⟩ := split_cars h1 h2
  rw [e, s1]
  exact ⟨(s3 hne).1, by rw [List.length_take]; omega⟩
theorem flat_mono {C : List (List UInt8)} {a b : Nat} (h : a ≤ b) : (C.take a).flatten.length ≤ (C.take b).flatten.length := by
  have : C.take b = (C.take b).take a ++ (C.take b).drop a := (List.take_append_drop _ _).symm
  rw [this, List.take_take, Nat.min_eq_left h, List.flatten_append, List.length_append]
  omega
theorem cut_off {C : List (List UInt8)} (ho : ∀ c ∈ C, openE c = 0) (hp : ∀ c ∈ C.dropLast, openP c = 0) {j k : Nat} (hk : k < C.flatten.length) (hlo : ∀ i, i < j → (C.take i).flatten.length < k) (hhi : j = C.length ∨ k ≤ (C.take j).flatten.length) (hne : (C.take j).flatten.length ≠ k) : splitE (C.flatten.take k) ≠ 0 := by
  have h0 : 0 < k := by
    rcases Nat.eq_zero_or_pos j with h | h
    · subst h; simp at hne; omega
    · have := hlo 0 h; omega
  have hge : k < (C.take j).flatten.length := by
    rcases hhi with h | h
    · rw [h, List.take_of_length_le (Nat.le_refl _)]; exact hk
    · omega
  have hnn : C.flatten.take k ≠ [] := fun e => by
    have := congrArg List.length e
    rw [List.length_take, List.length_nil] at this
    omega
  unfold splitE
  rw [if_neg hnn]
  refine splitF_cut C k _ ho hp hk (by rw [List.length_take]; omega) (fun i e => ?_)
  rcases Nat.lt_or_ge i j with h | h
  · have := hlo i h; omega
  · have := flat_mono (C := C) h; omega
theorem flat_succ {C : List (List UInt8)} {j : Nat} (h : j < C.length) : (C.take (j + 1)).flatten.length = (C.take j).flatten.length + (C[j]'h).length := by
  rw [List.take_succ_eq_append_getElem h, List.flatten_append, List.length_append]
  simp
/-- What is split, part by part. -/
theorem split_parts {s : List UInt8} (h : splitE s = 0) : (splitL s).flatten = s ∧ (∀ c ∈ splitL s, openE c = 0) ∧ ∀ i (hi : i < (splitL s).length), i + 1 < (splitL s).length → openP ((splitL s)[i]'hi) = 0 := by
  have hne : s ≠ [] := fun e => by subst e; cases h
  unfold splitE at h
  rw [if_neg hne] at h
  obtain ⟨h1, h2, h3⟩ := splitF_ok s.length s (Nat.le_refl _) h
  have e : splitL s = (splitF s.length s).2 := if_neg hne
  rw [e]
  refine ⟨h1, fun c hc => (h2 c hc).1, fun i hi hi2 => h3 _ ?_⟩
  rw [List.dropLast_eq_take, List.mem_iff_getElem?]
  exact ⟨i, by rw [List.getElem?_take, if_pos (by omega), List.getElem?_eq_getElem hi]⟩
theorem split_none {s : List UInt8} (h : splitE s ≠ 0) : splitL s = [] := by
  unfold splitE at h
  unfold splitL
  split
  · rfl
  · rename_i hne
    rw [if_neg hne] at h
    exact splitF_err _ _ h

end Go.Proofs.Ytkfinkmbdpdepaa

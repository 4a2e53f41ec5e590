/-
  Headers as plain data: their bytes, and which one bytes begin with.
-/
import Derived.Test.YtbalpndgpdbcbaaOctM
namespace Go.Proofs.Ytbalpndgpdbcbaa

/-- A byte of bytes. -/
def g8 (S : List UInt8) (i : Nat) : Nat := (S.getD i 0).toNat
theorem g8_lt (S : List UInt8) (i : Nat) : g8 S i < 256 := (S.getD i 0).toNat_lt
/-- Numbers of four bytes, one behind the other. -/
def be4s (l : List Nat) : List UInt8 := (l.map (be 4)).flatten
def nums4 : Nat → List UInt8 → List Nat
  | 0, _ => []
  | k + 1, S => num (S.take 4) :: nums4 k (S.drop 4)
theorem be4s_nil : be4s [] = [] := rfl
theorem be4s_cons (x : Nat) (l : List Nat) : be4s (x :: l) = be 4 x ++ be4s l := by simp [be4s]
theorem be4s_snoc (l : List Nat) (x : Nat) : be4s (l ++ [x]) = be4s l ++ be 4 x := by simp [be4s]
theorem be4s_length (l : List Nat) : (be4s l).length = 4 * l.length := by
  induction l with
  | nil => rfl
  | cons x l ih => rw [be4s_cons, List.length_append, be_length, ih, List.length_cons]; omega
theorem nums4_length (k : Nat) : ∀ S : List UInt8, (nums4 k S).length = k := by
  induction k with
  | zero => intro S; rfl
  | succ k ih => intro S; simp [nums4, ih]
theorem nums4_lt (k : Nat) : ∀ S : List UInt8, ∀ x ∈ nums4 k S, x < 4294967296 := by
  induction k with
  | zero => intro S x hx; simp [nums4] at hx
  | succ k ih =>
    intro S x hx
    simp only [nums4, List.mem_cons] at hx
    rcases hx with rfl | hx
    · have h := num_lt (S.take 4)
      have h2 : (256 : Nat) ^ (S.take 4).length ≤ 256 ^ 4 := Nat.pow_le_pow_right (by omega) (by simp; omega)
      exact Nat.lt_of_lt_of_le h h2
    · exact ih _ x hx
theorem nums4_be (l : List Nat) (h : ∀ x ∈ l, x < 4294967296) (t : List UInt8) : nums4 l.length (be4s l ++ t) = l := by
  induction l with
  | nil => rfl
  | cons x l ih =>
    have hl : (be 4 x).length = 4 := be_length 4 x
    rw [List.length_cons, nums4, be4s_cons, List.append_assoc, List.take_left' hl, List.drop_left' hl, ih (fun y hy => h y (by simp [hy])), num_be]
    have := h x (by simp)
    rw [Nat.mod_eq_of_lt (by simpa using this)]
theorem be_nums4 (k : Nat) : ∀ S : List UInt8, 4 * k ≤ S.length → be4s (nums4 k S) = S.take (4 * k) := by
  induction k with
  | zero => intro S _; rfl
  | succ k ih =>
    intro S h
    rw [nums4, be4s_cons, ih _ (by rw [List.length_drop]; omega)]
    have h1 := be_num (S.take 4)
    rw [List.length_take, Nat.min_eq_left (by omega)] at h1
    rw [h1, show 4 * (k + 1) = 4 + 4 * k by omega, List.take_add]
theorem nums4_snoc (k : Nat) : ∀ S : List UInt8, nums4 (k + 1) S = nums4 k S ++ [num ((S.drop (4 * k)).take 4)] := by
  induction k with
  | zero => intro S; simp [nums4]
  | succ k ih =>
    intro S
    rw [nums4, ih, nums4, List.cons_append, List.drop_drop, show 4 + 4 * k = 4 * (k + 1) by omega]

/-- A header. -/
structure Hd where
  pad : Bool
  ext : Bool
  mark : Bool
  typ : Int
  seq : Nat
  time : Nat
  ssrc : Nat
  csrc : List Nat
theorem Hd.eq_iff (a b : Hd) : a = b ↔ a.pad = b.pad ∧ a.ext = b.ext ∧ a.mark = b.mark ∧ a.typ = b.typ ∧ a.seq = b.seq ∧ a.time = b.time ∧ a.ssrc = b.ssrc ∧ a.csrc = b.csrc := by
  cases a; cases b
  simp
instance : DecidableEq Hd := fun a b => decidable_of_iff _ (Hd.eq_iff a b).symm
def zeroH : Hd := ⟨false, false, false, 0, 0, 0, 0, []⟩
/-- Its numbers fit. -/
def fitsH (h : Hd) : Prop := h.seq < 65536 ∧ h.time < 4294967296 ∧ h.ssrc < 4294967296 ∧ ∀ x ∈ h.csrc, x < 4294967296
def rightH (h : Hd) : Bool := decide (0 ≤ h.typ ∧ h.typ < 128 ∧ h.csrc.length < 16)
def n1 (b : Bool) (k : Nat) : Nat := if b then k else 0
def firstB (h : Hd) : Nat := 128 + h.csrc.length + n1 h.pad 32 + n1 h.ext 16
def secondB (h : Hd) : Nat := h.typ.toNat + n1 h.mark 128
def headB (h : Hd) : List UInt8 := UInt8.ofNat (firstB h) :: UInt8.ofNat (secondB h) :: (be 2 h.seq ++ (be 4 h.time ++ (be 4 h.ssrc ++ be4s h.csrc)))
theorem headB_length (h : Hd) : (headB h).length = 12 + 4 * h.csrc.length := by
  simp only [headB, List.length_cons, List.length_append, be_length, be4s_length]; omega
/-- Why bytes begin with no header; 0: they begin with one. -/
def hErr (b : List UInt8) : Nat := if b.length < 12 then 2 else if g8 b 0 / 64 ≠ 2 then 3 else if b.length < 12 + 4 * (g8 b 0 % 16) then 2 else 0
def hOf (b : List UInt8) : Hd := ⟨decide (g8 b 0 / 32 % 2 = 1), decide (g8 b 0 / 16 % 2 = 1), decide (128 ≤ g8 b 1), ((g8 b 1 % 128 : Nat) : Int), num ((b.drop 2).take 2), num ((b.drop 4).take 4), num ((b.drop 8).take 4), nums4 (g8 b 0 % 16) (b.drop 12)⟩
def readH (b : List UInt8) : Hd := if hErr b = 0 then hOf b else zeroH
def readN (b : List UInt8) : Nat := if hErr b = 0 then 12 + 4 * (g8 b 0 % 16) else 0
theorem hErr_zero {b : List UInt8} (h : hErr b = 0) : 12 ≤ b.length ∧ g8 b 0 / 64 = 2 ∧ 12 + 4 * (g8 b 0 % 16) ≤ b.length := by
  unfold hErr at h
  split at h
  · cases h
  · split at h
    · cases h
    · split at h
      · cases h
      · rename_i h1 h2 h3
        exact ⟨by omega, by simpa using h2, by omega⟩
theorem hErr_cases (b : List UInt8) : hErr b = 0 ∨ hErr b = 2 ∨ hErr b = 3 := by
  unfold hErr
  repeat' split
  all_goals simp
theorem n1_le (b : Bool) (k : Nat) : n1 b k ≤ k := by cases b <;> simp [n1]
theorem firstB_lt {h : Hd} (hr : h.csrc.length < 16) : firstB h < 192 ∧ 128 ≤ firstB h := by
  have h1 := n1_le h.pad 32
  have h2 := n1_le h.ext 16
  unfold firstB
  omega
theorem toNat_ofNat {n : Nat} (h : n < 256) : (UInt8.ofNat n).toNat = n := by
  rw [UInt8.toNat_ofNat']; exact Nat.mod_eq_of_lt h
theorem g8_first (h : Hd) (t : List UInt8) (hr : h.csrc.length < 16) : g8 (headB h ++ t) 0 = firstB h := by
  have := (firstB_lt hr).1
  show (UInt8.ofNat (firstB h)).toNat = _
  exact toNat_ofNat (by omega)
theorem g8_second (h : Hd) (t : List UInt8) (h0 : 0 ≤ h.typ) (h1 : h.typ < 128) : g8 (headB h ++ t) 1 = secondB h := by
  have := n1_le h.mark 128
  show (UInt8.ofNat (secondB h)).toNat = _
  exact toNat_ofNat (by unfold secondB; omega)
/-- A header is read from its bytes as it was, whatever is behind. -/
theorem read_head {h : Hd} (hr : rightH h = true) (hf : fitsH h) (t : List UInt8) : hErr (headB h ++ t) = 0 ∧ hOf (headB h ++ t) = h ∧ g8 (headB h ++ t) 0 % 16 = h.csrc.length := by
  unfold rightH at hr
  rw [decide_eq_true_eq] at hr
  obtain ⟨h0, h1, h2⟩ := hr
  obtain ⟨f1, f2, f3, f4⟩ := hf
  have e0 := g8_first h t h2
  have e1 := g8_second h t h0 h1
  have hn : firstB h % 16 = h.csrc.length := by unfold firstB n1; split <;> split <;> omega
  have hl : (headB h ++ t).length = 12 + 4 * h.csrc.length + t.length := by rw [List.length_append, headB_length]
  refine ⟨?_, ?_, by rw [e0, hn]⟩
  · unfold hErr
    rw [e0, hn, if_neg (by omega), if_neg (by have := firstB_lt h2; omega), if_neg (by omega)]
  · unfold hOf
    rw [e0, e1, hn]
    have d2 : (headB h ++ t).drop 2 = be 2 h.seq ++ (be 4 h.time ++ (be 4 h.ssrc ++ (be4s h.csrc ++ t))) := by simp [headB]
    have d4 : (headB h ++ t).drop 4 = be 4 h.time ++ (be 4 h.ssrc ++ (be4s h.csrc ++ t)) := by
      rw [show 4 = 2 + 2 from rfl, ← List.drop_drop, d2, List.drop_left' (be_length 2 _)]
    have d8 : (headB h ++ t).drop 8 = be 4 h.ssrc ++ (be4s h.csrc ++ t) := by
      rw [show 8 = 4 + 4 from rfl, ← List.drop_drop, d4, List.drop_left' (be_length 4 _)]
    have d12 : (headB h ++ t).drop 12 = be4s h.csrc ++ t := by
      rw [show 12 = 8 + 4 from rfl, ← List.drop_drop, d8, List.drop_left' (be_length 4 _)]
    rw [d2, d4, d8, d12, List.take_left' (be_length 2 _), List.take_left' (be_length 4 _), List.take_left' (be_length 4 _), num_be, num_be, num_be, nums4_be _ f4]
    rw [Nat.mod_eq_of_lt (a := h.seq) (by simpa using f1), Nat.mod_eq_of_lt (a := h.time) (by simpa using f2), Nat.mod_eq_of_lt (a := h.ssrc) (by simpa using f3)]
    obtain ⟨pad, ext, mark, typ, seq, time, ssrc, csrc⟩ := h
    simp only [Hd.mk.injEq, and_true] at *
    unfold firstB secondB n1 at *
    simp only at *
    cases pad <;> cases ext <;> cases mark <;> simp at * <;> omega
theorem readH_head {h : Hd} (hr : rightH h = true) (hf : fitsH h) (t : List UInt8) : readH (headB h ++ t) = h ∧ readN (headB h ++ t) = (headB h).length ∧ hErr (headB h ++ t) = 0 := by
  obtain ⟨h1, h2, h3⟩ := read_head hr hf t
  unfold readH readN
  rw [if_pos h1, if_pos h1, h2, h3, headB_length]
  exact ⟨rfl, rfl, h1⟩
theorem headB_inj {h k : Hd} (h1 : rightH h = true) (h2 : fitsH h) (k1 : rightH k = true) (k2 : fitsH k) : headB h = headB k ↔ h = k := by
  constructor
  · intro e
    have a := (readH_head h1 h2 []).1
    have b := (readH_head k1 k2 []).1
    rw [e, b] at a
    exact a.symm
  · rintro rfl; rfl
/-- What is read is right, and has just these bytes. -/
theorem head_read {b : List UInt8} (h : hErr b = 0) : rightH (hOf b) = true ∧ fitsH (hOf b) ∧ headB (hOf b) = b.take (12 + 4 * (g8 b 0 % 16)) := by
  obtain ⟨h1, h2, h3⟩ := hErr_zero h
  have b0 := g8_lt b 0
  have b1 := g8_lt b 1
  have num2 : ∀ S : List UInt8, num (S.take 2) < 65536 := fun S => Nat.lt_of_lt_of_le (num_lt _) (Nat.pow_le_pow_right (n := 256) (i := (S.take 2).length) (j := 2) (by omega) (by simp; omega))
  have num4 : ∀ S : List UInt8, num (S.take 4) < 4294967296 := fun S => Nat.lt_of_lt_of_le (num_lt _) (Nat.pow_le_pow_right (n := 256) (i := (S.take 4).length) (j := 4) (by omega) (by simp; omega))
  refine ⟨?_, ⟨num2 _, num4 _, num4 _, nums4_lt _ _⟩, ?_⟩
  · unfold rightH hOf
    rw [decide_eq_true_eq]
    simp only [nums4_length]
    omega
  · have hcs : (hOf b).csrc.length = g8 b 0 % 16 := nums4_length _ _
    have e0 : firstB (hOf b) = g8 b 0 := by
      unfold firstB
      rw [hcs]
      unfold hOf n1
      simp only [decide_eq_true_eq]
      split <;> split <;> omega
    have e1 : secondB (hOf b) = g8 b 1 := by
      unfold secondB hOf n1
      simp only [decide_eq_true_eq, Int.toNat_natCast]
      split <;> omega
    unfold headB
    rw [e0, e1]
    have s2 : be 2 (hOf b).seq = (b.drop 2).take 2 := by
      have := be_num ((b.drop 2).take 2)
      rwa [List.length_take, List.length_drop, Nat.min_eq_left (by omega)] at this
    have s4 : be 4 (hOf b).time = (b.drop 4).take 4 := by
      have := be_num ((b.drop 4).take 4)
      rwa [List.length_take, List.length_drop, Nat.min_eq_left (by omega)] at this
    have s8 : be 4 (hOf b).ssrc = (b.drop 8).take 4 := by
      have := be_num ((b.drop 8).take 4)
      rwa [List.length_take, List.length_drop, Nat.min_eq_left (by omega)] at this
    have s12 : be4s (hOf b).csrc = (b.drop 12).take (4 * (g8 b 0 % 16)) := be_nums4 _ _ (by rw [List.length_drop]; omega)
    rw [s2, s4, s8, s12]
    have t12 : b.take (12 + 4 * (g8 b 0 % 16)) = b.take 12 ++ (b.drop 12).take (4 * (g8 b 0 % 16)) := List.take_add
    have t8 : b.take 12 = b.take 8 ++ (b.drop 8).take 4 := by rw [show 12 = 8 + 4 from rfl, List.take_add]
    have t4 : b.take 8 = b.take 4 ++ (b.drop 4).take 4 := by rw [show 8 = 4 + 4 from rfl, List.take_add]
    have t2 : b.take 4 = b.take 2 ++ (b.drop 2).take 2 := by rw [show 4 = 2 + 2 from rfl, List.take_add]
    rw [t12, t8, t4, t2]
    have tt : b.take 2 = [UInt8.ofNat (g8 b 0), UInt8.ofNat (g8 b 1)] := by
      match b, h1 with
      | x :: y :: r, _ => simp [g8]
    rw [tt]
    simp only [List.cons_append, List.nil_append, List.append_assoc]
theorem readH_right {b : List UInt8} (h : hErr b = 0) : rightH (readH b) = true ∧ fitsH (readH b) ∧ headB (readH b) = b.take (readN b) ∧ 12 ≤ readN b ∧ readN b ≤ b.length := by
  have := head_read h
  have hz := hErr_zero h
  unfold readH readN
  rw [if_pos h, if_pos h]
  exact ⟨this.1, this.2.1, this.2.2, by omega, hz.2.2⟩
/-- Cut anywhere it is too short. -/
theorem head_cut {h : Hd} (hr : rightH h = true) (k : Nat) (hk : k < (headB h).length) : hErr ((headB h).take k) = 2 := by
  unfold rightH at hr
  rw [decide_eq_true_eq] at hr
  have hl := headB_length h
  have hlt : ((headB h).take k).length = k := by rw [List.length_take]; omega
  unfold hErr
  rw [hlt]
  by_cases h12 : k < 12
  · rw [if_pos h12]
  · have e : g8 ((headB h).take k) 0 = firstB h := by
      have := g8_first h [] hr.2.2
      rw [List.append_nil] at this
      rw [← this]
      unfold g8
      congr 1
      rw [List.getD_eq_getElem?_getD, List.getD_eq_getElem?_getD, List.getElem?_take_of_lt (by omega)]
    have hn : firstB h % 16 = h.csrc.length := by unfold firstB n1; split <;> split <;> omega
    have := firstB_lt hr.2.2
    rw [if_neg h12, e, hn, if_neg (by omega), if_pos (by omega)]

end Go.Proofs.Ytbalpndgpdbcbaa

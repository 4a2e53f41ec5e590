/-
  Plain arithmetic of numbers in bytes, the highest byte first: the number of a list of bytes, the bytes of a number, and signed numbers.
-/
import GoSem.Claim
namespace Go.Proofs.Ytbalpndgpdbcbaa

/-- The number that bytes are, the highest first. -/
def num (s : List UInt8) : Nat := s.foldl (fun a x => a * 256 + x.toNat) 0
/-- The n bytes of v, the highest first. -/
def be : Nat → Nat → List UInt8
  | 0, _ => []
  | n + 1, v => be n (v / 256) ++ [UInt8.ofNat v]

theorem num_nil : num [] = 0 := rfl
theorem num_snoc (s : List UInt8) (x : UInt8) : num (s ++ [x]) = num s * 256 + x.toNat := by simp [num]
theorem be_zero (v : Nat) : be 0 v = [] := rfl
theorem be_succ (n v : Nat) : be (n + 1) v = be n (v / 256) ++ [UInt8.ofNat v] := rfl
theorem be_length : ∀ n v, (be n v).length = n
  | 0, _ => rfl
  | n + 1, v => by simp [be_succ, be_length n]

theorem snoc_ind {P : List UInt8 → Prop} (h0 : P []) (h1 : ∀ s x, P s → P (s ++ [x])) (s : List UInt8) : P s := by
  have : ∀ r : List UInt8, P r.reverse := by
    intro r
    induction r with
    | nil => exact h0
    | cons x r ih => rw [List.reverse_cons]; exact h1 _ _ ih
  simpa using this s.reverse

theorem num_lt (s : List UInt8) : num s < 256 ^ s.length := by
  refine snoc_ind (P := fun s => num s < 256 ^ s.length) (by simp [num]) (fun s x ih => ?_) s
  rw [num_snoc, List.length_append, List.length_singleton, Nat.pow_succ]
  have := x.toNat_lt
  simp only [Nat.reducePow] at this
  omega

theorem num_be (n v : Nat) : num (be n v) = v % 256 ^ n := by
  induction n generalizing v with
  | zero => simp [be_zero, num_nil, Nat.mod_one]
  | succ n ih =>
    rw [be_succ, num_snoc, ih, Nat.pow_succ, Nat.mul_comm (256 ^ n) 256, Nat.mod_mul]
    simp
    omega

theorem be_num (s : List UInt8) : be s.length (num s) = s := by
  refine snoc_ind (P := fun s => be s.length (num s) = s) rfl (fun s x ih => ?_) s
  have hx := x.toNat_lt
  simp only [Nat.reducePow] at hx
  rw [List.length_append, List.length_singleton, be_succ, num_snoc]
  have e1 : (num s * 256 + x.toNat) / 256 = num s := by omega
  have e2 : UInt8.ofNat (num s * 256 + x.toNat) = x := by
    apply UInt8.toNat_inj.1
    rw [UInt8.toNat_ofNat']
    simp only [Nat.reducePow]
    omega
  rw [e1, e2, ih]

theorem be_mod (n v : Nat) : be n (v % 256 ^ n) = be n v := by
  have h := be_num (be n v)
  rw [be_length, num_be] at h
  exact h

theorem be_inj {n v w : Nat} (hv : v < 256 ^ n) (hw : w < 256 ^ n) (h : be n v = be n w) : v = w := by
  have := congrArg num h
  rwa [num_be, num_be, Nat.mod_eq_of_lt hv, Nat.mod_eq_of_lt hw] at this

theorem num_inj {s t : List UInt8} (hl : s.length = t.length) (h : num s = num t) : s = t := by
  rw [← be_num s, ← be_num t, hl, h]

theorem be_cons (n v : Nat) : be (n + 1) v = UInt8.ofNat (v / 256 ^ n) :: be n v := by
  induction n generalizing v with
  | zero => simp [be]
  | succ n ih =>
    rw [be_succ (n + 1), ih, be_succ n v, List.cons_append, Nat.div_div_eq_div_mul, Nat.pow_succ, Nat.mul_comm 256]

/-- What stands in n bytes of which the lowest k are written. -/
def filled (n k v : Nat) : List UInt8 := List.replicate (n - k) 0 ++ be k v
theorem filled_zero (n v : Nat) : filled n 0 v = List.replicate n 0 := by simp [filled, be]
theorem filled_all (n v : Nat) : filled n n v = be n v := by simp [filled]
theorem filled_length (n k v : Nat) (h : k ≤ n) : (filled n k v).length = n := by simp [filled, be_length]; omega
theorem filled_step (n k v : Nat) (h : k < n) : (filled n k v).set (n - 1 - k) (UInt8.ofNat (v / 256 ^ k)) = filled n (k + 1) v := by
  unfold filled
  rw [be_cons, show n - k = (n - 1 - k) + 1 from by omega, List.replicate_succ', show n - (k + 1) = n - 1 - k from by omega]
  rw [List.append_assoc, List.set_append_right _ _ (by simp)]
  simp

theorem pow256 (n : Nat) : (2 : Nat) ^ (8 * n) = 256 ^ n := by rw [Nat.pow_mul]
theorem pow256_le {n : Nat} (h : n ≤ 8) : (256 : Nat) ^ n ≤ 18446744073709551616 := Nat.pow_le_pow_right (n := 256) (by omega) h

/-- Put's error, and its bytes. -/
def putE (v : Nat) (n : Int) : Int := if n < 1 ∨ 8 < n then 1 else if 256 ^ n.toNat ≤ v then 6 else 0
def putB (v : Nat) (n : Int) : List UInt8 := if putE v n = 0 then be n.toNat v else []
/-- Get's error, and its number. -/
def getE (l : Nat) (at_ n : Int) : Int := if n < 1 ∨ 8 < n ∨ at_ < 0 then 1 else if (l : Int) < at_ + n then 2 else 0
def getV (s : List UInt8) (at_ n : Int) : Nat := if getE s.length at_ n = 0 then num ((s.drop at_.toNat).take n.toNat) else 0
/-- Part's error, and its bytes. -/
def partE (l : Nat) (at_ n : Int) : Int := if n < 0 ∨ at_ < 0 then 1 else if (l : Int) < at_ + n then 2 else 0
def partB (s : List UInt8) (at_ n : Int) : List UInt8 := if partE s.length at_ n = 0 then (s.drop at_.toNat).take n.toNat else []

/-- Set's error, and its bytes. -/
def setE (l : Nat) (a n : Int) (v : Nat) : Int := if putE v n ≠ 0 then putE v n else if a < 0 then 1 else if (l : Int) < a + n then 2 else 0
def setB (s : List UInt8) (a n : Int) (v : Nat) : List UInt8 := if setE s.length a n v = 0 then s.take a.toNat ++ be n.toNat v ++ s.drop (a.toNat + n.toNat) else []

theorem putE_zero {v : Nat} {n : Int} (h : putE v n = 0) : 1 ≤ n ∧ n ≤ 8 ∧ v < 256 ^ n.toNat := by
  unfold putE at h
  split at h
  · cases h
  · split at h
    · cases h
    · omega

/-- The signed number that n bytes are. -/
def sgn (n v : Nat) : Int := if 2 * v < 256 ^ n then (v : Int) else (v : Int) - (256 ^ n : Nat)
/-- Signed's number. -/
def signedV (s : List UInt8) (a n : Int) : Int := if getE s.length a n = 0 then sgn n.toNat (num ((s.drop a.toNat).take n.toNat)) else 0
/-- The number that stands for a signed one. -/
def unsgn (n : Nat) (v : Int) : Nat := if 0 ≤ v then v.toNat else (v + (256 ^ n : Nat)).toNat
/-- PutSigned's error, and its bytes. -/
def putSE (v n : Int) : Int := if n < 1 ∨ 8 < n then 1 else if 2 * v < -((256 ^ n.toNat : Nat) : Int) ∨ ((256 ^ n.toNat : Nat) : Int) ≤ 2 * v then 6 else 0
def putSB (v n : Int) : List UInt8 := if putSE v n = 0 then be n.toNat (unsgn n.toNat v) else []

theorem pow_pos256 (n : Nat) : 0 < 256 ^ n := Nat.pow_pos (by omega)
theorem sgn_unsgn (n : Nat) (v : Int) (h1 : -((256 ^ n : Nat) : Int) ≤ 2 * v) (h2 : 2 * v < ((256 ^ n : Nat) : Int)) : sgn n (unsgn n v) = v ∧ unsgn n v < 256 ^ n := by
  have := pow_pos256 n
  unfold sgn unsgn
  generalize 256 ^ n = p at *
  split <;> split <;> omega
theorem unsgn_sgn (n v : Nat) (h : v < 256 ^ n) : unsgn n (sgn n v) = v ∧ -((256 ^ n : Nat) : Int) ≤ 2 * sgn n v ∧ 2 * sgn n v < ((256 ^ n : Nat) : Int) := by
  have := pow_pos256 n
  unfold unsgn sgn
  generalize 256 ^ n = p at *
  split <;> split <;> omega
theorem putSE_zero {v n : Int} (h : putSE v n = 0) : 1 ≤ n ∧ n ≤ 8 ∧ -((256 ^ n.toNat : Nat) : Int) ≤ 2 * v ∧ 2 * v < ((256 ^ n.toNat : Nat) : Int) := by
  unfold putSE at h
  split at h
  · cases h
  · split at h
    · cases h
    · omega
theorem getE_zero {l : Nat} {a n : Int} (h : getE l a n = 0) : 1 ≤ n ∧ n ≤ 8 ∧ 0 ≤ a ∧ a + n ≤ l := by
  unfold getE at h
  split at h
  · cases h
  · split at h
    · cases h
    · omega
theorem putE_yes {v n : Nat} (h1 : 1 ≤ n) (h2 : n ≤ 8) (hv : v < 256 ^ n) : putE v n = 0 ∧ putB v n = be n v := by
  have e1 : putE v n = 0 := by unfold putE; rw [if_neg (by omega), Int.toNat_natCast, if_neg (by omega)]
  exact ⟨e1, by unfold putB; rw [if_pos e1, Int.toNat_natCast]⟩
theorem putSE_yes {n : Nat} {v : Int} (h1 : 1 ≤ n) (h2 : n ≤ 8) (hv : -((256 ^ n : Nat) : Int) ≤ 2 * v) (hv2 : 2 * v < ((256 ^ n : Nat) : Int)) : putSE v n = 0 ∧ putSB v n = be n (unsgn n v) := by
  have e1 : putSE v n = 0 := by unfold putSE; rw [if_neg (by omega), Int.toNat_natCast, if_neg (by omega)]
  exact ⟨e1, by unfold putSB; rw [if_pos e1, Int.toNat_natCast]⟩
theorem getE_yes {l a n : Nat} (h1 : 1 ≤ n) (h2 : n ≤ 8) (h3 : a + n ≤ l) : getE l a n = 0 := by unfold getE; rw [if_neg (by omega), if_neg (by omega)]
theorem getV_yes {s : List UInt8} {a n : Nat} (h1 : 1 ≤ n) (h2 : n ≤ 8) (h3 : a + n ≤ s.length) : getV s a n = num ((s.drop a).take n) := by
  unfold getV; rw [if_pos (getE_yes h1 h2 h3), Int.toNat_natCast, Int.toNat_natCast]
theorem signedV_yes {s : List UInt8} {a n : Nat} (h1 : 1 ≤ n) (h2 : n ≤ 8) (h3 : a + n ≤ s.length) : signedV s a n = sgn n (num ((s.drop a).take n)) := by
  unfold signedV; rw [if_pos (getE_yes h1 h2 h3), Int.toNat_natCast, Int.toNat_natCast]
theorem window (b x y : List UInt8) : ((b ++ x ++ y).drop b.length).take x.length = x := by
  rw [List.append_assoc, List.drop_left, List.take_left]

/-- Bytes with others in the place of those from a on. -/
def splice (s : List UInt8) (a : Nat) (t : List UInt8) : List UInt8 := s.take a ++ t ++ s.drop (a + t.length)
theorem splice_length (s t : List UInt8) (a : Nat) (h : a + t.length ≤ s.length) : (splice s a t).length = s.length := by
  unfold splice; simp; omega
theorem splice_get (s t : List UInt8) (a i : Nat) (h : a + t.length ≤ s.length) :
    (splice s a t)[i]? = if i < a then s[i]? else if i < a + t.length then t[i - a]? else s[i]? := by
  unfold splice
  have hl : (s.take a).length = a := by simp; omega
  by_cases h1 : i < a
  · rw [if_pos h1, List.append_assoc, List.getElem?_append_left (by omega), List.getElem?_take_of_lt h1]
  · rw [if_neg h1, List.append_assoc, List.getElem?_append_right (by omega), hl]
    by_cases h2 : i < a + t.length
    · rw [if_pos h2, List.getElem?_append_left (by omega)]
    · rw [if_neg h2, List.getElem?_append_right (by omega), List.getElem?_drop]
      congr 1
      omega
theorem splice_same (s t : List UInt8) (a : Nat) (h : a + t.length ≤ s.length) (ht : (s.drop a).take t.length = t) : splice s a t = s := by
  apply List.ext_getElem?
  intro i
  rw [splice_get s t a i h]
  split
  · rfl
  · split
    · rw [← ht, List.getElem?_take_of_lt (by omega), List.getElem?_drop]
      congr 1
      omega
    · rfl
theorem splice_twice (s t r : List UInt8) (a : Nat) (h : a + t.length ≤ s.length) (hr : r.length = t.length) : splice (splice s a t) a r = splice s a r := by
  apply List.ext_getElem?
  intro i
  rw [splice_get _ r a i (by rw [splice_length s t a h]; omega), splice_get s t a i h, splice_get s r a i (by omega)]
  split
  · rfl
  · split
    · rfl
    · rw [if_neg (by omega)]
theorem splice_window (s t : List UInt8) (a : Nat) (h : a + t.length ≤ s.length) : ((splice s a t).drop a).take t.length = t := by
  unfold splice
  have hl : (s.take a).length = a := by simp; omega
  have := window (s.take a) t (s.drop (a + t.length))
  rwa [hl] at this
theorem splice_comm (s t r : List UInt8) (a b : Nat) (h : a + t.length ≤ s.length) (h2 : b + r.length ≤ s.length) (hd : a + t.length ≤ b ∨ b + r.length ≤ a) :
    splice (splice s a t) b r = splice (splice s b r) a t := by
  apply List.ext_getElem?
  intro i
  rw [splice_get _ r b i (by rw [splice_length s t a h]; exact h2), splice_get s t a i h, splice_get _ t a i (by rw [splice_length s r b h2]; exact h), splice_get s r b i h2]
  by_cases h3 : i < a <;> by_cases h4 : i < b <;> by_cases h5 : i < a + t.length <;> by_cases h6 : i < b + r.length <;> simp [h3, h4, h5, h6] <;> omega
theorem setB_yes {s : List UInt8} {a n v : Nat} (h : setE s.length a n v = 0) : setB s a n v = splice s a (be n v) := by
  unfold setB splice; rw [if_pos h, Int.toNat_natCast, Int.toNat_natCast, be_length]
theorem setE_zero {l : Nat} {a n : Int} {v : Nat} (h : setE l a n v = 0) : 1 ≤ n ∧ n ≤ 8 ∧ 0 ≤ a ∧ a + n ≤ l ∧ v < 256 ^ n.toNat := by
  unfold setE at h
  split at h
  · rename_i h'; exact absurd h h'
  · rename_i h'
    obtain ⟨h1, h2, h3⟩ := putE_zero (by simpa using h')
    split at h
    · cases h
    · split at h
      · cases h
      · omega
theorem setE_yes {l a n v : Nat} (h1 : 1 ≤ n) (h2 : n ≤ 8) (h3 : a + n ≤ l) (hv : v < 256 ^ n) : setE l a n v = 0 := by
  unfold setE; rw [if_neg (by rw [(putE_yes h1 h2 hv).1]; simp), if_neg (by omega), if_neg (by omega)]

theorem splice_step (s x : List UInt8) (a k : Nat) (hk : k < x.length) (h : a + x.length ≤ s.length) : (splice s a (x.take k)).set (a + k) (x.getD k 0) = splice s a (x.take (k + 1)) := by
  apply List.ext_getElem?
  intro i
  have l1 : (x.take k).length = k := by simp; omega
  have l2 : (x.take (k + 1)).length = k + 1 := by simp; omega
  rw [splice_get s (x.take (k + 1)) a i (by omega), List.getElem?_set, splice_length s (x.take k) a (by omega), splice_get s (x.take k) a i (by omega), l1, l2]
  by_cases h1 : a + k = i
  · subst h1
    rw [if_pos rfl, if_pos (by omega), if_neg (by omega), if_pos (by omega), Nat.add_sub_cancel_left, List.getElem?_take_of_lt (by omega), List.getD_eq_getElem?_getD, List.getElem?_eq_getElem hk]
    rfl
  · rw [if_neg h1]
    by_cases h2 : i < a
    · rw [if_pos h2, if_pos h2]
    · rw [if_neg h2, if_neg h2]
      by_cases h3 : i < a + k
      · rw [if_pos h3, if_pos (by omega), List.getElem?_take_of_lt (by omega), List.getElem?_take_of_lt (by omega)]
      · rw [if_neg h3, if_neg (by omega)]
theorem splice_nil (s : List UInt8) (a : Nat) : splice s a [] = s := by simp [splice]

end Go.Proofs.Ytbalpndgpdbcbaa

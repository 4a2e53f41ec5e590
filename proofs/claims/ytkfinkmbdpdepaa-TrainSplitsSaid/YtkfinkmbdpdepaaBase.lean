/-
  Low texts, joined: OctM, Mem, Int, Byte, Box, App, AppV, ByteZ, Str, Box8, Box12, Reg, Row, Slk, RefNum, HeadM, PadM, PackM, PackN, PackQ, PackC, PackT, HeadR, HeadR2, HeadR3, PadS, HeadC, OctA, OctB, OctC, OctP, OctJ, PadG.
-/
import GoSem.Claim
import Derived.WalkKit
import Derived.WalkSpells
import Derived.WalkLawsBesides
import Derived.Deep.Draws
import Derived.Lib.Hide
import Derived.StillTailTactics
import Derived.Laws.AppendOwnNone
import Derived.Deep.AppendLies
import Derived.Test.YtkfinkmbdpdepaaProg
import Derived.Laws.CopyOwn
import Derived.Maps.AppendAt
import Derived.Lib.AppendStr
import Derived.Laws.Strings
import Derived.Deep.RegionHeld3
import Derived.Deep.DeepCutAuto
import Derived.Deep.QuietTactic
import Derived.Deep.RegionLaw
import Derived.RegionTactic
import Derived.BigRegion
import Derived.ChangeAlike

/-
  Plain arithmetic of numbers in bytes, the highest byte first: the number of a list of bytes, the bytes of a number, and signed numbers.
-/
namespace Go.Proofs.Ytkfinkmbdpdepaa

/-- The number that bytes are, the highest first. -/
def num (s : List UInt8) : Nat := s.foldl (fun a x => a * 256 + x.toNat) 0
/-- The n bytes of v, the highest first. -/
def be : Nat → Nat → List UInt8
  | 0, _ => []
  | n + 1, v => be n (v / 256) ++ [UInt8.ofNat v]

theorem num_nil : num [] = 0 := rfl
theorem num_snoc (s : List UInt8) (x : UInt8) : num (s ++ [x]) = num s * 256 + x.toNat := by simp [num]
theorem be_zero (v : Nat) : be 0 v = [] := rfl
theorem be_succ (n v : Nat) : be (n + 1) v = be n (v / 256) ++ [UInt8.ofNat v] := rfl
theorem be_length : ∀ n v, (be n v).length = n
  | 0, _ => rfl
  | n + 1, v => by simp [be_succ, be_length n]

theorem snoc_ind {P : List UInt8 → Prop} (h0 : P []) (h1 : ∀ s x, P s → P (s ++ [x])) (s : List UInt8) : P s := by
  have : ∀ r : List UInt8, P r.reverse := by
    intro r
    induction r with
    | nil => exact h0
    | cons x r ih => rw [List.reverse_cons]; exact h1 _ _ ih
  simpa using this s.reverse

theorem num_lt (s : List UInt8) : num s < 256 ^ s.length := by
  refine snoc_ind (P := fun s => num s < 256 ^ s.length) (by simp [num]) (fun s x ih => ?_) s
  rw [num_snoc, List.length_append, List.length_singleton, Nat.pow_succ]
  have := x.toNat_lt
  simp only [Nat.reducePow] at this
  omega

theorem num_be (n v : Nat) : num (be n v) = v % 256 ^ n := by
  induction n generalizing v with
  | zero => simp [be_zero, num_nil, Nat.mod_one]
  | succ n ih =>
    rw [be_succ, num_snoc, ih, Nat.pow_succ, Nat.mul_comm (256 ^ n) 256, Nat.mod_mul]
    simp
    omega

theorem be_num (s : List UInt8) : be s.length (num s) = s := by
  refine snoc_ind (P := fun s => be s.length (num s) = s) rfl (fun s x ih => ?_) s
  have hx := x.toNat_lt
  simp only [Nat.reducePow] at hx
  rw [List.length_append, List.length_singleton, be_succ, num_snoc]
  have e1 : (num s * 256 + x.toNat) / 256 = num s := by omega
  have e2 : UInt8.ofNat (num s * 256 + x.toNat) = x := by
    apply UInt8.toNat_inj.1
    rw [UInt8.toNat_ofNat']
    simp only [Nat.reducePow]
    omega
  rw [e1, e2, ih]

theorem be_mod (n v : Nat) : be n (v % 256 ^ n) = be n v := by
  have h := be_num (be n v)
  rw [be_length, num_be] at h
  exact h

theorem be_inj {n v w : Nat} (hv : v < 256 ^ n) (hw : w < 256 ^ n) (h : be n v = be n w) : v = w := by
  have := congrArg num h
  rwa [num_be, num_be, Nat.mod_eq_of_lt hv, Nat.mod_eq_of_lt hw] at this

theorem num_inj {s t : List UInt8} (hl : s.length = t.length) (h : num s = num t) : s = t := by
  rw [← be_num s, ← be_num t, hl, h]

theorem be_cons (n v : Nat) : be (n + 1) v = UInt8.ofNat (v / 256 ^ n) :: be n v := by
  induction n generalizing v with
  | zero => simp [be]
  | succ n ih =>
    rw [be_succ (n + 1), ih, be_succ n v, List.cons_append, Nat.div_div_eq_div_mul, Nat.pow_succ, Nat.mul_comm 256]

/-- What stands in n bytes of which the lowest k are written. -/
def filled (n k v : Nat) : List UInt8 := List.replicate (n - k) 0 ++ be k v
theorem filled_zero (n v : Nat) : filled n 0 v = List.replicate n 0 := by simp [filled, be]
theorem filled_all (n v : Nat) : filled n n v = be n v := by simp [filled]
theorem filled_length (n k v : Nat) (h : k ≤ n) : (filled n k v).length = n := by simp [filled, be_length]; omega
theorem filled_step (n k v : Nat) (h : k < n) : (filled n k v).set (n - 1 - k) (UInt8.ofNat (v / 256 ^ k)) = filled n (k + 1) v := by
  unfold filled
  rw [be_cons, show n - k = (n - 1 - k) + 1 from by omega, List.replicate_succ', show n - (k + 1) = n - 1 - k from by omega]
  rw [List.append_assoc, List.set_append_right _ _ (by simp)]
  simp

theorem pow256 (n : Nat) : (2 : Nat) ^ (8 * n) = 256 ^ n := by rw [Nat.pow_mul]
theorem pow256_le {n : Nat} (h : n ≤ 8) : (256 : Nat) ^ n ≤ 18446744073709551616 := Nat.pow_le_pow_right (n := 256) (by omega) h

/-- Put's error, and its bytes. -/
def putE (v : Nat) (n : Int) : Int := if n < 1 ∨ 8 < n then 1 else if 256 ^ n.toNat ≤ v then 6 else 0
def putB (v : Nat) (n : Int) : List UInt8 := if putE v n = 0 then be n.toNat v else []
/-- Get's error, and its number. -/
def getE (l : Nat) (at_ n : Int) : Int := if n < 1 ∨ 8 < n ∨ at_ < 0 then 1 else if (l : Int) < at_ + n then 2 else 0
def getV (s : List UInt8) (at_ n : Int) : Nat := if getE s.length at_ n = 0 then num ((s.drop at_.toNat).take n.toNat) else 0
/-- Part's error, and its bytes. -/
def partE (l : Nat) (at_ n : Int) : Int := if n < 0 ∨ at_ < 0 then 1 else if (l : Int) < at_ + n then 2 else 0
def partB (s : List UInt8) (at_ n : Int) : List UInt8 := if partE s.length at_ n = 0 then (s.drop at_.toNat).take n.toNat else []

/-- Set's error, and its bytes. -/
def setE (l : Nat) (a n : Int) (v : Nat) : Int := if putE v n ≠ 0 then putE v n else if a < 0 then 1 else if (l : Int) < a + n then 2 else 0
def setB (s : List UInt8) (a n : Int) (v : Nat) : List UInt8 := if setE s.length a n v = 0 then s.take a.toNat ++ be n.toNat v ++ s.drop (a.toNat + n.toNat) else []

theorem putE_zero {v : Nat} {n : Int} (h : putE v n = 0) : 1 ≤ n ∧ n ≤ 8 ∧ v < 256 ^ n.toNat := by
  unfold putE at h
  split at h
  · cases h
  · split at h
    · cases h
    · omega

/-- The signed number that n bytes are. -/
def sgn (n v : Nat) : Int := if 2 * v < 256 ^ n then (v : Int) else (v : Int) - (256 ^ n : Nat)
/-- Signed's number. -/
def signedV (s : List UInt8) (a n : Int) : Int := if getE s.length a n = 0 then sgn n.toNat (num ((s.drop a.toNat).take n.toNat)) else 0
/-- The number that stands for a signed one. -/
def unsgn (n : Nat) (v : Int) : Nat := if 0 ≤ v then v.toNat else (v + (256 ^ n : Nat)).toNat
/-- PutSigned's error, and its bytes. -/
def putSE (v n : Int) : Int := if n < 1 ∨ 8 < n then 1 else if 2 * v < -((256 ^ n.toNat : Nat) : Int) ∨ ((256 ^ n.toNat : Nat) : Int) ≤ 2 * v then 6 else 0
def putSB (v n : Int) : List UInt8 := if putSE v n = 0 then be n.toNat (unsgn n.toNat v) else []

theorem pow_pos256 (n : Nat) : 0 < 256 ^ n := Nat.pow_pos (by omega)
theorem sgn_unsgn (n : Nat) (v : Int) (h1 : -((256 ^ n : Nat) : Int) ≤ 2 * v) (h2 : 2 * v < ((256 ^ n : Nat) : Int)) : sgn n (unsgn n v) = v ∧ unsgn n v < 256 ^ n := by
  have := pow_pos256 n
  unfold sgn unsgn
  generalize 256 ^ n = p at *
  split <;> split <;> omega
theorem unsgn_sgn (n v : Nat) (h : v < 256 ^ n) : unsgn n (sgn n v) = v ∧ -((256 ^ n : Nat) : Int) ≤ 2 * sgn n v ∧ 2 * sgn n v < ((256 ^ n : Nat) : Int) := by
  have := pow_pos256 n
  unfold unsgn sgn
  generalize 256 ^ n = p at *
  split <;> split <;> omega
theorem putSE_zero {v n : Int} (h : putSE v n = 0) : 1 ≤ n ∧ n ≤ 8 ∧ -((256 ^ n.toNat : Nat) : Int) ≤ 2 * v ∧ 2 * v < ((256 ^ n.toNat : Nat) : Int) := by
  unfold putSE at h
  split at h
  · cases h
  · split at h
    · cases h
    · omega
theorem getE_zero {l : Nat} {a n : Int} (h : getE l a n = 0) : 1 ≤ n ∧ n ≤ 8 ∧ 0 ≤ a ∧ a + n ≤ l := by
  unfold getE at h
  split at h
  · cases h
  · split at h
    · cases h
    · omega
theorem putE_yes {v n : Nat} (h1 : 1 ≤ n) (h2 : n ≤ 8) (hv : v < 256 ^ n) : putE v n = 0 ∧ putB v n = be n v := by
  have e1 : putE v n = 0 := by unfold putE; rw [if_neg (by omega), Int.toNat_natCast, if_neg (by omega)]
  exact ⟨e1, by unfold putB; rw [if_pos e1, Int.toNat_natCast]⟩
theorem putSE_yes {n : Nat} {v : Int} (h1 : 1 ≤ n) (h2 : n ≤ 8) (hv : -((256 ^ n : Nat) : Int) ≤ 2 * v) (hv2 : 2 * v < ((256 ^ n : Nat) : Int)) : putSE v n = 0 ∧ putSB v n = be n (unsgn n v) := by
  have e1 : putSE v n = 0 := by unfold putSE; rw [if_neg (by omega), Int.toNat_natCast, if_neg (by omega)]
  exact ⟨e1, by unfold putSB; rw [if_pos e1, Int.toNat_natCast]⟩
theorem getE_yes {l a n : Nat} (h1 : 1 ≤ n) (h2 : n ≤ 8) (h3 : a + n ≤ l) : getE l a n = 0 := by unfold getE; rw [if_neg (by omega), if_neg (by omega)]
theorem getV_yes {s : List UInt8} {a n : Nat} (h1 : 1 ≤ n) (h2 : n ≤ 8) (h3 : a + n ≤ s.length) : getV s a n = num ((s.drop a).take n) := by
  unfold getV; rw [if_pos (getE_yes h1 h2 h3), Int.toNat_natCast, Int.toNat_natCast]
theorem signedV_yes {s : List UInt8} {a n : Nat} (h1 : 1 ≤ n) (h2 : n ≤ 8) (h3 : a + n ≤ s.length) : signedV s a n = sgn n (num ((s.drop a).take n)) := by
  unfold signedV; rw [if_pos (getE_yes h1 h2 h3), Int.toNat_natCast, Int.toNat_natCast]
theorem window (b x y : List UInt8) : ((b ++ x ++ y).drop b.length).take x.length = x := by
  rw [List.append_assoc, List.drop_left, List.take_left]

/-- Bytes with others in the place of those from a on. -/
def splice (s : List UInt8) (a : Nat) (t : List UInt8) : List UInt8 := s.take a ++ t ++ s.drop (a + t.length)
theorem splice_length (s t : List UInt8) (a : Nat) (h : a + t.length ≤ s.length) : (splice s a t).length = s.length := by
  unfold splice; simp; omega
theorem splice_get (s t : List UInt8) (a i : Nat) (h : a + t.length ≤ s.length) :
    (splice s a t)[i]? = if i < a then s[i]? else if i < a + t.length then t[i - a]? else s[i]? := by
  unfold splice
  have hl : (s.take a).length = a := by simp; omega
  by_cases h1 : i < a
  · rw [if_pos h1, List.append_assoc, List.getElem?_append_left (by omega), List.getElem?_take_of_lt h1]
  · rw [if_neg h1, List.append_assoc, List.getElem?_append_right (by omega), hl]
    by_cases h2 : i < a + t.length
    · rw [if_pos h2, List.getElem?_append_left (by omega)]
    · rw [if_neg h2, List.getElem?_append_right (by omega), List.getElem?_drop]
      congr 1
      omega
theorem splice_same (s t : List UInt8) (a : Nat) (h : a + t.length ≤ s.length) (ht : (s.drop a).take t.length = t) : splice s a t = s := by
  apply List.ext_getElem?
  intro i
  rw [splice_get s t a i h]
  split
  · rfl
  · split
    · rw [← ht, List.getElem?_take_of_lt (by omega), List.getElem?_drop]
      congr 1
      omega
    · rfl
theorem splice_twice (s t r : List UInt8) (a : Nat) (h : a + t.length ≤ s.length) (hr : r.length = t.length) : splice (splice s a t) a r = splice s a r := by
  apply List.ext_getElem?
  intro i
  rw [splice_get _ r a i (by rw [splice_length s t a h]; omega), splice_get s t a i h, splice_get s r a i (by omega)]
  split
  · rfl
  · split
    · rfl
    · rw [if_neg (by omega)]
theorem splice_window (s t : List UInt8) (a : Nat) (h : a + t.length ≤ s.length) : ((splice s a t).drop a).take t.length = t := by
  unfold splice
  have hl : (s.take a).length = a := by simp; omega
  have := window (s.take a) t (s.drop (a + t.length))
  rwa [hl] at this
theorem splice_comm (s t r : List UInt8) (a b : Nat) (h : a + t.length ≤ s.length) (h2 : b + r.length ≤ s.length) (hd : a + t.length ≤ b ∨ b + r.length ≤ a) :
    splice (splice s a t) b r = splice (splice s b r) a t := by
  apply List.ext_getElem?
  intro i
  rw [splice_get _ r b i (by rw [splice_length s t a h]; exact h2), splice_get s t a i h, splice_get _ t a i (by rw [splice_length s r b h2]; exact h), splice_get s r b i h2]
  by_cases h3 : i < a <;> by_cases h4 : i < b <;> by_cases h5 : i < a + t.length <;> by_cases h6 : i < b + r.length <;> simp [h3, h4, h5, h6] <;> omega
theorem setB_yes {s : List UInt8} {a n v : Nat} (h : setE s.length a n v = 0) : setB s a n v = splice s a (be n v) := by
  unfold setB splice; rw [if_pos h, Int.toNat_natCast, Int.toNat_natCast, be_length]
theorem setE_zero {l : Nat} {a n : Int} {v : Nat} (h : setE l a n v = 0) : 1 ≤ n ∧ n ≤ 8 ∧ 0 ≤ a ∧ a + n ≤ l ∧ v < 256 ^ n.toNat := by
  unfold setE at h
  split at h
  · rename_i h'; exact absurd h h'
  · rename_i h'
    obtain ⟨h1, h2, h3⟩ := putE_zero (by simpa using h')
    split at h
    · cases h
    · split at h
      · cases h
      · omega
theorem setE_yes {l a n v : Nat} (h1 : 1 ≤ n) (h2 : n ≤ 8) (h3 : a + n ≤ l) (hv : v < 256 ^ n) : setE l a n v = 0 := by
  unfold setE; rw [if_neg (by rw [(putE_yes h1 h2 hv).1]; simp), if_neg (by omega), if_neg (by omega)]

theorem splice_step (s x : List UInt8) (a k : Nat) (hk : k < x.length) (h : a + x.length ≤ s.length) : (splice s a (x.take k)).set (a + k) (x.getD k 0) = splice s a (x.take (k + 1)) := by
  apply List.ext_getElem?
  intro i
  have l1 : (x.take k).length = k := by simp; omega
  have l2 : (x.take (k + 1)).length = k + 1 := by simp; omega
  rw [splice_get s (x.take (k + 1)) a i (by omega), List.getElem?_set, splice_length s (x.take k) a (by omega), splice_get s (x.take k) a i (by omega), l1, l2]
  by_cases h1 : a + k = i
  · subst h1
    rw [if_pos rfl, if_pos (by omega), if_neg (by omega), if_pos (by omega), Nat.add_sub_cancel_left, List.getElem?_take_of_lt (by omega), List.getD_eq_getElem?_getD, List.getElem?_eq_getElem hk]
    rfl
  · rw [if_neg h1]
    by_cases h2 : i < a
    · rw [if_pos h2, if_pos h2]
    · rw [if_neg h2, if_neg h2]
      by_cases h3 : i < a + k
      · rw [if_pos h3, if_pos (by omega), List.getElem?_take_of_lt (by omega), List.getElem?_take_of_lt (by omega)]
      · rw [if_neg h3, if_neg (by omega)]
theorem splice_nil (s : List UInt8) (a : Nat) : splice s a [] = s := by simp [splice]

end Go.Proofs.Ytkfinkmbdpdepaa

/-
  Slices in memory, read as lists: a slice value whose first n cells hold a list of values; the same for bytes. Nothing here speaks of a program.
-/
namespace Go.Proofs.Ytkfinkmbdpdepaa
open Go.RowKit

/-- The slice value with address A, length n and capacity c holds the values xs (one cell each). -/
def Sl (w : World) (A : Option Addr) (n c : Nat) (xs : List Value) : Prop :=
  xs.length = n ∧ n ≤ c ∧ c ≤ maxLen ∧ (A = none → c = 0) ∧ (0 < n → ∃ b o, A = some ⟨b, o, none⟩ ∧ ∀ i x, xs[i]? = some x → w.cell? ⟨b, o + i, none⟩ = some x)

section
variable {w w' : World} {A : Option Addr} {n c : Nat} {xs : List Value}
theorem Sl.len (h : Sl w A n c xs) : xs.length = n := h.1
theorem Sl.le (h : Sl w A n c xs) : n ≤ c := h.2.1
theorem Sl.cap (h : Sl w A n c xs) : c ≤ maxLen := h.2.2.1
theorem Sl.at_ (h : Sl w A n c xs) (hn : 0 < n) : ∃ b o, A = some ⟨b, o, none⟩ ∧ b < w.heap.size ∧ ∀ i x, xs[i]? = some x → w.cell? ⟨b, o + i, none⟩ = some x := by
  obtain ⟨b, o, hA, hc⟩ := h.2.2.2.2 hn
  have hx : 0 < xs.length := by rw [h.1]; exact hn
  have h0 := hc 0 _ (List.getElem?_eq_getElem hx)
  exact ⟨b, o, hA, World.block_lt_of_cell? _ _ h0, hc⟩
theorem Sl.none_ (h : Sl w A n c xs) : A = none → c = 0 := h.2.2.2.1
theorem Sl.nil (w : World) : Sl w none 0 0 [] := ⟨rfl, Nat.zero_le _, Nat.zero_le _, fun _ => rfl, fun h => absurd h (by omega)⟩
theorem Sl.keep (h : Sl w A n c xs) (hk : ∀ p : Addr, p.block < w.heap.size → w'.cell? p = w.cell? p) : Sl w' A n c xs := by
  refine ⟨h.1, h.2.1, h.2.2.1, h.2.2.2.1, fun hn => ?_⟩
  obtain ⟨b, o, hA, hlt, hc⟩ := h.at_ hn
  exact ⟨b, o, hA, fun i x hx => (hk ⟨b, o + i, none⟩ hlt).trans (hc i x hx)⟩
theorem Sl.below (h : Sl w A n c xs) (hb : Below w.heap.size w w') : Sl w' A n c xs := h.keep fun _ hp => hb.cell hp
theorem Sl.drewN (h : Sl w A n c xs) (k : Nat) : Sl (w.drewN k) A n c xs := h
theorem Sl.alloc (h : Sl w A n c xs) (o : Obj) : Sl (w.alloc o) A n c xs := h.below ((Below.refl _ _).alloc (Nat.le_refl _) o)
/-- The part of a slice from l to r. -/
theorem Sl.cut (h : Sl w A n c xs) {l r : Nat} (hl : l ≤ r) (hr : r ≤ n) :
    Sl w (if c = l then A else A.map (·.add l)) (r - l) (c - l) ((xs.drop l).take (r - l)) := by
  have h1 := h.1
  have h2 := h.2.1
  have h3 := h.2.2.1
  have h4 := h.none_
  refine ⟨by simp; omega, by omega, by omega, fun hA => ?_, fun hn => ?_⟩
  · split at hA
    · omega
    · rw [Option.map_eq_none_iff] at hA
      have := h4 hA
      omega
  obtain ⟨b, o, hA, _, hc⟩ := h.at_ (by omega)
  subst hA
  refine ⟨b, o + l, ?_, fun i x hx => ?_⟩
  · rw [if_neg (by omega)]
    simp [Addr.add]
  · rw [List.getElem?_take] at hx
    split at hx
    · rw [List.getElem?_drop] at hx
      rw [Nat.add_assoc]
      exact hc _ _ hx
    · cases hx
theorem Sl.cells (h : Sl w A n c xs) {b o : Nat} (hA : A = some ⟨b, o, none⟩) : ∀ i, (hi : i < xs.length) → w.cell? ⟨b, o + i, none⟩ = some xs[i] := by
  intro i hi
  obtain ⟨b', o', hA', _, hc⟩ := h.at_ (by have := h.1; omega)
  rw [hA] at hA'
  injection hA' with e
  injection e with e1 e2
  subst e1; subst e2
  exact hc i _ (List.getElem?_eq_getElem hi)
theorem add_plain' (b o j : Nat) : (⟨b, o, none⟩ : Addr).add j = ⟨b, o + j, none⟩ := by unfold Addr.add; split <;> simp_all
/-- The cells where an append looks for them. -/
theorem Sl.added (h : Sl w A n c xs) : ∀ ad, A = some ad → ∀ j u, xs[j]? = some u → w.cell? (ad.add j) = some u := by
  intro ad hA j u hu
  have hj : j < xs.length := (List.getElem?_eq_some_iff.1 hu).1
  obtain ⟨b, o, hA', _, hc⟩ := h.at_ (by have := h.1; omega)
  rw [hA] at hA'
  injection hA' with e
  rw [e, add_plain']
  exact hc j u hu
theorem Sl.nothing (h : Sl w A n c xs) : A = none → n = 0 ∧ c = 0 := fun hA => by
  have := h.none_ hA
  have := h.le
  omega
/-- What a call owns, read as a slice. -/
theorem Sl.of_own {base : Nat} {e : TypeId} (h : w.ownsRow base e 1 (.slice A n c) n xs) : Sl w A n c xs := by
  obtain ⟨hl, h2⟩ := h
  rcases h2 with ⟨h3, h4⟩ | ⟨g, cap, cur, hv, hb, hg, hnc, hcm, hs, ht⟩
  · injection h3 with e1 e2 e3
    subst e1; subst e2; subst e3
    have : xs = [] := List.eq_nil_of_length_eq_zero (by omega)
    subst this
    exact Sl.nil w
  · injection hv with e1 e2 e3
    subst e1; subst e3
    refine ⟨by omega, hnc, hcm, (fun h => by cases h), fun _ => ⟨g, 0, rfl, fun i x hx => ?_⟩⟩
    rw [Nat.zero_add, cell_of_row w g i cur e (0, 0) hg]
    rw [← ht, List.getElem?_take] at hx
    split at hx
    · simpa using hx
    · cases hx
end

/-- A slice that was just written out. -/
theorem Sl.lit (w : World) (vs : List Value) (t : TypeId) (hm : vs.length ≤ maxLen) : Sl (w.alloc (.cells vs.toArray t)) (some ⟨w.heap.size, 0, none⟩) vs.length vs.length vs := by
  refine ⟨rfl, Nat.le_refl _, hm, (fun h => by cases h), fun _ => ⟨w.heap.size, 0, rfl, fun i x hx => ?_⟩⟩
  rw [Nat.zero_add, World.cell?_alloc_at _ _ _ _ rfl]
  simpa using hx

/-- A byte as a value. -/
def byteV (x : UInt8) : Value := .int .u8 (x.toNat : Int)
theorem byteV_ofNat (q : Nat) : byteV (UInt8.ofNat q) = .int .u8 ((q : Int) % 256) := by
  unfold byteV
  rw [UInt8.toNat_ofNat']
  simp
/-- The slice value holds the bytes s. -/
def Bs (w : World) (A : Option Addr) (n c : Nat) (s : List UInt8) : Prop := Sl w A n c (s.map byteV)

section
variable {w w' : World} {A : Option Addr} {n c : Nat} {s : List UInt8}
theorem Bs.len (h : Bs w A n c s) : s.length = n := by simpa using Sl.len h
theorem Bs.le (h : Bs w A n c s) : n ≤ c := Sl.le h
theorem Bs.cap (h : Bs w A n c s) : c ≤ maxLen := Sl.cap h
theorem Bs.nil (w : World) : Bs w none 0 0 [] := Sl.nil w
theorem Bs.below (h : Bs w A n c s) (hb : Below w.heap.size w w') : Bs w' A n c s := Sl.below h hb
theorem Bs.alloc (h : Bs w A n c s) (o : Obj) : Bs (w.alloc o) A n c s := Sl.alloc h o
theorem Bs.drewN (h : Bs w A n c s) (k : Nat) : Bs (w.drewN k) A n c s := h
theorem Bs.drew (h : Bs w A n c s) : Bs w.drew A n c s := h
theorem Bs.at_ (h : Bs w A n c s) (hn : 0 < n) : ∃ b o, A = some ⟨b, o, none⟩ ∧ b < w.heap.size ∧ ∀ i, i < n → w.cell? ⟨b, o + i, none⟩ = some (.int .u8 ((s.getD i 0).toNat : Int)) := by
  obtain ⟨b, o, hA, hlt, hc⟩ := Sl.at_ h hn
  have hl := h.len
  refine ⟨b, o, hA, hlt, fun i hi => hc i _ ?_⟩
  rw [List.getElem?_map, List.getElem?_eq_getElem (by omega), List.getD_eq_getElem?_getD, List.getElem?_eq_getElem (by omega)]
  rfl
theorem Bs.cut (h : Bs w A n c s) {l r : Nat} (hl : l ≤ r) (hr : r ≤ n) :
    Bs w (if c = l then A else A.map (·.add l)) (r - l) (c - l) ((s.drop l).take (r - l)) := by
  have := Sl.cut h hl hr
  rwa [← List.map_drop, ← List.map_take] at this
theorem byte_getD_lt (s : List UInt8) (i : Nat) : (s.getD i 0).toNat < 256 := (s.getD i 0).toNat_lt
theorem Bs.of_cells {b o : Nat} (hl : s.length = n) (hn : n ≤ c) (hc : c ≤ maxLen) (h : ∀ i, (hi : i < s.length) → w.cell? ⟨b, o + i, none⟩ = some (byteV s[i])) : Bs w (some ⟨b, o, none⟩) n c s := by
  refine ⟨by simpa using hl, hn, hc, (fun h => by cases h), fun _ => ⟨b, o, rfl, fun i x hx => ?_⟩⟩
  rw [List.getElem?_map] at hx
  cases hi : s[i]? with
  | none => rw [hi] at hx; cases hx
  | some y =>
    rw [hi] at hx
    obtain ⟨hlt, rfl⟩ := List.getElem?_eq_some_iff.1 hi
    have := h i hlt
    simp only [Option.map_some, Option.some.injEq] at hx
    rw [this, hx]
end

/-- A slice of bytes: where it lies, how long it is, its room, its bytes. -/
structure Part where
  A : Option Addr
  n : Nat
  c : Nat
  s : List UInt8
def Part.v (p : Part) : Value := .slice p.A p.n p.c
/-- The slice value holds slices of bytes. -/
def Bss (w : World) (A : Option Addr) (l c : Nat) (ps : List Part) : Prop := Sl w A l c (ps.map Part.v) ∧ ∀ p ∈ ps, Bs w p.A p.n p.c p.s
theorem Bss.below {w w' : World} {A : Option Addr} {l c : Nat} {ps : List Part} (h : Bss w A l c ps) (hb : Below w.heap.size w w') : Bss w' A l c ps :=
  ⟨h.1.below hb, fun p hp => (h.2 p hp).below hb⟩
theorem Bss.lit {w : World} (ps : List Part) (t : TypeId) (hm : ps.length ≤ maxLen) (h : ∀ p ∈ ps, Bs w p.A p.n p.c p.s) : Bss (w.alloc (.cells (ps.map Part.v).toArray t)) (some ⟨w.heap.size, 0, none⟩) ps.length ps.length ps := by
  have := Sl.lit w (ps.map Part.v) t (by simpa using hm)
  rw [List.length_map] at this
  exact ⟨this, fun p hp => (h p hp).alloc _⟩
theorem bytes_oneCell (s : List UInt8) : ∀ u ∈ s.map byteV, u.oneCell' = true := by
  intro u hu
  obtain ⟨x, _, rfl⟩ := List.mem_map.1 hu
  rfl
/-- How many bytes slices have together. -/
def total (ps : List Part) : Nat := (ps.map Part.n).sum
theorem total_take_le (ps : List Part) (k : Nat) : total (ps.take k) ≤ total ps := by
  have : ps = ps.take k ++ ps.drop k := (List.take_append_drop k ps).symm
  conv => rhs; rw [this]
  unfold total
  rw [List.map_append, List.sum_append]
  omega
theorem total_succ (ps : List Part) (k : Nat) (h : k < ps.length) : total (ps.take (k + 1)) = total (ps.take k) + ps[k].n := by
  unfold total
  rw [List.take_succ_eq_append_getElem h, List.map_append, List.sum_append]; rfl
/-- The bytes of slices, one behind the other. -/
def joined (ps : List Part) : List UInt8 := (ps.map Part.s).flatten
theorem joined_succ (ps : List Part) (k : Nat) (h : k < ps.length) : joined (ps.take (k + 1)) = joined (ps.take k) ++ ps[k].s := by
  unfold joined
  rw [List.take_succ_eq_append_getElem h, List.map_append, List.flatten_append, List.map_singleton, List.flatten_singleton]
theorem joined_length {ps : List Part} (h : ∀ p ∈ ps, p.s.length = p.n) : (joined ps).length = total ps := by
  induction ps with
  | nil => rfl
  | cons p ps ih =>
    have h1 := h p (by simp)
    have h2 := ih (fun q hq => h q (by simp [hq]))
    simp only [joined, total, List.map_cons, List.flatten_cons, List.length_append, List.sum_cons] at *
    omega

/-- The slice value is a row of the call's own (blocks from base on), of type e, and holds the bytes s. -/
def Own (w : World) (base : Nat) (e : TypeId) (A : Option Addr) (n c : Nat) (s : List UInt8) : Prop := w.ownsRow base e 1 (.slice A n c) n (s.map byteV)
section
variable {w w' : World} {A : Option Addr} {base n c : Nat} {e : TypeId} {s : List UInt8}
theorem Own.bs (h : Own w base e A n c s) : Bs w A n c s := Sl.of_own h
theorem Own.len (h : Own w base e A n c s) : s.length = n := h.bs.len
theorem Own.mono {base' : Nat} (h : Own w base e A n c s) (hb : base' ≤ base) : Own w base' e A n c s := by
  obtain ⟨h1, h2⟩ := h
  refine ⟨h1, ?_⟩
  rcases h2 with h2 | ⟨g, cap, cur, hv, hg, r⟩
  · exact .inl h2
  · exact .inr ⟨g, cap, cur, hv, by omega, r⟩
theorem Own.below (h : Own w base e A n c s) (hb : Below w.heap.size w w') : Own w' base e A n c s := by
  obtain ⟨h1, h2⟩ := h
  refine ⟨h1, ?_⟩
  rcases h2 with h2 | ⟨g, cap, cur, hv, hg, hh, r⟩
  · exact .inl h2
  · exact .inr ⟨g, cap, cur, hv, hg, (hb.block g (lt_of_block hh)).trans hh, r⟩
theorem Own.form (h : Own w base e A n c s) (hn : 0 < n) : ∃ g, A = some ⟨g, 0, none⟩ ∧ base ≤ g ∧ g < w.heap.size := by
  obtain ⟨g, cap, hv, hb, hlt⟩ := World.ownsRow.form h hn
  injection hv with e1
  exact ⟨g, e1, hb, hlt⟩
/-- A byte of an own row is written. -/
theorem Own.store {g cap j : Nat} {x : UInt8} (h : Own w base e (some ⟨g, 0, none⟩) n cap s) (hj : j < n) :
    (∃ u, w.cell? ⟨g, j, none⟩ = some u) ∧ w.frozen? ⟨g, j, none⟩ = false ∧ Own (w.setCell ⟨g, j, none⟩ (byteV x)) base e (some ⟨g, 0, none⟩) n cap (s.set j x) := by
  have hl := h.len
  refine ⟨⟨byteV (s[j]'(by omega)), ?_⟩, World.ownsRow.frozenAt h j, ?_⟩
  · rw [World.ownsRow.cellAt h j (by omega), List.getElem?_map, List.getElem?_eq_getElem (by omega)]; rfl
  · have := (World.ownsRow.stored h j (byteV x)).1
    unfold Own
    rwa [List.map_set]
theorem Own.nil (w : World) (base : Nat) (e : TypeId) : Own w base e none 0 0 [] := World.ownsRow_nil _ _ _ _
end

/-- An own row's value, taken apart. -/
theorem own_form {w : World} {base : Nat} {e : TypeId} {v : Value} {n : Nat} {s : List UInt8} (h : w.ownsRow base e 1 v n (s.map byteV)) : ∃ A c, v = .slice A n c ∧ Own w base e A n c s := by
  obtain ⟨h1, h2⟩ := h
  rcases h2 with ⟨rfl, h3⟩ | ⟨g, cap, cur, rfl, r⟩
  · subst h3
    exact ⟨none, 0, rfl, h1, .inl ⟨rfl, rfl⟩⟩
  · exact ⟨some ⟨g, 0, none⟩, cap, rfl, h1, .inr ⟨g, cap, cur, rfl, r⟩⟩
/-- 'append(out, x...)': out a row of the call's own (or nil), x any slice of bytes (nil, empty or not). -/
theorem wpList_app {P : Program} (w : World) {ops : Array Oper} {rest : List Oper} {o : Oper} {a : Act} {Q : Exit → Act → World → Prop} (hgd : o.guard = none) (s x : Operand) (t : TypeId)
    (ho : o.op = .call { callee := .builtin .append, args := #[s, x], argTypes := #[t, t] })
    (base : Nat) (e : TypeId) (ht : P.underlying t = some (.slice e)) (hinfo : (P.info? e).map (fun i => (i.zero, i.size, i.bytes)) = some (some (.int .u8 0), 1, 1))
    (A : Option Addr) (n c : Nat) (S : List UInt8) (hs : a.eval s = .slice A n c) (hown : Own w base e A n c S)
    (B : Option Addr) (m d : Nat) (T : List UInt8) (hx : a.eval x = .slice B m d) (hT : Bs w B m d T) (hb : n + m ≤ 140737488355328) (hbase : base ≤ w.heap.size)
    (h : ∀ A' c' w', Own w' base e A' (n + m) c' (S ++ T) → Below base w w' → wpList P ops Q rest (a.put o.dst (.slice A' (n + m) c')) w') : wpList P ops Q (o :: rest) a w := by
  obtain ⟨i, hi, hz, hz1, hz2⟩ := info_parts hinfo
  cases B with
  | none =>
    obtain ⟨rfl, rfl⟩ := Sl.nothing hT rfl
    have hT0 : T = [] := List.eq_nil_of_length_eq_zero hT.len
    subst hT0
    refine wpList_append_own_none hgd s x t ho base e i 1 ht hi _ n _ hs hown hx ?_
    have := h A c w (by simpa using hown) (Below.refl _ _)
    simpa using this
  | some ad =>
    refine wpList_append_own w hgd s x t ho base e i (.int .u8 0) 1 1 ht hi hz hz1 hz2 rfl (by omega) _ n _ hs hown ad m d (T.map byteV) hx (by rw [List.length_map, hT.len, Nat.mul_one]) (Sl.added hT ad rfl) (bytes_oneCell T)
      (by simp only [maxLen]; omega) (by omega) hbase ?_
    intro v' w' hown' hg _
    rw [← List.map_append] at hown'
    obtain ⟨A', c', rfl, hO⟩ := own_form hown'
    exact h A' c' w' hO ((Below.refl _ _).grown hg hbase fun k hk => (World.ownsRow.lt hown k hk).1)

/-- What a call hands back: new bytes. -/
def GivesB (w : World) (e : TypeId) (s : List UInt8) (x : Ending) (w' : World) : Prop :=
  ∃ A c, x = .returned (.slice A s.length c) ∧ Own w' w.heap.size e A s.length c s ∧ Below w.heap.size w w'
/-- What a call hands back: new bytes, and the number of an error. -/
def GivesBE (w : World) (e : TypeId) (s : List UInt8) (err : Int) (x : Ending) (w' : World) : Prop :=
  ∃ A c, x = .returned (.tuple #[.slice A s.length c, .int .i64 err]) ∧ Own w' w.heap.size e A s.length c s ∧ Below w.heap.size w w'
theorem GivesBE.none_ (w : World) (e : TypeId) (err : Int) : GivesBE w e [] err (.returned (.tuple #[.slice none 0 0, .int .i64 err])) w :=
  ⟨none, 0, rfl, Own.nil _ _ _, Below.refl _ _⟩

theorem run_size_one {P : Program} {e : TypeId} {z : Value} {bytes : Nat} (h : (P.info? e).map (fun i => (i.zero, i.size, i.bytes)) = some (some z, 1, bytes)) (w : World) : (Go.sizeOf e).run P w = .ok 1 w := by
  obtain ⟨i, hi, hzz⟩ := Option.map_eq_some_iff.1 h
  simp only [Prod.mk.injEq] at hzz
  simp [sizeOf, typeInfo, hi, hzz.2.1]
/-- The part of a slice between two places, as one value: for the walk to take as an equation. -/
theorem Bs.slice_lr {P : Program} {t e : TypeId} (ht : P.underlying t = some (.slice e)) (hz : ∀ w, (Go.sizeOf e).run P w = .ok 1 w) {w : World} {A : Option Addr} {l c : Nat} {s : List UInt8} (h : Bs w A l c s)
    {a r : Nat} (ha : a ≤ r) (hr : r ≤ l) :
    ∃ A' c', (∀ W lo hi, lo = (a : Int) → hi = (r : Int) → (Instr.slice t (.slice A l c) (some (.int .i64 lo)) (some (.int .i64 hi)) none).run P W = .ok (.slice A' (r - a) c') W) ∧ Bs w A' (r - a) c' ((s.drop a).take (r - a)) := by
  have ht' : P.underlying t = some (.slice (P.elem t)) := by simp [Program.elem, ht]
  have he : P.elem t = e := by simp [Program.elem, ht]
  have hlc := h.le
  refine ⟨_, _, fun W lo hi e1 e2 => ?_, h.cut ha hr⟩
  subst e1 e2
  rw [run_slice_lh W t A l c ht' .i64 .i64 _ _ (by omega) (by omega) (by omega), he, hz]
  simp [Result.andThen, sliced]
theorem Bs.slice_r {P : Program} {t e : TypeId} (ht : P.underlying t = some (.slice e)) (hz : ∀ w, (Go.sizeOf e).run P w = .ok 1 w) {w : World} {A : Option Addr} {l c : Nat} {s : List UInt8} (h : Bs w A l c s)
    {r : Nat} (hr : r ≤ l) :
    ∃ A' c', (∀ W hi, hi = (r : Int) → (Instr.slice t (.slice A l c) none (some (.int .i64 hi)) none).run P W = .ok (.slice A' r c') W) ∧ Bs w A' r c' (s.take r) := by
  have ht' : P.underlying t = some (.slice (P.elem t)) := by simp [Program.elem, ht]
  have he : P.elem t = e := by simp [Program.elem, ht]
  have hlc := h.le
  have hcut := h.cut (l := 0) (r := r) (Nat.zero_le _) hr
  rw [Nat.sub_zero, Nat.sub_zero, List.drop_zero] at hcut
  refine ⟨_, _, fun W hi e2 => ?_, hcut⟩
  subst e2
  rw [run_slice_h W t A l c ht' .i64 _ (by omega) (by omega), he, hz]
  simp [Result.andThen, sliced]
theorem Bs.slice_l {P : Program} {t e : TypeId} (ht : P.underlying t = some (.slice e)) (hz : ∀ w, (Go.sizeOf e).run P w = .ok 1 w) {w : World} {A : Option Addr} {l c : Nat} {s : List UInt8} (h : Bs w A l c s)
    {a : Nat} (ha : a ≤ l) :
    ∃ A' c', (∀ W lo, lo = (a : Int) → (Instr.slice t (.slice A l c) (some (.int .i64 lo)) none none).run P W = .ok (.slice A' (l - a) c') W) ∧ Bs w A' (l - a) c' (s.drop a) := by
  have ht' : P.underlying t = some (.slice (P.elem t)) := by simp [Program.elem, ht]
  have he : P.elem t = e := by simp [Program.elem, ht]
  have hlc := h.le
  have hcut := h.cut (l := a) (r := l) ha (Nat.le_refl _)
  rw [List.take_of_length_le (by simp [h.len])] at hcut
  refine ⟨_, _, fun W lo e2 => ?_, hcut⟩
  subst e2
  rw [run_slice_l W t A l c ht' .i64 _ (by omega) (by omega), he, hz]
  simp [Result.andThen, sliced]

/-- A slice of bytes as a string. -/
theorem run_string_of {P : Program} (w : World) (src e dst : TypeId) (hs : P.underlying src = some (.slice e)) (he : P.underlying e = some (.int .u8)) (hd : P.underlying dst = some .string)
    {A : Option Addr} {n c : Nat} {s : List UInt8} (h : Bs w A n c s) : (convert src dst (.slice A n c)).run P w = .ok (.string ⟨s.toArray⟩) w := by
  have hl := h.len
  rcases Nat.eq_zero_or_pos n with h0 | h0
  · subst h0
    have : s = [] := List.eq_nil_of_length_eq_zero hl
    subst this
    rw [run_convert_bytes_string w src dst e A 0 c hs he hd]
    cases A with
    | none => simp [Conv.bytesToString]; rfl
    | some a => rw [run_bytesToString w a 0 c [] (by simp [loadCells, loadCellsFrom])]; rfl
  · obtain ⟨b, o, rfl, _, hc⟩ := h.at_ h0
    rw [run_convert_bytes_arg (P := P) w src e hs he b o n c (s.map fun x => (x.toNat : Int)) (by simpa using hl) (fun i hi => by
      rw [hc i hi]
      simp [List.getD]
      rw [List.getElem?_eq_getElem (by omega)]; rfl) dst hd]
    congr 2
    simp [strOfNums, Function.comp_def]

/-- Where a slice of bytes is behind further blocks. -/
theorem Bs.rename {w : World} {A B : Option Addr} {n m c d : Nat} {s t : List UInt8} (h : Bs w A n c s) (e1 : A = B) (e2 : n = m) (e3 : c = d) (e4 : s = t) : Bs w B m d t := by subst e1 e2 e3 e4; exact h

end Go.Proofs.Ytkfinkmbdpdepaa

/-
  Arithmetic of the integer kinds as the walk writes it: bounds, wraps, masks and shifts.
-/
namespace Go.Proofs.Ytkfinkmbdpdepaa
open Go.RowKit

theorem bound_i64 {n : Int} (h : (Lit.int .i64 n).wf = true) : -9223372036854775808 ≤ n ∧ n ≤ 9223372036854775807 := by
  have h1 : IntKind.i64.min = -9223372036854775808 := rfl
  have h2 : IntKind.i64.max = 9223372036854775807 := rfl
  simp only [Lit.wf, Bool.and_eq_true, decide_eq_true_eq] at h
  omega
theorem bound_u64 {n : Int} (h : (Lit.int .u64 n).wf = true) : 0 ≤ n ∧ n ≤ 18446744073709551615 := by
  have h1 : IntKind.u64.min = 0 := rfl
  have h2 : IntKind.u64.max = 18446744073709551615 := rfl
  simp only [Lit.wf, Bool.and_eq_true, decide_eq_true_eq] at h
  omega

theorem wrap_u64_nat (v : Nat) : IntKind.u64.wrap (v : Int) = ((v % 18446744073709551616 : Nat) : Int) := by
  rw [IntKind.wrap_u64]; omega
/-- A number moved up by a byte, with a byte below. -/
theorem shift_or (v q : Nat) (hv : v < 72057594037927936) (hq : q < 256) :
    bits .or .u64 (IntKind.u64.wrap ((v : Int) * 256)) (q : Int) = ((v * 256 + q : Nat) : Int) := by
  have e : IntKind.u64.wrap ((v : Int) * 256) = ((v * 256 : Nat) : Int) := by rw [IntKind.wrap_u64]; omega
  rw [e, u64_or_nat _ _ (by omega) (by omega), nat_join 8 _ _ (by simp) (by simpa using hq)]

theorem one_to_eight {n : Nat} (h1 : 1 ≤ n) (h2 : n ≤ 8) : n = 1 ∨ n = 2 ∨ n = 3 ∨ n = 4 ∨ n = 5 ∨ n = 6 ∨ n = 7 ∨ n = 8 := by omega
/-- A signed number, drawn down from the top. -/
theorem signed_eq (n v : Nat) (h1 : 1 ≤ n) (h2 : n ≤ 8) (hv : v < 256 ^ n) : wrap64 (IntKind.u64.wrap ((v : Int) * 2 ^ (64 - 8 * n))) / 2 ^ (64 - 8 * n) = sgn n v := by
  rw [IntKind.wrap_u64]
  unfold wrap64 sgn
  rcases one_to_eight h1 h2 with rfl | rfl | rfl | rfl | rfl | rfl | rfl | rfl <;> simp only [Nat.reducePow, Nat.reduceMul, Nat.reduceSub, Int.reducePow] at * <;> split <;> omega
/-- Which signed numbers fit n bytes. -/
theorem signed_fits (n : Nat) (v : Int) (h1 : 1 ≤ n) (h2 : n ≤ 8) :
    (v / 2 ^ (8 * n - 1) = 0 ↔ 0 ≤ v ∧ 2 * v < ((256 ^ n : Nat) : Int)) ∧ (v / 2 ^ (8 * n - 1) = -1 ↔ v < 0 ∧ -((256 ^ n : Nat) : Int) ≤ 2 * v) := by
  rcases one_to_eight h1 h2 with rfl | rfl | rfl | rfl | rfl | rfl | rfl | rfl <;> simp only [Nat.reducePow, Nat.reduceMul, Nat.reduceSub, Int.reducePow] at * <;> omega
theorem be_unsgn (n : Nat) (v : Int) (h1 : 1 ≤ n) (h2 : n ≤ 8) (hv : -((256 ^ n : Nat) : Int) ≤ 2 * v) : be n (IntKind.u64.wrap v).toNat = be n (unsgn n v) := by
  rw [← be_mod, ← be_mod n (unsgn n v), IntKind.wrap_u64]
  congr 1
  unfold unsgn
  rcases one_to_eight h1 h2 with rfl | rfl | rfl | rfl | rfl | rfl | rfl | rfl <;> simp only [Nat.reducePow] at * <;> split <;> omega

end Go.Proofs.Ytkfinkmbdpdepaa

/-
  Bytes: what their type is, strings of them, bytes that are written out, and a number's next byte.
-/
namespace Go.Proofs.Ytkfinkmbdpdepaa
open Go.RowKit

theorem str_of {w : World} {A : Option Addr} {n c : Nat} {s : List UInt8} (h : Bs w A n c s) : (convert 22 9 (.slice A n c)).run Try.prog w = .ok (.string ⟨s.toArray⟩) w :=
  run_string_of w _ _ _ Try.underlying22 Try.underlying5 Try.underlying9 h
/-- Bytes that were just written out. -/
theorem Bs.lit (w : World) (s : List UInt8) (hm : s.length ≤ maxLen) : Bs (w.alloc (.cells (s.map byteV).toArray 5)) (some ⟨w.heap.size, 0, none⟩) s.length s.length s := by
  have := Sl.lit w (s.map byteV) 5 (by simpa using hm)
  rwa [List.length_map] at this
theorem byte_info : (Try.prog.info? 5).map (fun i => (i.zero, i.size, i.bytes)) = some (some (.int .u8 0), 1, 1) := by kernel_rfl
theorem num_take (s : List UInt8) (a k : Nat) (h : a + k < s.length) : num ((s.drop a).take (k + 1)) = num ((s.drop a).take k) * 256 + (s.getD (a + k) 0).toNat := by
  have : (s.drop a).take (k + 1) = (s.drop a).take k ++ [s.getD (a + k) 0] := by
    rw [List.take_succ_eq_append_getElem (by simp; omega)]
    simp [List.getD, List.getElem?_eq_getElem h]
  rw [this, num_snoc]

end Go.Proofs.Ytkfinkmbdpdepaa

/-
  Variables that lie in memory as structs of two, three cells: what they hold is as it was behind a call that makes memory. Nothing here speaks of a program.
-/
namespace Go.Proofs.Ytkfinkmbdpdepaa
open Go.RowKit

/-- Block b holds these cells, from the first on, and may be written. -/
def Box (w : World) (b : Nat) (xs : List Value) : Prop := (∀ i x, xs[i]? = some x → w.cell? ⟨b, i, none⟩ = some x) ∧ (∀ o, w.frozen? ⟨b, o, none⟩ = false) ∧ b < w.heap.size
section
variable {w w' : World} {b : Nat} {xs : List Value}
theorem Box.below {B : Nat} (h : Box w b xs) (hb : Below B w w') (hB : b < B) : Box w' b xs :=
  ⟨fun i x hx => (hb.cell (p := ⟨b, i, none⟩) hB).trans (h.1 i x hx), fun o => (hb.frozen (p := ⟨b, o, none⟩) hB).trans (h.2.1 o), Nat.lt_of_lt_of_le h.2.2 hb.size⟩
theorem Box.call (h : Box w b xs) (hb : Below w.heap.size w w') : Box w' b xs := h.below hb h.2.2
theorem Box.alloc (h : Box w b xs) (o : Obj) : Box (w.alloc o) b xs := h.below ((Below.refl _ _).alloc (Nat.le_refl _) o) h.2.2
theorem Box.drewN (h : Box w b xs) (k : Nat) : Box (w.drewN k) b xs := h
theorem Box.new (w : World) (xs : List Value) (t : TypeId) : Box (w.alloc (.cells xs.toArray t)) w.heap.size xs := by
  refine ⟨fun i x hx => ?_, fun o => ?_, by simp⟩
  · rw [World.cell?_alloc_at _ _ _ _ rfl]; simpa using hx
  · rw [World.frozen?_alloc_at _ _ _ _ rfl]
theorem Box.other {p : Addr} (h : Box w b xs) (u : Value) (hp : p.block ≠ b) : Box (w.setCell p u) b xs := by
  refine ⟨fun i x hx => ?_, fun o => ?_, by simpa using h.2.2⟩
  · rw [World.cell?_setCell_other _ _ _ _ (by intro e; subst e; exact hp rfl)]; exact h.1 i x hx
  · rw [World.frozen?_setCell]; exact h.2.1 o
theorem Box.set (h : Box w b xs) (i : Nat) (u : Value) (hi : i < xs.length) : Box (w.setCell ⟨b, i, none⟩ u) b (xs.set i u) := by
  refine ⟨fun j x hx => ?_, fun o => ?_, by simpa using h.2.2⟩
  · by_cases e : i = j
    · subst e
      rw [List.getElem?_set_self hi] at hx
      injection hx with hx; subst hx
      exact World.cell?_setCell_same _ _ _ (h.1 i _ (List.getElem?_eq_getElem hi))
    · rw [List.getElem?_set_ne e] at hx
      rw [World.cell?_setCell_other _ _ _ _ (by intro e2; injection e2 with _ e3; exact e e3)]
      exact h.1 j x hx
  · rw [World.frozen?_setCell]; exact h.2.1 o
theorem cell_heap {w w' : World} {b : Nat} (h : w'.heap[b]? = w.heap[b]?) (o : Nat) : w'.cell? ⟨b, o, none⟩ = w.cell? ⟨b, o, none⟩ := by unfold World.cell?; rw [h]
theorem frozen_heap {w w' : World} {b : Nat} (h : w'.heap[b]? = w.heap[b]?) (o : Nat) : w'.frozen? ⟨b, o, none⟩ = w.frozen? ⟨b, o, none⟩ := by unfold World.frozen?; rw [h]
theorem Box.heap (h : Box w b xs) (hb : w'.heap[b]? = w.heap[b]?) (hs : w.heap.size ≤ w'.heap.size) : Box w' b xs :=
  ⟨fun i x hx => (cell_heap hb i).trans (h.1 i x hx), fun o => (frozen_heap hb o).trans (h.2.1 o), Nat.lt_of_lt_of_le h.2.2 hs⟩
theorem Box.two {x y : Value} (h : Box w b [x, y]) : w.cell? ⟨b, 0, none⟩ = some x ∧ w.cell? ⟨b, 1, none⟩ = some y ∧ w.frozen? ⟨b, 0, none⟩ = false ∧ w.frozen? ⟨b, 1, none⟩ = false ∧ b < w.heap.size :=
  ⟨h.1 0 _ rfl, h.1 1 _ rfl, h.2.1 0, h.2.1 1, h.2.2⟩
theorem Box.three {x y z : Value} (h : Box w b [x, y, z]) : w.cell? ⟨b, 0, none⟩ = some x ∧ w.cell? ⟨b, 1, none⟩ = some y ∧ w.cell? ⟨b, 2, none⟩ = some z ∧ w.frozen? ⟨b, 0, none⟩ = false ∧ w.frozen? ⟨b, 1, none⟩ = false ∧ w.frozen? ⟨b, 2, none⟩ = false ∧ b < w.heap.size :=
  ⟨h.1 0 _ rfl, h.1 1 _ rfl, h.1 2 _ rfl, h.2.1 0, h.2.1 1, h.2.1 2, h.2.2⟩
end
/-- What a call hands back: this value, the memory that was there being as it was. -/
def Says (w : World) (v : Value) (e : Ending) (w' : World) : Prop := e = .returned v ∧ Below w.heap.size w w'
theorem below1 (w : World) (a : Obj) : Below w.heap.size w (w.alloc a) := (Below.refl _ _).alloc (Nat.le_refl _) _
theorem below2 (w : World) (a b : Obj) : Below w.heap.size w ((w.alloc a).alloc b) := (below1 w a).alloc (by simp) _
theorem below3 (w : World) (a b c : Obj) : Below w.heap.size w (((w.alloc a).alloc b).alloc c) := (below2 w a b).alloc (by simp; omega) _
theorem below_drewN {B : Nat} {w w1 : World} (h : Below B w w1) (k : Nat) : Below B w (w1.drewN k) := ⟨h.os, h.tape, h.output, h.size, h.block⟩
/-- What a walk is told of memory behind a call that makes memory. -/
theorem bcell {W w1 : World} (hb : Below W.heap.size W w1) : (∀ b o, b < W.heap.size → w1.cell? ⟨b, o, none⟩ = W.cell? ⟨b, o, none⟩) ∧ (∀ b o, b < W.heap.size → w1.frozen? ⟨b, o, none⟩ = W.frozen? ⟨b, o, none⟩) :=
  ⟨fun b o h => hb.cell (p := ⟨b, o, none⟩) h, fun b o h => hb.frozen (p := ⟨b, o, none⟩) h⟩

theorem Own.get {w : World} {base g n cap j : Nat} {e : TypeId} {s : List UInt8} (h : Own w base e (some ⟨g, 0, none⟩) n cap s) (hj : j < n) : w.cell? ⟨g, j, none⟩ = some (.int .u8 ((s.getD j 0).toNat : Int)) := by
  obtain ⟨b, o, he, _, hc⟩ := h.bs.at_ (by omega)
  injection he with he
  injection he with e1 e2
  subst e1 e2
  have := hc j hj
  rwa [Nat.zero_add] at this
theorem Own.other {w : World} {base g n cap : Nat} {e : TypeId} {s : List UInt8} {p : Addr} (h : Own w base e (some ⟨g, 0, none⟩) n cap s) (u : Value) (hp : p.block ≠ g) : Own (w.setCell p u) base e (some ⟨g, 0, none⟩) n cap s := by
  obtain ⟨h1, h2⟩ := h
  refine ⟨h1, ?_⟩
  rcases h2 with h2 | ⟨g', cap', cur, hv, hg, hh, r⟩
  · exact .inl h2
  · injection hv with e1 _ e3
    injection e1 with e1
    injection e1 with e1
    subst e1 e3
    exact .inr ⟨g, cap, cur, rfl, hg, (Below.heap_setCell _ _ _ _ (fun e => hp e.symm)).trans hh, r⟩
/-- A cell that holds no byte is written: bytes are as they were. -/
theorem Bs.setOther {w : World} {A : Option Addr} {n c : Nat} {s : List UInt8} {p : Addr} {old : Value} (h : Bs w A n c s) (u : Value) (hp : w.cell? p = some old) (hold : ∀ x, old ≠ byteV x) : Bs (w.setCell p u) A n c s := by
  refine ⟨h.1, h.2.1, h.2.2.1, h.2.2.2.1, fun hn => ?_⟩
  obtain ⟨b, o, hA, hc⟩ := h.2.2.2.2 hn
  refine ⟨b, o, hA, fun i x hx => ?_⟩
  rw [World.cell?_setCell_other]
  · exact hc i x hx
  · intro e
    rw [e, hc i x hx] at hp
    injection hp with hp
    obtain ⟨y, _, hy⟩ := List.mem_map.1 (List.mem_of_getElem? hx)
    exact hold y (by rw [← hp, ← hy])
theorem Bs.box2 {w : World} {A : Option Addr} {n c : Nat} {s : List UInt8} {b a2 a3 : Nat} {a1 : Option Addr} {m : Int} (h : Bs w A n c s) (k : Box w b [.slice a1 a2 a3, .int .i64 m]) (u1 u2 : Value) :
    Bs ((w.setCell ⟨b, 0, none⟩ u1).setCell ⟨b, 1, none⟩ u2) A n c s := by
  obtain ⟨c0, c1, _⟩ := k.two
  have k' := k.set 0 u1 (by simp)
  obtain ⟨_, c1', _⟩ := Box.two (x := u1) (y := .int .i64 m) k'
  exact (h.setOther u1 c0 (by intro x e; cases e)).setOther u2 c1' (by intro x e; cases e)
theorem Box.put2 {w : World} {b : Nat} {x y : Value} (k : Box w b [x, y]) (u v : Value) : Box ((w.setCell ⟨b, 0, none⟩ u).setCell ⟨b, 1, none⟩ v) b [u, v] := (k.set 0 u (by simp)).set 1 v (by simp)
theorem Box.put3 {w : World} {b : Nat} {x y z : Value} (k : Box w b [x, y, z]) (u v t : Value) : Box (((w.setCell ⟨b, 0, none⟩ u).setCell ⟨b, 1, none⟩ v).setCell ⟨b, 2, none⟩ t) b [u, v, t] := ((k.set 0 u (by simp)).set 1 v (by simp)).set 2 t (by simp)
theorem Bs.box3 {w : World} {A : Option Addr} {n c : Nat} {s : List UInt8} {b a2 a3 : Nat} {a1 : Option Addr} {m1 m2 : Int} (h : Bs w A n c s) (k : Box w b [.slice a1 a2 a3, .int .i64 m1, .int .i64 m2]) (u1 u2 u3 : Value) :
    Bs (((w.setCell ⟨b, 0, none⟩ u1).setCell ⟨b, 1, none⟩ u2).setCell ⟨b, 2, none⟩ u3) A n c s := by
  obtain ⟨c0, _⟩ := k.three
  have k' : Box _ b [u1, .int .i64 m1, .int .i64 m2] := k.set 0 u1 (by simp)
  obtain ⟨_, c1, _⟩ := k'.three
  have k'' : Box _ b [u1, u2, .int .i64 m2] := k'.set 1 u2 (by simp)
  obtain ⟨_, _, c2, _⟩ := k''.three
  exact ((h.setOther u1 c0 (by intro x e; cases e)).setOther u2 c1 (by intro x e; cases e)).setOther u3 c2 (by intro x e; cases e)
theorem below_put2 {B b : Nat} {w W : World} (h : Below B w W) (hb : B ≤ b) (u v : Value) : Below B w ((W.setCell ⟨b, 0, none⟩ u).setCell ⟨b, 1, none⟩ v) := (h.setCell (p := ⟨b, 0, none⟩) hb u).setCell (p := ⟨b, 1, none⟩) hb v
theorem below_put3 {B b : Nat} {w W : World} (h : Below B w W) (hb : B ≤ b) (u v t : Value) : Below B w (((W.setCell ⟨b, 0, none⟩ u).setCell ⟨b, 1, none⟩ v).setCell ⟨b, 2, none⟩ t) := (below_put2 h hb u v).setCell (p := ⟨b, 2, none⟩) hb t
/-- 'copy(dst, src)': dst a whole row of the call's own, src any slice of bytes that isn't longer. -/
theorem wpList_copyB {P : Program} {w : World} {ops : Array Oper} {rest : List Oper} {o : Oper} {a : Act} {Q : Exit → Act → World → Prop} (hgd : o.guard = none) (d s : Operand) (dT sT : TypeId)
    (ho : o.op = .call { callee := .builtin .copy, args := #[d, s], argTypes := #[dT, sT] }) (e : TypeId) (hu : P.underlying dT = some (.slice e)) (hsz : (P.info? e).map (·.size) = some 1)
    (base g n : Nat) (S : List UInt8) (hd : a.eval d = .slice (some ⟨g, 0, none⟩) n n) (hown : Own w base e (some ⟨g, 0, none⟩) n n S)
    (B : Option Addr) (m c : Nat) (T : List UInt8) (hs : a.eval s = .slice B m c) (hT : Bs w B m c T) (hmn : m ≤ n)
    (h : ∀ w', Own w' base e (some ⟨g, 0, none⟩) n n (T ++ S.drop m) → (∀ k, k ≠ g → w'.heap[k]? = w.heap[k]?) → w'.heap.size = w.heap.size → Below base w w' → wpList P ops Q rest (a.put o.dst (goInt (m : Int))) w') :
    wpList P ops Q (o :: rest) a w := by
  have hl := hT.len
  have hmin : Nat.min m n = m := Nat.min_eq_left hmn
  rcases Nat.eq_zero_or_pos m with h0 | h0
  · subst h0
    have hT0 : T = [] := List.eq_nil_of_length_eq_zero hl
    subst hT0
    refine wpList_copy_nothing hgd d s dT sT ho e hu hsz _ _ _ _ _ _ hd hs (by simp) ?_
    exact h w (by simpa using hown) (fun _ _ => rfl) rfl (Below.refl _ _)
  · obtain ⟨h1, h2⟩ := hown
    rcases h2 with ⟨h3, _⟩ | ⟨g', cap, cur, hv, hb, hg, hnc, hcm, hcs, ht⟩
    · cases h3
    · injection hv with e1 e2 e3
      injection e1 with e1
      injection e1 with e1
      subst e1 e3
      obtain ⟨b, off, rfl, _, hc⟩ := Sl.at_ hT h0
      have hcl : cur.toList = S.map byteV := by
        rw [← ht, List.take_of_length_le (by rw [Array.length_toList, hcs]; exact Nat.le_refl _)]
      refine wpList_copy_own hgd d s dT sT ho e hu hsz g 0 n n ⟨b, off, none⟩ m c hd hs cur e hg (T.map byteV) (by rw [List.length_map, hl]; exact hmin.symm) (fun j v hj => by rw [add_plain']; exact hc j v hj) (by rw [List.length_map, hl, hcs]; omega) (bytes_oneCell T) ?_
      rw [List.length_map, hl]
      refine h _ ?_ (fun k hk => setRow_other w g k _ hk) (size_setRow _ _ _) (below_setRow (Below.refl _ _) hb _)
      refine ⟨by rw [List.length_map] at h1 ⊢; simp [hl]; omega, .inr ⟨g, n, _, rfl, hb, setRow_heap w g cur _ e _ hg, Nat.le_refl _, hcm, ?_, ?_⟩⟩
      · simp [hcl, hl]; rw [List.length_map] at h1; omega
      · rw [List.take_of_length_le]
        · simp [hcl, List.map_append, List.map_drop]
        · simp [hcl, hl]; rw [List.length_map] at h1; omega

end Go.Proofs.Ytkfinkmbdpdepaa

/-
  'append' onto a row of the call's own, of any slice of bytes: what comes back, and where it lies. Nothing here speaks of a program.
-/
namespace Go.Proofs.Ytkfinkmbdpdepaa
open Go.RowKit

/-- The block that a slice lies in. -/
def rowOf (A : Option Addr) : Option Nat := A.map (·.block)
theorem ownBlock_slice (A : Option Addr) (n c : Nat) : (Value.slice A n c).ownBlock = rowOf A := by cases A <;> rfl
theorem Box.grown {w w' : World} {b : Nat} {xs : List Value} {row : Option Nat} (h : Box w b xs) (hg : w.grownBy w' row) (hne : some b ≠ row) : Box w' b xs :=
  h.heap (hg.block b h.2.2 hne) hg.size
theorem Bs.grown {w w' : World} {A : Option Addr} {n c : Nat} {s : List UInt8} {row : Option Nat} (h : Bs w A n c s) (hg : w.grownBy w' row) (hne : 0 < n → rowOf A ≠ row) : Bs w' A n c s := by
  refine ⟨h.1, h.2.1, h.2.2.1, h.2.2.2.1, fun hn => ?_⟩
  obtain ⟨b, o, hA, hlt, hc⟩ := Sl.at_ h hn
  refine ⟨b, o, hA, fun i x hx => ?_⟩
  rw [cell_heap (hg.block b hlt (by have := hne hn; rw [hA] at this; exact this))]
  exact hc i x hx

theorem Bs.setFar {w : World} {A : Option Addr} {n c : Nat} {s : List UInt8} {p : Addr} (h : Bs w A n c s) (u : Value) (hne : rowOf A ≠ some p.block) : Bs (w.setCell p u) A n c s := by
  refine ⟨h.1, h.2.1, h.2.2.1, h.2.2.2.1, fun hn => ?_⟩
  obtain ⟨b, o, hA, hc⟩ := h.2.2.2.2 hn
  refine ⟨b, o, hA, fun i x hx => ?_⟩
  rw [World.cell?_setCell_other]
  · exact hc i x hx
  · intro e
    subst e
    exact hne (by rw [hA]; rfl)
theorem run_app {P : Program} (w : World) (t ty : TypeId) (base : Nat) (e : TypeId) (ht : P.underlying t = some (.slice e)) (hinfo : (P.info? e).map (fun i => (i.zero, i.size, i.bytes)) = some (some (.int .u8 0), 1, 1))
    (A : Option Addr) (n c : Nat) (S : List UInt8) (hown : Own w base e A n c S) (B : Option Addr) (m d : Nat) (T : List UInt8) (hT : Bs w B m d T) (hb : n + m ≤ 140737488355328) (hbase : base ≤ w.heap.size) :
    ∃ A' c' w', (Builtin.append_ #[t, t] ty #[.slice A n c, .slice B m d]).run P w = .ok (.slice A' (n + m) c') w' ∧ Own w' base e A' (n + m) c' (S ++ T) ∧ w.grownBy w' (rowOf A) ∧ (rowOf A' = rowOf A ∨ rowOf A' = some w.heap.size) := by
  obtain ⟨i, hi, hz, hz1, hz2⟩ := info_parts hinfo
  cases B with
  | none =>
    obtain ⟨rfl, rfl⟩ := Sl.nothing hT rfl
    have hT0 : T = [] := List.eq_nil_of_length_eq_zero hT.len
    subst hT0
    have hrun := run_append_owned_none (P := P) (w := w) base t ty e i 1 ht hi (.slice A n c) n _ hown
    exact ⟨A, c, w, hrun, by simpa using hown, ⟨rfl, rfl, rfl, Nat.le_refl _, fun _ _ _ => rfl⟩, Or.inl rfl⟩
  | some ad =>
    obtain ⟨v', w', hr, h2, h3, _, h5⟩ := run_append_own_at (P := P) w base t ty e i (.int .u8 0) 1 1 ht hi hz hz1 hz2 rfl (by omega) (.slice A n c) n (S.map byteV) hown ad m d (T.map byteV) (by rw [List.length_map, hT.len, Nat.mul_one]) (Sl.added hT ad rfl) (bytes_oneCell T)
      (by simp only [maxLen]; omega) (by omega) hbase
    rw [← List.map_append] at h2
    obtain ⟨A', c', rfl, hO⟩ := own_form h2
    rw [ownBlock_slice] at h3
    rw [ownBlock_slice, ownBlock_slice] at h5
    exact ⟨A', c', w', hr, hO, h3, h5⟩

/-- At a plain operation. -/
theorem wpList_app2 {P : Program} {w : World} {ops : Array Oper} {rest : List Oper} {o : Oper} {a : Act} {Q : Exit → Act → World → Prop} (hgd : o.guard = none) (s x : Operand) (t : TypeId)
    (ho : o.op = .call { callee := .builtin .append, args := #[s, x], argTypes := #[t, t] })
    (base : Nat) (e : TypeId) (ht : P.underlying t = some (.slice e)) (hinfo : (P.info? e).map (fun i => (i.zero, i.size, i.bytes)) = some (some (.int .u8 0), 1, 1))
    (A : Option Addr) (n c : Nat) (S : List UInt8) (hs : a.eval s = .slice A n c) (hown : Own w base e A n c S)
    (B : Option Addr) (m d : Nat) (T : List UInt8) (hx : a.eval x = .slice B m d) (hT : Bs w B m d T) (hb : n + m ≤ 140737488355328) (hbase : base ≤ w.heap.size)
    (h : ∀ A' c' w', Own w' base e A' (n + m) c' (S ++ T) → w.grownBy w' (rowOf A) → (rowOf A' = rowOf A ∨ rowOf A' = some w.heap.size) → wpList P ops Q rest (a.put o.dst (.slice A' (n + m) c')) w') : wpList P ops Q (o :: rest) a w := by
  refine wpList_plain hgd fun K hK => ?_
  obtain ⟨A', c', w', hr, h2, h3, h4⟩ := run_app (P := P) w t o.type base e ht hinfo A n c S hown B m d T hT hb hbase
  unfold Oper.wp execOp
  simp only [ho, resolve, invoke, builtin, Sem.run_bind, Sem.run_pure, Result.andThen_ok, List.map_toArray, List.map_cons, List.map_nil, hs, hx, hr]
  exact hK _ _ (h A' c' w' h2 h3 h4)
/-- At an operation of a region that draws its order. -/
theorem step_app2 {P : Program} {w : World} {ops : Array Oper} {o : Oper} {a : Act} {K : Act → World → Prop} {Q : Exit → Act → World → Prop} {E : Prop} (hgd : o.guard = none) (s x : Operand) (t : TypeId)
    (ho : o.op = .call { callee := .builtin .append, args := #[s, x], argTypes := #[t, t] })
    (base : Nat) (e : TypeId) (ht : P.underlying t = some (.slice e)) (hinfo : (P.info? e).map (fun i => (i.zero, i.size, i.bytes)) = some (some (.int .u8 0), 1, 1))
    (A : Option Addr) (n c : Nat) (S : List UInt8) (hs : a.eval s = .slice A n c) (hown : Own w base e A n c S)
    (B : Option Addr) (m d : Nat) (T : List UInt8) (hx : a.eval x = .slice B m d) (hT : Bs w B m d T) (hb : n + m ≤ 140737488355328) (hbase : base ≤ w.heap.size)
    (h : ∀ A' c' w', Own w' base e A' (n + m) c' (S ++ T) → w.grownBy w' (rowOf A) → (rowOf A' = rowOf A ∨ rowOf A' = some w.heap.size) → K (a.put o.dst (.slice A' (n + m) c')) w') :
    if Region.wanted o (yielded ops a.tmps) = true then Oper.wp P o a w K Q else E := by
  have hw : Region.wanted o (yielded ops a.tmps) = true := by simp [Region.wanted, hgd]
  rw [if_pos hw]
  obtain ⟨A', c', w', hr, h2, h3, h4⟩ := run_app (P := P) w t o.type base e ht hinfo A n c S hown B m d T hT hb hbase
  unfold Oper.wp execOp
  simp only [ho, resolve, invoke, builtin, Sem.run_bind, Sem.run_pure, Result.andThen_ok, List.map_toArray, List.map_cons, List.map_nil, hs, hx, hr]
  exact h A' c' w' h2 h3 h4

/-- One byte that was just written out. -/
theorem Bs.lit1 (w : World) (x : UInt8) (e : TypeId) : Bs (w.alloc (.cells #[byteV x] e)) (some ⟨w.heap.size, 0, none⟩) 1 1 [x] := by
  have := Sl.lit w [byteV x] e (by simp [maxLen])
  exact this
theorem Own.row_ge {w : World} {base n c : Nat} {e : TypeId} {A : Option Addr} {s : List UInt8} (h : Own w base e A n c s) : ∀ k, rowOf A = some k → base ≤ k := by
  intro k hk
  obtain ⟨_, h2⟩ := h
  rcases h2 with ⟨h3, _⟩ | ⟨g, cap, cur, hv, hb, _⟩
  · injection h3 with e1
    subst e1
    cases hk
  · injection hv with e1
    subst e1
    injection hk with hk
    subst hk
    exact hb
theorem Own.row_ne {w : World} {base n c b : Nat} {e : TypeId} {A : Option Addr} {s : List UInt8} (h : Own w base e A n c s) (hb : b < base) : some b ≠ rowOf A := fun e => by
  have := h.row_ge b e.symm
  omega
theorem own_empty (w : World) (e : TypeId) (base : Nat) (hb : base ≤ w.heap.size) : Own (w.alloc (.cells #[] e)) base e (some ⟨w.heap.size, 0, none⟩) 0 0 [] :=
  World.ownsRow_lit (base := base) (e := e) (size := 1) w #[] 0 hb (Nat.zero_le _) rfl
theorem own_empty2 (w : World) (o : Obj) (e : TypeId) (base : Nat) (hb : base ≤ w.heap.size) : Own ((w.alloc o).alloc (.cells #[] e)) base e (some ⟨w.heap.size + 1, 0, none⟩) 0 0 [] := by
  have := own_empty (w.alloc o) e base (by simp; omega)
  rwa [World.size_alloc] at this
theorem Own.row_lt {w : World} {base n c : Nat} {e : TypeId} {A : Option Addr} {s : List UInt8} (h : Own w base e A n c s) : ∀ k, rowOf A = some k → k < w.heap.size := by
  intro k hk
  obtain ⟨_, h2⟩ := h
  rcases h2 with ⟨h3, _⟩ | ⟨g, cap, cur, hv, hb, hh, _⟩
  · injection h3 with e1
    subst e1
    cases hk
  · injection hv with e1
    subst e1
    injection hk with hk
    subst hk
    exact lt_of_block hh
theorem Own.other2 {w : World} {base n cap : Nat} {A : Option Addr} {e : TypeId} {s : List UInt8} {p : Addr} (h : Own w base e A n cap s) (u : Value) (hp : some p.block ≠ rowOf A) : Own (w.setCell p u) base e A n cap s := by
  obtain ⟨h1, h2⟩ := h
  refine ⟨h1, ?_⟩
  rcases h2 with h2 | ⟨g', cap', cur, hv, hg, hh, r⟩
  · exact .inl h2
  · injection hv with e1 e2 e3
    subst e1 e3
    exact .inr ⟨g', cap, cur, rfl, hg, (Below.heap_setCell _ _ _ _ (fun e => hp (by rw [← e]; rfl))).trans hh, r⟩
theorem Own.alloc {w : World} {base n c : Nat} {e : TypeId} {A : Option Addr} {s : List UInt8} (h : Own w base e A n c s) (o : Obj) : Own (w.alloc o) base e A n c s := World.ownsRow.alloc h o

end Go.Proofs.Ytkfinkmbdpdepaa

/-
  'append' onto a row of the call's own, of any values of one cell: what comes back, and where it lies. Nothing here speaks of a program.
-/
namespace Go.Proofs.Ytkfinkmbdpdepaa
open Go.RowKit

theorem rowV_form {w : World} {base n : Nat} {e : TypeId} {v : Value} {xs : List Value} (h : w.ownsRow base e 1 v n xs) : ∃ A c, v = .slice A n c := by
  obtain ⟨h1, h2⟩ := h
  rcases h2 with ⟨rfl, h3⟩ | ⟨g, cap, cur, rfl, r⟩
  · subst h3
    exact ⟨none, 0, rfl⟩
  · exact ⟨_, _, rfl⟩
theorem rowV_ge {w : World} {base size n m c : Nat} {e : TypeId} {A : Option Addr} {xs : List Value} (h : w.ownsRow base e size (.slice A m c) n xs) : ∀ k, rowOf A = some k → base ≤ k := by
  intro k hk
  obtain ⟨_, h2⟩ := h
  rcases h2 with ⟨h3, _⟩ | ⟨g, cap, cur, hv, hb, hh, _⟩
  · injection h3 with e1
    subst e1
    cases hk
  · injection hv with e1
    subst e1
    injection hk with hk
    subst hk
    exact hb
theorem rowV_lt {w : World} {base size n m c : Nat} {e : TypeId} {A : Option Addr} {xs : List Value} (h : w.ownsRow base e size (.slice A m c) n xs) : ∀ k, rowOf A = some k → k < w.heap.size := by
  intro k hk
  obtain ⟨_, h2⟩ := h
  rcases h2 with ⟨h3, _⟩ | ⟨g, cap, cur, hv, hb, hh, _⟩
  · injection h3 with e1
    subst e1
    cases hk
  · injection hv with e1
    subst e1
    injection hk with hk
    subst hk
    exact lt_of_block hh
theorem rowV_below {w w' : World} {base n c : Nat} {e : TypeId} {A : Option Addr} {xs : List Value} (h : w.ownsRow base e 1 (.slice A n c) n xs) (hb : Below w.heap.size w w') : w'.ownsRow base e 1 (.slice A n c) n xs := by
  obtain ⟨h1, h2⟩ := h
  refine ⟨h1, ?_⟩
  rcases h2 with h2 | ⟨g, cap, cur, hv, hg, hh, r⟩
  · exact .inl h2
  · exact .inr ⟨g, cap, cur, hv, hg, (hb.block g (lt_of_block hh)).trans hh, r⟩
theorem rowV_mono {w : World} {base base' n c : Nat} {e : TypeId} {A : Option Addr} {xs : List Value} (h : w.ownsRow base e 1 (.slice A n c) n xs) (hb : base' ≤ base) : w.ownsRow base' e 1 (.slice A n c) n xs := by
  obtain ⟨h1, h2⟩ := h
  refine ⟨h1, ?_⟩
  rcases h2 with h2 | ⟨g, cap, cur, hv, hg, r⟩
  · exact .inl h2
  · exact .inr ⟨g, cap, cur, hv, by omega, r⟩
/-- A store elsewhere. -/
theorem rowV_other {w : World} {base n c : Nat} {e : TypeId} {A : Option Addr} {xs : List Value} {p : Addr} (h : w.ownsRow base e 1 (.slice A n c) n xs) (u : Value) (hp : some p.block ≠ rowOf A) : (w.setCell p u).ownsRow base e 1 (.slice A n c) n xs := by
  obtain ⟨h1, h2⟩ := h
  refine ⟨h1, ?_⟩
  rcases h2 with h2 | ⟨g', cap', cur, hv, hg, hh, r⟩
  · exact .inl h2
  · injection hv with e1 e2 e3
    subst e1 e3
    exact .inr ⟨g', c, cur, rfl, hg, (Below.heap_setCell _ _ _ _ (fun e => hp (by rw [← e]; rfl))).trans hh, r⟩
theorem run_appV {P : Program} (w : World) (t ty : TypeId) (base : Nat) (e : TypeId) (z : Value) (bytes : Nat) (ht : P.underlying t = some (.slice e)) (hinfo : (P.info? e).map (fun i => (i.zero, i.size, i.bytes)) = some (some z, 1, bytes)) (hz0 : z.cells.size = 1)
    (A : Option Addr) (n c : Nat) (xs : List Value) (hown : w.ownsRow base e 1 (.slice A n c) n xs) (ad : Addr) (m d : Nat) (news : List Value) (hl : news.length = m) (hnews : ∀ j u, news[j]? = some u → w.cell? (ad.add j) = some u) (h1 : ∀ u ∈ news, u.oneCell' = true)
    (hm : n + m ≤ maxLen) (hb : (n + m) * bytes ≤ 140737488355328) (hbase : base ≤ w.heap.size) :
    ∃ A' c' w', (Builtin.append_ #[t, t] ty #[.slice A n c, .slice (some ad) m d]).run P w = .ok (.slice A' (n + m) c') w' ∧ w'.ownsRow base e 1 (.slice A' (n + m) c') (n + m) (xs ++ news) ∧ w.grownBy w' (rowOf A) ∧ (rowOf A' = rowOf A ∨ rowOf A' = some w.heap.size) := by
  obtain ⟨i, hi, hz, hz1, hz2⟩ := info_parts hinfo
  obtain ⟨v', w', hr, h2, h3, _, h5⟩ := run_append_own_at (P := P) w base t ty e i z 1 bytes ht hi hz hz1 hz2 hz0 (by omega) (.slice A n c) n xs hown ad m d news (by rw [hl, Nat.mul_one]) hnews h1 hm hb hbase
  obtain ⟨A', c', rfl⟩ := rowV_form h2
  rw [ownBlock_slice] at h3
  rw [ownBlock_slice, ownBlock_slice] at h5
  exact ⟨A', c', w', hr, h2, h3, h5⟩
/-- At a plain operation. -/
theorem wpList_appV {P : Program} {w : World} {ops : Array Oper} {rest : List Oper} {o : Oper} {a : Act} {Q : Exit → Act → World → Prop} (hgd : o.guard = none) (s x : Operand) (t : TypeId)
    (ho : o.op = .call { callee := .builtin .append, args := #[s, x], argTypes := #[t, t] })
    (base : Nat) (e : TypeId) (z : Value) (bytes : Nat) (ht : P.underlying t = some (.slice e)) (hinfo : (P.info? e).map (fun i => (i.zero, i.size, i.bytes)) = some (some z, 1, bytes)) (hz0 : z.cells.size = 1)
    (A : Option Addr) (n c : Nat) (xs : List Value) (hs : a.eval s = .slice A n c) (hown : w.ownsRow base e 1 (.slice A n c) n xs)
    (ad : Addr) (m d : Nat) (news : List Value) (hx : a.eval x = .slice (some ad) m d) (hl : news.length = m) (hnews : ∀ j u, news[j]? = some u → w.cell? (ad.add j) = some u) (h1 : ∀ u ∈ news, u.oneCell' = true)
    (hm : n + m ≤ maxLen) (hb : (n + m) * bytes ≤ 140737488355328) (hbase : base ≤ w.heap.size)
    (h : ∀ A' c' w', w'.ownsRow base e 1 (.slice A' (n + m) c') (n + m) (xs ++ news) → w.grownBy w' (rowOf A) → (rowOf A' = rowOf A ∨ rowOf A' = some w.heap.size) → wpList P ops Q rest (a.put o.dst (.slice A' (n + m) c')) w') : wpList P ops Q (o :: rest) a w := by
  refine wpList_plain hgd fun K hK => ?_
  obtain ⟨A', c', w', hr, h2, h3, h4⟩ := run_appV (P := P) w t o.type base e z bytes ht hinfo hz0 A n c xs hown ad m d news hl hnews h1 hm hb hbase
  unfold Oper.wp execOp
  simp only [ho, resolve, invoke, builtin, Sem.run_bind, Sem.run_pure, Result.andThen_ok, List.map_toArray, List.map_cons, List.map_nil, hs, hx, hr]
  exact hK _ _ (h A' c' w' h2 h3 h4)
/-- At an operation of a region that draws its order. -/
theorem step_appV {P : Program} {w : World} {ops : Array Oper} {o : Oper} {a : Act} {K : Act → World → Prop} {Q : Exit → Act → World → Prop} {E : Prop} (hgd : o.guard = none) (s x : Operand) (t : TypeId)
    (ho : o.op = .call { callee := .builtin .append, args := #[s, x], argTypes := #[t, t] })
    (base : Nat) (e : TypeId) (z : Value) (bytes : Nat) (ht : P.underlying t = some (.slice e)) (hinfo : (P.info? e).map (fun i => (i.zero, i.size, i.bytes)) = some (some z, 1, bytes)) (hz0 : z.cells.size = 1)
    (A : Option Addr) (n c : Nat) (xs : List Value) (hs : a.eval s = .slice A n c) (hown : w.ownsRow base e 1 (.slice A n c) n xs)
    (ad : Addr) (m d : Nat) (news : List Value) (hx : a.eval x = .slice (some ad) m d) (hl : news.length = m) (hnews : ∀ j u, news[j]? = some u → w.cell? (ad.add j) = some u) (h1 : ∀ u ∈ news, u.oneCell' = true)
    (hm : n + m ≤ maxLen) (hb : (n + m) * bytes ≤ 140737488355328) (hbase : base ≤ w.heap.size)
    (h : ∀ A' c' w', w'.ownsRow base e 1 (.slice A' (n + m) c') (n + m) (xs ++ news) → w.grownBy w' (rowOf A) → (rowOf A' = rowOf A ∨ rowOf A' = some w.heap.size) → K (a.put o.dst (.slice A' (n + m) c')) w') :
    if Region.wanted o (yielded ops a.tmps) = true then Oper.wp P o a w K Q else E := by
  have hw : Region.wanted o (yielded ops a.tmps) = true := by simp [Region.wanted, hgd]
  rw [if_pos hw]
  obtain ⟨A', c', w', hr, h2, h3, h4⟩ := run_appV (P := P) w t o.type base e z bytes ht hinfo hz0 A n c xs hown ad m d news hl hnews h1 hm hb hbase
  unfold Oper.wp execOp
  simp only [ho, resolve, invoke, builtin, Sem.run_bind, Sem.run_pure, Result.andThen_ok, List.map_toArray, List.map_cons, List.map_nil, hs, hx, hr]
  exact h A' c' w' h2 h3 h4

end Go.Proofs.Ytkfinkmbdpdepaa

/-
  Bytes: how many cells one takes, and zero bytes that are made. (Cut out of the texts on layer 3.)
-/
namespace Go.Proofs.Ytkfinkmbdpdepaa
open Go.RowKit

theorem byte_one : (Try.prog.info? 5).map (·.size) = some 1 := by kernel_rfl
theorem byte_size : ∀ w, (Go.sizeOf 5).run Try.prog w = .ok 1 w := run_size_one byte_info

/-- The cells of z zero bytes. -/
def zeroRow (z : Nat) : Array Value := ((List.replicate z (0 : UInt8)).map byteV).toArray
theorem make_zeros (z : Nat) (hz : z ≤ 281474976710656) (W : World) :
    (Instr.makeSlice 22 (.int .i64 (z : Int)) (.int .i64 (z : Int))).run Try.prog W = .ok (.slice (some ⟨W.heap.size, 0, none⟩) z z) (W.alloc (.cells (zeroRow z) 5)) := by
  obtain ⟨i0, hi0, hz0, hz1, hz2⟩ := info_parts byte_info
  have := run_make (P := Try.prog) W 22 5 i0 (.int .u8 0) Try.underlying22 hi0 hz0 .i64 .i64 z z (by omega) (by omega) (by rw [hz2]; omega) (by omega)
  rw [hz1, Int.toNat_natCast, show (Value.int IntKind.u8 0).cells = #[.int .u8 0] from rfl, Nat.mul_one] at this
  rw [this]
  unfold zeroRow
  congr 3
  apply Array.toList_inj.1
  rw [toList_madeCells_one]
  simp [byteV]

end Go.Proofs.Ytkfinkmbdpdepaa

/-
  Strings beside slices of bytes: appending one, cutting one, bytes that were just written out. Nothing here speaks of a program.
-/
namespace Go.Proofs.Ytkfinkmbdpdepaa
open Go.RowKit

/-- Bytes that were just written out. -/
theorem bs_lit (w : World) (s : List UInt8) (vs : Array Value) (e : TypeId) (hv : vs = (s.map byteV).toArray) (hm : s.length ≤ maxLen) : Bs (w.alloc (.cells vs e)) (some ⟨w.heap.size, 0, none⟩) s.length s.length s := by
  subst hv
  have := Sl.lit w (s.map byteV) e (by simpa using hm)
  rwa [List.length_map] at this
/-- The same, as a row of the call's own. -/
theorem own_lit (w : World) (s : List UInt8) (vs : Array Value) (e : TypeId) (base : Nat) (hb : base ≤ w.heap.size) (hv : vs = (s.map byteV).toArray) (hm : s.length ≤ maxLen) : Own (w.alloc (.cells vs e)) base e (some ⟨w.heap.size, 0, none⟩) s.length s.length s := by
  subst hv
  have := World.ownsRow_lit (base := base) (e := e) (size := 1) w (s.map byteV).toArray s.length hb hm (by simp)
  simpa [Own] using this
/-- 'append(out, x...)': x a string. -/
theorem wpList_appS {P : Program} (w : World) {ops : Array Oper} {rest : List Oper} {o : Oper} {a : Act} {Q : Exit → Act → World → Prop} (hgd : o.guard = none) (s x : Operand) (t u : TypeId)
    (ho : o.op = .call { callee := .builtin .append, args := #[s, x], argTypes := #[t, u] })
    (base : Nat) (e : TypeId) (ht : P.underlying t = some (.slice e)) (hu : P.underlying u = some .string) (hinfo : (P.info? e).map (fun i => (i.zero, i.size, i.bytes)) = some (some (.int .u8 0), 1, 1))
    (A : Option Addr) (n c : Nat) (S : List UInt8) (hs : a.eval s = .slice A n c) (hown : Own w base e A n c S)
    (T : ByteArray) (hx : a.eval x = .string T) (hb : n + T.size ≤ 140737488355328) (hbase : base ≤ w.heap.size)
    (h : ∀ A' c' w', Own w' base e A' (n + T.size) c' (S ++ T.data.toList) → Below base w w' → wpList P ops Q rest (a.put o.dst (.slice A' (n + T.size) c')) w') : wpList P ops Q (o :: rest) a w := by
  obtain ⟨i, hi, hz, hz1, hz2⟩ := info_parts hinfo
  refine Lib.wpList_append_own_string w hgd s x t u ho base e i ht hu hi hz hz1 hz2 _ n _ hs hown T hx (by simp only [maxLen]; omega) hb hbase ?_
  intro v' w' hown' hg _
  have e1 : S.map byteV ++ Lib.strCells T = (S ++ T.data.toList).map byteV := by rw [List.map_append]; rfl
  rw [e1] at hown'
  obtain ⟨A', c', rfl, hO⟩ := own_form hown'
  exact h A' c' w' hO ((Below.refl _ _).grown hg hbase fun k hk => (World.ownsRow.lt hown k hk).1)
theorem extract_list (s : ByteArray) (i j : Nat) : (s.extract i j).data.toList = (s.data.toList.drop i).take (j - i) := by
  rw [ByteArray.data_extract, Array.toList_extract, List.extract_eq_take_drop]
theorem extract_size (s : ByteArray) {i j : Nat} (h : j ≤ s.size) : (s.extract i j).size = j - i := by
  rw [ByteArray.size_extract, Nat.min_eq_left h]

end Go.Proofs.Ytkfinkmbdpdepaa

/-
  Variables that lie in memory as structs of eight cells: a struct stored whole. Nothing here speaks of a program.
-/
namespace Go.Proofs.Ytkfinkmbdpdepaa
open Go.RowKit

/-- A struct of eight cells, stored whole. -/
def put8 (w : World) (b : Nat) (u0 u1 u2 u3 u4 u5 u6 u7 : Value) : World := (((((((w.setCell ⟨b, 0, none⟩ u0).setCell ⟨b, 1, none⟩ u1).setCell ⟨b, 2, none⟩ u2).setCell ⟨b, 3, none⟩ u3).setCell ⟨b, 4, none⟩ u4).setCell ⟨b, 5, none⟩ u5).setCell ⟨b, 6, none⟩ u6).setCell ⟨b, 7, none⟩ u7
section
variable {w w' : World} {b : Nat} {x0 x1 x2 x3 x4 x5 x6 x7 : Value}
theorem Box.put8 (k : Box w b [x0, x1, x2, x3, x4, x5, x6, x7]) (u0 u1 u2 u3 u4 u5 u6 u7 : Value) : Box (put8 w b u0 u1 u2 u3 u4 u5 u6 u7) b [u0, u1, u2, u3, u4, u5, u6, u7] :=
  (((((((k.set 0 u0 (by simp)).set 1 u1 (by simp)).set 2 u2 (by simp)).set 3 u3 (by simp)).set 4 u4 (by simp)).set 5 u5 (by simp)).set 6 u6 (by simp)).set 7 u7 (by simp)
theorem Box.eight (h : Box w b [x0, x1, x2, x3, x4, x5, x6, x7]) : (w.cell? ⟨b, 0, none⟩ = some x0 ∧ w.cell? ⟨b, 1, none⟩ = some x1 ∧ w.cell? ⟨b, 2, none⟩ = some x2 ∧ w.cell? ⟨b, 3, none⟩ = some x3 ∧ w.cell? ⟨b, 4, none⟩ = some x4 ∧ w.cell? ⟨b, 5, none⟩ = some x5 ∧ w.cell? ⟨b, 6, none⟩ = some x6 ∧ w.cell? ⟨b, 7, none⟩ = some x7) ∧ b < w.heap.size :=
  ⟨⟨h.1 0 _ rfl, h.1 1 _ rfl, h.1 2 _ rfl, h.1 3 _ rfl, h.1 4 _ rfl, h.1 5 _ rfl, h.1 6 _ rfl, h.1 7 _ rfl⟩, h.2.2⟩
theorem Box.free8 {xs : List Value} (h : Box w b xs) : w.frozen? ⟨b, 0, none⟩ = false ∧ w.frozen? ⟨b, 1, none⟩ = false ∧ w.frozen? ⟨b, 2, none⟩ = false ∧ w.frozen? ⟨b, 3, none⟩ = false ∧ w.frozen? ⟨b, 4, none⟩ = false ∧ w.frozen? ⟨b, 5, none⟩ = false ∧ w.frozen? ⟨b, 6, none⟩ = false ∧ w.frozen? ⟨b, 7, none⟩ = false :=
  ⟨h.2.1 0, h.2.1 1, h.2.1 2, h.2.1 3, h.2.1 4, h.2.1 5, h.2.1 6, h.2.1 7⟩
theorem Box.far8 {c : Nat} {xs : List Value} (h : Box w c xs) (hne : b ≠ c) (u0 u1 u2 u3 u4 u5 u6 u7 : Value) : Box (Proofs.Ytkfinkmbdpdepaa.put8 w b u0 u1 u2 u3 u4 u5 u6 u7) c xs :=
  (((((((h.other (p := ⟨b, 0, none⟩) u0 hne).other (p := ⟨b, 1, none⟩) u1 hne).other (p := ⟨b, 2, none⟩) u2 hne).other (p := ⟨b, 3, none⟩) u3 hne).other (p := ⟨b, 4, none⟩) u4 hne).other (p := ⟨b, 5, none⟩) u5 hne).other (p := ⟨b, 6, none⟩) u6 hne).other (p := ⟨b, 7, none⟩) u7 hne
theorem rowV_put8 {base n c : Nat} {e : TypeId} {A : Option Addr} {xs : List Value} (h : w.ownsRow base e 1 (.slice A n c) n xs) (hp : some b ≠ rowOf A) (u0 u1 u2 u3 u4 u5 u6 u7 : Value) : (put8 w b u0 u1 u2 u3 u4 u5 u6 u7).ownsRow base e 1 (.slice A n c) n xs :=
  rowV_other (p := ⟨b, 7, none⟩) (rowV_other (p := ⟨b, 6, none⟩) (rowV_other (p := ⟨b, 5, none⟩) (rowV_other (p := ⟨b, 4, none⟩) (rowV_other (p := ⟨b, 3, none⟩) (rowV_other (p := ⟨b, 2, none⟩) (rowV_other (p := ⟨b, 1, none⟩) (rowV_other (p := ⟨b, 0, none⟩) h u0 hp) u1 hp) u2 hp) u3 hp) u4 hp) u5 hp) u6 hp) u7 hp
theorem below_put8 {B : Nat} (h : Below B w' w) (hb : B ≤ b) (u0 u1 u2 u3 u4 u5 u6 u7 : Value) : Below B w' (put8 w b u0 u1 u2 u3 u4 u5 u6 u7) :=
  (((((((h.setCell (p := ⟨b, 0, none⟩) hb u0).setCell (p := ⟨b, 1, none⟩) hb u1).setCell (p := ⟨b, 2, none⟩) hb u2).setCell (p := ⟨b, 3, none⟩) hb u3).setCell (p := ⟨b, 4, none⟩) hb u4).setCell (p := ⟨b, 5, none⟩) hb u5).setCell (p := ⟨b, 6, none⟩) hb u6).setCell (p := ⟨b, 7, none⟩) hb u7
end

end Go.Proofs.Ytkfinkmbdpdepaa

/-
  Variables that lie in memory as structs of 12 cells: a struct stored whole. Nothing here speaks of a program.
-/
namespace Go.Proofs.Ytkfinkmbdpdepaa
open Go.RowKit

/-- A struct of 12 cells, stored whole. -/
def put12 (w : World) (b : Nat) (u0 u1 u2 u3 u4 u5 u6 u7 u8 u9 u10 u11 : Value) : World := (((((((((((w.setCell ⟨b, 0, none⟩ u0).setCell ⟨b, 1, none⟩ u1).setCell ⟨b, 2, none⟩ u2).setCell ⟨b, 3, none⟩ u3).setCell ⟨b, 4, none⟩ u4).setCell ⟨b, 5, none⟩ u5).setCell ⟨b, 6, none⟩ u6).setCell ⟨b, 7, none⟩ u7).setCell ⟨b, 8, none⟩ u8).setCell ⟨b, 9, none⟩ u9).setCell ⟨b, 10, none⟩ u10).setCell ⟨b, 11, none⟩ u11
section
variable {w w' : World} {b : Nat} {x0 x1 x2 x3 x4 x5 x6 x7 x8 x9 x10 x11 : Value}
theorem Box.put12 (k : Box w b [x0, x1, x2, x3, x4, x5, x6, x7, x8, x9, x10, x11]) (u0 u1 u2 u3 u4 u5 u6 u7 u8 u9 u10 u11 : Value) : Box (put12 w b u0 u1 u2 u3 u4 u5 u6 u7 u8 u9 u10 u11) b [u0, u1, u2, u3, u4, u5, u6, u7, u8, u9, u10, u11] :=
  (((((((((((k.set 0 u0 (by simp)).set 1 u1 (by simp)).set 2 u2 (by simp)).set 3 u3 (by simp)).set 4 u4 (by simp)).set 5 u5 (by simp)).set 6 u6 (by simp)).set 7 u7 (by simp)).set 8 u8 (by simp)).set 9 u9 (by simp)).set 10 u10 (by simp)).set 11 u11 (by simp)
theorem Box.all12 (h : Box w b [x0, x1, x2, x3, x4, x5, x6, x7, x8, x9, x10, x11]) : (w.cell? ⟨b, 0, none⟩ = some x0 ∧ w.cell? ⟨b, 1, none⟩ = some x1 ∧ w.cell? ⟨b, 2, none⟩ = some x2 ∧ w.cell? ⟨b, 3, none⟩ = some x3 ∧ w.cell? ⟨b, 4, none⟩ = some x4 ∧ w.cell? ⟨b, 5, none⟩ = some x5 ∧ w.cell? ⟨b, 6, none⟩ = some x6 ∧ w.cell? ⟨b, 7, none⟩ = some x7 ∧ w.cell? ⟨b, 8, none⟩ = some x8 ∧ w.cell? ⟨b, 9, none⟩ = some x9 ∧ w.cell? ⟨b, 10, none⟩ = some x10 ∧ w.cell? ⟨b, 11, none⟩ = some x11) ∧ b < w.heap.size :=
  ⟨⟨h.1 0 _ rfl, h.1 1 _ rfl, h.1 2 _ rfl, h.1 3 _ rfl, h.1 4 _ rfl, h.1 5 _ rfl, h.1 6 _ rfl, h.1 7 _ rfl, h.1 8 _ rfl, h.1 9 _ rfl, h.1 10 _ rfl, h.1 11 _ rfl⟩, h.2.2⟩
theorem Box.free12 {xs : List Value} (h : Box w b xs) : w.frozen? ⟨b, 0, none⟩ = false ∧ w.frozen? ⟨b, 1, none⟩ = false ∧ w.frozen? ⟨b, 2, none⟩ = false ∧ w.frozen? ⟨b, 3, none⟩ = false ∧ w.frozen? ⟨b, 4, none⟩ = false ∧ w.frozen? ⟨b, 5, none⟩ = false ∧ w.frozen? ⟨b, 6, none⟩ = false ∧ w.frozen? ⟨b, 7, none⟩ = false ∧ w.frozen? ⟨b, 8, none⟩ = false ∧ w.frozen? ⟨b, 9, none⟩ = false ∧ w.frozen? ⟨b, 10, none⟩ = false ∧ w.frozen? ⟨b, 11, none⟩ = false :=
  ⟨h.2.1 0, h.2.1 1, h.2.1 2, h.2.1 3, h.2.1 4, h.2.1 5, h.2.1 6, h.2.1 7, h.2.1 8, h.2.1 9, h.2.1 10, h.2.1 11⟩
theorem Box.far12 {c : Nat} {xs : List Value} (h : Box w c xs) (hne : b ≠ c) (u0 u1 u2 u3 u4 u5 u6 u7 u8 u9 u10 u11 : Value) : Box (Proofs.Ytkfinkmbdpdepaa.put12 w b u0 u1 u2 u3 u4 u5 u6 u7 u8 u9 u10 u11) c xs :=
  (((((((((((h.other (p := ⟨b, 0, none⟩) u0 hne).other (p := ⟨b, 1, none⟩) u1 hne).other (p := ⟨b, 2, none⟩) u2 hne).other (p := ⟨b, 3, none⟩) u3 hne).other (p := ⟨b, 4, none⟩) u4 hne).other (p := ⟨b, 5, none⟩) u5 hne).other (p := ⟨b, 6, none⟩) u6 hne).other (p := ⟨b, 7, none⟩) u7 hne).other (p := ⟨b, 8, none⟩) u8 hne).other (p := ⟨b, 9, none⟩) u9 hne).other (p := ⟨b, 10, none⟩) u10 hne).other (p := ⟨b, 11, none⟩) u11 hne
theorem rowV_put12 {base n c : Nat} {e : TypeId} {A : Option Addr} {xs : List Value} (h : w.ownsRow base e 1 (.slice A n c) n xs) (hp : some b ≠ rowOf A) (u0 u1 u2 u3 u4 u5 u6 u7 u8 u9 u10 u11 : Value) : (put12 w b u0 u1 u2 u3 u4 u5 u6 u7 u8 u9 u10 u11).ownsRow base e 1 (.slice A n c) n xs :=
  rowV_other (p := ⟨b, 11, none⟩) (rowV_other (p := ⟨b, 10, none⟩) (rowV_other (p := ⟨b, 9, none⟩) (rowV_other (p := ⟨b, 8, none⟩) (rowV_other (p := ⟨b, 7, none⟩) (rowV_other (p := ⟨b, 6, none⟩) (rowV_other (p := ⟨b, 5, none⟩) (rowV_other (p := ⟨b, 4, none⟩) (rowV_other (p := ⟨b, 3, none⟩) (rowV_other (p := ⟨b, 2, none⟩) (rowV_other (p := ⟨b, 1, none⟩) (rowV_other (p := ⟨b, 0, none⟩) h u0 hp) u1 hp) u2 hp) u3 hp) u4 hp) u5 hp) u6 hp) u7 hp) u8 hp) u9 hp) u10 hp) u11 hp
theorem below_put12 {B : Nat} (h : Below B w' w) (hb : B ≤ b) (u0 u1 u2 u3 u4 u5 u6 u7 u8 u9 u10 u11 : Value) : Below B w' (put12 w b u0 u1 u2 u3 u4 u5 u6 u7 u8 u9 u10 u11) :=
  (((((((((((h.setCell (p := ⟨b, 0, none⟩) hb u0).setCell (p := ⟨b, 1, none⟩) hb u1).setCell (p := ⟨b, 2, none⟩) hb u2).setCell (p := ⟨b, 3, none⟩) hb u3).setCell (p := ⟨b, 4, none⟩) hb u4).setCell (p := ⟨b, 5, none⟩) hb u5).setCell (p := ⟨b, 6, none⟩) hb u6).setCell (p := ⟨b, 7, none⟩) hb u7).setCell (p := ⟨b, 8, none⟩) hb u8).setCell (p := ⟨b, 9, none⟩) hb u9).setCell (p := ⟨b, 10, none⟩) hb u10).setCell (p := ⟨b, 11, none⟩) hb u11
end

end Go.Proofs.Ytkfinkmbdpdepaa

/-
  A region that draws its order, walked step by step: going over to a stronger condition in the middle of it.
-/
namespace Go.Proofs.Ytkfinkmbdpdepaa

/-- A condition that says more serves where one that says less is asked. -/
theorem wpAnyH_mono {P : Program} {ops : Array Oper} {Q : Exit → Act → World → Prop} {md : Region.Mode} {S1 S2 : World → Prop} (hS : ∀ w, S2 w → S1 w) :
    ∀ {fuel : Nat} {listed : Array Bool} {a : Act} {w : World}, wpAnyH P md ops Q S2 fuel listed a w → wpAnyH P md ops Q S1 fuel listed a w
  | 0, _, _, _, h => h
  | _ + 1, _, _, _, h => ⟨h.1, fun i hi => wpOp_mono (fun _ _ k => ⟨hS _ k.1, wpAnyH_mono hS k.2⟩) (h.2 i hi)⟩

end Go.Proofs.Ytkfinkmbdpdepaa

/-
  From the reading of an argument to the words of the texts on memory: a slice of bytes that came in.
-/
namespace Go.Proofs.Ytkfinkmbdpdepaa
open Go.RowKit

/-- What a walk is told of a slice of integers that came in. -/
def IsRow (k : IntKind) (w : World) (a : Option Addr) (len cap : Nat) (zs : List Int) : Prop :=
  (a = none ∧ len = 0 ∧ cap = 0 ∧ zs = []) ∨
  ∃ x, a = some x ∧ len ≤ cap ∧ cap ≤ maxLen ∧ zs.length = cap ∧ (∀ i, i < zs.length → w.cell? (x.add i) = some (.int k (zs.getD i 0))) ∧ ∀ n ∈ zs, (Lit.int k n).wf = true

/-- What a walk is told of a slice of bools that came in. -/
def IsBools (w : World) (a : Option Addr) (len cap : Nat) (B : Nat → Bool) : Prop :=
  (a = none ∧ len = 0 ∧ cap = 0) ∨ ∃ x, a = some x ∧ len ≤ cap ∧ cap ≤ maxLen ∧ ∀ i, i < cap → w.cell? (x.add i) = some (.bool (B i))

theorem bound_u8 {n : Int} (h : (Lit.int .u8 n).wf = true) : 0 ≤ n ∧ n ≤ 255 := by
  have h1 : IntKind.u8.min = 0 := rfl
  have h2 : IntKind.u8.max = 255 := rfl
  simp only [Lit.wf, Bool.and_eq_true, decide_eq_true_eq] at h
  omega

theorem bs_of_row {w : World} {a : Option Addr} {len cap : Nat} {zs : List Int} (h : IsRow .u8 w a len cap zs) : ∃ s, Bs w a len cap s := by
  rcases h with ⟨rfl, rfl, rfl, rfl⟩ | ⟨x, rfl, hl, hm, hz, hcell, hwz⟩
  · exact ⟨[], Bs.nil w⟩
  · refine ⟨(zs.take len).map fun n => UInt8.ofNat n.toNat, by simp; omega, hl, hm, (fun h => by cases h), fun hn => ?_⟩
    obtain ⟨b, off, spot⟩ := x
    have hspot : spot = none := by
      have := World.cell?_spot (hcell 0 (by omega))
      simpa [Addr.add] using this
    subst hspot
    refine ⟨b, off, rfl, fun i y hy => ?_⟩
    rw [List.map_map, List.getElem?_map] at hy
    have hi : i < len := by
      rcases Nat.lt_or_ge i len with h | h
      · exact h
      · rw [List.getElem?_eq_none (by simp; omega)] at hy; cases hy
    have hc := hcell i (by omega)
    rw [add_plain'] at hc
    rw [hc]
    rw [List.getElem?_take_of_lt hi, List.getElem?_eq_getElem (by omega)] at hy
    simp only [Option.map_some, Option.some.injEq, Function.comp] at hy
    rw [← hy, byteV_ofNat]
    have hb := bound_u8 (hwz _ (List.getElem_mem (show i < zs.length by omega)))
    simp only [List.getD, List.getElem?_eq_getElem (show i < zs.length by omega), Option.getD_some]
    congr 2
    omega

end Go.Proofs.Ytkfinkmbdpdepaa

/-
  Slices of structs in memory: a slice value whose n elements, of k cells each, hold a list of values; and append onto a row of the call's own of such. Nothing here speaks of a program.
-/
namespace Go.Proofs.Ytkfinkmbdpdepaa
open Go.RowKit

/-- The slice value with address A, length n and capacity c holds the values xs (k cells each element). -/
def SlK (k : Nat) (w : World) (A : Option Addr) (n c : Nat) (xs : List Value) : Prop :=
  xs.length = n * k ∧ n ≤ c ∧ c ≤ maxLen ∧ (A = none → c = 0) ∧ (0 < n → ∃ b o, A = some ⟨b, o, none⟩ ∧ ∀ i x, xs[i]? = some x → w.cell? ⟨b, o + i, none⟩ = some x)

section
variable {k : Nat} {w w' : World} {A : Option Addr} {n c : Nat} {xs : List Value}
theorem SlK.len (h : SlK k w A n c xs) : xs.length = n * k := h.1
theorem SlK.le (h : SlK k w A n c xs) : n ≤ c := h.2.1
theorem SlK.cap (h : SlK k w A n c xs) : c ≤ maxLen := h.2.2.1
theorem SlK.none_ (h : SlK k w A n c xs) : A = none → c = 0 := h.2.2.2.1
theorem SlK.at_ (h : SlK k w A n c xs) (hk : 0 < k) (hn : 0 < n) : ∃ b o, A = some ⟨b, o, none⟩ ∧ b < w.heap.size ∧ ∀ i x, xs[i]? = some x → w.cell? ⟨b, o + i, none⟩ = some x := by
  obtain ⟨b, o, hA, hc⟩ := h.2.2.2.2 hn
  have hx : 0 < xs.length := by rw [h.1]; exact Nat.mul_pos hn hk
  have h0 := hc 0 _ (List.getElem?_eq_getElem hx)
  exact ⟨b, o, hA, World.block_lt_of_cell? _ _ h0, hc⟩
theorem SlK.nil (k : Nat) (w : World) : SlK k w none 0 0 [] := ⟨by simp, Nat.zero_le _, Nat.zero_le _, fun _ => rfl, fun h => absurd h (by omega)⟩
theorem SlK.keep (h : SlK k w A n c xs) (hk : ∀ p : Addr, p.block < w.heap.size → w'.cell? p = w.cell? p) : SlK k w' A n c xs := by
  refine ⟨h.1, h.2.1, h.2.2.1, h.2.2.2.1, fun hn => ?_⟩
  obtain ⟨b, o, hA, hc⟩ := h.2.2.2.2 hn
  exact ⟨b, o, hA, fun i x hx => (hk ⟨b, o + i, none⟩ (World.block_lt_of_cell? _ _ (hc i x hx))).trans (hc i x hx)⟩
theorem SlK.below (h : SlK k w A n c xs) (hb : Below w.heap.size w w') : SlK k w' A n c xs := h.keep fun _ hp => hb.cell hp
theorem SlK.drewN (h : SlK k w A n c xs) (j : Nat) : SlK k (w.drewN j) A n c xs := h
theorem SlK.drew (h : SlK k w A n c xs) : SlK k w.drew A n c xs := h
theorem SlK.alloc (h : SlK k w A n c xs) (o : Obj) : SlK k (w.alloc o) A n c xs := h.below ((Below.refl _ _).alloc (Nat.le_refl _) o)
theorem SlK.nothing (h : SlK k w A n c xs) : A = none → n = 0 ∧ c = 0 := fun hA => by
  have := h.none_ hA
  have := h.le
  omega
theorem SlK.added (h : SlK k w A n c xs) : ∀ ad, A = some ad → ∀ j u, xs[j]? = some u → w.cell? (ad.add j) = some u := by
  intro ad hA j u hu
  have hj : j < xs.length := (List.getElem?_eq_some_iff.1 hu).1
  have hn : 0 < n := by
    rcases Nat.eq_zero_or_pos n with h0 | h0
    · rw [h.1, h0, Nat.zero_mul] at hj; omega
    · exact h0
  obtain ⟨b, o, hA', hc⟩ := h.2.2.2.2 hn
  rw [hA] at hA'
  injection hA' with e
  rw [e, add_plain']
  exact hc j u hu
/-- What a call owns, read as a slice. -/
theorem SlK.of_own {base : Nat} {e : TypeId} (h : w.ownsRow base e k (.slice A n c) n xs) : SlK k w A n c xs := by
  obtain ⟨hl, h2⟩ := h
  rcases h2 with ⟨h3, h4⟩ | ⟨g, cap, cur, hv, hb, hg, hnc, hcm, hs, ht⟩
  · injection h3 with e1 e2 e3
    subst e1; subst e2; subst e3
    have : xs = [] := List.eq_nil_of_length_eq_zero (by simpa using hl)
    subst this
    exact SlK.nil k w
  · injection hv with e1 e2 e3
    subst e1; subst e3
    refine ⟨hl, hnc, hcm, (fun h => by cases h), fun _ => ⟨g, 0, rfl, fun i x hx => ?_⟩⟩
    rw [Nat.zero_add, cell_of_row w g i cur e (0, 0) hg]
    rw [← ht, List.getElem?_take] at hx
    split at hx
    · simpa using hx
    · cases hx
theorem SlK.grown {row : Option Nat} (h : SlK k w A n c xs) (hg : w.grownBy w' row) (hne : 0 < n → rowOf A ≠ row) : SlK k w' A n c xs := by
  refine ⟨h.1, h.2.1, h.2.2.1, h.2.2.2.1, fun hn => ?_⟩
  obtain ⟨b, o, hA, hc⟩ := h.2.2.2.2 hn
  refine ⟨b, o, hA, fun i x hx => ?_⟩
  have hlt := World.block_lt_of_cell? _ _ (hc i x hx)
  rw [cell_heap (hg.block b hlt (by have := hne hn; rw [hA] at this; exact this))]
  exact hc i x hx
theorem SlK.setFar {p : Addr} (h : SlK k w A n c xs) (u : Value) (hne : 0 < n → rowOf A ≠ some p.block) : SlK k (w.setCell p u) A n c xs := by
  refine ⟨h.1, h.2.1, h.2.2.1, h.2.2.2.1, fun hn => ?_⟩
  obtain ⟨b, o, hA, hc⟩ := h.2.2.2.2 hn
  refine ⟨b, o, hA, fun i x hx => ?_⟩
  rw [World.cell?_setCell_other]
  · exact hc i x hx
  · intro e
    subst e
    exact hne hn (by rw [hA]; rfl)
theorem SlK.row_lt (h : SlK k w A n c xs) (hk : 0 < k) (hn : 0 < n) : ∃ b, rowOf A = some b ∧ b < w.heap.size := by
  obtain ⟨b, o, rfl, hlt, _⟩ := h.at_ hk hn
  exact ⟨b, rfl, hlt⟩
end

/-- Elements as values: k cells each. -/
theorem flat_get {α : Type} {enc : α → List Value} {k : Nat} (hk : ∀ x, (enc x).length = k) : ∀ (l : List α) (i j : Nat), j < k → (l.flatMap enc)[i * k + j]? = (l[i]?).bind fun x => (enc x)[j]? := by
  intro l
  induction l with
  | nil => intro i j _; simp
  | cons x l ih =>
    intro i j hj
    rw [List.flatMap_cons]
    cases i with
    | zero =>
      rw [Nat.zero_mul, Nat.zero_add, List.getElem?_append_left (by rw [hk]; exact hj)]
      rfl
    | succ i =>
      rw [List.getElem?_append_right (by rw [hk, Nat.add_mul]; omega), hk, show (i + 1) * k + j - k = i * k + j by rw [Nat.add_mul]; omega, ih i j hj]
      rfl
theorem flat_length {α : Type} {enc : α → List Value} {k : Nat} (hk : ∀ x, (enc x).length = k) (l : List α) : (l.flatMap enc).length = l.length * k := by
  induction l with
  | nil => simp
  | cons x l ih => rw [List.flatMap_cons, List.length_append, hk, ih, List.length_cons, Nat.add_mul]; omega

section
variable {k : Nat} {w w' : World} {base n c : Nat} {e : TypeId} {A : Option Addr} {xs : List Value}
theorem rowK_below (h : w.ownsRow base e k (.slice A n c) n xs) (hb : Below w.heap.size w w') : w'.ownsRow base e k (.slice A n c) n xs := by
  obtain ⟨h1, h2⟩ := h
  refine ⟨h1, ?_⟩
  rcases h2 with h2 | ⟨g, cap, cur, hv, hg, hh, r⟩
  · exact .inl h2
  · exact .inr ⟨g, cap, cur, hv, hg, (hb.block g (lt_of_block hh)).trans hh, r⟩
theorem rowK_alloc (h : w.ownsRow base e k (.slice A n c) n xs) (o : Obj) : (w.alloc o).ownsRow base e k (.slice A n c) n xs := rowK_below h ((Below.refl _ _).alloc (Nat.le_refl _) o)
theorem rowK_mono {base' : Nat} (h : w.ownsRow base e k (.slice A n c) n xs) (hb : base' ≤ base) : w.ownsRow base' e k (.slice A n c) n xs := by
  obtain ⟨h1, h2⟩ := h
  refine ⟨h1, ?_⟩
  rcases h2 with h2 | ⟨g, cap, cur, hv, hg, r⟩
  · exact .inl h2
  · exact .inr ⟨g, cap, cur, hv, by omega, r⟩
/-- A store elsewhere. -/
theorem rowK_other {p : Addr} (h : w.ownsRow base e k (.slice A n c) n xs) (u : Value) (hp : some p.block ≠ rowOf A) : (w.setCell p u).ownsRow base e k (.slice A n c) n xs := by
  obtain ⟨h1, h2⟩ := h
  refine ⟨h1, ?_⟩
  rcases h2 with h2 | ⟨g', cap', cur, hv, hg, hh, r⟩
  · exact .inl h2
  · injection hv with e1 e2 e3
    subst e1 e3
    exact .inr ⟨g', c, cur, rfl, hg, (Below.heap_setCell _ _ _ _ (fun e => hp (by rw [← e]; rfl))).trans hh, r⟩
theorem rowK_nil (w : World) (base : Nat) (e : TypeId) (k : Nat) : w.ownsRow base e k (.slice none 0 0) 0 [] := ⟨by simp, .inl ⟨rfl, rfl⟩⟩
theorem rowK_form {v : Value} (h : w.ownsRow base e k v n xs) : ∃ A c, v = .slice A n c := by
  obtain ⟨h1, h2⟩ := h
  rcases h2 with ⟨rfl, h3⟩ | ⟨g, cap, cur, rfl, r⟩
  · subst h3
    exact ⟨none, 0, rfl⟩
  · exact ⟨_, _, rfl⟩
/-- Elements that were just written out, as a row of the call's own. -/
theorem rowK_lit (w : World) (vs : Array Value) (m : Nat) (hb : base ≤ w.heap.size) (hm : m ≤ maxLen) (hl : vs.size = m * k) : (w.alloc (.cells vs e)).ownsRow base e k (.slice (some ⟨w.heap.size, 0, none⟩) m m) m vs.toList :=
  World.ownsRow_lit (base := base) (e := e) (size := k) w vs m hb hm hl
/-- Elements that were just written out. -/
theorem SlK.lit (w : World) (vs : Array Value) (t : TypeId) (m : Nat) (hm : m ≤ maxLen) (hl : vs.size = m * k) : SlK k (w.alloc (.cells vs t)) (some ⟨w.heap.size, 0, none⟩) m m vs.toList :=
  SlK.of_own (base := w.heap.size) (rowK_lit w vs m (Nat.le_refl _) hm hl)
end

theorem run_appK {P : Program} (w : World) (t ty : TypeId) (base : Nat) (e : TypeId) (z : Value) (k bytes : Nat) (ht : P.underlying t = some (.slice e)) (hinfo : (P.info? e).map (fun i => (i.zero, i.size, i.bytes)) = some (some z, k, bytes)) (hz0 : z.cells.size = k) (hk : 0 < k)
    (A : Option Addr) (n c : Nat) (xs : List Value) (hown : w.ownsRow base e k (.slice A n c) n xs) (ad : Addr) (m d : Nat) (news : List Value) (hl : news.length = m * k) (hnews : ∀ j u, news[j]? = some u → w.cell? (ad.add j) = some u) (h1 : ∀ u ∈ news, u.oneCell' = true)
    (hm : n + m ≤ maxLen) (hb : (n + m) * bytes ≤ 140737488355328) (hbase : base ≤ w.heap.size) :
    ∃ A' c' w', (Builtin.append_ #[t, t] ty #[.slice A n c, .slice (some ad) m d]).run P w = .ok (.slice A' (n + m) c') w' ∧ w'.ownsRow base e k (.slice A' (n + m) c') (n + m) (xs ++ news) ∧ w.grownBy w' (rowOf A) ∧ (rowOf A' = rowOf A ∨ rowOf A' = some w.heap.size) := by
  obtain ⟨i, hi, hz, hz1, hz2⟩ := info_parts hinfo
  obtain ⟨v', w', hr, h2, h3, _, h5⟩ := run_append_own_at (P := P) w base t ty e i z k bytes ht hi hz hz1 hz2 hz0 hk (.slice A n c) n xs hown ad m d news hl hnews h1 hm hb hbase
  obtain ⟨A', c', rfl⟩ := rowK_form h2
  rw [ownBlock_slice] at h3
  rw [ownBlock_slice, ownBlock_slice] at h5
  exact ⟨A', c', w', hr, h2, h3, h5⟩
/-- At a plain operation. -/
theorem wpList_appK {P : Program} {w : World} {ops : Array Oper} {rest : List Oper} {o : Oper} {a : Act} {Q : Exit → Act → World → Prop} (hgd : o.guard = none) (s x : Operand) (t : TypeId)
    (ho : o.op = .call { callee := .builtin .append, args := #[s, x], argTypes := #[t, t] })
    (base : Nat) (e : TypeId) (z : Value) (k bytes : Nat) (ht : P.underlying t = some (.slice e)) (hinfo : (P.info? e).map (fun i => (i.zero, i.size, i.bytes)) = some (some z, k, bytes)) (hz0 : z.cells.size = k) (hk : 0 < k)
    (A : Option Addr) (n c : Nat) (xs : List Value) (hs : a.eval s = .slice A n c) (hown : w.ownsRow base e k (.slice A n c) n xs)
    (ad : Addr) (m d : Nat) (news : List Value) (hx : a.eval x = .slice (some ad) m d) (hl : news.length = m * k) (hnews : ∀ j u, news[j]? = some u → w.cell? (ad.add j) = some u) (h1 : ∀ u ∈ news, u.oneCell' = true)
    (hm : n + m ≤ maxLen) (hb : (n + m) * bytes ≤ 140737488355328) (hbase : base ≤ w.heap.size)
    (h : ∀ A' c' w', w'.ownsRow base e k (.slice A' (n + m) c') (n + m) (xs ++ news) → w.grownBy w' (rowOf A) → (rowOf A' = rowOf A ∨ rowOf A' = some w.heap.size) → wpList P ops Q rest (a.put o.dst (.slice A' (n + m) c')) w') : wpList P ops Q (o :: rest) a w := by
  refine wpList_plain hgd fun K hK => ?_
  obtain ⟨A', c', w', hr, h2, h3, h4⟩ := run_appK (P := P) w t o.type base e z k bytes ht hinfo hz0 hk A n c xs hown ad m d news hl hnews h1 hm hb hbase
  unfold Oper.wp execOp
  simp only [ho, resolve, invoke, builtin, Sem.run_bind, Sem.run_pure, Result.andThen_ok, List.map_toArray, List.map_cons, List.map_nil, hs, hx, hr]
  exact hK _ _ (h A' c' w' h2 h3 h4)
/-- At an operation of a region that draws its order. -/
theorem step_appK {P : Program} {w : World} {ops : Array Oper} {o : Oper} {a : Act} {K : Act → World → Prop} {Q : Exit → Act → World → Prop} {E : Prop} (hgd : o.guard = none) (s x : Operand) (t : TypeId)
    (ho : o.op = .call { callee := .builtin .append, args := #[s, x], argTypes := #[t, t] })
    (base : Nat) (e : TypeId) (z : Value) (k bytes : Nat) (ht : P.underlying t = some (.slice e)) (hinfo : (P.info? e).map (fun i => (i.zero, i.size, i.bytes)) = some (some z, k, bytes)) (hz0 : z.cells.size = k) (hk : 0 < k)
    (A : Option Addr) (n c : Nat) (xs : List Value) (hs : a.eval s = .slice A n c) (hown : w.ownsRow base e k (.slice A n c) n xs)
    (ad : Addr) (m d : Nat) (news : List Value) (hx : a.eval x = .slice (some ad) m d) (hl : news.length = m * k) (hnews : ∀ j u, news[j]? = some u → w.cell? (ad.add j) = some u) (h1 : ∀ u ∈ news, u.oneCell' = true)
    (hm : n + m ≤ maxLen) (hb : (n + m) * bytes ≤ 140737488355328) (hbase : base ≤ w.heap.size)
    (h : ∀ A' c' w', w'.ownsRow base e k (.slice A' (n + m) c') (n + m) (xs ++ news) → w.grownBy w' (rowOf A) → (rowOf A' = rowOf A ∨ rowOf A' = some w.heap.size) → K (a.put o.dst (.slice A' (n + m) c')) w') :
    if Region.wanted o (yielded ops a.tmps) = true then Oper.wp P o a w K Q else E := by
  have hw : Region.wanted o (yielded ops a.tmps) = true := by simp [Region.wanted, hgd]
  rw [if_pos hw]
  obtain ⟨A', c', w', hr, h2, h3, h4⟩ := run_appK (P := P) w t o.type base e z k bytes ht hinfo hz0 hk A n c xs hown ad m d news hl hnews h1 hm hb hbase
  unfold Oper.wp execOp
  simp only [ho, resolve, invoke, builtin, Sem.run_bind, Sem.run_pure, Result.andThen_ok, List.map_toArray, List.map_cons, List.map_nil, hs, hx, hr]
  exact h A' c' w' h2 h3 h4

end Go.Proofs.Ytkfinkmbdpdepaa

/-
  What the document's own answers for layer 1 come to, as later layers call them: a number out of bytes, a number's bytes. (Cut out of the texts on layer 1.)
-/
namespace Go.Proofs.Ytkfinkmbdpdepaa
open Go.RowKit


theorem getE_arg {l : Nat} {a n : Int} (h : n < 1 ∨ 8 < n ∨ a < 0) : getE l a n = 1 := if_pos h
theorem getE_short {l : Nat} {a n : Int} (h : ¬ (n < 1 ∨ 8 < n ∨ a < 0)) (h2 : (l : Int) < a + n) : getE l a n = 2 := by unfold getE; rw [if_neg h, if_pos h2]
theorem getV_none {s : List UInt8} {a n : Int} (h : getE s.length a n ≠ 0) : getV s a n = 0 := if_neg h
theorem num_bound (s : List UInt8) (a n k : Nat) (h : k < n) (h2 : n ≤ 8) : num ((s.drop a).take k) < 72057594037927936 := by
  have hv := num_lt ((s.drop a).take k)
  have hv2 : (256 : Nat) ^ ((s.drop a).take k).length ≤ 256 ^ 7 := Nat.pow_le_pow_right (by omega) (by simp; omega)
  omega

end Go.Proofs.Ytkfinkmbdpdepaa

/-
  Headers as plain data: their bytes, and which one bytes begin with.
-/
namespace Go.Proofs.Ytkfinkmbdpdepaa

/-- A byte of bytes. -/
def g8 (S : List UInt8) (i : Nat) : Nat := (S.getD i 0).toNat
theorem g8_lt (S : List UInt8) (i : Nat) : g8 S i < 256 := (S.getD i 0).toNat_lt
/-- Numbers of four bytes, one behind the other. -/
def be4s (l : List Nat) : List UInt8 := (l.map (be 4)).flatten
def nums4 : Nat → List UInt8 → List Nat
  | 0, _ => []
  | k + 1, S => num (S.take 4) :: nums4 k (S.drop 4)
theorem be4s_nil : be4s [] = [] := rfl
theorem be4s_cons (x : Nat) (l : List Nat) : be4s (x :: l) = be 4 x ++ be4s l := by simp [be4s]
theorem be4s_snoc (l : List Nat) (x : Nat) : be4s (l ++ [x]) = be4s l ++ be 4 x := by simp [be4s]
theorem be4s_length (l : List Nat) : (be4s l).length = 4 * l.length := by
  induction l with
  | nil => rfl
  | cons x l ih => rw [be4s_cons, List.length_append, be_length, ih, List.length_cons]; omega
theorem nums4_length (k : Nat) : ∀ S : List UInt8, (nums4 k S).length = k := by
  induction k with
  | zero => intro S; rfl
  | succ k ih => intro S; simp [nums4, ih]
theorem nums4_lt (k : Nat) : ∀ S : List UInt8, ∀ x ∈ nums4 k S, x < 4294967296 := by
  induction k with
  | zero => intro S x hx; simp [nums4] at hx
  | succ k ih =>
    intro S x hx
    simp only [nums4, List.mem_cons] at hx
    rcases hx with rfl | hx
    · have h := num_lt (S.take 4)
      have h2 : (256 : Nat) ^ (S.take 4).length ≤ 256 ^ 4 := Nat.pow_le_pow_right (by omega) (by simp; omega)
      exact Nat.lt_of_lt_of_le h h2
    · exact ih _ x hx
theorem nums4_be (l : List Nat) (h : ∀ x ∈ l, x < 4294967296) (t : List UInt8) : nums4 l.length (be4s l ++ t) = l := by
  induction l with
  | nil => rfl
  | cons x l ih =>
    have hl : (be 4 x).length = 4 := be_length 4 x
    rw [List.length_cons, nums4, be4s_cons, List.append_assoc, List.take_left' hl, List.drop_left' hl, ih (fun y hy => h y (by simp [hy])), num_be]
    have := h x (by simp)
    rw [Nat.mod_eq_of_lt (by simpa using this)]
theorem be_nums4 (k : Nat) : ∀ S : List UInt8, 4 * k ≤ S.length → be4s (nums4 k S) = S.take (4 * k) := by
  induction k with
  | zero => intro S _; rfl
  | succ k ih =>
    intro S h
    rw [nums4, be4s_cons, ih _ (by rw [List.length_drop]; omega)]
    have h1 := be_num (S.take 4)
    rw [List.length_take, Nat.min_eq_left (by omega)] at h1
    rw [h1, show 4 * (k + 1) = 4 + 4 * k by omega, List.take_add]
theorem nums4_snoc (k : Nat) : ∀ S : List UInt8, nums4 (k + 1) S = nums4 k S ++ [num ((S.drop (4 * k)).take 4)] := by
  induction k with
  | zero => intro S; simp [nums4]
  | succ k ih =>
    intro S
    rw [nums4, ih, nums4, List.cons_append, List.drop_drop, show 4 + 4 * k = 4 * (k + 1) by omega]

/-- A header. -/
structure Hd where
  pad : Bool
  ext : Bool
  mark : Bool
  typ : Int
  seq : Nat
  time : Nat
  ssrc : Nat
  csrc : List Nat
theorem Hd.eq_iff (a b : Hd) : a = b ↔ a.pad = b.pad ∧ a.ext = b.ext ∧ a.mark = b.mark ∧ a.typ = b.typ ∧ a.seq = b.seq ∧ a.time = b.time ∧ a.ssrc = b.ssrc ∧ a.csrc = b.csrc := by
  cases a; cases b
  simp
instance : DecidableEq Hd := fun a b => decidable_of_iff _ (Hd.eq_iff a b).symm
def zeroH : Hd := ⟨false, false, false, 0, 0, 0, 0, []⟩
/-- Its numbers fit. -/
def fitsH (h : Hd) : Prop := h.seq < 65536 ∧ h.time < 4294967296 ∧ h.ssrc < 4294967296 ∧ ∀ x ∈ h.csrc, x < 4294967296
def rightH (h : Hd) : Bool := decide (0 ≤ h.typ ∧ h.typ < 128 ∧ h.csrc.length < 16)
def n1 (b : Bool) (k : Nat) : Nat := if b then k else 0
def firstB (h : Hd) : Nat := 128 + h.csrc.length + n1 h.pad 32 + n1 h.ext 16
def secondB (h : Hd) : Nat := h.typ.toNat + n1 h.mark 128
def headB (h : Hd) : List UInt8 := UInt8.ofNat (firstB h) :: UInt8.ofNat (secondB h) :: (be 2 h.seq ++ (be 4 h.time ++ (be 4 h.ssrc ++ be4s h.csrc)))
theorem headB_length (h : Hd) : (headB h).length = 12 + 4 * h.csrc.length := by
  simp only [headB, List.length_cons, List.length_append, be_length, be4s_length]; omega
/-- Why bytes begin with no header; 0: they begin with one. -/
def hErr (b : List UInt8) : Nat := if b.length < 12 then 2 else if g8 b 0 / 64 ≠ 2 then 3 else if b.length < 12 + 4 * (g8 b 0 % 16) then 2 else 0
def hOf (b : List UInt8) : Hd := ⟨decide (g8 b 0 / 32 % 2 = 1), decide (g8 b 0 / 16 % 2 = 1), decide (128 ≤ g8 b 1), ((g8 b 1 % 128 : Nat) : Int), num ((b.drop 2).take 2), num ((b.drop 4).take 4), num ((b.drop 8).take 4), nums4 (g8 b 0 % 16) (b.drop 12)⟩
def readH (b : List UInt8) : Hd := if hErr b = 0 then hOf b else zeroH
def readN (b : List UInt8) : Nat := if hErr b = 0 then 12 + 4 * (g8 b 0 % 16) else 0
theorem hErr_zero {b : List UInt8} (h : hErr b = 0) : 12 ≤ b.length ∧ g8 b 0 / 64 = 2 ∧ 12 + 4 * (g8 b 0 % 16) ≤ b.length := by
  unfold hErr at h
  split at h
  · cases h
  · split at h
    · cases h
    · split at h
      · cases h
      · rename_i h1 h2 h3
        exact ⟨by omega, by simpa using h2, by omega⟩
theorem hErr_cases (b : List UInt8) : hErr b = 0 ∨ hErr b = 2 ∨ hErr b = 3 := by
  unfold hErr
  repeat' split
  all_goals simp
theorem n1_le (b : Bool) (k : Nat) : n1 b k ≤ k := by cases b <;> simp [n1]
theorem firstB_lt {h : Hd} (hr : h.csrc.length < 16) : firstB h < 192 ∧ 128 ≤ firstB h := by
  have h1 := n1_le h.pad 32
  have h2 := n1_le h.ext 16
  unfold firstB
  omega
theorem toNat_ofNat {n : Nat} (h : n < 256) : (UInt8.ofNat n).toNat = n := by
  rw [UInt8.toNat_ofNat']; exact Nat.mod_eq_of_lt h
theorem g8_first (h : Hd) (t : List UInt8) (hr : h.csrc.length < 16) : g8 (headB h ++ t) 0 = firstB h := by
  have := (firstB_lt hr).1
  show (UInt8.ofNat (firstB h)).toNat = _
  exact toNat_ofNat (by omega)
theorem g8_second (h : Hd) (t : List UInt8) (h0 : 0 ≤ h.typ) (h1 : h.typ < 128) : g8 (headB h ++ t) 1 = secondB h := by
  have := n1_le h.mark 128
  show (UInt8.ofNat (secondB h)).toNat = _
  exact toNat_ofNat (by unfold secondB; omega)
/-- A header is read from its bytes as it was, whatever is behind. -/
theorem read_head {h : Hd} (hr : rightH h = true) (hf : fitsH h) (t : List UInt8) : hErr (headB h ++ t) = 0 ∧ hOf (headB h ++ t) = h ∧ g8 (headB h ++ t) 0 % 16 = h.csrc.length := by
  unfold rightH at hr
  rw [decide_eq_true_eq] at hr
  obtain ⟨h0, h1, h2⟩ := hr
  obtain ⟨f1, f2, f3, f4⟩ := hf
  have e0 := g8_first h t h2
  have e1 := g8_second h t h0 h1
  have hn : firstB h % 16 = h.csrc.length := by unfold firstB n1; split <;> split <;> omega
  have hl : (headB h ++ t).length = 12 + 4 * h.csrc.length + t.length := by rw [List.length_append, headB_length]
  refine ⟨?_, ?_, by rw [e0, hn]⟩
  · unfold hErr
    rw [e0, hn, if_neg (by omega), if_neg (by have := firstB_lt h2; omega), if_neg (by omega)]
  · unfold hOf
    rw [e0, e1, hn]
    have d2 : (headB h ++ t).drop 2 = be 2 h.seq ++ (be 4 h.time ++ (be 4 h.ssrc ++ (be4s h.csrc ++ t))) := by simp [headB]
    have d4 : (headB h ++ t).drop 4 = be 4 h.time ++ (be 4 h.ssrc ++ (be4s h.csrc ++ t)) := by
      rw [show 4 = 2 + 2 from rfl, ← List.drop_drop, d2, List.drop_left' (be_length 2 _)]
    have d8 : (headB h ++ t).drop 8 = be 4 h.ssrc ++ (be4s h.csrc ++ t) := by
      rw [show 8 = 4 + 4 from rfl, ← List.drop_drop, d4, List.drop_left' (be_length 4 _)]
    have d12 : (headB h ++ t).drop 12 = be4s h.csrc ++ t := by
      rw [show 12 = 8 + 4 from rfl, ← List.drop_drop, d8, List.drop_left' (be_length 4 _)]
    rw [d2, d4, d8, d12, List.take_left' (be_length 2 _), List.take_left' (be_length 4 _), List.take_left' (be_length 4 _), num_be, num_be, num_be, nums4_be _ f4]
    rw [Nat.mod_eq_of_lt (a := h.seq) (by simpa using f1), Nat.mod_eq_of_lt (a := h.time) (by simpa using f2), Nat.mod_eq_of_lt (a := h.ssrc) (by simpa using f3)]
    obtain ⟨pad, ext, mark, typ, seq, time, ssrc, csrc⟩ := h
    simp only [Hd.mk.injEq, and_true] at *
    unfold firstB secondB n1 at *
    simp only at *
    cases pad <;> cases ext <;> cases mark <;> simp at * <;> omega
theorem readH_head {h : Hd} (hr : rightH h = true) (hf : fitsH h) (t : List UInt8) : readH (headB h ++ t) = h ∧ readN (headB h ++ t) = (headB h).length ∧ hErr (headB h ++ t) = 0 := by
  obtain ⟨h1, h2, h3⟩ := read_head hr hf t
  unfold readH readN
  rw [if_pos h1, if_pos h1, h2, h3, headB_length]
  exact ⟨rfl, rfl, h1⟩
theorem headB_inj {h k : Hd} (h1 : rightH h = true) (h2 : fitsH h) (k1 : rightH k = true) (k2 : fitsH k) : headB h = headB k ↔ h = k := by
  constructor
  · intro e
    have a := (readH_head h1 h2 []).1
    have b := (readH_head k1 k2 []).1
    rw [e, b] at a
    exact a.symm
  · rintro rfl; rfl
/-- What is read is right, and has just these bytes. -/
theorem head_read {b : List UInt8} (h : hErr b = 0) : rightH (hOf b) = true ∧ fitsH (hOf b) ∧ headB (hOf b) = b.take (12 + 4 * (g8 b 0 % 16)) := by
  obtain ⟨h1, h2, h3⟩ := hErr_zero h
  have b0 := g8_lt b 0
  have b1 := g8_lt b 1
  have num2 : ∀ S : List UInt8, num (S.take 2) < 65536 := fun S => Nat.lt_of_lt_of_le (num_lt _) (Nat.pow_le_pow_right (n := 256) (i := (S.take 2).length) (j := 2) (by omega) (by simp; omega))
  have num4 : ∀ S : List UInt8, num (S.take 4) < 4294967296 := fun S => Nat.lt_of_lt_of_le (num_lt _) (Nat.pow_le_pow_right (n := 256) (i := (S.take 4).length) (j := 4) (by omega) (by simp; omega))
  refine ⟨?_, ⟨num2 _, num4 _, num4 _, nums4_lt _ _⟩, ?_⟩
  · unfold rightH hOf
    rw [decide_eq_true_eq]
    simp only [nums4_length]
    omega
  · have hcs : (hOf b).csrc.length = g8 b 0 % 16 := nums4_length _ _
    have e0 : firstB (hOf b) = g8 b 0 := by
      unfold firstB
      rw [hcs]
      unfold hOf n1
      simp only [decide_eq_true_eq]
      split <;> split <;> omega
    have e1 : secondB (hOf b) = g8 b 1 := by
      unfold secondB hOf n1
      simp only [decide_eq_true_eq, Int.toNat_natCast]
      split <;> omega
    unfold headB
    rw [e0, e1]
    have s2 : be 2 (hOf b).seq = (b.drop 2).take 2 := by
      have := be_num ((b.drop 2).take 2)
      rwa [List.length_take, List.length_drop, Nat.min_eq_left (by omega)] at this
    have s4 : be 4 (hOf b).time = (b.drop 4).take 4 := by
      have := be_num ((b.drop 4).take 4)
      rwa [List.length_take, List.length_drop, Nat.min_eq_left (by omega)] at this
    have s8 : be 4 (hOf b).ssrc = (b.drop 8).take 4 := by
      have := be_num ((b.drop 8).take 4)
      rwa [List.length_take, List.length_drop, Nat.min_eq_left (by omega)] at this
    have s12 : be4s (hOf b).csrc = (b.drop 12).take (4 * (g8 b 0 % 16)) := be_nums4 _ _ (by rw [List.length_drop]; omega)
    rw [s2, s4, s8, s12]
    have t12 : b.take (12 + 4 * (g8 b 0 % 16)) = b.take 12 ++ (b.drop 12).take (4 * (g8 b 0 % 16)) := List.take_add
    have t8 : b.take 12 = b.take 8 ++ (b.drop 8).take 4 := by rw [show 12 = 8 + 4 from rfl, List.take_add]
    have t4 : b.take 8 = b.take 4 ++ (b.drop 4).take 4 := by rw [show 8 = 4 + 4 from rfl, List.take_add]
    have t2 : b.take 4 = b.take 2 ++ (b.drop 2).take 2 := by rw [show 4 = 2 + 2 from rfl, List.take_add]
    rw [t12, t8, t4, t2]
    have tt : b.take 2 = [UInt8.ofNat (g8 b 0), UInt8.ofNat (g8 b 1)] := by
      match b, h1 with
      | x :: y :: r, _ => simp [g8]
    rw [tt]
    simp only [List.cons_append, List.nil_append, List.append_assoc]
theorem readH_right {b : List UInt8} (h : hErr b = 0) : rightH (readH b) = true ∧ fitsH (readH b) ∧ headB (readH b) = b.take (readN b) ∧ 12 ≤ readN b ∧ readN b ≤ b.length := by
  have := head_read h
  have hz := hErr_zero h
  unfold readH readN
  rw [if_pos h, if_pos h]
  exact ⟨this.1, this.2.1, this.2.2, by omega, hz.2.2⟩
/-- Cut anywhere it is too short. -/
theorem head_cut {h : Hd} (hr : rightH h = true) (k : Nat) (hk : k < (headB h).length) : hErr ((headB h).take k) = 2 := by
  unfold rightH at hr
  rw [decide_eq_true_eq] at hr
  have hl := headB_length h
  have hlt : ((headB h).take k).length = k := by rw [List.length_take]; omega
  unfold hErr
  rw [hlt]
  by_cases h12 : k < 12
  · rw [if_pos h12]
  · have e : g8 ((headB h).take k) 0 = firstB h := by
      have := g8_first h [] hr.2.2
      rw [List.append_nil] at this
      rw [← this]
      unfold g8
      congr 1
      rw [List.getD_eq_getElem?_getD, List.getD_eq_getElem?_getD, List.getElem?_take_of_lt (by omega)]
    have hn : firstB h % 16 = h.csrc.length := by unfold firstB n1; split <;> split <;> omega
    have := firstB_lt hr.2.2
    rw [if_neg h12, e, hn, if_neg (by omega), if_pos (by omega)]

end Go.Proofs.Ytkfinkmbdpdepaa

/-
  Filling up to words and trailers as plain functions of lists of bytes.
-/
namespace Go.Proofs.Ytkfinkmbdpdepaa

/-- How many bytes are missing to whole words. -/
def miss (n : Nat) : Nat := (4 - n % 4) % 4
/-- The number that Round answers. -/
def roundN (n : Int) : Int := if n < 0 ∨ n > 2147483648 then 0 else n + miss n.toNat
theorem miss_lt (n : Nat) : miss n < 4 := by unfold miss; omega
theorem miss_whole (n : Nat) : (n + miss n) % 4 = 0 := by unfold miss; omega
theorem miss_zero {n : Nat} (h : n % 4 = 0) : miss n = 0 := by unfold miss; omega
theorem miss_pos {n j : Nat} (h : j < miss n) : (n + j) % 4 ≠ 0 := by unfold miss at h; omega
theorem roundN_no {n : Int} (h : n < 0 ∨ n > 2147483648) : roundN n = 0 := if_pos h
theorem roundN_yes {n : Nat} (h : n ≤ 2147483648) : roundN n = ((n + miss n : Nat) : Int) := by
  unfold roundN; rw [if_neg (by omega), Int.toNat_natCast]; omega

/-- The bytes s with n bytes 0 behind them. -/
def grownB (s : List UInt8) (n : Nat) : List UInt8 := s ++ List.replicate n 0
def fillB (s : List UInt8) : List UInt8 := grownB s (miss s.length)
theorem grownB_length (s : List UInt8) (n : Nat) : (grownB s n).length = s.length + n := by simp [grownB]
theorem grownB_zero (s : List UInt8) : grownB s 0 = s := by simp [grownB]
theorem grownB_succ (s : List UInt8) (n : Nat) : grownB s n ++ [0] = grownB s (n + 1) := by
  unfold grownB; rw [List.append_assoc, ← List.replicate_succ']
theorem fillB_length (s : List UInt8) : (fillB s).length = s.length + miss s.length := grownB_length _ _
theorem fillB_fill (s : List UInt8) : fillB (fillB s) = fillB s := by
  have h : miss (fillB s).length = 0 := by rw [fillB_length]; exact miss_zero (miss_whole _)
  rw [show fillB (fillB s) = grownB (fillB s) (miss (fillB s).length) from rfl, h, grownB_zero]
theorem fillB_take (s : List UInt8) : (fillB s).take s.length = s := by simp [fillB, grownB]
theorem fillB_drop (s : List UInt8) : (fillB s).drop s.length = List.replicate (miss s.length) 0 := by simp [fillB, grownB]

/-- Are all bytes 0? -/
def zeroB (s : List UInt8) : Bool := s.all fun x => x.toNat == 0
theorem zeroB_snoc (s : List UInt8) (k : Nat) (h : k < s.length) : zeroB (s.take (k + 1)) = (zeroB (s.take k) && ((s.getD k 0).toNat == 0)) := by
  unfold zeroB
  rw [List.take_succ_eq_append_getElem h, List.all_append]
  simp [List.getD, List.getElem?_eq_getElem h]
theorem zeroB_take {s : List UInt8} {k : Nat} (h : k < s.length) (hk : (s.getD k 0).toNat ≠ 0) : zeroB s = false := by
  unfold zeroB
  rw [List.all_eq_false]
  refine ⟨s[k], List.getElem_mem _, ?_⟩
  simp only [List.getD, List.getElem?_eq_getElem h, Option.getD_some] at hk
  simpa using hk
theorem zeroB_replicate (n : Nat) : zeroB (List.replicate n 0) = true := by
  unfold zeroB
  rw [List.all_eq_true]
  intro x hx
  rw [List.mem_replicate] at hx
  rw [hx.2]; rfl

/-- How many bytes the trailer has; 0: there is none. -/
def trailN (s : List UInt8) : Nat := if (s.getD (s.length - 1) 0).toNat ≤ s.length then (s.getD (s.length - 1) 0).toNat else 0
def trailE (s : List UInt8) : Int := if trailN s = 0 then 5 else 0
def cleanB (s : List UInt8) : Bool := decide (0 < trailN s) && zeroB ((s.drop (s.length - trailN s)).take (trailN s - 1))
theorem trailN_le (s : List UInt8) : trailN s ≤ s.length := by unfold trailN; split <;> omega
theorem trailN_nil : trailN [] = 0 := rfl
theorem trailN_lt (s : List UInt8) : trailN s < 256 := by
  have := (s.getD (s.length - 1) 0).toNat_lt
  unfold trailN; split <;> omega
theorem cleanB_no {s : List UInt8} (h : trailN s = 0) : cleanB s = false := by unfold cleanB; rw [h]; rfl
theorem cleanB_yes {s : List UInt8} (h : trailN s ≠ 0) : cleanB s = zeroB ((s.drop (s.length - trailN s)).take (trailN s - 1)) := by
  unfold cleanB
  rw [decide_eq_true (by omega), Bool.true_and]

/-- The bytes with a clean trailer of n bytes behind them. -/
def addB (s : List UInt8) (n : Nat) : List UInt8 := grownB s (n - 1) ++ [UInt8.ofNat n]
theorem addB_length (s : List UInt8) {n : Nat} (h : 1 ≤ n) : (addB s n).length = s.length + n := by simp [addB, grownB_length]; omega
theorem addB_eq (s : List UInt8) {n : Nat} (h : 1 ≤ n) : (grownB s n).set (s.length + n - 1) (UInt8.ofNat n) = addB s n := by
  obtain ⟨m, rfl⟩ : ∃ m, n = m + 1 := ⟨n - 1, by omega⟩
  rw [← grownB_succ, addB, Nat.add_sub_cancel]
  have e : s.length + (m + 1) - 1 = (grownB s m).length := by rw [grownB_length]; omega
  rw [e, List.set_append_right _ _ (Nat.le_refl _), Nat.sub_self]
  rfl
theorem addB_last (s : List UInt8) {n : Nat} (_h : 1 ≤ n) : (addB s n).getD ((addB s n).length - 1) 0 = UInt8.ofNat n := by
  unfold addB
  rw [List.length_append, List.length_singleton, Nat.add_sub_cancel, List.getD_eq_getElem?_getD, List.getElem?_append_right (Nat.le_refl _), Nat.sub_self]
  rfl
theorem addB_trail (s : List UInt8) {n : Nat} (h : 1 ≤ n) (h2 : n ≤ 255) : trailN (addB s n) = n := by
  have e : (UInt8.ofNat n).toNat = n := by rw [UInt8.toNat_ofNat']; simp only [Nat.reducePow]; omega
  unfold trailN
  rw [addB_last s h, e, addB_length s h, if_pos (by omega)]
theorem addB_take (s : List UInt8) (n : Nat) : (addB s n).take s.length = s := by simp [addB, grownB]
theorem addB_clean (s : List UInt8) {n : Nat} (h : 1 ≤ n) (h2 : n ≤ 255) : cleanB (addB s n) = true := by
  rw [cleanB_yes (by rw [addB_trail s h h2]; omega), addB_trail s h h2, addB_length s h, Nat.add_sub_cancel]
  have : ((addB s n).drop s.length).take (n - 1) = List.replicate (n - 1) 0 := by simp [addB, grownB]
  rw [this]
  exact zeroB_replicate _
/-- A trailer, turned ahead of its last byte. -/
theorem addB_turned (s : List UInt8) {n k : Nat} (h2 : n ≤ 255) (hk : k < n - 1) {x : UInt8} (hx : x.toNat ≠ 0) :
    trailN ((addB s n).set (s.length + k) x) = n ∧ cleanB ((addB s n).set (s.length + k) x) = false := by
  have h : 1 ≤ n := by omega
  have hl := addB_length s h
  have e0 : ((addB s n).set (s.length + k) x).getD (((addB s n).set (s.length + k) x).length - 1) 0 = UInt8.ofNat n := by
    rw [List.length_set, List.getD_eq_getElem?_getD, List.getElem?_set_ne (by omega), ← List.getD_eq_getElem?_getD]
    exact addB_last s h
  have e : (UInt8.ofNat n).toNat = n := by rw [UInt8.toNat_ofNat']; simp only [Nat.reducePow]; omega
  have e1 : trailN ((addB s n).set (s.length + k) x) = n := by
    unfold trailN
    rw [e0, e, List.length_set, hl, if_pos (by omega)]
  refine ⟨e1, ?_⟩
  rw [cleanB_yes (by omega), e1, List.length_set, hl, Nat.add_sub_cancel]
  refine zeroB_take (k := k) ?_ ?_
  · simp [hl]; omega
  · rw [List.getD_eq_getElem?_getD, List.getElem?_take_of_lt hk, List.getElem?_drop, List.getElem?_set_self (by omega)]
    simpa using hx

end Go.Proofs.Ytkfinkmbdpdepaa

/-
  Packets as plain data: their bytes, and which one bytes are.
-/
namespace Go.Proofs.Ytkfinkmbdpdepaa

/-- A packet. -/
structure Pk where
  hd : Hd
  prof : Nat
  ext : List UInt8
  pay : List UInt8
  pad : Int
theorem Pk.eq_iff (a b : Pk) : a = b ↔ a.hd = b.hd ∧ a.prof = b.prof ∧ a.ext = b.ext ∧ a.pay = b.pay ∧ a.pad = b.pad := by
  cases a; cases b
  simp
instance : DecidableEq Pk := fun a b => decidable_of_iff _ (Pk.eq_iff a b).symm
def zeroP : Pk := ⟨zeroH, 0, [], [], 0⟩
def fitsP (p : Pk) : Prop := fitsH p.hd ∧ p.prof < 65536
/-- How many bytes it has. -/
def sizeP (p : Pk) : Int := 12 + 4 * (p.hd.csrc.length : Int) + (p.pay.length : Int) + (if p.hd.ext = true then 4 + (p.ext.length : Int) else 0) + (if p.hd.pad = true then p.pad else 0)
def rightP (p : Pk) : Bool := decide (rightH p.hd = true ∧ p.pay.length ≤ 65535 ∧ p.ext.length ≤ 262140 ∧ p.ext.length % 4 = 0 ∧ (p.hd.ext = false → p.prof = 0 ∧ p.ext.length = 0) ∧ (p.hd.pad = true → 1 ≤ p.pad ∧ p.pad ≤ 255) ∧ (p.hd.pad = false → p.pad = 0) ∧ sizeP p ≤ 65535)
def shortP (p : Pk) : Bool := decide (p.hd.csrc.length ≤ 99 ∧ p.ext.length ≤ 300000 ∧ p.pay.length ≤ 70000)
/-- What an extension's bytes are, and those ahead of the trailer. -/
def extB (p : Pk) : List UInt8 := if p.hd.ext = true then be 2 p.prof ++ (be 2 (p.ext.length / 4) ++ p.ext) else []
def bodyP (p : Pk) : List UInt8 := headB p.hd ++ (extB p ++ p.pay)
def packB (p : Pk) : List UInt8 := if p.hd.pad = true then addB (bodyP p) p.pad.toNat else bodyP p
/-- The words of the extension that bytes tell of; where what is behind it begins. -/
def wordsP (s : List UInt8) : Nat := num ((s.drop (readN s + 2)).take 2)
def atP (s : List UInt8) : Nat := readN s + (if (readH s).ext = true then 4 + 4 * wordsP s else 0)
def padP (s : List UInt8) : Nat := if (readH s).pad = true then trailN (s.drop (atP s)) else 0
/-- Why bytes are no packet; 0: they are one. -/
def pErr (s : List UInt8) : Nat :=
  if 65535 < s.length then 4 else if hErr s ≠ 0 then hErr s
  else if (readH s).ext = true ∧ (s.length < readN s + 4 ∨ s.length < readN s + 4 + 4 * wordsP s) then 2
  else if (readH s).pad = true ∧ padP s = 0 then 5 else 0
def packOf (s : List UInt8) : Pk := ⟨readH s, if (readH s).ext = true then num ((s.drop (readN s)).take 2) else 0, if (readH s).ext = true then (s.drop (readN s + 4)).take (4 * wordsP s) else [], (s.drop (atP s)).take (s.length - padP s - atP s), padP s⟩
def readP (s : List UInt8) : Pk := if pErr s = 0 then packOf s else zeroP
def canonP (s : List UInt8) : Bool := decide (pErr s = 0 ∧ packB (readP s) = s)

theorem extB_length (p : Pk) : (extB p).length = if p.hd.ext = true then 4 + p.ext.length else 0 := by
  unfold extB
  split
  · simp only [List.length_append, be_length]; omega
  · rfl
theorem bodyP_length (p : Pk) : ((bodyP p).length : Int) = 12 + 4 * (p.hd.csrc.length : Int) + (p.pay.length : Int) + (if p.hd.ext = true then 4 + (p.ext.length : Int) else 0) := by
  unfold bodyP
  rw [List.length_append, List.length_append, headB_length, extB_length]
  split <;> omega
theorem packB_length {p : Pk} (h : rightP p = true) : ((packB p).length : Int) = sizeP p := by
  unfold rightP at h
  rw [decide_eq_true_eq] at h
  obtain ⟨_, _, _, _, _, h1, h2, _⟩ := h
  have hb := bodyP_length p
  unfold packB sizeP
  cases hp : p.hd.pad
  · simp only [Bool.false_eq_true, if_false]; omega
  · have := h1 hp
    simp only [if_true]
    rw [addB_length _ (by omega)]; omega

/-- What was read of a header that tells of an extension lies within the bytes. -/
theorem pErr_zero {s : List UInt8} (h : pErr s = 0) : s.length ≤ 65535 ∧ hErr s = 0 ∧ atP s + padP s ≤ s.length ∧ ((readH s).ext = true → readN s + 4 + 4 * wordsP s ≤ s.length) ∧ ((readH s).pad = true → 1 ≤ padP s ∧ padP s ≤ 255) ∧ ((readH s).pad = false → padP s = 0) := by
  unfold pErr at h
  split at h
  · cases h
  · rename_i h0
    split at h
    · rename_i h1; exact absurd h h1
    · rename_i h1
      split at h
      · cases h
      · rename_i h2
        split at h
        · cases h
        · rename_i h3
          have h1' : hErr s = 0 := by omega
          have hr := (readH_right h1').2.2.2.2
          have hat : atP s ≤ s.length := by
            unfold atP
            split
            · rename_i he
              have : ¬ (s.length < readN s + 4 ∨ s.length < readN s + 4 + 4 * wordsP s) := fun e => h2 ⟨he, e⟩
              omega
            · omega
          have htl := trailN_le (s.drop (atP s))
          have htb := trailN_lt (s.drop (atP s))
          rw [List.length_drop] at htl
          have hpe : padP s ≤ s.length - atP s := by unfold padP; split <;> omega
          refine ⟨by omega, h1', by omega, fun he => ?_, fun he => ?_, fun he => ?_⟩
          · have : ¬ (s.length < readN s + 4 ∨ s.length < readN s + 4 + 4 * wordsP s) := fun e => h2 ⟨he, e⟩
            omega
          · have : ¬ padP s = 0 := fun e => h3 ⟨he, e⟩
            have : padP s = trailN (s.drop (atP s)) := if_pos he
            omega
          · unfold padP
            rw [if_neg (by rw [he]; simp)]

end Go.Proofs.Ytkfinkmbdpdepaa

/-
  Packets as plain data: a packet is read from its bytes as it was; bytes are those of what is read just if they are canonical.
-/
namespace Go.Proofs.Ytkfinkmbdpdepaa

theorem rightP_parts {p : Pk} (h : rightP p = true) : rightH p.hd = true ∧ p.pay.length ≤ 65535 ∧ p.ext.length ≤ 262140 ∧ p.ext.length % 4 = 0 ∧ (p.hd.ext = false → p.prof = 0 ∧ p.ext.length = 0) ∧ (p.hd.pad = true → 1 ≤ p.pad ∧ p.pad ≤ 255) ∧ (p.hd.pad = false → p.pad = 0) ∧ sizeP p ≤ 65535 := by
  unfold rightP at h
  rwa [decide_eq_true_eq] at h
/-- The bytes of a packet, and what may stand behind them in the trailer's place. -/
def withT (p : Pk) (T : List UInt8) : List UInt8 := headB p.hd ++ (extB p ++ (p.pay ++ T))
theorem withT_nil (p : Pk) : withT p [] = bodyP p := by simp [withT, bodyP]
theorem packB_form {p : Pk} (h : rightP p = true) : ∃ T, packB p = withT p T ∧ T.length = p.pad.toNat ∧ (p.hd.pad = true → trailN (p.pay ++ T) = T.length ∧ cleanB (p.pay ++ T) = true ∧ T = List.replicate (p.pad.toNat - 1) 0 ++ [UInt8.ofNat p.pad.toNat]) ∧ (p.hd.pad = false → T = []) := by
  obtain ⟨_, _, _, _, _, h1, h2, _⟩ := rightP_parts h
  cases hp : p.hd.pad
  · refine ⟨[], ?_, ?_, fun e => by simp at e, fun _ => rfl⟩
    · rw [withT_nil]; unfold packB; rw [hp]; simp
    · rw [h2 hp]; rfl
  · have hb := h1 hp
    have e1 : packB p = addB (bodyP p) p.pad.toNat := by unfold packB; rw [hp]; simp
    have e2 : ∀ s : List UInt8, addB s p.pad.toNat = s ++ (List.replicate (p.pad.toNat - 1) 0 ++ [UInt8.ofNat p.pad.toNat]) := fun s => by simp [addB, grownB]
    refine ⟨List.replicate (p.pad.toNat - 1) 0 ++ [UInt8.ofNat p.pad.toNat], ?_, ?_, fun _ => ⟨?_, ?_, rfl⟩, fun e => by simp at e⟩
    · rw [e1, e2]
      simp [withT, bodyP]
    · simp only [List.length_append, List.length_replicate, List.length_cons, List.length_nil]; omega
    · rw [← e2, addB_trail _ (by omega) (by omega)]
      simp only [List.length_append, List.length_replicate, List.length_cons, List.length_nil]; omega
    · rw [← e2]
      exact addB_clean _ (by omega) (by omega)

/-- What is read of a header, an extension, and whatever behind. -/
theorem withT_read {p : Pk} (h : rightP p = true) (hf : fitsP p) (T : List UInt8) :
    hErr (withT p T) = 0 ∧ readH (withT p T) = p.hd ∧ readN (withT p T) = (headB p.hd).length ∧ (p.hd.ext = true → wordsP (withT p T) = p.ext.length / 4) ∧ atP (withT p T) = (headB p.hd).length + (extB p).length ∧ (withT p T).drop (atP (withT p T)) = p.pay ++ T := by
  obtain ⟨r1, r2, r3, r4, r5, r6, r7, r8⟩ := rightP_parts h
  obtain ⟨q1, q2, q3⟩ := readH_head r1 hf.1 (extB p ++ (p.pay ++ T))
  have e : withT p T = headB p.hd ++ (extB p ++ (p.pay ++ T)) := rfl
  rw [← e] at q1 q2 q3
  have hd0 : (withT p T).drop (headB p.hd).length = extB p ++ (p.pay ++ T) := by rw [e]; exact List.drop_left
  have hw : p.hd.ext = true → wordsP (withT p T) = p.ext.length / 4 := by
    intro hx
    unfold wordsP
    rw [q2, ← List.drop_drop, hd0]
    unfold extB
    rw [hx]
    simp only [if_true, List.append_assoc]
    rw [List.drop_left' (be_length 2 _), List.take_left' (be_length 2 _), num_be]
    exact Nat.mod_eq_of_lt (by simp; omega)
  have hat : atP (withT p T) = (headB p.hd).length + (extB p).length := by
    unfold atP
    rw [q1, q2, extB_length]
    cases hx : p.hd.ext
    · simp
    · rw [hw hx]; simp only [if_true]; omega
  refine ⟨q3, q1, q2, hw, hat, ?_⟩
  rw [hat, ← List.drop_drop, hd0, List.drop_left]
theorem withT_length (p : Pk) (T : List UInt8) : (withT p T).length = (headB p.hd).length + (extB p).length + p.pay.length + T.length := by
  simp [withT]; omega
/-- A packet is read from its bytes as it was. -/
theorem read_pack {p : Pk} (h : rightP p = true) (hf : fitsP p) : pErr (packB p) = 0 ∧ readP (packB p) = p := by
  obtain ⟨r1, r2, r3, r4, r5, r6, r7, r8⟩ := rightP_parts h
  have hlen := packB_length h
  obtain ⟨T, hT, hTl, hT1, hT0⟩ := packB_form h
  rw [hT] at hlen ⊢
  obtain ⟨a1, a2, a3, a4, a5, a6⟩ := withT_read h hf T
  have hl := withT_length p T
  have hxl := extB_length p
  have hpad : padP (withT p T) = p.pad.toNat := by
    unfold padP
    rw [a2, a6]
    cases hp : p.hd.pad
    · rw [r7 hp]; simp
    · rw [(hT1 hp).1, hTl]; simp
  have he : pErr (withT p T) = 0 := by
    unfold pErr
    rw [if_neg (by omega), if_neg (by omega), if_neg, if_neg]
    · rintro ⟨e1, e2⟩
      rw [a2] at e1
      have := r6 e1
      omega
    · rintro ⟨e1, e2⟩
      rw [a2] at e1
      rw [a3, a4 e1, hl, hxl, if_pos e1] at e2
      omega
  refine ⟨he, ?_⟩
  unfold readP
  rw [if_pos he, Pk.eq_iff]
  have hd0 : (withT p T).drop (headB p.hd).length = extB p ++ (p.pay ++ T) := List.drop_left
  refine ⟨a2, ?_, ?_, ?_, ?_⟩
  · show (if (readH (withT p T)).ext = true then num (((withT p T).drop (readN (withT p T))).take 2) else 0) = p.prof
    rw [a2, a3, hd0]
    cases hx : p.hd.ext
    · simp [(r5 hx).1]
    · unfold extB
      rw [hx]
      simp only [if_true, List.append_assoc]
      rw [List.take_left' (be_length 2 _), num_be]
      exact Nat.mod_eq_of_lt (by simpa using hf.2)
  · show (if (readH (withT p T)).ext = true then ((withT p T).drop (readN (withT p T) + 4)).take (4 * wordsP (withT p T)) else []) = p.ext
    rw [a2, a3]
    cases hx : p.hd.ext
    · simp only [Bool.false_eq_true, if_false]
      exact (List.eq_nil_of_length_eq_zero (r5 hx).2).symm
    · rw [a4 hx, ← List.drop_drop, hd0]
      unfold extB
      rw [hx]
      simp only [if_true, List.append_assoc]
      rw [show 4 = 2 + 2 from rfl, ← List.drop_drop, List.drop_left' (be_length 2 _), List.drop_left' (be_length 2 _), List.take_left' (by omega)]
  · show ((withT p T).drop (atP (withT p T))).take ((withT p T).length - padP (withT p T) - atP (withT p T)) = p.pay
    rw [a6, List.take_left' (by rw [hpad, a5]; omega)]
  · show ((padP (withT p T) : Nat) : Int) = p.pad
    rw [hpad]
    cases hp : p.hd.pad
    · rw [r7 hp]; rfl
    · have := r6 hp; omega
theorem canon_pack {p : Pk} (h : rightP p = true) (hf : fitsP p) : canonP (packB p) = true := by
  obtain ⟨h1, h2⟩ := read_pack h hf
  unfold canonP
  rw [decide_eq_true_eq, h2]
  exact ⟨h1, rfl⟩
theorem packB_inj {p q : Pk} (hp : rightP p = true) (fp : fitsP p) (hq : rightP q = true) (fq : fitsP q) : packB p = packB q ↔ p = q := by
  constructor
  · intro e
    rw [← (read_pack hp fp).2, e, (read_pack hq fq).2]
  · rintro rfl; rfl

end Go.Proofs.Ytkfinkmbdpdepaa

/-
  Packets as plain data: what is read has as many bytes as there are; canonical bytes cut anywhere, and with more behind.
-/
namespace Go.Proofs.Ytkfinkmbdpdepaa
set_option linter.unusedSimpArgs false

theorem packOf_lengths {s : List UInt8} (h : pErr s = 0) : 12 + 4 * (readH s).csrc.length = readN s ∧ ((packOf s).ext.length = if (readH s).ext = true then 4 * wordsP s else 0) ∧ (packOf s).pay.length = s.length - padP s - atP s := by
  obtain ⟨h1, h2, h3, h4, h5, h6⟩ := pErr_zero h
  have hr := readH_right h2
  refine ⟨?_, ?_, ?_⟩
  · have e := congrArg List.length hr.2.2.1
    rw [headB_length, List.length_take] at e
    have := hr.2.2.2
    omega
  · show (if (readH s).ext = true then (s.drop (readN s + 4)).take (4 * wordsP s) else []).length = _
    split
    · have := h4 (by assumption)
      rw [List.length_take, List.length_drop]; omega
    · rfl
  · show ((s.drop (atP s)).take (s.length - padP s - atP s)).length = _
    rw [List.length_take, List.length_drop]; omega
/-- What is read has as many bytes as there are. -/
theorem packOf_size {s : List UInt8} (h : pErr s = 0) : sizeP (packOf s) = s.length := by
  obtain ⟨h1, h2, h3, h4, h5, h6⟩ := pErr_zero h
  obtain ⟨l1, l2, l3⟩ := packOf_lengths h
  have hat : atP s = readN s + (if (readH s).ext = true then 4 + 4 * wordsP s else 0) := rfl
  unfold sizeP
  rw [l2, l3]
  have e1 : (packOf s).hd = readH s := rfl
  have e2 : (packOf s).pad = ((padP s : Nat) : Int) := rfl
  rw [e1, e2]
  rw [hat] at h3 ⊢
  cases hx : (readH s).ext <;> cases hq : (readH s).pad <;> simp only [hx, hq, if_true, Bool.false_eq_true, if_false] at h3 ⊢ <;> first
    | omega
    | (have := h6 hq; omega)
theorem readP_of {s : List UInt8} (h : pErr s = 0) : readP s = packOf s := if_pos h

theorem packB_length_nat {p : Pk} (h : rightP p = true) : ((packB p).length : Int) = sizeP p ∧ (packB p).length ≤ 65535 := by
  have h1 := packB_length h
  have h2 := (rightP_parts h).2.2.2.2.2.2.2
  exact ⟨h1, by omega⟩
theorem packB_head {p : Pk} (h : rightP p = true) : ∃ R, packB p = headB p.hd ++ R := by
  obtain ⟨T, hT, _⟩ := packB_form h
  exact ⟨_, hT⟩
/-- Bytes cut anywhere are another packet, or none: too short, or without a trailer. -/
theorem pack_cut {p : Pk} (h : rightP p = true) (hf : fitsP p) (k : Nat) (hk : k < (packB p).length) :
    (pErr ((packB p).take k) = 0 ∨ pErr ((packB p).take k) = 2 ∨ pErr ((packB p).take k) = 5) ∧ (k < 12 → pErr ((packB p).take k) = 2) ∧
      (pErr ((packB p).take k) = 0 → readP ((packB p).take k) ≠ p ∧ sizeP (readP ((packB p).take k)) = k) := by
  obtain ⟨r1, _⟩ := rightP_parts h
  obtain ⟨hl, hl2⟩ := packB_length_nat h
  have htl : ((packB p).take k).length = k := by rw [List.length_take]; omega
  have hh : hErr ((packB p).take k) = 0 ∨ hErr ((packB p).take k) = 2 := by
    obtain ⟨R, hR⟩ := packB_head h
    rw [hR]
    by_cases hc : k < (headB p.hd).length
    · rw [List.take_append_of_le_length (by omega)]
      exact .inr (head_cut r1 k hc)
    · rw [List.take_append, List.take_of_length_le (by omega)]
      exact .inl (readH_head r1 hf.1 _).2.2
  have hcases : pErr ((packB p).take k) = 0 ∨ pErr ((packB p).take k) = 2 ∨ pErr ((packB p).take k) = 5 := by
    unfold pErr
    rw [if_neg (by omega)]
    split
    · omega
    · split
      · exact .inr (.inl rfl)
      · split
        · exact .inr (.inr rfl)
        · exact .inl rfl
  refine ⟨hcases, fun h12 => ?_, fun h0 => ?_⟩
  · have e : hErr ((packB p).take k) = 2 := if_pos (by omega)
    unfold pErr
    rw [if_neg (by omega), if_pos (by omega), e]
  · have hs := packOf_size h0
    rw [← readP_of h0, htl] at hs
    refine ⟨fun e => ?_, hs⟩
    rw [e] at hs
    omega
/-- With more bytes behind they are another packet, or have no trailer. -/
theorem pack_more {p : Pk} (h : rightP p = true) (hf : fitsP p) (m : List UInt8) (hm : 0 < m.length) (hl : (packB p).length + m.length ≤ 65535) :
    (pErr (packB p ++ m) = 0 ∧ readP (packB p ++ m) ≠ p) ∨ (pErr (packB p ++ m) = 5 ∧ p.hd.pad = true) := by
  obtain ⟨hpl, _⟩ := packB_length_nat h
  obtain ⟨T, hT, hTl, hT1, hT0⟩ := packB_form h
  have e : packB p ++ m = withT p (T ++ m) := by rw [hT]; simp [withT]
  obtain ⟨a1, a2, a3, a4, a5, a6⟩ := withT_read h hf (T ++ m)
  have hl2 := withT_length p (T ++ m)
  have hxl := extB_length p
  obtain ⟨r1, r2, r3, r4, r5, r6, r7, r8⟩ := rightP_parts h
  have hlen : (packB p ++ m).length = (packB p).length + m.length := List.length_append
  by_cases h0 : pErr (packB p ++ m) = 0
  · refine .inl ⟨h0, fun e2 => ?_⟩
    have hs := packOf_size h0
    rw [← readP_of h0, e2, hlen] at hs
    omega
  · refine .inr ?_
    rw [e] at h0 hlen ⊢
    unfold pErr at h0 ⊢
    rw [if_neg (by omega), if_neg (by omega)] at h0 ⊢
    have hn : ¬ ((readH (withT p (T ++ m))).ext = true ∧ ((withT p (T ++ m)).length < readN (withT p (T ++ m)) + 4 ∨ (withT p (T ++ m)).length < readN (withT p (T ++ m)) + 4 + 4 * wordsP (withT p (T ++ m)))) := by
      rintro ⟨e1, e2⟩
      rw [a2] at e1
      rw [a3, a4 e1, hl2, hxl, if_pos e1] at e2
      omega
    rw [if_neg hn] at h0 ⊢
    by_cases hp : (readH (withT p (T ++ m))).pad = true ∧ padP (withT p (T ++ m)) = 0
    · rw [if_pos hp]
      exact ⟨rfl, by rw [← a2]; exact hp.1⟩
    · rw [if_neg hp] at h0
      exact absurd rfl h0

end Go.Proofs.Ytkfinkmbdpdepaa

/-
  Packets as plain data: bytes that are read are the packet's own, but for the trailer; canonical bytes are those whose trailer is clean.
-/
namespace Go.Proofs.Ytkfinkmbdpdepaa

theorem num_lt2c (s : List UInt8) (a : Nat) : num ((s.drop a).take 2) < 65536 := by
  have h := num_lt ((s.drop a).take 2)
  have h2 : (256 : Nat) ^ ((s.drop a).take 2).length ≤ 256 ^ 2 := Nat.pow_le_pow_right (by omega) (by simp; omega)
  omega
theorem be2_take {S : List UInt8} (h : 2 ≤ S.length) : be 2 (num (S.take 2)) = S.take 2 := by
  have := be_num (S.take 2)
  rwa [List.length_take, Nat.min_eq_left h] at this
theorem extB_read {s : List UInt8} (h : pErr s = 0) : extB (packOf s) = (s.drop (readN s)).take (atP s - readN s) := by
  obtain ⟨h1, h2, h3, h4, h5, h6⟩ := pErr_zero h
  have e0 : (packOf s).hd = readH s := rfl
  unfold extB
  rw [e0]
  cases hx : (readH s).ext
  · have : atP s = readN s := by unfold atP; rw [hx]; simp
    rw [this]; simp
  · have hb := h4 hx
    have ha : atP s = readN s + (4 + 4 * wordsP s) := by unfold atP; rw [hx]; simp
    have e1 : (packOf s).prof = num ((s.drop (readN s)).take 2) := by show (if _ then _ else _) = _; rw [hx]; simp
    have e2 : (packOf s).ext = (s.drop (readN s + 4)).take (4 * wordsP s) := by show (if _ then _ else _) = _; rw [hx]; simp
    have e3 : (packOf s).ext.length / 4 = wordsP s := by rw [e2, List.length_take, List.length_drop]; omega
    rw [if_pos rfl, e1, e3, e2, ha, Nat.add_sub_cancel_left]
    have hw : wordsP s = num ((s.drop (readN s + 2)).take 2) := rfl
    have g1 := be2_take (S := s.drop (readN s)) (by rw [List.length_drop]; omega)
    have g2 := be2_take (S := s.drop (readN s + 2)) (by rw [List.length_drop]; omega)
    rw [← hw] at g2
    rw [g1, g2, show (4 + 4 * wordsP s) = 2 + (2 + 4 * wordsP s) by omega, List.take_add, List.take_add, List.drop_drop, List.drop_drop]
/-- What is read, with the trailer that stands there. -/
theorem pack_form {s : List UInt8} (h : pErr s = 0) : withT (packOf s) (s.drop (s.length - padP s)) = s := by
  obtain ⟨h1, h2, h3, h4, h5, h6⟩ := pErr_zero h
  have hr := readH_right h2
  have ha : readN s ≤ atP s := by unfold atP; omega
  have e0 : (packOf s).hd = readH s := rfl
  have e1 : (packOf s).pay = (s.drop (atP s)).take (s.length - padP s - atP s) := rfl
  unfold withT
  rw [e0, e1, hr.2.2.1, extB_read h]
  have p1 : (s.drop (atP s)).take (s.length - padP s - atP s) ++ s.drop (s.length - padP s) = s.drop (atP s) := by
    rw [show s.drop (s.length - padP s) = (s.drop (atP s)).drop (s.length - padP s - atP s) by rw [List.drop_drop]; congr 1; omega]
    exact List.take_append_drop _ _
  have p2 : (s.drop (readN s)).take (atP s - readN s) ++ s.drop (atP s) = s.drop (readN s) := by
    rw [show s.drop (atP s) = (s.drop (readN s)).drop (atP s - readN s) by rw [List.drop_drop]; congr 1; omega]
    exact List.take_append_drop _ _
  rw [p1, p2, List.take_append_drop]
theorem packOf_rightC {s : List UInt8} (h : pErr s = 0) : rightP (packOf s) = true ∧ fitsP (packOf s) := by
  obtain ⟨h1, h2, h3, h4, h5, h6⟩ := pErr_zero h
  have hr := readH_right h2
  have hs := packOf_size h
  obtain ⟨l1, l2, l3⟩ := packOf_lengths h
  have hw : wordsP s < 65536 := num_lt2c s _
  refine ⟨?_, hr.2.1, ?_⟩
  · unfold rightP
    rw [decide_eq_true_eq]
    refine ⟨hr.1, by rw [l3]; omega, by rw [l2]; split <;> omega, by rw [l2]; split <;> omega, fun hx => ?_, fun hx => ?_, fun hx => ?_, by rw [hs]; omega⟩
    · refine ⟨?_, ?_⟩
      · show (if (readH s).ext = true then _ else _) = _
        rw [show (readH s).ext = false from hx]; simp
      · rw [l2, show (readH s).ext = false from hx]; simp
    · have := h5 hx
      show 1 ≤ ((padP s : Nat) : Int) ∧ ((padP s : Nat) : Int) ≤ 255
      omega
    · show ((padP s : Nat) : Int) = 0
      rw [h6 hx]; rfl
  · show (if (readH s).ext = true then num ((s.drop (readN s)).take 2) else 0) < 65536
    split
    · exact num_lt2c s _
    · omega
theorem zeroB_eq {s : List UInt8} : zeroB s = true ↔ s = List.replicate s.length 0 := by
  unfold zeroB
  rw [List.all_eq_true, List.eq_replicate_iff]
  simp only [true_and]
  refine ⟨fun h x hx => ?_, fun h x hx => ?_⟩
  · have := h x hx
    rw [beq_iff_eq] at this
    exact UInt8.toNat_inj.1 this
  · rw [h x hx]; rfl
theorem getD_drop_last {s : List UInt8} {k : Nat} (h : k < s.length) : (s.drop k).getD ((s.drop k).length - 1) 0 = s.getD (s.length - 1) 0 := by
  rw [List.getD_eq_getElem?_getD, List.getD_eq_getElem?_getD, List.getElem?_drop, List.length_drop]
  congr 2
  omega
/-- Bytes are canonical just if there is no trailer, or it is clean. -/
theorem canonP_eq {s : List UInt8} (h : pErr s = 0) : canonP s = (!(readH s).pad || cleanB s) := by
  have hf := pack_form h
  obtain ⟨hrt, hfit⟩ := packOf_rightC h
  obtain ⟨h1, h2, h3, h4, h5, h6⟩ := pErr_zero h
  obtain ⟨T, hT, hTl, hT1, hT0⟩ := packB_form hrt
  have e0 : (packOf s).hd = readH s := rfl
  have e1 : (packOf s).pad = ((padP s : Nat) : Int) := rfl
  rw [e0] at hT1 hT0
  rw [e1, Int.toNat_natCast] at hTl hT1
  have hiff : packB (packOf s) = s ↔ T = s.drop (s.length - padP s) := by
    rw [hT]
    constructor
    · intro e
      have e' := e.trans hf.symm
      unfold withT at e'
      exact List.append_cancel_left (List.append_cancel_left (List.append_cancel_left e'))
    · intro e
      rw [e, hf]
  unfold canonP
  rw [readP_of h]
  cases hp : (readH s).pad
  · have hz := h6 hp
    rw [Bool.not_false, Bool.true_or, decide_eq_true_eq]
    refine ⟨h, hiff.2 ?_⟩
    rw [hT0 hp, hz]; simp
  · have hb := h5 hp
    have ht : padP s = trailN (s.drop (atP s)) := by unfold padP; rw [hp]; simp
    have hlast : (s.getD (s.length - 1) 0).toNat = padP s := by
      have hne : ¬ trailN (s.drop (atP s)) = 0 := by omega
      rw [← getD_drop_last (k := atP s) (by omega)]
      unfold trailN at ht hne
      split at ht
      · exact ht.symm
      · omega
    have htr : trailN s = padP s := by
      unfold trailN
      rw [hlast, if_pos (by omega)]
    have hTT := (hT1 hp).2.2
    have hX : s.drop (s.length - padP s) = (s.drop (s.length - padP s)).take (padP s - 1) ++ [UInt8.ofNat (padP s)] := by
      have hl : (s.drop (s.length - padP s)).length = padP s := by rw [List.length_drop]; omega
      conv => lhs; rw [← List.take_append_drop (padP s - 1) (s.drop (s.length - padP s))]
      congr 1
      rw [List.drop_drop, show s.length - padP s + (padP s - 1) = s.length - 1 by omega]
      have : s.drop (s.length - 1) = [s.getD (s.length - 1) 0] := by
        rw [List.drop_eq_getElem_cons (by omega), List.drop_of_length_le (by omega), List.getD_eq_getElem?_getD, List.getElem?_eq_getElem (by omega)]
        rfl
      rw [this]
      congr 1
      apply UInt8.toNat_inj.1
      rw [hlast, UInt8.toNat_ofNat']
      simp only [Nat.reducePow]; omega
    rw [Bool.not_true, Bool.false_or, cleanB_yes (by omega), htr, Bool.eq_iff_iff, decide_eq_true_eq, zeroB_eq, hiff, hTT]
    have hl : ((s.drop (s.length - padP s)).take (padP s - 1)).length = padP s - 1 := by rw [List.length_take, List.length_drop]; omega
    rw [hl]
    constructor
    · rintro ⟨_, e⟩
      rw [hX] at e
      exact (List.append_cancel_right e).symm
    · intro e
      refine ⟨h, ?_⟩
      rw [hX, e]

end Go.Proofs.Ytkfinkmbdpdepaa

/-
  Packets as plain data: a packet and any trailer of its length are read as that packet; bytes that are otherwise in one field.
-/
namespace Go.Proofs.Ytkfinkmbdpdepaa
set_option linter.unusedSimpArgs false

theorem last_append {a T : List UInt8} (h : 0 < T.length) : (a ++ T).getD ((a ++ T).length - 1) 0 = T.getD (T.length - 1) 0 := by
  rw [List.getD_eq_getElem?_getD, List.getD_eq_getElem?_getD, List.length_append, List.getElem?_append_right (by omega)]
  congr 2
  omega
theorem trailN_congr {a b T : List UInt8} (hl : a.length = b.length) (hT : 0 < T.length) : trailN (a ++ T) = trailN (b ++ T) := by
  unfold trailN
  rw [last_append hT, last_append hT, List.length_append, List.length_append, hl]
theorem trailN_last {a F G : List UInt8} {z : UInt8} (hl : F.length = G.length) : trailN (a ++ (F ++ [z])) = trailN (a ++ (G ++ [z])) := by
  rw [← List.append_assoc, ← List.append_assoc]
  exact trailN_congr (by simp [hl]) (by simp)
/-- A packet and a trailer are read as that packet. -/
theorem read_withT {p : Pk} {T : List UInt8} (h : rightP p = true) (hf : fitsP p) (hTl : (T.length : Int) = p.pad) (hT1 : p.hd.pad = true → trailN (p.pay ++ T) = T.length) : pErr (withT p T) = 0 ∧ readP (withT p T) = p := by
  obtain ⟨r1, r2, r3, r4, r5, r6, r7, r8⟩ := rightP_parts h
  have hb := bodyP_length p
  have hsz : ((withT p T).length : Int) = sizeP p := by
    have e : (withT p T).length = (bodyP p).length + T.length := by simp [withT, bodyP]; omega
    rw [e]
    unfold sizeP
    cases hp : p.hd.pad
    · have := r7 hp; simp only [Bool.false_eq_true, if_false]; omega
    · simp only [if_true]; omega
  obtain ⟨a1, a2, a3, a4, a5, a6⟩ := withT_read h hf T
  have hl := withT_length p T
  have hxl := extB_length p
  have hpad : padP (withT p T) = T.length := by
    unfold padP
    rw [a2, a6]
    cases hp : p.hd.pad
    · have := r7 hp; simp; omega
    · rw [hT1 hp]; simp
  have he : pErr (withT p T) = 0 := by
    unfold pErr
    rw [if_neg (by omega), if_neg (by omega), if_neg, if_neg]
    · rintro ⟨e1, e2⟩
      rw [a2] at e1
      have := r6 e1
      omega
    · rintro ⟨e1, e2⟩
      rw [a2] at e1
      rw [a3, a4 e1, hl, hxl, if_pos e1] at e2
      omega
  refine ⟨he, ?_⟩
  unfold readP
  rw [if_pos he, Pk.eq_iff]
  have hd0 : (withT p T).drop (headB p.hd).length = extB p ++ (p.pay ++ T) := List.drop_left
  refine ⟨a2, ?_, ?_, ?_, ?_⟩
  · show (if (readH (withT p T)).ext = true then num (((withT p T).drop (readN (withT p T))).take 2) else 0) = p.prof
    rw [a2, a3, hd0]
    cases hx : p.hd.ext
    · simp [(r5 hx).1]
    · unfold extB
      rw [hx]
      simp only [if_true, List.append_assoc]
      rw [List.take_left' (be_length 2 _), num_be]
      exact Nat.mod_eq_of_lt (by simpa using hf.2)
  · show (if (readH (withT p T)).ext = true then ((withT p T).drop (readN (withT p T) + 4)).take (4 * wordsP (withT p T)) else []) = p.ext
    rw [a2, a3]
    cases hx : p.hd.ext
    · simp only [Bool.false_eq_true, if_false]
      exact (List.eq_nil_of_length_eq_zero (r5 hx).2).symm
    · rw [a4 hx, ← List.drop_drop, hd0]
      unfold extB
      rw [hx]
      simp only [if_true, List.append_assoc]
      rw [show 4 = 2 + 2 from rfl, ← List.drop_drop, List.drop_left' (be_length 2 _), List.drop_left' (be_length 2 _), List.take_left' (by omega)]
  · show ((withT p T).drop (atP (withT p T))).take ((withT p T).length - padP (withT p T) - atP (withT p T)) = p.pay
    rw [a6, List.take_left' (by rw [hpad, a5]; omega)]
  · show ((padP (withT p T) : Nat) : Int) = p.pad
    rw [hpad]; omega
/-- What is read, and its trailer. -/
theorem pack_formT {s : List UInt8} (h : pErr s = 0) : ∃ T, s = withT (packOf s) T ∧ (T.length : Int) = (packOf s).pad ∧ ((packOf s).hd.pad = true → trailN ((packOf s).pay ++ T) = T.length ∧ 1 ≤ T.length) ∧ ((packOf s).hd.pad = false → T = []) := by
  have hf := pack_form h
  obtain ⟨h1, h2, h3, h4, h5, h6⟩ := pErr_zero h
  have e0 : (packOf s).hd = readH s := rfl
  have e2 : (packOf s).pad = ((padP s : Nat) : Int) := rfl
  have e1 : (packOf s).pay = (s.drop (atP s)).take (s.length - padP s - atP s) := rfl
  have hl : (s.drop (s.length - padP s)).length = padP s := by rw [List.length_drop]; omega
  refine ⟨s.drop (s.length - padP s), hf.symm, by rw [hl, e2], fun hp => ?_, fun hp => ?_⟩
  · rw [e0] at hp
    have p1 : (s.drop (atP s)).take (s.length - padP s - atP s) ++ s.drop (s.length - padP s) = s.drop (atP s) := by
      rw [show s.drop (s.length - padP s) = (s.drop (atP s)).drop (s.length - padP s - atP s) by rw [List.drop_drop]; congr 1; omega]
      exact List.take_append_drop _ _
    have ht : padP s = trailN (s.drop (atP s)) := by unfold padP; rw [hp]; simp
    have := h5 hp
    rw [hl, e1, p1]
    exact ⟨ht.symm, by omega⟩
  · rw [e0] at hp
    have := h6 hp
    exact List.eq_nil_of_length_eq_zero (by omega)
theorem splice_seg {A F B y : List UInt8} {a : Nat} (ha : A.length = a) (h : y.length ≤ F.length) : splice (A ++ (F ++ B)) a y = A ++ ((y ++ F.drop y.length) ++ B) := by
  subst ha
  unfold splice
  rw [List.take_left, ← List.drop_drop, List.drop_left, List.drop_append_of_le_length h]
  simp only [List.append_assoc]

end Go.Proofs.Ytkfinkmbdpdepaa

/-
  What the document's own answers for layer 5 come to: whether a header is right, numbers and headers compared.
-/
namespace Go.Proofs.Ytkfinkmbdpdepaa
open Go.RowKit

/-- A number of four bytes as a value. -/
def u32V (x : Nat) : Value := .int .u32 (x : Int)
/-- The slice value holds numbers of four bytes. -/
def Us (w : World) (A : Option Addr) (n c : Nat) (l : List Nat) : Prop := Sl w A n c (l.map u32V)
section
variable {w w' : World} {A : Option Addr} {n c : Nat} {l : List Nat}
theorem Us.len (h : Us w A n c l) : l.length = n := by simpa using Sl.len h
theorem Us.below (h : Us w A n c l) (hb : Below w.heap.size w w') : Us w' A n c l := Sl.below h hb
theorem Us.alloc (h : Us w A n c l) (o : Obj) : Us (w.alloc o) A n c l := Sl.alloc h o
theorem Us.drewN (h : Us w A n c l) (k : Nat) : Us (w.drewN k) A n c l := h
theorem Us.nil (w : World) : Us w none 0 0 [] := Sl.nil w
theorem Us.bounds (h : Us w A n c l) : n ≤ c ∧ c ≤ 9223372036854775807 := ⟨Sl.le h, Nat.le_trans (Sl.cap h) (by decide)⟩
theorem Us.at_ (h : Us w A n c l) (hn : 0 < n) : ∃ b o, A = some ⟨b, o, none⟩ ∧ b < w.heap.size ∧ ∀ i, (hi : i < l.length) → w.cell? ⟨b, o + i, none⟩ = some (.int .u32 (l[i] : Int)) := by
  obtain ⟨b, o, hA, hlt, hc⟩ := Sl.at_ h hn
  exact ⟨b, o, hA, hlt, fun i hi => hc i _ (by rw [List.getElem?_map, List.getElem?_eq_getElem hi]; rfl)⟩
end

end Go.Proofs.Ytkfinkmbdpdepaa

/-
  What the document's own answers for layer 5 come to: a header's bytes.
-/
namespace Go.Proofs.Ytkfinkmbdpdepaa
open Go.RowKit

theorem Box.field {w : World} {b : Nat} {xs : List Value} (h : Box w b xs) (i : Nat) {x : Value} (hx : xs[i]? = some x) : w.cell? ⟨b, i, none⟩ = some x := h.1 i x hx
/-- What stands in a header's variable. -/
def hdCells (h : Hd) (A : Option Addr) (n c : Nat) : List Value := [.bool h.pad, .bool h.ext, .bool h.mark, .int .i64 h.typ, .int .u16 h.seq, .int .u32 h.time, .int .u32 h.ssrc, .slice A n c]

def WriteI (w : World) (l : List Nat) (H : List UInt8) (bx : List Value) (B i : Value) (W : World) : Prop :=
  ∃ (k : Nat) (A : Option Addr) (c : Nat), k ≤ l.length ∧ i = .int .i64 k ∧ B = .slice A (12 + 4 * k) c ∧ Box W w.heap.size bx ∧ Below w.heap.size w W ∧ Own W (w.heap.size + 1) 5 A (12 + 4 * k) c (H ++ be4s (l.take k))

end Go.Proofs.Ytkfinkmbdpdepaa

/-
  What the document's own answers for layer 5 come to: the header that bytes begin with.
-/
namespace Go.Proofs.Ytkfinkmbdpdepaa
open Go.RowKit

theorem num_lt4 (s : List UInt8) (a : Nat) : num ((s.drop a).take 4) < 4294967296 :=
  Nat.lt_of_lt_of_le (num_lt _) (Nat.pow_le_pow_right (n := 256) (i := ((s.drop a).take 4).length) (j := 4) (by omega) (by simp; omega))
theorem num_lt2 (s : List UInt8) (a : Nat) : num ((s.drop a).take 2) < 65536 :=
  Nat.lt_of_lt_of_le (num_lt _) (Nat.pow_le_pow_right (n := 256) (i := ((s.drop a).take 2).length) (j := 2) (by omega) (by simp; omega))
/-- A header as a value. -/
def hdV (h : Hd) (B : Option Addr) (d : Nat) : Value := .agg #[.bool h.pad, .bool h.ext, .bool h.mark, .int .i64 h.typ, .int .u16 h.seq, .int .u32 h.time, .int .u32 h.ssrc, .slice B h.csrc.length d]
/-- What a call hands back: a header, how many bytes it has, and the number of an error. -/
def GivesH (w : World) (h : Hd) (n : Nat) (err : Nat) (e : Ending) (w' : World) : Prop :=
  ∃ B d, e = .returned (.tuple #[hdV h B d, .int .i64 n, .int .i64 err]) ∧ Us w' B h.csrc.length d h.csrc ∧ Below w.heap.size w w'

theorem g8_at {w : World} {A : Option Addr} {n c : Nat} {s : List UInt8} (h : Bs w A n c s) (hn : 0 < n) : ∃ b o, A = some ⟨b, o, none⟩ ∧ b < w.heap.size ∧ ∀ i, i < n → w.cell? ⟨b, o + i, none⟩ = some (.int .u8 ((g8 s i : Nat) : Int)) := h.at_ hn

theorem info_u32 : (Try.prog.info? 79).map (fun i => (i.zero, i.size, i.bytes)) = some (some (.int .u32 0), 1, 4) := by kernel_rfl
/-- The slice value is a row of the call's own of numbers of four bytes. -/
def OwnU (w : World) (base : Nat) (A : Option Addr) (n c : Nat) (l : List Nat) : Prop := w.ownsRow base 79 1 (.slice A n c) n (l.map u32V)
theorem OwnU.us {w : World} {base n c : Nat} {A : Option Addr} {l : List Nat} (h : OwnU w base A n c l) : Us w A n c l := Sl.of_own h
def ReadI (w : World) (nn : Nat) (s : List UInt8) (hd : List Value) (i : Value) (W : World) : Prop :=
  ∃ (k : Nat) (B : Option Addr) (d : Nat), k ≤ nn ∧ i = .int .i64 k ∧ Box W w.heap.size [.bool false, .bool false, .bool false, .int .i64 0, .int .u16 0, .int .u32 0, .int .u32 0, .slice none 0 0] ∧
    Box W (w.heap.size + 1) (hd ++ [.slice B k d]) ∧ OwnU W (w.heap.size + 2) B k d (nums4 k (s.drop 12)) ∧ Below w.heap.size w W

/-- The same, its numbers in memory of the call's own. -/
def GivesHO (w : World) (h : Hd) (n : Nat) (err : Nat) (e : Ending) (w' : World) : Prop :=
  ∃ B d, e = .returned (.tuple #[hdV h B d, .int .i64 n, .int .i64 err]) ∧ OwnU w' w.heap.size B h.csrc.length d h.csrc ∧ Below w.heap.size w w'

end Go.Proofs.Ytkfinkmbdpdepaa

/-
  What the document's own answers for layer 3 come to, as later layers call them: a trailer, and bytes with one. (Cut out of the texts on layer 3.)
-/
namespace Go.Proofs.Ytkfinkmbdpdepaa
open Go.RowKit

theorem rtrail_any (A : Option Addr) (l c : Nat) (s : List UInt8) (w : World) (hs : Bs w A l c s) :
    Calls Try.prog 19 #[.slice A l c] w fun e w' => e = .returned (.int .i64 (trailN s)) ∧ w = w' := by
  have hlen := hs.len
  have hlc := hs.le
  have hcm := hs.cap
  unfold maxLen at hcm
  unfold trailN
  rw [hlen]
  rcases Nat.eq_zero_or_pos l with h0 | h0
  · subst h0
    obtain rfl : s = [] := List.eq_nil_of_length_eq_zero hlen
    go_enter Try.func19, Try.ntmps19
    go_wp2
    go_ret
    exact ⟨rfl, rfl⟩
  · obtain ⟨b, o, rfl, hlt, hcell⟩ := hs.at_ h0
    have hc := hcell (l - 1) (by omega)
    have hq := byte_getD_lt s (l - 1)
    clear hcell hlen
    generalize (s.getD (l - 1) 0).toNat = q at *
    obtain ⟨m, rfl⟩ : ∃ m, l = m + 1 := ⟨l - 1, by omega⟩
    rw [Nat.add_sub_cancel] at hc
    by_cases h2 : q ≤ m + 1
    · rw [if_pos h2]
      have g2 : decide ((m : Int) + 1 < q) = false := by simp; omega
      go_enter Try.func19, Try.ntmps19
      go_wp2
      go_ret
      exact ⟨rfl, rfl⟩
    · rw [if_neg h2]
      have g2 : decide ((m : Int) + 1 < q) = true := by simp; omega
      go_enter Try.func19, Try.ntmps19
      go_wp2
      go_ret
      exact ⟨rfl, rfl⟩

set_option maxHeartbeats 400000 in
theorem radd_any (A : Option Addr) (l c : Nat) (s : List UInt8) (n : Nat) (w : World) (hs : Bs w A l c s) (hl : l ≤ 140737488355000) (h1 : 1 ≤ n) (h2 : n ≤ 255) :
    Calls Try.prog 25 #[.slice A l c, .int .i64 n] w fun e w' => GivesB w 5 (addB s n) e w' := by
  have hal : Hid ((addB s n).length = l + n) := Lib.hid (by rw [addB_length s h1, hs.len])
  have hae : Hid (addB s n = grownB s (n - 1) ++ [UInt8.ofNat n]) := Lib.hid rfl
  generalize addB s n = r at *
  have g1 : (1 : Int) ≤ n := by omega
  have g2 : (n : Int) ≤ 255 := by omega
  go_enter Try.func25, Try.ntmps25
  go_wp2_with (at_builtin; go_loud (refine wpList_app _ rfl (.tmp 7) (.tmp 8) 22 rfl w.heap.size 5 Try.underlying22 byte_info (some ⟨w.heap.size, 0, none⟩) 0 0 [] rfl (World.ownsRow_made w #[] 0 (Nat.le_refl _) (Nat.zero_le _) rfl) A l c s rfl (hs.alloc _) (by omega) (by simp) ?_); intro A2 c2 w2 hown2 hb2)
  rw [Nat.zero_add] at hown2
  have hB2 : Below w.heap.size w w2 := ((Below.refl _ _).alloc (Nat.le_refl _) _).trans hb2
  have hown2' : Own w2 w.heap.size 5 A2 (l + 0) c2 (grownB s 0) := by rw [grownB_zero]; simpa using hown2
  clear hown2 hb2
  go_wp2_with fail
  go_loopw [5, 6] (fun x i wr => ∃ (j : Nat) (A' : Option Addr) (c' : Nat), j ≤ n - 1 ∧ i = .int .i64 ((j : Int) + 1) ∧ x = .slice A' (l + j) c' ∧ Below w.heap.size w wr ∧ Own wr w.heap.size 5 A' (l + j) c' (grownB s j)) (fun _ i _ => n - (intOf i).toNat)
  case atStart => exact ⟨0, A2, c2, Nat.zero_le _, rfl, rfl, hB2, hown2'⟩
  case round =>
    obtain ⟨j, A3, c3, hj, rfl, rfl, hB, hown⟩ := hrel
    clear hB2 hown2'
    by_cases hjm : j < n - 1
    · have hjn : (j : Int) + 1 < n := by omega
      have hbs : Bs (wr.alloc (.cells #[.int .u8 0] 5)) (some ⟨wr.heap.size, 0, none⟩) 1 1 [0] := Bs.lit1 wr 0 5
      have hBa : Below w.heap.size w (wr.alloc (.cells #[.int .u8 0] 5)) := hB.alloc hB.size _
      go_wp2_with (at_builtin; go_loud (refine wpList_app _ rfl (.tmp 15) (.tmp 16) 22 rfl w.heap.size 5 Try.underlying22 byte_info A3 (l + j) c3 (grownB s j) rfl (hown.alloc _) (some ⟨wr.heap.size, 0, none⟩) 1 1 [0] rfl hbs (by omega) hBa.size ?_); intro A4 c4 w4 hown4 hb4)
      rw [grownB_succ, Nat.add_assoc] at hown4
      clear hown hbs
      go_wp2
      go_roundw
      case rel => exact ⟨j + 1, A4, c4, by omega, by go_num, rfl, hBa.trans hb4, hown4⟩
      case measure => simp [intOf]; omega
    · obtain rfl : n = j + 1 := by omega
      rw [Nat.add_sub_cancel] at hae
      have hjn : ¬ ((j : Int) + 1 < ((j + 1 : Nat) : Int)) := by omega
      have hbs : Bs (wr.alloc (.cells #[.int .u8 ((j : Int) + 1)] 5)) (some ⟨wr.heap.size, 0, none⟩) 1 1 [UInt8.ofNat (j + 1)] := by
        have := Bs.lit1 wr (UInt8.ofNat (j + 1)) 5
        rwa [byteV_ofNat, show (((j + 1 : Nat) : Int)) % 256 = (j : Int) + 1 by omega] at this
      have hBa : Below w.heap.size w (wr.alloc (.cells #[.int .u8 ((j : Int) + 1)] 5)) := hB.alloc hB.size _
      go_wp2_with (at_builtin; go_loud (refine wpList_app _ rfl (.tmp 18) (.tmp 21) 22 rfl w.heap.size 5 Try.underlying22 byte_info A3 (l + j) c3 (grownB s j) rfl (hown.alloc _) (some ⟨wr.heap.size, 0, none⟩) 1 1 [UInt8.ofNat (j + 1)] rfl hbs (by omega) hBa.size ?_); intro A4 c4 w4 hown4 hb4)
      rw [← hae.out, Nat.add_assoc] at hown4
      go_ret
      exact ⟨A4, c4, by rw [hal.out]; rfl, by rw [hal.out]; exact hown4, hBa.trans hb4⟩

end Go.Proofs.Ytkfinkmbdpdepaa

/-
  The contracts of package head's calls, in one.
-/
namespace Go.Proofs.Ytkfinkmbdpdepaa
open Go.RowKit

def writeH (h : Hd) : List UInt8 := if rightH h = true then headB h else []
def writeE (h : Hd) : Int := if rightH h = true then 0 else 1
def sizeH (h : Hd) : Int := if rightH h = true then 12 + 4 * (h.csrc.length : Int) else 0
/-- What a call hands back: bytes, wherever they lie, and the number of an error. -/
def GivesS (w : World) (s : List UInt8) (err : Int) (x : Ending) (w' : World) : Prop :=
  ∃ A c, x = .returned (.tuple #[.slice A s.length c, .int .i64 err]) ∧ Bs w' A s.length c s ∧ Below w.heap.size w w'
/-- Numbers that were just written out. -/
theorem us_lit (w : World) (l : List Nat) (vs : Array Value) (e : TypeId) (hv : vs = (l.map u32V).toArray) (hm : l.length ≤ maxLen) : Us (w.alloc (.cells vs e)) (some ⟨w.heap.size, 0, none⟩) l.length l.length l := by
  subst hv
  have := Sl.lit w (l.map u32V) e (by simpa using hm)
  rwa [List.length_map] at this

section
end

end Go.Proofs.Ytkfinkmbdpdepaa

/-
  What the functions of package octet come to: isSize, has, Get, Signed.
-/
namespace Go.Proofs.Ytkfinkmbdpdepaa
open Go.RowKit

theorem isSize_any (n : Int) (w : World) :
    Calls Try.prog 38 #[.int .i64 n] w fun e w' => e = .returned (.bool (decide (1 ≤ n ∧ n ≤ 8))) ∧ w = w' := by
  by_cases h1 : 1 ≤ n <;> by_cases h2 : n ≤ 8
  all_goals
    go_enter Try.func38, Try.ntmps38
    go_wp2
    go_ret
    exact ⟨by simp [h1, h2], rfl⟩

theorem has_any (A : Option Addr) (l c : Nat) (at_ n : Int) (w : World) (hl : l ≤ maxLen) (ha : 0 ≤ at_) (ha2 : at_ ≤ 9223372036854775807) :
    Calls Try.prog 40 #[.slice A l c, .int .i64 at_, .int .i64 n] w fun e w' => e = .returned (.bool (decide (n ≤ l - at_))) ∧ w = w' := by
  unfold maxLen at *
  go_enter Try.func40, Try.ntmps40
  go_wp2
  go_ret
  exact ⟨rfl, rfl⟩


set_option maxHeartbeats 400000 in
theorem get_yes (A : Option Addr) (l c : Nat) (s : List UInt8) (a n : Nat) (w : World) (hs : Bs w A l c s) (h1 : 1 ≤ n) (h2 : n ≤ 8) (h3 : a + n ≤ l) :
    Calls Try.prog 35 #[.slice A l c, .int .i64 a, .int .i64 n] w fun e w' => e = .returned (.tuple #[.int .u64 (num ((s.drop a).take n)), .int .i64 0]) ∧ w = w' := by
  have hl := hs.len
  have hla := hs.le
  have hlc := hs.cap
  unfold maxLen at hlc
  obtain ⟨b, o, rfl, hlt, hcell⟩ := hs.at_ (by omega)
  have ht : decide (1 ≤ (n : Int) ∧ (n : Int) ≤ 8) = true := by simp; omega
  have hd : decide ((n : Int) ≤ l - a) = true := by simp; omega
  have hd2 : decide ((a : Int) < 0) = false := by simp
  go_enter Try.func35, Try.ntmps35
  go_wp2_with fail
  refine (isSize_any _ _).mono ?_
  rintro e w' ⟨rfl, rfl⟩
  go_wp2_with fail
  refine (has_any _ _ _ _ _ _ (by simp only [maxLen]; omega) (by omega) (by omega)).mono ?_
  rintro e w' ⟨rfl, rfl⟩
  go_wp2_with fail
  go_loop [8, 30] (fun v i => ∃ k : Nat, k ≤ n ∧ i = .int .i64 k ∧ v = .int .u64 (num ((s.drop a).take k))) (fun _ i => n - (intOf i).toNat)
  case atStart => exact ⟨0, Nat.zero_le _, rfl, rfl⟩
  case round =>
    obtain ⟨k, hk, rfl, rfl⟩ := hrel
    by_cases hkn : k < n
    · have hc := hcell (a + k) (by omega)
      rw [← Nat.add_assoc] at hc
      have hq := byte_getD_lt s (a + k)
      have hnt := num_take s a k (by omega)
      generalize (s.getD (a + k) 0).toNat = q at *
      have Hnt := Lib.hid hnt; clear hnt
      clear hcell
      go_wp2
      go_round
      case rel =>
        refine ⟨k + 1, by omega, by go_num, ?_⟩
        have hv := num_lt ((s.drop a).take k)
        have hv2 : (256 : Nat) ^ ((s.drop a).take k).length ≤ 256 ^ 7 := Nat.pow_le_pow_right (by omega) (by simp; omega)
        rw [Hnt.out, shift_or _ _ (by omega) hq]
      case measure => simp [intOf]; omega
    · go_wp2
      go_ret2
      have e : k = n := by omega
      subst e
      exact ⟨rfl, rfl⟩

theorem get_arg (A : Option Addr) (l c : Nat) (a n : Int) (w : World) (h : n < 1 ∨ 8 < n ∨ a < 0) :
    Calls Try.prog 35 #[.slice A l c, .int .i64 a, .int .i64 n] w fun e w' => e = .returned (.tuple #[.int .u64 0, .int .i64 1]) ∧ w = w' := by
  by_cases h1 : 1 ≤ n ∧ n ≤ 8
  · have h2 : a < 0 := by omega
    have ht : decide (1 ≤ n ∧ n ≤ 8) = true := by simp [h1]
    clear h h1
    go_enter Try.func35, Try.ntmps35
    go_wp2_with fail
    refine (isSize_any _ _).mono ?_
    rintro e w' ⟨rfl, rfl⟩
    go_wp2_with fail
    go_ret2
    exact ⟨rfl, rfl⟩
  · have ht : decide (1 ≤ n ∧ n ≤ 8) = false := by simp only [decide_eq_false_iff_not]; exact h1
    clear h h1
    go_enter Try.func35, Try.ntmps35
    go_wp2_with fail
    refine (isSize_any _ _).mono ?_
    rintro e w' ⟨rfl, rfl⟩
    go_wp2_with fail
    go_ret2
    exact ⟨rfl, rfl⟩

theorem get_short (A : Option Addr) (l c : Nat) (a n : Int) (w : World) (hl : l ≤ maxLen) (h1 : 1 ≤ n) (h2 : n ≤ 8) (h3 : 0 ≤ a) (h4 : a ≤ 9223372036854775807) (h5 : l < a + n) :
    Calls Try.prog 35 #[.slice A l c, .int .i64 a, .int .i64 n] w fun e w' => e = .returned (.tuple #[.int .u64 0, .int .i64 2]) ∧ w = w' := by
  have ht : decide (1 ≤ n ∧ n ≤ 8) = true := by simp [h1, h2]
  have hd : decide (n ≤ l - a) = false := by simp; omega
  have hd2 : decide (a < 0) = false := by simp [h3]
  go_enter Try.func35, Try.ntmps35
  go_wp2_with fail
  refine (isSize_any _ _).mono ?_
  rintro e w' ⟨rfl, rfl⟩
  go_wp2_with fail
  refine (has_any _ _ _ _ _ _ hl h3 h4).mono ?_
  rintro e w' ⟨rfl, rfl⟩
  go_wp2_with fail
  go_ret2
  exact ⟨rfl, rfl⟩

theorem get_any (A : Option Addr) (l c : Nat) (s : List UInt8) (a n : Int) (w : World) (hs : Bs w A l c s) (ha : (Lit.int .i64 a).wf = true) :
    Calls Try.prog 35 #[.slice A l c, .int .i64 a, .int .i64 n] w fun e w' => e = .returned (.tuple #[.int .u64 (getV s a n), .int .i64 (getE s.length a n)]) ∧ w = w' := by
  have hl := hs.len
  obtain ⟨ha1, ha2⟩ := bound_i64 ha
  by_cases h : n < 1 ∨ 8 < n ∨ a < 0
  · have e1 : getE s.length a n = 1 := if_pos h
    have e2 : getV s a n = 0 := if_neg (by rw [e1]; decide)
    rw [e1, e2]
    exact get_arg A l c a n w h
  · by_cases h5 : (l : Int) < a + n
    · have e1 : getE s.length a n = 2 := by unfold getE; rw [if_neg h, if_pos (by omega)]
      have e2 : getV s a n = 0 := if_neg (by rw [e1]; decide)
      rw [e1, e2]
      exact get_short A l c a n w (Nat.le_trans hs.le hs.cap) (by omega) (by omega) (by omega) ha2 h5
    · have e1 : getE s.length a n = 0 := by unfold getE; rw [if_neg h, if_neg (by omega)]
      have e2 : getV s a n = num ((s.drop a.toNat).take n.toNat) := if_pos e1
      rw [e1, e2]
      obtain ⟨a, rfl⟩ := Int.eq_ofNat_of_zero_le (show 0 ≤ a by omega)
      obtain ⟨n, rfl⟩ := Int.eq_ofNat_of_zero_le (show 0 ≤ n by omega)
      rw [Int.toNat_natCast, Int.toNat_natCast]
      exact get_yes A l c s a n w hs (by omega) (by omega) (by omega)

end Go.Proofs.Ytkfinkmbdpdepaa

/-
  What the functions of package octet come to: digits, Put.
-/
namespace Go.Proofs.Ytkfinkmbdpdepaa
open Go.RowKit


set_option maxHeartbeats 400000 in
theorem digits_any (v n : Nat) (w : World) (h2 : n ≤ 8) (_hv : v < 18446744073709551616) :
    Calls Try.prog 39 #[.int .u64 v, .int .i64 n] w fun e w' => GivesB w 5 (be n v) e w' := by
  obtain ⟨i0, hi0, hz0, hz1, hz2⟩ := info_parts byte_info
  go_enter Try.func39, Try.ntmps39
  go_wp2_with (at_make; go_loud (refine wpList_make_full _ rfl (.tmp 7) (.tmp 7) 22 rfl w.heap.size 5 i0 (.int .u8 0) 1 Try.underlying22 hi0 hz0 hz1 .i64 .i64 n n n rfl rfl rfl rfl (by rw [hz2]; omega) (by simp only [maxLen]; omega) (Nat.le_refl _) ?_); intro w1 hown hgrow)

  have hb1 : Below w.heap.size w w1 := (Below.refl _ _).grown hgrow (Nat.le_refl _) (by intro k h; cases h)
  have hown1 : Own w1 w.heap.size 5 (some ⟨w.heap.size, 0, none⟩) n n (filled n 0 v) := by
    rw [filled_zero]
    rw [show (Value.int IntKind.u8 0).cells = #[.int .u8 0] from rfl, Nat.mul_one, toList_madeCells_one] at hown
    simpa [byteV, Own] using hown
  clear hown hgrow
  go_wp2
  go_loopw [0, 6] (fun x i wr => ∃ k : Nat, k ≤ n ∧ i = .int .i64 ((n : Int) - 1 - k) ∧ x = .int .u64 ((v / 256 ^ k : Nat) : Int) ∧ Below w.heap.size w wr ∧ Own wr w.heap.size 5 (some ⟨w.heap.size, 0, none⟩) n n (filled n k v)) (fun _ i _ => (intOf i + 1).toNat)
  case atStart => exact ⟨0, Nat.zero_le _, by simp, by simp, hb1, hown1⟩
  case round =>
    obtain ⟨k, hk, rfl, rfl, hbel, hown⟩ := hrel
    clear hb1 hown1
    by_cases hkn : k < n
    · obtain ⟨⟨u0, hcl⟩, hfz, hown'⟩ := Own.store (x := UInt8.ofNat (v / 256 ^ k)) hown (show n - 1 - k < n by omega)
      rw [filled_step n k v hkn] at hown'
      have hdd : v / 256 ^ k / 256 = v / 256 ^ (k + 1) := by rw [Nat.div_div_eq_div_mul, Nat.pow_succ]
      have hq : v / 256 ^ k ≤ v := Nat.div_le_self _ _
      clear hown
      generalize v / 256 ^ k = q at *
      have Hdd := Lib.hid hdd; clear hdd
      go_wp2
      go_roundw
      case rel =>
        refine ⟨k + 1, by omega, by go_num, ?_⟩
        rw [byteV_ofNat] at hown'
        exact ⟨by rw [← Hdd.out]; simp, hbel.setCell (Nat.le_refl _) _, hown'⟩
      case measure => simp [intOf]; omega
    · go_wp2
      go_ret
      have e : k = n := by omega
      subst e
      rw [filled_all] at hown
      refine ⟨some ⟨w.heap.size, 0, none⟩, k, ?_, ?_, hbel⟩
      · rw [be_length]; rfl
      · rw [be_length]; exact hown

theorem put_high (v n : Nat) : (((v : Int) / 2 ^ (8 * n) != 0) = true ↔ 256 ^ n ≤ v) := by
  rw [bne_iff_ne]
  have e : ((v : Int) / 2 ^ (8 * n)) = ((v / 256 ^ n : Nat) : Int) := by rw [← pow256]; simp
  rw [e]
  have := Nat.div_pos_iff (a := v) (b := 256 ^ n)
  have hp : 0 < 256 ^ n := Nat.pow_pos (by omega)
  generalize v / 256 ^ n = q at *
  generalize 256 ^ n = p at *
  omega

set_option maxHeartbeats 400000 in
theorem put_any (v : Nat) (n : Int) (w : World) (hv2 : v < 18446744073709551616) :
    Calls Try.prog 31 #[.int .u64 v, .int .i64 n] w fun e w' => GivesBE w 5 (putB v n) (putE v n) e w' := by
  by_cases h1 : 1 ≤ n ∧ n ≤ 8
  · have ht : decide (1 ≤ n ∧ n ≤ 8) = true := by simp only [decide_eq_true_eq]; exact h1
    obtain ⟨n, rfl⟩ := Int.eq_ofNat_of_zero_le (show 0 ≤ n by omega)
    by_cases h3 : 256 ^ n ≤ v
    · have hz := (put_high v n).2 h3
      have e1 : putE v n = 6 := by unfold putE; rw [if_neg (by omega), Int.toNat_natCast, if_pos h3]
      have e2 : putB v n = [] := if_neg (by rw [e1]; decide)
      rw [e1, e2]
      clear e1 e2 h3
      go_enter Try.func31, Try.ntmps31
      go_wp2_with fail
      refine (isSize_any _ _).mono ?_
      rintro e w' ⟨rfl, rfl⟩
      go_wp2_with fail
      go_ret2
      exact GivesBE.none_ _ _ _
    · have hz : ((v : Int) / 2 ^ (8 * n) != 0) = false := by
        rw [Bool.eq_false_iff]
        intro h
        exact h3 ((put_high v n).1 h)
      have e1 : putE v n = 0 := by unfold putE; rw [if_neg (by omega), Int.toNat_natCast, if_neg h3]
      have e2 : putB v n = be n v := by unfold putB; rw [if_pos e1, Int.toNat_natCast]
      rw [e1, e2]
      clear e1 e2 h3
      go_enter Try.func31, Try.ntmps31
      go_wp2_with fail
      refine (isSize_any _ _).mono ?_
      rintro e w' ⟨rfl, rfl⟩
      go_wp2_with fail
      refine (digits_any v n _ (by omega) hv2).mono ?_
      rintro e w' ⟨A, c, rfl, hown, hbel⟩
      go_wp2
      go_ret2
      exact ⟨A, c, rfl, hown, hbel⟩
  · have ht : decide (1 ≤ n ∧ n ≤ 8) = false := by simp only [decide_eq_false_iff_not]; exact h1
    have e1 : putE v n = 1 := if_pos (by omega)
    have e2 : putB v n = [] := if_neg (by rw [e1]; decide)
    rw [e1, e2]
    clear e1 e2 h1
    go_enter Try.func31, Try.ntmps31
    go_wp2_with fail
    refine (isSize_any _ _).mono ?_
    rintro e w' ⟨rfl, rfl⟩
    go_wp2_with fail
    go_ret2
    exact GivesBE.none_ _ _ _

end Go.Proofs.Ytkfinkmbdpdepaa

/-
  What the functions of package octet come to: Join.
-/
namespace Go.Proofs.Ytkfinkmbdpdepaa
open Go.RowKit

set_option maxHeartbeats 1000000 in
theorem join_any (A : Option Addr) (l c : Nat) (ps : List Part) (w : World) (h : Bss w A l c ps) (htot : total ps ≤ 140737488355328) :
    Calls Try.prog 32 #[.slice A l c] w fun e w' => GivesB w 5 (joined ps) e w' := by
  obtain ⟨i0, hi0, hz0, hz1, hz2⟩ := info_parts byte_info
  obtain ⟨hS, hP⟩ := h
  have hlen : ps.length = l := by simpa using hS.len
  have hlc := hS.le
  have hcm := hS.cap
  unfold maxLen at hcm
  go_enter Try.func32, Try.ntmps32
  go_wp2_with fail
  go_loop [3, 11] (fun v i => ∃ k : Nat, k ≤ l ∧ i = .int .i64 k ∧ v = .int .i64 (total (ps.take k))) (fun _ i => l - (intOf i).toNat)
  case atStart => exact ⟨0, Nat.zero_le _, rfl, by simp [total]⟩
  case round =>
    obtain ⟨k, hk, rfl, rfl⟩ := hrel
    by_cases hkl : k < l
    · obtain ⟨b, o, rfl, hlt, hcell⟩ := hS.at_ (by omega)
      have hc := hcell k _ (by rw [List.getElem?_map, List.getElem?_eq_getElem (by omega)]; rfl)
      unfold Part.v at hc
      have ht := total_succ ps k (by omega)
      have ht2 := total_take_le ps (k + 1)
      have Ht := Lib.hid ht; 
      have hbound : total (ps.take k) + (ps[k]'(by omega)).n ≤ 140737488355328 := by omega
      clear ht ht2 hcell
      generalize (ps[k]'(by omega)) = p at *
      go_wp2
      go_round
      case rel => exact ⟨k + 1, by omega, by go_num, by rw [Ht.out]; go_num⟩
      case measure => simp [intOf]; omega
    · have e : k = l := by omega
      rw [List.take_of_length_le (by omega)]
      go_wp2_with (at_make; go_loud (refine wpList_make_own _ rfl _ (.tmp 20) 22 rfl w.heap.size 5 i0 (.int .u8 0) 1 Try.underlying22 hi0 hz0 hz1 .i64 .i64 _ (total ps) rfl rfl rfl (by rw [hz2]; omega) (by simp only [maxLen]; omega) (Nat.le_refl _) ?_); intro w1 hown hgrow)
      have hb1 : Below w.heap.size w w1 := (Below.refl _ _).grown hgrow (Nat.le_refl _) (by intro k h; cases h)
      have hown1 : Own w1 w.heap.size 5 (some ⟨w.heap.size, 0, none⟩) (total (ps.take 0)) (total ps) (joined (ps.take 0)) := hown
      clear hown hgrow e hkl hk
      go_loopw [6, 24] (fun v i wr => ∃ k : Nat, k ≤ l ∧ i = .int .i64 k ∧ v = .slice (some ⟨w.heap.size, 0, none⟩) (total (ps.take k)) (total ps) ∧ Below w.heap.size w wr ∧ Own wr w.heap.size 5 (some ⟨w.heap.size, 0, none⟩) (total (ps.take k)) (total ps) (joined (ps.take k))) (fun _ i _ => l - (intOf i).toNat)
      case atStart => exact ⟨0, Nat.zero_le _, rfl, rfl, hb1, hown1⟩
      case round =>
        obtain ⟨k, hk, rfl, rfl, hbel, hown⟩ := hrel
        clear hb1 hown1
        by_cases hkl : k < l
        · obtain ⟨b, o, rfl, hlt, hcell⟩ := hS.at_ (by omega)
          have hc0 := hcell k _ (by rw [List.getElem?_map, List.getElem?_eq_getElem (by omega)]; rfl)
          have hc : wr.cell? ⟨b, o + k, none⟩ = some _ := (hbel.cell (p := ⟨b, o + k, none⟩) hlt).trans hc0
          unfold Part.v at hc
          have hPk := (hP (ps[k]'(by omega)) (List.getElem_mem _)).below hbel
          have ht := total_succ ps k (by omega)
          have hj := joined_succ ps k (by omega)
          have ht2 := total_take_le ps (k + 1)
          have hroom : total (ps.take k) + (ps[k]'(by omega)).n ≤ total ps := by omega
          have Ht := Lib.hid ht
          have Hj := Lib.hid hj
          clear ht hj ht2 hcell hc0
          generalize (ps[k]'(by omega)) = p at *
          go_wp2_with (at_builtin; go_loud (refine wpList_append_fits_any _ rfl (.tmp 28) (.tmp 29) 22 rfl w.heap.size 5 i0 1 Try.underlying22 hi0 hz1 w.heap.size (total (ps.take k)) (total ps) _ rfl hown p.A p.n p.c (p.s.map byteV) rfl (by rw [List.length_map, hPk.len, Nat.mul_one]) (Sl.nothing hPk) (Sl.added hPk) (bytes_oneCell _) hroom ?_); intro w2 hown2 hgrow2)
          have hbel2 : Below w.heap.size w w2 := hbel.grown hgrow2 hbel.size (by intro k h; injection h with h; omega)
          have hown3 : Own w2 w.heap.size 5 (some ⟨w.heap.size, 0, none⟩) (total (ps.take (k + 1))) (total ps) (joined (ps.take (k + 1))) := by
            unfold Own
            rw [Ht.out, Hj.out, List.map_append]
            exact hown2
          go_roundw
          case rel => exact ⟨k + 1, by omega, by go_num, by rw [Ht.out], hbel2, hown3⟩
          case measure => simp [intOf]; omega
        · have e : k = l := by omega
          rw [List.take_of_length_le (by omega)] at hown
          rw [List.take_of_length_le (by omega)]
          go_wp2
          go_ret
          have hjl := joined_length (ps := ps) (fun p hp => (hP p hp).len)
          exact ⟨some ⟨w.heap.size, 0, none⟩, total ps, by rw [hjl]; rfl, by rw [hjl]; exact hown, hbel⟩

/-- Join of slices that were just written out. -/
theorem join_lit (ps : List Part) (s : List UInt8) (w : World) (h : ∀ p ∈ ps, Bs w p.A p.n p.c p.s) (hs : joined ps = s) (hm : ps.length ≤ maxLen) (htot : s.length ≤ 140737488355328) :
    Calls Try.prog 32 #[.slice (some ⟨w.heap.size, 0, none⟩) ps.length ps.length] (w.alloc (.cells (ps.map Part.v).toArray 22)) fun e w' => GivesB w 5 s e w' := by
  subst hs
  have hl := joined_length (ps := ps) (fun p hp => (h p hp).len)
  refine (join_any _ _ _ ps _ (Bss.lit ps 22 hm h) (by omega)).mono ?_
  rintro e w' ⟨A2, c2, rfl, hown, hbel⟩
  refine ⟨A2, c2, rfl, hown.mono (by simp), ?_⟩
  exact ((Below.refl _ _).alloc (Nat.le_refl _) _).trans (hbel.mono (by simp))

end Go.Proofs.Ytkfinkmbdpdepaa

/-
  What the functions of package octet come to, as later layers call them: Part. (Cut out of the texts on layer 1.)
-/
namespace Go.Proofs.Ytkfinkmbdpdepaa
open Go.RowKit

end Go.Proofs.Ytkfinkmbdpdepaa

/-
  What octet.Join comes to of one slice, of two, of three, that were just written out. And octet.Put of a number that fits.
-/
namespace Go.Proofs.Ytkfinkmbdpdepaa
open Go.RowKit

/-- What a call hands back: new bytes, m of them. -/
def GivesN (w : World) (m : Nat) (s : List UInt8) (x : Ending) (w' : World) : Prop :=
  ∃ A c, x = .returned (.slice A m c) ∧ Own w' w.heap.size 5 A m c s ∧ Below w.heap.size w w'
theorem join_parts (ps : List Part) (s : List UInt8) (w : World) (vs : Array Value) (k m : Nat) (h : ∀ p ∈ ps, Bs w p.A p.n p.c p.s) (hs : joined ps = s) (hv : vs = (ps.map Part.v).toArray) (hk : k = ps.length) (hm : s.length = m) (hb : ps.length ≤ maxLen) (htot : m ≤ 140737488355328) :
    Calls Try.prog 32 #[.slice (some ⟨w.heap.size, 0, none⟩) k k] (w.alloc (.cells vs 22)) (GivesN w m s) := by
  subst hv hk hm
  exact join_lit ps s w h hs hb htot
theorem join1 (A : Option Addr) (n c : Nat) (s : List UInt8) (w : World) (h : Bs w A n c s) (hb : n ≤ 140737488355328) :
    Calls Try.prog 32 #[.slice (some ⟨w.heap.size, 0, none⟩) 1 1] (w.alloc (.cells #[.slice A n c] 22)) (GivesN w n s) := by
  refine join_parts [⟨A, n, c, s⟩] s w _ 1 n ?_ (by simp [joined]) rfl rfl h.len (by simp [maxLen]) hb
  intro p hp
  simp only [List.mem_cons, List.not_mem_nil, or_false] at hp
  subst hp
  exact h
theorem join2 (A : Option Addr) (n c : Nat) (s : List UInt8) (A2 : Option Addr) (n2 c2 : Nat) (s2 : List UInt8) (m : Nat) (w : World) (h : Bs w A n c s) (h2 : Bs w A2 n2 c2 s2) (hm : n + n2 = m) (hb : m ≤ 140737488355328) :
    Calls Try.prog 32 #[.slice (some ⟨w.heap.size, 0, none⟩) 2 2] (w.alloc (.cells #[.slice A n c, .slice A2 n2 c2] 22)) (GivesN w m (s ++ s2)) := by
  refine join_parts [⟨A, n, c, s⟩, ⟨A2, n2, c2, s2⟩] _ w _ 2 m ?_ (by simp [joined]) rfl rfl (by rw [List.length_append, h.len, h2.len, hm]) (by simp [maxLen]) hb
  intro p hp
  simp only [List.mem_cons, List.not_mem_nil, or_false] at hp
  rcases hp with rfl | rfl
  · exact h
  · exact h2
theorem join3 (A : Option Addr) (n c : Nat) (s : List UInt8) (A2 : Option Addr) (n2 c2 : Nat) (s2 : List UInt8) (A3 : Option Addr) (n3 c3 : Nat) (s3 : List UInt8) (m : Nat) (w : World) (h : Bs w A n c s) (h2 : Bs w A2 n2 c2 s2) (h3 : Bs w A3 n3 c3 s3) (hm : n + n2 + n3 = m) (hb : m ≤ 140737488355328) :
    Calls Try.prog 32 #[.slice (some ⟨w.heap.size, 0, none⟩) 3 3] (w.alloc (.cells #[.slice A n c, .slice A2 n2 c2, .slice A3 n3 c3] 22)) (GivesN w m (s ++ (s2 ++ s3))) := by
  refine join_parts [⟨A, n, c, s⟩, ⟨A2, n2, c2, s2⟩, ⟨A3, n3, c3, s3⟩] _ w _ 3 m ?_ (by simp [joined]) rfl rfl (by rw [List.length_append, List.length_append, h.len, h2.len, h3.len, ← hm]; omega) (by simp [maxLen]) hb
  intro p hp
  simp only [List.mem_cons, List.not_mem_nil, or_false] at hp
  rcases hp with rfl | rfl | rfl
  · exact h
  · exact h2
  · exact h3

theorem oput_any (v m : Nat) (x n : Int) (w : World) (hx : x = (v : Int)) (hn : n = (m : Int)) (h1 : 1 ≤ m) (h2 : m ≤ 8) (hv : v < 256 ^ m) (hv2 : v < 18446744073709551616) :
    Calls Try.prog 31 #[.int .u64 x, .int .i64 n] w fun e w' => ∃ A c, e = .returned (.tuple #[.slice A m c, .int .i64 0]) ∧ Own w' w.heap.size 5 A m c (be m v) ∧ Below w.heap.size w w' := by
  subst hx hn
  have hput := put_any v m w hv2
  rw [(putE_yes h1 h2 hv).1, (putE_yes h1 h2 hv).2] at hput
  refine hput.mono ?_
  rintro e w' ⟨A, c, rfl, ho, hb⟩
  rw [be_length] at ho ⊢
  exact ⟨A, c, rfl, ho, hb⟩

end Go.Proofs.Ytkfinkmbdpdepaa

/-
  What the functions of package pad come to, as later layers call them: grown, Zero, Trail, Clean, Add. (Cut out of the texts on layer 3.)
-/
namespace Go.Proofs.Ytkfinkmbdpdepaa
open Go.RowKit

set_option maxHeartbeats 400000 in
theorem grown_any (A : Option Addr) (l c : Nat) (s : List UInt8) (n : Nat) (w : World) (hs : Bs w A l c s) (hl : l + n ≤ 140737488355328) :
    Calls Try.prog 34 #[.slice A l c, .int .i64 n] w fun e w' => GivesB w 5 (grownB s n) e w' := by
  have hlen := hs.len
  have M := make_zeros (l + n) (by omega)
  rw [Int.natCast_add] at M
  have hmade : Own (w.alloc (.cells (zeroRow (l + n)) 5)) w.heap.size 5 (some ⟨w.heap.size, 0, none⟩) (l + n) (l + n) (List.replicate (l + n) 0) :=
    World.ownsRow_lit (base := w.heap.size) (e := 5) (size := 1) w (zeroRow (l + n)) (l + n) (Nat.le_refl _) (by simp only [maxLen]; omega) (by simp [zeroRow])
  have hs1 := hs.alloc (.cells (zeroRow (l + n)) 5)
  have hb1 := below1 w (.cells (zeroRow (l + n)) 5)
  have hr : s ++ List.drop l (List.replicate (l + n) 0) = grownB s n := by rw [List.drop_replicate, Nat.add_sub_cancel_left]; rfl
  have hgl : (grownB s n).length = l + n := by rw [grownB_length, hlen]
  generalize grownB s n = r at *
  have Hr := Lib.hid hr
  clear hr
  have Hgl := Lib.hid hgl
  clear hgl hlen
  go_enter Try.func34, Try.ntmps34
  go_wp2_with ((with_reducible refine wpList_copyB rfl (.tmp 11) (.tmp 12) 22 22 rfl 5 Try.underlying22 byte_one w.heap.size w.heap.size (l + n) (List.replicate (l + n) 0) rfl hmade A l c s rfl hs1 (by omega) ?_); intro w2 hown2 hheap hsize2 hbel2)
  rw [Hr.out] at hown2
  clear hheap hsize2 hmade hs1 M
  have hB := hb1.trans hbel2
  go_ret
  exact ⟨some ⟨w.heap.size, 0, none⟩, l + n, by rw [Hgl.out]; rfl, by rw [Hgl.out]; exact hown2, hB⟩

/-- The same, with a number that is spelled otherwise. -/
theorem grown_at (A : Option Addr) (l c : Nat) (s : List UInt8) (n : Int) (m : Nat) (w : World) (hs : Bs w A l c s) (hn : n = m) (hl : l + m ≤ 140737488355328) :
    Calls Try.prog 34 #[.slice A l c, .int .i64 n] w fun e w' => GivesB w 5 (grownB s m) e w' := by
  subst hn
  exact grown_any A l c s m w hs hl

theorem trail_any (A : Option Addr) (l c : Nat) (s : List UInt8) (w : World) (hs : Bs w A l c s) :
    Calls Try.prog 28 #[.slice A l c] w fun e w' => e = .returned (.tuple #[.int .i64 (trailN s), .int .i64 (trailE s)]) ∧ w = w' := by
  have hlen := hs.len
  have hlc := hs.le
  have hcm := hs.cap
  unfold maxLen at hcm
  unfold trailE trailN
  rw [hlen]
  rcases Nat.eq_zero_or_pos l with h0 | h0
  · subst h0
    obtain rfl : s = [] := List.eq_nil_of_length_eq_zero hlen
    go_enter Try.func28, Try.ntmps28
    go_wp2
    go_ret2
    exact ⟨rfl, rfl⟩
  · obtain ⟨b, o, rfl, hlt, hcell⟩ := hs.at_ h0
    have hc := hcell (l - 1) (by omega)
    have hq := byte_getD_lt s (l - 1)
    clear hcell hlen
    generalize (s.getD (l - 1) 0).toNat = q at *
    obtain ⟨m, rfl⟩ : ∃ m, l = m + 1 := ⟨l - 1, by omega⟩
    rw [Nat.add_sub_cancel] at hc
    have hw : IntKind.i64.wrap (((m + 1 : Nat) : Int) - 1) = (m : Int) := by rw [IntWalk.i64_in _ (by omega)]; omega
    by_cases h1 : q = 0
    · subst h1
      rw [if_pos (Nat.zero_le _), if_pos rfl]
      go_enter Try.func28, Try.ntmps28
      go_wp2
      go_ret2
      exact ⟨rfl, rfl⟩
    · by_cases h2 : q ≤ m + 1
      · rw [if_pos h2, if_neg h1]
        have g1 : ((q : Int) == 0) = false := by simp; omega
        have g2 : decide ((m : Int) + 1 < q) = false := by simp; omega
        go_enter Try.func28, Try.ntmps28
        go_wp2
        go_ret2
        exact ⟨rfl, rfl⟩
      · rw [if_neg h2, if_pos rfl]
        have g1 : ((q : Int) == 0) = false := by simp; omega
        have g2 : decide ((m : Int) + 1 < q) = true := by simp; omega
        go_enter Try.func28, Try.ntmps28
        go_wp2
        go_ret2
        exact ⟨rfl, rfl⟩

theorem trailE_no {s : List UInt8} (h : trailN s = 0) : trailE s = 5 := if_pos h
theorem trailE_yes {s : List UInt8} (h : trailN s ≠ 0) : trailE s = 0 := if_neg h

/-- The number that an error has. -/
def addE (n : Int) : Int := if 1 ≤ n ∧ n ≤ 255 then 0 else 1
def addR (s : List UInt8) (n : Int) : List UInt8 := if 1 ≤ n ∧ n ≤ 255 then addB s n.toNat else []
set_option maxHeartbeats 400000 in
theorem add_yes (A : Option Addr) (l c : Nat) (s : List UInt8) (n : Nat) (w : World) (hs : Bs w A l c s) (hl : l ≤ 140737488355000) (h1 : 1 ≤ n) (h2 : n ≤ 255) :
    Calls Try.prog 22 #[.slice A l c, .int .i64 n] w fun e w' => GivesBE w 5 (addB s n) 0 e w' := by
  have hlen := hs.len
  have G := Lib.hid (fun w hs => grown_any A l c s n w hs (by omega))
  have hgl : (grownB s n).length = l + n := by rw [grownB_length, hlen]
  have hal : (addB s n).length = l + n := by rw [addB_length s h1, hlen]
  have he := addB_eq s h1
  rw [hlen] at he
  generalize grownB s n = r at *
  generalize addB s n = q at *
  have Hgl := Lib.hid hgl
  have Hal := Lib.hid hal
  have He := Lib.hid he
  clear hgl hal he hlen
  have g1 : (1 : Int) ≤ n := by omega
  have g2 : (n : Int) ≤ 255 := by omega
  go_enter Try.func22, Try.ntmps22
  go_wp2_with fail
  refine (G.out _ hs).mono ?_
  rintro e w1 ⟨A1, c1, rfl, hown1, hb1⟩
  rw [Hgl.out] at hown1 ⊢
  obtain ⟨g, rfl, hg1, hg2⟩ := hown1.form (by omega)
  obtain ⟨⟨u0, hcl⟩, hfz, hst⟩ := Own.store (x := UInt8.ofNat n) hown1 (show l + n - 1 < l + n by omega)
  rw [He.out, byteV_ofNat, show (n : Int) % 256 = n by omega] at hst
  clear hown1
  obtain ⟨p, hp⟩ : ∃ p, l + n - 1 = p := ⟨_, rfl⟩
  rw [hp] at hcl hfz hst
  have hpi : (l : Int) + n - 1 = p := by omega
  have hw1 : IntKind.i64.wrap ((l : Int) + n - 1) = p := by rw [IntWalk.i64_in _ (by omega)]; omega
  go_wp2
  go_ret2
  exact ⟨some ⟨g, 0, none⟩, c1, by rw [Hal.out]; rfl, by rw [Hal.out]; exact hst, hb1.setCell hg1 _⟩
theorem add_no (A : Option Addr) (l c : Nat) (n : Int) (w : World) (h : ¬ (1 ≤ n ∧ n ≤ 255)) :
    Calls Try.prog 22 #[.slice A l c, .int .i64 n] w fun e w' => e = .returned (.tuple #[.slice none 0 0, .int .i64 1]) ∧ w = w' := by
  rcases (show n < 1 ∨ (1 ≤ n ∧ 255 < n) by omega) with h1 | ⟨h1, h2⟩
  all_goals
    clear h
    go_enter Try.func22, Try.ntmps22
    go_wp2
    go_ret2
    exact ⟨rfl, rfl⟩
theorem add_any (A : Option Addr) (l c : Nat) (s : List UInt8) (n : Int) (w : World) (hs : Bs w A l c s) (hl : l ≤ 140737488355000) :
    Calls Try.prog 22 #[.slice A l c, .int .i64 n] w fun e w' => GivesBE w 5 (addR s n) (addE n) e w' := by
  unfold addR addE
  by_cases h : 1 ≤ n ∧ n ≤ 255
  · rw [if_pos h, if_pos h]
    obtain ⟨n, rfl⟩ := Int.eq_ofNat_of_zero_le (show 0 ≤ n by omega)
    exact add_yes A l c s n w hs hl (by omega) (by omega)
  · rw [if_neg h, if_neg h]
    refine (add_no A l c n w h).mono ?_
    rintro e w' ⟨rfl, rfl⟩
    exact GivesBE.none_ _ _ _

end Go.Proofs.Ytkfinkmbdpdepaa

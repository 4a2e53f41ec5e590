/-
  Elements of a header extension as plain data: what is right, how it is written, what stands in data; it is read as it was.
-/
import Derived.Test.YtpkbikimpjmkgaaBase
namespace Go.Proofs.Ytpkbikimpjmkgaa
set_option linter.unusedSimpArgs false
set_option linter.unusedVariables false

/-- An element; the spot of one's data. -/
structure El where
  id : Int
  data : List UInt8
theorem El.eq_iff (a b : El) : a = b ↔ a.id = b.id ∧ a.data = b.data := by
  cases a; cases b
  simp
instance : DecidableEq El := fun a b => decidable_of_iff _ (El.eq_iff a b).symm
structure Sp where
  id : Nat
  at_ : Nat
  size : Nat
theorem Sp.eq_iff (a b : Sp) : a = b ↔ a.id = b.id ∧ a.at_ = b.at_ ∧ a.size = b.size := by
  cases a; cases b
  simp
instance : DecidableEq Sp := fun a b => decidable_of_iff _ (Sp.eq_iff a b).symm

def okEl (e : El) : Bool := decide (1 ≤ e.id ∧ e.id ≤ 255 ∧ e.data.length ≤ 255)
/-- No id twice. -/
def nodupE : List El → Bool
  | [] => true
  | e :: l => l.all (fun x => x.id != e.id) && nodupE l
def rightL (l : List El) : Bool := l.all okEl && nodupE l
def narrowE (e : El) : Bool := decide (e.id ≤ 14 ∧ 1 ≤ e.data.length ∧ e.data.length ≤ 16)
def narrowL (l : List El) : Bool := l.all narrowE
def profL (l : List El) : Nat := if rightL l = true then if narrowL l = true then 48862 else 4096 else 0
def elB (nw : Bool) (e : El) : List UInt8 := (if nw = true then [UInt8.ofNat (16 * e.id.toNat + e.data.length - 1)] else [UInt8.ofNat e.id.toNat, UInt8.ofNat e.data.length]) ++ e.data
def bodyL (l : List El) : List UInt8 := l.flatMap (elB (narrowL l))
def writeL (l : List El) : List UInt8 := fillB (bodyL l)

/-- What stands in the bytes from the place a on: the number of an error, and the spots ahead and there. -/
def spotsG (nw : Bool) : Nat → Nat → List UInt8 → List Sp → Nat × List Sp
  | 0, _, _, out => (0, out)
  | _ + 1, _, [], out => (0, out)
  | fuel + 1, a, x :: r, out =>
    if x.toNat = 0 then spotsG nw fuel (a + 1) r out
    else if nw = true then
      if x.toNat / 16 = 0 ∨ x.toNat / 16 = 15 then (0, out)
      else if r.length < x.toNat % 16 + 1 then (4, [])
      else if out.any (fun s => s.id == x.toNat / 16) = true then (6, [])
      else spotsG nw fuel (a + 1 + (x.toNat % 16 + 1)) (r.drop (x.toNat % 16 + 1)) (out ++ [⟨x.toNat / 16, a + 1, x.toNat % 16 + 1⟩])
    else match r with
      | [] => (4, [])
      | n :: r2 =>
        if r2.length < n.toNat then (4, [])
        else if out.any (fun s => s.id == x.toNat) = true then (6, [])
        else spotsG nw fuel (a + 2 + n.toNat) (r2.drop n.toNat) (out ++ [⟨x.toNat, a + 2, n.toNat⟩])
theorem spotsG_cons (nw : Bool) (f a : Nat) (x : UInt8) (r : List UInt8) (out : List Sp) : spotsG nw (f + 1) a (x :: r) out =
    if x.toNat = 0 then spotsG nw f (a + 1) r out
    else if nw = true then
      if x.toNat / 16 = 0 ∨ x.toNat / 16 = 15 then (0, out)
      else if r.length < x.toNat % 16 + 1 then (4, [])
      else if out.any (fun s => s.id == x.toNat / 16) = true then (6, [])
      else spotsG nw f (a + 1 + (x.toNat % 16 + 1)) (r.drop (x.toNat % 16 + 1)) (out ++ [⟨x.toNat / 16, a + 1, x.toNat % 16 + 1⟩])
    else match r with
      | [] => (4, [])
      | n :: r2 =>
        if r2.length < n.toNat then (4, [])
        else if out.any (fun s => s.id == x.toNat) = true then (6, [])
        else spotsG nw f (a + 2 + n.toNat) (r2.drop n.toNat) (out ++ [⟨x.toNat, a + 2, n.toNat⟩]) := by
  cases r <;> rfl
theorem spotsG_fuel (nw : Bool) : ∀ (f g a : Nat) (r : List UInt8) (out : List Sp), r.length ≤ f → r.length ≤ g → spotsG nw f a r out = spotsG nw g a r out := by
  intro f
  induction f with
  | zero =>
    intro g a r out hf _
    obtain rfl : r = [] := List.eq_nil_of_length_eq_zero (by omega)
    cases g <;> rfl
  | succ f ih =>
    intro g a r out hf hg
    cases r with
    | nil => cases g <;> rfl
    | cons x r =>
      cases g with
      | zero => simp at hg
      | succ g =>
        simp only [List.length_cons] at hf hg
        rw [spotsG_cons, spotsG_cons]
        split
        · exact ih g _ r out (by omega) (by omega)
        · split
          · split
            · rfl
            · split
              · rfl
              · split
                · rfl
                · exact ih g _ _ _ (by rw [List.length_drop]; omega) (by rw [List.length_drop]; omega)
          · cases r with
            | nil => rfl
            | cons n r2 =>
              simp only [List.length_cons] at hf hg
              simp only
              split
              · rfl
              · split
                · rfl
                · exact ih g _ _ _ (by rw [List.length_drop]; omega) (by rw [List.length_drop]; omega)
/-- Is it a profile; the narrower one's? -/
def isNarrow (p : Nat) : Bool := decide (p = 48862)
def isProf (p : Nat) : Bool := decide (p = 48862 ∨ p / 16 = 256)
def spotsE (p : Nat) (s : List UInt8) : Nat := if isProf p = true then (spotsG (isNarrow p) s.length 0 s []).1 else 6
def spotsL (p : Nat) (s : List UInt8) : List Sp := if isProf p = true then (spotsG (isNarrow p) s.length 0 s []).2 else []
def elOf (s : List UInt8) (x : Sp) : El := ⟨x.id, (s.drop x.at_).take x.size⟩
def readL (p : Nat) (s : List UInt8) : List El := (spotsL p s).map (elOf s)
def canonL (p : Nat) (s : List UInt8) : Bool := decide (spotsE p s = 0 ∧ profL (readL p s) = p ∧ writeL (readL p s) = s)

theorem spotsG_zero (nw : Bool) (f a : Nat) (r : List UInt8) (out : List Sp) : spotsG nw (f + 1) a (0 :: r) out = spotsG nw f (a + 1) r out := by
  rw [spotsG_cons, if_pos (show (0 : UInt8).toNat = 0 from rfl)]
theorem spotsG_zeros (nw : Bool) (k : Nat) : ∀ (f a : Nat) (r : List UInt8) (out : List Sp), k + r.length ≤ f → spotsG nw f a (List.replicate k 0 ++ r) out = spotsG nw (f - k) (a + k) r out := by
  induction k with
  | zero => intro f a r out _; rfl
  | succ k ih =>
    intro f a r out hf
    obtain ⟨f, rfl⟩ : ∃ g, f = g + 1 := ⟨f - 1, by omega⟩
    rw [List.replicate_succ, List.cons_append, spotsG_zero, ih f (a + 1) r out (by omega), Nat.add_sub_add_right, Nat.add_right_comm, Nat.add_assoc]
theorem spotsG_nil (nw : Bool) (f a : Nat) (out : List Sp) : spotsG nw f a [] out = (0, out) := by cases f <;> rfl
def elSp (nw : Bool) (a : Nat) (e : El) : Sp := ⟨e.id.toNat, a + (if nw = true then 1 else 2), e.data.length⟩
theorem elB_length (nw : Bool) (e : El) : (elB nw e).length = (if nw = true then 1 else 2) + e.data.length := by
  unfold elB
  split <;> simp <;> omega
/-- One element is read. -/
theorem spotsG_el {nw : Bool} {e : El} (h : okEl e = true) (hn : nw = true → narrowE e = true) (f a : Nat) (r : List UInt8) (out : List Sp) (hf : (elB nw e).length + r.length ≤ f) (ho : out.any (fun s => s.id == e.id.toNat) = false) :
    spotsG nw f a (elB nw e ++ r) out = spotsG nw (f - (elB nw e).length) (a + (elB nw e).length) r (out ++ [elSp nw a e]) := by
  unfold okEl at h
  rw [decide_eq_true_eq] at h
  obtain ⟨h1, h2, h3⟩ := h
  have hl := elB_length nw e
  obtain ⟨f, rfl⟩ : ∃ g, f = g + 1 := ⟨f - 1, by rw [hl] at hf; split at hf <;> omega⟩
  cases nw
  · simp only [Bool.false_eq_true, if_false] at hl
    have e1 : (UInt8.ofNat e.id.toNat).toNat = e.id.toNat := toNat_ofNat (by omega)
    have e2 : (UInt8.ofNat e.data.length).toNat = e.data.length := toNat_ofNat (by omega)
    have hB : elB false e ++ r = UInt8.ofNat e.id.toNat :: UInt8.ofNat e.data.length :: (e.data ++ r) := by simp [elB]
    rw [hB, spotsG_cons, e1, if_neg (by omega), if_neg (by simp)]
    simp only [e2]
    rw [if_neg (by simp), if_neg (by rw [ho]; simp), List.drop_left, hl]
    simp only [elSp, Bool.false_eq_true, if_false]
    rw [show a + 2 + e.data.length = a + (2 + e.data.length) by omega]
    exact spotsG_fuel _ _ _ _ _ _ (by rw [hl] at hf; omega) (by rw [hl] at hf; omega)
  · have hne := hn rfl
    unfold narrowE at hne
    rw [decide_eq_true_eq] at hne
    obtain ⟨n1, n2, n3⟩ := hne
    simp only [if_true] at hl
    have e1 : (UInt8.ofNat (16 * e.id.toNat + e.data.length - 1)).toNat = 16 * e.id.toNat + e.data.length - 1 := toNat_ofNat (by omega)
    have hB : elB true e ++ r = UInt8.ofNat (16 * e.id.toNat + e.data.length - 1) :: (e.data ++ r) := by simp [elB]
    rw [hB, spotsG_cons]
    have d1 : (16 * e.id.toNat + e.data.length - 1) / 16 = e.id.toNat := by omega
    have d2 : (16 * e.id.toNat + e.data.length - 1) % 16 + 1 = e.data.length := by omega
    rw [e1, if_neg (by omega), if_pos rfl, d1, d2, if_neg (by omega), if_neg (by simp), if_neg (by rw [ho]; simp), List.drop_left, hl]
    simp only [elSp, if_true]
    rw [show a + 1 + e.data.length = a + (1 + e.data.length) by omega]
    exact spotsG_fuel _ _ _ _ _ _ (by rw [hl] at hf; omega) (by rw [hl] at hf; omega)

end Go.Proofs.Ytpkbikimpjmkgaa

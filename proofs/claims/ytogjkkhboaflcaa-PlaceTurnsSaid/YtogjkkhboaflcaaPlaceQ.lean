/-
  Places as plain data: they stand one behind the other, from the first byte to the last; whose byte each is.
-/
import Derived.Test.YtogjkkhboaflcaaPlaceP
import Derived.Test.YtogjkkhboaflcaaBase
namespace Go.Proofs.Ytogjkkhboaflcaa

/-- One behind the other, from a on, none without bytes. -/
def chainP : Int → List Pl → Prop
  | _, [] => True
  | a, p :: l => p.a = a ∧ 1 ≤ p.s ∧ chainP (a + p.s) l
def totP (l : List Pl) : Int := (l.map Pl.s).sum
theorem totP_cons (p : Pl) (l : List Pl) : totP (p :: l) = p.s + totP l := by simp [totP]
theorem totP_nil : totP [] = 0 := rfl
theorem totP_append (l m : List Pl) : totP (l ++ m) = totP l + totP m := by simp [totP]
theorem chainP_append (l m : List Pl) : ∀ a, chainP a (l ++ m) ↔ chainP a l ∧ chainP (a + totP l) m := by
  induction l with
  | nil => intro a; simp [chainP, totP_nil]
  | cons p l ih =>
    intro a
    rw [List.cons_append]
    simp only [chainP, ih, totP_cons]
    rw [show a + (p.s + totP l) = a + p.s + totP l by omega]
    simp only [and_assoc]
theorem chainP_tot {l : List Pl} : ∀ {a : Int}, chainP a l → 0 ≤ totP l := by
  induction l with
  | nil => intro a _; simp [totP_nil]
  | cons p l ih =>
    intro a h
    have := ih h.2.2
    have := h.2.1
    rw [totP_cons]; omega
theorem owner_below {l : List Pl} : ∀ {a x : Int}, chainP a l → x < a → ownerP l x = -1 := by
  induction l with
  | nil => intro a x _ _; rfl
  | cons p l ih =>
    intro a x h hx
    obtain ⟨h1, h2, h3⟩ := h
    unfold ownerP
    rw [if_neg (by unfold inPl; rw [decide_eq_true_eq]; omega)]
    exact ih h3 (by omega)
theorem owner_behind {l : List Pl} : ∀ {a x : Int}, chainP a l → a + totP l ≤ x → ownerP l x = -1 := by
  induction l with
  | nil => intro a x _ _; rfl
  | cons p l ih =>
    intro a x h hx
    obtain ⟨h1, h2, h3⟩ := h
    rw [totP_cons] at hx
    have := chainP_tot h3
    unfold ownerP
    rw [if_neg (by unfold inPl; rw [decide_eq_true_eq]; omega)]
    exact ih h3 (by omega)
theorem chain_at {l : List Pl} : ∀ {a : Int} {k : Nat}, chainP a l → (hk : k < l.length) → l[k].a = a + totP (l.take k) ∧ 1 ≤ l[k].s ∧ a + totP (l.take k) + l[k].s ≤ a + totP l ∧ ownerP l (a + totP (l.take k)) = l[k].f := by
  induction l with
  | nil => intro a k _ hk; simp at hk
  | cons p l ih =>
    intro a k h hk
    obtain ⟨h1, h2, h3⟩ := h
    cases k with
    | zero =>
      have := chainP_tot h3
      refine ⟨by simp [totP, h1], by simpa using h2, by simp [totP] at this ⊢; omega, ?_⟩
      simp only [List.take_zero, totP_nil, List.getElem_cons_zero]
      unfold ownerP
      rw [if_pos (by unfold inPl; rw [decide_eq_true_eq]; omega)]
    | succ k =>
      have hk' : k < l.length := by simpa using hk
      obtain ⟨g1, g2, g3, g4⟩ := ih h3 hk'
      have g5 : 0 ≤ totP (l.take k) := by
        have e : l = l.take k ++ l.drop k := (List.take_append_drop k l).symm
        rw [e, chainP_append] at h3
        exact chainP_tot h3.1
      simp only [List.take_succ_cons, List.getElem_cons_succ, totP_cons]
      refine ⟨by omega, g2, by omega, ?_⟩
      unfold ownerP
      rw [if_neg (by unfold inPl; rw [decide_eq_true_eq]; omega), show a + (p.s + totP (List.take k l)) = a + p.s + totP (List.take k l) by omega]
      exact g4
theorem chain_take {l : List Pl} {a : Int} (h : chainP a l) (k : Nat) : 0 ≤ totP (l.take k) := by
  have e : l = l.take k ++ l.drop k := (List.take_append_drop k l).symm
  rw [e, chainP_append] at h
  exact chainP_tot h.1
theorem chain_len {l : List Pl} : ∀ {a : Int}, chainP a l → (l.length : Int) ≤ totP l := by
  induction l with
  | nil => intro a _; simp [totP_nil]
  | cons p l ih =>
    intro a h
    have := ih h.2.2
    have := h.2.1
    rw [totP_cons, List.length_cons]; omega
theorem totP_succ {l : List Pl} {k : Nat} (hk : k < l.length) : totP (l.take (k + 1)) = totP (l.take k) + l[k].s := by
  rw [List.take_succ_eq_append_getElem hk, totP_append, totP_cons, totP_nil]; omega

theorem base_chain : chainP 0 basePl ∧ totP basePl = 12 := by
  refine ⟨?_, rfl⟩
  simp [basePl, chainP]
theorem csrc_chain (n : Nat) : chainP 12 (csrcPl n) ∧ totP (csrcPl n) = 4 * (n : Int) := by
  induction n with
  | zero => exact ⟨trivial, rfl⟩
  | succ n ih =>
    obtain ⟨h1, h2⟩ := ih
    rw [csrcPl_succ, chainP_append, totP_append, h2]
    exact ⟨⟨h1, by simp [chainP]⟩, by rw [totP_cons, totP_nil]; simp; omega⟩
theorem ext_chain (ex : Bool) (n e : Nat) (h0 : ex = false → e = 0) : chainP (12 + 4 * (n : Int)) (extPl ex n e) ∧ (12 + 4 * (n : Int)) + totP (extPl ex n e) = atX ex n e := by
  unfold extPl atX
  cases ex
  · simp [chainP, totP]
  · rw [if_pos rfl, if_pos rfl]
    split
    · simp [chainP, totP]; omega
    · simp [chainP, totP]; omega
theorem pay_chain (a : Int) (y : Nat) : chainP a (payPl a y) ∧ totP (payPl a y) = y := by
  unfold payPl
  split
  · simp [chainP, totP]; omega
  · simp [chainP, totP]; omega
theorem fill_chain (a k : Int) : chainP a (fillPl a k) ∧ totP (fillPl a k) = if 1 < k then k - 1 else 0 := by
  unfold fillPl
  split
  · simp [chainP, totP]; omega
  · simp [chainP, totP]
theorem count_chain (len : Nat) (k : Int) : (0 < k → chainP ((len : Int) - 1) (countPl len k)) ∧ (k ≤ 0 → countPl len k = []) ∧ totP (countPl len k) = if 0 < k then 1 else 0 := by
  unfold countPl
  refine ⟨fun h => ?_, fun h => if_neg (by omega), ?_⟩
  · rw [if_pos h]; simp [chainP]
  · split
    · simp [totP]
    · simp [totP]
/-- The places of a packet's bytes cover them. -/
theorem places_cover {s : List UInt8} (h : pErr s = 0) : chainP 0 (placesS s) ∧ totP (placesS s) = s.length := by
  have hsz := packOf_size h
  have hrt := packOf_rightC h
  obtain ⟨r1, r2, r3, r4, r5, r6, r7, r8⟩ := rightP_parts hrt.1
  have hk : 0 ≤ (packOf s).pad := by
    cases hq : (packOf s).hd.pad
    · rw [r7 hq]; omega
    · have := r6 hq; omega
  have hkp : (if (packOf s).hd.pad = true then (packOf s).pad else 0) = (packOf s).pad := by
    cases hq : (packOf s).hd.pad
    · rw [r7 hq]; simp
    · simp
  unfold placesS
  rw [if_pos h]
  unfold sizeP at hsz
  rw [hkp] at hsz
  generalize packOf s = p at *
  generalize s.length = len at *
  unfold placesP
  obtain ⟨b1, b2⟩ := base_chain
  obtain ⟨c1, c2⟩ := csrc_chain p.hd.csrc.length
  obtain ⟨e1, e2⟩ := ext_chain p.hd.ext p.hd.csrc.length p.ext.length (fun he => (r5 he).2)
  obtain ⟨y1, y2⟩ := pay_chain (atX p.hd.ext p.hd.csrc.length p.ext.length) p.pay.length
  obtain ⟨f1, f2⟩ := fill_chain (atX p.hd.ext p.hd.csrc.length p.ext.length + p.pay.length) p.pad
  obtain ⟨g1, g2, g3⟩ := count_chain len p.pad
  have ha : atX p.hd.ext p.hd.csrc.length p.ext.length = 12 + 4 * (p.hd.csrc.length : Int) + (if p.hd.ext = true then 4 + (p.ext.length : Int) else 0) := rfl
  generalize atX p.hd.ext p.hd.csrc.length p.ext.length = z at *
  have hz : z + p.pay.length + p.pad = len := by omega
  simp only [chainP_append, totP_append, b2, c2, y2, f2, g3]
  have hzt : 0 + 12 + 4 * (p.hd.csrc.length : Int) + totP (extPl p.hd.ext p.hd.csrc.length p.ext.length) = z := by omega
  refine ⟨⟨b1, by simpa using c1, by simpa using e1, by rw [hzt]; exact y1, by rw [hzt]; exact f1, ?_⟩, ?_⟩
  · rw [hzt]
    by_cases hp : 0 < p.pad
    · have := g1 hp
      rw [show z + (p.pay.length : Int) + (if 1 < p.pad then p.pad - 1 else 0) = (len : Int) - 1 by split <;> omega]
      exact this
    · rw [g2 (by omega)]
      trivial
  · split <;> split <;> omega

end Go.Proofs.Ytogjkkhboaflcaa

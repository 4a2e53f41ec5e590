/-
  Headers with something else in one field: which bytes stay (plain).
-/
import Derived.Test.YtjbpjmjieomoiaaHeadM
namespace Go.Proofs.Ytjbpjmjieomoiaa

theorem seg_eq {A S S' C : List UInt8} (hl : S.length = S'.length) {i : Nat} (h : i < A.length ∨ A.length + S.length ≤ i) : g8 (A ++ (S ++ C)) i = g8 (A ++ (S' ++ C)) i := by
  unfold g8
  rw [List.getD_eq_getElem?_getD, List.getD_eq_getElem?_getD]
  rcases h with h | h
  · rw [List.getElem?_append_left h, List.getElem?_append_left h]
  · rw [List.getElem?_append_right (by omega), List.getElem?_append_right (by omega), List.getElem?_append_right (by omega), List.getElem?_append_right (by omega), hl]
/-- As many sources, and the same bytes but from fr on and ahead of to. -/
def BitsR (h g : Hd) (fr to : Nat) : Prop := g.csrc.length = h.csrc.length ∧ ∀ i, i < fr ∨ to ≤ i → g8 (headB h) i = g8 (headB g) i
section
variable (p e m : Bool) (t : Int) (q ti ss : Nat) (l : List Nat)
theorem headB_eq : headB ⟨p, e, m, t, q, ti, ss, l⟩ = [UInt8.ofNat (firstB ⟨p, e, m, t, q, ti, ss, l⟩)] ++ ([UInt8.ofNat (secondB ⟨p, e, m, t, q, ti, ss, l⟩)] ++ (be 2 q ++ (be 4 ti ++ (be 4 ss ++ be4s l)))) := rfl
theorem bits0 (p' e' : Bool) : BitsR ⟨p, e, m, t, q, ti, ss, l⟩ ⟨p', e', m, t, q, ti, ss, l⟩ 0 1 := by
  refine ⟨rfl, fun i hi => ?_⟩
  have e1 : ∀ p e : Bool, headB ⟨p, e, m, t, q, ti, ss, l⟩ = [] ++ ([UInt8.ofNat (firstB ⟨p, e, m, t, q, ti, ss, l⟩)] ++ ([UInt8.ofNat (t.toNat + n1 m 128)] ++ (be 2 q ++ (be 4 ti ++ (be 4 ss ++ be4s l))))) := fun p e => rfl
  rw [e1 p e, e1 p' e']
  refine seg_eq (by simp) ?_
  simpa using hi
theorem bits1 (m' : Bool) (t' : Int) : BitsR ⟨p, e, m, t, q, ti, ss, l⟩ ⟨p, e, m', t', q, ti, ss, l⟩ 1 2 := by
  refine ⟨rfl, fun i hi => ?_⟩
  have e1 : ∀ (m : Bool) (t : Int), headB ⟨p, e, m, t, q, ti, ss, l⟩ = [UInt8.ofNat (128 + l.length + n1 p 32 + n1 e 16)] ++ ([UInt8.ofNat (t.toNat + n1 m 128)] ++ (be 2 q ++ (be 4 ti ++ (be 4 ss ++ be4s l)))) := fun m t => rfl
  rw [e1 m t, e1 m' t']
  refine seg_eq (by simp) ?_
  simpa using hi
theorem bits2 (q' : Nat) : BitsR ⟨p, e, m, t, q, ti, ss, l⟩ ⟨p, e, m, t, q', ti, ss, l⟩ 2 4 := by
  refine ⟨rfl, fun i hi => ?_⟩
  have e1 : ∀ x, headB ⟨p, e, m, t, x, ti, ss, l⟩ = ([UInt8.ofNat (firstB ⟨p, e, m, t, q, ti, ss, l⟩)] ++ [UInt8.ofNat (secondB ⟨p, e, m, t, q, ti, ss, l⟩)]) ++ (be 2 x ++ (be 4 ti ++ (be 4 ss ++ be4s l))) := fun x => by rw [headB_eq]; simp [firstB, secondB]
  rw [e1 q, e1 q']
  exact seg_eq (by rw [be_length, be_length]) (by simpa [be_length] using hi)
theorem bits3 (ti' : Nat) : BitsR ⟨p, e, m, t, q, ti, ss, l⟩ ⟨p, e, m, t, q, ti', ss, l⟩ 4 8 := by
  refine ⟨rfl, fun i hi => ?_⟩
  have e1 : ∀ x, headB ⟨p, e, m, t, q, x, ss, l⟩ = ([UInt8.ofNat (firstB ⟨p, e, m, t, q, ti, ss, l⟩)] ++ [UInt8.ofNat (secondB ⟨p, e, m, t, q, ti, ss, l⟩)] ++ be 2 q) ++ (be 4 x ++ (be 4 ss ++ be4s l)) := fun x => by rw [headB_eq]; simp [firstB, secondB]
  rw [e1 ti, e1 ti']
  exact seg_eq (by rw [be_length, be_length]) (by simpa [be_length] using hi)
theorem bits4 (ss' : Nat) : BitsR ⟨p, e, m, t, q, ti, ss, l⟩ ⟨p, e, m, t, q, ti, ss', l⟩ 8 12 := by
  refine ⟨rfl, fun i hi => ?_⟩
  have e1 : ∀ x, headB ⟨p, e, m, t, q, ti, x, l⟩ = ([UInt8.ofNat (firstB ⟨p, e, m, t, q, ti, ss, l⟩)] ++ [UInt8.ofNat (secondB ⟨p, e, m, t, q, ti, ss, l⟩)] ++ be 2 q ++ be 4 ti) ++ (be 4 x ++ be4s l) := fun x => by rw [headB_eq]; simp [firstB, secondB]
  rw [e1, e1]
  exact seg_eq (by rw [be_length, be_length]) (by simpa [be_length] using hi)
theorem bits5 (x y : Nat) : BitsR ⟨p, e, m, t, q, ti, ss, x :: l⟩ ⟨p, e, m, t, q, ti, ss, y :: l⟩ 12 16 := by
  refine ⟨rfl, fun i hi => ?_⟩
  have e1 : ∀ z, headB ⟨p, e, m, t, q, ti, ss, z :: l⟩ = ([UInt8.ofNat (firstB ⟨p, e, m, t, q, ti, ss, x :: l⟩)] ++ [UInt8.ofNat (secondB ⟨p, e, m, t, q, ti, ss, x :: l⟩)] ++ be 2 q ++ be 4 ti ++ be 4 ss) ++ (be 4 z ++ be4s l) := fun z => by rw [headB_eq, be4s_cons]; simp [firstB, secondB]
  rw [e1, e1]
  exact seg_eq (by rw [be_length, be_length]) (by simpa [be_length] using hi)
theorem bits_same (fr to : Nat) : BitsR ⟨p, e, m, t, q, ti, ss, l⟩ ⟨p, e, m, t, q, ti, ss, l⟩ fr to := ⟨rfl, fun _ _ => rfl⟩
end

end Go.Proofs.Ytjbpjmjieomoiaa

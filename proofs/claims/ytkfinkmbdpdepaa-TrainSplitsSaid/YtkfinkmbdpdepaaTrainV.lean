/-
  Rows of a call's own, while another row grows; two rows that grow in turn (a list of lists of bytes, and the bytes joined). Nothing here speaks of a program, but for its types.
-/
import Derived.Test.YtkfinkmbdpdepaaTrainP
import Derived.Test.YtkfinkmbdpdepaaTrainC
namespace Go.Proofs.Ytkfinkmbdpdepaa
open Go.RowKit
set_option linter.unusedVariables false

section
variable {k : Nat} {w w' : World} {base n c : Nat} {e : TypeId} {A : Option Addr} {xs : List Value} {row : Option Nat}
theorem rowK_grown (h : w.ownsRow base e k (.slice A n c) n xs) (hg : w.grownBy w' row) (hne : ∀ g, rowOf A = some g → some g ≠ row) : w'.ownsRow base e k (.slice A n c) n xs := by
  obtain ⟨h1, h2⟩ := h
  refine ⟨h1, ?_⟩
  rcases h2 with h2 | ⟨g, cap, cur, hv, hb, hh, r⟩
  · exact .inl h2
  · refine .inr ⟨g, cap, cur, hv, hb, ?_, r⟩
    injection hv with e1
    exact (hg.block g (lt_of_block hh) (hne g (by rw [e1]; rfl))).trans hh
theorem OwnL.grown_far {es : List Lp} (h : OwnL w base A n c es) (hg : w.grownBy w' row) (hne : ∀ g, rowOf A = some g → some g ≠ row) (hes : ∀ x ∈ es, 0 < x.n → rowOf x.A ≠ row) : OwnL w' base A n c es :=
  ⟨rowK_grown h.1 hg hne, fun x hx => ⟨(h.2 x hx).1.grown hg (hes x hx), (h.2 x hx).2⟩⟩
theorem Own.grown_far {s : List UInt8} (h : Own w base e A n c s) (hg : w.grownBy w' row) (hne : ∀ g, rowOf A = some g → some g ≠ row) : Own w' base e A n c s := rowK_grown h hg hne
end

/-- Cars in a row of the call's own, and all their bytes, joined, in another one. -/
def CarsIn (w W : World) (B1 : Option Addr) (d1 : Nat) (A1 : Option Addr) (n1 c1 : Nat) (C : List (List UInt8)) : Prop :=
  ∃ es : List Lp, OwnL W w.heap.size B1 C.length d1 es ∧ es.map Lp.s = C ∧ Own W w.heap.size 5 A1 n1 c1 C.flatten ∧ (∀ g, rowOf A1 = some g → some g ≠ rowOf B1) ∧ (∀ x ∈ es, 0 < x.n → rowOf x.A ≠ rowOf A1) ∧ Below w.heap.size w W
theorem CarsIn.start (w : World) : CarsIn w w none 0 none 0 0 [] := ⟨[], OwnL.nil _ _, rfl, Own.nil _ _ _, by simp [rowOf], by simp, Below.refl _ _⟩
theorem CarsIn.below {w W W' : World} {B1 A1 : Option Addr} {d1 n1 c1 : Nat} {C : List (List UInt8)} (h : CarsIn w W B1 d1 A1 n1 c1 C) (hb : Below W.heap.size W W') : CarsIn w W' B1 d1 A1 n1 c1 C := by
  obtain ⟨es, h1, h2, h3, h4, h5, h6⟩ := h
  exact ⟨es, h1.below hb, h2, h3.below hb, h4, h5, h6.trans (hb.mono h6.size)⟩
theorem CarsIn.len {w W : World} {B1 A1 : Option Addr} {d1 n1 c1 : Nat} {C : List (List UInt8)} (h : CarsIn w W B1 d1 A1 n1 c1 C) : C.flatten.length = n1 := by
  obtain ⟨es, h1, h2, h3, h4, h5, h6⟩ := h
  exact h3.len
theorem CarsIn.bls {w W : World} {B1 A1 : Option Addr} {d1 n1 c1 : Nat} {C : List (List UInt8)} (h : CarsIn w W B1 d1 A1 n1 c1 C) : Bls W B1 C.length d1 C := by
  obtain ⟨es, h1, h2, h3, h4, h5, h6⟩ := h
  rw [← h2, List.length_map]
  rw [← h2, List.length_map] at h1
  exact h1.bls
theorem CarsIn.bs {w W : World} {B1 A1 : Option Addr} {d1 n1 c1 : Nat} {C : List (List UInt8)} (h : CarsIn w W B1 d1 A1 n1 c1 C) : Bs W A1 n1 c1 C.flatten := by
  obtain ⟨es, h1, h2, h3, h4, h5, h6⟩ := h
  exact h3.bs
theorem CarsIn.base {w W : World} {B1 A1 : Option Addr} {d1 n1 c1 : Nat} {C : List (List UInt8)} (h : CarsIn w W B1 d1 A1 n1 c1 C) : Below w.heap.size w W := by
  obtain ⟨es, h1, h2, h3, h4, h5, h6⟩ := h
  exact h6

/-- The list has grown by one more. -/
theorem cars_mid {W W2 : World} {base b m n1 c1 d1 d2 lx cx : Nat} {B1 A1 Ax B2 : Option Addr} {es : List Lp} {X S : List UInt8} {o : Obj}
    (h1 : OwnL W base B1 m d1 es) (h3 : Own W base 5 A1 n1 c1 S) (h4 : ∀ g, rowOf A1 = some g → some g ≠ rowOf B1) (h5 : ∀ x ∈ es, 0 < x.n → rowOf x.A ≠ rowOf A1)
    (hx : Own W b 5 Ax lx cx X) (hxA : 0 < lx → rowOf Ax ≠ rowOf A1) (hxB : 0 < lx → rowOf Ax ≠ rowOf B1)
    (hgr : (W.alloc o).grownBy W2 (rowOf B1)) (hat : rowOf B2 = rowOf B1 ∨ rowOf B2 = some (W.alloc o).heap.size)
    (hr : W2.ownsRow base 22 1 (.slice B2 (m + 1) d2) (m + 1) (es.flatMap lpC ++ lpC ⟨Ax, lx, cx, X⟩)) :
    OwnL W2 base B2 (m + 1) d2 (es ++ [⟨Ax, lx, cx, X⟩]) ∧ Own W2 base 5 A1 n1 c1 S ∧ Bs W2 Ax lx cx X ∧ (∀ g, rowOf A1 = some g → some g ≠ rowOf B2) ∧ (∀ y ∈ es ++ [⟨Ax, lx, cx, X⟩], 0 < y.n → rowOf y.A ≠ rowOf A1) := by
  have b1 : Below W.heap.size W (W.alloc o) := below1 W o
  refine ⟨OwnL.grown (x := ⟨Ax, lx, cx, X⟩) (h1.below b1) hgr hat hr (hx.bs.below b1) hxB, Own.grown_far (h3.below b1) hgr h4, (hx.bs.below b1).grown hgr hxB, fun g hg => ?_, fun y hy => ?_⟩
  · rcases hat with e | e
    · rw [e]; exact h4 g hg
    · rw [e]
      have := h3.row_lt g hg
      intro e2
      injection e2 with e2
      simp at e2
      omega
  · rw [List.mem_append, List.mem_singleton] at hy
    rcases hy with hy | rfl
    · exact h5 y hy
    · exact hxA
/-- The bytes have grown. -/
theorem cars_end {W2 W3 : World} {base m d2 : Nat} {A1 A2 B2 : Option Addr} {es : List Lp}
    (h1 : OwnL W2 base B2 m d2 es) (h4 : ∀ g, rowOf A1 = some g → some g ≠ rowOf B2) (h5 : ∀ x ∈ es, 0 < x.n → rowOf x.A ≠ rowOf A1)
    (hgr : W2.grownBy W3 (rowOf A1)) (hat : rowOf A2 = rowOf A1 ∨ rowOf A2 = some W2.heap.size) :
    OwnL W3 base B2 m d2 es ∧ (∀ g, rowOf A2 = some g → some g ≠ rowOf B2) ∧ (∀ y ∈ es, 0 < y.n → rowOf y.A ≠ rowOf A2) := by
  refine ⟨h1.grown_far hgr (fun g hg e => h4 g e.symm hg.symm) h5, fun g hg => ?_, fun y hy hn => ?_⟩
  · rcases hat with e | e
    · exact h4 g (by rw [← e]; exact hg)
    · rw [e] at hg
      injection hg with hg
      intro e2
      have := rowV_lt h1.1 g e2.symm
      omega
  · rcases hat with e | e
    · rw [e]; exact h5 y hy hn
    · rw [e]
      obtain ⟨b, e1, e2⟩ := bs_rowlt (h1.2 y hy).1 hn
      rw [e1]
      intro e3
      injection e3 with e3
      omega

end Go.Proofs.Ytkfinkmbdpdepaa

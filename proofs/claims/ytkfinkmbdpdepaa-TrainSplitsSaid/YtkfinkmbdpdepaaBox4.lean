/-
  Variables that lie in memory as structs of 4 cells: a struct stored whole. Nothing here speaks of a program.
-/
import Derived.Test.YtkfinkmbdpdepaaBase
namespace Go.Proofs.Ytkfinkmbdpdepaa
open Go.RowKit

/-- A struct of 4 cells, stored whole. -/
def put4 (w : World) (b : Nat) (u0 u1 u2 u3 : Value) : World := (((w.setCell ⟨b, 0, none⟩ u0).setCell ⟨b, 1, none⟩ u1).setCell ⟨b, 2, none⟩ u2).setCell ⟨b, 3, none⟩ u3
section
variable {w w' : World} {b : Nat} {x0 x1 x2 x3 : Value}
theorem Box.put4 (k : Box w b [x0, x1, x2, x3]) (u0 u1 u2 u3 : Value) : Box (put4 w b u0 u1 u2 u3) b [u0, u1, u2, u3] :=
  (((k.set 0 u0 (by simp)).set 1 u1 (by simp)).set 2 u2 (by simp)).set 3 u3 (by simp)
theorem Box.all4 (h : Box w b [x0, x1, x2, x3]) : (w.cell? ⟨b, 0, none⟩ = some x0 ∧ w.cell? ⟨b, 1, none⟩ = some x1 ∧ w.cell? ⟨b, 2, none⟩ = some x2 ∧ w.cell? ⟨b, 3, none⟩ = some x3) ∧ b < w.heap.size :=
  ⟨⟨h.1 0 _ rfl, h.1 1 _ rfl, h.1 2 _ rfl, h.1 3 _ rfl⟩, h.2.2⟩
theorem Box.free4 {xs : List Value} (h : Box w b xs) : w.frozen? ⟨b, 0, none⟩ = false ∧ w.frozen? ⟨b, 1, none⟩ = false ∧ w.frozen? ⟨b, 2, none⟩ = false ∧ w.frozen? ⟨b, 3, none⟩ = false :=
  ⟨h.2.1 0, h.2.1 1, h.2.1 2, h.2.1 3⟩
theorem Box.far4 {c : Nat} {xs : List Value} (h : Box w c xs) (hne : b ≠ c) (u0 u1 u2 u3 : Value) : Box (Proofs.Ytkfinkmbdpdepaa.put4 w b u0 u1 u2 u3) c xs :=
  (((h.other (p := ⟨b, 0, none⟩) u0 hne).other (p := ⟨b, 1, none⟩) u1 hne).other (p := ⟨b, 2, none⟩) u2 hne).other (p := ⟨b, 3, none⟩) u3 hne
theorem rowV_put4 {base n c : Nat} {e : TypeId} {A : Option Addr} {xs : List Value} (h : w.ownsRow base e 1 (.slice A n c) n xs) (hp : some b ≠ rowOf A) (u0 u1 u2 u3 : Value) : (put4 w b u0 u1 u2 u3).ownsRow base e 1 (.slice A n c) n xs :=
  rowV_other (p := ⟨b, 3, none⟩) (rowV_other (p := ⟨b, 2, none⟩) (rowV_other (p := ⟨b, 1, none⟩) (rowV_other (p := ⟨b, 0, none⟩) h u0 hp) u1 hp) u2 hp) u3 hp
theorem below_put4 {B : Nat} (h : Below B w' w) (hb : B ≤ b) (u0 u1 u2 u3 : Value) : Below B w' (put4 w b u0 u1 u2 u3) :=
  (((h.setCell (p := ⟨b, 0, none⟩) hb u0).setCell (p := ⟨b, 1, none⟩) hb u1).setCell (p := ⟨b, 2, none⟩) hb u2).setCell (p := ⟨b, 3, none⟩) hb u3
end

end Go.Proofs.Ytkfinkmbdpdepaa

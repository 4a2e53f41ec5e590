/-
  Variables that lie in memory as structs of 6 cells: a struct stored whole. Nothing here speaks of a program.
-/
import Derived.Test.YtkfinkmbdpdepaaBase
namespace Go.Proofs.Ytkfinkmbdpdepaa
open Go.RowKit

/-- A struct of 6 cells, stored whole. -/
def put6 (w : World) (b : Nat) (u0 u1 u2 u3 u4 u5 : Value) : World := (((((w.setCell ⟨b, 0, none⟩ u0).setCell ⟨b, 1, none⟩ u1).setCell ⟨b, 2, none⟩ u2).setCell ⟨b, 3, none⟩ u3).setCell ⟨b, 4, none⟩ u4).setCell ⟨b, 5, none⟩ u5
section
variable {w w' : World} {b : Nat} {x0 x1 x2 x3 x4 x5 : Value}
theorem Box.put6 (k : Box w b [x0, x1, x2, x3, x4, x5]) (u0 u1 u2 u3 u4 u5 : Value) : Box (put6 w b u0 u1 u2 u3 u4 u5) b [u0, u1, u2, u3, u4, u5] :=
  (((((k.set 0 u0 (by simp)).set 1 u1 (by simp)).set 2 u2 (by simp)).set 3 u3 (by simp)).set 4 u4 (by simp)).set 5 u5 (by simp)
theorem Box.all6 (h : Box w b [x0, x1, x2, x3, x4, x5]) : (w.cell? ⟨b, 0, none⟩ = some x0 ∧ w.cell? ⟨b, 1, none⟩ = some x1 ∧ w.cell? ⟨b, 2, none⟩ = some x2 ∧ w.cell? ⟨b, 3, none⟩ = some x3 ∧ w.cell? ⟨b, 4, none⟩ = some x4 ∧ w.cell? ⟨b, 5, none⟩ = some x5) ∧ b < w.heap.size :=
  ⟨⟨h.1 0 _ rfl, h.1 1 _ rfl, h.1 2 _ rfl, h.1 3 _ rfl, h.1 4 _ rfl, h.1 5 _ rfl⟩, h.2.2⟩
theorem Box.free6 {xs : List Value} (h : Box w b xs) : w.frozen? ⟨b, 0, none⟩ = false ∧ w.frozen? ⟨b, 1, none⟩ = false ∧ w.frozen? ⟨b, 2, none⟩ = false ∧ w.frozen? ⟨b, 3, none⟩ = false ∧ w.frozen? ⟨b, 4, none⟩ = false ∧ w.frozen? ⟨b, 5, none⟩ = false :=
  ⟨h.2.1 0, h.2.1 1, h.2.1 2, h.2.1 3, h.2.1 4, h.2.1 5⟩
theorem Box.far6 {c : Nat} {xs : List Value} (h : Box w c xs) (hne : b ≠ c) (u0 u1 u2 u3 u4 u5 : Value) : Box (Proofs.Ytkfinkmbdpdepaa.put6 w b u0 u1 u2 u3 u4 u5) c xs :=
  (((((h.other (p := ⟨b, 0, none⟩) u0 hne).other (p := ⟨b, 1, none⟩) u1 hne).other (p := ⟨b, 2, none⟩) u2 hne).other (p := ⟨b, 3, none⟩) u3 hne).other (p := ⟨b, 4, none⟩) u4 hne).other (p := ⟨b, 5, none⟩) u5 hne
theorem rowV_put6 {base n c : Nat} {e : TypeId} {A : Option Addr} {xs : List Value} (h : w.ownsRow base e 1 (.slice A n c) n xs) (hp : some b ≠ rowOf A) (u0 u1 u2 u3 u4 u5 : Value) : (put6 w b u0 u1 u2 u3 u4 u5).ownsRow base e 1 (.slice A n c) n xs :=
  rowV_other (p := ⟨b, 5, none⟩) (rowV_other (p := ⟨b, 4, none⟩) (rowV_other (p := ⟨b, 3, none⟩) (rowV_other (p := ⟨b, 2, none⟩) (rowV_other (p := ⟨b, 1, none⟩) (rowV_other (p := ⟨b, 0, none⟩) h u0 hp) u1 hp) u2 hp) u3 hp) u4 hp) u5 hp
theorem below_put6 {B : Nat} (h : Below B w' w) (hb : B ≤ b) (u0 u1 u2 u3 u4 u5 : Value) : Below B w' (put6 w b u0 u1 u2 u3 u4 u5) :=
  (((((h.setCell (p := ⟨b, 0, none⟩) hb u0).setCell (p := ⟨b, 1, none⟩) hb u1).setCell (p := ⟨b, 2, none⟩) hb u2).setCell (p := ⟨b, 3, none⟩) hb u3).setCell (p := ⟨b, 4, none⟩) hb u4).setCell (p := ⟨b, 5, none⟩) hb u5
end

end Go.Proofs.Ytkfinkmbdpdepaa

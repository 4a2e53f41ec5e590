/-
  Variables that lie in memory as structs of 12 cells: a struct stored whole. Nothing here speaks of a program.
-/
import Derived.Test.YtbalpndgpdbcbaaAppV
namespace Go.Proofs.Ytbalpndgpdbcbaa
open Go.RowKit

/-- A struct of 12 cells, stored whole. -/
def put12 (w : World) (b : Nat) (u0 u1 u2 u3 u4 u5 u6 u7 u8 u9 u10 u11 : Value) : World := (((((((((((w.setCell ⟨b, 0, none⟩ u0).setCell ⟨b, 1, none⟩ u1).setCell ⟨b, 2, none⟩ u2).setCell ⟨b, 3, none⟩ u3).setCell ⟨b, 4, none⟩ u4).setCell ⟨b, 5, none⟩ u5).setCell ⟨b, 6, none⟩ u6).setCell ⟨b, 7, none⟩ u7).setCell ⟨b, 8, none⟩ u8).setCell ⟨b, 9, none⟩ u9).setCell ⟨b, 10, none⟩ u10).setCell ⟨b, 11, none⟩ u11
section
variable {w w' : World} {b : Nat} {x0 x1 x2 x3 x4 x5 x6 x7 x8 x9 x10 x11 : Value}
theorem Box.put12 (k : Box w b [x0, x1, x2, x3, x4, x5, x6, x7, x8, x9, x10, x11]) (u0 u1 u2 u3 u4 u5 u6 u7 u8 u9 u10 u11 : Value) : Box (put12 w b u0 u1 u2 u3 u4 u5 u6 u7 u8 u9 u10 u11) b [u0, u1, u2, u3, u4, u5, u6, u7, u8, u9, u10, u11] :=
  (((((((((((k.set 0 u0 (by simp)).set 1 u1 (by simp)).set 2 u2 (by simp)).set 3 u3 (by simp)).set 4 u4 (by simp)).set 5 u5 (by simp)).set 6 u6 (by simp)).set 7 u7 (by simp)).set 8 u8 (by simp)).set 9 u9 (by simp)).set 10 u10 (by simp)).set 11 u11 (by simp)
theorem Box.all12 (h : Box w b [x0, x1, x2, x3, x4, x5, x6, x7, x8, x9, x10, x11]) : (w.cell? ⟨b, 0, none⟩ = some x0 ∧ w.cell? ⟨b, 1, none⟩ = some x1 ∧ w.cell? ⟨b, 2, none⟩ = some x2 ∧ w.cell? ⟨b, 3, none⟩ = some x3 ∧ w.cell? ⟨b, 4, none⟩ = some x4 ∧ w.cell? ⟨b, 5, none⟩ = some x5 ∧ w.cell? ⟨b, 6, none⟩ = some x6 ∧ w.cell? ⟨b, 7, none⟩ = some x7 ∧ w.cell? ⟨b, 8, none⟩ = some x8 ∧ w.cell? ⟨b, 9, none⟩ = some x9 ∧ w.cell? ⟨b, 10, none⟩ = some x10 ∧ w.cell? ⟨b, 11, none⟩ = some x11) ∧ b < w.heap.size :=
  ⟨⟨h.1 0 _ rfl, h.1 1 _ rfl, h.1 2 _ rfl, h.1 3 _ rfl, h.1 4 _ rfl, h.1 5 _ rfl, h.1 6 _ rfl, h.1 7 _ rfl, h.1 8 _ rfl, h.1 9 _ rfl, h.1 10 _ rfl, h.1 11 _ rfl⟩, h.2.2⟩
theorem Box.free12 {xs : List Value} (h : Box w b xs) : w.frozen? ⟨b, 0, none⟩ = false ∧ w.frozen? ⟨b, 1, none⟩ = false ∧ w.frozen? ⟨b, 2, none⟩ = false ∧ w.frozen? ⟨b, 3, none⟩ = false ∧ w.frozen? ⟨b, 4, none⟩ = false ∧ w.frozen? ⟨b, 5, none⟩ = false ∧ w.frozen? ⟨b, 6, none⟩ = false ∧ w.frozen? ⟨b, 7, none⟩ = false ∧ w.frozen? ⟨b, 8, none⟩ = false ∧ w.frozen? ⟨b, 9, none⟩ = false ∧ w.frozen? ⟨b, 10, none⟩ = false ∧ w.frozen? ⟨b, 11, none⟩ = false :=
  ⟨h.2.1 0, h.2.1 1, h.2.1 2, h.2.1 3, h.2.1 4, h.2.1 5, h.2.1 6, h.2.1 7, h.2.1 8, h.2.1 9, h.2.1 10, h.2.1 11⟩
theorem Box.far12 {c : Nat} {xs : List Value} (h : Box w c xs) (hne : b ≠ c) (u0 u1 u2 u3 u4 u5 u6 u7 u8 u9 u10 u11 : Value) : Box (Proofs.Ytbalpndgpdbcbaa.put12 w b u0 u1 u2 u3 u4 u5 u6 u7 u8 u9 u10 u11) c xs :=
  (((((((((((h.other (p := ⟨b, 0, none⟩) u0 hne).other (p := ⟨b, 1, none⟩) u1 hne).other (p := ⟨b, 2, none⟩) u2 hne).other (p := ⟨b, 3, none⟩) u3 hne).other (p := ⟨b, 4, none⟩) u4 hne).other (p := ⟨b, 5, none⟩) u5 hne).other (p := ⟨b, 6, none⟩) u6 hne).other (p := ⟨b, 7, none⟩) u7 hne).other (p := ⟨b, 8, none⟩) u8 hne).other (p := ⟨b, 9, none⟩) u9 hne).other (p := ⟨b, 10, none⟩) u10 hne).other (p := ⟨b, 11, none⟩) u11 hne
theorem rowV_put12 {base n c : Nat} {e : TypeId} {A : Option Addr} {xs : List Value} (h : w.ownsRow base e 1 (.slice A n c) n xs) (hp : some b ≠ rowOf A) (u0 u1 u2 u3 u4 u5 u6 u7 u8 u9 u10 u11 : Value) : (put12 w b u0 u1 u2 u3 u4 u5 u6 u7 u8 u9 u10 u11).ownsRow base e 1 (.slice A n c) n xs :=
  rowV_other (p := ⟨b, 11, none⟩) (rowV_other (p := ⟨b, 10, none⟩) (rowV_other (p := ⟨b, 9, none⟩) (rowV_other (p := ⟨b, 8, none⟩) (rowV_other (p := ⟨b, 7, none⟩) (rowV_other (p := ⟨b, 6, none⟩) (rowV_other (p := ⟨b, 5, none⟩) (rowV_other (p := ⟨b, 4, none⟩) (rowV_other (p := ⟨b, 3, none⟩) (rowV_other (p := ⟨b, 2, none⟩) (rowV_other (p := ⟨b, 1, none⟩) (rowV_other (p := ⟨b, 0, none⟩) h u0 hp) u1 hp) u2 hp) u3 hp) u4 hp) u5 hp) u6 hp) u7 hp) u8 hp) u9 hp) u10 hp) u11 hp
theorem below_put12 {B : Nat} (h : Below B w' w) (hb : B ≤ b) (u0 u1 u2 u3 u4 u5 u6 u7 u8 u9 u10 u11 : Value) : Below B w' (put12 w b u0 u1 u2 u3 u4 u5 u6 u7 u8 u9 u10 u11) :=
  (((((((((((h.setCell (p := ⟨b, 0, none⟩) hb u0).setCell (p := ⟨b, 1, none⟩) hb u1).setCell (p := ⟨b, 2, none⟩) hb u2).setCell (p := ⟨b, 3, none⟩) hb u3).setCell (p := ⟨b, 4, none⟩) hb u4).setCell (p := ⟨b, 5, none⟩) hb u5).setCell (p := ⟨b, 6, none⟩) hb u6).setCell (p := ⟨b, 7, none⟩) hb u7).setCell (p := ⟨b, 8, none⟩) hb u8).setCell (p := ⟨b, 9, none⟩) hb u9).setCell (p := ⟨b, 10, none⟩) hb u10).setCell (p := ⟨b, 11, none⟩) hb u11
end

end Go.Proofs.Ytbalpndgpdbcbaa

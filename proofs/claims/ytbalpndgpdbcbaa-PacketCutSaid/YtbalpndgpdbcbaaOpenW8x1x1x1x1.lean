/-
  From the reading of an argument: a struct whose fields have 8, 1, 1, 1, 1 cells, opened. Nothing here speaks of a program.
-/
import Derived.Lib.SmallJoins
namespace Go.Proofs.Ytbalpndgpdbcbaa
open Go.ChangeShapes Go.WideShapes Go.RowKit Go.Deep

section
variable {H : Type} {enc : TypeId × Value → H} {P : Program} {w : World} {base : Nat} {spare : Nat → Bool} {held : Bool}
theorem listC8x1x1x1x1 {α : Type} {l : List α} (h : l.length = 12) : ∃ c0 c1 c2 c3 c4 c5 c6 c7 c8 c9 c10 c11, l = [c0, c1, c2, c3, c4, c5, c6, c7, c8, c9, c10, c11] := by
  match l, h with
  | [c0, c1, c2, c3, c4, c5, c6, c7, c8, c9, c10, c11], _ => exact ⟨c0, c1, c2, c3, c4, c5, c6, c7, c8, c9, c10, c11, rfl⟩
theorem listF8x1x1x1x1 {α : Type} {l : List α} (h : l.length = 5) : ∃ y0 y1 y2 y3 y4, l = [y0, y1, y2, y3, y4] := by
  match l, h with
  | [y0, y1, y2, y3, y4], _ => exact ⟨y0, y1, y2, y3, y4, rfl⟩
/-- A struct's cells, read. -/
theorem trod_aggW8x1x1x1x1 {t : TypeId} {f0 f1 f2 f3 f4 : Field} {fuel : Nat} {cs : List Value} {x : DataW H × List MemPlace} (hs : P.underlying t = some (.struct #[f0, f1, f2, f3, f4])) (hone : ((f0.offset == 0 && P.cellsOf f0.type == 8) && (f1.offset == 8 && P.cellsOf f1.type == 1) && (f2.offset == 9 && P.cellsOf f2.type == 1) && (f3.offset == 10 && P.cellsOf f3.type == 1) && (f4.offset == 11 && P.cellsOf f4.type == 1)) = true) (hC : P.cellsOf t = 12)
    (h : DataW.trod enc P w base spare held fuel t cs = some x) :
    ∃ (c0 c1 c2 c3 c4 c5 c6 c7 c8 c9 c10 c11 : Value) (y0 y1 y2 y3 y4 : DataW H × List MemPlace) (n : Nat), cs = [c0, c1, c2, c3, c4, c5, c6, c7, c8, c9, c10, c11] ∧ x = (.agg [y0.1, y1.1, y2.1, y3.1, y4.1], y0.2 ++ (y1.2 ++ (y2.2 ++ (y3.2 ++ y4.2)))) ∧
      DataW.trod enc P w base spare held n f0.type [c0, c1, c2, c3, c4, c5, c6, c7] = some y0 ∧ DataW.trod enc P w base spare held n f1.type [c8] = some y1 ∧ DataW.trod enc P w base spare held n f2.type [c9] = some y2 ∧ DataW.trod enc P w base spare held n f3.type [c10] = some y3 ∧ DataW.trod enc P w base spare held n f4.type [c11] = some y4 := by
  obtain ⟨xs, n, _, rfl, hl, hlen, hf⟩ := DataW.trod_struct hs h
  obtain ⟨c0, c1, c2, c3, c4, c5, c6, c7, c8, c9, c10, c11, rfl⟩ := listC8x1x1x1x1 (hl.trans hC)
  obtain ⟨y0, y1, y2, y3, y4, rfl⟩ := listF8x1x1x1x1 (by simpa using hlen : xs.length = 5)
  simp only [Bool.and_eq_true, beq_iff_eq] at hone
  obtain ⟨⟨⟨⟨⟨o0, k0⟩, o1, k1⟩, o2, k2⟩, o3, k3⟩, o4, k4⟩ := hone
  have g0 := hf 0 f0 rfl
  rw [o0, k0] at g0
  have g1 := hf 1 f1 rfl
  rw [o1, k1] at g1
  have g2 := hf 2 f2 rfl
  rw [o2, k2] at g2
  have g3 := hf 3 f3 rfl
  rw [o3, k3] at g3
  have g4 := hf 4 f4 rfl
  rw [o4, k4] at g4
  exact ⟨c0, c1, c2, c3, c4, c5, c6, c7, c8, c9, c10, c11, y0, y1, y2, y3, y4, n, rfl, by simp, by simpa using g0, by simpa using g1, by simpa using g2, by simpa using g3, by simpa using g4⟩
/-- A struct by value, opened: the value written out; each field's cells with their reading. -/
theorem open_aggW8x1x1x1x1 {r : Reach} {b0 : Nat} {t : TypeId} {f0 f1 f2 f3 f4 : Field} {v : Value} {d : DataW H} {p : List MemPlace} (hs : P.underlying t = some (.struct #[f0, f1, f2, f3, f4])) (hone : ((f0.offset == 0 && P.cellsOf f0.type == 8) && (f1.offset == 8 && P.cellsOf f1.type == 1) && (f2.offset == 9 && P.cellsOf f2.type == 1) && (f3.offset == 10 && P.cellsOf f3.type == 1) && (f4.offset == 11 && P.cellsOf f4.type == 1)) = true) (hC : P.cellsOf t = 12)
    (hv : Value.okWide P w r b0 t v) (h : DataW.Trod enc P w base spare held t v d p) :
    ∃ (c0 c1 c2 c3 c4 c5 c6 c7 c8 c9 c10 c11 : Value) (y0 y1 y2 y3 y4 : DataW H × List MemPlace) (n : Nat), v = .agg #[c0, c1, c2, c3, c4, c5, c6, c7, c8, c9, c10, c11] ∧ d = .agg [y0.1, y1.1, y2.1, y3.1, y4.1] ∧ p = y0.2 ++ (y1.2 ++ (y2.2 ++ (y3.2 ++ y4.2))) ∧
      DataW.trod enc P w base spare held n f0.type [c0, c1, c2, c3, c4, c5, c6, c7] = some y0 ∧ DataW.trod enc P w base spare held n f1.type [c8] = some y1 ∧ DataW.trod enc P w base spare held n f2.type [c9] = some y2 ∧ DataW.trod enc P w base spare held n f3.type [c10] = some y3 ∧ DataW.trod enc P w base spare held n f4.type [c11] = some y4 := by
  obtain ⟨cs, rfl, _⟩ := okWide_struct hs hv
  obtain ⟨fuel, hf⟩ := h
  obtain ⟨c0, c1, c2, c3, c4, c5, c6, c7, c8, c9, c10, c11, y0, y1, y2, y3, y4, n, hcs, hx, h0, h1, h2, h3, h4⟩ := trod_aggW8x1x1x1x1 hs hone hC hf
  have hcs' : cs.toList = [c0, c1, c2, c3, c4, c5, c6, c7, c8, c9, c10, c11] := by simpa [Value.cells] using hcs
  obtain rfl : cs = #[c0, c1, c2, c3, c4, c5, c6, c7, c8, c9, c10, c11] := by
    cases cs
    simpa using hcs'
  simp only [Prod.mk.injEq] at hx
  exact ⟨c0, c1, c2, c3, c4, c5, c6, c7, c8, c9, c10, c11, y0, y1, y2, y3, y4, n, rfl, hx.1, hx.2, h0, h1, h2, h3, h4⟩
end

end Go.Proofs.Ytbalpndgpdbcbaa

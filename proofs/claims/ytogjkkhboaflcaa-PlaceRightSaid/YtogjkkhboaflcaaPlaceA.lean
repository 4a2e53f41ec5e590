/-
  From the reading of an argument: a list of places that came in.
-/
import Derived.Test.YtogjkkhboaflcaaOpenRow
import Derived.Test.YtogjkkhboaflcaaPlaceM
namespace Go.Proofs.Ytogjkkhboaflcaa
open Go.RowKit

theorem fitsI_wf {x : Int} (h : (Lit.int .i64 x).wf = true) : fitsI x := by
  have h1 : IntKind.i64.min = -9223372036854775808 := rfl
  have h2 : IntKind.i64.max = 9223372036854775807 := rfl
  simp only [Lit.wf, Bool.and_eq_true, decide_eq_true_eq] at h
  unfold fitsI
  omega
theorem pls_of_rows {W : World} {a : Option Addr} {len cap : Nat} (h : IsRows 3 W a len cap (fun cs => ∃ (x : Int) (y : Int) (z : Int), cs = [.int .i64 x, .int .i64 y, .int .i64 z] ∧ (Lit.int .i64 x).wf = true ∧ (Lit.int .i64 y).wf = true ∧ (Lit.int .i64 z).wf = true ∧ True)) : ∃ l, Pls W a len cap l ∧ ∀ p ∈ l, fitsPl p := by
  obtain ⟨l, h1, h2, h3⟩ := rows_sl (enc := plC) (G := fitsPl) plC_length (by omega) h (by
    rintro cs ⟨x, y, z, rfl, hx, hy, hz, _⟩
    exact ⟨⟨x, y, z⟩, rfl, fitsI_wf hx, fitsI_wf hy, fitsI_wf hz⟩)
  exact ⟨l, h1, h3⟩

end Go.Proofs.Ytogjkkhboaflcaa

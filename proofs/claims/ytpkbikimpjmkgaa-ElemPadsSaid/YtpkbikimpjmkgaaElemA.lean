/-
  From the reading of an argument: a list of elements that came in.
-/
import Derived.Test.YtpkbikimpjmkgaaOpenRow
import Derived.Test.YtpkbikimpjmkgaaBase
import Derived.Test.YtpkbikimpjmkgaaElemE
namespace Go.Proofs.Ytpkbikimpjmkgaa
open Go.RowKit

theorem els_of_rows {W : World} {a : Option Addr} {len cap : Nat} (h : IsRows 2 W a len cap (fun cs => ∃ (x : Int) (b : Option Addr) (l c : Nat) (z : List Int), cs = [.int .i64 x, .slice b l c] ∧ (Lit.int .i64 x).wf = true ∧ IsRow .u8 W b l c z ∧ True)) : ∃ l, Els W a len cap l ∧ ∀ e ∈ l, (Lit.int .i64 e.id).wf = true := by
  obtain ⟨es, h1, h2, h3⟩ := rows_sl (enc := epC) (G := fun e => (Lit.int .i64 e.id).wf = true ∧ Bs W e.A e.n e.c e.s) epC_length (by omega) h (by
    rintro cs ⟨x, b, l, c, z, rfl, hx, hz, _⟩
    obtain ⟨s, hs⟩ := bs_of_row hz
    exact ⟨⟨x, b, l, c, s⟩, rfl, hx, hs⟩)
  refine ⟨es.map elOfEp, ⟨es, rfl, h1, fun e he => (h3 e he).2⟩, fun e he => ?_⟩
  rw [List.mem_map] at he
  obtain ⟨x, hx, rfl⟩ := he
  exact (h3 x hx).1

end Go.Proofs.Ytpkbikimpjmkgaa

/-
  From the reading of an argument: a list of lists of bytes that came in.
-/
import Derived.Test.YtkfinkmbdpdepaaOpenRow
import Derived.Test.YtkfinkmbdpdepaaBase
import Derived.Test.YtkfinkmbdpdepaaTrainL
namespace Go.Proofs.Ytkfinkmbdpdepaa
open Go.RowKit

theorem bls_of_rows {W : World} {a : Option Addr} {len cap : Nat} (h : IsRows 1 W a len cap (fun cs => ∃ (b : Option Addr) (l c : Nat) (z : List Int), cs = [.slice b l c] ∧ IsRow .u8 W b l c z ∧ True)) : ∃ l, Bls W a len cap l := by
  obtain ⟨es, h1, h2, h3⟩ := rows_sl (enc := lpC) (G := fun e => Bs W e.A e.n e.c e.s) lpC_length (by omega) h (by
    rintro cs ⟨b, l, c, z, rfl, hz, _⟩
    obtain ⟨s, hs⟩ := bs_of_row hz
    exact ⟨⟨b, l, c, s⟩, rfl, hs⟩)
  exact ⟨es.map Lp.s, es, rfl, h1, fun e he => h3 e he⟩

end Go.Proofs.Ytkfinkmbdpdepaa

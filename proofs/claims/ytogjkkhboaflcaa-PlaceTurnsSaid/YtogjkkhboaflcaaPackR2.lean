/-
  What the document's own answers for layer 6 come to: Write.
-/
import Derived.Test.YtogjkkhboaflcaaPackR1
namespace Go.Proofs.Ytogjkkhboaflcaa
open Go.RowKit
set_option linter.unusedVariables false
set_option linter.unusedSimpArgs false

def WriteP (w : World) (yn : Nat) (Y : List UInt8) (bx : List Value) (x : Value) (W : World) : Prop :=
  ∃ A c, x = .slice A yn c ∧ Own W (w.heap.size + 1) 5 A yn c Y ∧ Box W w.heap.size bx ∧ Below w.heap.size w W

end Go.Proofs.Ytogjkkhboaflcaa

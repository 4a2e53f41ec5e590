/-
  What the document's own answers for layer 6 come to: Canon. (Written by gen_PackR7.py.)
-/
import Derived.Test.YtogjkkhboaflcaaPackR6
import Derived.Test.YtogjkkhboaflcaaBase
namespace Go.Proofs.Ytogjkkhboaflcaa
open Go.RowKit
set_option linter.unusedVariables false
set_option linter.unusedSimpArgs false

theorem PkIn.drew {w : World} {p : Pk} {A B C : Option Addr} {n c lb cb lc cc : Nat} (h : PkIn w p A n c B lb cb C lc cc) : PkIn w.drew p A n c B lb cb C lc cc := ⟨h.us.drewN 1, h.ext.drew, h.pay.drew⟩

end Go.Proofs.Ytogjkkhboaflcaa

/-
  No cell of these rows narrows 'for every input' (looked for: loops, veiled, ifaces, maps, wideKeys, modest, calm, conditions, laid).
  DERIVED. THE GIVEN ROWS OF THIS SEAT. 4 by the template 'for every input the law returns true; each argument reads behind the call as it read before'; 0 by the template 'total and deterministic' (their statements: YthkngjokbkfebaaTotals.lean).
  GIVEN WITH THE SEED: the statements are not yours to turn. If you find one false, say at which input.
  Laid BY PROGRAM, IN A SANDBOX (cutbox-rows.mjs): the forced cells as the released guide's own fill.sh prints them over the translation 9db1ac0116aaa499… (all of the seat's roots in one cut). By AI agents, Wed Nov 11 2026. No macro, syntax, notation, axiom, sorry.
-/
import Derived.Test.YthkngjokbkfebaaChecked
import GoSem.Claim
import GoSem.ClaimJoined
import GoSem.ClaimMapViews
import Derived.JoinedTies
import Derived.KernelRfl
namespace Go.Proofs.Ythkngjokbkfebaa
/- THE CELL 'sum', in the pinned program and in every row, IS THE sha256 OF THE DUMP (.gsa) THAT YthkngjokbkfebaaProg.lean LOADS. Nothing in Lean hashes anything: it is a label: what it is worth is what the hold of that sum in a sandbox is worth. -/
noncomputable def Try.pinned : Pinned := { name := "ythkngjokbkfebaa", sum := "9db1ac0116aaa49909841bc57683d7e39c58d73d1c64f22f24802c091420805c", checked := Try.checked }
namespace Rows
def none {H : Type} : Left H := { results := [], args := [] }

/-- 'crossbarlaw02.BitsRight': WHATEVER THE INPUT: true; the input reads as it did. -/
def bitsRightSpec : ChangeSpec := { name := "bitsRight", fn := fun _ => fun
  | [d1, d2, d3, d4, d5] => { results := [.lit (.bool true)], args := [d1, d2, d3, d4, d5] }
  | _ => none }
def bitsRightRow : OpenClaim := { program := "ythkngjokbkfebaa", sum := "9db1ac0116aaa49909841bc57683d7e39c58d73d1c64f22f24802c091420805c", func := "crossbar/crossbarlaw02.BitsRight", spec := "bitsRight", apart := false }
def BitsRightSaid : Prop := bitsRightRow.holds Try.pinned (OpenSpec.ofChange bitsRightSpec)

/-- ITS FALSE NEIGHBOUR: 'it returns false'. Refute it at one input. -/
def bitsRightWrong : ChangeSpec := { name := "bitsRight", fn := fun _ => fun
  | [d1, d2, d3, d4, d5] => { results := [.lit (.bool false)], args := [d1, d2, d3, d4, d5] }
  | _ => none }
def BitsRightWrongFalsely : Prop := bitsRightRow.holds Try.pinned (OpenSpec.ofChange bitsRightWrong)

/-- 'crossbarlaw02.BitsBack': WHATEVER THE INPUT: true; the input reads as it did. -/
def bitsBackSpec : ChangeSpec := { name := "bitsBack", fn := fun _ => fun
  | [d1, d2, d3] => { results := [.lit (.bool true)], args := [d1, d2, d3] }
  | _ => none }
def bitsBackRow : OpenClaim := { program := "ythkngjokbkfebaa", sum := "9db1ac0116aaa49909841bc57683d7e39c58d73d1c64f22f24802c091420805c", func := "crossbar/crossbarlaw02.BitsBack", spec := "bitsBack", apart := false }
def BitsBackSaid : Prop := bitsBackRow.holds Try.pinned (OpenSpec.ofChange bitsBackSpec)

/-- ITS FALSE NEIGHBOUR: 'it returns false'. Refute it at one input. -/
def bitsBackWrong : ChangeSpec := { name := "bitsBack", fn := fun _ => fun
  | [d1, d2, d3] => { results := [.lit (.bool false)], args := [d1, d2, d3] }
  | _ => none }
def BitsBackWrongFalsely : Prop := bitsBackRow.holds Try.pinned (OpenSpec.ofChange bitsBackWrong)

/-- 'crossbarlaw02.BitsParts': WHATEVER THE INPUT: true; the input reads as it did. -/
def bitsPartsSpec : ChangeSpec := { name := "bitsParts", fn := fun _ => fun
  | [d1, d2, d3, d4, d5] => { results := [.lit (.bool true)], args := [d1, d2, d3, d4, d5] }
  | _ => none }
def bitsPartsRow : OpenClaim := { program := "ythkngjokbkfebaa", sum := "9db1ac0116aaa49909841bc57683d7e39c58d73d1c64f22f24802c091420805c", func := "crossbar/crossbarlaw02.BitsParts", spec := "bitsParts", apart := false }
def BitsPartsSaid : Prop := bitsPartsRow.holds Try.pinned (OpenSpec.ofChange bitsPartsSpec)

/-- ITS FALSE NEIGHBOUR: 'it returns false'. Refute it at one input. -/
def bitsPartsWrong : ChangeSpec := { name := "bitsParts", fn := fun _ => fun
  | [d1, d2, d3, d4, d5] => { results := [.lit (.bool false)], args := [d1, d2, d3, d4, d5] }
  | _ => none }
def BitsPartsWrongFalsely : Prop := bitsPartsRow.holds Try.pinned (OpenSpec.ofChange bitsPartsWrong)

/-- 'crossbarlaw02.BitsRange': WHATEVER THE INPUT: true; the input reads as it did. -/
def bitsRangeSpec : ChangeSpec := { name := "bitsRange", fn := fun _ => fun
  | [d] => { results := [.lit (.bool true)], args := [d] }
  | _ => none }
def bitsRangeRow : OpenClaim := { program := "ythkngjokbkfebaa", sum := "9db1ac0116aaa49909841bc57683d7e39c58d73d1c64f22f24802c091420805c", func := "crossbar/crossbarlaw02.BitsRange", spec := "bitsRange", apart := false }
def BitsRangeSaid : Prop := bitsRangeRow.holds Try.pinned (OpenSpec.ofChange bitsRangeSpec)

/-- ITS FALSE NEIGHBOUR: 'it returns false'. Refute it at one input. -/
def bitsRangeWrong : ChangeSpec := { name := "bitsRange", fn := fun _ => fun
  | [d] => { results := [.lit (.bool false)], args := [d] }
  | _ => none }
def BitsRangeWrongFalsely : Prop := bitsRangeRow.holds Try.pinned (OpenSpec.ofChange bitsRangeWrong)

/- THE SECOND FORM. 'bulk': how many values and letters a reading holds, each counted each time it is reached (what is shared counts as often as it is met; a slice's spare places count too). A statement '..UptoSaid' is the law's where the arguments, and the package variables that the reading takes, are together of bulk at most 1048576: NARROWER than '..Said'. Prove '..Said' where nothing that the law and all that it calls make is longer than what came in: it says more and counts as full. Else prove '..UptoSaid'. A law counts once. -/
mutual
def uptoBulk {H : Type} : DataW H → Nat
  | .lit (.string bytes) => bytes.length + 1
  | .lit _ => 1
  | .nil => 1
  | .ptr d => uptoBulk d + 1
  | .slice elems spare => uptoBulkAll elems + uptoBulkAll spare + 1
  | .agg parts => uptoBulkAll parts + 1
  | .iface _ d => uptoBulk d + 1
  | .map entries => uptoBulkEntries entries + 1
  | .held _ => 1
def uptoBulkAll {H : Type} : List (DataW H) → Nat
  | [] => 0
  | d :: r => uptoBulk d + uptoBulkAll r
def uptoBulkEntries {H : Type} : List (Lit × DataW H) → Nat
  | [] => 0
  | x :: r => uptoBulkEntry x + uptoBulkEntries r
def uptoBulkEntry {H : Type} : Lit × DataW H → Nat
  | (.string bytes, d) => bytes.length + uptoBulk d + 1
  | (_, d) => uptoBulk d + 1
 end
def uptoSmall : (H : Type) → List (DataW H) → Bool := fun _ ds => decide (uptoBulkAll ds ≤ 1048576)
def OpenSpec.upto (s : _root_.Go.ChangeSpec) : _root_.Go.OpenSpec := { _root_.Go.OpenSpec.ofChange s with cond := some uptoSmall }

/-- 'crossbarlaw02.BitsRight', WHERE WHAT IT READS IS OF BULK AT MOST 1048576: true; the input reads as it did. -/
def bitsRightUptoRow : OpenClaim := { program := "ythkngjokbkfebaa", sum := "9db1ac0116aaa49909841bc57683d7e39c58d73d1c64f22f24802c091420805c", func := "crossbar/crossbarlaw02.BitsRight", spec := "bitsRight", apart := false, narrowed := true }
def BitsRightUptoSaid : Prop := bitsRightUptoRow.holds Try.pinned (OpenSpec.upto bitsRightSpec)

/-- 'crossbarlaw02.BitsBack', WHERE WHAT IT READS IS OF BULK AT MOST 1048576: true; the input reads as it did. -/
def bitsBackUptoRow : OpenClaim := { program := "ythkngjokbkfebaa", sum := "9db1ac0116aaa49909841bc57683d7e39c58d73d1c64f22f24802c091420805c", func := "crossbar/crossbarlaw02.BitsBack", spec := "bitsBack", apart := false, narrowed := true }
def BitsBackUptoSaid : Prop := bitsBackUptoRow.holds Try.pinned (OpenSpec.upto bitsBackSpec)

/-- 'crossbarlaw02.BitsParts', WHERE WHAT IT READS IS OF BULK AT MOST 1048576: true; the input reads as it did. -/
def bitsPartsUptoRow : OpenClaim := { program := "ythkngjokbkfebaa", sum := "9db1ac0116aaa49909841bc57683d7e39c58d73d1c64f22f24802c091420805c", func := "crossbar/crossbarlaw02.BitsParts", spec := "bitsParts", apart := false, narrowed := true }
def BitsPartsUptoSaid : Prop := bitsPartsUptoRow.holds Try.pinned (OpenSpec.upto bitsPartsSpec)

/-- 'crossbarlaw02.BitsRange', WHERE WHAT IT READS IS OF BULK AT MOST 1048576: true; the input reads as it did. -/
def bitsRangeUptoRow : OpenClaim := { program := "ythkngjokbkfebaa", sum := "9db1ac0116aaa49909841bc57683d7e39c58d73d1c64f22f24802c091420805c", func := "crossbar/crossbarlaw02.BitsRange", spec := "bitsRange", apart := false, narrowed := true }
def BitsRangeUptoSaid : Prop := bitsRangeUptoRow.holds Try.pinned (OpenSpec.upto bitsRangeSpec)

end Rows
end Go.Proofs.Ythkngjokbkfebaa

/-
  No cell of these rows narrows 'for every input' (looked for: loops, veiled, ifaces, maps, wideKeys, modest, calm, conditions, laid).
  DERIVED. THE GIVEN ROWS OF THIS SEAT. 4 by the template 'for every input the law returns true; each argument reads behind the call as it read before'; 0 by the template 'total and deterministic' (their statements: YthihnfdanjnmcaaTotals.lean).
  GIVEN WITH THE SEED: the statements are not yours to turn. If you find one false, say at which input.
  Laid BY PROGRAM, IN A SANDBOX (cutbox-rows.mjs): the forced cells as the released guide's own fill.sh prints them over the translation d8dc5bda661cf616… (all of the seat's roots in one cut). By AI agents, Wed Nov 11 2026. No macro, syntax, notation, axiom, sorry.
-/
import Derived.Test.YthihnfdanjnmcaaChecked
import GoSem.Claim
import GoSem.ClaimJoined
import GoSem.ClaimMapViews
import Derived.JoinedTies
import Derived.KernelRfl
namespace Go.Proofs.Ythihnfdanjnmcaa
/- THE CELL 'sum', in the pinned program and in every row, IS THE sha256 OF THE DUMP (.gsa) THAT YthihnfdanjnmcaaProg.lean LOADS. Nothing in Lean hashes anything: it is a label: what it is worth is what the hold of that sum in a sandbox is worth. -/
noncomputable def Try.pinned : Pinned := { name := "ythihnfdanjnmcaa", sum := "d8dc5bda661cf616b4c4ba2b26aa0b7929eed1eeceec9768d58772c19db894f1", checked := Try.checked }
namespace Rows
def none {H : Type} : Left H := { results := [], args := [] }

/-- 'crossbarlaw01.OctetRight': WHATEVER THE INPUT: true; the input reads as it did. -/
def octetRightSpec : ChangeSpec := { name := "octetRight", fn := fun _ => fun
  | [d1, d2, d3, d4, d5] => { results := [.lit (.bool true)], args := [d1, d2, d3, d4, d5] }
  | _ => none }
def octetRightRow : OpenClaim := { program := "ythihnfdanjnmcaa", sum := "d8dc5bda661cf616b4c4ba2b26aa0b7929eed1eeceec9768d58772c19db894f1", func := "crossbar/crossbarlaw01.OctetRight", spec := "octetRight", apart := false }
def OctetRightSaid : Prop := octetRightRow.holds Try.pinned (OpenSpec.ofChange octetRightSpec)

/-- ITS FALSE NEIGHBOUR: 'it returns false'. Refute it at one input. -/
def octetRightWrong : ChangeSpec := { name := "octetRight", fn := fun _ => fun
  | [d1, d2, d3, d4, d5] => { results := [.lit (.bool false)], args := [d1, d2, d3, d4, d5] }
  | _ => none }
def OctetRightWrongFalsely : Prop := octetRightRow.holds Try.pinned (OpenSpec.ofChange octetRightWrong)

/-- 'crossbarlaw01.OctetBack': WHATEVER THE INPUT: true; the input reads as it did. -/
def octetBackSpec : ChangeSpec := { name := "octetBack", fn := fun _ => fun
  | [d1, d2, d3, d4, d5, d6] => { results := [.lit (.bool true)], args := [d1, d2, d3, d4, d5, d6] }
  | _ => none }
def octetBackRow : OpenClaim := { program := "ythihnfdanjnmcaa", sum := "d8dc5bda661cf616b4c4ba2b26aa0b7929eed1eeceec9768d58772c19db894f1", func := "crossbar/crossbarlaw01.OctetBack", spec := "octetBack", apart := false }
def OctetBackSaid : Prop := octetBackRow.holds Try.pinned (OpenSpec.ofChange octetBackSpec)

/-- ITS FALSE NEIGHBOUR: 'it returns false'. Refute it at one input. -/
def octetBackWrong : ChangeSpec := { name := "octetBack", fn := fun _ => fun
  | [d1, d2, d3, d4, d5, d6] => { results := [.lit (.bool false)], args := [d1, d2, d3, d4, d5, d6] }
  | _ => none }
def OctetBackWrongFalsely : Prop := octetBackRow.holds Try.pinned (OpenSpec.ofChange octetBackWrong)

/-- 'crossbarlaw01.OctetSet': WHATEVER THE INPUT: true; the input reads as it did. -/
def octetSetSpec : ChangeSpec := { name := "octetSet", fn := fun _ => fun
  | [d1, d2, d3, d4, d5, d6, d7] => { results := [.lit (.bool true)], args := [d1, d2, d3, d4, d5, d6, d7] }
  | _ => none }
def octetSetRow : OpenClaim := { program := "ythihnfdanjnmcaa", sum := "d8dc5bda661cf616b4c4ba2b26aa0b7929eed1eeceec9768d58772c19db894f1", func := "crossbar/crossbarlaw01.OctetSet", spec := "octetSet", apart := false }
def OctetSetSaid : Prop := octetSetRow.holds Try.pinned (OpenSpec.ofChange octetSetSpec)

/-- ITS FALSE NEIGHBOUR: 'it returns false'. Refute it at one input. -/
def octetSetWrong : ChangeSpec := { name := "octetSet", fn := fun _ => fun
  | [d1, d2, d3, d4, d5, d6, d7] => { results := [.lit (.bool false)], args := [d1, d2, d3, d4, d5, d6, d7] }
  | _ => none }
def OctetSetWrongFalsely : Prop := octetSetRow.holds Try.pinned (OpenSpec.ofChange octetSetWrong)

/-- 'crossbarlaw01.OctetJoin': WHATEVER THE INPUT: true; the input reads as it did. -/
def octetJoinSpec : ChangeSpec := { name := "octetJoin", fn := fun _ => fun
  | [d1, d2, d3, d4, d5] => { results := [.lit (.bool true)], args := [d1, d2, d3, d4, d5] }
  | _ => none }
def octetJoinRow : OpenClaim := { program := "ythihnfdanjnmcaa", sum := "d8dc5bda661cf616b4c4ba2b26aa0b7929eed1eeceec9768d58772c19db894f1", func := "crossbar/crossbarlaw01.OctetJoin", spec := "octetJoin", apart := false }
def OctetJoinSaid : Prop := octetJoinRow.holds Try.pinned (OpenSpec.ofChange octetJoinSpec)

/-- ITS FALSE NEIGHBOUR: 'it returns false'. Refute it at one input. -/
def octetJoinWrong : ChangeSpec := { name := "octetJoin", fn := fun _ => fun
  | [d1, d2, d3, d4, d5] => { results := [.lit (.bool false)], args := [d1, d2, d3, d4, d5] }
  | _ => none }
def OctetJoinWrongFalsely : Prop := octetJoinRow.holds Try.pinned (OpenSpec.ofChange octetJoinWrong)

/- THE SECOND FORM. 'bulk': how many values and letters a reading holds, each counted each time it is reached (what is shared counts as often as it is met; a slice's spare places count too). A statement '..UptoSaid' is the law's where the arguments, and the package variables that the reading takes, are together of bulk at most 1048576: NARROWER than '..Said'. Prove '..Said' where nothing that the law and all that it calls make is longer than what came in: it says more and counts as full. Else prove '..UptoSaid'. A law counts once. -/
mutual
def uptoBulk {H : Type} : DataW H → Nat
  | .lit (.string bytes) => bytes.length + 1
  | .lit _ => 1
  | .nil => 1
  | .ptr d => uptoBulk d + 1
  | .slice elems spare => uptoBulkAll elems + uptoBulkAll spare + 1
  | .agg parts => uptoBulkAll parts + 1
  | .iface _ d => uptoBulk d + 1
  | .map entries => uptoBulkEntries entries + 1
  | .held _ => 1
def uptoBulkAll {H : Type} : List (DataW H) → Nat
  | [] => 0
  | d :: r => uptoBulk d + uptoBulkAll r
def uptoBulkEntries {H : Type} : List (Lit × DataW H) → Nat
  | [] => 0
  | x :: r => uptoBulkEntry x + uptoBulkEntries r
def uptoBulkEntry {H : Type} : Lit × DataW H → Nat
  | (.string bytes, d) => bytes.length + uptoBulk d + 1
  | (_, d) => uptoBulk d + 1
 end
def uptoSmall : (H : Type) → List (DataW H) → Bool := fun _ ds => decide (uptoBulkAll ds ≤ 1048576)
def OpenSpec.upto (s : _root_.Go.ChangeSpec) : _root_.Go.OpenSpec := { _root_.Go.OpenSpec.ofChange s with cond := some uptoSmall }

/-- 'crossbarlaw01.OctetRight', WHERE WHAT IT READS IS OF BULK AT MOST 1048576: true; the input reads as it did. -/
def octetRightUptoRow : OpenClaim := { program := "ythihnfdanjnmcaa", sum := "d8dc5bda661cf616b4c4ba2b26aa0b7929eed1eeceec9768d58772c19db894f1", func := "crossbar/crossbarlaw01.OctetRight", spec := "octetRight", apart := false, narrowed := true }
def OctetRightUptoSaid : Prop := octetRightUptoRow.holds Try.pinned (OpenSpec.upto octetRightSpec)

/-- 'crossbarlaw01.OctetBack', WHERE WHAT IT READS IS OF BULK AT MOST 1048576: true; the input reads as it did. -/
def octetBackUptoRow : OpenClaim := { program := "ythihnfdanjnmcaa", sum := "d8dc5bda661cf616b4c4ba2b26aa0b7929eed1eeceec9768d58772c19db894f1", func := "crossbar/crossbarlaw01.OctetBack", spec := "octetBack", apart := false, narrowed := true }
def OctetBackUptoSaid : Prop := octetBackUptoRow.holds Try.pinned (OpenSpec.upto octetBackSpec)

/-- 'crossbarlaw01.OctetSet', WHERE WHAT IT READS IS OF BULK AT MOST 1048576: true; the input reads as it did. -/
def octetSetUptoRow : OpenClaim := { program := "ythihnfdanjnmcaa", sum := "d8dc5bda661cf616b4c4ba2b26aa0b7929eed1eeceec9768d58772c19db894f1", func := "crossbar/crossbarlaw01.OctetSet", spec := "octetSet", apart := false, narrowed := true }
def OctetSetUptoSaid : Prop := octetSetUptoRow.holds Try.pinned (OpenSpec.upto octetSetSpec)

/-- 'crossbarlaw01.OctetJoin', WHERE WHAT IT READS IS OF BULK AT MOST 1048576: true; the input reads as it did. -/
def octetJoinUptoRow : OpenClaim := { program := "ythihnfdanjnmcaa", sum := "d8dc5bda661cf616b4c4ba2b26aa0b7929eed1eeceec9768d58772c19db894f1", func := "crossbar/crossbarlaw01.OctetJoin", spec := "octetJoin", apart := false, narrowed := true }
def OctetJoinUptoSaid : Prop := octetJoinUptoRow.holds Try.pinned (OpenSpec.upto octetJoinSpec)

end Rows
end Go.Proofs.Ythihnfdanjnmcaa

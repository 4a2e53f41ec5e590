/-
  What each statement of layer 11 leans on: the contracts of package train's calls, in one. (Written by gen_TrainK.py.)
-/
import Derived.Test.YtkfinkmbdpdepaaTrainP
import Derived.Test.YtkfinkmbdpdepaaComK
namespace Go.Proofs.Ytkfinkmbdpdepaa
open Go.RowKit
set_option linter.unusedVariables false
set_option linter.unusedSimpArgs false

def closeR (k q : Int) (s : List UInt8) (tr : Int) : List UInt8 := if mayT k q s.length tr = true then closeB k q s tr else []
def closeE (k q : Int) (s : List UInt8) (tr : Int) : Nat := if mayT k q s.length tr = true then 0 else 1
/-- What a call hands back: a header, a body, how many bytes the trailer has, and the number of an error. -/
def GivesOp (w : World) (c : Cm) (l : List UInt8) (p e : Nat) (x : Ending) (w' : World) : Prop :=
  ∃ A d, x = .returned (.tuple #[cmW c, .slice A l.length d, .int .i64 p, .int .i64 e]) ∧ Bs w' A l.length d l ∧ Below w.heap.size w w'
/-- The contracts of package train's calls. -/
structure TrainCalls : Prop where
  open_ : ∀ (A : Option Addr) (n d : Nat) (s : List UInt8) (w : World), Bs w A n d s → n ≤ 1000000 →
    Calls Try.prog 7 #[.slice A n d] w (GivesOp w (openC s) (openD s) (openN s) (openE s))
  close : ∀ (k q : Int) (A : Option Addr) (n d : Nat) (s : List UInt8) (tr : Int) (w : World), Bs w A n d s → n ≤ 1000000 →
    Calls Try.prog 9 #[.int .i64 k, .int .i64 q, .slice A n d, .int .i64 tr] w (GivesBE w 5 (closeR k q s tr) ((closeE k q s tr : Nat) : Int))
  split : ∀ (A : Option Addr) (n d : Nat) (s : List UInt8) (w : World), Bs w A n d s → n ≤ 1000000 →
    Calls Try.prog 12 #[.slice A n d] w (GivesLs w (splitL s) (splitE s))

end Go.Proofs.Ytkfinkmbdpdepaa

/-
  What each statement of layer 6 leans on: the contracts of package packet's calls, in one.
-/
import Derived.Test.YtogjkkhboaflcaaPackR7
import Derived.Test.YtogjkkhboaflcaaBase
namespace Go.Proofs.Ytogjkkhboaflcaa
open Go.RowKit

/-- The bytes that Write answers, the number of its error, and what Size answers. -/
def writeP (p : Pk) (room : Int) : List UInt8 := if rightP p = true ∧ sizeP p ≤ room then packB p else []
def writePE (p : Pk) (room : Int) : Int := if rightP p = true then if sizeP p ≤ room then 0 else 7 else 1
def sizePE (p : Pk) : Int := if rightP p = true then sizeP p else 0
/-- A packet that may be handed over: its slices' lengths, its numbers. -/
structure PkOk (w : World) (p : Pk) (A : Option Addr) (n c : Nat) (B : Option Addr) (lb cb : Nat) (C : Option Addr) (lc cc : Nat) : Prop where
  mem : PkIn w p A n c B lb cb C lc cc
  n : n ≤ 1000000
  lb : lb ≤ 1000000
  lc : lc ≤ 1000000
  fits : fitsP p
  typ : (Lit.int .i64 p.hd.typ).wf = true
  pad : (Lit.int .i64 p.pad).wf = true
theorem writeP_no {p : Pk} {room : Int} (h : rightP p = false) : writeP p room = [] ∧ writePE p room = 1 ∧ sizePE p = 0 := by
  unfold writeP writePE sizePE
  rw [h]
  exact ⟨if_neg (by simp), if_neg (by simp), if_neg (by simp)⟩
theorem writeP_room {p : Pk} {room : Int} (h : rightP p = true) (h2 : room < sizeP p) : writeP p room = [] ∧ writePE p room = 7 ∧ sizePE p = sizeP p := by
  unfold writeP writePE sizePE
  rw [h]
  exact ⟨if_neg (by omega), by rw [if_pos rfl, if_neg (by omega)], if_pos rfl⟩
theorem writeP_yes {p : Pk} {room : Int} (h : rightP p = true) (h2 : sizeP p ≤ room) : writeP p room = packB p ∧ writePE p room = 0 ∧ sizePE p = sizeP p := by
  unfold writeP writePE sizePE
  rw [h]
  exact ⟨if_pos ⟨rfl, h2⟩, by rw [if_pos rfl, if_pos h2], if_pos rfl⟩

end Go.Proofs.Ytogjkkhboaflcaa

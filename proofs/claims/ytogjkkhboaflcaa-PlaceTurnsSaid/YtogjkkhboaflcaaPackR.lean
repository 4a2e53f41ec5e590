/-
  What the document's own answers for layer 6 come to: Short, Size, Right, Same.
-/
import Derived.Test.YtogjkkhboaflcaaBase
namespace Go.Proofs.Ytogjkkhboaflcaa
open Go.RowKit
set_option linter.unusedVariables false
set_option linter.unusedSimpArgs false

/-- A packet that is handed over. -/
abbrev pkV (p : Pk) (A : Option Addr) (n c : Nat) (B : Option Addr) (lb cb : Nat) (C : Option Addr) (lc cc : Nat) : Value :=
  .agg #[.bool p.hd.pad, .bool p.hd.ext, .bool p.hd.mark, .int .i64 p.hd.typ, .int .u16 p.hd.seq, .int .u32 p.hd.time, .int .u32 p.hd.ssrc, .slice A n c, .int .u16 p.prof, .slice B lb cb, .slice C lc cc, .int .i64 p.pad]
/-- What its slices hold. -/
structure PkIn (w : World) (p : Pk) (A : Option Addr) (n c : Nat) (B : Option Addr) (lb cb : Nat) (C : Option Addr) (lc cc : Nat) : Prop where
  us : Us w A n c p.hd.csrc
  ext : Bs w B lb cb p.ext
  pay : Bs w C lc cc p.pay
section
variable {w w' : World} {p : Pk} {A B C : Option Addr} {n c lb cb lc cc : Nat}
theorem PkIn.below (h : PkIn w p A n c B lb cb C lc cc) (hb : Below w.heap.size w w') : PkIn w' p A n c B lb cb C lc cc := ⟨h.us.below hb, h.ext.below hb, h.pay.below hb⟩
theorem PkIn.alloc (h : PkIn w p A n c B lb cb C lc cc) (o : Obj) : PkIn (w.alloc o) p A n c B lb cb C lc cc := ⟨h.us.alloc o, h.ext.alloc o, h.pay.alloc o⟩
end

/-- How many bytes a packet has, by its parts' lengths. -/
def sizeN (pd ex : Bool) (n lb lc : Nat) (k : Int) : Int := 12 + 4 * (n : Int) + (lc : Int) + (if ex = true then 4 + (lb : Int) else 0) + (if pd = true then k else 0)
theorem PkIn.size {w : World} {p : Pk} {A B C : Option Addr} {n c lb cb lc cc : Nat} (h : PkIn w p A n c B lb cb C lc cc) : sizeP p = sizeN p.hd.pad p.hd.ext n lb lc p.pad := by
  have l1 := h.us.len
  have l2 := h.ext.len
  have l3 := h.pay.len
  unfold sizeP sizeN
  rw [l1, l2, l3]
end Go.Proofs.Ytogjkkhboaflcaa

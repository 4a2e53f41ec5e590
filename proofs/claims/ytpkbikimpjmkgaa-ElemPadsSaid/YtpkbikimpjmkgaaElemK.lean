/-
  What each statement of layer 8 leans on: the contracts of package elem's calls, in one; and its fixed answers, as lists.
-/
import Derived.Test.YtpkbikimpjmkgaaElemC
import Derived.Test.YtpkbikimpjmkgaaElemP
namespace Go.Proofs.Ytpkbikimpjmkgaa
open Go.RowKit
set_option linter.unusedVariables false
set_option linter.unusedSimpArgs false

/-- The bytes that Write answers, and the number of its error. -/
def writeEB (l : List El) : List UInt8 := if rightL l = true then writeL l else []
def writeEE (l : List El) : Nat := if rightL l = true then 0 else 1
/-- Elements that may be handed over. -/
structure ElOk (w : World) (A : Option Addr) (n c : Nat) (l : List El) : Prop where
  mem : Els w A n c l
  n : n ≤ 1000000
  id : ∀ e ∈ l, (Lit.int .i64 e.id).wf = true
  size : ∀ e ∈ l, e.data.length ≤ 1000000
theorem ElOk.below {w w' : World} {A : Option Addr} {n c : Nat} {l : List El} (h : ElOk w A n c l) (hb : Below w.heap.size w w') : ElOk w' A n c l := ⟨h.mem.below hb, h.n, h.id, h.size⟩
theorem ElOk.alloc {w : World} {A : Option Addr} {n c : Nat} {l : List El} (h : ElOk w A n c l) (o : Obj) : ElOk (w.alloc o) A n c l := ⟨h.mem.alloc o, h.n, h.id, h.size⟩
/-- What Write hands back: a profile, bytes, the number of an error. -/
def GivesPE (w : World) (p : Nat) (s : List UInt8) (err : Nat) (x : Ending) (w' : World) : Prop :=
  ∃ A c, x = .returned (.tuple #[.int .u16 (p : Int), .slice A s.length c, .int .i64 (err : Int)]) ∧ Bs w' A s.length c s ∧ Below w.heap.size w w'
/-- The contracts of package elem's calls. -/
structure ElemCalls : Prop where
  right : ∀ (A : Option Addr) (n c : Nat) (l : List El) (w : World), ElOk w A n c l →
    Calls Try.prog 17 #[.slice A n c] w (Says w (.bool (rightL l)))
  profile : ∀ (A : Option Addr) (n c : Nat) (l : List El) (w : World), ElOk w A n c l →
    Calls Try.prog 18 #[.slice A n c] w (Says w (.int .u16 (profL l)))
  write : ∀ (A : Option Addr) (n c : Nat) (l : List El) (w : World), ElOk w A n c l →
    Calls Try.prog 8 #[.slice A n c] w (GivesPE w (profL l) (writeEB l) (writeEE l))
  spots : ∀ (p : Nat) (A : Option Addr) (n c : Nat) (s : List UInt8) (w : World), Bs w A n c s → n ≤ 1000000 → p < 65536 →
    Calls Try.prog 14 #[.int .u16 (p : Int), .slice A n c] w (GivesSp w (spotsL p s) (spotsE p s))
  read : ∀ (p : Nat) (A : Option Addr) (n c : Nat) (s : List UInt8) (w : World), Bs w A n c s → n ≤ 1000000 → p < 65536 →
    Calls Try.prog 12 #[.int .u16 (p : Int), .slice A n c] w (GivesEl w (readL p s) (spotsE p s))
  canon : ∀ (p : Nat) (A : Option Addr) (n c : Nat) (s : List UInt8) (w : World), Bs w A n c s → n ≤ 1000000 → p < 65536 →
    Calls Try.prog 19 #[.int .u16 (p : Int), .slice A n c] w (Says w (.bool (canonL p s)))

def l8a : List El := [⟨1, [7, 8]⟩]
def b8a : List UInt8 := [17, 7, 8, 0]
def b8b : List UInt8 := [0, 200, 0, 5, 1, 9, 0, 0]
def l8b : List El := [⟨200, []⟩, ⟨5, [9]⟩]
def b8c : List UInt8 := [16, 7, 240, 1]
def s8c : List Sp := [⟨1, 1, 1⟩]
theorem l8a_write : profL l8a = 48862 ∧ writeEB l8a = b8a ∧ writeEE l8a = 0 := by decide
theorem b8b_read : readL 4099 b8b = l8b ∧ spotsE 4099 b8b = 0 := by decide
theorem b8c_spots : spotsL 48862 b8c = s8c ∧ spotsE 48862 b8c = 0 := by decide
theorem b8a_canon : canonL 48862 b8a = true ∧ canonL 4096 b8a = false := by decide
theorem l8b_right : rightL l8b = true := by decide

end Go.Proofs.Ytpkbikimpjmkgaa

/-
  The contracts of package head's calls, in one.
-/
import Derived.Test.YtbalpndgpdbcbaaHeadR3
namespace Go.Proofs.Ytbalpndgpdbcbaa
open Go.RowKit

def writeH (h : Hd) : List UInt8 := if rightH h = true then headB h else []
def writeE (h : Hd) : Int := if rightH h = true then 0 else 1
def sizeH (h : Hd) : Int := if rightH h = true then 12 + 4 * (h.csrc.length : Int) else 0
/-- What a call hands back: bytes, wherever they lie, and the number of an error. -/
def GivesS (w : World) (s : List UInt8) (err : Int) (x : Ending) (w' : World) : Prop :=
  ∃ A c, x = .returned (.tuple #[.slice A s.length c, .int .i64 err]) ∧ Bs w' A s.length c s ∧ Below w.heap.size w w'
/-- The contracts of package head's calls. -/
structure HeadCalls : Prop where
  right : ∀ (p e m : Bool) (t : Int) (q ti ss : Nat) (A : Option Addr) (n c : Nat) (l : List Nat) (w : World), Us w A n c l → n ≤ 1000000 → fitsH ⟨p, e, m, t, q, ti, ss, l⟩ → (Lit.int .i64 t).wf = true →
    Calls Try.prog 34 #[.agg #[.bool p, .bool e, .bool m, .int .i64 t, .int .u16 q, .int .u32 ti, .int .u32 ss, .slice A n c]] w (Says w (.bool (rightH ⟨p, e, m, t, q, ti, ss, l⟩)))
  size : ∀ (p e m : Bool) (t : Int) (q ti ss : Nat) (A : Option Addr) (n c : Nat) (l : List Nat) (w : World), Us w A n c l → n ≤ 1000000 → fitsH ⟨p, e, m, t, q, ti, ss, l⟩ → (Lit.int .i64 t).wf = true →
    Calls Try.prog 39 #[.agg #[.bool p, .bool e, .bool m, .int .i64 t, .int .u16 q, .int .u32 ti, .int .u32 ss, .slice A n c]] w (Says w (.int .i64 (sizeH ⟨p, e, m, t, q, ti, ss, l⟩)))
  write : ∀ (p e m : Bool) (t : Int) (q ti ss : Nat) (A : Option Addr) (n c : Nat) (l : List Nat) (w : World), Us w A n c l → n ≤ 1000000 → fitsH ⟨p, e, m, t, q, ti, ss, l⟩ → (Lit.int .i64 t).wf = true →
    Calls Try.prog 21 #[.agg #[.bool p, .bool e, .bool m, .int .i64 t, .int .u16 q, .int .u32 ti, .int .u32 ss, .slice A n c]] w (GivesS w (writeH ⟨p, e, m, t, q, ti, ss, l⟩) (writeE ⟨p, e, m, t, q, ti, ss, l⟩))
  read : ∀ (A : Option Addr) (l c : Nat) (s : List UInt8) (w : World), Bs w A l c s → l ≤ 1000000000 →
    Calls Try.prog 28 #[.slice A l c] w (GivesH w (readH s) (readN s) (hErr s))

/-- Numbers that were just written out. -/
theorem us_lit (w : World) (l : List Nat) (vs : Array Value) (e : TypeId) (hv : vs = (l.map u32V).toArray) (hm : l.length ≤ maxLen) : Us (w.alloc (.cells vs e)) (some ⟨w.heap.size, 0, none⟩) l.length l.length l := by
  subst hv
  have := Sl.lit w (l.map u32V) e (by simpa using hm)
  rwa [List.length_map] at this

section
variable (K : HeadCalls)
include K
theorem write_lit (p e m : Bool) (t : Int) (q ti ss : Nat) (A : Option Addr) (n c : Nat) (l : List Nat) (w : World) (hl : Us w A n c l) (hn : n ≤ 1000000) (hf : fitsH ⟨p, e, m, t, q, ti, ss, l⟩) (ht : (Lit.int .i64 t).wf = true) (s : List UInt8) (k : Nat) (er : Int) (hs : writeH ⟨p, e, m, t, q, ti, ss, l⟩ = s) (hk : s.length = k) (he : writeE ⟨p, e, m, t, q, ti, ss, l⟩ = er) :
    Calls Try.prog 21 #[.agg #[.bool p, .bool e, .bool m, .int .i64 t, .int .u16 q, .int .u32 ti, .int .u32 ss, .slice A n c]] w fun x w' => ∃ A' c', x = .returned (.tuple #[.slice A' k c', .int .i64 er]) ∧ Bs w' A' k c' s ∧ Below w.heap.size w w' := by
  subst hs hk he
  exact K.write p e m t q ti ss A n c l w hl hn hf ht
theorem read_lit (A : Option Addr) (l c : Nat) (s : List UInt8) (w : World) (hs : Bs w A l c s) (hl : l ≤ 1000000000) (h : Hd) (n : Nat) (er : Int) (h1 : readH s = h) (h2 : (readN s : Int) = n) (h3 : (hErr s : Int) = er) :
    Calls Try.prog 28 #[.slice A l c] w fun x w' => ∃ B d, x = .returned (.tuple #[hdV h B d, .int .i64 n, .int .i64 er]) ∧ Us w' B h.csrc.length d h.csrc ∧ Below w.heap.size w w' := by
  subst h1 h3
  rw [← h2]
  exact K.read A l c s w hs hl
theorem right_lit (p e m : Bool) (t : Int) (q ti ss : Nat) (A : Option Addr) (n c : Nat) (l : List Nat) (w : World) (hl : Us w A n c l) (hn : n ≤ 1000000) (hf : fitsH ⟨p, e, m, t, q, ti, ss, l⟩) (ht : (Lit.int .i64 t).wf = true) (b : Bool) (hb : rightH ⟨p, e, m, t, q, ti, ss, l⟩ = b) :
    Calls Try.prog 34 #[.agg #[.bool p, .bool e, .bool m, .int .i64 t, .int .u16 q, .int .u32 ti, .int .u32 ss, .slice A n c]] w (Says w (.bool b)) := by
  subst hb
  exact K.right p e m t q ti ss A n c l w hl hn hf ht
theorem size_lit (p e m : Bool) (t : Int) (q ti ss : Nat) (A : Option Addr) (n c : Nat) (l : List Nat) (w : World) (hl : Us w A n c l) (hn : n ≤ 1000000) (hf : fitsH ⟨p, e, m, t, q, ti, ss, l⟩) (ht : (Lit.int .i64 t).wf = true) (b : Int) (hb : sizeH ⟨p, e, m, t, q, ti, ss, l⟩ = b) :
    Calls Try.prog 39 #[.agg #[.bool p, .bool e, .bool m, .int .i64 t, .int .u16 q, .int .u32 ti, .int .u32 ss, .slice A n c]] w (Says w (.int .i64 b)) := by
  subst hb
  exact K.size p e m t q ti ss A n c l w hl hn hf ht

end

end Go.Proofs.Ytbalpndgpdbcbaa

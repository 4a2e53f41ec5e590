/-
  What bytes.Equal comes to.
-/
import Derived.Test.YtnmnbiphonjlaaaBase
namespace Go.Proofs.Ytnmnbiphonjlaaa
open Go.RowKit

theorem equal_any (A : Option Addr) (n c : Nat) (s : List UInt8) (B : Option Addr) (m d : Nat) (t : List UInt8) (w : World) (hs : Bs w A n c s) (ht : Bs w B m d t) :
    Calls Try.prog 22 #[.slice A n c, .slice B m d] w (Says w (.bool (decide (s = t)))) := by
  have h1 := str_of hs
  have h2 := str_of ht
  obtain ⟨z, hz⟩ : ∃ z, decide (s = t) = z := ⟨_, rfl⟩
  rw [hz]
  have HZ := Lib.hid (show (s == t) = z by rw [← hz, Bool.eq_iff_iff, beq_iff_eq, decide_eq_true_eq])
  clear hz
  go_enter Try.func22, Try.ntmps22
  go_wp2_with fail
  rw [HZ.out]
  go_ret
  exact ⟨rfl, Below.refl _ _⟩
end Go.Proofs.Ytnmnbiphonjlaaa

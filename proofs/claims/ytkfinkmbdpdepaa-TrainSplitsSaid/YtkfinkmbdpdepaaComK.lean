/-
  Headers compared; what each statement of layer 10 leans on: the contracts of package common's calls, in one; and the fixed answers: 'awake' is true, under them. (Written by gen_ComK.py.)
-/
import Derived.Test.YtkfinkmbdpdepaaComR
namespace Go.Proofs.Ytkfinkmbdpdepaa
open Go.RowKit
set_option linter.unusedVariables false
set_option linter.unusedSimpArgs false

theorem eqCm (p q : Cm) (W : World) : (binOp .eql 25 (cmW p) (cmW q)).run Try.prog W = .ok (.bool (decide (p = q))) W := by
  have hS : Try.prog.underlying 25 = some (.struct (Try.prog.fieldsOf 25)) := by kernel_rfl
  have hp : Try.prog.stoodInHeld 25 = false := by kernel_rfl
  obtain ⟨k, t, n, a⟩ := p
  obtain ⟨k', t', n', a'⟩ := q
  rw [run_eql_struct, show (10000 : Nat) = 9999 + 1 from rfl, run_equalIn_agg W 9999 _ _ _ hS hp]
  simp only [Program.fieldsOf, Try.underlying25]
  go_simp
  by_cases h1 : k = k' <;> by_cases h2 : t = t' <;> by_cases h3 : n = n' <;> by_cases h4 : a = a' <;> simp [h1, h2, h3, h4]
theorem neqCm (p q : Cm) (W : World) : (binOp .neq 25 (cmW p) (cmW q)).run Try.prog W = .ok (.bool (!decide (p = q))) W := by
  have h := eqCm p q W
  rw [run_eql_struct] at h
  rw [run_neq_struct]
  cases hr : (Op.equalIn 10000 25 (cmW p) (cmW q)).run Try.prog W with
  | ok b w' =>
    rw [hr] at h
    simp only [Result.andThen_ok, Result.ok.injEq, Value.bool.injEq] at h ⊢
    obtain ⟨rfl, rfl⟩ := h
    exact ⟨rfl, rfl⟩
  | _ => rw [hr] at h; simp [Result.andThen] at h
def writeCB (c : Cm) : List UInt8 := if rightCm c = true then writeCm c else []
def writeCE (c : Cm) : Nat := if rightCm c = true then 0 else 1
/-- A header that may be handed over. -/
def CmOk (c : Cm) : Prop := (Lit.int .i64 c.count).wf = true ∧ (Lit.int .i64 c.typ).wf = true ∧ (Lit.int .i64 c.size).wf = true
/-- What a call hands back: bytes, and the number of an error. -/
def GivesCB (w : World) (s : List UInt8) (err : Nat) (x : Ending) (w' : World) : Prop :=
  ∃ A d, x = .returned (.tuple #[.slice A s.length d, .int .i64 (err : Int)]) ∧ Bs w' A s.length d s ∧ Below w.heap.size w w'
/-- The contracts of package common's calls. -/
structure CommonCalls : Prop where
  right : ∀ (c : Cm) (w : World), CmOk c → Calls Try.prog 30 #[cmW c] w (Says w (.bool (rightCm c)))
  write : ∀ (c : Cm) (w : World), CmOk c → Calls Try.prog 21 #[cmW c] w (GivesCB w (writeCB c) (writeCE c))
  read : ∀ (A : Option Addr) (n d : Nat) (s : List UInt8) (w : World), Bs w A n d s → n ≤ 1000000 →
    Calls Try.prog 15 #[.slice A n d] w (Says w (.tuple #[cmW (readCm s), .int .i64 (cmE s)]))

def c10 : Cm := ⟨true, 3, 201, 8⟩
theorem c10_ok : CmOk c10 := by unfold CmOk; decide
theorem c10_write : writeCB c10 = [163, 201, 0, 1] ∧ writeCE c10 = 0 ∧ rightCm c10 = true := by decide
theorem c10_read : readCm [163, 201, 0, 1, 1, 2, 3, 4, 5] = c10 ∧ cmE [163, 201, 0, 1, 1, 2, 3, 4, 5] = 0 ∧ readCm [163, 201, 0, 1] = zeroCm ∧ cmE [163, 201, 0, 1] = 4 := by decide

section
variable (KC : CommonCalls)
include KC
end

end Go.Proofs.Ytkfinkmbdpdepaa

/-
  Headers compared; what each statement of layer 10 leans on: the contracts of package common's calls, in one; and the fixed answers: 'awake' is true, under them. (Written by gen_ComK.py.)
-/
import Derived.Test.YtfacfgpiodfndaaComR
namespace Go.Proofs.Ytfacfgpiodfndaa
open Go.RowKit
set_option linter.unusedVariables false
set_option linter.unusedSimpArgs false

theorem eqCm (p q : Cm) (W : World) : (binOp .eql 23 (cmW p) (cmW q)).run Try.prog W = .ok (.bool (decide (p = q))) W := by
  have hS : Try.prog.underlying 23 = some (.struct (Try.prog.fieldsOf 23)) := by kernel_rfl
  have hp : Try.prog.stoodInHeld 23 = false := by kernel_rfl
  obtain ⟨k, t, n, a⟩ := p
  obtain ⟨k', t', n', a'⟩ := q
  rw [run_eql_struct, show (10000 : Nat) = 9999 + 1 from rfl, run_equalIn_agg W 9999 _ _ _ hS hp]
  simp only [Program.fieldsOf, Try.underlying23]
  go_simp
  by_cases h1 : k = k' <;> by_cases h2 : t = t' <;> by_cases h3 : n = n' <;> by_cases h4 : a = a' <;> simp [h1, h2, h3, h4]
theorem neqCm (p q : Cm) (W : World) : (binOp .neq 23 (cmW p) (cmW q)).run Try.prog W = .ok (.bool (!decide (p = q))) W := by
  have h := eqCm p q W
  rw [run_eql_struct] at h
  rw [run_neq_struct]
  cases hr : (Op.equalIn 10000 23 (cmW p) (cmW q)).run Try.prog W with
  | ok b w' =>
    rw [hr] at h
    simp only [Result.andThen_ok, Result.ok.injEq, Value.bool.injEq] at h ⊢
    obtain ⟨rfl, rfl⟩ := h
    exact ⟨rfl, rfl⟩
  | _ => rw [hr] at h; simp [Result.andThen] at h
def writeCB (c : Cm) : List UInt8 := if rightCm c = true then writeCm c else []
def writeCE (c : Cm) : Nat := if rightCm c = true then 0 else 1
/-- A header that may be handed over. -/
def CmOk (c : Cm) : Prop := (Lit.int .i64 c.count).wf = true ∧ (Lit.int .i64 c.typ).wf = true ∧ (Lit.int .i64 c.size).wf = true
/-- What a call hands back: bytes, and the number of an error. -/
def GivesCB (w : World) (s : List UInt8) (err : Nat) (x : Ending) (w' : World) : Prop :=
  ∃ A d, x = .returned (.tuple #[.slice A s.length d, .int .i64 (err : Int)]) ∧ Bs w' A s.length d s ∧ Below w.heap.size w w'
/-- The contracts of package common's calls. -/
structure CommonCalls : Prop where
  right : ∀ (c : Cm) (w : World), CmOk c → Calls Try.prog 11 #[cmW c] w (Says w (.bool (rightCm c)))
  write : ∀ (c : Cm) (w : World), CmOk c → Calls Try.prog 7 #[cmW c] w (GivesCB w (writeCB c) (writeCE c))
  read : ∀ (A : Option Addr) (n d : Nat) (s : List UInt8) (w : World), Bs w A n d s → n ≤ 1000000 →
    Calls Try.prog 9 #[.slice A n d] w (Says w (.tuple #[cmW (readCm s), .int .i64 (cmE s)]))

def c10 : Cm := ⟨true, 3, 201, 8⟩
theorem c10_ok : CmOk c10 := by unfold CmOk; decide
theorem c10_write : writeCB c10 = [163, 201, 0, 1] ∧ writeCE c10 = 0 ∧ rightCm c10 = true := by decide
theorem c10_read : readCm [163, 201, 0, 1, 1, 2, 3, 4, 5] = c10 ∧ cmE [163, 201, 0, 1, 1, 2, 3, 4, 5] = 0 ∧ readCm [163, 201, 0, 1] = zeroCm ∧ cmE [163, 201, 0, 1] = 4 := by decide

section
variable (KC : CommonCalls)
include KC
set_option maxRecDepth 100000 in
set_option maxHeartbeats 2000000 in
theorem awake_any (w : World) :
    Calls Try.prog 5 #[] w fun e w' => e = .returned (.bool true) ∧ Below w.heap.size w w' := by
  have HW : Hid (∀ W : World, Calls Try.prog 7 #[.agg #[.bool true, .int .i64 3, .int .i64 201, .int .i64 8]] W fun e w' => ∃ A d, e = .returned (.tuple #[.slice A 4 d, .int .i64 0]) ∧ Bs w' A 4 d [163, 201, 0, 1] ∧ Below W.heap.size W w') := Lib.hid (fun W => by
    have := KC.write c10 W c10_ok
    rw [c10_write.1, c10_write.2.1] at this
    exact this)
  have HX : Hid (∀ W : World, Calls Try.prog 11 #[.agg #[.bool true, .int .i64 3, .int .i64 201, .int .i64 8]] W (Says W (.bool true))) := Lib.hid (fun W => by
    have := KC.right c10 W c10_ok
    rw [c10_write.2.2] at this
    exact this)
  have HR1 : Hid (∀ (W : World) A d, Bs W A 9 d [163, 201, 0, 1, 1, 2, 3, 4, 5] → Calls Try.prog 9 #[.slice A 9 d] W (Says W (.tuple #[.agg #[.bool true, .int .i64 3, .int .i64 201, .int .i64 8], .int .i64 0]))) := Lib.hid (fun W A d h => by
    have := KC.read A 9 d [163, 201, 0, 1, 1, 2, 3, 4, 5] W h (by decide)
    rw [c10_read.1, c10_read.2.1] at this
    exact this)
  have HR2 : Hid (∀ (W : World) A d, Bs W A 4 d [163, 201, 0, 1] → Calls Try.prog 9 #[.slice A 4 d] W (Says W (.tuple #[.agg #[.bool false, .int .i64 0, .int .i64 0, .int .i64 0], .int .i64 4]))) := Lib.hid (fun W A d h => by
    have := KC.read A 4 d [163, 201, 0, 1] W h (by decide)
    rw [c10_read.2.2.1, c10_read.2.2.2] at this
    exact this)
  go_enter Try.func5, Try.ntmps5
  have k1 := Box.new w [.bool true, .int .i64 3, .int .i64 201, .int .i64 8] 23
  have hB := below1 w (.cells #[.bool true, .int .i64 3, .int .i64 201, .int .i64 8] 23)
  have fk1 := k1.all4.1
  go_wp2_with fail
  refine (HW.out _).mono ?_
  rintro e w2 ⟨A2, c2, rfl, hx, hb⟩
  clear fk1
  replace k1 := k1.call hb
  replace hB := hB.trans (hb.mono hB.size)
  clear hb
  have fk1 := k1.all4.1
  have hfive : ∀ W : World, Bs (W.alloc (.cells #[.int .u8 1, .int .u8 2, .int .u8 3, .int .u8 4, .int .u8 5] 5)) (some ⟨W.heap.size, 0, none⟩) 5 5 [1, 2, 3, 4, 5] := fun W => bs_lit W [1, 2, 3, 4, 5] (List.map byteV [1, 2, 3, 4, 5]).toArray 5 rfl (by decide)
  have hB0 : Below w2.heap.size w2 (w2.alloc (.cells #[] 5)) := below1 w2 _
  go_wp2_with (first
    | (at_builtin; refine wpList_app2 rfl (.tmp 15) (.tmp 16) 24 rfl w2.heap.size 5 Try.underlying24 byte_info (some ⟨w2.heap.size, 0, none⟩) 0 0 _ rfl (own_empty w2 _ _ (Nat.le_refl _)) A2 4 c2 _ rfl (hx.alloc _) (by omega) (by first | (simp; done) | (simp; omega)) ?_; intro A3 c3 w3 hown3 hgr3 hat3; rw [Nat.zero_add] at hown3; rw [List.nil_append] at hown3; have hB3 : Below w2.heap.size w2 w3 := hB0.grown hgr3 (by simp) (fun q hq => by simp [rowOf] at hq; omega); have hs3 := hB3.size; rw [Nat.zero_add])
    | (at_builtin; refine wpList_app2 rfl (.tmp 17) (.tmp 18) 24 rfl w2.heap.size 5 Try.underlying24 byte_info A3 4 c3 _ rfl (hown3.alloc _) _ 5 5 _ rfl (hfive w3) (by omega) (by first | (simp; done) | (simp; omega)) ?_; intro A4 c4 w4 hown4 hgr4 hat4))
  have hb : Below w2.heap.size w2 w4 := (hB3.alloc hs3 _).grown hgr4 (by simp; omega) (fun q hq => hown3.row_ge q hq)
  clear fk1
  replace k1 := k1.call hb
  replace hx := hx.below hb
  replace hB := hB.trans (hb.mono hB.size)
  have hl := hown4.bs
  clear hb
  have fk1 := k1.all4.1
  refine (HR1.out _ _ _ hl).mono ?_
  rintro e w5 ⟨rfl, hb⟩
  clear fk1
  replace k1 := k1.call hb
  replace hx := hx.below hb
  replace hl := hl.below hb
  replace hB := hB.trans (hb.mono hB.size)
  clear hb
  clear hl
  have k5 := Box.new w5 [.bool true, .int .i64 3, .int .i64 201, .int .i64 8] 23
  replace k1 := k1.alloc (.cells #[.bool true, .int .i64 3, .int .i64 201, .int .i64 8] 23)
  replace hx := hx.alloc (.cells #[.bool true, .int .i64 3, .int .i64 201, .int .i64 8] 23)
  replace hB := hB.alloc hB.size (.cells #[.bool true, .int .i64 3, .int .i64 201, .int .i64 8] 23)
  have fk1 := k1.all4.1
  have fk5 := k5.all4.1
  go_wp2_with fail
  refine (HR2.out _ _ _ hx).mono ?_
  rintro e w6 ⟨rfl, hb⟩
  clear fk1 fk5
  replace k1 := k1.call hb
  replace hx := hx.below hb
  replace k5 := k5.call hb
  replace hB := hB.trans (hb.mono hB.size)
  clear hb
  have k6 := Box.new w6 [.bool false, .int .i64 0, .int .i64 0, .int .i64 0] 23
  replace k1 := k1.alloc (.cells #[.bool false, .int .i64 0, .int .i64 0, .int .i64 0] 23)
  replace hx := hx.alloc (.cells #[.bool false, .int .i64 0, .int .i64 0, .int .i64 0] 23)
  replace k5 := k5.alloc (.cells #[.bool false, .int .i64 0, .int .i64 0, .int .i64 0] 23)
  replace hB := hB.alloc hB.size (.cells #[.bool false, .int .i64 0, .int .i64 0, .int .i64 0] 23)
  have fk1 := k1.all4.1
  have fk5 := k5.all4.1
  have fk6 := k6.all4.1
  have t1 := str_of (hx)
  have heq : ∀ W, (binOp .eql 23 (.agg #[.bool true, .int .i64 3, .int .i64 201, .int .i64 8]) (.agg #[.bool true, .int .i64 3, .int .i64 201, .int .i64 8])).run Try.prog W = .ok (.bool true) W := fun W => by
    have := eqCm ⟨true, 3, 201, 8⟩ ⟨true, 3, 201, 8⟩ W
    rwa [decide_eq_true rfl] at this
  go_wp2_with fail
  refine (HX.out _).mono ?_
  rintro e w7 ⟨rfl, hb⟩
  go_wp2_with fail
  go_ret
  exact ⟨rfl, hB.trans (hb.mono hB.size)⟩
end

end Go.Proofs.Ytfacfgpiodfndaa

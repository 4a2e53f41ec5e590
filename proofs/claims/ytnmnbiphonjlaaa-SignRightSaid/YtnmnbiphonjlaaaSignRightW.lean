/-
  SignRight, walked under the contracts of package sign's calls. (Written by gen_SignRightW.py.)
-/
import Derived.Test.YtnmnbiphonjlaaaSignK
namespace Go.Proofs.Ytnmnbiphonjlaaa
open Go.RowKit
set_option linter.unusedVariables false
set_option linter.unusedSimpArgs false

section
variable (KC : SignCalls)
include KC
set_option maxRecDepth 100000 in
set_option maxHeartbeats 2000000 in
theorem signRight_big (k : Int) (t : ByteArray) (m : Nat) (a b : Bool) (u : Int) (K : Int) (A : Option Addr) (n c : Nat) (s : List UInt8) (w : World) (ht : (t.size : Int) ≤ 9223372036854775807) (hn : (n : Int) ≤ 9223372036854775807) (hb : 300 < t.size ∨ 300 < n) :
    Calls Try.prog 3 #[.agg #[.int .i64 k, .string t, .int .u32 (m : Int), .bool a, .bool b, .int .i64 u], .int .i64 K, .slice A n c] w fun e w' => e = .returned (.bool true) ∧ Below w.heap.size w w' := by
  have k1 := Box.new w [.int .i64 k, .string t, .int .u32 (m : Int), .bool a, .bool b, .int .i64 u] 24
  have hB := below1 w (.cells #[.int .i64 k, .string t, .int .u32 (m : Int), .bool a, .bool b, .int .i64 u] 24)
  go_enter Try.func3, Try.ntmps3
  go_wp2_with fail
  refine (awake_any KC _).mono ?_
  rintro e w2 ⟨rfl, hb2⟩
  replace k1 := k1.call hb2
  replace hB := hB.trans (hb2.mono hB.size)
  have f1 := k1.all6.1
  by_cases h : 300 < t.size
  · have g1 : (300 : Int) < t.size := by omega
    have g3 : decide (300 < t.size) = true := decide_eq_true h
    go_wp2_with fail
    go_ret
    exact ⟨rfl, hB⟩
  · have g1 : ¬ (300 : Int) < t.size := by omega
    have g2 : (300 : Int) < n := by omega
    have g3 : decide (300 < t.size) = false := decide_eq_false (by omega)
    have g4 : decide (300 < n) = true := decide_eq_true (by omega)
    go_wp2_with fail
    go_ret
    exact ⟨by first | rfl | (simp; done), hB⟩

set_option maxRecDepth 100000 in
set_option maxHeartbeats 4000000 in
theorem signRight_no (k : Int) (t : ByteArray) (m : Nat) (a b : Bool) (u : Int) (K : Int) (A : Option Addr) (n c : Nat) (s : List UInt8) (w : World) (hs : Bs w A n c s) (hok : SgOk ⟨k, t, m, a, b, u⟩) (hK : (Lit.int .i64 K).wf = true) (ht : t.size ≤ 300) (hn : n ≤ 300) (hr : rightSg ⟨k, t, m, a, b, u⟩ = false) :
    Calls Try.prog 3 #[.agg #[.int .i64 k, .string t, .int .u32 (m : Int), .bool a, .bool b, .int .i64 u], .int .i64 K, .slice A n c] w fun e w' => e = .returned (.bool true) ∧ Below w.heap.size w w' := by
  have HR1 := Lib.hid (fun W => rsright_any ⟨k, t, m, a, b, u⟩ W (by simp only; omega))
  have HW1 := Lib.hid (fun W => KC.write ⟨k, t, m, a, b, u⟩ W hok)
  have HX1 := Lib.hid (fun W => KC.right ⟨k, t, m, a, b, u⟩ W hok)
  have HA := Lib.hid (fun W h => KC.read K A n c s W h (by omega) hK)
  have HB := Lib.hid (fun W h => rsread_any K A n c s W h)
  have HC1 := Lib.hid (fun W h => KC.canon K A n c s W h (by omega) hK)
  have HC2 := Lib.hid (fun W h => rscanon_any K A n c s W h)
  have e1 : writeSB ⟨k, t, m, a, b, u⟩ = [] := by unfold writeSB; rw [hr]; rfl
  have e2 : writeSE ⟨k, t, m, a, b, u⟩ = 1 := by unfold writeSE; rw [hr]; rfl
  rw [e1, e2] at HW1
  rw [hr] at HR1 HX1
  clear e1 e2 hr hok
  obtain ⟨q, hq⟩ : ∃ q, readSg K s = q := ⟨_, rfl⟩
  rw [hq] at HA HB
  clear hq
  generalize signE K s = er at *
  generalize canonSg K s = cn at *
  obtain ⟨qk, qt, qm, qa, qb, qu⟩ := q
  have heq : ∀ W, (binOp .eql 24 (.agg #[.int .i64 qk, .string qt, .int .u32 (qm : Int), .bool qa, .bool qb, .int .i64 qu]) (.agg #[.int .i64 qk, .string qt, .int .u32 (qm : Int), .bool qa, .bool qb, .int .i64 qu])).run Try.prog W = .ok (.bool true) W := fun W => by
    have := eqSg ⟨qk, qt, qm, qa, qb, qu⟩ ⟨qk, qt, qm, qa, qb, qu⟩ W
    rwa [decide_eq_true rfl] at this
  dsimp only [sgV] at HR1 HW1 HX1 HA HB
  have g1 : ¬ (300 : Int) < t.size := by omega
  have g2 : ¬ (300 : Int) < n := by omega
  have g3 : decide (300 < t.size) = false := decide_eq_false (by omega)
  have g4 : decide (300 < n) = false := decide_eq_false (by omega)
  have k1 := Box.new w [.int .i64 k, .string t, .int .u32 (m : Int), .bool a, .bool b, .int .i64 u] 24
  replace hs := hs.alloc (.cells #[.int .i64 k, .string t, .int .u32 (m : Int), .bool a, .bool b, .int .i64 u] 24)
  have hB := below1 w (.cells #[.int .i64 k, .string t, .int .u32 (m : Int), .bool a, .bool b, .int .i64 u] 24)
  go_enter Try.func3, Try.ntmps3
  have fk1 := k1.all6.1
  go_wp2_with fail
  refine (awake_any KC _).mono ?_
  rintro e w2 ⟨rfl, hb⟩
  clear fk1
  replace k1 := k1.call hb
  replace hs := hs.below hb
  replace hB := hB.trans (hb.mono hB.size)
  clear hb
  have fk1 := k1.all6.1
  go_wp2_with fail
  refine (HR1.out _).mono ?_
  rintro e w3 ⟨rfl, hb⟩
  clear fk1
  replace k1 := k1.call hb
  replace hs := hs.below hb
  replace hB := hB.trans (hb.mono hB.size)
  clear hb
  have fk1 := k1.all6.1
  go_wp2_with fail
  refine (HW1.out _).mono ?_
  rintro e w4 ⟨A4, c4, rfl, hx, hb⟩
  clear fk1
  replace k1 := k1.call hb
  replace hs := hs.below hb
  replace hB := hB.trans (hb.mono hB.size)
  clear hb
  clear hx
  have fk1 := k1.all6.1
  go_wp2_with fail
  refine (HA.out _ hs).mono ?_
  rintro e w6 ⟨rfl, hb⟩
  clear fk1
  replace k1 := k1.call hb
  replace hs := hs.below hb
  replace hB := hB.trans (hb.mono hB.size)
  clear hb
  have k6 := Box.new w6 [.int .i64 qk, .string qt, .int .u32 (qm : Int), .bool qa, .bool qb, .int .i64 qu] 24
  replace k1 := k1.alloc (.cells #[.int .i64 qk, .string qt, .int .u32 (qm : Int), .bool qa, .bool qb, .int .i64 qu] 24)
  replace hs := hs.alloc (.cells #[.int .i64 qk, .string qt, .int .u32 (qm : Int), .bool qa, .bool qb, .int .i64 qu] 24)
  replace hB := hB.alloc hB.size (.cells #[.int .i64 qk, .string qt, .int .u32 (qm : Int), .bool qa, .bool qb, .int .i64 qu] 24)
  have fk1 := k1.all6.1
  have fk6 := k6.all6.1
  go_wp2_with fail
  refine (HB.out _ hs).mono ?_
  rintro e w7 ⟨rfl, hb⟩
  clear fk1 fk6
  replace k1 := k1.call hb
  replace hs := hs.below hb
  replace k6 := k6.call hb
  replace hB := hB.trans (hb.mono hB.size)
  clear hb
  have k7 := Box.new w7 [.int .i64 qk, .string qt, .int .u32 (qm : Int), .bool qa, .bool qb, .int .i64 qu] 24
  replace k1 := k1.alloc (.cells #[.int .i64 qk, .string qt, .int .u32 (qm : Int), .bool qa, .bool qb, .int .i64 qu] 24)
  replace hs := hs.alloc (.cells #[.int .i64 qk, .string qt, .int .u32 (qm : Int), .bool qa, .bool qb, .int .i64 qu] 24)
  replace k6 := k6.alloc (.cells #[.int .i64 qk, .string qt, .int .u32 (qm : Int), .bool qa, .bool qb, .int .i64 qu] 24)
  replace hB := hB.alloc hB.size (.cells #[.int .i64 qk, .string qt, .int .u32 (qm : Int), .bool qa, .bool qb, .int .i64 qu] 24)
  have fk1 := k1.all6.1
  have fk6 := k6.all6.1
  have fk7 := k7.all6.1
  go_wp2_with fail
  refine (HX1.out _).mono ?_
  rintro e w8 ⟨rfl, hb⟩
  clear fk1 fk6 fk7
  replace k1 := k1.call hb
  replace hs := hs.below hb
  replace k6 := k6.call hb
  replace k7 := k7.call hb
  replace hB := hB.trans (hb.mono hB.size)
  clear hb
  have fk1 := k1.all6.1
  have fk6 := k6.all6.1
  have fk7 := k7.all6.1
  go_wp2_with fail
  refine (HC1.out _ hs).mono ?_
  rintro e w9 ⟨rfl, hb⟩
  clear fk1 fk6 fk7
  replace k1 := k1.call hb
  replace hs := hs.below hb
  replace k6 := k6.call hb
  replace k7 := k7.call hb
  replace hB := hB.trans (hb.mono hB.size)
  clear hb
  have fk1 := k1.all6.1
  have fk6 := k6.all6.1
  have fk7 := k7.all6.1
  go_wp2_with fail
  refine (HC2.out _ hs).mono ?_
  rintro e w10 ⟨rfl, hb⟩
  clear fk1 fk6 fk7
  replace k1 := k1.call hb
  replace hs := hs.below hb
  replace k6 := k6.call hb
  replace k7 := k7.call hb
  replace hB := hB.trans (hb.mono hB.size)
  clear hb
  go_wp2_with fail
  go_ret
  exact ⟨by first | rfl | (simp; done), hB⟩

set_option maxRecDepth 100000 in
set_option maxHeartbeats 4000000 in
theorem signRight_yes (k : Int) (t : ByteArray) (m : Nat) (a b : Bool) (u : Int) (K : Int) (A : Option Addr) (n c : Nat) (s : List UInt8) (w : World) (hs : Bs w A n c s) (hok : SgOk ⟨k, t, m, a, b, u⟩) (hK : (Lit.int .i64 K).wf = true) (ht : t.size ≤ 300) (hn : n ≤ 300) (hr : rightSg ⟨k, t, m, a, b, u⟩ = true) :
    Calls Try.prog 3 #[.agg #[.int .i64 k, .string t, .int .u32 (m : Int), .bool a, .bool b, .int .i64 u], .int .i64 K, .slice A n c] w fun e w' => e = .returned (.bool true) ∧ Below w.heap.size w w' := by
  have HR1 := Lib.hid (fun W => rsright_any ⟨k, t, m, a, b, u⟩ W (by simp only; omega))
  have HW1 := Lib.hid (fun W => KC.write ⟨k, t, m, a, b, u⟩ W hok)
  have HX1 := Lib.hid (fun W => KC.right ⟨k, t, m, a, b, u⟩ W hok)
  have HA := Lib.hid (fun W h => KC.read K A n c s W h (by omega) hK)
  have HB := Lib.hid (fun W h => rsread_any K A n c s W h)
  have HC1 := Lib.hid (fun W h => KC.canon K A n c s W h (by omega) hK)
  have HC2 := Lib.hid (fun W h => rscanon_any K A n c s W h)
  have HW2 := Lib.hid (fun W => rswrite_any ⟨k, t, m, a, b, u⟩ W hr hok.2.1)
  have e1 : writeSB ⟨k, t, m, a, b, u⟩ = writeSg ⟨k, t, m, a, b, u⟩ := by unfold writeSB; rw [hr]; rfl
  have e2 : writeSE ⟨k, t, m, a, b, u⟩ = 0 := by unfold writeSE; rw [hr]; rfl
  rw [e1, e2] at HW1
  rw [hr] at HR1 HX1
  clear e1 e2 hr hok
  generalize writeSg ⟨k, t, m, a, b, u⟩ = X at *
  obtain ⟨q, hq⟩ : ∃ q, readSg K s = q := ⟨_, rfl⟩
  rw [hq] at HA HB
  clear hq
  generalize signE K s = er at *
  generalize canonSg K s = cn at *
  obtain ⟨qk, qt, qm, qa, qb, qu⟩ := q
  have heq : ∀ W, (binOp .eql 24 (.agg #[.int .i64 qk, .string qt, .int .u32 (qm : Int), .bool qa, .bool qb, .int .i64 qu]) (.agg #[.int .i64 qk, .string qt, .int .u32 (qm : Int), .bool qa, .bool qb, .int .i64 qu])).run Try.prog W = .ok (.bool true) W := fun W => by
    have := eqSg ⟨qk, qt, qm, qa, qb, qu⟩ ⟨qk, qt, qm, qa, qb, qu⟩ W
    rwa [decide_eq_true rfl] at this
  dsimp only [sgV] at HR1 HW1 HX1 HA HB HW2
  have g1 : ¬ (300 : Int) < t.size := by omega
  have g2 : ¬ (300 : Int) < n := by omega
  have g3 : decide (300 < t.size) = false := decide_eq_false (by omega)
  have g4 : decide (300 < n) = false := decide_eq_false (by omega)
  have k1 := Box.new w [.int .i64 k, .string t, .int .u32 (m : Int), .bool a, .bool b, .int .i64 u] 24
  replace hs := hs.alloc (.cells #[.int .i64 k, .string t, .int .u32 (m : Int), .bool a, .bool b, .int .i64 u] 24)
  have hB := below1 w (.cells #[.int .i64 k, .string t, .int .u32 (m : Int), .bool a, .bool b, .int .i64 u] 24)
  go_enter Try.func3, Try.ntmps3
  have fk1 := k1.all6.1
  go_wp2_with fail
  refine (awake_any KC _).mono ?_
  rintro e w2 ⟨rfl, hb⟩
  clear fk1
  replace k1 := k1.call hb
  replace hs := hs.below hb
  replace hB := hB.trans (hb.mono hB.size)
  clear hb
  have fk1 := k1.all6.1
  go_wp2_with fail
  refine (HR1.out _).mono ?_
  rintro e w3 ⟨rfl, hb⟩
  clear fk1
  replace k1 := k1.call hb
  replace hs := hs.below hb
  replace hB := hB.trans (hb.mono hB.size)
  clear hb
  have fk1 := k1.all6.1
  go_wp2_with fail
  refine (HW1.out _).mono ?_
  rintro e w4 ⟨A4, c4, rfl, hx, hb⟩
  clear fk1
  replace k1 := k1.call hb
  replace hs := hs.below hb
  replace hB := hB.trans (hb.mono hB.size)
  clear hb
  go_upto_region 8 with fail
  go_cut [42] (fun q W => q = .bool false ∧ Below w4.heap.size w4 W)
  case first =>
    refine wp_region_held_drew (S := (fun W => (convert 25 9 (.slice A4 X.length c4)).run Try.prog W = .ok (.string ⟨X.toArray⟩) W ∧ W.cell? ⟨w.heap.size, 0, none⟩ = some (.int .i64 k) ∧ W.cell? ⟨w.heap.size, 1, none⟩ = some (.string t) ∧ W.cell? ⟨w.heap.size, 2, none⟩ = some (.int .u32 (m : Int)) ∧ W.cell? ⟨w.heap.size, 3, none⟩ = some (.bool a) ∧ W.cell? ⟨w.heap.size, 4, none⟩ = some (.bool b) ∧ W.cell? ⟨w.heap.size, 5, none⟩ = some (.int .i64 u))) (by kernel_rfl) ⟨str_of hx.drew, k1.all6.1⟩ (fun hHeld => ?_)
    refine wpAnyH_take (i := 0) (v := ?vR0) rfl (by kernel_rfl) (by kernel_rfl) (by kernel_rfl) (fun _ _ _ h => h) (Or.inl ⟨by rfl, ?hR0⟩) (by assumption) ?rR0
    case hR0 => (intro w hSw; (try dsimp only at hSw); go_simp; try with_reducible rfl)
    change wpAnyH _ _ _ _ _ _ _ (Act.put _ (some 33) _) _
    simp only [Act.put, List.setIfInBounds_toArray, List.set_cons_zero, List.set_cons_succ]
    refine wpAnyH_take (i := 1) (v := ?vR1) rfl (by kernel_rfl) (by kernel_rfl) (by kernel_rfl) (fun _ _ _ h => h) (Or.inl ⟨by rfl, ?hR1⟩) (by assumption) ?rR1
    case hR1 => (intro w hSw; (try dsimp only at hSw); go_simp; try with_reducible rfl)
    change wpAnyH _ _ _ _ _ _ _ (Act.put _ (some 34) _) _
    simp only [Act.put, List.setIfInBounds_toArray, List.set_cons_zero, List.set_cons_succ]
    refine wpAnyH_take (i := 2) (v := ?vR2) rfl (by kernel_rfl) (by kernel_rfl) (by kernel_rfl) (fun _ _ _ h => h) (Or.inl ⟨by rfl, ?hR2⟩) (by assumption) ?rR2
    case hR2 => (intro w hSw; (try dsimp only at hSw); go_simp; try with_reducible rfl)
    change wpAnyH _ _ _ _ _ _ _ (Act.put _ (some 35) _) _
    simp only [Act.put, List.setIfInBounds_toArray, List.set_cons_zero, List.set_cons_succ]
    refine wpAnyH_take (i := 3) (v := ?vR3) rfl (by kernel_rfl) (by kernel_rfl) (by kernel_rfl) (fun _ _ _ h => h) (Or.inl ⟨by rfl, ?hR3⟩) (by assumption) ?rR3
    case hR3 => (intro w hSw; (try dsimp only at hSw); go_simp; try with_reducible rfl)
    change wpAnyH _ _ _ _ _ _ _ (Act.put _ (some 36) _) _
    simp only [Act.put, List.setIfInBounds_toArray, List.set_cons_zero, List.set_cons_succ]
    refine wpAnyH_take (i := 4) (v := ?vR4) rfl (by kernel_rfl) (by kernel_rfl) (by kernel_rfl) (fun _ _ _ h => h) (Or.inl ⟨by rfl, ?hR4⟩) (by assumption) ?rR4
    case hR4 => (intro w hSw; (try dsimp only at hSw); go_simp; try with_reducible rfl)
    change wpAnyH _ _ _ _ _ _ _ (Act.put _ (some 37) _) _
    simp only [Act.put, List.setIfInBounds_toArray, List.set_cons_zero, List.set_cons_succ]
    refine wpAnyH_take (i := 5) (v := ?vR5) rfl (by kernel_rfl) (by kernel_rfl) (by kernel_rfl) (fun _ _ _ h => h) (Or.inl ⟨by rfl, ?hR5⟩) (by assumption) ?rR5
    case hR5 => (intro w hSw; (try dsimp only at hSw); go_simp; try with_reducible rfl)
    change wpAnyH _ _ _ _ _ _ _ (Act.put _ (some 38) _) _
    simp only [Act.put, List.setIfInBounds_toArray, List.set_cons_zero, List.set_cons_succ]
    refine wpAnyH_ready (rs := [6]) (by kernel_rfl) (by simp) ?_
    refine AllReadyH.cons rfl (fun K hK => ?_) AllReadyH.nil
    go_simp
    refine (HW2.out _).mono ?_
    rintro e w5 ⟨A5, c5, rfl, hy, hb⟩
    go_wp2_with fail
    have hx5 := Bs.below (w := w4.drew) hx.drew hb
    have k5 := Box.call (w := w4.drew) k1 hb
    have t3 := str_of hx5
    have t4 := str_of hy
    refine hK.out _ _ ?_ (fun hHeld => ?_)
    · exact ⟨t3, k5.all6.1⟩
    clear hK K
    try simp only [Act.put, List.setIfInBounds_toArray, List.set_cons_zero, List.set_cons_succ]
    have hHeld2 : (fun W => (convert 25 9 (.slice A5 X.length c5)).run Try.prog W = .ok (.string ⟨X.toArray⟩) W ∧ ((convert 25 9 (.slice A4 X.length c4)).run Try.prog W = .ok (.string ⟨X.toArray⟩) W ∧ W.cell? ⟨w.heap.size, 0, none⟩ = some (.int .i64 k) ∧ W.cell? ⟨w.heap.size, 1, none⟩ = some (.string t) ∧ W.cell? ⟨w.heap.size, 2, none⟩ = some (.int .u32 (m : Int)) ∧ W.cell? ⟨w.heap.size, 3, none⟩ = some (.bool a) ∧ W.cell? ⟨w.heap.size, 4, none⟩ = some (.bool b) ∧ W.cell? ⟨w.heap.size, 5, none⟩ = some (.int .i64 u))) w5 := ⟨t4, t3, k5.all6.1⟩
    refine wpAnyH_mono (S2 := (fun W => (convert 25 9 (.slice A5 X.length c5)).run Try.prog W = .ok (.string ⟨X.toArray⟩) W ∧ ((convert 25 9 (.slice A4 X.length c4)).run Try.prog W = .ok (.string ⟨X.toArray⟩) W ∧ W.cell? ⟨w.heap.size, 0, none⟩ = some (.int .i64 k) ∧ W.cell? ⟨w.heap.size, 1, none⟩ = some (.string t) ∧ W.cell? ⟨w.heap.size, 2, none⟩ = some (.int .u32 (m : Int)) ∧ W.cell? ⟨w.heap.size, 3, none⟩ = some (.bool a) ∧ W.cell? ⟨w.heap.size, 4, none⟩ = some (.bool b) ∧ W.cell? ⟨w.heap.size, 5, none⟩ = some (.int .i64 u)))) (fun _ h => h.2) ?_
    refine wpAnyH_take (i := 7) (v := ?vR7) rfl (by kernel_rfl) (by kernel_rfl) (by kernel_rfl) (fun _ _ _ h => h) (Or.inl ⟨by rfl, ?hR7⟩) (by assumption) ?rR7
    case hR7 => (intro w hSw; (try dsimp only at hSw); go_simp; try with_reducible rfl)
    change wpAnyH _ _ _ _ _ _ _ (Act.put _ (some 40) _) _
    simp only [Act.put, List.setIfInBounds_toArray, List.set_cons_zero, List.set_cons_succ]
    refine wpAnyH_take (i := 8) (v := ?vR8) rfl (by kernel_rfl) (by kernel_rfl) (by kernel_rfl) (fun _ _ _ h => h) (Or.inl ⟨by rfl, ?hR8⟩) (by assumption) ?rR8
    case hR8 => (intro w hSw; (try dsimp only at hSw); go_simp; try with_reducible rfl)
    change wpAnyH _ _ _ _ _ _ _ (Act.put _ (some 41) _) _
    simp only [Act.put, List.setIfInBounds_toArray, List.set_cons_zero, List.set_cons_succ]
    refine wpAnyH_take (i := 9) (v := ?vR9) rfl (by kernel_rfl) (by kernel_rfl) (by kernel_rfl) (fun _ _ _ h => h) (Or.inl ⟨by rfl, ?hR9⟩) (by assumption) ?rR9
    case hR9 => (intro w hSw; (try dsimp only at hSw); go_simp; try with_reducible rfl)
    change wpAnyH _ _ _ _ _ _ _ (Act.put _ (some 42) _) _
    simp only [Act.put, List.setIfInBounds_toArray, List.set_cons_zero, List.set_cons_succ]
    refine wpAnyH_done (by kernel_rfl) ?_ _
    go_wp2_with fail
    go_meet
    exact ⟨by first | rfl | (simp; done), (Below.refl _ w4).drew.trans hb⟩
  case rest =>
    obtain ⟨rfl, hb⟩ := hcut
    replace k1 := k1.call hb
    replace hs := hs.below hb
    replace hx := hx.below hb
    replace hB := hB.trans (hb.mono hB.size)
    clear hb
    clear hx
    have fk1 := k1.all6.1
    go_wp2_with fail
    refine (HA.out _ hs).mono ?_
    rintro e w6 ⟨rfl, hb⟩
    clear fk1
    replace k1 := k1.call hb
    replace hs := hs.below hb
    replace hB := hB.trans (hb.mono hB.size)
    clear hb
    have k6 := Box.new w6 [.int .i64 qk, .string qt, .int .u32 (qm : Int), .bool qa, .bool qb, .int .i64 qu] 24
    replace k1 := k1.alloc (.cells #[.int .i64 qk, .string qt, .int .u32 (qm : Int), .bool qa, .bool qb, .int .i64 qu] 24)
    replace hs := hs.alloc (.cells #[.int .i64 qk, .string qt, .int .u32 (qm : Int), .bool qa, .bool qb, .int .i64 qu] 24)
    replace hB := hB.alloc hB.size (.cells #[.int .i64 qk, .string qt, .int .u32 (qm : Int), .bool qa, .bool qb, .int .i64 qu] 24)
    have fk1 := k1.all6.1
    have fk6 := k6.all6.1
    go_wp2_with fail
    refine (HB.out _ hs).mono ?_
    rintro e w7 ⟨rfl, hb⟩
    clear fk1 fk6
    replace k1 := k1.call hb
    replace hs := hs.below hb
    replace k6 := k6.call hb
    replace hB := hB.trans (hb.mono hB.size)
    clear hb
    have k7 := Box.new w7 [.int .i64 qk, .string qt, .int .u32 (qm : Int), .bool qa, .bool qb, .int .i64 qu] 24
    replace k1 := k1.alloc (.cells #[.int .i64 qk, .string qt, .int .u32 (qm : Int), .bool qa, .bool qb, .int .i64 qu] 24)
    replace hs := hs.alloc (.cells #[.int .i64 qk, .string qt, .int .u32 (qm : Int), .bool qa, .bool qb, .int .i64 qu] 24)
    replace k6 := k6.alloc (.cells #[.int .i64 qk, .string qt, .int .u32 (qm : Int), .bool qa, .bool qb, .int .i64 qu] 24)
    replace hB := hB.alloc hB.size (.cells #[.int .i64 qk, .string qt, .int .u32 (qm : Int), .bool qa, .bool qb, .int .i64 qu] 24)
    have fk1 := k1.all6.1
    have fk6 := k6.all6.1
    have fk7 := k7.all6.1
    go_wp2_with fail
    refine (HX1.out _).mono ?_
    rintro e w8 ⟨rfl, hb⟩
    clear fk1 fk6 fk7
    replace k1 := k1.call hb
    replace hs := hs.below hb
    replace k6 := k6.call hb
    replace k7 := k7.call hb
    replace hB := hB.trans (hb.mono hB.size)
    clear hb
    have fk1 := k1.all6.1
    have fk6 := k6.all6.1
    have fk7 := k7.all6.1
    go_wp2_with fail
    refine (HC1.out _ hs).mono ?_
    rintro e w9 ⟨rfl, hb⟩
    clear fk1 fk6 fk7
    replace k1 := k1.call hb
    replace hs := hs.below hb
    replace k6 := k6.call hb
    replace k7 := k7.call hb
    replace hB := hB.trans (hb.mono hB.size)
    clear hb
    have fk1 := k1.all6.1
    have fk6 := k6.all6.1
    have fk7 := k7.all6.1
    go_wp2_with fail
    refine (HC2.out _ hs).mono ?_
    rintro e w10 ⟨rfl, hb⟩
    clear fk1 fk6 fk7
    replace k1 := k1.call hb
    replace hs := hs.below hb
    replace k6 := k6.call hb
    replace k7 := k7.call hb
    replace hB := hB.trans (hb.mono hB.size)
    clear hb
    go_wp2_with fail
    go_ret
    exact ⟨by first | rfl | (simp; done), hB⟩

theorem signRight_all (k : Int) (t : ByteArray) (m : Nat) (a b : Bool) (u : Int) (K : Int) (A : Option Addr) (n c : Nat) (s : List UInt8) (w : World) (hs : Bs w A n c s) (ht : t.size ≤ 9223372036854775807) (hm : m < 4294967296) (hk : (Lit.int .i64 k).wf = true) (hu : (Lit.int .i64 u).wf = true) (hK : (Lit.int .i64 K).wf = true) :
    Calls Try.prog 3 #[.agg #[.int .i64 k, .string t, .int .u32 (m : Int), .bool a, .bool b, .int .i64 u], .int .i64 K, .slice A n c] w fun e w' => e = .returned (.bool true) ∧ Below w.heap.size w w' := by
  by_cases hb : 300 < t.size ∨ 300 < n
  · have := hs.le
    have := hs.cap
    unfold maxLen at this
    exact signRight_big KC k t m a b u K A n c s w (by omega) (by omega) hb
  · have hok : SgOk ⟨k, t, m, a, b, u⟩ := ⟨by simp only; omega, hm, hk, hu⟩
    cases hr : rightSg ⟨k, t, m, a, b, u⟩
    · exact signRight_no KC k t m a b u K A n c s w hs hok hK (by omega) (by omega) hr
    · exact signRight_yes KC k t m a b u K A n c s w hs hok hK (by omega) (by omega) hr
end

end Go.Proofs.Ytnmnbiphonjlaaa

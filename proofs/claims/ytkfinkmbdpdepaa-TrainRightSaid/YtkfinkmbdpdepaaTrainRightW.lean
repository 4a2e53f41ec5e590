/-
  TrainRight, walked under the contracts of package train's calls. (Written by gen_TrainRightW.py.)
-/
import Derived.Test.YtkfinkmbdpdepaaTrainA
import Derived.Test.YtkfinkmbdpdepaaTrainQ
namespace Go.Proofs.Ytkfinkmbdpdepaa
open Go.RowKit
set_option linter.unusedVariables false
set_option linter.unusedSimpArgs false

section
variable (KC : TrainCalls)
include KC
set_option maxRecDepth 100000 in
set_option maxHeartbeats 1000000 in
theorem trainRight_big1 (A : Option Addr) (n c : Nat) (s : List UInt8) (k q : Int) (A2 : Option Addr) (n2 c2 : Nat) (s2 : List UInt8) (t : Int) (w : World) (hm : (n : Int) ≤ 9223372036854775807) (hb : 70000 < n) :
    Calls Try.prog 3 #[.slice A n c, .int .i64 k, .int .i64 q, .slice A2 n2 c2, .int .i64 t] w fun e w' => e = .returned (.bool true) ∧ Below w.heap.size w w' := by
  have g1 : (70000 : Int) < n := by omega
  go_enter Try.func3, Try.ntmps3
  go_wp2_with fail
  refine (awake11_any KC _).mono ?_
  rintro e w2 ⟨rfl, hb2⟩
  go_wp2_with fail
  go_ret
  exact ⟨rfl, hb2⟩

set_option maxRecDepth 100000 in
set_option maxHeartbeats 1000000 in
theorem trainRight_big2 (A : Option Addr) (n c : Nat) (s : List UInt8) (k q : Int) (A2 : Option Addr) (n2 c2 : Nat) (s2 : List UInt8) (t : Int) (w : World) (hn : n ≤ 70000) (hm : (n2 : Int) ≤ 9223372036854775807) (hb : 70000 < n2) :
    Calls Try.prog 3 #[.slice A n c, .int .i64 k, .int .i64 q, .slice A2 n2 c2, .int .i64 t] w fun e w' => e = .returned (.bool true) ∧ Below w.heap.size w w' := by
  have g1 : ¬ (70000 : Int) < n := by omega
  have g2 : (70000 : Int) < n2 := by omega
  go_enter Try.func3, Try.ntmps3
  go_wp2_with fail
  refine (awake11_any KC _).mono ?_
  rintro e w2 ⟨rfl, hb2⟩
  go_wp2_with fail
  go_ret
  exact ⟨rfl, hb2⟩

set_option maxRecDepth 100000 in
set_option maxHeartbeats 2000000 in
theorem trainRight_no (A : Option Addr) (n c : Nat) (s : List UInt8) (k q : Int) (A2 : Option Addr) (n2 c2 : Nat) (s2 : List UInt8) (t : Int) (w : World) (hs : Bs w A n c s) (hs2 : Bs w A2 n2 c2 s2) (hn : n ≤ 70000) (hn2 : n2 ≤ 70000) (hr : mayT k q n2 t = false) :
    Calls Try.prog 3 #[.slice A n c, .int .i64 k, .int .i64 q, .slice A2 n2 c2, .int .i64 t] w fun e w' => e = .returned (.bool true) ∧ Below w.heap.size w w' := by
  have hl2 := hs2.len
  have HO1 := Lib.hid (fun W h => KC.open_ A n c s W h (by omega))
  have HO2 := Lib.hid (fun W h => ropen_any A n c s W h (by omega))
  have HC1 := Lib.hid (fun W h => KC.close k q A2 n2 c2 s2 t W h (by omega))
  have HM := Lib.hid (fun W => rtmay_any k q A2 n2 c2 t W (by omega))
  have HS1 := Lib.hid (fun W h => KC.split A n c s W h (by omega))
  have HS2 := Lib.hid (fun W h => rsplit_any A n c s W h (by omega))
  have HL := Lib.hid (fun W (P1 : Option Addr) m1 d1 (P2 : Option Addr) m2 d2 h1 h2 => rlists_any P1 m1 d1 (splitL s) P2 m2 d2 (splitL s) W h1 h2)
  rw [decide_eq_true rfl] at HL
  rw [hr] at HM
  have e1 : closeR k q s2 t = [] := by unfold closeR; rw [hl2, hr]; rfl
  have e2 : closeE k q s2 t = 1 := by unfold closeE; rw [hl2, hr]; rfl
  rw [e1, e2] at HC1
  clear e1 e2 hr hl2
  generalize openC s = C at *
  generalize openD s = D at *
  generalize openN s = N at *
  generalize openE s = E at *
  generalize splitL s = L at *
  generalize splitE s = F at *
  obtain ⟨cp, cm, ct, cz⟩ := C
  have hneq : ∀ W, (binOp .neq 25 (.agg #[.bool cp, .int .i64 cm, .int .i64 ct, .int .i64 cz]) (.agg #[.bool cp, .int .i64 cm, .int .i64 ct, .int .i64 cz])).run Try.prog W = .ok (.bool false) W := fun W => by
    have := neqCm ⟨cp, cm, ct, cz⟩ ⟨cp, cm, ct, cz⟩ W
    rwa [decide_eq_true rfl] at this
  unfold GivesOp at HO1
  unfold GivesCar at HO2
  unfold GivesBE at HC1
  unfold GivesLs at HS1 HS2
  dsimp only [cmW, carW] at HO1 HO2
  have g1 : ¬ (70000 : Int) < n := by omega
  have g2 : ¬ (70000 : Int) < n2 := by omega
  have hB := Below.refl w.heap.size w
  go_enter Try.func3, Try.ntmps3
  go_wp2_with fail
  refine (awake11_any KC _).mono ?_
  rintro e w2 ⟨rfl, hb⟩
  replace hs := hs.below hb
  replace hs2 := hs2.below hb
  replace hB := hB.trans (hb.mono hB.size)
  clear hb
  go_wp2_with fail
  refine (HO1.out _ hs).mono ?_
  rintro e w3 ⟨A3, d3, rfl, hx, hb⟩
  replace hs := hs.below hb
  replace hs2 := hs2.below hb
  replace hB := hB.trans (hb.mono hB.size)
  clear hb
  have k3 := Box.new w3 [.bool cp, .int .i64 cm, .int .i64 ct, .int .i64 cz] 25
  replace hs := hs.alloc (.cells #[.bool cp, .int .i64 cm, .int .i64 ct, .int .i64 cz] 25)
  replace hs2 := hs2.alloc (.cells #[.bool cp, .int .i64 cm, .int .i64 ct, .int .i64 cz] 25)
  replace hx := hx.alloc (.cells #[.bool cp, .int .i64 cm, .int .i64 ct, .int .i64 cz] 25)
  replace hB := hB.alloc hB.size (.cells #[.bool cp, .int .i64 cm, .int .i64 ct, .int .i64 cz] 25)
  have fk3 := k3.all4.1
  go_wp2_with fail
  refine (HO2.out _ hs).mono ?_
  rintro e w4 ⟨A4, m4, d4, rfl, hy, hb⟩
  clear fk3
  replace hs := hs.below hb
  replace hs2 := hs2.below hb
  replace hx := hx.below hb
  replace k3 := k3.call hb
  replace hB := hB.trans (hb.mono hB.size)
  clear hb
  have k4 := Box.new w4 [.bool cp, .int .i64 cm, .int .i64 ct, .int .i64 cz, .slice A4 m4 d4, .int .i64 N] 30
  replace hs := hs.alloc (.cells #[.bool cp, .int .i64 cm, .int .i64 ct, .int .i64 cz, .slice A4 m4 d4, .int .i64 N] 30)
  replace hs2 := hs2.alloc (.cells #[.bool cp, .int .i64 cm, .int .i64 ct, .int .i64 cz, .slice A4 m4 d4, .int .i64 N] 30)
  replace hx := hx.alloc (.cells #[.bool cp, .int .i64 cm, .int .i64 ct, .int .i64 cz, .slice A4 m4 d4, .int .i64 N] 30)
  replace k3 := k3.alloc (.cells #[.bool cp, .int .i64 cm, .int .i64 ct, .int .i64 cz, .slice A4 m4 d4, .int .i64 N] 30)
  replace hy := hy.alloc (.cells #[.bool cp, .int .i64 cm, .int .i64 ct, .int .i64 cz, .slice A4 m4 d4, .int .i64 N] 30)
  replace hB := hB.alloc hB.size (.cells #[.bool cp, .int .i64 cm, .int .i64 ct, .int .i64 cz, .slice A4 m4 d4, .int .i64 N] 30)
  have fk3 := k3.all4.1
  have f4 := k4.all6.1
  have t1 := str_of hx
  have t2 := str_of hy
  go_wp2_with fail
  refine (HC1.out _ hs2).mono ?_
  rintro e w5 ⟨A5, d5, rfl, hz, hb⟩
  clear f4 t1 t2 k4
  clear fk3
  replace hs := hs.below hb
  replace hs2 := hs2.below hb
  replace hx := hx.below hb
  replace k3 := k3.call hb
  replace hy := hy.below hb
  replace hB := hB.trans (hb.mono hB.size)
  clear hb
  clear hx hy k3
  replace hz := hz.bs
  go_wp2_with fail
  refine (HM.out _).mono ?_
  rintro e w6 ⟨rfl, hb⟩
  replace hs := hs.below hb
  replace hs2 := hs2.below hb
  replace hz := hz.below hb
  replace hB := hB.trans (hb.mono hB.size)
  clear hb
  clear hz
  go_wp2_with fail
  refine (HS1.out _ hs).mono ?_
  rintro e w8 ⟨A8, m8, d8, rfl, ha, hb⟩
  replace hs := hs.below hb
  replace hs2 := hs2.below hb
  replace hB := hB.trans (hb.mono hB.size)
  clear hb
  go_wp2_with fail
  refine (HS2.out _ hs).mono ?_
  rintro e w9 ⟨A9, m9, d9, rfl, hc, hb⟩
  replace hs := hs.below hb
  replace hs2 := hs2.below hb
  replace ha := ha.below hb
  replace hB := hB.trans (hb.mono hB.size)
  clear hb
  go_wp2_with fail
  refine (HL.out _ _ _ _ _ _ _ ha hc).mono ?_
  rintro e w10 ⟨rfl, hb⟩
  replace hs := hs.below hb
  replace hs2 := hs2.below hb
  replace ha := ha.below hb
  replace hc := hc.below hb
  replace hB := hB.trans (hb.mono hB.size)
  clear hb
  go_wp2_with fail
  go_ret
  exact ⟨by first | rfl | (simp; done), hB⟩

set_option maxRecDepth 100000 in
set_option maxHeartbeats 2000000 in
theorem trainRight_yes (A : Option Addr) (n c : Nat) (s : List UInt8) (k q : Int) (A2 : Option Addr) (n2 c2 : Nat) (s2 : List UInt8) (t : Int) (w : World) (hs : Bs w A n c s) (hs2 : Bs w A2 n2 c2 s2) (hn : n ≤ 70000) (hn2 : n2 ≤ 70000) (hr : mayT k q n2 t = true) :
    Calls Try.prog 3 #[.slice A n c, .int .i64 k, .int .i64 q, .slice A2 n2 c2, .int .i64 t] w fun e w' => e = .returned (.bool true) ∧ Below w.heap.size w w' := by
  have hl2 := hs2.len
  have HO1 := Lib.hid (fun W h => KC.open_ A n c s W h (by omega))
  have HO2 := Lib.hid (fun W h => ropen_any A n c s W h (by omega))
  have HC1 := Lib.hid (fun W h => KC.close k q A2 n2 c2 s2 t W h (by omega))
  have HM := Lib.hid (fun W => rtmay_any k q A2 n2 c2 t W (by omega))
  have HS1 := Lib.hid (fun W h => KC.split A n c s W h (by omega))
  have HS2 := Lib.hid (fun W h => rsplit_any A n c s W h (by omega))
  have HL := Lib.hid (fun W (P1 : Option Addr) m1 d1 (P2 : Option Addr) m2 d2 h1 h2 => rlists_any P1 m1 d1 (splitL s) P2 m2 d2 (splitL s) W h1 h2)
  rw [decide_eq_true rfl] at HL
  rw [hr] at HM
  have HC2 := Lib.hid (fun W h => rtclose_any k q A2 n2 c2 s2 t W h (by rw [hl2]; exact hr))
  have e1 : closeR k q s2 t = closeB k q s2 t := by unfold closeR; rw [hl2, if_pos hr]
  have e2 : closeE k q s2 t = 0 := by unfold closeE; rw [hl2, if_pos hr]
  rw [e1, e2] at HC1
  generalize closeB k q s2 t = Z at *
  clear e1 e2 hr hl2
  generalize openC s = C at *
  generalize openD s = D at *
  generalize openN s = N at *
  generalize openE s = E at *
  generalize splitL s = L at *
  generalize splitE s = F at *
  obtain ⟨cp, cm, ct, cz⟩ := C
  have hneq : ∀ W, (binOp .neq 25 (.agg #[.bool cp, .int .i64 cm, .int .i64 ct, .int .i64 cz]) (.agg #[.bool cp, .int .i64 cm, .int .i64 ct, .int .i64 cz])).run Try.prog W = .ok (.bool false) W := fun W => by
    have := neqCm ⟨cp, cm, ct, cz⟩ ⟨cp, cm, ct, cz⟩ W
    rwa [decide_eq_true rfl] at this
  unfold GivesOp at HO1
  unfold GivesCar at HO2
  unfold GivesBE at HC1
  unfold GivesLs at HS1 HS2
  dsimp only [cmW, carW] at HO1 HO2
  have g1 : ¬ (70000 : Int) < n := by omega
  have g2 : ¬ (70000 : Int) < n2 := by omega
  have hB := Below.refl w.heap.size w
  go_enter Try.func3, Try.ntmps3
  go_wp2_with fail
  refine (awake11_any KC _).mono ?_
  rintro e w2 ⟨rfl, hb⟩
  replace hs := hs.below hb
  replace hs2 := hs2.below hb
  replace hB := hB.trans (hb.mono hB.size)
  clear hb
  go_wp2_with fail
  refine (HO1.out _ hs).mono ?_
  rintro e w3 ⟨A3, d3, rfl, hx, hb⟩
  replace hs := hs.below hb
  replace hs2 := hs2.below hb
  replace hB := hB.trans (hb.mono hB.size)
  clear hb
  have k3 := Box.new w3 [.bool cp, .int .i64 cm, .int .i64 ct, .int .i64 cz] 25
  replace hs := hs.alloc (.cells #[.bool cp, .int .i64 cm, .int .i64 ct, .int .i64 cz] 25)
  replace hs2 := hs2.alloc (.cells #[.bool cp, .int .i64 cm, .int .i64 ct, .int .i64 cz] 25)
  replace hx := hx.alloc (.cells #[.bool cp, .int .i64 cm, .int .i64 ct, .int .i64 cz] 25)
  replace hB := hB.alloc hB.size (.cells #[.bool cp, .int .i64 cm, .int .i64 ct, .int .i64 cz] 25)
  have fk3 := k3.all4.1
  go_wp2_with fail
  refine (HO2.out _ hs).mono ?_
  rintro e w4 ⟨A4, m4, d4, rfl, hy, hb⟩
  clear fk3
  replace hs := hs.below hb
  replace hs2 := hs2.below hb
  replace hx := hx.below hb
  replace k3 := k3.call hb
  replace hB := hB.trans (hb.mono hB.size)
  clear hb
  have k4 := Box.new w4 [.bool cp, .int .i64 cm, .int .i64 ct, .int .i64 cz, .slice A4 m4 d4, .int .i64 N] 30
  replace hs := hs.alloc (.cells #[.bool cp, .int .i64 cm, .int .i64 ct, .int .i64 cz, .slice A4 m4 d4, .int .i64 N] 30)
  replace hs2 := hs2.alloc (.cells #[.bool cp, .int .i64 cm, .int .i64 ct, .int .i64 cz, .slice A4 m4 d4, .int .i64 N] 30)
  replace hx := hx.alloc (.cells #[.bool cp, .int .i64 cm, .int .i64 ct, .int .i64 cz, .slice A4 m4 d4, .int .i64 N] 30)
  replace k3 := k3.alloc (.cells #[.bool cp, .int .i64 cm, .int .i64 ct, .int .i64 cz, .slice A4 m4 d4, .int .i64 N] 30)
  replace hy := hy.alloc (.cells #[.bool cp, .int .i64 cm, .int .i64 ct, .int .i64 cz, .slice A4 m4 d4, .int .i64 N] 30)
  replace hB := hB.alloc hB.size (.cells #[.bool cp, .int .i64 cm, .int .i64 ct, .int .i64 cz, .slice A4 m4 d4, .int .i64 N] 30)
  have fk3 := k3.all4.1
  have f4 := k4.all6.1
  have t1 := str_of hx
  have t2 := str_of hy
  go_wp2_with fail
  refine (HC1.out _ hs2).mono ?_
  rintro e w5 ⟨A5, d5, rfl, hz, hb⟩
  clear f4 t1 t2 k4
  clear fk3
  replace hs := hs.below hb
  replace hs2 := hs2.below hb
  replace hx := hx.below hb
  replace k3 := k3.call hb
  replace hy := hy.below hb
  replace hB := hB.trans (hb.mono hB.size)
  clear hb
  clear hx hy k3
  replace hz := hz.bs
  go_wp2_with fail
  refine (HM.out _).mono ?_
  rintro e w6 ⟨rfl, hb⟩
  replace hs := hs.below hb
  replace hs2 := hs2.below hb
  replace hz := hz.below hb
  replace hB := hB.trans (hb.mono hB.size)
  clear hb
  go_upto_region 11 with fail
  go_cut [90] (fun q W => q = .bool false ∧ Below w6.heap.size w6 W)
  case first =>
    refine wp_region_held_drew (S := (fun W => (convert 22 9 (.slice A5 Z.length d5)).run Try.prog W = .ok (.string ⟨Z.toArray⟩) W ∧ True)) (by kernel_rfl) ⟨str_of hz.drew, trivial⟩ (fun hHeld => ?_)
    refine wpAnyH_take (i := 0) (v := ?vR0) rfl (by kernel_rfl) (by kernel_rfl) (by kernel_rfl) (fun _ _ _ h => h) (Or.inl ⟨by rfl, ?hR0⟩) (by assumption) ?rR0
    case hR0 => (intro w hSw; (try dsimp only at hSw); go_simp; try with_reducible rfl)
    change wpAnyH _ _ _ _ _ _ _ (Act.put _ (some 78) _) _
    simp only [Act.put, List.setIfInBounds_toArray, List.set_cons_zero, List.set_cons_succ]
    refine wpAnyH_take (i := 1) (v := ?vR1) rfl (by kernel_rfl) (by kernel_rfl) (by kernel_rfl) (fun _ _ _ h => h) (Or.inl ⟨by rfl, ?hR1⟩) (by assumption) ?rR1
    case hR1 => (intro w hSw; (try dsimp only at hSw); go_simp; try with_reducible rfl)
    change wpAnyH _ _ _ _ _ _ _ (Act.put _ (some 79) _) _
    simp only [Act.put, List.setIfInBounds_toArray, List.set_cons_zero, List.set_cons_succ]
    refine wpAnyH_take (i := 2) (v := ?vR2) rfl (by kernel_rfl) (by kernel_rfl) (by kernel_rfl) (fun _ _ _ h => h) (Or.inl ⟨by rfl, ?hR2⟩) (by assumption) ?rR2
    case hR2 => (intro w hSw; (try dsimp only at hSw); go_simp; try with_reducible rfl)
    change wpAnyH _ _ _ _ _ _ _ (Act.put _ (some 80) _) _
    simp only [Act.put, List.setIfInBounds_toArray, List.set_cons_zero, List.set_cons_succ]
    refine wpAnyH_take (i := 3) (v := ?vR3) rfl (by kernel_rfl) (by kernel_rfl) (by kernel_rfl) (fun _ _ _ h => h) (Or.inl ⟨by rfl, ?hR3⟩) (by assumption) ?rR3
    case hR3 => (intro w hSw; (try dsimp only at hSw); go_simp; try with_reducible rfl)
    change wpAnyH _ _ _ _ _ _ _ (Act.put _ (some 81) _) _
    simp only [Act.put, List.setIfInBounds_toArray, List.set_cons_zero, List.set_cons_succ]
    refine wpAnyH_take (i := 4) (v := ?vR4) rfl (by kernel_rfl) (by kernel_rfl) (by kernel_rfl) (fun _ _ _ h => h) (Or.inl ⟨by rfl, ?hR4⟩) (by assumption) ?rR4
    case hR4 => (intro w hSw; (try dsimp only at hSw); go_simp; try with_reducible rfl)
    change wpAnyH _ _ _ _ _ _ _ (Act.put _ (some 82) _) _
    simp only [Act.put, List.setIfInBounds_toArray, List.set_cons_zero, List.set_cons_succ]
    refine wpAnyH_take (i := 5) (v := ?vR5) rfl (by kernel_rfl) (by kernel_rfl) (by kernel_rfl) (fun _ _ _ h => h) (Or.inl ⟨by rfl, ?hR5⟩) (by assumption) ?rR5
    case hR5 => (intro w hSw; (try dsimp only at hSw); go_simp; try with_reducible rfl)
    change wpAnyH _ _ _ _ _ _ _ (Act.put _ (some 83) _) _
    simp only [Act.put, List.setIfInBounds_toArray, List.set_cons_zero, List.set_cons_succ]
    refine wpAnyH_take (i := 6) (v := ?vR6) rfl (by kernel_rfl) (by kernel_rfl) (by kernel_rfl) (fun _ _ _ h => h) (Or.inl ⟨by rfl, ?hR6⟩) (by assumption) ?rR6
    case hR6 => (intro w hSw; (try dsimp only at hSw); go_simp; try with_reducible rfl)
    change wpAnyH _ _ _ _ _ _ _ (Act.put _ (some 84) _) _
    simp only [Act.put, List.setIfInBounds_toArray, List.set_cons_zero, List.set_cons_succ]
    refine wpAnyH_take (i := 7) (v := ?vR7) rfl (by kernel_rfl) (by kernel_rfl) (by kernel_rfl) (fun _ _ _ h => h) (Or.inl ⟨by rfl, ?hR7⟩) (by assumption) ?rR7
    case hR7 => (intro w hSw; (try dsimp only at hSw); go_simp; try with_reducible rfl)
    change wpAnyH _ _ _ _ _ _ _ (Act.put _ (some 85) _) _
    simp only [Act.put, List.setIfInBounds_toArray, List.set_cons_zero, List.set_cons_succ]
    refine wpAnyH_take (i := 8) (v := ?vR8) rfl (by kernel_rfl) (by kernel_rfl) (by kernel_rfl) (fun _ _ _ h => h) (Or.inl ⟨by rfl, ?hR8⟩) (by assumption) ?rR8
    case hR8 => (intro w hSw; (try dsimp only at hSw); go_simp; try with_reducible rfl)
    change wpAnyH _ _ _ _ _ _ _ (Act.put _ (some 86) _) _
    simp only [Act.put, List.setIfInBounds_toArray, List.set_cons_zero, List.set_cons_succ]
    refine wpAnyH_ready (rs := [9]) (by kernel_rfl) (by simp) ?_
    refine AllReadyH.cons rfl (fun K hK => ?_) AllReadyH.nil
    go_simp
    refine (HC2.out _ hs2.drew).mono ?_
    rintro e w7 ⟨A7, d7, rfl, hy7, hb⟩
    go_wp2_with fail
    have hz7 := Bs.below (w := w6.drew) hz.drew hb
    have t3 := str_of hz7
    have t4 := str_of hy7.bs
    refine hK.out _ _ ?_ (fun hHeld => ?_)
    · exact ⟨t3, trivial⟩
    clear hK K
    try simp only [Act.put, List.setIfInBounds_toArray, List.set_cons_zero, List.set_cons_succ]
    have hHeld2 : (fun W => (convert 22 9 (.slice A7 Z.length d7)).run Try.prog W = .ok (.string ⟨Z.toArray⟩) W ∧ ((convert 22 9 (.slice A5 Z.length d5)).run Try.prog W = .ok (.string ⟨Z.toArray⟩) W ∧ True)) w7 := ⟨t4, t3, trivial⟩
    refine wpAnyH_mono (S2 := (fun W => (convert 22 9 (.slice A7 Z.length d7)).run Try.prog W = .ok (.string ⟨Z.toArray⟩) W ∧ ((convert 22 9 (.slice A5 Z.length d5)).run Try.prog W = .ok (.string ⟨Z.toArray⟩) W ∧ True))) (fun _ h => h.2) ?_
    refine wpAnyH_take (i := 10) (v := ?vR10) rfl (by kernel_rfl) (by kernel_rfl) (by kernel_rfl) (fun _ _ _ h => h) (Or.inl ⟨by rfl, ?hR10⟩) (by assumption) ?rR10
    case hR10 => (intro w hSw; (try dsimp only at hSw); go_simp; try with_reducible rfl)
    change wpAnyH _ _ _ _ _ _ _ (Act.put _ (some 88) _) _
    simp only [Act.put, List.setIfInBounds_toArray, List.set_cons_zero, List.set_cons_succ]
    refine wpAnyH_take (i := 11) (v := ?vR11) rfl (by kernel_rfl) (by kernel_rfl) (by kernel_rfl) (fun _ _ _ h => h) (Or.inl ⟨by rfl, ?hR11⟩) (by assumption) ?rR11
    case hR11 => (intro w hSw; (try dsimp only at hSw); go_simp; try with_reducible rfl)
    change wpAnyH _ _ _ _ _ _ _ (Act.put _ (some 89) _) _
    simp only [Act.put, List.setIfInBounds_toArray, List.set_cons_zero, List.set_cons_succ]
    refine wpAnyH_take (i := 12) (v := ?vR12) rfl (by kernel_rfl) (by kernel_rfl) (by kernel_rfl) (fun _ _ _ h => h) (Or.inl ⟨by rfl, ?hR12⟩) (by assumption) ?rR12
    case hR12 => (intro w hSw; (try dsimp only at hSw); go_simp; try with_reducible rfl)
    change wpAnyH _ _ _ _ _ _ _ (Act.put _ (some 90) _) _
    simp only [Act.put, List.setIfInBounds_toArray, List.set_cons_zero, List.set_cons_succ]
    refine wpAnyH_done (by kernel_rfl) ?_ _
    go_wp2_with fail
    go_meet
    exact ⟨by first | rfl | (simp; done), (Below.refl _ w6).drew.trans hb⟩
  case rest =>
    obtain ⟨rfl, hb⟩ := hcut
    replace hs := hs.below hb
    replace hs2 := hs2.below hb
    replace hz := hz.below hb
    replace hB := hB.trans (hb.mono hB.size)
    clear hb
    clear hz
    go_wp2_with fail
    refine (HS1.out _ hs).mono ?_
    rintro e w8 ⟨A8, m8, d8, rfl, ha, hb⟩
    replace hs := hs.below hb
    replace hs2 := hs2.below hb
    replace hB := hB.trans (hb.mono hB.size)
    clear hb
    go_wp2_with fail
    refine (HS2.out _ hs).mono ?_
    rintro e w9 ⟨A9, m9, d9, rfl, hc, hb⟩
    replace hs := hs.below hb
    replace hs2 := hs2.below hb
    replace ha := ha.below hb
    replace hB := hB.trans (hb.mono hB.size)
    clear hb
    go_wp2_with fail
    refine (HL.out _ _ _ _ _ _ _ ha hc).mono ?_
    rintro e w10 ⟨rfl, hb⟩
    replace hs := hs.below hb
    replace hs2 := hs2.below hb
    replace ha := ha.below hb
    replace hc := hc.below hb
    replace hB := hB.trans (hb.mono hB.size)
    clear hb
    go_wp2_with fail
    go_ret
    exact ⟨by first | rfl | (simp; done), hB⟩

theorem trainRight_all (A : Option Addr) (n c : Nat) (s : List UInt8) (k q : Int) (A2 : Option Addr) (n2 c2 : Nat) (s2 : List UInt8) (t : Int) (w : World) (hs : Bs w A n c s) (hs2 : Bs w A2 n2 c2 s2) :
    Calls Try.prog 3 #[.slice A n c, .int .i64 k, .int .i64 q, .slice A2 n2 c2, .int .i64 t] w fun e w' => e = .returned (.bool true) ∧ Below w.heap.size w w' := by
  have h1 := hs.le
  have h2 := hs.cap
  have h3 := hs2.le
  have h4 := hs2.cap
  unfold maxLen at h2 h4
  by_cases hb : 70000 < n
  · exact trainRight_big1 KC A n c s k q A2 n2 c2 s2 t w (by omega) hb
  · by_cases hb2 : 70000 < n2
    · exact trainRight_big2 KC A n c s k q A2 n2 c2 s2 t w (by omega) (by omega) hb2
    · cases hr : mayT k q n2 t
      · exact trainRight_no KC A n c s k q A2 n2 c2 s2 t w hs hs2 (by omega) (by omega) hr
      · exact trainRight_yes KC A n c s k q A2 n2 c2 s2 t w hs hs2 (by omega) (by omega) hr
end

end Go.Proofs.Ytkfinkmbdpdepaa

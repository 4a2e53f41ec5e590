/-
  CommonRight, walked under the contracts of package common's calls. (Written by gen_ComRightW.py.)
-/
import Derived.Test.YtfacfgpiodfndaaComK
import Derived.Test.YtfacfgpiodfndaaBase
namespace Go.Proofs.Ytfacfgpiodfndaa
open Go.RowKit
set_option linter.unusedVariables false
set_option linter.unusedSimpArgs false

section
variable (KC : CommonCalls)
include KC
set_option maxRecDepth 100000 in
set_option maxHeartbeats 1000000 in
theorem commonRight_big (p : Bool) (m t z : Int) (A : Option Addr) (n c : Nat) (s : List UInt8) (w : World) (hn : (n : Int) ≤ 9223372036854775807) (hb : 70000 < n) :
    Calls Try.prog 3 #[.agg #[.bool p, .int .i64 m, .int .i64 t, .int .i64 z], .slice A n c] w fun e w' => e = .returned (.bool true) ∧ Below w.heap.size w w' := by
  have k1 := Box.new w [.bool p, .int .i64 m, .int .i64 t, .int .i64 z] 23
  have hB := below1 w (.cells #[.bool p, .int .i64 m, .int .i64 t, .int .i64 z] 23)
  have g1 : (70000 : Int) < n := by omega
  go_enter Try.func3, Try.ntmps3
  go_wp2_with fail
  refine (awake_any KC _).mono ?_
  rintro e w2 ⟨rfl, hb2⟩
  go_wp2_with fail
  go_ret
  exact ⟨rfl, hB.trans (hb2.mono hB.size)⟩

set_option maxRecDepth 100000 in
set_option maxHeartbeats 2000000 in
theorem commonRight_no (p : Bool) (m t z : Int) (A : Option Addr) (n c : Nat) (s : List UInt8) (w : World) (hs : Bs w A n c s) (hok : CmOk ⟨p, m, t, z⟩) (hn : n ≤ 70000) (hr : rightCm ⟨p, m, t, z⟩ = false) :
    Calls Try.prog 3 #[.agg #[.bool p, .int .i64 m, .int .i64 t, .int .i64 z], .slice A n c] w fun e w' => e = .returned (.bool true) ∧ Below w.heap.size w w' := by
  have HR1 := Lib.hid (fun W => rcright_any ⟨p, m, t, z⟩ W)
  have HW1 := Lib.hid (fun W => KC.write ⟨p, m, t, z⟩ W hok)
  have HX1 := Lib.hid (fun W => KC.right ⟨p, m, t, z⟩ W hok)
  have HA := Lib.hid (fun W h => KC.read A n c s W h (by omega))
  have HB := Lib.hid (fun W h => rcread_any A n c s W h)
  have e1 : writeCB ⟨p, m, t, z⟩ = [] := by unfold writeCB; rw [hr]; rfl
  have e2 : writeCE ⟨p, m, t, z⟩ = 1 := by unfold writeCE; rw [hr]; rfl
  rw [e1, e2] at HW1
  rw [hr] at HR1 HX1
  clear e1 e2 hr hok
  obtain ⟨q, hq⟩ : ∃ q, readCm s = q := ⟨_, rfl⟩
  rw [hq] at HA HB
  clear hq
  generalize cmE s = er at *
  obtain ⟨qp, qm, qt, qz⟩ := q
  have heq : ∀ W, (binOp .eql 23 (.agg #[.bool qp, .int .i64 qm, .int .i64 qt, .int .i64 qz]) (.agg #[.bool qp, .int .i64 qm, .int .i64 qt, .int .i64 qz])).run Try.prog W = .ok (.bool true) W := fun W => by
    have := eqCm ⟨qp, qm, qt, qz⟩ ⟨qp, qm, qt, qz⟩ W
    rwa [decide_eq_true rfl] at this
  dsimp only [cmW] at HR1 HW1 HX1 HA HB
  have g1 : ¬ (70000 : Int) < n := by omega
  have k1 := Box.new w [.bool p, .int .i64 m, .int .i64 t, .int .i64 z] 23
  replace hs := hs.alloc (.cells #[.bool p, .int .i64 m, .int .i64 t, .int .i64 z] 23)
  have hB := below1 w (.cells #[.bool p, .int .i64 m, .int .i64 t, .int .i64 z] 23)
  go_enter Try.func3, Try.ntmps3
  have fk1 := k1.all4.1
  go_wp2_with fail
  refine (awake_any KC _).mono ?_
  rintro e w2 ⟨rfl, hb⟩
  clear fk1
  replace k1 := k1.call hb
  replace hs := hs.below hb
  replace hB := hB.trans (hb.mono hB.size)
  clear hb
  have fk1 := k1.all4.1
  go_wp2_with fail
  refine (HR1.out _).mono ?_
  rintro e w3 ⟨rfl, hb⟩
  clear fk1
  replace k1 := k1.call hb
  replace hs := hs.below hb
  replace hB := hB.trans (hb.mono hB.size)
  clear hb
  have fk1 := k1.all4.1
  go_wp2_with fail
  refine (HW1.out _).mono ?_
  rintro e w4 ⟨A4, c4, rfl, hx, hb⟩
  clear fk1
  replace k1 := k1.call hb
  replace hs := hs.below hb
  replace hB := hB.trans (hb.mono hB.size)
  clear hb
  clear hx
  have fk1 := k1.all4.1
  go_wp2_with fail
  refine (HA.out _ hs).mono ?_
  rintro e w6 ⟨rfl, hb⟩
  clear fk1
  replace k1 := k1.call hb
  replace hs := hs.below hb
  replace hB := hB.trans (hb.mono hB.size)
  clear hb
  have k6 := Box.new w6 [.bool qp, .int .i64 qm, .int .i64 qt, .int .i64 qz] 23
  replace k1 := k1.alloc (.cells #[.bool qp, .int .i64 qm, .int .i64 qt, .int .i64 qz] 23)
  replace hs := hs.alloc (.cells #[.bool qp, .int .i64 qm, .int .i64 qt, .int .i64 qz] 23)
  replace hB := hB.alloc hB.size (.cells #[.bool qp, .int .i64 qm, .int .i64 qt, .int .i64 qz] 23)
  have fk1 := k1.all4.1
  have fk6 := k6.all4.1
  go_wp2_with fail
  refine (HB.out _ hs).mono ?_
  rintro e w7 ⟨rfl, hb⟩
  clear fk1 fk6
  replace k1 := k1.call hb
  replace hs := hs.below hb
  replace k6 := k6.call hb
  replace hB := hB.trans (hb.mono hB.size)
  clear hb
  have k7 := Box.new w7 [.bool qp, .int .i64 qm, .int .i64 qt, .int .i64 qz] 23
  replace k1 := k1.alloc (.cells #[.bool qp, .int .i64 qm, .int .i64 qt, .int .i64 qz] 23)
  replace hs := hs.alloc (.cells #[.bool qp, .int .i64 qm, .int .i64 qt, .int .i64 qz] 23)
  replace k6 := k6.alloc (.cells #[.bool qp, .int .i64 qm, .int .i64 qt, .int .i64 qz] 23)
  replace hB := hB.alloc hB.size (.cells #[.bool qp, .int .i64 qm, .int .i64 qt, .int .i64 qz] 23)
  have fk1 := k1.all4.1
  have fk6 := k6.all4.1
  have fk7 := k7.all4.1
  go_wp2_with fail
  refine (HX1.out _).mono ?_
  rintro e w8 ⟨rfl, hb⟩
  clear fk1 fk6 fk7
  replace k1 := k1.call hb
  replace hs := hs.below hb
  replace k6 := k6.call hb
  replace k7 := k7.call hb
  replace hB := hB.trans (hb.mono hB.size)
  clear hb
  have fk1 := k1.all4.1
  have fk6 := k6.all4.1
  have fk7 := k7.all4.1
  go_wp2_with fail
  go_ret
  exact ⟨by first | rfl | (simp; done), hB⟩

set_option maxRecDepth 100000 in
set_option maxHeartbeats 2000000 in
theorem commonRight_yes (p : Bool) (m t z : Int) (A : Option Addr) (n c : Nat) (s : List UInt8) (w : World) (hs : Bs w A n c s) (hok : CmOk ⟨p, m, t, z⟩) (hn : n ≤ 70000) (hr : rightCm ⟨p, m, t, z⟩ = true) :
    Calls Try.prog 3 #[.agg #[.bool p, .int .i64 m, .int .i64 t, .int .i64 z], .slice A n c] w fun e w' => e = .returned (.bool true) ∧ Below w.heap.size w w' := by
  have HR1 := Lib.hid (fun W => rcright_any ⟨p, m, t, z⟩ W)
  have HW1 := Lib.hid (fun W => KC.write ⟨p, m, t, z⟩ W hok)
  have HX1 := Lib.hid (fun W => KC.right ⟨p, m, t, z⟩ W hok)
  have HA := Lib.hid (fun W h => KC.read A n c s W h (by omega))
  have HB := Lib.hid (fun W h => rcread_any A n c s W h)
  have HW2 := Lib.hid (fun W => rcwrite_any ⟨p, m, t, z⟩ W hr)
  have e1 : writeCB ⟨p, m, t, z⟩ = writeCm ⟨p, m, t, z⟩ := by unfold writeCB; rw [hr]; rfl
  have e2 : writeCE ⟨p, m, t, z⟩ = 0 := by unfold writeCE; rw [hr]; rfl
  rw [e1, e2] at HW1
  have hxl : (writeCm ⟨p, m, t, z⟩).length = 4 := rfl
  unfold GivesCB at HW1
  rw [hxl] at HW1
  rw [hr] at HR1 HX1
  clear e1 e2 hr hok
  generalize writeCm ⟨p, m, t, z⟩ = X at *
  obtain ⟨q, hq⟩ : ∃ q, readCm s = q := ⟨_, rfl⟩
  rw [hq] at HA HB
  clear hq
  generalize cmE s = er at *
  obtain ⟨qp, qm, qt, qz⟩ := q
  have heq : ∀ W, (binOp .eql 23 (.agg #[.bool qp, .int .i64 qm, .int .i64 qt, .int .i64 qz]) (.agg #[.bool qp, .int .i64 qm, .int .i64 qt, .int .i64 qz])).run Try.prog W = .ok (.bool true) W := fun W => by
    have := eqCm ⟨qp, qm, qt, qz⟩ ⟨qp, qm, qt, qz⟩ W
    rwa [decide_eq_true rfl] at this
  dsimp only [cmW] at HR1 HW1 HX1 HA HB HW2
  have g1 : ¬ (70000 : Int) < n := by omega
  have k1 := Box.new w [.bool p, .int .i64 m, .int .i64 t, .int .i64 z] 23
  replace hs := hs.alloc (.cells #[.bool p, .int .i64 m, .int .i64 t, .int .i64 z] 23)
  have hB := below1 w (.cells #[.bool p, .int .i64 m, .int .i64 t, .int .i64 z] 23)
  go_enter Try.func3, Try.ntmps3
  have fk1 := k1.all4.1
  go_wp2_with fail
  refine (awake_any KC _).mono ?_
  rintro e w2 ⟨rfl, hb⟩
  clear fk1
  replace k1 := k1.call hb
  replace hs := hs.below hb
  replace hB := hB.trans (hb.mono hB.size)
  clear hb
  have fk1 := k1.all4.1
  go_wp2_with fail
  refine (HR1.out _).mono ?_
  rintro e w3 ⟨rfl, hb⟩
  clear fk1
  replace k1 := k1.call hb
  replace hs := hs.below hb
  replace hB := hB.trans (hb.mono hB.size)
  clear hb
  have fk1 := k1.all4.1
  go_wp2_with fail
  refine (HW1.out _).mono ?_
  rintro e w4 ⟨A4, c4, rfl, hx, hb⟩
  clear fk1
  replace k1 := k1.call hb
  replace hs := hs.below hb
  replace hB := hB.trans (hb.mono hB.size)
  clear hb
  go_upto_region 8 with fail
  go_cut [34] (fun q W => q = .bool false ∧ Below w4.heap.size w4 W)
  case first =>
    refine wp_region_held_drew (S := (fun W => (convert 24 9 (.slice A4 4 c4)).run Try.prog W = .ok (.string ⟨X.toArray⟩) W ∧ W.cell? ⟨w.heap.size, 0, none⟩ = some (.bool p) ∧ W.cell? ⟨w.heap.size, 1, none⟩ = some (.int .i64 m) ∧ W.cell? ⟨w.heap.size, 2, none⟩ = some (.int .i64 t) ∧ W.cell? ⟨w.heap.size, 3, none⟩ = some (.int .i64 z))) (by kernel_rfl) ⟨str_of hx.drew, k1.all4.1⟩ (fun hHeld => ?_)
    refine wpAnyH_take (i := 0) (v := ?vR0) rfl (by kernel_rfl) (by kernel_rfl) (by kernel_rfl) (fun _ _ _ h => h) (Or.inl ⟨by rfl, ?hR0⟩) (by assumption) ?rR0
    case hR0 => (intro w hSw; (try dsimp only at hSw); go_simp; try with_reducible rfl)
    change wpAnyH _ _ _ _ _ _ _ (Act.put _ (some 25) _) _
    simp only [Act.put, List.setIfInBounds_toArray, List.set_cons_zero, List.set_cons_succ]
    refine wpAnyH_take (i := 1) (v := ?vR1) rfl (by kernel_rfl) (by kernel_rfl) (by kernel_rfl) (fun _ _ _ h => h) (Or.inl ⟨by rfl, ?hR1⟩) (by assumption) ?rR1
    case hR1 => (intro w hSw; (try dsimp only at hSw); go_simp; try with_reducible rfl)
    change wpAnyH _ _ _ _ _ _ _ (Act.put _ (some 26) _) _
    simp only [Act.put, List.setIfInBounds_toArray, List.set_cons_zero, List.set_cons_succ]
    refine wpAnyH_take (i := 2) (v := ?vR2) rfl (by kernel_rfl) (by kernel_rfl) (by kernel_rfl) (fun _ _ _ h => h) (Or.inl ⟨by rfl, ?hR2⟩) (by assumption) ?rR2
    case hR2 => (intro w hSw; (try dsimp only at hSw); go_simp; try with_reducible rfl)
    change wpAnyH _ _ _ _ _ _ _ (Act.put _ (some 27) _) _
    simp only [Act.put, List.setIfInBounds_toArray, List.set_cons_zero, List.set_cons_succ]
    refine wpAnyH_take (i := 3) (v := ?vR3) rfl (by kernel_rfl) (by kernel_rfl) (by kernel_rfl) (fun _ _ _ h => h) (Or.inl ⟨by rfl, ?hR3⟩) (by assumption) ?rR3
    case hR3 => (intro w hSw; (try dsimp only at hSw); go_simp; try with_reducible rfl)
    change wpAnyH _ _ _ _ _ _ _ (Act.put _ (some 28) _) _
    simp only [Act.put, List.setIfInBounds_toArray, List.set_cons_zero, List.set_cons_succ]
    refine wpAnyH_take (i := 4) (v := ?vR4) rfl (by kernel_rfl) (by kernel_rfl) (by kernel_rfl) (fun _ _ _ h => h) (Or.inl ⟨by rfl, ?hR4⟩) (by assumption) ?rR4
    case hR4 => (intro w hSw; (try dsimp only at hSw); go_simp; try with_reducible rfl)
    change wpAnyH _ _ _ _ _ _ _ (Act.put _ (some 29) _) _
    simp only [Act.put, List.setIfInBounds_toArray, List.set_cons_zero, List.set_cons_succ]
    refine wpAnyH_take (i := 5) (v := ?vR5) rfl (by kernel_rfl) (by kernel_rfl) (by kernel_rfl) (fun _ _ _ h => h) (Or.inl ⟨by rfl, ?hR5⟩) (by assumption) ?rR5
    case hR5 => (intro w hSw; (try dsimp only at hSw); go_simp; try with_reducible rfl)
    change wpAnyH _ _ _ _ _ _ _ (Act.put _ (some 30) _) _
    simp only [Act.put, List.setIfInBounds_toArray, List.set_cons_zero, List.set_cons_succ]
    refine wpAnyH_ready (rs := [6]) (by kernel_rfl) (by simp) ?_
    refine AllReadyH.cons rfl (fun K hK => ?_) AllReadyH.nil
    go_simp
    refine (HW2.out _).mono ?_
    rintro e w5 ⟨A5, c5, rfl, hy, hb⟩
    go_wp2_with fail
    have hx5 := Bs.below (w := w4.drew) hx.drew hb
    have k5 := Box.call (w := w4.drew) k1 hb
    have t3 := str_of hx5
    have t4 := str_of hy
    refine hK.out _ _ ?_ (fun hHeld => ?_)
    · exact ⟨t3, k5.all4.1⟩
    clear hK K
    try simp only [Act.put, List.setIfInBounds_toArray, List.set_cons_zero, List.set_cons_succ]
    have hHeld2 : (fun W => (convert 24 9 (.slice A5 4 c5)).run Try.prog W = .ok (.string ⟨X.toArray⟩) W ∧ ((convert 24 9 (.slice A4 4 c4)).run Try.prog W = .ok (.string ⟨X.toArray⟩) W ∧ W.cell? ⟨w.heap.size, 0, none⟩ = some (.bool p) ∧ W.cell? ⟨w.heap.size, 1, none⟩ = some (.int .i64 m) ∧ W.cell? ⟨w.heap.size, 2, none⟩ = some (.int .i64 t) ∧ W.cell? ⟨w.heap.size, 3, none⟩ = some (.int .i64 z))) w5 := ⟨t4, t3, k5.all4.1⟩
    refine wpAnyH_mono (S2 := (fun W => (convert 24 9 (.slice A5 4 c5)).run Try.prog W = .ok (.string ⟨X.toArray⟩) W ∧ ((convert 24 9 (.slice A4 4 c4)).run Try.prog W = .ok (.string ⟨X.toArray⟩) W ∧ W.cell? ⟨w.heap.size, 0, none⟩ = some (.bool p) ∧ W.cell? ⟨w.heap.size, 1, none⟩ = some (.int .i64 m) ∧ W.cell? ⟨w.heap.size, 2, none⟩ = some (.int .i64 t) ∧ W.cell? ⟨w.heap.size, 3, none⟩ = some (.int .i64 z)))) (fun _ h => h.2) ?_
    refine wpAnyH_take (i := 7) (v := ?vR7) rfl (by kernel_rfl) (by kernel_rfl) (by kernel_rfl) (fun _ _ _ h => h) (Or.inl ⟨by rfl, ?hR7⟩) (by assumption) ?rR7
    case hR7 => (intro w hSw; (try dsimp only at hSw); go_simp; try with_reducible rfl)
    change wpAnyH _ _ _ _ _ _ _ (Act.put _ (some 32) _) _
    simp only [Act.put, List.setIfInBounds_toArray, List.set_cons_zero, List.set_cons_succ]
    refine wpAnyH_take (i := 8) (v := ?vR8) rfl (by kernel_rfl) (by kernel_rfl) (by kernel_rfl) (fun _ _ _ h => h) (Or.inl ⟨by rfl, ?hR8⟩) (by assumption) ?rR8
    case hR8 => (intro w hSw; (try dsimp only at hSw); go_simp; try with_reducible rfl)
    change wpAnyH _ _ _ _ _ _ _ (Act.put _ (some 33) _) _
    simp only [Act.put, List.setIfInBounds_toArray, List.set_cons_zero, List.set_cons_succ]
    refine wpAnyH_take (i := 9) (v := ?vR9) rfl (by kernel_rfl) (by kernel_rfl) (by kernel_rfl) (fun _ _ _ h => h) (Or.inl ⟨by rfl, ?hR9⟩) (by assumption) ?rR9
    case hR9 => (intro w hSw; (try dsimp only at hSw); go_simp; try with_reducible rfl)
    change wpAnyH _ _ _ _ _ _ _ (Act.put _ (some 34) _) _
    simp only [Act.put, List.setIfInBounds_toArray, List.set_cons_zero, List.set_cons_succ]
    refine wpAnyH_done (by kernel_rfl) ?_ _
    go_wp2_with fail
    go_meet
    exact ⟨by first | rfl | (simp; done), (Below.refl _ w4).drew.trans hb⟩
  case rest =>
    obtain ⟨rfl, hb⟩ := hcut
    replace k1 := k1.call hb
    replace hs := hs.below hb
    replace hx := hx.below hb
    replace hB := hB.trans (hb.mono hB.size)
    clear hb
    clear hx
    have fk1 := k1.all4.1
    go_wp2_with fail
    refine (HA.out _ hs).mono ?_
    rintro e w6 ⟨rfl, hb⟩
    clear fk1
    replace k1 := k1.call hb
    replace hs := hs.below hb
    replace hB := hB.trans (hb.mono hB.size)
    clear hb
    have k6 := Box.new w6 [.bool qp, .int .i64 qm, .int .i64 qt, .int .i64 qz] 23
    replace k1 := k1.alloc (.cells #[.bool qp, .int .i64 qm, .int .i64 qt, .int .i64 qz] 23)
    replace hs := hs.alloc (.cells #[.bool qp, .int .i64 qm, .int .i64 qt, .int .i64 qz] 23)
    replace hB := hB.alloc hB.size (.cells #[.bool qp, .int .i64 qm, .int .i64 qt, .int .i64 qz] 23)
    have fk1 := k1.all4.1
    have fk6 := k6.all4.1
    go_wp2_with fail
    refine (HB.out _ hs).mono ?_
    rintro e w7 ⟨rfl, hb⟩
    clear fk1 fk6
    replace k1 := k1.call hb
    replace hs := hs.below hb
    replace k6 := k6.call hb
    replace hB := hB.trans (hb.mono hB.size)
    clear hb
    have k7 := Box.new w7 [.bool qp, .int .i64 qm, .int .i64 qt, .int .i64 qz] 23
    replace k1 := k1.alloc (.cells #[.bool qp, .int .i64 qm, .int .i64 qt, .int .i64 qz] 23)
    replace hs := hs.alloc (.cells #[.bool qp, .int .i64 qm, .int .i64 qt, .int .i64 qz] 23)
    replace k6 := k6.alloc (.cells #[.bool qp, .int .i64 qm, .int .i64 qt, .int .i64 qz] 23)
    replace hB := hB.alloc hB.size (.cells #[.bool qp, .int .i64 qm, .int .i64 qt, .int .i64 qz] 23)
    have fk1 := k1.all4.1
    have fk6 := k6.all4.1
    have fk7 := k7.all4.1
    go_wp2_with fail
    refine (HX1.out _).mono ?_
    rintro e w8 ⟨rfl, hb⟩
    clear fk1 fk6 fk7
    replace k1 := k1.call hb
    replace hs := hs.below hb
    replace k6 := k6.call hb
    replace k7 := k7.call hb
    replace hB := hB.trans (hb.mono hB.size)
    clear hb
    have fk1 := k1.all4.1
    have fk6 := k6.all4.1
    have fk7 := k7.all4.1
    go_wp2_with fail
    go_ret
    exact ⟨by first | rfl | (simp; done), hB⟩

theorem commonRight_all (p : Bool) (m t z : Int) (A : Option Addr) (n c : Nat) (s : List UInt8) (w : World) (hs : Bs w A n c s) (hm : (Lit.int .i64 m).wf = true) (ht : (Lit.int .i64 t).wf = true) (hz : (Lit.int .i64 z).wf = true) :
    Calls Try.prog 3 #[.agg #[.bool p, .int .i64 m, .int .i64 t, .int .i64 z], .slice A n c] w fun e w' => e = .returned (.bool true) ∧ Below w.heap.size w w' := by
  by_cases hb : 70000 < n
  · have := hs.le
    have := hs.cap
    unfold maxLen at this
    exact commonRight_big KC p m t z A n c s w (by omega) hb
  · have hok : CmOk ⟨p, m, t, z⟩ := ⟨hm, ht, hz⟩
    cases hr : rightCm ⟨p, m, t, z⟩
    · exact commonRight_no KC p m t z A n c s w hs hok (by omega) hr
    · exact commonRight_yes KC p m t z A n c s w hs hok (by omega) hr
end

end Go.Proofs.Ytfacfgpiodfndaa

/-
  CommonBack, walked under the contracts of package common's calls. (Written by gen_ComBackW.py.)
-/
import Derived.Test.YtfacfgpiodfndaaComK
import Derived.Test.YtfacfgpiodfndaaBase
import Derived.Test.YtfacfgpiodfndaaAppZ
import Derived.Test.YtfacfgpiodfndaaNat
namespace Go.Proofs.Ytfacfgpiodfndaa
open Go.RowKit
set_option linter.unusedVariables false
set_option linter.unusedSimpArgs false

section
variable (KC : CommonCalls)
include KC
set_option maxRecDepth 100000 in
set_option maxHeartbeats 1000000 in
theorem commonBack_long (cp : Bool) (cm ct cz : Int) (dp : Bool) (dm dt dz : Int) (A : Option Addr) (n c : Nat) (s : List UInt8) (le : Nat) (w : World) (hn : (n : Int) ≤ 9223372036854775807) (hb : 70000 < n) :
    Calls Try.prog 4 #[.agg #[.bool cp, .int .i64 cm, .int .i64 ct, .int .i64 cz], .agg #[.bool dp, .int .i64 dm, .int .i64 dt, .int .i64 dz], .slice A n c, .int .u16 (le : Int)] w fun e w' => e = .returned (.bool true) ∧ Below w.heap.size w w' := by
  have hB := below2 w (.cells #[.bool cp, .int .i64 cm, .int .i64 ct, .int .i64 cz] 23) (.cells #[.bool dp, .int .i64 dm, .int .i64 dt, .int .i64 dz] 23)
  have g1 : (70000 : Int) < n := by omega
  go_enter Try.func4, Try.ntmps4
  go_wp2_with fail
  refine (awake_any KC _).mono ?_
  rintro e w2 ⟨rfl, hb2⟩
  go_wp2_with fail
  go_ret
  exact ⟨rfl, hB.trans (hb2.mono hB.size)⟩

set_option maxRecDepth 100000 in
set_option maxHeartbeats 2000000 in
theorem commonBack_no (cp : Bool) (cm ct cz : Int) (dp : Bool) (dm dt dz : Int) (A : Option Addr) (n c : Nat) (s : List UInt8) (le : Nat) (w : World) (hs : Bs w A n c s) (hok : CmOk ⟨cp, cm, ct, cz⟩) (hok2 : CmOk ⟨dp, dm, dt, dz⟩) (hn : n ≤ 70000) (hle : le < 65536) (hr : rightCm ⟨cp, cm, ct, cz⟩ = false) :
    Calls Try.prog 4 #[.agg #[.bool cp, .int .i64 cm, .int .i64 ct, .int .i64 cz], .agg #[.bool dp, .int .i64 dm, .int .i64 dt, .int .i64 dz], .slice A n c, .int .u16 (le : Int)] w fun e w' => e = .returned (.bool true) ∧ Below w.heap.size w w' := by
  have HW1 := Lib.hid (fun W => KC.write ⟨cp, cm, ct, cz⟩ W hok)
  have HW2 := Lib.hid (fun W => KC.write ⟨dp, dm, dt, dz⟩ W hok2)
  have HX1 := Lib.hid (fun W => KC.right ⟨cp, cm, ct, cz⟩ W hok)
  have HA := Lib.hid (fun W h => KC.read A n c s W h (by omega))
  have HRG := Lib.hid (fun W A n d s h hn => KC.read A n d s W h hn)
  have hsr : Hid (cmE s = 0 → rightCm (readCm s) = true ∧ (readCm s).size ≤ s.length ∧ writeCm (readCm s) = s.take 4) := Lib.hid (fun h => cm_right h)
  have hne : Hid (¬ cmE s = 0 → readCm s = zeroCm) := Lib.hid (fun h => by unfold readCm; rw [if_neg h])
  have hln : Hid (cmE s = 0 → 4 ≤ n ∧ s.length = n) := Lib.hid (fun h => ⟨by have := (cmE_zero h).1; rw [hs.len] at this; exact this, hs.len⟩)
  generalize readCm s = r at *
  generalize cmE s = er at *
  obtain ⟨rp, rm, rt, rz⟩ := r
  dsimp only [cmW] at HW1 HW2 HX1 HA
  have g1 : ¬ (70000 : Int) < n := by omega
  rw [hr] at HX1
  have e1 : writeCB ⟨cp, cm, ct, cz⟩ = [] := by unfold writeCB; rw [hr]; rfl
  have e2 : writeCE ⟨cp, cm, ct, cz⟩ = 1 := by unfold writeCE; rw [hr]; rfl
  rw [e1, e2] at HW1
  clear e1 e2 hok hok2 hr
  have k1 := Box.new w [.bool cp, .int .i64 cm, .int .i64 ct, .int .i64 cz] 23
  replace hs := hs.alloc (.cells #[.bool cp, .int .i64 cm, .int .i64 ct, .int .i64 cz] 23)
  have hB := below1 w (.cells #[.bool cp, .int .i64 cm, .int .i64 ct, .int .i64 cz] 23)
  have k2 := Box.new (w.alloc (.cells #[.bool cp, .int .i64 cm, .int .i64 ct, .int .i64 cz] 23)) [.bool dp, .int .i64 dm, .int .i64 dt, .int .i64 dz] 23
  rw [World.size_alloc] at k2
  replace k1 := k1.alloc (.cells #[.bool dp, .int .i64 dm, .int .i64 dt, .int .i64 dz] 23)
  replace hs := hs.alloc (.cells #[.bool dp, .int .i64 dm, .int .i64 dt, .int .i64 dz] 23)
  replace hB := hB.alloc hB.size (.cells #[.bool dp, .int .i64 dm, .int .i64 dt, .int .i64 dz] 23)
  go_enter Try.func4, Try.ntmps4
  have fk1 := k1.all4.1
  have fk2 := k2.all4.1
  go_wp2_with fail
  refine (awake_any KC _).mono ?_
  rintro e w2 ⟨rfl, hb⟩
  clear fk1 fk2
  replace k1 := k1.call hb
  replace k2 := k2.call hb
  replace hs := hs.below hb
  replace hB := hB.trans (hb.mono hB.size)
  clear hb
  have fk1 := k1.all4.1
  have fk2 := k2.all4.1
  go_wp2_with fail
  refine (HW1.out _).mono ?_
  rintro e w3 ⟨A3, c3, rfl, hx, hb⟩
  clear fk1 fk2
  replace k1 := k1.call hb
  replace k2 := k2.call hb
  replace hs := hs.below hb
  replace hB := hB.trans (hb.mono hB.size)
  clear hb
  have fk1 := k1.all4.1
  have fk2 := k2.all4.1
  go_wp2_with fail
  refine (HW2.out _).mono ?_
  rintro e w4 ⟨A4, c4, rfl, hy, hb⟩
  clear fk1 fk2
  replace k1 := k1.call hb
  replace k2 := k2.call hb
  replace hs := hs.below hb
  replace hx := hx.below hb
  replace hB := hB.trans (hb.mono hB.size)
  clear hb
  go_upto_region 7 with fail
  go_cut [54] (fun q W => q = .bool false ∧ Below w4.heap.size w4 W)
  case first =>
    refine wp_region_held_drew (S := fun _ => True) (by kernel_rfl) trivial (fun hHeld => ?_)
    refine wpAnyH_take (i := 0) (v := ?vH0) rfl (by kernel_rfl) (by kernel_rfl) (by kernel_rfl) (fun _ _ _ h => h) (Or.inl ⟨by rfl, ?hH0⟩) (by assumption) ?rH0
    case hH0 => (intro w hSw; (try dsimp only at hSw); go_simp; try with_reducible rfl)
    change wpAnyH _ _ _ _ _ _ _ (Act.put _ (some 38) _) _
    simp only [Act.put, List.setIfInBounds_toArray, List.set_cons_zero, List.set_cons_succ]
    refine wpAnyH_take (i := 1) (v := ?vH1) rfl (by kernel_rfl) (by kernel_rfl) (by kernel_rfl) (fun _ _ _ h => h) (Or.inl ⟨by rfl, ?hH1⟩) (by assumption) ?rH1
    case hH1 => (intro w hSw; (try dsimp only at hSw); go_simp; try with_reducible rfl)
    change wpAnyH _ _ _ _ _ _ _ (Act.put _ (some 39) _) _
    simp only [Act.put, List.setIfInBounds_toArray, List.set_cons_zero, List.set_cons_succ]
    refine wpAnyH_take (i := 2) (v := ?vH2) rfl (by kernel_rfl) (by kernel_rfl) (by kernel_rfl) (fun _ _ _ h => h) (Or.inl ⟨by rfl, ?hH2⟩) (by assumption) ?rH2
    case hH2 => (intro w hSw; (try dsimp only at hSw); go_simp; try with_reducible rfl)
    change wpAnyH _ _ _ _ _ _ _ (Act.put _ (some 40) _) _
    simp only [Act.put, List.setIfInBounds_toArray, List.set_cons_zero, List.set_cons_succ]
    refine wpAnyH_take (i := 3) (v := undef) rfl (by kernel_rfl) (by kernel_rfl) (by kernel_rfl) (fun _ _ _ h => h) (Or.inr ⟨by rfl, rfl⟩) (by assumption) ?_
    change wpAnyH _ _ _ _ _ _ _ (Act.put _ (some 41) _) _
    simp only [Act.put, List.setIfInBounds_toArray, List.set_cons_zero, List.set_cons_succ]
    refine wpAnyH_take (i := 4) (v := undef) rfl (by kernel_rfl) (by kernel_rfl) (by kernel_rfl) (fun _ _ _ h => h) (Or.inr ⟨by rfl, rfl⟩) (by assumption) ?_
    change wpAnyH _ _ _ _ _ _ _ (Act.put _ (some 42) _) _
    simp only [Act.put, List.setIfInBounds_toArray, List.set_cons_zero, List.set_cons_succ]
    refine wpAnyH_take (i := 5) (v := ?vH5) rfl (by kernel_rfl) (by kernel_rfl) (by kernel_rfl) (fun _ _ _ h => h) (Or.inl ⟨by rfl, ?hH5⟩) (by assumption) ?rH5
    case hH5 => (intro w hSw; (try dsimp only at hSw); go_simp; try with_reducible rfl)
    change wpAnyH _ _ _ _ _ _ _ (Act.put _ (some 43) _) _
    simp only [Act.put, List.setIfInBounds_toArray, List.set_cons_zero, List.set_cons_succ]
    refine wpAnyH_take (i := 6) (v := ?vH6) rfl (by kernel_rfl) (by kernel_rfl) (by kernel_rfl) (fun _ _ _ h => h) (Or.inl ⟨by rfl, ?hH6⟩) (by assumption) ?rH6
    case hH6 => (intro w hSw; (try dsimp only at hSw); go_simp; try with_reducible rfl)
    change wpAnyH _ _ _ _ _ _ _ (Act.put _ (some 44) _) _
    simp only [Act.put, List.setIfInBounds_toArray, List.set_cons_zero, List.set_cons_succ]
    refine wpAnyH_take (i := 7) (v := undef) rfl (by kernel_rfl) (by kernel_rfl) (by kernel_rfl) (fun _ _ _ h => h) (Or.inr ⟨by rfl, rfl⟩) (by assumption) ?_
    change wpAnyH _ _ _ _ _ _ _ (Act.put _ (some 45) _) _
    simp only [Act.put, List.setIfInBounds_toArray, List.set_cons_zero, List.set_cons_succ]
    refine wpAnyH_take (i := 8) (v := undef) rfl (by kernel_rfl) (by kernel_rfl) (by kernel_rfl) (fun _ _ _ h => h) (Or.inr ⟨by rfl, rfl⟩) (by assumption) ?_
    change wpAnyH _ _ _ _ _ _ _ (Act.put _ (some 46) _) _
    simp only [Act.put, List.setIfInBounds_toArray, List.set_cons_zero, List.set_cons_succ]
    refine wpAnyH_take (i := 9) (v := undef) rfl (by kernel_rfl) (by kernel_rfl) (by kernel_rfl) (fun _ _ _ h => h) (Or.inr ⟨by rfl, rfl⟩) (by assumption) ?_
    change wpAnyH _ _ _ _ _ _ _ (Act.put _ (some 47) _) _
    simp only [Act.put, List.setIfInBounds_toArray, List.set_cons_zero, List.set_cons_succ]
    refine wpAnyH_take (i := 10) (v := undef) rfl (by kernel_rfl) (by kernel_rfl) (by kernel_rfl) (fun _ _ _ h => h) (Or.inr ⟨by rfl, rfl⟩) (by assumption) ?_
    change wpAnyH _ _ _ _ _ _ _ (Act.put _ (some 48) _) _
    simp only [Act.put, List.setIfInBounds_toArray, List.set_cons_zero, List.set_cons_succ]
    refine wpAnyH_take (i := 11) (v := undef) rfl (by kernel_rfl) (by kernel_rfl) (by kernel_rfl) (fun _ _ _ h => h) (Or.inr ⟨by rfl, rfl⟩) (by assumption) ?_
    change wpAnyH _ _ _ _ _ _ _ (Act.put _ (some 49) _) _
    simp only [Act.put, List.setIfInBounds_toArray, List.set_cons_zero, List.set_cons_succ]
    refine wpAnyH_take (i := 12) (v := undef) rfl (by kernel_rfl) (by kernel_rfl) (by kernel_rfl) (fun _ _ _ h => h) (Or.inr ⟨by rfl, rfl⟩) (by assumption) ?_
    change wpAnyH _ _ _ _ _ _ _ (Act.put _ (some 50) _) _
    simp only [Act.put, List.setIfInBounds_toArray, List.set_cons_zero, List.set_cons_succ]
    refine wpAnyH_take (i := 13) (v := undef) rfl (by kernel_rfl) (by kernel_rfl) (by kernel_rfl) (fun _ _ _ h => h) (Or.inr ⟨by rfl, rfl⟩) (by assumption) ?_
    change wpAnyH _ _ _ _ _ _ _ (Act.put _ (some 51) _) _
    simp only [Act.put, List.setIfInBounds_toArray, List.set_cons_zero, List.set_cons_succ]
    refine wpAnyH_take (i := 14) (v := undef) rfl (by kernel_rfl) (by kernel_rfl) (by kernel_rfl) (fun _ _ _ h => h) (Or.inr ⟨by rfl, rfl⟩) (by assumption) ?_
    change wpAnyH _ _ _ _ _ _ _ (Act.put _ (some 52) _) _
    simp only [Act.put, List.setIfInBounds_toArray, List.set_cons_zero, List.set_cons_succ]
    refine wpAnyH_take (i := 15) (v := undef) rfl (by kernel_rfl) (by kernel_rfl) (by kernel_rfl) (fun _ _ _ h => h) (Or.inr ⟨by rfl, rfl⟩) (by assumption) ?_
    change wpAnyH _ _ _ _ _ _ _ (Act.put _ (some 53) _) _
    simp only [Act.put, List.setIfInBounds_toArray, List.set_cons_zero, List.set_cons_succ]
    refine wpAnyH_take (i := 16) (v := ?vH16) rfl (by kernel_rfl) (by kernel_rfl) (by kernel_rfl) (fun _ _ _ h => h) (Or.inl ⟨by rfl, ?hH16⟩) (by assumption) ?rH16
    case hH16 => (intro w hSw; (try dsimp only at hSw); go_simp; try with_reducible rfl)
    change wpAnyH _ _ _ _ _ _ _ (Act.put _ (some 54) _) _
    simp only [Act.put, List.setIfInBounds_toArray, List.set_cons_zero, List.set_cons_succ]
    refine wpAnyH_done (by kernel_rfl) ?_ _
    go_wp2_with fail
    go_meet
    exact ⟨by first | rfl | (simp; done), (Below.refl _ w4).drew⟩
  case rest =>
    obtain ⟨rfl, hb⟩ := hcut
    replace k1 := k1.call hb
    replace k2 := k2.call hb
    replace hs := hs.below hb
    replace hx := hx.below hb
    replace hy := hy.below hb
    replace hB := hB.trans (hb.mono hB.size)
    clear hb
    clear hy k2
    clear hx
    have fk1 := k1.all4.1
    go_wp2_with fail
    refine (HX1.out _).mono ?_
    rintro e w5 ⟨rfl, hb⟩
    clear fk1
    replace k1 := k1.call hb
    replace hs := hs.below hb
    replace hB := hB.trans (hb.mono hB.size)
    clear hb
    clear k1
    go_wp2_with fail
    refine (HA.out _ hs).mono ?_
    rintro e w20 ⟨rfl, hb⟩
    replace hs := hs.below hb
    replace hB := hB.trans (hb.mono hB.size)
    clear hb
    have k20 := Box.new w20 [.bool rp, .int .i64 rm, .int .i64 rt, .int .i64 rz] 23
    replace hs := hs.alloc (.cells #[.bool rp, .int .i64 rm, .int .i64 rt, .int .i64 rz] 23)
    replace hB := hB.alloc hB.size (.cells #[.bool rp, .int .i64 rm, .int .i64 rt, .int .i64 rz] 23)
    have fk20 := k20.all4.1
    by_cases he : er = 0
    · subst he
      obtain ⟨hrr, hrz, hrw⟩ := hsr.out rfl
      obtain ⟨hn4, hn4'⟩ := hln.out rfl
      obtain ⟨b1, b2, b3, b4, b5, b6, b7⟩ := (rightCm_iff _).1 hrr
      simp only at b1 b2 b3 b4 b5 b6 b7 hrz
      have hokr : CmOk ⟨rp, rm, rt, rz⟩ := ⟨wf_of (by simp only; omega) (by simp only; omega), wf_of (by simp only; omega) (by simp only; omega), wf_of (by simp only; omega) (by simp only; omega)⟩
      have HWr := Lib.hid (fun W => KC.write ⟨rp, rm, rt, rz⟩ W hokr)
      have HXr := Lib.hid (fun W => KC.right ⟨rp, rm, rt, rz⟩ W hokr)
      have e1 : writeCB ⟨rp, rm, rt, rz⟩ = s.take 4 := by unfold writeCB; rw [hrr]; exact hrw
      have e2 : writeCE ⟨rp, rm, rt, rz⟩ = 0 := by unfold writeCE; rw [hrr]; rfl
      have hZl : (s.take 4).length = 4 := by rw [List.length_take]; omega
      rw [e1, e2] at HWr
      unfold GivesCB at HWr
      rw [hZl] at HWr
      rw [hrr] at HXr
      have hz7 : (rz : Int) ≤ n := by omega
      dsimp only [cmW] at HWr HXr
      clear hrr e1 e2 hrw hokr hsr hne hln b1 b2 b3 b4 b5 b6 b7 hZl
      go_wp2_with fail
      refine (HWr.out _).mono ?_
      rintro e w21 ⟨A21, c21, rfl, hz, hb⟩
      clear fk20
      replace hs := hs.below hb
      replace k20 := k20.call hb
      replace hB := hB.trans (hb.mono hB.size)
      clear hb
      obtain ⟨A22, c22, hsl, hcut⟩ := hs.slice_r Try.underlying24 byte_size (r := 4) (by omega)
      have hsl2 := fun W => hsl W 4 rfl
      clear hsl
      generalize s.take 4 = Z at *
      have fk20 := k20.all4.1
      go_upto_region 22 with fail
      refine wp_region_held_drew (S := (fun W => (convert 24 9 (.slice A21 4 c21)).run Try.prog W = .ok (.string ⟨Z.toArray⟩) W ∧ (convert 24 9 (.slice A22 4 c22)).run Try.prog W = .ok (.string ⟨Z.toArray⟩) W ∧ W.cell? ⟨w20.heap.size, 0, none⟩ = some (.bool rp) ∧ W.cell? ⟨w20.heap.size, 1, none⟩ = some (.int .i64 rm) ∧ W.cell? ⟨w20.heap.size, 2, none⟩ = some (.int .i64 rt) ∧ W.cell? ⟨w20.heap.size, 3, none⟩ = some (.int .i64 rz))) (by kernel_rfl) ⟨str_of hz.drew, str_of hcut.drew, k20.all4.1⟩ (fun hHeld => ?_)
      clear fk20
      refine wpAnyH_take (i := 0) (v := ?vL0) rfl (by kernel_rfl) (by kernel_rfl) (by kernel_rfl) (fun _ _ _ h => h) (Or.inl ⟨by rfl, ?hL0⟩) (by assumption) ?rL0
      case hL0 => (intro w hSw; (try dsimp only at hSw); go_simp; try with_reducible rfl)
      change wpAnyH _ _ _ _ _ _ _ (Act.put _ (some 144) _) _
      simp only [Act.put, List.setIfInBounds_toArray, List.set_cons_zero, List.set_cons_succ]
      refine wpAnyH_take (i := 1) (v := ?vL1) rfl (by kernel_rfl) (by kernel_rfl) (by kernel_rfl) (fun _ _ _ h => h) (Or.inl ⟨by rfl, ?hL1⟩) (by assumption) ?rL1
      case hL1 => (intro w hSw; (try dsimp only at hSw); go_simp; try with_reducible rfl)
      change wpAnyH _ _ _ _ _ _ _ (Act.put _ (some 145) _) _
      simp only [Act.put, List.setIfInBounds_toArray, List.set_cons_zero, List.set_cons_succ]
      refine wpAnyH_take (i := 2) (v := ?vL2) rfl (by kernel_rfl) (by kernel_rfl) (by kernel_rfl) (fun _ _ _ h => h) (Or.inl ⟨by rfl, ?hL2⟩) (by assumption) ?rL2
      case hL2 => (intro w hSw; (try dsimp only at hSw); go_simp; try with_reducible rfl)
      change wpAnyH _ _ _ _ _ _ _ (Act.put _ (some 146) _) _
      simp only [Act.put, List.setIfInBounds_toArray, List.set_cons_zero, List.set_cons_succ]
      refine wpAnyH_take (i := 3) (v := ?vL3) rfl (by kernel_rfl) (by kernel_rfl) (by kernel_rfl) (fun _ _ _ h => h) (Or.inl ⟨by rfl, ?hL3⟩) (by assumption) ?rL3
      case hL3 => (intro w hSw; (try dsimp only at hSw); go_simp; try with_reducible rfl)
      change wpAnyH _ _ _ _ _ _ _ (Act.put _ (some 147) _) _
      simp only [Act.put, List.setIfInBounds_toArray, List.set_cons_zero, List.set_cons_succ]
      refine wpAnyH_ready (rs := [4]) (by kernel_rfl) (by simp) ?_
      refine AllReadyH.cons rfl (fun K hK => ?_) AllReadyH.nil
      go_simp
      refine (HXr.out _).mono ?_
      rintro e wa ⟨rfl, hba⟩
      go_wp2_with fail
      have hza := Bs.below (w := w21.drew) hz.drew hba
      have hsa := Bs.below (w := w21.drew) hcut.drew hba
      have k20a := Box.call (w := w21.drew) k20 hba
      refine hK.out _ _ ?_ (fun hHeld => ?_)
      · exact ⟨str_of hza, str_of hsa, k20a.all4.1⟩
      clear hK K
      try simp only [Act.put, List.setIfInBounds_toArray, List.set_cons_zero, List.set_cons_succ]
      refine wpAnyH_take (i := 5) (v := ?vL5) rfl (by kernel_rfl) (by kernel_rfl) (by kernel_rfl) (fun _ _ _ h => h) (Or.inl ⟨by rfl, ?hL5⟩) (by assumption) ?rL5
      case hL5 => (intro w hSw; (try dsimp only at hSw); go_simp; try with_reducible rfl)
      change wpAnyH _ _ _ _ _ _ _ (Act.put _ (some 149) _) _
      simp only [Act.put, List.setIfInBounds_toArray, List.set_cons_zero, List.set_cons_succ]
      refine wpAnyH_take (i := 6) (v := ?vL6) rfl (by kernel_rfl) (by kernel_rfl) (by kernel_rfl) (fun _ _ _ h => h) (Or.inl ⟨by rfl, ?hL6⟩) (by assumption) ?rL6
      case hL6 => (intro w hSw; (try dsimp only at hSw); go_simp; try with_reducible rfl)
      change wpAnyH _ _ _ _ _ _ _ (Act.put _ (some 150) _) _
      simp only [Act.put, List.setIfInBounds_toArray, List.set_cons_zero, List.set_cons_succ]
      refine wpAnyH_take (i := 7) (v := ?vL7) rfl (by kernel_rfl) (by kernel_rfl) (by kernel_rfl) (fun _ _ _ h => h) (Or.inl ⟨by rfl, ?hL7⟩) (by assumption) ?rL7
      case hL7 => (intro w hSw; (try dsimp only at hSw); go_simp; try with_reducible rfl)
      change wpAnyH _ _ _ _ _ _ _ (Act.put _ (some 151) _) _
      simp only [Act.put, List.setIfInBounds_toArray, List.set_cons_zero, List.set_cons_succ]
      refine wpAnyH_take (i := 8) (v := ?vL8) rfl (by kernel_rfl) (by kernel_rfl) (by kernel_rfl) (fun _ _ _ h => h) (Or.inl ⟨by rfl, ?hL8⟩) (by assumption) ?rL8
      case hL8 => (intro w hSw; (try dsimp only at hSw); go_simp; try with_reducible rfl)
      change wpAnyH _ _ _ _ _ _ _ (Act.put _ (some 152) _) _
      simp only [Act.put, List.setIfInBounds_toArray, List.set_cons_zero, List.set_cons_succ]
      refine wpAnyH_take (i := 9) (v := ?vL9) rfl (by kernel_rfl) (by kernel_rfl) (by kernel_rfl) (fun _ _ _ h => h) (Or.inl ⟨by rfl, ?hL9⟩) (by assumption) ?rL9
      case hL9 => (intro w hSw; (try dsimp only at hSw); go_simp; try with_reducible rfl)
      change wpAnyH _ _ _ _ _ _ _ (Act.put _ (some 153) _) _
      simp only [Act.put, List.setIfInBounds_toArray, List.set_cons_zero, List.set_cons_succ]
      refine wpAnyH_take (i := 10) (v := ?vL10) rfl (by kernel_rfl) (by kernel_rfl) (by kernel_rfl) (fun _ _ _ h => h) (Or.inl ⟨by rfl, ?hL10⟩) (by assumption) ?rL10
      case hL10 => (intro w hSw; (try dsimp only at hSw); go_simp; try with_reducible rfl)
      change wpAnyH _ _ _ _ _ _ _ (Act.put _ (some 154) _) _
      simp only [Act.put, List.setIfInBounds_toArray, List.set_cons_zero, List.set_cons_succ]
      refine wpAnyH_take (i := 11) (v := ?vL11) rfl (by kernel_rfl) (by kernel_rfl) (by kernel_rfl) (fun _ _ _ h => h) (Or.inl ⟨by rfl, ?hL11⟩) (by assumption) ?rL11
      case hL11 => (intro w hSw; (try dsimp only at hSw); go_simp; try with_reducible rfl)
      change wpAnyH _ _ _ _ _ _ _ (Act.put _ (some 155) _) _
      simp only [Act.put, List.setIfInBounds_toArray, List.set_cons_zero, List.set_cons_succ]
      refine wpAnyH_take (i := 12) (v := ?vL12) rfl (by kernel_rfl) (by kernel_rfl) (by kernel_rfl) (fun _ _ _ h => h) (Or.inl ⟨by rfl, ?hL12⟩) (by assumption) ?rL12
      case hL12 => (intro w hSw; (try dsimp only at hSw); go_simp; try with_reducible rfl)
      change wpAnyH _ _ _ _ _ _ _ (Act.put _ (some 156) _) _
      simp only [Act.put, List.setIfInBounds_toArray, List.set_cons_zero, List.set_cons_succ]
      refine wpAnyH_take (i := 13) (v := ?vL13) rfl (by kernel_rfl) (by kernel_rfl) (by kernel_rfl) (fun _ _ _ h => h) (Or.inl ⟨by rfl, ?hL13⟩) (by assumption) ?rL13
      case hL13 => (intro w hSw; (try dsimp only at hSw); go_simp; try with_reducible rfl)
      change wpAnyH _ _ _ _ _ _ _ (Act.put _ (some 157) _) _
      simp only [Act.put, List.setIfInBounds_toArray, List.set_cons_zero, List.set_cons_succ]
      refine wpAnyH_take (i := 14) (v := ?vL14) rfl (by kernel_rfl) (by kernel_rfl) (by kernel_rfl) (fun _ _ _ h => h) (Or.inl ⟨by rfl, ?hL14⟩) (by assumption) ?rL14
      case hL14 => (intro w hSw; (try dsimp only at hSw); go_simp; try with_reducible rfl)
      change wpAnyH _ _ _ _ _ _ _ (Act.put _ (some 158) _) _
      simp only [Act.put, List.setIfInBounds_toArray, List.set_cons_zero, List.set_cons_succ]
      refine wpAnyH_take (i := 15) (v := ?vL15) rfl (by kernel_rfl) (by kernel_rfl) (by kernel_rfl) (fun _ _ _ h => h) (Or.inl ⟨by rfl, ?hL15⟩) (by assumption) ?rL15
      case hL15 => (intro w hSw; (try dsimp only at hSw); go_simp; try with_reducible rfl)
      change wpAnyH _ _ _ _ _ _ _ (Act.put _ (some 159) _) _
      simp only [Act.put, List.setIfInBounds_toArray, List.set_cons_zero, List.set_cons_succ]
      refine wpAnyH_take (i := 16) (v := ?vL16) rfl (by kernel_rfl) (by kernel_rfl) (by kernel_rfl) (fun _ _ _ h => h) (Or.inl ⟨by rfl, ?hL16⟩) (by assumption) ?rL16
      case hL16 => (intro w hSw; (try dsimp only at hSw); go_simp; try with_reducible rfl)
      change wpAnyH _ _ _ _ _ _ _ (Act.put _ (some 160) _) _
      simp only [Act.put, List.setIfInBounds_toArray, List.set_cons_zero, List.set_cons_succ]
      refine wpAnyH_take (i := 17) (v := ?vL17) rfl (by kernel_rfl) (by kernel_rfl) (by kernel_rfl) (fun _ _ _ h => h) (Or.inl ⟨by rfl, ?hL17⟩) (by assumption) ?rL17
      case hL17 => (intro w hSw; (try dsimp only at hSw); go_simp; try with_reducible rfl)
      change wpAnyH _ _ _ _ _ _ _ (Act.put _ (some 161) _) _
      simp only [Act.put, List.setIfInBounds_toArray, List.set_cons_zero, List.set_cons_succ]
      refine wpAnyH_take (i := 18) (v := ?vL18) rfl (by kernel_rfl) (by kernel_rfl) (by kernel_rfl) (fun _ _ _ h => h) (Or.inl ⟨by rfl, ?hL18⟩) (by assumption) ?rL18
      case hL18 => (intro w hSw; (try dsimp only at hSw); go_simp; try with_reducible rfl)
      change wpAnyH _ _ _ _ _ _ _ (Act.put _ (some 162) _) _
      simp only [Act.put, List.setIfInBounds_toArray, List.set_cons_zero, List.set_cons_succ]
      refine wpAnyH_take (i := 19) (v := ?vL19) rfl (by kernel_rfl) (by kernel_rfl) (by kernel_rfl) (fun _ _ _ h => h) (Or.inl ⟨by rfl, ?hL19⟩) (by assumption) ?rL19
      case hL19 => (intro w hSw; (try dsimp only at hSw); go_simp; try with_reducible rfl)
      change wpAnyH _ _ _ _ _ _ _ (Act.put _ (some 163) _) _
      simp only [Act.put, List.setIfInBounds_toArray, List.set_cons_zero, List.set_cons_succ]
      refine wpAnyH_take (i := 20) (v := ?vL20) rfl (by kernel_rfl) (by kernel_rfl) (by kernel_rfl) (fun _ _ _ h => h) (Or.inl ⟨by rfl, ?hL20⟩) (by assumption) ?rL20
      case hL20 => (intro w hSw; (try dsimp only at hSw); go_simp; try with_reducible rfl)
      change wpAnyH _ _ _ _ _ _ _ (Act.put _ (some 164) _) _
      simp only [Act.put, List.setIfInBounds_toArray, List.set_cons_zero, List.set_cons_succ]
      refine wpAnyH_take (i := 21) (v := ?vL21) rfl (by kernel_rfl) (by kernel_rfl) (by kernel_rfl) (fun _ _ _ h => h) (Or.inl ⟨by rfl, ?hL21⟩) (by assumption) ?rL21
      case hL21 => (intro w hSw; (try dsimp only at hSw); go_simp; try with_reducible rfl)
      change wpAnyH _ _ _ _ _ _ _ (Act.put _ (some 8) _) _
      simp only [Act.put, List.setIfInBounds_toArray, List.set_cons_zero, List.set_cons_succ]
      refine wpAnyH_done (by kernel_rfl) ?_ _
      go_wp2_with fail
      go_ret
      exact ⟨by first | rfl | (simp; done), hB.trans (((Below.refl _ _).drew.trans hba).mono hB.size)⟩
    · have hz0 := hne.out he
      have hzz : ((er : Int) != 0) = true := by rw [bne_iff_ne]; omega
      rw [Cm.eq_iff] at hz0
      simp only [zeroCm] at hz0
      obtain ⟨rfl, rfl, rfl, rfl⟩ := hz0
      have heqz : ∀ W, (binOp .eql 23 (.agg #[.bool false, .int .i64 0, .int .i64 0, .int .i64 0]) (.agg #[.bool false, .int .i64 0, .int .i64 0, .int .i64 0])).run Try.prog W = .ok (.bool true) W := fun W => by
        have := eqCm zeroCm zeroCm W
        rwa [decide_eq_true rfl] at this
      clear he
      go_wp2_with fail
      go_ret
      exact ⟨by first | rfl | (simp; done), hB⟩

set_option maxRecDepth 100000 in
set_option maxHeartbeats 2000000 in
theorem commonBack_big (cp : Bool) (cm ct cz : Int) (dp : Bool) (dm dt dz : Int) (A : Option Addr) (n c : Nat) (s : List UInt8) (le : Nat) (w : World) (hs : Bs w A n c s) (hok : CmOk ⟨cp, cm, ct, cz⟩) (hok2 : CmOk ⟨dp, dm, dt, dz⟩) (hn : n ≤ 70000) (hle : le < 65536) (hr : rightCm ⟨cp, cm, ct, cz⟩ = true) (hbig : 3000 < cz) :
    Calls Try.prog 4 #[.agg #[.bool cp, .int .i64 cm, .int .i64 ct, .int .i64 cz], .agg #[.bool dp, .int .i64 dm, .int .i64 dt, .int .i64 dz], .slice A n c, .int .u16 (le : Int)] w fun e w' => e = .returned (.bool true) ∧ Below w.heap.size w w' := by
  have HW1 := Lib.hid (fun W => KC.write ⟨cp, cm, ct, cz⟩ W hok)
  have HW2 := Lib.hid (fun W => KC.write ⟨dp, dm, dt, dz⟩ W hok2)
  have HX1 := Lib.hid (fun W => KC.right ⟨cp, cm, ct, cz⟩ W hok)
  have HA := Lib.hid (fun W h => KC.read A n c s W h (by omega))
  have HRG := Lib.hid (fun W A n d s h hn => KC.read A n d s W h hn)
  have hsr : Hid (cmE s = 0 → rightCm (readCm s) = true ∧ (readCm s).size ≤ s.length ∧ writeCm (readCm s) = s.take 4) := Lib.hid (fun h => cm_right h)
  have hne : Hid (¬ cmE s = 0 → readCm s = zeroCm) := Lib.hid (fun h => by unfold readCm; rw [if_neg h])
  have hln : Hid (cmE s = 0 → 4 ≤ n ∧ s.length = n) := Lib.hid (fun h => ⟨by have := (cmE_zero h).1; rw [hs.len] at this; exact this, hs.len⟩)
  generalize readCm s = r at *
  generalize cmE s = er at *
  obtain ⟨rp, rm, rt, rz⟩ := r
  dsimp only [cmW] at HW1 HW2 HX1 HA
  have g1 : ¬ (70000 : Int) < n := by omega
  rw [hr] at HX1
  have e1 : writeCB ⟨cp, cm, ct, cz⟩ = writeCm ⟨cp, cm, ct, cz⟩ := by unfold writeCB; rw [hr]; rfl
  have e2 : writeCE ⟨cp, cm, ct, cz⟩ = 0 := by unfold writeCE; rw [hr]; rfl
  have hxl : (writeCm ⟨cp, cm, ct, cz⟩).length = 4 := rfl
  rw [e1, e2] at HW1
  unfold GivesCB at HW1
  rw [hxl] at HW1
  obtain ⟨v1, v2, v3, v4, v5, v6, v7⟩ := (rightCm_iff _).1 hr
  simp only at v1 v2 v3 v4 v5 v6 v7
  have hrd := Lib.hid (fun t => cm_read hr t)
  have hinj : Hid (rightCm ⟨dp, dm, dt, dz⟩ = true → writeCB ⟨dp, dm, dt, dz⟩ = writeCm ⟨dp, dm, dt, dz⟩ ∧ (writeCm ⟨cp, cm, ct, cz⟩ = writeCm ⟨dp, dm, dt, dz⟩ ↔ ((⟨cp, cm, ct, cz⟩ : Cm) = ⟨dp, dm, dt, dz⟩))) := Lib.hid (fun k1 => ⟨by unfold writeCB; rw [k1]; rfl, cm_inj hr k1⟩)
  have hq0 : Hid (rightCm ⟨dp, dm, dt, dz⟩ = true → writeCE ⟨dp, dm, dt, dz⟩ = 0) := Lib.hid (fun k => by unfold writeCE; rw [k]; rfl)
  have hq1 : Hid (¬ rightCm ⟨dp, dm, dt, dz⟩ = true → writeCE ⟨dp, dm, dt, dz⟩ = 1) := Lib.hid (fun k => by unfold writeCE; rw [if_neg k])
  generalize writeCm ⟨cp, cm, ct, cz⟩ = X at *
  generalize writeCB ⟨dp, dm, dt, dz⟩ = Y at *
  generalize writeCE ⟨dp, dm, dt, dz⟩ = ye at *
  clear e1 e2 hok hok2 hr
  have k1 := Box.new w [.bool cp, .int .i64 cm, .int .i64 ct, .int .i64 cz] 23
  replace hs := hs.alloc (.cells #[.bool cp, .int .i64 cm, .int .i64 ct, .int .i64 cz] 23)
  have hB := below1 w (.cells #[.bool cp, .int .i64 cm, .int .i64 ct, .int .i64 cz] 23)
  have k2 := Box.new (w.alloc (.cells #[.bool cp, .int .i64 cm, .int .i64 ct, .int .i64 cz] 23)) [.bool dp, .int .i64 dm, .int .i64 dt, .int .i64 dz] 23
  rw [World.size_alloc] at k2
  replace k1 := k1.alloc (.cells #[.bool dp, .int .i64 dm, .int .i64 dt, .int .i64 dz] 23)
  replace hs := hs.alloc (.cells #[.bool dp, .int .i64 dm, .int .i64 dt, .int .i64 dz] 23)
  replace hB := hB.alloc hB.size (.cells #[.bool dp, .int .i64 dm, .int .i64 dt, .int .i64 dz] 23)
  go_enter Try.func4, Try.ntmps4
  have fk1 := k1.all4.1
  have fk2 := k2.all4.1
  go_wp2_with fail
  refine (awake_any KC _).mono ?_
  rintro e w2 ⟨rfl, hb⟩
  clear fk1 fk2
  replace k1 := k1.call hb
  replace k2 := k2.call hb
  replace hs := hs.below hb
  replace hB := hB.trans (hb.mono hB.size)
  clear hb
  have fk1 := k1.all4.1
  have fk2 := k2.all4.1
  go_wp2_with fail
  refine (HW1.out _).mono ?_
  rintro e w3 ⟨A3, c3, rfl, hx, hb⟩
  clear fk1 fk2
  replace k1 := k1.call hb
  replace k2 := k2.call hb
  replace hs := hs.below hb
  replace hB := hB.trans (hb.mono hB.size)
  clear hb
  have fk1 := k1.all4.1
  have fk2 := k2.all4.1
  go_wp2_with fail
  refine (HW2.out _).mono ?_
  rintro e w4 ⟨A4, c4, rfl, hy, hb⟩
  clear fk1 fk2
  replace k1 := k1.call hb
  replace k2 := k2.call hb
  replace hs := hs.below hb
  replace hx := hx.below hb
  replace hB := hB.trans (hb.mono hB.size)
  clear hb
  obtain ⟨yi, hyi⟩ : ∃ yi : Int, (ye : Int) = yi := ⟨_, rfl⟩
  rw [hyi]
  have HYI := Lib.hid hyi
  clear hyi
  go_upto_region 7 with fail
  go_cut [54] (fun q W => q = .bool false ∧ Below w4.heap.size w4 W)
  case first =>
    by_cases hqr : rightCm ⟨dp, dm, dt, dz⟩ = true
    · have hy0 := hq0.out hqr
      obtain rfl : yi = 0 := by rw [← HYI.out, hy0]; rfl
      obtain ⟨hYY, hiff⟩ := hinj.out hqr
      have hxy : (X == Y) = decide ((⟨cp, cm, ct, cz⟩ : Cm) = ⟨dp, dm, dt, dz⟩) := by rw [Bool.eq_iff_iff, beq_iff_eq, decide_eq_true_eq, hYY]; exact hiff
      have heq : ∀ W, (binOp .eql 23 (.agg #[.bool cp, .int .i64 cm, .int .i64 ct, .int .i64 cz]) (.agg #[.bool dp, .int .i64 dm, .int .i64 dt, .int .i64 dz])).run Try.prog W = .ok (.bool (X == Y)) W := fun W => by
        have := eqCm ⟨cp, cm, ct, cz⟩ ⟨dp, dm, dt, dz⟩ W
        rwa [← hxy] at this
      clear hYY hiff hxy hy0 hqr
      refine wp_region_held_drew (S := (fun W => (convert 24 9 (.slice A3 4 c3)).run Try.prog W = .ok (.string ⟨X.toArray⟩) W ∧ (convert 24 9 (.slice A4 Y.length c4)).run Try.prog W = .ok (.string ⟨Y.toArray⟩) W ∧ (W.cell? ⟨w.heap.size, 0, none⟩ = some (.bool cp) ∧ W.cell? ⟨w.heap.size, 1, none⟩ = some (.int .i64 cm) ∧ W.cell? ⟨w.heap.size, 2, none⟩ = some (.int .i64 ct) ∧ W.cell? ⟨w.heap.size, 3, none⟩ = some (.int .i64 cz)) ∧ W.cell? ⟨(w.heap.size + 1), 0, none⟩ = some (.bool dp) ∧ W.cell? ⟨(w.heap.size + 1), 1, none⟩ = some (.int .i64 dm) ∧ W.cell? ⟨(w.heap.size + 1), 2, none⟩ = some (.int .i64 dt) ∧ W.cell? ⟨(w.heap.size + 1), 3, none⟩ = some (.int .i64 dz))) (by kernel_rfl) ⟨str_of hx.drew, str_of hy.drew, k1.all4.1, k2.all4.1⟩ (fun hHeld => ?_)
      refine wpAnyH_take (i := 0) (v := ?vG0) rfl (by kernel_rfl) (by kernel_rfl) (by kernel_rfl) (fun _ _ _ h => h) (Or.inl ⟨by rfl, ?hG0⟩) (by assumption) ?rG0
      case hG0 => (intro w hSw; (try dsimp only at hSw); go_simp; try with_reducible rfl)
      change wpAnyH _ _ _ _ _ _ _ (Act.put _ (some 38) _) _
      simp only [Act.put, List.setIfInBounds_toArray, List.set_cons_zero, List.set_cons_succ]
      refine wpAnyH_take (i := 1) (v := ?vG1) rfl (by kernel_rfl) (by kernel_rfl) (by kernel_rfl) (fun _ _ _ h => h) (Or.inl ⟨by rfl, ?hG1⟩) (by assumption) ?rG1
      case hG1 => (intro w hSw; (try dsimp only at hSw); go_simp; try with_reducible rfl)
      change wpAnyH _ _ _ _ _ _ _ (Act.put _ (some 39) _) _
      simp only [Act.put, List.setIfInBounds_toArray, List.set_cons_zero, List.set_cons_succ]
      refine wpAnyH_take (i := 2) (v := ?vG2) rfl (by kernel_rfl) (by kernel_rfl) (by kernel_rfl) (fun _ _ _ h => h) (Or.inl ⟨by rfl, ?hG2⟩) (by assumption) ?rG2
      case hG2 => (intro w hSw; (try dsimp only at hSw); go_simp; try with_reducible rfl)
      change wpAnyH _ _ _ _ _ _ _ (Act.put _ (some 40) _) _
      simp only [Act.put, List.setIfInBounds_toArray, List.set_cons_zero, List.set_cons_succ]
      refine wpAnyH_take (i := 3) (v := ?vG3) rfl (by kernel_rfl) (by kernel_rfl) (by kernel_rfl) (fun _ _ _ h => h) (Or.inl ⟨by rfl, ?hG3⟩) (by assumption) ?rG3
      case hG3 => (intro w hSw; (try dsimp only at hSw); go_simp; try with_reducible rfl)
      change wpAnyH _ _ _ _ _ _ _ (Act.put _ (some 41) _) _
      simp only [Act.put, List.setIfInBounds_toArray, List.set_cons_zero, List.set_cons_succ]
      refine wpAnyH_take (i := 4) (v := ?vG4) rfl (by kernel_rfl) (by kernel_rfl) (by kernel_rfl) (fun _ _ _ h => h) (Or.inl ⟨by rfl, ?hG4⟩) (by assumption) ?rG4
      case hG4 => (intro w hSw; (try dsimp only at hSw); go_simp; try with_reducible rfl)
      change wpAnyH _ _ _ _ _ _ _ (Act.put _ (some 42) _) _
      simp only [Act.put, List.setIfInBounds_toArray, List.set_cons_zero, List.set_cons_succ]
      refine wpAnyH_take (i := 5) (v := ?vG5) rfl (by kernel_rfl) (by kernel_rfl) (by kernel_rfl) (fun _ _ _ h => h) (Or.inl ⟨by rfl, ?hG5⟩) (by assumption) ?rG5
      case hG5 => (intro w hSw; (try dsimp only at hSw); go_simp; try with_reducible rfl)
      change wpAnyH _ _ _ _ _ _ _ (Act.put _ (some 43) _) _
      simp only [Act.put, List.setIfInBounds_toArray, List.set_cons_zero, List.set_cons_succ]
      refine wpAnyH_take (i := 6) (v := ?vG6) rfl (by kernel_rfl) (by kernel_rfl) (by kernel_rfl) (fun _ _ _ h => h) (Or.inl ⟨by rfl, ?hG6⟩) (by assumption) ?rG6
      case hG6 => (intro w hSw; (try dsimp only at hSw); go_simp; try with_reducible rfl)
      change wpAnyH _ _ _ _ _ _ _ (Act.put _ (some 44) _) _
      simp only [Act.put, List.setIfInBounds_toArray, List.set_cons_zero, List.set_cons_succ]
      refine wpAnyH_take (i := 7) (v := ?vG7) rfl (by kernel_rfl) (by kernel_rfl) (by kernel_rfl) (fun _ _ _ h => h) (Or.inl ⟨by rfl, ?hG7⟩) (by assumption) ?rG7
      case hG7 => (intro w hSw; (try dsimp only at hSw); go_simp; try with_reducible rfl)
      change wpAnyH _ _ _ _ _ _ _ (Act.put _ (some 45) _) _
      simp only [Act.put, List.setIfInBounds_toArray, List.set_cons_zero, List.set_cons_succ]
      refine wpAnyH_take (i := 8) (v := ?vG8) rfl (by kernel_rfl) (by kernel_rfl) (by kernel_rfl) (fun _ _ _ h => h) (Or.inl ⟨by rfl, ?hG8⟩) (by assumption) ?rG8
      case hG8 => (intro w hSw; (try dsimp only at hSw); go_simp; try with_reducible rfl)
      change wpAnyH _ _ _ _ _ _ _ (Act.put _ (some 46) _) _
      simp only [Act.put, List.setIfInBounds_toArray, List.set_cons_zero, List.set_cons_succ]
      refine wpAnyH_take (i := 9) (v := ?vG9) rfl (by kernel_rfl) (by kernel_rfl) (by kernel_rfl) (fun _ _ _ h => h) (Or.inl ⟨by rfl, ?hG9⟩) (by assumption) ?rG9
      case hG9 => (intro w hSw; (try dsimp only at hSw); go_simp; try with_reducible rfl)
      change wpAnyH _ _ _ _ _ _ _ (Act.put _ (some 47) _) _
      simp only [Act.put, List.setIfInBounds_toArray, List.set_cons_zero, List.set_cons_succ]
      refine wpAnyH_take (i := 10) (v := ?vG10) rfl (by kernel_rfl) (by kernel_rfl) (by kernel_rfl) (fun _ _ _ h => h) (Or.inl ⟨by rfl, ?hG10⟩) (by assumption) ?rG10
      case hG10 => (intro w hSw; (try dsimp only at hSw); go_simp; try with_reducible rfl)
      change wpAnyH _ _ _ _ _ _ _ (Act.put _ (some 48) _) _
      simp only [Act.put, List.setIfInBounds_toArray, List.set_cons_zero, List.set_cons_succ]
      refine wpAnyH_take (i := 11) (v := ?vG11) rfl (by kernel_rfl) (by kernel_rfl) (by kernel_rfl) (fun _ _ _ h => h) (Or.inl ⟨by rfl, ?hG11⟩) (by assumption) ?rG11
      case hG11 => (intro w hSw; (try dsimp only at hSw); go_simp; try with_reducible rfl)
      change wpAnyH _ _ _ _ _ _ _ (Act.put _ (some 49) _) _
      simp only [Act.put, List.setIfInBounds_toArray, List.set_cons_zero, List.set_cons_succ]
      refine wpAnyH_take (i := 12) (v := ?vG12) rfl (by kernel_rfl) (by kernel_rfl) (by kernel_rfl) (fun _ _ _ h => h) (Or.inl ⟨by rfl, ?hG12⟩) (by assumption) ?rG12
      case hG12 => (intro w hSw; (try dsimp only at hSw); go_simp; try with_reducible rfl)
      change wpAnyH _ _ _ _ _ _ _ (Act.put _ (some 50) _) _
      simp only [Act.put, List.setIfInBounds_toArray, List.set_cons_zero, List.set_cons_succ]
      refine wpAnyH_take (i := 13) (v := ?vG13) rfl (by kernel_rfl) (by kernel_rfl) (by kernel_rfl) (fun _ _ _ h => h) (Or.inl ⟨by rfl, ?hG13⟩) (by assumption) ?rG13
      case hG13 => (intro w hSw; (try dsimp only at hSw); go_simp; try with_reducible rfl)
      change wpAnyH _ _ _ _ _ _ _ (Act.put _ (some 51) _) _
      simp only [Act.put, List.setIfInBounds_toArray, List.set_cons_zero, List.set_cons_succ]
      refine wpAnyH_take (i := 14) (v := ?vG14) rfl (by kernel_rfl) (by kernel_rfl) (by kernel_rfl) (fun _ _ _ h => h) (Or.inl ⟨by rfl, ?hG14⟩) (by assumption) ?rG14
      case hG14 => (intro w hSw; (try dsimp only at hSw); go_simp; try with_reducible rfl)
      change wpAnyH _ _ _ _ _ _ _ (Act.put _ (some 52) _) _
      simp only [Act.put, List.setIfInBounds_toArray, List.set_cons_zero, List.set_cons_succ]
      refine wpAnyH_take (i := 15) (v := ?vG15) rfl (by kernel_rfl) (by kernel_rfl) (by kernel_rfl) (fun _ _ _ h => h) (Or.inl ⟨by rfl, ?hG15⟩) (by assumption) ?rG15
      case hG15 => (intro w hSw; (try dsimp only at hSw); go_simp; try with_reducible rfl)
      change wpAnyH _ _ _ _ _ _ _ (Act.put _ (some 53) _) _
      simp only [Act.put, List.setIfInBounds_toArray, List.set_cons_zero, List.set_cons_succ]
      refine wpAnyH_take (i := 16) (v := ?vG16) rfl (by kernel_rfl) (by kernel_rfl) (by kernel_rfl) (fun _ _ _ h => h) (Or.inl ⟨by rfl, ?hG16⟩) (by assumption) ?rG16
      case hG16 => (intro w hSw; (try dsimp only at hSw); go_simp; try with_reducible rfl)
      change wpAnyH _ _ _ _ _ _ _ (Act.put _ (some 54) _) _
      simp only [Act.put, List.setIfInBounds_toArray, List.set_cons_zero, List.set_cons_succ]
      refine wpAnyH_done (by kernel_rfl) ?_ _
      go_wp2_with fail
      go_meet
      exact ⟨by first | rfl | (simp; done), (Below.refl _ w4).drew⟩
    · have hy0 := hq1.out hqr
      obtain rfl : yi = 1 := by rw [← HYI.out, hy0]; rfl
      clear hy0 hqr
      refine wp_region_held_drew (S := fun _ => True) (by kernel_rfl) trivial (fun hHeld => ?_)
      refine wpAnyH_take (i := 0) (v := ?vH0) rfl (by kernel_rfl) (by kernel_rfl) (by kernel_rfl) (fun _ _ _ h => h) (Or.inl ⟨by rfl, ?hH0⟩) (by assumption) ?rH0
      case hH0 => (intro w hSw; (try dsimp only at hSw); go_simp; try with_reducible rfl)
      change wpAnyH _ _ _ _ _ _ _ (Act.put _ (some 38) _) _
      simp only [Act.put, List.setIfInBounds_toArray, List.set_cons_zero, List.set_cons_succ]
      refine wpAnyH_take (i := 1) (v := ?vH1) rfl (by kernel_rfl) (by kernel_rfl) (by kernel_rfl) (fun _ _ _ h => h) (Or.inl ⟨by rfl, ?hH1⟩) (by assumption) ?rH1
      case hH1 => (intro w hSw; (try dsimp only at hSw); go_simp; try with_reducible rfl)
      change wpAnyH _ _ _ _ _ _ _ (Act.put _ (some 39) _) _
      simp only [Act.put, List.setIfInBounds_toArray, List.set_cons_zero, List.set_cons_succ]
      refine wpAnyH_take (i := 2) (v := ?vH2) rfl (by kernel_rfl) (by kernel_rfl) (by kernel_rfl) (fun _ _ _ h => h) (Or.inl ⟨by rfl, ?hH2⟩) (by assumption) ?rH2
      case hH2 => (intro w hSw; (try dsimp only at hSw); go_simp; try with_reducible rfl)
      change wpAnyH _ _ _ _ _ _ _ (Act.put _ (some 40) _) _
      simp only [Act.put, List.setIfInBounds_toArray, List.set_cons_zero, List.set_cons_succ]
      refine wpAnyH_take (i := 3) (v := ?vH3) rfl (by kernel_rfl) (by kernel_rfl) (by kernel_rfl) (fun _ _ _ h => h) (Or.inl ⟨by rfl, ?hH3⟩) (by assumption) ?rH3
      case hH3 => (intro w hSw; (try dsimp only at hSw); go_simp; try with_reducible rfl)
      change wpAnyH _ _ _ _ _ _ _ (Act.put _ (some 41) _) _
      simp only [Act.put, List.setIfInBounds_toArray, List.set_cons_zero, List.set_cons_succ]
      refine wpAnyH_take (i := 4) (v := ?vH4) rfl (by kernel_rfl) (by kernel_rfl) (by kernel_rfl) (fun _ _ _ h => h) (Or.inl ⟨by rfl, ?hH4⟩) (by assumption) ?rH4
      case hH4 => (intro w hSw; (try dsimp only at hSw); go_simp; try with_reducible rfl)
      change wpAnyH _ _ _ _ _ _ _ (Act.put _ (some 42) _) _
      simp only [Act.put, List.setIfInBounds_toArray, List.set_cons_zero, List.set_cons_succ]
      refine wpAnyH_take (i := 5) (v := ?vH5) rfl (by kernel_rfl) (by kernel_rfl) (by kernel_rfl) (fun _ _ _ h => h) (Or.inl ⟨by rfl, ?hH5⟩) (by assumption) ?rH5
      case hH5 => (intro w hSw; (try dsimp only at hSw); go_simp; try with_reducible rfl)
      change wpAnyH _ _ _ _ _ _ _ (Act.put _ (some 43) _) _
      simp only [Act.put, List.setIfInBounds_toArray, List.set_cons_zero, List.set_cons_succ]
      refine wpAnyH_take (i := 6) (v := ?vH6) rfl (by kernel_rfl) (by kernel_rfl) (by kernel_rfl) (fun _ _ _ h => h) (Or.inl ⟨by rfl, ?hH6⟩) (by assumption) ?rH6
      case hH6 => (intro w hSw; (try dsimp only at hSw); go_simp; try with_reducible rfl)
      change wpAnyH _ _ _ _ _ _ _ (Act.put _ (some 44) _) _
      simp only [Act.put, List.setIfInBounds_toArray, List.set_cons_zero, List.set_cons_succ]
      refine wpAnyH_take (i := 7) (v := undef) rfl (by kernel_rfl) (by kernel_rfl) (by kernel_rfl) (fun _ _ _ h => h) (Or.inr ⟨by rfl, rfl⟩) (by assumption) ?_
      change wpAnyH _ _ _ _ _ _ _ (Act.put _ (some 45) _) _
      simp only [Act.put, List.setIfInBounds_toArray, List.set_cons_zero, List.set_cons_succ]
      refine wpAnyH_take (i := 8) (v := undef) rfl (by kernel_rfl) (by kernel_rfl) (by kernel_rfl) (fun _ _ _ h => h) (Or.inr ⟨by rfl, rfl⟩) (by assumption) ?_
      change wpAnyH _ _ _ _ _ _ _ (Act.put _ (some 46) _) _
      simp only [Act.put, List.setIfInBounds_toArray, List.set_cons_zero, List.set_cons_succ]
      refine wpAnyH_take (i := 9) (v := undef) rfl (by kernel_rfl) (by kernel_rfl) (by kernel_rfl) (fun _ _ _ h => h) (Or.inr ⟨by rfl, rfl⟩) (by assumption) ?_
      change wpAnyH _ _ _ _ _ _ _ (Act.put _ (some 47) _) _
      simp only [Act.put, List.setIfInBounds_toArray, List.set_cons_zero, List.set_cons_succ]
      refine wpAnyH_take (i := 10) (v := undef) rfl (by kernel_rfl) (by kernel_rfl) (by kernel_rfl) (fun _ _ _ h => h) (Or.inr ⟨by rfl, rfl⟩) (by assumption) ?_
      change wpAnyH _ _ _ _ _ _ _ (Act.put _ (some 48) _) _
      simp only [Act.put, List.setIfInBounds_toArray, List.set_cons_zero, List.set_cons_succ]
      refine wpAnyH_take (i := 11) (v := undef) rfl (by kernel_rfl) (by kernel_rfl) (by kernel_rfl) (fun _ _ _ h => h) (Or.inr ⟨by rfl, rfl⟩) (by assumption) ?_
      change wpAnyH _ _ _ _ _ _ _ (Act.put _ (some 49) _) _
      simp only [Act.put, List.setIfInBounds_toArray, List.set_cons_zero, List.set_cons_succ]
      refine wpAnyH_take (i := 12) (v := undef) rfl (by kernel_rfl) (by kernel_rfl) (by kernel_rfl) (fun _ _ _ h => h) (Or.inr ⟨by rfl, rfl⟩) (by assumption) ?_
      change wpAnyH _ _ _ _ _ _ _ (Act.put _ (some 50) _) _
      simp only [Act.put, List.setIfInBounds_toArray, List.set_cons_zero, List.set_cons_succ]
      refine wpAnyH_take (i := 13) (v := undef) rfl (by kernel_rfl) (by kernel_rfl) (by kernel_rfl) (fun _ _ _ h => h) (Or.inr ⟨by rfl, rfl⟩) (by assumption) ?_
      change wpAnyH _ _ _ _ _ _ _ (Act.put _ (some 51) _) _
      simp only [Act.put, List.setIfInBounds_toArray, List.set_cons_zero, List.set_cons_succ]
      refine wpAnyH_take (i := 14) (v := undef) rfl (by kernel_rfl) (by kernel_rfl) (by kernel_rfl) (fun _ _ _ h => h) (Or.inr ⟨by rfl, rfl⟩) (by assumption) ?_
      change wpAnyH _ _ _ _ _ _ _ (Act.put _ (some 52) _) _
      simp only [Act.put, List.setIfInBounds_toArray, List.set_cons_zero, List.set_cons_succ]
      refine wpAnyH_take (i := 15) (v := undef) rfl (by kernel_rfl) (by kernel_rfl) (by kernel_rfl) (fun _ _ _ h => h) (Or.inr ⟨by rfl, rfl⟩) (by assumption) ?_
      change wpAnyH _ _ _ _ _ _ _ (Act.put _ (some 53) _) _
      simp only [Act.put, List.setIfInBounds_toArray, List.set_cons_zero, List.set_cons_succ]
      refine wpAnyH_take (i := 16) (v := ?vH16) rfl (by kernel_rfl) (by kernel_rfl) (by kernel_rfl) (fun _ _ _ h => h) (Or.inl ⟨by rfl, ?hH16⟩) (by assumption) ?rH16
      case hH16 => (intro w hSw; (try dsimp only at hSw); go_simp; try with_reducible rfl)
      change wpAnyH _ _ _ _ _ _ _ (Act.put _ (some 54) _) _
      simp only [Act.put, List.setIfInBounds_toArray, List.set_cons_zero, List.set_cons_succ]
      refine wpAnyH_done (by kernel_rfl) ?_ _
      go_wp2_with fail
      go_meet
      exact ⟨by first | rfl | (simp; done), (Below.refl _ w4).drew⟩
  case rest =>
    obtain ⟨rfl, hb⟩ := hcut
    replace k1 := k1.call hb
    replace k2 := k2.call hb
    replace hs := hs.below hb
    replace hx := hx.below hb
    replace hy := hy.below hb
    replace hB := hB.trans (hb.mono hB.size)
    clear hb
    clear hy k2
    have g3 : ¬ cz ≤ 3000 := by omega
    clear hx
    have fk1 := k1.all4.1
    go_wp2_with fail
    refine (HX1.out _).mono ?_
    rintro e w5 ⟨rfl, hb⟩
    clear fk1
    replace k1 := k1.call hb
    replace hs := hs.below hb
    replace hB := hB.trans (hb.mono hB.size)
    clear hb
    clear k1
    go_wp2_with fail
    refine (HA.out _ hs).mono ?_
    rintro e w20 ⟨rfl, hb⟩
    replace hs := hs.below hb
    replace hB := hB.trans (hb.mono hB.size)
    clear hb
    have k20 := Box.new w20 [.bool rp, .int .i64 rm, .int .i64 rt, .int .i64 rz] 23
    replace hs := hs.alloc (.cells #[.bool rp, .int .i64 rm, .int .i64 rt, .int .i64 rz] 23)
    replace hB := hB.alloc hB.size (.cells #[.bool rp, .int .i64 rm, .int .i64 rt, .int .i64 rz] 23)
    have fk20 := k20.all4.1
    by_cases he : er = 0
    · subst he
      obtain ⟨hrr, hrz, hrw⟩ := hsr.out rfl
      obtain ⟨hn4, hn4'⟩ := hln.out rfl
      obtain ⟨b1, b2, b3, b4, b5, b6, b7⟩ := (rightCm_iff _).1 hrr
      simp only at b1 b2 b3 b4 b5 b6 b7 hrz
      have hokr : CmOk ⟨rp, rm, rt, rz⟩ := ⟨wf_of (by simp only; omega) (by simp only; omega), wf_of (by simp only; omega) (by simp only; omega), wf_of (by simp only; omega) (by simp only; omega)⟩
      have HWr := Lib.hid (fun W => KC.write ⟨rp, rm, rt, rz⟩ W hokr)
      have HXr := Lib.hid (fun W => KC.right ⟨rp, rm, rt, rz⟩ W hokr)
      have e1 : writeCB ⟨rp, rm, rt, rz⟩ = s.take 4 := by unfold writeCB; rw [hrr]; exact hrw
      have e2 : writeCE ⟨rp, rm, rt, rz⟩ = 0 := by unfold writeCE; rw [hrr]; rfl
      have hZl : (s.take 4).length = 4 := by rw [List.length_take]; omega
      rw [e1, e2] at HWr
      unfold GivesCB at HWr
      rw [hZl] at HWr
      rw [hrr] at HXr
      have hz7 : (rz : Int) ≤ n := by omega
      dsimp only [cmW] at HWr HXr
      clear hrr e1 e2 hrw hokr hsr hne hln b1 b2 b3 b4 b5 b6 b7 hZl
      go_wp2_with fail
      refine (HWr.out _).mono ?_
      rintro e w21 ⟨A21, c21, rfl, hz, hb⟩
      clear fk20
      replace hs := hs.below hb
      replace k20 := k20.call hb
      replace hB := hB.trans (hb.mono hB.size)
      clear hb
      obtain ⟨A22, c22, hsl, hcut⟩ := hs.slice_r Try.underlying24 byte_size (r := 4) (by omega)
      have hsl2 := fun W => hsl W 4 rfl
      clear hsl
      generalize s.take 4 = Z at *
      have fk20 := k20.all4.1
      go_upto_region 22 with fail
      refine wp_region_held_drew (S := (fun W => (convert 24 9 (.slice A21 4 c21)).run Try.prog W = .ok (.string ⟨Z.toArray⟩) W ∧ (convert 24 9 (.slice A22 4 c22)).run Try.prog W = .ok (.string ⟨Z.toArray⟩) W ∧ W.cell? ⟨w20.heap.size, 0, none⟩ = some (.bool rp) ∧ W.cell? ⟨w20.heap.size, 1, none⟩ = some (.int .i64 rm) ∧ W.cell? ⟨w20.heap.size, 2, none⟩ = some (.int .i64 rt) ∧ W.cell? ⟨w20.heap.size, 3, none⟩ = some (.int .i64 rz))) (by kernel_rfl) ⟨str_of hz.drew, str_of hcut.drew, k20.all4.1⟩ (fun hHeld => ?_)
      clear fk20
      refine wpAnyH_take (i := 0) (v := ?vL0) rfl (by kernel_rfl) (by kernel_rfl) (by kernel_rfl) (fun _ _ _ h => h) (Or.inl ⟨by rfl, ?hL0⟩) (by assumption) ?rL0
      case hL0 => (intro w hSw; (try dsimp only at hSw); go_simp; try with_reducible rfl)
      change wpAnyH _ _ _ _ _ _ _ (Act.put _ (some 144) _) _
      simp only [Act.put, List.setIfInBounds_toArray, List.set_cons_zero, List.set_cons_succ]
      refine wpAnyH_take (i := 1) (v := ?vL1) rfl (by kernel_rfl) (by kernel_rfl) (by kernel_rfl) (fun _ _ _ h => h) (Or.inl ⟨by rfl, ?hL1⟩) (by assumption) ?rL1
      case hL1 => (intro w hSw; (try dsimp only at hSw); go_simp; try with_reducible rfl)
      change wpAnyH _ _ _ _ _ _ _ (Act.put _ (some 145) _) _
      simp only [Act.put, List.setIfInBounds_toArray, List.set_cons_zero, List.set_cons_succ]
      refine wpAnyH_take (i := 2) (v := ?vL2) rfl (by kernel_rfl) (by kernel_rfl) (by kernel_rfl) (fun _ _ _ h => h) (Or.inl ⟨by rfl, ?hL2⟩) (by assumption) ?rL2
      case hL2 => (intro w hSw; (try dsimp only at hSw); go_simp; try with_reducible rfl)
      change wpAnyH _ _ _ _ _ _ _ (Act.put _ (some 146) _) _
      simp only [Act.put, List.setIfInBounds_toArray, List.set_cons_zero, List.set_cons_succ]
      refine wpAnyH_take (i := 3) (v := ?vL3) rfl (by kernel_rfl) (by kernel_rfl) (by kernel_rfl) (fun _ _ _ h => h) (Or.inl ⟨by rfl, ?hL3⟩) (by assumption) ?rL3
      case hL3 => (intro w hSw; (try dsimp only at hSw); go_simp; try with_reducible rfl)
      change wpAnyH _ _ _ _ _ _ _ (Act.put _ (some 147) _) _
      simp only [Act.put, List.setIfInBounds_toArray, List.set_cons_zero, List.set_cons_succ]
      refine wpAnyH_ready (rs := [4]) (by kernel_rfl) (by simp) ?_
      refine AllReadyH.cons rfl (fun K hK => ?_) AllReadyH.nil
      go_simp
      refine (HXr.out _).mono ?_
      rintro e wa ⟨rfl, hba⟩
      go_wp2_with fail
      have hza := Bs.below (w := w21.drew) hz.drew hba
      have hsa := Bs.below (w := w21.drew) hcut.drew hba
      have k20a := Box.call (w := w21.drew) k20 hba
      refine hK.out _ _ ?_ (fun hHeld => ?_)
      · exact ⟨str_of hza, str_of hsa, k20a.all4.1⟩
      clear hK K
      try simp only [Act.put, List.setIfInBounds_toArray, List.set_cons_zero, List.set_cons_succ]
      refine wpAnyH_take (i := 5) (v := ?vL5) rfl (by kernel_rfl) (by kernel_rfl) (by kernel_rfl) (fun _ _ _ h => h) (Or.inl ⟨by rfl, ?hL5⟩) (by assumption) ?rL5
      case hL5 => (intro w hSw; (try dsimp only at hSw); go_simp; try with_reducible rfl)
      change wpAnyH _ _ _ _ _ _ _ (Act.put _ (some 149) _) _
      simp only [Act.put, List.setIfInBounds_toArray, List.set_cons_zero, List.set_cons_succ]
      refine wpAnyH_take (i := 6) (v := ?vL6) rfl (by kernel_rfl) (by kernel_rfl) (by kernel_rfl) (fun _ _ _ h => h) (Or.inl ⟨by rfl, ?hL6⟩) (by assumption) ?rL6
      case hL6 => (intro w hSw; (try dsimp only at hSw); go_simp; try with_reducible rfl)
      change wpAnyH _ _ _ _ _ _ _ (Act.put _ (some 150) _) _
      simp only [Act.put, List.setIfInBounds_toArray, List.set_cons_zero, List.set_cons_succ]
      refine wpAnyH_take (i := 7) (v := ?vL7) rfl (by kernel_rfl) (by kernel_rfl) (by kernel_rfl) (fun _ _ _ h => h) (Or.inl ⟨by rfl, ?hL7⟩) (by assumption) ?rL7
      case hL7 => (intro w hSw; (try dsimp only at hSw); go_simp; try with_reducible rfl)
      change wpAnyH _ _ _ _ _ _ _ (Act.put _ (some 151) _) _
      simp only [Act.put, List.setIfInBounds_toArray, List.set_cons_zero, List.set_cons_succ]
      refine wpAnyH_take (i := 8) (v := ?vL8) rfl (by kernel_rfl) (by kernel_rfl) (by kernel_rfl) (fun _ _ _ h => h) (Or.inl ⟨by rfl, ?hL8⟩) (by assumption) ?rL8
      case hL8 => (intro w hSw; (try dsimp only at hSw); go_simp; try with_reducible rfl)
      change wpAnyH _ _ _ _ _ _ _ (Act.put _ (some 152) _) _
      simp only [Act.put, List.setIfInBounds_toArray, List.set_cons_zero, List.set_cons_succ]
      refine wpAnyH_take (i := 9) (v := ?vL9) rfl (by kernel_rfl) (by kernel_rfl) (by kernel_rfl) (fun _ _ _ h => h) (Or.inl ⟨by rfl, ?hL9⟩) (by assumption) ?rL9
      case hL9 => (intro w hSw; (try dsimp only at hSw); go_simp; try with_reducible rfl)
      change wpAnyH _ _ _ _ _ _ _ (Act.put _ (some 153) _) _
      simp only [Act.put, List.setIfInBounds_toArray, List.set_cons_zero, List.set_cons_succ]
      refine wpAnyH_take (i := 10) (v := ?vL10) rfl (by kernel_rfl) (by kernel_rfl) (by kernel_rfl) (fun _ _ _ h => h) (Or.inl ⟨by rfl, ?hL10⟩) (by assumption) ?rL10
      case hL10 => (intro w hSw; (try dsimp only at hSw); go_simp; try with_reducible rfl)
      change wpAnyH _ _ _ _ _ _ _ (Act.put _ (some 154) _) _
      simp only [Act.put, List.setIfInBounds_toArray, List.set_cons_zero, List.set_cons_succ]
      refine wpAnyH_take (i := 11) (v := ?vL11) rfl (by kernel_rfl) (by kernel_rfl) (by kernel_rfl) (fun _ _ _ h => h) (Or.inl ⟨by rfl, ?hL11⟩) (by assumption) ?rL11
      case hL11 => (intro w hSw; (try dsimp only at hSw); go_simp; try with_reducible rfl)
      change wpAnyH _ _ _ _ _ _ _ (Act.put _ (some 155) _) _
      simp only [Act.put, List.setIfInBounds_toArray, List.set_cons_zero, List.set_cons_succ]
      refine wpAnyH_take (i := 12) (v := ?vL12) rfl (by kernel_rfl) (by kernel_rfl) (by kernel_rfl) (fun _ _ _ h => h) (Or.inl ⟨by rfl, ?hL12⟩) (by assumption) ?rL12
      case hL12 => (intro w hSw; (try dsimp only at hSw); go_simp; try with_reducible rfl)
      change wpAnyH _ _ _ _ _ _ _ (Act.put _ (some 156) _) _
      simp only [Act.put, List.setIfInBounds_toArray, List.set_cons_zero, List.set_cons_succ]
      refine wpAnyH_take (i := 13) (v := ?vL13) rfl (by kernel_rfl) (by kernel_rfl) (by kernel_rfl) (fun _ _ _ h => h) (Or.inl ⟨by rfl, ?hL13⟩) (by assumption) ?rL13
      case hL13 => (intro w hSw; (try dsimp only at hSw); go_simp; try with_reducible rfl)
      change wpAnyH _ _ _ _ _ _ _ (Act.put _ (some 157) _) _
      simp only [Act.put, List.setIfInBounds_toArray, List.set_cons_zero, List.set_cons_succ]
      refine wpAnyH_take (i := 14) (v := ?vL14) rfl (by kernel_rfl) (by kernel_rfl) (by kernel_rfl) (fun _ _ _ h => h) (Or.inl ⟨by rfl, ?hL14⟩) (by assumption) ?rL14
      case hL14 => (intro w hSw; (try dsimp only at hSw); go_simp; try with_reducible rfl)
      change wpAnyH _ _ _ _ _ _ _ (Act.put _ (some 158) _) _
      simp only [Act.put, List.setIfInBounds_toArray, List.set_cons_zero, List.set_cons_succ]
      refine wpAnyH_take (i := 15) (v := ?vL15) rfl (by kernel_rfl) (by kernel_rfl) (by kernel_rfl) (fun _ _ _ h => h) (Or.inl ⟨by rfl, ?hL15⟩) (by assumption) ?rL15
      case hL15 => (intro w hSw; (try dsimp only at hSw); go_simp; try with_reducible rfl)
      change wpAnyH _ _ _ _ _ _ _ (Act.put _ (some 159) _) _
      simp only [Act.put, List.setIfInBounds_toArray, List.set_cons_zero, List.set_cons_succ]
      refine wpAnyH_take (i := 16) (v := ?vL16) rfl (by kernel_rfl) (by kernel_rfl) (by kernel_rfl) (fun _ _ _ h => h) (Or.inl ⟨by rfl, ?hL16⟩) (by assumption) ?rL16
      case hL16 => (intro w hSw; (try dsimp only at hSw); go_simp; try with_reducible rfl)
      change wpAnyH _ _ _ _ _ _ _ (Act.put _ (some 160) _) _
      simp only [Act.put, List.setIfInBounds_toArray, List.set_cons_zero, List.set_cons_succ]
      refine wpAnyH_take (i := 17) (v := ?vL17) rfl (by kernel_rfl) (by kernel_rfl) (by kernel_rfl) (fun _ _ _ h => h) (Or.inl ⟨by rfl, ?hL17⟩) (by assumption) ?rL17
      case hL17 => (intro w hSw; (try dsimp only at hSw); go_simp; try with_reducible rfl)
      change wpAnyH _ _ _ _ _ _ _ (Act.put _ (some 161) _) _
      simp only [Act.put, List.setIfInBounds_toArray, List.set_cons_zero, List.set_cons_succ]
      refine wpAnyH_take (i := 18) (v := ?vL18) rfl (by kernel_rfl) (by kernel_rfl) (by kernel_rfl) (fun _ _ _ h => h) (Or.inl ⟨by rfl, ?hL18⟩) (by assumption) ?rL18
      case hL18 => (intro w hSw; (try dsimp only at hSw); go_simp; try with_reducible rfl)
      change wpAnyH _ _ _ _ _ _ _ (Act.put _ (some 162) _) _
      simp only [Act.put, List.setIfInBounds_toArray, List.set_cons_zero, List.set_cons_succ]
      refine wpAnyH_take (i := 19) (v := ?vL19) rfl (by kernel_rfl) (by kernel_rfl) (by kernel_rfl) (fun _ _ _ h => h) (Or.inl ⟨by rfl, ?hL19⟩) (by assumption) ?rL19
      case hL19 => (intro w hSw; (try dsimp only at hSw); go_simp; try with_reducible rfl)
      change wpAnyH _ _ _ _ _ _ _ (Act.put _ (some 163) _) _
      simp only [Act.put, List.setIfInBounds_toArray, List.set_cons_zero, List.set_cons_succ]
      refine wpAnyH_take (i := 20) (v := ?vL20) rfl (by kernel_rfl) (by kernel_rfl) (by kernel_rfl) (fun _ _ _ h => h) (Or.inl ⟨by rfl, ?hL20⟩) (by assumption) ?rL20
      case hL20 => (intro w hSw; (try dsimp only at hSw); go_simp; try with_reducible rfl)
      change wpAnyH _ _ _ _ _ _ _ (Act.put _ (some 164) _) _
      simp only [Act.put, List.setIfInBounds_toArray, List.set_cons_zero, List.set_cons_succ]
      refine wpAnyH_take (i := 21) (v := ?vL21) rfl (by kernel_rfl) (by kernel_rfl) (by kernel_rfl) (fun _ _ _ h => h) (Or.inl ⟨by rfl, ?hL21⟩) (by assumption) ?rL21
      case hL21 => (intro w hSw; (try dsimp only at hSw); go_simp; try with_reducible rfl)
      change wpAnyH _ _ _ _ _ _ _ (Act.put _ (some 8) _) _
      simp only [Act.put, List.setIfInBounds_toArray, List.set_cons_zero, List.set_cons_succ]
      refine wpAnyH_done (by kernel_rfl) ?_ _
      go_wp2_with fail
      go_ret
      exact ⟨by first | rfl | (simp; done), hB.trans (((Below.refl _ _).drew.trans hba).mono hB.size)⟩
    · have hz0 := hne.out he
      have hzz : ((er : Int) != 0) = true := by rw [bne_iff_ne]; omega
      rw [Cm.eq_iff] at hz0
      simp only [zeroCm] at hz0
      obtain ⟨rfl, rfl, rfl, rfl⟩ := hz0
      have heqz : ∀ W, (binOp .eql 23 (.agg #[.bool false, .int .i64 0, .int .i64 0, .int .i64 0]) (.agg #[.bool false, .int .i64 0, .int .i64 0, .int .i64 0])).run Try.prog W = .ok (.bool true) W := fun W => by
        have := eqCm zeroCm zeroCm W
        rwa [decide_eq_true rfl] at this
      clear he
      go_wp2_with fail
      go_ret
      exact ⟨by first | rfl | (simp; done), hB⟩

set_option maxRecDepth 100000 in
set_option maxHeartbeats 2000000 in
theorem commonBack_yes (cp : Bool) (cm ct cz : Int) (dp : Bool) (dm dt dz : Int) (A : Option Addr) (n c : Nat) (s : List UInt8) (le : Nat) (w : World) (hs : Bs w A n c s) (hok : CmOk ⟨cp, cm, ct, cz⟩) (hok2 : CmOk ⟨dp, dm, dt, dz⟩) (hn : n ≤ 70000) (hle : le < 65536) (hr : rightCm ⟨cp, cm, ct, cz⟩ = true) (hbig : cz ≤ 3000) :
    Calls Try.prog 4 #[.agg #[.bool cp, .int .i64 cm, .int .i64 ct, .int .i64 cz], .agg #[.bool dp, .int .i64 dm, .int .i64 dt, .int .i64 dz], .slice A n c, .int .u16 (le : Int)] w fun e w' => e = .returned (.bool true) ∧ Below w.heap.size w w' := by
  have HW1 := Lib.hid (fun W => KC.write ⟨cp, cm, ct, cz⟩ W hok)
  have HW2 := Lib.hid (fun W => KC.write ⟨dp, dm, dt, dz⟩ W hok2)
  have HX1 := Lib.hid (fun W => KC.right ⟨cp, cm, ct, cz⟩ W hok)
  have HA := Lib.hid (fun W h => KC.read A n c s W h (by omega))
  have HRG := Lib.hid (fun W A n d s h hn => KC.read A n d s W h hn)
  have hsr : Hid (cmE s = 0 → rightCm (readCm s) = true ∧ (readCm s).size ≤ s.length ∧ writeCm (readCm s) = s.take 4) := Lib.hid (fun h => cm_right h)
  have hne : Hid (¬ cmE s = 0 → readCm s = zeroCm) := Lib.hid (fun h => by unfold readCm; rw [if_neg h])
  have hln : Hid (cmE s = 0 → 4 ≤ n ∧ s.length = n) := Lib.hid (fun h => ⟨by have := (cmE_zero h).1; rw [hs.len] at this; exact this, hs.len⟩)
  generalize readCm s = r at *
  generalize cmE s = er at *
  obtain ⟨rp, rm, rt, rz⟩ := r
  dsimp only [cmW] at HW1 HW2 HX1 HA
  have g1 : ¬ (70000 : Int) < n := by omega
  rw [hr] at HX1
  have e1 : writeCB ⟨cp, cm, ct, cz⟩ = writeCm ⟨cp, cm, ct, cz⟩ := by unfold writeCB; rw [hr]; rfl
  have e2 : writeCE ⟨cp, cm, ct, cz⟩ = 0 := by unfold writeCE; rw [hr]; rfl
  have hxl : (writeCm ⟨cp, cm, ct, cz⟩).length = 4 := rfl
  rw [e1, e2] at HW1
  unfold GivesCB at HW1
  rw [hxl] at HW1
  obtain ⟨v1, v2, v3, v4, v5, v6, v7⟩ := (rightCm_iff _).1 hr
  simp only at v1 v2 v3 v4 v5 v6 v7
  have hrd := Lib.hid (fun t => cm_read hr t)
  have hinj : Hid (rightCm ⟨dp, dm, dt, dz⟩ = true → writeCB ⟨dp, dm, dt, dz⟩ = writeCm ⟨dp, dm, dt, dz⟩ ∧ (writeCm ⟨cp, cm, ct, cz⟩ = writeCm ⟨dp, dm, dt, dz⟩ ↔ ((⟨cp, cm, ct, cz⟩ : Cm) = ⟨dp, dm, dt, dz⟩))) := Lib.hid (fun k1 => ⟨by unfold writeCB; rw [k1]; rfl, cm_inj hr k1⟩)
  have hq0 : Hid (rightCm ⟨dp, dm, dt, dz⟩ = true → writeCE ⟨dp, dm, dt, dz⟩ = 0) := Lib.hid (fun k => by unfold writeCE; rw [k]; rfl)
  have hq1 : Hid (¬ rightCm ⟨dp, dm, dt, dz⟩ = true → writeCE ⟨dp, dm, dt, dz⟩ = 1) := Lib.hid (fun k => by unfold writeCE; rw [if_neg k])
  generalize writeCm ⟨cp, cm, ct, cz⟩ = X at *
  generalize writeCB ⟨dp, dm, dt, dz⟩ = Y at *
  generalize writeCE ⟨dp, dm, dt, dz⟩ = ye at *
  clear e1 e2 hok hok2 hr
  have k1 := Box.new w [.bool cp, .int .i64 cm, .int .i64 ct, .int .i64 cz] 23
  replace hs := hs.alloc (.cells #[.bool cp, .int .i64 cm, .int .i64 ct, .int .i64 cz] 23)
  have hB := below1 w (.cells #[.bool cp, .int .i64 cm, .int .i64 ct, .int .i64 cz] 23)
  have k2 := Box.new (w.alloc (.cells #[.bool cp, .int .i64 cm, .int .i64 ct, .int .i64 cz] 23)) [.bool dp, .int .i64 dm, .int .i64 dt, .int .i64 dz] 23
  rw [World.size_alloc] at k2
  replace k1 := k1.alloc (.cells #[.bool dp, .int .i64 dm, .int .i64 dt, .int .i64 dz] 23)
  replace hs := hs.alloc (.cells #[.bool dp, .int .i64 dm, .int .i64 dt, .int .i64 dz] 23)
  replace hB := hB.alloc hB.size (.cells #[.bool dp, .int .i64 dm, .int .i64 dt, .int .i64 dz] 23)
  go_enter Try.func4, Try.ntmps4
  have fk1 := k1.all4.1
  have fk2 := k2.all4.1
  go_wp2_with fail
  refine (awake_any KC _).mono ?_
  rintro e w2 ⟨rfl, hb⟩
  clear fk1 fk2
  replace k1 := k1.call hb
  replace k2 := k2.call hb
  replace hs := hs.below hb
  replace hB := hB.trans (hb.mono hB.size)
  clear hb
  have fk1 := k1.all4.1
  have fk2 := k2.all4.1
  go_wp2_with fail
  refine (HW1.out _).mono ?_
  rintro e w3 ⟨A3, c3, rfl, hx, hb⟩
  clear fk1 fk2
  replace k1 := k1.call hb
  replace k2 := k2.call hb
  replace hs := hs.below hb
  replace hB := hB.trans (hb.mono hB.size)
  clear hb
  have fk1 := k1.all4.1
  have fk2 := k2.all4.1
  go_wp2_with fail
  refine (HW2.out _).mono ?_
  rintro e w4 ⟨A4, c4, rfl, hy, hb⟩
  clear fk1 fk2
  replace k1 := k1.call hb
  replace k2 := k2.call hb
  replace hs := hs.below hb
  replace hx := hx.below hb
  replace hB := hB.trans (hb.mono hB.size)
  clear hb
  obtain ⟨yi, hyi⟩ : ∃ yi : Int, (ye : Int) = yi := ⟨_, rfl⟩
  rw [hyi]
  have HYI := Lib.hid hyi
  clear hyi
  go_upto_region 7 with fail
  go_cut [54] (fun q W => q = .bool false ∧ Below w4.heap.size w4 W)
  case first =>
    by_cases hqr : rightCm ⟨dp, dm, dt, dz⟩ = true
    · have hy0 := hq0.out hqr
      obtain rfl : yi = 0 := by rw [← HYI.out, hy0]; rfl
      obtain ⟨hYY, hiff⟩ := hinj.out hqr
      have hxy : (X == Y) = decide ((⟨cp, cm, ct, cz⟩ : Cm) = ⟨dp, dm, dt, dz⟩) := by rw [Bool.eq_iff_iff, beq_iff_eq, decide_eq_true_eq, hYY]; exact hiff
      have heq : ∀ W, (binOp .eql 23 (.agg #[.bool cp, .int .i64 cm, .int .i64 ct, .int .i64 cz]) (.agg #[.bool dp, .int .i64 dm, .int .i64 dt, .int .i64 dz])).run Try.prog W = .ok (.bool (X == Y)) W := fun W => by
        have := eqCm ⟨cp, cm, ct, cz⟩ ⟨dp, dm, dt, dz⟩ W
        rwa [← hxy] at this
      clear hYY hiff hxy hy0 hqr
      refine wp_region_held_drew (S := (fun W => (convert 24 9 (.slice A3 4 c3)).run Try.prog W = .ok (.string ⟨X.toArray⟩) W ∧ (convert 24 9 (.slice A4 Y.length c4)).run Try.prog W = .ok (.string ⟨Y.toArray⟩) W ∧ (W.cell? ⟨w.heap.size, 0, none⟩ = some (.bool cp) ∧ W.cell? ⟨w.heap.size, 1, none⟩ = some (.int .i64 cm) ∧ W.cell? ⟨w.heap.size, 2, none⟩ = some (.int .i64 ct) ∧ W.cell? ⟨w.heap.size, 3, none⟩ = some (.int .i64 cz)) ∧ W.cell? ⟨(w.heap.size + 1), 0, none⟩ = some (.bool dp) ∧ W.cell? ⟨(w.heap.size + 1), 1, none⟩ = some (.int .i64 dm) ∧ W.cell? ⟨(w.heap.size + 1), 2, none⟩ = some (.int .i64 dt) ∧ W.cell? ⟨(w.heap.size + 1), 3, none⟩ = some (.int .i64 dz))) (by kernel_rfl) ⟨str_of hx.drew, str_of hy.drew, k1.all4.1, k2.all4.1⟩ (fun hHeld => ?_)
      refine wpAnyH_take (i := 0) (v := ?vG0) rfl (by kernel_rfl) (by kernel_rfl) (by kernel_rfl) (fun _ _ _ h => h) (Or.inl ⟨by rfl, ?hG0⟩) (by assumption) ?rG0
      case hG0 => (intro w hSw; (try dsimp only at hSw); go_simp; try with_reducible rfl)
      change wpAnyH _ _ _ _ _ _ _ (Act.put _ (some 38) _) _
      simp only [Act.put, List.setIfInBounds_toArray, List.set_cons_zero, List.set_cons_succ]
      refine wpAnyH_take (i := 1) (v := ?vG1) rfl (by kernel_rfl) (by kernel_rfl) (by kernel_rfl) (fun _ _ _ h => h) (Or.inl ⟨by rfl, ?hG1⟩) (by assumption) ?rG1
      case hG1 => (intro w hSw; (try dsimp only at hSw); go_simp; try with_reducible rfl)
      change wpAnyH _ _ _ _ _ _ _ (Act.put _ (some 39) _) _
      simp only [Act.put, List.setIfInBounds_toArray, List.set_cons_zero, List.set_cons_succ]
      refine wpAnyH_take (i := 2) (v := ?vG2) rfl (by kernel_rfl) (by kernel_rfl) (by kernel_rfl) (fun _ _ _ h => h) (Or.inl ⟨by rfl, ?hG2⟩) (by assumption) ?rG2
      case hG2 => (intro w hSw; (try dsimp only at hSw); go_simp; try with_reducible rfl)
      change wpAnyH _ _ _ _ _ _ _ (Act.put _ (some 40) _) _
      simp only [Act.put, List.setIfInBounds_toArray, List.set_cons_zero, List.set_cons_succ]
      refine wpAnyH_take (i := 3) (v := ?vG3) rfl (by kernel_rfl) (by kernel_rfl) (by kernel_rfl) (fun _ _ _ h => h) (Or.inl ⟨by rfl, ?hG3⟩) (by assumption) ?rG3
      case hG3 => (intro w hSw; (try dsimp only at hSw); go_simp; try with_reducible rfl)
      change wpAnyH _ _ _ _ _ _ _ (Act.put _ (some 41) _) _
      simp only [Act.put, List.setIfInBounds_toArray, List.set_cons_zero, List.set_cons_succ]
      refine wpAnyH_take (i := 4) (v := ?vG4) rfl (by kernel_rfl) (by kernel_rfl) (by kernel_rfl) (fun _ _ _ h => h) (Or.inl ⟨by rfl, ?hG4⟩) (by assumption) ?rG4
      case hG4 => (intro w hSw; (try dsimp only at hSw); go_simp; try with_reducible rfl)
      change wpAnyH _ _ _ _ _ _ _ (Act.put _ (some 42) _) _
      simp only [Act.put, List.setIfInBounds_toArray, List.set_cons_zero, List.set_cons_succ]
      refine wpAnyH_take (i := 5) (v := ?vG5) rfl (by kernel_rfl) (by kernel_rfl) (by kernel_rfl) (fun _ _ _ h => h) (Or.inl ⟨by rfl, ?hG5⟩) (by assumption) ?rG5
      case hG5 => (intro w hSw; (try dsimp only at hSw); go_simp; try with_reducible rfl)
      change wpAnyH _ _ _ _ _ _ _ (Act.put _ (some 43) _) _
      simp only [Act.put, List.setIfInBounds_toArray, List.set_cons_zero, List.set_cons_succ]
      refine wpAnyH_take (i := 6) (v := ?vG6) rfl (by kernel_rfl) (by kernel_rfl) (by kernel_rfl) (fun _ _ _ h => h) (Or.inl ⟨by rfl, ?hG6⟩) (by assumption) ?rG6
      case hG6 => (intro w hSw; (try dsimp only at hSw); go_simp; try with_reducible rfl)
      change wpAnyH _ _ _ _ _ _ _ (Act.put _ (some 44) _) _
      simp only [Act.put, List.setIfInBounds_toArray, List.set_cons_zero, List.set_cons_succ]
      refine wpAnyH_take (i := 7) (v := ?vG7) rfl (by kernel_rfl) (by kernel_rfl) (by kernel_rfl) (fun _ _ _ h => h) (Or.inl ⟨by rfl, ?hG7⟩) (by assumption) ?rG7
      case hG7 => (intro w hSw; (try dsimp only at hSw); go_simp; try with_reducible rfl)
      change wpAnyH _ _ _ _ _ _ _ (Act.put _ (some 45) _) _
      simp only [Act.put, List.setIfInBounds_toArray, List.set_cons_zero, List.set_cons_succ]
      refine wpAnyH_take (i := 8) (v := ?vG8) rfl (by kernel_rfl) (by kernel_rfl) (by kernel_rfl) (fun _ _ _ h => h) (Or.inl ⟨by rfl, ?hG8⟩) (by assumption) ?rG8
      case hG8 => (intro w hSw; (try dsimp only at hSw); go_simp; try with_reducible rfl)
      change wpAnyH _ _ _ _ _ _ _ (Act.put _ (some 46) _) _
      simp only [Act.put, List.setIfInBounds_toArray, List.set_cons_zero, List.set_cons_succ]
      refine wpAnyH_take (i := 9) (v := ?vG9) rfl (by kernel_rfl) (by kernel_rfl) (by kernel_rfl) (fun _ _ _ h => h) (Or.inl ⟨by rfl, ?hG9⟩) (by assumption) ?rG9
      case hG9 => (intro w hSw; (try dsimp only at hSw); go_simp; try with_reducible rfl)
      change wpAnyH _ _ _ _ _ _ _ (Act.put _ (some 47) _) _
      simp only [Act.put, List.setIfInBounds_toArray, List.set_cons_zero, List.set_cons_succ]
      refine wpAnyH_take (i := 10) (v := ?vG10) rfl (by kernel_rfl) (by kernel_rfl) (by kernel_rfl) (fun _ _ _ h => h) (Or.inl ⟨by rfl, ?hG10⟩) (by assumption) ?rG10
      case hG10 => (intro w hSw; (try dsimp only at hSw); go_simp; try with_reducible rfl)
      change wpAnyH _ _ _ _ _ _ _ (Act.put _ (some 48) _) _
      simp only [Act.put, List.setIfInBounds_toArray, List.set_cons_zero, List.set_cons_succ]
      refine wpAnyH_take (i := 11) (v := ?vG11) rfl (by kernel_rfl) (by kernel_rfl) (by kernel_rfl) (fun _ _ _ h => h) (Or.inl ⟨by rfl, ?hG11⟩) (by assumption) ?rG11
      case hG11 => (intro w hSw; (try dsimp only at hSw); go_simp; try with_reducible rfl)
      change wpAnyH _ _ _ _ _ _ _ (Act.put _ (some 49) _) _
      simp only [Act.put, List.setIfInBounds_toArray, List.set_cons_zero, List.set_cons_succ]
      refine wpAnyH_take (i := 12) (v := ?vG12) rfl (by kernel_rfl) (by kernel_rfl) (by kernel_rfl) (fun _ _ _ h => h) (Or.inl ⟨by rfl, ?hG12⟩) (by assumption) ?rG12
      case hG12 => (intro w hSw; (try dsimp only at hSw); go_simp; try with_reducible rfl)
      change wpAnyH _ _ _ _ _ _ _ (Act.put _ (some 50) _) _
      simp only [Act.put, List.setIfInBounds_toArray, List.set_cons_zero, List.set_cons_succ]
      refine wpAnyH_take (i := 13) (v := ?vG13) rfl (by kernel_rfl) (by kernel_rfl) (by kernel_rfl) (fun _ _ _ h => h) (Or.inl ⟨by rfl, ?hG13⟩) (by assumption) ?rG13
      case hG13 => (intro w hSw; (try dsimp only at hSw); go_simp; try with_reducible rfl)
      change wpAnyH _ _ _ _ _ _ _ (Act.put _ (some 51) _) _
      simp only [Act.put, List.setIfInBounds_toArray, List.set_cons_zero, List.set_cons_succ]
      refine wpAnyH_take (i := 14) (v := ?vG14) rfl (by kernel_rfl) (by kernel_rfl) (by kernel_rfl) (fun _ _ _ h => h) (Or.inl ⟨by rfl, ?hG14⟩) (by assumption) ?rG14
      case hG14 => (intro w hSw; (try dsimp only at hSw); go_simp; try with_reducible rfl)
      change wpAnyH _ _ _ _ _ _ _ (Act.put _ (some 52) _) _
      simp only [Act.put, List.setIfInBounds_toArray, List.set_cons_zero, List.set_cons_succ]
      refine wpAnyH_take (i := 15) (v := ?vG15) rfl (by kernel_rfl) (by kernel_rfl) (by kernel_rfl) (fun _ _ _ h => h) (Or.inl ⟨by rfl, ?hG15⟩) (by assumption) ?rG15
      case hG15 => (intro w hSw; (try dsimp only at hSw); go_simp; try with_reducible rfl)
      change wpAnyH _ _ _ _ _ _ _ (Act.put _ (some 53) _) _
      simp only [Act.put, List.setIfInBounds_toArray, List.set_cons_zero, List.set_cons_succ]
      refine wpAnyH_take (i := 16) (v := ?vG16) rfl (by kernel_rfl) (by kernel_rfl) (by kernel_rfl) (fun _ _ _ h => h) (Or.inl ⟨by rfl, ?hG16⟩) (by assumption) ?rG16
      case hG16 => (intro w hSw; (try dsimp only at hSw); go_simp; try with_reducible rfl)
      change wpAnyH _ _ _ _ _ _ _ (Act.put _ (some 54) _) _
      simp only [Act.put, List.setIfInBounds_toArray, List.set_cons_zero, List.set_cons_succ]
      refine wpAnyH_done (by kernel_rfl) ?_ _
      go_wp2_with fail
      go_meet
      exact ⟨by first | rfl | (simp; done), (Below.refl _ w4).drew⟩
    · have hy0 := hq1.out hqr
      obtain rfl : yi = 1 := by rw [← HYI.out, hy0]; rfl
      clear hy0 hqr
      refine wp_region_held_drew (S := fun _ => True) (by kernel_rfl) trivial (fun hHeld => ?_)
      refine wpAnyH_take (i := 0) (v := ?vH0) rfl (by kernel_rfl) (by kernel_rfl) (by kernel_rfl) (fun _ _ _ h => h) (Or.inl ⟨by rfl, ?hH0⟩) (by assumption) ?rH0
      case hH0 => (intro w hSw; (try dsimp only at hSw); go_simp; try with_reducible rfl)
      change wpAnyH _ _ _ _ _ _ _ (Act.put _ (some 38) _) _
      simp only [Act.put, List.setIfInBounds_toArray, List.set_cons_zero, List.set_cons_succ]
      refine wpAnyH_take (i := 1) (v := ?vH1) rfl (by kernel_rfl) (by kernel_rfl) (by kernel_rfl) (fun _ _ _ h => h) (Or.inl ⟨by rfl, ?hH1⟩) (by assumption) ?rH1
      case hH1 => (intro w hSw; (try dsimp only at hSw); go_simp; try with_reducible rfl)
      change wpAnyH _ _ _ _ _ _ _ (Act.put _ (some 39) _) _
      simp only [Act.put, List.setIfInBounds_toArray, List.set_cons_zero, List.set_cons_succ]
      refine wpAnyH_take (i := 2) (v := ?vH2) rfl (by kernel_rfl) (by kernel_rfl) (by kernel_rfl) (fun _ _ _ h => h) (Or.inl ⟨by rfl, ?hH2⟩) (by assumption) ?rH2
      case hH2 => (intro w hSw; (try dsimp only at hSw); go_simp; try with_reducible rfl)
      change wpAnyH _ _ _ _ _ _ _ (Act.put _ (some 40) _) _
      simp only [Act.put, List.setIfInBounds_toArray, List.set_cons_zero, List.set_cons_succ]
      refine wpAnyH_take (i := 3) (v := ?vH3) rfl (by kernel_rfl) (by kernel_rfl) (by kernel_rfl) (fun _ _ _ h => h) (Or.inl ⟨by rfl, ?hH3⟩) (by assumption) ?rH3
      case hH3 => (intro w hSw; (try dsimp only at hSw); go_simp; try with_reducible rfl)
      change wpAnyH _ _ _ _ _ _ _ (Act.put _ (some 41) _) _
      simp only [Act.put, List.setIfInBounds_toArray, List.set_cons_zero, List.set_cons_succ]
      refine wpAnyH_take (i := 4) (v := ?vH4) rfl (by kernel_rfl) (by kernel_rfl) (by kernel_rfl) (fun _ _ _ h => h) (Or.inl ⟨by rfl, ?hH4⟩) (by assumption) ?rH4
      case hH4 => (intro w hSw; (try dsimp only at hSw); go_simp; try with_reducible rfl)
      change wpAnyH _ _ _ _ _ _ _ (Act.put _ (some 42) _) _
      simp only [Act.put, List.setIfInBounds_toArray, List.set_cons_zero, List.set_cons_succ]
      refine wpAnyH_take (i := 5) (v := ?vH5) rfl (by kernel_rfl) (by kernel_rfl) (by kernel_rfl) (fun _ _ _ h => h) (Or.inl ⟨by rfl, ?hH5⟩) (by assumption) ?rH5
      case hH5 => (intro w hSw; (try dsimp only at hSw); go_simp; try with_reducible rfl)
      change wpAnyH _ _ _ _ _ _ _ (Act.put _ (some 43) _) _
      simp only [Act.put, List.setIfInBounds_toArray, List.set_cons_zero, List.set_cons_succ]
      refine wpAnyH_take (i := 6) (v := ?vH6) rfl (by kernel_rfl) (by kernel_rfl) (by kernel_rfl) (fun _ _ _ h => h) (Or.inl ⟨by rfl, ?hH6⟩) (by assumption) ?rH6
      case hH6 => (intro w hSw; (try dsimp only at hSw); go_simp; try with_reducible rfl)
      change wpAnyH _ _ _ _ _ _ _ (Act.put _ (some 44) _) _
      simp only [Act.put, List.setIfInBounds_toArray, List.set_cons_zero, List.set_cons_succ]
      refine wpAnyH_take (i := 7) (v := undef) rfl (by kernel_rfl) (by kernel_rfl) (by kernel_rfl) (fun _ _ _ h => h) (Or.inr ⟨by rfl, rfl⟩) (by assumption) ?_
      change wpAnyH _ _ _ _ _ _ _ (Act.put _ (some 45) _) _
      simp only [Act.put, List.setIfInBounds_toArray, List.set_cons_zero, List.set_cons_succ]
      refine wpAnyH_take (i := 8) (v := undef) rfl (by kernel_rfl) (by kernel_rfl) (by kernel_rfl) (fun _ _ _ h => h) (Or.inr ⟨by rfl, rfl⟩) (by assumption) ?_
      change wpAnyH _ _ _ _ _ _ _ (Act.put _ (some 46) _) _
      simp only [Act.put, List.setIfInBounds_toArray, List.set_cons_zero, List.set_cons_succ]
      refine wpAnyH_take (i := 9) (v := undef) rfl (by kernel_rfl) (by kernel_rfl) (by kernel_rfl) (fun _ _ _ h => h) (Or.inr ⟨by rfl, rfl⟩) (by assumption) ?_
      change wpAnyH _ _ _ _ _ _ _ (Act.put _ (some 47) _) _
      simp only [Act.put, List.setIfInBounds_toArray, List.set_cons_zero, List.set_cons_succ]
      refine wpAnyH_take (i := 10) (v := undef) rfl (by kernel_rfl) (by kernel_rfl) (by kernel_rfl) (fun _ _ _ h => h) (Or.inr ⟨by rfl, rfl⟩) (by assumption) ?_
      change wpAnyH _ _ _ _ _ _ _ (Act.put _ (some 48) _) _
      simp only [Act.put, List.setIfInBounds_toArray, List.set_cons_zero, List.set_cons_succ]
      refine wpAnyH_take (i := 11) (v := undef) rfl (by kernel_rfl) (by kernel_rfl) (by kernel_rfl) (fun _ _ _ h => h) (Or.inr ⟨by rfl, rfl⟩) (by assumption) ?_
      change wpAnyH _ _ _ _ _ _ _ (Act.put _ (some 49) _) _
      simp only [Act.put, List.setIfInBounds_toArray, List.set_cons_zero, List.set_cons_succ]
      refine wpAnyH_take (i := 12) (v := undef) rfl (by kernel_rfl) (by kernel_rfl) (by kernel_rfl) (fun _ _ _ h => h) (Or.inr ⟨by rfl, rfl⟩) (by assumption) ?_
      change wpAnyH _ _ _ _ _ _ _ (Act.put _ (some 50) _) _
      simp only [Act.put, List.setIfInBounds_toArray, List.set_cons_zero, List.set_cons_succ]
      refine wpAnyH_take (i := 13) (v := undef) rfl (by kernel_rfl) (by kernel_rfl) (by kernel_rfl) (fun _ _ _ h => h) (Or.inr ⟨by rfl, rfl⟩) (by assumption) ?_
      change wpAnyH _ _ _ _ _ _ _ (Act.put _ (some 51) _) _
      simp only [Act.put, List.setIfInBounds_toArray, List.set_cons_zero, List.set_cons_succ]
      refine wpAnyH_take (i := 14) (v := undef) rfl (by kernel_rfl) (by kernel_rfl) (by kernel_rfl) (fun _ _ _ h => h) (Or.inr ⟨by rfl, rfl⟩) (by assumption) ?_
      change wpAnyH _ _ _ _ _ _ _ (Act.put _ (some 52) _) _
      simp only [Act.put, List.setIfInBounds_toArray, List.set_cons_zero, List.set_cons_succ]
      refine wpAnyH_take (i := 15) (v := undef) rfl (by kernel_rfl) (by kernel_rfl) (by kernel_rfl) (fun _ _ _ h => h) (Or.inr ⟨by rfl, rfl⟩) (by assumption) ?_
      change wpAnyH _ _ _ _ _ _ _ (Act.put _ (some 53) _) _
      simp only [Act.put, List.setIfInBounds_toArray, List.set_cons_zero, List.set_cons_succ]
      refine wpAnyH_take (i := 16) (v := ?vH16) rfl (by kernel_rfl) (by kernel_rfl) (by kernel_rfl) (fun _ _ _ h => h) (Or.inl ⟨by rfl, ?hH16⟩) (by assumption) ?rH16
      case hH16 => (intro w hSw; (try dsimp only at hSw); go_simp; try with_reducible rfl)
      change wpAnyH _ _ _ _ _ _ _ (Act.put _ (some 54) _) _
      simp only [Act.put, List.setIfInBounds_toArray, List.set_cons_zero, List.set_cons_succ]
      refine wpAnyH_done (by kernel_rfl) ?_ _
      go_wp2_with fail
      go_meet
      exact ⟨by first | rfl | (simp; done), (Below.refl _ w4).drew⟩
  case rest =>
    obtain ⟨rfl, hb⟩ := hcut
    replace k1 := k1.call hb
    replace k2 := k2.call hb
    replace hs := hs.below hb
    replace hx := hx.below hb
    replace hy := hy.below hb
    replace hB := hB.trans (hb.mono hB.size)
    clear hb
    clear hy k2
    obtain ⟨m, hm⟩ : ∃ m : Nat, cz = (m : Int) + 4 := ⟨(cz - 4).toNat, by omega⟩
    have hm3 : m ≤ 2996 := by omega
    have g2 : (4 : Int) ≤ cz := by omega
    have g3 : cz ≤ 3000 := by omega
    have g5 : IntKind.i64.wrap (cz - 4) = (m : Int) := by rw [IntWalk.i64_in _ (by omega)]; omega
    have HM := Lib.hid hm
    clear hm v5 v6 v7 hbig
    have fk1 := k1.all4.1
    go_upto_region 10 with fail
    go_cut [13] (fun q W => ∃ A7 d7, q = .slice A7 (4 + m) d7 ∧ Bs W A7 (4 + m) d7 (X ++ List.replicate m 0) ∧ Below wc.heap.size wc W)
    case first =>
      have hB0 : Below wc.heap.size wc (wc.drew.alloc (.cells #[] 5)) := (Below.refl _ wc).drew.alloc (by simp) _
      have hkx := k1.2.2
      have k1a : Box (wc.drew.alloc (.cells #[] 5)) w.heap.size [.bool cp, .int .i64 cm, .int .i64 ct, .int .i64 cz] := Box.alloc (w := wc.drew) k1 _
      have ka := k1a.all4.1
      go_region_held3 (fun W => W.cell? ⟨w.heap.size, 0, none⟩ = some (.bool cp) ∧ W.cell? ⟨w.heap.size, 1, none⟩ = some (.int .i64 cm) ∧ W.cell? ⟨w.heap.size, 2, none⟩ = some (.int .i64 ct) ∧ W.cell? ⟨w.heap.size, 3, none⟩ = some (.int .i64 cz))
        (go_keep)
        (first
          | (refine step_app2 rfl (.tmp 72) (.tmp 73) 24 rfl wc.heap.size 5 Try.underlying24 byte_info (some ⟨wc.heap.size, 0, none⟩) 0 0 [] rfl (own_empty wc.drew _ _ (Nat.le_refl _)) A3 4 c3 _ rfl (hx.drew.alloc _) (by omega) (by simp) ?_; intro A6 c6 w6 hown6 hgr6 hat6; rw [Nat.zero_add] at hown6; rw [List.nil_append] at hown6; rw [Nat.zero_add]; have k16 : Box w6 w.heap.size [.bool cp, .int .i64 cm, .int .i64 ct, .int .i64 cz] := k1a.grown hgr6 (by simp [rowOf]; omega); have kb := k16.all4.1; have hB6 : Below wc.heap.size wc w6 := hB0.grown hgr6 (by simp) (fun q hq => by simp [rowOf] at hq; omega); have hs6 := hB6.size)
          | go_loud (refine step_appz rfl (.tmp 74) (.tmp 77) 24 3 rfl wc.heap.size 5 Try.underlying24 Try.underlying3 byte_info A6 4 c6 _ rfl hown6 m rfl (by omega) hs6 ?_; intro A7 c7 w7 hown7 hgr7 hat7; have k17 : Box w7 w.heap.size [.bool cp, .int .i64 cm, .int .i64 ct, .int .i64 cz] := k16.grown hgr7 (fun e => by have := hown6.row_ge _ e.symm; omega); have kc := k17.all4.1))
      all_goals
        go_wp2_with fail
        go_meet
        exact ⟨A7, c7, rfl, hown7.bs, hB6.grown hgr7 hs6 (fun q hq => hown6.row_ge q hq)⟩
    case rest =>
      obtain ⟨A7, d7, rfl, hall, hb⟩ := hcut
      clear fk1
      replace k1 := k1.call hb
      replace hs := hs.below hb
      replace hx := hx.below hb
      replace hB := hB.trans (hb.mono hB.size)
      clear hb
      have hRa := Lib.hid (fun W h => HRG.out W A7 (4 + m) d7 (X ++ List.replicate m 0) h (by omega))
      have hq := (hrd.out (List.replicate m 0)).1 (by rw [List.length_replicate]; have := HM.out; omega)
      rw [hq.1, hq.2] at hRa
      clear hq
      obtain ⟨k, hk, hkm⟩ : ∃ k : Nat, le % (m + 4) = k ∧ k < m + 4 := ⟨_, rfl, Nat.mod_lt _ (by omega)⟩
      have hkt : ((le : Nat) : Int).tmod cz = (k : Int) := by
        rw [Int.tmod_eq_emod_of_nonneg (by omega), ← hk, HM.out]
        have := Int.natCast_emod le (m + 4)
        rw [this]
        congr 1
      obtain ⟨A8, d8, hsl8, hcut8⟩ := hall.slice_r Try.underlying24 byte_size (r := k) (by omega)
      have hsl9 := fun W => hsl8 W (k : Int) rfl
      clear hsl8 hk
      have hRb := Lib.hid (fun W h => HRG.out W A8 k d8 ((X ++ List.replicate m 0).take k) h (by omega))
      have hz2 : readCm ((X ++ List.replicate m 0).take k) = zeroCm ∧ ((k < 4 → cmE ((X ++ List.replicate m 0).take k) = 2) ∧ (4 ≤ k → cmE ((X ++ List.replicate m 0).take k) = 4)) := by
        have hl4 := hx.len
        have q1 : k < 4 → cmE ((X ++ List.replicate m 0).take k) = 2 := fun h => by
          unfold cmE
          rw [if_pos (by rw [List.length_take]; omega)]
        have q2 : 4 ≤ k → cmE ((X ++ List.replicate m 0).take k) = 4 := fun h => by
          have e : (X ++ List.replicate m 0).take k = X ++ List.replicate (k - 4) 0 := by
            rw [List.take_append, List.take_of_length_le (by omega), List.take_replicate, hl4, Nat.min_eq_left (by omega)]
          rw [e]
          exact (hrd.out (List.replicate (k - 4) 0)).2 (by rw [List.length_replicate]; have := HM.out; omega)
        refine ⟨?_, q1, q2⟩
        unfold readCm
        rw [if_neg]
        by_cases h : k < 4
        · rw [q1 h]; omega
        · rw [q2 (by omega)]; omega
      rw [hz2.1] at hRb
      obtain ⟨ek, hek⟩ : ∃ ek, cmE ((X ++ List.replicate m 0).take k) = ek := ⟨_, rfl⟩
      rw [hek] at hRb hz2
      have hz3 := Lib.hid hz2.2
      clear hz2 hek
      generalize X ++ List.replicate m 0 = L at *
      have heqc : ∀ W, (binOp .neq 23 (.agg #[.bool cp, .int .i64 cm, .int .i64 ct, .int .i64 cz]) (.agg #[.bool cp, .int .i64 cm, .int .i64 ct, .int .i64 cz])).run Try.prog W = .ok (.bool false) W := fun W => by
        have := neqCm ⟨cp, cm, ct, cz⟩ ⟨cp, cm, ct, cz⟩ W
        rwa [decide_eq_true rfl] at this
      have heqz2 : ∀ W, (binOp .neq 23 (.agg #[.bool false, .int .i64 0, .int .i64 0, .int .i64 0]) (.agg #[.bool false, .int .i64 0, .int .i64 0, .int .i64 0])).run Try.prog W = .ok (.bool false) W := fun W => by
        have := neqCm zeroCm zeroCm W
        rwa [decide_eq_true rfl] at this
      dsimp only [cmW, zeroCm] at hRa hRb
      have fk1 := k1.all4.1
      go_wp2_with fail
      refine (hRa.out _ hall).mono ?_
      rintro e w8 ⟨rfl, hb⟩
      clear fk1
      replace k1 := k1.call hb
      replace hs := hs.below hb
      replace hx := hx.below hb
      replace hall := hall.below hb
      replace hcut8 := hcut8.below hb
      replace hB := hB.trans (hb.mono hB.size)
      clear hb
      have k8 := Box.new w8 [.bool cp, .int .i64 cm, .int .i64 ct, .int .i64 cz] 23
      replace k1 := k1.alloc (.cells #[.bool cp, .int .i64 cm, .int .i64 ct, .int .i64 cz] 23)
      replace hs := hs.alloc (.cells #[.bool cp, .int .i64 cm, .int .i64 ct, .int .i64 cz] 23)
      replace hx := hx.alloc (.cells #[.bool cp, .int .i64 cm, .int .i64 ct, .int .i64 cz] 23)
      replace hall := hall.alloc (.cells #[.bool cp, .int .i64 cm, .int .i64 ct, .int .i64 cz] 23)
      replace hcut8 := hcut8.alloc (.cells #[.bool cp, .int .i64 cm, .int .i64 ct, .int .i64 cz] 23)
      replace hB := hB.alloc hB.size (.cells #[.bool cp, .int .i64 cm, .int .i64 ct, .int .i64 cz] 23)
      have fk1 := k1.all4.1
      have fk8 := k8.all4.1
      go_wp2_with fail
      refine (hRb.out _ hcut8).mono ?_
      rintro e w9 ⟨rfl, hb⟩
      clear fk1 fk8
      replace k1 := k1.call hb
      replace hs := hs.below hb
      replace hx := hx.below hb
      replace hall := hall.below hb
      replace hcut8 := hcut8.below hb
      replace k8 := k8.call hb
      replace hB := hB.trans (hb.mono hB.size)
      clear hb
      have k9 := Box.new w9 [.bool false, .int .i64 0, .int .i64 0, .int .i64 0] 23
      replace k1 := k1.alloc (.cells #[.bool false, .int .i64 0, .int .i64 0, .int .i64 0] 23)
      replace hs := hs.alloc (.cells #[.bool false, .int .i64 0, .int .i64 0, .int .i64 0] 23)
      replace hx := hx.alloc (.cells #[.bool false, .int .i64 0, .int .i64 0, .int .i64 0] 23)
      replace hall := hall.alloc (.cells #[.bool false, .int .i64 0, .int .i64 0, .int .i64 0] 23)
      replace hcut8 := hcut8.alloc (.cells #[.bool false, .int .i64 0, .int .i64 0, .int .i64 0] 23)
      replace k8 := k8.alloc (.cells #[.bool false, .int .i64 0, .int .i64 0, .int .i64 0] 23)
      replace hB := hB.alloc hB.size (.cells #[.bool false, .int .i64 0, .int .i64 0, .int .i64 0] 23)
      have fk1 := k1.all4.1
      have fk8 := k8.all4.1
      have fk9 := k9.all4.1
      by_cases hk4 : k < 4
      · obtain rfl : ek = 2 := hz3.out.1 hk4
        have q1 : (k : Int) < 4 := by omega
        go_upto_region 18 with fail
        clear fk1 fk8 fk9
        clear hx hall hcut8 k1 k8 k9
        go_wp2_with fail
        refine (HA.out _ hs).mono ?_
        rintro e w20 ⟨rfl, hb⟩
        replace hs := hs.below hb
        replace hB := hB.trans (hb.mono hB.size)
        clear hb
        have k20 := Box.new w20 [.bool rp, .int .i64 rm, .int .i64 rt, .int .i64 rz] 23
        replace hs := hs.alloc (.cells #[.bool rp, .int .i64 rm, .int .i64 rt, .int .i64 rz] 23)
        replace hB := hB.alloc hB.size (.cells #[.bool rp, .int .i64 rm, .int .i64 rt, .int .i64 rz] 23)
        have fk20 := k20.all4.1
        by_cases he : er = 0
        · subst he
          obtain ⟨hrr, hrz, hrw⟩ := hsr.out rfl
          obtain ⟨hn4, hn4'⟩ := hln.out rfl
          obtain ⟨b1, b2, b3, b4, b5, b6, b7⟩ := (rightCm_iff _).1 hrr
          simp only at b1 b2 b3 b4 b5 b6 b7 hrz
          have hokr : CmOk ⟨rp, rm, rt, rz⟩ := ⟨wf_of (by simp only; omega) (by simp only; omega), wf_of (by simp only; omega) (by simp only; omega), wf_of (by simp only; omega) (by simp only; omega)⟩
          have HWr := Lib.hid (fun W => KC.write ⟨rp, rm, rt, rz⟩ W hokr)
          have HXr := Lib.hid (fun W => KC.right ⟨rp, rm, rt, rz⟩ W hokr)
          have e1 : writeCB ⟨rp, rm, rt, rz⟩ = s.take 4 := by unfold writeCB; rw [hrr]; exact hrw
          have e2 : writeCE ⟨rp, rm, rt, rz⟩ = 0 := by unfold writeCE; rw [hrr]; rfl
          have hZl : (s.take 4).length = 4 := by rw [List.length_take]; omega
          rw [e1, e2] at HWr
          unfold GivesCB at HWr
          rw [hZl] at HWr
          rw [hrr] at HXr
          have hz7 : (rz : Int) ≤ n := by omega
          dsimp only [cmW] at HWr HXr
          clear hrr e1 e2 hrw hokr hsr hne hln b1 b2 b3 b4 b5 b6 b7 hZl
          go_wp2_with fail
          refine (HWr.out _).mono ?_
          rintro e w21 ⟨A21, c21, rfl, hz, hb⟩
          clear fk20
          replace hs := hs.below hb
          replace k20 := k20.call hb
          replace hB := hB.trans (hb.mono hB.size)
          clear hb
          obtain ⟨A22, c22, hsl, hcut⟩ := hs.slice_r Try.underlying24 byte_size (r := 4) (by omega)
          have hsl2 := fun W => hsl W 4 rfl
          clear hsl
          generalize s.take 4 = Z at *
          have fk20 := k20.all4.1
          go_upto_region 22 with fail
          refine wp_region_held_drew (S := (fun W => (convert 24 9 (.slice A21 4 c21)).run Try.prog W = .ok (.string ⟨Z.toArray⟩) W ∧ (convert 24 9 (.slice A22 4 c22)).run Try.prog W = .ok (.string ⟨Z.toArray⟩) W ∧ W.cell? ⟨w20.heap.size, 0, none⟩ = some (.bool rp) ∧ W.cell? ⟨w20.heap.size, 1, none⟩ = some (.int .i64 rm) ∧ W.cell? ⟨w20.heap.size, 2, none⟩ = some (.int .i64 rt) ∧ W.cell? ⟨w20.heap.size, 3, none⟩ = some (.int .i64 rz))) (by kernel_rfl) ⟨str_of hz.drew, str_of hcut.drew, k20.all4.1⟩ (fun hHeld => ?_)
          clear fk20
          refine wpAnyH_take (i := 0) (v := ?vM0) rfl (by kernel_rfl) (by kernel_rfl) (by kernel_rfl) (fun _ _ _ h => h) (Or.inl ⟨by rfl, ?hM0⟩) (by assumption) ?rM0
          case hM0 => (intro w hSw; (try dsimp only at hSw); go_simp; try with_reducible rfl)
          change wpAnyH _ _ _ _ _ _ _ (Act.put _ (some 144) _) _
          simp only [Act.put, List.setIfInBounds_toArray, List.set_cons_zero, List.set_cons_succ]
          refine wpAnyH_take (i := 1) (v := ?vM1) rfl (by kernel_rfl) (by kernel_rfl) (by kernel_rfl) (fun _ _ _ h => h) (Or.inl ⟨by rfl, ?hM1⟩) (by assumption) ?rM1
          case hM1 => (intro w hSw; (try dsimp only at hSw); go_simp; try with_reducible rfl)
          change wpAnyH _ _ _ _ _ _ _ (Act.put _ (some 145) _) _
          simp only [Act.put, List.setIfInBounds_toArray, List.set_cons_zero, List.set_cons_succ]
          refine wpAnyH_take (i := 2) (v := ?vM2) rfl (by kernel_rfl) (by kernel_rfl) (by kernel_rfl) (fun _ _ _ h => h) (Or.inl ⟨by rfl, ?hM2⟩) (by assumption) ?rM2
          case hM2 => (intro w hSw; (try dsimp only at hSw); go_simp; try with_reducible rfl)
          change wpAnyH _ _ _ _ _ _ _ (Act.put _ (some 146) _) _
          simp only [Act.put, List.setIfInBounds_toArray, List.set_cons_zero, List.set_cons_succ]
          refine wpAnyH_take (i := 3) (v := ?vM3) rfl (by kernel_rfl) (by kernel_rfl) (by kernel_rfl) (fun _ _ _ h => h) (Or.inl ⟨by rfl, ?hM3⟩) (by assumption) ?rM3
          case hM3 => (intro w hSw; (try dsimp only at hSw); go_simp; try with_reducible rfl)
          change wpAnyH _ _ _ _ _ _ _ (Act.put _ (some 147) _) _
          simp only [Act.put, List.setIfInBounds_toArray, List.set_cons_zero, List.set_cons_succ]
          refine wpAnyH_ready (rs := [4]) (by kernel_rfl) (by simp) ?_
          refine AllReadyH.cons rfl (fun K hK => ?_) AllReadyH.nil
          go_simp
          refine (HXr.out _).mono ?_
          rintro e wa ⟨rfl, hba⟩
          go_wp2_with fail
          have hza := Bs.below (w := w21.drew) hz.drew hba
          have hsa := Bs.below (w := w21.drew) hcut.drew hba
          have k20a := Box.call (w := w21.drew) k20 hba
          refine hK.out _ _ ?_ (fun hHeld => ?_)
          · exact ⟨str_of hza, str_of hsa, k20a.all4.1⟩
          clear hK K
          try simp only [Act.put, List.setIfInBounds_toArray, List.set_cons_zero, List.set_cons_succ]
          refine wpAnyH_take (i := 5) (v := ?vM5) rfl (by kernel_rfl) (by kernel_rfl) (by kernel_rfl) (fun _ _ _ h => h) (Or.inl ⟨by rfl, ?hM5⟩) (by assumption) ?rM5
          case hM5 => (intro w hSw; (try dsimp only at hSw); go_simp; try with_reducible rfl)
          change wpAnyH _ _ _ _ _ _ _ (Act.put _ (some 149) _) _
          simp only [Act.put, List.setIfInBounds_toArray, List.set_cons_zero, List.set_cons_succ]
          refine wpAnyH_take (i := 6) (v := ?vM6) rfl (by kernel_rfl) (by kernel_rfl) (by kernel_rfl) (fun _ _ _ h => h) (Or.inl ⟨by rfl, ?hM6⟩) (by assumption) ?rM6
          case hM6 => (intro w hSw; (try dsimp only at hSw); go_simp; try with_reducible rfl)
          change wpAnyH _ _ _ _ _ _ _ (Act.put _ (some 150) _) _
          simp only [Act.put, List.setIfInBounds_toArray, List.set_cons_zero, List.set_cons_succ]
          refine wpAnyH_take (i := 7) (v := ?vM7) rfl (by kernel_rfl) (by kernel_rfl) (by kernel_rfl) (fun _ _ _ h => h) (Or.inl ⟨by rfl, ?hM7⟩) (by assumption) ?rM7
          case hM7 => (intro w hSw; (try dsimp only at hSw); go_simp; try with_reducible rfl)
          change wpAnyH _ _ _ _ _ _ _ (Act.put _ (some 151) _) _
          simp only [Act.put, List.setIfInBounds_toArray, List.set_cons_zero, List.set_cons_succ]
          refine wpAnyH_take (i := 8) (v := ?vM8) rfl (by kernel_rfl) (by kernel_rfl) (by kernel_rfl) (fun _ _ _ h => h) (Or.inl ⟨by rfl, ?hM8⟩) (by assumption) ?rM8
          case hM8 => (intro w hSw; (try dsimp only at hSw); go_simp; try with_reducible rfl)
          change wpAnyH _ _ _ _ _ _ _ (Act.put _ (some 152) _) _
          simp only [Act.put, List.setIfInBounds_toArray, List.set_cons_zero, List.set_cons_succ]
          refine wpAnyH_take (i := 9) (v := ?vM9) rfl (by kernel_rfl) (by kernel_rfl) (by kernel_rfl) (fun _ _ _ h => h) (Or.inl ⟨by rfl, ?hM9⟩) (by assumption) ?rM9
          case hM9 => (intro w hSw; (try dsimp only at hSw); go_simp; try with_reducible rfl)
          change wpAnyH _ _ _ _ _ _ _ (Act.put _ (some 153) _) _
          simp only [Act.put, List.setIfInBounds_toArray, List.set_cons_zero, List.set_cons_succ]
          refine wpAnyH_take (i := 10) (v := ?vM10) rfl (by kernel_rfl) (by kernel_rfl) (by kernel_rfl) (fun _ _ _ h => h) (Or.inl ⟨by rfl, ?hM10⟩) (by assumption) ?rM10
          case hM10 => (intro w hSw; (try dsimp only at hSw); go_simp; try with_reducible rfl)
          change wpAnyH _ _ _ _ _ _ _ (Act.put _ (some 154) _) _
          simp only [Act.put, List.setIfInBounds_toArray, List.set_cons_zero, List.set_cons_succ]
          refine wpAnyH_take (i := 11) (v := ?vM11) rfl (by kernel_rfl) (by kernel_rfl) (by kernel_rfl) (fun _ _ _ h => h) (Or.inl ⟨by rfl, ?hM11⟩) (by assumption) ?rM11
          case hM11 => (intro w hSw; (try dsimp only at hSw); go_simp; try with_reducible rfl)
          change wpAnyH _ _ _ _ _ _ _ (Act.put _ (some 155) _) _
          simp only [Act.put, List.setIfInBounds_toArray, List.set_cons_zero, List.set_cons_succ]
          refine wpAnyH_take (i := 12) (v := ?vM12) rfl (by kernel_rfl) (by kernel_rfl) (by kernel_rfl) (fun _ _ _ h => h) (Or.inl ⟨by rfl, ?hM12⟩) (by assumption) ?rM12
          case hM12 => (intro w hSw; (try dsimp only at hSw); go_simp; try with_reducible rfl)
          change wpAnyH _ _ _ _ _ _ _ (Act.put _ (some 156) _) _
          simp only [Act.put, List.setIfInBounds_toArray, List.set_cons_zero, List.set_cons_succ]
          refine wpAnyH_take (i := 13) (v := ?vM13) rfl (by kernel_rfl) (by kernel_rfl) (by kernel_rfl) (fun _ _ _ h => h) (Or.inl ⟨by rfl, ?hM13⟩) (by assumption) ?rM13
          case hM13 => (intro w hSw; (try dsimp only at hSw); go_simp; try with_reducible rfl)
          change wpAnyH _ _ _ _ _ _ _ (Act.put _ (some 157) _) _
          simp only [Act.put, List.setIfInBounds_toArray, List.set_cons_zero, List.set_cons_succ]
          refine wpAnyH_take (i := 14) (v := ?vM14) rfl (by kernel_rfl) (by kernel_rfl) (by kernel_rfl) (fun _ _ _ h => h) (Or.inl ⟨by rfl, ?hM14⟩) (by assumption) ?rM14
          case hM14 => (intro w hSw; (try dsimp only at hSw); go_simp; try with_reducible rfl)
          change wpAnyH _ _ _ _ _ _ _ (Act.put _ (some 158) _) _
          simp only [Act.put, List.setIfInBounds_toArray, List.set_cons_zero, List.set_cons_succ]
          refine wpAnyH_take (i := 15) (v := ?vM15) rfl (by kernel_rfl) (by kernel_rfl) (by kernel_rfl) (fun _ _ _ h => h) (Or.inl ⟨by rfl, ?hM15⟩) (by assumption) ?rM15
          case hM15 => (intro w hSw; (try dsimp only at hSw); go_simp; try with_reducible rfl)
          change wpAnyH _ _ _ _ _ _ _ (Act.put _ (some 159) _) _
          simp only [Act.put, List.setIfInBounds_toArray, List.set_cons_zero, List.set_cons_succ]
          refine wpAnyH_take (i := 16) (v := ?vM16) rfl (by kernel_rfl) (by kernel_rfl) (by kernel_rfl) (fun _ _ _ h => h) (Or.inl ⟨by rfl, ?hM16⟩) (by assumption) ?rM16
          case hM16 => (intro w hSw; (try dsimp only at hSw); go_simp; try with_reducible rfl)
          change wpAnyH _ _ _ _ _ _ _ (Act.put _ (some 160) _) _
          simp only [Act.put, List.setIfInBounds_toArray, List.set_cons_zero, List.set_cons_succ]
          refine wpAnyH_take (i := 17) (v := ?vM17) rfl (by kernel_rfl) (by kernel_rfl) (by kernel_rfl) (fun _ _ _ h => h) (Or.inl ⟨by rfl, ?hM17⟩) (by assumption) ?rM17
          case hM17 => (intro w hSw; (try dsimp only at hSw); go_simp; try with_reducible rfl)
          change wpAnyH _ _ _ _ _ _ _ (Act.put _ (some 161) _) _
          simp only [Act.put, List.setIfInBounds_toArray, List.set_cons_zero, List.set_cons_succ]
          refine wpAnyH_take (i := 18) (v := ?vM18) rfl (by kernel_rfl) (by kernel_rfl) (by kernel_rfl) (fun _ _ _ h => h) (Or.inl ⟨by rfl, ?hM18⟩) (by assumption) ?rM18
          case hM18 => (intro w hSw; (try dsimp only at hSw); go_simp; try with_reducible rfl)
          change wpAnyH _ _ _ _ _ _ _ (Act.put _ (some 162) _) _
          simp only [Act.put, List.setIfInBounds_toArray, List.set_cons_zero, List.set_cons_succ]
          refine wpAnyH_take (i := 19) (v := ?vM19) rfl (by kernel_rfl) (by kernel_rfl) (by kernel_rfl) (fun _ _ _ h => h) (Or.inl ⟨by rfl, ?hM19⟩) (by assumption) ?rM19
          case hM19 => (intro w hSw; (try dsimp only at hSw); go_simp; try with_reducible rfl)
          change wpAnyH _ _ _ _ _ _ _ (Act.put _ (some 163) _) _
          simp only [Act.put, List.setIfInBounds_toArray, List.set_cons_zero, List.set_cons_succ]
          refine wpAnyH_take (i := 20) (v := ?vM20) rfl (by kernel_rfl) (by kernel_rfl) (by kernel_rfl) (fun _ _ _ h => h) (Or.inl ⟨by rfl, ?hM20⟩) (by assumption) ?rM20
          case hM20 => (intro w hSw; (try dsimp only at hSw); go_simp; try with_reducible rfl)
          change wpAnyH _ _ _ _ _ _ _ (Act.put _ (some 164) _) _
          simp only [Act.put, List.setIfInBounds_toArray, List.set_cons_zero, List.set_cons_succ]
          refine wpAnyH_take (i := 21) (v := ?vM21) rfl (by kernel_rfl) (by kernel_rfl) (by kernel_rfl) (fun _ _ _ h => h) (Or.inl ⟨by rfl, ?hM21⟩) (by assumption) ?rM21
          case hM21 => (intro w hSw; (try dsimp only at hSw); go_simp; try with_reducible rfl)
          change wpAnyH _ _ _ _ _ _ _ (Act.put _ (some 8) _) _
          simp only [Act.put, List.setIfInBounds_toArray, List.set_cons_zero, List.set_cons_succ]
          refine wpAnyH_done (by kernel_rfl) ?_ _
          go_wp2_with fail
          go_ret
          exact ⟨by first | rfl | (simp; done), hB.trans (((Below.refl _ _).drew.trans hba).mono hB.size)⟩
        · have hz0 := hne.out he
          have hzz : ((er : Int) != 0) = true := by rw [bne_iff_ne]; omega
          rw [Cm.eq_iff] at hz0
          simp only [zeroCm] at hz0
          obtain ⟨rfl, rfl, rfl, rfl⟩ := hz0
          have heqz : ∀ W, (binOp .eql 23 (.agg #[.bool false, .int .i64 0, .int .i64 0, .int .i64 0]) (.agg #[.bool false, .int .i64 0, .int .i64 0, .int .i64 0])).run Try.prog W = .ok (.bool true) W := fun W => by
            have := eqCm zeroCm zeroCm W
            rwa [decide_eq_true rfl] at this
          clear he
          go_wp2_with fail
          go_ret
          exact ⟨by first | rfl | (simp; done), hB⟩
      · obtain rfl : ek = 4 := hz3.out.2 (by omega)
        have q1 : ¬ (k : Int) < 4 := by omega
        have q2 : (4 : Int) ≤ (k : Int) := by omega
        go_upto_region 18 with fail
        clear fk1 fk8 fk9
        clear hx hall hcut8 k1 k8 k9
        go_wp2_with fail
        refine (HA.out _ hs).mono ?_
        rintro e w20 ⟨rfl, hb⟩
        replace hs := hs.below hb
        replace hB := hB.trans (hb.mono hB.size)
        clear hb
        have k20 := Box.new w20 [.bool rp, .int .i64 rm, .int .i64 rt, .int .i64 rz] 23
        replace hs := hs.alloc (.cells #[.bool rp, .int .i64 rm, .int .i64 rt, .int .i64 rz] 23)
        replace hB := hB.alloc hB.size (.cells #[.bool rp, .int .i64 rm, .int .i64 rt, .int .i64 rz] 23)
        have fk20 := k20.all4.1
        by_cases he : er = 0
        · subst he
          obtain ⟨hrr, hrz, hrw⟩ := hsr.out rfl
          obtain ⟨hn4, hn4'⟩ := hln.out rfl
          obtain ⟨b1, b2, b3, b4, b5, b6, b7⟩ := (rightCm_iff _).1 hrr
          simp only at b1 b2 b3 b4 b5 b6 b7 hrz
          have hokr : CmOk ⟨rp, rm, rt, rz⟩ := ⟨wf_of (by simp only; omega) (by simp only; omega), wf_of (by simp only; omega) (by simp only; omega), wf_of (by simp only; omega) (by simp only; omega)⟩
          have HWr := Lib.hid (fun W => KC.write ⟨rp, rm, rt, rz⟩ W hokr)
          have HXr := Lib.hid (fun W => KC.right ⟨rp, rm, rt, rz⟩ W hokr)
          have e1 : writeCB ⟨rp, rm, rt, rz⟩ = s.take 4 := by unfold writeCB; rw [hrr]; exact hrw
          have e2 : writeCE ⟨rp, rm, rt, rz⟩ = 0 := by unfold writeCE; rw [hrr]; rfl
          have hZl : (s.take 4).length = 4 := by rw [List.length_take]; omega
          rw [e1, e2] at HWr
          unfold GivesCB at HWr
          rw [hZl] at HWr
          rw [hrr] at HXr
          have hz7 : (rz : Int) ≤ n := by omega
          dsimp only [cmW] at HWr HXr
          clear hrr e1 e2 hrw hokr hsr hne hln b1 b2 b3 b4 b5 b6 b7 hZl
          go_wp2_with fail
          refine (HWr.out _).mono ?_
          rintro e w21 ⟨A21, c21, rfl, hz, hb⟩
          clear fk20
          replace hs := hs.below hb
          replace k20 := k20.call hb
          replace hB := hB.trans (hb.mono hB.size)
          clear hb
          obtain ⟨A22, c22, hsl, hcut⟩ := hs.slice_r Try.underlying24 byte_size (r := 4) (by omega)
          have hsl2 := fun W => hsl W 4 rfl
          clear hsl
          generalize s.take 4 = Z at *
          have fk20 := k20.all4.1
          go_upto_region 22 with fail
          refine wp_region_held_drew (S := (fun W => (convert 24 9 (.slice A21 4 c21)).run Try.prog W = .ok (.string ⟨Z.toArray⟩) W ∧ (convert 24 9 (.slice A22 4 c22)).run Try.prog W = .ok (.string ⟨Z.toArray⟩) W ∧ W.cell? ⟨w20.heap.size, 0, none⟩ = some (.bool rp) ∧ W.cell? ⟨w20.heap.size, 1, none⟩ = some (.int .i64 rm) ∧ W.cell? ⟨w20.heap.size, 2, none⟩ = some (.int .i64 rt) ∧ W.cell? ⟨w20.heap.size, 3, none⟩ = some (.int .i64 rz))) (by kernel_rfl) ⟨str_of hz.drew, str_of hcut.drew, k20.all4.1⟩ (fun hHeld => ?_)
          clear fk20
          refine wpAnyH_take (i := 0) (v := ?vL0) rfl (by kernel_rfl) (by kernel_rfl) (by kernel_rfl) (fun _ _ _ h => h) (Or.inl ⟨by rfl, ?hL0⟩) (by assumption) ?rL0
          case hL0 => (intro w hSw; (try dsimp only at hSw); go_simp; try with_reducible rfl)
          change wpAnyH _ _ _ _ _ _ _ (Act.put _ (some 144) _) _
          simp only [Act.put, List.setIfInBounds_toArray, List.set_cons_zero, List.set_cons_succ]
          refine wpAnyH_take (i := 1) (v := ?vL1) rfl (by kernel_rfl) (by kernel_rfl) (by kernel_rfl) (fun _ _ _ h => h) (Or.inl ⟨by rfl, ?hL1⟩) (by assumption) ?rL1
          case hL1 => (intro w hSw; (try dsimp only at hSw); go_simp; try with_reducible rfl)
          change wpAnyH _ _ _ _ _ _ _ (Act.put _ (some 145) _) _
          simp only [Act.put, List.setIfInBounds_toArray, List.set_cons_zero, List.set_cons_succ]
          refine wpAnyH_take (i := 2) (v := ?vL2) rfl (by kernel_rfl) (by kernel_rfl) (by kernel_rfl) (fun _ _ _ h => h) (Or.inl ⟨by rfl, ?hL2⟩) (by assumption) ?rL2
          case hL2 => (intro w hSw; (try dsimp only at hSw); go_simp; try with_reducible rfl)
          change wpAnyH _ _ _ _ _ _ _ (Act.put _ (some 146) _) _
          simp only [Act.put, List.setIfInBounds_toArray, List.set_cons_zero, List.set_cons_succ]
          refine wpAnyH_take (i := 3) (v := ?vL3) rfl (by kernel_rfl) (by kernel_rfl) (by kernel_rfl) (fun _ _ _ h => h) (Or.inl ⟨by rfl, ?hL3⟩) (by assumption) ?rL3
          case hL3 => (intro w hSw; (try dsimp only at hSw); go_simp; try with_reducible rfl)
          change wpAnyH _ _ _ _ _ _ _ (Act.put _ (some 147) _) _
          simp only [Act.put, List.setIfInBounds_toArray, List.set_cons_zero, List.set_cons_succ]
          refine wpAnyH_ready (rs := [4]) (by kernel_rfl) (by simp) ?_
          refine AllReadyH.cons rfl (fun K hK => ?_) AllReadyH.nil
          go_simp
          refine (HXr.out _).mono ?_
          rintro e wa ⟨rfl, hba⟩
          go_wp2_with fail
          have hza := Bs.below (w := w21.drew) hz.drew hba
          have hsa := Bs.below (w := w21.drew) hcut.drew hba
          have k20a := Box.call (w := w21.drew) k20 hba
          refine hK.out _ _ ?_ (fun hHeld => ?_)
          · exact ⟨str_of hza, str_of hsa, k20a.all4.1⟩
          clear hK K
          try simp only [Act.put, List.setIfInBounds_toArray, List.set_cons_zero, List.set_cons_succ]
          refine wpAnyH_take (i := 5) (v := ?vL5) rfl (by kernel_rfl) (by kernel_rfl) (by kernel_rfl) (fun _ _ _ h => h) (Or.inl ⟨by rfl, ?hL5⟩) (by assumption) ?rL5
          case hL5 => (intro w hSw; (try dsimp only at hSw); go_simp; try with_reducible rfl)
          change wpAnyH _ _ _ _ _ _ _ (Act.put _ (some 149) _) _
          simp only [Act.put, List.setIfInBounds_toArray, List.set_cons_zero, List.set_cons_succ]
          refine wpAnyH_take (i := 6) (v := ?vL6) rfl (by kernel_rfl) (by kernel_rfl) (by kernel_rfl) (fun _ _ _ h => h) (Or.inl ⟨by rfl, ?hL6⟩) (by assumption) ?rL6
          case hL6 => (intro w hSw; (try dsimp only at hSw); go_simp; try with_reducible rfl)
          change wpAnyH _ _ _ _ _ _ _ (Act.put _ (some 150) _) _
          simp only [Act.put, List.setIfInBounds_toArray, List.set_cons_zero, List.set_cons_succ]
          refine wpAnyH_take (i := 7) (v := ?vL7) rfl (by kernel_rfl) (by kernel_rfl) (by kernel_rfl) (fun _ _ _ h => h) (Or.inl ⟨by rfl, ?hL7⟩) (by assumption) ?rL7
          case hL7 => (intro w hSw; (try dsimp only at hSw); go_simp; try with_reducible rfl)
          change wpAnyH _ _ _ _ _ _ _ (Act.put _ (some 151) _) _
          simp only [Act.put, List.setIfInBounds_toArray, List.set_cons_zero, List.set_cons_succ]
          refine wpAnyH_take (i := 8) (v := ?vL8) rfl (by kernel_rfl) (by kernel_rfl) (by kernel_rfl) (fun _ _ _ h => h) (Or.inl ⟨by rfl, ?hL8⟩) (by assumption) ?rL8
          case hL8 => (intro w hSw; (try dsimp only at hSw); go_simp; try with_reducible rfl)
          change wpAnyH _ _ _ _ _ _ _ (Act.put _ (some 152) _) _
          simp only [Act.put, List.setIfInBounds_toArray, List.set_cons_zero, List.set_cons_succ]
          refine wpAnyH_take (i := 9) (v := ?vL9) rfl (by kernel_rfl) (by kernel_rfl) (by kernel_rfl) (fun _ _ _ h => h) (Or.inl ⟨by rfl, ?hL9⟩) (by assumption) ?rL9
          case hL9 => (intro w hSw; (try dsimp only at hSw); go_simp; try with_reducible rfl)
          change wpAnyH _ _ _ _ _ _ _ (Act.put _ (some 153) _) _
          simp only [Act.put, List.setIfInBounds_toArray, List.set_cons_zero, List.set_cons_succ]
          refine wpAnyH_take (i := 10) (v := ?vL10) rfl (by kernel_rfl) (by kernel_rfl) (by kernel_rfl) (fun _ _ _ h => h) (Or.inl ⟨by rfl, ?hL10⟩) (by assumption) ?rL10
          case hL10 => (intro w hSw; (try dsimp only at hSw); go_simp; try with_reducible rfl)
          change wpAnyH _ _ _ _ _ _ _ (Act.put _ (some 154) _) _
          simp only [Act.put, List.setIfInBounds_toArray, List.set_cons_zero, List.set_cons_succ]
          refine wpAnyH_take (i := 11) (v := ?vL11) rfl (by kernel_rfl) (by kernel_rfl) (by kernel_rfl) (fun _ _ _ h => h) (Or.inl ⟨by rfl, ?hL11⟩) (by assumption) ?rL11
          case hL11 => (intro w hSw; (try dsimp only at hSw); go_simp; try with_reducible rfl)
          change wpAnyH _ _ _ _ _ _ _ (Act.put _ (some 155) _) _
          simp only [Act.put, List.setIfInBounds_toArray, List.set_cons_zero, List.set_cons_succ]
          refine wpAnyH_take (i := 12) (v := ?vL12) rfl (by kernel_rfl) (by kernel_rfl) (by kernel_rfl) (fun _ _ _ h => h) (Or.inl ⟨by rfl, ?hL12⟩) (by assumption) ?rL12
          case hL12 => (intro w hSw; (try dsimp only at hSw); go_simp; try with_reducible rfl)
          change wpAnyH _ _ _ _ _ _ _ (Act.put _ (some 156) _) _
          simp only [Act.put, List.setIfInBounds_toArray, List.set_cons_zero, List.set_cons_succ]
          refine wpAnyH_take (i := 13) (v := ?vL13) rfl (by kernel_rfl) (by kernel_rfl) (by kernel_rfl) (fun _ _ _ h => h) (Or.inl ⟨by rfl, ?hL13⟩) (by assumption) ?rL13
          case hL13 => (intro w hSw; (try dsimp only at hSw); go_simp; try with_reducible rfl)
          change wpAnyH _ _ _ _ _ _ _ (Act.put _ (some 157) _) _
          simp only [Act.put, List.setIfInBounds_toArray, List.set_cons_zero, List.set_cons_succ]
          refine wpAnyH_take (i := 14) (v := ?vL14) rfl (by kernel_rfl) (by kernel_rfl) (by kernel_rfl) (fun _ _ _ h => h) (Or.inl ⟨by rfl, ?hL14⟩) (by assumption) ?rL14
          case hL14 => (intro w hSw; (try dsimp only at hSw); go_simp; try with_reducible rfl)
          change wpAnyH _ _ _ _ _ _ _ (Act.put _ (some 158) _) _
          simp only [Act.put, List.setIfInBounds_toArray, List.set_cons_zero, List.set_cons_succ]
          refine wpAnyH_take (i := 15) (v := ?vL15) rfl (by kernel_rfl) (by kernel_rfl) (by kernel_rfl) (fun _ _ _ h => h) (Or.inl ⟨by rfl, ?hL15⟩) (by assumption) ?rL15
          case hL15 => (intro w hSw; (try dsimp only at hSw); go_simp; try with_reducible rfl)
          change wpAnyH _ _ _ _ _ _ _ (Act.put _ (some 159) _) _
          simp only [Act.put, List.setIfInBounds_toArray, List.set_cons_zero, List.set_cons_succ]
          refine wpAnyH_take (i := 16) (v := ?vL16) rfl (by kernel_rfl) (by kernel_rfl) (by kernel_rfl) (fun _ _ _ h => h) (Or.inl ⟨by rfl, ?hL16⟩) (by assumption) ?rL16
          case hL16 => (intro w hSw; (try dsimp only at hSw); go_simp; try with_reducible rfl)
          change wpAnyH _ _ _ _ _ _ _ (Act.put _ (some 160) _) _
          simp only [Act.put, List.setIfInBounds_toArray, List.set_cons_zero, List.set_cons_succ]
          refine wpAnyH_take (i := 17) (v := ?vL17) rfl (by kernel_rfl) (by kernel_rfl) (by kernel_rfl) (fun _ _ _ h => h) (Or.inl ⟨by rfl, ?hL17⟩) (by assumption) ?rL17
          case hL17 => (intro w hSw; (try dsimp only at hSw); go_simp; try with_reducible rfl)
          change wpAnyH _ _ _ _ _ _ _ (Act.put _ (some 161) _) _
          simp only [Act.put, List.setIfInBounds_toArray, List.set_cons_zero, List.set_cons_succ]
          refine wpAnyH_take (i := 18) (v := ?vL18) rfl (by kernel_rfl) (by kernel_rfl) (by kernel_rfl) (fun _ _ _ h => h) (Or.inl ⟨by rfl, ?hL18⟩) (by assumption) ?rL18
          case hL18 => (intro w hSw; (try dsimp only at hSw); go_simp; try with_reducible rfl)
          change wpAnyH _ _ _ _ _ _ _ (Act.put _ (some 162) _) _
          simp only [Act.put, List.setIfInBounds_toArray, List.set_cons_zero, List.set_cons_succ]
          refine wpAnyH_take (i := 19) (v := ?vL19) rfl (by kernel_rfl) (by kernel_rfl) (by kernel_rfl) (fun _ _ _ h => h) (Or.inl ⟨by rfl, ?hL19⟩) (by assumption) ?rL19
          case hL19 => (intro w hSw; (try dsimp only at hSw); go_simp; try with_reducible rfl)
          change wpAnyH _ _ _ _ _ _ _ (Act.put _ (some 163) _) _
          simp only [Act.put, List.setIfInBounds_toArray, List.set_cons_zero, List.set_cons_succ]
          refine wpAnyH_take (i := 20) (v := ?vL20) rfl (by kernel_rfl) (by kernel_rfl) (by kernel_rfl) (fun _ _ _ h => h) (Or.inl ⟨by rfl, ?hL20⟩) (by assumption) ?rL20
          case hL20 => (intro w hSw; (try dsimp only at hSw); go_simp; try with_reducible rfl)
          change wpAnyH _ _ _ _ _ _ _ (Act.put _ (some 164) _) _
          simp only [Act.put, List.setIfInBounds_toArray, List.set_cons_zero, List.set_cons_succ]
          refine wpAnyH_take (i := 21) (v := ?vL21) rfl (by kernel_rfl) (by kernel_rfl) (by kernel_rfl) (fun _ _ _ h => h) (Or.inl ⟨by rfl, ?hL21⟩) (by assumption) ?rL21
          case hL21 => (intro w hSw; (try dsimp only at hSw); go_simp; try with_reducible rfl)
          change wpAnyH _ _ _ _ _ _ _ (Act.put _ (some 8) _) _
          simp only [Act.put, List.setIfInBounds_toArray, List.set_cons_zero, List.set_cons_succ]
          refine wpAnyH_done (by kernel_rfl) ?_ _
          go_wp2_with fail
          go_ret
          exact ⟨by first | rfl | (simp; done), hB.trans (((Below.refl _ _).drew.trans hba).mono hB.size)⟩
        · have hz0 := hne.out he
          have hzz : ((er : Int) != 0) = true := by rw [bne_iff_ne]; omega
          rw [Cm.eq_iff] at hz0
          simp only [zeroCm] at hz0
          obtain ⟨rfl, rfl, rfl, rfl⟩ := hz0
          have heqz : ∀ W, (binOp .eql 23 (.agg #[.bool false, .int .i64 0, .int .i64 0, .int .i64 0]) (.agg #[.bool false, .int .i64 0, .int .i64 0, .int .i64 0])).run Try.prog W = .ok (.bool true) W := fun W => by
            have := eqCm zeroCm zeroCm W
            rwa [decide_eq_true rfl] at this
          clear he
          go_wp2_with fail
          go_ret
          exact ⟨by first | rfl | (simp; done), hB⟩

theorem commonBack_all (cp : Bool) (cm ct cz : Int) (dp : Bool) (dm dt dz : Int) (A : Option Addr) (n c : Nat) (s : List UInt8) (le : Nat) (w : World) (hs : Bs w A n c s) (hle : le < 65536) (h1 : (Lit.int .i64 cm).wf = true) (h2 : (Lit.int .i64 ct).wf = true) (h3 : (Lit.int .i64 cz).wf = true) (k1 : (Lit.int .i64 dm).wf = true) (k2 : (Lit.int .i64 dt).wf = true) (k3 : (Lit.int .i64 dz).wf = true) :
    Calls Try.prog 4 #[.agg #[.bool cp, .int .i64 cm, .int .i64 ct, .int .i64 cz], .agg #[.bool dp, .int .i64 dm, .int .i64 dt, .int .i64 dz], .slice A n c, .int .u16 (le : Int)] w fun e w' => e = .returned (.bool true) ∧ Below w.heap.size w w' := by
  by_cases hb : 70000 < n
  · have := hs.le
    have := hs.cap
    unfold maxLen at this
    exact commonBack_long KC cp cm ct cz dp dm dt dz A n c s le w (by omega) hb
  · have hok : CmOk ⟨cp, cm, ct, cz⟩ := ⟨h1, h2, h3⟩
    have hok2 : CmOk ⟨dp, dm, dt, dz⟩ := ⟨k1, k2, k3⟩
    cases hr : rightCm ⟨cp, cm, ct, cz⟩
    · exact commonBack_no KC cp cm ct cz dp dm dt dz A n c s le w hs hok hok2 (by omega) hle hr
    · by_cases hz : 3000 < cz
      · exact commonBack_big KC cp cm ct cz dp dm dt dz A n c s le w hs hok hok2 (by omega) hle hr hz
      · exact commonBack_yes KC cp cm ct cz dp dm dt dz A n c s le w hs hok hok2 (by omega) hle hr (by omega)
end

end Go.Proofs.Ytfacfgpiodfndaa

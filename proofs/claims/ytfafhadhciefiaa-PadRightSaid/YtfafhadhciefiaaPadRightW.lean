/-
  The walk of the statement PadRight.
-/
import Derived.Test.YtfafhadhciefiaaPadW
import Derived.Test.YtfafhadhciefiaaReg
namespace Go.Proofs.Ytfafhadhciefiaa
open Go.RowKit

set_option maxRecDepth 100000 in
set_option maxHeartbeats 400000 in
theorem padRight_big (A : Option Addr) (l c : Nat) (n : Int) (w : World) (hl : 3000 < l) (hm : l ≤ maxLen) :
    Calls Try.prog 3 #[.slice A l c, .int .i64 n] w fun e w' => e = .returned (.bool true) ∧ Below w.heap.size w w' := by
  unfold maxLen at hm
  go_enter Try.func3, Try.ntmps3
  go_wp2_with fail
  refine (awake_any _).mono ?_
  rintro e w1 ⟨rfl, hb1⟩
  go_wp2
  go_ret
  exact ⟨rfl, hb1⟩

set_option maxRecDepth 100000 in
set_option maxHeartbeats 2000000 in
theorem padRight_main (A : Option Addr) (l c : Nat) (s : List UInt8) (n : Int) (w : World) (hs : Bs w A l c s) (hl : l ≤ 3000) :
    Calls Try.prog 3 #[.slice A l c, .int .i64 n] w fun e w' => e = .returned (.bool true) ∧ Below w.heap.size w w' := by
  have hlen := hs.len
  have R1 := Lib.hid (fun w => round_any n w)
  have R2 := Lib.hid (fun w => rround_any n w)
  have F1 := Lib.hid (fun w hs => fill_any A l c s w hs (by omega))
  have F2 := Lib.hid (fun w hs => rfill_any A l c s w hs (by omega))
  have Z1 := Lib.hid (fun w hs => zero_any A l c s w hs)
  have Z2 := Lib.hid (fun w hs => rzero_any A l c s w hs)
  have C1 := Lib.hid (fun w hs => clean_any A l c s w hs)
  have C2 := Lib.hid (fun w hs => rclean_any A l c s w hs)
  have T1 := Lib.hid (fun w hs => trail_any A l c s w hs)
  have T2 := Lib.hid (fun w hs => rtrail_any A l c s w hs)
  have hte : (trailN s = 0 ∧ trailE s = 5) ∨ (0 < trailN s ∧ trailE s = 0) := by
    by_cases h : trailN s = 0
    · exact .inl ⟨h, trailE_no h⟩
    · exact .inr ⟨by omega, trailE_yes h⟩
  have htn := trailN_lt s
  have X1 := Lib.hid (fun w hs => add_any A l c s n w hs (by omega))
  have X2 := fun (h : 1 ≤ n ∧ n ≤ 255) w hs => radd_any A l c s n.toNat w hs (by omega) (by omega) (by omega)
  have hX : ((1 ≤ n ∧ n ≤ 255) → addE n = 0 ∧ addR s n = addB s n.toNat) ∧ (¬ (1 ≤ n ∧ n ≤ 255) → addE n = 1 ∧ addR s n = []) :=
    ⟨fun h => ⟨if_pos h, if_pos h⟩, fun h => ⟨if_neg h, if_neg h⟩⟩
  generalize roundN n = rn at *
  generalize fillB s = f at *
  generalize zeroB s = z at *
  generalize cleanB s = cl at *
  generalize trailN s = t at *
  generalize trailE s = te at *
  generalize addE n = ae at *
  generalize addR s n = q at *
  have Hte := Lib.hid hte
  have HX := Lib.hid hX
  have HX2 := Lib.hid X2
  clear hte hX X2
  go_enter Try.func3, Try.ntmps3
  go_wp2_with fail
  refine (awake_any _).mono ?_
  rintro e w1 ⟨rfl, hB1⟩
  have hs1 := hs.below hB1
  go_upto_region 5 with fail
  go_cut [42] (fun v W => v = .bool false ∧ Below w.heap.size w W ∧ Bs W A l c s)
  case first =>
    refine wp_region_held_drew (S := (fun _ => True)) (by kernel_rfl) trivial (fun hHeld => ?_)
    refine wpAnyH_take (i := 0) (v := ?vR0) rfl (by kernel_rfl) (by kernel_rfl) (by kernel_rfl) (fun _ _ _ h => h) (Or.inl ⟨by rfl, ?hR0⟩) (by assumption) ?rR0
    case hR0 => (intro w hSw; (try dsimp only at hSw); go_simp; try with_reducible rfl)
    change wpAnyH _ _ _ _ _ _ _ (Act.put _ (some 15) _) _
    simp only [Act.put, List.setIfInBounds_toArray, List.set_cons_zero, List.set_cons_succ]
    refine wpAnyH_take (i := 2) (v := ?vR2) rfl (by kernel_rfl) (by kernel_rfl) (by kernel_rfl) (fun _ _ _ h => h) (Or.inl ⟨by rfl, ?hR2⟩) (by assumption) ?rR2
    case hR2 => (intro w hSw; (try dsimp only at hSw); go_simp; try with_reducible rfl)
    change wpAnyH _ _ _ _ _ _ _ (Act.put _ (some 17) _) _
    simp only [Act.put, List.setIfInBounds_toArray, List.set_cons_zero, List.set_cons_succ]
    refine wpAnyH_ready (rs := [1]) (by kernel_rfl) (by simp) ?_
    refine AllReadyH.cons rfl (fun K hK => ?_) AllReadyH.nil
    go_simp
    refine (R1.out _).mono ?_
    rintro e w' ⟨rfl, rfl⟩
    go_wp2_with fail
    refine hK.out _ _ ?_ (fun hHeld => ?_)
    · exact trivial
    clear hK K
    try simp only [Act.put, List.setIfInBounds_toArray, List.set_cons_zero, List.set_cons_succ]
    refine wpAnyH_ready (rs := [3]) (by kernel_rfl) (by simp) ?_
    refine AllReadyH.cons rfl (fun K hK => ?_) AllReadyH.nil
    go_simp
    refine (R2.out _).mono ?_
    rintro e w' ⟨rfl, rfl⟩
    go_wp2_with fail
    refine hK.out _ _ ?_ (fun hHeld => ?_)
    · exact trivial
    clear hK K
    try simp only [Act.put, List.setIfInBounds_toArray, List.set_cons_zero, List.set_cons_succ]
    refine wpAnyH_take (i := 4) (v := ?vR4) rfl (by kernel_rfl) (by kernel_rfl) (by kernel_rfl) (fun _ _ _ h => h) (Or.inl ⟨by rfl, ?hR4⟩) (by assumption) ?rR4
    case hR4 => (intro w hSw; (try dsimp only at hSw); go_simp; try with_reducible rfl)
    change wpAnyH _ _ _ _ _ _ _ (Act.put _ (some 19) _) _
    simp only [Act.put, List.setIfInBounds_toArray, List.set_cons_zero, List.set_cons_succ]
    refine wpAnyH_take (i := 5) (v := ?vR5) rfl (by kernel_rfl) (by kernel_rfl) (by kernel_rfl) (fun _ _ _ h => h) (Or.inl ⟨by rfl, ?hR5⟩) (by assumption) ?rR5
    case hR5 => (intro w hSw; (try dsimp only at hSw); go_simp; try with_reducible rfl)
    change wpAnyH _ _ _ _ _ _ _ (Act.put _ (some 20) _) _
    simp only [Act.put, List.setIfInBounds_toArray, List.set_cons_zero, List.set_cons_succ]
    refine wpAnyH_take (i := 6) (v := ?vR6) rfl (by kernel_rfl) (by kernel_rfl) (by kernel_rfl) (fun _ _ _ h => h) (Or.inl ⟨by rfl, ?hR6⟩) (by assumption) ?rR6
    case hR6 => (intro w hSw; (try dsimp only at hSw); go_simp; try with_reducible rfl)
    change wpAnyH _ _ _ _ _ _ _ (Act.put _ (some 21) _) _
    simp only [Act.put, List.setIfInBounds_toArray, List.set_cons_zero, List.set_cons_succ]
    refine wpAnyH_take (i := 9) (v := ?vR9) rfl (by kernel_rfl) (by kernel_rfl) (by kernel_rfl) (fun _ _ _ h => h) (Or.inl ⟨by rfl, ?hR9⟩) (by assumption) ?rR9
    case hR9 => (intro w hSw; (try dsimp only at hSw); go_simp; try with_reducible rfl)
    change wpAnyH _ _ _ _ _ _ _ (Act.put _ (some 24) _) _
    simp only [Act.put, List.setIfInBounds_toArray, List.set_cons_zero, List.set_cons_succ]
    refine wpAnyH_ready (rs := [7]) (by kernel_rfl) (by simp) ?_
    refine AllReadyH.cons rfl (fun K hK => ?_) AllReadyH.nil
    go_simp
    refine (F1.out _ hs1.drew).mono ?_
    rintro e w2 ⟨A2, c2, rfl, hown2, hb2⟩
    go_wp2_with fail
    have hsA := hs1.drew.below hb2
    have u2 := str_of hown2.bs
    refine hK.out _ _ ?_ (fun hHeld => ?_)
    · exact trivial
    clear hK K
    try simp only [Act.put, List.setIfInBounds_toArray, List.set_cons_zero, List.set_cons_succ]
    have hHeld2 : (fun W => True ∧ (convert 22 9 (.slice A2 f.length c2)).run Try.prog W = .ok (.string ⟨f.toArray⟩) W) w2 := ⟨trivial, u2⟩
    refine wpAnyH_mono (S2 := (fun W => True ∧ (convert 22 9 (.slice A2 f.length c2)).run Try.prog W = .ok (.string ⟨f.toArray⟩) W)) (fun _ _ => trivial) ?_
    refine wpAnyH_take (i := 8) (v := ?vR8) rfl (by kernel_rfl) (by kernel_rfl) (by kernel_rfl) (fun _ _ _ h => h) (Or.inl ⟨by rfl, ?hR8⟩) (by assumption) ?rR8
    case hR8 => (intro w hSw; (try dsimp only at hSw); go_simp; try with_reducible rfl)
    change wpAnyH _ _ _ _ _ _ _ (Act.put _ (some 23) _) _
    simp only [Act.put, List.setIfInBounds_toArray, List.set_cons_zero, List.set_cons_succ]
    refine wpAnyH_ready (rs := [10]) (by kernel_rfl) (by simp) ?_
    refine AllReadyH.cons rfl (fun K hK => ?_) AllReadyH.nil
    go_simp
    refine (F2.out _ hsA).mono ?_
    rintro e w3 ⟨A3, c3, rfl, hown3, hb3⟩
    go_wp2_with fail
    have hsB := hsA.below hb3
    have t2 : True ∧ (convert 22 9 (.slice A2 f.length c2)).run Try.prog w3 = .ok (.string ⟨f.toArray⟩) w3 := ⟨trivial, str_of (hown2.below hb3).bs⟩
    have t3 := str_of hown3.bs
    refine hK.out _ _ ?_ (fun hHeld => ?_)
    · exact t2
    clear hK K
    try simp only [Act.put, List.setIfInBounds_toArray, List.set_cons_zero, List.set_cons_succ]
    have hHeld3 : (fun W => (convert 22 9 (.slice A2 f.length c2)).run Try.prog W = .ok (.string ⟨f.toArray⟩) W ∧ (convert 22 9 (.slice A3 f.length c3)).run Try.prog W = .ok (.string ⟨f.toArray⟩) W) w3 := ⟨t2.2, t3⟩
    refine wpAnyH_mono (S2 := (fun W => (convert 22 9 (.slice A2 f.length c2)).run Try.prog W = .ok (.string ⟨f.toArray⟩) W ∧ (convert 22 9 (.slice A3 f.length c3)).run Try.prog W = .ok (.string ⟨f.toArray⟩) W)) (fun _ h => ⟨trivial, h.1⟩) ?_
    refine wpAnyH_take (i := 11) (v := ?vR11) rfl (by kernel_rfl) (by kernel_rfl) (by kernel_rfl) (fun _ _ _ h => h) (Or.inl ⟨by rfl, ?hR11⟩) (by assumption) ?rR11
    case hR11 => (intro w hSw; (try dsimp only at hSw); go_simp; try with_reducible rfl)
    change wpAnyH _ _ _ _ _ _ _ (Act.put _ (some 26) _) _
    simp only [Act.put, List.setIfInBounds_toArray, List.set_cons_zero, List.set_cons_succ]
    refine wpAnyH_take (i := 12) (v := ?vR12) rfl (by kernel_rfl) (by kernel_rfl) (by kernel_rfl) (fun _ _ _ h => h) (Or.inl ⟨by rfl, ?hR12⟩) (by assumption) ?rR12
    case hR12 => (intro w hSw; (try dsimp only at hSw); go_simp; try with_reducible rfl)
    change wpAnyH _ _ _ _ _ _ _ (Act.put _ (some 27) _) _
    simp only [Act.put, List.setIfInBounds_toArray, List.set_cons_zero, List.set_cons_succ]
    refine wpAnyH_take (i := 13) (v := ?vR13) rfl (by kernel_rfl) (by kernel_rfl) (by kernel_rfl) (fun _ _ _ h => h) (Or.inl ⟨by rfl, ?hR13⟩) (by assumption) ?rR13
    case hR13 => (intro w hSw; (try dsimp only at hSw); go_simp; try with_reducible rfl)
    change wpAnyH _ _ _ _ _ _ _ (Act.put _ (some 28) _) _
    simp only [Act.put, List.setIfInBounds_toArray, List.set_cons_zero, List.set_cons_succ]
    refine wpAnyH_take (i := 14) (v := ?vR14) rfl (by kernel_rfl) (by kernel_rfl) (by kernel_rfl) (fun _ _ _ h => h) (Or.inl ⟨by rfl, ?hR14⟩) (by assumption) ?rR14
    case hR14 => (intro w hSw; (try dsimp only at hSw); go_simp; try with_reducible rfl)
    change wpAnyH _ _ _ _ _ _ _ (Act.put _ (some 29) _) _
    simp only [Act.put, List.setIfInBounds_toArray, List.set_cons_zero, List.set_cons_succ]
    refine wpAnyH_take (i := 15) (v := ?vR15) rfl (by kernel_rfl) (by kernel_rfl) (by kernel_rfl) (fun _ _ _ h => h) (Or.inl ⟨by rfl, ?hR15⟩) (by assumption) ?rR15
    case hR15 => (intro w hSw; (try dsimp only at hSw); go_simp; try with_reducible rfl)
    change wpAnyH _ _ _ _ _ _ _ (Act.put _ (some 30) _) _
    simp only [Act.put, List.setIfInBounds_toArray, List.set_cons_zero, List.set_cons_succ]
    refine wpAnyH_take (i := 17) (v := ?vR17) rfl (by kernel_rfl) (by kernel_rfl) (by kernel_rfl) (fun _ _ _ h => h) (Or.inl ⟨by rfl, ?hR17⟩) (by assumption) ?rR17
    case hR17 => (intro w hSw; (try dsimp only at hSw); go_simp; try with_reducible rfl)
    change wpAnyH _ _ _ _ _ _ _ (Act.put _ (some 32) _) _
    simp only [Act.put, List.setIfInBounds_toArray, List.set_cons_zero, List.set_cons_succ]
    refine wpAnyH_ready (rs := [16]) (by kernel_rfl) (by simp) ?_
    refine AllReadyH.cons rfl (fun K hK => ?_) AllReadyH.nil
    go_simp
    refine (Z1.out _ hsB).mono ?_
    rintro e w' ⟨rfl, rfl⟩
    go_wp2_with fail
    refine hK.out _ _ ?_ (fun hHeld => ?_)
    · exact ⟨t2.2, t3⟩
    clear hK K
    try simp only [Act.put, List.setIfInBounds_toArray, List.set_cons_zero, List.set_cons_succ]
    refine wpAnyH_ready (rs := [18]) (by kernel_rfl) (by simp) ?_
    refine AllReadyH.cons rfl (fun K hK => ?_) AllReadyH.nil
    go_simp
    refine (Z2.out _ hsB).mono ?_
    rintro e w' ⟨rfl, rfl⟩
    go_wp2_with fail
    refine hK.out _ _ ?_ (fun hHeld => ?_)
    · exact ⟨t2.2, t3⟩
    clear hK K
    try simp only [Act.put, List.setIfInBounds_toArray, List.set_cons_zero, List.set_cons_succ]
    refine wpAnyH_take (i := 19) (v := ?vR19) rfl (by kernel_rfl) (by kernel_rfl) (by kernel_rfl) (fun _ _ _ h => h) (Or.inl ⟨by rfl, ?hR19⟩) (by assumption) ?rR19
    case hR19 => (intro w hSw; (try dsimp only at hSw); go_simp; try with_reducible rfl)
    change wpAnyH _ _ _ _ _ _ _ (Act.put _ (some 34) _) _
    simp only [Act.put, List.setIfInBounds_toArray, List.set_cons_zero, List.set_cons_succ]
    refine wpAnyH_take (i := 20) (v := ?vR20) rfl (by kernel_rfl) (by kernel_rfl) (by kernel_rfl) (fun _ _ _ h => h) (Or.inl ⟨by rfl, ?hR20⟩) (by assumption) ?rR20
    case hR20 => (intro w hSw; (try dsimp only at hSw); go_simp; try with_reducible rfl)
    change wpAnyH _ _ _ _ _ _ _ (Act.put _ (some 35) _) _
    simp only [Act.put, List.setIfInBounds_toArray, List.set_cons_zero, List.set_cons_succ]
    refine wpAnyH_take (i := 21) (v := ?vR21) rfl (by kernel_rfl) (by kernel_rfl) (by kernel_rfl) (fun _ _ _ h => h) (Or.inl ⟨by rfl, ?hR21⟩) (by assumption) ?rR21
    case hR21 => (intro w hSw; (try dsimp only at hSw); go_simp; try with_reducible rfl)
    change wpAnyH _ _ _ _ _ _ _ (Act.put _ (some 36) _) _
    simp only [Act.put, List.setIfInBounds_toArray, List.set_cons_zero, List.set_cons_succ]
    refine wpAnyH_take (i := 22) (v := ?vR22) rfl (by kernel_rfl) (by kernel_rfl) (by kernel_rfl) (fun _ _ _ h => h) (Or.inl ⟨by rfl, ?hR22⟩) (by assumption) ?rR22
    case hR22 => (intro w hSw; (try dsimp only at hSw); go_simp; try with_reducible rfl)
    change wpAnyH _ _ _ _ _ _ _ (Act.put _ (some 37) _) _
    simp only [Act.put, List.setIfInBounds_toArray, List.set_cons_zero, List.set_cons_succ]
    refine wpAnyH_take (i := 24) (v := ?vR24) rfl (by kernel_rfl) (by kernel_rfl) (by kernel_rfl) (fun _ _ _ h => h) (Or.inl ⟨by rfl, ?hR24⟩) (by assumption) ?rR24
    case hR24 => (intro w hSw; (try dsimp only at hSw); go_simp; try with_reducible rfl)
    change wpAnyH _ _ _ _ _ _ _ (Act.put _ (some 39) _) _
    simp only [Act.put, List.setIfInBounds_toArray, List.set_cons_zero, List.set_cons_succ]
    refine wpAnyH_ready (rs := [23]) (by kernel_rfl) (by simp) ?_
    refine AllReadyH.cons rfl (fun K hK => ?_) AllReadyH.nil
    go_simp
    refine (C1.out _ hsB).mono ?_
    rintro e w' ⟨rfl, rfl⟩
    go_wp2_with fail
    refine hK.out _ _ ?_ (fun hHeld => ?_)
    · exact ⟨t2.2, t3⟩
    clear hK K
    try simp only [Act.put, List.setIfInBounds_toArray, List.set_cons_zero, List.set_cons_succ]
    refine wpAnyH_ready (rs := [25]) (by kernel_rfl) (by simp) ?_
    refine AllReadyH.cons rfl (fun K hK => ?_) AllReadyH.nil
    go_simp
    refine (C2.out _ hsB).mono ?_
    rintro e w' ⟨rfl, rfl⟩
    go_wp2_with fail
    refine hK.out _ _ ?_ (fun hHeld => ?_)
    · exact ⟨t2.2, t3⟩
    clear hK K
    try simp only [Act.put, List.setIfInBounds_toArray, List.set_cons_zero, List.set_cons_succ]
    refine wpAnyH_take (i := 26) (v := ?vR26) rfl (by kernel_rfl) (by kernel_rfl) (by kernel_rfl) (fun _ _ _ h => h) (Or.inl ⟨by rfl, ?hR26⟩) (by assumption) ?rR26
    case hR26 => (intro w hSw; (try dsimp only at hSw); go_simp; try with_reducible rfl)
    change wpAnyH _ _ _ _ _ _ _ (Act.put _ (some 41) _) _
    simp only [Act.put, List.setIfInBounds_toArray, List.set_cons_zero, List.set_cons_succ]
    refine wpAnyH_take (i := 27) (v := ?vR27) rfl (by kernel_rfl) (by kernel_rfl) (by kernel_rfl) (fun _ _ _ h => h) (Or.inl ⟨by rfl, ?hR27⟩) (by assumption) ?rR27
    case hR27 => (intro w hSw; (try dsimp only at hSw); go_simp; try with_reducible rfl)
    change wpAnyH _ _ _ _ _ _ _ (Act.put _ (some 42) _) _
    simp only [Act.put, List.setIfInBounds_toArray, List.set_cons_zero, List.set_cons_succ]
    refine wpAnyH_done (by kernel_rfl) ?_ _
    go_wp2_with fail
    go_meet
    exact ⟨rfl, hB1.trans ((Below.refl _ _).drew.trans ((hb2.trans (hb3.mono hb2.size)).mono hB1.size)), hsB⟩
  case rest =>
    obtain ⟨rfl, hB3, hs3⟩ := hcut
    clear hs1 hB1
    go_wp2_with fail
    refine (T1.out _ hs3).mono ?_
    rintro e w' ⟨rfl, rfl⟩
    go_wp2_with fail
    refine (T2.out _ hs3).mono ?_
    rintro e w' ⟨rfl, rfl⟩
    rcases Hte.out with ⟨rfl, rfl⟩ | ⟨ht, rfl⟩
    · go_wp2_with fail
      refine (X1.out _ hs3).mono ?_
      rintro e w4 ⟨A4, c4, rfl, hown4, hb4⟩
      have hs4 := hs3.below hb4
      have hB4 := hB3.trans (hb4.mono hB3.size)
      clear hs3 hB3 hb4
      by_cases hn : 1 ≤ n ∧ n ≤ 255
      · have X2 := Lib.hid (HX2.out hn)
        obtain ⟨rfl, hq⟩ := HX.out.1 hn
        rw [← hq, show ((n.toNat : Nat) : Int) = n by omega] at X2
        obtain ⟨hn1, hn2⟩ := hn
        have Hq := Lib.hid hq
        clear hq
        go_upto_region 14 with fail
        refine wp_region_held_drew (S := (fun W => (convert 22 9 (.slice A4 q.length c4)).run Try.prog W = .ok (.string ⟨q.toArray⟩) W)) (by kernel_rfl) (str_of hown4.bs.drew) (fun hHeld => ?_)
        refine wpAnyH_take (i := 0) (v := ?vT0) rfl (by kernel_rfl) (by kernel_rfl) (by kernel_rfl) (fun _ _ _ h => h) (Or.inl ⟨by rfl, ?hT0⟩) (by assumption) ?rT0
        case hT0 => (intro w hSw; (try dsimp only at hSw); go_simp; try with_reducible rfl)
        change wpAnyH _ _ _ _ _ _ _ (Act.put _ (some 87) _) _
        simp only [Act.put, List.setIfInBounds_toArray, List.set_cons_zero, List.set_cons_succ]
        refine wpAnyH_take (i := 1) (v := ?vT1) rfl (by kernel_rfl) (by kernel_rfl) (by kernel_rfl) (fun _ _ _ h => h) (Or.inl ⟨by rfl, ?hT1⟩) (by assumption) ?rT1
        case hT1 => (intro w hSw; (try dsimp only at hSw); go_simp; try with_reducible rfl)
        change wpAnyH _ _ _ _ _ _ _ (Act.put _ (some 88) _) _
        simp only [Act.put, List.setIfInBounds_toArray, List.set_cons_zero, List.set_cons_succ]
        refine wpAnyH_take (i := 2) (v := ?vT2) rfl (by kernel_rfl) (by kernel_rfl) (by kernel_rfl) (fun _ _ _ h => h) (Or.inl ⟨by rfl, ?hT2⟩) (by assumption) ?rT2
        case hT2 => (intro w hSw; (try dsimp only at hSw); go_simp; try with_reducible rfl)
        change wpAnyH _ _ _ _ _ _ _ (Act.put _ (some 89) _) _
        simp only [Act.put, List.setIfInBounds_toArray, List.set_cons_zero, List.set_cons_succ]
        refine wpAnyH_take (i := 3) (v := ?vT3) rfl (by kernel_rfl) (by kernel_rfl) (by kernel_rfl) (fun _ _ _ h => h) (Or.inl ⟨by rfl, ?hT3⟩) (by assumption) ?rT3
        case hT3 => (intro w hSw; (try dsimp only at hSw); go_simp; try with_reducible rfl)
        change wpAnyH _ _ _ _ _ _ _ (Act.put _ (some 90) _) _
        simp only [Act.put, List.setIfInBounds_toArray, List.set_cons_zero, List.set_cons_succ]
        refine wpAnyH_take (i := 4) (v := ?vT4) rfl (by kernel_rfl) (by kernel_rfl) (by kernel_rfl) (fun _ _ _ h => h) (Or.inl ⟨by rfl, ?hT4⟩) (by assumption) ?rT4
        case hT4 => (intro w hSw; (try dsimp only at hSw); go_simp; try with_reducible rfl)
        change wpAnyH _ _ _ _ _ _ _ (Act.put _ (some 91) _) _
        simp only [Act.put, List.setIfInBounds_toArray, List.set_cons_zero, List.set_cons_succ]
        refine wpAnyH_take (i := 5) (v := ?vT5) rfl (by kernel_rfl) (by kernel_rfl) (by kernel_rfl) (fun _ _ _ h => h) (Or.inl ⟨by rfl, ?hT5⟩) (by assumption) ?rT5
        case hT5 => (intro w hSw; (try dsimp only at hSw); go_simp; try with_reducible rfl)
        change wpAnyH _ _ _ _ _ _ _ (Act.put _ (some 92) _) _
        simp only [Act.put, List.setIfInBounds_toArray, List.set_cons_zero, List.set_cons_succ]
        refine wpAnyH_take (i := 6) (v := ?vT6) rfl (by kernel_rfl) (by kernel_rfl) (by kernel_rfl) (fun _ _ _ h => h) (Or.inl ⟨by rfl, ?hT6⟩) (by assumption) ?rT6
        case hT6 => (intro w hSw; (try dsimp only at hSw); go_simp; try with_reducible rfl)
        change wpAnyH _ _ _ _ _ _ _ (Act.put _ (some 93) _) _
        simp only [Act.put, List.setIfInBounds_toArray, List.set_cons_zero, List.set_cons_succ]
        refine wpAnyH_ready (rs := [7]) (by kernel_rfl) (by simp) ?_
        refine AllReadyH.cons rfl (fun K hK => ?_) AllReadyH.nil
        go_simp
        refine (X2.out _ hs4.drew).mono ?_
        rintro e w5 ⟨A5, c5, rfl, hown5, hb5⟩
        go_wp2_with fail
        have u5 := str_of hown5.bs
        have u4 := str_of (hown4.bs.drew.below hb5)
        refine hK.out _ _ ?_ (fun hHeld => ?_)
        · exact u4
        clear hK K
        try simp only [Act.put, List.setIfInBounds_toArray, List.set_cons_zero, List.set_cons_succ]
        have hHeld2 : (fun W => (convert 22 9 (.slice A4 q.length c4)).run Try.prog W = .ok (.string ⟨q.toArray⟩) W ∧ (convert 22 9 (.slice A5 q.length c5)).run Try.prog W = .ok (.string ⟨q.toArray⟩) W) w5 := ⟨u4, u5⟩
        refine wpAnyH_mono (S2 := (fun W => (convert 22 9 (.slice A4 q.length c4)).run Try.prog W = .ok (.string ⟨q.toArray⟩) W ∧ (convert 22 9 (.slice A5 q.length c5)).run Try.prog W = .ok (.string ⟨q.toArray⟩) W)) (fun _ h => h.1) ?_
        refine wpAnyH_take (i := 8) (v := ?vT8) rfl (by kernel_rfl) (by kernel_rfl) (by kernel_rfl) (fun _ _ _ h => h) (Or.inl ⟨by rfl, ?hT8⟩) (by assumption) ?rT8
        case hT8 => (intro w hSw; (try dsimp only at hSw); go_simp; try with_reducible rfl)
        change wpAnyH _ _ _ _ _ _ _ (Act.put _ (some 95) _) _
        simp only [Act.put, List.setIfInBounds_toArray, List.set_cons_zero, List.set_cons_succ]
        refine wpAnyH_take (i := 9) (v := ?vT9) rfl (by kernel_rfl) (by kernel_rfl) (by kernel_rfl) (fun _ _ _ h => h) (Or.inl ⟨by rfl, ?hT9⟩) (by assumption) ?rT9
        case hT9 => (intro w hSw; (try dsimp only at hSw); go_simp; try with_reducible rfl)
        change wpAnyH _ _ _ _ _ _ _ (Act.put _ (some 96) _) _
        simp only [Act.put, List.setIfInBounds_toArray, List.set_cons_zero, List.set_cons_succ]
        refine wpAnyH_take (i := 10) (v := ?vT10) rfl (by kernel_rfl) (by kernel_rfl) (by kernel_rfl) (fun _ _ _ h => h) (Or.inl ⟨by rfl, ?hT10⟩) (by assumption) ?rT10
        case hT10 => (intro w hSw; (try dsimp only at hSw); go_simp; try with_reducible rfl)
        change wpAnyH _ _ _ _ _ _ _ (Act.put _ (some 97) _) _
        simp only [Act.put, List.setIfInBounds_toArray, List.set_cons_zero, List.set_cons_succ]
        refine wpAnyH_take (i := 11) (v := ?vT11) rfl (by kernel_rfl) (by kernel_rfl) (by kernel_rfl) (fun _ _ _ h => h) (Or.inl ⟨by rfl, ?hT11⟩) (by assumption) ?rT11
        case hT11 => (intro w hSw; (try dsimp only at hSw); go_simp; try with_reducible rfl)
        change wpAnyH _ _ _ _ _ _ _ (Act.put _ (some 4) _) _
        simp only [Act.put, List.setIfInBounds_toArray, List.set_cons_zero, List.set_cons_succ]
        refine wpAnyH_done (by kernel_rfl) ?_ _
        go_wp2
        go_ret
        exact ⟨rfl, hB4.trans ((Below.refl _ _).drew.trans (hb5.mono hB4.size))⟩
      · obtain ⟨rfl, rfl⟩ := HX.out.2 hn
        rcases (show n < 1 ∨ (1 ≤ n ∧ 255 < n) by omega) with h1 | ⟨h1, h2⟩
        all_goals
          clear hn
          go_wp2
          go_ret
          exact ⟨rfl, hB4⟩
    · go_wp2_with fail
      refine (X1.out _ hs3).mono ?_
      rintro e w4 ⟨A4, c4, rfl, hown4, hb4⟩
      have hs4 := hs3.below hb4
      have hB4 := hB3.trans (hb4.mono hB3.size)
      clear hs3 hB3 hb4
      by_cases hn : 1 ≤ n ∧ n ≤ 255
      · have X2 := Lib.hid (HX2.out hn)
        obtain ⟨rfl, hq⟩ := HX.out.1 hn
        rw [← hq, show ((n.toNat : Nat) : Int) = n by omega] at X2
        obtain ⟨hn1, hn2⟩ := hn
        have Hq := Lib.hid hq
        clear hq
        go_upto_region 14 with fail
        refine wp_region_held_drew (S := (fun W => (convert 22 9 (.slice A4 q.length c4)).run Try.prog W = .ok (.string ⟨q.toArray⟩) W)) (by kernel_rfl) (str_of hown4.bs.drew) (fun hHeld => ?_)
        refine wpAnyH_take (i := 0) (v := ?vU0) rfl (by kernel_rfl) (by kernel_rfl) (by kernel_rfl) (fun _ _ _ h => h) (Or.inl ⟨by rfl, ?hU0⟩) (by assumption) ?rU0
        case hU0 => (intro w hSw; (try dsimp only at hSw); go_simp; try with_reducible rfl)
        change wpAnyH _ _ _ _ _ _ _ (Act.put _ (some 87) _) _
        simp only [Act.put, List.setIfInBounds_toArray, List.set_cons_zero, List.set_cons_succ]
        refine wpAnyH_take (i := 1) (v := ?vU1) rfl (by kernel_rfl) (by kernel_rfl) (by kernel_rfl) (fun _ _ _ h => h) (Or.inl ⟨by rfl, ?hU1⟩) (by assumption) ?rU1
        case hU1 => (intro w hSw; (try dsimp only at hSw); go_simp; try with_reducible rfl)
        change wpAnyH _ _ _ _ _ _ _ (Act.put _ (some 88) _) _
        simp only [Act.put, List.setIfInBounds_toArray, List.set_cons_zero, List.set_cons_succ]
        refine wpAnyH_take (i := 2) (v := ?vU2) rfl (by kernel_rfl) (by kernel_rfl) (by kernel_rfl) (fun _ _ _ h => h) (Or.inl ⟨by rfl, ?hU2⟩) (by assumption) ?rU2
        case hU2 => (intro w hSw; (try dsimp only at hSw); go_simp; try with_reducible rfl)
        change wpAnyH _ _ _ _ _ _ _ (Act.put _ (some 89) _) _
        simp only [Act.put, List.setIfInBounds_toArray, List.set_cons_zero, List.set_cons_succ]
        refine wpAnyH_take (i := 3) (v := ?vU3) rfl (by kernel_rfl) (by kernel_rfl) (by kernel_rfl) (fun _ _ _ h => h) (Or.inl ⟨by rfl, ?hU3⟩) (by assumption) ?rU3
        case hU3 => (intro w hSw; (try dsimp only at hSw); go_simp; try with_reducible rfl)
        change wpAnyH _ _ _ _ _ _ _ (Act.put _ (some 90) _) _
        simp only [Act.put, List.setIfInBounds_toArray, List.set_cons_zero, List.set_cons_succ]
        refine wpAnyH_take (i := 4) (v := ?vU4) rfl (by kernel_rfl) (by kernel_rfl) (by kernel_rfl) (fun _ _ _ h => h) (Or.inl ⟨by rfl, ?hU4⟩) (by assumption) ?rU4
        case hU4 => (intro w hSw; (try dsimp only at hSw); go_simp; try with_reducible rfl)
        change wpAnyH _ _ _ _ _ _ _ (Act.put _ (some 91) _) _
        simp only [Act.put, List.setIfInBounds_toArray, List.set_cons_zero, List.set_cons_succ]
        refine wpAnyH_take (i := 5) (v := ?vU5) rfl (by kernel_rfl) (by kernel_rfl) (by kernel_rfl) (fun _ _ _ h => h) (Or.inl ⟨by rfl, ?hU5⟩) (by assumption) ?rU5
        case hU5 => (intro w hSw; (try dsimp only at hSw); go_simp; try with_reducible rfl)
        change wpAnyH _ _ _ _ _ _ _ (Act.put _ (some 92) _) _
        simp only [Act.put, List.setIfInBounds_toArray, List.set_cons_zero, List.set_cons_succ]
        refine wpAnyH_take (i := 6) (v := ?vU6) rfl (by kernel_rfl) (by kernel_rfl) (by kernel_rfl) (fun _ _ _ h => h) (Or.inl ⟨by rfl, ?hU6⟩) (by assumption) ?rU6
        case hU6 => (intro w hSw; (try dsimp only at hSw); go_simp; try with_reducible rfl)
        change wpAnyH _ _ _ _ _ _ _ (Act.put _ (some 93) _) _
        simp only [Act.put, List.setIfInBounds_toArray, List.set_cons_zero, List.set_cons_succ]
        refine wpAnyH_ready (rs := [7]) (by kernel_rfl) (by simp) ?_
        refine AllReadyH.cons rfl (fun K hK => ?_) AllReadyH.nil
        go_simp
        refine (X2.out _ hs4.drew).mono ?_
        rintro e w5 ⟨A5, c5, rfl, hown5, hb5⟩
        go_wp2_with fail
        have u5 := str_of hown5.bs
        have u4 := str_of (hown4.bs.drew.below hb5)
        refine hK.out _ _ ?_ (fun hHeld => ?_)
        · exact u4
        clear hK K
        try simp only [Act.put, List.setIfInBounds_toArray, List.set_cons_zero, List.set_cons_succ]
        have hHeld2 : (fun W => (convert 22 9 (.slice A4 q.length c4)).run Try.prog W = .ok (.string ⟨q.toArray⟩) W ∧ (convert 22 9 (.slice A5 q.length c5)).run Try.prog W = .ok (.string ⟨q.toArray⟩) W) w5 := ⟨u4, u5⟩
        refine wpAnyH_mono (S2 := (fun W => (convert 22 9 (.slice A4 q.length c4)).run Try.prog W = .ok (.string ⟨q.toArray⟩) W ∧ (convert 22 9 (.slice A5 q.length c5)).run Try.prog W = .ok (.string ⟨q.toArray⟩) W)) (fun _ h => h.1) ?_
        refine wpAnyH_take (i := 8) (v := ?vU8) rfl (by kernel_rfl) (by kernel_rfl) (by kernel_rfl) (fun _ _ _ h => h) (Or.inl ⟨by rfl, ?hU8⟩) (by assumption) ?rU8
        case hU8 => (intro w hSw; (try dsimp only at hSw); go_simp; try with_reducible rfl)
        change wpAnyH _ _ _ _ _ _ _ (Act.put _ (some 95) _) _
        simp only [Act.put, List.setIfInBounds_toArray, List.set_cons_zero, List.set_cons_succ]
        refine wpAnyH_take (i := 9) (v := ?vU9) rfl (by kernel_rfl) (by kernel_rfl) (by kernel_rfl) (fun _ _ _ h => h) (Or.inl ⟨by rfl, ?hU9⟩) (by assumption) ?rU9
        case hU9 => (intro w hSw; (try dsimp only at hSw); go_simp; try with_reducible rfl)
        change wpAnyH _ _ _ _ _ _ _ (Act.put _ (some 96) _) _
        simp only [Act.put, List.setIfInBounds_toArray, List.set_cons_zero, List.set_cons_succ]
        refine wpAnyH_take (i := 10) (v := ?vU10) rfl (by kernel_rfl) (by kernel_rfl) (by kernel_rfl) (fun _ _ _ h => h) (Or.inl ⟨by rfl, ?hU10⟩) (by assumption) ?rU10
        case hU10 => (intro w hSw; (try dsimp only at hSw); go_simp; try with_reducible rfl)
        change wpAnyH _ _ _ _ _ _ _ (Act.put _ (some 97) _) _
        simp only [Act.put, List.setIfInBounds_toArray, List.set_cons_zero, List.set_cons_succ]
        refine wpAnyH_take (i := 11) (v := ?vU11) rfl (by kernel_rfl) (by kernel_rfl) (by kernel_rfl) (fun _ _ _ h => h) (Or.inl ⟨by rfl, ?hU11⟩) (by assumption) ?rU11
        case hU11 => (intro w hSw; (try dsimp only at hSw); go_simp; try with_reducible rfl)
        change wpAnyH _ _ _ _ _ _ _ (Act.put _ (some 4) _) _
        simp only [Act.put, List.setIfInBounds_toArray, List.set_cons_zero, List.set_cons_succ]
        refine wpAnyH_done (by kernel_rfl) ?_ _
        go_wp2
        go_ret
        exact ⟨rfl, hB4.trans ((Below.refl _ _).drew.trans (hb5.mono hB4.size))⟩
      · obtain ⟨rfl, rfl⟩ := HX.out.2 hn
        rcases (show n < 1 ∨ (1 ≤ n ∧ 255 < n) by omega) with h1 | ⟨h1, h2⟩
        all_goals
          clear hn
          go_wp2
          go_ret
          exact ⟨rfl, hB4⟩

theorem padRight_all (A : Option Addr) (l c : Nat) (s : List UInt8) (n : Int) (w : World) (hs : Bs w A l c s) :
    Calls Try.prog 3 #[.slice A l c, .int .i64 n] w fun e w' => e = .returned (.bool true) ∧ Below w.heap.size w w' := by
  have hle := hs.le
  have hcap := hs.cap
  by_cases hl : 3000 < l
  · exact padRight_big A l c n w hl (by omega)
  · exact padRight_main A l c s n w hs (by omega)

end Go.Proofs.Ytfafhadhciefiaa

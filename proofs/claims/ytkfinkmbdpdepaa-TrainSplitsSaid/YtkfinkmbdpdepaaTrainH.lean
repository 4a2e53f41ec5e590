/-
  What the functions of package train come to: Close. (Written by gen_TrainH.py.)
-/
import Derived.Test.YtkfinkmbdpdepaaTrainG
import Derived.Test.YtkfinkmbdpdepaaTrainK
namespace Go.Proofs.Ytkfinkmbdpdepaa
open Go.RowKit
set_option linter.unusedVariables false
set_option linter.unusedSimpArgs false

set_option maxRecDepth 100000 in
set_option maxHeartbeats 2000000 in
theorem tr_close (k q : Int) (A : Option Addr) (n c : Nat) (s : List UInt8) (tr : Int) (w : World) (hs : Bs w A n c s) (hn : n ≤ 1000000) :
    Calls Try.prog 9 #[.int .i64 k, .int .i64 q, .slice A n c, .int .i64 tr] w (GivesBE w 5 (closeR k q s tr) ((closeE k q s tr : Nat) : Int)) := by
  have hl := hs.len
  have WN := Lib.hid (fun W => tr_isWhole (n : Int) W)
  rw [whole_iff n (by omega)] at WN
  have hno : mayT k q n tr ≠ true → closeR k q s tr = [] ∧ closeE k q s tr = 1 := fun h => by unfold closeR closeE; rw [hl, if_neg h, if_neg h]; exact ⟨rfl, rfl⟩
  have hyes : mayT k q n tr = true → closeR k q s tr = closeB k q s tr ∧ closeE k q s tr = 0 := fun h => by unfold closeR closeE; rw [hl, if_pos h, if_pos h]; exact ⟨rfl, rfl⟩
  by_cases h1 : 252 < tr
  · obtain ⟨e1, e2⟩ := hno (fun h => by have := ((mayT_iff _ _ _ _).1 h).1; omega)
    rw [e1, e2]
    clear hno hyes e1 e2 WN
    go_enter Try.func9, Try.ntmps9
    go_wp2_with fail
    go_ret2
    exact GivesBE.none_ _ _ _
  · have WT := Lib.hid (fun W => tr_isWhole tr W)
    by_cases h2 : 0 ≤ tr ∧ tr % 4 = 0
    · obtain ⟨t, rfl⟩ := Int.eq_ofNat_of_zero_le h2.1
      rw [whole_iff t (by omega), decide_eq_true (show t % 4 = 0 by omega)] at WT
      by_cases h3 : n % 4 = 0
      · rw [decide_eq_true h3] at WN
        have ew1 : IntKind.i64.wrap (4 + (n : Int)) = 4 + n := IntWalk.i64_in _ (by omega)
        have ew2 : IntKind.i64.wrap (4 + (n : Int) + t) = 4 + n + t := IntWalk.i64_in _ (by omega)
        by_cases hr : rightCm (cmT k q n t) = true
        · obtain ⟨e1, e2⟩ := hyes ((mayT_iff _ _ _ _).2 ⟨by omega, hr⟩)
          have hCB : closeB k q s t = if 0 < (t : Int) then addB (writeCm (cmT k q n t) ++ s) t else writeCm (cmT k q n t) ++ s := by unfold closeB; rw [hl, Int.toNat_natCast]
          rw [e1, e2]
          generalize closeB k q s t = Z at *
          clear hno hyes e1 e2
          unfold cmT at hr hCB
          by_cases ht : (0 : Int) < t
          · have hdec : decide ((0 : Int) < t) = true := decide_eq_true ht
            have htn : 0 < t := by omega
            rw [if_pos ht] at hCB
            have HW := Lib.hid (fun W => cm_write_own true q k (4 + (n : Int) + t) W)
            rw [hdec] at hr hCB
            have e1 : writeCB ⟨true, q, k, 4 + (n : Int) + t⟩ = writeCm ⟨true, q, k, 4 + (n : Int) + t⟩ := by unfold writeCB; rw [if_pos hr]
            have e2 : writeCE ⟨true, q, k, 4 + (n : Int) + t⟩ = 0 := by unfold writeCE; rw [if_pos hr]
            have hxl : (writeCm ⟨true, q, k, 4 + (n : Int) + t⟩).length = 4 := rfl
            rw [e1, e2] at HW
            unfold GivesCO at HW
            rw [hxl] at HW
            have HCB := Lib.hid hCB
            clear hr e1 e2 hCB hdec
            generalize writeCm ⟨true, q, k, 4 + (n : Int) + t⟩ = X at *
            go_enter Try.func9, Try.ntmps9
            go_wp2_with fail
            refine (WT.out _).mono ?_
            rintro e w' ⟨rfl, rfl⟩
            go_wp2_with fail
            refine (WN.out _).mono ?_
            rintro e w' ⟨rfl, rfl⟩
            have k1 := Box.new w' [.bool true, .int .i64 q, .int .i64 k, .int .i64 (4 + (n : Int) + t)] 25
            have hB1 := below1 w' (.cells #[.bool true, .int .i64 q, .int .i64 k, .int .i64 (4 + (n : Int) + t)] 25)
            have f1 := k1.all4.1
            have hs1 := hs.alloc (.cells #[.bool true, .int .i64 q, .int .i64 k, .int .i64 (4 + (n : Int) + t)] 25)
            go_wp2_with fail
            refine (HW.out _).mono ?_
            rintro e w2 ⟨A2, d2, rfl, ho, hb⟩
            clear f1
            have k2 := k1.call hb
            have hs2 := hs1.below hb
            have hz1 := hB1.size
            have hB2 := hB1.trans (hb.mono hz1)
            have hz2 := hB2.size
            have ho2 : Own w2 w'.heap.size 5 A2 4 d2 X := ho.mono hz1
            have hfar2 : some w'.heap.size ≠ rowOf A2 := fun e => by have := ho.row_ge _ e.symm; simp at this; omega
            have f2 := k2.all4.1
            go_wp2_with (at_builtin; go_loud (refine wpList_app2 rfl (.tmp 45) (.tmp 46) 22 rfl w'.heap.size 5 Try.underlying22 byte_info A2 4 d2 _ rfl ho2 A n c _ rfl hs2 (by omega) hz2 ?_; intro A3 d3 w3 ho3 hg3 hat3; have k3 := k2.grown hg3 hfar2; have f3 := k3.all4.1))
            have hB3 : Below w'.heap.size w' w3 := hB2.grown hg3 hz2 (fun q hq => ho2.row_ge q hq)
            refine (add_yes A3 (4 + n) d3 (X ++ s) t _ ho3.bs (by omega) (by omega) (by omega)).mono ?_
            rintro e w4 ⟨A4, d4, rfl, ho4, hb4⟩
            go_wp2_with fail
            go_ret2
            rw [← HCB.out] at ho4
            exact ⟨A4, d4, by rw [HCB.out]; rfl, ho4.mono hB3.size, hB3.trans (hb4.mono hB3.size)⟩
          · have hdec : decide ((0 : Int) < t) = false := decide_eq_false ht
            have htn : ¬ 0 < t := by omega
            rw [if_neg ht] at hCB
            have HW := Lib.hid (fun W => cm_write_own false q k (4 + (n : Int) + t) W)
            rw [hdec] at hr hCB
            have e1 : writeCB ⟨false, q, k, 4 + (n : Int) + t⟩ = writeCm ⟨false, q, k, 4 + (n : Int) + t⟩ := by unfold writeCB; rw [if_pos hr]
            have e2 : writeCE ⟨false, q, k, 4 + (n : Int) + t⟩ = 0 := by unfold writeCE; rw [if_pos hr]
            have hxl : (writeCm ⟨false, q, k, 4 + (n : Int) + t⟩).length = 4 := rfl
            rw [e1, e2] at HW
            unfold GivesCO at HW
            rw [hxl] at HW
            have HCB := Lib.hid hCB
            clear hr e1 e2 hCB hdec
            generalize writeCm ⟨false, q, k, 4 + (n : Int) + t⟩ = X at *
            go_enter Try.func9, Try.ntmps9
            go_wp2_with fail
            refine (WT.out _).mono ?_
            rintro e w' ⟨rfl, rfl⟩
            go_wp2_with fail
            refine (WN.out _).mono ?_
            rintro e w' ⟨rfl, rfl⟩
            have k1 := Box.new w' [.bool false, .int .i64 q, .int .i64 k, .int .i64 (4 + (n : Int) + t)] 25
            have hB1 := below1 w' (.cells #[.bool false, .int .i64 q, .int .i64 k, .int .i64 (4 + (n : Int) + t)] 25)
            have f1 := k1.all4.1
            have hs1 := hs.alloc (.cells #[.bool false, .int .i64 q, .int .i64 k, .int .i64 (4 + (n : Int) + t)] 25)
            go_wp2_with fail
            refine (HW.out _).mono ?_
            rintro e w2 ⟨A2, d2, rfl, ho, hb⟩
            clear f1
            have k2 := k1.call hb
            have hs2 := hs1.below hb
            have hz1 := hB1.size
            have hB2 := hB1.trans (hb.mono hz1)
            have hz2 := hB2.size
            have ho2 : Own w2 w'.heap.size 5 A2 4 d2 X := ho.mono hz1
            have hfar2 : some w'.heap.size ≠ rowOf A2 := fun e => by have := ho.row_ge _ e.symm; simp at this; omega
            have f2 := k2.all4.1
            go_wp2_with (at_builtin; go_loud (refine wpList_app2 rfl (.tmp 45) (.tmp 46) 22 rfl w'.heap.size 5 Try.underlying22 byte_info A2 4 d2 _ rfl ho2 A n c _ rfl hs2 (by omega) hz2 ?_; intro A3 d3 w3 ho3 hg3 hat3; have k3 := k2.grown hg3 hfar2; have f3 := k3.all4.1))
            have hB3 : Below w'.heap.size w' w3 := hB2.grown hg3 hz2 (fun q hq => ho2.row_ge q hq)
            go_ret2
            rw [← HCB.out] at ho3
            have hzl : Z.length = 4 + n := by rw [HCB.out, List.length_append, hxl, hl]
            exact ⟨A3, d3, by rw [hzl]; rfl, by rw [hzl]; exact ho3, hB3⟩
        · obtain ⟨e1, e2⟩ := hno (fun h => hr ((mayT_iff _ _ _ _).1 h).2)
          rw [e1, e2]
          clear hno hyes e1 e2
          unfold cmT at hr
          by_cases ht : (0 : Int) < t
          · have hdec : decide ((0 : Int) < t) = true := decide_eq_true ht
            have htn : 0 < t := by omega
            have HW := Lib.hid (fun W => cm_write_own true q k (4 + (n : Int) + t) W)
            rw [hdec] at hr
            have e1 : writeCB ⟨true, q, k, 4 + (n : Int) + t⟩ = [] := by unfold writeCB; rw [if_neg hr]
            have e2 : writeCE ⟨true, q, k, 4 + (n : Int) + t⟩ = 1 := by unfold writeCE; rw [if_neg hr]
            rw [e1, e2] at HW
            clear hr e1 e2 hdec
            go_enter Try.func9, Try.ntmps9
            go_wp2_with fail
            refine (WT.out _).mono ?_
            rintro e w' ⟨rfl, rfl⟩
            go_wp2_with fail
            refine (WN.out _).mono ?_
            rintro e w' ⟨rfl, rfl⟩
            have k1 := Box.new w' [.bool true, .int .i64 q, .int .i64 k, .int .i64 (4 + (n : Int) + t)] 25
            have hB1 := below1 w' (.cells #[.bool true, .int .i64 q, .int .i64 k, .int .i64 (4 + (n : Int) + t)] 25)
            have f1 := k1.all4.1
            go_wp2_with fail
            refine (HW.out _).mono ?_
            rintro e w2 ⟨A2, d2, rfl, ho, hb⟩
            have hB2 := hB1.trans (hb.mono hB1.size)
            go_wp2_with fail
            go_ret2
            exact ⟨none, 0, rfl, Own.nil _ _ _, hB2⟩
          · have hdec : decide ((0 : Int) < t) = false := decide_eq_false ht
            have htn : ¬ 0 < t := by omega
            have HW := Lib.hid (fun W => cm_write_own false q k (4 + (n : Int) + t) W)
            rw [hdec] at hr
            have e1 : writeCB ⟨false, q, k, 4 + (n : Int) + t⟩ = [] := by unfold writeCB; rw [if_neg hr]
            have e2 : writeCE ⟨false, q, k, 4 + (n : Int) + t⟩ = 1 := by unfold writeCE; rw [if_neg hr]
            rw [e1, e2] at HW
            clear hr e1 e2 hdec
            go_enter Try.func9, Try.ntmps9
            go_wp2_with fail
            refine (WT.out _).mono ?_
            rintro e w' ⟨rfl, rfl⟩
            go_wp2_with fail
            refine (WN.out _).mono ?_
            rintro e w' ⟨rfl, rfl⟩
            have k1 := Box.new w' [.bool false, .int .i64 q, .int .i64 k, .int .i64 (4 + (n : Int) + t)] 25
            have hB1 := below1 w' (.cells #[.bool false, .int .i64 q, .int .i64 k, .int .i64 (4 + (n : Int) + t)] 25)
            have f1 := k1.all4.1
            go_wp2_with fail
            refine (HW.out _).mono ?_
            rintro e w2 ⟨A2, d2, rfl, ho, hb⟩
            have hB2 := hB1.trans (hb.mono hB1.size)
            go_wp2_with fail
            go_ret2
            exact ⟨none, 0, rfl, Own.nil _ _ _, hB2⟩
      · rw [decide_eq_false h3] at WN
        obtain ⟨e1, e2⟩ := hno (fun h => by have := ((mayT_iff _ _ _ _).1 h).1; omega)
        rw [e1, e2]
        clear hno hyes e1 e2
        go_enter Try.func9, Try.ntmps9
        go_wp2_with fail
        refine (WT.out _).mono ?_
        rintro e w' ⟨rfl, rfl⟩
        go_wp2_with fail
        refine (WN.out _).mono ?_
        rintro e w' ⟨rfl, rfl⟩
        go_wp2_with fail
        go_ret2
        exact GivesBE.none_ _ _ _
    · have hw : decide (roundN tr = tr) = false := by
        by_cases h : tr < 0
        · exact whole_neg h
        · obtain ⟨t, rfl⟩ := Int.eq_ofNat_of_zero_le (show 0 ≤ tr by omega)
          rw [whole_iff t (by omega)]
          exact decide_eq_false (by omega)
      rw [hw] at WT
      obtain ⟨e1, e2⟩ := hno (fun h => by have := ((mayT_iff _ _ _ _).1 h).1; omega)
      rw [e1, e2]
      clear hno hyes e1 e2 hw
      go_enter Try.func9, Try.ntmps9
      go_wp2_with fail
      refine (WT.out _).mono ?_
      rintro e w' ⟨rfl, rfl⟩
      go_wp2_with fail
      go_ret2
      exact GivesBE.none_ _ _ _

end Go.Proofs.Ytkfinkmbdpdepaa

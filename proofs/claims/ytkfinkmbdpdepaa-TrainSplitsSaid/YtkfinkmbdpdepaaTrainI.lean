/-
  What the functions of package train come to: Open. (Written by gen_TrainI.py.)
-/
import Derived.Test.YtkfinkmbdpdepaaTrainG
import Derived.Test.YtkfinkmbdpdepaaTrainK
import Derived.Test.YtkfinkmbdpdepaaBox4
namespace Go.Proofs.Ytkfinkmbdpdepaa
open Go.RowKit
set_option linter.unusedVariables false
set_option linter.unusedSimpArgs false

set_option maxRecDepth 100000 in
set_option maxHeartbeats 2000000 in
theorem tr_open (A : Option Addr) (n c : Nat) (s : List UInt8) (w : World) (hs : Bs w A n c s) (hn : n ≤ 1000000) :
    Calls Try.prog 7 #[.slice A n c] w (GivesOp w (openC s) (openD s) (openN s) (openE s)) := by
  have hl := hs.len
  have hno : openE s ≠ 0 → openC s = zeroCm ∧ openD s = [] ∧ openN s = 0 := fun h => by unfold openC openD openN; rw [if_neg h, if_neg h, if_neg h]; exact ⟨rfl, rfl, rfl⟩
  have HR := Lib.hid (fun W h => cm_read_any A n c s W h)
  by_cases h1 : cmE s = 0
  · obtain ⟨q1, q2, q3, q4⟩ := cmE_zero h1
    have hle := (cm_right h1).2.1
    rw [hl] at hle
    have hRC : readCm s = ⟨(readCm s).pad, (readCm s).count, (readCm s).typ, (readCm s).size⟩ := rfl
    by_cases h2 : (readCm s).size = n
    · obtain ⟨t1, t2⟩ := trE_open h1 (by rw [hl]; exact h2)
      have HT := Lib.hid (fun (W : World) (h : Bs W A n c s) => tr_trailOf (readCm s).pad (readCm s).count (readCm s).typ (n : Int) A n c s W h (by omega))
      rw [← t1, ← t2] at HT
      have hPl : openN s + 4 ≤ n := by
        rw [t2]
        have := trP_le (readCm s).pad (s.drop 4)
        rw [List.length_drop] at this
        omega
      rw [h1] at HR
      by_cases h3 : openE s = 0
      · have eC : openC s = readCm s := if_pos h3
        have eD : openD s = (s.drop 4).take (n - openN s - 4) := by unfold openD openB openN; rw [if_pos h3, if_pos h3, hl]
        rw [h3] at HT
        rw [eC, eD, h3]
        clear eC eD t1 t2 hno h1 hRC h3 q1 q2 q3 q4 hle
        generalize openN s = P at *
        generalize readCm s = R at *
        obtain ⟨rp, rc, rt, rz⟩ := R
        dsimp only [cmW] at HR h2 HT ⊢
        subst h2
        have g0 : ¬ (n : Int) < n := by omega
        have hw1 : IntKind.i64.wrap ((n : Int) - P) = (n : Int) - P := IntWalk.i64_in _ (by omega)
        have k1 := Box.new w [.bool false, .int .i64 0, .int .i64 0, .int .i64 0] 25
        have hB := below1 w (.cells #[.bool false, .int .i64 0, .int .i64 0, .int .i64 0] 25)
        go_enter Try.func7, Try.ntmps7
        go_wp2_with fail
        refine (HR.out _ (hs.alloc _)).mono ?_
        rintro x w2 ⟨rfl, hb⟩
        have hs2 := (hs.alloc _).below hb
        replace k1 := k1.call hb
        replace hB := hB.trans (hb.mono (by simp))
        have hsz := hB.size
        have hlt3 : w.heap.size < w2.heap.size := k1.2.2
        have k2 := k1.alloc (.cells #[.bool rp, .int .i64 rc, .int .i64 rt, .int .i64 (n : Int)] 25)
        have hB2 := hB.alloc hsz (.cells #[.bool rp, .int .i64 rc, .int .i64 rt, .int .i64 (n : Int)] 25)
        have kh := Box.new w2 [.bool rp, .int .i64 rc, .int .i64 rt, .int .i64 (n : Int)] 25
        have ka := k2.all4.1
        have kf := k2.free4
        have kha := kh.all4.1
        have hs3 := hs2.alloc (.cells #[.bool rp, .int .i64 rc, .int .i64 rt, .int .i64 (n : Int)] 25)
        go_wp2_with fail
        refine (HT.out _ hs3).mono ?_
        rintro e w4 ⟨rfl, hb4⟩
        have hs4 := hs3.below hb4
        obtain ⟨A1, c1, hsl, hY⟩ := hs4.slice_lr Try.underlying22 byte_size (a := 4) (r := n - P) (by omega) (by omega)
        have hsl2 := fun W => hsl W (4 : Int) ((n : Int) - P) rfl (by omega)
        clear hsl ka kf kha
        have k4 := k2.call hb4
        have kh4 := kh.call hb4
        have hB4 := hB2.trans (hb4.mono hB2.size)
        have hyl := hY.len
        generalize (s.drop 4).take (n - P - 4) = Y at *
        have ka := k4.all4.1
        have kf := k4.free4
        have kha := kh4.all4.1
        go_upto_region 9 with fail
        have k5 : Box w4.drew w.heap.size [.bool false, .int .i64 0, .int .i64 0, .int .i64 0] := k4
        have kh5 : Box w4.drew w2.heap.size [.bool rp, .int .i64 rc, .int .i64 rt, .int .i64 (n : Int)] := kh4
        have a5 := k5.all4.1
        have f5 := k5.free4
        have b5 := kh5.all4.1
        clear ka kf kha
        go_region_with (first | (go_at_call 17; go_loud (refine (clone_any A1 (n - P - 4) c1 _ _ hY.drew (by omega)).mono ?_; rintro e w6 ⟨A6, c6, rfl, hown6, hb6⟩; rw [hyl] at hown6 ⊢; have kh6 := Box.call (w := w4.drew) kh5 hb6; have k6 := Box.call (w := w4.drew) k5 hb6; have a6 := kh6.all4.1; have b6 := k6.all4.1; have f6 := k6.free4; have hB6 := hB4.drew.trans (hb6.mono (by first | exact hB4.size | simpa using hB4.size)); have KQ := Lib.hid (k6.put4 (.bool rp) (.int .i64 rc) (.int .i64 rt) (.int .i64 (n : Int))); have hfar : some w.heap.size ≠ rowOf A6 := (fun e => by have := hown6.row_ge _ e.symm; have := hB4.size; have := k4.2.2; simp at *; omega); have HO := Lib.hid (rowV_put4 hown6 hfar (.bool rp) (.int .i64 rc) (.int .i64 rt) (.int .i64 (n : Int))); have HBq := Lib.hid (below_put4 hB6 (Nat.le_refl w.heap.size) (.bool rp) (.int .i64 rc) (.int .i64 rt) (.int .i64 (n : Int))))))
        all_goals
          go_wp2_with fail
          clear a6 b6 f6
          change bodyPost _ _ _ _ _ (put4 _ w.heap.size (.bool rp) (.int .i64 rc) (.int .i64 rt) (.int .i64 (n : Int)))
          have kz := KQ.out.all4.1
          have hBq := HBq.out
          have hO := Sl.of_own HO.out
          generalize put4 _ w.heap.size (.bool rp) (.int .i64 rc) (.int .i64 rt) (.int .i64 (n : Int)) = wq at *
          rw [← hyl] at hO
          exact bodyPost_ret (v := .tuple #[.agg #[.bool rp, .int .i64 rc, .int .i64 rt, .int .i64 (n : Int)], .slice A6 (n - P - 4) c6, .int .i64 P, .int .i64 0]) (by simp [results, Try.results7, go_sem, *]) rfl ⟨A6, c6, by rw [hyl]; rfl, hO, hBq⟩
      · obtain ⟨eC, eD, eN⟩ := hno h3
        rw [eC, eD, eN]
        rw [eN] at HT
        clear eC eD eN t1 t2 hno h1 hRC q1 q2 q3 q4 hle
        generalize openE s = E at *
        generalize readCm s = R at *
        obtain ⟨rp, rc, rt, rz⟩ := R
        dsimp only [cmW] at HR h2 HT
        subst h2
        have g0 : ¬ (n : Int) < n := by omega
        have hne : ((E : Int) != 0) = true := by rw [bne_iff_ne]; omega
        have k1 := Box.new w [.bool false, .int .i64 0, .int .i64 0, .int .i64 0] 25
        have hB := below1 w (.cells #[.bool false, .int .i64 0, .int .i64 0, .int .i64 0] 25)
        go_enter Try.func7, Try.ntmps7
        go_wp2_with fail
        refine (HR.out _ (hs.alloc _)).mono ?_
        rintro x w2 ⟨rfl, hb⟩
        have hs2 := (hs.alloc _).below hb
        replace k1 := k1.call hb
        replace hB := hB.trans (hb.mono (by simp))
        have hsz := hB.size
        have hlt3 : w.heap.size < w2.heap.size := k1.2.2
        have k2 := k1.alloc (.cells #[.bool rp, .int .i64 rc, .int .i64 rt, .int .i64 (n : Int)] 25)
        have hB2 := hB.alloc hsz (.cells #[.bool rp, .int .i64 rc, .int .i64 rt, .int .i64 (n : Int)] 25)
        have kh := Box.new w2 [.bool rp, .int .i64 rc, .int .i64 rt, .int .i64 (n : Int)] 25
        have ka := k2.all4.1
        have kf := k2.free4
        have kha := kh.all4.1
        have hs3 := hs2.alloc (.cells #[.bool rp, .int .i64 rc, .int .i64 rt, .int .i64 (n : Int)] 25)
        go_wp2_with fail
        refine (HT.out _ hs3).mono ?_
        rintro e w4 ⟨rfl, hb4⟩
        clear ka kf kha
        replace k2 := k2.call hb4
        replace kh := kh.call hb4
        replace hB2 := hB2.trans (hb4.mono hB2.size)
        have ka := k2.all4.1
        have kf := k2.free4
        have kha := kh.all4.1
        have KQ := Lib.hid (k2.put4 (.bool false) (.int .i64 0) (.int .i64 0) (.int .i64 0))
        have HBq := Lib.hid (below_put4 hB2 (Nat.le_refl w.heap.size) (.bool false) (.int .i64 0) (.int .i64 0) (.int .i64 0))
        go_wp2_with fail
        clear ka kf kha
        change bodyPost _ _ _ _ _ (put4 _ w.heap.size (.bool false) (.int .i64 0) (.int .i64 0) (.int .i64 0))
        have kz := KQ.out.all4.1
        have hBq := HBq.out
        generalize put4 _ w.heap.size (.bool false) (.int .i64 0) (.int .i64 0) (.int .i64 0) = wq at *
        exact bodyPost_ret (v := .tuple #[.agg #[.bool false, .int .i64 0, .int .i64 0, .int .i64 0], .slice none 0 0, .int .i64 0, .int .i64 ((E : Nat) : Int)]) (by simp [results, Try.results7, go_sem, *]) rfl ⟨none, 0, rfl, Bs.nil _, hBq⟩
    · have h3 : openE s = 4 := by unfold openE; rw [if_neg (by omega), if_pos (by rw [hl]; exact h2)]
      obtain ⟨eC, eD, eN⟩ := hno (by omega)
      rw [eC, eD, eN, h3]
      rw [h1] at HR
      clear eC eD eN hno h1 hRC q1 q2 q3 q4 h3
      generalize readCm s = R at *
      obtain ⟨rp, rc, rt, rz⟩ := R
      dsimp only [cmW] at HR h2 hle
      have g0 : rz < (n : Int) := by omega
      have k1 := Box.new w [.bool false, .int .i64 0, .int .i64 0, .int .i64 0] 25
      have hB := below1 w (.cells #[.bool false, .int .i64 0, .int .i64 0, .int .i64 0] 25)
      go_enter Try.func7, Try.ntmps7
      go_wp2_with fail
      refine (HR.out _ (hs.alloc _)).mono ?_
      rintro x w2 ⟨rfl, hb⟩
      have hs2 := (hs.alloc _).below hb
      replace k1 := k1.call hb
      replace hB := hB.trans (hb.mono (by simp))
      have hsz := hB.size
      have hlt3 : w.heap.size < w2.heap.size := k1.2.2
      have k2 := k1.alloc (.cells #[.bool rp, .int .i64 rc, .int .i64 rt, .int .i64 rz] 25)
      have hB2 := hB.alloc hsz (.cells #[.bool rp, .int .i64 rc, .int .i64 rt, .int .i64 rz] 25)
      have kh := Box.new w2 [.bool rp, .int .i64 rc, .int .i64 rt, .int .i64 rz] 25
      have ka := k2.all4.1
      have kf := k2.free4
      have kha := kh.all4.1
      go_upto_region 5 with fail
      generalize (w2.alloc (.cells #[.bool rp, .int .i64 rc, .int .i64 rt, .int .i64 rz] 25)) = w3 at *
      have KQ := Lib.hid (k2.put4 (.bool false) (.int .i64 0) (.int .i64 0) (.int .i64 0))
      have HBq := Lib.hid (below_put4 hB2 (Nat.le_refl w.heap.size) (.bool false) (.int .i64 0) (.int .i64 0) (.int .i64 0))
      go_wp2_with fail
      clear ka kf kha
      change bodyPost _ _ _ _ _ (put4 _ w.heap.size (.bool false) (.int .i64 0) (.int .i64 0) (.int .i64 0))
      have kz := KQ.out.all4.1
      have hBq := HBq.out
      generalize put4 _ w.heap.size (.bool false) (.int .i64 0) (.int .i64 0) (.int .i64 0) = wq at *
      exact bodyPost_ret (v := .tuple #[.agg #[.bool false, .int .i64 0, .int .i64 0, .int .i64 0], .slice none 0 0, .int .i64 0, .int .i64 ((4 : Nat) : Int)]) (by simp [results, Try.results7, go_sem, *]) rfl ⟨none, 0, rfl, Bs.nil _, hBq⟩
  · have h3 : openE s = cmE s := by unfold openE; rw [if_pos h1]
    obtain ⟨eC, eD, eN⟩ := hno (by omega)
    rw [eC, eD, eN, h3]
    clear eC eD eN hno h3
    generalize readCm s = R at *
    obtain ⟨rp, rc, rt, rz⟩ := R
    generalize cmE s = E at *
    dsimp only [cmW] at HR
    have hne : ((E : Int) != 0) = true := by rw [bne_iff_ne]; omega
    have k1 := Box.new w [.bool false, .int .i64 0, .int .i64 0, .int .i64 0] 25
    have hB := below1 w (.cells #[.bool false, .int .i64 0, .int .i64 0, .int .i64 0] 25)
    go_enter Try.func7, Try.ntmps7
    go_wp2_with fail
    refine (HR.out _ (hs.alloc _)).mono ?_
    rintro x w2 ⟨rfl, hb⟩
    have hs2 := (hs.alloc _).below hb
    replace k1 := k1.call hb
    replace hB := hB.trans (hb.mono (by simp))
    have hsz := hB.size
    have hlt3 : w.heap.size < w2.heap.size := k1.2.2
    have k2 := k1.alloc (.cells #[.bool rp, .int .i64 rc, .int .i64 rt, .int .i64 rz] 25)
    have hB2 := hB.alloc hsz (.cells #[.bool rp, .int .i64 rc, .int .i64 rt, .int .i64 rz] 25)
    have kh := Box.new w2 [.bool rp, .int .i64 rc, .int .i64 rt, .int .i64 rz] 25
    have ka := k2.all4.1
    have kf := k2.free4
    have kha := kh.all4.1
    go_upto_region 3 with fail
    generalize (w2.alloc (.cells #[.bool rp, .int .i64 rc, .int .i64 rt, .int .i64 rz] 25)) = w3 at *
    have KQ := Lib.hid (k2.put4 (.bool false) (.int .i64 0) (.int .i64 0) (.int .i64 0))
    have HBq := Lib.hid (below_put4 hB2 (Nat.le_refl w.heap.size) (.bool false) (.int .i64 0) (.int .i64 0) (.int .i64 0))
    go_wp2_with fail
    clear ka kf kha
    change bodyPost _ _ _ _ _ (put4 _ w.heap.size (.bool false) (.int .i64 0) (.int .i64 0) (.int .i64 0))
    have kz := KQ.out.all4.1
    have hBq := HBq.out
    generalize put4 _ w.heap.size (.bool false) (.int .i64 0) (.int .i64 0) (.int .i64 0) = wq at *
    exact bodyPost_ret (v := .tuple #[.agg #[.bool false, .int .i64 0, .int .i64 0, .int .i64 0], .slice none 0 0, .int .i64 0, .int .i64 ((E : Nat) : Int)]) (by simp [results, Try.results7, go_sem, *]) rfl ⟨none, 0, rfl, Bs.nil _, hBq⟩

end Go.Proofs.Ytkfinkmbdpdepaa

/-
  What the document's own answers for layer 11 come to: May, Close, Lists.
-/
import Derived.Test.YtkfinkmbdpdepaaComR
import Derived.Test.YtkfinkmbdpdepaaTrainM
import Derived.Test.YtkfinkmbdpdepaaBase
namespace Go.Proofs.Ytkfinkmbdpdepaa
open Go.RowKit
set_option linter.unusedVariables false
set_option linter.unusedSimpArgs false

set_option maxRecDepth 100000 in
set_option maxHeartbeats 1000000 in
theorem rtmay_any (k q : Int) (A : Option Addr) (n c : Nat) (tr : Int) (w : World) (hn : n ≤ 100000000) :
    Calls Try.prog 10 #[.int .i64 k, .int .i64 q, .slice A n c, .int .i64 tr] w (Says w (.bool (mayT k q n tr))) := by
  have HR := Lib.hid (fun W => rcright_any ⟨false, q, k, 4 + n + tr⟩ W)
  have HM : Hid (mayT k q n tr = (decide (0 ≤ tr ∧ tr ≤ 252 ∧ tr % 4 = 0 ∧ n % 4 = 0) && rightCm ⟨false, q, k, 4 + n + tr⟩)) := Lib.hid rfl
  generalize mayT k q n tr = r at *
  dsimp only [cmW] at HR
  generalize rightCm ⟨false, q, k, 4 + n + tr⟩ = rr at *
  by_cases h1 : tr < 0
  · have hr : Hid (r = false) := Lib.hid (by rw [HM.out, decide_eq_false (by omega), Bool.false_and])
    clear HR HM
    go_enter Try.func10, Try.ntmps10
    go_wp2_with fail
    go_ret
    exact ⟨by rw [hr.out]; rfl, Below.refl _ _⟩
  · by_cases h2 : 252 < tr
    · have hr : Hid (r = false) := Lib.hid (by rw [HM.out, decide_eq_false (by omega), Bool.false_and])
      clear HR HM
      go_enter Try.func10, Try.ntmps10
      go_wp2_with fail
      go_ret
      exact ⟨by rw [hr.out]; rfl, Below.refl _ _⟩
    · obtain ⟨t, rfl⟩ := Int.eq_ofNat_of_zero_le (show 0 ≤ tr by omega)
      have e1 : ((t : Nat) : Int).tmod 4 = ((t % 4 : Nat) : Int) := by rw [Int.tmod_eq_emod_of_nonneg (by omega)]; omega
      have e2 : ((n : Nat) : Int).tmod 4 = ((n % 4 : Nat) : Int) := by rw [Int.tmod_eq_emod_of_nonneg (by omega)]; omega
      obtain ⟨x, hx⟩ : ∃ x : Int, ((t % 4 : Nat) : Int) = x := ⟨_, rfl⟩
      obtain ⟨y, hy⟩ : ∃ y : Int, ((n % 4 : Nat) : Int) = y := ⟨_, rfl⟩
      rw [hx] at e1
      rw [hy] at e2
      by_cases h3 : x = 0
      · by_cases h4 : y = 0
        · have hr : Hid (r = rr) := Lib.hid (by rw [HM.out, decide_eq_true (by omega), Bool.true_and])
          subst h3 h4
          clear HM hx hy
          go_enter Try.func10, Try.ntmps10
          go_wp2_with fail
          refine (HR.out _).mono ?_
          rintro e w2 ⟨rfl, hb⟩
          go_wp2_with fail
          go_ret
          exact ⟨by rw [hr.out]; rfl, hb⟩
        · have hr : Hid (r = false) := Lib.hid (by rw [HM.out, decide_eq_false (by omega), Bool.false_and])
          have g1 : (y != 0) = true := by rw [bne_iff_ne]; exact h4
          subst h3
          clear HM HR hx hy h4
          go_enter Try.func10, Try.ntmps10
          go_wp2_with fail
          go_ret
          exact ⟨by rw [hr.out]; rfl, Below.refl _ _⟩
      · have hr : Hid (r = false) := Lib.hid (by rw [HM.out, decide_eq_false (by omega), Bool.false_and])
        have g1 : (x != 0) = true := by rw [bne_iff_ne]; exact h3
        clear HM HR hx hy h3
        go_enter Try.func10, Try.ntmps10
        go_wp2_with fail
        go_ret
        exact ⟨by rw [hr.out]; rfl, Below.refl _ _⟩

set_option maxRecDepth 100000 in
set_option maxHeartbeats 1000000 in
theorem rtclose_any (k q : Int) (A : Option Addr) (n c : Nat) (s : List UInt8) (tr : Int) (w : World) (hs : Bs w A n c s) (hm : mayT k q s.length tr = true) :
    Calls Try.prog 11 #[.int .i64 k, .int .i64 q, .slice A n c, .int .i64 tr] w (GivesB w 5 (closeB k q s tr)) := by
  have hl := hs.len
  obtain ⟨⟨h1, h2, h3, h4⟩, hr⟩ := (mayT_iff _ _ _ _).1 hm
  obtain ⟨b1, b2, b3, b4, b5, b6, b7⟩ := (rightCm_iff _).1 hr
  have b6' : 4 + (s.length : Int) + tr ≤ 262144 := b6
  have hcl := closeB_length (kind := k) (count := q) (body := s) h1
  obtain ⟨t, rfl⟩ := Int.eq_ofNat_of_zero_le h1
  have HW := Lib.hid (fun W => rcwrite_own (cmT k q s.length t) W hr)
  have HC : Hid (closeB k q s t = if 0 < (t : Int) then addB (writeCm (cmT k q s.length t) ++ s) t else writeCm (cmT k q s.length t) ++ s) := Lib.hid rfl
  have hxl : (writeCm (cmT k q s.length t)).length = 4 := rfl
  dsimp only [cmW, cmT] at HW
  rw [hl] at *
  generalize closeB k q s t = Z at *
  clear hm hr b1 b2 b3 b4 b5 b6 b7
  change Hid (Z = if 0 < (t : Int) then addB (writeCm ⟨decide (0 < (t : Int)), q, k, 4 + n + t⟩ ++ s) t else writeCm ⟨decide (0 < (t : Int)), q, k, 4 + n + t⟩ ++ s) at HC
  change (writeCm ⟨decide (0 < (t : Int)), q, k, 4 + n + t⟩).length = 4 at hxl
  generalize writeCm ⟨decide (0 < (t : Int)), q, k, 4 + n + t⟩ = X at *
  have w1 : IntKind.i64.wrap (4 + (n : Int)) = 4 + n := IntWalk.i64_in _ (by omega)
  have w2 : IntKind.i64.wrap (4 + (n : Int) + t) = 4 + n + t := IntWalk.i64_in _ (by omega)
  by_cases ht : (0 : Int) < t
  · rw [decide_eq_true ht] at HW
    have ht' : 0 < t := by omega
    rw [if_pos ht] at HC
    go_enter Try.func11, Try.ntmps11
    go_wp2_with fail
    refine (HW.out _).mono ?_
    rintro e w2 ⟨A2, d2, rfl, ho, hb⟩
    have hs2 := hs.below hb
    have hz2 := hb.size
    go_wp2_with (at_builtin; refine wpList_app2 rfl (.tmp 21) (.tmp 22) 22 rfl w.heap.size 5 Try.underlying22 byte_info A2 4 d2 _ rfl ho A n c _ rfl hs2 (by omega) hz2 ?_; intro A3 d3 w3 ho3 hg3 hat3)
    refine (radd_any A3 (4 + n) d3 (X ++ s) t _ ho3.bs (by omega) (by omega) (by omega)).mono ?_
    rintro e w4 ⟨A4, d4, rfl, ho4, hb4⟩
    rw [← HC.out] at ho4 ⊢
    have hB3 : Below w.heap.size w w3 := hb.grown hg3 hz2 (fun q hq => ho.row_ge q hq)
    go_wp2_with fail
    go_ret
    exact ⟨A4, d4, rfl, ho4.mono hB3.size, hB3.trans (hb4.mono hB3.size)⟩
  · rw [decide_eq_false ht] at HW
    have ht' : ¬ 0 < t := by omega
    rw [if_neg ht] at HC
    go_enter Try.func11, Try.ntmps11
    go_wp2_with fail
    refine (HW.out _).mono ?_
    rintro e w2 ⟨A2, d2, rfl, ho, hb⟩
    have hs2 := hs.below hb
    have hz2 := hb.size
    go_wp2_with (at_builtin; refine wpList_app2 rfl (.tmp 21) (.tmp 22) 22 rfl w.heap.size 5 Try.underlying22 byte_info A2 4 d2 _ rfl ho A n c _ rfl hs2 (by omega) hz2 ?_; intro A3 d3 w3 ho3 hg3 hat3)
    have hB3 : Below w.heap.size w w3 := hb.grown hg3 hz2 (fun q hq => ho.row_ge q hq)
    rw [← HC.out] at ho3
    have hzl : Z.length = 4 + n := by rw [HC.out, List.length_append, hxl, hs.len]
    go_ret
    exact ⟨A3, d3, by rw [hzl]; rfl, by rw [hzl]; exact ho3, hB3⟩

end Go.Proofs.Ytkfinkmbdpdepaa

/-
  TrainBack, walked under the contracts of package train's calls. (Written by gen_TrainBackW.py.)
-/
import Derived.Test.YtkfinkmbdpdepaaTrainA
namespace Go.Proofs.Ytkfinkmbdpdepaa
open Go.RowKit
set_option linter.unusedVariables false
set_option linter.unusedSimpArgs false

section
variable (KC : TrainCalls)
include KC
set_option maxRecDepth 100000 in
set_option maxHeartbeats 1000000 in
theorem trainBack_big1 (k q : Int) (A : Option Addr) (n c : Nat) (s : List UInt8) (t : Int) (B : Option Addr) (m d : Nat) (u : List UInt8) (w : World) (hm : (n : Int) ≤ 9223372036854775807) (hb : 3000 < n) :
    Calls Try.prog 4 #[.int .i64 k, .int .i64 q, .slice A n c, .int .i64 t, .slice B m d] w fun e w' => e = .returned (.bool true) ∧ Below w.heap.size w w' := by
  have g1 : (3000 : Int) < n := by omega
  go_enter Try.func4, Try.ntmps4
  go_wp2_with fail
  refine (awake11_any KC _).mono ?_
  rintro e w2 ⟨rfl, hb2⟩
  go_wp2_with fail
  go_ret
  exact ⟨rfl, hb2⟩

set_option maxRecDepth 100000 in
set_option maxHeartbeats 1000000 in
theorem trainBack_big2 (k q : Int) (A : Option Addr) (n c : Nat) (s : List UInt8) (t : Int) (B : Option Addr) (m d : Nat) (u : List UInt8) (w : World) (hn : n ≤ 3000) (hm : (m : Int) ≤ 9223372036854775807) (hb : 3000 < m) :
    Calls Try.prog 4 #[.int .i64 k, .int .i64 q, .slice A n c, .int .i64 t, .slice B m d] w fun e w' => e = .returned (.bool true) ∧ Below w.heap.size w w' := by
  have g1 : ¬ (3000 : Int) < n := by omega
  have g2 : (3000 : Int) < m := by omega
  go_enter Try.func4, Try.ntmps4
  go_wp2_with fail
  refine (awake11_any KC _).mono ?_
  rintro e w2 ⟨rfl, hb2⟩
  go_wp2_with fail
  go_ret
  exact ⟨rfl, hb2⟩

set_option maxRecDepth 100000 in
set_option maxHeartbeats 1000000 in
theorem trainBack_no (k q : Int) (A : Option Addr) (n c : Nat) (s : List UInt8) (t : Int) (B : Option Addr) (m d : Nat) (u : List UInt8) (w : World) (hs : Bs w A n c s) (hu : Bs w B m d u) (hn : n ≤ 3000) (hm : m ≤ 3000) (hr : mayT k q n t = false) :
    Calls Try.prog 4 #[.int .i64 k, .int .i64 q, .slice A n c, .int .i64 t, .slice B m d] w fun e w' => e = .returned (.bool true) ∧ Below w.heap.size w w' := by
  have hml := hu.len
  have hl := hs.len
  have HC1 := Lib.hid (fun W h => KC.close k q A n c s t W h (by omega))
  have HOu := Lib.hid (fun W h => KC.open_ B m d u W h (by omega))
  have g1 : ¬ (3000 : Int) < n := by omega
  have g2 : ¬ (3000 : Int) < m := by omega
  have e1 : closeR k q s t = [] := by unfold closeR; rw [hl, hr]; rfl
  have e2 : closeE k q s t = 1 := by unfold closeE; rw [hl, hr]; rfl
  rw [e1, e2] at HC1
  unfold GivesBE at HC1
  clear e1 e2 hr hl
  have hB := Below.refl w.heap.size w
  go_enter Try.func4, Try.ntmps4
  go_wp2_with fail
  refine (awake11_any KC _).mono ?_
  rintro e w2 ⟨rfl, hb⟩
  replace hs := hs.below hb
  replace hu := hu.below hb
  replace hB := hB.trans (hb.mono hB.size)
  clear hb
  go_wp2_with fail
  refine (HC1.out _ hs).mono ?_
  rintro e w3 ⟨A3, c3, rfl, hx, hb⟩
  clear hx
  replace hs := hs.below hb
  replace hu := hu.below hb
  replace hB := hB.trans (hb.mono hB.size)
  clear hb
  clear hs
  by_cases her : openE u = 0
  · rw [her] at HOu
    obtain ⟨m1, m2, m3⟩ := close_open her
    obtain ⟨p1, p2, p3, p4⟩ := openP_le her
    rw [hml] at m3 p1
    have eC : openC u = readCm u := if_pos her
    have eD : openD u = openB u := if_pos her
    have eN : openN u = openP u := if_pos her
    rw [eC, eD, eN] at HOu
    have hzc : Hid (closeB (readCm u).typ (readCm u).count (openB u) (openP u) = u ↔ zeroB ((u.drop (m - openP u)).take (openP u - 1)) = true) := Lib.hid (by rw [← hml]; exact close_clean her)
    have hcl := closeB_length (kind := (readCm u).typ) (count := (readCm u).count) (body := openB u) (trail := (openP u : Int)) (by omega)
    have HC2 := Lib.hid (fun W (P : Option Addr) a h => KC.close (readCm u).typ (readCm u).count P (openB u).length a (openB u) (openP u : Int) W h (by omega))
    have e1 : closeR (readCm u).typ (readCm u).count (openB u) (openP u : Int) = closeB (readCm u).typ (readCm u).count (openB u) (openP u : Int) := if_pos m1
    have e2 : closeE (readCm u).typ (readCm u).count (openB u) (openP u : Int) = 0 := if_pos m1
    rw [e1, e2] at HC2
    unfold GivesBE at HC2
    have hZl : (closeB (readCm u).typ (readCm u).count (openB u) (openP u : Int)).length = m := by omega
    rw [hZl] at HC2
    obtain ⟨V, hV⟩ : ∃ V, u.drop (m - openP u) = V := ⟨_, rfl⟩
    have hVl : V.length = openP u := by rw [← hV, List.length_drop, hml]; omega
    have HV : Hid (∀ j, j < openP u → zeroB (V.take (j + 1)) = (zeroB (V.take j) && ((u.getD (m - openP u + j) 0).toNat == 0))) := Lib.hid (fun j hj => by
      rw [zeroB_snoc V j (by omega), ← hV, List.getD_eq_getElem?_getD, List.getD_eq_getElem?_getD, List.getElem?_drop])
    rw [hV] at hzc
    clear eC eD eN e1 e2 m1 m2 p4 her hV hVl hcl hZl
    have hDl : (openB u).length + openP u + 4 = m := by omega
    clear m3
    generalize closeB (readCm u).typ (readCm u).count (openB u) (openP u : Int) = Z at *
    generalize openB u = D at *
    generalize openP u = N at *
    generalize readCm u = R at *
    obtain ⟨up, uc, ut, uz⟩ := R
    unfold GivesOp at HOu
    dsimp only [cmW] at HOu HC2
    go_wp2_with fail
    refine (HOu.out _ hu).mono ?_
    rintro e w6 ⟨A6, c6, rfl, hd, hb⟩
    replace hu := hu.below hb
    replace hB := hB.trans (hb.mono hB.size)
    clear hb
    have k6 := Box.new w6 [.bool up, .int .i64 uc, .int .i64 ut, .int .i64 uz] 25
    replace hu := hu.alloc (.cells #[.bool up, .int .i64 uc, .int .i64 ut, .int .i64 uz] 25)
    replace hd := hd.alloc (.cells #[.bool up, .int .i64 uc, .int .i64 ut, .int .i64 uz] 25)
    replace hB := hB.alloc hB.size (.cells #[.bool up, .int .i64 uc, .int .i64 ut, .int .i64 uz] 25)
    have fk6 := k6.all4.1
    go_wp2_with fail
    refine (HC2.out _ _ _ hd).mono ?_
    rintro e w7 ⟨A7, c7, rfl, hz, hb⟩
    clear fk6
    replace hu := hu.below hb
    replace hd := hd.below hb
    replace k6 := k6.call hb
    replace hB := hB.trans (hb.mono hB.size)
    clear hb
    replace hz := hz.bs
    clear hd k6
    have h1 : ((m : Int) != (m : Int)) = false := by rw [bne_eq_false_iff_eq]
    have h2 : ¬ (N : Int) < 0 := by omega
    have h3 : ¬ (m : Int) < N := by omega
    have hw1 : IntKind.i64.wrap ((m : Int) - N) = (m : Int) - N := IntWalk.i64_in _ (by omega)
    go_wp2_with fail
    go_loopw [23, 24] (fun cl i W => ∃ j : Nat, j ≤ N - 1 ∧ i = .int .i64 ((m - N + j : Nat) : Int) ∧ cl = .bool (zeroB (V.take j)) ∧ Bs W B m d u ∧ Bs W A7 m c7 Z ∧ Below w.heap.size w W) (fun _ i _ => m - (intOf i).toNat)
    case atStart => exact ⟨0, Nat.zero_le _, by rw [show ((m - N + 0 : Nat) : Int) = (m : Int) - N by omega], rfl, hu, hz, hB⟩
    case round =>
      clear hu hz hB
      obtain ⟨j, hj, rfl, rfl, hu, hz, hB⟩ := hrel
      have hw2 : IntKind.i64.wrap ((m : Int) - 1) = (m : Int) - 1 := IntWalk.i64_in _ (by omega)
      by_cases hjn : j < N - 1
      · have hV1 := HV.out j (by omega)
        obtain ⟨b, o, rfl, hlt, hc⟩ := hu.at_ (by omega)
        have hcell := hc (m - N + j) (by omega)
        clear hc
        have hx := byte_getD_lt u (m - N + j)
        generalize (u.getD (m - N + j) 0).toNat = x at *
        obtain ⟨p, hp⟩ : ∃ p, m - N + j = p := ⟨_, rfl⟩
        rw [hp] at hcell ⊢
        have i1 : (p : Int) < (m : Int) - 1 := by omega
        have i2 : (p : Int) < m := by omega
        have i3 : p < m := by omega
        have hw3 : IntKind.i64.wrap ((p : Int) + 1) = (p : Int) + 1 := IntWalk.i64_in _ (by omega)
        cases hz0 : zeroB (V.take j)
        · rw [hz0, Bool.false_and] at hV1
          have HV1 := Lib.hid hV1
          clear hV1 hz0
          go_wp2_with fail
          go_roundw
          case rel => exact ⟨j + 1, by omega, by rw [show ((m - N + (j + 1) : Nat) : Int) = (p : Int) + 1 by omega], by rw [HV1.out], hu, hz, hB⟩
          case measure => simp [intOf]; omega
        · rw [hz0, Bool.true_and] at hV1
          by_cases hx0 : x = 0
          · subst hx0
            have HV1 := Lib.hid hV1
            clear hV1 hz0
            go_wp2_with fail
            go_roundw
            case rel => exact ⟨j + 1, by omega, by rw [show ((m - N + (j + 1) : Nat) : Int) = (p : Int) + 1 by omega], by rw [HV1.out]; rfl, hu, hz, hB⟩
            case measure => simp [intOf]; omega
          · have hxe : (x == 0) = false := by rw [beq_eq_false_iff_ne]; exact hx0
            rw [hxe] at hV1
            have hxi : ((x : Int) == 0) = false := by rw [beq_eq_false_iff_ne]; omega
            have HV1 := Lib.hid hV1
            clear hV1 hz0 hxe
            go_wp2_with fail
            go_roundw
            case rel => exact ⟨j + 1, by omega, by rw [show ((m - N + (j + 1) : Nat) : Int) = (p : Int) + 1 by omega], by rw [HV1.out], hu, hz, hB⟩
            case measure => simp [intOf]; omega
      · obtain rfl : j = N - 1 := by omega
        obtain ⟨p, hp⟩ : ∃ p, m - N + (N - 1) = p := ⟨_, rfl⟩
        rw [hp]
        have i1 : ¬ (p : Int) < (m : Int) - 1 := by omega
        have t1 := str_of hu
        have t2 := str_of hz
        by_cases hzu : Z = u
        · have e1 := hzc.out.1 hzu
          rw [e1]
          subst hzu
          go_wp2_with fail
          go_ret
          exact ⟨by first | rfl | (simp; done), hB⟩
        · have e1 : zeroB (V.take (N - 1)) = false := by
            cases h : zeroB (V.take (N - 1))
            · rfl
            · exact absurd (hzc.out.2 h) hzu
          rw [e1]
          have hne : (Z == u) = false := by rw [beq_eq_false_iff_ne]; exact hzu
          clear e1 hzu
          go_wp2_with fail
          go_ret
          exact ⟨by first | rfl | (simp; done), hB⟩
  · have eC : openC u = zeroCm := if_neg her
    have eD : openD u = [] := if_neg her
    have eN : openN u = 0 := if_neg her
    rw [eC, eD, eN] at HOu
    clear eC eD eN
    generalize openE u = er at *
    unfold GivesOp at HOu
    dsimp only [cmW, zeroCm] at HOu
    have hne : ((er : Int) != 0) = true := by rw [bne_iff_ne]; omega
    have heq : ∀ W, (binOp .eql 25 (.agg #[.bool false, .int .i64 0, .int .i64 0, .int .i64 0]) (.agg #[.bool false, .int .i64 0, .int .i64 0, .int .i64 0])).run Try.prog W = .ok (.bool true) W := fun W => by
      have := eqCm zeroCm zeroCm W
      rwa [decide_eq_true rfl] at this
    go_wp2_with fail
    refine (HOu.out _ hu).mono ?_
    rintro e w6 ⟨A6, c6, rfl, hd, hb⟩
    replace hu := hu.below hb
    replace hB := hB.trans (hb.mono hB.size)
    clear hb
    have k6 := Box.new w6 [.bool false, .int .i64 0, .int .i64 0, .int .i64 0] 25
    replace hu := hu.alloc (.cells #[.bool false, .int .i64 0, .int .i64 0, .int .i64 0] 25)
    replace hB := hB.alloc hB.size (.cells #[.bool false, .int .i64 0, .int .i64 0, .int .i64 0] 25)
    have fk6 := k6.all4.1
    go_wp2_with fail
    go_ret
    exact ⟨by first | rfl | (simp; done), hB⟩

set_option maxRecDepth 100000 in
set_option maxHeartbeats 1000000 in
theorem trainBack_pad (k q : Int) (A : Option Addr) (n c : Nat) (s : List UInt8) (t : Int) (B : Option Addr) (m d : Nat) (u : List UInt8) (w : World) (hs : Bs w A n c s) (hu : Bs w B m d u) (hn : n ≤ 3000) (hm : m ≤ 3000) (hr : mayT k q n t = true) (hdec : decide (0 < t) = true) :
    Calls Try.prog 4 #[.int .i64 k, .int .i64 q, .slice A n c, .int .i64 t, .slice B m d] w fun e w' => e = .returned (.bool true) ∧ Below w.heap.size w w' := by
  have hml := hu.len
  have hl := hs.len
  have HC1 := Lib.hid (fun W h => KC.close k q A n c s t W h (by omega))
  have HOu := Lib.hid (fun W h => KC.open_ B m d u W h (by omega))
  have g1 : ¬ (3000 : Int) < n := by omega
  have g2 : ¬ (3000 : Int) < m := by omega
  have hr2 : mayT k q s.length t = true := by rw [hl]; exact hr
  obtain ⟨o1, o2, o3, o4, o5⟩ := open_close hr2
  obtain ⟨⟨v1, v2, v3, v4⟩, v5⟩ := (mayT_iff _ _ _ _).1 hr
  have e1 : closeR k q s t = closeB k q s t := if_pos hr2
  have e2 : closeE k q s t = 0 := if_pos hr2
  have hxl := closeB_length (kind := k) (count := q) (body := s) (trail := t) v1
  rw [hl] at hxl o3
  rw [e1, e2] at HC1
  unfold GivesBE at HC1
  have eC : openC (closeB k q s t) = cmT k q n t := by unfold openC; rw [if_pos o1, o3]
  have eD : openD (closeB k q s t) = s := by unfold openD; rw [if_pos o1, o4]
  have eN : (openN (closeB k q s t) : Int) = t := by unfold openN; rw [if_pos o1, o5]
  have HO1 := Lib.hid (fun W (P : Option Addr) a h => KC.open_ P (closeB k q s t).length a (closeB k q s t) W h (by omega))
  rw [eC, eD, o1] at HO1
  unfold GivesOp at HO1
  rw [eN] at HO1
  rw [hl] at HO1
  unfold cmT at HO1
  rw [show decide (0 < t) = true from hdec] at HO1
  dsimp only [cmW] at HO1
  clear e1 e2 hr hr2 o1 o2 o3 o4 o5 v5 eC eD eN
  generalize closeB k q s t = X at *
  obtain ⟨t, rfl⟩ := Int.eq_ofNat_of_zero_le v1
  obtain ⟨lx, hlx⟩ : ∃ lx, X.length = lx := ⟨_, rfl⟩
  rw [hlx] at HC1 HO1 hxl
  have htn : 0 < t := by have := of_decide_eq_true hdec; omega
  have hti : (0 : Int) < t := by omega
  clear hdec hlx
  have hlz : (4 : Int) + n + t = lx := by omega
  rw [hlz] at HO1
  clear hlz
  have hm4 : ((lx : Nat) : Int).tmod 4 = 0 := by rw [Int.tmod_eq_emod_of_nonneg (by omega)]; omega
  have hlx2 : lx ≤ 4000 := by omega
  clear hxl
  have hB := Below.refl w.heap.size w
  go_enter Try.func4, Try.ntmps4
  go_wp2_with fail
  refine (awake11_any KC _).mono ?_
  rintro e w2 ⟨rfl, hb⟩
  replace hs := hs.below hb
  replace hu := hu.below hb
  replace hB := hB.trans (hb.mono hB.size)
  clear hb
  go_wp2_with fail
  refine (HC1.out _ hs).mono ?_
  rintro e w3 ⟨A3, c3, rfl, hx, hb⟩
  replace hs := hs.below hb
  replace hu := hu.below hb
  replace hB := hB.trans (hb.mono hB.size)
  clear hb
  replace hx := hx.bs
  go_wp2_with fail
  refine (HO1.out _ _ _ hx).mono ?_
  rintro e w4 ⟨A4, c4, rfl, hy, hb⟩
  replace hs := hs.below hb
  replace hu := hu.below hb
  replace hx := hx.below hb
  replace hB := hB.trans (hb.mono hB.size)
  clear hb
  have k4 := Box.new w4 [.bool true, .int .i64 q, .int .i64 k, .int .i64 (lx : Int)] 25
  replace hs := hs.alloc (.cells #[.bool true, .int .i64 q, .int .i64 k, .int .i64 (lx : Int)] 25)
  replace hu := hu.alloc (.cells #[.bool true, .int .i64 q, .int .i64 k, .int .i64 (lx : Int)] 25)
  replace hx := hx.alloc (.cells #[.bool true, .int .i64 q, .int .i64 k, .int .i64 (lx : Int)] 25)
  replace hy := hy.alloc (.cells #[.bool true, .int .i64 q, .int .i64 k, .int .i64 (lx : Int)] 25)
  replace hB := hB.alloc hB.size (.cells #[.bool true, .int .i64 q, .int .i64 k, .int .i64 (lx : Int)] 25)
  have fk4 := k4.all4.1
  have t1 := str_of hs
  have t2 := str_of hy
  go_upto_region 10 with fail
  clear t1 t2 HC1 HO1
  clear fk4
  clear k4 hx hy hs
  by_cases her : openE u = 0
  · rw [her] at HOu
    obtain ⟨m1, m2, m3⟩ := close_open her
    obtain ⟨p1, p2, p3, p4⟩ := openP_le her
    rw [hml] at m3 p1
    have eC : openC u = readCm u := if_pos her
    have eD : openD u = openB u := if_pos her
    have eN : openN u = openP u := if_pos her
    rw [eC, eD, eN] at HOu
    have hzc : Hid (closeB (readCm u).typ (readCm u).count (openB u) (openP u) = u ↔ zeroB ((u.drop (m - openP u)).take (openP u - 1)) = true) := Lib.hid (by rw [← hml]; exact close_clean her)
    have hcl := closeB_length (kind := (readCm u).typ) (count := (readCm u).count) (body := openB u) (trail := (openP u : Int)) (by omega)
    have HC2 := Lib.hid (fun W (P : Option Addr) a h => KC.close (readCm u).typ (readCm u).count P (openB u).length a (openB u) (openP u : Int) W h (by omega))
    have e1 : closeR (readCm u).typ (readCm u).count (openB u) (openP u : Int) = closeB (readCm u).typ (readCm u).count (openB u) (openP u : Int) := if_pos m1
    have e2 : closeE (readCm u).typ (readCm u).count (openB u) (openP u : Int) = 0 := if_pos m1
    rw [e1, e2] at HC2
    unfold GivesBE at HC2
    have hZl : (closeB (readCm u).typ (readCm u).count (openB u) (openP u : Int)).length = m := by omega
    rw [hZl] at HC2
    obtain ⟨V, hV⟩ : ∃ V, u.drop (m - openP u) = V := ⟨_, rfl⟩
    have hVl : V.length = openP u := by rw [← hV, List.length_drop, hml]; omega
    have HV : Hid (∀ j, j < openP u → zeroB (V.take (j + 1)) = (zeroB (V.take j) && ((u.getD (m - openP u + j) 0).toNat == 0))) := Lib.hid (fun j hj => by
      rw [zeroB_snoc V j (by omega), ← hV, List.getD_eq_getElem?_getD, List.getD_eq_getElem?_getD, List.getElem?_drop])
    rw [hV] at hzc
    clear eC eD eN e1 e2 m1 m2 p4 her hV hVl hcl hZl
    have hDl : (openB u).length + openP u + 4 = m := by omega
    clear m3
    generalize closeB (readCm u).typ (readCm u).count (openB u) (openP u : Int) = Z at *
    generalize openB u = D at *
    generalize openP u = N at *
    generalize readCm u = R at *
    obtain ⟨up, uc, ut, uz⟩ := R
    unfold GivesOp at HOu
    dsimp only [cmW] at HOu HC2
    go_wp2_with fail
    refine (HOu.out _ hu).mono ?_
    rintro e w6 ⟨A6, c6, rfl, hd, hb⟩
    replace hu := hu.below hb
    replace hB := hB.trans (hb.mono hB.size)
    clear hb
    have k6 := Box.new w6 [.bool up, .int .i64 uc, .int .i64 ut, .int .i64 uz] 25
    replace hu := hu.alloc (.cells #[.bool up, .int .i64 uc, .int .i64 ut, .int .i64 uz] 25)
    replace hd := hd.alloc (.cells #[.bool up, .int .i64 uc, .int .i64 ut, .int .i64 uz] 25)
    replace hB := hB.alloc hB.size (.cells #[.bool up, .int .i64 uc, .int .i64 ut, .int .i64 uz] 25)
    have fk6 := k6.all4.1
    go_wp2_with fail
    refine (HC2.out _ _ _ hd).mono ?_
    rintro e w7 ⟨A7, c7, rfl, hz, hb⟩
    clear fk6
    replace hu := hu.below hb
    replace hd := hd.below hb
    replace k6 := k6.call hb
    replace hB := hB.trans (hb.mono hB.size)
    clear hb
    replace hz := hz.bs
    clear hd k6
    have h1 : ((m : Int) != (m : Int)) = false := by rw [bne_eq_false_iff_eq]
    have h2 : ¬ (N : Int) < 0 := by omega
    have h3 : ¬ (m : Int) < N := by omega
    have hw1 : IntKind.i64.wrap ((m : Int) - N) = (m : Int) - N := IntWalk.i64_in _ (by omega)
    go_wp2_with fail
    go_loopw [23, 24] (fun cl i W => ∃ j : Nat, j ≤ N - 1 ∧ i = .int .i64 ((m - N + j : Nat) : Int) ∧ cl = .bool (zeroB (V.take j)) ∧ Bs W B m d u ∧ Bs W A7 m c7 Z ∧ Below w.heap.size w W) (fun _ i _ => m - (intOf i).toNat)
    case atStart => exact ⟨0, Nat.zero_le _, by rw [show ((m - N + 0 : Nat) : Int) = (m : Int) - N by omega], rfl, hu, hz, hB⟩
    case round =>
      clear hu hz hB
      obtain ⟨j, hj, rfl, rfl, hu, hz, hB⟩ := hrel
      have hw2 : IntKind.i64.wrap ((m : Int) - 1) = (m : Int) - 1 := IntWalk.i64_in _ (by omega)
      by_cases hjn : j < N - 1
      · have hV1 := HV.out j (by omega)
        obtain ⟨b, o, rfl, hlt, hc⟩ := hu.at_ (by omega)
        have hcell := hc (m - N + j) (by omega)
        clear hc
        have hx := byte_getD_lt u (m - N + j)
        generalize (u.getD (m - N + j) 0).toNat = x at *
        obtain ⟨p, hp⟩ : ∃ p, m - N + j = p := ⟨_, rfl⟩
        rw [hp] at hcell ⊢
        have i1 : (p : Int) < (m : Int) - 1 := by omega
        have i2 : (p : Int) < m := by omega
        have i3 : p < m := by omega
        have hw3 : IntKind.i64.wrap ((p : Int) + 1) = (p : Int) + 1 := IntWalk.i64_in _ (by omega)
        cases hz0 : zeroB (V.take j)
        · rw [hz0, Bool.false_and] at hV1
          have HV1 := Lib.hid hV1
          clear hV1 hz0
          go_wp2_with fail
          go_roundw
          case rel => exact ⟨j + 1, by omega, by rw [show ((m - N + (j + 1) : Nat) : Int) = (p : Int) + 1 by omega], by rw [HV1.out], hu, hz, hB⟩
          case measure => simp [intOf]; omega
        · rw [hz0, Bool.true_and] at hV1
          by_cases hx0 : x = 0
          · subst hx0
            have HV1 := Lib.hid hV1
            clear hV1 hz0
            go_wp2_with fail
            go_roundw
            case rel => exact ⟨j + 1, by omega, by rw [show ((m - N + (j + 1) : Nat) : Int) = (p : Int) + 1 by omega], by rw [HV1.out]; rfl, hu, hz, hB⟩
            case measure => simp [intOf]; omega
          · have hxe : (x == 0) = false := by rw [beq_eq_false_iff_ne]; exact hx0
            rw [hxe] at hV1
            have hxi : ((x : Int) == 0) = false := by rw [beq_eq_false_iff_ne]; omega
            have HV1 := Lib.hid hV1
            clear hV1 hz0 hxe
            go_wp2_with fail
            go_roundw
            case rel => exact ⟨j + 1, by omega, by rw [show ((m - N + (j + 1) : Nat) : Int) = (p : Int) + 1 by omega], by rw [HV1.out], hu, hz, hB⟩
            case measure => simp [intOf]; omega
      · obtain rfl : j = N - 1 := by omega
        obtain ⟨p, hp⟩ : ∃ p, m - N + (N - 1) = p := ⟨_, rfl⟩
        rw [hp]
        have i1 : ¬ (p : Int) < (m : Int) - 1 := by omega
        have t1 := str_of hu
        have t2 := str_of hz
        by_cases hzu : Z = u
        · have e1 := hzc.out.1 hzu
          rw [e1]
          subst hzu
          go_wp2_with fail
          go_ret
          exact ⟨by first | rfl | (simp; done), hB⟩
        · have e1 : zeroB (V.take (N - 1)) = false := by
            cases h : zeroB (V.take (N - 1))
            · rfl
            · exact absurd (hzc.out.2 h) hzu
          rw [e1]
          have hne : (Z == u) = false := by rw [beq_eq_false_iff_ne]; exact hzu
          clear e1 hzu
          go_wp2_with fail
          go_ret
          exact ⟨by first | rfl | (simp; done), hB⟩
  · have eC : openC u = zeroCm := if_neg her
    have eD : openD u = [] := if_neg her
    have eN : openN u = 0 := if_neg her
    rw [eC, eD, eN] at HOu
    clear eC eD eN
    generalize openE u = er at *
    unfold GivesOp at HOu
    dsimp only [cmW, zeroCm] at HOu
    have hne : ((er : Int) != 0) = true := by rw [bne_iff_ne]; omega
    have heq : ∀ W, (binOp .eql 25 (.agg #[.bool false, .int .i64 0, .int .i64 0, .int .i64 0]) (.agg #[.bool false, .int .i64 0, .int .i64 0, .int .i64 0])).run Try.prog W = .ok (.bool true) W := fun W => by
      have := eqCm zeroCm zeroCm W
      rwa [decide_eq_true rfl] at this
    go_wp2_with fail
    refine (HOu.out _ hu).mono ?_
    rintro e w6 ⟨A6, c6, rfl, hd, hb⟩
    replace hu := hu.below hb
    replace hB := hB.trans (hb.mono hB.size)
    clear hb
    have k6 := Box.new w6 [.bool false, .int .i64 0, .int .i64 0, .int .i64 0] 25
    replace hu := hu.alloc (.cells #[.bool false, .int .i64 0, .int .i64 0, .int .i64 0] 25)
    replace hB := hB.alloc hB.size (.cells #[.bool false, .int .i64 0, .int .i64 0, .int .i64 0] 25)
    have fk6 := k6.all4.1
    go_wp2_with fail
    go_ret
    exact ⟨by first | rfl | (simp; done), hB⟩

set_option maxRecDepth 100000 in
set_option maxHeartbeats 1000000 in
theorem trainBack_plain (k q : Int) (A : Option Addr) (n c : Nat) (s : List UInt8) (t : Int) (B : Option Addr) (m d : Nat) (u : List UInt8) (w : World) (hs : Bs w A n c s) (hu : Bs w B m d u) (hn : n ≤ 3000) (hm : m ≤ 3000) (hr : mayT k q n t = true) (hdec : decide (0 < t) = false) :
    Calls Try.prog 4 #[.int .i64 k, .int .i64 q, .slice A n c, .int .i64 t, .slice B m d] w fun e w' => e = .returned (.bool true) ∧ Below w.heap.size w w' := by
  have hml := hu.len
  have hl := hs.len
  have HC1 := Lib.hid (fun W h => KC.close k q A n c s t W h (by omega))
  have HOu := Lib.hid (fun W h => KC.open_ B m d u W h (by omega))
  have g1 : ¬ (3000 : Int) < n := by omega
  have g2 : ¬ (3000 : Int) < m := by omega
  have hr2 : mayT k q s.length t = true := by rw [hl]; exact hr
  obtain ⟨o1, o2, o3, o4, o5⟩ := open_close hr2
  obtain ⟨⟨v1, v2, v3, v4⟩, v5⟩ := (mayT_iff _ _ _ _).1 hr
  have e1 : closeR k q s t = closeB k q s t := if_pos hr2
  have e2 : closeE k q s t = 0 := if_pos hr2
  have hxl := closeB_length (kind := k) (count := q) (body := s) (trail := t) v1
  rw [hl] at hxl o3
  rw [e1, e2] at HC1
  unfold GivesBE at HC1
  have eC : openC (closeB k q s t) = cmT k q n t := by unfold openC; rw [if_pos o1, o3]
  have eD : openD (closeB k q s t) = s := by unfold openD; rw [if_pos o1, o4]
  have eN : (openN (closeB k q s t) : Int) = t := by unfold openN; rw [if_pos o1, o5]
  have HO1 := Lib.hid (fun W (P : Option Addr) a h => KC.open_ P (closeB k q s t).length a (closeB k q s t) W h (by omega))
  rw [eC, eD, o1] at HO1
  unfold GivesOp at HO1
  rw [eN] at HO1
  rw [hl] at HO1
  unfold cmT at HO1
  rw [show decide (0 < t) = false from hdec] at HO1
  dsimp only [cmW] at HO1
  clear e1 e2 hr hr2 o1 o2 o3 o4 o5 v5 eC eD eN
  generalize closeB k q s t = X at *
  obtain ⟨t, rfl⟩ := Int.eq_ofNat_of_zero_le v1
  obtain ⟨lx, hlx⟩ : ∃ lx, X.length = lx := ⟨_, rfl⟩
  rw [hlx] at HC1 HO1 hxl
  have htn : ¬ 0 < t := by have := of_decide_eq_false hdec; omega
  have hti : ¬ (0 : Int) < t := by omega
  clear hdec hlx
  have hlz : (4 : Int) + n + t = lx := by omega
  rw [hlz] at HO1
  clear hlz
  have hm4 : ((lx : Nat) : Int).tmod 4 = 0 := by rw [Int.tmod_eq_emod_of_nonneg (by omega)]; omega
  have hlx2 : lx ≤ 4000 := by omega
  clear hxl
  have hB := Below.refl w.heap.size w
  go_enter Try.func4, Try.ntmps4
  go_wp2_with fail
  refine (awake11_any KC _).mono ?_
  rintro e w2 ⟨rfl, hb⟩
  replace hs := hs.below hb
  replace hu := hu.below hb
  replace hB := hB.trans (hb.mono hB.size)
  clear hb
  go_wp2_with fail
  refine (HC1.out _ hs).mono ?_
  rintro e w3 ⟨A3, c3, rfl, hx, hb⟩
  replace hs := hs.below hb
  replace hu := hu.below hb
  replace hB := hB.trans (hb.mono hB.size)
  clear hb
  replace hx := hx.bs
  go_wp2_with fail
  refine (HO1.out _ _ _ hx).mono ?_
  rintro e w4 ⟨A4, c4, rfl, hy, hb⟩
  replace hs := hs.below hb
  replace hu := hu.below hb
  replace hx := hx.below hb
  replace hB := hB.trans (hb.mono hB.size)
  clear hb
  have k4 := Box.new w4 [.bool false, .int .i64 q, .int .i64 k, .int .i64 (lx : Int)] 25
  replace hs := hs.alloc (.cells #[.bool false, .int .i64 q, .int .i64 k, .int .i64 (lx : Int)] 25)
  replace hu := hu.alloc (.cells #[.bool false, .int .i64 q, .int .i64 k, .int .i64 (lx : Int)] 25)
  replace hx := hx.alloc (.cells #[.bool false, .int .i64 q, .int .i64 k, .int .i64 (lx : Int)] 25)
  replace hy := hy.alloc (.cells #[.bool false, .int .i64 q, .int .i64 k, .int .i64 (lx : Int)] 25)
  replace hB := hB.alloc hB.size (.cells #[.bool false, .int .i64 q, .int .i64 k, .int .i64 (lx : Int)] 25)
  have fk4 := k4.all4.1
  have t1 := str_of hs
  have t2 := str_of hy
  go_upto_region 10 with fail
  clear t1 t2 HC1 HO1
  clear fk4
  clear k4 hx hy hs
  by_cases her : openE u = 0
  · rw [her] at HOu
    obtain ⟨m1, m2, m3⟩ := close_open her
    obtain ⟨p1, p2, p3, p4⟩ := openP_le her
    rw [hml] at m3 p1
    have eC : openC u = readCm u := if_pos her
    have eD : openD u = openB u := if_pos her
    have eN : openN u = openP u := if_pos her
    rw [eC, eD, eN] at HOu
    have hzc : Hid (closeB (readCm u).typ (readCm u).count (openB u) (openP u) = u ↔ zeroB ((u.drop (m - openP u)).take (openP u - 1)) = true) := Lib.hid (by rw [← hml]; exact close_clean her)
    have hcl := closeB_length (kind := (readCm u).typ) (count := (readCm u).count) (body := openB u) (trail := (openP u : Int)) (by omega)
    have HC2 := Lib.hid (fun W (P : Option Addr) a h => KC.close (readCm u).typ (readCm u).count P (openB u).length a (openB u) (openP u : Int) W h (by omega))
    have e1 : closeR (readCm u).typ (readCm u).count (openB u) (openP u : Int) = closeB (readCm u).typ (readCm u).count (openB u) (openP u : Int) := if_pos m1
    have e2 : closeE (readCm u).typ (readCm u).count (openB u) (openP u : Int) = 0 := if_pos m1
    rw [e1, e2] at HC2
    unfold GivesBE at HC2
    have hZl : (closeB (readCm u).typ (readCm u).count (openB u) (openP u : Int)).length = m := by omega
    rw [hZl] at HC2
    obtain ⟨V, hV⟩ : ∃ V, u.drop (m - openP u) = V := ⟨_, rfl⟩
    have hVl : V.length = openP u := by rw [← hV, List.length_drop, hml]; omega
    have HV : Hid (∀ j, j < openP u → zeroB (V.take (j + 1)) = (zeroB (V.take j) && ((u.getD (m - openP u + j) 0).toNat == 0))) := Lib.hid (fun j hj => by
      rw [zeroB_snoc V j (by omega), ← hV, List.getD_eq_getElem?_getD, List.getD_eq_getElem?_getD, List.getElem?_drop])
    rw [hV] at hzc
    clear eC eD eN e1 e2 m1 m2 p4 her hV hVl hcl hZl
    have hDl : (openB u).length + openP u + 4 = m := by omega
    clear m3
    generalize closeB (readCm u).typ (readCm u).count (openB u) (openP u : Int) = Z at *
    generalize openB u = D at *
    generalize openP u = N at *
    generalize readCm u = R at *
    obtain ⟨up, uc, ut, uz⟩ := R
    unfold GivesOp at HOu
    dsimp only [cmW] at HOu HC2
    go_wp2_with fail
    refine (HOu.out _ hu).mono ?_
    rintro e w6 ⟨A6, c6, rfl, hd, hb⟩
    replace hu := hu.below hb
    replace hB := hB.trans (hb.mono hB.size)
    clear hb
    have k6 := Box.new w6 [.bool up, .int .i64 uc, .int .i64 ut, .int .i64 uz] 25
    replace hu := hu.alloc (.cells #[.bool up, .int .i64 uc, .int .i64 ut, .int .i64 uz] 25)
    replace hd := hd.alloc (.cells #[.bool up, .int .i64 uc, .int .i64 ut, .int .i64 uz] 25)
    replace hB := hB.alloc hB.size (.cells #[.bool up, .int .i64 uc, .int .i64 ut, .int .i64 uz] 25)
    have fk6 := k6.all4.1
    go_wp2_with fail
    refine (HC2.out _ _ _ hd).mono ?_
    rintro e w7 ⟨A7, c7, rfl, hz, hb⟩
    clear fk6
    replace hu := hu.below hb
    replace hd := hd.below hb
    replace k6 := k6.call hb
    replace hB := hB.trans (hb.mono hB.size)
    clear hb
    replace hz := hz.bs
    clear hd k6
    have h1 : ((m : Int) != (m : Int)) = false := by rw [bne_eq_false_iff_eq]
    have h2 : ¬ (N : Int) < 0 := by omega
    have h3 : ¬ (m : Int) < N := by omega
    have hw1 : IntKind.i64.wrap ((m : Int) - N) = (m : Int) - N := IntWalk.i64_in _ (by omega)
    go_wp2_with fail
    go_loopw [23, 24] (fun cl i W => ∃ j : Nat, j ≤ N - 1 ∧ i = .int .i64 ((m - N + j : Nat) : Int) ∧ cl = .bool (zeroB (V.take j)) ∧ Bs W B m d u ∧ Bs W A7 m c7 Z ∧ Below w.heap.size w W) (fun _ i _ => m - (intOf i).toNat)
    case atStart => exact ⟨0, Nat.zero_le _, by rw [show ((m - N + 0 : Nat) : Int) = (m : Int) - N by omega], rfl, hu, hz, hB⟩
    case round =>
      clear hu hz hB
      obtain ⟨j, hj, rfl, rfl, hu, hz, hB⟩ := hrel
      have hw2 : IntKind.i64.wrap ((m : Int) - 1) = (m : Int) - 1 := IntWalk.i64_in _ (by omega)
      by_cases hjn : j < N - 1
      · have hV1 := HV.out j (by omega)
        obtain ⟨b, o, rfl, hlt, hc⟩ := hu.at_ (by omega)
        have hcell := hc (m - N + j) (by omega)
        clear hc
        have hx := byte_getD_lt u (m - N + j)
        generalize (u.getD (m - N + j) 0).toNat = x at *
        obtain ⟨p, hp⟩ : ∃ p, m - N + j = p := ⟨_, rfl⟩
        rw [hp] at hcell ⊢
        have i1 : (p : Int) < (m : Int) - 1 := by omega
        have i2 : (p : Int) < m := by omega
        have i3 : p < m := by omega
        have hw3 : IntKind.i64.wrap ((p : Int) + 1) = (p : Int) + 1 := IntWalk.i64_in _ (by omega)
        cases hz0 : zeroB (V.take j)
        · rw [hz0, Bool.false_and] at hV1
          have HV1 := Lib.hid hV1
          clear hV1 hz0
          go_wp2_with fail
          go_roundw
          case rel => exact ⟨j + 1, by omega, by rw [show ((m - N + (j + 1) : Nat) : Int) = (p : Int) + 1 by omega], by rw [HV1.out], hu, hz, hB⟩
          case measure => simp [intOf]; omega
        · rw [hz0, Bool.true_and] at hV1
          by_cases hx0 : x = 0
          · subst hx0
            have HV1 := Lib.hid hV1
            clear hV1 hz0
            go_wp2_with fail
            go_roundw
            case rel => exact ⟨j + 1, by omega, by rw [show ((m - N + (j + 1) : Nat) : Int) = (p : Int) + 1 by omega], by rw [HV1.out]; rfl, hu, hz, hB⟩
            case measure => simp [intOf]; omega
          · have hxe : (x == 0) = false := by rw [beq_eq_false_iff_ne]; exact hx0
            rw [hxe] at hV1
            have hxi : ((x : Int) == 0) = false := by rw [beq_eq_false_iff_ne]; omega
            have HV1 := Lib.hid hV1
            clear hV1 hz0 hxe
            go_wp2_with fail
            go_roundw
            case rel => exact ⟨j + 1, by omega, by rw [show ((m - N + (j + 1) : Nat) : Int) = (p : Int) + 1 by omega], by rw [HV1.out], hu, hz, hB⟩
            case measure => simp [intOf]; omega
      · obtain rfl : j = N - 1 := by omega
        obtain ⟨p, hp⟩ : ∃ p, m - N + (N - 1) = p := ⟨_, rfl⟩
        rw [hp]
        have i1 : ¬ (p : Int) < (m : Int) - 1 := by omega
        have t1 := str_of hu
        have t2 := str_of hz
        by_cases hzu : Z = u
        · have e1 := hzc.out.1 hzu
          rw [e1]
          subst hzu
          go_wp2_with fail
          go_ret
          exact ⟨by first | rfl | (simp; done), hB⟩
        · have e1 : zeroB (V.take (N - 1)) = false := by
            cases h : zeroB (V.take (N - 1))
            · rfl
            · exact absurd (hzc.out.2 h) hzu
          rw [e1]
          have hne : (Z == u) = false := by rw [beq_eq_false_iff_ne]; exact hzu
          clear e1 hzu
          go_wp2_with fail
          go_ret
          exact ⟨by first | rfl | (simp; done), hB⟩
  · have eC : openC u = zeroCm := if_neg her
    have eD : openD u = [] := if_neg her
    have eN : openN u = 0 := if_neg her
    rw [eC, eD, eN] at HOu
    clear eC eD eN
    generalize openE u = er at *
    unfold GivesOp at HOu
    dsimp only [cmW, zeroCm] at HOu
    have hne : ((er : Int) != 0) = true := by rw [bne_iff_ne]; omega
    have heq : ∀ W, (binOp .eql 25 (.agg #[.bool false, .int .i64 0, .int .i64 0, .int .i64 0]) (.agg #[.bool false, .int .i64 0, .int .i64 0, .int .i64 0])).run Try.prog W = .ok (.bool true) W := fun W => by
      have := eqCm zeroCm zeroCm W
      rwa [decide_eq_true rfl] at this
    go_wp2_with fail
    refine (HOu.out _ hu).mono ?_
    rintro e w6 ⟨A6, c6, rfl, hd, hb⟩
    replace hu := hu.below hb
    replace hB := hB.trans (hb.mono hB.size)
    clear hb
    have k6 := Box.new w6 [.bool false, .int .i64 0, .int .i64 0, .int .i64 0] 25
    replace hu := hu.alloc (.cells #[.bool false, .int .i64 0, .int .i64 0, .int .i64 0] 25)
    replace hB := hB.alloc hB.size (.cells #[.bool false, .int .i64 0, .int .i64 0, .int .i64 0] 25)
    have fk6 := k6.all4.1
    go_wp2_with fail
    go_ret
    exact ⟨by first | rfl | (simp; done), hB⟩

theorem trainBack_all (k q : Int) (A : Option Addr) (n c : Nat) (s : List UInt8) (t : Int) (B : Option Addr) (m d : Nat) (u : List UInt8) (w : World) (hs : Bs w A n c s) (hu : Bs w B m d u) :
    Calls Try.prog 4 #[.int .i64 k, .int .i64 q, .slice A n c, .int .i64 t, .slice B m d] w fun e w' => e = .returned (.bool true) ∧ Below w.heap.size w w' := by
  have h1 := hs.le
  have h2 := hs.cap
  have h3 := hu.le
  have h4 := hu.cap
  unfold maxLen at h2 h4
  by_cases hb : 3000 < n
  · exact trainBack_big1 KC k q A n c s t B m d u w (by omega) hb
  · by_cases hb2 : 3000 < m
    · exact trainBack_big2 KC k q A n c s t B m d u w (by omega) (by omega) hb2
    · cases hr : mayT k q n t
      · exact trainBack_no KC k q A n c s t B m d u w hs hu (by omega) (by omega) hr
      · cases hdec : decide (0 < t)
        · exact trainBack_plain KC k q A n c s t B m d u w hs hu (by omega) (by omega) hr hdec
        · exact trainBack_pad KC k q A n c s t B m d u w hs hu (by omega) (by omega) hr hdec
end

end Go.Proofs.Ytkfinkmbdpdepaa

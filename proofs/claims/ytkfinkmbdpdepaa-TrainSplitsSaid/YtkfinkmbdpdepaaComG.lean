/-
  What the functions of package common come to.
-/
import Derived.Test.YtkfinkmbdpdepaaComK
import Derived.Test.YtkfinkmbdpdepaaBase
import Derived.Laws.BitsAllLaws
namespace Go.Proofs.Ytkfinkmbdpdepaa
open Go.RowKit
set_option linter.unusedVariables false
set_option linter.unusedSimpArgs false

theorem cm_or0 : ∀ a : Fin 32, bits .or .i64 128 (a.1 : Int) = 128 + (a.1 : Int) := by decide
theorem cm_or1 : ∀ a : Fin 32, bits .or .u8 (128 + (a.1 : Int)) 32 = 128 + (a.1 : Int) + 32 := by decide
set_option maxRecDepth 100000 in
theorem cm_and0 : ∀ a : Fin 256, (bits .and .u8 (a.1 : Int) 32 != 0) = decide (a.1 / 32 % 2 = 1) := by decide
set_option maxRecDepth 100000 in
theorem cm_and1 : ∀ a : Fin 256, bits .and .u8 (a.1 : Int) 31 = ((a.1 % 32 : Nat) : Int) := by decide

theorem cm_isSize (z : Int) (w : World) :
    Calls Try.prog 37 #[.int .i64 z] w fun e w' => e = .returned (.bool (decide (4 ≤ z ∧ z ≤ 262144 ∧ z % 4 = 0))) ∧ w' = w := by
  by_cases h1 : 4 ≤ z
  · by_cases h2 : z ≤ 262144
    · have hm : z.tmod 4 = z % 4 := Int.tmod_eq_emod_of_nonneg (by omega)
      have q1 : (z % 4 == 0) = decide (z % 4 = 0) := by rw [Bool.eq_iff_iff]; simp
      go_enter Try.func37, Try.ntmps37
      go_wp2_with fail
      all_goals
        go_ret
        first
          | exact ⟨by simp [*], rfl⟩
          | exact ⟨by simp; omega, rfl⟩
    · go_enter Try.func37, Try.ntmps37
      go_wp2_with fail
      go_ret
      exact ⟨by simp; omega, rfl⟩
  · go_enter Try.func37, Try.ntmps37
    go_wp2_with fail
    go_ret
    exact ⟨by simp; omega, rfl⟩

set_option maxHeartbeats 2000000 in
theorem cm_first (p : Bool) (k : Nat) (t z : Int) (w : World) (hk : k < 32) :
    Calls Try.prog 33 #[.agg #[.bool p, .int .i64 (k : Int), .int .i64 t, .int .i64 z]] w (Says w (.int .u8 ((128 + k + (if p = true then 32 else 0) : Nat) : Int))) := by
  have k1 := Box.new w [.bool p, .int .i64 (k : Int), .int .i64 t, .int .i64 z] 25
  have f1 := k1.all4.1
  have j1 := cm_or0 ⟨k, hk⟩
  have j2 := cm_or1 ⟨k, hk⟩
  simp only at j1 j2
  have e1 : IntKind.u8.wrap (128 + (k : Int)) = 128 + (k : Int) := by rw [IntKind.wrap_u8]; omega
  clear k1
  cases p
  all_goals
    go_enter Try.func33, Try.ntmps33
    go_wp2_with fail
    go_ret
    exact ⟨by first | rfl | (simp <;> omega), below1 w _⟩

theorem cm_sizeIn (A : Option Addr) (n c : Nat) (s : List UInt8) (w : World) (hs : Bs w A n c s) (h4 : 4 ≤ n) :
    Calls Try.prog 27 #[.slice A n c] w fun e w' => e = .returned (.int .i64 ((cmN s : Nat) : Int)) ∧ w' = w := by
  have R := Lib.hid (get_yes A n c s 2 2 w hs (by omega) (by omega) (by omega))
  have hl := hs.len
  have hv : num ((s.drop 2).take 2) = 256 * bt s 2 + bt s 3 := by
    match s, (show 4 ≤ s.length by omega) with
    | a :: b :: x :: y :: s, _ => simp [bt, num]; omega
  have hc : cmN s = 4 * (num ((s.drop 2).take 2) + 1) := by rw [hv]; rfl
  have l2 := bt_lt s 2
  have l3 := bt_lt s 3
  rw [hc]
  have hlt : num ((s.drop 2).take 2) < 65536 := by omega
  generalize num ((s.drop 2).take 2) = v at *
  clear hv hc l2 l3
  have e1 : IntKind.i64.wrap (v : Int) = v := IntWalk.i64_in _ (by omega)
  go_enter Try.func27, Try.ntmps27
  go_wp2_with fail
  refine (R.out).mono ?_
  rintro e w' ⟨rfl, rfl⟩
  go_wp2_with fail
  go_ret
  exact ⟨by simp; omega, rfl⟩

theorem cm_pair (w : World) (F S : Nat) (hF : F < 256) (hS : S < 256) : Bs (w.alloc (.cells #[.int .u8 (F : Int), .int .u8 (S : Int)] 5)) (some ⟨w.heap.size, 0, none⟩) 2 2 [UInt8.ofNat F, UInt8.ofNat S] := by
  have := Bs.lit w [UInt8.ofNat F, UInt8.ofNat S] (by simp [maxLen])
  simpa [byteV, toNat_ofNat hF, toNat_ofNat hS] using this

set_option maxHeartbeats 2000000 in
theorem cm_right_any (p : Bool) (n t z : Int) (w : World) :
    Calls Try.prog 30 #[.agg #[.bool p, .int .i64 n, .int .i64 t, .int .i64 z]] w (Says w (.bool (rightCm ⟨p, n, t, z⟩))) := by
  have k1 := Box.new w [.bool p, .int .i64 n, .int .i64 t, .int .i64 z] 25
  have f1 := k1.all4.1
  obtain ⟨r, hr⟩ : ∃ r, rightCm ⟨p, n, t, z⟩ = r := ⟨_, rfl⟩
  rw [hr]
  have HR2 := Lib.hid (show r = decide (0 ≤ n ∧ n < 32 ∧ 0 ≤ t ∧ t < 256 ∧ 4 ≤ z ∧ z ≤ 262144 ∧ z % 4 = 0) from hr.symm)
  have S := Lib.hid (cm_isSize z)
  obtain ⟨q, hq⟩ : ∃ q, decide (4 ≤ z ∧ z ≤ 262144 ∧ z % 4 = 0) = q := ⟨_, rfl⟩
  rw [hq] at S
  have HQ := Lib.hid hq
  clear hr k1 hq
  by_cases h1 : 0 ≤ n <;> by_cases h2 : n ≤ 31 <;> by_cases h3 : 0 ≤ t <;> by_cases h4 : t ≤ 255
  all_goals first | (exfalso; omega) | skip
  all_goals
    go_enter Try.func30, Try.ntmps30
    go_wp2_with (go_at_call 37; refine (S.out _).mono ?_; rintro x w2 ⟨rfl, rfl⟩)
    go_ret
    refine ⟨?_, below1 _ _⟩
    rw [HR2.out]
    have hq := HQ.out
    first
      | (show Ending.returned (Value.bool q) = Ending.returned (Value.bool (decide _)); rw [← hq, decide_eq_decide.2 (show (4 ≤ z ∧ z ≤ 262144 ∧ z % 4 = 0) ↔ (0 ≤ n ∧ n < 32 ∧ 0 ≤ t ∧ t < 256 ∧ 4 ≤ z ∧ z ≤ 262144 ∧ z % 4 = 0) by omega)])
      | (show Ending.returned (Value.bool false) = Ending.returned (Value.bool (decide _)); rw [decide_eq_false (by omega)])

/-- What a call hands back: bytes of the call's own, and the number of an error. -/
def GivesCO (w : World) (s : List UInt8) (err : Nat) (x : Ending) (w' : World) : Prop :=
  ∃ A d, x = .returned (.tuple #[.slice A s.length d, .int .i64 (err : Int)]) ∧ Own w' w.heap.size 5 A s.length d s ∧ Below w.heap.size w w'
set_option maxRecDepth 100000 in
set_option maxHeartbeats 2000000 in
theorem cm_write_own (p : Bool) (n t z : Int) (w : World) :
    Calls Try.prog 21 #[.agg #[.bool p, .int .i64 n, .int .i64 t, .int .i64 z]] w (GivesCO w (writeCB ⟨p, n, t, z⟩) (writeCE ⟨p, n, t, z⟩)) := by
  have R := Lib.hid (fun w => cm_right_any p n t z w)
  have k1 := Box.new w [.bool p, .int .i64 n, .int .i64 t, .int .i64 z] 25
  have hB := below1 w (.cells #[.bool p, .int .i64 n, .int .i64 t, .int .i64 z] 25)
  by_cases hr : rightCm ⟨p, n, t, z⟩ = true
  · rw [hr] at R
    rw [show writeCB ⟨p, n, t, z⟩ = writeCm ⟨p, n, t, z⟩ from if_pos hr, show writeCE ⟨p, n, t, z⟩ = 0 from if_pos hr]
    obtain ⟨h1, h2, h3, h4, h5, h6, h7⟩ := (rightCm_iff _).1 hr
    simp only at h1 h2 h3 h4 h5 h6 h7
    clear hr
    obtain ⟨k, rfl⟩ := Int.eq_ofNat_of_zero_le h1
    obtain ⟨t, rfl⟩ := Int.eq_ofNat_of_zero_le h3
    obtain ⟨m, hm⟩ : ∃ m : Nat, wordsN ⟨p, (k : Int), (t : Int), z⟩ = m := ⟨_, rfl⟩
    have hm2 : (m : Int) = z / 4 - 1 := by rw [← hm]; unfold wordsN; simp only; omega
    have hml : m < 65536 := by omega
    have F := Lib.hid (fun w => cm_first p k t z w (by omega))
    have hX : firstN ⟨p, (k : Int), (t : Int), z⟩ = 128 + k + (if p = true then 32 else 0) := rfl
    have hXl : 128 + k + (if p = true then 32 else 0) < 256 := by split <;> omega
    have hw : writeCm ⟨p, (k : Int), (t : Int), z⟩ = [UInt8.ofNat (128 + k + (if p = true then 32 else 0)), UInt8.ofNat t] ++ be 2 m := by
      unfold writeCm
      rw [hm, hX]
      simp [be]
      exact UInt8.toNat_inj.1 (by simp)
    rw [hw]
    clear hw hX hm
    generalize 128 + k + (if p = true then 32 else 0) = X at *
    have P := Lib.hid (fun w => oput_any m 2 (m : Int) 2 w rfl rfl (by omega) (by omega) (by omega) (by omega))
    have hq : z.tdiv 4 = (m : Int) + 1 := by rw [Int.tdiv_eq_ediv_of_nonneg (by omega)]; omega
    have e1 : IntKind.u64.wrap (m : Int) = m := by rw [IntKind.wrap_u64]; omega
    have e2 : IntKind.i64.wrap ((m : Int) + 1) = (m : Int) + 1 := IntWalk.i64_in _ (by omega)
    have e3 : IntKind.i64.wrap ((m : Int) + 1 - 1) = m := by rw [IntWalk.i64_in _ (by omega)]; omega
    clear hm2
    go_enter Try.func21, Try.ntmps21
    go_wp2_with fail
    refine (R.out _).mono ?_
    rintro x w2 ⟨rfl, hb⟩
    replace k1 := k1.call hb
    replace hB := hB.trans (hb.mono hB.size)
    clear hb
    have f1 := k1.all4.1
    go_wp2_with fail
    refine (P.out _).mono ?_
    rintro x w3 ⟨AP, cP, rfl, hoP, hb⟩
    clear f1 hq e1 e2 e3
    replace k1 := k1.call hb
    replace hB := hB.trans (hb.mono hB.size)
    clear hb
    have hP := hoP.bs
    clear hoP
    have f1 := k1.all4.1
    have e4 : IntKind.u8.wrap (t : Int) = t := by rw [IntKind.wrap_u8]; omega
    have ht : t < 256 := by omega
    go_upto_region 4 with fail
    go_region_held3 (fun W => W.cell? ⟨w.heap.size, 0, none⟩ = some (.bool p) ∧ W.cell? ⟨w.heap.size, 1, none⟩ = some (.int .i64 (k : Int)) ∧ W.cell? ⟨w.heap.size, 2, none⟩ = some (.int .i64 (t : Int)) ∧ W.cell? ⟨w.heap.size, 3, none⟩ = some (.int .i64 z))
      (go_keep)
      (first
        | (go_at_call 33; refine (F.out _).mono ?_; rintro x wF ⟨rfl, hbF⟩; have kF := Box.call (w := w3.drew) k1 hbF; have hPF := Bs.below (w := w3.drew) hP hbF; have yF := kF.all4.1)
        | (go_at_call 32; have hj := join2 _ 2 2 _ AP 2 cP _ 4 (wF.alloc (.cells #[.int .u8 (X : Int), .int .u8 (t : Int)] 5)) (cm_pair wF X t hXl ht) (Bs.alloc hPF _) rfl (by omega); rw [World.size_alloc] at hj; refine hj.mono ?_; rintro x wJ ⟨AJ, cJ, rfl, hoJ, hbJ⟩; have kJ := (kF.alloc (.cells #[.int .u8 (X : Int), .int .u8 (t : Int)] 5)).call hbJ; have yJ := kJ.all4.1))
    all_goals
      go_wp2_with fail
      go_ret2
      have hlen := hoJ.bs.len
      refine ⟨AJ, cJ, ?_, ?_, ?_⟩
      · show Ending.returned (.tuple #[.slice AJ 4 cJ, .int .i64 0]) = .returned (.tuple #[.slice AJ ([UInt8.ofNat X, UInt8.ofNat t] ++ be 2 m).length cJ, .int .i64 0])
        rw [hlen]
      · show Own wJ w.heap.size 5 AJ ([UInt8.ofNat X, UInt8.ofNat t] ++ be 2 m).length cJ ([UInt8.ofNat X, UInt8.ofNat t] ++ be 2 m)
        rw [hlen]; exact hoJ.mono (by have h1 := hB.size; have h2 := ((Below.refl _ w3).drew.trans hbF).size; first | omega | (simp; omega))
      have b1 : Below w3.heap.size w3 wF := (Below.refl _ w3).drew.trans hbF
      have z1 := b1.size
      have b2 := ((b1.alloc z1 (.cells #[.int .u8 (X : Int), .int .u8 (t : Int)] 5)).trans (hbJ.mono (by simp; omega)))
      exact hB.trans (b2.mono hB.size)
  · have hf : rightCm ⟨p, n, t, z⟩ = false := by simpa using hr
    rw [hf] at R
    rw [show writeCB ⟨p, n, t, z⟩ = [] from if_neg hr, show writeCE ⟨p, n, t, z⟩ = 1 from if_neg hr]
    clear hf hr
    have f1 := k1.all4.1
    go_enter Try.func21, Try.ntmps21
    go_wp2_with fail
    refine (R.out _).mono ?_
    rintro x w2 ⟨rfl, hb⟩
    replace hB := hB.trans (hb.mono hB.size)
    clear hb
    go_wp2_with fail
    go_ret2
    exact ⟨none, 0, rfl, Own.nil _ _ _, hB⟩

theorem cm_write_any (p : Bool) (n t z : Int) (w : World) :
    Calls Try.prog 21 #[.agg #[.bool p, .int .i64 n, .int .i64 t, .int .i64 z]] w (GivesCB w (writeCB ⟨p, n, t, z⟩) (writeCE ⟨p, n, t, z⟩)) := by
  refine (cm_write_own p n t z w).mono ?_
  rintro e w' ⟨A, d, rfl, h, hb⟩
  exact ⟨A, d, rfl, h.bs, hb⟩

set_option maxRecDepth 100000 in
set_option maxHeartbeats 2000000 in
theorem cm_read_any (A : Option Addr) (n c : Nat) (s : List UInt8) (w : World) (hs : Bs w A n c s) :
    Calls Try.prog 15 #[.slice A n c] w (Says w (.tuple #[cmW (readCm s), .int .i64 (cmE s)])) := by
  have hl := hs.len
  have hb1 := hs.le
  have hb2 := hs.cap
  unfold maxLen at hb2
  have er : ∀ e : Nat, e ≠ 0 → cmE s = e → readCm s = zeroCm := fun e h0 h => by unfold readCm; rw [if_neg (by omega)]
  by_cases h1 : s.length < 4
  · have e1 : cmE s = 2 := if_pos h1
    rw [er 2 (by omega) e1, e1]
    have g1 : decide (n < 4) = true := decide_eq_true (by omega)
    have g2 : (n : Int) < 4 := by omega
    go_enter Try.func15, Try.ntmps15
    go_wp2_with fail
    exact bodyPost_ret (v := .tuple #[cmW zeroCm, .int .i64 2]) (by simp [results, Try.results15, go_sem, zeroCm, *]) rfl ⟨rfl, below1 _ _⟩
  · have Z := Lib.hid (fun w hs => cm_sizeIn A n c s w hs (by omega))
    have hsz := hs
    obtain ⟨b, off, rfl, hlt, hc⟩ := hs.at_ (by omega)
    have q0 := hc 0 (by omega)
    have q1 := hc 1 (by omega)
    change w.cell? ⟨b, off + 0, none⟩ = some (.int .u8 ((bt s 0 : Nat) : Int)) at q0
    change w.cell? ⟨b, off + 1, none⟩ = some (.int .u8 ((bt s 1 : Nat) : Int)) at q1
    rw [Nat.add_zero] at q0
    have c0 : ∀ o, (w.alloc o).cell? ⟨b, off, none⟩ = some (.int .u8 ((bt s 0 : Nat) : Int)) := fun o => (World.cell?_alloc_past _ _ _ hlt).trans q0
    have c1 : ∀ o, (w.alloc o).cell? ⟨b, off + 1, none⟩ = some (.int .u8 ((bt s 1 : Nat) : Int)) := fun o => (World.cell?_alloc_past _ _ _ hlt).trans q1
    have l0 := bt_lt s 0
    have l1 := bt_lt s 1
    have a0 := cm_and0 ⟨bt s 0, l0⟩
    have a1 := cm_and1 ⟨bt s 0, l0⟩
    simp only at a0 a1
    have HV : Hid (cmV s = ⟨decide (160 ≤ bt s 0), (bt s 0 % 32 : Nat), (bt s 1 : Nat), (cmN s : Nat)⟩) := Lib.hid rfl
    have HE : Hid (cmE s = if bt s 0 < 128 ∨ 191 < bt s 0 then 3 else if n < cmN s then 4 else 0) := Lib.hid (by unfold cmE; rw [if_neg h1, hl])
    have HR0 : Hid (cmE s = 0 → readCm s = cmV s) := Lib.hid (fun h => by unfold readCm; rw [if_pos h])
    have ER := Lib.hid er
    generalize bt s 0 = x0 at *
    generalize bt s 1 = x1 at *
    generalize cmN s = N at *
    generalize readCm s = R at *
    generalize cmE s = E at *
    have g2 : ¬ (n : Int) < 4 := by omega
    have g1 : decide (n < 4) = false := decide_eq_false (by omega)
    have i0 : 0 < n := by omega
    have i1 : (1 : Int) < n := by omega
    clear hc er q0 q1
    by_cases h2 : x0 < 128 ∨ 191 < x0
    · have e1 : E = 3 := by rw [HE.out, if_pos h2]
      have hz := ER.out 3 (by omega) e1
      subst e1 hz
      have hv2 : ((x0 : Int) / 64 != 2) = true := by rw [bne_iff_ne]; omega
      clear h2 a0 a1
      go_enter Try.func15, Try.ntmps15
      go_wp2_with fail
      exact bodyPost_ret (v := .tuple #[cmW zeroCm, .int .i64 3]) (by simp [results, Try.results15, go_sem, zeroCm, *]) rfl ⟨rfl, below1 _ _⟩
    · have hv2 : ((x0 : Int) / 64 != 2) = false := by rw [bne_eq_false_iff_eq]; omega
      go_enter Try.func15, Try.ntmps15
      go_wp2_with fail
      refine (Z.out _ (hsz.alloc _)).mono ?_
      rintro e w2 ⟨rfl, rfl⟩
      by_cases h4 : n < N
      · have e1 : E = 4 := by rw [HE.out, if_neg h2, if_pos h4]
        have hz := ER.out 4 (by omega) e1
        subst e1 hz
        have g7 : (n : Int) < N := by omega
        clear h2 a0 a1
        go_wp2_with fail
        exact bodyPost_ret (v := .tuple #[cmW zeroCm, .int .i64 4]) (by simp [results, Try.results15, go_sem, zeroCm, *]) rfl ⟨rfl, below1 _ _⟩
      · have e1 : E = 0 := by rw [HE.out, if_neg h2, if_neg h4]
        have hz := HR0.out e1
        rw [HV.out] at hz
        subst e1 hz
        have g7 : ¬ (n : Int) < N := by omega
        have g8 : decide (n < N) = false := decide_eq_false h4
        have hp : decide (160 ≤ x0) = decide (x0 / 32 % 2 = 1) := by rw [decide_eq_decide]; omega
        obtain ⟨y, hy, hy2⟩ : ∃ y, x0 % 32 = y ∧ y < 32 := ⟨_, rfl, by omega⟩
        rw [hy] at a1
        rw [← hp] at a0
        obtain ⟨pb, hpb⟩ : ∃ pb, decide (160 ≤ x0) = pb := ⟨_, rfl⟩
        rw [hpb] at a0
        have HY := Lib.hid hy
        have HPB := Lib.hid hpb
        clear hy hpb hp HV HE HR0 ER h2 h4 hv2
        have v1 : IntKind.i64.wrap (x1 : Int) = x1 := IntWalk.i64_in _ (by omega)
        have v2 : IntKind.i64.wrap (y : Int) = y := IntWalk.i64_in _ (by omega)
        go_upto_region 8 with fail
        have kz := Box.new w [.bool false, .int .i64 0, .int .i64 0, .int .i64 0] 25
        have hBz := below1 w (.cells #[.bool false, .int .i64 0, .int .i64 0, .int .i64 0] 25)
        have y0 := c0 (.cells #[.bool false, .int .i64 0, .int .i64 0, .int .i64 0] 25)
        have y1 := c1 (.cells #[.bool false, .int .i64 0, .int .i64 0, .int .i64 0] 25)
        generalize (w.alloc (.cells #[.bool false, .int .i64 0, .int .i64 0, .int .i64 0] 25)) = w4 at *
        clear c0 c1
        go_still_tail 16, (by kernel_rfl)
        clear y0 y1 v1 v2 a0 a1
        change wpList _ _ _ _ _ w4.drew
        replace kz : Box w4.drew w.heap.size [.bool false, .int .i64 0, .int .i64 0, .int .i64 0] := kz
        replace hBz := hBz.drew
        generalize w4.drew = w5 at *
        have ka := kz.all4
        have kf := kz.free4
        have kq := kz.put4 (.bool pb) (.int .i64 (y : Int)) (.int .i64 (x1 : Int)) (.int .i64 (N : Int))
        have kb := kq.all4
        have hBq := below_put4 hBz (Nat.le_refl w.heap.size) (.bool pb) (.int .i64 (y : Int)) (.int .i64 (x1 : Int)) (.int .i64 (N : Int))
        unfold put4 at kb hBq
        go_wp2_with fail
        clear ka kf kz kq
        exact bodyPost_ret (v := .tuple #[.agg #[.bool pb, .int .i64 (y : Int), .int .i64 (x1 : Int), .int .i64 (N : Int)], .int .i64 0]) (by simp [results, Try.results15, go_sem, *]) rfl ⟨by dsimp only [cmW]; rw [HPB.out, HY.out]; rfl, hBq⟩

theorem common_calls : CommonCalls where
  right := fun c w _ => by
    obtain ⟨p, n, t, z⟩ := c
    exact cm_right_any p n t z w
  write := fun c w _ => by
    obtain ⟨p, n, t, z⟩ := c
    exact cm_write_any p n t z w
  read := fun A n d s w h _ => cm_read_any A n d s w h

end Go.Proofs.Ytkfinkmbdpdepaa

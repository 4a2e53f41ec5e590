/-
  What the document's own answers for layer 10 come to: Right, Write, Read.
-/
import Derived.Test.YtkfinkmbdpdepaaComM
import Derived.Test.YtkfinkmbdpdepaaBox4
import Derived.Test.YtkfinkmbdpdepaaBase
import Derived.Deep.QuietTactic
import Derived.Laws.StructEq
namespace Go.Proofs.Ytkfinkmbdpdepaa
open Go.RowKit
set_option linter.unusedVariables false
set_option linter.unusedSimpArgs false

abbrev cmW (c : Cm) : Value := .agg #[.bool c.pad, .int .i64 c.count, .int .i64 c.typ, .int .i64 c.size]
set_option maxRecDepth 100000 in
set_option maxHeartbeats 2000000 in
theorem rcright_any (c : Cm) (w : World) :
    Calls Try.prog 23 #[cmW c] w (Says w (.bool (rightCm c))) := by
  obtain ⟨p, n, t, z⟩ := c
  have k1 := Box.new w [.bool p, .int .i64 n, .int .i64 t, .int .i64 z] 25
  have f1 := k1.all4.1
  obtain ⟨r, hr⟩ : ∃ r, rightCm ⟨p, n, t, z⟩ = r := ⟨_, rfl⟩
  rw [hr]
  have HR2 := Lib.hid (show r = decide (0 ≤ n ∧ n < 32 ∧ 0 ≤ t ∧ t < 256 ∧ 4 ≤ z ∧ z ≤ 262144 ∧ z % 4 = 0) from hr.symm)
  clear hr k1
  by_cases hz : 4 ≤ z
  · have hm : z.tmod 4 = z % 4 := Int.tmod_eq_emod_of_nonneg (by omega)
    have q1 : (z % 4 == 0) = decide (z % 4 = 0) := by rw [Bool.eq_iff_iff]; simp
    go_enter Try.func23, Try.ntmps23
    go_wp2_with fail
    all_goals
      go_ret
      refine ⟨?_, below1 _ _⟩
      rw [HR2.out]
      first
        | (simp [*]; done)
        | (simp [*]; omega)
        | (simp [*]; rw [Bool.eq_iff_iff]; simp; omega)
  · go_enter Try.func23, Try.ntmps23
    go_wp2_with fail
    all_goals
      go_ret
      refine ⟨?_, below1 _ _⟩
      rw [HR2.out]
      first
        | (simp [*]; done)
        | (simp [*]; omega)
        | (simp [*]; rw [Bool.eq_iff_iff]; simp; omega)

set_option maxRecDepth 100000 in
set_option maxHeartbeats 2000000 in
theorem rcwrite_own (c : Cm) (w : World) (hr : rightCm c = true) :
    Calls Try.prog 24 #[cmW c] w fun e w' => ∃ A d, e = .returned (.slice A 4 d) ∧ Own w' w.heap.size 5 A 4 d (writeCm c) ∧ Below w.heap.size w w' := by
  obtain ⟨p, n, t, z⟩ := c
  obtain ⟨h1, h2, h3, h4, h5, h6, h7⟩ := (rightCm_iff _).1 hr
  simp only at h1 h2 h3 h4 h5 h6 h7
  clear hr
  obtain ⟨k, rfl⟩ := Int.eq_ofNat_of_zero_le h1
  obtain ⟨t, rfl⟩ := Int.eq_ofNat_of_zero_le h3
  obtain ⟨m, hm⟩ : ∃ m : Nat, wordsN ⟨p, (k : Int), (t : Int), z⟩ = m := ⟨_, rfl⟩
  have hm2 : (m : Int) = z / 4 - 1 := by rw [← hm]; unfold wordsN; simp only; omega
  have HM : Hid (∀ p, wordsN ⟨p, (k : Int), (t : Int), z⟩ = m) := Lib.hid (fun p => hm)
  have hq : z.tdiv 4 = (m : Int) + 1 := by rw [Int.tdiv_eq_ediv_of_nonneg (by omega)]; omega
  have hml : m < 65536 := by omega
  have hd : (m : Int).tdiv 256 = ((m / 256 : Nat) : Int) := by rw [Int.tdiv_eq_ediv_of_nonneg (by omega)]; omega
  have hr : (m : Int).tmod 256 = ((m % 256 : Nat) : Int) := by rw [Int.tmod_eq_emod_of_nonneg (by omega)]; omega
  obtain ⟨o1, ho1, hb1⟩ : ∃ o : Int, ((m / 256 : Nat) : Int) = o ∧ 0 ≤ o ∧ o < 256 := ⟨_, rfl, by omega, by omega⟩
  obtain ⟨o2, ho2, hb2⟩ : ∃ o : Int, ((m % 256 : Nat) : Int) = o ∧ 0 ≤ o ∧ o < 256 := ⟨_, rfl, by omega, by omega⟩
  rw [ho1] at hd
  rw [ho2] at hr
  clear hm hm2
  cases p
  · have k1 := Box.new w [.bool false, .int .i64 (k : Int), .int .i64 (t : Int), .int .i64 z] 25
    have f1 := k1.all4.1
    have hB := below1 w (.cells #[.bool false, .int .i64 (k : Int), .int .i64 (t : Int), .int .i64 z] 25)
    have hw : writeCm ⟨false, (k : Int), (t : Int), z⟩ = [UInt8.ofNat (128 + k), UInt8.ofNat t, UInt8.ofNat (m / 256), UInt8.ofNat (m % 256)] := by
      unfold writeCm
      rw [HM.out]
      rfl
    have hx := own_lit (w.alloc (.cells #[.bool false, .int .i64 (k : Int), .int .i64 (t : Int), .int .i64 z] 25)) [UInt8.ofNat (128 + k), UInt8.ofNat t, UInt8.ofNat (m / 256), UInt8.ofNat (m % 256)] (List.map byteV [UInt8.ofNat (128 + k), UInt8.ofNat t, UInt8.ofNat (m / 256), UInt8.ofNat (m % 256)]).toArray 5 w.heap.size (by simp) rfl (by simp [maxLen])
    simp only [World.size_alloc, List.map_cons, List.map_nil, byteV, toNat_ofNat (show 128 + k < 256 by omega), toNat_ofNat (show t < 256 by omega), toNat_ofNat (show m / 256 < 256 by omega), toNat_ofNat (show m % 256 < 256 by omega)] at hx
    rw [show ((128 + k : Nat) : Int) = 128 + (k : Int) by omega, ho1, ho2] at hx
    rw [hw]
    clear hw
    go_enter Try.func24, Try.ntmps24
    go_wp2_with fail
    go_ret
    exact ⟨_, _, rfl, hx, hB.alloc (by simp) _⟩
  · have k1 := Box.new w [.bool true, .int .i64 (k : Int), .int .i64 (t : Int), .int .i64 z] 25
    have f1 := k1.all4.1
    have hB := below1 w (.cells #[.bool true, .int .i64 (k : Int), .int .i64 (t : Int), .int .i64 z] 25)
    have hw : writeCm ⟨true, (k : Int), (t : Int), z⟩ = [UInt8.ofNat (128 + k + 32), UInt8.ofNat t, UInt8.ofNat (m / 256), UInt8.ofNat (m % 256)] := by
      unfold writeCm
      rw [HM.out]
      rfl
    have hx := own_lit (w.alloc (.cells #[.bool true, .int .i64 (k : Int), .int .i64 (t : Int), .int .i64 z] 25)) [UInt8.ofNat (128 + k + 32), UInt8.ofNat t, UInt8.ofNat (m / 256), UInt8.ofNat (m % 256)] (List.map byteV [UInt8.ofNat (128 + k + 32), UInt8.ofNat t, UInt8.ofNat (m / 256), UInt8.ofNat (m % 256)]).toArray 5 w.heap.size (by simp) rfl (by simp [maxLen])
    simp only [World.size_alloc, List.map_cons, List.map_nil, byteV, toNat_ofNat (show 128 + k + 32 < 256 by omega), toNat_ofNat (show t < 256 by omega), toNat_ofNat (show m / 256 < 256 by omega), toNat_ofNat (show m % 256 < 256 by omega)] at hx
    rw [show ((128 + k + 32 : Nat) : Int) = 128 + (k : Int) + 32 by omega, ho1, ho2] at hx
    rw [hw]
    clear hw
    go_enter Try.func24, Try.ntmps24
    go_wp2_with fail
    go_ret
    exact ⟨_, _, rfl, hx, hB.alloc (by simp) _⟩

theorem rcwrite_any (c : Cm) (w : World) (hr : rightCm c = true) :
    Calls Try.prog 24 #[cmW c] w fun e w' => ∃ A d, e = .returned (.slice A 4 d) ∧ Bs w' A 4 d (writeCm c) ∧ Below w.heap.size w w' := by
  refine (rcwrite_own c w hr).mono ?_
  rintro e w' ⟨A, d, rfl, h, hb⟩
  exact ⟨A, d, rfl, h.bs, hb⟩

set_option maxRecDepth 100000 in
set_option maxHeartbeats 2000000 in
theorem rcread_any (A : Option Addr) (n c : Nat) (s : List UInt8) (w : World) (hs : Bs w A n c s) :
    Calls Try.prog 18 #[.slice A n c] w (Says w (.tuple #[cmW (readCm s), .int .i64 (cmE s)])) := by
  have hl := hs.len
  have hb1 := hs.le
  have hb2 := hs.cap
  unfold maxLen at hb2
  have er : ∀ e : Nat, e ≠ 0 → cmE s = e → readCm s = zeroCm := fun e h0 h => by unfold readCm; rw [if_neg (by omega)]
  by_cases h1 : s.length < 4
  · have e1 : cmE s = 2 := if_pos h1
    rw [er 2 (by omega) e1, e1]
    have g1 : decide (n < 4) = true := decide_eq_true (by omega)
    have g2 : (n : Int) < 4 := by omega
    go_enter Try.func18, Try.ntmps18
    go_wp2_with fail
    exact bodyPost_ret (v := .tuple #[cmW zeroCm, .int .i64 2]) (by simp [results, Try.results18, go_sem, zeroCm, *]) rfl ⟨rfl, below1 _ _⟩
  · obtain ⟨b, off, rfl, hlt, hc⟩ := hs.at_ (by omega)
    have q0 := hc 0 (by omega)
    have q1 := hc 1 (by omega)
    have q2 := hc 2 (by omega)
    have q3 := hc 3 (by omega)
    change w.cell? ⟨b, off + 0, none⟩ = some (.int .u8 ((bt s 0 : Nat) : Int)) at q0
    change w.cell? ⟨b, off + 1, none⟩ = some (.int .u8 ((bt s 1 : Nat) : Int)) at q1
    change w.cell? ⟨b, off + 2, none⟩ = some (.int .u8 ((bt s 2 : Nat) : Int)) at q2
    change w.cell? ⟨b, off + 3, none⟩ = some (.int .u8 ((bt s 3 : Nat) : Int)) at q3
    rw [Nat.add_zero] at q0
    have c0 : ∀ o, (w.alloc o).cell? ⟨b, off, none⟩ = some (.int .u8 ((bt s 0 : Nat) : Int)) := fun o => (World.cell?_alloc_past _ _ _ hlt).trans q0
    have c1 : ∀ o, (w.alloc o).cell? ⟨b, off + 1, none⟩ = some (.int .u8 ((bt s 1 : Nat) : Int)) := fun o => (World.cell?_alloc_past _ _ _ hlt).trans q1
    have c2 : ∀ o, (w.alloc o).cell? ⟨b, off + 2, none⟩ = some (.int .u8 ((bt s 2 : Nat) : Int)) := fun o => (World.cell?_alloc_past _ _ _ hlt).trans q2
    have c3 : ∀ o, (w.alloc o).cell? ⟨b, off + 3, none⟩ = some (.int .u8 ((bt s 3 : Nat) : Int)) := fun o => (World.cell?_alloc_past _ _ _ hlt).trans q3
    have l0 := bt_lt s 0
    have l1 := bt_lt s 1
    have l2 := bt_lt s 2
    have l3 := bt_lt s 3
    have HV : Hid (cmV s = ⟨decide (160 ≤ bt s 0), (bt s 0 % 32 : Nat), (bt s 1 : Nat), (4 * (256 * bt s 2 + bt s 3 + 1) : Nat)⟩) := Lib.hid rfl
    have HE : Hid (cmE s = if bt s 0 < 128 ∨ 191 < bt s 0 then 3 else if n < 4 * (256 * bt s 2 + bt s 3 + 1) then 4 else 0) := Lib.hid (by unfold cmE cmN; rw [if_neg h1, hl])
    have HR0 : Hid (cmE s = 0 → readCm s = cmV s) := Lib.hid (fun h => by unfold readCm; rw [if_pos h])
    have ER := Lib.hid er
    generalize bt s 0 = x0 at *
    generalize bt s 1 = x1 at *
    generalize bt s 2 = x2 at *
    generalize bt s 3 = x3 at *
    generalize readCm s = R at *
    generalize cmE s = E at *
    have g2 : ¬ (n : Int) < 4 := by omega
    have g1 : decide (n < 4) = false := decide_eq_false (by omega)
    have i0 : 0 < n := by omega
    have i1 : (1 : Int) < n := by omega
    have i2 : (2 : Int) < n := by omega
    have i3 : (3 : Int) < n := by omega
    clear hc er q0 q1 q2 q3
    by_cases h2 : x0 < 128
    · have e1 : E = 3 := by rw [HE.out, if_pos (.inl h2)]
      have hz := ER.out 3 (by omega) e1
      subst e1 hz
      have g3 : (x0 : Int) < 128 := by omega
      have g4 : decide (x0 < 128) = true := decide_eq_true h2
      go_enter Try.func18, Try.ntmps18
      go_wp2_with fail
      exact bodyPost_ret (v := .tuple #[cmW zeroCm, .int .i64 3]) (by simp [results, Try.results18, go_sem, zeroCm, *]) rfl ⟨rfl, below1 _ _⟩
    · have g3 : ¬ (x0 : Int) < 128 := by omega
      have g4 : decide (x0 < 128) = false := decide_eq_false h2
      by_cases h3 : 191 < x0
      · have e1 : E = 3 := by rw [HE.out, if_pos (.inr h3)]
        have hz := ER.out 3 (by omega) e1
        subst e1 hz
        have g5 : (191 : Int) < x0 := by omega
        have g6 : decide (191 < x0) = true := decide_eq_true h3
        go_enter Try.func18, Try.ntmps18
        go_wp2_with fail
        exact bodyPost_ret (v := .tuple #[cmW zeroCm, .int .i64 3]) (by simp [results, Try.results18, go_sem, zeroCm, *]) rfl ⟨rfl, below1 _ _⟩
      · have g5 : ¬ (191 : Int) < x0 := by omega
        have g6 : decide (191 < x0) = false := decide_eq_false h3
        have w5 : IntKind.i64.wrap (x2 : Int) = x2 := IntWalk.i64_in _ (by omega)
        have w6 : IntKind.i64.wrap (x3 : Int) = x3 := IntWalk.i64_in _ (by omega)
        have w1 : IntKind.i64.wrap (256 * (x2 : Int)) = 256 * x2 := IntWalk.i64_in _ (by omega)
        have w2 : IntKind.i64.wrap (256 * (x2 : Int) + x3) = 256 * x2 + x3 := IntWalk.i64_in _ (by omega)
        have w3 : IntKind.i64.wrap (256 * (x2 : Int) + x3 + 1) = 256 * x2 + x3 + 1 := IntWalk.i64_in _ (by omega)
        have w4 : IntKind.i64.wrap (4 * (256 * (x2 : Int) + x3 + 1)) = 4 * (256 * x2 + x3 + 1) := IntWalk.i64_in _ (by omega)
        go_enter Try.func18, Try.ntmps18
        go_upto_region 5 with fail
        go_quiet (fail)
        obtain ⟨N, hN⟩ : ∃ N : Int, 4 * (256 * (x2 : Int) + x3 + 1) = N := ⟨_, rfl⟩
        rw [hN]
        by_cases h4 : n < 4 * (256 * x2 + x3 + 1)
        · have e1 : E = 4 := by rw [HE.out, if_neg (by omega), if_pos h4]
          have hz := ER.out 4 (by omega) e1
          subst e1 hz
          have g7 : (n : Int) < N := by omega
          clear hN
          go_wp2_with fail
          exact bodyPost_ret (v := .tuple #[cmW zeroCm, .int .i64 4]) (by simp [results, Try.results18, go_sem, zeroCm, *]) rfl ⟨rfl, below_put4 (below_drewN (below1 _ _) _) (Nat.le_refl _) _ _ _ _⟩
        · have e1 : E = 0 := by rw [HE.out, if_neg (by omega), if_neg h4]
          have hz := HR0.out e1
          rw [HV.out] at hz
          subst e1 hz
          have g7 : ¬ (n : Int) < N := by omega
          have hm : ((x0 : Nat) : Int).tmod 32 = ((x0 % 32 : Nat) : Int) := by rw [Int.tmod_eq_emod_of_nonneg (by omega)]; omega
          obtain ⟨y, hy, hy2⟩ : ∃ y, x0 % 32 = y ∧ y < 32 := ⟨_, rfl, by omega⟩
          have q1 : decide ((160 : Int) ≤ (x0 : Int)) = decide (160 ≤ x0) := by rw [decide_eq_decide]; omega
          have hN2 : ((4 * (256 * x2 + x3 + 1) : Nat) : Int) = N := by rw [← hN]; omega
          dsimp only [cmW]
          rw [hN2]
          rw [hy] at hm ⊢
          have HY := Lib.hid hy
          have HN := Lib.hid hN
          clear hy hN hN2 w1 w2 w3 w4 HV HE HR0 ER
          go_upto_region 8 with fail
          have kz := Box.new w [.bool false, .int .i64 0, .int .i64 0, .int .i64 0] 25
          have hBz := below1 w (.cells #[.bool false, .int .i64 0, .int .i64 0, .int .i64 0] 25)
          have y0 := c0 (.cells #[.bool false, .int .i64 0, .int .i64 0, .int .i64 0] 25)
          have y1 := c1 (.cells #[.bool false, .int .i64 0, .int .i64 0, .int .i64 0] 25)
          replace y0 : ((w.alloc (.cells #[.bool false, .int .i64 0, .int .i64 0, .int .i64 0] 25)).drewN nq).cell? ⟨b, off, none⟩ = some (.int .u8 ((x0 : Nat) : Int)) := y0
          replace y1 : ((w.alloc (.cells #[.bool false, .int .i64 0, .int .i64 0, .int .i64 0] 25)).drewN nq).cell? ⟨b, off + 1, none⟩ = some (.int .u8 ((x1 : Nat) : Int)) := y1
          replace kz : Box ((w.alloc (.cells #[.bool false, .int .i64 0, .int .i64 0, .int .i64 0] 25)).drewN nq) w.heap.size [.bool false, .int .i64 0, .int .i64 0, .int .i64 0] := kz
          replace hBz := below_drewN hBz nq
          generalize (w.alloc (.cells #[.bool false, .int .i64 0, .int .i64 0, .int .i64 0] 25)).drewN nq = w4 at *
          have v1 : IntKind.i64.wrap (x1 : Int) = x1 := IntWalk.i64_in _ (by omega)
          have v2 : IntKind.i64.wrap (y : Int) = y := IntWalk.i64_in _ (by omega)
          clear c0 c1 c2 c3
          go_still_tail 15, (by kernel_rfl)
          clear hm q1 v1 v2 y0 y1
          change wpList _ _ _ _ _ w4.drew
          replace kz : Box w4.drew w.heap.size [.bool false, .int .i64 0, .int .i64 0, .int .i64 0] := kz
          replace hBz := hBz.drew
          generalize w4.drew = w5 at *
          have ka := kz.all4
          have kf := kz.free4
          have kq := kz.put4 (.bool (decide (160 ≤ x0))) (.int .i64 (y : Int)) (.int .i64 (x1 : Int)) (.int .i64 N)
          have kb := kq.all4
          have hBq := below_put4 hBz (Nat.le_refl w.heap.size) (.bool (decide (160 ≤ x0))) (.int .i64 (y : Int)) (.int .i64 (x1 : Int)) (.int .i64 N)
          unfold put4 at kb hBq
          go_wp2_with fail
          clear ka kf kz kq
          exact bodyPost_ret (v := .tuple #[.agg #[.bool (decide (160 ≤ x0)), .int .i64 (y : Int), .int .i64 (x1 : Int), .int .i64 N], .int .i64 0]) (by simp [results, Try.results18, go_sem, *]) rfl ⟨by rw [show (y : Int) = (x0 : Int) % 32 by have := HY.out; omega, ← HN.out], hBq⟩

end Go.Proofs.Ytkfinkmbdpdepaa

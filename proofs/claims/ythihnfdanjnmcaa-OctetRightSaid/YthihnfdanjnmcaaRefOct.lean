/-
  What the document's own answers for layer 1 come to.
-/
import Derived.Test.YthihnfdanjnmcaaOctW
namespace Go.Proofs.Ythihnfdanjnmcaa
open Go.RowKit

theorem getE_arg {l : Nat} {a n : Int} (h : n < 1 ∨ 8 < n ∨ a < 0) : getE l a n = 1 := if_pos h
theorem getE_short {l : Nat} {a n : Int} (h : ¬ (n < 1 ∨ 8 < n ∨ a < 0)) (h2 : (l : Int) < a + n) : getE l a n = 2 := by unfold getE; rw [if_neg h, if_pos h2]
theorem getV_none {s : List UInt8} {a n : Int} (h : getE s.length a n ≠ 0) : getV s a n = 0 := if_neg h
theorem num_bound (s : List UInt8) (a n k : Nat) (h : k < n) (h2 : n ≤ 8) : num ((s.drop a).take k) < 72057594037927936 := by
  have hv := num_lt ((s.drop a).take k)
  have hv2 : (256 : Nat) ^ ((s.drop a).take k).length ≤ 256 ^ 7 := Nat.pow_le_pow_right (by omega) (by simp; omega)
  omega

set_option maxHeartbeats 400000 in
theorem rget_no (A : Option Addr) (l c : Nat) (a n : Int) (w : World) (hl : l ≤ maxLen) (_ha : -9223372036854775808 ≤ a) (_ha2 : a ≤ 9223372036854775807) (h : getE l a n ≠ 0) :
    Calls Try.prog 9 #[.slice A l c, .int .i64 a, .int .i64 n] w fun e w' => e = .returned (.tuple #[.int .u64 0, .int .i64 (getE l a n)]) ∧ w = w' := by
  unfold maxLen at hl
  have _hl := hl
  by_cases h1 : n < 1 ∨ 8 < n ∨ a < 0
  · rw [getE_arg h1]
    clear h
    rcases (show n < 1 ∨ (1 ≤ n ∧ 8 < n) ∨ (1 ≤ n ∧ n ≤ 8 ∧ a < 0) from by omega) with h2 | ⟨h2, h3⟩ | ⟨h2, h3, h4⟩
    all_goals
      clear h1
      go_enter Try.func9, Try.ntmps9
      go_wp2
      go_ret2
      exact ⟨rfl, rfl⟩
  · by_cases h5 : (l : Int) < a + n
    · rw [getE_short h1 h5]
      have g1 : 1 ≤ n := by omega
      have g2 : n ≤ 8 := by omega
      have g3 : 0 ≤ a := by omega
      clear h1 h
      by_cases h6 : (l : Int) < a
      · clear h5
        go_enter Try.func9, Try.ntmps9
        go_wp2
        go_ret2
        exact ⟨rfl, rfl⟩
      · have h7 : (l : Int) - a < n := by omega
        have h8 : a ≤ l := by omega
        clear h6 h5
        go_enter Try.func9, Try.ntmps9
        go_wp2
        go_ret2
        exact ⟨rfl, rfl⟩
    · exact absurd (by unfold getE; rw [if_neg h1, if_neg h5]) h

set_option maxHeartbeats 400000 in
theorem rget_yes (A : Option Addr) (l c : Nat) (s : List UInt8) (a n : Nat) (w : World) (hs : Bs w A l c s) (h1 : 1 ≤ n) (h2 : n ≤ 8) (h3 : a + n ≤ l) :
    Calls Try.prog 9 #[.slice A l c, .int .i64 a, .int .i64 n] w fun e w' => e = .returned (.tuple #[.int .u64 (num ((s.drop a).take n)), .int .i64 0]) ∧ w = w' := by
  have hl := hs.len
  have hla := hs.le
  have hlc := hs.cap
  unfold maxLen at hlc
  obtain ⟨b, o, rfl, hlt, hcell⟩ := hs.at_ (by omega)
  have g1 : (1 : Int) ≤ n := by omega
  have g2 : (n : Int) ≤ 8 := by omega
  have g3 : (a : Int) ≤ l := by omega
  have g4 : (n : Int) ≤ l - a := by omega
  go_enter Try.func9, Try.ntmps9
  go_wp2_with fail
  go_loop [8, 9] (fun v i => ∃ k : Nat, k ≤ n ∧ i = .int .i64 k ∧ v = .int .u64 (num ((s.drop a).take k))) (fun _ i => n - (intOf i).toNat)
  case atStart => exact ⟨0, Nat.zero_le _, rfl, rfl⟩
  case round =>
    obtain ⟨k, hk, rfl, rfl⟩ := hrel
    by_cases hkn : k < n
    · have hc := hcell (a + k) (by omega)
      have hq := byte_getD_lt s (a + k)
      have hnt := num_take s a k (by omega)
      have hnb := num_bound s a n k hkn h2
      generalize (s.getD (a + k) 0).toNat = q at *
      generalize num ((s.drop a).take k) = x at *
      have Hnt := Lib.hid hnt; clear hnt
      clear hcell
      go_wp2
      go_round
      case rel =>
        refine ⟨k + 1, by omega, by go_num, ?_⟩
        rw [Hnt.out]
        go_num
      case measure => simp [intOf]; omega
    · go_wp2
      go_ret2
      have e : k = n := by omega
      subst e
      exact ⟨rfl, rfl⟩

theorem rget_any (A : Option Addr) (l c : Nat) (s : List UInt8) (a n : Int) (w : World) (hs : Bs w A l c s) (ha : (Lit.int .i64 a).wf = true) :
    Calls Try.prog 9 #[.slice A l c, .int .i64 a, .int .i64 n] w fun e w' => e = .returned (.tuple #[.int .u64 (getV s a n), .int .i64 (getE s.length a n)]) ∧ w = w' := by
  have hl := hs.len
  obtain ⟨ha1, ha2⟩ := bound_i64 ha
  by_cases h : getE s.length a n = 0
  · obtain ⟨h1, h2, h3, h4⟩ := getE_zero h
    obtain ⟨a, rfl⟩ := Int.eq_ofNat_of_zero_le h3
    obtain ⟨n, rfl⟩ := Int.eq_ofNat_of_zero_le (show 0 ≤ n by omega)
    rw [h, getV_yes (by omega) (by omega) (by omega)]
    exact rget_yes A l c s a n w hs (by omega) (by omega) (by omega)
  · rw [getV_none h]
    have := rget_no A l c a n w (Nat.le_trans hs.le hs.cap) ha1 ha2 (by rw [← hl]; exact h)
    rwa [← hl] at this ⊢

theorem pow_le7 {n : Nat} (h : n ≤ 7) : (256 : Nat) ^ n ≤ 72057594037927936 := Nat.pow_le_pow_right (n := 256) (by omega) h
theorem pow_even {n : Nat} (h : 1 ≤ n) : ∃ p, 256 ^ n = 2 * p := by
  obtain ⟨m, rfl⟩ : ∃ m, n = m + 1 := ⟨n - 1, by omega⟩
  exact ⟨128 * 256 ^ m, by rw [Nat.pow_succ]; omega⟩

set_option maxHeartbeats 400000 in
theorem rsigned_any (A : Option Addr) (l c : Nat) (s : List UInt8) (a n : Int) (w : World) (hs : Bs w A l c s) (ha : (Lit.int .i64 a).wf = true) :
    Calls Try.prog 11 #[.slice A l c, .int .i64 a, .int .i64 n] w fun e w' => e = .returned (.tuple #[.int .i64 (signedV s a n), .int .i64 (getE s.length a n)]) ∧ w = w' := by
  have hg := rget_any A l c s a n w hs ha
  have hl := hs.len
  by_cases h : getE s.length a n = 0
  · obtain ⟨h1, h2, h3, h4⟩ := getE_zero h
    obtain ⟨a, rfl⟩ := Int.eq_ofNat_of_zero_le h3
    obtain ⟨n, rfl⟩ := Int.eq_ofNat_of_zero_le (show 0 ≤ n by omega)
    rw [signedV_yes (by omega) (by omega) (by omega), h]
    rw [getV_yes (by omega) (by omega) (by omega), h] at hg
    have hnl : num ((s.drop a).take n) < 256 ^ n := by
      have := num_lt ((s.drop a).take n)
      rwa [show ((s.drop a).take n).length = n from by simp; omega] at this
    generalize num ((s.drop a).take n) = v at *
    have Hg := Lib.hid hg
    clear hg h
    by_cases h8 : (n : Int) = 8
    · obtain rfl : n = 8 := by omega
      have e : wrap64 (v : Int) = sgn 8 v := by
        simp only [Nat.reducePow] at hnl
        unfold wrap64 sgn
        simp only [Nat.reducePow]
        split <;> omega
      have He := Lib.hid e
      clear e hnl
      go_enter Try.func11, Try.ntmps11
      go_wp2_with fail
      refine (Hg.out).mono ?_
      rintro e w1 ⟨rfl, rfl⟩
      go_wp2
      go_ret2
      refine ⟨?_, rfl⟩
      show Ending.returned (.tuple #[.int .i64 (wrap64 (v : Int)), .int .i64 0]) = _
      rw [He.out]
    · have hn7 : n ≤ 7 := by omega
      have h8' : ((n : Int) == 8) = false := beq_eq_false_iff_ne.2 h8
      have hp7 := pow_le7 hn7
      clear h8
      go_enter Try.func11, Try.ntmps11
      go_wp2_with fail
      refine (Hg.out).mono ?_
      rintro e w1 ⟨rfl, rfl⟩
      go_wp2_with fail
      go_loop [10, 11] (fun x i => ∃ k : Nat, k ≤ n ∧ i = .int .i64 k ∧ x = .int .i64 ((256 ^ k : Nat) : Int)) (fun _ i => n - (intOf i).toNat)
      case atStart => exact ⟨0, Nat.zero_le _, rfl, rfl⟩
      case round =>
        obtain ⟨k, hk, rfl, rfl⟩ := hrel
        by_cases hkn : k < n
        · have hp6 : 256 ^ k ≤ 281474976710656 := Nat.pow_le_pow_right (n := 256) (j := 6) (by omega) (by omega)
          have hps : 256 ^ (k + 1) = 256 ^ k * 256 := Nat.pow_succ _ _
          generalize 256 ^ k = p at *
          have Hps := Lib.hid hps
          clear hps
          go_wp2
          go_round
          case rel => exact ⟨k + 1, by omega, by go_num, by rw [Hps.out]; go_num⟩
          case measure => simp [intOf]; omega
        · obtain rfl : k = n := by omega
          obtain ⟨p, hp⟩ := pow_even (n := k) (by omega)
          have e : sgn k v = if (v : Int) < p then (v : Int) else (v : Int) - 2 * p := by
            unfold sgn
            rw [hp]
            split <;> split <;> omega
          rw [hp] at hnl hp7 ⊢
          have He := Lib.hid e
          have Hp := Lib.hid hp
          clear e hp
          by_cases hvp : (v : Int) < p
          · go_wp2
            go_ret2
            exact ⟨by rw [He.out, if_pos hvp]; rfl, rfl⟩
          · go_wp2
            go_ret2
            exact ⟨by rw [He.out, if_neg (by omega)]; rfl, rfl⟩
  · rw [getV_none h] at hg
    have e2 : signedV s a n = 0 := if_neg h
    rw [e2]
    have hz : (getE s.length a n != 0) = true := by rw [bne_iff_ne]; exact h
    generalize getE s.length a n = q at *
    have Hg := Lib.hid hg
    clear hg h e2
    go_enter Try.func11, Try.ntmps11
    go_wp2_with fail
    refine (Hg.out).mono ?_
    rintro e w1 ⟨rfl, rfl⟩
    go_wp2
    go_ret2
    exact ⟨rfl, rfl⟩

set_option maxHeartbeats 400000 in
theorem rput_any (v : Nat) (n : Int) (w : World) (hv : v < 18446744073709551616) :
    Calls Try.prog 13 #[.int .u64 v, .int .i64 n] w fun e w' => GivesBE w 5 (putB v n) (putE v n) e w' := by
  obtain ⟨i0, hi0, hz0, hz1, hz2⟩ := info_parts byte_info
  by_cases h1 : n < 1 ∨ 8 < n
  · have e1 : putE v n = 1 := if_pos h1
    have e2 : putB v n = [] := if_neg (by rw [e1]; decide)
    rw [e1, e2]
    rcases (show n < 1 ∨ (1 ≤ n ∧ 8 < n) from by omega) with h2 | ⟨h2, h3⟩
    all_goals
      clear h1 e1 e2
      go_enter Try.func13, Try.ntmps13
      go_wp2
      go_ret2
      exact GivesBE.none_ _ _ _
  · obtain ⟨n, rfl⟩ := Int.eq_ofNat_of_zero_le (show 0 ≤ n by omega)
    have g1 : (1 : Int) ≤ n := by omega
    have g2 : (n : Int) ≤ 8 := by omega
    have hE : (256 ^ n ≤ v → putE v n = 6 ∧ putB v n = []) ∧ (¬ 256 ^ n ≤ v → putE v n = 0 ∧ putB v n = be n v) := by
      refine ⟨fun h => ?_, fun h => putE_yes (by omega) (by omega) (by omega)⟩
      have e1 : putE v n = 6 := by unfold putE; rw [if_neg (by omega), Int.toNat_natCast, if_pos h]
      exact ⟨e1, if_neg (by rw [e1]; decide)⟩
    generalize putE v n = err at *
    generalize putB v n = out at *
    have HE := Lib.hid hE
    clear hE h1
    go_enter Try.func13, Try.ntmps13
    go_wp2_with (at_make; go_loud (refine wpList_make_full _ rfl (.tmp 14) (.tmp 14) 22 rfl w.heap.size 5 i0 (.int .u8 0) 1 Try.underlying22 hi0 hz0 hz1 .i64 .i64 n n n rfl rfl rfl rfl (by rw [hz2]; omega) (by simp only [maxLen]; omega) (Nat.le_refl _) ?_); intro w1 hown hgrow)
    have hb1 : Below w.heap.size w w1 := (Below.refl _ _).grown hgrow (Nat.le_refl _) (by intro k h; cases h)
    have hown1 : Own w1 w.heap.size 5 (some ⟨w.heap.size, 0, none⟩) n n (filled n 0 v) := by
      rw [filled_zero]
      rw [show (Value.int IntKind.u8 0).cells = #[.int .u8 0] from rfl, Nat.mul_one, toList_madeCells_one] at hown
      simpa [byteV, Own] using hown
    clear hown hgrow
    go_wp2_with fail
    go_loopw [0, 7] (fun x i wr => ∃ k : Nat, k ≤ n ∧ i = .int .i64 k ∧ x = .int .u64 ((v / 256 ^ k : Nat) : Int) ∧ Below w.heap.size w wr ∧ Own wr w.heap.size 5 (some ⟨w.heap.size, 0, none⟩) n n (filled n k v)) (fun _ i _ => n - (intOf i).toNat)
    case atStart => exact ⟨0, Nat.zero_le _, rfl, by simp, hb1, hown1⟩
    case round =>
      obtain ⟨k, hk, rfl, rfl, hbel, hown⟩ := hrel
      clear hb1 hown1
      by_cases hkn : k < n
      · obtain ⟨⟨u0, hcl⟩, hfz, hown'⟩ := Own.store (x := UInt8.ofNat (v / 256 ^ k)) hown (show n - 1 - k < n by omega)
        rw [filled_step n k v hkn] at hown'
        have hdd : v / 256 ^ k / 256 = v / 256 ^ (k + 1) := by rw [Nat.div_div_eq_div_mul, Nat.pow_succ]
        have hq : v / 256 ^ k ≤ v := Nat.div_le_self _ _
        clear hown
        generalize v / 256 ^ k = q at *
        have Hdd := Lib.hid hdd; clear hdd
        go_wp2
        go_roundw
        case rel =>
          refine ⟨k + 1, by omega, by go_num, ?_⟩
          rw [byteV_ofNat] at hown'
          exact ⟨by rw [← Hdd.out]; simp, hbel.setCell (Nat.le_refl _) _, hown'⟩
        case measure => simp [intOf]; omega
      · obtain rfl : k = n := by omega
        have hd : 0 < v / 256 ^ k ↔ 256 ^ k ≤ v := by
          have := Nat.div_pos_iff (a := v) (b := 256 ^ k)
          have := pow_pos256 k
          omega
        rw [filled_all] at hown
        obtain ⟨E1, E2⟩ := HE.out
        by_cases hv2 : 256 ^ k ≤ v
        · obtain ⟨rfl, rfl⟩ := E1 hv2
          have hpos := hd.2 hv2
          clear hd E1 E2 hv2 HE
          generalize v / 256 ^ k = q at *
          go_wp2
          go_ret2
          exact ⟨none, 0, rfl, Own.nil _ _ _, hbel⟩
        · obtain ⟨rfl, rfl⟩ := E2 hv2
          have hz : v / 256 ^ k = 0 := by
            have := hd.1
            rcases Nat.eq_zero_or_pos (v / 256 ^ k) with h | h
            · exact h
            · exact absurd (this h) hv2
          rw [hz]
          clear hd E1 E2 hv2 HE hz
          go_wp2
          go_ret2
          refine ⟨some ⟨w.heap.size, 0, none⟩, k, ?_, ?_, hbel⟩
          · rw [be_length]; rfl
          · rw [be_length]; exact hown

theorem rput_int (v n : Int) (w : World) (h0 : 0 ≤ v) (hv : v < 18446744073709551616) :
    Calls Try.prog 13 #[.int .u64 v, .int .i64 n] w fun e w' => GivesBE w 5 (putB v.toNat n) (putE v.toNat n) e w' := by
  obtain ⟨v, rfl⟩ := Int.eq_ofNat_of_zero_le h0
  exact rput_any v n w (by omega)

theorem putSE_arg {v n : Int} (h : n < 1 ∨ 8 < n) : putSE v n = 1 := if_pos h
theorem putSE_field {v : Int} {n : Nat} (h1 : 1 ≤ n) (h2 : n ≤ 8) (h : 2 * v < -((256 ^ n : Nat) : Int) ∨ ((256 ^ n : Nat) : Int) ≤ 2 * v) : putSE v n = 6 := by
  unfold putSE; rw [if_neg (by omega), Int.toNat_natCast, if_pos h]
theorem putSB_none {v n : Int} (h : putSE v n ≠ 0) : putSB v n = [] := if_neg h

set_option maxRecDepth 100000 in
set_option maxHeartbeats 400000 in
theorem rputs_any (v n : Int) (w : World) (hv : (Lit.int .i64 v).wf = true) :
    Calls Try.prog 15 #[.int .i64 v, .int .i64 n] w fun e w' => GivesBE w 5 (putSB v n) (putSE v n) e w' := by
  obtain ⟨hv1, hv2⟩ := bound_i64 hv
  by_cases h1 : n < 1 ∨ 8 < n
  · rw [putSB_none (by rw [putSE_arg h1]; decide), putSE_arg h1]
    rcases (show n < 1 ∨ (1 ≤ n ∧ 8 < n) from by omega) with h2 | ⟨h2, h3⟩
    all_goals
      clear h1 hv1 hv2
      go_enter Try.func15, Try.ntmps15
      go_wp2
      go_ret2
      exact GivesBE.none_ _ _ _
  · obtain ⟨n, rfl⟩ := Int.eq_ofNat_of_zero_le (show 0 ≤ n by omega)
    have g1 : (1 : Int) ≤ n := by omega
    have g2 : (n : Int) ≤ 8 := by omega
    by_cases h8 : (n : Int) = 8
    · obtain rfl : n = 8 := by omega
      have b1 : 0 ≤ IntKind.u64.wrap v := by rw [IntKind.wrap_u64]; omega
      have b2 : IntKind.u64.wrap v < 18446744073709551616 := by rw [IntKind.wrap_u64]; omega
      have hp : (256 : Nat) ^ 8 = 18446744073709551616 := by decide
      have hput := fun w => rput_int (IntKind.u64.wrap v) 8 w b1 b2
      obtain ⟨e1, e2⟩ := putE_yes (v := (IntKind.u64.wrap v).toNat) (n := 8) (by omega) (by omega) (by rw [hp]; omega)
      obtain ⟨f1, f2⟩ := putSE_yes (v := v) (n := 8) (by omega) (by omega) (by rw [hp]; omega) (by rw [hp]; omega)
      have e3 := be_unsgn 8 v (by omega) (by omega) (by rw [hp]; omega)
      have hcast : (((8 : Nat) : Int)) = 8 := rfl
      rw [hcast] at e1 e2 f1 f2 ⊢
      rw [f1, f2]
      simp only [e1, e2, e3] at hput
      generalize be 8 (unsgn 8 v) = y at *
      have Hput := Lib.hid hput
      clear hput hp e1 e2 e3 f1 f2 b1 b2 hv1 hv2 h8 h1
      go_enter Try.func15, Try.ntmps15
      go_wp2_with fail
      refine (Hput.out _).mono ?_
      rintro e w' ⟨A, c, rfl, hown, hbel⟩
      go_wp2
      go_ret2
      exact ⟨A, c, rfl, hown, hbel⟩
    · have hn7 : n ≤ 7 := by omega
      have h8' : ((n : Int) == 8) = false := beq_eq_false_iff_ne.2 h8
      have hp7 := pow_le7 hn7
      obtain ⟨p, hp⟩ := pow_even (n := n) (by omega)
      have hcase : (putSE v n = 6 ∧ putSB v n = [] ∧ v < -p) ∨ (putSE v n = 6 ∧ putSB v n = [] ∧ (p : Int) ≤ v ∧ -p ≤ v) ∨
          (putSE v n = 0 ∧ putSB v n = be n v.toNat ∧ putE v.toNat n = 0 ∧ putB v.toNat n = be n v.toNat ∧ 0 ≤ v ∧ v < p ∧ -p ≤ v) ∨
          (putSE v n = 0 ∧ putSB v n = be n (v + 2 * p).toNat ∧ putE (v + 2 * p).toNat n = 0 ∧ putB (v + 2 * p).toNat n = be n (v + 2 * p).toNat ∧ v < 0 ∧ v < p ∧ -p ≤ v) := by
        by_cases c1 : v < -p
        · have := putSE_field (v := v) (n := n) (by omega) (by omega) (by rw [hp]; omega)
          exact .inl ⟨this, putSB_none (by rw [this]; decide), c1⟩
        · by_cases c2 : (p : Int) ≤ v
          · have := putSE_field (v := v) (n := n) (by omega) (by omega) (by rw [hp]; omega)
            exact .inr (.inl ⟨this, putSB_none (by rw [this]; decide), c2, by omega⟩)
          · obtain ⟨f1, f2⟩ := putSE_yes (v := v) (n := n) (by omega) (by omega) (by rw [hp]; omega) (by rw [hp]; omega)
            by_cases c3 : 0 ≤ v
            · obtain ⟨e1, e2⟩ := putE_yes (v := v.toNat) (n := n) (by omega) (by omega) (by rw [hp]; omega)
              have e3 : unsgn n v = v.toNat := if_pos c3
              rw [e3] at f2
              exact .inr (.inr (.inl ⟨f1, f2, e1, e2, c3, by omega, by omega⟩))
            · obtain ⟨e1, e2⟩ := putE_yes (v := (v + 2 * p).toNat) (n := n) (by omega) (by omega) (by rw [hp]; omega)
              have e3 : unsgn n v = (v + 2 * p).toNat := by unfold unsgn; rw [if_neg c3, hp]; congr 1
              rw [e3] at f2
              exact .inr (.inr (.inr ⟨f1, f2, e1, e2, by omega, by omega, by omega⟩))
      have Hp := Lib.hid hp
      rw [hp] at hp7
      clear hp h8 h1
      rcases hcase with ⟨f1, f2, c1⟩ | ⟨f1, f2, c1, c2⟩ | ⟨f1, f2, e1, e2, c1, c2, c3⟩ | ⟨f1, f2, e1, e2, c1, c2, c3⟩
      · rw [f1, f2]
        clear f1 f2
        go_enter Try.func15, Try.ntmps15
        go_wp2_with fail
        go_loop [6, 7] (fun x i => ∃ k : Nat, k ≤ n ∧ i = .int .i64 k ∧ x = .int .i64 ((256 ^ k : Nat) : Int)) (fun _ i => n - (intOf i).toNat)
        case atStart => exact ⟨0, Nat.zero_le _, rfl, rfl⟩
        case round =>
          obtain ⟨k, hk, rfl, rfl⟩ := hrel
          by_cases hkn : k < n
          · have hp6 : 256 ^ k ≤ 281474976710656 := Nat.pow_le_pow_right (n := 256) (j := 6) (by omega) (by omega)
            have hps : 256 ^ (k + 1) = 256 ^ k * 256 := Nat.pow_succ _ _
            generalize 256 ^ k = p at *
            have Hps := Lib.hid hps
            clear hps
            go_wp2
            go_round
            case rel => exact ⟨k + 1, by omega, by go_num, by rw [Hps.out]; go_num⟩
            case measure => simp [intOf]; omega
          · obtain rfl : k = n := by omega
            rw [Hp.out]
            go_wp2
            go_ret2
            exact GivesBE.none_ _ _ _
      · rw [f1, f2]
        clear f1 f2
        go_enter Try.func15, Try.ntmps15
        go_wp2_with fail
        go_loop [6, 7] (fun x i => ∃ k : Nat, k ≤ n ∧ i = .int .i64 k ∧ x = .int .i64 ((256 ^ k : Nat) : Int)) (fun _ i => n - (intOf i).toNat)
        case atStart => exact ⟨0, Nat.zero_le _, rfl, rfl⟩
        case round =>
          obtain ⟨k, hk, rfl, rfl⟩ := hrel
          by_cases hkn : k < n
          · have hp6 : 256 ^ k ≤ 281474976710656 := Nat.pow_le_pow_right (n := 256) (j := 6) (by omega) (by omega)
            have hps : 256 ^ (k + 1) = 256 ^ k * 256 := Nat.pow_succ _ _
            generalize 256 ^ k = p at *
            have Hps := Lib.hid hps
            clear hps
            go_wp2
            go_round
            case rel => exact ⟨k + 1, by omega, by go_num, by rw [Hps.out]; go_num⟩
            case measure => simp [intOf]; omega
          · obtain rfl : k = n := by omega
            rw [Hp.out]
            go_wp2
            go_ret2
            exact GivesBE.none_ _ _ _
      · have hput := fun w => rput_int v n w c1 (by omega)
        rw [f1, f2]
        simp only [e1, e2] at hput
        generalize be n v.toNat = y at *
        have Hput := Lib.hid hput
        clear f1 f2 e1 e2 hput
        go_enter Try.func15, Try.ntmps15
        go_wp2_with fail
        go_loop [6, 7] (fun x i => ∃ k : Nat, k ≤ n ∧ i = .int .i64 k ∧ x = .int .i64 ((256 ^ k : Nat) : Int)) (fun _ i => n - (intOf i).toNat)
        case atStart => exact ⟨0, Nat.zero_le _, rfl, rfl⟩
        case round =>
          obtain ⟨k, hk, rfl, rfl⟩ := hrel
          by_cases hkn : k < n
          · have hp6 : 256 ^ k ≤ 281474976710656 := Nat.pow_le_pow_right (n := 256) (j := 6) (by omega) (by omega)
            have hps : 256 ^ (k + 1) = 256 ^ k * 256 := Nat.pow_succ _ _
            generalize 256 ^ k = p at *
            have Hps := Lib.hid hps
            clear hps
            go_wp2
            go_round
            case rel => exact ⟨k + 1, by omega, by go_num, by rw [Hps.out]; go_num⟩
            case measure => simp [intOf]; omega
          · obtain rfl : k = n := by omega
            rw [Hp.out]
            go_wp2_with fail
            refine (Hput.out _).mono ?_
            rintro e w' ⟨A, c, rfl, hown, hbel⟩
            go_wp2
            go_ret2
            exact ⟨A, c, rfl, hown, hbel⟩
      · have hput := fun w => rput_int (v + 2 * p) n w (by omega) (by omega)
        rw [f1, f2]
        simp only [e1, e2] at hput
        generalize be n (v + 2 * p).toNat = y at *
        have Hput := Lib.hid hput
        clear f1 f2 e1 e2 hput
        go_enter Try.func15, Try.ntmps15
        go_wp2_with fail
        go_loop [6, 7] (fun x i => ∃ k : Nat, k ≤ n ∧ i = .int .i64 k ∧ x = .int .i64 ((256 ^ k : Nat) : Int)) (fun _ i => n - (intOf i).toNat)
        case atStart => exact ⟨0, Nat.zero_le _, rfl, rfl⟩
        case round =>
          obtain ⟨k, hk, rfl, rfl⟩ := hrel
          by_cases hkn : k < n
          · have hp6 : 256 ^ k ≤ 281474976710656 := Nat.pow_le_pow_right (n := 256) (j := 6) (by omega) (by omega)
            have hps : 256 ^ (k + 1) = 256 ^ k * 256 := Nat.pow_succ _ _
            generalize 256 ^ k = p at *
            have Hps := Lib.hid hps
            clear hps
            go_wp2
            go_round
            case rel => exact ⟨k + 1, by omega, by go_num, by rw [Hps.out]; go_num⟩
            case measure => simp [intOf]; omega
          · obtain rfl : k = n := by omega
            rw [Hp.out]
            go_wp2_with fail
            refine (Hput.out _).mono ?_
            rintro e w' ⟨A, c, rfl, hown, hbel⟩
            go_wp2
            go_ret2
            exact ⟨A, c, rfl, hown, hbel⟩

theorem setE_put {l : Nat} {a n : Int} {v : Nat} (h : putE v n ≠ 0) : setE l a n v = putE v n := by unfold setE; rw [if_pos h]
theorem setE_arg {l : Nat} {a n : Int} {v : Nat} (h : putE v n = 0) (ha : a < 0) : setE l a n v = 1 := by unfold setE; rw [if_neg (by simpa using h), if_pos ha]
theorem setE_short {l : Nat} {a n : Int} {v : Nat} (h : putE v n = 0) (ha : ¬ a < 0) (h5 : (l : Int) < a + n) : setE l a n v = 2 := by unfold setE; rw [if_neg (by simpa using h), if_neg ha, if_pos h5]
theorem setE_none {l : Nat} {a n : Int} {v : Nat} (h : putE v n = 0) (ha : ¬ a < 0) (h5 : ¬ (l : Int) < a + n) : setE l a n v = 0 := by unfold setE; rw [if_neg (by simpa using h), if_neg ha, if_neg h5]
theorem setB_none {s : List UInt8} {a n : Int} {v : Nat} (h : setE s.length a n v ≠ 0) : setB s a n v = [] := if_neg h

set_option maxHeartbeats 400000 in
theorem rset_no (A : Option Addr) (l c : Nat) (a n : Int) (v : Nat) (w : World) (hl : l ≤ maxLen) (ha2 : a ≤ 9223372036854775807) (hv : v < 18446744073709551616) (h : setE l a n v ≠ 0) :
    Calls Try.prog 17 #[.slice A l c, .int .i64 a, .int .i64 n, .int .u64 v] w fun e w' => GivesBE w 5 [] (setE l a n v) e w' := by
  have hput := rput_any v n w hv
  unfold maxLen at hl
  have _hl := hl
  have _ha2 := ha2
  by_cases h0 : putE v n = 0
  · obtain ⟨k1, k2, _⟩ := putE_zero h0
    rw [h0] at hput
    by_cases h1 : a < 0
    · rw [setE_arg h0 h1]
      generalize putB v n = y at *
      have Hput := Lib.hid hput
      clear hput h h0
      go_enter Try.func17, Try.ntmps17
      go_wp2_with fail
      refine (Hput.out).mono ?_
      rintro e w1 ⟨A1, c1, rfl, hown1, hb1⟩
      go_wp2
      go_ret2
      exact ⟨none, 0, rfl, Own.nil _ _ _, hb1⟩
    · have h5 : (l : Int) < a + n := by
        by_cases h5 : (l : Int) < a + n
        · exact h5
        · exact absurd (setE_none h0 h1 h5) h
      rw [setE_short h0 h1 h5]
      generalize putB v n = y at *
      have Hput := Lib.hid hput
      have g3 : 0 ≤ a := by omega
      clear hput h h0 h1
      by_cases h6 : (l : Int) < a
      · clear h5
        go_enter Try.func17, Try.ntmps17
        go_wp2_with fail
        refine (Hput.out).mono ?_
        rintro e w1 ⟨A1, c1, rfl, hown1, hb1⟩
        go_wp2
        go_ret2
        exact ⟨none, 0, rfl, Own.nil _ _ _, hb1⟩
      · have h7 : (l : Int) - a < n := by omega
        have h8 : a ≤ l := by omega
        clear h6 h5
        go_enter Try.func17, Try.ntmps17
        go_wp2_with fail
        refine (Hput.out).mono ?_
        rintro e w1 ⟨A1, c1, rfl, hown1, hb1⟩
        go_wp2
        go_ret2
        exact ⟨none, 0, rfl, Own.nil _ _ _, hb1⟩
  · rw [setE_put h0]
    have e2 : putB v n = [] := if_neg h0
    rw [e2] at hput
    have hz : (putE v n != 0) = true := by rw [bne_iff_ne]; exact h0
    generalize putE v n = q at *
    have Hput := Lib.hid hput
    clear hput h h0 e2
    go_enter Try.func17, Try.ntmps17
    go_wp2_with fail
    refine (Hput.out).mono ?_
    rintro e w1 ⟨A1, c1, rfl, hown1, hb1⟩
    go_wp2
    go_ret2
    exact ⟨none, 0, rfl, Own.nil _ _ _, hb1⟩

set_option maxHeartbeats 1000000 in
theorem rset_yes (A : Option Addr) (l c : Nat) (s : List UInt8) (a n v : Nat) (w : World) (hs : Bs w A l c s) (h1 : 1 ≤ n) (h2 : n ≤ 8) (h3 : a + n ≤ l) (hl : l ≤ 140737488355328) (hv : v < 256 ^ n) :
    Calls Try.prog 17 #[.slice A l c, .int .i64 a, .int .i64 n, .int .u64 v] w fun e w' => GivesBE w 5 (splice s a (be n v)) 0 e w' := by
  have hp := pow256_le h2
  have hput := rput_any v n w (by omega)
  rw [(putE_yes h1 h2 hv).1, (putE_yes h1 h2 hv).2] at hput
  have hbl := be_length n v
  have hlen := hs.len
  generalize be n v = x at *
  have Hput := Lib.hid hput
  have Hbl := Lib.hid hbl
  have Hlen := Lib.hid hlen
  have g4 : (n : Int) ≤ l - a := by omega
  have g5 : (a : Int) ≤ l := by omega
  clear hput hp hv hbl hlen
  go_enter Try.func17, Try.ntmps17
  go_wp2_with fail
  refine (Hput.out).mono ?_
  rintro e w1 ⟨A1, c1, rfl, hown1, hb1⟩
  rw [Hbl.out] at hown1 ⊢
  have hs1 := hs.below hb1
  have hx1 := hown1.bs
  go_wp2_with (at_builtin; go_loud (refine wpList_app _ rfl (.tmp 37) (.tmp 38) 22 rfl w1.heap.size 5 Try.underlying22 byte_info (some ⟨w1.heap.size, 0, none⟩) 0 0 [] rfl (World.ownsRow_made w1 #[] 0 (Nat.le_refl _) (Nat.zero_le _) rfl) A l c s rfl (hs1.alloc _) (by omega) (by simp) ?_); intro A2 c2 w2 hown2 hb2)
  rw [Nat.zero_add] at hown2
  have hB2 : Below w1.heap.size w1 w2 := ((Below.refl _ _).alloc (Nat.le_refl _) _).trans hb2
  obtain ⟨g, rfl, hg1, hg2⟩ := hown2.form (by omega)
  have hown2' : Own w2 w1.heap.size 5 (some ⟨g, 0, none⟩) l c2 (splice s a (x.take 0)) := by rw [List.take_zero, splice_nil]; simpa using hown2
  clear hown2 hb2
  go_wp2_with fail
  go_loopw [13] (fun i wr => ∃ k : Nat, k ≤ n ∧ i = .int .i64 k ∧ Below w1.heap.size w1 wr ∧ Own wr w1.heap.size 5 (some ⟨g, 0, none⟩) l c2 (splice s a (x.take k))) (fun i _ => n - (intOf i).toNat)
  case atStart => exact ⟨0, Nat.zero_le _, rfl, hB2, hown2'⟩
  case round =>
    obtain ⟨k, hk, rfl, hbel, hown⟩ := hrel
    clear hB2 hown2'
    by_cases hkn : k < n
    · obtain ⟨⟨u0, hcl⟩, hfz, hst⟩ := Own.store (x := x.getD k 0) hown (show a + k < l by omega)
      rw [splice_step s x a k (by rw [Hbl.out]; exact hkn) (by rw [Hbl.out, Hlen.out]; exact h3)] at hst
      obtain ⟨xb, xo, rfl, _, hcx⟩ := (hx1.below hbel).at_ (by omega)
      have hc := hcx k hkn
      rw [show byteV (x.getD k 0) = .int .u8 ((x.getD k 0).toNat : Int) from rfl] at hst
      generalize (x.getD k 0).toNat = q at *
      clear hcx hown
      go_wp2
      go_roundw
      case rel => exact ⟨k + 1, by omega, by go_num, hbel.setCell hg1 _, hst⟩
      case measure => simp [intOf]; omega
    · obtain rfl : k = n := by omega
      rw [List.take_of_length_le (by rw [Hbl.out]; omega)] at hown
      have hsl : (splice s a x).length = l := by rw [splice_length _ _ _ (by rw [Hbl.out, Hlen.out]; exact h3), Hlen.out]
      have Hsl := Lib.hid hsl
      clear hsl
      go_wp2
      go_ret2
      exact ⟨some ⟨g, 0, none⟩, c2, by rw [Hsl.out]; rfl, by rw [Hsl.out]; exact hown.mono hb1.size, hb1.trans (hbel.mono hb1.size)⟩

theorem rset_any (A : Option Addr) (l c : Nat) (s : List UInt8) (a n : Int) (v : Nat) (w : World) (hs : Bs w A l c s) (ha : (Lit.int .i64 a).wf = true) (hl : l ≤ 140737488355328) (hv : v < 18446744073709551616) :
    Calls Try.prog 17 #[.slice A l c, .int .i64 a, .int .i64 n, .int .u64 v] w fun e w' => GivesBE w 5 (setB s a n v) (setE s.length a n v) e w' := by
  have hlen := hs.len
  obtain ⟨ha1, ha2⟩ := bound_i64 ha
  by_cases h : setE s.length a n v = 0
  · obtain ⟨k1, k2, k3, k4, k5⟩ := setE_zero h
    obtain ⟨a, rfl⟩ := Int.eq_ofNat_of_zero_le k3
    obtain ⟨n, rfl⟩ := Int.eq_ofNat_of_zero_le (show 0 ≤ n by omega)
    rw [setB_yes h, h]
    exact rset_yes A l c s a n v w hs (by omega) (by omega) (by omega) hl (by rwa [Int.toNat_natCast] at k5)
  · rw [setB_none h]
    have := rset_no A l c a n v w (Nat.le_trans hs.le hs.cap) ha2 hv (by rw [← hlen]; exact h)
    rwa [← hlen] at this ⊢

end Go.Proofs.Ythihnfdanjnmcaa

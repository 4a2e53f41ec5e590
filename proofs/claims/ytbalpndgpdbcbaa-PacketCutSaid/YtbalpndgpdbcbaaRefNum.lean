/-
  What the document's own answers for layer 1 come to, as later layers call them: a number out of bytes, a number's bytes. (Cut out of the texts on layer 1.)
-/
import Derived.Test.YtbalpndgpdbcbaaByte
import Derived.Test.YtbalpndgpdbcbaaMem
import Derived.Test.YtbalpndgpdbcbaaInt
import Derived.Test.YtbalpndgpdbcbaaBox
namespace Go.Proofs.Ytbalpndgpdbcbaa
open Go.RowKit


theorem getE_arg {l : Nat} {a n : Int} (h : n < 1 ∨ 8 < n ∨ a < 0) : getE l a n = 1 := if_pos h
theorem getE_short {l : Nat} {a n : Int} (h : ¬ (n < 1 ∨ 8 < n ∨ a < 0)) (h2 : (l : Int) < a + n) : getE l a n = 2 := by unfold getE; rw [if_neg h, if_pos h2]
theorem getV_none {s : List UInt8} {a n : Int} (h : getE s.length a n ≠ 0) : getV s a n = 0 := if_neg h
theorem num_bound (s : List UInt8) (a n k : Nat) (h : k < n) (h2 : n ≤ 8) : num ((s.drop a).take k) < 72057594037927936 := by
  have hv := num_lt ((s.drop a).take k)
  have hv2 : (256 : Nat) ^ ((s.drop a).take k).length ≤ 256 ^ 7 := Nat.pow_le_pow_right (by omega) (by simp; omega)
  omega

set_option maxHeartbeats 400000 in
theorem rget_no (A : Option Addr) (l c : Nat) (a n : Int) (w : World) (hl : l ≤ maxLen) (_ha : -9223372036854775808 ≤ a) (_ha2 : a ≤ 9223372036854775807) (h : getE l a n ≠ 0) :
    Calls Try.prog 51 #[.slice A l c, .int .i64 a, .int .i64 n] w fun e w' => e = .returned (.tuple #[.int .u64 0, .int .i64 (getE l a n)]) ∧ w = w' := by
  unfold maxLen at hl
  have _hl := hl
  by_cases h1 : n < 1 ∨ 8 < n ∨ a < 0
  · rw [getE_arg h1]
    clear h
    rcases (show n < 1 ∨ (1 ≤ n ∧ 8 < n) ∨ (1 ≤ n ∧ n ≤ 8 ∧ a < 0) from by omega) with h2 | ⟨h2, h3⟩ | ⟨h2, h3, h4⟩
    all_goals
      clear h1
      go_enter Try.func51, Try.ntmps51
      go_wp2
      go_ret2
      exact ⟨rfl, rfl⟩
  · by_cases h5 : (l : Int) < a + n
    · rw [getE_short h1 h5]
      have g1 : 1 ≤ n := by omega
      have g2 : n ≤ 8 := by omega
      have g3 : 0 ≤ a := by omega
      clear h1 h
      by_cases h6 : (l : Int) < a
      · clear h5
        go_enter Try.func51, Try.ntmps51
        go_wp2
        go_ret2
        exact ⟨rfl, rfl⟩
      · have h7 : (l : Int) - a < n := by omega
        have h8 : a ≤ l := by omega
        clear h6 h5
        go_enter Try.func51, Try.ntmps51
        go_wp2
        go_ret2
        exact ⟨rfl, rfl⟩
    · exact absurd (by unfold getE; rw [if_neg h1, if_neg h5]) h

set_option maxHeartbeats 400000 in
theorem rget_yes (A : Option Addr) (l c : Nat) (s : List UInt8) (a n : Nat) (w : World) (hs : Bs w A l c s) (h1 : 1 ≤ n) (h2 : n ≤ 8) (h3 : a + n ≤ l) :
    Calls Try.prog 51 #[.slice A l c, .int .i64 a, .int .i64 n] w fun e w' => e = .returned (.tuple #[.int .u64 (num ((s.drop a).take n)), .int .i64 0]) ∧ w = w' := by
  have hl := hs.len
  have hla := hs.le
  have hlc := hs.cap
  unfold maxLen at hlc
  obtain ⟨b, o, rfl, hlt, hcell⟩ := hs.at_ (by omega)
  have g1 : (1 : Int) ≤ n := by omega
  have g2 : (n : Int) ≤ 8 := by omega
  have g3 : (a : Int) ≤ l := by omega
  have g4 : (n : Int) ≤ l - a := by omega
  go_enter Try.func51, Try.ntmps51
  go_wp2_with fail
  go_loop [8, 9] (fun v i => ∃ k : Nat, k ≤ n ∧ i = .int .i64 k ∧ v = .int .u64 (num ((s.drop a).take k))) (fun _ i => n - (intOf i).toNat)
  case atStart => exact ⟨0, Nat.zero_le _, rfl, rfl⟩
  case round =>
    obtain ⟨k, hk, rfl, rfl⟩ := hrel
    by_cases hkn : k < n
    · have hc := hcell (a + k) (by omega)
      have hq := byte_getD_lt s (a + k)
      have hnt := num_take s a k (by omega)
      have hnb := num_bound s a n k hkn h2
      generalize (s.getD (a + k) 0).toNat = q at *
      generalize num ((s.drop a).take k) = x at *
      have Hnt := Lib.hid hnt; clear hnt
      clear hcell
      go_wp2
      go_round
      case rel =>
        refine ⟨k + 1, by omega, by go_num, ?_⟩
        rw [Hnt.out]
        go_num
      case measure => simp [intOf]; omega
    · go_wp2
      go_ret2
      have e : k = n := by omega
      subst e
      exact ⟨rfl, rfl⟩

theorem rget_any (A : Option Addr) (l c : Nat) (s : List UInt8) (a n : Int) (w : World) (hs : Bs w A l c s) (ha : (Lit.int .i64 a).wf = true) :
    Calls Try.prog 51 #[.slice A l c, .int .i64 a, .int .i64 n] w fun e w' => e = .returned (.tuple #[.int .u64 (getV s a n), .int .i64 (getE s.length a n)]) ∧ w = w' := by
  have hl := hs.len
  obtain ⟨ha1, ha2⟩ := bound_i64 ha
  by_cases h : getE s.length a n = 0
  · obtain ⟨h1, h2, h3, h4⟩ := getE_zero h
    obtain ⟨a, rfl⟩ := Int.eq_ofNat_of_zero_le h3
    obtain ⟨n, rfl⟩ := Int.eq_ofNat_of_zero_le (show 0 ≤ n by omega)
    rw [h, getV_yes (by omega) (by omega) (by omega)]
    exact rget_yes A l c s a n w hs (by omega) (by omega) (by omega)
  · rw [getV_none h]
    have := rget_no A l c a n w (Nat.le_trans hs.le hs.cap) ha1 ha2 (by rw [← hl]; exact h)
    rwa [← hl] at this ⊢

set_option maxHeartbeats 400000 in
theorem rput_any (v : Nat) (n : Int) (w : World) (hv : v < 18446744073709551616) :
    Calls Try.prog 45 #[.int .u64 v, .int .i64 n] w fun e w' => GivesBE w 5 (putB v n) (putE v n) e w' := by
  obtain ⟨i0, hi0, hz0, hz1, hz2⟩ := info_parts byte_info
  by_cases h1 : n < 1 ∨ 8 < n
  · have e1 : putE v n = 1 := if_pos h1
    have e2 : putB v n = [] := if_neg (by rw [e1]; decide)
    rw [e1, e2]
    rcases (show n < 1 ∨ (1 ≤ n ∧ 8 < n) from by omega) with h2 | ⟨h2, h3⟩
    all_goals
      clear h1 e1 e2
      go_enter Try.func45, Try.ntmps45
      go_wp2
      go_ret2
      exact GivesBE.none_ _ _ _
  · obtain ⟨n, rfl⟩ := Int.eq_ofNat_of_zero_le (show 0 ≤ n by omega)
    have g1 : (1 : Int) ≤ n := by omega
    have g2 : (n : Int) ≤ 8 := by omega
    have hE : (256 ^ n ≤ v → putE v n = 6 ∧ putB v n = []) ∧ (¬ 256 ^ n ≤ v → putE v n = 0 ∧ putB v n = be n v) := by
      refine ⟨fun h => ?_, fun h => putE_yes (by omega) (by omega) (by omega)⟩
      have e1 : putE v n = 6 := by unfold putE; rw [if_neg (by omega), Int.toNat_natCast, if_pos h]
      exact ⟨e1, if_neg (by rw [e1]; decide)⟩
    generalize putE v n = err at *
    generalize putB v n = out at *
    have HE := Lib.hid hE
    clear hE h1
    go_enter Try.func45, Try.ntmps45
    go_wp2_with (at_make; go_loud (refine wpList_make_full _ rfl (.tmp 14) (.tmp 14) 27 rfl w.heap.size 5 i0 (.int .u8 0) 1 Try.underlying27 hi0 hz0 hz1 .i64 .i64 n n n rfl rfl rfl rfl (by rw [hz2]; omega) (by simp only [maxLen]; omega) (Nat.le_refl _) ?_); intro w1 hown hgrow)
    have hb1 : Below w.heap.size w w1 := (Below.refl _ _).grown hgrow (Nat.le_refl _) (by intro k h; cases h)
    have hown1 : Own w1 w.heap.size 5 (some ⟨w.heap.size, 0, none⟩) n n (filled n 0 v) := by
      rw [filled_zero]
      rw [show (Value.int IntKind.u8 0).cells = #[.int .u8 0] from rfl, Nat.mul_one, toList_madeCells_one] at hown
      simpa [byteV, Own] using hown
    clear hown hgrow
    go_wp2_with fail
    go_loopw [0, 7] (fun x i wr => ∃ k : Nat, k ≤ n ∧ i = .int .i64 k ∧ x = .int .u64 ((v / 256 ^ k : Nat) : Int) ∧ Below w.heap.size w wr ∧ Own wr w.heap.size 5 (some ⟨w.heap.size, 0, none⟩) n n (filled n k v)) (fun _ i _ => n - (intOf i).toNat)
    case atStart => exact ⟨0, Nat.zero_le _, rfl, by simp, hb1, hown1⟩
    case round =>
      obtain ⟨k, hk, rfl, rfl, hbel, hown⟩ := hrel
      clear hb1 hown1
      by_cases hkn : k < n
      · obtain ⟨⟨u0, hcl⟩, hfz, hown'⟩ := Own.store (x := UInt8.ofNat (v / 256 ^ k)) hown (show n - 1 - k < n by omega)
        rw [filled_step n k v hkn] at hown'
        have hdd : v / 256 ^ k / 256 = v / 256 ^ (k + 1) := by rw [Nat.div_div_eq_div_mul, Nat.pow_succ]
        have hq : v / 256 ^ k ≤ v := Nat.div_le_self _ _
        clear hown
        generalize v / 256 ^ k = q at *
        have Hdd := Lib.hid hdd; clear hdd
        go_wp2
        go_roundw
        case rel =>
          refine ⟨k + 1, by omega, by go_num, ?_⟩
          rw [byteV_ofNat] at hown'
          exact ⟨by rw [← Hdd.out]; simp, hbel.setCell (Nat.le_refl _) _, hown'⟩
        case measure => simp [intOf]; omega
      · obtain rfl : k = n := by omega
        have hd : 0 < v / 256 ^ k ↔ 256 ^ k ≤ v := by
          have := Nat.div_pos_iff (a := v) (b := 256 ^ k)
          have := pow_pos256 k
          omega
        rw [filled_all] at hown
        obtain ⟨E1, E2⟩ := HE.out
        by_cases hv2 : 256 ^ k ≤ v
        · obtain ⟨rfl, rfl⟩ := E1 hv2
          have hpos := hd.2 hv2
          clear hd E1 E2 hv2 HE
          generalize v / 256 ^ k = q at *
          go_wp2
          go_ret2
          exact ⟨none, 0, rfl, Own.nil _ _ _, hbel⟩
        · obtain ⟨rfl, rfl⟩ := E2 hv2
          have hz : v / 256 ^ k = 0 := by
            have := hd.1
            rcases Nat.eq_zero_or_pos (v / 256 ^ k) with h | h
            · exact h
            · exact absurd (this h) hv2
          rw [hz]
          clear hd E1 E2 hv2 HE hz
          go_wp2
          go_ret2
          refine ⟨some ⟨w.heap.size, 0, none⟩, k, ?_, ?_, hbel⟩
          · rw [be_length]; rfl
          · rw [be_length]; exact hown

theorem rput_int (v n : Int) (w : World) (h0 : 0 ≤ v) (hv : v < 18446744073709551616) :
    Calls Try.prog 45 #[.int .u64 v, .int .i64 n] w fun e w' => GivesBE w 5 (putB v.toNat n) (putE v.toNat n) e w' := by
  obtain ⟨v, rfl⟩ := Int.eq_ofNat_of_zero_le h0
  exact rput_any v n w (by omega)

end Go.Proofs.Ytbalpndgpdbcbaa

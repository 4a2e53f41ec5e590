/-
  What the functions of package bits come to: number, Get.
-/
import Derived.Test.YthkngjokbkfebaaBitA
namespace Go.Proofs.Ythkngjokbkfebaa
open Go.RowKit

theorem bit_val (s : List UInt8) (i : Nat) : (bitAt s i).toNat = (s.getD (i / 8) 0).toNat / 2 ^ (7 - i % 8) % 2 := by
  unfold bitAt
  rw [Nat.toNat_testBit]

/-- One bit more, as the code reckons it. -/
theorem bit_step (v q e : Nat) (hv : v < 9223372036854775808) (hq : q < 256) :
    bits .or .u64 (IntKind.u64.wrap ((v : Int) * 2)) (IntKind.u64.wrap (bits .and .u8 ((q : Int) / 2 ^ e) 1)) = ((v * 2 + q / 2 ^ e % 2 : Nat) : Int) := by
  have e1 : IntKind.u64.wrap ((v : Int) * 2) = ((v * 2 : Nat) : Int) := by rw [IntKind.wrap_u64]; omega
  have e2 : ((q : Int) / 2 ^ e) = ((q / 2 ^ e : Nat) : Int) := by simp
  have hd : q / 2 ^ e ≤ q := Nat.div_le_self _ _
  have e3 : bits .and .u8 ((q / 2 ^ e : Nat) : Int) 1 = ((q / 2 ^ e % 2 : Nat) : Int) := by
    have := u8_and_nat (q / 2 ^ e) 1 (by omega) (by omega)
    rwa [nat_mask1] at this
  have e4 : IntKind.u64.wrap ((q / 2 ^ e % 2 : Nat) : Int) = ((q / 2 ^ e % 2 : Nat) : Int) := by rw [IntKind.wrap_u64]; omega
  rw [e1, e2, e3, e4, u64_or_nat _ _ (by omega) (by omega), nat_join 1 _ _ (by omega) (by omega)]

set_option maxHeartbeats 400000 in
theorem number_any (A : Option Addr) (l c : Nat) (s : List UInt8) (a n : Nat) (w : World) (hs : Bs w A l c s) (hl : l ≤ 140737488355328) (h2 : n ≤ 64) (h3 : a + n ≤ 8 * l) :
    Calls Try.prog 27 #[.slice A l c, .int .i64 a, .int .i64 n] w fun e w' => e = .returned (.int .u64 (numAt s a n)) ∧ w = w' := by
  have hla := hs.le
  have hlc := hs.cap
  unfold maxLen at hlc
  go_enter Try.func27, Try.ntmps27
  go_wp2
  go_loop [7, 8] (fun v i => ∃ k : Nat, k ≤ n ∧ i = .int .i64 ((a : Int) + k) ∧ v = .int .u64 (numAt s a k)) (fun _ i => a + n - (intOf i).toNat)
  case atStart => exact ⟨0, Nat.zero_le _, by simp, rfl⟩
  case round =>
    obtain ⟨k, hk, rfl, rfl⟩ := hrel
    by_cases hkn : k < n
    · obtain ⟨b, o, rfl, hlt, hcell⟩ := hs.at_ (by omega)
      have hc := hcell ((a + k) / 8) (by omega)
      have hq := byte_lt s ((a + k) / 8)
      have hv := numAt_lt s a k
      have hn := numAt_succ s a k
      rw [bit_val] at hn
      generalize (s.getD ((a + k) / 8) 0).toNat = q at *
      have Hn := Lib.hid hn; clear hn
      clear hcell
      generalize numAt s a k = v at *
      go_wp2
      go_round
      case rel =>
        have hv3 : (2 : Nat) ^ k ≤ 2 ^ 63 := Nat.pow_le_pow_right (by omega) (by omega)
        have hv4 : (2 : Nat) ^ 63 = 9223372036854775808 := by decide
        refine ⟨k + 1, by omega, by go_num, ?_⟩
        rw [Hn.out, bit_step _ _ _ (by omega) hq]
      case measure => simp [intOf]; omega
    · go_wp2
      go_ret
      have e : k = n := by omega
      subst e
      exact ⟨rfl, rfl⟩

theorem bget_yes (A : Option Addr) (l c : Nat) (s : List UInt8) (a n : Nat) (w : World) (hs : Bs w A l c s) (hl : l ≤ 140737488355328) (h2 : n ≤ 64) (h3 : a + n ≤ 8 * l) :
    Calls Try.prog 9 #[.agg #[.slice A l c, .int .i64 a, .int .i64 0], .int .i64 n] w
      (Says w (.tuple #[.agg #[.slice A l c, .int .i64 ((a : Int) + n), .int .i64 0], .int .u64 (numAt s a n)])) := by
  have H := Lib.hid (readerB_mk (l := l) (a := a) rfl (by omega) (by omega))
  have hz := Lib.hid (show decide (0 ≤ (n : Int) ∧ (n : Int) ≤ 64) = true by simp; omega)
  have hr : (if readerB l a 0 = true then 8 * (l : Int) - a else 0) = 8 * (l : Int) - a := if_pos H.out
  have Hr := Lib.hid hr
  clear hr
  go_enter Try.func9, Try.ntmps9
  go_wp2_with fail
  refine (isReader_is _ _ _ _ _ _ hl true H.out).mono ?_
  rintro e w1 ⟨rfl, hW⟩
  obtain ⟨c0, c1, c2, c3, c4, c5, hf, hsz⟩ := cells33 hW
  go_wp2_with fail
  refine (bisSize_is _ _ true hz.out).mono ?_
  rintro e w' ⟨rfl, rfl⟩
  go_wp2_with fail
  refine (left_any _ _ _ _ _ _ hl).mono ?_
  rintro e w2 ⟨rfl, hb⟩
  have hW2 := hW.trans (hb.mono hW.size)
  clear c0 c1 c2 c3 c4 c5 hf hsz hW hb
  obtain ⟨c0, c1, c2, c3, c4, c5, hf, hsz⟩ := cells33 hW2
  rw [Hr.out]
  have hB2 := (below2 w _ _).trans (hW2.mono (by simp; omega))
  have hs2 := hs.below hB2
  go_wp2_with fail
  refine (number_any _ _ _ _ _ _ _ hs2 hl h2 h3).mono ?_
  rintro e w' ⟨rfl, rfl⟩
  generalize numAt s a n = v at *
  clear hs2 hW2
  go_wp2
  refine bodyPost_ret (v := .tuple #[.agg #[.slice A l c, .int .i64 ((a : Int) + n), .int .i64 0], .int .u64 v]) (by simp [results, Try.results9, go_sem, *]) rfl ⟨rfl, ?_⟩
  exact (((hB2.setCell (by simp) _).setCell (by simp) _).setCell (by simp) _).setCell (by simp) _

theorem bget_arg (A : Option Addr) (l c : Nat) (a err n : Int) (w : World) (hl : l ≤ 140737488355328) (h : ¬ (readerB l a err = true ∧ 0 ≤ n ∧ n ≤ 64)) :
    Calls Try.prog 9 #[.agg #[.slice A l c, .int .i64 a, .int .i64 err], .int .i64 n] w
      (Says w (.tuple #[.agg #[.slice A l c, .int .i64 a, .int .i64 (if err = 0 then 1 else err)], .int .u64 0])) := by
  have F := Lib.hid (fun w => bfail_any A l c a err 1 w)
  generalize (if err = 0 then 1 else err) = er at *
  by_cases hr : readerB l a err = true
  · have hz := Lib.hid (show decide (0 ≤ n ∧ n ≤ 64) = false by simp only [decide_eq_false_iff_not]; exact fun k => h ⟨hr, k⟩)
    have H := Lib.hid hr
    clear h hr
    go_enter Try.func9, Try.ntmps9
    go_wp2_with fail
    refine (isReader_is _ _ _ _ _ _ hl true H.out).mono ?_
    rintro e w1 ⟨rfl, hW⟩
    obtain ⟨c0, c1, c2, c3, c4, c5, hf, hsz⟩ := cells33 hW
    go_wp2_with fail
    refine (bisSize_is _ _ false hz.out).mono ?_
    rintro e w' ⟨rfl, rfl⟩
    go_wp2_with fail
    refine (F.out _).mono ?_
    rintro e w2 ⟨rfl, hb⟩
    have hW2 := hW.trans (hb.mono hW.size)
    clear c0 c1 c2 c3 c4 c5 hf hsz hW hb
    obtain ⟨c0, c1, c2, c3, c4, c5, hf, hsz⟩ := cells33 hW2
    have hB2 := (below2 w _ _).trans (hW2.mono (by simp; omega))
    clear hW2
    go_wp2
    refine bodyPost_ret (v := .tuple #[.agg #[.slice A l c, .int .i64 a, .int .i64 er], .int .u64 0]) (by simp [results, Try.results9, go_sem, *]) rfl ⟨rfl, ?_⟩
    exact ((hB2.setCell (by simp) _).setCell (by simp) _).setCell (by simp) _
  · have H := Lib.hid (show readerB l a err = false by simpa using hr)
    clear h hr
    go_enter Try.func9, Try.ntmps9
    go_wp2_with fail
    refine (isReader_is _ _ _ _ _ _ hl false H.out).mono ?_
    rintro e w1 ⟨rfl, hW⟩
    obtain ⟨c0, c1, c2, c3, c4, c5, hf, hsz⟩ := cells33 hW
    go_wp2_with fail
    refine (F.out _).mono ?_
    rintro e w2 ⟨rfl, hb⟩
    have hW2 := hW.trans (hb.mono hW.size)
    clear c0 c1 c2 c3 c4 c5 hf hsz hW hb
    obtain ⟨c0, c1, c2, c3, c4, c5, hf, hsz⟩ := cells33 hW2
    have hB2 := (below2 w _ _).trans (hW2.mono (by simp; omega))
    clear hW2
    go_wp2
    refine bodyPost_ret (v := .tuple #[.agg #[.slice A l c, .int .i64 a, .int .i64 er], .int .u64 0]) (by simp [results, Try.results9, go_sem, *]) rfl ⟨rfl, ?_⟩
    exact ((hB2.setCell (by simp) _).setCell (by simp) _).setCell (by simp) _

theorem bget_short (A : Option Addr) (l c : Nat) (a n : Nat) (w : World) (hl : l ≤ 140737488355328) (h2 : n ≤ 64) (h1 : a ≤ 8 * l) (h3 : 8 * l < a + n) :
    Calls Try.prog 9 #[.agg #[.slice A l c, .int .i64 a, .int .i64 0], .int .i64 n] w
      (Says w (.tuple #[.agg #[.slice A l c, .int .i64 a, .int .i64 2], .int .u64 0])) := by
  have F := Lib.hid (fun w => bfail_any A l c a 0 2 w)
  rw [if_pos rfl] at F
  have H := Lib.hid (readerB_mk (l := l) (a := a) rfl (by omega) (by omega))
  have hz := Lib.hid (show decide (0 ≤ (n : Int) ∧ (n : Int) ≤ 64) = true by simp; omega)
  have Hr := Lib.hid (show (if readerB l a 0 = true then 8 * (l : Int) - a else 0) = 8 * (l : Int) - a from if_pos H.out)
  go_enter Try.func9, Try.ntmps9
  go_wp2_with fail
  refine (isReader_is _ _ _ _ _ _ hl true H.out).mono ?_
  rintro e w1 ⟨rfl, hW⟩
  obtain ⟨c0, c1, c2, c3, c4, c5, hf, hsz⟩ := cells33 hW
  go_wp2_with fail
  refine (bisSize_is _ _ true hz.out).mono ?_
  rintro e w' ⟨rfl, rfl⟩
  go_wp2_with fail
  refine (left_any _ _ _ _ _ _ hl).mono ?_
  rintro e w2 ⟨rfl, hb⟩
  have hW2 := hW.trans (hb.mono hW.size)
  clear c0 c1 c2 c3 c4 c5 hf hsz hW hb
  obtain ⟨c0, c1, c2, c3, c4, c5, hf, hsz⟩ := cells33 hW2
  rw [Hr.out]
  go_wp2_with fail
  refine (F.out _).mono ?_
  rintro e w3 ⟨rfl, hb⟩
  have hW3 := hW2.trans (hb.mono hW2.size)
  clear c0 c1 c2 c3 c4 c5 hf hsz hW2 hb
  obtain ⟨c0, c1, c2, c3, c4, c5, hf, hsz⟩ := cells33 hW3
  have hB3 := (below2 w _ _).trans (hW3.mono (by simp; omega))
  clear hW3
  go_wp2
  refine bodyPost_ret (v := .tuple #[.agg #[.slice A l c, .int .i64 a, .int .i64 2], .int .u64 0]) (by simp [results, Try.results9, go_sem, *]) rfl ⟨rfl, ?_⟩
  exact ((hB3.setCell (by simp) _).setCell (by simp) _).setCell (by simp) _

theorem bget_any (A : Option Addr) (l c : Nat) (s : List UInt8) (a err n : Int) (w : World) (hs : Bs w A l c s) (hl : l ≤ 140737488355328) :
    Calls Try.prog 9 #[.agg #[.slice A l c, .int .i64 a, .int .i64 err], .int .i64 n] w
      (Says w (.tuple #[.agg #[.slice A l c, .int .i64 (bgetA s.length a err n), .int .i64 (bgetE s.length a err n)], .int .u64 (bgetV s a err n)])) := by
  have hlen := hs.len
  by_cases h : readerB l a err = true ∧ 0 ≤ n ∧ n ≤ 64
  · obtain ⟨hr, hn0, hn1⟩ := h
    obtain ⟨rfl, ha0, ha1⟩ := readerB_yes hr
    obtain ⟨a, rfl⟩ := Int.eq_ofNat_of_zero_le ha0
    obtain ⟨n, rfl⟩ := Int.eq_ofNat_of_zero_le hn0
    have e0 : bgetE l a 0 n = if 8 * (l : Int) - a < n then 2 else 0 := if_pos ⟨hr, hn0, hn1⟩
    by_cases hs3 : 8 * (l : Int) - a < n
    · rw [if_pos hs3] at e0
      rw [show bgetV s a 0 n = 0 from if_neg (by rw [hlen, e0]; decide), show bgetA s.length a 0 n = a from if_neg (by rw [hlen, e0]; decide), hlen, e0]
      exact bget_short A l c a n w hl (by omega) (by omega) (by omega)
    · rw [if_neg hs3] at e0
      rw [show bgetV s a 0 n = numAt s a n from if_pos (by rw [hlen, e0]), show bgetA s.length a 0 n = (a : Int) + n from if_pos (by rw [hlen, e0]), hlen, e0]
      exact bget_yes A l c s a n w hs hl (by omega) (by omega)
  · have e0 : bgetE l a err n = if err = 0 then 1 else err := if_neg h
    have hne : bgetE l a err n ≠ 0 := by rw [e0]; split <;> omega
    rw [show bgetV s a err n = 0 from if_neg (by rw [hlen]; exact hne), show bgetA s.length a err n = a from if_neg (by rw [hlen]; exact hne), hlen, e0]
    exact bget_arg A l c a err n w hl h

end Go.Proofs.Ythkngjokbkfebaa

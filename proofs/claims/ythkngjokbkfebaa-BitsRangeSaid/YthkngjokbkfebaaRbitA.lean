/-
  The document's own answers of layer 2: Right, stays, bit, Get.
-/
import Derived.Test.YthkngjokbkfebaaBitG
namespace Go.Proofs.Ythkngjokbkfebaa
open Go.RowKit

set_option maxHeartbeats 400000 in
theorem rright_any (A : Option Addr) (l c : Nat) (a err : Int) (w : World) (hl : l ≤ 140737488355328) (hmx : a ≤ 9223372036854775807) :
    Calls Try.prog 8 #[.agg #[.slice A l c, .int .i64 a, .int .i64 err]] w (Says w (.bool (readerB l a err))) := by
  by_cases h0 : err = 0
  · subst h0
    by_cases h1 : 0 ≤ a
    · by_cases h2 : a ≤ 8 * (l : Int)
      · have h3 : a / 8 ≤ (l : Int) := by omega
        rw [readerB_mk rfl h1 h2]
        go_enter Try.func8, Try.ntmps8
        go_wp2
        go_ret
        exact ⟨rfl, below1 _ _⟩
      · have hf : readerB l a 0 = false := by simp [readerB, h2]
        rw [hf]
        by_cases h3 : a / 8 ≤ (l : Int)
        all_goals
          go_enter Try.func8, Try.ntmps8
          go_wp2
          go_ret
          exact ⟨rfl, below1 _ _⟩
    · have hf : readerB l a 0 = false := by simp [readerB, h1]
      rw [hf]
      go_enter Try.func8, Try.ntmps8
      go_wp2
      go_ret
      exact ⟨rfl, below1 _ _⟩
  · have hf : readerB l a err = false := by simp [readerB, h0]
    have hz : (err == 0) = false := by simpa using h0
    rw [hf]
    clear hf
    go_enter Try.func8, Try.ntmps8
    go_wp2
    go_ret
    exact ⟨rfl, below1 _ _⟩
theorem rright_is (A : Option Addr) (l c : Nat) (a err : Int) (w : World) (hl : l ≤ 140737488355328) (hmx : a ≤ 9223372036854775807) (q : Bool) (hq : readerB l a err = q) :
    Calls Try.prog 8 #[.agg #[.slice A l c, .int .i64 a, .int .i64 err]] w (Says w (.bool q)) := by
  subst hq
  exact rright_any A l c a err w hl hmx

theorem rstays_any (A : Option Addr) (l c : Nat) (a err er : Int) (w : World) :
    Calls Try.prog 28 #[.agg #[.slice A l c, .int .i64 a, .int .i64 err], .int .i64 er] w (Says w (.tuple #[.agg #[.slice A l c, .int .i64 a, .int .i64 (if err = 0 then er else err)], .int .u64 0])) := by
  by_cases h0 : err = 0
  · subst h0
    rw [if_pos rfl]
    go_enter Try.func28, Try.ntmps28
    go_wp2
    exact bodyPost_ret (v := .tuple #[.agg #[.slice A l c, .int .i64 a, .int .i64 er], .int .u64 0]) (by simp [results, Try.results28, go_sem]) rfl ⟨rfl, below2 _ _ _⟩
  · have hz : (err == 0) = false := by simpa using h0
    rw [if_neg h0]
    go_enter Try.func28, Try.ntmps28
    go_wp2
    exact bodyPost_ret (v := .tuple #[.agg #[.slice A l c, .int .i64 a, .int .i64 err], .int .u64 0]) (by simp [results, Try.results28, go_sem]) rfl ⟨rfl, below2 _ _ _⟩

set_option maxHeartbeats 400000 in
theorem rbit_any (A : Option Addr) (l c : Nat) (s : List UInt8) (a : Nat) (w : World) (hs : Bs w A l c s) (hl : l ≤ 140737488355328) (ha : a < 8 * l) :
    Calls Try.prog 29 #[.slice A l c, .int .i64 a] w fun e w' => e = .returned (.int .u64 ((bitAt s a).toNat : Int)) ∧ w = w' := by
  obtain ⟨b, o, rfl, hlt, hcell⟩ := hs.at_ (by omega)
  have hc := hcell (a / 8) (by omega)
  have hq := byte_lt s (a / 8)
  rw [bit_val]
  generalize (s.getD (a / 8) 0).toNat = q at *
  clear hcell
  go_enter Try.func29, Try.ntmps29
  go_wp2
  go_loop [5, 6] (fun x i => ∃ k : Nat, k ≤ 7 - a % 8 ∧ i = .int .i64 (k : Int) ∧ x = .int .u8 ((q / 2 ^ k : Nat) : Int)) (fun _ i => 7 - (intOf i).toNat)
  case atStart => exact ⟨0, Nat.zero_le _, by simp, by simp⟩
  case round =>
    obtain ⟨k, hk, rfl, rfl⟩ := hrel
    have hx : q / 2 ^ k ≤ q := Nat.div_le_self _ _
    have hnx : q / 2 ^ (k + 1) = q / 2 ^ k / 2 := by rw [Nat.div_div_eq_div_mul, Nat.pow_succ]
    by_cases hlt2 : k < 7 - a % 8
    · generalize q / 2 ^ k = x at *
      have Hnx := Lib.hid hnx
      clear hnx
      have hlt3 : (k : Int) < 7 - (a : Int) % 8 := by omega
      go_wp2
      go_round
      case rel => exact ⟨k + 1, by omega, by go_num, by rw [Hnx.out]; simp⟩
      case measure => simp [intOf]; omega
    · have e : k = 7 - a % 8 := by omega
      have hlt3 : ¬ ((k : Int) < 7 - (a : Int) % 8) := by omega
      have hX : (q : Int) / 2 ^ (7 - a % 8) = ((q / 2 ^ k : Nat) : Int) := by rw [← e]; simp
      have HX := Lib.hid hX
      clear hnx hX
      generalize q / 2 ^ k = x at *
      go_wp2
      go_ret
      refine ⟨?_, rfl⟩
      rw [HX.out]
      rfl

theorem rget_yes (A : Option Addr) (l c : Nat) (s : List UInt8) (a n : Nat) (w : World) (hs : Bs w A l c s) (hl : l ≤ 140737488355328) (h2 : n ≤ 64) (h3 : a + n ≤ 8 * l) :
    Calls Try.prog 10 #[.agg #[.slice A l c, .int .i64 a, .int .i64 0], .int .i64 n] w
      (Says w (.tuple #[.agg #[.slice A l c, .int .i64 ((a : Int) + n), .int .i64 0], .int .u64 (numAt s a n)])) := by
  have H := Lib.hid (readerB_mk (l := l) (a := a) rfl (by omega) (by omega))
  go_enter Try.func10, Try.ntmps10
  go_wp2_with fail
  refine (rright_is _ _ _ _ _ _ hl (by omega) true H.out).mono ?_
  rintro e w1 ⟨rfl, hW⟩
  have hB := (below2 w _ _).trans (hW.mono (by simp; omega))
  have k1 := ((Box.new w _ _).alloc _).call hW
  have k2 := (Box.new (w.alloc _) _ _).call hW
  rw [World.size_alloc] at k2
  have hs1 := hs.below hB
  obtain ⟨c0, c1, c2, f0, f1, f2, l1⟩ := k1.three
  obtain ⟨c3, c4, c5, f3, f4, f5, l2⟩ := k2.three
  clear hW
  go_wp2_with fail
  go_loop [6, 7] (fun x i => ∃ k : Nat, k ≤ n ∧ i = .int .i64 (k : Int) ∧ x = .int .u64 (numAt s a k)) (fun _ i => n - (intOf i).toNat)
  case atStart => exact ⟨0, Nat.zero_le _, by simp, by simp [numAt]⟩
  case round =>
    obtain ⟨k, hk, rfl, rfl⟩ := hrel
    by_cases hkn : k < n
    · have hbt := Bool.toNat_lt (bitAt s (a + k))
      have hv := numAt_lt s a k
      have hn := numAt_succ s a k
      have hp : (2 : Nat) ^ k ≤ 9223372036854775808 := Nat.pow_le_pow_right (n := 2) (j := 63) (by omega) (by omega)
      have D := rbit_any A l c s (a + k) w1 hs1 hl (by omega)
      rw [Int.natCast_add] at D
      have Hn := Lib.hid hn
      have HD := Lib.hid D
      clear hn D
      generalize numAt s a k = v at *
      generalize (bitAt s (a + k)).toNat = b at *
      go_wp2_with fail
      refine HD.out.mono ?_
      rintro e w' ⟨rfl, rfl⟩
      go_wp2
      go_round
      case rel =>
        refine ⟨k + 1, by omega, by go_num, ?_⟩
        rw [Hn.out, show ((v * 2 + b : Nat) : Int) = 2 * (v : Int) + b by omega]
      case measure => simp [intOf]; omega
    · have e : k = n := by omega
      subst e
      generalize numAt s a k = v at *
      go_wp2
      refine bodyPost_ret (v := .tuple #[.agg #[.slice A l c, .int .i64 ((a : Int) + k), .int .i64 0], .int .u64 v]) (by simp [results, Try.results10, go_sem, *]) rfl ⟨rfl, ?_⟩
      exact (((hB.setCell (by simp) _).setCell (by simp) _).setCell (by simp) _).setCell (by simp) _

theorem rget_arg (A : Option Addr) (l c : Nat) (a err n : Int) (w : World) (hl : l ≤ 140737488355328) (hmx : a ≤ 9223372036854775807) (h : ¬ (readerB l a err = true ∧ 0 ≤ n ∧ n ≤ 64)) :
    Calls Try.prog 10 #[.agg #[.slice A l c, .int .i64 a, .int .i64 err], .int .i64 n] w
      (Says w (.tuple #[.agg #[.slice A l c, .int .i64 a, .int .i64 (if err = 0 then 1 else err)], .int .u64 0])) := by
  have F := Lib.hid (fun w => rstays_any A l c a err 1 w)
  generalize (if err = 0 then 1 else err) = er at *
  by_cases hr : readerB l a err = true
  · have H := Lib.hid hr
    by_cases hn : n < 0
    all_goals
      have hn2 : n < 0 ∨ 64 < n := by
        by_cases h1 : 0 ≤ n
        · by_cases h2 : n ≤ 64
          · exact absurd ⟨hr, h1, h2⟩ h
          · omega
        · omega
      try (have hn3 : 64 < n := by omega)
      clear h hr hn2
      go_enter Try.func10, Try.ntmps10
      go_wp2_with fail
      refine (rright_is _ _ _ _ _ _ hl hmx true H.out).mono ?_
      rintro e w1 ⟨rfl, hW⟩
      obtain ⟨c0, c1, c2, c3, c4, c5, hf, hsz⟩ := cells33 hW
      go_wp2_with fail
      refine (F.out _).mono ?_
      rintro e w2 ⟨rfl, hb⟩
      have hW2 := hW.trans (hb.mono hW.size)
      clear c0 c1 c2 c3 c4 c5 hf hsz hW hb
      obtain ⟨c0, c1, c2, c3, c4, c5, hf, hsz⟩ := cells33 hW2
      have hB2 := (below2 w _ _).trans (hW2.mono (by simp; omega))
      clear hW2
      go_wp2
      refine bodyPost_ret (v := .tuple #[.agg #[.slice A l c, .int .i64 a, .int .i64 er], .int .u64 0]) (by simp [results, Try.results10, go_sem, *]) rfl ⟨rfl, ?_⟩
      exact ((hB2.setCell (by simp) _).setCell (by simp) _).setCell (by simp) _
  · have H := Lib.hid (show readerB l a err = false by simpa using hr)
    clear h hr
    go_enter Try.func10, Try.ntmps10
    go_wp2_with fail
    refine (rright_is _ _ _ _ _ _ hl hmx false H.out).mono ?_
    rintro e w1 ⟨rfl, hW⟩
    obtain ⟨c0, c1, c2, c3, c4, c5, hf, hsz⟩ := cells33 hW
    go_wp2_with fail
    refine (F.out _).mono ?_
    rintro e w2 ⟨rfl, hb⟩
    have hW2 := hW.trans (hb.mono hW.size)
    clear c0 c1 c2 c3 c4 c5 hf hsz hW hb
    obtain ⟨c0, c1, c2, c3, c4, c5, hf, hsz⟩ := cells33 hW2
    have hB2 := (below2 w _ _).trans (hW2.mono (by simp; omega))
    clear hW2
    go_wp2
    refine bodyPost_ret (v := .tuple #[.agg #[.slice A l c, .int .i64 a, .int .i64 er], .int .u64 0]) (by simp [results, Try.results10, go_sem, *]) rfl ⟨rfl, ?_⟩
    exact ((hB2.setCell (by simp) _).setCell (by simp) _).setCell (by simp) _

theorem rget_short (A : Option Addr) (l c : Nat) (a n : Nat) (w : World) (hl : l ≤ 140737488355328) (h2 : n ≤ 64) (h1 : a ≤ 8 * l) (h3 : 8 * l < a + n) :
    Calls Try.prog 10 #[.agg #[.slice A l c, .int .i64 a, .int .i64 0], .int .i64 n] w
      (Says w (.tuple #[.agg #[.slice A l c, .int .i64 a, .int .i64 2], .int .u64 0])) := by
  have F := Lib.hid (fun w => rstays_any A l c a 0 2 w)
  rw [if_pos rfl] at F
  have H := Lib.hid (readerB_mk (l := l) (a := a) rfl (by omega) (by omega))
  go_enter Try.func10, Try.ntmps10
  go_wp2_with fail
  refine (rright_is _ _ _ _ _ _ hl (by omega) true H.out).mono ?_
  rintro e w1 ⟨rfl, hW⟩
  obtain ⟨c0, c1, c2, c3, c4, c5, hf, hsz⟩ := cells33 hW
  go_wp2_with fail
  refine (F.out _).mono ?_
  rintro e w3 ⟨rfl, hb⟩
  have hW3 := hW.trans (hb.mono hW.size)
  clear c0 c1 c2 c3 c4 c5 hf hsz hW hb
  obtain ⟨c0, c1, c2, c3, c4, c5, hf, hsz⟩ := cells33 hW3
  have hB3 := (below2 w _ _).trans (hW3.mono (by simp; omega))
  clear hW3
  go_wp2
  refine bodyPost_ret (v := .tuple #[.agg #[.slice A l c, .int .i64 a, .int .i64 2], .int .u64 0]) (by simp [results, Try.results10, go_sem, *]) rfl ⟨rfl, ?_⟩
  exact ((hB3.setCell (by simp) _).setCell (by simp) _).setCell (by simp) _

theorem rget_any (A : Option Addr) (l c : Nat) (s : List UInt8) (a err n : Int) (w : World) (hs : Bs w A l c s) (hl : l ≤ 140737488355328) (hmx : a ≤ 9223372036854775807) :
    Calls Try.prog 10 #[.agg #[.slice A l c, .int .i64 a, .int .i64 err], .int .i64 n] w
      (Says w (.tuple #[.agg #[.slice A l c, .int .i64 (bgetA s.length a err n), .int .i64 (bgetE s.length a err n)], .int .u64 (bgetV s a err n)])) := by
  have hlen := hs.len
  by_cases h : readerB l a err = true ∧ 0 ≤ n ∧ n ≤ 64
  · obtain ⟨hr, hn0, hn1⟩ := h
    obtain ⟨rfl, ha0, ha1⟩ := readerB_yes hr
    obtain ⟨a, rfl⟩ := Int.eq_ofNat_of_zero_le ha0
    obtain ⟨n, rfl⟩ := Int.eq_ofNat_of_zero_le hn0
    have e0 : bgetE l a 0 n = if 8 * (l : Int) - a < n then 2 else 0 := if_pos ⟨hr, hn0, hn1⟩
    by_cases hs3 : 8 * (l : Int) - a < n
    · rw [if_pos hs3] at e0
      rw [show bgetV s a 0 n = 0 from if_neg (by rw [hlen, e0]; decide), show bgetA s.length a 0 n = a from if_neg (by rw [hlen, e0]; decide), hlen, e0]
      exact rget_short A l c a n w hl (by omega) (by omega) (by omega)
    · rw [if_neg hs3] at e0
      rw [show bgetV s a 0 n = numAt s a n from if_pos (by rw [hlen, e0]), show bgetA s.length a 0 n = (a : Int) + n from if_pos (by rw [hlen, e0]), hlen, e0]
      exact rget_yes A l c s a n w hs hl (by omega) (by omega)
  · have e0 : bgetE l a err n = if err = 0 then 1 else err := if_neg h
    have hne : bgetE l a err n ≠ 0 := by rw [e0]; split <;> omega
    rw [show bgetV s a err n = 0 from if_neg (by rw [hlen]; exact hne), show bgetA s.length a err n = a from if_neg (by rw [hlen]; exact hne), hlen, e0]
    exact rget_arg A l c a err n w hl hmx h

end Go.Proofs.Ythkngjokbkfebaa

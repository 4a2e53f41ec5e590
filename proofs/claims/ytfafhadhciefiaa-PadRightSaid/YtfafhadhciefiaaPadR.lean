/-
  What the document's own answers for layer 3 come to.
-/
import Derived.Test.YtfafhadhciefiaaPadA
namespace Go.Proofs.Ytfafhadhciefiaa
open Go.RowKit

set_option maxHeartbeats 400000 in
theorem rround_any (n : Int) (w : World) :
    Calls Try.prog 8 #[.int .i64 n] w fun e w' => e = .returned (.int .i64 (roundN n)) ∧ w = w' := by
  by_cases h : n < 0 ∨ n > 2147483648
  · rw [roundN_no h]
    rcases (show n < 0 ∨ (0 ≤ n ∧ 2147483648 < n) by omega) with h1 | ⟨h1, h2⟩
    all_goals
      clear h
      go_enter Try.func8, Try.ntmps8
      go_wp2
      go_ret
      exact ⟨rfl, rfl⟩
  · obtain ⟨n, rfl⟩ := Int.eq_ofNat_of_zero_le (show 0 ≤ n by omega)
    have h2 : n ≤ 2147483648 := by omega
    rw [roundN_yes h2]
    have h3 : (n : Int) ≤ 2147483648 := by omega
    have hm := miss_lt n
    have hw := miss_whole n
    have hp := Lib.hid (fun j h => miss_pos (n := n) (j := j) h)
    generalize miss n = m at *
    have Hw := Lib.hid hw
    clear h h2 hw
    go_enter Try.func8, Try.ntmps8
    go_wp2_with fail
    go_loop [0] (fun i => ∃ j : Nat, j ≤ m ∧ i = .int .i64 ((n + j : Nat) : Int)) (fun i => (n + m) - (intOf i).toNat)
    case atStart => exact ⟨0, Nat.zero_le _, rfl⟩
    case round =>
      obtain ⟨j, hj, rfl⟩ := hrel
      obtain ⟨k, hk2⟩ : ∃ k, n + j = k := ⟨_, rfl⟩
      rw [hk2]
      have hk3 : (k : Int) ≤ 4294967296 := by omega
      have Hk := Lib.hid hk2
      by_cases hjm : j < m
      · have hne := hp.out j hjm
        rw [hk2] at hne
        have ht : ((k : Int) % 4 != 0) = true := by rw [bne_iff_ne]; omega
        clear hne hk2
        go_wp2
        go_round
        case rel => exact ⟨j + 1, by omega, by have := Hk.out; congr 1; omega⟩
        case measure => have := Hk.out; simp [intOf]; omega
      · obtain rfl : j = m := by omega
        have h0 := Hw.out
        rw [hk2] at h0
        have ht : ((k : Int) % 4 != 0) = false := by
          have : (k : Int) % 4 = 0 := by omega
          rw [this]; rfl
        have hres : Hid ((n : Int) + j = k) := Lib.hid (by omega)
        clear h0 hk2
        go_wp2
        go_ret
        exact ⟨by first | (rw [hres.out]; rfl) | (rw [Hk.out]; rfl), rfl⟩

set_option maxHeartbeats 400000 in
theorem rfill_any (A : Option Addr) (l c : Nat) (s : List UInt8) (w : World) (hs : Bs w A l c s) (hl : l ≤ 140737488355000) :
    Calls Try.prog 10 #[.slice A l c] w fun e w' => GivesB w 5 (fillB s) e w' := by
  have hlen := hs.len
  have hm := miss_lt l
  have hw := miss_whole l
  have hp := Lib.hid (fun j h => miss_pos (n := l) (j := j) h)
  have hfl := fillB_length s
  have hfm : fillB s = grownB s (miss l) := by unfold fillB; rw [hlen]
  rw [hlen] at hfl
  generalize miss l = m at *
  have Hw := Lib.hid hw
  have Hfl := Lib.hid hfl
  have Hfm := Lib.hid hfm
  clear hw hlen hfl hfm
  go_enter Try.func10, Try.ntmps10
  go_wp2_with (at_builtin; go_loud (refine wpList_app _ rfl (.tmp 4) (.tmp 5) 22 rfl w.heap.size 5 Try.underlying22 byte_info (some ⟨w.heap.size, 0, none⟩) 0 0 [] rfl (World.ownsRow_made w #[] 0 (Nat.le_refl _) (Nat.zero_le _) rfl) A l c s rfl (hs.alloc _) (by omega) (by simp) ?_); intro A2 c2 w2 hown2 hb2)
  rw [Nat.zero_add] at hown2
  have hB2 : Below w.heap.size w w2 := ((Below.refl _ _).alloc (Nat.le_refl _) _).trans hb2
  have hown2' : Own w2 w.heap.size 5 A2 (l + 0) c2 (grownB s 0) := by rw [grownB_zero]; simpa using hown2
  clear hown2 hb2
  go_wp2_with fail
  go_loopw [3] (fun x wr => ∃ (j : Nat) (A' : Option Addr) (c' : Nat), j ≤ m ∧ x = .slice A' (l + j) c' ∧ Below w.heap.size w wr ∧ Own wr w.heap.size 5 A' (l + j) c' (grownB s j)) (fun x _ => match x with | .slice _ n _ => (l + m) - n | _ => 0)
  case atStart => exact ⟨0, A2, c2, Nat.zero_le _, rfl, hB2, hown2'⟩
  case round =>
    obtain ⟨j, A3, c3, hj, rfl, hB, hown⟩ := hrel
    clear hB2 hown2'
    by_cases hjm : j < m
    · have hne := hp.out j hjm
      have ht : (((l : Int) + j) % 4 != 0) = true := by rw [bne_iff_ne]; omega
      clear hne
      have hbs : Bs (wr.alloc (.cells #[.int .u8 0] 5)) (some ⟨wr.heap.size, 0, none⟩) 1 1 [0] := Bs.lit1 wr 0 5
      have hBa : Below w.heap.size w (wr.alloc (.cells #[.int .u8 0] 5)) := hB.alloc hB.size _
      go_wp2_with (at_builtin; go_loud (refine wpList_app _ rfl (.tmp 11) (.tmp 12) 22 rfl w.heap.size 5 Try.underlying22 byte_info A3 (l + j) c3 (grownB s j) rfl (hown.alloc _) (some ⟨wr.heap.size, 0, none⟩) 1 1 [0] rfl hbs (by omega) hBa.size ?_); intro A4 c4 w4 hown4 hb4)
      rw [grownB_succ, Nat.add_assoc] at hown4
      clear hown hbs
      go_roundw
      case rel => exact ⟨j + 1, A4, c4, by omega, rfl, hBa.trans hb4, hown4⟩
      case measure => simp; omega
    · obtain rfl : j = m := by omega
      have ht : (((l : Int) + j) % 4 != 0) = false := by
        have := Hw.out
        have : ((l : Int) + j) % 4 = 0 := by omega
        rw [this]; rfl
      go_wp2
      go_ret
      exact ⟨A3, c3, by rw [Hfl.out]; rfl, by rw [Hfl.out, Hfm.out]; exact hown, hB⟩

set_option maxHeartbeats 400000 in
theorem rzero_any (A : Option Addr) (l c : Nat) (s : List UInt8) (w : World) (hs : Bs w A l c s) :
    Calls Try.prog 12 #[.slice A l c] w fun e w' => e = .returned (.bool (zeroB s)) ∧ w = w' := by
  have hlen := hs.len
  have hlc := hs.le
  have hcm := hs.cap
  unfold maxLen at hcm
  go_enter Try.func12, Try.ntmps12
  go_wp2_with fail
  go_loop [3] (fun i => ∃ k : Nat, k ≤ l ∧ i = .int .i64 k ∧ zeroB (s.take k) = true) (fun i => l - (intOf i).toNat)
  case atStart => exact ⟨0, Nat.zero_le _, rfl, rfl⟩
  case round =>
    obtain ⟨k, hk, rfl, hz⟩ := hrel
    have Hz := Lib.hid hz
    clear hz
    by_cases hkl : k < l
    · obtain ⟨b, o, rfl, hlt, hcell⟩ := hs.at_ (by omega)
      have hc := hcell k hkl
      have hq := byte_getD_lt s k
      have hsn := Lib.hid (zeroB_snoc s k (by omega))
      have hzt := Lib.hid (fun h => zeroB_take (s := s) (k := k) (by omega) h)
      clear hcell
      generalize (s.getD k 0).toNat = q at *
      by_cases hq0 : q = 0
      · subst hq0
        go_wp2
        go_round
        case rel => exact ⟨k + 1, by omega, by go_num, by rw [hsn.out, Hz.out]; rfl⟩
        case measure => simp [intOf]; omega
      · have hres := Lib.hid (hzt.out hq0)
        go_wp2
        go_ret
        exact ⟨by rw [hres.out]; rfl, rfl⟩
    · have hres : Hid (zeroB s = true) := Lib.hid (by have := Hz.out; rwa [List.take_of_length_le (by omega)] at this)
      go_wp2
      go_ret
      exact ⟨by rw [hres.out]; rfl, rfl⟩

theorem rtrail_any (A : Option Addr) (l c : Nat) (s : List UInt8) (w : World) (hs : Bs w A l c s) :
    Calls Try.prog 16 #[.slice A l c] w fun e w' => e = .returned (.int .i64 (trailN s)) ∧ w = w' := by
  have hlen := hs.len
  have hlc := hs.le
  have hcm := hs.cap
  unfold maxLen at hcm
  unfold trailN
  rw [hlen]
  rcases Nat.eq_zero_or_pos l with h0 | h0
  · subst h0
    obtain rfl : s = [] := List.eq_nil_of_length_eq_zero hlen
    go_enter Try.func16, Try.ntmps16
    go_wp2
    go_ret
    exact ⟨rfl, rfl⟩
  · obtain ⟨b, o, rfl, hlt, hcell⟩ := hs.at_ h0
    have hc := hcell (l - 1) (by omega)
    have hq := byte_getD_lt s (l - 1)
    clear hcell hlen
    generalize (s.getD (l - 1) 0).toNat = q at *
    obtain ⟨m, rfl⟩ : ∃ m, l = m + 1 := ⟨l - 1, by omega⟩
    rw [Nat.add_sub_cancel] at hc
    by_cases h2 : q ≤ m + 1
    · rw [if_pos h2]
      have g2 : decide ((m : Int) + 1 < q) = false := by simp; omega
      go_enter Try.func16, Try.ntmps16
      go_wp2
      go_ret
      exact ⟨rfl, rfl⟩
    · rw [if_neg h2]
      have g2 : decide ((m : Int) + 1 < q) = true := by simp; omega
      go_enter Try.func16, Try.ntmps16
      go_wp2
      go_ret
      exact ⟨rfl, rfl⟩

theorem rclean_any (A : Option Addr) (l c : Nat) (s : List UInt8) (w : World) (hs : Bs w A l c s) :
    Calls Try.prog 14 #[.slice A l c] w fun e w' => e = .returned (.bool (cleanB s)) ∧ w = w' := by
  have hlen := hs.len
  have hlc := hs.le
  have hcm := hs.cap
  unfold maxLen at hcm
  have T := rtrail_any A l c s w hs
  by_cases h : trailN s = 0
  · rw [cleanB_no h]
    rw [h] at T
    have HT := Lib.hid T
    clear T h
    go_enter Try.func14, Try.ntmps14
    go_wp2_with fail
    refine (HT.out).mono ?_
    rintro e w' ⟨rfl, rfl⟩
    go_wp2
    go_ret
    exact ⟨rfl, rfl⟩
  · rw [cleanB_yes h]
    have hle := trailN_le s
    rw [hlen] at hle ⊢
    generalize trailN s = n at *
    obtain ⟨A1, c1, hsl, hB⟩ := hs.slice_lr Try.underlying22 byte_size (a := l - n) (r := l - 1) (by omega) (by omega)
    have e1 : l - 1 - (l - n) = n - 1 := by omega
    rw [e1] at hsl hB
    have hsl2 := fun W => hsl W ((l : Int) - n) ((l : Int) - 1) (by omega) (by omega)
    have Z := Lib.hid (fun w hs => rzero_any A1 (n - 1) c1 ((s.drop (l - n)).take (n - 1)) w hs)
    generalize zeroB ((s.drop (l - n)).take (n - 1)) = z at *
    have HT := Lib.hid T
    have HB := Lib.hid hB
    have h0 : (0 : Int) < n := by omega
    clear T hsl hB hlen e1 h
    go_enter Try.func14, Try.ntmps14
    go_wp2_with fail
    refine (HT.out).mono ?_
    rintro e w' ⟨rfl, rfl⟩
    go_wp2_with fail
    refine (Z.out _ HB.out).mono ?_
    rintro e w' ⟨rfl, rfl⟩
    go_wp2
    go_ret
    exact ⟨rfl, rfl⟩

set_option maxHeartbeats 400000 in
theorem radd_any (A : Option Addr) (l c : Nat) (s : List UInt8) (n : Nat) (w : World) (hs : Bs w A l c s) (hl : l ≤ 140737488355000) (h1 : 1 ≤ n) (h2 : n ≤ 255) :
    Calls Try.prog 18 #[.slice A l c, .int .i64 n] w fun e w' => GivesB w 5 (addB s n) e w' := by
  have hal : Hid ((addB s n).length = l + n) := Lib.hid (by rw [addB_length s h1, hs.len])
  have hae : Hid (addB s n = grownB s (n - 1) ++ [UInt8.ofNat n]) := Lib.hid rfl
  generalize addB s n = r at *
  have g1 : (1 : Int) ≤ n := by omega
  have g2 : (n : Int) ≤ 255 := by omega
  go_enter Try.func18, Try.ntmps18
  go_wp2_with (at_builtin; go_loud (refine wpList_app _ rfl (.tmp 7) (.tmp 8) 22 rfl w.heap.size 5 Try.underlying22 byte_info (some ⟨w.heap.size, 0, none⟩) 0 0 [] rfl (World.ownsRow_made w #[] 0 (Nat.le_refl _) (Nat.zero_le _) rfl) A l c s rfl (hs.alloc _) (by omega) (by simp) ?_); intro A2 c2 w2 hown2 hb2)
  rw [Nat.zero_add] at hown2
  have hB2 : Below w.heap.size w w2 := ((Below.refl _ _).alloc (Nat.le_refl _) _).trans hb2
  have hown2' : Own w2 w.heap.size 5 A2 (l + 0) c2 (grownB s 0) := by rw [grownB_zero]; simpa using hown2
  clear hown2 hb2
  go_wp2_with fail
  go_loopw [5, 6] (fun x i wr => ∃ (j : Nat) (A' : Option Addr) (c' : Nat), j ≤ n - 1 ∧ i = .int .i64 ((j : Int) + 1) ∧ x = .slice A' (l + j) c' ∧ Below w.heap.size w wr ∧ Own wr w.heap.size 5 A' (l + j) c' (grownB s j)) (fun _ i _ => n - (intOf i).toNat)
  case atStart => exact ⟨0, A2, c2, Nat.zero_le _, rfl, rfl, hB2, hown2'⟩
  case round =>
    obtain ⟨j, A3, c3, hj, rfl, rfl, hB, hown⟩ := hrel
    clear hB2 hown2'
    by_cases hjm : j < n - 1
    · have hjn : (j : Int) + 1 < n := by omega
      have hbs : Bs (wr.alloc (.cells #[.int .u8 0] 5)) (some ⟨wr.heap.size, 0, none⟩) 1 1 [0] := Bs.lit1 wr 0 5
      have hBa : Below w.heap.size w (wr.alloc (.cells #[.int .u8 0] 5)) := hB.alloc hB.size _
      go_wp2_with (at_builtin; go_loud (refine wpList_app _ rfl (.tmp 15) (.tmp 16) 22 rfl w.heap.size 5 Try.underlying22 byte_info A3 (l + j) c3 (grownB s j) rfl (hown.alloc _) (some ⟨wr.heap.size, 0, none⟩) 1 1 [0] rfl hbs (by omega) hBa.size ?_); intro A4 c4 w4 hown4 hb4)
      rw [grownB_succ, Nat.add_assoc] at hown4
      clear hown hbs
      go_wp2
      go_roundw
      case rel => exact ⟨j + 1, A4, c4, by omega, by go_num, rfl, hBa.trans hb4, hown4⟩
      case measure => simp [intOf]; omega
    · obtain rfl : n = j + 1 := by omega
      rw [Nat.add_sub_cancel] at hae
      have hjn : ¬ ((j : Int) + 1 < ((j + 1 : Nat) : Int)) := by omega
      have hbs : Bs (wr.alloc (.cells #[.int .u8 ((j : Int) + 1)] 5)) (some ⟨wr.heap.size, 0, none⟩) 1 1 [UInt8.ofNat (j + 1)] := by
        have := Bs.lit1 wr (UInt8.ofNat (j + 1)) 5
        rwa [byteV_ofNat, show (((j + 1 : Nat) : Int)) % 256 = (j : Int) + 1 by omega] at this
      have hBa : Below w.heap.size w (wr.alloc (.cells #[.int .u8 ((j : Int) + 1)] 5)) := hB.alloc hB.size _
      go_wp2_with (at_builtin; go_loud (refine wpList_app _ rfl (.tmp 18) (.tmp 21) 22 rfl w.heap.size 5 Try.underlying22 byte_info A3 (l + j) c3 (grownB s j) rfl (hown.alloc _) (some ⟨wr.heap.size, 0, none⟩) 1 1 [UInt8.ofNat (j + 1)] rfl hbs (by omega) hBa.size ?_); intro A4 c4 w4 hown4 hb4)
      rw [← hae.out, Nat.add_assoc] at hown4
      go_ret
      exact ⟨A4, c4, by rw [hal.out]; rfl, by rw [hal.out]; exact hown4, hBa.trans hb4⟩

end Go.Proofs.Ytfafhadhciefiaa

/-
  What the document's own answers for layer 3 come to, as later layers call them: a trailer, and bytes with one. (Cut out of the texts on layer 3.)
-/
import Derived.Test.YtbalpndgpdbcbaaByte
import Derived.Test.YtbalpndgpdbcbaaApp
import Derived.Test.YtbalpndgpdbcbaaInt
import Derived.Test.YtbalpndgpdbcbaaPadM
namespace Go.Proofs.Ytbalpndgpdbcbaa
open Go.RowKit

theorem rtrail_any (A : Option Addr) (l c : Nat) (s : List UInt8) (w : World) (hs : Bs w A l c s) :
    Calls Try.prog 33 #[.slice A l c] w fun e w' => e = .returned (.int .i64 (trailN s)) ∧ w = w' := by
  have hlen := hs.len
  have hlc := hs.le
  have hcm := hs.cap
  unfold maxLen at hcm
  unfold trailN
  rw [hlen]
  rcases Nat.eq_zero_or_pos l with h0 | h0
  · subst h0
    obtain rfl : s = [] := List.eq_nil_of_length_eq_zero hlen
    go_enter Try.func33, Try.ntmps33
    go_wp2
    go_ret
    exact ⟨rfl, rfl⟩
  · obtain ⟨b, o, rfl, hlt, hcell⟩ := hs.at_ h0
    have hc := hcell (l - 1) (by omega)
    have hq := byte_getD_lt s (l - 1)
    clear hcell hlen
    generalize (s.getD (l - 1) 0).toNat = q at *
    obtain ⟨m, rfl⟩ : ∃ m, l = m + 1 := ⟨l - 1, by omega⟩
    rw [Nat.add_sub_cancel] at hc
    by_cases h2 : q ≤ m + 1
    · rw [if_pos h2]
      have g2 : decide ((m : Int) + 1 < q) = false := by simp; omega
      go_enter Try.func33, Try.ntmps33
      go_wp2
      go_ret
      exact ⟨rfl, rfl⟩
    · rw [if_neg h2]
      have g2 : decide ((m : Int) + 1 < q) = true := by simp; omega
      go_enter Try.func33, Try.ntmps33
      go_wp2
      go_ret
      exact ⟨rfl, rfl⟩

set_option maxHeartbeats 400000 in
theorem radd_any (A : Option Addr) (l c : Nat) (s : List UInt8) (n : Nat) (w : World) (hs : Bs w A l c s) (hl : l ≤ 140737488355000) (h1 : 1 ≤ n) (h2 : n ≤ 255) :
    Calls Try.prog 27 #[.slice A l c, .int .i64 n] w fun e w' => GivesB w 5 (addB s n) e w' := by
  have hal : Hid ((addB s n).length = l + n) := Lib.hid (by rw [addB_length s h1, hs.len])
  have hae : Hid (addB s n = grownB s (n - 1) ++ [UInt8.ofNat n]) := Lib.hid rfl
  generalize addB s n = r at *
  have g1 : (1 : Int) ≤ n := by omega
  have g2 : (n : Int) ≤ 255 := by omega
  go_enter Try.func27, Try.ntmps27
  go_wp2_with (at_builtin; go_loud (refine wpList_app _ rfl (.tmp 7) (.tmp 8) 27 rfl w.heap.size 5 Try.underlying27 byte_info (some ⟨w.heap.size, 0, none⟩) 0 0 [] rfl (World.ownsRow_made w #[] 0 (Nat.le_refl _) (Nat.zero_le _) rfl) A l c s rfl (hs.alloc _) (by omega) (by simp) ?_); intro A2 c2 w2 hown2 hb2)
  rw [Nat.zero_add] at hown2
  have hB2 : Below w.heap.size w w2 := ((Below.refl _ _).alloc (Nat.le_refl _) _).trans hb2
  have hown2' : Own w2 w.heap.size 5 A2 (l + 0) c2 (grownB s 0) := by rw [grownB_zero]; simpa using hown2
  clear hown2 hb2
  go_wp2_with fail
  go_loopw [5, 6] (fun x i wr => ∃ (j : Nat) (A' : Option Addr) (c' : Nat), j ≤ n - 1 ∧ i = .int .i64 ((j : Int) + 1) ∧ x = .slice A' (l + j) c' ∧ Below w.heap.size w wr ∧ Own wr w.heap.size 5 A' (l + j) c' (grownB s j)) (fun _ i _ => n - (intOf i).toNat)
  case atStart => exact ⟨0, A2, c2, Nat.zero_le _, rfl, rfl, hB2, hown2'⟩
  case round =>
    obtain ⟨j, A3, c3, hj, rfl, rfl, hB, hown⟩ := hrel
    clear hB2 hown2'
    by_cases hjm : j < n - 1
    · have hjn : (j : Int) + 1 < n := by omega
      have hbs : Bs (wr.alloc (.cells #[.int .u8 0] 5)) (some ⟨wr.heap.size, 0, none⟩) 1 1 [0] := Bs.lit1 wr 0 5
      have hBa : Below w.heap.size w (wr.alloc (.cells #[.int .u8 0] 5)) := hB.alloc hB.size _
      go_wp2_with (at_builtin; go_loud (refine wpList_app _ rfl (.tmp 15) (.tmp 16) 27 rfl w.heap.size 5 Try.underlying27 byte_info A3 (l + j) c3 (grownB s j) rfl (hown.alloc _) (some ⟨wr.heap.size, 0, none⟩) 1 1 [0] rfl hbs (by omega) hBa.size ?_); intro A4 c4 w4 hown4 hb4)
      rw [grownB_succ, Nat.add_assoc] at hown4
      clear hown hbs
      go_wp2
      go_roundw
      case rel => exact ⟨j + 1, A4, c4, by omega, by go_num, rfl, hBa.trans hb4, hown4⟩
      case measure => simp [intOf]; omega
    · obtain rfl : n = j + 1 := by omega
      rw [Nat.add_sub_cancel] at hae
      have hjn : ¬ ((j : Int) + 1 < ((j + 1 : Nat) : Int)) := by omega
      have hbs : Bs (wr.alloc (.cells #[.int .u8 ((j : Int) + 1)] 5)) (some ⟨wr.heap.size, 0, none⟩) 1 1 [UInt8.ofNat (j + 1)] := by
        have := Bs.lit1 wr (UInt8.ofNat (j + 1)) 5
        rwa [byteV_ofNat, show (((j + 1 : Nat) : Int)) % 256 = (j : Int) + 1 by omega] at this
      have hBa : Below w.heap.size w (wr.alloc (.cells #[.int .u8 ((j : Int) + 1)] 5)) := hB.alloc hB.size _
      go_wp2_with (at_builtin; go_loud (refine wpList_app _ rfl (.tmp 18) (.tmp 21) 27 rfl w.heap.size 5 Try.underlying27 byte_info A3 (l + j) c3 (grownB s j) rfl (hown.alloc _) (some ⟨wr.heap.size, 0, none⟩) 1 1 [UInt8.ofNat (j + 1)] rfl hbs (by omega) hBa.size ?_); intro A4 c4 w4 hown4 hb4)
      rw [← hae.out, Nat.add_assoc] at hown4
      go_ret
      exact ⟨A4, c4, by rw [hal.out]; rfl, by rw [hal.out]; exact hown4, hBa.trans hb4⟩

end Go.Proofs.Ytbalpndgpdbcbaa

/-
  What the document's own answers for layer 3 come to, as later layers call them: bytes filled up to words. (Cut out of the texts on layer 3.)
-/
import Derived.Test.YtpkbikimpjmkgaaBase
namespace Go.Proofs.Ytpkbikimpjmkgaa
open Go.RowKit

set_option maxHeartbeats 400000 in
theorem rfill_any (A : Option Addr) (l c : Nat) (s : List UInt8) (w : World) (hs : Bs w A l c s) (hl : l ≤ 140737488355000) :
    Calls Try.prog 24 #[.slice A l c] w fun e w' => GivesB w 5 (fillB s) e w' := by
  have hlen := hs.len
  have hm := miss_lt l
  have hw := miss_whole l
  have hp := Lib.hid (fun j h => miss_pos (n := l) (j := j) h)
  have hfl := fillB_length s
  have hfm : fillB s = grownB s (miss l) := by unfold fillB; rw [hlen]
  rw [hlen] at hfl
  generalize miss l = m at *
  have Hw := Lib.hid hw
  have Hfl := Lib.hid hfl
  have Hfm := Lib.hid hfm
  clear hw hlen hfl hfm
  go_enter Try.func24, Try.ntmps24
  go_wp2_with (at_builtin; go_loud (refine wpList_app _ rfl (.tmp 4) (.tmp 5) 24 rfl w.heap.size 5 Try.underlying24 byte_info (some ⟨w.heap.size, 0, none⟩) 0 0 [] rfl (World.ownsRow_made w #[] 0 (Nat.le_refl _) (Nat.zero_le _) rfl) A l c s rfl (hs.alloc _) (by omega) (by simp) ?_); intro A2 c2 w2 hown2 hb2)
  rw [Nat.zero_add] at hown2
  have hB2 : Below w.heap.size w w2 := ((Below.refl _ _).alloc (Nat.le_refl _) _).trans hb2
  have hown2' : Own w2 w.heap.size 5 A2 (l + 0) c2 (grownB s 0) := by rw [grownB_zero]; simpa using hown2
  clear hown2 hb2
  go_wp2_with fail
  go_loopw [3] (fun x wr => ∃ (j : Nat) (A' : Option Addr) (c' : Nat), j ≤ m ∧ x = .slice A' (l + j) c' ∧ Below w.heap.size w wr ∧ Own wr w.heap.size 5 A' (l + j) c' (grownB s j)) (fun x _ => match x with | .slice _ n _ => (l + m) - n | _ => 0)
  case atStart => exact ⟨0, A2, c2, Nat.zero_le _, rfl, hB2, hown2'⟩
  case round =>
    obtain ⟨j, A3, c3, hj, rfl, hB, hown⟩ := hrel
    clear hB2 hown2'
    by_cases hjm : j < m
    · have hne := hp.out j hjm
      have ht : (((l : Int) + j) % 4 != 0) = true := by rw [bne_iff_ne]; omega
      clear hne
      have hbs : Bs (wr.alloc (.cells #[.int .u8 0] 5)) (some ⟨wr.heap.size, 0, none⟩) 1 1 [0] := Bs.lit1 wr 0 5
      have hBa : Below w.heap.size w (wr.alloc (.cells #[.int .u8 0] 5)) := hB.alloc hB.size _
      go_wp2_with (at_builtin; go_loud (refine wpList_app _ rfl (.tmp 11) (.tmp 12) 24 rfl w.heap.size 5 Try.underlying24 byte_info A3 (l + j) c3 (grownB s j) rfl (hown.alloc _) (some ⟨wr.heap.size, 0, none⟩) 1 1 [0] rfl hbs (by omega) hBa.size ?_); intro A4 c4 w4 hown4 hb4)
      rw [grownB_succ, Nat.add_assoc] at hown4
      clear hown hbs
      go_roundw
      case rel => exact ⟨j + 1, A4, c4, by omega, rfl, hBa.trans hb4, hown4⟩
      case measure => simp; omega
    · obtain rfl : j = m := by omega
      have ht : (((l : Int) + j) % 4 != 0) = false := by
        have := Hw.out
        have : ((l : Int) + j) % 4 = 0 := by omega
        rw [this]; rfl
      go_wp2
      go_ret
      exact ⟨A3, c3, by rw [Hfl.out]; rfl, by rw [Hfl.out, Hfm.out]; exact hown, hB⟩

end Go.Proofs.Ytpkbikimpjmkgaa

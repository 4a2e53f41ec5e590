/-
  What the functions of package pad come to, as later layers call them: grown, Zero, Trail, Clean, Add. (Cut out of the texts on layer 3.)
-/
import Derived.Test.YtbalpndgpdbcbaaByteZ
import Derived.Test.YtbalpndgpdbcbaaRow
import Derived.Test.YtbalpndgpdbcbaaApp
import Derived.Test.YtbalpndgpdbcbaaPadM
namespace Go.Proofs.Ytbalpndgpdbcbaa
open Go.RowKit

set_option maxHeartbeats 400000 in
theorem grown_any (A : Option Addr) (l c : Nat) (s : List UInt8) (n : Nat) (w : World) (hs : Bs w A l c s) (hl : l + n ≤ 140737488355328) :
    Calls Try.prog 44 #[.slice A l c, .int .i64 n] w fun e w' => GivesB w 5 (grownB s n) e w' := by
  have hlen := hs.len
  have M := make_zeros (l + n) (by omega)
  rw [Int.natCast_add] at M
  have hmade : Own (w.alloc (.cells (zeroRow (l + n)) 5)) w.heap.size 5 (some ⟨w.heap.size, 0, none⟩) (l + n) (l + n) (List.replicate (l + n) 0) :=
    World.ownsRow_lit (base := w.heap.size) (e := 5) (size := 1) w (zeroRow (l + n)) (l + n) (Nat.le_refl _) (by simp only [maxLen]; omega) (by simp [zeroRow])
  have hs1 := hs.alloc (.cells (zeroRow (l + n)) 5)
  have hb1 := below1 w (.cells (zeroRow (l + n)) 5)
  have hr : s ++ List.drop l (List.replicate (l + n) 0) = grownB s n := by rw [List.drop_replicate, Nat.add_sub_cancel_left]; rfl
  have hgl : (grownB s n).length = l + n := by rw [grownB_length, hlen]
  generalize grownB s n = r at *
  have Hr := Lib.hid hr
  clear hr
  have Hgl := Lib.hid hgl
  clear hgl hlen
  go_enter Try.func44, Try.ntmps44
  go_wp2_with ((with_reducible refine wpList_copyB rfl (.tmp 11) (.tmp 12) 27 27 rfl 5 Try.underlying27 byte_one w.heap.size w.heap.size (l + n) (List.replicate (l + n) 0) rfl hmade A l c s rfl hs1 (by omega) ?_); intro w2 hown2 hheap hsize2 hbel2)
  rw [Hr.out] at hown2
  clear hheap hsize2 hmade hs1 M
  have hB := hb1.trans hbel2
  go_ret
  exact ⟨some ⟨w.heap.size, 0, none⟩, l + n, by rw [Hgl.out]; rfl, by rw [Hgl.out]; exact hown2, hB⟩

/-- The same, with a number that is spelled otherwise. -/
theorem grown_at (A : Option Addr) (l c : Nat) (s : List UInt8) (n : Int) (m : Nat) (w : World) (hs : Bs w A l c s) (hn : n = m) (hl : l + m ≤ 140737488355328) :
    Calls Try.prog 44 #[.slice A l c, .int .i64 n] w fun e w' => GivesB w 5 (grownB s m) e w' := by
  subst hn
  exact grown_any A l c s m w hs hl

set_option maxHeartbeats 400000 in
theorem zero_any (A : Option Addr) (l c : Nat) (s : List UInt8) (w : World) (hs : Bs w A l c s) :
    Calls Try.prog 53 #[.slice A l c] w fun e w' => e = .returned (.bool (zeroB s)) ∧ w = w' := by
  have hlen := hs.len
  have hlc := hs.le
  have hcm := hs.cap
  unfold maxLen at hcm
  go_enter Try.func53, Try.ntmps53
  go_wp2_with fail
  go_loop [7] (fun i => ∃ k : Nat, k ≤ l ∧ i = .int .i64 k ∧ zeroB (s.take k) = true) (fun i => l - (intOf i).toNat)
  case atStart => exact ⟨0, Nat.zero_le _, rfl, rfl⟩
  case round =>
    obtain ⟨k, hk, rfl, hz⟩ := hrel
    have Hz := Lib.hid hz
    clear hz
    by_cases hkl : k < l
    · obtain ⟨b, o, rfl, hlt, hcell⟩ := hs.at_ (by omega)
      have hc := hcell k hkl
      have hq := byte_getD_lt s k
      have hsn := Lib.hid (zeroB_snoc s k (by omega))
      have hzt := Lib.hid (fun h => zeroB_take (s := s) (k := k) (by omega) h)
      clear hcell
      generalize (s.getD k 0).toNat = q at *
      by_cases hq0 : q = 0
      · subst hq0
        go_wp2
        go_round
        case rel => exact ⟨k + 1, by omega, by go_num, by rw [hsn.out, Hz.out]; rfl⟩
        case measure => simp [intOf]; omega
      · have hres := Lib.hid (hzt.out hq0)
        go_wp2
        go_ret
        exact ⟨by rw [hres.out]; rfl, rfl⟩
    · have hres : Hid (zeroB s = true) := Lib.hid (by have := Hz.out; rwa [List.take_of_length_le (by omega)] at this)
      go_wp2
      go_ret
      exact ⟨by rw [hres.out]; rfl, rfl⟩

theorem trail_any (A : Option Addr) (l c : Nat) (s : List UInt8) (w : World) (hs : Bs w A l c s) :
    Calls Try.prog 30 #[.slice A l c] w fun e w' => e = .returned (.tuple #[.int .i64 (trailN s), .int .i64 (trailE s)]) ∧ w = w' := by
  have hlen := hs.len
  have hlc := hs.le
  have hcm := hs.cap
  unfold maxLen at hcm
  unfold trailE trailN
  rw [hlen]
  rcases Nat.eq_zero_or_pos l with h0 | h0
  · subst h0
    obtain rfl : s = [] := List.eq_nil_of_length_eq_zero hlen
    go_enter Try.func30, Try.ntmps30
    go_wp2
    go_ret2
    exact ⟨rfl, rfl⟩
  · obtain ⟨b, o, rfl, hlt, hcell⟩ := hs.at_ h0
    have hc := hcell (l - 1) (by omega)
    have hq := byte_getD_lt s (l - 1)
    clear hcell hlen
    generalize (s.getD (l - 1) 0).toNat = q at *
    obtain ⟨m, rfl⟩ : ∃ m, l = m + 1 := ⟨l - 1, by omega⟩
    rw [Nat.add_sub_cancel] at hc
    have hw : IntKind.i64.wrap (((m + 1 : Nat) : Int) - 1) = (m : Int) := by rw [IntWalk.i64_in _ (by omega)]; omega
    by_cases h1 : q = 0
    · subst h1
      rw [if_pos (Nat.zero_le _), if_pos rfl]
      go_enter Try.func30, Try.ntmps30
      go_wp2
      go_ret2
      exact ⟨rfl, rfl⟩
    · by_cases h2 : q ≤ m + 1
      · rw [if_pos h2, if_neg h1]
        have g1 : ((q : Int) == 0) = false := by simp; omega
        have g2 : decide ((m : Int) + 1 < q) = false := by simp; omega
        go_enter Try.func30, Try.ntmps30
        go_wp2
        go_ret2
        exact ⟨rfl, rfl⟩
      · rw [if_neg h2, if_pos rfl]
        have g1 : ((q : Int) == 0) = false := by simp; omega
        have g2 : decide ((m : Int) + 1 < q) = true := by simp; omega
        go_enter Try.func30, Try.ntmps30
        go_wp2
        go_ret2
        exact ⟨rfl, rfl⟩

theorem trailE_no {s : List UInt8} (h : trailN s = 0) : trailE s = 5 := if_pos h
theorem trailE_yes {s : List UInt8} (h : trailN s ≠ 0) : trailE s = 0 := if_neg h

theorem clean_any (A : Option Addr) (l c : Nat) (s : List UInt8) (w : World) (hs : Bs w A l c s) :
    Calls Try.prog 38 #[.slice A l c] w fun e w' => e = .returned (.bool (cleanB s)) ∧ w = w' := by
  have hlen := hs.len
  have hlc := hs.le
  have hcm := hs.cap
  unfold maxLen at hcm
  have T := trail_any A l c s w hs
  by_cases h : trailN s = 0
  · rw [cleanB_no h]
    rw [h, trailE_no h] at T
    have HT := Lib.hid T
    clear T h
    go_enter Try.func38, Try.ntmps38
    go_wp2_with fail
    refine (HT.out).mono ?_
    rintro e w' ⟨rfl, rfl⟩
    go_wp2
    go_ret
    exact ⟨rfl, rfl⟩
  · rw [cleanB_yes h]
    rw [trailE_yes h] at T
    have hle := trailN_le s
    rw [hlen] at hle ⊢
    generalize trailN s = n at *
    obtain ⟨A1, c1, hsl, hB⟩ := hs.slice_lr Try.underlying27 byte_size (a := l - n) (r := l - 1) (by omega) (by omega)
    have e1 : l - 1 - (l - n) = n - 1 := by omega
    rw [e1] at hsl hB
    have hsl2 := fun W => hsl W ((l : Int) - n) ((l : Int) - 1) (by omega) (by omega)
    have Z := Lib.hid (fun w hs => zero_any A1 (n - 1) c1 ((s.drop (l - n)).take (n - 1)) w hs)
    generalize zeroB ((s.drop (l - n)).take (n - 1)) = z at *
    have HT := Lib.hid T
    have HB := Lib.hid hB
    clear T hsl hB hlen e1
    go_enter Try.func38, Try.ntmps38
    go_wp2_with fail
    refine (HT.out).mono ?_
    rintro e w' ⟨rfl, rfl⟩
    go_wp2_with fail
    refine (Z.out _ HB.out).mono ?_
    rintro e w' ⟨rfl, rfl⟩
    go_wp2
    go_ret
    exact ⟨rfl, rfl⟩

/-- The number that an error has. -/
def addE (n : Int) : Int := if 1 ≤ n ∧ n ≤ 255 then 0 else 1
def addR (s : List UInt8) (n : Int) : List UInt8 := if 1 ≤ n ∧ n ≤ 255 then addB s n.toNat else []
set_option maxHeartbeats 400000 in
theorem add_yes (A : Option Addr) (l c : Nat) (s : List UInt8) (n : Nat) (w : World) (hs : Bs w A l c s) (hl : l ≤ 140737488355000) (h1 : 1 ≤ n) (h2 : n ≤ 255) :
    Calls Try.prog 24 #[.slice A l c, .int .i64 n] w fun e w' => GivesBE w 5 (addB s n) 0 e w' := by
  have hlen := hs.len
  have G := Lib.hid (fun w hs => grown_any A l c s n w hs (by omega))
  have hgl : (grownB s n).length = l + n := by rw [grownB_length, hlen]
  have hal : (addB s n).length = l + n := by rw [addB_length s h1, hlen]
  have he := addB_eq s h1
  rw [hlen] at he
  generalize grownB s n = r at *
  generalize addB s n = q at *
  have Hgl := Lib.hid hgl
  have Hal := Lib.hid hal
  have He := Lib.hid he
  clear hgl hal he hlen
  have g1 : (1 : Int) ≤ n := by omega
  have g2 : (n : Int) ≤ 255 := by omega
  go_enter Try.func24, Try.ntmps24
  go_wp2_with fail
  refine (G.out _ hs).mono ?_
  rintro e w1 ⟨A1, c1, rfl, hown1, hb1⟩
  rw [Hgl.out] at hown1 ⊢
  obtain ⟨g, rfl, hg1, hg2⟩ := hown1.form (by omega)
  obtain ⟨⟨u0, hcl⟩, hfz, hst⟩ := Own.store (x := UInt8.ofNat n) hown1 (show l + n - 1 < l + n by omega)
  rw [He.out, byteV_ofNat, show (n : Int) % 256 = n by omega] at hst
  clear hown1
  obtain ⟨p, hp⟩ : ∃ p, l + n - 1 = p := ⟨_, rfl⟩
  rw [hp] at hcl hfz hst
  have hpi : (l : Int) + n - 1 = p := by omega
  have hw1 : IntKind.i64.wrap ((l : Int) + n - 1) = p := by rw [IntWalk.i64_in _ (by omega)]; omega
  go_wp2
  go_ret2
  exact ⟨some ⟨g, 0, none⟩, c1, by rw [Hal.out]; rfl, by rw [Hal.out]; exact hst, hb1.setCell hg1 _⟩
theorem add_no (A : Option Addr) (l c : Nat) (n : Int) (w : World) (h : ¬ (1 ≤ n ∧ n ≤ 255)) :
    Calls Try.prog 24 #[.slice A l c, .int .i64 n] w fun e w' => e = .returned (.tuple #[.slice none 0 0, .int .i64 1]) ∧ w = w' := by
  rcases (show n < 1 ∨ (1 ≤ n ∧ 255 < n) by omega) with h1 | ⟨h1, h2⟩
  all_goals
    clear h
    go_enter Try.func24, Try.ntmps24
    go_wp2
    go_ret2
    exact ⟨rfl, rfl⟩
theorem add_any (A : Option Addr) (l c : Nat) (s : List UInt8) (n : Int) (w : World) (hs : Bs w A l c s) (hl : l ≤ 140737488355000) :
    Calls Try.prog 24 #[.slice A l c, .int .i64 n] w fun e w' => GivesBE w 5 (addR s n) (addE n) e w' := by
  unfold addR addE
  by_cases h : 1 ≤ n ∧ n ≤ 255
  · rw [if_pos h, if_pos h]
    obtain ⟨n, rfl⟩ := Int.eq_ofNat_of_zero_le (show 0 ≤ n by omega)
    exact add_yes A l c s n w hs hl (by omega) (by omega)
  · rw [if_neg h, if_neg h]
    refine (add_no A l c n w h).mono ?_
    rintro e w' ⟨rfl, rfl⟩
    exact GivesBE.none_ _ _ _

end Go.Proofs.Ytbalpndgpdbcbaa

/-
  What the functions of package octet come to, as later layers call them: Part. (Cut out of the texts on layer 1.)
-/
import Derived.Test.YtbalpndgpdbcbaaOctC
import Derived.Test.YtbalpndgpdbcbaaOctA
import Derived.Test.YtbalpndgpdbcbaaByteZ
namespace Go.Proofs.Ytbalpndgpdbcbaa
open Go.RowKit

theorem part_arg (A : Option Addr) (l c : Nat) (a n : Int) (w : World) (h : n < 0 ∨ a < 0) :
    Calls Try.prog 50 #[.slice A l c, .int .i64 a, .int .i64 n] w fun e w' => e = .returned (.tuple #[.slice none 0 0, .int .i64 1]) ∧ w = w' := by
  by_cases h1 : n < 0
  · clear h
    go_enter Try.func50, Try.ntmps50
    go_wp2
    go_ret2
    exact ⟨rfl, rfl⟩
  · have h2 : a < 0 := by omega
    clear h
    go_enter Try.func50, Try.ntmps50
    go_wp2
    go_ret2
    exact ⟨rfl, rfl⟩

theorem part_short (A : Option Addr) (l c : Nat) (a n : Int) (w : World) (hl : l ≤ maxLen) (h1 : 0 ≤ n) (h3 : 0 ≤ a) (h4 : a ≤ 9223372036854775807) (h5 : l < a + n) :
    Calls Try.prog 50 #[.slice A l c, .int .i64 a, .int .i64 n] w fun e w' => e = .returned (.tuple #[.slice none 0 0, .int .i64 2]) ∧ w = w' := by
  have hd : decide (n ≤ l - a) = false := by simp; omega
  have hd2 : decide (a < 0) = false := by simp [h3]
  have hd3 : decide (n < 0) = false := by simp [h1]
  go_enter Try.func50, Try.ntmps50
  go_wp2_with fail
  refine (has_any _ _ _ _ _ _ hl h3 h4).mono ?_
  rintro e w' ⟨rfl, rfl⟩
  go_wp2_with fail
  go_ret2
  exact ⟨rfl, rfl⟩

set_option maxHeartbeats 400000 in
theorem part_yes (A : Option Addr) (l c : Nat) (s : List UInt8) (a n : Nat) (w : World) (hs : Bs w A l c s) (h3 : a + n ≤ l) (hn : n ≤ 140737488355328) :
    Calls Try.prog 50 #[.slice A l c, .int .i64 a, .int .i64 n] w fun e w' => GivesBE w 5 ((s.drop a).take n) 0 e w' := by
  have hl := hs.len
  have hla := hs.le
  have hlc := hs.cap
  have hm : l ≤ maxLen := by omega
  unfold maxLen at hlc
  have hd : decide ((n : Int) ≤ l - a) = true := by simp; omega
  have hd2 : decide ((a : Int) < 0) = false := by simp
  have hd3 : decide ((n : Int) < 0) = false := by simp
  obtain ⟨A1, c1, hsl, hB1⟩ := hs.slice_lr Try.underlying27 byte_size (show a ≤ a + n by omega) h3
  rw [Nat.add_sub_cancel_left] at hB1
  have hcut := fun W => hsl W a (a + n) rfl (by omega)
  rw [Nat.add_sub_cancel_left] at hcut
  clear hsl
  go_enter Try.func50, Try.ntmps50
  go_wp2_with fail
  refine (has_any _ _ _ _ _ _ hm (by omega) (by omega)).mono ?_
  rintro e w' ⟨rfl, rfl⟩
  go_wp2_with fail
  refine (join_lit [⟨A1, n, c1, (s.drop a).take n⟩] ((s.drop a).take n) w (by simpa using hB1) (by simp [joined]) (by simp [maxLen]) (by rw [hB1.len]; exact hn)).mono ?_
  rintro e w' ⟨A2, c2, rfl, hown, hbel⟩
  rw [hB1.len] at hown ⊢
  go_wp2
  go_ret2
  exact ⟨A2, c2, by rw [hB1.len]; rfl, by rw [hB1.len]; exact hown, hbel⟩

/-- The same, with numbers that are spelled otherwise. -/
theorem part_at (A : Option Addr) (l c : Nat) (s : List UInt8) (a n : Nat) (ai ni : Int) (w : World) (hs : Bs w A l c s) (e1 : ai = a) (e2 : ni = n) (h3 : a + n ≤ l) (hn : n ≤ 140737488355328) (r : List UInt8) (hr : (s.drop a).take n = r) :
    Calls Try.prog 50 #[.slice A l c, .int .i64 ai, .int .i64 ni] w fun e w' => GivesBE w 5 r 0 e w' := by
  subst e1 e2 hr
  exact part_yes A l c s a n w hs h3 hn

theorem part_any (A : Option Addr) (l c : Nat) (s : List UInt8) (a n : Int) (w : World) (hs : Bs w A l c s) (ha : (Lit.int .i64 a).wf = true) (hl : l ≤ 140737488355328) :
    Calls Try.prog 50 #[.slice A l c, .int .i64 a, .int .i64 n] w fun e w' => GivesBE w 5 (partB s a n) (partE s.length a n) e w' := by
  have hl := hs.len
  obtain ⟨ha1, ha2⟩ := bound_i64 ha
  by_cases h : n < 0 ∨ a < 0
  · have e1 : partE s.length a n = 1 := if_pos h
    have e2 : partB s a n = [] := if_neg (by rw [e1]; decide)
    rw [e1, e2]
    refine (part_arg A l c a n w h).mono ?_
    rintro e w' ⟨rfl, rfl⟩
    exact GivesBE.none_ _ _ _
  · by_cases h5 : (l : Int) < a + n
    · have e1 : partE s.length a n = 2 := by unfold partE; rw [if_neg h, if_pos (by omega)]
      have e2 : partB s a n = [] := if_neg (by rw [e1]; decide)
      rw [e1, e2]
      refine (part_short A l c a n w (Nat.le_trans hs.le hs.cap) (by omega) (by omega) ha2 h5).mono ?_
      rintro e w' ⟨rfl, rfl⟩
      exact GivesBE.none_ _ _ _
    · have e1 : partE s.length a n = 0 := by unfold partE; rw [if_neg h, if_neg (by omega)]
      have e2 : partB s a n = (s.drop a.toNat).take n.toNat := if_pos e1
      rw [e1, e2]
      obtain ⟨a, rfl⟩ := Int.eq_ofNat_of_zero_le (show 0 ≤ a by omega)
      obtain ⟨n, rfl⟩ := Int.eq_ofNat_of_zero_le (show 0 ≤ n by omega)
      rw [Int.toNat_natCast, Int.toNat_natCast]
      exact part_yes A l c s a n w hs (by omega) (by omega)

end Go.Proofs.Ytbalpndgpdbcbaa

/-
  What the functions of package head come to: Right, Size, the first two bytes, put, get.
-/
import Derived.Test.YtbalpndgpdbcbaaOctC
import Derived.Test.YtbalpndgpdbcbaaHeadC
namespace Go.Proofs.Ytbalpndgpdbcbaa
open Go.RowKit

theorem hright_any (p e m : Bool) (t : Int) (q ti ss : Nat) (A : Option Addr) (n c : Nat) (l : List Nat) (w : World) (hn : l.length = n) (hb : n ≤ 9223372036854775807) :
    Calls Try.prog 34 #[.agg #[.bool p, .bool e, .bool m, .int .i64 t, .int .u16 q, .int .u32 ti, .int .u32 ss, .slice A n c]] w (Says w (.bool (rightH ⟨p, e, m, t, q, ti, ss, l⟩))) := by
  by_cases h0 : 0 ≤ t
  · by_cases h1 : t ≤ 127
    · by_cases h2 : n ≤ 15
      · rw [show rightH ⟨p, e, m, t, q, ti, ss, l⟩ = true from decide_eq_true ⟨h0, by show t < 128; omega, by show l.length < 16; omega⟩]
        clear hn
        go_enter Try.func34, Try.ntmps34
        go_wp2
        go_ret
        exact ⟨by first | rfl | (simp <;> omega), below1 w _⟩
      · rw [show rightH ⟨p, e, m, t, q, ti, ss, l⟩ = false from decide_eq_false (by show ¬ (0 ≤ t ∧ t < 128 ∧ l.length < 16); omega)]
        clear hn
        go_enter Try.func34, Try.ntmps34
        go_wp2
        go_ret
        exact ⟨by first | rfl | (simp <;> omega), below1 w _⟩
    · rw [show rightH ⟨p, e, m, t, q, ti, ss, l⟩ = false from decide_eq_false (by show ¬ (0 ≤ t ∧ t < 128 ∧ l.length < 16); omega)]
      clear hn
      go_enter Try.func34, Try.ntmps34
      go_wp2
      go_ret
      exact ⟨by first | rfl | (simp <;> omega), below1 w _⟩
  · rw [show rightH ⟨p, e, m, t, q, ti, ss, l⟩ = false from decide_eq_false (by show ¬ (0 ≤ t ∧ t < 128 ∧ l.length < 16); omega)]
    clear hn
    go_enter Try.func34, Try.ntmps34
    go_wp2
    go_ret
    exact ⟨by first | rfl | (simp <;> omega), below1 w _⟩

theorem hwith_any (k : Int) (n : Nat) (w : World) (hk : k = (n : Int)) (hn : n ≤ 1000000) :
    Calls Try.prog 46 #[.int .i64 k] w fun e w' => e = .returned (.int .i64 (12 + 4 * (n : Int))) ∧ w' = w := by
  subst hk
  go_enter Try.func46, Try.ntmps46
  go_wp2
  go_ret
  exact ⟨rfl, rfl⟩

set_option maxHeartbeats 1000000 in
theorem hsize_any (p e m : Bool) (t : Int) (q ti ss : Nat) (A : Option Addr) (n c : Nat) (l : List Nat) (w : World) (hn : l.length = n) (hb : n ≤ 1000000) :
    Calls Try.prog 39 #[.agg #[.bool p, .bool e, .bool m, .int .i64 t, .int .u16 q, .int .u32 ti, .int .u32 ss, .slice A n c]] w (Says w (.int .i64 (sizeH ⟨p, e, m, t, q, ti, ss, l⟩))) := by
  have R := Lib.hid (fun w => hright_any p e m t q ti ss A n c l w hn (by omega))
  have hs : sizeH ⟨p, e, m, t, q, ti, ss, l⟩ = if rightH ⟨p, e, m, t, q, ti, ss, l⟩ = true then 12 + 4 * (n : Int) else 0 := by unfold sizeH; rw [hn]
  rw [hs]
  have Z := Lib.hid (fun k w h => hwith_any k n w h hb)
  have k1 := Box.new w [.bool p, .bool e, .bool m, .int .i64 t, .int .u16 q, .int .u32 ti, .int .u32 ss, .slice A n c] 26
  clear hs hn
  generalize rightH ⟨p, e, m, t, q, ti, ss, l⟩ = b at *
  have hB := below1 w (.cells #[.bool p, .bool e, .bool m, .int .i64 t, .int .u16 q, .int .u32 ti, .int .u32 ss, .slice A n c] 26)
  cases b
  · go_enter Try.func39, Try.ntmps39
    go_wp2_with fail
    refine (R.out _).mono ?_
    rintro x w2 ⟨rfl, hb2⟩
    go_wp2_with fail
    go_ret
    exact ⟨rfl, hB.trans (hb2.mono hB.size)⟩
  · go_enter Try.func39, Try.ntmps39
    go_wp2_with fail
    refine (R.out _).mono ?_
    rintro x w2 ⟨rfl, hb2⟩
    replace k1 := k1.call hb2
    replace hB := hB.trans (hb2.mono hB.size)
    have f7 := k1.field 7 rfl
    go_wp2_with fail
    refine (Z.out _ _ rfl).mono ?_
    rintro x w3 ⟨rfl, rfl⟩
    go_wp2_with fail
    go_ret
    exact ⟨rfl, hB⟩

theorem hput_any (v n : Nat) (x : Int) (w : World) (hx : x = (v : Int)) (h1 : 1 ≤ n) (h2 : n ≤ 8) (hv : v < 256 ^ n) :
    Calls Try.prog 42 #[.int .u64 x, .int .i64 n] w fun e w' => ∃ A c, e = .returned (.slice A n c) ∧ Own w' w.heap.size 5 A n c (be n v) ∧ Below w.heap.size w w' := by
  subst hx
  have hp := pow256_le h2
  have hput := Lib.hid (put_any v n w (by omega))
  rw [(putE_yes h1 h2 hv).1, (putE_yes h1 h2 hv).2] at hput
  clear hp
  go_enter Try.func42, Try.ntmps42
  go_wp2_with fail
  refine (hput.out).mono ?_
  rintro e w' ⟨A, c, rfl, ho, hb⟩
  rw [be_length] at ho ⊢
  go_wp2_with fail
  go_ret
  exact ⟨A, c, rfl, ho, hb⟩

theorem hget_any (A : Option Addr) (l c : Nat) (s : List UInt8) (a : Int) (b n : Nat) (m : Int) (w : World) (hs : Bs w A l c s) (ha : a = (b : Int)) (h1 : 1 ≤ n) (h2 : n ≤ 8) (h3 : b + n ≤ l) (hm : m = (n : Int)) :
    Calls Try.prog 47 #[.slice A l c, .int .i64 a, .int .i64 m] w fun e w' => e = .returned (.int .u64 (num ((s.drop b).take n))) ∧ w' = w := by
  subst ha hm
  have R := Lib.hid (get_yes A l c s b n w hs h1 h2 h3)
  generalize num ((s.drop b).take n) = v at *
  go_enter Try.func47, Try.ntmps47
  go_wp2_with fail
  refine (R.out).mono ?_
  rintro e w' ⟨rfl, rfl⟩
  go_wp2
  go_ret
  exact ⟨rfl, rfl⟩

set_option maxHeartbeats 4000000 in
theorem hfirst_any (p e m : Bool) (t : Int) (q ti ss : Nat) (A : Option Addr) (n c : Nat) (l : List Nat) (w : World) (hl : l.length = n) (hn : n ≤ 15) :
    Calls Try.prog 40 #[.agg #[.bool p, .bool e, .bool m, .int .i64 t, .int .u16 q, .int .u32 ti, .int .u32 ss, .slice A n c]] w (Says w (.int .u8 (firstB ⟨p, e, m, t, q, ti, ss, l⟩ : Nat))) := by
  have hf : firstB ⟨p, e, m, t, q, ti, ss, l⟩ = 128 + n + n1 p 32 + n1 e 16 := by unfold firstB; rw [hl]
  rw [hf]
  clear hf hl
  obtain rfl | rfl | rfl | rfl | rfl | rfl | rfl | rfl | rfl | rfl | rfl | rfl | rfl | rfl | rfl | rfl : n = 0 ∨ n = 1 ∨ n = 2 ∨ n = 3 ∨ n = 4 ∨ n = 5 ∨ n = 6 ∨ n = 7 ∨ n = 8 ∨ n = 9 ∨ n = 10 ∨ n = 11 ∨ n = 12 ∨ n = 13 ∨ n = 14 ∨ n = 15 := by omega
  all_goals
    cases p <;> cases e
    all_goals
      go_enter Try.func40, Try.ntmps40
      go_wp2
      go_ret
      exact ⟨by first | rfl | (simp <;> omega), below1 w _⟩

theorem hsecond_any (p e m : Bool) (t : Int) (q ti ss : Nat) (A : Option Addr) (n c : Nat) (l : List Nat) (w : World) (h0 : 0 ≤ t) (h1 : t < 128) :
    Calls Try.prog 41 #[.agg #[.bool p, .bool e, .bool m, .int .i64 t, .int .u16 q, .int .u32 ti, .int .u32 ss, .slice A n c]] w (Says w (.int .u8 (secondB ⟨p, e, m, t, q, ti, ss, l⟩ : Nat))) := by
  obtain ⟨k, rfl⟩ := Int.eq_ofNat_of_zero_le h0
  have hj : bits .or .u8 (k : Int) 128 = (k : Int) + 128 := by
    have := nat_join 7 128 k (by decide) (by simp; omega)
    rw [show (128 : Int) = ((128 : Nat) : Int) from rfl, u8_or_nat _ _ (by omega) (by omega), Nat.or_comm, this]
    omega
  cases m
  all_goals
    go_enter Try.func41, Try.ntmps41
    go_wp2
    go_ret
    exact ⟨by first | rfl | (simp [secondB, n1] <;> omega), below1 w _⟩

end Go.Proofs.Ytbalpndgpdbcbaa

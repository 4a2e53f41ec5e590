/-
  What the functions of package octet come to: Part, Set.
-/
import Derived.Test.YthihnfdanjnmcaaOctC
namespace Go.Proofs.Ythihnfdanjnmcaa
open Go.RowKit

theorem byte_size (w : World) : (Go.sizeOf 5).run Try.prog w = .ok 1 w := run_size_one byte_info w

theorem part_arg (A : Option Addr) (l c : Nat) (a n : Int) (w : World) (h : n < 0 ∨ a < 0) :
    Calls Try.prog 19 #[.slice A l c, .int .i64 a, .int .i64 n] w fun e w' => e = .returned (.tuple #[.slice none 0 0, .int .i64 1]) ∧ w = w' := by
  by_cases h1 : n < 0
  · clear h
    go_enter Try.func19, Try.ntmps19
    go_wp2
    go_ret2
    exact ⟨rfl, rfl⟩
  · have h2 : a < 0 := by omega
    clear h
    go_enter Try.func19, Try.ntmps19
    go_wp2
    go_ret2
    exact ⟨rfl, rfl⟩

theorem part_short (A : Option Addr) (l c : Nat) (a n : Int) (w : World) (hl : l ≤ maxLen) (h1 : 0 ≤ n) (h3 : 0 ≤ a) (h4 : a ≤ 9223372036854775807) (h5 : l < a + n) :
    Calls Try.prog 19 #[.slice A l c, .int .i64 a, .int .i64 n] w fun e w' => e = .returned (.tuple #[.slice none 0 0, .int .i64 2]) ∧ w = w' := by
  have hd : decide (n ≤ l - a) = false := by simp; omega
  have hd2 : decide (a < 0) = false := by simp [h3]
  have hd3 : decide (n < 0) = false := by simp [h1]
  go_enter Try.func19, Try.ntmps19
  go_wp2_with fail
  refine (has_any _ _ _ _ _ _ hl h3 h4).mono ?_
  rintro e w' ⟨rfl, rfl⟩
  go_wp2_with fail
  go_ret2
  exact ⟨rfl, rfl⟩

set_option maxHeartbeats 400000 in
theorem part_yes (A : Option Addr) (l c : Nat) (s : List UInt8) (a n : Nat) (w : World) (hs : Bs w A l c s) (h3 : a + n ≤ l) (hn : n ≤ 140737488355328) :
    Calls Try.prog 19 #[.slice A l c, .int .i64 a, .int .i64 n] w fun e w' => GivesBE w 5 ((s.drop a).take n) 0 e w' := by
  have hl := hs.len
  have hla := hs.le
  have hlc := hs.cap
  have hm : l ≤ maxLen := by omega
  unfold maxLen at hlc
  have hd : decide ((n : Int) ≤ l - a) = true := by simp; omega
  have hd2 : decide ((a : Int) < 0) = false := by simp
  have hd3 : decide ((n : Int) < 0) = false := by simp
  obtain ⟨A1, c1, hsl, hB1⟩ := hs.slice_lr Try.underlying22 byte_size (show a ≤ a + n by omega) h3
  rw [Nat.add_sub_cancel_left] at hB1
  have hcut := fun W => hsl W a (a + n) rfl (by omega)
  rw [Nat.add_sub_cancel_left] at hcut
  clear hsl
  go_enter Try.func19, Try.ntmps19
  go_wp2_with fail
  refine (has_any _ _ _ _ _ _ hm (by omega) (by omega)).mono ?_
  rintro e w' ⟨rfl, rfl⟩
  go_wp2_with fail
  refine (join_lit [⟨A1, n, c1, (s.drop a).take n⟩] ((s.drop a).take n) w (by simpa using hB1) (by simp [joined]) (by simp [maxLen]) (by rw [hB1.len]; exact hn)).mono ?_
  rintro e w' ⟨A2, c2, rfl, hown, hbel⟩
  rw [hB1.len] at hown ⊢
  go_wp2
  go_ret2
  exact ⟨A2, c2, by rw [hB1.len]; rfl, by rw [hB1.len]; exact hown, hbel⟩

/-- The same, with numbers that are spelled otherwise. -/
theorem part_at (A : Option Addr) (l c : Nat) (s : List UInt8) (a n : Nat) (ai ni : Int) (w : World) (hs : Bs w A l c s) (e1 : ai = a) (e2 : ni = n) (h3 : a + n ≤ l) (hn : n ≤ 140737488355328) (r : List UInt8) (hr : (s.drop a).take n = r) :
    Calls Try.prog 19 #[.slice A l c, .int .i64 ai, .int .i64 ni] w fun e w' => GivesBE w 5 r 0 e w' := by
  subst e1 e2 hr
  exact part_yes A l c s a n w hs h3 hn

theorem part_any (A : Option Addr) (l c : Nat) (s : List UInt8) (a n : Int) (w : World) (hs : Bs w A l c s) (ha : (Lit.int .i64 a).wf = true) (hl : l ≤ 140737488355328) :
    Calls Try.prog 19 #[.slice A l c, .int .i64 a, .int .i64 n] w fun e w' => GivesBE w 5 (partB s a n) (partE s.length a n) e w' := by
  have hl := hs.len
  obtain ⟨ha1, ha2⟩ := bound_i64 ha
  by_cases h : n < 0 ∨ a < 0
  · have e1 : partE s.length a n = 1 := if_pos h
    have e2 : partB s a n = [] := if_neg (by rw [e1]; decide)
    rw [e1, e2]
    refine (part_arg A l c a n w h).mono ?_
    rintro e w' ⟨rfl, rfl⟩
    exact GivesBE.none_ _ _ _
  · by_cases h5 : (l : Int) < a + n
    · have e1 : partE s.length a n = 2 := by unfold partE; rw [if_neg h, if_pos (by omega)]
      have e2 : partB s a n = [] := if_neg (by rw [e1]; decide)
      rw [e1, e2]
      refine (part_short A l c a n w (Nat.le_trans hs.le hs.cap) (by omega) (by omega) ha2 h5).mono ?_
      rintro e w' ⟨rfl, rfl⟩
      exact GivesBE.none_ _ _ _
    · have e1 : partE s.length a n = 0 := by unfold partE; rw [if_neg h, if_neg (by omega)]
      have e2 : partB s a n = (s.drop a.toNat).take n.toNat := if_pos e1
      rw [e1, e2]
      obtain ⟨a, rfl⟩ := Int.eq_ofNat_of_zero_le (show 0 ≤ a by omega)
      obtain ⟨n, rfl⟩ := Int.eq_ofNat_of_zero_le (show 0 ≤ n by omega)
      rw [Int.toNat_natCast, Int.toNat_natCast]
      exact part_yes A l c s a n w hs (by omega) (by omega)

set_option maxHeartbeats 400000 in
theorem set_yes (A : Option Addr) (l c : Nat) (s : List UInt8) (a n v : Nat) (w : World) (hs : Bs w A l c s) (h1 : 1 ≤ n) (h2 : n ≤ 8) (h3 : a + n ≤ l) (hl : l ≤ 140737488355328) (hv : v < 256 ^ n) :
    Calls Try.prog 16 #[.slice A l c, .int .i64 a, .int .i64 n, .int .u64 v] w fun e w' => GivesBE w 5 (s.take a ++ be n v ++ s.drop (a + n)) 0 e w' := by
  obtain ⟨r, hr⟩ : ∃ r, r = s.take a ++ be n v ++ s.drop (a + n) := ⟨_, rfl⟩
  rw [← hr]
  have hjl : r.length ≤ 140737488355328 := by
    have := hs.len
    rw [hr]
    simp only [List.length_append, List.length_take, List.length_drop, be_length]; omega
  have Hr := Lib.hid hr
  clear hr
  have hp := pow256_le h2
  have e1 : putE v n = 0 := by unfold putE; rw [if_neg (by omega), Int.toNat_natCast, if_neg (by omega)]
  have e2 : putB v n = be n v := by unfold putB; rw [if_pos e1, Int.toNat_natCast]
  have hput := put_any v n w (by omega)
  rw [e1, e2] at hput
  have Hput := Lib.hid hput
  clear hput e1 e2 hp
  have hm : l ≤ maxLen := by simp only [maxLen]; omega
  have hd : decide ((n : Int) ≤ l - a) = true := by simp; omega
  have hd2 : decide ((a : Int) < 0) = false := by simp
  go_enter Try.func16, Try.ntmps16
  go_wp2_with fail
  refine (Hput.out).mono ?_
  rintro e w1 ⟨A1, c1, rfl, hown1, hb1⟩
  have hs1 := hs.below hb1
  rw [be_length] at hown1
  rw [be_length]
  go_wp2_with fail
  refine (has_any _ _ _ _ _ _ hm (by omega) (by omega)).mono ?_
  rintro e w' ⟨rfl, rfl⟩
  go_wp2_with fail
  obtain ⟨A2, c2, hsl2, hB2⟩ := hs1.slice_r Try.underlying22 byte_size (show a ≤ l by omega)
  obtain ⟨A3, c3, hsl3, hB3⟩ := hs1.slice_l Try.underlying22 byte_size (show a + n ≤ l by omega)
  have hcut2 := fun W => hsl2 W a rfl
  have hcut3 := fun W => hsl3 W (a + n) (by omega)
  clear hsl2 hsl3
  have hwr : IntKind.i64.wrap ((a : Int) + n) = (a : Int) + n := IntWalk.i64_in _ (by omega)
  go_still_tail 9, (by kernel_rfl)
  clear hwr
  have hp : ∀ p ∈ [⟨A2, a, c2, s.take a⟩, ⟨A1, n, c1, be n v⟩, (⟨A3, l - (a + n), c3, s.drop (a + n)⟩ : Part)], Bs w1.drew p.A p.n p.c p.s := by
    intro p hp
    simp only [List.mem_cons, List.not_mem_nil, or_false] at hp
    rcases hp with rfl | rfl | rfl
    · exact hB2
    · exact hown1.bs
    · exact hB3
  have hj := join_lit [⟨A2, a, c2, s.take a⟩, ⟨A1, n, c1, be n v⟩, ⟨A3, l - (a + n), c3, s.drop (a + n)⟩] r w1.drew hp (by rw [Hr.out]; simp [joined]) (by simp [maxLen]) hjl
  change wpList _ _ _ _ _ w1.drew
  have hb2 : Below w.heap.size w w1.drew := hb1.drew
  generalize w1.drew = w2 at *
  go_wp2_with fail
  refine hj.mono ?_
  rintro e w' ⟨A4, c4, rfl, hown, hbel⟩
  go_wp2
  go_ret2
  exact ⟨A4, c4, rfl, hown.mono hb2.size, hb2.trans (hbel.mono hb2.size)⟩

theorem set_splice (A : Option Addr) (l c : Nat) (s : List UInt8) (a n v : Nat) (w : World) (hs : Bs w A l c s) (h1 : 1 ≤ n) (h2 : n ≤ 8) (h3 : a + n ≤ l) (hl : l ≤ 140737488355328) (hv : v < 256 ^ n) (r : List UInt8) (hr : splice s a (be n v) = r) :
    Calls Try.prog 16 #[.slice A l c, .int .i64 a, .int .i64 n, .int .u64 v] w fun e w' => GivesBE w 5 r 0 e w' := by
  subst hr
  have := set_yes A l c s a n v w hs h1 h2 h3 hl hv
  unfold splice
  rwa [be_length]

theorem set_put (A : Option Addr) (l c : Nat) (a n : Int) (v : Nat) (w : World) (hv : v < 18446744073709551616) (h : putE v n ≠ 0) :
    Calls Try.prog 16 #[.slice A l c, .int .i64 a, .int .i64 n, .int .u64 v] w fun e w' => GivesBE w 5 [] (putE v n) e w' := by
  have e2 : putB v n = [] := if_neg h
  have hput := put_any v n w hv
  rw [e2] at hput
  have hz : (putE v n != 0) = true := by rw [bne_iff_ne]; exact h
  generalize putE v n = q at *
  have Hput := Lib.hid hput
  clear hput e2 h
  go_enter Try.func16, Try.ntmps16
  go_wp2_with fail
  refine (Hput.out).mono ?_
  rintro e w1 ⟨A1, c1, rfl, hown1, hb1⟩
  go_wp2_with fail
  go_ret2
  exact ⟨none, 0, rfl, Own.nil _ _ _, hb1⟩

theorem set_arg (A : Option Addr) (l c : Nat) (a n : Int) (v : Nat) (w : World) (hv : v < 18446744073709551616) (h : putE v n = 0) (ha : a < 0) :
    Calls Try.prog 16 #[.slice A l c, .int .i64 a, .int .i64 n, .int .u64 v] w fun e w' => GivesBE w 5 [] 1 e w' := by
  have hput := put_any v n w hv
  rw [h] at hput
  generalize putB v n = q at *
  have Hput := Lib.hid hput
  clear hput h
  go_enter Try.func16, Try.ntmps16
  go_wp2_with fail
  refine (Hput.out).mono ?_
  rintro e w1 ⟨A1, c1, rfl, hown1, hb1⟩
  go_wp2_with fail
  go_ret2
  exact ⟨none, 0, rfl, Own.nil _ _ _, hb1⟩

theorem set_short (A : Option Addr) (l c : Nat) (a n : Int) (v : Nat) (w : World) (hl : l ≤ maxLen) (hv : v < 18446744073709551616) (h : putE v n = 0) (ha : 0 ≤ a) (ha2 : a ≤ 9223372036854775807) (h5 : l < a + n) :
    Calls Try.prog 16 #[.slice A l c, .int .i64 a, .int .i64 n, .int .u64 v] w fun e w' => GivesBE w 5 [] 2 e w' := by
  have hput := put_any v n w hv
  have hd : decide (n ≤ l - a) = false := by simp; omega
  have hd2 : decide (a < 0) = false := by simp [ha]
  rw [h] at hput
  generalize putB v n = q at *
  have Hput := Lib.hid hput
  clear hput h
  go_enter Try.func16, Try.ntmps16
  go_wp2_with fail
  refine (Hput.out).mono ?_
  rintro e w1 ⟨A1, c1, rfl, hown1, hb1⟩
  go_wp2_with fail
  refine (has_any _ _ _ _ _ _ hl ha ha2).mono ?_
  rintro e w' ⟨rfl, rfl⟩
  go_wp2_with fail
  go_ret2
  exact ⟨none, 0, rfl, Own.nil _ _ _, hb1⟩

theorem set_any (A : Option Addr) (l c : Nat) (s : List UInt8) (a n : Int) (v : Nat) (w : World) (hs : Bs w A l c s) (ha : (Lit.int .i64 a).wf = true) (hl : l ≤ 140737488355328) (hv : v < 18446744073709551616) :
    Calls Try.prog 16 #[.slice A l c, .int .i64 a, .int .i64 n, .int .u64 v] w fun e w' => GivesBE w 5 (setB s a n v) (setE s.length a n v) e w' := by
  have hlen := hs.len
  obtain ⟨ha1, ha2⟩ := bound_i64 ha
  by_cases h : putE v n = 0
  · obtain ⟨h1, h2, h3⟩ := putE_zero h
    by_cases h4 : a < 0
    · have e1 : setE s.length a n v = 1 := by unfold setE; rw [if_neg (by simpa using h), if_pos h4]
      have e2 : setB s a n v = [] := if_neg (by rw [e1]; decide)
      rw [e1, e2]
      exact set_arg A l c a n v w hv h h4
    · by_cases h5 : (l : Int) < a + n
      · have e1 : setE s.length a n v = 2 := by unfold setE; rw [if_neg (by simpa using h), if_neg h4, if_pos (by omega)]
        have e2 : setB s a n v = [] := if_neg (by rw [e1]; decide)
        rw [e1, e2]
        exact set_short A l c a n v w (Nat.le_trans hs.le hs.cap) hv h (by omega) ha2 h5
      · have e1 : setE s.length a n v = 0 := by unfold setE; rw [if_neg (by simpa using h), if_neg h4, if_neg (by omega)]
        have e2 : setB s a n v = s.take a.toNat ++ be n.toNat v ++ s.drop (a.toNat + n.toNat) := if_pos e1
        rw [e1, e2]
        obtain ⟨a, rfl⟩ := Int.eq_ofNat_of_zero_le (show 0 ≤ a by omega)
        obtain ⟨n, rfl⟩ := Int.eq_ofNat_of_zero_le (show 0 ≤ n by omega)
        rw [Int.toNat_natCast, Int.toNat_natCast]
        rw [Int.toNat_natCast] at h3
        exact set_yes A l c s a n v w hs (by omega) (by omega) (by omega) hl h3
  · have e1 : setE s.length a n v = putE v n := by unfold setE; rw [if_pos h]
    have e2 : setB s a n v = [] := if_neg (by rw [e1]; exact h)
    rw [e1, e2]
    exact set_put A l c a n v w hv h

end Go.Proofs.Ythihnfdanjnmcaa

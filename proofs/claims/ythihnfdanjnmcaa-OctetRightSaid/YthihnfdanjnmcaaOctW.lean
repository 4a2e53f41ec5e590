/-
  The fixed answers that each statement of layer 1 begins with: 'awake' is true.
-/
import Derived.Test.YthihnfdanjnmcaaOctE
namespace Go.Proofs.Ythihnfdanjnmcaa
open Go.RowKit

theorem str_of {w : World} {A : Option Addr} {n c : Nat} {s : List UInt8} (h : Bs w A n c s) : (convert 22 9 (.slice A n c)).run Try.prog w = .ok (.string ⟨s.toArray⟩) w :=
  run_string_of w _ _ _ Try.underlying22 Try.underlying5 Try.underlying9 h

/-- Bytes that were just written out. -/
theorem Bs.lit (w : World) (s : List UInt8) (hm : s.length ≤ maxLen) : Bs (w.alloc (.cells (s.map byteV).toArray 5)) (some ⟨w.heap.size, 0, none⟩) s.length s.length s := by
  have := Sl.lit w (s.map byteV) 5 (by simpa using hm)
  rwa [List.length_map] at this

theorem get_lit (s : List UInt8) (a n : Int) (w : World) (hm : s.length ≤ maxLen) (ha : (Lit.int .i64 a).wf = true) (v : Nat) (err : Int) (hv : getV s a n = v) (he : getE s.length a n = err) :
    Calls Try.prog 8 #[.slice (some ⟨w.heap.size, 0, none⟩) s.length s.length, .int .i64 a, .int .i64 n] (w.alloc (.cells (s.map byteV).toArray 5)) fun e w' => e = .returned (.tuple #[.int .u64 v, .int .i64 err]) ∧ Below w.heap.size w w' := by
  subst hv he
  refine (get_any _ _ _ s a n _ (Bs.lit w s hm) ha).mono ?_
  rintro e w' ⟨rfl, rfl⟩
  exact ⟨rfl, (Below.refl _ _).alloc (Nat.le_refl _) _⟩

theorem signed_lit (s : List UInt8) (a n : Int) (w : World) (hm : s.length ≤ maxLen) (ha : (Lit.int .i64 a).wf = true) (v err : Int) (hv : signedV s a n = v) (he : getE s.length a n = err) :
    Calls Try.prog 10 #[.slice (some ⟨w.heap.size, 0, none⟩) s.length s.length, .int .i64 a, .int .i64 n] (w.alloc (.cells (s.map byteV).toArray 5)) fun e w' => e = .returned (.tuple #[.int .i64 v, .int .i64 err]) ∧ Below w.heap.size w w' := by
  subst hv he
  refine (signed_any _ _ _ s a n _ (Bs.lit w s hm) ha).mono ?_
  rintro e w' ⟨rfl, rfl⟩
  exact ⟨rfl, (Below.refl _ _).alloc (Nat.le_refl _) _⟩

theorem set_lit (s : List UInt8) (a n : Int) (v : Nat) (w : World) (hm : s.length ≤ 140737488355328) (ha : (Lit.int .i64 a).wf = true) (hv : v < 18446744073709551616) (r : List UInt8) (err : Int) (hr : setB s a n v = r) (he : setE s.length a n v = err) :
    Calls Try.prog 16 #[.slice (some ⟨w.heap.size, 0, none⟩) s.length s.length, .int .i64 a, .int .i64 n, .int .u64 v] (w.alloc (.cells (s.map byteV).toArray 5)) fun e w' => GivesBE w 5 r err e w' := by
  subst hr he
  refine (set_any _ _ _ s a n v _ (Bs.lit w s (by simp only [maxLen]; omega)) ha hm hv).mono ?_
  rintro e w' ⟨A, c, rfl, hown, hbel⟩
  exact ⟨A, c, rfl, hown.mono (by simp), ((Below.refl _ _).alloc (Nat.le_refl _) _).trans (hbel.mono (by simp))⟩

set_option maxRecDepth 100000 in
set_option maxHeartbeats 1000000 in
theorem awake_any (w : World) :
    Calls Try.prog 7 #[] w fun e w' => e = .returned (.bool true) ∧ Below w.heap.size w w' := by
  go_enter Try.func7, Try.ntmps7
  go_wp2_with fail
  refine (get_lit [1, 2, 3] 1 2 w (by simp [maxLen]) (by decide) 515 0 (by decide) (by decide)).mono ?_
  rintro e w1 ⟨rfl, hb1⟩
  go_wp2_with fail
  refine (signed_lit [255, 254] 0 2 w1 (by simp [maxLen]) (by decide) (-2) 0 (by decide) (by decide)).mono ?_
  rintro e w2 ⟨rfl, hb2⟩
  have hB2 := hb1.trans (hb2.mono hb1.size)
  clear hb1 hb2
  go_wp2_with fail
  refine (put_any 515 2 w2 (by decide)).mono ?_
  rintro e w3 ⟨A3, c3, rfl, hown3, hb3⟩
  rw [show putB 515 2 = [2, 3] from by decide, show putE 515 2 = 0 from by decide] at *
  have hs3 := hown3.bs
  have hB3 := hB2.trans (hb3.mono hB2.size)
  clear hb3 hB2 hown3
  go_wp2_with fail
  refine (set_lit [9, 9, 9] 1 2 515 w3 (by simp) (by decide) (by decide) [9, 2, 3] 0 (by decide) (by decide)).mono ?_
  rintro e w4 ⟨A4, c4, rfl, hown4, hb4⟩
  have hs4 := hown4.bs
  have hs3' := hs3.below hb4
  have hB4 := hB3.trans (hb4.mono hB3.size)
  clear hb4 hB3 hown4 hs3
  go_wp2_with fail
  refine (put_any 256 1 w4 (by decide)).mono ?_
  rintro e w5 ⟨A5, c5, rfl, hown5, hb5⟩
  rw [show putB 256 1 = [] from by decide, show putE 256 1 = 6 from by decide] at *
  have hs5 := hs3'.below hb5
  have hs6 := hs4.below hb5
  have hB5 := hB4.trans (hb5.mono hB4.size)
  clear hb5 hB4 hown5 hs3' hs4
  have t5 : (convert 22 9 (.slice A3 2 c3)).run Try.prog w5 = .ok (.string ⟨#[2, 3]⟩) w5 := str_of hs5
  have t6 : (convert 22 9 (.slice A4 3 c4)).run Try.prog w5 = .ok (.string ⟨#[9, 2, 3]⟩) w5 := str_of hs6
  go_wp2_with fail
  refine (join_lit [⟨A3, 2, c3, [2, 3]⟩, ⟨A3, 2, c3, [2, 3]⟩] [2, 3, 2, 3] w5 (by intro p hp; simp at hp; subst hp; exact hs5) rfl (by simp [maxLen]) (by simp)).mono ?_
  rintro e w7 ⟨A7, c7, rfl, hown7, hb7⟩
  have t7 : (convert 22 9 (.slice A7 4 c7)).run Try.prog w7 = .ok (.string ⟨#[2, 3, 2, 3]⟩) w7 := str_of hown7.bs
  have hB7 := hB5.trans (hb7.mono hB5.size)
  go_wp2
  go_ret
  exact ⟨rfl, hB7⟩

end Go.Proofs.Ythihnfdanjnmcaa

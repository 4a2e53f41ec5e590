/-
  The fixed answers that each statement of layer 2 begins with: 'awake' is true.
-/
import Derived.Test.YthkngjokbkfebaaRbitE
namespace Go.Proofs.Ythkngjokbkfebaa
open Go.RowKit

/-- An ink with a number more, told. -/
theorem add_told (A : Option Addr) (l c : Nat) (s : List UInt8) (m n : Int) (v : Nat) (w : World) (hs : Bs w A l c s) (r : List UInt8) (q : Nat) (k : Int) (hl : l ≤ 140737488355328) (hm : m ≤ 9223372036854775807) (hv : v < 18446744073709551616) (hr : addB s m v n = r) (hq : r.length = q) (hk : addM s m v n = k) (he : addE s m v n = 0) :
    Calls Try.prog 15 #[.agg #[.slice A l c, .int .i64 m], .int .u64 v, .int .i64 n] w fun e w' => ∃ A' c', e = .returned (.tuple #[.agg #[.slice A' q c', .int .i64 k], .int .i64 0]) ∧ Bs w' A' q c' r ∧ Below w.heap.size w w' := by
  refine (badd_any A l c s m n v w hs hl hm hv).mono ?_
  rintro e w' ⟨A', c', rfl, h1, h2⟩
  rw [hr, hq, hk, he] at *
  exact ⟨A', c', rfl, h1, h2⟩
theorem addr_told (A : Option Addr) (l c : Nat) (s : List UInt8) (m : Int) (v n : Nat) (w : World) (hs : Bs w A l c s) (r : List UInt8) (q : Nat) (k : Int) (hl : l ≤ 140737488355328) (hm : m ≤ 9223372036854775807) (hr : addrB s m v n = r) (hq : r.length = q) (hk : addrM s m v n = k) (he : addrE s m v n = 0) :
    Calls Try.prog 20 #[.agg #[.slice A l c, .int .i64 m], .int .u64 v, .int .u64 n] w fun e w' => ∃ A' c', e = .returned (.tuple #[.agg #[.slice A' q c', .int .i64 k], .int .i64 0]) ∧ Bs w' A' q c' r ∧ Below w.heap.size w w' := by
  refine (baddr_any A l c s m v n w hs hl hm).mono ?_
  rintro e w' ⟨A', c', rfl, h1, h2⟩
  rw [hr, hq, hk, he] at *
  exact ⟨A', c', rfl, h1, h2⟩
theorem get_told (A : Option Addr) (l c : Nat) (s : List UInt8) (a err n : Int) (w : World) (hs : Bs w A l c s) (a' err' : Int) (v : Nat) (hl : l ≤ 140737488355328) (h1 : bgetA s.length a err n = a') (h2 : bgetE s.length a err n = err') (h3 : bgetV s a err n = v) :
    Calls Try.prog 9 #[.agg #[.slice A l c, .int .i64 a, .int .i64 err], .int .i64 n] w (Says w (.tuple #[.agg #[.slice A l c, .int .i64 a', .int .i64 err'], .int .u64 v])) := by
  subst h1 h2 h3
  exact bget_any A l c s a err n w hs hl
theorem rng_told (A : Option Addr) (l c : Nat) (s : List UInt8) (a err : Int) (n : Nat) (w : World) (hs : Bs w A l c s) (a' err' : Int) (v : Nat) (hl : l ≤ 140737488355328) (h1 : brngA s a err n = a') (h2 : brngE s a err n = err') (h3 : brngV s a err n = v) :
    Calls Try.prog 13 #[.agg #[.slice A l c, .int .i64 a, .int .i64 err], .int .u64 n] w (Says w (.tuple #[.agg #[.slice A l c, .int .i64 a', .int .i64 err'], .int .u64 v])) := by
  subst h1 h2 h3
  exact brng_any A l c s a err n w hs hl
theorem left_told (A : Option Addr) (l c : Nat) (a err : Int) (w : World) (k : Int) (hl : l ≤ 140737488355328) (h : (if readerB l a err = true then 8 * (l : Int) - a else 0) = k) :
    Calls Try.prog 11 #[.agg #[.slice A l c, .int .i64 a, .int .i64 err]] w (Says w (.int .i64 k)) := by
  subst h
  exact left_any A l c a err w hl

set_option maxRecDepth 100000 in
set_option maxHeartbeats 2000000 in
theorem awake_any (w : World) :
    Calls Try.prog 7 #[] w fun e w' => e = .returned (.bool true) ∧ Below w.heap.size w w' := by
  go_enter Try.func7, Try.ntmps7
  go_wp2_with fail
  refine (add_told none 0 0 [] 0 3 5 w (Bs.nil w) [160] 1 3 (by decide) (by decide) (by decide) (by decide) rfl (by decide) (by decide)).mono ?_
  rintro e w1 ⟨A1, d1, rfl, hs1, hB⟩
  have hb1 := hB.size
  have k1 := Box.new w1 [.slice A1 1 d1, .int .i64 3] 27
  replace hB := hB.alloc hB.size (.cells #[.slice A1 1 d1, .int .i64 3] 27)
  go_wp2_with fail
  refine (addr_told A1 1 d1 [160] 3 3 5 _ (hs1.alloc _) [184] 1 6 (by decide) (by decide) (by decide) rfl (by decide) (by decide)).mono ?_
  rintro e w2 ⟨A2, d2, rfl, hs2, hb⟩
  replace k1 := k1.call hb
  replace hB := hB.trans (hb.mono hB.size)
  clear hb hs1
  obtain ⟨c0, c1, f0, f1, l1⟩ := k1.two
  go_wp2_with fail
  replace hs2 := hs2.box2 k1 (.slice A2 1 d2) (.int .i64 6)
  replace k1 := k1.put2 (.slice A2 1 d2) (.int .i64 6)
  replace hB := below_put2 hB hb1 (.slice A2 1 d2) (.int .i64 6)
  clear c0 c1 f0 f1 l1
  refine (add_told A2 1 d2 [184] 6 9 257 _ hs2 [186, 2] 2 15 (by decide) (by decide) (by decide) (by decide) rfl (by decide) (by decide)).mono ?_
  rintro e w3 ⟨A3, d3, rfl, hs3, hb⟩
  replace k1 := k1.call hb
  replace hB := hB.trans (hb.mono hB.size)
  clear hb hs2
  obtain ⟨c0, c1, f0, f1, l1⟩ := k1.two
  go_wp2_with fail
  replace hs3 := hs3.box2 k1 (.slice A3 2 d3) (.int .i64 15)
  replace k1 := k1.put2 (.slice A3 2 d3) (.int .i64 15)
  replace hB := below_put2 hB hb1 (.slice A3 2 d3) (.int .i64 15)
  clear c0 c1 f0 f1 l1
  refine (start_any A3 2 d3 _).mono ?_
  rintro e w4 ⟨rfl, hb⟩
  replace hs3 := hs3.below hb
  replace k1 := k1.call hb
  replace hB := hB.trans (hb.mono hB.size)
  clear hb
  go_wp2_with fail
  refine (get_told A3 2 d3 [186, 2] 0 0 3 w4 hs3 3 0 5 (by decide) (by decide) (by decide) (by decide)).mono ?_
  rintro e w5 ⟨rfl, hb⟩
  replace hs3 := (hs3.below hb).alloc (.cells #[.slice A3 2 d3, .int .i64 3, .int .i64 0] 25)
  replace k1 := k1.call hb
  have q1 : w1.heap.size ≠ w5.heap.size := Nat.ne_of_lt k1.2.2
  have q2 : w5.heap.size ≠ w1.heap.size := q1.symm
  replace k1 := k1.alloc (.cells #[.slice A3 2 d3, .int .i64 3, .int .i64 0] 25)
  replace hB := hB.trans (hb.mono hB.size)
  have hb5 := hB.size
  have kc := Box.new w5 [.slice A3 2 d3, .int .i64 3, .int .i64 0] 25
  replace hB := hB.alloc hB.size (.cells #[.slice A3 2 d3, .int .i64 3, .int .i64 0] 25)
  clear hb
  go_wp2_with fail
  refine (rng_told A3 2 d3 [186, 2] 3 0 5 _ hs3 6 0 3 (by decide) (by decide) (by decide) (by decide)).mono ?_
  rintro e w6 ⟨rfl, hb⟩
  replace hs3 := hs3.below hb
  replace k1 := k1.call hb
  replace kc := kc.call hb
  replace hB := hB.trans (hb.mono hB.size)
  clear hb
  obtain ⟨c2, c3, c4, f2, f3, f4, l2⟩ := kc.three
  go_wp2_with fail
  replace hs3 := hs3.box3 kc (.slice A3 2 d3) (.int .i64 6) (.int .i64 0)
  replace k1 := ((k1.other (p := ⟨w5.heap.size, 0, none⟩) (.slice A3 2 d3) q2).other (p := ⟨w5.heap.size, 1, none⟩) (.int .i64 6) q2).other (p := ⟨w5.heap.size, 2, none⟩) (.int .i64 0) q2
  replace kc := kc.put3 (.slice A3 2 d3) (.int .i64 6) (.int .i64 0)
  replace hB := below_put3 hB hb5 (.slice A3 2 d3) (.int .i64 6) (.int .i64 0)
  clear c2 c3 c4 f2 f3 f4 l2
  refine (get_told A3 2 d3 [186, 2] 6 0 9 _ hs3 15 0 257 (by decide) (by decide) (by decide) (by decide)).mono ?_
  rintro e w7 ⟨rfl, hb⟩
  replace hs3 := hs3.below hb
  replace k1 := k1.call hb
  replace kc := kc.call hb
  replace hB := hB.trans (hb.mono hB.size)
  clear hb
  obtain ⟨c2, c3, c4, f2, f3, f4, l2⟩ := kc.three
  go_wp2_with fail
  replace hs3 := hs3.box3 kc (.slice A3 2 d3) (.int .i64 15) (.int .i64 0)
  replace k1 := ((k1.other (p := ⟨w5.heap.size, 0, none⟩) (.slice A3 2 d3) q2).other (p := ⟨w5.heap.size, 1, none⟩) (.int .i64 15) q2).other (p := ⟨w5.heap.size, 2, none⟩) (.int .i64 0) q2
  replace kc := kc.put3 (.slice A3 2 d3) (.int .i64 15) (.int .i64 0)
  replace hB := below_put3 hB hb5 (.slice A3 2 d3) (.int .i64 15) (.int .i64 0)
  clear c2 c3 c4 f2 f3 f4 l2
  refine (get_told A3 2 d3 [186, 2] 15 0 9 _ hs3 15 2 0 (by decide) (by decide) (by decide) (by decide)).mono ?_
  rintro e w8 ⟨rfl, hb⟩
  replace hs3 := hs3.below hb
  replace k1 := k1.call hb
  replace kc := kc.call hb
  replace hB := hB.trans (hb.mono hB.size)
  clear hb
  have q3 : w1.heap.size ≠ w8.heap.size := Nat.ne_of_lt k1.2.2
  have q4 : w8.heap.size ≠ w1.heap.size := q3.symm
  have q5 : w5.heap.size ≠ w8.heap.size := Nat.ne_of_lt kc.2.2
  have q6 : w8.heap.size ≠ w5.heap.size := q5.symm
  obtain ⟨c2, c3, c4, f2, f3, f4, l2⟩ := kc.three
  obtain ⟨c0, c1, f0, f1, l1⟩ := k1.two
  go_wp2_with fail
  refine (bright_is A3 2 d3 [186, 2] 15 _ (hs3.alloc _) (by decide) (by decide) true (by decide)).mono ?_
  rintro e w9 ⟨rfl, hb⟩
  have kd := (Box.new w8 [.slice A3 2 d3, .int .i64 15, .int .i64 2] 25).call hb
  replace hs3 := (hs3.alloc _).below hb
  replace k1 := (k1.alloc _).call hb
  replace kc := (kc.alloc _).call hb
  replace hB := (hB.alloc hB.size _).trans (hb.mono (by have := hB.size; simp; omega))
  clear hb c2 c3 c4 f2 f3 f4 l2 c0 c1 f0 f1 l1
  obtain ⟨c2, c3, c4, f2, f3, f4, l2⟩ := kc.three
  obtain ⟨c0, c1, f0, f1, l1⟩ := k1.two
  go_wp2_with fail
  refine (left_told A3 2 d3 15 0 _ 1 (by decide) (by decide)).mono ?_
  rintro e w10 ⟨rfl, hb⟩
  replace hs3 := hs3.below hb
  replace k1 := k1.call hb
  replace kc := kc.call hb
  replace kd := kd.call hb
  replace hB := hB.trans (hb.mono hB.size)
  clear hb c2 c3 c4 f2 f3 f4 l2 c0 c1 f0 f1 l1
  obtain ⟨c0, c1, f0, f1, l1⟩ := k1.two
  obtain ⟨c5, c6, c7, f5, f6, f7, l3⟩ := kd.three
  have t1 : (convert 22 9 (.slice A3 2 d3)).run Try.prog w10 = .ok (.string ⟨#[186, 2]⟩) w10 := str_of hs3
  go_wp2
  go_ret
  exact ⟨rfl, hB⟩

end Go.Proofs.Ythkngjokbkfebaa

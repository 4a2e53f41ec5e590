/-
  The walk of the statement OctetRight.
-/
import Derived.Test.YthihnfdanjnmcaaRefOct
namespace Go.Proofs.Ythihnfdanjnmcaa
open Go.RowKit

set_option maxRecDepth 100000 in
set_option maxHeartbeats 400000 in
theorem octetRight_big (A : Option Addr) (l c : Nat) (a n : Int) (v : Nat) (t : Int) (w : World) (hl : 3000 < l) (hm : l ≤ maxLen) :
    Calls Try.prog 3 #[.slice A l c, .int .i64 a, .int .i64 n, .int .u64 v, .int .i64 t] w fun e w' => e = .returned (.bool true) ∧ Below w.heap.size w w' := by
  unfold maxLen at hm
  go_enter Try.func3, Try.ntmps3
  go_wp2_with fail
  refine (awake_any _).mono ?_
  rintro e w1 ⟨rfl, hb1⟩
  go_wp2
  go_ret
  exact ⟨rfl, hb1⟩

set_option maxRecDepth 100000 in
set_option maxHeartbeats 2000000 in
theorem octetRight_main (A : Option Addr) (l c : Nat) (s : List UInt8) (a n : Int) (v : Nat) (t : Int) (w : World) (hs : Bs w A l c s) (hl : l ≤ 3000) (ha : (Lit.int .i64 a).wf = true) (ht : (Lit.int .i64 t).wf = true) (hv : v < 18446744073709551616) :
    Calls Try.prog 3 #[.slice A l c, .int .i64 a, .int .i64 n, .int .u64 v, .int .i64 t] w fun e w' => e = .returned (.bool true) ∧ Below w.heap.size w w' := by
  have d1 := fun w hs => get_any A l c s a n w hs ha
  have d2 := fun w hs => rget_any A l c s a n w hs ha
  have d3 := fun w hs => signed_any A l c s a n w hs ha
  have d4 := fun w hs => rsigned_any A l c s a n w hs ha
  have d5 := fun w => put_any v n w hv
  have d6 := fun w => rput_any v n w hv
  have d7 := fun w => puts_any t n w
  have d8 := fun w => rputs_any t n w ht
  have d9 := fun w hs => set_any A l c s a n v w hs ha (by omega) hv
  have d10 := fun w hs => rset_any A l c s a n v w hs ha (by omega) hv
  generalize getV s a n = gv at *
  generalize signedV s a n = sv at *
  generalize getE s.length a n = ge at *
  generalize setB s a n v = xb at *
  generalize setE s.length a n v = xe at *
  generalize putB v n = pb at *
  generalize putE v n = pe at *
  generalize putSB t n = qb at *
  generalize putSE t n = qe at *
  have D1 := Lib.hid d1
  have D2 := Lib.hid d2
  have D3 := Lib.hid d3
  have D4 := Lib.hid d4
  have D5 := Lib.hid d5
  have D6 := Lib.hid d6
  have D7 := Lib.hid d7
  have D8 := Lib.hid d8
  have D9 := Lib.hid d9
  have D10 := Lib.hid d10
  clear d1 d2 d3 d4 d5 d6 d7 d8 d9 d10 hv
  go_enter Try.func3, Try.ntmps3
  go_wp2_with fail
  refine (awake_any _).mono ?_
  rintro e w1 ⟨rfl, hB1⟩
  have hs1 := hs.below hB1
  go_wp2_with fail
  refine (D1.out _ hs1).mono ?_
  rintro e w2 ⟨rfl, rfl⟩
  go_wp2_with fail
  refine (D2.out _ hs1).mono ?_
  rintro e w2 ⟨rfl, rfl⟩
  go_wp2_with fail
  refine (D3.out _ hs1).mono ?_
  rintro e w2 ⟨rfl, rfl⟩
  go_wp2_with fail
  refine (D4.out _ hs1).mono ?_
  rintro e w2 ⟨rfl, rfl⟩
  go_wp2_with fail
  refine (D5.out _).mono ?_
  rintro e w2 ⟨A2, c2, rfl, hown2, hb2⟩
  have hs2 := hs1.below hb2
  have hB2 := hB1.trans (hb2.mono hB1.size)
  go_wp2_with fail
  refine (D6.out _).mono ?_
  rintro e w3 ⟨A3, c3, rfl, hown3, hb3⟩
  have hs3 := hs2.below hb3
  have hB3 := hB2.trans (hb3.mono hB2.size)
  have t2 := str_of (hown2.below hb3).bs
  have t3 := str_of hown3.bs
  clear hs1 hs2 hB1 hB2 hown2 hown3 hb2 hb3
  go_wp2_with fail
  refine (D7.out _).mono ?_
  rintro e w4 ⟨A4, c4, rfl, hown4, hb4⟩
  have hs4 := hs3.below hb4
  have hB4 := hB3.trans (hb4.mono hB3.size)
  clear t2 t3
  go_wp2_with fail
  refine (D8.out _).mono ?_
  rintro e w5 ⟨A5, c5, rfl, hown5, hb5⟩
  have hs5 := hs4.below hb5
  have hB5 := hB4.trans (hb5.mono hB4.size)
  have t4 := str_of (hown4.below hb5).bs
  have t5 := str_of hown5.bs
  clear hs3 hs4 hB3 hB4 hown4 hown5 hb4 hb5
  go_wp2_with fail
  refine (D9.out _ hs5).mono ?_
  rintro e w6 ⟨A6, c6, rfl, hown6, hb6⟩
  have hs6 := hs5.below hb6
  have hB6 := hB5.trans (hb6.mono hB5.size)
  clear t4 t5
  go_wp2_with fail
  refine (D10.out _ hs6).mono ?_
  rintro e w7 ⟨A7, c7, rfl, hown7, hb7⟩
  have hB7 := hB6.trans (hb7.mono hB6.size)
  have t6 := str_of (hown6.below hb7).bs
  have t7 := str_of hown7.bs
  go_wp2
  go_ret
  exact ⟨rfl, hB7⟩

theorem octetRight_all (A : Option Addr) (l c : Nat) (s : List UInt8) (a n v t : Int) (w : World) (hs : Bs w A l c s) (ha : (Lit.int .i64 a).wf = true) (hv : (Lit.int .u64 v).wf = true) (ht : (Lit.int .i64 t).wf = true) :
    Calls Try.prog 3 #[.slice A l c, .int .i64 a, .int .i64 n, .int .u64 v, .int .i64 t] w fun e w' => e = .returned (.bool true) ∧ Below w.heap.size w w' := by
  obtain ⟨v1, v2⟩ := bound_u64 hv
  obtain ⟨v, rfl⟩ := Int.eq_ofNat_of_zero_le v1
  have hle := hs.le
  have hcap := hs.cap
  by_cases hl : 3000 < l
  · exact octetRight_big A l c a n v t w hl (by omega)
  · exact octetRight_main A l c s a n v t w hs (by omega) ha ht (by omega)

end Go.Proofs.Ythihnfdanjnmcaa

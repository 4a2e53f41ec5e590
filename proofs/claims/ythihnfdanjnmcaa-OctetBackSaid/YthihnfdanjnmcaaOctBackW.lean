/-
  The walk of the statement OctetBack.
-/
import Derived.Test.YthihnfdanjnmcaaOctW
import Derived.Deep.DeepCutAuto
namespace Go.Proofs.Ythihnfdanjnmcaa
open Go.RowKit

/-- What holds between the parts of the walk. -/
def BackRel (w : World) (A : Option Addr) (l c : Nat) (s : List UInt8) (W : World) : Prop := Below w.heap.size w W ∧ Bs W A l c s

theorem int_beq_false {a b : Int} (h : a ≠ b) : (a == b) = false := beq_eq_false_iff_ne.2 h

set_option maxRecDepth 100000 in
set_option maxHeartbeats 400000 in
theorem octetBack_big (A : Option Addr) (l c : Nat) (a n : Int) (v u : Nat) (t : Int) (w : World) (hl : 3000 < l) (hm : l ≤ maxLen) :
    Calls Try.prog 4 #[.slice A l c, .int .i64 a, .int .i64 n, .int .u64 v, .int .u64 u, .int .i64 t] w fun e w' => e = .returned (.bool true) ∧ Below w.heap.size w w' := by
  unfold maxLen at hm
  go_enter Try.func4, Try.ntmps4
  go_wp2_with fail
  refine (awake_any _).mono ?_
  rintro e w1 ⟨rfl, hb1⟩
  go_wp2
  go_ret
  exact ⟨rfl, hb1⟩

set_option maxRecDepth 100000 in
set_option maxHeartbeats 2000000 in
theorem octetBack_main (A : Option Addr) (l c : Nat) (s : List UInt8) (a n : Int) (v u : Nat) (t : Int) (w : World) (hs : Bs w A l c s) (hl : l ≤ 3000) (ha : (Lit.int .i64 a).wf = true) (hv : v < 18446744073709551616) (hu : u < 18446744073709551616) :
    Calls Try.prog 4 #[.slice A l c, .int .i64 a, .int .i64 n, .int .u64 v, .int .u64 u, .int .i64 t] w fun e w' => e = .returned (.bool true) ∧ Below w.heap.size w w' := by
  have Hv := Lib.hid hv
  have Hu := Lib.hid hu
  clear hv hu
  go_enter Try.func4, Try.ntmps4
  go_wp2_with fail
  refine (awake_any _).mono ?_
  rintro e w1 ⟨rfl, hb1⟩
  have hs1 := hs.below hb1
  go_wp2_with fail
  refine (put_any v n _ Hv.out).mono ?_
  rintro e w2 ⟨A2, c2, rfl, hown2, hb2⟩
  have hs2 := hs1.below hb2
  have hB2 := hb1.trans (hb2.mono hb1.size)
  have hz : putE v n = 0 → (putB v n).length = n ∧ 1 ≤ n ∧ n ≤ 8 ∧ num (putB v n) = v := by
    intro h
    obtain ⟨h1, h2, h3⟩ := putE_zero h
    have : putB v n = be n.toNat v := if_pos h
    rw [this, be_length, num_be, Nat.mod_eq_of_lt h3]
    omega
  have hz2 : putE v n = 0 → putE u n = 0 → (putB v n == putB u n) = ((v : Int) == (u : Int)) := by
    intro h h'
    obtain ⟨h1, h2, h3⟩ := putE_zero h
    obtain ⟨_, _, h3'⟩ := putE_zero h'
    have e1 : putB v n = be n.toNat v := if_pos h
    have e2 : putB u n = be n.toNat u := if_pos h'
    rw [Bool.eq_iff_iff, beq_iff_eq, beq_iff_eq, e1, e2]
    constructor
    · intro h; rw [be_inj h3 h3' h]
    · intro h; rw [Int.ofNat_inj.1 h]
  generalize putB v n = x at *
  generalize putE v n = q at *
  have Hz := Lib.hid hz
  have Hz2 := Lib.hid hz2
  clear hz hz2 hs hs1 hb1 hb2
  go_upto_if 41 with fail
  go_cut [13] (fun _ W => BackRel w A l c s W)
  case first =>
    by_cases hq0 : q = 0
    · obtain ⟨hxl, h1, h2, hnum⟩ := Hz.out hq0
      have Hz3 := Lib.hid (Hz2.out hq0)
      subst hq0
      obtain ⟨n, rfl⟩ := Int.eq_ofNat_of_zero_le (show 0 ≤ n by omega)
      obtain ⟨r, hr⟩ : ∃ r, r = s ++ x ++ s := ⟨_, rfl⟩
      have hsl := hs2.len
      have hxn : x.length = n := by omega
      rw [hxn] at hown2 ⊢
      have hrl : r.length = l + n + l := by rw [hr]; simp; omega
      have hwin : num ((r.drop l).take n) = v := by rw [hr, ← hsl, ← hxn, window, hnum]
      have hj := join_lit [⟨A, l, c, s⟩, ⟨A2, n, c2, x⟩, ⟨A, l, c, s⟩] r w2 (by
        intro p hp
        simp only [List.mem_cons, List.not_mem_nil, or_false] at hp
        rcases hp with rfl | rfl | rfl
        · exact hs2
        · exact hown2.bs
        · exact hs2) (by rw [hr]; simp [joined]) (by simp [maxLen]) (by omega)
      have hg := fun W A' c' (h : Bs W A' r.length c' r) => get_yes A' r.length c' r l n W h (by omega) (by omega) (by omega)
      rw [hwin] at hg
      have Hj := Lib.hid hj
      have Hg := Lib.hid hg
      have Hxn := Lib.hid hxn
      clear Hz Hz2 hr hsl hxn hrl hwin hj hg hnum hxl
      go_wp2_with fail
      refine Hj.out.mono ?_
      rintro e w3 ⟨A3, c3, rfl, hown3, hb3⟩
      go_wp2_with fail
      refine (Hg.out _ _ _ hown3.bs).mono ?_
      rintro e w4 ⟨rfl, rfl⟩
      go_wp2_with fail
      refine (put_any u n _ Hu.out).mono ?_
      rintro e w5 ⟨A5, c5, rfl, hown5, hb5⟩
      have hR : BackRel w A l c s w5 := ⟨(hB2.trans (hb3.mono hB2.size)).trans (hb5.mono (Nat.le_trans hB2.size hb3.size)), (hs2.below hb3).below hb5⟩
      have s5 := str_of hown5.bs
      have s2 := str_of ((hown2.below hb3).below hb5).bs
      by_cases hu0 : putE u n = 0
      · have hz3 := Hz3.out hu0
        rw [hu0]
        generalize putB u n = y at *
        by_cases hvu : (v : Int) = u
        · have e1 : ((v : Int) == (u : Int)) = true := by rw [hvu, beq_self_eq_true]
          rw [e1] at hz3
          clear hvu
          go_wp2_with fail
          go_meet
          exact hR
        · have e1 : ((v : Int) == (u : Int)) = false := int_beq_false hvu
          rw [e1] at hz3
          clear hvu
          go_wp2_with fail
          go_meet
          exact hR
      · have hz4 : (putE u n == 0) = false := int_beq_false hu0
        generalize putE u n = k at *
        generalize putB u n = y at *
        clear hu0
        go_wp2_with fail
        go_meet
        exact hR
    · have hz : (q == 0) = false := int_beq_false hq0
      clear hq0 Hz Hz2
      go_wp2_with fail
      go_meet
      exact ⟨hB2, hs2⟩
  case rest =>
    obtain ⟨hB3, hs3⟩ := hcut
    generalize wc = w3 at *
    clear hown2 Hz Hz2 Hu Hv hB2 hs2
    go_wp2_with fail
    refine (puts_any t n _).mono ?_
    rintro e w4 ⟨A4, c4, rfl, hown4, hb4⟩
    have hs4 := hs3.below hb4
    have hB4 := hB3.trans (hb4.mono hB3.size)
    have hz : putSE t n = 0 → (putSB t n).length = n ∧ 1 ≤ n ∧ n ≤ 8 ∧ sgn n.toNat (num (putSB t n)) = t := by
      intro h
      obtain ⟨h1, h2, h3, h4⟩ := putSE_zero h
      have e : putSB t n = be n.toNat (unsgn n.toNat t) := if_pos h
      obtain ⟨e1, e2⟩ := sgn_unsgn n.toNat t h3 h4
      rw [e, be_length, num_be, Nat.mod_eq_of_lt e2, e1]
      omega
    generalize putSB t n = x1 at *
    generalize putSE t n = q1 at *
    have Hz := Lib.hid hz
    clear hz hs3 hB3 hb4
    go_upto_if 95 with fail
    go_cut [13] (fun _ W => BackRel w A l c s W)
    case first =>
      by_cases hq0 : q1 = 0
      · obtain ⟨hxl, h1, h2, hnum⟩ := Hz.out hq0
        subst hq0
        obtain ⟨n, rfl⟩ := Int.eq_ofNat_of_zero_le (show 0 ≤ n by omega)
        obtain ⟨r, hr⟩ : ∃ r, r = s ++ x1 := ⟨_, rfl⟩
        have hsl := hs4.len
        have hxn : x1.length = n := by omega
        rw [hxn] at hown4 ⊢
        rw [Int.toNat_natCast] at hnum
        have hrl : r.length = l + n := by rw [hr]; simp; omega
        have hwin : sgn n (num ((r.drop l).take n)) = t := by
          have := window s x1 []
          rw [List.append_nil, hsl, hxn, ← hr] at this
          rw [this, hnum]
        have hj := join_lit [⟨A, l, c, s⟩, ⟨A4, n, c4, x1⟩] r w4 (by
          intro p hp
          simp only [List.mem_cons, List.not_mem_nil, or_false] at hp
          rcases hp with rfl | rfl
          · exact hs4
          · exact hown4.bs) (by rw [hr]; simp [joined]) (by simp [maxLen]) (by omega)
        have hg := fun W A' c' (h : Bs W A' r.length c' r) => signed_yes A' r.length c' r l n W h (by omega) (by omega) (by omega)
        rw [hwin] at hg
        have Hj := Lib.hid hj
        have Hg := Lib.hid hg
        have Hxn := Lib.hid hxn
        clear Hz hr hsl hxn hrl hwin hj hg hnum hxl
        go_wp2_with fail
        refine Hj.out.mono ?_
        rintro e w5 ⟨A5, c5, rfl, hown5, hb5⟩
        have hR : BackRel w A l c s w5 := ⟨hB4.trans (hb5.mono hB4.size), hs4.below hb5⟩
        go_wp2_with fail
        refine (Hg.out _ _ _ hown5.bs).mono ?_
        rintro e w6 ⟨rfl, rfl⟩
        go_wp2_with fail
        go_meet
        exact hR
      · have hz : (q1 == 0) = false := int_beq_false hq0
        clear hq0 Hz
        go_wp2_with fail
        go_meet
        exact ⟨hB4, hs4⟩
    case rest =>
      obtain ⟨hB5, hs5⟩ := hcut
      generalize wc = w5 at *
      clear hown4 Hz hB4 hs4
      have hsl := hs5.len
      by_cases hE : getE s.length a n = 0
      · obtain ⟨h1, h2, h3, h4⟩ := getE_zero hE
        obtain ⟨a, rfl⟩ := Int.eq_ofNat_of_zero_le h3
        obtain ⟨n, rfl⟩ := Int.eq_ofNat_of_zero_le (show 0 ≤ n by omega)
        obtain ⟨y, hy⟩ : ∃ y, y = (s.drop a).take n := ⟨_, rfl⟩
        have hyl : y.length = n := by rw [hy]; simp; omega
        have hnl : num y < 256 ^ n := by have := num_lt y; rwa [hyl] at this
        have hp8 := pow256_le (n := n) (by omega)
        have d1 := fun w hs => get_yes A l c s a n w hs (by omega) (by omega) (by omega)
        have d2 := fun w hs => signed_yes A l c s a n w hs (by omega) (by omega) (by omega)
        have d5 := fun w hs => part_at A l c s a n a n w hs rfl rfl (by omega) (by omega) y hy.symm
        rw [← hy] at d1 d2
        obtain ⟨k1, k2, k3⟩ := unsgn_sgn n (num y) hnl
        have hbe : be n (num y) = y := by have := be_num y; rwa [hyl] at this
        have d3 := fun w => put_any (num y) n w (by omega)
        have d4 := fun w => puts_any (sgn n (num y)) n w
        rw [(putE_yes (by omega) (by omega) hnl).1, (putE_yes (by omega) (by omega) hnl).2, hbe] at d3
        rw [(putSE_yes (by omega) (by omega) k2 k3).1, (putSE_yes (by omega) (by omega) k2 k3).2, k1, hbe] at d4
        generalize sgn n (num y) = ti at *
        generalize num y = ui at *
        have D1 := Lib.hid d1
        have D2 := Lib.hid d2
        have D3 := Lib.hid d3
        have D4 := Lib.hid d4
        have D5 := Lib.hid d5
        clear d1 d2 d3 d4 d5 hy hyl hnl hp8 k1 k2 k3 hbe hsl hE
        go_wp2_with fail
        refine (D1.out _ hs5).mono ?_
        rintro e w6 ⟨rfl, rfl⟩
        go_wp2_with fail
        refine (D2.out _ hs5).mono ?_
        rintro e w6 ⟨rfl, rfl⟩
        go_wp2_with fail
        refine (D3.out _).mono ?_
        rintro e w6 ⟨A6, c6, rfl, hown6, hb6⟩
        go_wp2_with fail
        refine (D4.out _).mono ?_
        rintro e w7 ⟨A7, c7, rfl, hown7, hb7⟩
        go_wp2_with fail
        refine (D5.out _ ((hs5.below hb6).below hb7)).mono ?_
        rintro e w8 ⟨A8, c8, rfl, hown8, hb8⟩
        have t6 := str_of ((hown6.below hb7).below hb8).bs
        have t7 := str_of (hown7.below hb8).bs
        have t8 := str_of hown8.bs
        have hB6 := hB5.trans (hb6.mono hB5.size)
        have hB7 := hB6.trans (hb7.mono hB6.size)
        have hB8 := hB7.trans (hb8.mono hB7.size)
        go_wp2
        go_ret
        exact ⟨rfl, hB8⟩
      · have e1 : getV s a n = 0 := if_neg hE
        have e2 : signedV s a n = 0 := if_neg hE
        have d1 := fun w hs => get_any A l c s a n w hs ha
        have d2 := fun w hs => signed_any A l c s a n w hs ha
        rw [e1] at d1
        rw [e2] at d2
        have hz : (getE s.length a n != 0) = true := by rw [bne_iff_ne]; exact hE
        generalize getE s.length a n = k at *
        have D1 := Lib.hid d1
        have D2 := Lib.hid d2
        clear d1 d2 hE e1 e2 hsl
        go_wp2_with fail
        refine (D1.out _ hs5).mono ?_
        rintro e w6 ⟨rfl, rfl⟩
        go_wp2_with fail
        refine (D2.out _ hs5).mono ?_
        rintro e w6 ⟨rfl, rfl⟩
        go_wp2
        go_ret
        exact ⟨rfl, hB5⟩

theorem octetBack_all (A : Option Addr) (l c : Nat) (s : List UInt8) (a n v u t : Int) (w : World) (hs : Bs w A l c s) (ha : (Lit.int .i64 a).wf = true) (hv : (Lit.int .u64 v).wf = true) (hu : (Lit.int .u64 u).wf = true) :
    Calls Try.prog 4 #[.slice A l c, .int .i64 a, .int .i64 n, .int .u64 v, .int .u64 u, .int .i64 t] w fun e w' => e = .returned (.bool true) ∧ Below w.heap.size w w' := by
  obtain ⟨v1, v2⟩ := bound_u64 hv
  obtain ⟨u1, u2⟩ := bound_u64 hu
  obtain ⟨v, rfl⟩ := Int.eq_ofNat_of_zero_le v1
  obtain ⟨u, rfl⟩ := Int.eq_ofNat_of_zero_le u1
  have hle := hs.le
  have hcap := hs.cap
  by_cases hl : 3000 < l
  · exact octetBack_big A l c a n v u t w hl (by omega)
  · exact octetBack_main A l c s a n v u t w hs (by omega) ha (by omega) (by omega)

end Go.Proofs.Ythihnfdanjnmcaa

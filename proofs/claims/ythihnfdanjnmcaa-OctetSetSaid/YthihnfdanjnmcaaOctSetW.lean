/-
  The walk of the statement OctetSet.
-/
import Derived.Test.YthihnfdanjnmcaaOctW
import Derived.Deep.QuietTactic
import Derived.BigQuiet
namespace Go.Proofs.Ythihnfdanjnmcaa
open Go.RowKit

/-- What holds while the loop runs. -/
def SetRel (w : World) (A : Option Addr) (l c : Nat) (s : List UInt8) (A2 : Option Addr) (c2 : Nat) (x : List UInt8) (W : World) : Prop := Below w.heap.size w W ∧ Bs W A l c s ∧ Bs W A2 l c2 x

theorem SetRel.drewN {w : World} {A : Option Addr} {l c : Nat} {s : List UInt8} {A2 : Option Addr} {c2 : Nat} {x : List UInt8} {W : World} (h : SetRel w A l c s A2 c2 x W) (n : Nat) : SetRel w A l c s A2 c2 x (W.drewN n) :=
  ⟨⟨h.1.os, h.1.tape, h.1.output, h.1.size, h.1.block⟩, h.2.1.drewN n, h.2.2.drewN n⟩

set_option maxRecDepth 100000 in
set_option maxHeartbeats 400000 in
theorem octetSet_big (A : Option Addr) (l c : Nat) (a n b m : Int) (v u : Nat) (w : World) (hl : 3000 < l) (hm : l ≤ maxLen) :
    Calls Try.prog 5 #[.slice A l c, .int .i64 a, .int .i64 n, .int .i64 b, .int .i64 m, .int .u64 v, .int .u64 u] w fun e w' => e = .returned (.bool true) ∧ Below w.heap.size w w' := by
  unfold maxLen at hm
  go_enter Try.func5, Try.ntmps5
  go_wp2_with fail
  refine (awake_any _).mono ?_
  rintro e w1 ⟨rfl, hb1⟩
  go_wp2
  go_ret
  exact ⟨rfl, hb1⟩

set_option maxRecDepth 100000 in
set_option maxHeartbeats 400000 in
theorem octetSet_none (A : Option Addr) (l c : Nat) (s : List UInt8) (a n b m : Int) (v u : Nat) (w : World) (hs : Bs w A l c s) (hl : l ≤ 3000) (ha : (Lit.int .i64 a).wf = true) (hv : v < 18446744073709551616) (h : setE s.length a n v ≠ 0) :
    Calls Try.prog 5 #[.slice A l c, .int .i64 a, .int .i64 n, .int .i64 b, .int .i64 m, .int .u64 v, .int .u64 u] w fun e w' => e = .returned (.bool true) ∧ Below w.heap.size w w' := by
  have e1 : setB s a n v = [] := if_neg h
  have d1 := fun w hs => set_any A l c s a n v w hs ha (by omega) hv
  rw [e1] at d1
  have hz : (setE s.length a n v != 0) = true := by rw [bne_iff_ne]; exact h
  generalize setE s.length a n v = q at *
  have D1 := Lib.hid d1
  clear d1 e1 h hv
  go_enter Try.func5, Try.ntmps5
  go_wp2_with fail
  refine (awake_any _).mono ?_
  rintro e w1 ⟨rfl, hb1⟩
  go_wp2_with fail
  refine (D1.out _ (hs.below hb1)).mono ?_
  rintro e w2 ⟨A2, c2, rfl, hown2, hb2⟩
  go_wp2
  go_ret
  exact ⟨rfl, hb1.trans (hb2.mono hb1.size)⟩

set_option maxRecDepth 100000 in
set_option maxHeartbeats 2000000 in
theorem octetSet_main (A : Option Addr) (l c : Nat) (s : List UInt8) (a n : Nat) (b m : Int) (v u : Nat) (w : World) (hs : Bs w A l c s) (hl : l ≤ 3000) (h1 : 1 ≤ n) (h2 : n ≤ 8) (h3 : a + n ≤ l) (hv : v < 256 ^ n)
    (hb : (Lit.int .i64 b).wf = true) (hm : (Lit.int .i64 m).wf = true) (hu : u < 18446744073709551616) :
    Calls Try.prog 5 #[.slice A l c, .int .i64 a, .int .i64 n, .int .i64 b, .int .i64 m, .int .u64 v, .int .u64 u] w fun e w' => e = .returned (.bool true) ∧ Below w.heap.size w w' := by
  have hlen := hs.len
  obtain ⟨x, hx⟩ : ∃ x, x = splice s a (be n v) := ⟨_, rfl⟩
  have hxl : x.length = l := by rw [hx, splice_length _ _ _ (by rw [be_length]; omega), hlen]
  have hp8 := pow256_le (n := n) h2
  obtain ⟨p, hp⟩ : ∃ p, p = (s.drop a).take n := ⟨_, rfl⟩
  have hpl : p.length = n := by rw [hp]; simp; omega
  have hpn : num p < 256 ^ n := by have := num_lt p; rwa [hpl] at this
  have hbe : be n (num p) = p := by have := be_num p; rwa [hpl] at this
  have hback : splice x a p = s := by
    rw [hx, splice_twice _ _ _ _ (by rw [be_length]; omega) (by rw [hpl, be_length]), splice_same _ _ _ (by omega) (by rw [hpl]; exact hp.symm)]
  have hnx : num ((x.drop a).take n) = v := by
    have := splice_window s (be n v) a (by rw [be_length]; omega)
    rw [be_length, ← hx] at this
    rw [this, num_be, Nat.mod_eq_of_lt hv]
  have houtside : ∀ k, (k < a ∨ a + n ≤ k) → x.getD k 0 = s.getD k 0 := by
    intro k hk
    rw [List.getD_eq_getElem?_getD, List.getD_eq_getElem?_getD, hx, splice_get _ _ _ _ (by rw [be_length]; omega), be_length]
    by_cases h5 : k < a
    · rw [if_pos h5]
    · rw [if_neg h5, if_neg (by omega)]
  have d1 := fun w hs => set_splice A l c s a n v w hs h1 h2 h3 (by omega) hv x hx.symm
  have d2 := fun w A' c' (h : Bs w A' l c' x) => get_yes A' l c' x a n w h h1 h2 h3
  rw [hnx] at d2
  have d3 := fun w hs => get_yes A l c s a n w hs h1 h2 h3
  rw [← hp] at d3
  have d4 := fun w A' c' (h : Bs w A' l c' x) => set_splice A' l c' x a n (num p) w h h1 h2 h3 (by omega) hpn s (by rw [hbe, hback])
  have D1 := Lib.hid d1
  have D2 := Lib.hid d2
  have D3 := Lib.hid d3
  have D4 := Lib.hid d4
  have Hout := Lib.hid houtside
  have Hx := Lib.hid hx
  have Hxl := Lib.hid hxl
  have Hlen := Lib.hid hlen
  have Hu := Lib.hid hu
  have Hv := Lib.hid hv
  clear d1 d2 d3 d4 houtside hx hxl hlen hu hv hp8 hp hpl hpn hbe hback hnx
  generalize num p = np at *
  go_enter Try.func5, Try.ntmps5
  go_wp2_with fail
  refine (awake_any _).mono ?_
  rintro e w1 ⟨rfl, hb1⟩
  have hs1 := hs.below hb1
  go_wp2_with fail
  refine (D1.out _ hs1).mono ?_
  rintro e w2 ⟨A2, c2, rfl, hown2, hb2⟩
  rw [Hxl.out] at hown2 ⊢
  have hs2 := hs1.below hb2
  have hx2 := hown2.bs
  have hB2 := hb1.trans (hb2.mono hb1.size)
  go_wp2_with fail
  refine (D2.out _ _ _ hx2).mono ?_
  rintro e w3 ⟨rfl, rfl⟩
  go_wp2_with fail
  refine (D3.out _ hs2).mono ?_
  rintro e w3 ⟨rfl, rfl⟩
  go_wp2_with fail
  refine (D4.out _ _ _ hx2).mono ?_
  rintro e w3 ⟨A3, c3, rfl, hown3, hb3⟩
  rw [Hlen.out] at hown3 ⊢
  have hs3 := hs2.below hb3
  have hx3 := hx2.below hb3
  have hB3 := hB2.trans (hb3.mono hB2.size)
  have t1 := str_of hs3
  have t2 := str_of hown3.bs
  have hR : SetRel w A l c s A2 c2 x w3 := ⟨hB3, hs3, hx3⟩
  clear hs1 hs2 hx2 hB2 hb1 hb2 hown2 hb3 hs3 hx3 hB3 hown3 D1 D2 D3 D4
  go_wp2_with fail
  clear t1 t2
  go_loopw [23] (fun i W => ∃ k : Nat, k ≤ l ∧ i = .int .i64 k ∧ SetRel w A l c s A2 c2 x W) (fun i _ => l - (intOf i).toNat)
  case atStart => exact ⟨0, Nat.zero_le _, rfl, hR⟩
  case round =>
    obtain ⟨k, hk, rfl, hR2⟩ := hrel
    clear hR
    by_cases hkl : k < l
    · obtain ⟨bb, bo, rfl, _, hcs⟩ := hR2.2.1.at_ (by omega)
      obtain ⟨xb, xo, rfl, _, hcx⟩ := hR2.2.2.at_ (by omega)
      have hc1 := hcs k hkl
      have hc2 := hcx k hkl
      clear hcs hcx
      by_cases hka : k < a
      · rw [Hout.out k (by omega)] at hc2
        generalize (s.getD k 0).toNat = q at *
        have g1 : decide ((k : Int) < a) = true := by simp; omega
        go_wp2_with fail
        go_quiet (fail)
        go_wp2
        go_roundw
        case rel => exact ⟨k + 1, by omega, by go_num, hR2.drewN _⟩
        case measure => simp [intOf]; omega
      · have g1 : decide ((k : Int) < a) = false := by simp; omega
        have g3 : IntKind.i64.wrap ((k : Int) - a) = (k : Int) - a := IntWalk.i64_in _ (by omega)
        by_cases hkn : a + n ≤ k
        · rw [Hout.out k (by omega)] at hc2
          generalize (s.getD k 0).toNat = q at *
          have g2 : decide ((n : Int) ≤ (k : Int) - a) = true := by simp; omega
          go_wp2_with fail
          go_quiet (fail)
          clear g3
          go_wp2
          go_roundw
          case rel => exact ⟨k + 1, by omega, by go_num, hR2.drewN _⟩
          case measure => simp [intOf]; omega
        · have g2 : decide ((n : Int) ≤ (k : Int) - a) = false := by simp; omega
          go_wp2_with fail
          go_quiet (fail)
          clear g3
          go_wp2
          go_roundw
          case rel => exact ⟨k + 1, by omega, by go_num, hR2.drewN _⟩
          case measure => simp [intOf]; omega
    · obtain ⟨hB4, hs4, hx4⟩ := hR2
      have hsl := Hlen.out
      have hxl := Hxl.out
      have d1 := fun w hs => set_any A l c s b m u w hs hb (by omega) Hu.out
      have d2 := fun w A' c' (h : Bs w A' l c' x) => set_any A' l c' x b m u w h hb (by omega) Hu.out
      rw [hsl] at d1
      rw [hxl] at d2
      by_cases hE : setE l b m u = 0
      · obtain ⟨k1, k2, k3, k4, k5⟩ := setE_zero hE
        obtain ⟨b, rfl⟩ := Int.eq_ofNat_of_zero_le k3
        obtain ⟨m, rfl⟩ := Int.eq_ofNat_of_zero_le (show 0 ≤ m by omega)
        rw [Int.toNat_natCast] at k5
        rw [hE, setB_yes (by rw [hsl]; exact hE)] at d1
        rw [hE, setB_yes (by rw [hxl]; exact hE)] at d2
        have hy : splice x b (be m u) = splice (splice s a (be n v)) b (be m u) := by rw [Hx.out]
        have hyl : (splice x b (be m u)).length = l := by rw [splice_length _ _ _ (by rw [be_length]; omega), hxl]
        have hzl : (splice s b (be m u)).length = l := by rw [splice_length _ _ _ (by rw [be_length]; omega), hsl]
        by_cases hdis : (b : Int) < a + n ∧ (a : Int) < b + m
        · generalize splice x b (be m u) = y at *
          generalize splice s b (be m u) = z at *
          have D1 := Lib.hid d1
          have D2 := Lib.hid d2
          have Hyl := Lib.hid hyl
          have Hzl := Lib.hid hzl
          obtain ⟨g1, g2⟩ := hdis
          clear d1 d2 hy hyl hzl hE hsl hxl k5
          go_wp2_with fail
          refine (D2.out _ _ _ hx4).mono ?_
          rintro e w5 ⟨A5, c5, rfl, hown5, hb5⟩
          have hB5 := hB4.trans (hb5.mono hB4.size)
          go_wp2_with fail
          refine (D1.out _ (hs4.below hb5)).mono ?_
          rintro e w6 ⟨A6, c6, rfl, hown6, hb6⟩
          go_wp2
          go_ret
          exact ⟨rfl, hB5.trans (hb6.mono hB5.size)⟩
        · have hsame : splice (splice s b (be m u)) a (be n v) = splice x b (be m u) := by
            rw [hy]
            exact (splice_comm s (be n v) (be m u) a b (by rw [be_length]; omega) (by rw [be_length]; omega) (by rw [be_length, be_length]; omega)).symm
          have d3 := fun w A' c' (h : Bs w A' l c' (splice s b (be m u))) => set_splice A' l c' (splice s b (be m u)) a n v w h h1 h2 h3 (by omega) Hv.out _ hsame
          generalize splice x b (be m u) = y at *
          generalize splice s b (be m u) = z at *
          have D1 := Lib.hid d1
          have D2 := Lib.hid d2
          have D3 := Lib.hid d3
          have Hyl := Lib.hid hyl
          have Hzl := Lib.hid hzl
          clear d1 d2 d3 hy hyl hzl hE hsl hxl hsame k5
          rcases (show (a : Int) + n ≤ b ∨ ((b : Int) < a + n ∧ (b : Int) + m ≤ a) from by omega) with g1 | ⟨g1, g2⟩
          all_goals
            clear hdis
            go_wp2_with fail
            refine (D2.out _ _ _ hx4).mono ?_
            rintro e w5 ⟨A5, c5, rfl, hown5, hb5⟩
            have hB5 := hB4.trans (hb5.mono hB4.size)
            go_wp2_with fail
            refine (D1.out _ (hs4.below hb5)).mono ?_
            rintro e w6 ⟨A6, c6, rfl, hown6, hb6⟩
            have hB6 := hB5.trans (hb6.mono hB5.size)
            have hz6 := hown6.bs
            rw [Hzl.out] at hz6 ⊢
            have hy5 := (hown5.below hb6).bs
            rw [Hyl.out] at hy5 ⊢
            go_wp2_with fail
            refine (D3.out _ _ _ hz6).mono ?_
            rintro e w7 ⟨A7, c7, rfl, hown7, hb7⟩
            have hy7 := hown7.bs
            rw [Hyl.out] at hy7 ⊢
            have t1 := str_of (hy5.below hb7)
            have t2 := str_of hy7
            go_wp2
            go_ret
            exact ⟨rfl, hB6.trans (hb7.mono hB6.size)⟩
      · have hz : (setE l b m u != 0) = true := by rw [bne_iff_ne]; exact hE
        generalize setB x b m u = y at *
        generalize setB s b m u = z at *
        generalize setE l b m u = q at *
        have D1 := Lib.hid d1
        have D2 := Lib.hid d2
        clear d1 d2 hE hsl hxl
        go_wp2_with fail
        refine (D2.out _ _ _ hx4).mono ?_
        rintro e w5 ⟨A5, c5, rfl, hown5, hb5⟩
        have hB5 := hB4.trans (hb5.mono hB4.size)
        go_wp2_with fail
        refine (D1.out _ (hs4.below hb5)).mono ?_
        rintro e w6 ⟨A6, c6, rfl, hown6, hb6⟩
        go_wp2
        go_ret
        exact ⟨rfl, hB5.trans (hb6.mono hB5.size)⟩

theorem octetSet_all (A : Option Addr) (l c : Nat) (s : List UInt8) (a n b m v u : Int) (w : World) (hs : Bs w A l c s) (ha : (Lit.int .i64 a).wf = true) (hb : (Lit.int .i64 b).wf = true) (hm : (Lit.int .i64 m).wf = true) (hv : (Lit.int .u64 v).wf = true) (hu : (Lit.int .u64 u).wf = true) :
    Calls Try.prog 5 #[.slice A l c, .int .i64 a, .int .i64 n, .int .i64 b, .int .i64 m, .int .u64 v, .int .u64 u] w fun e w' => e = .returned (.bool true) ∧ Below w.heap.size w w' := by
  obtain ⟨v1, v2⟩ := bound_u64 hv
  obtain ⟨u1, u2⟩ := bound_u64 hu
  obtain ⟨v, rfl⟩ := Int.eq_ofNat_of_zero_le v1
  obtain ⟨u, rfl⟩ := Int.eq_ofNat_of_zero_le u1
  have hle := hs.le
  have hcap := hs.cap
  have hlen := hs.len
  by_cases hl : 3000 < l
  · exact octetSet_big A l c a n b m v u w hl (by omega)
  · by_cases h : setE s.length a n v = 0
    · obtain ⟨k1, k2, k3, k4, k5⟩ := setE_zero h
      obtain ⟨a, rfl⟩ := Int.eq_ofNat_of_zero_le k3
      obtain ⟨n, rfl⟩ := Int.eq_ofNat_of_zero_le (show 0 ≤ n by omega)
      exact octetSet_main A l c s a n b m v u w hs (by omega) (by omega) (by omega) (by omega) (by rwa [Int.toNat_natCast] at k5) hb hm (by omega)
    · exact octetSet_none A l c s a n b m v u w hs (by omega) ha (by omega) h

end Go.Proofs.Ythihnfdanjnmcaa

/-
  What the functions of package bits come to: Add, AddRange.
-/
import Derived.Test.YthkngjokbkfebaaBitF
namespace Go.Proofs.Ythkngjokbkfebaa
open Go.RowKit

theorem gives_says {w w' : World} {A : Option Addr} {l c : Nat} {s : List UInt8} {m er : Int} {e : Ending} (hs : Bs w A l c s) (h : Says w (.tuple #[.agg #[.slice A l c, .int .i64 m], .int .i64 er]) e w') : GivesI w s m er e w' := by
  obtain ⟨rfl, hb⟩ := h
  have hl := hs.len
  subst hl
  exact ⟨A, c, rfl, hs.below hb, hb⟩

theorem badd_any (A : Option Addr) (l c : Nat) (s : List UInt8) (m n : Int) (v : Nat) (w : World) (hs : Bs w A l c s) (hl : l ≤ 140737488355328) (hm : m ≤ 9223372036854775807) (hv : v < 18446744073709551616) :
    Calls Try.prog 15 #[.agg #[.slice A l c, .int .i64 m], .int .u64 v, .int .i64 n] w (GivesI w (addB s m v n) (addM s m v n) (addE s m v n)) := by
  by_cases h : inkB s m = true ∧ 0 ≤ n ∧ n ≤ 64
  · obtain ⟨hr, h1, h2⟩ := h
    obtain ⟨n, rfl⟩ := Int.eq_ofNat_of_zero_le h1
    obtain ⟨m, rfl⟩ := Int.eq_ofNat_of_zero_le (inkB_iff.1 hr).1
    have e0 : addE s m v n = if 2 ^ n ≤ v then 6 else 0 := by unfold addE; rw [if_pos ⟨hr, h1, h2⟩, Int.toNat_natCast]
    by_cases h3 : 2 ^ n ≤ v
    · rw [if_pos h3] at e0
      rw [show addB s m v n = s from if_neg (by rw [e0]; decide), show addM s m v n = m from if_neg (by rw [e0]; decide), e0]
      exact (badd_field A l c s m n v w hs hl hm hr (by omega) h3).mono fun _ _ k => gives_says hs k
    · rw [if_neg h3] at e0
      rw [show addB s m v n = addS s m v n by unfold addB; rw [if_pos e0, Int.toNat_natCast, Int.toNat_natCast], show addM s m v n = (m : Int) + n from if_pos e0, e0]
      exact badd_main A l c s m n v w hs hl hr (by omega) (by omega) hv
  · have e0 : addE s m v n = 1 := if_neg h
    rw [show addB s m v n = s from if_neg (by rw [e0]; decide), show addM s m v n = m from if_neg (by rw [e0]; decide), e0]
    exact (badd_arg A l c s m n v w hs hl hm h).mono fun _ _ k => gives_says hs k

set_option maxRecDepth 100000 in
set_option maxHeartbeats 1000000 in
theorem baddr_arg (A : Option Addr) (l c : Nat) (s : List UInt8) (m : Int) (v n : Nat) (w : World) (hs : Bs w A l c s) (hl : l ≤ 140737488355328) (hm : m ≤ 9223372036854775807) (h : ¬ (inkB s m = true ∧ 1 ≤ n ∧ n ≤ 4294967296)) :
    Calls Try.prog 20 #[.agg #[.slice A l c, .int .i64 m], .int .u64 v, .int .u64 n] w (Says w (.tuple #[.agg #[.slice A l c, .int .i64 m], .int .i64 1])) := by
  by_cases hr : inkB s m = true
  · have R := Lib.hid (fun w hs => bright_is A l c s m w hs hl hm true hr)
    have hz := Lib.hid (show decide (1 ≤ n ∧ n ≤ 4294967296) = false by simp only [decide_eq_false_iff_not]; exact fun k => h ⟨hr, k⟩)
    clear h hr hm
    go_enter Try.func20, Try.ntmps20
    go_wp2_with fail
    refine (R.out _ ((hs.alloc _).alloc _)).mono ?_
    rintro e w1 ⟨rfl, hW⟩
    have hB := (below2 w _ _).trans (hW.mono (by simp; omega))
    have k1 := ((Box.new w _ _).alloc _).call hW
    have k2 := (Box.new (w.alloc _) _ _).call hW
    rw [World.size_alloc] at k2
    obtain ⟨c0, c1, f0, f1, l1⟩ := k1.two
    obtain ⟨c2, c3, f2, f3, l2⟩ := k2.two
    clear hW k1 k2
    go_wp2_with fail
    refine (isRange_is _ _ false hz.out).mono ?_
    rintro e w' ⟨rfl, rfl⟩
    go_wp2
    refine bodyPost_ret (v := .tuple #[.agg #[.slice A l c, .int .i64 m], .int .i64 1]) (by simp [results, Try.results20, go_sem, *]) rfl ⟨rfl, ?_⟩
    exact (hB.setCell (by simp) _).setCell (by simp) _
  · have R := Lib.hid (fun w hs => bright_is A l c s m w hs hl hm false (by simpa using hr))
    clear h hr hm
    go_enter Try.func20, Try.ntmps20
    go_wp2_with fail
    refine (R.out _ ((hs.alloc _).alloc _)).mono ?_
    rintro e w1 ⟨rfl, hW⟩
    have hB := (below2 w _ _).trans (hW.mono (by simp; omega))
    have k1 := ((Box.new w _ _).alloc _).call hW
    have k2 := (Box.new (w.alloc _) _ _).call hW
    rw [World.size_alloc] at k2
    obtain ⟨c0, c1, f0, f1, l1⟩ := k1.two
    obtain ⟨c2, c3, f2, f3, l2⟩ := k2.two
    clear hW k1 k2
    go_wp2
    refine bodyPost_ret (v := .tuple #[.agg #[.slice A l c, .int .i64 m], .int .i64 1]) (by simp [results, Try.results20, go_sem, *]) rfl ⟨rfl, ?_⟩
    exact (hB.setCell (by simp) _).setCell (by simp) _

set_option maxRecDepth 100000 in
set_option maxHeartbeats 1000000 in
theorem baddr_field (A : Option Addr) (l c : Nat) (s : List UInt8) (m : Int) (v n : Nat) (w : World) (hs : Bs w A l c s) (hl : l ≤ 140737488355328) (hm : m ≤ 9223372036854775807) (hr : inkB s m = true) (h1 : 1 ≤ n) (h2 : n ≤ 4294967296) (h : n ≤ v) :
    Calls Try.prog 20 #[.agg #[.slice A l c, .int .i64 m], .int .u64 v, .int .u64 n] w (Says w (.tuple #[.agg #[.slice A l c, .int .i64 m], .int .i64 6])) := by
  have R := Lib.hid (fun w hs => bright_is A l c s m w hs hl hm true hr)
  have hz := Lib.hid (show decide (1 ≤ n ∧ n ≤ 4294967296) = true by simp; omega)
  clear hr hm
  go_enter Try.func20, Try.ntmps20
  go_wp2_with fail
  refine (R.out _ ((hs.alloc _).alloc _)).mono ?_
  rintro e w1 ⟨rfl, hW⟩
  have hB := (below2 w _ _).trans (hW.mono (by simp; omega))
  have k1 := ((Box.new w _ _).alloc _).call hW
  have k2 := (Box.new (w.alloc _) _ _).call hW
  rw [World.size_alloc] at k2
  obtain ⟨c0, c1, f0, f1, l1⟩ := k1.two
  obtain ⟨c2, c3, f2, f3, l2⟩ := k2.two
  clear hW k1 k2
  go_wp2_with fail
  refine (isRange_is _ _ true hz.out).mono ?_
  rintro e w' ⟨rfl, rfl⟩
  go_wp2
  refine bodyPost_ret (v := .tuple #[.agg #[.slice A l c, .int .i64 m], .int .i64 6]) (by simp [results, Try.results20, go_sem, *]) rfl ⟨rfl, ?_⟩
  exact (hB.setCell (by simp) _).setCell (by simp) _

set_option maxRecDepth 100000 in
set_option maxHeartbeats 1000000 in
theorem baddr_main (A : Option Addr) (l c : Nat) (s : List UInt8) (m v n : Nat) (w : World) (hs : Bs w A l c s) (hl : l ≤ 140737488355328) (hr : inkB s m = true) (h1 : 1 ≤ n) (h2 : n ≤ 4294967296) (h : v < n) :
    Calls Try.prog 20 #[.agg #[.slice A l c, .int .i64 m], .int .u64 v, .int .u64 n] w (GivesI w (addS s m (rngV v n) (rngN v n)) ((m : Int) + rngN v n) 0) := by
  have hlen := hs.len
  have hm8 : m ≤ 8 * l := by have := (inkB_iff.1 hr).2.1; rw [Int.toNat_natCast] at this; omega
  have R := Lib.hid (fun w hs => bright_is A l c s m w hs hl (by omega) true hr)
  have hz := Lib.hid (show decide (1 ≤ n ∧ n ≤ 4294967296) = true by simp; omega)
  have W := Lib.hid (fun w => widths_any n w h1 h2)
  have hfit := rngV_lt h1 h
  have g1 := wd_pos n
  have g2 := wd_le h1 h2
  have hml := md_le h1
  have hG := fun w hs => badd_main A l c s m (rngN v n) (rngV v n) w hs hl hr (by unfold rngN; split <;> omega) hfit (by unfold rngV; split <;> omega)
  have hN : rngN v n = if v < md n then wd n - 1 else wd n := rfl
  have hV : rngV v n = if v < md n then v else v + md n := rfl
  have hqn : md n ≤ n := hml.2.1
  clear hfit
  have hrl : (addS s m (rngV v n) (rngN v n)).length = (m + rngN v n + 7) / 8 := addS_length _ _ _ _
  generalize addS s m (rngV v n) (rngN v n) = r at *
  generalize rngV v n = rv at *
  generalize rngN v n = rn at *
  generalize md n = q at *
  generalize wd n = d at *
  obtain ⟨k, rfl⟩ : ∃ k, d = k + 1 := ⟨d - 1, by omega⟩
  by_cases hvq : v < q
  · rw [if_pos hvq] at hN hV
    rw [Nat.add_sub_cancel] at hN
    subst hN hV
    have G := Lib.hid hG
    clear hG
    clear hm8 hlen hml hrl
    go_enter Try.func20, Try.ntmps20
    go_wp2_with fail
    refine (R.out _ ((hs.alloc _).alloc _)).mono ?_
    rintro e w1 ⟨rfl, hW⟩
    have hB := (below2 w _ _).trans (hW.mono (by simp; omega))
    have k1 := ((Box.new w _ _).alloc _).call hW
    have k2 := (Box.new (w.alloc _) _ _).call hW
    rw [World.size_alloc] at k2
    obtain ⟨c0, c1, f0, f1, l1⟩ := k1.two
    obtain ⟨c2, c3, f2, f3, l2⟩ := k2.two
    clear hW
    go_wp2_with fail
    refine (isRange_is _ _ true hz.out).mono ?_
    rintro e w' ⟨rfl, rfl⟩
    go_wp2_with fail
    refine (W.out _).mono ?_
    rintro e w2 ⟨rfl, hb⟩
    replace k1 := k1.call hb
    replace k2 := k2.call hb
    replace hB := hB.trans (hb.mono hB.size)
    clear hb c0 c1 f0 f1 l1 c2 c3 f2 f3 l2
    obtain ⟨c0, c1, f0, f1, l1⟩ := k1.two
    obtain ⟨c2, c3, f2, f3, l2⟩ := k2.two
    go_wp2_with fail
    refine (G.out _ (hs.below hB)).mono ?_
    rintro e w3 ⟨A3, c4, rfl, hbs, hb⟩
    replace k1 := k1.call hb
    replace k2 := k2.call hb
    replace hB := hB.trans (hb.mono hB.size)
    clear hb c0 c1 f0 f1 l1 c2 c3 f2 f3 l2
    obtain ⟨c0, c1, f0, f1, l1⟩ := k1.two
    obtain ⟨c2, c3, f2, f3, l2⟩ := k2.two
    generalize hrl : r.length = rl at *
    go_wp2
    refine bodyPost_ret (v := .tuple #[.agg #[.slice A3 rl c4, .int .i64 ((m : Int) + rn)], .int .i64 0]) (by simp [results, Try.results20, go_sem, *]) rfl ⟨A3, c4, by rw [hrl], by rw [hrl]; exact hbs.box2 k2 _ _, (hB.setCell (by simp) _).setCell (by simp) _⟩
  · rw [if_neg hvq] at hN hV
    subst hN hV
    simp only [Int.natCast_add, show ((1 : Nat) : Int) = 1 from rfl] at hG ⊢
    have G := Lib.hid hG
    clear hG
    clear hm8 hlen hml hrl
    go_enter Try.func20, Try.ntmps20
    go_wp2_with fail
    refine (R.out _ ((hs.alloc _).alloc _)).mono ?_
    rintro e w1 ⟨rfl, hW⟩
    have hB := (below2 w _ _).trans (hW.mono (by simp; omega))
    have k1 := ((Box.new w _ _).alloc _).call hW
    have k2 := (Box.new (w.alloc _) _ _).call hW
    rw [World.size_alloc] at k2
    obtain ⟨c0, c1, f0, f1, l1⟩ := k1.two
    obtain ⟨c2, c3, f2, f3, l2⟩ := k2.two
    clear hW
    go_wp2_with fail
    refine (isRange_is _ _ true hz.out).mono ?_
    rintro e w' ⟨rfl, rfl⟩
    go_wp2_with fail
    refine (W.out _).mono ?_
    rintro e w2 ⟨rfl, hb⟩
    replace k1 := k1.call hb
    replace k2 := k2.call hb
    replace hB := hB.trans (hb.mono hB.size)
    clear hb c0 c1 f0 f1 l1 c2 c3 f2 f3 l2
    obtain ⟨c0, c1, f0, f1, l1⟩ := k1.two
    obtain ⟨c2, c3, f2, f3, l2⟩ := k2.two
    go_wp2_with fail
    refine (G.out _ (hs.below hB)).mono ?_
    rintro e w3 ⟨A3, c4, rfl, hbs, hb⟩
    replace k1 := k1.call hb
    replace k2 := k2.call hb
    replace hB := hB.trans (hb.mono hB.size)
    clear hb c0 c1 f0 f1 l1 c2 c3 f2 f3 l2
    obtain ⟨c0, c1, f0, f1, l1⟩ := k1.two
    obtain ⟨c2, c3, f2, f3, l2⟩ := k2.two
    generalize hrl : r.length = rl at *
    go_wp2
    refine bodyPost_ret (v := .tuple #[.agg #[.slice A3 rl c4, .int .i64 ((m : Int) + ((k : Int) + 1))], .int .i64 0]) (by simp [results, Try.results20, go_sem, *]) rfl ⟨A3, c4, by rw [hrl], by rw [hrl]; exact hbs.box2 k2 _ _, (hB.setCell (by simp) _).setCell (by simp) _⟩

theorem baddr_any (A : Option Addr) (l c : Nat) (s : List UInt8) (m : Int) (v n : Nat) (w : World) (hs : Bs w A l c s) (hl : l ≤ 140737488355328) (hm : m ≤ 9223372036854775807) :
    Calls Try.prog 20 #[.agg #[.slice A l c, .int .i64 m], .int .u64 v, .int .u64 n] w (GivesI w (addrB s m v n) (addrM s m v n) (addrE s m v n)) := by
  by_cases h : inkB s m = true ∧ 1 ≤ n ∧ n ≤ 4294967296
  · obtain ⟨hr, h1, h2⟩ := h
    obtain ⟨m, rfl⟩ := Int.eq_ofNat_of_zero_le (inkB_iff.1 hr).1
    have e0 : addrE s m v n = if n ≤ v then 6 else 0 := by unfold addrE; rw [if_pos ⟨hr, h1, h2⟩]
    by_cases h3 : n ≤ v
    · rw [if_pos h3] at e0
      rw [show addrB s m v n = s from if_neg (by rw [e0]; decide), show addrM s m v n = m from if_neg (by rw [e0]; decide), e0]
      exact (baddr_field A l c s m v n w hs hl hm hr h1 h2 h3).mono fun _ _ k => gives_says hs k
    · rw [if_neg h3] at e0
      rw [show addrB s m v n = addS s m (rngV v n) (rngN v n) by unfold addrB; rw [if_pos e0, Int.toNat_natCast], show addrM s m v n = (m : Int) + rngN v n from if_pos e0, e0]
      exact baddr_main A l c s m v n w hs hl hr h1 h2 (by omega)
  · have e0 : addrE s m v n = 1 := if_neg h
    rw [show addrB s m v n = s from if_neg (by rw [e0]; decide), show addrM s m v n = m from if_neg (by rw [e0]; decide), e0]
    exact (baddr_arg A l c s m v n w hs hl hm h).mono fun _ _ k => gives_says hs k

end Go.Proofs.Ythkngjokbkfebaa
